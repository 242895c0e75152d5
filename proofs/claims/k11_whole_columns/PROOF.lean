import PyProof.Rows.All
import Wide.All
import OpenK.AllK
import Wide.FinOn
import Lean
import PyProof.EqAt
import PyProof.EqKinds
import PyProof.TupleCall
import PySem.Challenge.RW_daysheet_k11_whole_columns
set_option Elab.async false
set_option linter.all false
set_option maxRecDepth 100000
set_option maxHeartbeats 4000000
namespace L2
open PySem PySem.Spec PyProof.Rows
abbrev Key:=Sum Int Str
def keyIs:Key→Value→Bool
 | .inl k,v=>Value.isInt k v
 | .inr x,v=>Value.isStrOf x v
def keyH (w:World):Key→Int
 | .inl k=>hashInt k
 | .inr x=>hashStr w x
theorem bQ:∀ {k:Key} {v:Value},keyIs k v=true→(∃ i t,k=Sum.inl i∧v=Value.int i t)∨(∃ x t,k=Sum.inr x∧v=Value.str x t)
 | .inl i,v,h=>by
  obtain ⟨t,e⟩:=Value.isInt_shape (k:=i) (v:=v) h
  exact .inl ⟨i,t,rfl,e⟩
 | .inr x,v,h=>by
  obtain ⟨t,e⟩:=Value.isStrOf_shape (x:=x) (v:=v) h
  exact .inr ⟨x,t,rfl,e⟩
theorem keyIs_int (i:Int) (t:Tok):keyIs (.inl i) (.int i t)=true:=by simp [keyIs,Value.isInt]
theorem keyIs_str (x:Str) (t:Tok):keyIs (.inr x) (.str x t)=true:=by simp [keyIs,Value.isStrOf]
theorem key_ll (a b:Int):decide ((Sum.inl a:Key)=Sum.inl b)=(a==b):=by
 by_cases e:a=b
 ·subst e;simp
 ·have h:¬(Sum.inl a:Key)=Sum.inl b:=fun q=>e (Sum.inl.inj q)
  rw [decide_eq_false h]
  exact (beq_eq_false_iff_ne.mpr e).symm
theorem key_rr (a b:Str):decide ((Sum.inr a:Key)=Sum.inr b)=decide (a=b):=by
 by_cases e:a=b
 ·subst e;simp
 ·have h:¬(Sum.inr a:Key)=Sum.inr b:=fun q=>e (Sum.inr.inj q)
  rw [decide_eq_false h,decide_eq_false e]
theorem key_lr (a:Int) (b:Str):decide ((Sum.inl a:Key)=Sum.inr b)=false:=decide_eq_false (fun q=>nomatch q)
theorem key_rl (a:Str) (b:Int):decide ((Sum.inr a:Key)=Sum.inl b)=false:=decide_eq_false (fun q=>nomatch q)
def aP (prog:Program) (w:World):PySem.KeyKind prog w Key where
 is:=keyIs
 hash:=keyH w
 inj:=fun v a b ha hb=>by
  rcases bQ ha with ⟨i,t,rfl,rfl⟩ | ⟨x,t,rfl,rfl⟩
  ·rcases bQ hb with ⟨j,u,rfl,e⟩ | ⟨y,u,rfl,e⟩
   ·injection e with e1 _;rw [e1]
   ·exact nomatch e
  ·rcases bQ hb with ⟨j,u,rfl,e⟩ | ⟨y,u,rfl,e⟩
   ·exact nomatch e
   ·injection e with e1 _;rw [e1]
 byValue:=fun k v h=>by
  rcases bQ h with ⟨i,t,rfl,rfl⟩ | ⟨x,t,rfl,rfl⟩<;>rfl
 pyHash:=fun hv h=>by
  rcases bQ hv with ⟨i,t,rfl,rfl⟩ | ⟨x,t,rfl,rfl⟩
  ·exact wpAny_pyHash_int h
  ·exact wpAny_pyHash_str h
 eqBool:=fun hu hv h=>by
  rcases bQ hu with ⟨i,t,rfl,rfl⟩ | ⟨x,t,rfl,rfl⟩
  ·rcases bQ hv with ⟨j,u,rfl,rfl⟩ | ⟨y,u,rfl,rfl⟩
   ·rw [key_ll] at h;exact wpAny_eqBool_int h
   ·rw [key_lr] at h;exact SeqAt.EqAt.int_str i t y u _ _ _ _ h
  ·rcases bQ hv with ⟨j,u,rfl,rfl⟩ | ⟨y,u,rfl,rfl⟩
   ·rw [key_rl] at h;exact SeqAt.EqAt.str_int x t j u _ _ _ _ h
   ·rw [key_rr] at h;exact wpAny_eqBool_str h
 «strs»:=fun k x t v h=>by
  rcases bQ h with ⟨i,u,rfl,e⟩ | ⟨y,u,rfl,e⟩
  ·exact nomatch e
  ·injection e with e1 _
   subst e1
   cases v<;>rfl
theorem mixKind_is (prog:Program) (w:World) (k:Key) (v:Value):(aP prog w).is k v=keyIs k v:=rfl
theorem mixKind_int (prog:Program) (w:World) (i:Int) (t:Tok):(aP prog w).is (.inl i) (.int i t)=true:=keyIs_int i t
theorem jE (prog:Program) (w:World) (x:Str) (t:Tok):(aP prog w).is (.inr x) (.str x t)=true:=keyIs_str x t
inductive V where
 | non | bl (b:Bool) | int (i:Int) | str (x:Str) | byt (b:Array UInt8) | flt (b:UInt64) | ref (a:Addr) | ty (n:String)
 deriving DecidableEq
def RelV:V→Value→Prop
 | .non,u=>u=Value.none
 | .bl b,u=>u=Value.bool b
 | .int i,u=>∃ t,u=Value.int i t
 | .str x,u=>∃ t,u=Value.str x t
 | .byt b,u=>∃ t,u=Value.bytes b t
 | .flt b,u=>∃ t,u=Value.float b t
 | .ref a,u=>u=Value.ref a
 | .ty n,u=>u=Value.type n
abbrev aV:List V→List Value→Prop:=Paired RelV
theorem aV.length {xs:List V} {us:List Value} (r:aV xs us):xs.length=us.length:=Paired.length r
theorem aV.get:∀ {xs:List V} {us:List Value} {i:Nat} {x:V},aV xs us→xs[i]?=some x→∃ u,us[i]?=some u∧RelV x u
 | _,_,_,_,.nil,e=>by simp at e
 | _,_,0,_,.cons r _,e=>by simp at e;subst e;exact ⟨_,rfl,r⟩
 | _,_,i+1,x,.cons _ t,e=>by
  obtain ⟨u,h1,h2⟩:=aV.get (i:=i) (x:=x) t (by simpa using e)
  exact ⟨u,by simpa using h1,h2⟩
theorem aV.append:∀ {xs ys:List V} {us ws:List Value},aV xs us→aV ys ws→aV (xs++ys) (us++ws)
 | _,_,_,_,.nil,s=>s
 | _,_,_,_,.cons r t,s=>.cons r (aV.append t s)
def RelO:Option V→Option Value→Prop
 | some v,some u=>RelV v u
 | none,none=>True
 | _,_=>False
def KV {κ:Type}:List (κ×V)→List (κ×Value)→Prop:=Paired fun (p:κ×V) (q:κ×Value)=>p.1=q.1∧RelV p.2 q.2
def kV:Key→V
 | .inl i=>.int i
 | .inr x=>.str x
inductive HO where
 | lst (xs:List V)
 | tup (xs:List V)
 | dK (kvs:List (Key×V)) | dT (kvs:List (List Key×V))
 | set (S:Int→Bool) (n:Nat)
 | ins (C dx:Addr) (fs:List (Str×V))
 | own (x:Addr)
 | xd (fs:List (Str×V))
 | met (f x:Addr)
 | rng (lo hi:Int)
 | frz (o:Obj) (u:HO)
 | tbl (ps:Str×Array Value)
 | ext (φ:Heap→Prop)
abbrev Hp:=Addr→Option HO
def upd (H:Hp) (a:Addr) (o:HO):Hp:=fun b=>if b=a then some o else H b
theorem aG {H:Hp} {a:Addr} {o:HO}:upd H a o a=some o:=by unfold upd;rw [if_pos rfl]
theorem aE {H:Hp} {a b:Addr} {o:HO} (h:b≠a):upd H a o b=H b:=by unfold upd;rw [if_neg h]
theorem dG {H:Hp} {a b:Addr} {o u:HO} (h:H a=some o) (h':H b=some u) (d:o≠u):a≠b:=by
 intro e;subst e;rw [h] at h';exact d (Option.some.inj h')
theorem aN {H:Hp} {a b:Addr} {o:HO} (h:H a=some o) (h':H b=none):a≠b:=by
 intro e;subst e;rw [h] at h';cases h'
section
variable (P:Program) (w:World)
def bV (H:Hp) (h:Heap) (a:Addr):HO→Prop
 | .lst xs=>xs.length≤sizeLine∧∃ (its:List Value) (n:Nat),aV xs its∧h.get? a=some { cls:=.type "list", data:=.seq its.toArray n }
 | .tup xs=>xs.length≤sizeLine∧∃ its:List Value,aV xs its∧IsTup h a its.toArray
 | .dK kvs=>kvs.length≤sizeLine∧(a==sysModules)=false∧∃ vs,KV kvs vs∧h.DictOf (aP P w) a vs
 | .dT kvs=>kvs.length≤sizeLine∧(a==sysModules)=false∧∃ xs:List (List Key×Addr×Value),
   Paired (fun (p:List Key×V) (q:List Key×Addr×Value)=>p.1=q.1∧H q.2.1=some (.tup (p.1.map kV))∧RelV p.2 q.2.2) kvs xs ∧
   ∃ o es ep,h.get? a=some o∧o.ExactDict∧o.data=.dict es ep∧es.toList=xs.map (entryOfKey (tupleKind (aP P w)))∧(xs.map (·.1)).Nodup
 | .set S n=>h.SetOf (intKind P w) a S n
 | .ins C dx fs=>H dx=some (.own a)∧fs.length≤1000∧dx≠a∧h.get? a=some (PySem.W.instObj C dx) ∧
   ∃ mA,h.Ns1 dx mA∧(∀ f,RelO (fs.lookup f) (mA f))∧PySem.Within mA (fs.map (·.1))
 | .own _=>∃ o,h.get? a=some o
 | .xd fs=>∃ mA,h.Ns1 a mA∧∀ f,RelO (fs.lookup f) (mA f)
 | .rng lo hi=>∃ t u v,h.get? a=some { cls:=.type "range", data:=.fields #[.int lo t,.int hi u,.int 1 v] }
 | .frz o u=>h.get? a=some o∧bV H h a u
 | .tbl ps=>h.get? a=some { cls:=.none,data:=.fields ps.2 }
 | .met f x=>h.get? a=some (PySem.W.methodObj (.ref f) (.ref x))
 | .ext φ=>φ h∧(∃ o,h.get? a=some o)∧∀ h1 h2:Heap,φ h1→(∀ o,h1.get? a=some o→h2.get? a=some o)→φ h2
def HOk (H:Hp) (h:Heap):Prop:=∀ a o,H a=some o→bV P w H h a o
end
section
variable {P:Program} {w:World} {H H':Hp} {h h':Heap} {a:Addr} {o:HO}
theorem bV.lt (x:bV P w H h a o):a<h.objs.size:=by
 cases o with
 | lst xs=>obtain ⟨_,_,_,_,e⟩:=x;exact Heap.lt_size e
 | tup xs=>obtain ⟨_,_,_,p⟩:=x;exact p.lt
 | dK kvs=>obtain ⟨_,_,_,_,o,_,_,e,_⟩:=x;exact Heap.lt_size e
 | dT kvs=>obtain ⟨_,_,_,_,o,_,_,e,_⟩:=x;exact Heap.lt_size e
 | set S n=>obtain ⟨o,_,_,_,e,_⟩:=x;exact Heap.lt_size e
 | ins C dx fs=>obtain ⟨_,_,_,e,_⟩:=x;exact Heap.lt_size e
 | own y=>obtain ⟨_,e⟩:=x;exact Heap.lt_size e
 | xd fs=>obtain ⟨_,⟨_,_,_,e,_⟩,_⟩:=x;exact Heap.lt_size e
 | rng lo hi=>obtain ⟨_,_,_,e⟩:=x;exact Heap.lt_size e
 | frz ob u=>obtain ⟨e,_⟩:=x;exact Heap.lt_size e
 | tbl ps=>exact Heap.lt_size (show h.get? a=some _ from x)
 | met f y=>exact Heap.lt_size (show h.get? a=some _ from x)
 | ext φ=>obtain ⟨_,⟨_,e⟩,_⟩:=x;exact Heap.lt_size e
theorem Paired.mapP {α β:Type} {F G:α→β→Prop}:∀ {l₁:List α} {l₂:List β},Paired F l₁ l₂→(∀ a b,F a b→G a b)→Paired G l₁ l₂
 | _,_,.nil,_=>.nil
 | _,_,.cons r t,f=>.cons (f _ _ r) (Paired.mapP t f)
theorem bV.stay (x:bV P w H h a o) (k:∀ b u,(b=a∨H b=some (.own a))→h.get? b=some u→h'.get? b=some u)
  (ho:∀ b,H b=some (.own a)→H' b=some (.own a)) (ht:∀ b xs,H b=some (.tup xs)→H' b=some (.tup xs)):bV P w H' h' a o:=by
 induction o with
 | lst xs=>obtain ⟨z,its,n,r,e⟩:=x;exact ⟨z,its,n,r,k _ _ (.inl rfl) e⟩
 | tup xs=>obtain ⟨z,its,r,ob,e,c⟩:=x;exact ⟨z,its,r,ob,k _ _ (.inl rfl) e,c⟩
 | dK kvs=>obtain ⟨z,y,vs,r,ob,es,ep,e,c⟩:=x;exact ⟨z,y,vs,r,ob,es,ep,k _ _ (.inl rfl) e,c⟩
 | dT kvs=>
  obtain ⟨z,y,xs,r,ob,es,ep,e,c⟩:=x
  exact ⟨z,y,xs,Paired.mapP r fun p q z=>⟨z.1,ht _ _ z.2.1,z.2.2⟩,ob,es,ep,k _ _ (.inl rfl) e,c⟩
 | set S n=>obtain ⟨ob,es,ep,t,e,c⟩:=x;exact ⟨ob,es,ep,t,k _ _ (.inl rfl) e,c⟩
 | ins C dx fs=>
  obtain ⟨d,z,ne,e,mA,⟨od,es,ep,e2,c⟩,r⟩:=x
  exact ⟨ho _ d,z,ne,k _ _ (.inl rfl) e,mA,⟨od,es,ep,k _ _ (.inr d) e2,c⟩,r⟩
 | own y=>obtain ⟨ob,e⟩:=x;exact ⟨ob,k _ _ (.inl rfl) e⟩
 | xd fs=>obtain ⟨mA,⟨od,es,ep,e,c⟩,r⟩:=x;exact ⟨mA,⟨od,es,ep,k _ _ (.inl rfl) e,c⟩,r⟩
 | rng lo hi=>obtain ⟨t,u,v,e⟩:=x;exact ⟨t,u,v,k _ _ (.inl rfl) e⟩
 | frz ob u ih=>obtain ⟨e,q⟩:=x;exact ⟨k _ _ (.inl rfl) e,ih q⟩
 | tbl ps=>
  have e:h.get? a=some { cls:=.none,data:=.fields ps.2 }:=x
  show h'.get? a=some { cls:=.none,data:=.fields ps.2 }
  exact k a _ (.inl rfl) e
 | met f y=>
  have e:h.get? a=some (PySem.W.methodObj (.ref f) (.ref y)):=x
  show h'.get? a=some (PySem.W.methodObj (.ref f) (.ref y))
  exact k a _ (.inl rfl) e
 | ext φ=>obtain ⟨p,⟨o,e⟩,st⟩:=x;exact ⟨st _ _ p fun o q=>k _ _ (.inl rfl) q,⟨o,k _ _ (.inl rfl) e⟩,st⟩
theorem HOk.lt (x:HOk P w H h) (e:H a=some o):a<h.objs.size:=(x a o e).lt
theorem HOk.fresh (x:HOk P w H h) (e:h.objs.size≤a):H a=none:=by
 cases q:H a with
 | none=>rfl
 | some u=>exact absurd (Nat.lt_of_lt_of_le (x.lt q) e) (Nat.lt_irrefl _)
theorem HOk.kept (x:HOk P w H h) (k:∀ b u,h.get? b=some u→h'.get? b=some u):HOk P w H h':=fun a o e=>
 (x a o e).stay (fun b u _ q=>k b u q) (fun _ q=>q) fun _ _ q=>q
theorem HOk.laid (x:HOk P w H h) (k:∀ b u,h.get? b=some u→h'.get? b=some u) (hp:h.objs.size≤a) (new:bV P w (upd H a o) h' a o):HOk P w (upd H a o) h':=fun b u e=>by
 have hn:=x.fresh hp
 by_cases hb:b=a
 ·subst hb;rw [aG] at e;cases e;exact new
 ·rw [aE hb] at e
  exact (x b u e).stay (fun c v _ q=>k c v q) (fun c q=>by rw [aE (aN q hn)];exact q) fun c xs q=>by rw [aE (aN q hn)];exact q
end
def Rd (H:Hp) (a:Addr) (u:HO):Prop:=H a=some u∨∃ o,H a=some (.frz o u)
theorem Rd.ok {P:Program} {w:World} {H:Hp} {h:Heap} {a:Addr} {u:HO} (r:Rd H a u) (x:HOk P w H h):bV P w H h a u:=by
 rcases r with r | ⟨o,r⟩
 ·exact x a u r
 ·obtain ⟨_,q⟩:=x a _ r
  exact q
def Mut:Option HO→Prop
 | some (.lst _)=>True
 | some (.dK _)=>True
 | some (.dT _)=>True
 | some (.set _ _)=>True
 | some (.ins _ _ _)=>True
 | some (.ext _)=>True
 | _=>False
section
variable {P:Program} {w:World} {H:Hp} {h h':Heap} {x e:Addr} {o':HO}
theorem HOk.write (ok:HOk P w H h) (mu:Mut (H x)) (he:e=x∨H e=some (.own x)) (k:∀ b u,b≠e→h.get? b=some u→h'.get? b=some u) (heo:∃ u,h'.get? e=some u)
  (new:bV P w (upd H x o') h' x o'):HOk P w (upd H x o') h':=fun b u q=>by
 have nown:∀ c y,H c=some (.own y)→c≠x:=fun c y r z=>by subst z;rw [r] at mu;exact mu
 have ntup:∀ c xs,H c=some (.tup xs)→c≠x:=fun c xs r z=>by subst z;rw [r] at mu;exact mu
 by_cases hb:b=x
 ·subst hb;rw [aG] at q;cases q;exact new
 ·rw [aE hb] at q
  by_cases hbe:b=e
  ·have q':H b=some (.own x):=by
    rcases he with z | z
    ·exact absurd (hbe.trans z) hb
    ·rw [hbe];exact z
   rw [q] at q';cases q'
   obtain ⟨v,hv⟩:=heo
   exact ⟨v,by rw [hbe];exact hv⟩
  ·refine (ok b u q).stay (fun c v hc r=>k c v ?_ r) (fun c r=>by rw [aE (nown c b r)];exact r) fun c xs r=>by rw [aE (ntup c xs r)];exact r
   rcases hc with rfl | hc
   ·exact hbe
   ·rintro rfl
    rcases he with z | z
    ·exact nown c b hc z
    ·rw [hc] at z;cases z;exact hb rfl
end
structure Un (fs ex:List Addr) (H H':Hp) (h h':Heap):Prop where
 keep:∀ b o,h.get? b=some o→H b=none→b∉fs→b∉ex→h'.get? b=some o
 slot:∀ b o,h.get? b=some o→H b=none→b∈fs→b∉ex→∃ sl,h'.get? b=some { o with slots:=sl }
 free:∀ b o,h.get? b=some o→H b=none→b∉ex→H' b=none
 there:∀ b o,h.get? b=some o→b∉ex→∃ o',h'.get? b=some o'
 tups:∀ b xs,H b=some (.tup xs)→H' b=some (.tup xs)
 frzs:∀ b o u,H b=some (.frz o u)→H' b=some (.frz o u)
 tbls:∀ b ps,H b=some (.tbl ps)→∃ more,H' b=some (.tbl (ps.1,ps.2++more))
section
variable {fs fs' ex ex':List Addr} {H H1 H2:Hp} {h h1 h2 h':Heap} {a x e:Addr} {o:HO}
theorem Un.any (u:Un fs ex H H1 h h1) {b:Addr} {ob:Obj} (q:h.get? b=some ob) (n:H b=none) (hx:b∉ex):∃ sl,h1.get? b=some { ob with slots:=sl }:=by
 by_cases hb:b∈fs
 ·exact u.slot b ob q n hb hx
 ·exact ⟨ob.slots,u.keep b ob q n hb hx⟩
theorem Un.trans (a:Un fs ex H H1 h h1) (b:Un fs ex H1 H2 h1 h2):Un fs ex H H2 h h2 where
 keep:=fun c ob q n hc hx=>b.keep c ob (a.keep c ob q n hc hx) (a.free c ob q n hx) hc hx
 slot:=fun c ob q n hc hx=>by
  obtain ⟨sl,e1⟩:=a.slot c ob q n hc hx
  obtain ⟨sl',e2⟩:=b.slot c _ e1 (a.free c ob q n hx) hc hx
  exact ⟨sl',e2⟩
 free:=fun c ob q n hx=>by
  obtain ⟨o',e1⟩:=a.there c ob q hx
  exact b.free c o' e1 (a.free c ob q n hx) hx
 there:=fun c ob q hx=>by
  obtain ⟨o',e1⟩:=a.there c ob q hx
  exact b.there c o' e1 hx
 tups:=fun c xs q=>b.tups c xs (a.tups c xs q)
 frzs:=fun c ob xs q=>b.frzs c ob xs (a.frzs c ob xs q)
 tbls:=fun c ps q=>by
  obtain ⟨m1,e1⟩:=a.tbls c ps q
  obtain ⟨m2,e2⟩:=b.tbls c _ e1
  exact ⟨m1++m2,by rw [e2];simp [Array.append_assoc]⟩
theorem Un.kept (k:∀ b u,h.get? b=some u→h'.get? b=some u):Un fs ex H H h h':=
 ⟨fun b ob q _ _ _=>k b ob q,fun b ob q _ _ _=>⟨ob.slots,k b ob q⟩,fun _ _ _ n _=>n,fun b ob q _=>⟨ob,k b ob q⟩,fun _ _ q=>q,fun _ _ _ q=>q,fun _ ps q=>⟨#[],by rw [q];simp⟩⟩
theorem Un.refl:Un fs ex H H h h:=Un.kept fun _ _ q=>q
theorem Un.laid (k:∀ b u,h.get? b=some u→h'.get? b=some u) (hp:h.objs.size≤a) (hn:H a=none):Un fs ex H (upd H a o) h h' where
 keep:=fun b u q _ _ _=>k b u q
 slot:=fun b u q _ _ _=>⟨u.slots,k b u q⟩
 free:=fun b u q n _=>by rw [aE (Nat.ne_of_lt (Nat.lt_of_lt_of_le (Heap.lt_size q) hp))];exact n
 there:=fun b u q _=>⟨u,k b u q⟩
 tups:=fun b xs q=>by rw [aE (aN q hn)];exact q
 frzs:=fun b u xs q=>by rw [aE (aN q hn)];exact q
 tbls:=fun b ps q=>⟨#[],by rw [aE (aN q hn),q];simp⟩
theorem Un.write (mu:Mut (H x)) (he:e=x∨H e=some (.own x)) (k:∀ b u,b≠e→h.get? b=some u→h'.get? b=some u) (heo:∃ u,h'.get? e=some u):Un fs ex H (upd H x o) h h':=by
 have hx:∀ b,H b=none→b≠x:=fun b n z=>by subst z;rw [n] at mu;exact mu
 have hb:∀ b,H b=none→b≠e:=fun b n z=>by
  subst z
  rcases he with r | r
  ·exact hx b n r
  ·rw [n] at r;cases r
 have hm:∀ b u,H b=some u→¬Mut (some u)→b≠x:=fun b u q nm z=>by subst z;rw [q] at mu;exact nm mu
 refine ⟨fun b u q n _ _=>k b u (hb b n) q,fun b u q n _ _=>⟨u.slots,k b u (hb b n) q⟩,fun b u q n _=>by rw [aE (hx b n)];exact n,fun b u q _=>?_,
  fun b xs q=>by rw [aE (hm b _ q fun z=>z)];exact q,fun b u xs q=>by rw [aE (hm b _ q fun z=>z)];exact q,fun b ps q=>⟨#[],by rw [aE (hm b _ q fun z=>z),q];simp⟩⟩
 by_cases hbe:b=e
 ·subst hbe;exact heo
 ·exact ⟨u,k b u hbe q⟩
theorem Un.mono (u:Un fs ex H H1 h h1) (hs:∀ b∈fs,b∈fs') (hx:∀ b∈ex,b∈ex'):Un fs' ex' H H1 h h1:=
 ⟨fun b ob q n hb he=>u.keep b ob q n (fun z=>hb (hs b z)) fun z=>he (hx b z),fun _ _ q n _ he=>u.any q n fun z=>he (hx _ z),fun b ob q n he=>u.free b ob q n fun z=>he (hx b z),fun b ob q he=>u.there b ob q fun z=>he (hx b z),u.tups,u.frzs,u.tbls⟩
end
def trk (h:Heap) (H:Hp):List Addr:=(List.range h.objs.size).filter fun a=>(H a).isSome
def hidT (h:Heap) (H:Hp):Heap:=PySem.W.hideAll h (trk h H)
theorem hidT_size (h:Heap) (H:Hp):(hidT h H).objs.size=h.objs.size:=PySem.W.hideAll_size _ _
theorem hidT_get {h:Heap} {H:Hp} {b:Addr} {o:Obj} (e:h.get? b=some o) (n:H b=none):(hidT h H).get? b=some o:=
 PySem.W.hideAll_get _ e fun hm=>by
  have q:(H b).isSome=true:=(List.mem_filter.mp hm).2
  rw [n] at q;simp at q
theorem of_hidT {h:Heap} {H:Hp} {b:Addr} {o:Obj} (e:(hidT h H).get? b=some o):h.get? b=some o∧H b=none:=by
 have e':h.get? b=some o:=PySem.W.of_hideAll (trk h H) e
 refine ⟨e',?_⟩
 cases q:H b with
 | none=>rfl
 | some x=>
  have hm:b∈trk h H:=List.mem_filter.mpr ⟨List.mem_range.mpr (Heap.lt_size e'),by simp [q]⟩
  have z:(hidT h H).get? b=none:=PySem.W.hideAll_none (trk h H) hm
  rw [z] at e;cases e
def allNews (g h:Heap) (L:Addr):List (Addr×Obj):=(List.range h.objs.size).filterMap fun a=>if a=L∨(g.get? a).isSome=true then none else (h.get? a).map fun o=>(a,o)
def rest (g h:Heap) (L d:Addr):List (Addr×Obj):=(allNews g h L).filter fun p=>decide (p.1≠d)
structure Mod (K:PySem.W.Frag) (mg:Str→Option Value) (base:Heap):Prop where
 kin:K.In base
 glob:base.Ns mainGlobals mg
 blt:∃ mb,base.Ns builtinsNs mb∧∀ x:Str,x ≠ "__name__" → mb x=bootBuiltins x
 nolimit:base.NoLimit
structure Cx where
 prog:Program
 w:World
 K:PySem.W.Frag
 mg:Str→Option Value
 base:Heap
 A:Around
 N:List Str
 s₀:Shared
 H₀:Hp
 env:Env
 outer:List Env
 stack:List Env
 ex:List Addr
 fn:Str→Bool
 calm:Bool
 pn:List (Addr×Obj)
 xe:Value→Shared→Prop
def frs (l:List Env):List Addr:=l.filterMap (·.frame)
abbrev Cx.fs (X:Cx):List Addr:=frs X.outer
def Vis (sc:Scope) (x:Str):Prop:=sc.names.lookup x=some .local∨sc.names.lookup x=some .cell∨sc.names.lookup x=some .free
def Loc (sc:Scope) (x:Str):Prop:=sc.names.lookup x=some .local∨sc.names.lookup x=some .cell
def Look (env:Env) (h:Heap) (m:Str→Option Value) (x:Str) (u:Value):Prop:=
 (env.kindOf x=some .local∧m x=some u)∨((env.kindOf x=some .cell∨env.kindOf x=some .free)∧∃ c,env.cells.lookup x=some c∧h.IsCell c (some u))
structure Cx.Ok (X:Cx):Prop where
 mod:Mod X.K X.mg X.base
 kind:X.env.scope.kind=.function
 glob:X.env.globals=mainGlobals
 blt:X.env.builtins=builtinsNs
 above:X.s₀.heap.objs.size≤X.env.locals
 inj:∀ x y c,X.env.cells.lookup x=some c→X.env.cells.lookup y=some c→x=y
 has:∀ x,(X.env.kindOf x=some .cell∨X.env.kindOf x=some .free)→∃ c,X.env.cells.lookup x=some c
 cab:∀ x c,X.fn x=true→X.env.cells.lookup x=some c→X.s₀.heap.objs.size≤c
 hd:X.calm=true→X.A.handled=none
 frames:X.A.frames=some X.stack
 stk:X.stack=X.outer∨(X.stack=X.env::X.outer∧X.env.frame=some X.env.locals)
 exf:∀ b∈X.ex,b≠X.env.locals∧∀ x c,X.env.cells.lookup x=some c→c≠b
 bs:∀ b o,X.base.get? b=some o→X.s₀.heap.get? b=some o∧X.H₀ b=none
 bsz:X.base.objs.size≤X.s₀.heap.objs.size
 noex:∀ b o,X.base.get? b=some o→b∉X.ex
 exfs:∀ b∈X.ex,b∉X.fs
 funs:X.s₀.heap.FunFrames X.base X.outer
 frf:∀ b∈X.fs,X.H₀ b=none
structure Inv (X:Cx) (pins:List (Addr×Obj)) (σ:List (Option V)) (H:Hp) (s:Shared):Prop where
 ok:X.Ok
 os:s.os=X.s₀.os
 bare:AllBare s.gens
 base:Un X.fs X.ex X.H₀ H X.s₀.heap s.heap
 loc:∃ m,s.heap.Ns X.env.locals m∧∀ (i:Nat) (x:Str) (v:V),X.N[i]?=some x→σ[i]?=some (some v)→Vis X.env.scope x→∃ u,RelV v u∧Look X.env s.heap m x u
 cell:∀ x c,X.env.cells.lookup x=some c→∃ v,s.heap.IsCell c v
 free:H X.env.locals=none
 freeC:∀ x c,X.env.cells.lookup x=some c→H c=none
 pin:∀ p∈X.pn++pins,s.heap.get? p.1=some p.2∧H p.1=none∧p.1≠X.env.locals∧p.1∉X.fs∧∀ v,p.2.data≠.cell v
 hok:HOk X.prog X.w H s.heap
 len:σ.length=X.N.length
section
variable {X:Cx} {pins:List (Addr×Obj)} {σ:List (Option V)} {H H':Hp} {s:Shared} {h':Heap}
theorem Cx.Ok.nofr (ok:X.Ok) {b:Addr} {o:Obj} (e:X.base.get? b=some o):b∉X.fs:=fun hb=>by
 have:=(ok.funs.mem hb).1
 rw [e] at this;cases this
theorem Inv.bs (I:Inv X pins σ H s):∀ b o,X.base.get? b=some o→s.heap.get? b=some o∧H b=none:=fun b o e=>
 ⟨I.base.keep b o (I.ok.bs b o e).1 (I.ok.bs b o e).2 (I.ok.nofr e) (I.ok.noex b o e),I.base.free b o (I.ok.bs b o e).1 (I.ok.bs b o e).2 (I.ok.noex b o e)⟩
theorem Inv.bk (I:Inv X pins σ H s):∀ b o,X.base.get? b=some o→s.heap.get? b=some o:=fun b o e=>(I.bs b o e).1
theorem Inv.mod (I:Inv X pins σ H s):Mod X.K X.mg X.base:=I.ok.mod
theorem Inv.kIn (I:Inv X pins σ H s):X.K.In s.heap:=I.ok.mod.kin.keeps I.bk
theorem Inv.lt (I:Inv X pins σ H s):X.env.locals<s.heap.objs.size:=let ⟨_,hn,_⟩:=I.loc;hn.lt
theorem Inv.sz (I:Inv X pins σ H s):X.s₀.heap.objs.size≤s.heap.objs.size:=Nat.le_trans I.ok.above (Nat.le_of_lt I.lt)
theorem Inv.nofs (I:Inv X pins σ H s) {a:Addr} (h:s.heap.objs.size≤a):a∉X.fs:=fun hb=>by
 obtain ⟨_,o,ho,_⟩:=I.ok.funs.mem hb
 exact absurd (Nat.lt_of_lt_of_le (Heap.lt_size ho) (Nat.le_trans I.sz h)) (Nat.lt_irrefl _)
theorem Inv.cne (I:Inv X pins σ H s):∀ x c,X.env.cells.lookup x=some c→c≠X.env.locals:=fun x c e z=>by
 obtain ⟨v,o,ho,hd⟩:=I.cell x c e
 obtain ⟨m,⟨o',es,ep,ho',hd',_⟩,_⟩:=I.loc
 rw [z,ho'] at ho;cases ho;rw [hd'] at hd;cases hd
theorem Inv.funs (I:Inv X pins σ H s):s.heap.FunFrames X.base X.outer:=by
 have all:∀ (l:List Env),(∀ b∈frs l,b∈X.fs)→X.s₀.heap.FunFrames X.base l→s.heap.FunFrames X.base l:=by
  intro l
  induction l with
  | nil=>intro _ _;trivial
  | cons env r ih=>
   intro hs hl
   obtain ⟨hk,⟨L,o,hf,hn,ho,hd⟩,hr⟩:=hl
   have hL:L∈X.fs:=hs L (by unfold frs;rw [List.filterMap_cons,hf];exact List.mem_cons_self)
   obtain ⟨sl,e⟩:=I.base.slot L o ho (I.ok.frf L hL) hL fun z=>I.ok.exfs L z hL
   exact ⟨hk,⟨L,_,hf,hn,e,hd⟩,ih (fun b hb=>hs b (by unfold frs;rw [List.filterMap_cons,hf];exact List.mem_cons_of_mem _ hb)) hr⟩
 exact all X.outer (fun _ hb=>hb) I.ok.funs
theorem Inv.stack (I:Inv X pins σ H s):s.heap.FunFrames X.base X.stack:=by
 rcases I.ok.stk with e | ⟨e,hf⟩
 ·rw [e];exact I.funs
 ·rw [e]
  obtain ⟨m,hn,_⟩:=I.loc
  refine .cons (by rw [I.ok.kind];decide) hf hn ?_ I.funs
  exact Heap.get?_none_of_le (Nat.le_trans I.ok.bsz I.ok.above)
theorem Inv.stkSub (I:Inv X pins σ H s):∀ b∈frs X.stack,b∈X.env.locals::X.fs:=fun b hb=>by
 rcases I.ok.stk with e | ⟨e,hf⟩
 ·rw [e] at hb;exact List.mem_cons_of_mem _ hb
 ·rw [e] at hb
  unfold frs at hb
  rw [List.filterMap_cons,hf] at hb
  exact hb
theorem Inv.stkFree (I:Inv X pins σ H s):∀ b∈frs X.stack,H b=none:=fun b hb=>by
 rcases List.mem_cons.mp (I.stkSub b hb) with e | hb
 ·rw [e];exact I.free
 ·obtain ⟨_,o,ho,_⟩:=I.ok.funs.mem hb
  exact I.base.free b o ho (I.ok.frf b hb) fun z=>I.ok.exfs b z hb
theorem Inv.step {g':Array GenState} {t':Nat} {d':Drawn} {ch:List Addr} (I:Inv X pins σ H s)
  (hch:∀ b∈ch,(b∈X.ex∨X.s₀.heap.objs.size≤b)∧b≠X.env.locals∧(∀ x c,X.env.cells.lookup x=some c→c≠b)∧∀ p∈X.pn++pins,p.1≠b)
  (keep:∀ b o,b≠X.env.locals→b∉X.fs→b∉ch→s.heap.get? b=some o→H b=none→h'.get? b=some o)
  (slot:∀ b o,b≠X.env.locals→b∈X.fs→b∉ch→s.heap.get? b=some o→H b=none→∃ sl,h'.get? b=some { o with slots:=sl }) (free:∀ b o,b∉ch→s.heap.get? b=some o→H b=none→H' b=none)
  (there:∀ b o,b∉ch→s.heap.get? b=some o→∃ o',h'.get? b=some o')
  (tups:∀ b xs,H b=some (.tup xs)→H' b=some (.tup xs)) (frzs:∀ b o u,H b=some (.frz o u)→H' b=some (.frz o u)) (tbls:∀ b ps,H b=some (.tbl ps)→∃ more,H' b=some (.tbl (ps.1,ps.2++more)))
  (ns:∀ m,s.heap.Ns X.env.locals m→h'.Ns X.env.locals m) (hok:HOk X.prog X.w H' h') (hg:AllBare g') :
  Inv X pins σ H' { s with heap:=h',gens:=g',drawn:=d',toks:=t' }:=by
 have neL:∀ b o,X.s₀.heap.get? b=some o→b≠X.env.locals:=fun b o e=>Nat.ne_of_lt (Nat.lt_of_lt_of_le (Heap.lt_size e) I.ok.above)
 have neC:∀ b o,X.s₀.heap.get? b=some o→b∉X.ex→b∉ch:=fun b o e hx hb=>by
  rcases (hch b hb).1 with z | z
  ·exact hx z
  ·exact absurd (Nat.lt_of_lt_of_le (Heap.lt_size e) z) (Nat.lt_irrefl _)
 have cellK:∀ x c,X.env.cells.lookup x=some c→∀ v,s.heap.IsCell c v→h'.IsCell c v:=fun x c e v ⟨o,ho,hd⟩=>by
  have nch:c∉ch:=fun z=>(hch c z).2.2.1 x c e rfl
  by_cases hc:c∈X.fs
  ·obtain ⟨sl,q⟩:=slot c o (I.cne x c e) hc nch ho (I.freeC x c e)
   exact ⟨_,q,hd⟩
  ·exact ⟨o,keep c o (I.cne x c e) hc nch ho (I.freeC x c e),hd⟩
 refine ⟨I.ok,I.os,hg,⟨fun b o e n hb hx=>?_,fun b o e n hb hx=>?_,fun b o e n hx=>?_,fun b o e hx=>?_,fun b xs e=>tups b xs (I.base.tups b xs e),fun b o xs e=>frzs b o xs (I.base.frzs b o xs e),fun b ps e=>?_⟩,?_,fun x c e=>?_,?_,fun x c e=>?_,fun p hp=>?_,hok,I.len⟩
 ·exact keep b o (neL b o e) hb (neC b o e hx) (I.base.keep b o e n hb hx) (I.base.free b o e n hx)
 ·obtain ⟨sl,e1⟩:=I.base.slot b o e n hb hx
  obtain ⟨sl',e2⟩:=slot b _ (neL b o e) hb (neC b o e hx) e1 (I.base.free b o e n hx)
  exact ⟨sl',e2⟩
 ·obtain ⟨o',e1⟩:=I.base.there b o e hx
  exact free b o' (neC b o e hx) e1 (I.base.free b o e n hx)
 ·obtain ⟨o',e1⟩:=I.base.there b o e hx
  exact there b o' (neC b o e hx) e1
 ·obtain ⟨m1,e1⟩:=I.base.tbls b ps e
  obtain ⟨m2,e2⟩:=tbls b _ e1
  exact ⟨m1++m2,by rw [e2];simp [Array.append_assoc]⟩
 ·obtain ⟨m,hn,hl⟩:=I.loc
  refine ⟨m,ns m hn,fun i x v e1 e2 e3=>?_⟩
  obtain ⟨u,r,l⟩:=hl i x v e1 e2 e3
  refine ⟨u,r,?_⟩
  rcases l with l | ⟨k,c,e,z⟩
  ·exact .inl l
  ·exact .inr ⟨k,c,e,cellK x c e _ z⟩
 ·obtain ⟨v,z⟩:=I.cell x c e
  exact ⟨v,cellK x c e v z⟩
 ·obtain ⟨m,⟨o,_,_,ho,_⟩,_⟩:=I.loc
  exact free _ o (fun z=>(hch _ z).2.1 rfl) ho I.free
 ·obtain ⟨v,o,ho,hd⟩:=I.cell x c e
  exact free c o (fun z=>(hch c z).2.2.1 x c e rfl) ho (I.freeC x c e)
 ·obtain ⟨e,n,ne,nf,d⟩:=I.pin p hp
  have nch:p.1∉ch:=fun z=>(hch p.1 z).2.2.2 p hp rfl
  exact ⟨keep p.1 p.2 ne nf nch e n,free p.1 p.2 nch e n,ne,nf,d⟩
theorem Inv.un {t':Nat} (I:Inv X pins σ H s) (u:Un X.fs [] H H' s.heap h') (hok:HOk X.prog X.w H' h'):Inv X pins σ H' { s with heap:=h',toks:=t' }:=by
 obtain ⟨m,⟨o,es,ep,ho,r⟩,_⟩:=id I.loc
 obtain ⟨sl,hL⟩:=u.any ho I.free (by simp)
 exact I.step (g':=s.gens) (d':=s.drawn) (ch:=[]) (fun _ z=>nomatch z) (fun b o _ hb _ e n=>u.keep b o e n hb (by simp)) (fun b o _ hb _ e n=>u.slot b o e n hb (by simp)) (fun b o _ e n=>u.free b o e n (by simp)) (fun b o _ e=>u.there b o e (by simp)) u.tups u.frzs u.tbls (fun m' hm=>by
  obtain ⟨o',es',ep',ho',r'⟩:=hm
  rw [ho] at ho';cases ho'
  exact ⟨_,es',ep',hL,r'⟩) hok I.bare
theorem Inv.call {g':Array GenState} {t':Nat} {d':Drawn} {ch:List Addr} (I:Inv X pins σ H s) (u:Un (frs X.stack) ch H H' s.heap h') (hok:HOk X.prog X.w H' h') (hg:AllBare g')
  (hch:∀ b∈ch,(b∈X.ex∨X.s₀.heap.objs.size≤b)∧b≠X.env.locals∧(∀ x c,X.env.cells.lookup x=some c→c≠b)∧∀ p∈X.pn++pins,p.1≠b) :
  Inv X pins σ H' { s with heap:=h',gens:=g',drawn:=d',toks:=t' }:=by
 obtain ⟨m,⟨o,es,ep,ho,r⟩,_⟩:=id I.loc
 obtain ⟨sl,hL⟩:=u.any ho I.free fun z=>(hch _ z).2.1 rfl
 exact I.step (ch:=ch) hch (fun b o hL hb hc e n=>u.keep b o e n (fun z=>(List.mem_cons.mp (I.stkSub b z)).elim hL hb) hc) (fun b o _ _ hc e n=>u.any e n hc) (fun b o hc e n=>u.free b o e n hc) (fun b o hc e=>u.there b o e hc) u.tups u.frzs u.tbls (fun m' hm=>by
  obtain ⟨o',es',ep',ho',r'⟩:=hm
  rw [ho] at ho';cases ho'
  exact ⟨_,es',ep',hL,r'⟩) hok hg
theorem Inv.turned {t':Nat} {it:Addr} (I:Inv X pins σ H s) (k:∀ b o,b≠it→s.heap.get? b=some o→h'.get? b=some o) (hn:H it=none) (hL:it≠X.env.locals)
  (h1:it∈X.ex∨X.s₀.heap.objs.size≤it) (h2:∀ x c,X.env.cells.lookup x=some c→c≠it) (h3:∀ p∈X.pn++pins,p.1≠it):Inv X pins σ H { s with heap:=h',toks:=t' }:=by
 have nit:∀ b u,H b=some u→b≠it:=fun b u e z=>by rw [z,hn] at e;cases e
 refine I.step (g':=s.gens) (d':=s.drawn) (ch:=[it]) (fun b hb=>?_) (fun b o _ _ hc e _=>k b o (fun z=>hc (by simp [z])) e) (fun b o _ _ hc e _=>⟨o.slots,k b o (fun z=>hc (by simp [z])) e⟩) (fun _ _ _ _ n=>n)
  (fun b o hc e=>⟨o,k b o (fun z=>hc (by simp [z])) e⟩) (fun _ _ e=>e) (fun _ _ _ e=>e) (fun b ps e=>⟨#[],by rw [e];simp⟩) (fun m hm=>?_) (fun b u e=>?_) I.bare
 ·have e:b=it:=by simpa using hb
  subst e
  exact ⟨h1,hL,h2,h3⟩
 ·obtain ⟨o,es,ep,ho,r⟩:=hm
  exact ⟨o,es,ep,k _ o (Ne.symm hL) ho,r⟩
 ·refine (I.hok b u e).stay (fun c v hc q=>k c v ?_ q) (fun _ q=>q) fun _ _ q=>q
  rcases hc with z | z
  ·rw [z];exact nit b u e
  ·exact nit c _ z
theorem Inv.tok (I:Inv X pins σ H s) (t:Nat):Inv X pins σ H { s with toks:=t }:=I.un (h':=s.heap) (t':=t) Un.refl I.hok
theorem Inv.kept {t':Nat} (I:Inv X pins σ H s) (k:∀ b u,s.heap.get? b=some u→h'.get? b=some u):Inv X pins σ H { s with heap:=h',toks:=t' }:=I.un (Un.kept k) (I.hok.kept k)
theorem Inv.laid {a:Addr} {o:HO} {t':Nat} (I:Inv X pins σ H s) (k:∀ b u,s.heap.get? b=some u→h'.get? b=some u) (hp:s.heap.objs.size≤a) (new:bV X.prog X.w (upd H a o) h' a o) :
  Inv X pins σ (upd H a o) { s with heap:=h',toks:=t' }:=I.un (Un.laid k hp (I.hok.fresh hp)) (I.hok.laid k hp new)
theorem Inv.write {x e:Addr} {o:HO} {t':Nat} (I:Inv X pins σ H s) (mu:Mut (H x)) (he:e=x∨H e=some (.own x)) (k:∀ b u,b≠e→s.heap.get? b=some u→h'.get? b=some u) (heo:∃ u,h'.get? e=some u)
  (new:bV X.prog X.w (upd H x o) h' x o):Inv X pins σ (upd H x o) { s with heap:=h',toks:=t' }:=I.un (Un.write mu he k heo) (I.hok.write mu he k heo new)
theorem Inv.pins_of {pins':List (Addr×Obj)} (I:Inv X pins σ H s) (h:∀ p∈pins',s.heap.get? p.1=some p.2∧H p.1=none∧p.1≠X.env.locals∧p.1∉X.fs∧∀ v,p.2.data≠.cell v):Inv X pins' σ H s:=
 ⟨I.ok,I.os,I.bare,I.base,I.loc,I.cell,I.free,I.freeC,fun p hp=>(List.mem_append.mp hp).elim (fun z=>I.pin p (List.mem_append_left _ z)) (h p),I.hok,I.len⟩
theorem nodup_ix {N:List Str} (hN:N.Nodup) {i j:Nat} {x:Str} (a:N[i]?=some x) (b:N[j]?=some x):i=j:=by
 obtain ⟨h1,e1⟩:=List.getElem?_eq_some_iff.mp a
 obtain ⟨h2,e2⟩:=List.getElem?_eq_some_iff.mp b
 exact (List.getElem_inj hN).mp (e1.trans e2.symm)
theorem store_ok2 {M:Model} {A:Around} {E:Value→Shared→Prop} {i:Nat} {x:Str} {v:V} {u:Value} {Q:Unit→Shared→Prop} (I:Inv X pins σ H s) (hN:X.N.Nodup) (hi:X.N[i]?=some x) (hx:Loc X.env.scope x) (r:RelV v u)
  (h:∀ s',Inv X pins (σ.set i (some v)) H s'→(∃ a,Heap.SameBut a s.heap s'.heap∧(a=X.env.locals∨X.env.cells.lookup x=some a))→Q () s') (hf:X.fn x=true∨X.env.scope.names.lookup x=some .local:=by first | exact .inl rfl | exact .inr rfl | assumption):wpAny M A (storeName X.env x u) Q E s:=by
 obtain ⟨m,hn,hl⟩:=id I.loc
 have hcls:(X.env.scope.kind==.class || (X.env.scope.kind==.module&&X.env.locals != X.env.globals))=false:=by rw [I.ok.kind];rfl
 have hiσ:i<σ.length:=by rw [I.len];exact (List.getElem?_eq_some_iff.mp hi).1
 have cne:=I.cne
 have tracked:∀ {a:Addr} {h':Heap},(∃ o,s.heap.get? a=some o∧H a=none)→Heap.SameBut a s.heap h'→HOk X.prog X.w H h':=fun {a h'} ha hs b ob e=>by
  obtain ⟨_,_,hfree⟩:=ha
  refine (I.hok b ob e).stay (fun c w' hc q=>(hs.2 c ?_).trans q) (fun _ q=>q) fun _ _ q=>q
  rintro rfl
  rcases hc with rfl | hc
  ·rw [hfree] at e;cases e
  ·rw [hfree] at hc;cases hc
 rcases hx with hk | hk
 ·refine wpAny_storeName_local hk hn (fun h' hn' hs=>?_) hcls
  obtain ⟨oL,_,_,hoL,_⟩:=id hn
  refine h _ ⟨I.ok,I.os,I.bare,⟨fun b o e n hb hx=>?_,fun b o e n hb hx=>?_,I.base.free,fun b o e hx=>?_,I.base.tups,I.base.frzs,I.base.tbls⟩,⟨_,hn',fun j y v' e1 e2 e3=>?_⟩,fun y c e=>?_,I.free,I.freeC,fun p hp=>?_,tracked ⟨oL,hoL,I.free⟩ hs,by simpa using I.len⟩ ⟨_,hs,.inl rfl⟩
  ·exact (hs.2 b (Nat.ne_of_lt (Nat.lt_of_lt_of_le (Heap.lt_size e) I.ok.above))).trans (I.base.keep b o e n hb hx)
  ·obtain ⟨sl,e1⟩:=I.base.slot b o e n hb hx
   exact ⟨sl,(hs.2 b (Nat.ne_of_lt (Nat.lt_of_lt_of_le (Heap.lt_size e) I.ok.above))).trans e1⟩
  ·obtain ⟨o',e1⟩:=I.base.there b o e hx
   exact ⟨o',(hs.2 b (Nat.ne_of_lt (Nat.lt_of_lt_of_le (Heap.lt_size e) I.ok.above))).trans e1⟩
  ·by_cases hj:j=i
   ·subst hj
    rw [hi] at e1;cases e1
    rw [List.getElem?_set_self hiσ] at e2
    cases e2
    exact ⟨u,r,.inl ⟨hk,by simp⟩⟩
   ·rw [List.getElem?_set_ne (Ne.symm hj)] at e2
    obtain ⟨u',r',q⟩:=hl j y v' e1 e2 e3
    refine ⟨u',r',?_⟩
    rcases q with ⟨k,e⟩ | ⟨k,c,e,z⟩
    ·refine .inl ⟨k,?_⟩
     have:y≠x:=fun e=>hj (nodup_ix hN e1 (e▸hi))
     simp [this,e]
    ·exact .inr ⟨k,c,e,z.sameBut hs (cne y c e)⟩
  ·obtain ⟨w',z⟩:=I.cell y c e
   exact ⟨w',z.sameBut hs (cne y c e)⟩
  ·obtain ⟨e,n,ne,nf,d⟩:=I.pin p hp
   exact ⟨(hs.2 p.1 ne).trans e,n,ne,nf,d⟩
 ·have hfn:X.fn x=true:=by
   rcases hf with z | z
   ·exact z
   ·rw [z] at hk;cases hk
  obtain ⟨c,hc⟩:=I.ok.has x (.inl hk)
  obtain ⟨w',z⟩:=I.cell x c hc
  refine wpAny_storeName_cell I.ok.kind hk hc z (fun h' hc' hs=>?_)
  obtain ⟨oc,hoc,hocd⟩:=id z
  refine h { s with heap:=h' } ⟨I.ok,I.os,I.bare,⟨fun b o e n hb hx=>?_,fun b o e n hb hx=>?_,I.base.free,fun b o e hx=>?_,I.base.tups,I.base.frzs,I.base.tbls⟩,⟨m,hn.sameBut hs (Ne.symm (cne x c hc)),fun j y v' e1 e2 e3=>?_⟩,fun y c' e=>?_,I.free,I.freeC,fun p hp=>?_,tracked ⟨oc,hoc,I.freeC x c hc⟩ hs,by simpa using I.len⟩ ⟨c,hs,.inr hc⟩
  ·exact (hs.2 b (Nat.ne_of_lt (Nat.lt_of_lt_of_le (Heap.lt_size e) (I.ok.cab x c hfn hc)))).trans (I.base.keep b o e n hb hx)
  ·obtain ⟨sl,e1⟩:=I.base.slot b o e n hb hx
   exact ⟨sl,(hs.2 b (Nat.ne_of_lt (Nat.lt_of_lt_of_le (Heap.lt_size e) (I.ok.cab x c hfn hc)))).trans e1⟩
  ·obtain ⟨o',e1⟩:=I.base.there b o e hx
   exact ⟨o',(hs.2 b (Nat.ne_of_lt (Nat.lt_of_lt_of_le (Heap.lt_size e) (I.ok.cab x c hfn hc)))).trans e1⟩
  ·by_cases hj:j=i
   ·subst hj
    rw [hi] at e1;cases e1
    rw [List.getElem?_set_self hiσ] at e2
    cases e2
    exact ⟨u,r,.inr ⟨.inl hk,c,hc,hc'⟩⟩
   ·rw [List.getElem?_set_ne (Ne.symm hj)] at e2
    obtain ⟨u',r',q⟩:=hl j y v' e1 e2 e3
    refine ⟨u',r',?_⟩
    rcases q with q | ⟨k,c',e,z'⟩
    ·exact .inl q
    ·refine .inr ⟨k,c',e,z'.sameBut hs ?_⟩
     rintro rfl
     exact hj (nodup_ix hN e1 (I.ok.inj _ _ _ e hc▸hi))
  ·by_cases hcc:c'=c
   ·subst hcc;exact ⟨_,hc'⟩
   ·obtain ⟨w2,z2⟩:=I.cell y c' e
    exact ⟨w2,z2.sameBut hs hcc⟩
  ·obtain ⟨e,n,ne,nf,d⟩:=I.pin p hp
   refine ⟨(hs.2 p.1 ?_).trans e,n,ne,nf,d⟩
   intro q
   rw [q,hoc] at e
   have q':oc=p.2:=Option.some.inj e
   exact d w' (by rw [←q'];exact hocd)
theorem store_ok {M:Model} {A:Around} {E:Value→Shared→Prop} {i:Nat} {x:Str} {v:V} {u:Value} {Q:Unit→Shared→Prop} (I:Inv X pins σ H s) (hN:X.N.Nodup) (hi:X.N[i]?=some x) (hx:Loc X.env.scope x) (r:RelV v u)
  (h:∀ s',Inv X pins (σ.set i (some v)) H s'→Q () s') (hf:X.fn x=true∨X.env.scope.names.lookup x=some .local:=by first | exact .inl rfl | exact .inr rfl | assumption):wpAny M A (storeName X.env x u) Q E s:=
 store_ok2 I hN hi hx r (fun s' I' _=>h s' I') hf
theorem Inv.call' {s':Shared} {ch:List Addr} (I:Inv X pins σ H s) (ho:s'.os=s.os) (u:Un (frs X.stack) ch H H' s.heap s'.heap) (hok:HOk X.prog X.w H' s'.heap) (hg:AllBare s'.gens)
  (hch:∀ b∈ch,(b∈X.ex∨X.s₀.heap.objs.size≤b)∧b≠X.env.locals∧(∀ x c,X.env.cells.lookup x=some c→c≠b)∧∀ p∈X.pn++pins,p.1≠b):Inv X pins σ H' s':=by
 obtain ⟨h',g',d',t',o'⟩:=s'
 have e:o'=s.os:=ho
 subst e
 exact I.call (g':=g') (t':=t') (d':=d') u hok hg hch
end
abbrev XK:=Value→Option Addr→Hp→Prop
abbrev St:=List (Option V)
abbrev VK:=V→Hp→Prop
abbrev TE:=St→Hp→VK→Prop
abbrev TT:=St→Hp→(Bool→Hp→Prop)→Prop
abbrev TA:=St→Hp→(List V→Hp→Prop)→Prop
structure Ends where
 nx:St→Hp→Prop
 rt:VK
 bk:St→Hp→Prop:=fun _ _=>False
 ct:St→Hp→Prop:=fun _ _=>False
abbrev TS:=Ends→St→Hp→Prop
def EP (X:Cx) (pins:List (Addr×Obj)) (σ:St) (Q:VK) (u:Value) (s':Shared):Prop:=∃ v H',Inv X pins σ H' s'∧RelV v u∧Q v H'
def TP (X:Cx) (pins:List (Addr×Obj)) (σ:St) (Q:Bool→Hp→Prop) (b:Bool) (s':Shared):Prop:=∃ H',Inv X pins σ H' s'∧Q b H'
def AP (X:Cx) (pins:List (Addr×Obj)) (σ:St) (Q:List V→Hp→Prop) (us:List Value) (s':Shared):Prop:=∃ vs H',Inv X pins σ H' s'∧aV vs us∧Q vs H'
def SP (X:Cx) (pins:List (Addr×Obj)) (D:Ends) (f:Flow) (s':Shared):Prop:=
 match f with
 | .next=>∃ σ' H',Inv X pins σ' H' s'∧D.nx σ' H'
 | .brk=>∃ σ' H',Inv X pins σ' H' s'∧D.bk σ' H'
 | .cont=>∃ σ' H',Inv X pins σ' H' s'∧D.ct σ' H'
 | .ret u=>∃ v σ' H',Inv X pins σ' H' s'∧RelV v u∧D.rt v H'
def PE (X:Cx) (e:Expr) (t:TE):Prop:=
 ∀ (pins:List (Addr×Obj)) (s:Shared) (σ:St) (H:Hp) (Q:VK),Inv X pins σ H s→t σ H Q→wpAny (model X.prog X.w) X.A (eval e X.env) (EP X pins σ Q) X.xe s
def PT (X:Cx) (e:Expr) (t:TT):Prop:=
 ∀ (pins:List (Addr×Obj)) (s:Shared) (σ:St) (H:Hp) (Q:Bool→Hp→Prop),Inv X pins σ H s→t σ H Q→wpAny (model X.prog X.w) X.A (isTrue e X.env (eval e X.env)) (TP X pins σ Q) X.xe s
def PW (X:Cx) (e:Expr) (t:TT):Prop:=
 ∀ (whole:Sem Value) (pins:List (Addr×Obj)) (s:Shared) (σ:St) (H:Hp) (Q:Bool→Hp→Prop),Inv X pins σ H s→t σ H Q→wpAny (model X.prog X.w) X.A (isTrue e X.env whole) (TP X pins σ Q) X.xe s
def PA (X:Cx) (es:List Expr) (t:TA):Prop:=
 ∀ (pos:Pos) (pins:List (Addr×Obj)) (s:Shared) (σ:St) (H:Hp) (Q:List V→Hp→Prop),Inv X pins σ H s→t σ H Q→wpAny (model X.prog X.w) X.A (spliced (backTo pos (starEach es X.env))) (AP X pins σ Q) X.xe s
def PS (X:Cx) (st:Stmt) (t:TS):Prop:=
 ∀ (pins:List (Addr×Obj)) (s:Shared) (σ:St) (H:Hp) (D:Ends),Inv X pins σ H s→t D σ H→wpAny (model X.prog X.w) X.A (exec st X.env) (SP X pins D) X.xe s
def PSs (X:Cx) (st:List Stmt) (t:TS):Prop:=
 ∀ (pins:List (Addr×Obj)) (s:Shared) (σ:St) (H:Hp) (D:Ends),Inv X pins σ H s→t D σ H→wpAny (model X.prog X.w) X.A (execs st X.env) (SP X pins D) X.xe s
theorem thn {α:Type} {t:Sem α} {Q Q':α→Shared→Prop} {M:Model} {A:Around} {E:Value→Shared→Prop} {s:Shared} (h:wpAny M A t Q E s) (hQ:∀ a s,Q a s→Q' a s):wpAny M A t Q' E s:=wpAny_mono h hQ fun _ _ x=>x
section
variable {X:Cx}
def tVar (i:Nat):TE:=fun σ H Q=>∃ v,σ[i]?=some (some v)∧Q v H
def tC (v:V):TE:=fun _ H Q=>Q v H
theorem iF {i:Nat} {x:Str} {pos:Pos} (hN:X.N[i]?=some x) (hv:Vis X.env.scope x) (hd:(x==("__debug__" : Str))=false:=by decide) (hcd:(x==("__classdict__" : Str))=false:=by decide):PE X (.Name x pos) (tVar i):=by
 intro pins s σ H Q I h
 obtain ⟨v,e,h⟩:=h
 obtain ⟨m,hn,hl⟩:=I.loc
 obtain ⟨u,r,l⟩:=hl i x v hN e hv
 have fin:EP X pins σ Q u s:=⟨v,H,I,r,h⟩
 rcases l with ⟨hk,hm⟩ | ⟨hk,c,hc,hcell⟩
 ·exact wpAny_Name (wpAny_loadName_local I.ok.kind hk hn hm fin) hd
 ·rcases hk with hk | hk
  ·exact wpAny_Name (wpAny_loadName_cell I.ok.kind hk hc hcell fin) hd
  ·exact wpAny_Name (wpAny_loadName_free I.ok.kind hk hc hcell fin hcd) hd
theorem pe_int {i j pos}:PE X (.Constant (.int i) j pos) (tC (.int i)):=fun _ _ _ H _ I h=>wpAny_Constant_int ⟨.int i,H,I.tok _,⟨_,rfl⟩,h⟩
theorem pe_bl {b j pos}:PE X (.Constant (.bool b) j pos) (tC (.bl b)):=fun _ _ _ H _ I h=>Constant_bool ⟨.bl b,H,I,rfl,h⟩
theorem pe_non {j pos}:PE X (.Constant .none j pos) (tC .non):=fun _ _ _ H _ I h=>Constant_none ⟨.non,H,I,rfl,h⟩
theorem pe_str {x j pos}:PE X (.Constant (.str x) j pos) (tC (.str x)):=fun _ _ _ H _ I h=>Calls.Constant_str ⟨.str x,H,I.tok _,⟨_,rfl⟩,h⟩
def Gl (X:Cx) (x:Str):Prop:=X.env.kindOf x=some .globalImplicit
theorem ld_glob {E:Value→Shared→Prop} {pins:List (Addr×Obj)} {s:Shared} {σ:St} {H:Hp} {x:Str} {u:Value} {pos:Pos} {Q:Value→Shared→Prop} (I:Inv X pins σ H s) (hg:Gl X x) (hm:X.mg x=some u) (h:Q u s)
  (hd:(x==("__debug__" : Str))=false:=by decide):wpAny (model X.prog X.w) X.A (eval (.Name x pos) X.env) Q E s:=
 Calls.Name_function_global I.ok.kind hg (Calls.loadGlobal_global (by rw [I.ok.glob];exact I.mod.glob.keeps I.bk) hm h) hd
theorem gO {E:Value→Shared→Prop} {pins:List (Addr×Obj)} {s:Shared} {σ:St} {H:Hp} {x:Str} {u:Value} {pos:Pos} {Q:Value→Shared→Prop} (I:Inv X pins σ H s) (hg:Gl X x) (hm:X.mg x=none) (hv:bootBuiltins x=some u) (h:Q u s)
  (hn:x ≠ "__name__":=by decide) (hd:(x==("__debug__" : Str))=false:=by decide):wpAny (model X.prog X.w) X.A (eval (.Name x pos) X.env) Q E s:=by
 obtain ⟨mb,h1,h2⟩:=I.mod.blt
 exact Calls.Name_function_global I.ok.kind hg (Calls.loadGlobal_builtin (by rw [I.ok.glob];exact I.mod.glob.keeps I.bk) hm (by rw [I.ok.blt];exact h1.keeps I.bk) ((h2 x hn).trans hv) h) hd
theorem pe_glob {x:Str} {v:V} {u:Value} {pos:Pos} (hg:Gl X x) (hm:X.mg x=some u) (r:RelV v u) (hd:(x==("__debug__" : Str))=false:=by decide):PE X (.Name x pos) (tC v):=
 fun _ _ _ H _ I h=>ld_glob I hg hm ⟨v,H,I,r,h⟩ hd
theorem pe_bltn {x:Str} {v:V} {u:Value} {pos:Pos} (hg:Gl X x) (hm:X.mg x=none) (hv:bootBuiltins x=some u) (r:RelV v u) (hn:x ≠ "__name__":=by decide) (hd:(x==("__debug__" : Str))=false:=by decide):PE X (.Name x pos) (tC v):=
 fun _ _ _ H _ I h=>gO I hg hm hv ⟨v,H,I,r,h⟩ hn hd
variable {a b:Expr} {ta tb:TE} {pos:Pos}
variable {tA tB':TT} {rest:List Expr}
def tAnd (t u:TT):TT:=fun σ H Q=>t σ H fun c H1=>if c=true then u σ H1 Q else Q false H1
def tOr (t u:TT):TT:=fun σ H Q=>t σ H fun c H1=>if c=true then Q true H1 else u σ H1 Q
def tNot (t:TT):TT:=fun σ H Q=>t σ H fun c H1=>Q (!c) H1
theorem pw_and1 (ha:PT X a tA):PW X (.BoolOp .And [a] pos) tA:=by
 intro wh pins s σ H Q I h
 refine isTrue_and (thn (ha pins s σ H Q I h) fun c s1 e=>?_)
 cases c with
 | true=>exact isTrue_and_nil e
 | false=>exact e
theorem pw_or1 (ha:PT X a tA):PW X (.BoolOp .Or [a] pos) tA:=by
 intro wh pins s σ H Q I h
 refine isTrue_or (thn (ha pins s σ H Q I h) fun c s1 e=>?_)
 cases c with
 | false=>exact isTrue_or_nil e
 | true=>exact e
theorem pw_and (ha:PT X a tA) (hb:PW X (.BoolOp .And (b::rest) pos) tB'):PW X (.BoolOp .And (a::b::rest) pos) (tAnd tA tB'):=by
 intro wh pins s σ H Q I h
 refine isTrue_and (thn (ha pins s σ H _ I h) fun c s1 ⟨H1,I1,q1⟩=>?_)
 cases c with
 | true=>exact hb wh pins s1 σ H1 Q I1 q1
 | false=>exact ⟨H1,I1,q1⟩
theorem pw_or (ha:PT X a tA) (hb:PW X (.BoolOp .Or (b::rest) pos) tB'):PW X (.BoolOp .Or (a::b::rest) pos) (tOr tA tB'):=by
 intro wh pins s σ H Q I h
 refine isTrue_or (thn (ha pins s σ H _ I h) fun c s1 ⟨H1,I1,q1⟩=>?_)
 cases c with
 | true=>exact ⟨H1,I1,q1⟩
 | false=>exact hb wh pins s1 σ H1 Q I1 q1
theorem pt_not (ha:PT X a tA):PT X (.UnaryOp .Not a pos) (tNot tA):=by
 intro pins s σ H Q I h
 exact isTrue_not (ha pins s σ H (fun c H1=>Q (!c) H1) I h)
def tAndV (ta tb:TE):TE:=fun σ H Q=>ta σ H fun x H1=>∃ c,x=.bl c∧if c=true then tb σ H1 Q else Q (.bl false) H1
def tNotV (ta:TE):TE:=fun σ H Q=>ta σ H fun x H1=>∃ c,x=.bl c∧Q (.bl (!c)) H1
theorem pe_one {op} {t:TE} (h:PE X a t):PE X (.BoolOp op [a] pos) t:=fun pins s σ H Q I hw=>BoolOp_one (h pins s σ H Q I hw)
theorem pe_and (ha:PE X a ta) (hb:PE X (.BoolOp .And (b::rest) pos) tb):PE X (.BoolOp .And (a::b::rest) pos) (tAndV ta tb):=by
 intro pins s σ H Q I h
 refine BoolOp_and (thn (ha pins s σ H _ I h) fun v s1 ⟨x,H1,I1,r1,q1⟩=>?_)
 obtain ⟨c,rfl,q1⟩:=q1
 cases r1
 refine wpAny_truthy_bool ?_
 cases c with
 | true=>exact hb pins s1 σ H1 Q I1 q1
 | false=>exact ⟨.bl false,H1,I1,rfl,q1⟩
theorem pe_not (ha:PE X a ta):PE X (.UnaryOp .Not a pos) (tNotV ta):=by
 intro pins s σ H Q I h
 refine UnaryOp_ (thn (ha pins s σ H _ I h) fun v s1 ⟨x,H1,I1,r1,q1⟩=>?_)
 obtain ⟨c,rfl,q1⟩:=q1
 cases r1
 exact not_of (wpAny_truthy_bool ⟨.bl (!c),H1,I1,rfl,q1⟩)
end
def SqL (K:PySem.W.Frag) (H:Hp) (a:Addr) (xs:List V):Prop:=
 Rd H a (.lst xs) ∨
  ∃ (o:Obj) (its:Array Value) (n:Nat),K.lookup a=some o∧o.cls=.type "list" ∧ o.dict=none∧o.data=.seq its n∧its.size≤sizeLine∧aV xs its.toList
def SqT (K:PySem.W.Frag) (H:Hp) (a:Addr) (xs:List V):Prop:=
 Rd H a (.tup xs) ∨
  ∃ (o:Obj) (its:Array Value) (n:Nat),K.lookup a=some o∧o.cls=.type "tuple" ∧ o.data=.seq its n∧its.size≤sizeLine∧aV xs its.toList
def absV:Value→Option V
 | .none=>some .non
 | .bool b=>some (.bl b)
 | .int i _=>some (.int i)
 | .str x _=>some (.str x)
 | .bytes b _=>some (.byt b)
 | .float b _=>some (.flt b)
 | .ref a=>some (.ref a)
 | .type n=>some (.ty n)
 | _=>none
theorem RelV.abs {x:V} {u:Value} (r:RelV x u):absV u=some x:=by
 cases x with
 | non=>cases r;rfl
 | bl _=>cases r;rfl
 | int _=>obtain ⟨t,rfl⟩:=r;rfl
 | str _=>obtain ⟨t,rfl⟩:=r;rfl
 | byt _=>obtain ⟨t,rfl⟩:=r;rfl
 | flt _=>obtain ⟨t,rfl⟩:=r;rfl
 | ref _=>cases r;rfl
 | ty _=>cases r;rfl
theorem RelV.inj {x y:V} {u:Value} (r:RelV x u) (q:RelV y u):x=y:=Option.some.inj (r.abs.symm.trans q.abs)
theorem aV.inj:∀ {xs ys:List V} {us:List Value},aV xs us→aV ys us→xs=ys
 | _,_,_,.nil,.nil=>rfl
 | _,_,_,.cons r t,.cons r' t'=>by rw [r.inj r',aV.inj t t']
section
variable {X:Cx} {pins:List (Addr×Obj)} {σ:St} {H:Hp} {s:Shared} {a:Addr} {xs ys:List V}
theorem SqL.of {K:PySem.W.Frag} (h:H a=some (.lst xs)):SqL K H a xs:=.inl (.inl h)
theorem SqT.of {K:PySem.W.Frag} (h:H a=some (.tup xs)):SqT K H a xs:=.inl (.inl h)
theorem Inv.list (I:Inv X pins σ H s) (h:SqL X.K H a xs):∃ its:List Value,aV xs its∧PlainL s.heap a its.toArray∧xs.length≤sizeLine:=by
 rcases h with h | ⟨o,its,n,hk,hc,hd,hs,hz,r⟩
 ·obtain ⟨z,its,n,r,e⟩:=h.ok I.hok
  exact ⟨its,r,⟨_,n,e,rfl,rfl,rfl⟩,z⟩
 ·refine ⟨its.toList,r,⟨o,n,I.kIn a o hk,hc,hd,by simpa using hs⟩,?_⟩
  have e:=r.length
  simp only [Array.length_toList] at e
  omega
theorem Inv.tuple (I:Inv X pins σ H s) (h:SqT X.K H a xs):∃ its:List Value,aV xs its∧IsTup s.heap a its.toArray∧xs.length≤sizeLine:=by
 rcases h with h | ⟨o,its,n,hk,hc,hs,hz,r⟩
 ·obtain ⟨z,its,r,p⟩:=h.ok I.hok
  exact ⟨its,r,p,z⟩
 ·refine ⟨its.toList,r,⟨o,I.kIn a o hk,hc,n,by simpa using hs⟩,?_⟩
  have e:=r.length
  simp only [Array.length_toList] at e
  omega
theorem Inv.list_inj (I:Inv X pins σ H s) (h:SqL X.K H a xs) (h':SqL X.K H a ys):xs=ys:=by
 obtain ⟨its,r,⟨o,n,e,_,_,d⟩,_⟩:=I.list h
 obtain ⟨its',r',⟨o',n',e',_,_,d'⟩,_⟩:=I.list h'
 rw [e] at e';cases e'
 rw [d] at d'
 injection d' with d1 _
 have:its=its':=by simpa using congrArg Array.toList d1
 subst this
 exact r.inj r'
theorem Inv.tuple_inj (I:Inv X pins σ H s) (h:SqT X.K H a xs) (h':SqT X.K H a ys):xs=ys:=by
 obtain ⟨its,r,⟨o,e,_,n,d⟩,_⟩:=I.tuple h
 obtain ⟨its',r',⟨o',e',_,n',d'⟩,_⟩:=I.tuple h'
 rw [e] at e';cases e'
 rw [d] at d'
 injection d' with d1 _
 have:its=its':=by simpa using congrArg Array.toList d1
 subst this
 exact r.inj r'
end
abbrev Cx.wish (X:Cx) (E:Value→Shared→Prop):Cx:={ X with xe:=E }
abbrev Cx.nox (X:Cx):Cx:=X.wish fun _ _=>False
theorem Cx.Ok.wish {X:Cx} (ok:X.Ok) (E:Value→Shared→Prop):(X.wish E).Ok:=
 ⟨ok.mod,ok.kind,ok.glob,ok.blt,ok.above,ok.inj,ok.has,ok.cab,ok.hd,ok.frames,ok.stk,ok.exf,ok.bs,ok.bsz,ok.noex,ok.exfs,ok.funs,ok.frf⟩
theorem Cx.Ok.unwish {X:Cx} {E:Value→Shared→Prop} (ok:(X.wish E).Ok):X.Ok:=
 ⟨ok.mod,ok.kind,ok.glob,ok.blt,ok.above,ok.inj,ok.has,ok.cab,ok.hd,ok.frames,ok.stk,ok.exf,ok.bs,ok.bsz,ok.noex,ok.exfs,ok.funs,ok.frf⟩
section
variable {X:Cx} {pins:List (Addr×Obj)} {σ:St} {H:Hp} {s:Shared} {E:Value→Shared→Prop}
theorem Inv.wish (I:Inv X pins σ H s) (E:Value→Shared→Prop):Inv (X.wish E) pins σ H s:=⟨I.ok.wish E,I.os,I.bare,I.base,I.loc,I.cell,I.free,I.freeC,I.pin,I.hok,I.len⟩
theorem Inv.unwish (I:Inv (X.wish E) pins σ H s):Inv X pins σ H s:=⟨I.ok.unwish,I.os,I.bare,I.base,I.loc,I.cell,I.free,I.freeC,I.pin,I.hok,I.len⟩
theorem SP.unwish {D:Ends} {f:Flow} {s':Shared} (h:SP (X.wish E) pins D f s'):SP X pins D f s':=by
 cases f with
 | next=>obtain ⟨σ',H',I,q⟩:=h;exact ⟨σ',H',I.unwish,q⟩
 | brk=>obtain ⟨σ',H',I,q⟩:=h;exact ⟨σ',H',I.unwish,q⟩
 | cont=>obtain ⟨σ',H',I,q⟩:=h;exact ⟨σ',H',I.unwish,q⟩
 | ret u=>obtain ⟨v,σ',H',I,r,q⟩:=h;exact ⟨v,σ',H',I.unwish,r,q⟩
theorem PSs.nox {st:List Stmt} {t:TS} (h:PSs X.nox st t):PSs X st t:=fun pins s σ H D I hw=>
 wpAny_mono (h pins s σ H D (I.wish _) hw) (fun _ _ q=>q.unwish) fun _ _ z=>False.elim z
end
section
variable {X:Cx} {st:Stmt} {rest:List Stmt} {t u:TS} {e:Expr} {te:TE} {pos:Pos}
def tNext:TS:=fun D σ H=>D.nx σ H
theorem pss_nil:PSs X [] tNext:=fun _ _ σ H _ I h=>wpAny_execs_nil ⟨σ,H,I,h⟩
theorem pss_one (h1:PS X st t):PSs X [st] t:=by
 intro pins s σ H D I h
 refine wpAny_execs_cons (thn (h1 pins s σ H D I h) fun f s1 q=>?_)
 cases f with
 | next=>exact wpAny_execs_nil q
 | ret v=>exact q
 | brk=>exact q
 | cont=>exact q
theorem Inv.quiet {pins:List (Addr×Obj)} {σ:St} {H:Hp} {s:Shared} (I:Inv X pins σ H s):interactive X.env=false:=by simp [interactive,I.ok.kind]
def tDrop (te:TE):TS:=fun D σ H=>te σ H fun _ H1=>D.nx σ H1
theorem ps_expr (he:PE X e te) (hs:swapsWith e none pos.line X.env=pure false:=by rfl):PS X (.Expr e pos) (tDrop te):=by
 intro pins s σ H D I h
 exact wpAny_Expr_any (thn (he pins s σ H _ I h) fun v s1 ⟨x,H1,I1,r1,q1⟩=>⟨σ,H1,I1,q1⟩) I.quiet hs
def tRet (te:TE):TS:=fun D σ H=>te σ H D.rt
theorem ps_ret (he:PE X e te):PS X (.Return (some e) pos) (tRet te):=by
 intro pins s σ H D I h
 exact wpAny_Return_some (thn (he pins s σ H _ I h) fun v s1 ⟨x,H1,I1,r1,q1⟩=>⟨x,σ,H1,I1,r1,q1⟩)
def tIfS (c:TT) (t u:TS):TS:=fun D σ H=>c σ H fun b H1=>if b=true then t D σ H1 else u D σ H1
theorem ps_if {c:Expr} {a b:List Stmt} {tc:TT} (hc:PT X c tc) (ha:PSs X a t) (hb:PSs X b u):PS X (.If c a b pos) (tIfS tc t u):=by
 intro pins s σ H D I h
 refine wpAny_If (thn (hc pins s σ H _ I h) fun d s1 ⟨H1,I1,q1⟩=>?_)
 cases d with
 | true=>exact ha pins s1 σ H1 D I1 q1
 | false=>exact hb pins s1 σ H1 D I1 q1
end
abbrev TG:=V→St→Hp→(St→Hp→Prop)→Prop
abbrev TGs:=List V→St→Hp→(St→Hp→Prop)→Prop
def PG (X:Cx) (target:Expr) (t:TG):Prop:=
 ∀ (pins:List (Addr×Obj)) (s:Shared) (σ:St) (H:Hp) (v:V) (u:Value) (Q:St→Hp→Prop),Inv X pins σ H s→RelV v u→t v σ H Q →
  wpAny (model X.prog X.w) X.A (assign target X.env u) (fun _ s'=>∃ σ' H',Inv X pins σ' H' s'∧Q σ' H') X.xe s
def PGs (X:Cx) (ts:List Expr) (t:TGs):Prop:=
 ∀ (pins:List (Addr×Obj)) (s:Shared) (σ:St) (H:Hp) (vs:List V) (us:List Value) (Q:St→Hp→Prop),Inv X pins σ H s→aV vs us→t vs σ H Q →
  wpAny (model X.prog X.w) X.A (assignInOrder ((assignEach ts X.env).map (·.2)) us) (fun _ s'=>∃ σ' H',Inv X pins σ' H' s'∧Q σ' H') X.xe s
abbrev TIp:=V→V→Hp→VK→Prop
def PIp (X:Cx) (op:Operator) (t:TIp):Prop:=
 ∀ (pins:List (Addr×Obj)) (s:Shared) (σ:St) (H:Hp) (x y:V) (v u:Value) (Q:VK),Inv X pins σ H s→RelV x v→RelV y u→t x y H Q →
  wpAny (model X.prog X.w) X.A (inplaceOp op v u) (EP X pins σ Q) X.xe s
section
variable {X:Cx} {pos:Pos}
def gName (i:Nat):TG:=fun v σ H Q=>Q (σ.set i (some v)) H
theorem pg_name {i:Nat} {x:Str} (hN:X.N.Nodup) (hi:X.N[i]?=some x) (hx:Loc X.env.scope x) (hf:X.fn x=true∨X.env.scope.names.lookup x=some .local:=by first | exact .inl rfl | exact .inr rfl | assumption):PG X (.Name x pos) (gName i):=by
 intro pins s σ H v u Q I r h
 exact wpAny_assign_Name (store_ok I hN hi hx r (fun s' I'=>⟨_,H,I',h⟩) hf)
def gNil:TGs:=fun vs σ H Q=>vs=[]∧Q σ H
def gCons (t:TG) (u:TGs):TGs:=fun vs σ H Q=>∃ v r,vs=v::r∧t v σ H fun σ' H'=>u r σ' H' Q
theorem pgs_nil:PGs X [] gNil:=by
 intro pins s σ H vs us Q I r h
 obtain ⟨e,h⟩:=h
 subst e
 cases r
 exact assignInOrder_nil ⟨σ,H,I,h⟩
theorem pgs_cons {e:Expr} {es:List Expr} {t:TG} {u:TGs} (h1:PG X e t) (h2:PGs X es u)
  (hs:(assignEach (e::es) X.env).map (·.2)=assign e X.env::(assignEach es X.env).map (·.2):=by rfl):PGs X (e::es) (gCons t u):=by
 intro pins s σ H vs us Q I r h
 obtain ⟨v,vr,e1,h⟩:=h
 subst e1
 cases r with
 | cons r rr=>
  rw [hs]
  refine assignInOrder_cons (thn (h1 pins s σ H _ _ _ I r h) fun _ s1 ⟨σ1,H1,I1,q1⟩=>?_)
  exact h2 pins s1 σ1 H1 _ _ Q I1 rr q1
def gTup (K:PySem.W.Frag) (n:Nat) (t:TGs):TG:=fun v σ H Q=>∃ a xs,v=.ref a∧SqT K H a xs∧xs.length=n∧t xs σ H Q
theorem pg_tup {es:List Expr} {k:Nat} {t:TGs} {n:Nat} (hc:X.calm=true) (h:PGs X es t)
  (hn:(assignEach es X.env).length=n:=by rfl) (hst:(assignEach es X.env).findIdx? (·.1)=none:=by rfl):PG X (.Tuple es k pos) (gTup X.K n t):=by
 intro pins s σ H v u Q I r hw
 obtain ⟨a,xs,e1,hq,hl,hw⟩:=hw
 subst e1
 cases r
 obtain ⟨its,rv,ht,hz⟩:=I.tuple hq
 refine assign_Tuple_tuple (I.ok.hd hc) ht (by simp [hn,←hl,rv.length]) hst fun h' hx=>?_
 have I1:Inv X pins σ H { s with heap:=h' }:=I.kept (t':=s.toks) fun b o e=>hx b o (Nat.ne_of_lt (Heap.lt_size e)) e
 exact h pins _ σ H xs _ Q I1 (by simpa using rv) hw
def tAsg (te:TE) (g:TG):TS:=fun D σ H=>te σ H fun x H1=>g x σ H1 D.nx
theorem ps_set {i:Nat} {x:Str} {e:Expr} {te:TE} {pos':Pos} (hN:X.N.Nodup) (hi:X.N[i]?=some x) (hx:Loc X.env.scope x) (he:PE X e te) (hs:swapsWith e (some (.Name x pos')) pos.line X.env=pure false:=by rfl) (hf:X.fn x=true∨X.env.scope.names.lookup x=some .local:=by first | exact .inl rfl | exact .inr rfl | assumption) :
  PS X (.Assign [.Name x pos'] e pos) (tAsg te (gName i)):=by
 intro pins s σ H D I h
 refine wpAny_Assign_Name (thn (he pins s σ H _ I h) fun v s1 ⟨y,H1,I1,r1,q1⟩=>?_) hs
 exact store_ok I1 hN hi hx r1 (fun s2 I2=>⟨_,H1,I2,q1⟩) hf
def tAug (i:Nat) (te:TE) (ti:TIp):TS:=fun D σ H=>∃ x,σ[i]?=some (some x)∧te σ H fun y H1=>ti x y H1 fun z H2=>D.nx (σ.set i (some z)) H2
theorem ps_aug {i:Nat} {x:Str} {e:Expr} {te:TE} {op:Operator} {ti:TIp} {pos':Pos} (hN:X.N.Nodup) (hi:X.N[i]?=some x) (hx:Loc X.env.scope x) (he:PE X e te) (ho:PIp X op ti) (hf:X.fn x=true∨X.env.scope.names.lookup x=some .local:=by first | exact .inl rfl | exact .inr rfl | assumption) :
  PS X (.AugAssign (.Name x pos') op e pos) (tAug i te ti):=by
 intro pins s σ H D I h
 obtain ⟨v,e1,h⟩:=h
 obtain ⟨m,hn,hl⟩:=I.loc
 have vis:Vis X.env.scope x:=by rcases hx with k | k;exact .inl k;exact .inr (.inl k)
 obtain ⟨u,r,l⟩:=hl i x v hi e1 vis
 refine wpAny_AugAssign_Name ?_
 have go:wpAny (model X.prog X.w) X.A (eval e X.env) (fun w s₂=>wpAny (model X.prog X.w) X.A (inplaceOp op u w) (fun r s₃=>wpAny (model X.prog X.w) X.A (storeName X.env x r) (fun _=>SP X pins D .next) X.xe s₃) X.xe s₂) X.xe s:=by
  refine thn (he pins s σ H _ I h) fun w s1 ⟨y,H1,I1,r1,q1⟩=>?_
  refine thn (ho pins s1 σ H1 v y u w _ I1 r r1 q1) fun z s2 ⟨zv,H2,I2,r2,q2⟩=>?_
  exact store_ok I2 hN hi hx r2 (fun s3 I3=>⟨_,H2,I3,q2⟩) hf
 rcases l with ⟨hk,hm⟩ | ⟨hk,c,hc,hcell⟩
 ·exact wpAny_loadName_local I.ok.kind hk hn hm go
 ·rcases hk with hk | hk
  ·exact wpAny_loadName_cell I.ok.kind hk hc hcell go
  ·rcases hx with k | k
   ·have:X.env.scope.names.lookup x=some .free:=hk
    rw [k] at this;cases this
   ·have:X.env.scope.names.lookup x=some .free:=hk
    rw [k] at this;cases this
def ipI (f:Int→Int→Int):TIp:=fun x y H Q=>∃ i j,x=.int i∧y=.int j∧Q (.int (f i j)) H
theorem ip_add:PIp X .Add (ipI fun i j=>i+j):=by
 intro pins s σ H x y v u Q I r1 r2 h
 obtain ⟨i,j,e1,e2,q⟩:=h
 subst e1;subst e2
 obtain ⟨t,rfl⟩:=r1
 obtain ⟨t',rfl⟩:=r2
 exact iadd_int ⟨.int _,H,I.tok _,⟨_,rfl⟩,q⟩
theorem ip_sub:PIp X .Sub (ipI fun i j=>i - j):=by
 intro pins s σ H x y v u Q I r1 r2 h
 obtain ⟨i,j,e1,e2,q⟩:=h
 subst e1;subst e2
 obtain ⟨t,rfl⟩:=r1
 obtain ⟨t',rfl⟩:=r2
 exact isub_int ⟨.int _,H,I.tok _,⟨_,rfl⟩,q⟩
end
section
variable {X:Cx} {pos:Pos}
def tWhile (c:TT) (tb:TS):TS:=fun D σ H=>∃ W:Nat→St→Hp→Prop,(∃ m,W m σ H)∧∀ m σ H,W m σ H →
 c σ H fun b H1=>if b=true then ∃ N:St→Hp→Prop,(∀ σ' H',N σ' H'→∃ m',m'<m∧W m' σ' H')∧tb { D with nx:=N,ct:=N,bk:=D.nx } σ H1 else D.nx σ H1
theorem ps_while {c:Expr} {body:List Stmt} {tc:TT} {tb:TS} (hp:PassesOwn (model X.prog X.w) X.A X.env X.xe) (hc:PT X c tc) (hb:PSs X body tb):PS X (.While c body [] pos) (tWhile tc tb):=by
 intro pins s σ H D I h
 obtain ⟨W,⟨m0,w0⟩,turn⟩:=h
 refine wpAny_While (codeAny_whileLoop (fun n s'=>∃ σ' H',Inv X pins σ' H' s'∧W n σ' H') ?_ m0 ⟨σ,H,I,w0⟩)
 rintro n s1 ⟨σ1,H1,I1,w1⟩
 refine wpAny_passesOwn hp (thn (hc pins s1 σ1 H1 _ I1 (turn n σ1 H1 w1)) fun b s2 ⟨H2,I2,q2⟩=>?_)
 cases b with
 | true=>
  obtain ⟨N,hN,q2⟩:=q2
  rw [if_pos rfl]
  refine wpAny_passesOwn hp (thn (hb pins s2 σ1 H2 _ I2 q2) fun f s3 q3=>?_)
  cases f with
  | next=>
   obtain ⟨σ3,H3,I3,n3⟩:=q3
   obtain ⟨m',hm,w3⟩:=hN σ3 H3 n3
   exact ⟨m',hm,σ3,H3,I3,w3⟩
  | cont=>
   obtain ⟨σ3,H3,I3,n3⟩:=q3
   obtain ⟨m',hm,w3⟩:=hN σ3 H3 n3
   exact ⟨m',hm,σ3,H3,I3,w3⟩
  | brk=>exact q3
  | ret v=>exact q3
 | false=>
  rw [if_neg Bool.false_ne_true]
  exact wpAny_execs_nil ⟨σ1,H2,I2,q2⟩
end
structure It where
 go:Nat→Hp→Prop
 yld:Nat→Hp→V→Hp→Prop
 stop:Nat→Hp→Prop
def FpOk (X:Cx) (pins:List (Addr×Obj)) (H:Hp) (b:Addr):Prop:=
 H b=none∧b≠X.env.locals∧b∉X.fs∧(b∈X.ex∨X.s₀.heap.objs.size≤b)∧(∀ x c,X.env.cells.lookup x=some c→c≠b)∧∀ p∈X.pn++pins,p.1≠b
theorem Inv.fpOk {X:Cx} {pins:List (Addr×Obj)} {σ:St} {H H':Hp} {s:Shared} {b:Addr} (I:Inv X pins σ H s) (hb:s.heap.objs.size≤b) (hn:H' b=none):FpOk X pins H' b:=by
 refine ⟨hn,Nat.ne_of_gt (Nat.lt_of_lt_of_le I.lt hb),I.nofs hb,.inr (Nat.le_trans I.sz hb),fun x c e z=>?_,fun p hp z=>?_⟩
 ·obtain ⟨v,q⟩:=I.cell x c e
  exact absurd (Nat.lt_of_lt_of_le q.lt (by rw [z];exact hb)) (Nat.lt_irrefl _)
 ·exact absurd (Nat.lt_of_lt_of_le (Heap.lt_size (I.pin p hp).1) (by rw [z];exact hb)) (Nat.lt_irrefl _)
structure Turn (P:Program) (w:World) (K:PySem.W.Frag) (tg:Expr) (J:It) (fp:List Addr) (it:Addr) (tn:Nat→Heap→Prop):Prop where
 mem:it∈fp
 obj:∀ i h,tn i h→∀ b∈fp,∃ o,h.get? b=some o∧∀ v,o.data≠.cell v
 keep:∀ i h h',tn i h→(∀ b∈fp,∀ o,h.get? b=some o→h'.get? b=some o)→tn i h'
 item:∀ (X:Cx),X.prog=P→X.w=w→X.K=K→X.calm=true→∀ (i:Nat) (pins:List (Addr×Obj)) (s:Shared) (σ:St) (H:Hp) (E:Value→Shared→Prop),Inv X pins σ H s→(∀ b∈fp,FpOk X pins H b)→tn i s.heap→J.go i H →
  wpAny (model P w) X.A (pyNext (.ref it)) (fun r s1=>∃ u,r=some u ∧
   wpAny (model P w) X.A (letOwnedTupleGo tg (.ref it) u) (fun _ s2=>∃ x H',Inv X pins σ H' s2∧RelV x u∧J.yld i H x H'∧tn (i+1) s2.heap∧∀ b∈fp,H' b=none) E s1) E s
 done:∀ (X:Cx),X.prog=P→X.w=w→X.K=K→X.calm=true→∀ (i:Nat) (pins:List (Addr×Obj)) (s:Shared) (σ:St) (H:Hp) (E:Value→Shared→Prop),Inv X pins σ H s→(∀ b∈fp,FpOk X pins H b)→tn i s.heap→J.stop i H →
  wpAny (model P w) X.A (pyNext (.ref it)) (fun r s1=>r=none∧Inv X pins σ H s1) E s
 self:∀ (A:Around) (i:Nat) (s:Shared) (Q:Value→Shared→Prop) (E:Value→Shared→Prop),tn i s.heap→Q (.ref it) s→wpAny (model P w) A (pyIter (.ref it)) Q E s
abbrev TI:=St→Hp→(It→Hp→Prop)→Prop
def PIE (X:Cx) (pins:List (Addr×Obj)) (σ:St) (tg:Expr) (R:It→Hp→Prop) (itv:Value) (s2:Shared):Prop:=
 ∃ (it:Addr) (fp:List Addr) (tn:Nat→Heap→Prop) (J:It) (H':Hp),itv=.ref it∧Inv X pins σ H' s2∧Turn X.prog X.w X.K tg J fp it tn∧tn 0 s2.heap∧(∀ b∈fp,FpOk X pins H' b)∧R J H'
def PI (X:Cx) (tg iter:Expr) (wi:TI):Prop:=
 ∀ (pins:List (Addr×Obj)) (s:Shared) (σ:St) (H:Hp) (R:It→Hp→Prop),Inv X pins σ H s→wi σ H R →
  wpAny (model X.prog X.w) X.A (eval iter X.env) (fun v s1=>wpAny (model X.prog X.w) X.A (pyIter v) (PIE X pins σ tg R) X.xe s1) X.xe s
theorem go_of {M:Model} {A:Around} {E:Value→Shared→Prop} {s:Shared} {tg:Expr} {it:Addr} {u:Value} {o:Obj} {n:String} {vs:Array Value} {Q:Unit→Shared→Prop} (ho:s.heap.get? it=some o) (hc:o.cls=.type n) (hd:o.data=.fields vs)
  (hn:["enumerate", "zip", "dict_itemiterator", "dict_reverseitemiterator", "odict_iterator", "itertools.zip_longest", "itertools.pairwise"].contains n=false) (hQ:Q () s):wpAny M A (letOwnedTupleGo tg (.ref it) u) Q E s:=by
 unfold letOwnedTupleGo
 cases tg<;>first
  | exact wpAny_pure hQ
  | (cases u<;>first
    | exact wpAny_pure hQ
    | (refine wpAny_bind (wpAny_load ho ?_);rw [hc,hd];show wpAny M A (if (["enumerate", "zip", "dict_itemiterator", "dict_reverseitemiterator", "odict_iterator", "itertools.zip_longest", "itertools.pairwise"].contains n&&vs[0]?==some (rawInt _))=true then _ else _) Q E s;rw [if_neg (by intro h;rw [hn,Bool.false_and] at h;cases h)];exact wpAny_pure hQ))
def Itl (K:PySem.W.Frag) (a:Addr):It:=
 ⟨fun i H=>∃ xs x,SqL K H a xs∧xs[i]?=some x,fun i H x H'=>H'=H∧∀ xs,SqL K H a xs→xs[i]?=some x,fun i H=>∃ xs,SqL K H a xs∧xs.length≤i⟩
def Itt (K:PySem.W.Frag) (a:Addr):It:=
 ⟨fun i H=>∃ xs x,SqT K H a xs∧xs[i]?=some x,fun i H x H'=>H'=H∧∀ xs,SqT K H a xs→xs[i]?=some x,fun i H=>∃ xs,SqT K H a xs∧xs.length≤i⟩
def Itr (lo:Int) (n:Nat):It:=⟨fun i _=>i<n,fun i H x H'=>H'=H∧x=.int (lo+i),fun i _=>n≤i⟩
theorem turn_list {P:Program} {w:World} {K:PySem.W.Frag} {tg:Expr} (a it:Addr):Turn P w K tg (Itl K a) [it] it (fun i h=>h.IsListIter it a i) where
 mem:=by simp
 obj:=fun i h st b hb=>by
  have e:b=it:=by simpa using hb
  subst e
  obtain ⟨o,e,c,d⟩:=st
  exact ⟨o,e,fun v z=>by rw [d] at z;cases z⟩
 keep:=fun i h h' st k=>st.at fun o e=>k it (by simp) o e
 item:=by
  intro X hP hw hK hc i pins s σ H E I hf st hg
  subst hP hw hK
  obtain ⟨xs,x,hq,hx⟩:=hg
  obtain ⟨its,rv,p,hz⟩:=I.list hq
  obtain ⟨u,hu,ru⟩:=rv.get hx
  obtain ⟨f0,f1,f2,f3,f4,f5⟩:=hf it (by simp)
  refine wpAny_pyNext_list_item st p.isList (x:=u) (by simpa using hu) fun h' st' sb=>?_
  have I1:Inv X pins σ H { s with heap:=h' }:=I.turned (t':=s.toks) (fun b o hb e=>(sb.2 b hb).trans e) f0 f1 f3 f4 f5
  obtain ⟨o,e,c,d⟩:=id st'
  exact ⟨u,rfl,go_of (s:={ s with heap:=h' }) e c d (by decide) ⟨x,H,I1,ru,⟨rfl,fun ys hy=>by rw [I.list_inj hy hq];exact hx⟩,st',fun b hb=>(hf b hb).1⟩⟩
 done:=by
  intro X hP hw hK hc i pins s σ H E I hf st hg
  subst hP hw hK
  obtain ⟨xs,hq,hx⟩:=hg
  obtain ⟨its,rv,p,hz⟩:=I.list hq
  obtain ⟨f0,f1,f2,f3,f4,f5⟩:=hf it (by simp)
  have hl:=rv.length
  exact wpAny_pyNext_list_end (I.ok.hd hc) st p.isList (by simp;omega) fun h' eb=>⟨rfl,I.turned (t':=s.toks) (fun b o hb e=>eb b o hb e) f0 f1 f3 f4 f5⟩
 self:=fun _ _ _ _ _ st h=>wpAny_pyIter_listiter st h
theorem turn_tuple {P:Program} {w:World} {K:PySem.W.Frag} {tg:Expr} (a it:Addr):Turn P w K tg (Itt K a) [it] it (fun i h=>h.IsTupleIter it a i) where
 mem:=by simp
 obj:=fun i h st b hb=>by
  have e:b=it:=by simpa using hb
  subst e
  obtain ⟨o,e,c,d⟩:=st
  exact ⟨o,e,fun v z=>by rw [d] at z;cases z⟩
 keep:=fun i h h' st k=>st.at fun o e=>k it (by simp) o e
 item:=by
  intro X hP hw hK hc i pins s σ H E I hf st hg
  subst hP hw hK
  obtain ⟨xs,x,hq,hx⟩:=hg
  obtain ⟨its,rv,p,hz⟩:=I.tuple hq
  obtain ⟨u,hu,ru⟩:=rv.get hx
  obtain ⟨f0,f1,f2,f3,f4,f5⟩:=hf it (by simp)
  refine wpAny_pyNext_tuple_item st (show s.heap.IsTuple a its.toArray from p) (x:=u) (by simpa using hu) fun h' st' sb=>?_
  have I1:Inv X pins σ H { s with heap:=h' }:=I.turned (t':=s.toks) (fun b o hb e=>(sb.2 b hb).trans e) f0 f1 f3 f4 f5
  obtain ⟨o,e,c,d⟩:=id st'
  exact ⟨u,rfl,go_of (s:={ s with heap:=h' }) e c d (by decide) ⟨x,H,I1,ru,⟨rfl,fun ys hy=>by rw [I.tuple_inj hy hq];exact hx⟩,st',fun b hb=>(hf b hb).1⟩⟩
 done:=by
  intro X hP hw hK hc i pins s σ H E I hf st hg
  subst hP hw hK
  obtain ⟨xs,hq,hx⟩:=hg
  obtain ⟨its,rv,p,hz⟩:=I.tuple hq
  obtain ⟨f0,f1,f2,f3,f4,f5⟩:=hf it (by simp)
  have hl:=rv.length
  exact wpAny_pyNext_tuple_end (I.ok.hd hc) st (show s.heap.IsTuple a its.toArray from p) (by simp;omega) fun h' eb=>⟨rfl,I.turned (t':=s.toks) (fun b o hb e=>eb b o hb e) f0 f1 f3 f4 f5⟩
 self:=fun _ _ _ _ _ st h=>wpAny_pyIter_tupleiter st h
theorem turn_range {P:Program} {w:World} {K:PySem.W.Frag} {tg:Expr} (it:Addr) (lo:Int) (n:Nat):Turn P w K tg (Itr lo n) [it] it (fun i h=>IsRangeIter h it (lo+(i:Nat)*1) ((n:Int) - (i:Nat)) 1) where
 mem:=by simp
 obj:=fun i h st b hb=>by
  have e:b=it:=by simpa using hb
  subst e
  exact ⟨_,st,fun v z=>by
   have z':Data.fields _=Data.cell v:=z
   cases z'⟩
 keep:=fun i h h' st k=>k it (by simp) _ st
 item:=by
  intro X hP hw hK hc i pins s σ H E I hf st hg
  subst hP hw hK
  obtain ⟨f0,f1,f2,f3,f4,f5⟩:=hf it (by simp)
  have W:=Walks.range (prog:=X.prog) (w:=X.w) (I.ok.hd hc) it lo 1 n
  refine W.item i s _ _ hg st fun v h' tk hv st' kk=>?_
  obtain ⟨t,rfl⟩:=hv
  have I1:Inv X pins σ H { s with heap:=h',toks:=tk }:=I.turned (fun b o hb e=>kk b o (by simpa using hb) e) f0 f1 f3 f4 f5
  refine ⟨_,rfl,go_of (s:={ s with heap:=h',toks:=tk }) (n := "range_iterator") st' rfl rfl (by decide) ⟨.int (lo+i),H,I1,⟨t,?_⟩,⟨rfl,rfl⟩,st',fun b hb=>(hf b hb).1⟩⟩
  rw [Int.mul_one]
 done:=by
  intro X hP hw hK hc i pins s σ H E I hf st hg
  subst hP hw hK
  obtain ⟨f0,f1,f2,f3,f4,f5⟩:=hf it (by simp)
  exact wpAny_pyNext_range_end (I.ok.hd hc) st (by have:n≤i:=hg;omega) fun h' eb=>⟨rfl,I.turned (t':=s.toks) (fun b o hb e=>eb b o hb e) f0 f1 f3 f4 f5⟩
 self:=fun _ _ _ _ _ st h=>wpAny_pyIter_rangeiter st h
section
variable {X:Cx} {tg:Expr}
def iList (K:PySem.W.Frag) (tl:TE):TI:=fun σ H R=>tl σ H fun x H1=>∃ a,x=.ref a∧(∃ xs,SqL K H1 a xs)∧R (Itl K a) H1
def iTup (K:PySem.W.Frag) (tl:TE):TI:=fun σ H R=>tl σ H fun x H1=>∃ a,x=.ref a∧(∃ xs,SqT K H1 a xs)∧R (Itt K a) H1
theorem pi_list {l:Expr} {tl:TE} (hl:PE X l tl):PI X tg l (iList X.K tl):=by
 intro pins s σ H R I h
 refine thn (hl pins s σ H _ I h) fun v s1 ⟨x,H1,I1,r1,q1⟩=>?_
 obtain ⟨a,e,⟨xs,hq⟩,q⟩:=q1
 subst e
 cases r1
 obtain ⟨its,rv,p,hz⟩:=I1.list hq
 refine wpAny_pyIter_list p.isList ?_
 refine ⟨s1.heap.objs.size,[s1.heap.objs.size],_,_,H1,rfl,I1.kept (t':=s1.toks) fun b o e=>Heap.get?_push_of_some _ e,turn_list a _,⟨_,Heap.get?_push_size _ rfl,rfl,rfl⟩,fun b hb=>?_,q⟩
 have e:b=s1.heap.objs.size:=by simpa using hb
 subst e
 exact I1.fpOk (Nat.le_refl _) (I1.hok.fresh (Nat.le_refl _))
theorem pi_tup {l:Expr} {tl:TE} (hl:PE X l tl):PI X tg l (iTup X.K tl):=by
 intro pins s σ H R I h
 refine thn (hl pins s σ H _ I h) fun v s1 ⟨x,H1,I1,r1,q1⟩=>?_
 obtain ⟨a,e,⟨xs,hq⟩,q⟩:=q1
 subst e
 cases r1
 obtain ⟨its,rv,p,hz⟩:=I1.tuple hq
 refine wpAny_pyIter_tuple (show s1.heap.IsTuple a its.toArray from p) ?_
 refine ⟨s1.heap.objs.size,[s1.heap.objs.size],_,_,H1,rfl,I1.kept (t':=s1.toks) fun b o e=>Heap.get?_push_of_some _ e,turn_tuple a _,⟨_,Heap.get?_push_size _ rfl,rfl,rfl⟩,fun b hb=>?_,q⟩
 have e:b=s1.heap.objs.size:=by simpa using hb
 subst e
 exact I1.fpOk (Nat.le_refl _) (I1.hok.fresh (Nat.le_refl _))
theorem range_it {pins:List (Addr×Obj)} {σ:St} {H:Hp} {s:Shared} {R:It→Hp→Prop} {E:Value→Shared→Prop} {lo hi:Int} {t u v:Tok} {tk:Nat} (I:Inv X pins σ H s) (h1:-(2 ^ 62)≤lo) (h2:lo<2 ^ 62) (h3:-(2 ^ 62)≤hi) (h4:hi<2 ^ 62)
  (q:R (Itr lo (hi - lo).toNat) H):wpAny (model X.prog X.w) X.A (pyIter (.ref s.heap.objs.size)) (PIE X pins σ tg R) E { s with heap:=s.heap.push { cls:=.type "range", data:=.fields #[.int lo t,.int hi u,.int 1 v] },toks:=tk }:=by
 refine wpAny_pyIter_range (IsRange.new ..) (small_one h1 h2 h3 h4) ?_
 have I1:Inv X pins σ H { s with heap:=s.heap.push { cls:=.type "range", data:=.fields #[.int lo t,.int hi u,.int 1 v] },toks:=tk }:=I.kept fun b o e=>Heap.get?_push_of_some _ e
 refine ⟨(s.heap.push { cls:=.type "range", data:=.fields #[.int lo t,.int hi u,.int 1 v] }).objs.size,[(s.heap.push { cls:=.type "range", data:=.fields #[.int lo t,.int hi u,.int 1 v] }).objs.size],_,_,H,rfl,
  I1.kept (t':=tk) fun b o e=>Heap.get?_push_of_some _ e,turn_range _ lo (hi - lo).toNat,?_,fun b hb=>?_,q⟩
 ·have e1:lo+((0:Nat):Int)*1=lo:=by simp
  have e2:(((hi - lo).toNat:Nat):Int) - ((0:Nat):Int)=Builtin.Range.rangeSize lo hi 1:=by rw [rangeSize_one];split<;>omega
  show IsRangeIter _ _ (lo+((0:Nat):Int)*1) ((((hi - lo).toNat:Nat):Int) - ((0:Nat):Int)) 1
  rw [e1,e2]
  exact Heap.get?_push_size _ rfl
 ·have e:b=(s.heap.push { cls:=.type "range", data:=.fields #[.int lo t,.int hi u,.int 1 v] }).objs.size:=by simpa using hb
  subst e
  exact I1.fpOk (Nat.le_refl _) (I1.hok.fresh (Nat.le_refl _))
def iRng1 (ta:TA):TI:=fun σ H R=>ta σ H fun vs H1=>∃ j:Int,vs=[.int j]∧-(2 ^ 62)≤j∧j<2 ^ 62∧R (Itr 0 j.toNat) H1
theorem pi_range1 {a:Expr} {ta:TA} {p pos:Pos} (hg:Gl X "range") (hm:X.mg "range" = none) (ha:PA X [a] ta) (hs:starEach [a] X.env=[(false,eval a X.env)]:=by rfl):PI X tg (.Call (.Name "range" p) [a] [] pos) (iRng1 ta):=by
 intro pins s σ H R I h
 refine Call_ (gO I hg hm boot_range (PyProof.Rows.callWith_type1 (thn (ha pos pins s σ H _ I h) fun us s1 ⟨vs,H1,I1,r1,q1⟩=>?_) hs rfl))
 obtain ⟨j,e,q1,q2,q⟩:=q1
 subst e
 cases r1 with
 | cons r rr=>
  cases rr
  obtain ⟨t,rfl⟩:=r
  exact call_range_1 (range_it I1 (by omega) (by omega) q1 q2 (by simpa using q))
def tFor (wi:TI) (g:TG) (tb:TS):TS:=fun D σ H=>wi σ H fun J H1=>∃ W:Nat→Nat→St→Hp→Prop,(∃ m,W 0 m σ H1)∧∀ i m σ H,W i m σ H →
 (J.stop i H∧D.nx σ H)∨(J.go i H∧∃ N:St→Hp→Prop,(∀ σ' H',N σ' H'→∃ m',m'<m∧W (i+1) m' σ' H')∧∀ x H',J.yld i H x H'→g x σ H' fun σ2 H2=>tb { D with nx:=N,ct:=N,bk:=D.nx } σ2 H2)
def nR (fp:List Addr) (h:Heap):List (Addr×Obj):=fp.filterMap fun b=>(h.get? b).map fun o=>(b,o)
theorem iI {fp:List Addr} {h:Heap} {b:Addr} {o:Obj} (hb:b∈fp) (e:h.get? b=some o):(b,o)∈nR fp h:=List.mem_filterMap.mpr ⟨b,hb,by rw [e];rfl⟩
theorem of_pinsAt {fp:List Addr} {h:Heap} {p:Addr×Obj} (hp:p∈nR fp h):p.1∈fp∧h.get? p.1=some p.2:=by
 obtain ⟨b,hb,e⟩:=List.mem_filterMap.mp hp
 cases q:h.get? b with
 | none=>rw [q] at e;cases e
 | some o=>
  rw [q] at e
  have e':(b,o)=p:=Option.some.inj e
  subst e'
  exact ⟨hb,q⟩
theorem Inv.pinned {pins:List (Addr×Obj)} {σ:St} {H:Hp} {s:Shared} {fp:List Addr} (I:Inv X pins σ H s) (hf:∀ b∈fp,FpOk X pins H b) (ho:∀ b∈fp,∃ o,s.heap.get? b=some o∧∀ v,o.data≠.cell v):Inv X (pins++nR fp s.heap) σ H s:=
 I.pins_of fun p hp=>(List.mem_append.mp hp).elim (fun z=>I.pin p (List.mem_append_right _ z)) fun z=>by
  obtain ⟨hb,e⟩:=of_pinsAt z
  obtain ⟨f0,f1,f2,_⟩:=hf p.1 hb
  obtain ⟨o,e',d⟩:=ho p.1 hb
  rw [e] at e';cases e'
  exact ⟨e,f0,f1,f2,d⟩
theorem Inv.unpinned {pins pl:List (Addr×Obj)} {σ:St} {H:Hp} {s:Shared} (I:Inv X (pins++pl) σ H s):Inv X pins σ H s:=I.pins_of fun p hp=>I.pin p (List.mem_append_right _ (List.mem_append_left _ hp))
theorem ps_for {iter:Expr} {body:List Stmt} {wi:TI} {g:TG} {tb:TS} {pos:Pos} (hp:PassesOwn (model X.prog X.w) X.A X.env X.xe) (hc:X.calm=true) (hi:PI X tg iter wi) (hg:PG X tg g) (hb:PSs X body tb)
  (hs:∀ x,foldedSetIterable iter X.env x=pure x:=by intro _;rfl):PS X (.For tg iter body [] pos) (tFor wi g tb):=by
 intro pins s σ H D I h
 refine wpAny_For (thn (hi pins s σ H _ I h) fun v s1 h1=>thn h1 fun itv s2 h2=>?_) hs
 obtain ⟨it,fp,tn,J,H2,e,I2,T,st2,f2,W,⟨m0,w0⟩,turn⟩:=h2
 subst e
 -- what stays true of the iterator's objects through the loop
 have stat:∀ {H':Hp},(∀ b∈fp,H' b=none)→∀ b∈fp,FpOk X pins H' b:=fun hn b hb=>⟨hn b hb,(f2 b hb).2⟩
 refine codeAny_forLoop_any (fun n s'=>∃ i σ' H',Inv X pins σ' H' s'∧tn i s'.heap∧(∀ b∈fp,H' b=none)∧W i n σ' H') ?_ m0 ⟨0,σ,H2,I2,st2,fun b hb=>(f2 b hb).1,w0⟩
 rintro n s3 ⟨i,σ3,H3,I3,st3,fr3,w3⟩
 rcases turn i n σ3 H3 w3 with ⟨stop,qn⟩ | ⟨go,N,hN,step⟩
 ·refine wpAny_passesOwn hp (thn (T.done X rfl rfl rfl hc i pins s3 σ3 H3 X.xe I3 (stat fr3) st3 stop) fun r s4 ⟨hr,I4⟩=>?_)
  subst hr
  exact wpAny_execs_nil ⟨σ3,H3,I4,qn⟩
 ·refine wpAny_passesOwn hp (thn (T.item X rfl rfl rfl hc i pins s3 σ3 H3 X.xe I3 (stat fr3) st3 go) fun r s4 ⟨u,hr,h4⟩=>?_)
  subst hr
  refine wpAny_passesOwn hp (thn h4 fun _ s5 ⟨x,H5,I5,r5,y5,st5,fr5⟩=>?_)
  have I5':=I5.pinned (stat fr5) (T.obj _ _ st5)
  refine wpAny_passesOwn hp (thn (hg _ s5 σ3 H5 x u _ I5' r5 (step x H5 y5)) fun _ s6 ⟨σ6,H6,I6,q6⟩=>?_)
  refine wpAny_passesOwn hp (thn (hb _ s6 σ6 H6 _ I6 q6) fun f s7 q7=>?_)
  have again:∀ {σ7:St} {H7:Hp},Inv X (pins++nR fp s5.heap) σ7 H7 s7→N σ7 H7→∃ m,m<n∧∃ i σ' H',Inv X pins σ' H' s7∧tn i s7.heap∧(∀ b∈fp,H' b=none)∧W i m σ' H':=fun {σ7 H7} I7 n7=>by
   obtain ⟨m',hm,w7⟩:=hN σ7 H7 n7
   refine ⟨m',hm,i+1,σ7,H7,I7.unpinned,T.keep _ _ _ st5 fun b hb o e=>(I7.pin (b,o) (List.mem_append_right _ (List.mem_append_right _ (iI hb e)))).1,fun b hb=>?_,w7⟩
   obtain ⟨o,e,d⟩:=T.obj _ _ st5 b hb
   exact (I7.pin (b,o) (List.mem_append_right _ (List.mem_append_right _ (iI hb e)))).2.1
  cases f with
  | next=>obtain ⟨σ7,H7,I7,n7⟩:=q7;exact again I7 n7
  | cont=>obtain ⟨σ7,H7,I7,n7⟩:=q7;exact again I7 n7
  | brk=>obtain ⟨σ7,H7,I7,q7⟩:=q7;exact ⟨σ7,H7,I7.unpinned,q7⟩
  | ret v=>obtain ⟨x7,σ7,H7,I7,r7,q7⟩:=q7;exact ⟨x7,σ7,H7,I7.unpinned,r7,q7⟩
end
abbrev R2:=V→V→Hp→VK→Prop
def OpR (X:Cx) (f:Value→Value→Sem Value) (r:R2):Prop:=
 ∀ (pins:List (Addr×Obj)) (s:Shared) (σ:St) (H:Hp) (x y:V) (v u:Value) (Q:VK),Inv X pins σ H s→RelV x v→RelV y u→r x y H Q →
  wpAny (model X.prog X.w) X.A (f v u) (EP X pins σ Q) X.xe s
def UnR (X:Cx) (f:Value→Sem Value) (r:V→Hp→VK→Prop):Prop:=
 ∀ (pins:List (Addr×Obj)) (s:Shared) (σ:St) (H:Hp) (x:V) (v:Value) (Q:VK),Inv X pins σ H s→RelV x v→r x H Q →
  wpAny (model X.prog X.w) X.A (f v) (EP X pins σ Q) X.xe s
def eB (X:Cx) (f:Value) (r:List V→Hp→VK→Prop):Prop:=
 ∀ (pins:List (Addr×Obj)) (s:Shared) (σ:St) (H:Hp) (xs:List V) (us:List Value) (Q:VK),Inv X pins σ H s→aV xs us→r xs H Q →
  wpAny (model X.prog X.w) X.A (call f us) (EP X pins σ Q) X.xe s
def TruR (X:Cx) (r:V→Hp→(Bool→Hp→Prop)→Prop):Prop:=
 ∀ (pins:List (Addr×Obj)) (s:Shared) (σ:St) (H:Hp) (x:V) (v:Value) (Q:Bool→Hp→Prop),Inv X pins σ H s→RelV x v→r x H Q →
  wpAny (model X.prog X.w) X.A (truthy v) (TP X pins σ Q) X.xe s
def tOp (r:R2) (ta tb:TE):TE:=fun σ H Q=>ta σ H fun x H1=>tb σ H1 fun y H2=>r x y H2 Q
def tUn (r:V→Hp→VK→Prop) (ta:TE):TE:=fun σ H Q=>ta σ H fun x H1=>r x H1 Q
def rI (C:Int→Int→Prop) (g:Int→Int→V):R2:=fun x y H Q=>∃ i j,x=.int i∧y=.int j∧C i j∧Q (g i j) H
def rI0 (g:Int→Int→V):R2:=fun x y H Q=>∃ i j,x=.int i∧y=.int j∧Q (g i j) H
def rU (g:Int→V):V→Hp→VK→Prop:=fun x H Q=>∃ i,x=.int i∧Q (g i) H
section
variable {X:Cx} {a b c:Expr} {ta tb tc:TE} {pos:Pos}
theorem binT (ha:PE X a ta) (hb:PE X b tb) {pins:List (Addr×Obj)} {s:Shared} {σ:St} {H:Hp} {R:V→V→Hp→Prop} (I:Inv X pins σ H s)
  (h:ta σ H fun x H1=>tb σ H1 fun y H2=>R x y H2) {Q:Value→Shared→Prop} {f:Value→Value→Sem Value}
  (hf:∀ v u s2 x y H2,Inv X pins σ H2 s2→RelV x v→RelV y u→R x y H2→wpAny (model X.prog X.w) X.A (f v u) Q X.xe s2) :
  wpAny (model X.prog X.w) X.A (eval a X.env) (fun v s₁=>wpAny (model X.prog X.w) X.A (eval b X.env) (fun u s₂=>wpAny (model X.prog X.w) X.A (f v u) Q X.xe s₂) X.xe s₁) X.xe s:=by
 refine thn (ha pins s σ H _ I h) fun v s1 ⟨x,H1,I1,r1,q1⟩=>?_
 refine thn (hb pins s1 σ H1 _ I1 q1) fun u s2 ⟨y,H2,I2,r2,q2⟩=>?_
 exact hf v u s2 x y H2 I2 r1 r2 q2
theorem pe_op {op:Operator} {r:R2} (ho:OpR X (binaryOp op) r) (ha:PE X a ta) (hb:PE X b tb):PE X (.BinOp a op b pos) (tOp r ta tb):=by
 intro pins s σ H Q I h
 exact wpAny_BinOp (binT ha hb I h fun v u s2 x y H2 I2 rx ry q=>ho pins s2 σ H2 x y v u Q I2 rx ry q)
theorem pe_un {op:UnaryOp} {r:V→Hp→VK→Prop} (ho:UnR X (unaryOp op) r) (ha:PE X a ta):PE X (.UnaryOp op a pos) (tUn r ta):=by
 intro pins s σ H Q I h
 exact UnaryOp_ (thn (ha pins s σ H _ I h) fun v s1 ⟨x,H1,I1,r1,q1⟩=>ho pins s1 σ H1 x v Q I1 r1 q1)
theorem opI {f:Value→Value→Sem Value} {C:Int→Int→Prop} {g:Int→Int→Int}
  (rule:∀ (i j:Int) (t u:Tok) (s:Shared) (Q:Value→Shared→Prop) (E:Value→Shared→Prop),C i j→Q (.int (g i j) s.toks) { s with toks:=s.toks+1 }→wpAny (model X.prog X.w) X.A (f (.int i t) (.int j u)) Q E s) :
  OpR X f (rI C fun i j=>.int (g i j)):=by
 intro pins s σ H x y v u Q I rx ry h
 obtain ⟨i,j,rfl,rfl,hc,q⟩:=h
 obtain ⟨t,rfl⟩:=rx
 obtain ⟨t',rfl⟩:=ry
 exact rule i j t t' s _ _ hc ⟨.int (g i j),H,I.tok _,⟨_,rfl⟩,q⟩
theorem opI0 {f:Value→Value→Sem Value} {g:Int→Int→Int}
  (rule:∀ (i j:Int) (t u:Tok) (s:Shared) (Q:Value→Shared→Prop) (E:Value→Shared→Prop),Q (.int (g i j) s.toks) { s with toks:=s.toks+1 }→wpAny (model X.prog X.w) X.A (f (.int i t) (.int j u)) Q E s) :
  OpR X f (rI0 fun i j=>.int (g i j)):=by
 intro pins s σ H x y v u Q I rx ry h
 obtain ⟨i,j,rfl,rfl,q⟩:=h
 obtain ⟨t,rfl⟩:=rx
 obtain ⟨t',rfl⟩:=ry
 exact rule i j t t' s _ _ ⟨.int (g i j),H,I.tok _,⟨_,rfl⟩,q⟩
theorem opB0 {f:Value→Value→Sem Value} {g:Int→Int→Bool}
  (rule:∀ (i j:Int) (t u:Tok) (s:Shared) (Q:Value→Shared→Prop) (E:Value→Shared→Prop),Q (.bool (g i j)) s→wpAny (model X.prog X.w) X.A (f (.int i t) (.int j u)) Q E s) :
  OpR X f (rI0 fun i j=>.bl (g i j)):=by
 intro pins s σ H x y v u Q I rx ry h
 obtain ⟨i,j,rfl,rfl,q⟩:=h
 obtain ⟨t,rfl⟩:=rx
 obtain ⟨t',rfl⟩:=ry
 exact rule i j t t' s _ _ ⟨.bl (g i j),H,I,rfl,q⟩
def CDiv (i j:Int):Prop:=0<j∧j<1073741824
def CMul (i j:Int):Prop:=(-(2 ^ 64)<i∧i<2 ^ 64)∨(-(2 ^ 64)<j∧j<2 ^ 64)
theorem CMul.ok {i j:Int} (h:CMul i j):IntMulOk i j:=by
 rcases h with ⟨h1,h2⟩ | ⟨h1,h2⟩
 ·exact .of_left (intBits_le_64 h1 h2)
 ·exact .of_right (intBits_le_64 h1 h2)
theorem op_add:OpR X (binaryOp .Add) (rI0 fun i j=>.int (i+j)):=opI0 fun _ _ _ _ _ _ _ q=>add_int q
theorem op_sub:OpR X (binaryOp .Sub) (rI0 fun i j=>.int (i - j)):=opI0 fun _ _ _ _ _ _ _ q=>sub_int q
theorem op_mul:OpR X (binaryOp .Mult) (rI CMul fun i j=>.int (i*j)):=opI fun _ _ _ _ _ _ _ hc q=>mul_int q hc.ok
theorem op_fdiv:OpR X (binaryOp .FloorDiv) (rI CDiv fun i j=>.int (i / j)):=opI fun i j _ _ _ _ _ hc q=>by
 have h1:(0:Int)<j:=hc.1
 have h2:j<1073741824:=hc.2
 exact floordiv_int (by omega) (by rw [Int.fdiv_eq_ediv_of_nonneg i (by omega)];exact q) (.inl (PyProof.noPylong_small (by omega)))
theorem op_mod:OpR X (binaryOp .Mod) (rI (fun _ j=>0<j) fun i j=>.int (i % j)):=opI fun i j _ _ _ _ _ hc q=>by
 have h1:(0:Int)<j:=hc
 exact mod_int' (by omega) (by rw [Int.fmod_eq_emod_of_nonneg i (by omega)];exact q)
theorem unI {f:Value→Sem Value} {g:Int→Int}
  (rule:∀ (i:Int) (t:Tok) (s:Shared) (Q:Value→Shared→Prop) (E:Value→Shared→Prop),Q (.int (g i) s.toks) { s with toks:=s.toks+1 }→wpAny (model X.prog X.w) X.A (f (.int i t)) Q E s) :
  UnR X f (rU fun i=>.int (g i)):=by
 intro pins s σ H x v Q I rx h
 obtain ⟨i,rfl,q⟩:=h
 obtain ⟨t,rfl⟩:=rx
 exact rule i t s _ _ ⟨.int (g i),H,I.tok _,⟨_,rfl⟩,q⟩
theorem un_neg:UnR X (unaryOp .USub) (rU fun i=>.int (-i)):=unI fun _ _ _ _ _ q=>neg_int q
end
def scal:V→V→Bool
 | .non,.non=>true | .non,.int _=>true | .int _,.non=>true | .non,.bl _=>true | .bl _,.non=>true | .non,.str _=>true | .str _,.non=>true
 | .int _,.int _=>true | .bl _,.bl _=>true | .str _,.str _=>true | .byt _,.byt _=>true
 | .int _,.str _=>true | .str _,.int _=>true | .bl _,.str _=>true | .str _,.bl _=>true
 | _,_=>false
def rEq:R2:=fun x y H Q=>scal x y=true∧Q (.bl (decide (x=y))) H
def rNe:R2:=fun x y H Q=>scal x y=true∧Q (.bl (!decide (x=y))) H
theorem dec_int {i j:Int}:decide (V.int i=V.int j)=(i==j):=by
 rw [Bool.eq_iff_iff]
 simp
theorem dec_bl {i j:Bool}:decide (V.bl i=V.bl j)=(i==j):=by
 rw [Bool.eq_iff_iff]
 simp
theorem dec_str {i j:Str}:decide (V.str i=V.str j)=(i==j):=by
 rw [Bool.eq_iff_iff]
 simp
theorem dec_byt {i j:Array UInt8}:decide (V.byt i=V.byt j)=(i.toList==j.toList):=by
 rw [Bool.eq_iff_iff]
 cases i
 cases j
 simp
section
variable {X:Cx} {a b c:Expr} {ta tb tc:TE} {pos:Pos}
theorem aW {pins:List (Addr×Obj)} {σ:St} {H:Hp} {s:Shared} {Q:VK} {k k':Bool} (I:Inv X pins σ H s) (q:Q (.bl k) H) (e:k=k'):EP X pins σ Q (.bool k') s:=by
 subst e
 exact ⟨.bl k,H,I,rfl,q⟩
theorem op_eq:OpR X (compareOp .Eq) rEq:=by
 intro pins s σ H x y v u Q I rx ry h
 obtain ⟨hs,q⟩:=h
 cases x with
 | non=>
  cases rx
  cases y with
  | non=>cases ry;exact PySem.EqNone.eq_none_none (aW I q (by simp))
  | bl j=>cases ry;exact PySem.EqNone.eq_none_bool (aW I q (by simp))
  | int j=>obtain ⟨t',rfl⟩:=ry;exact PySem.EqNone.eq_none_int (aW I q (by simp))
  | str j=>obtain ⟨t',rfl⟩:=ry;exact PySem.EqNone.eq_none_str (aW I q (by simp))
  | _=>exact absurd (show false=true from hs) Bool.false_ne_true
 | bl i=>
  cases rx
  cases y with
  | non=>cases ry;exact PySem.EqNone.eq_bool_none (aW I q (by simp))
  | bl j=>cases ry;exact eq_bool (aW I q dec_bl)
  | str j=>obtain ⟨t',rfl⟩:=ry;exact PySem.EqMixed.eq_bool_str (aW I q (by simp))
  | _=>exact absurd (show false=true from hs) Bool.false_ne_true
 | int i=>
  obtain ⟨t,rfl⟩:=rx
  cases y with
  | non=>cases ry;exact PySem.EqNone.eq_int_none (aW I q (by simp))
  | int j=>obtain ⟨t',rfl⟩:=ry;exact eq_int (aW I q dec_int)
  | str j=>obtain ⟨t',rfl⟩:=ry;exact PySem.EqMixed.eq_int_str (aW I q (by simp))
  | _=>exact absurd (show false=true from hs) Bool.false_ne_true
 | str i=>
  obtain ⟨t,rfl⟩:=rx
  cases y with
  | non=>cases ry;exact PySem.EqNone.eq_str_none (aW I q (by simp))
  | bl j=>cases ry;exact PySem.EqMixed.eq_str_bool (aW I q (by simp))
  | int j=>obtain ⟨t',rfl⟩:=ry;exact PySem.EqMixed.eq_str_int (aW I q (by simp))
  | str j=>obtain ⟨t',rfl⟩:=ry;exact eq_str (aW I q dec_str)
  | _=>exact absurd (show false=true from hs) Bool.false_ne_true
 | byt i=>
  obtain ⟨t,rfl⟩:=rx
  cases y with
  | byt j=>obtain ⟨t',rfl⟩:=ry;exact PySem.W.eq_bytes (aW I q dec_byt)
  | _=>exact absurd (show false=true from hs) Bool.false_ne_true
 | _=>cases y<;>exact absurd (show false=true from hs) Bool.false_ne_true
theorem op_ne:OpR X (compareOp .NotEq) rNe:=by
 intro pins s σ H x y v u Q I rx ry h
 obtain ⟨hs,q⟩:=h
 cases x with
 | non=>
  cases rx
  cases y with
  | non=>cases ry;exact PySem.EqNone.ne_none_none (aW I q (by simp))
  | bl j=>cases ry;exact PySem.EqNone.ne_none_bool (aW I q (by simp))
  | int j=>obtain ⟨t',rfl⟩:=ry;exact PySem.EqNone.ne_none_int (aW I q (by simp))
  | str j=>obtain ⟨t',rfl⟩:=ry;exact PySem.EqNone.ne_none_str (aW I q (by simp))
  | _=>exact absurd (show false=true from hs) Bool.false_ne_true
 | bl i=>
  cases rx
  cases y with
  | non=>cases ry;exact PySem.EqNone.ne_bool_none (aW I q (by simp))
  | bl j=>cases ry;exact ne_bool (aW I q (congrArg not dec_bl))
  | str j=>obtain ⟨t',rfl⟩:=ry;exact PySem.EqMixed.ne_bool_str (aW I q (by simp))
  | _=>exact absurd (show false=true from hs) Bool.false_ne_true
 | int i=>
  obtain ⟨t,rfl⟩:=rx
  cases y with
  | non=>cases ry;exact PySem.EqNone.ne_int_none (aW I q (by simp))
  | int j=>obtain ⟨t',rfl⟩:=ry;exact ne_int (aW I q (congrArg not dec_int))
  | str j=>obtain ⟨t',rfl⟩:=ry;exact PySem.EqMixed.ne_int_str (aW I q (by simp))
  | _=>exact absurd (show false=true from hs) Bool.false_ne_true
 | str i=>
  obtain ⟨t,rfl⟩:=rx
  cases y with
  | non=>cases ry;exact PySem.EqNone.ne_str_none (aW I q (by simp))
  | bl j=>cases ry;exact PySem.EqMixed.ne_str_bool (aW I q (by simp))
  | int j=>obtain ⟨t',rfl⟩:=ry;exact PySem.EqMixed.ne_str_int (aW I q (by simp))
  | str j=>obtain ⟨t',rfl⟩:=ry;exact ne_str (aW I q (congrArg not dec_str))
  | _=>exact absurd (show false=true from hs) Bool.false_ne_true
 | byt i=>
  obtain ⟨t,rfl⟩:=rx
  cases y with
  | byt j=>obtain ⟨t',rfl⟩:=ry;exact PySem.W.ne_bytes (aW I q (congrArg not dec_byt))
  | _=>exact absurd (show false=true from hs) Bool.false_ne_true
 | _=>cases y<;>exact absurd (show false=true from hs) Bool.false_ne_true
theorem op_lt:OpR X (compareOp .Lt) (rI0 fun i j=>.bl (decide (i<j))):=opB0 fun _ _ _ _ _ _ _ q=>lt_int q
theorem op_le:OpR X (compareOp .LtE) (rI0 fun i j=>.bl (decide (i≤j))):=opB0 fun _ _ _ _ _ _ _ q=>le_int q
theorem op_isN:OpR X (compareOp .Is) (fun x y H Q=>y=.non∧Q (.bl (decide (x=.non))) H):=by
 intro pins s σ H x y v u Q I rx ry h
 obtain ⟨rfl,q⟩:=h
 cases ry
 refine is_none_gen (aW I q ?_)
 cases x<;>first
  | (cases rx;rfl)
  | (obtain ⟨t,rfl⟩:=rx;rfl)
theorem op_notN:OpR X (compareOp .IsNot) (fun x y H Q=>y=.non∧Q (.bl (!decide (x=.non))) H):=by
 intro pins s σ H x y v u Q I rx ry h
 obtain ⟨rfl,q⟩:=h
 cases ry
 refine isnot_none_gen (aW I q ?_)
 cases x<;>first
  | (cases rx;rfl)
  | (obtain ⟨t,rfl⟩:=rx;rfl)
theorem nomark (b:Expr) {op:CmpOp} (h:op≠.In:=by decide) (h2:op≠.NotIn:=by decide):behindInMarks op b=false:=by
 have e1:(op==CmpOp.In)=false:=by cases op<;>first | rfl | exact absurd rfl h
 have e2:(op==CmpOp.NotIn)=false:=by cases op<;>first | rfl | exact absurd rfl h2
 cases b<;>simp [behindInMarks,e1,e2]
theorem pe_cmpR {op:CmpOp} {r:R2} (ho:OpR X (compareOp op) r) (ha:PE X a ta) (hb:PE X b tb) (hm:behindInMarks op b=false):PE X (.Compare a [op] [b] pos) (tOp r ta tb):=by
 intro pins s σ H Q I h
 exact wpAny_Compare1 (binT ha hb I h fun v u s2 x y H2 I2 rx ry q=>ho pins s2 σ H2 x y v u Q I2 rx ry q) hm
def tTest (t:TE):TT:=fun σ H Q=>t σ H fun x H'=>∃ k,x=.bl k∧Q k H'
theorem pt_cmpR {op:CmpOp} {r:R2} (ho:OpR X (compareOp op) r) (ha:PE X a ta) (hb:PE X b tb) (hm:behindInMarks op b=false):PT X (.Compare a [op] [b] pos) (tTest (tOp r ta tb)):=by
 intro pins s σ H Q I h
 refine wpAny_isTrue_Compare1 (thn (ha pins s σ H _ I h) fun v s1 ⟨x,H1,I1,r1,q1⟩=>thn (hb pins s1 σ H1 _ I1 q1) fun u s2 ⟨y,H2,I2,r2,q2⟩=>
  thn (ho pins s2 σ H2 x y v u _ I2 r1 r2 q2) fun c s3 ⟨z,H3,I3,r3,k,e,q3⟩=>?_) hm
 subst e
 cases r3
 exact wpAny_truthy_bool ⟨H3,I3,q3⟩
def tChain (r r':R2) (ta tb tc:TE):TE:=fun σ H Q=>ta σ H fun x H1=>tb σ H1 fun y H2=>r x y H2 fun z H3=>∃ k,z=.bl k ∧
 (if k=true then tc σ H3 fun w' H4=>r' y w' H4 Q else Q (.bl false) H3)
theorem pt_chain {op op':CmpOp} {r r':R2} (ho:OpR X (compareOp op) r) (ho':OpR X (compareOp op') r') (ha:PE X a ta) (hb:PE X b tb) (hc:PE X c tc)
  (hm:lastMarks [op,op'] [b,c]=false:=by with_unfolding_all rfl):PT X (.Compare a [op,op'] [b,c] pos) (tTest (tChain r r' ta tb tc)):=by
 intro pins s σ H Q I h
 refine isTrue_chain (thn (ha pins s σ H _ I h) fun v s1 ⟨x,H1,I1,r1,q1⟩=>test_link (thn (hb pins s1 σ H1 _ I1 q1) fun u s2 ⟨y,H2,I2,r2,q2⟩=>
  thn (ho pins s2 σ H2 x y v u _ I2 r1 r2 q2) fun d s3 ⟨z,H3,I3,r3,k,e,q3⟩=>?_)) hm
 subst e
 cases r3
 refine wpAny_truthy_bool ?_
 cases k with
 | false=>
  obtain ⟨k',e',q'⟩:=q3
  cases e'
  exact ite_ff ⟨H3,I3,q'⟩
 | true=>
  refine ite_tt (test_last (thn (hc pins s3 σ H3 _ I3 q3) fun w' s4 ⟨z',H4,I4,r4,q4⟩=>thn (ho' pins s4 σ H4 y z' u w' _ I4 r2 r4 q4) fun d' s5 ⟨z2,H5,I5,r5,k2,e2,q5⟩=>?_))
  subst e2
  cases r5
  exact wpAny_truthy_bool ⟨H5,I5,q5⟩
def TruV (K:PySem.W.Frag) (x:V) (H:Hp) (k:Bool):Prop:=
 match x with
 | .non=>k=false
 | .bl b=>k=b
 | .int i=>k=(i != 0)
 | .str y=>y.length≤sizeLine∧k=((y.length:Int) != 0)
 | .byt y=>y.size≤sizeLine∧k=((y.size:Int) != 0)
 | .ref p=>(∃ xs,SqL K H p xs∧k=!xs.isEmpty)∨(∃ xs,SqT K H p xs∧k=!xs.isEmpty)∨∃ kvs,H p=some (.dK kvs)∧k=!kvs.isEmpty
 | _=>False
theorem isEmpty_kv {κ:Type} {kvs:List (κ×V)} {vs:List (κ×Value)} (r:KV kvs vs):(!vs.isEmpty)=!kvs.isEmpty:=by
 cases r<;>rfl
theorem isEmpty_of {xs:List V} {its:List Value} (r:aV xs its):(!its.toArray.isEmpty)=!xs.isEmpty:=by
 cases r<;>simp
theorem line63:(sizeLine:Nat)<2 ^ 63:=by rw [sizeLine_eq];decide
theorem tru_ok:TruR X (fun x H Q=>∃ k,TruV X.K x H k∧Q k H):=by
 intro pins s σ H x v Q I rx h
 obtain ⟨k,e,q⟩:=h
 have hl:=line63
 have hs:sizeLine=16777216:=sizeLine_eq
 cases x with
 | non=>
  cases rx
  have e':k=false:=e
  subst e'
  exact truthy_none ⟨H,I,q⟩
 | bl b=>
  cases rx
  have e':k=b:=e
  subst e'
  exact wpAny_truthy_bool ⟨H,I,q⟩
 | int i=>
  obtain ⟨t,rfl⟩:=rx
  have e':k=(i != 0):=e
  subst e'
  exact PySem.P.truthy_int ⟨H,I,q⟩
 | str y=>
  obtain ⟨t,rfl⟩:=rx
  obtain ⟨hy,e'⟩:y.length≤sizeLine∧k=((y.length:Int) != 0):=e
  subst e'
  exact PySem.P.truthy_str (by omega) ⟨H,I.tok _,q⟩
 | byt y=>
  obtain ⟨t,rfl⟩:=rx
  obtain ⟨hy,e'⟩:y.size≤sizeLine∧k=((y.size:Int) != 0):=e
  subst e'
  exact PySem.W.truthy_bytes (by omega) ⟨H,I.tok _,q⟩
 | ref p=>
  cases rx
  have e':(∃ xs,SqL X.K H p xs∧k=!xs.isEmpty)∨(∃ xs,SqT X.K H p xs∧k=!xs.isEmpty)∨∃ kvs,H p=some (.dK kvs)∧k=!kvs.isEmpty:=e
  rcases e' with ⟨xs,hx,e'⟩ | ⟨xs,hx,e'⟩ | ⟨kvs,hx,e'⟩
  ·subst e'
   obtain ⟨its,r,pl,hz⟩:=I.list hx
   have hlen:=r.length
   exact wpAny_truthy_list pl.isList (by simp only [List.size_toArray];omega) ⟨H,I.tok _,by rw [isEmpty_of r];exact q⟩
  ·subst e'
   obtain ⟨its,r,pl,hz⟩:=I.tuple hx
   have hlen:=r.length
   exact truthy_tuple pl (by simp only [List.size_toArray];omega) ⟨H,I.tok _,by rw [isEmpty_of r];exact q⟩
  ·subst e'
   obtain ⟨hz,hS,vs,r,m⟩:kvs.length≤sizeLine∧(p==sysModules)=false∧∃ vs,KV kvs vs∧s.heap.DictOf (aP X.prog X.w) p vs:=I.hok p _ hx
   have hlen:kvs.length=vs.length:=Paired.length r
   exact wpAny_truthy_dict hS m (by omega) ⟨H,I.tok _,by rw [isEmpty_kv r];exact q⟩
 | _=>exact (show False from e).elim
theorem pt_truth (ha:PE X a ta) (he:∀ whole,isTrue a X.env whole=(do let v ←whole;standAt a.pos;holding [v] (truthy v))) :
  PT X a (fun σ H Q=>ta σ H fun x H'=>∃ k,TruV X.K x H' k∧Q k H'):=by
 intro pins s σ H Q I h
 exact isTrue_plain (thn (ha pins s σ H _ I h) fun v s1 ⟨x,H1,I1,r1,q1⟩=>tru_ok pins s1 σ H1 x v Q I1 r1 q1) (he _)
theorem op_add_str:OpR X (binaryOp .Add) (fun x y H Q=>∃ i j,x=.str i∧y=.str j∧i.length+j.length≤sizeLine∧Q (.str (i++j)) H):=by
 intro pins s σ H x y v u Q I rx ry h
 obtain ⟨i,j,rfl,rfl,hz,q⟩:=h
 obtain ⟨t,rfl⟩:=rx
 obtain ⟨t',rfl⟩:=ry
 exact add_str (fun t' tk=>⟨.str (i++j),H,I.tok _,⟨_,rfl⟩,q⟩) hz
theorem vals1 {x:V} {us:List Value} (r:aV [x] us):∃ u,us=[u]∧RelV x u:=by
 cases r with
 | cons r1 r2=>cases r2;exact ⟨_,rfl,r1⟩
theorem vals2 {x y:V} {us:List Value} (r:aV [x,y] us):∃ u w',us=[u,w']∧RelV x u∧RelV y w':=by
 cases r with
 | cons r1 r2=>
  cases r2 with
  | cons r3 r4=>cases r4;exact ⟨_,_,rfl,r1,r3⟩
theorem call_max2 (hc:X.calm=true):eB X (.builtin "max") (fun xs H Q=>∃ i j,xs=[.int i,.int j]∧Q (.int (if j > i then j else i)) H):=by
 intro pins s σ H xs us Q I r h
 obtain ⟨i,j,rfl,q⟩:=h
 obtain ⟨u,w',rfl,⟨t,rfl⟩,⟨t',rfl⟩⟩:=vals2 r
 refine max_two_ints (I.ok.hd hc) fun h' tk k=>⟨_,H,I.kept k,?_,q⟩
 by_cases hj:j > i
 ·rw [if_pos hj,if_pos hj];exact ⟨_,rfl⟩
 ·rw [if_neg hj,if_neg hj];exact ⟨_,rfl⟩
theorem call_min2 (hc:X.calm=true):eB X (.builtin "min") (fun xs H Q=>∃ i j,xs=[.int i,.int j]∧Q (.int (if j<i then j else i)) H):=by
 intro pins s σ H xs us Q I r h
 obtain ⟨i,j,rfl,q⟩:=h
 obtain ⟨u,w',rfl,⟨t,rfl⟩,⟨t',rfl⟩⟩:=vals2 r
 refine min_two_ints (I.ok.hd hc) fun h' tk k=>⟨_,H,I.kept k,?_,q⟩
 by_cases hj:j<i
 ·rw [if_pos hj,if_pos hj];exact ⟨_,rfl⟩
 ·rw [if_neg hj,if_neg hj];exact ⟨_,rfl⟩
end
structure ObjM (h:Heap) (x dx C:Addr) (mA:Str→Option Value):Prop where
 obj:h.get? x=some (PySem.W.instObj C dx)
 ns:h.Ns1 dx mA
 ne:dx≠x
theorem lookIn_ns {h:Heap} {dx:Addr} {mA:Str→Option Value} (n:h.Ns1 dx mA):∃ od,h.get? dx=some od∧∀ name,PySem.W.lookIn name od=some (mA name):=by
 obtain ⟨o,es,ep,ho,hd,hk,_,hm⟩:=n
 refine ⟨o,ho,fun name=>?_⟩
 have e:=hm name
 unfold nsFind findBy at e
 rw [←Array.find?_toList] at e
 unfold PySem.W.lookIn
 rw [hd]
 dsimp only
 split
 ·rename_i y q
  rw [q] at e
  exact congrArg some e
 ·rename_i q
  rw [q] at e
  have a:es.toList.any (·.refKey)=false:=by
   rw [List.any_eq_false]
   intro y hy
   obtain ⟨z,t,hkey⟩:=hk y (Array.mem_toList_iff.mp hy)
   simp [DictEntry.refKey,hkey]
  have a':¬es.toList.any (·.refKey)=true:=by rw [a];exact Bool.false_ne_true
  rw [if_neg a']
  exact congrArg some e
theorem ObjM.look {h:Heap} {x dx C:Addr} {mA:Str→Option Value} (I:ObjM h x dx C mA):∃ od,PySem.W.InstAt h x (PySem.W.instObj C dx) C (some od)∧∀ name,PySem.W.lookIn name od=some (mA name):=
 let ⟨od,ho,hl⟩:=lookIn_ns I.ns
 ⟨od,⟨I.obj,rfl,rfl,ho⟩,hl⟩
section
variable {prog:Program} {w:World} {A:Around} {E:Value→Shared→Prop} {s:Shared} {K:PySem.W.Frag} {x dx C f:Addr} {mA:Str→Option Value} {name:Str} {v:Value}
end
theorem RelO.some_of {v:V} {o:Option Value} (r:RelO (some v) o):∃ u,o=some u∧RelV v u:=by
 cases o with
 | none=>exact (show False from r).elim
 | some u=>exact ⟨u,rfl,r⟩
section
variable {P:Program} {w:World} {H H':Hp} {h h':Heap} {a C dx:Addr} {fs fs':List (Str×V)}
theorem ins_get (hok:HOk P w H h) (e:H a=some (.ins C dx fs)):∃ mA,ObjM h a dx C mA∧(∀ f,RelO (fs.lookup f) (mA f))∧PySem.Within mA (fs.map (·.1))∧fs.length≤1000∧H dx=some (.own a):=by
 obtain ⟨d,z,ne,ob,mA,n,r,q⟩:=(show bV P w H h a (.ins C dx fs) from hok a _ e)
 exact ⟨mA,⟨ob,n,ne⟩,r,q,z,d⟩
end
structure Cls (K:PySem.W.Frag) (C:Addr):Prop where
 pg:PySem.W.plainGet K C Str.empty=true
 hd:PySem.W.hasDictIn K C=true
 po:PySem.W.plainOver K C=true
 sa:PySem.W.findIn K (.ref C) "__setattr__" = some (some (.builtin "object.__setattr__"))
theorem Cls.get {K:PySem.W.Frag} {C:Addr} (c:Cls K C) (f:Str):PySem.W.plainGet K C f=true:=c.pg
section
variable {X:Cx} {pins:List (Addr×Obj)} {σ:St} {H:Hp} {s:Shared} {a C dx:Addr} {fs:List (Str×V)} {f:Str} {v:V} {A:Around} {E:Value→Shared→Prop}
end
section
variable {X:Cx} {o e value:Expr} {f:Str} {pos pos' tpos:Pos} {ta tv:TE}
end
section
variable {X:Cx} {pins:List (Addr×Obj)} {σ:St} {H:Hp} {s:Shared} {A:Around} {E:Value→Shared→Prop} {Q:Value→Shared→Prop} {c:Value} {b:Bool}
inductive TyOf (K:PySem.W.Frag) (H:Hp):V→Value→Prop where
 | non:TyOf K H .non (.type "NoneType")
 | bl (x:Bool):TyOf K H (.bl x) (.type "bool")
 | int (i:Int):TyOf K H (.int i) (.type "int")
 | str (x:Str):TyOf K H (.str x) (.type "str")
 | flt (x:UInt64):TyOf K H (.flt x) (.type "float")
 | lst {a:Addr} {xs:List V} (e:H a=some (.lst xs)):TyOf K H (.ref a) (.type "list")
 | frz {a:Addr} {o:Obj} {xs:List V} (e:H a=some (.frz o (.lst xs))):TyOf K H (.ref a) (.type "list")
 | tup {a:Addr} {xs:List V} (e:H a=some (.tup xs)):TyOf K H (.ref a) (.type "tuple")
 | dK {a:Addr} {kvs:List (Key×V)} (e:H a=some (.dK kvs)):TyOf K H (.ref a) (.type "dict")
 | dT {a:Addr} {kvs:List (List Key×V)} (e:H a=some (.dT kvs)):TyOf K H (.ref a) (.type "dict")
 | ins {a C dx:Addr} {fs:List (Str×V)} (e:H a=some (.ins C dx fs)) (cl:Cls K C) (ha:PySem.W.findIn K (.ref C) "__class__" = some (some (.builtin "object.__class__")))
   (hn:PySem.W.specialIn K (.builtin "object.__class__") "__get__" = some (some (.builtin "getset_descriptor.__get__"))) (htk:PySem.W.takesIn K (.builtin "object.__class__")=some true)
   (hm:PySem.W.mroIn K C (.type "object")=some true):TyOf K H (.ref a) (.ref C)
theorem jZ {x:V} {u t:Value} (I:Inv X pins σ H s) (rx:RelV x u) (ty:TyOf X.K H x t) (e:PySem.W.kitOne X.K t c=some b) (h:∀ tk,Q (.bool b) { s with toks:=tk }) :
  wpAny (model X.prog X.w) A (call (.builtin "isinstance") [u,c]) Q E s:=by
 cases ty with
 | non=>cases (show u=Value.none from rx);exact PySem.W.kia_one PySem.W.kitx_none I.kIn True.intro e (fun z=>nomatch z) h
 | bl y=>cases (show u=Value.bool y from rx);exact PySem.W.kia_one PySem.W.kitx_bool I.kIn True.intro e (fun z=>nomatch z) h
 | int i=>obtain ⟨t,q⟩:=(show ∃ t,u=Value.int i t from rx);cases q;exact PySem.W.kia_one PySem.W.kitx_int I.kIn True.intro e (fun z=>nomatch z) h
 | str y=>obtain ⟨t,q⟩:=(show ∃ t,u=Value.str y t from rx);cases q;exact PySem.W.kia_one PySem.W.kitx_str I.kIn True.intro e (fun z=>nomatch z) h
 | flt y=>obtain ⟨t,q⟩:=(show ∃ t,u=Value.float y t from rx);cases q;exact PySem.W.kia_one PySem.W.kitx_float I.kIn True.intro e (fun z=>nomatch z) h
 | @lst a xs ea=>
  cases (show u=Value.ref a from rx)
  obtain ⟨_,_,n,_,h1⟩:=(show bV X.prog X.w H s.heap a (.lst xs) from I.hok a _ ea)
  exact PySem.W.kia_one PySem.W.kitx_list I.kIn ⟨_,h1,rfl⟩ e (fun z=>nomatch z) h
 | @frz a ob xs ea=>
  cases (show u=Value.ref a from rx)
  obtain ⟨_,_,_,n,_,h1⟩:=(show bV X.prog X.w H s.heap a (.frz ob (.lst xs)) from I.hok a _ ea)
  exact PySem.W.kia_one PySem.W.kitx_list I.kIn ⟨_,h1,rfl⟩ e (fun z=>nomatch z) h
 | @tup a xs ea=>
  cases (show u=Value.ref a from rx)
  obtain ⟨_,_,_,p⟩:=(show bV X.prog X.w H s.heap a (.tup xs) from I.hok a _ ea)
  obtain ⟨o,h1,h2,_⟩:=p
  exact PySem.W.kia_one PySem.W.kitx_tuple I.kIn ⟨o,h1,h2⟩ e (fun z=>nomatch z) h
 | @dK a kvs ea=>
  cases (show u=Value.ref a from rx)
  obtain ⟨_,_,vs,_,p⟩:=(show bV X.prog X.w H s.heap a (.dK kvs) from I.hok a _ ea)
  obtain ⟨o,es,ep,h1,h2,_⟩:=p
  exact PySem.W.kia_one PySem.W.kitx_dict I.kIn ⟨o,h1,h2.1⟩ e (fun z=>nomatch z) h
 | @dT a kvs ea=>
  cases (show u=Value.ref a from rx)
  obtain ⟨_,_,xs,_,o,es,ep,h1,h2,_⟩:=(show bV X.prog X.w H s.heap a (.dT kvs) from I.hok a _ ea)
  exact PySem.W.kia_one PySem.W.kitx_dict I.kIn ⟨o,h1,h2.1⟩ e (fun z=>nomatch z) h
 | @ins a C dx fs ea cl ha hn htk hm=>
  cases (show u=Value.ref a from rx)
  obtain ⟨mA,O,_⟩:=ins_get I.hok ea
  obtain ⟨od,J,_⟩:=O.look
  exact PySem.W.kia_one (PySem.W.kitx_own (cl.get _) cl.hd ha hn htk hm) I.kIn J e (fun z=>nomatch z) h
end
structure Room (k:Nat) (A:Around):Prop where
 hd:A.handled=none
 dp:A.depth+3*k+5<recursionLimit
 un:A.units+16*k+200<cLine
theorem Room.mono {j k:Nat} {A:Around} (r:Room k A) (h:j≤k):Room j A:=⟨r.hd,by have:=r.dp;omega,by have:=r.un;omega⟩
theorem Room.deeper {k:Nat} {A:Around} (r:Room (k+1) A) (env:Env):Room k (A.deeper env):=
 ⟨r.hd,by have:=r.dp;show A.depth+1+3*k+5<_;omega,by have:=r.un;show A.units+3+16*k+200<_;omega⟩
theorem Room.in1 {k:Nat} {A:Around} (r:Room (k+1) A):Room k A.in1:=
 ⟨r.hd,by have:=r.dp;show A.depth+3*k+5<_;omega,by have:=r.un;show A.units+1+16*k+200<_;omega⟩
theorem Room.depth {k:Nat} {A:Around} (r:Room k A):A.depth<recursionLimit:=by have:=r.dp;omega
theorem Room.units {k:Nat} {A:Around} (r:Room k A):A.units+64<cLine:=by have:=r.un;omega
def tNil:TA:=fun _ H Q=>Q [] H
def tCons (ta:TE) (tr:TA):TA:=fun σ H Q=>ta σ H fun x H1=>tr σ H1 fun xs H2=>Q (x::xs) H2
section
variable {X:Cx} {e:Expr} {es:List Expr} {te:TE} {t:TA} {pos:Pos}
theorem iG:PA X [] tNil:=fun _ _ _ _ H Q I h=>Calls.spliced_nil ⟨[],H,I,.nil,h⟩
theorem eJ (ha:PE X e te) (hr:PA X es t) (hs:starEach (e::es) X.env=(false,eval e X.env)::starEach es X.env:=by rfl):PA X (e::es) (tCons te t):=by
 intro pos pins s σ H Q I h
 rw [hs]
 show wpAny _ _ (spliced ((false,eval e X.env)::backTo pos (starEach es X.env))) _ _ s
 refine Calls.spliced_cons (thn (ha pins s σ H _ I h) fun u s1 ⟨x,H1,I1,r1,q1⟩=>?_)
 exact thn (hr pos pins s1 σ H1 _ I1 q1) fun us s2 ⟨xs,H2,I2,r2,q2⟩=>⟨x::xs,H2,I2,.cons r1 r2,q2⟩
def tTup (t:TA):TE:=fun σ H Q=>t σ H fun xs H1=>xs.length≤sizeLine∧∀ p,H1 p=none→Q (.ref p) (upd H1 p (.tup xs))
def tLst (t:TA):TE:=fun σ H Q=>t σ H fun xs H1=>xs.length≤sizeLine∧∀ p,H1 p=none→Q (.ref p) (upd H1 p (.lst xs))
theorem pe_tup {x1} (h:PA X es t):PE X (.Tuple es x1 pos) (tTup t):=by
 intro pins s σ H Q I hq
 refine wpAny_Tuple_spliced (thn (h pos pins s σ H _ I hq) fun us s1 ⟨xs,H1,I1,r,z,q⟩=>⟨by rw [←r.length];exact z,?_⟩)
 have hf:H1 s1.heap.objs.size=none:=I1.hok.fresh (Nat.le_refl _)
 refine ⟨.ref s1.heap.objs.size,upd H1 s1.heap.objs.size (.tup xs),I1.laid (t':=s1.toks) (fun b u e=>Heap.get?_push_of_some _ e) (Nat.le_refl _) ?_,rfl,q _ hf⟩
 exact ⟨z,us,r,⟨_,Heap.get?_push_size _ rfl,rfl,_,rfl⟩⟩
theorem pe_lst (h:PA X es t):PE X (.List es pos) (tLst t):=by
 intro pins s σ H Q I hq
 refine wpAny_List_spliced (thn (h pos pins s σ H _ I hq) fun us s1 ⟨xs,H1,I1,r,z,q⟩=>⟨by rw [←r.length];exact z,?_⟩)
 have hf:H1 s1.heap.objs.size=none:=I1.hok.fresh (Nat.le_refl _)
 refine ⟨.ref s1.heap.objs.size,upd H1 s1.heap.objs.size (.lst xs),I1.laid (t':=s1.toks) (fun b u e=>Heap.get?_push_of_some _ e) (Nat.le_refl _) ?_,rfl,q _ hf⟩
 exact ⟨z,us,0,r,Heap.get?_push_size _ rfl⟩
end
abbrev Sp:=List V→Hp→VK→XK→Prop
abbrev CXT:=List Env→Hp→Shared→XK→Value→Shared→Prop
structure Env0 (P:Program) (w:World) (K:PySem.W.Frag) (mg:Str→Option Value) (base:Heap) (A:Around) (outer:List Env) (s:Shared) (H:Hp):Prop where
 frames:A.frames=some outer
 mod:Mod K mg base
 bs:∀ b o,base.get? b=some o→s.heap.get? b=some o∧H b=none
 bsz:base.objs.size≤s.heap.objs.size
 funs:s.heap.FunFrames base outer
 frf:∀ b∈frs outer,H b=none
 hok:HOk P w H s.heap
 bare:AllBare s.gens
def CE (outer:List Env) (P:Program) (w:World) (H:Hp) (s:Shared) (Q:VK) (u:Value) (s':Shared):Prop:=
 ∃ v H',s'.os=s.os∧AllBare s'.gens∧Un (frs outer) [] H H' s.heap s'.heap∧HOk P w H' s'.heap∧RelV v u∧Q v H'
def CR (CX:CXT) (outer:List Env) (P:Program) (w:World) (H:Hp) (s:Shared) (Q:VK) (E:XK) (r:Result) (s':Shared):Prop:=
 match r with
 | .ok (.ret u)=>CE outer P w H s Q u s'
 | .ok _=>False
 | .error e=>CX outer H s E e s'
structure FnOk (P:Program) (w:World) (K:PySem.W.Frag) (mg:Str→Option Value) (base:Heap) (CX:CXT) (k:Nat) (f:Addr) (fd:FuncData) (ps:List Str) (sp:Sp):Prop where
 len:∀ vs H Q E,sp vs H Q E→vs.length=ps.length
 run:∀ (A:Around) (outer:List Env) (s:Shared) (H:Hp) (args:Args) (us:List Value) (vs:List V) (Q:VK) (E:XK),Room k A→Env0 P w K mg base A outer s H→BindsTo s fd args (ps.zip us)→aV vs us→sp vs H Q E →
  codeAny (model P w) A (.call (.ref f) args) (CR CX outer P w H s Q E) s
theorem Env0.in1 {P:Program} {w:World} {K:PySem.W.Frag} {mg:Str→Option Value} {base:Heap} {A:Around} {outer:List Env} {s:Shared} {H:Hp} (e:Env0 P w K mg base A outer s H) :
  Env0 P w K mg base A.in1 outer s H:=⟨e.frames,e.mod,e.bs,e.bsz,e.funs,e.frf,e.hok,e.bare⟩
section
variable {X:Cx} {pins:List (Addr×Obj)} {σ:St} {H:Hp} {s s':Shared}
theorem Inv.env0 (I:Inv X pins σ H s):Env0 X.prog X.w X.K X.mg X.base X.A X.stack s H:=
 ⟨I.ok.frames,I.ok.mod,I.bs,Nat.le_trans I.ok.bsz I.sz,I.stack,I.stkFree,I.hok,I.bare⟩
theorem Inv.after {Q:VK} {u:Value} (I:Inv X pins σ H s) (h:CE X.stack X.prog X.w H s Q u s'):EP X pins σ Q u s':=by
 obtain ⟨v,H',os,bare,un,hok,r,q⟩:=h
 obtain ⟨hh,g,d,t,os'⟩:=s'
 obtain rfl:os'=s.os:=os
 exact ⟨v,H',I.call (h':=hh) (g':=g) (d':=d) (t':=t) (ch:=[]) un hok bare (fun b z=>absurd z (by simp)),r,q⟩
end
def tCall (sp:Sp) (dvs:List V) (E:XK) (t:TA):TE:=fun σ H Q=>t σ H fun vs H1=>sp (vs++dvs) H1 Q E
def Binds (K:PySem.W.Frag) (fd:FuncData) (ps:List Str) (ds:List Value):Prop:=
 ∀ (s:Shared) (us:List Value),K.In s.heap→(us++ds).length=ps.length→BindsTo s fd ⟨us,[]⟩ (ps.zip (us++ds))
theorem Binds.all {K:PySem.W.Frag} {fd:FuncData} {ps:List Str} (h:∀ us:List Value,us.length=ps.length→bindArgs fd ⟨us,[]⟩=pure (ps.zip us)):Binds K fd ps []:=fun s us _ hl=>by
 rw [List.append_nil] at hl ⊢
 exact .of_eq (h us hl)
def Passes (CX:CXT) (X:Cx) (E:XK):Prop:=∀ (pins:List (Addr×Obj)) (σ:St) (H:Hp) (s:Shared) (e:Value) (s':Shared),Inv X pins σ H s→CX X.stack H s E e s'→X.xe e s'
section
variable {X:Cx} {CX:CXT} {k:Nat} {f C:Addr} {fd:FuncData} {ps:List Str} {sp:Sp} {dvs:List V} {ds:List Value} {E:XK} {x m:Str} {p pos apos:Pos} {e o:Expr} {es:List Expr} {ta:TE} {t:TA}
theorem run_fn {pins:List (Addr×Obj)} {σ:St} {H:Hp} {s:Shared} {Q:VK} {us:List Value} {vs:List V} (F:FnOk X.prog X.w X.K X.mg X.base CX k f fd ps sp) (hr:Room k X.A) (hb:Binds X.K fd ps ds) (hd:aV dvs ds) (hx:Passes CX X E)
  (I:Inv X pins σ H s) (r:aV vs us) (h:sp (vs++dvs) H Q E):wpAny (model X.prog X.w) X.A (call (.ref f) us) (EP X pins σ Q) X.xe s:=by
 have r2:aV (vs++dvs) (us++ds):=r.append hd
 have hl:(us++ds).length=ps.length:=by rw [←r2.length];exact F.len _ _ _ _ h
 refine wpAny_call (codeAny_mono (F.run X.A X.stack s H ⟨us,[]⟩ (us++ds) (vs++dvs) Q E hr I.env0 (hb s us I.kIn hl) r2 h) fun r s' hq=>?_)
 cases r with
 | error e=>exact hx pins σ H s e s' I hq
 | ok fl=>
  cases fl with
  | ret u=>exact I.after hq
  | next=>exact False.elim hq
  | brk=>exact False.elim hq
  | cont=>exact False.elim hq
theorem pe_call (F:FnOk X.prog X.w X.K X.mg X.base CX k f fd ps sp) (hr:Room k X.A) (hg:Gl X x) (hm:X.mg x=some (.ref f)) (hk:PySem.W.keepIn X.K (.ref f)=true) (hb:Binds X.K fd ps ds) (hd:aV dvs ds) (hx:Passes CX X E)
  (ha:PA X (e::es) t) (hdb:(x==("__debug__" : Str))=false:=by decide) (he:starEach (e::es) X.env=(false,eval e X.env)::starEach es X.env:=by rfl) (hpl:(backTo pos (starEach es X.env)).any (·.1)=false:=by rfl) :
  PE X (.Call (.Name x p) (e::es) [] pos) (tCall sp dvs E t):=by
 intro pins s σ H Q I h
 refine wpAny_Call_Name_kw (ld_glob I hg hm ?_ hdb)
 refine PySem.W.callWith_K (h₀:=X.base) I.ok.mod.kin hk (thn (ha pos pins s σ H _ I h) fun us s1 ⟨vs,H1,I1,r,q⟩=>⟨I1.kIn,?_⟩) he hpl
 exact run_fn F hr hb hd hx I1 r q
end
def PK (X:Cx) (kws:List Keyword) (t:TA):Prop:=
 ∀ (pos:Pos) (pins:List (Addr×Obj)) (s:Shared) (σ:St) (H:Hp) (Q:List V→Hp→Prop),Inv X pins σ H s→t σ H Q→wpAny (model X.prog X.w) X.A (evalAll ((backToKw pos (keywordEach kws X.env)).map (·.2))) (AP X pins σ Q) X.xe s
section
variable {X:Cx} {CX:CXT} {k:Nat} {f C:Addr} {fd:FuncData} {ps ks:List Str} {sp:Sp} {E:XK} {x m:Str} {p pos apos kpos:Pos} {e o:Expr} {es:List Expr} {kws:List Keyword} {te ta:TE} {t tk:TA} {nm:Option Str}
theorem pk_nil:PK X [] tNil:=fun _ _ _ _ H Q I h=>wpAny_evalAll_nil ⟨[],H,I,.nil,h⟩
theorem pk_cons (ha:PE X e te) (hr:PK X kws t):PK X (⟨nm,e,kpos⟩::kws) (tCons te t):=by
 intro pos pins s σ H Q I h
 show wpAny _ _ (evalAll ((do let v ←eval e X.env;standAt pos;pure v)::(backToKw pos (keywordEach kws X.env)).map (·.2))) _ _ s
 refine wpAny_evalAll_cons (wpAny_bind (thn (ha pins s σ H _ I h) fun u s1 ⟨x,H1,I1,r1,q1⟩=>wpAny_bind (wpAny_standAt (wpAny_pure ?_))))
 exact thn (hr pos pins s1 σ H1 _ I1 q1) fun us s2 ⟨xs,H2,I2,r2,q2⟩=>⟨x::xs,H2,I2,.cons r1 r2,q2⟩
variable {g:List Value→List Value→List Value} {gV:List V→List V→List V}
end
structure FnScope (N P:List Str) (sc:Scope):Prop where
 kind:sc.kind=.function
 co:sc.isCoroutine=false
 gen:sc.isGenerator=false
 nd:N.Nodup
 pre:N.take P.length=P
 par:∀ x∈P,sc.names.lookup x=some .local∨sc.names.lookup x=some .cell
 nofree:∀ y∈sc.names,y.2≠.free
theorem bindL_out {kindOf:Str→Option NameKind} {x:Str}:∀ {binds:List (Str×Value)} {m:Str→Option Value},(∀ v,(x,v)∉binds)→bindL kindOf binds m x=m x
 | [],_,_=>rfl
 | (n,v)::r,m,h=>by
  unfold bindL
  rw [bindL_out fun w hw=>h w (List.mem_cons_of_mem _ hw)]
  split
  ·have:x≠n:=by rintro rfl;exact h v List.mem_cons_self
   simp [this]
  ·rfl
theorem bindC_out {kindOf:Str→Option NameKind} {x:Str}:∀ {binds:List (Str×Value)} {m:Str→Option Value},(∀ v,(x,v)∉binds)→bindC kindOf binds m x=m x
 | [],_,_=>rfl
 | (n,v)::r,m,h=>by
  unfold bindC
  rw [bindC_out fun w hw=>h w (List.mem_cons_of_mem _ hw)]
  split
  ·rfl
  ·have:x≠n:=by rintro rfl;exact h v List.mem_cons_self
   simp [this]
theorem bindL_get {kindOf:Str→Option NameKind} {x:Str} {v:Value}:∀ {P:List Str} {vs:List Value} {i:Nat} {m:Str→Option Value},P.Nodup→P[i]?=some x→vs[i]?=some v→kindOf x=some .local →
  bindL kindOf (P.zip vs) m x=some v
 | [],_,_,_,_,h,_,_=>by simp at h
 | _::_,[],_,_,_,_,h,_=>by simp at h
 | p::P,w::vs,0,m,nd,h1,h2,hk=>by
  simp at h1 h2;subst h1;subst h2
  show bindL kindOf ((p,w)::P.zip vs) m p=_
  unfold bindL
  rw [bindL_out fun v hv=>(List.nodup_cons.mp nd).1 (List.of_mem_zip hv).1,if_pos hk]
  simp
 | p::P,w::vs,i+1,m,nd,h1,h2,hk=>by
  show bindL kindOf ((p,w)::P.zip vs) m x=_
  unfold bindL
  exact bindL_get (i:=i) (List.nodup_cons.mp nd).2 (by simpa using h1) (by simpa using h2) hk
theorem bindC_get {kindOf:Str→Option NameKind} {x:Str} {v:Value}:∀ {P:List Str} {vs:List Value} {i:Nat} {m:Str→Option Value},P.Nodup→P[i]?=some x→vs[i]?=some v→kindOf x≠some .local →
  bindC kindOf (P.zip vs) m x=some v
 | [],_,_,_,_,h,_,_=>by simp at h
 | _::_,[],_,_,_,_,h,_=>by simp at h
 | p::P,w::vs,0,m,nd,h1,h2,hk=>by
  simp at h1 h2;subst h1;subst h2
  show bindC kindOf ((p,w)::P.zip vs) m p=_
  unfold bindC
  rw [bindC_out fun v hv=>(List.nodup_cons.mp nd).1 (List.of_mem_zip hv).1,if_neg hk]
  simp
 | p::P,w::vs,i+1,m,nd,h1,h2,hk=>by
  show bindC kindOf ((p,w)::P.zip vs) m x=_
  unfold bindC
  exact bindC_get (i:=i) (List.nodup_cons.mp nd).2 (by simpa using h1) (by simpa using h2) hk
def start (N:List Str) (vs:List V):St:=vs.map some++List.replicate (N.length - vs.length) none
def cxOf (CX:CXT) (P:Program) (w:World) (K:PySem.W.Frag) (mg:Str→Option Value) (base:Heap) (N:List Str) (qual:Str) (scope:Scope) (f:Addr) (cd:Value) (A:Around) (outer:List Env) (s:Shared) (H:Hp) (E:XK):Cx where
 prog:=P
 w:=w
 K:=K
 mg:=mg
 base:=base
 A:=A.deeper (envOfC qual scope s.heap.objs.size f cd)
 N:=N
 s₀:=s
 H₀:=H
 env:=envOfC qual scope s.heap.objs.size f cd
 outer:=outer
 stack:=envOfC qual scope s.heap.objs.size f cd::outer
 ex:=[]
 calm:=true
 fn:=fun _=>true
 pn:=[]
 xe:=fun e s'=>wpAny (model P w) (A.deeper (envOfC qual scope s.heap.objs.size f cd)) (leaving (envOfC qual scope s.heap.objs.size f cd) e) (fun _ s''=>CX outer H s E e s'') (fun e' s''=>CX outer H s E e' s'') s'
theorem cell_has {sc:Scope} {n:Nat} {x:Str} (h:sc.names.lookup x=some .cell):∃ c,(cellsFrom n sc.names []).lookup x=some c:=by
 have q:=PySem.W.cellsFrom_some sc.names n [] (.inl h)
 exact Option.isSome_iff_exists.mp q
theorem inv_start {CX:CXT} {P:Program} {w:World} {K:PySem.W.Frag} {mg:Str→Option Value} {base:Heap} {N ps:List Str} {qual:Str} {scope:Scope} {f:Addr} {cd:Value} {A:Around} {outer:List Env} {s s1:Shared} {H:Hp} {E:XK} {us:List Value} {vs:List V}
  (S:FnScope N ps scope) (hd:A.handled=none) (e0:Env0 P w K mg base A outer s H) (hl:vs.length=ps.length) (r:aV vs us)
  (x:InCallC s s.heap.objs.size (bindL (envOfC qual scope s.heap.objs.size f cd).kindOf (ps.zip us) fun _=>none) (cellsFrom (s.heap.objs.size+1) scope.names []) (bindC (envOfC qual scope s.heap.objs.size f cd).kindOf (ps.zip us) fun _=>none) s1) :
  Inv (cxOf CX P w K mg base N qual scope f cd A outer s H E) [] (start N vs) H s1:=by
 have hpl:ps.length≤N.length:=by have:=congrArg List.length S.pre;rw [List.length_take] at this;omega
 obtain ⟨h1,tk,rfl,hk⟩:=x.done
 have noA:∀ b:Addr,b∉(cxOf CX P w K mg base N qual scope f cd A outer s H E).ex:=fun b z=>absurd (show b∈([]:List Addr) from z) (by simp)
 refine ⟨⟨e0.mod,S.kind,rfl,rfl,Nat.le_refl _,fun y z c h1 h2=>?_,fun y hy=>?_,fun y c _ h=>?_,fun _=>hd,Around.frames_deeper e0.frames,.inr ⟨rfl,rfl⟩,fun b z=>absurd z (noA b),e0.bs,e0.bsz,fun b _ _=>noA b,fun b z=>absurd z (noA b),e0.funs,e0.frf⟩,
  rfl,e0.bare,Un.kept hk,⟨_,x.toInCall.ns,fun i y v h1 h2 h3=>?_⟩,fun y c h=>⟨_,x.cell y c h⟩,e0.hok.fresh (Nat.le_refl _),fun y c h=>?_,fun p hp=>absurd (show p∈([]:List (Addr×Obj)) from hp) (by simp),e0.hok.kept hk,?_⟩
 ·exact name_of_addr x.apart (PySem.mem_of_lookup h1) (PySem.mem_of_lookup h2)
 ·have hy:scope.names.lookup y=some .cell∨scope.names.lookup y=some .free:=hy
  rcases hy with hy | hy
  ·exact cell_has hy
  ·exact absurd rfl (S.nofree _ (PySem.mem_of_lookup hy))
 ·exact Nat.le_of_lt (x.above y c (PySem.mem_of_lookup h))
 ·have hi:i<vs.length:=by
   unfold start at h2
   by_cases hi:i<vs.length
   ·exact hi
   ·rw [List.getElem?_append_right (by simpa using hi)] at h2
    rw [List.getElem?_replicate] at h2
    split at h2<;>cases h2
  have ha:vs[i]?=some v:=by
   unfold start at h2
   rw [List.getElem?_append_left (by simpa using hi),List.getElem?_map] at h2
   cases e:vs[i]? with
   | none=>rw [e] at h2;cases h2
   | some a=>rw [e] at h2;cases h2;rfl
  obtain ⟨u,hu,rv⟩:=r.get ha
  have hp:ps[i]?=some y:=by
   rw [←S.pre,List.getElem?_take_of_lt (by omega)];exact h1
  have ndP:ps.Nodup:=by rw [←S.pre];exact S.nd.sublist (List.take_sublist _ _)
  refine ⟨u,rv,?_⟩
  rcases S.par y (List.mem_of_getElem? hp) with k | k
  ·exact .inl ⟨k,bindL_get ndP hp hu k⟩
  ·obtain ⟨c,e⟩:=cell_has (n:=s.heap.objs.size+1) k
   refine .inr ⟨.inl k,c,e,?_⟩
   have q:=x.cell y c e
   rw [bindC_get ndP hp hu (by show scope.names.lookup y≠_;rw [k];decide)] at q
   exact q
 ·exact e0.hok.fresh (Nat.le_of_lt (x.above y c (PySem.mem_of_lookup h)))
 ·unfold start
  show _=N.length
  rw [List.length_append,List.length_map,List.length_replicate]
  omega
theorem fn_of {CX:CXT} {P:Program} {w:World} {K:PySem.W.Frag} {mg:Str→Option Value} {base:Heap} {k:Nat} {f:Addr} {name qual:Str} {params:Arguments} {body:List Stmt} {scope:Scope} {dV kV doc pm cdv ct oc:Value} {an od:Option Addr}
  {osl:Array (Option Value)} {N ps:List Str} {sp:Sp} (lk:K.lookup f=some ⟨oc,od,.func (PySem.W.fnOf name qual params body scope dV kV doc pm an cdv ct),osl⟩) (hcd:PySem.W.codeIn K cdv qual=true) (S:FnScope N ps scope)
  (len:∀ vs H Q E,sp vs H Q E→vs.length=ps.length)
  (hbody:∀ (A:Around) (outer:List Env) (s:Shared) (H:Hp) (vs:List V) (Q:VK) (E:XK),Room k (A.deeper (envOfC qual scope s.heap.objs.size f cdv))→sp vs H Q E →
   ∃ t,PSs (cxOf CX P w K mg base N qual scope f cdv A outer s H E) body t∧t { nx:=fun _ H'=>Q .non H',rt:=Q } (start N vs) H) :
  FnOk P w K mg base CX (k+1) f (PySem.W.fnOf name qual params body scope dV kV doc pm an cdv ct) ps sp:=by
 refine ⟨len,fun A outer s H args us vs Q E hr e0 hb r hsp=>?_⟩
 have hl:=len _ _ _ _ hsp
 have KX:K.In s.heap:=e0.mod.kin.keeps fun b o e=>(e0.bs b o e).1
 have lim:s.heap.NoLimit:=e0.mod.nolimit.keeps fun b o e=>(e0.bs b o e).1
 have hkind:∀ y∈ps.zip us,scope.names.lookup y.1=some .local∨(scope.names.lookup y.1=some .cell∧((cellsFrom (s.heap.objs.size+1) scope.names []).lookup y.1).isSome=true):=fun ⟨n,v⟩ hy=>by
  rcases S.par n (List.of_mem_zip hy).1 with q | q
  ·exact .inl q
  ·exact .inr ⟨q,PySem.W.cellsFrom_some _ _ _ (.inl q)⟩
 refine codeAny_call_function hr.depth (KX _ _ lk) rfl S.co S.gen rfl (PySem.W.codeRec_of KX hcd) (hb _ _ _ _ ?_)
 refine wpAny_newFunctionEnv_cells S.kind hkind fun env he s1 x=>?_
 subst he
 refine ⟨lim.keeps x.toInCall.keep,codeAny_func ?_⟩
 obtain ⟨t,ht,hq⟩:=hbody A outer s H vs Q E (hr.deeper _) hsp
 have I:Inv (cxOf CX P w K mg base N qual scope f cdv A outer s H E) [] (start N vs) H s1:=inv_start S hr.hd e0 hl r x
 refine wpAny_mono (ht [] s1 (start N vs) H _ I hq) (fun fl s' hs=>?_) fun e s' hs=>hs
 have fin:∀ {σ':St} {H':Hp} {v:V} {u:Value},Inv (cxOf CX P w K mg base N qual scope f cdv A outer s H E) [] σ' H' s'→RelV v u→Q v H'→CE outer P w H s Q u s':=
  fun {σ' H' v u} J rv q=>⟨v,H',J.os,J.bare,J.base,J.hok,rv,q⟩
 cases fl with
 | ret u=>
  obtain ⟨v,σ',H',J,rv,q⟩:=hs
  exact fin J rv q
 | next=>
  obtain ⟨σ',H',J,q⟩:=hs
  exact fin (v:=V.non) (u:=Value.none) J rfl q
 | brk=>
  obtain ⟨_,_,_,q⟩:=hs
  exact False.elim q
 | cont=>
  obtain ⟨_,_,_,q⟩:=hs
  exact False.elim q
section
variable {X:Cx} {x:Str} {p pos:Pos} {e:Expr} {es:List Expr} {t:TA} {id T:String} {r:List V→Hp→VK→Prop}
def tCB (r:List V→Hp→VK→Prop) (t:TA):TE:=fun σ H Q=>t σ H fun vs H1=>r vs H1 Q
theorem pe_callB (hc:eB X (.builtin id) r) (hg:Gl X x) (hm:X.mg x=none) (hv:bootBuiltins x=some (.builtin id)) (ha:PA X (e::es) t) (hn:x ≠ "__name__":=by decide) (hdb:(x==("__debug__" : Str))=false:=by decide)
  (he:starEach (e::es) X.env=(false,eval e X.env)::starEach es X.env:=by rfl) (hpl:(backTo pos (starEach es X.env)).any (·.1)=false:=by rfl):PE X (.Call (.Name x p) (e::es) [] pos) (tCB r t):=by
 intro pins s σ H Q I h
 refine wpAny_Call_Name_kw (gO I hg hm hv ?_ hn hdb)
 exact PyProof.Rows.callWith_builtin1 (thn (ha pos pins s σ H _ I h) fun us s1 ⟨vs,H1,I1,r1,q1⟩=>hc pins s1 σ H1 vs us Q I1 r1 q1) he hpl
theorem pe_callTy (hc:eB X (.type T) r) (hg:Gl X x) (hm:X.mg x=none) (hv:bootBuiltins x=some (.type T)) (ha:PA X (e::es) t) (hn:x ≠ "__name__":=by decide) (hdb:(x==("__debug__" : Str))=false:=by decide)
  (he:starEach (e::es) X.env=(false,eval e X.env)::starEach es X.env:=by rfl) (hpl:(backTo pos (starEach es X.env)).any (·.1)=false:=by rfl):PE X (.Call (.Name x p) (e::es) [] pos) (tCB r t):=by
 intro pins s σ H Q I h
 refine wpAny_Call_Name_kw (gO I hg hm hv ?_ hn hdb)
 exact PyProof.Rows.callWith_type1 (thn (ha pos pins s σ H _ I h) fun us s1 ⟨vs,H1,I1,r1,q1⟩=>hc pins s1 σ H1 vs us Q I1 r1 q1) he hpl
end
end L2
namespace HT
open PySem PyProof.Rows
section
open PySem.SeqAt
open PySem.AutoSeq1 (wpAny_loadPart')
open PySem.MeetsSeq PySem.MeetsSeq2 PySem.MeetsSeq3
end
section
variable {prog:Program} {w:World} {A:Around} {E:Value→Shared→Prop} {s:Shared}
theorem cat_tup {t b:Addr} {vs ws:List Value} {Q:Value→Shared→Prop} (ht:IsTup s.heap t vs.toArray) (hb:IsTup s.heap b ws.toArray) (hv:vs≠[])
  (h1:ws=[]→Q (.ref t) s) (h2:ws≠[]→Q (.ref s.heap.objs.size) { s with heap:=s.heap.push { cls:=.type "tuple", data:=.seq (vs++ws).toArray } })
  (hsz:vs.length+ws.length≤sizeLine):wpAny (model prog w) A (binaryOp .Add (.ref t) (.ref b)) Q E s:=by
 obtain ⟨⟨cls,dd,data,sl⟩,ho,hc,n,hd⟩:=id ht
 obtain ⟨⟨cls2,dd2,data2,sl2⟩,ho2,hc2,n2,hd2⟩:=id hb
 simp only at hc hd hc2 hd2
 subst hc hd hc2 hd2
 have e:vs.toArray++ws.toArray=(vs++ws).toArray:=by simp
 by_cases hw:ws=[]
 ·exact concat_meets ⟨_,ho,rfl⟩ ⟨_,ho2,rfl⟩ noFill_tuple_add seq_tuple_add PySem.F.slot_tuple_add PySem.F.entry_tuple_add (PySem.F.args_tuple_add_2 _ _)
   (tuple_addW1 t b vs.toArray ws.toArray n n2 dd dd2 sl sl2 (by simpa using hv) (by simp [hw])) ⟨ho,ho2,h1 hw⟩
 ·refine concat_meets ⟨_,ho,rfl⟩ ⟨_,ho2,rfl⟩ noFill_tuple_add seq_tuple_add PySem.F.slot_tuple_add PySem.F.entry_tuple_add (PySem.F.args_tuple_add_2 _ _)
   (tuple_addW2 t b vs.toArray ws.toArray n n2 dd dd2 sl sl2 (by simpa using hv) (by simpa using hw) (by rw [List.size_toArray,List.size_toArray];exact hsz)) ⟨ho,ho2,?_⟩
  rw [e]
  exact h2 hw
end
end HT
namespace L2
open PySem PySem.Spec PyProof.Rows
abbrev TO:=St→Hp→(Option Int→Hp→Prop)→Prop
theorem intsAre_of {ns:List Int}:∀ {us:List Value},aV (ns.map V.int) us→IntsAre us ns:=by
 induction ns with
 | nil=>intro us r;rw [List.map_nil] at r;cases r;exact .nil
 | cons n ns ih=>
  intro us r
  rw [List.map_cons] at r
  cases r with
  | cons r1 r2=>
   obtain ⟨t,e⟩:=r1
   subst e
   exact .cons n t (ih r2)
section
variable {X:Cx} {e:Expr} {te:TE} {lo hi:Option Expr} {tl th:TO} {pos p2:Pos}
def rCatT (K:PySem.W.Frag):R2:=fun x y H Q=>∃ a b xs ys,x=.ref a∧y=.ref b∧SqT K H a xs∧SqT K H b ys∧xs≠[]∧xs.length+ys.length≤sizeLine ∧
 (ys=[]→Q (.ref a) H)∧(ys≠[]→∀ p,H p=none→Q (.ref p) (upd H p (.tup (xs++ys))))
theorem aV.nil_iff {xs:List V} {us:List Value} (r:aV xs us):us=[]↔xs=[]:=by
 cases r with
 | nil=>simp
 | cons _ _=>simp
theorem op_catT:OpR X (binaryOp .Add) (rCatT X.K):=by
 intro pins s σ H x y v u Q I rx ry h
 obtain ⟨a,b,xs,ys,rfl,rfl,ha,hb,hx,hz,q1,q2⟩:=h
 cases rx
 cases ry
 obtain ⟨its,r1,p1,_⟩:=I.tuple ha
 obtain ⟨its2,r2,p2,_⟩:=I.tuple hb
 refine HT.cat_tup p1 p2 (fun z=>hx (r1.nil_iff.mp z)) (fun z=>⟨.ref a,H,I,rfl,q1 (r2.nil_iff.mp z)⟩) (fun z=>?_) (by rw [←r1.length,←r2.length];exact hz)
 refine ⟨.ref s.heap.objs.size,_,I.laid (t':=s.toks) (o:=.tup (xs++ys)) (fun b ob q=>Heap.get?_push_of_some _ q) (Nat.le_refl _) ?_,rfl,q2 (fun w=>z (r2.nil_iff.mpr w)) _ (I.hok.fresh (Nat.le_refl _))⟩
 exact ⟨by rw [List.length_append];exact hz,_,r1.append r2,IsTup.new _ _⟩
end
def ixN (n:Nat) (i:Int):Option Nat:=if 0≤i then (if i<n then some i.toNat else none) else if -(n:Int)≤i then some (i+n).toNat else none
def atI {α:Type} (xs:List α) (i:Int):Option α:=(ixN xs.length i).bind fun j=>xs[j]?
theorem ixN_seq {n:Nat} {i:Int} {j:Nat} (h:ixN n i=some j):seqIndex? i n=some j∧j<n∧-(n:Int)≤i∧i<n:=by
 unfold ixN at h
 by_cases h0:0≤i
 ·rw [if_pos h0] at h
  by_cases h1:i<n
  ·rw [if_pos h1] at h
   have e:i.toNat=j:=Option.some.inj h
   exact ⟨by rw [seqIndex_of h0 h1,e],by omega,by omega,h1⟩
  ·rw [if_neg h1] at h;cases h
 ·rw [if_neg h0] at h
  by_cases h1:-(n:Int)≤i
  ·rw [if_pos h1] at h
   have e:(i+n).toNat=j:=Option.some.inj h
   exact ⟨by rw [seqIndex_neg (by omega) h1,e],by omega,h1,by omega⟩
  ·rw [if_neg h1] at h;cases h
theorem atI_get {α:Type} {xs:List α} {i:Int} {v:α} (h:atI xs i=some v):∃ j,seqIndex? i xs.length=some j∧xs[j]?=some v∧j<xs.length∧-(xs.length:Int)≤i∧i<xs.length:=by
 unfold atI at h
 cases e:ixN xs.length i with
 | none=>rw [e] at h;cases h
 | some j=>
  rw [e] at h
  obtain ⟨h1,h2,h3,h4⟩:=ixN_seq e
  exact ⟨j,h1,h,h2,h3,h4⟩
def PlainIx (b:Expr):Prop:=∀ o i,subscripted b false o i=operate [o,i] (getItem o i)
def IxR (X:Cx) (r:R2):Prop:=
 ∀ (value slice:Expr) (pins:List (Addr×Obj)) (s:Shared) (σ:St) (H:Hp) (x y:V) (v u:Value) (Q:VK),Inv X pins σ H s→RelV x v→RelV y u→r x y H Q →
  subscripted slice false v u=operate [v,u] (getItem v u)→wpAny (model X.prog X.w) X.A (subscriptTail value slice v u) (EP X pins σ Q) X.xe s
def MtR (X:Cx) (id:String) (r:V→List V→Hp→VK→Prop):Prop:=
 ∀ (pins:List (Addr×Obj)) (s:Shared) (σ:St) (H:Hp) (x:V) (xs:List V) (v:Value) (us:List Value) (Q:VK),Inv X pins σ H s→RelV x v→aV xs us→r x xs H Q →
  wpAny (model X.prog X.w) X.A (call (.builtin id) (v::us)) (EP X pins σ Q) X.xe s
section
variable {X:Cx} {a b:Expr} {ta tb:TE} {pos:Pos}
theorem IxR.or {r r':R2} (h:IxR X r) (h':IxR X r'):IxR X (fun x y H Q=>r x y H Q∨r' x y H Q):=by
 intro value slice pins s σ H x y v u Q I rx ry q hs
 rcases q with q | q
 ·exact h value slice pins s σ H x y v u Q I rx ry q hs
 ·exact h' value slice pins s σ H x y v u Q I rx ry q hs
theorem pe_ix {r:R2} (hr:IxR X r) (ha:PE X a ta) (hb:PE X b tb) (hs:PlainIx b):PE X (.Subscript a b pos) (tOp r ta tb):=by
 intro pins s σ H Q I h
 exact Subscript_ (binT ha hb I h fun v u s2 x y H2 I2 rx ry q=>hr a b pins s2 σ H2 x y v u Q I2 rx ry q (hs _ _))
def rIxL (K:PySem.W.Frag):R2:=fun x y H Q=>∃ p xs i v,x=.ref p∧y=.int i∧SqL K H p xs∧atI xs i=some v∧Q v H
def rIxT (K:PySem.W.Frag):R2:=fun x y H Q=>∃ p xs i v,x=.ref p∧y=.int i∧SqT K H p xs∧atI xs i=some v∧Q v H
def rIxS:R2:=fun x y H Q=>∃ z i c,x=.str z∧y=.int i∧z.length≤sizeLine∧atI z.cps.toList i=some c∧Q (.str ⟨#[c]⟩) H
theorem ix_list:IxR X (rIxL X.K):=by
 intro value slice pins s σ H x y v u Q I rx ry h hs
 obtain ⟨p,xs,i,z,rfl,rfl,hq,he,q⟩:=h
 cases rx
 obtain ⟨t,rfl⟩:=ry
 obtain ⟨its,r,pl,hz⟩:=I.list hq
 obtain ⟨j,h1,h2,h3,h4,h5⟩:=atI_get he
 obtain ⟨w,ew,rw'⟩:=r.get h2
 have hl:=r.length
 have hn:=line63
 have fin:EP X pins σ Q w s:=⟨z,H,I,rw',q⟩
 by_cases h0:0≤i
 ·have hj:i.toNat=j:=by
   rw [seqIndex_of h0 h5] at h1
   exact Option.some.inj h1
  exact item_listR pl.isList h0 (by omega) (by rw [hj];simpa using ew) fin hs
 ·have hj:(i+(its.toArray.size:Int)).toNat=j:=by
   rw [seqIndex_neg (by omega) h4] at h1
   rw [List.size_toArray,←hl]
   exact Option.some.inj h1
  exact subscriptTail_builtinR (x:=w) pl.isList.typeIs slot_list_getitem.lookup
   (wpAny_getItem_list_neg (Q:=fun r s'=>r=w∧EP X pins σ Q r s') pl.isList (by omega) (by rw [List.size_toArray]<;>omega) (by omega) (by rw [hj];simpa using ew) ⟨rfl,fin⟩) hs
theorem ix_tup:IxR X (rIxT X.K):=by
 intro value slice pins s σ H x y v u Q I rx ry h hs
 obtain ⟨p,xs,i,z,rfl,rfl,hq,he,q⟩:=h
 cases rx
 obtain ⟨t,rfl⟩:=ry
 obtain ⟨its,r,pl,hz⟩:=I.tuple hq
 obtain ⟨j,h1,h2,h3,h4,h5⟩:=atI_get he
 obtain ⟨w,ew,rw'⟩:=r.get h2
 have hl:=r.length
 have hn:=line63
 have fin:EP X pins σ Q w s:=⟨z,H,I,rw',q⟩
 exact subscriptTail_builtinR (x:=w) pl.typeIs slot_tuple_getitem.lookup
  (getItem_tuple (j:=j) (Q:=fun r s'=>r=w∧EP X pins σ Q r s') pl (by omega) (by omega) (by rw [List.size_toArray,←hl];exact h1) (by simpa using ew) ⟨rfl,fin⟩) hs
theorem ix_str:IxR X rIxS:=by
 intro value slice pins s σ H x y v u Q I rx ry h hs
 obtain ⟨z,i,c,rfl,rfl,hz,he,q⟩:=h
 obtain ⟨t,rfl⟩:=rx
 obtain ⟨t',rfl⟩:=ry
 obtain ⟨j,h1,h2,h3,h4,h5⟩:=atI_get he
 have hl:z.cps.toList.length=z.length:=by simp [Str.length]
 rw [hl] at h1 h4 h5
 have hn:=line63
 exact tail_any (typeIs_str s z t) slot_str_getitem.lookup (getItem_str (c:=c) (by
  have e1:decide (i < -(2 ^ 63:Int))=false:=decide_eq_false (by omega)
  have e2:decide (i≥2 ^ 63)=false:=decide_eq_false (by omega)
  rw [e1,e2,Bool.or_false]) (by rw [h1];simpa using h2) ⟨.str ⟨#[c]⟩,H,I.tok _,⟨_,rfl⟩,q⟩) hs
def rIx (K:PySem.W.Frag):R2:=fun x y H Q=>rIxL K x y H Q∨rIxT K x y H Q∨rIxS x y H Q
theorem ix_seq:IxR X (rIx X.K):=ix_list.or (ix_tup.or ix_str)
def lF:V→Bool
 | .non=>true
 | .bl _=>true
 | .int _=>true
 | .str _=>true
 | _=>false
def eqV:V→V→Bool
 | .non,.non=>true
 | .bl a,.bl b=>a==b
 | .bl a,.int b=>(if a then 1 else 0)==b
 | .int a,.bl b=>a==(if b then 1 else 0)
 | .int a,.int b=>a==b
 | .str a,.str b=>a==b
 | _,_=>false
theorem eqAt_V {A:Around} {s:Shared} {y x:V} {u v:Value} (ry:RelV y u) (rx:RelV x v) (fy:lF y=true) (fx:lF x=true):SeqAt.EqAt A s u v (eqV y x):=by
 cases y with
 | non=>
  cases ry
  cases x with
  | non=>cases rx;exact SeqAt.EqAt.same _
  | bl b=>cases rx;exact SeqAt.EqAt.none_bool b
  | int b=>obtain ⟨t,rfl⟩:=rx;exact SeqAt.EqAt.none_int b t
  | str b=>obtain ⟨t,rfl⟩:=rx;exact SeqAt.EqAt.none_str b t
  | _=>exact absurd (show false=true from fx) Bool.false_ne_true
 | bl a=>
  cases ry
  cases x with
  | non=>cases rx;exact SeqAt.EqAt.bool_none a
  | bl b=>cases rx;exact SeqAt.EqAt.bool_bool a b
  | int b=>obtain ⟨t,rfl⟩:=rx;exact SeqAt.EqAt.bool_int a b t
  | str b=>obtain ⟨t,rfl⟩:=rx;exact SeqAt.EqAt.bool_str a b t
  | _=>exact absurd (show false=true from fx) Bool.false_ne_true
 | int a=>
  obtain ⟨t',rfl⟩:=ry
  cases x with
  | non=>cases rx;exact SeqAt.EqAt.int_none a t'
  | bl b=>cases rx;exact SeqAt.EqAt.int_bool a t' b
  | int b=>obtain ⟨t,rfl⟩:=rx;exact SeqAt.EqAt.int_int a t' b t
  | str b=>obtain ⟨t,rfl⟩:=rx;exact SeqAt.EqAt.int_str a t' b t
  | _=>exact absurd (show false=true from fx) Bool.false_ne_true
 | str a=>
  obtain ⟨t',rfl⟩:=ry
  cases x with
  | non=>cases rx;exact SeqAt.EqAt.str_none a t'
  | bl b=>cases rx;exact SeqAt.EqAt.str_bool a t' b
  | int b=>obtain ⟨t,rfl⟩:=rx;exact SeqAt.EqAt.str_int a t' b t
  | str b=>obtain ⟨t,rfl⟩:=rx;exact SeqAt.EqAt.str_str a t' b t
  | _=>exact absurd (show false=true from fx) Bool.false_ne_true
 | _=>exact absurd (show false=true from fy) Bool.false_ne_true
def eqU (x:V) (u:Value):Bool:=match u with
 | .none=>eqV .non x
 | .bool b=>eqV (.bl b) x
 | .int i _=>eqV (.int i) x
 | .str z _=>eqV (.str z) x
 | _=>false
theorem eqU_of {x y:V} {u:Value} (r:RelV y u) (f:lF y=true):eqU x u=eqV y x:=by
 cases y with
 | non=>cases r;rfl
 | bl b=>cases r;rfl
 | int i=>obtain ⟨t,rfl⟩:=r;rfl
 | str z=>obtain ⟨t,rfl⟩:=r;rfl
 | _=>exact absurd (show false=true from f) Bool.false_ne_true
theorem any_eqU {x:V}:∀ {xs:List V} {us:List Value},aV xs us→xs.all lF=true→us.any (eqU x)=xs.any fun y=>eqV y x
 | _,_,.nil,_=>rfl
 | y::xs,u::us,.cons r t,f=>by
  rw [List.all_cons,Bool.and_eq_true] at f
  rw [List.any_cons,List.any_cons,eqU_of r f.1,any_eqU t f.2]
theorem lU {A:Around} {s:Shared} {x:V} {v:Value} (rx:RelV x v) (fx:lF x=true):∀ {xs:List V} {us:List Value},aV xs us→xs.all lF=true→∀ u∈us,SeqAt.EqAt A s u v (eqU x u)
 | _,_,.nil,_=>fun u hu=>by cases hu
 | y::xs,u::us,.cons r t,f=>fun u' hu=>by
  rw [List.all_cons,Bool.and_eq_true] at f
  rcases List.mem_cons.mp hu with rfl | hu
  ·rw [eqU_of r f.1];exact eqAt_V r rx f.1 fx
  ·exact lU rx fx t f.2 u' hu
def inV (x:V) (xs:List V):Bool:=xs.any fun y=>eqV y x
def rIn (K:PySem.W.Frag) (neg:Bool):R2:=fun x y H Q=>∃ p xs,y=.ref p∧(SqL K H p xs∨SqT K H p xs)∧lF x=true∧xs.all lF=true∧Q (.bl (if neg then !inV x xs else inV x xs)) H
theorem op_in_seq:OpR X (compareOp .In) (rIn X.K false):=by
 intro pins s σ H x y v u Q I rx ry h
 obtain ⟨p,xs,rfl,hq,fx,fs,q⟩:=h
 cases ry
 rcases hq with hq | hq
 ·obtain ⟨its,r,pl,hz⟩:=I.list hq
  refine SeqAt.in_listAt (eqU x) pl.isList (fun w hw=>lU rx fx r fs w (by simpa using hw)) ⟨.bl _,H,I,rfl,?_⟩
  rw [show its.toArray.any (eqU x)=its.any (eqU x) by simp,any_eqU r fs]
  exact q
 ·obtain ⟨its,r,pl,hz⟩:=I.tuple hq
  refine SeqAt.in_tupleAt (eqU x) pl (fun w hw=>lU rx fx r fs w (by simpa using hw)) ⟨.bl _,H,I,rfl,?_⟩
  rw [show its.toArray.any (eqU x)=its.any (eqU x) by simp,any_eqU r fs]
  exact q
theorem op_notIn_seq:OpR X (compareOp .NotIn) (rIn X.K true):=by
 intro pins s σ H x y v u Q I rx ry h
 obtain ⟨p,xs,rfl,hq,fx,fs,q⟩:=h
 cases ry
 rcases hq with hq | hq
 ·obtain ⟨its,r,pl,hz⟩:=I.list hq
  refine SeqAt.notIn_listAt (eqU x) pl.isList (fun w hw=>lU rx fx r fs w (by simpa using hw)) ⟨.bl _,H,I,rfl,?_⟩
  rw [show its.toArray.any (eqU x)=its.any (eqU x) by simp,any_eqU r fs]
  exact q
 ·obtain ⟨its,r,pl,hz⟩:=I.tuple hq
  refine SeqAt.notIn_tupleAt (eqU x) pl (fun w hw=>lU rx fx r fs w (by simpa using hw)) ⟨.bl _,H,I,rfl,?_⟩
  rw [show its.toArray.any (eqU x)=its.any (eqU x) by simp,any_eqU r fs]
  exact q
theorem call_len_seq:eB X (.builtin "len") (fun xs H Q=>∃ p ys,xs=[.ref p]∧(SqL X.K H p ys∨SqT X.K H p ys)∧Q (.int ys.length) H):=by
 intro pins s σ H xs us Q I r h
 obtain ⟨p,ys,rfl,hq,q⟩:=h
 obtain ⟨u,rfl,rx⟩:=vals1 r
 cases rx
 have hn:=line63
 rcases hq with hq | hq
 ·obtain ⟨its,r',pl,hz⟩:=I.list hq
  have hlen:=r'.length
  exact Calls.call_len_list pl.isList (by simp only [List.size_toArray]<;>omega) ⟨.int ys.length,H,I.tok _,⟨s.toks+1,by rw [List.size_toArray,hlen]⟩,q⟩
 ·obtain ⟨its,r',pl,hz⟩:=I.tuple hq
  have hlen:=r'.length
  exact len_tuple pl (by simp only [List.size_toArray]<;>omega) ⟨.int ys.length,H,I.tok _,⟨s.toks+1,by rw [List.size_toArray,hlen]⟩,q⟩
theorem call_len_str:eB X (.builtin "len") (fun xs H Q=>∃ z,xs=[.str z]∧z.length≤sizeLine∧Q (.int z.length) H):=by
 intro pins s σ H xs us Q I r h
 obtain ⟨z,rfl,hz,q⟩:=h
 obtain ⟨u,rfl,t,rfl⟩:=vals1 r
 have hn:=line63
 exact len_str (by omega) ⟨.int z.length,H,I.tok _,⟨_,rfl⟩,q⟩
theorem nG:eB X (.type "tuple") (fun xs H Q=>∃ p ys,xs=[.ref p]∧((SqL X.K H p ys∧∀ l,H l=none→Q (.ref l) (upd H l (.tup ys)))∨(SqT X.K H p ys∧Q (.ref p) H))):=by
 intro pins s σ H xs us Q I r h
 obtain ⟨p,ys,rfl,h⟩:=h
 obtain ⟨u,rfl,rx⟩:=vals1 r
 cases rx
 rcases h with ⟨hq,q⟩ | ⟨hq,q⟩
 ·obtain ⟨its,r',pl,hz⟩:=I.list hq
  have hlen:=r'.length
  refine call_tuple_list pl.isList (fun h' kp=>?_) (by simp only [List.size_toArray]<;>omega)
  have I1:Inv X pins σ H { s with heap:=h' }:=I.kept (t':=s.toks) kp
  have I2:Inv X pins σ (upd H h'.objs.size (.tup ys)) { s with heap:=h'.push { cls:=.type "tuple", data:=.seq its.toArray } }:=
   I1.laid (t':=s.toks) (fun b o e=>Heap.get?_push_of_some _ e) (Nat.le_refl _) (show bV X.prog X.w _ _ _ (.tup ys) from ⟨hz,its,r',IsTup.new _ _⟩)
  exact ⟨.ref h'.objs.size,_,I2,rfl,q _ (I1.hok.fresh (Nat.le_refl _))⟩
 ·obtain ⟨its,r',pl,hz⟩:=I.tuple hq
  exact call_tuple_same pl ⟨.ref p,H,I,rfl,q⟩
def tyV (K:PySem.W.Frag) (T:String) (x:V) (H:Hp):Prop:=match x with
 | .str _=>T = "str"
 | .int _=>T = "int"
 | .ref p=>(T = "list" ∧ ∃ xs,SqL K H p xs)∨(T = "tuple" ∧ ∃ o,K.lookup p=some o∧o.cls=.type "tuple" ∧ o.dict=none) ∨
   (T = "dict" ∧ ((∃ kvs,H p=some (.dK kvs))∨∃ kvs,H p=some (.dT kvs)))∨(T = "set" ∧ ∃ S n,H p=some (.set S n))
 | _=>False
theorem tyV_is {pins:List (Addr×Obj)} {σ:St} {H:Hp} {s:Shared} {T:String} {x:V} {v:Value} (I:Inv X pins σ H s) (r:RelV x v) (ty:tyV X.K T x H) :
  s.TypeIs v T∧∀ a,v=.ref a→∃ ob,s.heap.get? a=some ob∧ob.dict=none:=by
 cases x with
 | str z=>
  obtain ⟨t,rfl⟩:=r
  cases (show T = "str" from ty)
  exact ⟨typeIs_str s z t,fun _ e=>nomatch e⟩
 | int i=>
  obtain ⟨t,rfl⟩:=r
  cases (show T = "int" from ty)
  exact ⟨typeIs_int s i t,fun _ e=>nomatch e⟩
 | ref p=>
  cases r
  rcases ty with ⟨rfl,xs,hq⟩ | ⟨rfl,o,hk,hc,hd⟩ | ⟨rfl,hk⟩ | ⟨rfl,S,n,hk⟩
  ·obtain ⟨its,_,pl,_⟩:=I.list hq
   refine ⟨pl.isList.typeIs,fun a e=>?_⟩
   cases e
   obtain ⟨o,n,e,c,hd,_⟩:=pl
   exact ⟨o,e,hd⟩
  ·refine ⟨⟨o,I.kIn p o hk,hc⟩,fun a e=>?_⟩
   cases e
   exact ⟨o,I.kIn _ o hk,hd⟩
  ·have z:∃ o,s.heap.get? p=some o∧o.ExactDict:=by
    rcases hk with ⟨kvs,hk⟩ | ⟨kvs,hk⟩
    ·obtain ⟨_,_,_,_,o,_,_,e,ex,_⟩:=I.hok p _ hk
     exact ⟨o,e,ex⟩
    ·obtain ⟨_,_,_,_,o,_,_,e,ex,_⟩:=I.hok p _ hk
     exact ⟨o,e,ex⟩
   obtain ⟨o,e,ex⟩:=z
   refine ⟨⟨o,e,ex.1⟩,fun a e2=>?_⟩
   cases e2
   exact ⟨o,e,ex.2.1⟩
  ·obtain ⟨o,_,_,_,e,ex,_⟩:=I.hok p _ hk
   refine ⟨⟨o,e,ex.1⟩,fun a e2=>?_⟩
   cases e2
   exact ⟨o,e,ex.2.1⟩
 | _=>exact False.elim ty
def tBM (K:PySem.W.Frag) (T:String) (r:V→List V→Hp→VK→Prop) (to:TE) (t:TA):TE:=fun σ H Q=>to σ H fun x H1=>tyV K T x H1∧t σ H1 fun xs H2=>r x xs H2 Q
variable {o e:Expr} {es:List Expr} {to:TE} {t:TA} {name:Str} {apos cpos:Pos} {T id:String} {r:V→List V→Hp→VK→Prop}
theorem pe_bm (pa:PlainAttrs T) (slot:Slot T name id) (hty:typeOf (.builtin id)=pure (.type "method_descriptor")) (hm:MtR X id r) (ho:PE X o to) (ha:PA X (e::es) t)
  (hbase:attributeBase o name X.env (eval o X.env)=eval o X.env:=by rfl)
  (hfew:((backTo cpos (starEach (e::es) X.env)).all (fun x=>!x.1)&&(backToKw cpos (keywordEach [] X.env)).all (fun x=>x.1.isSome)
   && decide ((e::es).length+([]:List Keyword).length+(if ([]:List Keyword).isEmpty then 0 else 1)<30))=true:=by rfl)
  (hline:(apos.endLine==cpos.line)=true:=by rfl) (hs:starEach (e::es) X.env=(false,eval e X.env)::starEach es X.env:=by rfl) (hplain:(backTo cpos (starEach es X.env)).any (·.1)=false:=by rfl) :
  PE X (.Call (.Attribute o name apos) (e::es) [] cpos) (tBM X.K T r to t):=by
 intro pins s σ H Q I h
 refine wpAny_Call_method_late hbase hfew hline rfl (thn (ho pins s σ H _ I h) fun v s1 ⟨x,H1,I1,r1,ty,q1⟩=>?_)
 obtain ⟨h1,h2⟩:=tyV_is I1 r1 ty
 refine ⟨T,id,pa,slot,hty,h1,h2,?_⟩
 have hA:=ha cpos pins s1 σ H1 _ I1 q1
 rw [hs] at hA ⊢
 refine Calls.callWith_builtin (by show (false || (backTo cpos (starEach es X.env)).any (·.1))=false;rw [hplain]<;>rfl) (Calls.evalArgs_plain ?_)
 exact thn hA fun us s2 ⟨vs,H2,I2,r2,q2⟩=>hm pins s2 σ H2 x vs v us Q I2 r1 r2 q2
end
def MtM (X:Cx) (id:String) (r:V→List V→Hp→VK→Prop):Prop:=
 ∀ (pins:List (Addr×Obj)) (s:Shared) (σ:St) (H:Hp) (x:V) (xs:List V) (v:Value) (us:List Value) (Q:VK),Inv X pins σ H s→RelV x v→aV xs us→r x xs H Q →
  wpAny (model X.prog X.w) X.A (call (.builtin id) (v::us)) (EP X pins σ Q) X.xe s
theorem aV.one:∀ {x:V} {us:List Value},aV [x] us→∃ u,us=[u]∧RelV x u
 | _,_,.cons r .nil=>⟨_,rfl,r⟩
theorem aV.rep {xs:List V} {us:List Value} (h:aV xs us):∀ k:Nat,aV (List.replicate k xs).flatten (List.replicate k us).flatten
 | 0=>.nil
 | k+1=>by
  rw [List.replicate_succ,List.replicate_succ,List.flatten_cons,List.flatten_cons]
  exact aV.append h (aV.rep h k)
theorem foldl_rep (its:List Value):∀ (k:Nat) (acc:List Value),
  List.foldl (fun x1 x2=>x1++x2) acc.toArray (List.replicate k its.toArray)=(acc++(List.replicate k its).flatten).toArray
 | 0,acc=>by simp
 | k+1,acc=>by
  have e:acc.toArray++its.toArray=(acc++its).toArray:=by simp
  have e2:(acc++its)++(List.replicate k its).flatten=acc++(List.replicate (k+1) its).flatten:=by
   rw [List.replicate_succ,List.flatten_cons,List.append_assoc]
  rw [←e2,←foldl_rep its k (acc++its),←e,List.replicate_succ,List.foldl_cons]
section
variable {X:Cx} {pins:List (Addr×Obj)} {σ:St} {H:Hp} {s:Shared} {l b:Addr} {xs ys zs:List V}
theorem Inv.lset {its its':List Value} {n:Nat} {f:Array Value→Array Value} {t':Nat} (I:Inv X pins σ H s) (hH:H l=some (.lst xs))
  (e:s.heap.get? l=some { cls:=.type "list", data:=.seq its.toArray n }) (hf:f its.toArray=its'.toArray) (hv:aV ys its') (hz:ys.length≤sizeLine) :
  Inv X pins σ (upd H l (.lst ys)) { s with heap:=s.heap.update l (Obj.mapSeq f),toks:=t' }:=by
 have q:=PySem.IsL.update e f
 rw [hf] at q
 refine I.write (x:=l) (e:=l) (by rw [hH];exact trivial) (.inl rfl) (fun b' u hb hu=>(Heap.get?_update_other s.heap (Obj.mapSeq f) (Ne.symm hb)).trans hu) ⟨_,q⟩ ?_
 exact ⟨hz,its',_,hv,q⟩
theorem Inv.lnew {its:List Value} {t':Nat} (I:Inv X pins σ H s) (hv:aV ys its) (hz:ys.length≤sizeLine) :
  Inv X pins σ (upd H s.heap.objs.size (.lst ys)) { s with heap:=s.heap.push { cls:=.type "list", data:=.seq its.toArray },toks:=t' }:=
 I.laid (fun _ _ q=>Heap.get?_push_of_some _ q) (Nat.le_refl _) ⟨hz,its,0,hv,Heap.get?_push_size _ rfl⟩
theorem Inv.fresh (I:Inv X pins σ H s):H s.heap.objs.size=none:=I.hok.fresh (Nat.le_refl _)
theorem Inv.lstM (I:Inv X pins σ H s) (hH:H l=some (.lst xs)):xs.length≤sizeLine∧∃ (its:List Value) (n:Nat),aV xs its∧xs.length=its.length∧s.heap.get? l=some { cls:=.type "list", data:=.seq its.toArray n }:=by
 obtain ⟨z,its,n,r,e⟩:=I.hok l _ hH
 exact ⟨z,its,n,r,r.length,e⟩
theorem notLongL {n:Nat} (h:n≤sizeLine):Builtin.List.listTooLong n=false:=by
 unfold Builtin.List.listTooLong
 exact decide_eq_false (by omega)
end
section
variable {X:Cx}
def rAppend:V→List V→Hp→VK→Prop:=fun x vs H Q=>∃ l xs y,x=.ref l∧vs=[y]∧H l=some (.lst xs)∧xs.length<sizeLine∧Q .non (upd H l (.lst (xs++[y])))
theorem mU:MtM X "list.append" rAppend:=by
 intro pins s σ H x vs v us Q I rx rv h
 obtain ⟨l,xs,y,rfl,rfl,hH,hz,q⟩:=h
 cases rx
 obtain ⟨u,rfl,ru⟩:=rv.one
 obtain ⟨z,its,n,r,hl,e⟩:=I.lstM hH
 refine call_meets F.slot_list_append ⟨_,e,rfl⟩ F.entry_list_append (F.args_list_append_2 _ _) (PySem.list_append l its.toArray n u (by rw [List.size_toArray];omega)) ⟨e,?_⟩
 refine ⟨.non,_,I.lset (its':=its++[u]) hH e (by simp) (r.append (.cons ru .nil)) ?_,rfl,q⟩
 rw [List.length_append,List.length_singleton]
 omega
def rRep:R2:=fun x y H Q=>∃ l k xs,x=.ref l∧y=.int k∧H l=some (.lst xs)∧-(2 ^ 63)≤k∧k<2 ^ 63∧xs.length*k.toNat≤sizeLine ∧
 ∀ p,H p=none→Q (.ref p) (upd H p (.lst (List.replicate k.toNat xs).flatten))
theorem len_rep {α:Type} (xs:List α) (k:Nat):(List.replicate k xs).flatten.length=k*xs.length:=by
 induction k with
 | zero=>simp
 | succ k ih=>rw [List.replicate_succ,List.flatten_cons,List.length_append,ih,Nat.succ_mul,Nat.add_comm]
theorem op_rep:OpR X (binaryOp .Mult) rRep:=by
 intro pins s σ H x y v u Q I rx ry h
 obtain ⟨l,k,xs,rfl,rfl,hH,h1,h2,hz,q⟩:=h
 cases rx
 obtain ⟨t,rfl⟩:=ry
 obtain ⟨z,its,n,r,hl,e⟩:=I.lstM hH
 have hlen:its.toArray.size*k.toNat≤sizeLine:=by rw [List.size_toArray,←hl];exact hz
 have hcap:¬its.toArray.size*k.toNat > (2 ^ 63 - 1) / 8:=by
  have:(sizeLine:Nat)≤(2 ^ 63 - 1) / 8:=by decide
  omega
 have hfit:¬(!Builtin.List.listFitsIndex k)=true:=by
  rw [fitsIndex_both h1 h2]
  exact Bool.false_ne_true
 have hlong:¬Builtin.List.listTooLong (its.toArray.size*k.toNat)=true:=by
  rw [notLongL hlen]
  exact Bool.false_ne_true
 have hnew:List.foldl (fun x1 x2=>x1++x2) #[] (List.replicate (if its.toArray.isEmpty=true then 0 else k.toNat) its.toArray)=(List.replicate k.toNat its).flatten.toArray:=by
  have f0:∀ m:Nat,List.foldl (fun x1 x2=>x1++x2) #[] (List.replicate m its.toArray)=(List.replicate m its).flatten.toArray:=fun m=>by
   have:=foldl_rep its m []
   rw [List.nil_append] at this
   exact this
  rw [f0]
  cases its with
  | nil=>simp
  | cons a r'=>rw [if_neg (by simp)]
 refine wpAny_binaryOp_repeat_ref (T := "list") (U := "int") (by decide) ⟨_,e,rfl⟩ (fun s'=>typeIs_int s' k t) noFill_list_mul F.fills_int_mul F.slot_int_rmul repeat_list F.slot_int_index.lookup
  (call_meets F.slot_int_rmul (typeIs_int s k t) F.entry_int_rmul (F.args_int_rmul_2 _ _) (int___rmul___int_list k t l its.toArray n)
   ⟨e,rfl,⟨_,e,rfl⟩,call_meets F.slot_list_mul ⟨_,e,rfl⟩ F.entry_list_mul (F.args_list_mul_2 _ _) (AutoListH.list___mul___list_int_3 l its.toArray n k t hfit hcap hlong) ⟨e,?_⟩⟩)
 rw [hnew]
 exact ⟨.ref _,_,I.lnew (t':=s.toks) (r.rep k.toNat) (by rw [len_rep,Nat.mul_comm];exact hz),rfl,q _ I.fresh⟩
end
section
variable {prog:Program} {w:World} {A:Around} {E:Value→Shared→Prop} {s:Shared}
end
section
variable {X:Cx}
end
end L2
namespace Att
open PySem PySem.W PySem.Calls PyProof.Rows
theorem ints_of_wellAll {P:Params} {h:Heap}:∀ (ns:List Int) (vs:List Value),WellAll P h vs (ns.map WData.int)→IntsAre vs ns:=by
 intro ns
 induction ns with
 | nil=>
  intro vs w
  rw [List.map_nil] at w
  cases w
  exact .nil
 | cons n ns ih=>
  intro vs w
  rw [List.map_cons] at w
  cases w with
  | cons a b=>
   cases a
   exact .cons _ _ (ih _ b)
theorem script_of {l:OpenLaw} {n:Nat} (hn:l.most=some n) {P:Params} {h:Heap} {args:List WData} {vals:List Value}
  (hpre:l.row.toRowW.claim.pre args=true) (hwl:WellAll P h vals args) :
  ∃ a vs ns,vals=[Value.ref a]∧args=[WData.list (ns.map WData.int)]∧h.get? a=some { cls:=.type "list", data:=.seq vs.toArray }∧IntsAre vs ns∧ns.length≤n:=by
 have hsh:WShape.hasAll [] args [.list .int]=true:=(pre_splitW hpre).1
 have hc:l.pre.holds [] { args:=args }=true:=(pre_splitW hpre).2
 obtain ⟨d,r,rfl,h1,h2⟩:=hasAllW_cons hsh
 obtain rfl:=hasAllW_nil h2
 obtain ⟨xs,rfl,h3⟩:=hasW_list h1
 obtain ⟨ns,rfl⟩:=items_int h3
 have hlen:ns.length≤n:=by
  unfold OpenLaw.pre at hc
  have h4:(WTm.not (.lt (.lit (.int (n:Int))) (.len (.arg 0)))).holds [] { args:=[.list (ns.map .int)] }=true:=by
   have h4:=(holds_andW hc).1
   rw [hn] at h4
   exact h4
  have h5:=condW_of h4 (w_not (w_lt w_lit (w_len_list (w_arg rfl))))
  rw [List.length_map] at h5
  refine Nat.le_of_not_lt fun q=>?_
  have q':(n:Int)<((ns.length:Nat):Int):=by omega
  first
   | (rw [decide_eq_true q'] at h5;exact absurd h5 (by decide))
   | (simp at h5;omega)
 cases hwl with
 | cons w1 w2=>
  cases w2
  cases w1 with
  | list ho hall=>exact ⟨_,_,ns,rfl,rfl,ho,ints_of_wellAll ns _ hall,hlen⟩
theorem post_true (l:OpenLaw) (args:List WData):l.row.toRowW.claim.post args (.bool true) args=true:=
 postW_of (r:=l.row.toRowW) (X:=(true==true))
  (show WShape.has [] (.bool true) .bool=true by first | rfl | decide | simp [WShape.has,WShape.arms,WShape.armsAll])
  (show (WTm.eq .res (.lit (.bool true))).value [] { args:=args,res:=some (.bool true),after:=args }=some (.bool (true==true)) from w_eq_bool (w_res rfl) w_lit) rfl
theorem attach_call {l:OpenLaw} {n:Nat} {q:Program} {loose:List Str} {XP:(Str→Option Value)→Heap→Prop} {YP:World→Heap→Prop} {d:DefRec}
  (hn:l.most=some n) (hdf:d.params.defaults=[])
  (call:∀ (w:World) (s₀ s₁:Shared) (mg mb:Str→Option Value) (fa:Addr) (o:Obj) (pm cd doc:Value) (a:Addr) (vs:List Value) (ns:List Int),
   Ground q loose [] XP w s₀ mg mb s₁.heap→YP w s₁.heap →
   s₁.heap.get? fa=some o→o.data=.func (docDef d.name d.params d.body d.scope pm cd doc)→s₁.heap.CodeRec cd d.name→mg d.name=some (.ref fa) →
   s₁.heap.get? a=some { cls:=.type "list", data:=.seq vs.toArray }→IntsAre vs ns→ns.length≤n→s₁.gens=#[] →
   codeAny (model l.prog w) callerA (.call (.ref fa) ⟨[.ref a],[]⟩) (fun r s'=>r=.ok (.ret (.bool true))∧OldK s₁.heap s'.heap∧s'.os=s₁.os∧AllBare s'.gens) s₁) :
  WalkO q loose XP YP l.row.toRowW d [] (fun f vs=>PySem.call f vs):=by
 intro w s₀ s₁ mg mb G Y fa o pm cd doc dV kV ho hd hcd hD hmg hg args vals as hpre hlay hrd hwl hlo
 obtain rfl:dV=.none:=Dflts.none hD hdf
 obtain rfl:kV=.none:=Dflts.noKw hD
 obtain ⟨a,vs,ns,rfl,rfl,hobj,hints,hlen⟩:=script_of hn hpre hwl
 refine enter_call (codeAny_mono (call w s₀ s₁ mg mb fa o pm cd doc a vs ns G Y ho (fd_plain hd) hcd hmg hobj hints hlen hg) fun r s' hq=>?_)
 obtain ⟨rfl,h2,h3,h4⟩:=hq
 exact ⟨.inl ⟨.bool true,.bool true,[],rfl,fun _=>rfl,.bool true,post_true l _,fun _=>⟨List.Pairwise.nil,fun _ hm=>(nomatch hm)⟩⟩,h2,h3,h4⟩
section
variable {prog:Program} {w:World} {A:Around} {E:Value→Shared→Prop} {s:Shared} {K:Frag}
end
end Att
namespace L2
open PySem PySem.Spec PyProof.Rows
theorem jU:∀ {vs:List Value} {ns:List Int},IntsAre vs ns→aV (ns.map V.int) vs
 | _,_,.nil=>.nil
 | _,_,.cons n t h=>.cons ⟨t,rfl⟩ (jU h)
def Only (H:Hp):Prop:=∀ b,H b=none∨∃ o xs,H b=some (.frz o (.lst xs))
def gB (s:Stmt):Arguments:=match s with
 | .FunctionDef _ a _ _ _ _ _ _ _ _=>a
 | _=>{ posonlyargs:=[],args:=[],vararg:=none,kwonlyargs:=[],kw_defaults:=[],kwarg:=none,defaults:=[] }
def cG (s:Stmt):List Stmt:=match s with
 | .FunctionDef _ _ b _ _ _ _ _ _ _=>b
 | _=>[]
def aD (s:Stmt):Scope:=match s with
 | .FunctionDef _ _ _ _ _ _ sc _ _ _=>sc
 | _=>{ kind:=.function,names:=[],isGenerator:=false,isCoroutine:=false }
abbrev CX0:CXT:=fun _ _ _ _ _ _=>False
abbrev E0:XK:=fun _ _ _=>False
theorem pass0 {X:Cx}:Passes CX0 X E0:=fun _ _ _ _ _ _ _ h=>h.elim
structure Fun (K:PySem.W.Frag) (x qual:Str) (st:Stmt) (f:Addr) (fd:FuncData):Prop where
 ex:∃ (oc:Value) (od:Option Addr) (kV doc pm:Value) (an:Option Addr) (cdv ct:Value) (osl:Array (Option Value)),
  fd=PySem.W.fnOf x qual (gB st) (cG st) (aD st) .none kV doc pm an cdv ct∧K.lookup f=some ⟨oc,od,.func fd,osl⟩∧PySem.W.codeIn K cdv qual=true
 kp:PySem.W.keepIn K (.ref f)=true
section
variable {P:Program} {w:World} {K:PySem.W.Frag} {mg:Str→Option Value} {base:Heap}
theorem Fun.ok {x qual:Str} {st:Stmt} {f:Addr} {fd:FuncData} {N ps:List Str} {k:Nat} {sp:Sp} (F:Fun K x qual st f fd) (S:FnScope N ps (aD st)) (len:∀ vs H Q E,sp vs H Q E→vs.length=ps.length)
  (hbody:∀ (cdv:Value) (A:Around) (outer:List Env) (s:Shared) (H:Hp) (vs:List V) (Q:VK) (E:XK),Room k (A.deeper (envOfC qual (aD st) s.heap.objs.size f cdv))→sp vs H Q E →
   ∃ t,PSs (cxOf CX0 P w K mg base N qual (aD st) f cdv A outer s H E).nox (cG st) t∧t { nx:=fun _ H'=>Q .non H',rt:=Q } (start N vs) H):FnOk P w K mg base CX0 (k+1) f fd ps sp:=by
 obtain ⟨oc,od,kV,doc,pm,an,cdv,ct,osl,rfl,lk,hcd⟩:=F.ex
 refine fn_of lk hcd S len fun A outer s H vs Q E hr hsp=>?_
 obtain ⟨t,h,q⟩:=hbody cdv A outer s H vs Q E hr hsp
 exact ⟨t,h.nox,q⟩
theorem Fun.binds {x qual:Str} {st:Stmt} {f:Addr} {fd:FuncData} {ps:List Str} (F:Fun K x qual st f fd)
  (h:∀ (kV doc pm:Value) (an:Option Addr) (cdv ct:Value) (us:List Value),us.length=ps.length→bindArgs (PySem.W.fnOf x qual (gB st) (cG st) (aD st) .none kV doc pm an cdv ct) ⟨us,[]⟩=pure (ps.zip us)):Binds K fd ps []:=by
 obtain ⟨oc,od,kV,doc,pm,an,cdv,ct,osl,rfl,lk,hcd⟩:=F.ex
 exact .all (h kV doc pm an cdv ct)
theorem fun_mk {x qual:Str} {st:Stmt} {f:Addr} {oc:Value} {od an:Option Addr} {osl:Array (Option Value)} {kV doc pm cdv ct:Value} (l:K.lookup f=some ⟨oc,od,.func (PySem.W.fnOf x qual (gB st) (cG st) (aD st) .none kV doc pm an cdv ct),osl⟩)
  (c:PySem.W.codeIn K cdv qual=true) (k:PySem.W.keepIn K (.ref f)=true):Fun K x qual st f (PySem.W.fnOf x qual (gB st) (cG st) (aD st) .none kV doc pm an cdv ct):=⟨⟨oc,od,kV,doc,pm,an,cdv,ct,osl,rfl,l,c⟩,k⟩
end
theorem eT {n:Nat} (h:n≤1000):n<sizeLine:=Nat.lt_of_le_of_lt h (by decide)
section
variable {X:Cx}
theorem pv (i:Nat) {x:Str} {pos:Pos} (hN:X.N[i]?=some x:=by rfl) (hv:Vis X.env.scope x:=by first | exact Or.inl rfl | exact Or.inr (Or.inl rfl) | exact Or.inr (Or.inr rfl)) (hd:(x==("__debug__" : Str))=false:=by decide)
  (hcd:(x==("__classdict__" : Str))=false:=by decide):PE X (.Name x pos) (tVar i):=iF hN hv hd hcd
end
theorem iteF {A B:Prop} (h:B):if false=true then A else B:=by
 rw [if_neg Bool.false_ne_true]
 exact h
theorem iteT {A B:Prop} (h:A):if true=true then A else B:=by
 rw [if_pos rfl]
 exact h
def aX (H H':Hp):Prop:=∀ b o,H b=some o→H' b=some o
theorem aX.refl (H:Hp):aX H H:=fun _ _ h=>h
theorem aX.trans {H H1 H2:Hp} (a:aX H H1) (b:aX H1 H2):aX H H2:=fun c o h=>b c o (a c o h)
theorem aX.free {H H':Hp} (e:aX H H') {l:Addr} (h:H' l=Option.none):H l=Option.none:=by
 cases q:H l with
 | none=>rfl
 | some o=>
  rw [e l o q] at h
  cases h
theorem aX.seq {K:PySem.W.Frag} {H H':Hp} {a:Addr} {xs:List V} (e:aX H H') (h:SqL K H a xs):SqL K H' a xs:=by
 rcases h with (h | ⟨o,h⟩) | h
 ·exact .inl (.inl (e _ _ h))
 ·exact .inl (.inr ⟨o,e _ _ h⟩)
 ·exact .inr h
theorem forIn_fold {α β:Type} {l:List α} {f:α→β→Sem (ForInStep β)} {g:α→β→β}:∀ (c:β),(∀ x∈l,∀ c,f x c=pure (.yield (g x c)))→(forIn l c f:Sem β)=pure (l.foldl (fun c x=>g x c) c):=by
 induction l with
 | nil=>intro c _;rfl
 | cons x r ih=>
  intro c h
  rw [List.forIn_cons,h x List.mem_cons_self]
  exact ih _ fun y hy=>h y (List.mem_cons_of_mem _ hy)
def jT (env:Env) (p:Str×NameKind) (cs:List (Str×Addr)):List (Str×Addr):=
 if p.2=.free then (match env.cells.lookup p.1 with | some a=>(p.1,a)::cs | none=>cs) else cs
def clOf (scope:Scope) (env:Env):List (Str×Addr):=scope.names.foldl (fun cs p=>jT env p cs) []
theorem clOf_closure {scope:Scope} {env:Env} (h:∀ p∈scope.names,p.2=.free→∃ c,env.cells.lookup p.1=some c):closureFor scope env=pure (clOf scope env):=by
 simp only [closureFor]
 rw [forIn_fold (g:=jT env) [] (fun x hx c=>by
  obtain ⟨n,kind⟩:=x
  by_cases hk:kind=.free
  ·subst hk
   obtain ⟨a,e⟩:=h _ hx rfl
   have e':env.cells.lookup n=some a:=e
   simp [jT,e',cellOf]
   try rfl
  ·have hb:(kind==NameKind.free)=false:=by simpa using hk
   simp [jT,hb,hk])]
 rfl
theorem cl_go {env:Env}:∀ (names:List (Str×NameKind)) (cs:List (Str×Addr)),(∀ x c,(x,c)∈cs→env.cells.lookup x=some c) →
  ∀ x c,(x,c)∈names.foldl (fun cs p=>jT env p cs) cs→env.cells.lookup x=some c
 | [],cs,h=>h
 | p::r,cs,h=>by
  refine cl_go r _ ?_
  intro x c hx
  unfold jT at hx
  dsimp only at hx
  split at hx
  ·split at hx
   ·rename_i a e
    rcases List.mem_cons.mp hx with z | z
    ·cases z;exact e
    ·exact h x c z
   ·exact h x c hx
  ·exact h x c hx
theorem cl_more {env:Env} {q:Str×Addr}:∀ (names:List (Str×NameKind)) (cs:List (Str×Addr)),q∈cs→q∈names.foldl (fun cs p=>jT env p cs) cs
 | [],_,h=>h
 | p::r,cs,h=>by
  refine cl_more r _ ?_
  unfold jT
  dsimp only
  split
  ·split
   ·exact List.mem_cons_of_mem _ h
   ·exact h
  ·exact h
theorem cl_has {env:Env} {x:Str} {c:Addr} (e:env.cells.lookup x=some c):∀ (names:List (Str×NameKind)) (cs:List (Str×Addr)),(x,NameKind.free)∈names→(x,c)∈names.foldl (fun cs p=>jT env p cs) cs
 | [],_,h=>by simp at h
 | p::r,cs,h=>by
  rcases List.mem_cons.mp h with z | z
  ·subst z
   refine cl_more r _ ?_
   unfold jT
   dsimp only
   rw [if_pos rfl,e]
   exact List.mem_cons_self
  ·exact cl_has e r _ z
theorem iL {α:Type} {x:Str} {c:α}:∀ {l:List (Str×α)},(x,c)∈l→∃ c',l.lookup x=some c'
 | [],h=>by simp at h
 | (y,d)::r,h=>by
  by_cases e:x=y
  ·subst e;exact ⟨d,by simp [List.lookup_cons]⟩
  ·have hb:(x==y)=false:=by simpa using e
   rcases List.mem_cons.mp h with z | z
   ·cases z;exact absurd rfl e
   ·obtain ⟨c',q⟩:=iL z
    exact ⟨c',by simp [List.lookup_cons,hb,q]⟩
theorem clOf_of {scope:Scope} {env:Env} {x:Str} {c:Addr} (h:(clOf scope env).lookup x=some c):env.cells.lookup x=some c:=
 cl_go scope.names [] (fun _ _ z=>by simp at z) x c (PySem.mem_of_lookup h)
theorem clOf_has {scope:Scope} {env:Env} {x:Str} {c:Addr} (hx:(x,NameKind.free)∈scope.names) (e:env.cells.lookup x=some c):(clOf scope env).lookup x=some c:=by
 obtain ⟨c',q⟩:=iL (cl_has e scope.names [] hx)
 have:=clOf_of (scope:=scope) q
 rw [e] at this
 cases this
 exact q
theorem gW {env:Env} (hf:env.scope.kind=.function):∀ {names:List (Str×NameKind)} {x:Str},names.lookup x=some .free→env.kindOf x=some .cell →
  (names.map fun (n,k)=>if (k==NameKind.free&&env.scope.kind==.function&&env.kindOf n==some .cell) then (n,NameKind.cell) else (n,k)).lookup x=some .cell
 | [],_,h,_=>by simp at h
 | (n,k)::r,x,h,hk=>by
  have ih:=@gW env hf r x
  show List.lookup x ((if (k==NameKind.free&&env.scope.kind==.function&&env.kindOf n==some .cell)=true then (n,NameKind.cell) else (n,k))::_)=_
  cases hx:x==n with
  | true=>
   simp only [List.lookup_cons,hx] at h
   have e:x=n:=by simpa using hx
   subst e
   cases h
   have hc:(NameKind.free==NameKind.free&&env.scope.kind==.function&&env.kindOf x==some NameKind.cell)=true:=by rw [hf,hk];rfl
   rw [if_pos hc]
   simp [List.lookup_cons]
  | false=>
   simp only [List.lookup_cons,hx] at h
   by_cases hc:(k==NameKind.free&&env.scope.kind==.function&&env.kindOf n==some .cell)=true
   ·rw [if_pos hc];simp only [List.lookup_cons,hx];exact ih h hk
   ·rw [if_neg hc];simp only [List.lookup_cons,hx];exact ih h hk
theorem iC:∀ (names:List (Str×NameKind)) (n:Nat) (acc cl:List (Str×Addr)),cellsFrom n names (acc++cl)=cellsFrom n names acc++cl
 | [],_,_,_=>rfl
 | (x,k)::r,n,acc,cl=>by
  unfold cellsFrom
  split
  ·exact iC r (n+1) ((x,n)::acc) cl
  ·exact iC r n acc cl
theorem eY (names:List (Str×NameKind)) (n:Nat) (cl:List (Str×Addr)) {x:Str} {c:Addr} (h:(cellsFrom n names cl).lookup x=some c) :
  (cellsFrom n names []).lookup x=some c∨((cellsFrom n names []).lookup x=none∧cl.lookup x=some c):=by
 have e:=iC names n [] cl
 rw [List.nil_append] at e
 rw [e,List.lookup_append] at h
 cases q:(cellsFrom n names []).lookup x with
 | some d=>rw [q] at h;exact .inl h
 | none=>rw [q] at h;exact .inr ⟨rfl,h⟩
theorem cells_there (names:List (Str×NameKind)) (n:Nat) (cl:List (Str×Addr)) {x:Str} {c:Addr} (h:cl.lookup x=some c):∃ d,(cellsFrom n names cl).lookup x=some d:=by
 have e:=iC names n [] cl
 rw [List.nil_append] at e
 rw [e,List.lookup_append]
 cases q:(cellsFrom n names []).lookup x with
 | some d=>exact ⟨d,rfl⟩
 | none=>exact ⟨c,h⟩
theorem cells_later (names:List (Str×NameKind)) (n:Nat) (cl:List (Str×Addr)) {x:Str} {c:Addr} (h0:(cellsFrom n names []).lookup x=none) (h:cl.lookup x=some c):(cellsFrom n names cl).lookup x=some c:=by
 have e:=iC names n [] cl
 rw [List.nil_append] at e
 rw [e,List.lookup_append,h0]
 exact h
theorem cells_first (names:List (Str×NameKind)) (n:Nat) (cl:List (Str×Addr)) {x:Str} {c:Addr} (h:(cellsFrom n names []).lookup x=some c):(cellsFrom n names cl).lookup x=some c:=by
 have e:=iC names n [] cl
 rw [List.nil_append] at e
 rw [e,List.lookup_append,h]
 rfl
theorem cells_mem:∀ (names:List (Str×NameKind)) (n:Nat) (acc:List (Str×Addr)) {x:Str} {c:Addr},(x,c)∈cellsFrom n names acc→(x,c)∈acc∨(x,NameKind.cell)∈names
 | [],_,_,_,_,h=>.inl h
 | (y,k)::r,n,acc,x,c,h=>by
  unfold cellsFrom at h
  split at h
  ·rename_i hk
   have hk':k=.cell:=by simpa using hk
   rcases cells_mem r (n+1) ((y,n)::acc) h with z | z
   ·rcases List.mem_cons.mp z with z | z
    ·cases z;subst hk';exact .inr List.mem_cons_self
    ·exact .inl z
   ·exact .inr (List.mem_cons_of_mem _ z)
  ·rcases cells_mem r n acc h with z | z
   ·exact .inl z
   ·exact .inr (List.mem_cons_of_mem _ z)
theorem blk_env {M:Model} {A:Around} {E:Value→Shared→Prop} {s:Shared} {scope:Scope} {globals:Addr} {cl:List (Str×Addr)} {qual:Str} {env:Env} {Q:Env→Shared→Prop}
  (hQ:Q (newEnv scope s.heap.objs.size globals (cellsFrom (s.heap.objs.size+1) scope.names cl) qual none .none (some env) builtinsNs) { s with heap:=pushCells (s.heap.push { cls:=.type "dict", data:=.dict #[] }) scope.names }) :
  wpAny M A (newFunctionEnv scope globals cl [] qual none .none (some env)) Q E s:=by
 simp only [newFunctionEnv,Option.isSome_some,if_true]
 refine wpAny_bind (wpAny_alloc ?_)
 refine wpAny_bind (wpAny_layCells _ (fun name kind cells=>by cases hkc:kind==NameKind.cell<;>simp [hkc]) _ _ _ _ ?_)
 rw [show ({ s with heap:=s.heap.push { cls:=.type "dict", data:=.dict #[] } }:Shared).heap.objs.size=s.heap.objs.size+1 from Heap.size_push ..]
 refine wpAny_bind (wpAny_pure ?_)
 exact wpAny_pure hQ
structure Blk (X:Cx) (scope:Scope) (N':List Str) (cap:List (Option Nat)):Prop where
 kind:scope.kind=.function
 cells:∀ y∈scope.names,y.2=.cell→scope.names.lookup y.1=some .cell
 names:∀ y∈scope.names,y.2=.local→scope.names.lookup y.1=some .local
 free:∀ y∈scope.names,y.2=.free→X.env.kindOf y.1=some .cell
 caps:∀ (i j:Nat),cap[i]?=some (some j)→∃ x,N'[i]?=some x∧X.N[j]?=some x∧scope.names.lookup x=some .free
 len:cap.length=N'.length
 nd:N'.Nodup
def kD (cap:List (Option Nat)) (σ:St):St:=cap.map fun o=>match o with
 | some j=>(σ[j]?).getD none
 | none=>none
def bO (X:Cx) (scope:Scope) (N':List Str) (C:Addr) (s₃:Shared) (H₃:Hp) (fp:List Addr):Cx:=
 { X with env:=compEnvC scope (cellsFrom (C+1) scope.names (clOf scope X.env)) C X.env,N:=N',s₀:=s₃,H₀:=H₃,outer:=X.stack,ex:=fp,fn:=fun x=>decide (scope.names.lookup x=some .cell),pn:=[],xe:=fun _ _=>False }
theorem blk_inv {X:Cx} {scope:Scope} {N':List Str} {cap:List (Option Nat)} {pins:List (Addr×Obj)} {σ:St} {H:Hp} {s:Shared} {fp:List Addr} {h':Heap} {tk:Nat} {m':Str→Option Value}
  (B:Blk X scope N' cap) (I:Inv X pins σ H s) (hf:∀ b∈fp,FpOk X pins H b) (hlt:∀ b∈fp,b<s.heap.objs.size)
  (hn:h'.Ns s.heap.objs.size m') (hk:∀ b o,s.heap.get? b=some o→h'.get? b=some o) (ow:CellsOk h' (s.heap.objs.size+1) (cellsFrom (s.heap.objs.size+1) scope.names [])) :
  Inv (bO X scope N' s.heap.objs.size s H fp) [] (kD cap σ) H { s with heap:=h',toks:=tk }:=by
 have cl:∀ x c,(clOf scope X.env).lookup x=some c→X.env.cells.lookup x=some c:=fun x c h=>clOf_of h
 have hsz:∀ x c,X.env.cells.lookup x=some c→c<s.heap.objs.size:=fun x c e=>by
  obtain ⟨v,q⟩:=I.cell x c e
  exact q.lt
 have own:∀ x c,(cellsFrom (s.heap.objs.size+1) scope.names []).lookup x=some c→h'.IsCell c none∧s.heap.objs.size<c:=fun x c e=>by
  obtain ⟨q1,q2⟩:=ow.empty x c (PySem.mem_of_lookup e)
  exact ⟨q1,Nat.lt_of_lt_of_le (Nat.lt_succ_self _) q2⟩
 refine ⟨⟨I.ok.mod,B.kind,I.ok.glob,I.ok.blt,Nat.le_refl _,?_,?_,?_,I.ok.hd,I.ok.frames,.inl rfl,?_,I.bs,Nat.le_trans I.ok.bsz I.sz,?_,?_,I.stack,I.stkFree⟩,
  rfl,I.bare,Un.kept hk,⟨m',hn,?_⟩,?_,I.hok.fresh (Nat.le_refl _),?_,?_,I.hok.kept hk,?_⟩
 ·intro x y c h1 h2
  rcases eY _ _ _ h1 with a1 | ⟨_,a1⟩<;>rcases eY _ _ _ h2 with a2 | ⟨_,a2⟩
  ·exact name_of_addr ow.apart (PySem.mem_of_lookup a1) (PySem.mem_of_lookup a2)
  ·exact absurd (hsz y c (cl y c a2)) (Nat.not_lt_of_lt (own x c a1).2)
  ·exact absurd (hsz x c (cl x c a1)) (Nat.not_lt_of_lt (own y c a2).2)
  ·exact I.ok.inj x y c (cl x c a1) (cl y c a2)
 ·intro x hx
  have hx:(relabel scope X.env).names.lookup x=some .cell∨(relabel scope X.env).names.lookup x=some .free:=hx
  have key:∃ k,(relabel scope X.env).names.lookup x=some k∧(k=.cell∨k=.free):=by
   rcases hx with h | h
   ·exact ⟨_,h,.inl rfl⟩
   ·exact ⟨_,h,.inr rfl⟩
  obtain ⟨k,hk1,hk2⟩:=key
  obtain ⟨⟨n,k0⟩,hm,he⟩:=List.mem_map.mp (PySem.mem_of_lookup hk1)
  have fr:(k0=.free∨k0=.cell)∧n=x:=by
   dsimp only at he
   by_cases hc:(k0==NameKind.free&&X.env.scope.kind==.function&&X.env.kindOf n==some .cell)=true
   ·rw [if_pos hc] at he
    cases he
    simp only [Bool.and_eq_true] at hc
    exact ⟨.inl (by simpa using hc.1.1),rfl⟩
   ·rw [if_neg hc] at he
    cases he
    rcases hk2 with z | z
    ·exact ⟨.inr z,rfl⟩
    ·exact ⟨.inl z,rfl⟩
  obtain ⟨hk0,rfl⟩:=fr
  rcases hk0 with rfl | rfl
  ·obtain ⟨c,e⟩:=I.ok.has n (.inl (B.free _ hm rfl))
   exact cells_there _ _ _ (clOf_has hm e)
  ·obtain ⟨c,e⟩:=cell_has (sc:=scope) (n:=s.heap.objs.size+1) (B.cells _ hm rfl)
   exact ⟨c,cells_first _ _ _ e⟩
 ·intro x c hx e
  have hx:scope.names.lookup x=some .cell:=of_decide_eq_true hx
  rcases eY _ _ _ e with e | ⟨n0,_⟩
  ·exact Nat.le_of_lt (own x c e).2
  ·obtain ⟨d,q⟩:=cell_has (sc:=scope) (n:=s.heap.objs.size+1) hx
   rw [q] at n0;cases n0
 ·intro b hb
  refine ⟨Nat.ne_of_lt (hlt b hb),fun x c e=>?_⟩
  rcases eY _ _ _ e with e | ⟨_,e⟩
  ·exact fun z=>absurd (hlt b hb) (Nat.not_lt_of_lt (by rw [←z];exact (own x c e).2))
  ·exact (hf b hb).2.2.2.2.1 x c (cl x c e)
 ·intro b o e hb
  rcases (hf b hb).2.2.2.1 with z | z
  ·exact I.ok.noex b o e z
  ·exact absurd (Nat.lt_of_lt_of_le (Heap.lt_size e) (Nat.le_trans I.ok.bsz z)) (Nat.lt_irrefl _)
 ·intro b hb hfs
  rcases List.mem_cons.mp (I.stkSub b hfs) with z | z
  ·exact (hf b hb).2.1 z
  ·exact (hf b hb).2.2.1 z
 ·intro i x v e1 e2 _
  have e1:N'[i]?=some x:=e1
  have e2:(kD cap σ)[i]?=some (some v):=e2
  unfold kD at e2
  rw [List.getElem?_map] at e2
  cases hc:cap[i]? with
  | none=>rw [hc] at e2;cases e2
  | some o=>
   rw [hc] at e2
   cases o with
   | none=>cases e2
   | some j=>
    have e3:(σ[j]?).getD none=some v:=Option.some.inj e2
    have e4:σ[j]?=some (some v):=by
     cases q:σ[j]? with
     | none=>rw [q] at e3;cases e3
     | some w'=>rw [q] at e3;have:w'=some v:=e3;rw [this]
    obtain ⟨y,h1,h2,h3⟩:=B.caps i j hc
    rw [e1] at h1
    cases h1
    have hcell:X.env.kindOf x=some .cell:=B.free _ (PySem.mem_of_lookup h3) rfl
    obtain ⟨m,_,hl⟩:=I.loc
    obtain ⟨u,r,l⟩:=hl j x v h2 e4 (.inr (.inl hcell))
    refine ⟨u,r,?_⟩
    rcases l with ⟨k,_⟩ | ⟨_,c,e,z⟩
    ·rw [hcell] at k;cases k
    ·refine .inr ⟨.inl ?_,c,cells_later _ _ _ ?_ (clOf_has (PySem.mem_of_lookup h3) e),?_⟩
     ·exact gW I.ok.kind h3 hcell
     ·cases q:(cellsFrom (s.heap.objs.size+1) scope.names []).lookup x with
      | none=>rfl
      | some d=>
       rcases cells_mem _ _ _ (PySem.mem_of_lookup q) with z | z
       ·cases z
       ·rw [B.cells _ z rfl] at h3;cases h3
     ·obtain ⟨o,q1,q2⟩:=z
      exact ⟨o,hk c o q1,q2⟩
 ·intro x c e
  rcases eY _ _ _ e with e | ⟨_,e⟩
  ·exact ⟨none,(own x c e).1⟩
  ·obtain ⟨v,o,q1,q2⟩:=I.cell x c (cl x c e)
   exact ⟨v,o,hk c o q1,q2⟩
 ·intro x c e
  rcases eY _ _ _ e with e | ⟨_,e⟩
  ·exact I.hok.fresh (Nat.le_of_lt (own x c e).2)
  ·exact I.freeC x c (cl x c e)
 ·intro p hp
  exact absurd (show p∈([]:List (Addr×Obj)) from hp) (by simp)
 ·show (kD cap σ).length=N'.length
  unfold kD
  rw [List.length_map]
  exact B.len
def PTs (X:Cx) (ifs:List Expr) (t:TT):Prop:=
 ∀ (pins:List (Addr×Obj)) (s:Shared) (σ:St) (H:Hp) (Q:Bool→Hp→Prop),Inv X pins σ H s→t σ H Q →
  wpAny (model X.prog X.w) X.A (forIn ifs true fun c r=>if r=true then do let ok ←isTrue c X.env (eval c X.env);pure (ForInStep.yield ok) else pure (ForInStep.yield r)) (TP X pins σ Q) X.xe s
def tAll:TT:=fun _ H Q=>Q true H
theorem pts_nil {X:Cx}:PTs X [] tAll:=fun _ _ _ H _ I h=>wpAny_tests_nil ⟨H,I,h⟩
theorem pts_one {X:Cx} {c:Expr} {t:TT} (h:PT X c t):PTs X [c] t:=fun pins s σ H Q I hw=>wpAny_tests_one (h pins s σ H Q I hw)
def TComp (J:It) (g:TG) (tc:TT) (te:TE) (σ₀:St) (H:Hp) (Q:VK):Prop:=
 ∃ W:Addr→Nat→Nat→List V→St→Hp→Prop,∀ D,H D=none→(∃ m,W D 0 m [] σ₀ (upd H D (.lst [])))∧∀ i m ys σ1 H1,W D i m ys σ1 H1→H1 D=some (.lst ys) →
  (J.stop i H1∧Q (.ref D) H1)∨(J.go i H1∧∀ x H2,J.yld i H1 x H2→g x σ1 H2 fun σ3 H3=>tc σ3 H3 fun b H4=>
   if b=true then te σ3 H4 fun v H5=>H5 D=some (.lst ys)∧ys.length<sizeLine∧∃ m',m'<m∧W D (i+1) m' (ys++[v]) σ3 (upd H5 D (.lst (ys++[v])))
   else H4 D=some (.lst ys)∧∃ m',m'<m∧W D (i+1) m' ys σ3 H4)
theorem comp_run {X:Cx} {elt iter tg:Expr} {ifs:List Expr} {scope:Scope} {pos:Pos} {N':List Str} {cap:List (Option Nat)} {pins:List (Addr×Obj)} {σ:St} {H:Hp} {s:Shared} {J:It} {it:Addr} {fp:List Addr} {tn:Nat→Heap→Prop}
  {g:TG} {tc:TT} {te:TE} {Q:VK} {RR:Value→Addr→Result→Shared→Prop} (hc:X.calm=true) (B:Blk X scope N' cap) (I:Inv X pins σ H s) (T:Turn X.prog X.w X.K tg J fp it tn) (st:tn 0 s.heap) (hf:∀ b∈fp,FpOk X pins H b)
  (hg:∀ C s₃ H₃ fp,PG (bO X scope N' C s₃ H₃ fp) tg g) (ht:∀ C s₃ H₃ fp,PTs (bO X scope N' C s₃ H₃ fp) ifs tc) (he:∀ C s₃ H₃ fp,PE (bO X scope N' C s₃ H₃ fp) elt te)
  (w:TComp J g tc te (kD cap σ) H Q)
  (fin:∀ D C s' H' m',s.heap.get? C=none→s.heap.objs.size≤C→s'.heap.Ns C m'→H' C=none→Inv X pins σ H' s'→Q (.ref D) H'→RR (.ref D) C (.ok .next) s') :
  wpAny (model X.prog X.w) X.A (newList []) (fun acc s₃=>wpAny (model X.prog X.w) X.A (newFunctionEnv scope X.env.globals (clOf scope X.env) [] X.env.qual none .none (some X.env)) (fun cenv s₄=>
   codeAny (model X.prog X.w) X.A (.compStart (.ListComp elt [⟨tg,iter,ifs,0⟩] scope pos) 0 (.ref it) acc { cenv with scope:=relabel scope X.env }) (RR acc cenv.locals) s₄) X.xe s₃) X.xe s:=by
 refine wpAny_newObj_type (blk_env ?_)
 dsimp only
 obtain ⟨W,hW⟩:=w
 have hD:H s.heap.objs.size=none:=I.hok.fresh (Nat.le_refl _)
 obtain ⟨⟨m0,w0⟩,turn⟩:=hW s.heap.objs.size hD
 have I3:Inv X pins σ (upd H s.heap.objs.size (.lst [])) { s with heap:=s.heap.push { cls:=.type "list", data:=.seq ([]:List Value).toArray } }:=I.lnew (its:=[]) (ys:=[]) (t':=s.toks) .nil (Nat.zero_le _)
 generalize hH2:s.heap.push { cls:=.type "list", dict:=none,data:=.seq ([]:List Value).toArray }=H2 at I3 ⊢
 have hC:H2.objs.size=s.heap.objs.size+1:=by rw [←hH2,Heap.size_push]
 have lt3:∀ b∈fp,b<s.heap.objs.size:=fun b hb=>by
  obtain ⟨o,e,_⟩:=T.obj 0 _ st b hb
  exact Heap.lt_size e
 have hf3:∀ b∈fp,FpOk X pins (upd H s.heap.objs.size (.lst [])) b:=fun b hb=>by
  refine ⟨?_,(hf b hb).2⟩
  rw [aE (Nat.ne_of_lt (lt3 b hb))]
  exact (hf b hb).1
 have ow:CellsOk (pushCells (H2.push { cls:=.type "dict", data:=.dict #[] }) scope.names) (H2.objs.size+1) (cellsFrom (H2.objs.size+1) scope.names []):=by
  have ok:=cellsFrom_ok scope.names (H2.push { cls:=.type "dict", data:=.dict #[] }) (H2.objs.size+1) [] ⟨fun _ _ hm=>(nomatch hm),List.Pairwise.nil⟩ (by rw [Heap.size_push];exact Nat.le_refl _)
  rw [Heap.size_push] at ok
  exact ok
 have hns₁:(pushCells (H2.push { cls:=.type "dict", data:=.dict #[] }) scope.names).Ns H2.objs.size fun _=>none:=(Heap.Ns.new H2 (.type "dict")).keeps (pushCells_keeps _ _)
 have keep:∀ b o,H2.get? b=some o→(pushCells (H2.push { cls:=.type "dict", data:=.dict #[] }) scope.names).get? b=some o:=fun b o e=>pushCells_keeps _ _ b o (Heap.get?_push_of_some _ e)
 generalize pushCells (H2.push { cls:=.type "dict", data:=.dict #[] }) scope.names=h₁ at ow hns₁ keep ⊢
 have I4:Inv (bO X scope N' H2.objs.size { s with heap:=H2 } (upd H s.heap.objs.size (.lst [])) fp) [] (kD cap σ) (upd H s.heap.objs.size (.lst [])) { s with heap:=h₁ }:=
  blk_inv (s:={ s with heap:=H2 }) B I3 hf3 (fun b hb=>by show b<H2.objs.size;rw [hC];exact Nat.lt_succ_of_lt (lt3 b hb)) hns₁ keep ow
 have st4:tn 0 h₁:=T.keep 0 _ _ st fun b hb o e=>keep b o (by rw [←hH2];exact Heap.get?_push_of_some _ e)
 have loop:∀ s₅:Shared,s₅={ s with heap:=h₁ } →
   codeAny (model X.prog X.w) X.A (.compLoop (.ListComp elt [⟨tg,iter,ifs,0⟩] scope pos) 0 (.ref it) (.ref s.heap.objs.size) (compEnvC scope (cellsFrom (H2.objs.size+1) scope.names (clOf scope X.env)) H2.objs.size X.env))
    (RR (.ref s.heap.objs.size) H2.objs.size) s₅:=by
  rintro s₅ rfl
  refine codeAny_loop rfl (fun n s'=>∃ i ys σ' H',Inv (bO X scope N' H2.objs.size { s with heap:=H2 } (upd H s.heap.objs.size (.lst [])) fp) [] σ' H' s'∧tn i s'.heap∧(∀ b∈fp,H' b=none)∧H' s.heap.objs.size=some (.lst ys)∧W s.heap.objs.size i n ys σ' H') ?_ m0
   ⟨0,[],_,_,I4,st4,fun b hb=>(hf3 b hb).1,aG,w0⟩
  rintro n s6 ⟨i,ys,σ6,H6,I6,st6,fr6,hD6,w6⟩
  show wpAny _ X.A ((compTurn (.ListComp elt [⟨tg,iter,ifs,0⟩] scope pos) 0 (.ref it) (.ref s.heap.objs.size) (compEnvC scope (cellsFrom (H2.objs.size+1) scope.names (clOf scope X.env)) H2.objs.size X.env)).onRaise (fun x=>do noteFrame x (compEnvC scope (cellsFrom (H2.objs.size+1) scope.names (clOf scope X.env)) H2.objs.size X.env);theTreesLotGoes x)) _ _ s6
  refine wpAny_noted ?_
  rw [compTurn_list]
  have stat:∀ {H':Hp},(∀ b∈fp,H' b=none)→∀ b∈fp,FpOk (bO X scope N' H2.objs.size { s with heap:=H2 } (upd H s.heap.objs.size (.lst [])) fp) [] H' b:=fun hn b hb=>
   ⟨hn b hb,Nat.ne_of_lt (by show b<H2.objs.size;rw [hC];exact Nat.lt_succ_of_lt (lt3 b hb)),I4.ok.exfs b hb,.inl hb,fun x c e=>(I4.ok.exf b hb).2 x c e,fun p hp=>absurd (show p∈([]:List (Addr×Obj)) from hp) (by simp)⟩
  rcases turn i n ys σ6 H6 w6 hD6 with ⟨stop,qn⟩ | ⟨go,step⟩
  ·refine wpAny_bind (wpAny_standAt (wpAny_bind (thn (T.done (bO X scope N' H2.objs.size { s with heap:=H2 } (upd H s.heap.objs.size (.lst [])) fp) rfl rfl rfl hc i [] s6 _ H6 _ I6 (stat fr6) st6 stop) fun r s7 ⟨hr,I7⟩=>?_)))
   subst hr
   refine wpAny_pure ?_
   obtain ⟨m7,hn7,_⟩:=I7.loc
   refine fin _ _ s7 H6 m7 ?_ ?_ hn7 I7.free ?_ qn
   ·exact Heap.get?_none_of_le (by rw [hC];exact Nat.le_succ _)
   ·rw [hC];exact Nat.le_succ _
   ·refine I3.call' (ch:=fp) ?_ ?_ I7.hok I7.bare fun b hb=>?_
    ·exact I7.os
    ·exact I7.base
    ·obtain ⟨f0,f1,f2,f3,f4,f5⟩:=hf3 b hb
     exact ⟨f3,f1,f4,f5⟩
  ·refine wpAny_bind (wpAny_standAt (wpAny_bind (thn (T.item (bO X scope N' H2.objs.size { s with heap:=H2 } (upd H s.heap.objs.size (.lst [])) fp) rfl rfl rfl hc i [] s6 _ H6 _ I6 (stat fr6) st6 go) fun r s7 ⟨u,hr,h7⟩=>?_)))
   subst hr
   refine wpAny_bind (thn h7 fun _ s8 ⟨x,H8,I8,r8,y8,st8,fr8⟩=>?_)
   have I8':=I8.pinned (stat fr8) (T.obj _ _ st8)
   have bad:∀ {α:Type} {t:Sem α} {Q':α→Shared→Prop} {s':Shared} {E:Value→Shared→Prop},wpAny (model X.prog X.w) X.A t Q' (fun _ _=>False) s'→wpAny (model X.prog X.w) X.A t Q' E s':=fun h=>wpAny_mono h (fun _ _ q=>q) fun _ _ z=>z.elim
   refine wpAny_bind (bad (thn (hg _ _ _ _ _ s8 _ H8 x u _ I8' r8 (step x H8 y8)) fun _ s9 ⟨σ9,H9,I9,q9⟩=>?_))
   refine bad ?_
   refine wpAny_bind (thn (ht _ _ _ _ _ s9 σ9 H9 _ I9 q9) fun ok s10 ⟨H10,I10,q10⟩=>?_)
   have again:∀ {σ':St} {H':Hp} {ys':List V} {s':Shared} {m':Nat},Inv (bO X scope N' H2.objs.size { s with heap:=H2 } (upd H s.heap.objs.size (.lst [])) fp) ([]++nR fp s8.heap) σ' H' s'→H' s.heap.objs.size=some (.lst ys') →
     m'<n→W s.heap.objs.size (i+1) m' ys' σ' H' →
     ∃ m,m<n∧∃ i ys σ' H',Inv (bO X scope N' H2.objs.size { s with heap:=H2 } (upd H s.heap.objs.size (.lst [])) fp) [] σ' H' s'∧tn i s'.heap∧(∀ b∈fp,H' b=none)∧H' s.heap.objs.size=some (.lst ys)∧W s.heap.objs.size i m ys σ' H':=fun {σ' H' ys' s' m'} J' hD' hm' w'=>by
    refine ⟨m',hm',i+1,ys',σ',H',J'.unpinned,T.keep _ _ _ st8 fun b hb o e=>(J'.pin (b,o) (List.mem_append_right _ (List.mem_append_right _ (iI hb e)))).1,fun b hb=>?_,hD',w'⟩
    obtain ⟨o,e,d⟩:=T.obj _ _ st8 b hb
    exact (J'.pin (b,o) (List.mem_append_right _ (List.mem_append_right _ (iI hb e)))).2.1
   cases ok with
   | false=>
    obtain ⟨hD10,m',hm',w'⟩:=q10
    exact wpAny_pure ⟨rfl,again I10 hD10 hm' w'⟩
   | true=>
    refine wpAny_bind (wpAny_bind (thn (he _ _ _ _ _ s10 σ9 H10 _ I10 q10) fun y s11 ⟨v,H11,I11,r11,hD11,hlen,m',hm',w'⟩=>?_))
    refine wpAny_bind (thn (mU (X:=bO X scope N' H2.objs.size { s with heap:=H2 } (upd H s.heap.objs.size (.lst [])) fp) _ s11 σ9 H11 (.ref s.heap.objs.size) [v] (.ref s.heap.objs.size) [y] (fun _ H'=>H'=upd H11 s.heap.objs.size (.lst (ys++[v]))) I11 rfl (.cons r11 .nil) ⟨_,_,_,rfl,rfl,hD11,hlen,rfl⟩) fun _ s12 ⟨_,H12,I12,_,e12⟩=>?_)
    subst e12
    exact wpAny_pure (wpAny_pure ⟨rfl,again I12 aG hm' w'⟩)
 exact codeAny_compStart_list (loop _ rfl) (T.self _ 0 _ _ _ st4 (loop _ rfl))
def tComp (wi:TI) (cap:List (Option Nat)) (g:TG) (tc:TT) (te:TE):TE:=fun σ H Q=>wi σ H fun J H1=>TComp J g tc te (kD cap σ) H1 Q
section
variable {X:Cx} {elt iter tg:Expr} {ifs:List Expr} {scope:Scope} {pos spos:Pos} {N':List Str} {cap:List (Option Nat)} {wi:TI} {g:TG} {tc:TT} {te:TE}
theorem pe_comp (hc:X.calm=true) (B:Blk X scope N' cap) (hi:PI X tg iter wi)
  (hg:∀ C s₃ H₃ fp,PG (bO X scope N' C s₃ H₃ fp) tg g) (ht:∀ C s₃ H₃ fp,PTs (bO X scope N' C s₃ H₃ fp) ifs tc) (he:∀ C s₃ H₃ fp,PE (bO X scope N' C s₃ H₃ fp) elt te)
  (hs:∀ x,foldedSetIterable iter X.env x=pure x:=by intro _;rfl):PE X (.ListComp elt [⟨tg,iter,ifs,0⟩] scope pos) (tComp wi cap g tc te):=by
 intro pins s σ H Q I h
 rw [eval_ListComp]
 refine wpAny_comprehension_free (use:=none) rfl hs (clOf_closure fun p hp hk=>I.ok.has p.1 (.inl (B.free p hp hk))) B.kind B.names ?_
 refine thn (hi pins s σ H _ I h) fun v s1 h1=>thn h1 fun itv s2 ⟨it,fp,tn,J,H2,e,I2,T,st2,f2,w⟩=>?_
 subst e
 refine comp_run (RR:=fun acc C=>compPost (model X.prog X.w) X.A X.xe none (EP X pins σ Q) acc C) hc B I2 T st2 f2 hg ht he w ?_
 intro D C s' H' m' hC hCs hn hCf I' q
 refine ⟨m',hn,fun h'' hs''=>⟨.ref D,H',?_,rfl,q⟩⟩
 refine I'.turned (t':=s'.toks) (it:=C) (fun b o hb e=>hs''.extBut b o hb e) hCf ?_ (.inr (Nat.le_trans I2.sz hCs)) ?_ ?_
 ·exact Nat.ne_of_gt (Nat.lt_of_lt_of_le I2.lt hCs)
 ·intro x c e z
  obtain ⟨v,q⟩:=I2.cell x c e
  exact absurd (Nat.lt_of_lt_of_le q.lt (by rw [z];exact hCs)) (Nat.lt_irrefl _)
 ·intro p hp z
  exact absurd (Nat.lt_of_lt_of_le (Heap.lt_size (I2.pin p hp).1) (by rw [z];exact hCs)) (Nat.lt_irrefl _)
theorem ps_setC {i:Nat} {x:Str} {pos':Pos} (hN:X.N.Nodup) (hxi:X.N[i]?=some x) (hx:X.env.scope.names.lookup x=some .local) (hc:X.calm=true) (B:Blk X scope N' cap) (hi:PI X tg iter wi)
  (hg:∀ C s₃ H₃ fp,PG (bO X scope N' C s₃ H₃ fp) tg g) (ht:∀ C s₃ H₃ fp,PTs (bO X scope N' C s₃ H₃ fp) ifs tc) (he:∀ C s₃ H₃ fp,PE (bO X scope N' C s₃ H₃ fp) elt te)
  (hsw:swapsWith (.ListComp elt [⟨tg,iter,ifs,0⟩] scope pos) (some (.Name x pos')) spos.line X.env=pure true)
  (hs:∀ x,foldedSetIterable iter X.env x=pure x:=by intro _;rfl) :
  PS X (.Assign [.Name x pos'] (.ListComp elt [⟨tg,iter,ifs,0⟩] scope pos) spos) (tAsg (tComp wi cap g tc te) (gName i)):=by
 intro pins s σ H Dn I h
 rw [exec_Assign_Name_used _ _ _ _ hsw]
 refine wpAny_bind (wpAny_standAt (wpAny_bind ?_))
 show wpAny _ X.A (do let _ ←comprehension (.ListComp elt [⟨tg,iter,ifs,0⟩] scope pos) scope X.env _ (newList []) false (eval iter X.env) (some (assign (.Name x pos') X.env))) _ _ s
 refine wpAny_bind (wpAny_mono (wpAny_comprehension_free (use:=some (assign (.Name x pos') X.env)) (Q:=fun _ s'=>SP X pins Dn .next s') rfl hs (clOf_closure fun p hp hk=>I.ok.has p.1 (.inl (B.free p hp hk))) B.kind B.names ?_) (fun _ s' hq=>wpAny_pure (wpAny_pure hq)) fun _ _ e=>e)
 refine thn (hi pins s σ H _ I h) fun v s1 h1=>thn h1 fun itv s2 ⟨it,fp,tn,J,H2,e,I2,T,st2,f2,w⟩=>?_
 subst e
 refine comp_run (RR:=fun acc C=>compPost (model X.prog X.w) X.A X.xe (some (assign (.Name x pos') X.env)) (fun _ s'=>SP X pins Dn .next s') acc C) hc B I2 T st2 f2 hg ht he w ?_
 intro D C s' H' m' hC hCs hn hCf I' q
 have nL:C≠X.env.locals:=Nat.ne_of_gt (Nat.lt_of_lt_of_le I2.lt hCs)
 have nC:∀ y c,X.env.cells.lookup y=some c→c≠C:=fun y c e z=>by
  obtain ⟨v,q⟩:=I2.cell y c e
  exact absurd (Nat.lt_of_lt_of_le q.lt (by rw [z];exact hCs)) (Nat.lt_irrefl _)
 show wpAny _ X.A (assign (.Name x pos') X.env (.ref D)) _ _ _
 refine wpAny_assign_Name (store_ok2 (v:=.ref D) I' hN hxi (.inl hx) rfl (fun s3 I3 ⟨a,hsb,ha⟩=>?_) (.inr hx))
 have ne:C≠a:=by
  rcases ha with z | z
  ·rw [z];exact nL
  ·exact fun y=>nC x a z y.symm
 refine ⟨m',hn.sameBut hsb ne,fun h'' hs''=>⟨_,H',?_,q⟩⟩
 refine I3.turned (t':=s3.toks) (it:=C) (fun b o hb e=>hs''.extBut b o hb e) hCf nL (.inr (Nat.le_trans I2.sz hCs)) nC ?_
 intro p hp z
 exact absurd (Nat.lt_of_lt_of_le (Heap.lt_size (I2.pin p hp).1) (by rw [z];exact hCs)) (Nat.lt_irrefl _)
end
end L2
namespace L2.L3
open PySem PySem.Spec PyProof.Rows PySem.W
def excC (K:Frag) (c:Str):Option Addr:=match nsIn K mainGlobals c with
 | some (some (.ref C))=>some C
 | _=>none
theorem excC_is {K:Frag} {c:Str} {C:Addr} (h:excC K c=some C):nsIn K mainGlobals c=some (some (.ref C)):=by
 unfold excC at h
 split at h
 ·rename_i e;cases h;exact e
 ·cases h
structure ExO (h:Heap) (a C:Addr) (ox:Obj):Prop where
 at_:h.get? a=some ox
 cls:ox.cls=.ref C
theorem ExO.type {h:Heap} {a C:Addr} {ox:Obj} {M:Model} (I:ExO h a C ox):Looks M h (typeOf (.ref a)) (.ref C):=I.cls▸(Looks.ld I.at_).andThen .now
end L2.L3
namespace L2.L3
open PySem PySem.Spec PyProof.Rows
def bF:Key→PyData
 | .inl i=>.int i
 | .inr x=>.str x
mutual
inductive Rep (K:PySem.W.Frag) (G:Hp):V→PyData→Prop
 | none:Rep K G .non .none
 | bool (b:Bool):Rep K G (.bl b) (.bool b)
 | int (i:Int):Rep K G (.int i) (.int i)
 | str (x:Str):Rep K G (.str x) (.str x)
 | list {a:Addr} {xs:List V} {ds:List PyData}:SqL K G a xs→RepAll K G xs ds→Rep K G (.ref a) (.list ds)
 | tuple {a:Addr} {xs:List V} {ds:List PyData}:SqT K G a xs→RepAll K G xs ds→Rep K G (.ref a) (.tuple ds)
 | dict {a:Addr} {kvs:List (Key×V)} {D:List (PyData×PyData)}:G a=some (.dK kvs)→D.map (·.1)=kvs.map (fun p=>bF p.1)→RepAll K G (kvs.map (·.2)) (D.map (·.2))→Rep K G (.ref a) (.dict D)
inductive RepAll (K:PySem.W.Frag) (G:Hp):List V→List PyData→Prop
 | nil:RepAll K G [] []
 | cons {v:V} {vs:List V} {d:PyData} {ds:List PyData}:Rep K G v d→RepAll K G vs ds→RepAll K G (v::vs) (d::ds)
end
theorem nM {K:PySem.W.Frag} {H H':Hp} {a:Addr} {xs:List V} (e:aX H H') (h:SqT K H a xs):SqT K H' a xs:=by
 rcases h with (h | ⟨o,h⟩) | h
 ·exact .inl (.inl (e _ _ h))
 ·exact .inl (.inr ⟨o,e _ _ h⟩)
 ·exact .inr h
section
variable {K:PySem.W.Frag} {G G':Hp}
mutual
theorem Rep.mono (s:aX G G'):∀ {v:V} {d:PyData},Rep K G v d→Rep K G' v d
 | _,_,.none=>.none
 | _,_,.bool b=>.bool b
 | _,_,.int i=>.int i
 | _,_,.str x=>.str x
 | _,_,.list h r=>.list (s.seq h) (RepAll.mono s r)
 | _,_,.tuple h r=>.tuple (nM s h) (RepAll.mono s r)
 | _,_,.dict h e r=>.dict (s _ _ h) e (RepAll.mono s r)
theorem RepAll.mono (s:aX G G'):∀ {vs:List V} {ds:List PyData},RepAll K G vs ds→RepAll K G' vs ds
 | _,_,.nil=>.nil
 | _,_,.cons r t=>.cons (Rep.mono s r) (RepAll.mono s t)
end
theorem RepAll.length:∀ {vs:List V} {ds:List PyData},RepAll K G vs ds→vs.length=ds.length
 | _,_,.nil=>rfl
 | _,_,.cons _ t=>by simp [RepAll.length t]
theorem RepAll.get:∀ {vs:List V} {ds:List PyData} {i:Nat} {d:PyData},RepAll K G vs ds→ds[i]?=some d→∃ v,vs[i]?=some v∧Rep K G v d
 | _,_,_,_,.nil,e=>by simp at e
 | _,_,0,_,.cons r _,e=>by simp at e;subst e;exact ⟨_,rfl,r⟩
 | _,_,i+1,d,.cons _ t,e=>by
  obtain ⟨u,h1,h2⟩:=RepAll.get (i:=i) (d:=d) t (by simpa using e)
  exact ⟨u,by simpa using h1,h2⟩
theorem RepAll.append:∀ {vs ws:List V} {ds es:List PyData},RepAll K G vs ds→RepAll K G ws es→RepAll K G (vs++ws) (ds++es)
 | _,_,_,_,.nil,h=>h
 | _,_,_,_,.cons r t,h=>.cons r (RepAll.append t h)
theorem RepAll.ints:∀ {vs:List V} {ns:List Int},RepAll K G vs (ns.map .int)→vs=ns.map V.int
 | [],[],_=>rfl
 | _,[],.nil=>rfl
 | _,n::r,.cons (.int _) t=>by rw [RepAll.ints (ns:=r) t];rfl
theorem RepAll.strs:∀ {vs:List V} {ns:List Str},RepAll K G vs (ns.map .str)→vs=ns.map V.str
 | [],[],_=>rfl
 | _,[],.nil=>rfl
 | _,n::r,.cons (.str _) t=>by rw [RepAll.strs (ns:=r) t];rfl
theorem RepAll.bools:∀ {vs:List V} {ns:List Bool},RepAll K G vs (ns.map .bool)→vs=ns.map V.bl
 | [],[],_=>rfl
 | _,[],.nil=>rfl
 | _,n::r,.cons (.bool _) t=>by rw [RepAll.bools (ns:=r) t];rfl
end
section
variable {P:Program} {w:World}
theorem kv_parts:∀ {kvs:List (Key×V)} {vs:List (Key×Value)},KV kvs vs→kvs.map (·.1)=vs.map (·.1)∧aV (kvs.map (·.2)) (vs.map (·.2))
 | _,_,.nil=>⟨rfl,.nil⟩
 | _,_,.cons h t=>by
  obtain ⟨a,b⟩:=kv_parts t
  exact ⟨by rw [List.map_cons,List.map_cons,a,h.1],.cons h.2 b⟩
theorem pairs_parts {h:Heap}:∀ {es:List DictEntry} {vs:List (Key×Value)},Pairs (aP P w) es vs→(∃ as,ReadsAll h (es.map (·.key)) (vs.map fun p=>bF p.1) as)∧es.map (·.val)=vs.map (·.2)
 | _,_,.nil=>⟨⟨_,.nil⟩,rfl⟩
 | e::es,kv::vs,.cons hk hv t=>by
  obtain ⟨⟨as,a⟩,b⟩:=pairs_parts (h:=h) t
  refine ⟨?_,by rw [List.map_cons,List.map_cons,b,hv]⟩
  rcases bQ (show keyIs kv.1 e.key=true from hk) with ⟨i,t,e1,e2⟩ | ⟨x,t,e1,e2⟩
  ·refine ⟨_,.cons (as:=[]) (by dsimp only;rw [e1,e2];exact .int i t) a⟩
  ·refine ⟨_,.cons (as:=[]) (by dsimp only;rw [e1,e2];exact .str x t) a⟩
end
section
variable {X:Cx} {pins:List (Addr×Obj)} {σ:St} {H:Hp} {s:Shared}
mutual
theorem Rep.reads (I:Inv X pins σ H s):∀ {v:V} {d:PyData} {u:Value},Rep X.K H v d→RelV v u→∃ as,Reads s.heap u d as
 | _,_,_,.none,r=>by cases r;exact ⟨_,.none⟩
 | _,_,_,.bool b,r=>by cases r;exact ⟨_,.bool b⟩
 | _,_,_,.int i,r=>by obtain ⟨t,rfl⟩:=r;exact ⟨_,.int i t⟩
 | _,_,_,.str x,r=>by obtain ⟨t,rfl⟩:=r;exact ⟨_,.str x t⟩
 | _,_,_,.list h q,r=>by
  cases r
  obtain ⟨its,rv,⟨o,n,e,hc,_,hd⟩,_⟩:=I.list h
  obtain ⟨as,z⟩:=RepAll.reads I q rv
  exact ⟨_,.list e hc hd (by simpa using z)⟩
 | _,_,_,.tuple h q,r=>by
  cases r
  obtain ⟨its,rv,⟨o,e,hc,n,hd⟩,_⟩:=I.tuple h
  obtain ⟨as,z⟩:=RepAll.reads I q rv
  exact ⟨_,.tuple e hc hd (by simpa using z)⟩
 | _,_,_,.dict h e0 q,r=>by
  cases r
  obtain ⟨hz,hS,vs,kv,o,es,ep,e,hex,hd,_,hp,_⟩:=I.hok _ _ h
  obtain ⟨a1,a2⟩:=kv_parts kv
  obtain ⟨⟨as,b1⟩,b2⟩:=pairs_parts (h:=s.heap) hp
  obtain ⟨bs,z⟩:=RepAll.reads I q a2
  refine ⟨_,.dict e hex.1 hd (as:=as) (bs:=bs) ?_ (by rw [b2];exact z)⟩
  rw [e0,show (fun p:Key×V=>bF p.1)=bF∘(·.1) from rfl,←List.map_map,a1,List.map_map];exact b1
theorem RepAll.reads (I:Inv X pins σ H s):∀ {vs:List V} {ds:List PyData} {us:List Value},RepAll X.K H vs ds→aV vs us→∃ as,ReadsAll s.heap us ds as
 | _,_,_,.nil,.nil=>⟨_,.nil⟩
 | _,_,_,.cons r t,.cons q w=>by
  obtain ⟨as,a⟩:=Rep.reads I r q
  obtain ⟨bs,b⟩:=RepAll.reads I t w
  exact ⟨_,.cons a b⟩
end
end
def gG:List Str:=["in_ending_order", "in_laying_order"]
def lamQ (x:Str):Str:=x ++ ".<locals>." ++ "<lambda>"
def cdO (c:Addr) (q:Str):HO:=.ext fun h=>h.CodeRec (.ref c) q
def Tab (P:Addr) (q:Str) (H:Hp):Prop:=
 ∃ ps,H P=some (.tbl (q,ps))∧TriplesOk ps.toList∧∀ pos cv,codeAmong pos ps.toList=some cv→∃ c,cv=.ref c∧H c=some (cdO c q)
def NoT (G:Hp):Prop:=∀ b ps,G b≠some (.tbl ps)
def lA (K:PySem.W.Frag) (G H:Hp):Prop:=(∀ x∈gG,∀ c P,PySem.W.tabIn K x=some (c,P)→Tab P (lamQ x) H)∧NoT G
theorem NoT.upd {G:Hp} {a:Addr} {o:HO} (n:NoT G) (h:∀ ps,o≠.tbl ps):NoT (L2.upd G a o):=fun b ps e=>by
 by_cases hb:b=a
 ·subst hb;rw [aG] at e;cases e;exact h _ rfl
 ·rw [aE hb] at e;exact n b ps e
theorem Tab.same {P:Addr} {q:Str} {H H':Hp} (t:Tab P q H) (s:aX H H'):Tab P q H':=by
 obtain ⟨ps,h1,h2,h3⟩:=t
 refine ⟨ps,s _ _ h1,h2,fun pos cv e=>?_⟩
 obtain ⟨c,e1,e2⟩:=h3 pos cv e
 exact ⟨c,e1,s _ _ e2⟩
theorem Tab.wr {P a:Addr} {q:Str} {H:Hp} {xs:List V} {o:HO} (t:Tab P q H) (h:H a=some (.lst xs)):Tab P q (upd H a o):=by
 obtain ⟨ps,h1,h2,h3⟩:=t
 refine ⟨ps,by rw [aE (dG h1 h (by nofun))];exact h1,h2,fun pos cv e=>?_⟩
 obtain ⟨c,e1,e2⟩:=h3 pos cv e
 exact ⟨c,e1,by rw [aE (dG e2 h (by unfold cdO;nofun))];exact e2⟩
structure Sm (H H':Hp):Prop where
 keep:∀ b o,H b=some o→(∀ ps,o≠.tbl ps)→H' b=some o
 tbl:∀ b ps,H b=some (.tbl ps)→∃ ps',H' b=some (.tbl ps')
 tab:∀ P q,Tab P q H→Tab P q H'
theorem Sm.of {H H':Hp} (s:aX H H'):Sm H H':=⟨fun b o h _=>s b o h,fun b ps h=>⟨ps,s _ _ h⟩,fun P q t=>t.same s⟩
theorem Sm.refl (H:Hp):Sm H H:=.of (.refl _)
theorem Sm.trans {H H1 H2:Hp} (a:Sm H H1) (b:Sm H1 H2):Sm H H2:=⟨fun c o h n=>b.keep c o (a.keep c o h n) n,fun c ps h=>by
 obtain ⟨p1,h1⟩:=a.tbl c ps h
 exact b.tbl c p1 h1,fun P q t=>b.tab P q (a.tab P q t)⟩
theorem Sm.ne {H H':Hp} (s:Sm H H') {b:Addr} {o:HO} (h:H b=some o):∃ o',H' b=some o':=by
 cases o with
 | tbl ps=>obtain ⟨p,e⟩:=s.tbl b ps h;exact ⟨_,e⟩
 | _=>exact ⟨_,s.keep b _ h (by nofun)⟩
theorem Sm.free {H H':Hp} (s:Sm H H') {l:Addr} (h:H' l=none):H l=none:=by
 cases q:H l with
 | none=>rfl
 | some o=>
  obtain ⟨o',e⟩:=s.ne q
  rw [h] at e;cases e
theorem Sm.lst {H H':Hp} (s:Sm H H') {l:Addr} {xs:List V} (h:H l=some (.lst xs)):H' l=some (.lst xs):=s.keep l _ h (by nofun)
theorem Sm.wr {H H':Hp} (s:Sm H H') {l:Addr} {xs:List V} {o:HO} (h0:H l=none) (h:H' l=some (.lst xs)):Sm H (upd H' l o):=
 ⟨fun b u e n=>by rw [aE (aN e h0)];exact s.keep b u e n,fun b ps e=>by rw [aE (aN e h0)];exact s.tbl b ps e,fun P q t=>(s.tab P q t).wr h⟩
theorem lA.wr {K:PySem.W.Frag} {G H:Hp} {a:Addr} {xs:List V} {o:HO} (t:lA K G H) (h:H a=some (.lst xs)):lA K G (upd H a o):=⟨fun x hx c P e=>(t.1 x hx c P e).wr h,t.2⟩
structure Grow (G H G' H':Hp):Prop where
 gg:aX G G'
 hh:Sm H H'
 sub:aX G' H'
 new:∀ a,G a=none→H a≠none→G' a=none
 nt:NoT G→NoT G'
theorem lA.more {K:PySem.W.Frag} {G H G' H':Hp} (t:lA K G H) (g:Grow G H G' H'):lA K G' H':=⟨fun x hx c P e=>g.hh.tab _ _ (t.1 x hx c P e),g.nt t.2⟩
theorem Grow.refl {G H:Hp} (s:aX G H):Grow G H G H:=⟨.refl _,.refl _,s,fun _ e _=>e,id⟩
theorem Grow.trans {G H G1 H1 G2 H2:Hp} (a:Grow G H G1 H1) (b:Grow G1 H1 G2 H2):Grow G H G2 H2:=
 ⟨a.gg.trans b.gg,a.hh.trans b.hh,b.sub,fun c e n=>b.new c (a.new c e n) (fun z=>by
  cases q:H c with
  | none=>exact n q
  | some o=>obtain ⟨o',e'⟩:=a.hh.ne q;rw [e'] at z;cases z),fun n=>b.nt (a.nt n)⟩
theorem bJ {H:Hp} {p:Addr} {o:HO} (h:H p=none):aX H (upd H p o):=fun b u e=>by rw [aE (aN e h)];exact e
theorem same_both {G H:Hp} {p:Addr} {o:HO} (s:aX G H):aX (upd G p o) (upd H p o):=fun b u e=>by
 by_cases hb:b=p
 ·subst hb;rw [aG] at e ⊢;exact e
 ·rw [aE hb] at e ⊢;exact s b u e
theorem Grow.put {G H:Hp} {p:Addr} {o:HO} (s:aX G H) (h:H p=none) (ho:∀ ps,o≠.tbl ps:=by nofun):Grow G H (upd G p o) (upd H p o):=
 ⟨bJ (s.free h),.of (bJ h),same_both s,fun a e n=>by rw [aE (fun z=>n (by rw [z];exact h))];exact e,fun n=>n.upd ho⟩
theorem Grow.side {G H:Hp} {p:Addr} {o:HO} (s:aX G H) (h:H p=none):Grow G H G (upd H p o):=
 ⟨.refl _,.of (bJ h),s.trans (bJ h),fun a e _=>e,id⟩
inductive Ent where
 | no
 | val (d:PyData)
 | lst (ds:List PyData)
 | exc (c:Str)
 | nst (dss:List (List PyData))
 | dct (kvs:List (Key×PyData))
def xcO (a C:Addr):HO:=.ext fun h=>∃ ox,ExO h a C ox
def InOk (K:PySem.W.Frag) (H0 G H:Hp) (b:Addr) (ds:List PyData):Prop:=∃ xs,H b=some (.lst xs)∧G b=none∧H0 b=none∧RepAll K G xs ds
def dD (K:PySem.W.Frag) (G:Hp) (vs:List (Key×V)) (kvs:List (Key×PyData)):Prop:=vs.map (·.1)=kvs.map (·.1)∧RepAll K G (vs.map (·.2)) (kvs.map (·.2))
theorem dD.mono {K:PySem.W.Frag} {G G':Hp} {vs:List (Key×V)} {kvs:List (Key×PyData)} (h:dD K G vs kvs) (s:aX G G'):dD K G' vs kvs:=⟨h.1,h.2.mono s⟩
def EntOk (K:PySem.W.Frag) (H0 G H:Hp) (o:Option V):Ent→Prop
 | .no=>True
 | .val d=>∃ v,o=some v∧Rep K G v d
 | .lst ds=>∃ a xs,o=some (.ref a)∧H a=some (.lst xs)∧G a=none∧H0 a=none∧RepAll K G xs ds
 | .exc c=>∃ a C,o=some (.ref a)∧excC K c=some C∧H a=some (xcO a C)
 | .nst dss=>∃ a bs,o=some (.ref a)∧H a=some (.lst (bs.map V.ref))∧G a=none∧H0 a=none∧a∉bs∧bs.Nodup∧Paired (InOk K H0 G H) bs dss
 | .dct kvs=>∃ a vs,o=some (.ref a)∧H a=some (.dK vs)∧G a=none∧H0 a=none∧dD K G vs kvs
def isOwn:Ent→Bool
 | .lst _=>true
 | .nst _=>true
 | .dct _=>true
 | _=>false
structure Inj (H:Hp) (σ:St) (ρ:List Ent):Prop where
 two:∀ (i j:Nat) (a:Addr) (ds es:List PyData),i≠j→σ[i]?=some (some (.ref a))→ρ[i]?=some (.lst ds)→σ[j]?=some (some (.ref a))→ρ[j]?=some (.lst es)→False
 mix:∀ (i j:Nat) (a a':Addr) (ds:List PyData) (dss:List (List PyData)),σ[i]?=some (some (.ref a))→ρ[i]?=some (.lst ds)→σ[j]?=some (some (.ref a'))→ρ[j]?=some (.nst dss)→a≠a'∧∀ vs,H a'=some (.lst vs)→V.ref a∉vs
 one:∀ (i j:Nat) (dss ess:List (List PyData)),ρ[i]?=some (.nst dss)→ρ[j]?=some (.nst ess)→i=j
 oneD:∀ (i j:Nat) (ks ls:List (Key×PyData)),ρ[i]?=some (.dct ks)→ρ[j]?=some (.dct ls)→i=j
theorem Inj.sub {H:Hp} {σ σ':St} {ρ ρ':List Ent} (I:Inj H σ ρ) (h:∀ (i:Nat) (e:Ent),ρ'[i]?=some e→isOwn e=true→ρ[i]?=some e∧σ'[i]?=σ[i]?):Inj H σ' ρ':=by
 refine ⟨fun i j a ds es n h1 h2 h3 h4=>?_,fun i j a a' ds dss h1 h2 h3 h4=>?_,fun i j dss ess h1 h2=>?_,fun i j ks ls h1 h2=>I.oneD i j ks ls (h i _ h1 rfl).1 (h j _ h2 rfl).1⟩
 ·obtain ⟨x1,x2⟩:=h i _ h2 rfl
  obtain ⟨y1,y2⟩:=h j _ h4 rfl
  rw [x2] at h1;rw [y2] at h3
  exact I.two i j a ds es n h1 x1 h3 y1
 ·obtain ⟨x1,x2⟩:=h i _ h2 rfl
  obtain ⟨y1,y2⟩:=h j _ h4 rfl
  rw [x2] at h1;rw [y2] at h3
  exact I.mix i j a a' ds dss h1 x1 h3 y1
 ·exact I.one i j dss ess (h i _ h1 rfl).1 (h j _ h2 rfl).1
theorem Inj.other {H H':Hp} {σ:St} {ρ:List Ent} (I:Inj H σ ρ) (h:∀ (j:Nat) (a':Addr) (dss:List (List PyData)),σ[j]?=some (some (.ref a'))→ρ[j]?=some (.nst dss)→∀ vs,H' a'=some (.lst vs)→H a'=some (.lst vs)):Inj H' σ ρ:=
 ⟨I.two,fun i j a a' ds dss h1 h2 h3 h4=>⟨(I.mix i j a a' ds dss h1 h2 h3 h4).1,fun vs e=>(I.mix i j a a' ds dss h1 h2 h3 h4).2 vs (h j a' dss h3 h4 vs e)⟩,I.one,I.oneD⟩
theorem Inj.free {H:Hp} {σ:St} {ρ:List Ent} (h:∀ (i:Nat) (e:Ent),ρ[i]?=some e→isOwn e=false):Inj H σ ρ:=
 ⟨fun i j a ds es n h1 h2 h3 h4=>Bool.noConfusion (h i _ h2),fun i j a a' ds dss h1 h2 h3 h4=>Bool.noConfusion (h i _ h2),fun i j dss ess h1 h2=>Bool.noConfusion (h i _ h1),fun i j ks ls h1 h2=>Bool.noConfusion (h i _ h1)⟩
theorem eN {α β:Type} {F F':α→β→Prop}:∀ {l:List α} {m:List β},Paired F l m→(∀ a b,a∈l→F a b→F' a b)→Paired F' l m
 | _,_,.nil,_=>.nil
 | _,_,.cons r t,h=>.cons (h _ _ List.mem_cons_self r) (eN t fun a b ha=>h a b (List.mem_cons_of_mem _ ha))
theorem mT {α β:Type} {F:α→β→Prop} {a:α}:∀ {l:List α} {m:List β},Paired F l m→a∈l→∃ b,F a b
 | _,_,.cons r t,h=>by
  rcases List.mem_cons.mp h with rfl | h
  ·exact ⟨_,r⟩
  ·exact mT t h
structure RepS (K:PySem.W.Frag) (H0 G₀ G H:Hp) (σ:St) (ρ:List Ent):Prop where
 grow:Grow G₀ H0 G H
 len:σ.length=ρ.length
 ent:∀ (i:Nat) (o:Option V) (e:Ent),σ[i]?=some o→ρ[i]?=some e→EntOk K H0 G H o e
 inj:Inj H σ ρ
 tab:lA K G H
theorem EntOk.more {K:PySem.W.Frag} {H0 G H G' H':Hp} {o:Option V} {e:Ent} (g:Grow G H G' H') (h:EntOk K H0 G H o e):EntOk K H0 G' H' o e:=by
 cases e with
 | no=>trivial
 | val d=>obtain ⟨v,e,r⟩:=h;exact ⟨v,e,r.mono g.gg⟩
 | lst ds=>
  obtain ⟨a,xs,e,h1,h2,h3,r⟩:=h
  exact ⟨a,xs,e,g.hh.lst h1,g.new a h2 (by rw [h1];simp),h3,r.mono g.gg⟩
 | exc c=>obtain ⟨a,C,e,h1,h2⟩:=h;exact ⟨a,C,e,h1,g.hh.keep a _ h2 (by unfold xcO;nofun)⟩
 | nst dss=>
  obtain ⟨a,bs,e,h1,h2,h3,h4,h5,r⟩:=h
  exact ⟨a,bs,e,g.hh.lst h1,g.new a h2 (by rw [h1];simp),h3,h4,h5,Paired.mapP r fun b ds ⟨xs,x1,x2,x3,x4⟩=>⟨xs,g.hh.lst x1,g.new b x2 (by rw [x1];simp),x3,x4.mono g.gg⟩⟩
 | dct kvs=>
  obtain ⟨a,vs,e,h1,h2,h3,r⟩:=h
  exact ⟨a,vs,e,g.hh.keep a _ h1 (by nofun),g.new a h2 (by rw [h1];simp),h3,r.mono g.gg⟩
section
variable {K:PySem.W.Frag} {H0 G₀ G H G' H':Hp} {σ:St} {ρ:List Ent}
theorem RepS.more (R:RepS K H0 G₀ G H σ ρ) (g:Grow G H G' H'):RepS K H0 G₀ G' H' σ ρ:=
 ⟨R.grow.trans g,R.len,fun i o e h1 h2=>(R.ent i o e h1 h2).more g,R.inj.other (fun j a' dss h1 h2 vs e=>by
  obtain ⟨a,bs,e1,e2,_⟩:=R.ent j _ _ h1 h2
  cases e1
  rw [g.hh.lst e2] at e
  cases e
  exact e2),R.tab.more g⟩
theorem RepS.sub (R:RepS K H0 G₀ G H σ ρ):aX G H:=R.grow.sub
theorem RepS.at {i:Nat} {e:Ent} (R:RepS K H0 G₀ G H σ ρ) (h:ρ[i]?=some e):∃ o,σ[i]?=some o∧EntOk K H0 G H o e:=by
 have hi:i<σ.length:=by rw [R.len];exact (List.getElem?_eq_some_iff.mp h).1
 exact ⟨σ[i],by simp [hi],R.ent i _ e (by simp [hi]) h⟩
theorem RepS.val {i:Nat} {d:PyData} (R:RepS K H0 G₀ G H σ ρ) (h:ρ[i]?=some (.val d)):∃ v,σ[i]?=some (some v)∧Rep K G v d:=by
 obtain ⟨o,e,v,rfl,r⟩:=R.at h
 exact ⟨v,e,r⟩
theorem RepS.own {i:Nat} {ds:List PyData} (R:RepS K H0 G₀ G H σ ρ) (h:ρ[i]?=some (.lst ds)):∃ a xs,σ[i]?=some (some (.ref a))∧H a=some (.lst xs)∧G a=none∧H0 a=none∧RepAll K G xs ds:=by
 obtain ⟨o,e,a,xs,rfl,r⟩:=R.at h
 exact ⟨a,xs,e,r⟩
theorem aF {α:Type} {l:List α} {i j:Nat} {x y:α} (h:(l.set i x)[j]?=some y):(j=i∧y=x∧i<l.length)∨(j≠i∧l[j]?=some y):=by
 by_cases e:j=i
 ·subst e
  have hl:j<l.length:=by
   have:=(List.getElem?_eq_some_iff.mp h).1
   simpa using this
  rw [List.getElem?_set_self hl] at h
  exact .inl ⟨rfl,(Option.some.inj h).symm,hl⟩
 ·rw [List.getElem?_set_ne (Ne.symm e)] at h
  exact .inr ⟨e,h⟩
theorem RepS.set {i:Nat} {v:V} {d:PyData} (R:RepS K H0 G₀ G H σ ρ) (r:Rep K G v d):RepS K H0 G₀ G H (σ.set i (some v)) (ρ.set i (.val d)):=by
 refine ⟨R.grow,by simp [R.len],fun j o e h1 h2=>?_,R.inj.sub fun j e h1 h2=>?_,R.tab⟩
 ·rcases aF h1 with ⟨rfl,rfl,_⟩ | ⟨n,h1⟩
  ·rcases aF h2 with ⟨_,rfl,_⟩ | ⟨n,_⟩
   ·exact ⟨v,rfl,r⟩
   ·exact absurd rfl n
  ·rcases aF h2 with ⟨z,_⟩ | ⟨_,h2⟩
   ·exact absurd z n
   ·exact R.ent j o e h1 h2
 ·rcases aF h1 with ⟨_,rfl,_⟩ | ⟨n,h1⟩
  ·cases h2
  ·exact ⟨h1,List.getElem?_set_ne (Ne.symm n)⟩
theorem RepS.freeze {i:Nat} {ds:List PyData} (R:RepS K H0 G₀ G H σ ρ) (h:ρ[i]?=some (.lst ds)):∃ G',aX G G'∧RepS K H0 G₀ G' H σ (ρ.set i (.val (.list ds))):=by
 obtain ⟨a,xs,e,h1,h2,h3,r⟩:=R.own h
 have gg:aX G (upd G a (.lst xs)):=bJ h2
 refine ⟨upd G a (.lst xs),gg,⟨⟨R.grow.gg.trans gg,R.grow.hh,fun b o q=>?_,fun b q n=>?_,fun n=>(R.grow.nt n).upd (by nofun)⟩,by simp [R.len],fun j o e' q1 q2=>?_,R.inj.sub fun j e h1 h2=>?_,R.tab.1,R.tab.2.upd (by nofun)⟩⟩
 ·by_cases hb:b=a
  ·subst hb;rw [aG] at q;cases q;exact h1
  ·rw [aE hb] at q;exact R.sub b o q
 ·have nb:b≠a:=fun z=>n (by rw [z];exact h3)
  rw [aE nb];exact R.grow.new b q n
 ·rcases aF q2 with ⟨rfl,rfl,_⟩ | ⟨nj,q2⟩
  ·rw [e] at q1;cases q1
   exact ⟨.ref a,rfl,.list (.of aG) (r.mono gg)⟩
  ·have E:=R.ent j o e' q1 q2
   cases e' with
   | no=>trivial
   | val d=>obtain ⟨v,z,rv⟩:=E;exact ⟨v,z,rv.mono gg⟩
   | lst es=>
    obtain ⟨b,ys,z,g1,g2,g3,rv⟩:=E
    have nb:b≠a:=fun w=>by
     subst w z
     exact R.inj.two j i b es ds nj q1 q2 e h
    exact ⟨b,ys,z,g1,by rw [aE nb];exact g2,g3,rv.mono gg⟩
   | exc c=>exact E
   | nst dss=>
    obtain ⟨b,bs,z,g1,g2,g3,g4,g5,rv⟩:=E
    subst z
    obtain ⟨m1,m2⟩:=R.inj.mix i j a b ds dss e h q1 q2
    have ni:∀ c∈bs,c≠a:=fun c hc w=>m2 _ g1 (by subst w;exact List.mem_map.mpr ⟨c,hc,rfl⟩)
    exact ⟨b,bs,rfl,g1,by rw [aE (Ne.symm m1)];exact g2,g3,g4,g5,eN rv fun c dd hc ⟨xs',x1,x2,x3,x4⟩=>⟨xs',x1,by rw [aE (ni c hc)];exact x2,x3,x4.mono gg⟩⟩
   | dct kvs=>
    obtain ⟨b,vs,z,g1,g2,g3,rv⟩:=E
    exact ⟨b,vs,z,g1,by rw [aE (dG g1 h1 (by nofun))];exact g2,g3,rv.mono gg⟩
 ·rcases aF h1 with ⟨_,rfl,_⟩ | ⟨n,h1⟩
  ·cases h2
  ·exact ⟨h1,rfl⟩
theorem RepS.wrote {i:Nat} {a:Addr} {ds ds':List PyData} {xs:List V} (R:RepS K H0 G₀ G H σ ρ) (h:ρ[i]?=some (.lst ds)) (e:σ[i]?=some (some (.ref a))) (r:RepAll K G xs ds'):RepS K H0 G₀ G (upd H a (.lst xs)) σ (ρ.set i (.lst ds')):=by
 obtain ⟨a',xs',e',h1,h2,h3,_⟩:=R.own h
 rw [e] at e';cases e'
 refine ⟨⟨R.grow.gg,R.grow.hh.wr h3 h1,fun b o q=>?_,fun b q n=>R.grow.new b q n,R.grow.nt⟩,by simp [R.len],fun j o e' q1 q2=>?_,⟨fun j k b es fs hjk q1 q2 q3 q4=>?_,fun j k b a' es dss q1 q2 q3 q4=>?_,fun j k dss ess q1 q2=>?_,fun j k ks ls q1 q2=>?_⟩,R.tab.wr h1⟩
 ·rw [aE (aN q h2)];exact R.sub b o q
 ·rcases aF q2 with ⟨rfl,rfl,_⟩ | ⟨nj,q2⟩
  ·rw [e] at q1;cases q1
   exact ⟨a,xs,rfl,aG,h2,h3,r⟩
  ·have E:=R.ent j o e' q1 q2
   cases e' with
   | no=>trivial
   | val d=>exact E
   | lst es=>
    obtain ⟨b,ys,z,g1,g2,g3,rv⟩:=E
    have nb:b≠a:=fun w=>by
     subst w z
     exact R.inj.two j i b es ds nj q1 q2 e h
    exact ⟨b,ys,z,by rw [aE nb];exact g1,g2,g3,rv⟩
   | exc c=>obtain ⟨b,C,z,g1,g2⟩:=E;exact ⟨b,C,z,g1,by rw [aE (dG g2 h1 (by unfold xcO;nofun))];exact g2⟩
   | nst dss=>
    obtain ⟨b,bs,z,g1,g2,g3,g4,g5,rv⟩:=E
    subst z
    obtain ⟨m1,m2⟩:=R.inj.mix i j a b ds dss e h q1 q2
    have ni:∀ c∈bs,c≠a:=fun c hc w=>m2 _ g1 (by subst w;exact List.mem_map.mpr ⟨c,hc,rfl⟩)
    exact ⟨b,bs,rfl,by rw [aE (Ne.symm m1)];exact g1,g2,g3,g4,g5,eN rv fun c dd hc ⟨xs',x1,x2,x3,x4⟩=>⟨xs',by rw [aE (ni c hc)];exact x1,x2,x3,x4⟩⟩
   | dct kvs=>
    obtain ⟨b,vs,z,g1,g2,g3,rv⟩:=E
    exact ⟨b,vs,z,by rw [aE (dG g1 h1 (by nofun))];exact g1,g2,g3,rv⟩
 ·rcases aF q2 with ⟨rfl,_,_⟩ | ⟨n2,q2⟩
  ·rcases aF q4 with ⟨z,_,_⟩ | ⟨n4,q4⟩
   ·exact hjk z.symm
   ·exact R.inj.two j k b ds fs hjk q1 h q3 q4
  ·rcases aF q4 with ⟨z,_,_⟩ | ⟨n4,q4⟩
   ·subst z;exact R.inj.two j k b es ds hjk q1 ‹ρ[j]?=some (Ent.lst es)› q3 h
   ·exact R.inj.two j k b es fs hjk q1 ‹ρ[j]?=some (Ent.lst es)› q3 q4
 ·rcases aF q4 with ⟨_,z,_⟩ | ⟨_,q4⟩
  ·cases z
  ·have old:∃ fs,ρ[j]?=some (.lst fs):=by
    rcases aF q2 with ⟨rfl,_,_⟩ | ⟨_,q2⟩
    ·exact ⟨_,h⟩
    ·exact ⟨_,q2⟩
   obtain ⟨fs,q2⟩:=old
   obtain ⟨m1,m2⟩:=R.inj.mix j k b a' fs dss q1 q2 q3 q4
   have m3:=(R.inj.mix i k a a' ds dss e h q3 q4).1
   exact ⟨m1,fun vs z=>m2 vs (by rw [aE (Ne.symm m3)] at z;exact z)⟩
 ·rcases aF q1 with ⟨_,z,_⟩ | ⟨_,q1⟩
  ·cases z
  ·rcases aF q2 with ⟨_,z,_⟩ | ⟨_,q2⟩
   ·cases z
   ·exact R.inj.one j k dss ess q1 q2
 ·rcases aF q1 with ⟨_,z,_⟩ | ⟨_,q1⟩
  ·cases z
  ·rcases aF q2 with ⟨_,z,_⟩ | ⟨_,q2⟩
   ·cases z
   ·exact R.inj.oneD j k ks ls q1 q2
theorem RepS.fresh {i:Nat} {p:Addr} {ds:List PyData} {xs:List V} (R:RepS K H0 G₀ G H σ ρ) (h:H p=none) (r:RepAll K G xs ds):RepS K H0 G₀ G (upd H p (.lst xs)) (σ.set i (some (.ref p))) (ρ.set i (.lst ds)):=by
 have R':=R.more (Grow.side (o:=.lst xs) R.sub h)
 refine ⟨R'.grow,by simp [R.len],fun j o e h1 h2=>?_,⟨fun j k a es fs hjk h1 h2 h3 h4=>?_,fun j k b a' es dss q1 q2 q3 q4=>?_,fun j k dss ess q1 q2=>?_,fun j k ks ls q1 q2=>?_⟩,R'.tab⟩
 ·rcases aF h1 with ⟨rfl,rfl,_⟩ | ⟨n,h1⟩
  ·rcases aF h2 with ⟨_,rfl,_⟩ | ⟨n,_⟩
   ·exact ⟨p,xs,rfl,aG,R.sub.free h,R.grow.hh.free h,r⟩
   ·exact absurd rfl n
  ·rcases aF h2 with ⟨z,_⟩ | ⟨_,h2⟩
   ·exact absurd z n
   ·exact R'.ent j o e h1 h2
 ·have old:∀ j es,j≠i→σ[j]?=some (some (.ref p))→ρ[j]?=some (.lst es)→False:=fun j es _ q1 q2=>by
   obtain ⟨b,ys,e,g1,_⟩:=R.own q2
   rw [q1] at e;cases e
   rw [h] at g1;cases g1
  rcases aF h2 with ⟨rfl,_,_⟩ | ⟨n2,h2⟩
  ·rcases aF h1 with ⟨_,z,_⟩ | ⟨n,_⟩
   ·cases z
    rcases aF h4 with ⟨z,_,_⟩ | ⟨n4,h4⟩
    ·exact hjk z.symm
    ·rw [List.getElem?_set_ne (Ne.symm n4)] at h3
     exact old k fs n4 h3 h4
   ·exact absurd rfl n
  ·rw [List.getElem?_set_ne (Ne.symm n2)] at h1
   rcases aF h4 with ⟨zk,_,_⟩ | ⟨n4,h4⟩
   ·subst zk
    rcases aF h3 with ⟨_,z,_⟩ | ⟨n,_⟩
    ·cases z;exact old j es n2 h1 ‹ρ[j]?=some (Ent.lst es)›
    ·exact absurd rfl n
   ·rw [List.getElem?_set_ne (Ne.symm n4)] at h3
    exact R.inj.two j k a es fs hjk h1 h2 h3 h4
 ·rcases aF q4 with ⟨_,z,_⟩ | ⟨n4,q4⟩
  ·cases z
  ·rw [List.getElem?_set_ne (Ne.symm n4)] at q3
   obtain ⟨a1,bs,z,g1,g2,g3,g4,g5,rv⟩:=R.ent k _ _ q3 q4
   have z':a'=a1:=by cases z;rfl
   subst z'
   have pa:a'≠p:=aN g1 h
   have pb:V.ref p∉bs.map V.ref:=fun z=>by
    obtain ⟨c,hc,e⟩:=List.mem_map.mp z
    cases e
    obtain ⟨dd,⟨xs',x1,_⟩⟩:=mT rv hc
    rw [h] at x1;cases x1
   rcases aF q2 with ⟨rfl,_,_⟩ | ⟨n2,q2⟩
   ·rcases aF q1 with ⟨_,z,_⟩ | ⟨n,_⟩
    ·cases z
     exact ⟨Ne.symm pa,fun vs e=>by rw [aE pa,g1] at e;cases e;exact pb⟩
    ·exact absurd rfl n
   ·rw [List.getElem?_set_ne (Ne.symm n2)] at q1
    obtain ⟨m1,m2⟩:=R.inj.mix j k b a' es dss q1 q2 q3 q4
    exact ⟨m1,fun vs e=>m2 vs (by rw [aE pa] at e;exact e)⟩
 ·rcases aF q1 with ⟨_,z,_⟩ | ⟨_,q1⟩
  ·cases z
  ·rcases aF q2 with ⟨_,z,_⟩ | ⟨_,q2⟩
   ·cases z
   ·exact R.inj.one j k dss ess q1 q2
 ·rcases aF q1 with ⟨_,z,_⟩ | ⟨_,q1⟩
  ·cases z
  ·rcases aF q2 with ⟨_,z,_⟩ | ⟨_,q2⟩
   ·cases z
   ·exact R.inj.oneD j k ks ls q1 q2
theorem RepS.ownD {i:Nat} {kvs:List (Key×PyData)} (R:RepS K H0 G₀ G H σ ρ) (h:ρ[i]?=some (.dct kvs)):∃ a vs,σ[i]?=some (some (.ref a))∧H a=some (.dK vs)∧G a=none∧H0 a=none∧dD K G vs kvs:=by
 obtain ⟨o,e,a,vs,rfl,r⟩:=R.at h
 exact ⟨a,vs,e,r⟩
theorem Tab.wrD {P a:Addr} {q:Str} {H:Hp} {vs:List (Key×V)} {o:HO} (t:Tab P q H) (h:H a=some (.dK vs)):Tab P q (upd H a o):=by
 obtain ⟨ps,h1,h2,h3⟩:=t
 refine ⟨ps,by rw [aE (dG h1 h (by nofun))];exact h1,h2,fun pos cv e=>?_⟩
 obtain ⟨c,e1,e2⟩:=h3 pos cv e
 exact ⟨c,e1,by rw [aE (dG e2 h (by unfold cdO;nofun))];exact e2⟩
theorem Sm.wrD {H H':Hp} (s:Sm H H') {l:Addr} {vs:List (Key×V)} {o:HO} (h0:H l=none) (h:H' l=some (.dK vs)):Sm H (upd H' l o):=
 ⟨fun b u e n=>by rw [aE (aN e h0)];exact s.keep b u e n,fun b ps e=>by rw [aE (aN e h0)];exact s.tbl b ps e,fun P q t=>(s.tab P q t).wrD h⟩
theorem lA.wrD {K:PySem.W.Frag} {G H:Hp} {a:Addr} {vs:List (Key×V)} {o:HO} (t:lA K G H) (h:H a=some (.dK vs)):lA K G (upd H a o):=⟨fun x hx c P e=>(t.1 x hx c P e).wrD h,t.2⟩
theorem RepS.freezeD {i:Nat} {kvs:List (Key×PyData)} (R:RepS K H0 G₀ G H σ ρ) (h:ρ[i]?=some (.dct kvs)):∃ G',aX G G'∧RepS K H0 G₀ G' H σ (ρ.set i (.val (.dict (kvs.map fun p=>(bF p.1,p.2))))):=by
 obtain ⟨a,vs,e,h1,h2,h3,r⟩:=R.ownD h
 have gg:aX G (upd G a (.dK vs)):=bJ h2
 refine ⟨upd G a (.dK vs),gg,⟨⟨R.grow.gg.trans gg,R.grow.hh,fun b o q=>?_,fun b q n=>?_,fun n=>(R.grow.nt n).upd (by nofun)⟩,by simp [R.len],fun j o e' q1 q2=>?_,R.inj.sub fun j e h1 h2=>?_,R.tab.1,R.tab.2.upd (by nofun)⟩⟩
 ·by_cases hb:b=a
  ·subst hb;rw [aG] at q;cases q;exact h1
  ·rw [aE hb] at q;exact R.sub b o q
 ·have nb:b≠a:=fun z=>n (by rw [z];exact h3)
  rw [aE nb];exact R.grow.new b q n
 ·rcases aF q2 with ⟨rfl,rfl,_⟩ | ⟨nj,q2⟩
  ·rw [e] at q1;cases q1
   refine ⟨.ref a,rfl,.dict (kvs:=vs) aG ?_ ?_⟩
   ·rw [List.map_map]
    have:=congrArg (List.map bF) r.1
    rw [List.map_map,List.map_map] at this
    exact this.symm
   ·rw [List.map_map];exact r.2.mono gg
  ·have E:=R.ent j o e' q1 q2
   cases e' with
   | no=>trivial
   | val d=>obtain ⟨v,z,rv⟩:=E;exact ⟨v,z,rv.mono gg⟩
   | lst es=>
    obtain ⟨b,ys,z,g1,g2,g3,rv⟩:=E
    exact ⟨b,ys,z,g1,by rw [aE (dG g1 h1 (by nofun))];exact g2,g3,rv.mono gg⟩
   | exc c=>exact E
   | nst dss=>
    obtain ⟨b,bs,z,g1,g2,g3,g4,g5,rv⟩:=E
    exact ⟨b,bs,z,g1,by rw [aE (dG g1 h1 (by nofun))];exact g2,g3,g4,g5,eN rv fun c dd hc ⟨xs',x1,x2,x3,x4⟩=>⟨xs',x1,by rw [aE (dG x1 h1 (by nofun))];exact x2,x3,x4.mono gg⟩⟩
   | dct ks=>exact absurd (R.inj.oneD j i ks kvs q2 h) nj
 ·rcases aF h1 with ⟨_,rfl,_⟩ | ⟨n,h1⟩
  ·cases h2
  ·exact ⟨h1,rfl⟩
theorem RepS.wroteD {i:Nat} {a:Addr} {kvs kvs':List (Key×PyData)} {vs:List (Key×V)} (R:RepS K H0 G₀ G H σ ρ) (h:ρ[i]?=some (.dct kvs)) (e:σ[i]?=some (some (.ref a))) (r:dD K G vs kvs'):RepS K H0 G₀ G (upd H a (.dK vs)) σ (ρ.set i (.dct kvs')):=by
 obtain ⟨a',xs',e',h1,h2,h3,_⟩:=R.ownD h
 rw [e] at e';cases e'
 refine ⟨⟨R.grow.gg,R.grow.hh.wrD h3 h1,fun b o q=>?_,fun b q n=>R.grow.new b q n,R.grow.nt⟩,by simp [R.len],fun j o e' q1 q2=>?_,⟨fun j k b es fs hjk q1 q2 q3 q4=>?_,fun j k b a' es dss q1 q2 q3 q4=>?_,fun j k dss ess q1 q2=>?_,fun j k ks ls q1 q2=>?_⟩,R.tab.wrD h1⟩
 ·rw [aE (aN q h2)];exact R.sub b o q
 ·rcases aF q2 with ⟨rfl,rfl,_⟩ | ⟨nj,q2⟩
  ·rw [e] at q1;cases q1
   exact ⟨a,vs,rfl,aG,h2,h3,r⟩
  ·have E:=R.ent j o e' q1 q2
   cases e' with
   | no=>trivial
   | val d=>exact E
   | lst es=>
    obtain ⟨b,ys,z,g1,g2,g3,rv⟩:=E
    exact ⟨b,ys,z,by rw [aE (dG g1 h1 (by nofun))];exact g1,g2,g3,rv⟩
   | exc c=>obtain ⟨b,C,z,g1,g2⟩:=E;exact ⟨b,C,z,g1,by rw [aE (dG g2 h1 (by unfold xcO;nofun))];exact g2⟩
   | nst dss=>
    obtain ⟨b,bs,z,g1,g2,g3,g4,g5,rv⟩:=E
    exact ⟨b,bs,z,by rw [aE (dG g1 h1 (by nofun))];exact g1,g2,g3,g4,g5,eN rv fun c dd hc ⟨xs',x1,x2,x3,x4⟩=>⟨xs',by rw [aE (dG x1 h1 (by nofun))];exact x1,x2,x3,x4⟩⟩
   | dct ks=>exact absurd (R.inj.oneD j i ks kvs q2 h) nj
 ·rcases aF q2 with ⟨_,z,_⟩ | ⟨_,q2⟩
  ·cases z
  ·rcases aF q4 with ⟨_,z,_⟩ | ⟨_,q4⟩
   ·cases z
   ·exact R.inj.two j k b es fs hjk q1 q2 q3 q4
 ·rcases aF q2 with ⟨_,z,_⟩ | ⟨_,q2⟩
  ·cases z
  ·rcases aF q4 with ⟨_,z,_⟩ | ⟨_,q4⟩
   ·cases z
   ·obtain ⟨m1,m2⟩:=R.inj.mix j k b a' es dss q1 q2 q3 q4
    refine ⟨m1,fun ws z=>m2 ws ?_⟩
    by_cases n:a'=a
    ·subst n;rw [aG] at z;cases z
    ·rw [aE n] at z;exact z
 ·rcases aF q1 with ⟨_,z,_⟩ | ⟨_,q1⟩
  ·cases z
  ·rcases aF q2 with ⟨_,z,_⟩ | ⟨_,q2⟩
   ·cases z
   ·exact R.inj.one j k dss ess q1 q2
 ·have old:∀ (j:Nat) (ks:List (Key×PyData)),(ρ.set i (.dct kvs'))[j]?=some (.dct ks)→∃ ks',ρ[j]?=some (.dct ks'):=fun j ks q=>by
   rcases aF q with ⟨rfl,_,_⟩ | ⟨_,q⟩
   ·exact ⟨_,h⟩
   ·exact ⟨_,q⟩
  obtain ⟨k1,q1⟩:=old j ks q1
  obtain ⟨k2,q2⟩:=old k ls q2
  exact R.inj.oneD j k k1 k2 q1 q2
theorem RepS.freshD {i:Nat} {p:Addr} {kvs:List (Key×PyData)} {vs:List (Key×V)} (R:RepS K H0 G₀ G H σ ρ) (h:H p=none) (hno:∀ (j:Nat) (ks:List (Key×PyData)),ρ[j]?=some (.dct ks)→j=i) (r:dD K G vs kvs):RepS K H0 G₀ G (upd H p (.dK vs)) (σ.set i (some (.ref p))) (ρ.set i (.dct kvs)):=by
 have R':=R.more (Grow.side (o:=.dK vs) R.sub h)
 refine ⟨R'.grow,by simp [R.len],fun j o e h1 h2=>?_,⟨fun j k a es fs hjk h1 h2 h3 h4=>?_,fun j k b a' es dss q1 q2 q3 q4=>?_,fun j k dss ess q1 q2=>?_,fun j k ks ls q1 q2=>?_⟩,R'.tab⟩
 ·rcases aF h1 with ⟨rfl,rfl,_⟩ | ⟨n,h1⟩
  ·rcases aF h2 with ⟨_,rfl,_⟩ | ⟨n,_⟩
   ·exact ⟨p,vs,rfl,aG,R.sub.free h,R.grow.hh.free h,r⟩
   ·exact absurd rfl n
  ·rcases aF h2 with ⟨z,_⟩ | ⟨_,h2⟩
   ·exact absurd z n
   ·exact R'.ent j o e h1 h2
 ·rcases aF h2 with ⟨_,z,_⟩ | ⟨n2,h2⟩
  ·cases z
  ·rcases aF h4 with ⟨_,z,_⟩ | ⟨n4,h4⟩
   ·cases z
   ·rw [List.getElem?_set_ne (Ne.symm n2)] at h1
    rw [List.getElem?_set_ne (Ne.symm n4)] at h3
    exact R'.inj.two j k a es fs hjk h1 h2 h3 h4
 ·rcases aF q2 with ⟨_,z,_⟩ | ⟨n2,q2⟩
  ·cases z
  ·rcases aF q4 with ⟨_,z,_⟩ | ⟨n4,q4⟩
   ·cases z
   ·rw [List.getElem?_set_ne (Ne.symm n2)] at q1
    rw [List.getElem?_set_ne (Ne.symm n4)] at q3
    exact R'.inj.mix j k b a' es dss q1 q2 q3 q4
 ·rcases aF q1 with ⟨_,z,_⟩ | ⟨_,q1⟩
  ·cases z
  ·rcases aF q2 with ⟨_,z,_⟩ | ⟨_,q2⟩
   ·cases z
   ·exact R.inj.one j k dss ess q1 q2
 ·have all:∀ (j:Nat) (ks:List (Key×PyData)),(ρ.set i (.dct kvs))[j]?=some (.dct ks)→j=i:=fun j ks q=>by
   rcases aF q with ⟨z,_,_⟩ | ⟨_,q⟩
   ·exact z
   ·exact hno j ks q
  rw [all j ks q1,all k ls q2]
end
structure PD (X:Cx) (e:Expr) (ρ:List Ent) (d:PyData):Prop where
 run:∀ (H0 G₀ G:Hp) (pins:List (Addr×Obj)) (s:Shared) (σ:St) (H:Hp) (Q:VK),Inv X pins σ H s→RepS X.K H0 G₀ G H σ ρ→(∀ v G' H',Grow G H G' H'→Rep X.K G' v d→Q v H') →
  wpAny (model X.prog X.w) X.A (eval e X.env) (EP X pins σ Q) X.xe s
structure PTD (X:Cx) (e:Expr) (ρ:List Ent) (b:Bool):Prop where
 run:∀ (H0 G₀ G:Hp) (pins:List (Addr×Obj)) (s:Shared) (σ:St) (H:Hp) (Q:Bool→Hp→Prop),Inv X pins σ H s→RepS X.K H0 G₀ G H σ ρ→(∀ G' H',Grow G H G' H'→Q b H') →
  wpAny (model X.prog X.w) X.A (isTrue e X.env (eval e X.env)) (TP X pins σ Q) X.xe s
structure PAD (X:Cx) (es:List Expr) (ρ:List Ent) (ds:List PyData):Prop where
 run:∀ (H0 G₀ G:Hp) (pos:Pos) (pins:List (Addr×Obj)) (s:Shared) (σ:St) (H:Hp) (Q:List V→Hp→Prop),Inv X pins σ H s→RepS X.K H0 G₀ G H σ ρ→(∀ vs G' H',Grow G H G' H'→RepAll X.K G' vs ds→Q vs H') →
  wpAny (model X.prog X.w) X.A (spliced (backTo pos (starEach es X.env))) (AP X pins σ Q) X.xe s
def tD (X:Cx) (ρ:List Ent) (d:PyData):TE:=fun σ H Q=>∃ H0 G₀ G,RepS X.K H0 G₀ G H σ ρ∧∀ v G' H',Grow G H G' H'→Rep X.K G' v d→Q v H'
def tTD (X:Cx) (ρ:List Ent) (b:Bool):TT:=fun σ H Q=>∃ H0 G₀ G,RepS X.K H0 G₀ G H σ ρ∧∀ G' H',Grow G H G' H'→Q b H'
def tAD (X:Cx) (ρ:List Ent) (ds:List PyData):TA:=fun σ H Q=>∃ H0 G₀ G,RepS X.K H0 G₀ G H σ ρ∧∀ vs G' H',Grow G H G' H'→RepAll X.K G' vs ds→Q vs H'
section
variable {X:Cx} {e a b c:Expr} {es:List Expr} {ρ:List Ent} {d da db dc:PyData} {ds:List PyData} {pos p:Pos}
theorem PD.pe (h:PD X e ρ d):PE X e (tD X ρ d):=fun pins s σ H Q I ⟨H0,G₀,G,R,k⟩=>h.run H0 G₀ G pins s σ H Q I R k
theorem PTD.pt {b:Bool} (h:PTD X e ρ b):PT X e (tTD X ρ b):=fun pins s σ H Q I ⟨H0,G₀,G,R,k⟩=>h.run H0 G₀ G pins s σ H Q I R k
theorem PAD.pa (h:PAD X es ρ ds):PA X es (tAD X ρ ds):=fun pos pins s σ H Q I ⟨H0,G₀,G,R,k⟩=>h.run H0 G₀ G pos pins s σ H Q I R k
theorem PD.of {t:TE} (h:PE X e t) (k:∀ H0 G₀ G σ H Q,RepS X.K H0 G₀ G H σ ρ→(∀ v G' H',Grow G H G' H'→Rep X.K G' v d→Q v H')→t σ H Q):PD X e ρ d:=
 ⟨fun H0 G₀ G pins s σ H Q I R q=>h pins s σ H Q I (k H0 G₀ G σ H Q R q)⟩
theorem pd_int {i:Int} {j}:PD X (.Constant (.int i) j pos) ρ (.int i):=.of pe_int fun _ _ _ _ _ _ R q=>q _ _ _ (.refl R.sub) (.int i)
theorem pd_str {x:Str} {j}:PD X (.Constant (.str x) j pos) ρ (.str x):=.of pe_str fun _ _ _ _ _ _ R q=>q _ _ _ (.refl R.sub) (.str x)
theorem pd_bool {x:Bool} {j}:PD X (.Constant (.bool x) j pos) ρ (.bool x):=.of pe_bl fun _ _ _ _ _ _ R q=>q _ _ _ (.refl R.sub) (.bool x)
theorem pd_none {j}:PD X (.Constant .none j pos) ρ .none:=.of pe_non fun _ _ _ _ _ _ R q=>q _ _ _ (.refl R.sub) .none
theorem pd_var (i:Nat) {x:Str} (h:ρ[i]?=some (.val d)) (hN:X.N[i]?=some x:=by rfl) (hv:Vis X.env.scope x:=by first | exact Or.inl rfl | exact Or.inr (Or.inl rfl) | exact Or.inr (Or.inr rfl)) (hd:(x==("__debug__" : Str))=false:=by decide)
  (hcd:(x==("__classdict__" : Str))=false:=by decide):PD X (.Name x pos) ρ d:=.of (iF hN hv hd hcd) fun H0 G₀ G σ H Q R q=>by
 obtain ⟨v,e,r⟩:=R.val h
 exact ⟨v,e,q v G H (.refl R.sub) r⟩
end
end L2.L3
namespace L2.L3
open PySem PySem.Spec PyProof.Rows
section
variable {X:Cx} {e a b c:Expr} {es:List Expr} {ρ:List Ent} {d da db dc:PyData} {ds:List PyData} {pos p:Pos}
theorem pad_nil:PAD X [] ρ []:=⟨fun H0 G₀ G pos pins s σ H Q I R q=>iG pos pins s σ H Q I (q [] G H (.refl R.sub) .nil)⟩
theorem lS (ha:PD X e ρ d) (hr:PAD X es ρ ds) (hs:starEach (e::es) X.env=(false,eval e X.env)::starEach es X.env:=by rfl):PAD X (e::es) ρ (d::ds):=by
 refine ⟨?_⟩
 intro H0 G₀ G pos pins s σ H Q I R q
 exact eJ ha.pe hr.pa hs pos pins s σ H Q I ⟨H0,G₀,G,R,fun x G1 H1 g1 r1=>⟨H0,G₀,G1,R.more g1,fun xs G2 H2 g2 r2=>q _ G2 H2 (g1.trans g2) (.cons (r1.mono g2.gg) r2)⟩⟩
structure CmpD (X:Cx) (op:CmpOp) (da db:PyData) (t:Bool):Prop where
 ex:∃ r:R2,OpR X (compareOp op) r∧∀ x y G H Q,aX G H→Rep X.K G x da→Rep X.K G y db→Q (V.bl t) H→r x y H Q
theorem cmp_lt {i j:Int}:CmpD X .Lt (.int i) (.int j) (decide (i<j)):=⟨_,op_lt,fun x y G H Q _ rx ry q=>by cases rx;cases ry;exact ⟨_,_,rfl,rfl,q⟩⟩
theorem cmp_le {i j:Int}:CmpD X .LtE (.int i) (.int j) (decide (i≤j)):=⟨_,op_le,fun x y G H Q _ rx ry q=>by cases rx;cases ry;exact ⟨_,_,rfl,rfl,q⟩⟩
def rEqD (X:Cx) (da db:PyData) (neg:Bool):R2:=fun x y H Q=>Rep X.K H x da∧Rep X.K H y db∧SeqAt.shaped da=true∧SeqAt.shaped db=true∧Q (.bl (if neg then !PyData.eqv da db else PyData.eqv da db)) H
theorem op_eqD (hu:X.A.units+64<cLine) (da db:PyData):OpR X (compareOp .Eq) (rEqD X da db false):=by
 intro pins s σ H x y v u Q I rx ry ⟨r1,r2,h1,h2,q⟩
 obtain ⟨as,w1⟩:=r1.reads I rx
 obtain ⟨bs,w2⟩:=r2.reads I ry
 exact eq_dataH w1 w2 h1 h2 hu ⟨.bl _,H,I,rfl,q⟩
theorem op_neD (hu:X.A.units+64<cLine) (da db:PyData):OpR X (compareOp .NotEq) (rEqD X da db true):=by
 intro pins s σ H x y v u Q I rx ry ⟨r1,r2,h1,h2,q⟩
 obtain ⟨as,w1⟩:=r1.reads I rx
 obtain ⟨bs,w2⟩:=r2.reads I ry
 exact ne_dataH w1 w2 h1 h2 hu ⟨.bl _,H,I,rfl,q⟩
theorem cmp_eq (hu:X.A.units+64<cLine) (h1:SeqAt.shaped da=true) (h2:SeqAt.shaped db=true):CmpD X .Eq da db (PyData.eqv da db):=
 ⟨_,op_eqD hu da db,fun x y G H Q s rx ry q=>⟨rx.mono s,ry.mono s,h1,h2,q⟩⟩
theorem cmp_ne (hu:X.A.units+64<cLine) (h1:SeqAt.shaped da=true) (h2:SeqAt.shaped db=true):CmpD X .NotEq da db (!PyData.eqv da db):=
 ⟨_,op_neD hu da db,fun x y G H Q s rx ry q=>⟨rx.mono s,ry.mono s,h1,h2,q⟩⟩
variable {rest:List Expr}
theorem atI_rep {K:PySem.W.Frag} {G:Hp} {xs:List V} {ds:List PyData} {i:Int} {d:PyData} (r:RepAll K G xs ds) (h:atI ds i=some d):∃ v,atI xs i=some v∧Rep K G v d:=by
 unfold atI at h ⊢
 rw [r.length]
 cases e:ixN ds.length i with
 | none=>rw [e] at h;cases h
 | some j=>
  rw [e] at h
  exact r.get h
def spD (K:PySem.W.Frag) (F:List PyData→PyData→Prop):Sp:=fun vs H Q _=>∃ G ds d,(aX G H∧lA K G H)∧RepAll K G vs ds∧F ds d∧∀ v G' H',Grow G H G' H'→Rep K G' v d→Q v H'
end
end L2.L3
namespace L2.L3
open PySem PySem.Spec PyProof.Rows
def Walk (K:PySem.W.Frag) (J:It) (G:Hp) (ds:List PyData):Prop:=
 ∀ (i:Nat) (G' H':Hp),aX G G'→aX G' H'→(∀ d,ds[i]?=some d→J.go i H'∧∀ x H2,J.yld i H' x H2→∃ G2,Grow G' H' G2 H2∧Rep K G2 x d)∧(ds.length≤i→J.stop i H')
def tID (K:PySem.W.Frag) (ρ:List Ent) (ds:List PyData):TI:=fun σ H R=>∃ H0 G₀ G,RepS K H0 G₀ G H σ ρ∧∀ J G' H',Grow G H G' H'→Walk K J G' ds→R J H'
structure PID (X:Cx) (tg iter:Expr) (ρ:List Ent) (ds:List PyData):Prop where
 run:PI X tg iter (tID X.K ρ ds)
theorem walk_list {K:PySem.W.Frag} {G:Hp} {a:Addr} {xs:List V} {ds:List PyData} (hq:SqL K G a xs) (r:RepAll K G xs ds):Walk K (Itl K a) G ds:=by
 intro i G' H' s1 s2
 refine ⟨fun d e=>?_,fun hl=>⟨xs,(s1.trans s2).seq hq,by rw [r.length];exact hl⟩⟩
 obtain ⟨v,ev,rv⟩:=r.get e
 refine ⟨⟨xs,v,(s1.trans s2).seq hq,ev⟩,fun x H2 ⟨e2,y⟩=>?_⟩
 subst e2
 have z:=y xs ((s1.trans s2).seq hq)
 rw [ev] at z
 cases z
 exact ⟨G',.refl s2,rv.mono s1⟩
theorem walk_tup {K:PySem.W.Frag} {G:Hp} {a:Addr} {xs:List V} {ds:List PyData} (hq:SqT K G a xs) (r:RepAll K G xs ds):Walk K (Itt K a) G ds:=by
 intro i G' H' s1 s2
 refine ⟨fun d e=>?_,fun hl=>⟨xs,nM (s1.trans s2) hq,by rw [r.length];exact hl⟩⟩
 obtain ⟨v,ev,rv⟩:=r.get e
 refine ⟨⟨xs,v,nM (s1.trans s2) hq,ev⟩,fun x H2 ⟨e2,y⟩=>?_⟩
 subst e2
 have z:=y xs (nM (s1.trans s2) hq)
 rw [ev] at z
 cases z
 exact ⟨G',.refl s2,rv.mono s1⟩
def gM (lo:Int) (n:Nat):List PyData:=(List.range n).map fun (k:Nat)=>.int (lo+(k:Int))
theorem walk_rng {K:PySem.W.Frag} {G:Hp} (lo:Int) (n:Nat):Walk K (Itr lo n) G (gM lo n):=by
 intro i G' H' s1 s2
 unfold gM
 refine ⟨fun d e=>?_,fun hl=>by rw [List.length_map,List.length_range] at hl;exact hl⟩
 rw [List.getElem?_map] at e
 by_cases hi:i<n
 ·rw [List.getElem?_range hi] at e
  cases e
  refine ⟨hi,fun x H2 ⟨e1,e2⟩=>?_⟩
  subst e1 e2
  exact ⟨G',.refl s2,.int _⟩
 ·rw [List.getElem?_eq_none (by simpa using hi)] at e
  cases e
section
variable {X:Cx} {tg iter a b:Expr} {ρ:List Ent} {ds:List PyData} {p pos:Pos}
theorem PI.imp {wi wi':TI} (h:PI X tg iter wi) (k:∀ σ H R,wi' σ H R→wi σ H R):PI X tg iter wi':=fun pins s σ H R I w=>h pins s σ H R I (k σ H R w)
theorem pid_list (h:PD X iter ρ (.list ds)):PID X tg iter ρ ds:=⟨PI.imp (pi_list h.pe) fun σ H R ⟨H0,G₀,G,S,q⟩=>⟨H0,G₀,G,S,fun v G1 H1 g1 r1=>by
 cases r1 with
 | list hq r=>exact ⟨_,rfl,⟨_,g1.sub.seq hq⟩,q _ _ _ g1 (walk_list hq r)⟩⟩⟩
theorem pid_tup (h:PD X iter ρ (.tuple ds)):PID X tg iter ρ ds:=⟨PI.imp (pi_tup h.pe) fun σ H R ⟨H0,G₀,G,S,q⟩=>⟨H0,G₀,G,S,fun v G1 H1 g1 r1=>by
 cases r1 with
 | tuple hq r=>exact ⟨_,rfl,⟨_,nM g1.sub hq⟩,q _ _ _ g1 (walk_tup hq r)⟩⟩⟩
theorem pid_range1 {n:Int} (hm:X.mg "range" = none) (ha:PD X a ρ (.int n)) (h1:-(2 ^ 62)≤n) (h2:n<2 ^ 62) (hs:starEach [a] X.env=[(false,eval a X.env)]:=by rfl) (hs':starEach [a] X.env=(false,eval a X.env)::starEach [] X.env:=by rfl) (hg:Gl X "range":=by rfl) :
  PID X tg (.Call (.Name "range" p) [a] [] pos) ρ (gM 0 n.toNat):=
 ⟨PI.imp (pi_range1 hg hm (lS ha pad_nil hs').pa hs) fun σ H R ⟨H0,G₀,G,S,q⟩=>⟨H0,G₀,G,S,fun vs G1 H1 g1 r1=>by
  cases r1 with
  | cons r rr=>
   cases rr
   cases r
   exact ⟨n,rfl,h1,h2,q _ _ _ g1 (walk_rng 0 n.toNat)⟩⟩⟩
end
def tGD (K:PySem.W.Frag) (ρ:List Ent) (d:PyData) (ρ':List Ent):TG:=fun v σ H Q=>∃ H0 G₀ G,RepS K H0 G₀ G H σ ρ∧Rep K G v d∧∀ σ',RepS K H0 G₀ G H σ' ρ'→Q σ' H
def tGsD (K:PySem.W.Frag) (ρ:List Ent) (ds:List PyData) (ρ':List Ent):TGs:=fun vs σ H Q=>∃ H0 G₀ G,RepS K H0 G₀ G H σ ρ∧RepAll K G vs ds∧∀ σ',RepS K H0 G₀ G H σ' ρ'→Q σ' H
structure PGD (X:Cx) (tg:Expr) (ρ:List Ent) (d:PyData) (ρ':List Ent):Prop where
 run:PG X tg (tGD X.K ρ d ρ')
structure PGsD (X:Cx) (ts:List Expr) (ρ:List Ent) (ds:List PyData) (ρ':List Ent):Prop where
 run:PGs X ts (tGsD X.K ρ ds ρ')
section
variable {X:Cx} {e:Expr} {es:List Expr} {ρ ρ1 ρ2:List Ent} {d:PyData} {ds:List PyData} {pos:Pos}
theorem pgd_name (i:Nat) {x:Str} (hN:X.N.Nodup) (hi:X.N[i]?=some x:=by rfl) (hx:Loc X.env.scope x:=by first | exact Or.inl rfl | exact Or.inr rfl) (hf:X.fn x=true∨X.env.scope.names.lookup x=some .local:=by first | exact .inl rfl | exact .inr rfl) :
  PGD X (.Name x pos) ρ d (ρ.set i (.val d)):=⟨fun pins s σ H v u Q I r ⟨H0,G₀,G,S,rv,q⟩=>pg_name hN hi hx hf pins s σ H v u Q I r (q _ (S.set rv))⟩
theorem pgsd_nil:PGsD X [] ρ [] ρ:=⟨fun pins s σ H vs us Q I r ⟨H0,G₀,G,S,rv,q⟩=>by
 cases rv
 exact pgs_nil pins s σ H [] us Q I r ⟨rfl,q σ S⟩⟩
theorem pgsd_cons (h1:PGD X e ρ d ρ1) (h2:PGsD X es ρ1 ds ρ2) (hs:(assignEach (e::es) X.env).map (·.2)=assign e X.env::(assignEach es X.env).map (·.2):=by rfl):PGsD X (e::es) ρ (d::ds) ρ2:=⟨fun pins s σ H vs us Q I r ⟨H0,G₀,G,S,rv,q⟩=>by
 cases rv with
 | cons r1 r2=>exact pgs_cons h1.run h2.run hs pins s σ H _ us Q I r ⟨_,_,rfl,H0,G₀,G,S,r1,fun σ' S'=>⟨H0,G₀,G,S',r2,q⟩⟩⟩
theorem pgd_tup {k:Nat} (hc:X.calm=true) (h:PGsD X es ρ ds ρ1) (hn:(assignEach es X.env).length=ds.length:=by rfl) (hst:(assignEach es X.env).findIdx? (·.1)=none:=by rfl):PGD X (.Tuple es k pos) ρ (.tuple ds) ρ1:=⟨fun pins s σ H v u Q I r ⟨H0,G₀,G,S,rv,q⟩=>by
 cases rv with
 | tuple hq rr=>exact pg_tup hc h.run hn hst pins s σ H _ u Q I r ⟨_,_,rfl,nM S.sub hq,rr.length,H0,G₀,G,S,rr,q⟩⟩
end
inductive Out where
 | nx (ρ:List Ent)
 | rt (d:PyData)
 | bk (ρ:List Ent)
 | ct (ρ:List Ent)
inductive Weak:List Ent→List Ent→Prop
 | nil:Weak [] []
 | keep {e:Ent} {a b:List Ent}:Weak a b→Weak (e::a) (e::b)
 | no {e:Ent} {a b:List Ent}:Weak a b→Weak (e::a) (.no::b)
theorem Weak.refl:∀ ρ:List Ent,Weak ρ ρ
 | []=>.nil
 | _::r=>.keep (Weak.refl r)
theorem Weak.at:∀ {a b:List Ent} {i:Nat} {e:Ent},Weak a b→b[i]?=some e→e=.no∨a[i]?=some e
 | _,_,_,_,.nil,h=>by simp at h
 | _,_,0,e,.keep _,h=>.inr (by simpa using h)
 | _,_,0,e,.no _,h=>.inl (by simpa using h.symm)
 | _,_,i+1,e,.keep w,h=>by
  rcases Weak.at (i:=i) w (by simpa using h) with z | z
  ·exact .inl z
  ·exact .inr (by simpa using z)
 | _,_,i+1,e,.no w,h=>by
  rcases Weak.at (i:=i) w (by simpa using h) with z | z
  ·exact .inl z
  ·exact .inr (by simpa using z)
theorem Weak.length:∀ {a b:List Ent},Weak a b→a.length=b.length
 | _,_,.nil=>rfl
 | _,_,.keep w=>by simp [Weak.length w]
 | _,_,.no w=>by simp [Weak.length w]
theorem RepS.weak {K:PySem.W.Frag} {H0 G₀ G H:Hp} {σ:St} {ρ ρ':List Ent} (R:RepS K H0 G₀ G H σ ρ) (w:Weak ρ ρ'):RepS K H0 G₀ G H σ ρ':=by
 refine ⟨R.grow,R.len.trans w.length,fun i o e h1 h2=>?_,R.inj.sub fun i e h1 h2=>?_,R.tab⟩
 ·rcases w.at h2 with z | z
  ·subst z;trivial
  ·exact R.ent i o e h1 z
 ·rcases w.at h1 with z | z
  ·subst z;cases h2
  ·exact ⟨z,rfl⟩
section
variable {X:Cx} {st:Stmt} {rest:List Stmt} {ρ ρ1 ρ2:List Ent} {o:Out} {e c:Expr} {d:PyData} {ds:List PyData} {pos:Pos}
end
def bL (cap:List (Option Nat)) (ρ:List Ent):List Ent:=cap.map fun o=>match o with
 | some j=>(match ρ[j]? with | some (.val d)=>.val d | _=>.no)
 | none=>.no
theorem capE_free (cap:List (Option Nat)) (ρ:List Ent):∀ (i:Nat) (e:Ent),(bL cap ρ)[i]?=some e→isOwn e=false:=fun i e h=>by
 unfold bL at h
 rw [List.getElem?_map] at h
 cases hc:cap[i]? with
 | none=>rw [hc] at h;cases h
 | some c=>
  rw [hc] at h
  cases c with
  | none=>cases h;rfl
  | some j=>
   have h2:(match ρ[j]? with | some (Ent.val d)=>Ent.val d | _=>Ent.no)=e:=Option.some.inj h
   cases hr:ρ[j]? with
   | none=>rw [hr] at h2;subst h2;rfl
   | some q=>rw [hr] at h2;cases q<;>(subst h2;rfl)
theorem RepS.cap {K:PySem.W.Frag} {H0 G₀ G H:Hp} {σ:St} {ρ:List Ent} (R:RepS K H0 G₀ G H σ ρ) (cap:List (Option Nat)):RepS K H G G H (kD cap σ) (bL cap ρ):=by
 refine ⟨.refl R.sub,by simp [kD,bL],fun i o e h1 h2=>?_,Inj.free (capE_free cap ρ),R.tab⟩
 ·unfold kD at h1
  unfold bL at h2
  rw [List.getElem?_map] at h1 h2
  cases hc:cap[i]? with
  | none=>rw [hc] at h1;cases h1
  | some c=>
   rw [hc] at h1 h2
   cases c with
   | none=>cases h2;trivial
   | some j=>
    have h1:(σ[j]?).getD none=o:=Option.some.inj h1
    have h2:(match ρ[j]? with | some (Ent.val d)=>Ent.val d | _=>Ent.no)=e:=Option.some.inj h2
    cases hr:ρ[j]? with
    | none=>rw [hr] at h2;subst h2;trivial
    | some q=>
     rw [hr] at h2
     cases q with
     | no=>subst h2;trivial
     | lst ds=>subst h2;trivial
     | exc c=>subst h2;trivial
     | nst dss=>subst h2;trivial
     | dct kvs=>subst h2;trivial
     | val d=>
      subst h2
      obtain ⟨v,e,r⟩:=R.val hr
      rw [e] at h1
      subst h1
      exact ⟨v,rfl,r⟩
section
variable {X:Cx} {elt iter tg:Expr} {ifs:List Expr} {scope:Scope} {pos spos:Pos} {N':List Str} {cap:List (Option Nat)} {ρ ρb:List Ent} {α:Type} {xs:List α} {φ f:α→PyData} {cnd:α→Bool} {ρx:α→List Ent}
structure PTsD (X:Cx) (ifs:List Expr) (ρ:List Ent) (b:Bool):Prop where
 run:PTs X ifs (tTD X ρ b)
theorem ptsd_nil:PTsD X [] ρ true:=⟨fun pins s σ H Q I ⟨H0,G₀,G,R,q⟩=>pts_nil pins s σ H Q I (q G H (.refl R.sub))⟩
theorem ptsd_one {c:Expr} {t:Bool} (h:PTD X c ρ t):PTsD X [c] ρ t:=⟨pts_one h.pt⟩
def gU (K:PySem.W.Frag) (xs:List α) (φ:α→PyData) (ρb:List Ent) (ρx:α→List Ent):TG:=fun v σ H Q=>∃ x∈xs,tGD K ρb (φ x) (ρx x) v σ H Q
def tU (K:PySem.W.Frag) (xs:List α) (ρx:α→List Ent) (cnd:α→Bool):TT:=fun σ H Q=>∃ x∈xs,∃ H0 G₀ G,RepS K H0 G₀ G H σ (ρx x)∧∀ G' H',Grow G H G' H'→Q (cnd x) H'
def eU (K:PySem.W.Frag) (xs:List α) (ρx:α→List Ent) (cnd:α→Bool) (f:α→PyData):TE:=fun σ H Q=>∃ x∈xs,cnd x=true∧∃ H0 G₀ G,RepS K H0 G₀ G H σ (ρx x)∧∀ v G' H',Grow G H G' H'→Rep K G' v (f x)→Q v H'
theorem jV {K:PySem.W.Frag} {J:It} {H0 G₀ G H:Hp} {σ:St} {Q:VK} (R:RepS K H0 G₀ G H σ ρ) (wk:Walk K J G (xs.map φ)) (hb:Weak (bL cap ρ) ρb) (hw:∀ x∈xs,Weak (ρx x) ρb) (hz:xs.length≤sizeLine)
  (q:∀ D ys G' H',Grow G H G' H'→G' D=some (.lst ys)→H D=none→RepAll K G' ys ((xs.filter cnd).map f)→Q (.ref D) H'):TComp J (gU K xs φ ρb ρx) (tU K xs ρx cnd) (eU K xs ρx cnd f) (kD cap σ) H Q:=by
 refine ⟨fun D i m ys σ' H'=>m=xs.length - i∧i≤xs.length∧∃ G',RepS K H G G' H' σ' ρb∧G' D=none∧RepAll K G' ys (((xs.take i).filter cnd).map f),fun D hD=>⟨⟨xs.length,by simp,Nat.zero_le _,G,?_,R.sub.free hD,by simpa using RepAll.nil⟩,?_⟩⟩
 ·exact ((R.cap cap).more (.side R.sub hD)).weak hb
 ·rintro i m ys σ1 H1 ⟨rfl,hi,G1,R1,hG1,ra⟩ hD1
  obtain ⟨wgo,wstop⟩:=wk i G1 H1 R1.grow.gg R1.sub
  by_cases hlt:i<xs.length
  ·have hx:xs[i]?=some xs[i]:=List.getElem?_eq_getElem hlt
   have hm:xs[i]∈xs:=List.getElem_mem hlt
   obtain ⟨go,yl⟩:=wgo (φ xs[i]) (by rw [List.getElem?_map,hx];rfl)
   have tk:(xs.take (i+1)).filter cnd=(xs.take i).filter cnd++(if cnd xs[i]=true then [xs[i]] else []):=by
    rw [List.take_succ,hx,List.filter_append]
    cases hcx:cnd xs[i]<;>simp [hcx]
   refine .inr ⟨go,fun x H2 y=>?_⟩
   obtain ⟨G2,g2,rx⟩:=yl x H2 y
   refine ⟨xs[i],hm,H,G,G2,R1.more g2,rx,fun σ3 R3=>⟨xs[i],hm,H,G,G2,R3,fun G4 H4 g4=>?_⟩⟩
   have g14:=g2.trans g4
   have hD4:H4 D=some (.lst ys):=g14.hh.lst hD1
   have hG4:G4 D=none:=g14.new D hG1 (by rw [hD1];simp)
   dsimp only
   by_cases hcx:cnd xs[i]=true
   ·rw [if_pos hcx]
    refine ⟨xs[i],hm,hcx,H,G,G4,R3.more g4,fun v G5 H5 g5 rv=>?_⟩
    have hD5:H5 D=some (.lst ys):=g5.hh.lst hD4
    have hG5:G5 D=none:=g5.new D hG4 (by rw [hD4];simp)
    have hlen:ys.length<sizeLine:=by
     have h1:=ra.length
     have h2:(((xs.take i).filter cnd).map f).length≤i:=by
      rw [List.length_map]
      exact Nat.le_trans (List.length_filter_le _ _) (by rw [List.length_take];omega)
     omega
    refine ⟨hD5,hlen,xs.length - (i+1),by omega,rfl,hlt,G5,?_,hG5,?_⟩
    ·have R5:RepS K H G G5 H5 σ3 ρb:=((R3.more g4).more g5).weak (hw _ hm)
     -- the list at D has one item more;nothing else speaks of D
     have noOwn:∀ (j:Nat) (e:Ent),ρb[j]?=some e→isOwn e=false:=fun j e h2=>by
      rcases hb.at h2 with z' | z'
      ·rw [z'];rfl
      ·exact capE_free cap ρ j e z'
     have hHD:H D=none:=hD
     refine ⟨⟨R5.grow.gg,R5.grow.hh.wr hHD hD5,fun b o e=>?_,R5.grow.new,R5.grow.nt⟩,R5.len,fun j o e h1 h2=>?_,Inj.free (fun j e h2=>noOwn j e h2),R5.tab.wr hD5⟩
     ·rw [aE (aN e hG5)];exact R5.sub b o e
     ·have E:=R5.ent j o e h1 h2
      cases e with
      | no=>trivial
      | val d=>exact E
      | exc c=>obtain ⟨b,C,z,g1,g2⟩:=E;exact ⟨b,C,z,g1,by rw [aE (dG g2 hD5 (by unfold xcO;nofun))];exact g2⟩
      | lst es=>have:=noOwn j _ h2;cases this
      | nst dss=>have:=noOwn j _ h2;cases this
      | dct kvs=>have:=noOwn j _ h2;cases this
    ·rw [tk,if_pos hcx,List.map_append]
     exact (ra.mono ((g14.trans g5).gg)).append (.cons rv .nil)
   ·rw [if_neg hcx]
    refine ⟨hD4,xs.length - (i+1),by omega,rfl,hlt,G4,(R3.more g4).weak (hw _ hm),hG4,?_⟩
    rw [tk,if_neg hcx,List.append_nil]
    exact ra.mono g14.gg
  ·refine .inl ⟨wstop (by rw [List.length_map];omega),?_⟩
   have hi':i=xs.length:=by omega
   subst hi'
   rw [List.take_length] at ra
   have sD:aX G1 (upd G1 D (.lst ys)):=bJ hG1
   refine q D ys (upd G1 D (.lst ys)) H1 ⟨R1.grow.gg.trans sD,R1.grow.hh,fun b o e=>?_,fun b e n=>?_,fun n=>(R1.grow.nt n).upd (by nofun)⟩ aG hD (ra.mono sD)
   ·by_cases hbD:b=D
    ·subst hbD;rw [aG] at e;cases e;exact hD1
    ·rw [aE hbD] at e;exact R1.sub b o e
   ·rw [aE (fun z=>n (by rw [z];exact hD))]
    exact R1.grow.new b e n
theorem tcomp_of {K:PySem.W.Frag} {J:It} {H0 G₀ G H:Hp} {σ:St} {Q:VK} (R:RepS K H0 G₀ G H σ ρ) (wk:Walk K J G (xs.map φ)) (hb:Weak (bL cap ρ) ρb) (hw:∀ x∈xs,Weak (ρx x) ρb) (hz:xs.length≤sizeLine)
  (q:∀ v G' H',Grow G H G' H'→Rep K G' v (.list ((xs.filter cnd).map f))→Q v H'):TComp J (gU K xs φ ρb ρx) (tU K xs ρx cnd) (eU K xs ρx cnd f) (kD cap σ) H Q:=
 jV R wk hb hw hz fun D ys G' H' g h _ ra=>q _ G' H' g (.list (.of h) ra)
theorem pd_comp (hc:X.calm=true) (B:Blk X scope N' cap) (hi:PID X tg iter ρ (xs.map φ)) (hb:Weak (bL cap ρ) ρb) (hw:∀ x∈xs,Weak (ρx x) ρb) (hz:xs.length≤sizeLine)
  (hg:∀ C s₃ H₃ fp x,x∈xs→PGD (bO X scope N' C s₃ H₃ fp) tg ρb (φ x) (ρx x))
  (ht:∀ C s₃ H₃ fp x,x∈xs→PTsD (bO X scope N' C s₃ H₃ fp) ifs (ρx x) (cnd x))
  (he:∀ C s₃ H₃ fp x,x∈xs→cnd x=true→PD (bO X scope N' C s₃ H₃ fp) elt (ρx x) (f x))
  (hs:∀ x,foldedSetIterable iter X.env x=pure x:=by intro _;rfl):PD X (.ListComp elt [⟨tg,iter,ifs,0⟩] scope pos) ρ (.list ((xs.filter cnd).map f)):=
 .of (pe_comp (g:=gU X.K xs φ ρb ρx) (tc:=tU X.K xs ρx cnd) (te:=eU X.K xs ρx cnd f) hc B hi.run (fun C s₃ H₃ fp pins s σ H v u Q I r ⟨x,hx,q⟩=>(hg C s₃ H₃ fp x hx).run pins s σ H v u Q I r q)
  (fun C s₃ H₃ fp pins s σ H Q I ⟨x,hx,q⟩=>(ht C s₃ H₃ fp x hx).run pins s σ H Q I q) (fun C s₃ H₃ fp pins s σ H Q I ⟨x,hx,hcx,H0,G₀,G,R,q⟩=>(he C s₃ H₃ fp x hx hcx).run H0 G₀ G pins s σ H Q I R q) hs)
  fun H0 G₀ G σ H Q R q=>⟨H0,G₀,G,R,fun J G' H' g wk=>tcomp_of (R.more g) wk hb hw hz fun v G2 H2 g2 r2=>q v G2 H2 (g.trans g2) r2⟩
end
def gJ (N:List Str) (ds:List PyData):List Ent:=ds.map .val++List.replicate (N.length - ds.length) .no
theorem eR {K:PySem.W.Frag} {G H:Hp} {N:List Str} {vs:List V} {ds:List PyData} (s:aX G H∧lA K G H) (r:RepAll K G vs ds):RepS K H G G H (start N vs) (gJ N ds):=by
 have hl:=r.length
 refine ⟨.refl s.1,by simp [start,gJ,hl],fun i o e h1 h2=>?_,Inj.free (fun i e h2=>?_),s.2⟩
 ·unfold gJ at h2
  unfold start at h1
  by_cases hi:i<ds.length
  ·rw [List.getElem?_append_left (by simpa using hi),List.getElem?_map] at h2
   rw [List.getElem?_append_left (by simp;omega),List.getElem?_map] at h1
   rw [List.getElem?_eq_getElem hi] at h2
   obtain ⟨v,ev,rv⟩:=r.get (List.getElem?_eq_getElem hi)
   rw [ev] at h1
   cases h1;cases h2
   exact ⟨v,rfl,rv⟩
  ·rw [List.getElem?_append_right (by simpa using hi),List.getElem?_replicate] at h2
   split at h2
   ·cases h2;trivial
   ·cases h2
 ·unfold gJ at h2
  by_cases hi:i<ds.length
  ·rw [List.getElem?_append_left (by simpa using hi),List.getElem?_map,List.getElem?_eq_getElem hi] at h2
   cases h2;rfl
  ·rw [List.getElem?_append_right (by simpa using hi),List.getElem?_replicate] at h2
   split at h2
   ·cases h2;rfl
   ·cases h2
section
variable {P:Program} {w:World} {K:PySem.W.Frag} {mg:Str→Option Value} {base:Heap}
abbrev fcx (P:Program) (w:World) (K:PySem.W.Frag) (mg:Str→Option Value) (base:Heap) (N:List Str) (qual:Str) (scope:Scope) (f:Addr) (cd:Value) (A:Around) (outer:List Env) (s:Shared) (H:Hp) (E:XK):Cx:=(cxOf CX0 P w K mg base N qual scope f cd A outer s H E).nox
end
end L2.L3
namespace L2.L3
open PySem PySem.Spec PyProof.Rows
section
variable {prog:Program} {w:World} {A:Around} {E:Value→Shared→Prop} {s:Shared} {l:Addr} {us:List Value} {ns:List Int} {Q:Value→Shared→Prop}
theorem items_of (hi:IntsAre us ns):∃ xs:Array (Int×Tok),us.toArray=intItems xs∧ns=xs.toList.map (·.1):=by
 obtain ⟨xs,e⟩:=hi.allInts.items
 exact ⟨xs,e,by rw [←hi.numsOf,←nums_intItems,←e]⟩
theorem mx_ints (hh:A.handled=none) (hl:s.heap.IsList l us.toArray) (hi:IntsAre us ns) (hne:ns≠[])
  (h:∀ h' M t tk,(∀ b o,s.heap.get? b=some o→h'.get? b=some o)→M∈ns→(∀ a,a∈ns→a≤M)→Q (.int M t) { s with heap:=h',toks:=tk }) :
  wpAny (model prog w) A (call (.builtin "max") [.ref l]) Q E s:=by
 obtain ⟨xs,e,hns⟩:=items_of hi
 have hpos:0<xs.size:=by
  cases hx:ns with
  | nil=>exact absurd hx hne
  | cons a r=>
   have:ns.length=xs.size:=by rw [hns];simp
   rw [←this,hx];simp
 rw [e] at hl
 refine max_intList hh hl hpos fun v h' tk hv kp=>?_
 obtain ⟨t,rfl⟩:=intItems_at hv
 have best:=argBest_gt (numAt xs) (xs.size - 1)
 refine h h' _ t tk kp ?_ fun a ha=>?_
 ·rw [hns,numAt_eq]
  exact getD_mem (by rw [List.length_map,Array.length_toList];have:=best.1;omega)
 ·rw [hns] at ha
  obtain ⟨j,hj,rfl⟩:=mem_getD ha
  rw [List.length_map,Array.length_toList] at hj
  rw [←numAt_eq]
  exact best.2 j (by omega)
theorem mn_ints (hh:A.handled=none) (hl:s.heap.IsList l us.toArray) (hi:IntsAre us ns) (hne:ns≠[])
  (h:∀ h' M t tk,(∀ b o,s.heap.get? b=some o→h'.get? b=some o)→M∈ns→(∀ a,a∈ns→M≤a)→Q (.int M t) { s with heap:=h',toks:=tk }) :
  wpAny (model prog w) A (call (.builtin "min") [.ref l]) Q E s:=by
 obtain ⟨xs,e,hns⟩:=items_of hi
 have hpos:0<xs.size:=by
  cases hx:ns with
  | nil=>exact absurd hx hne
  | cons a r=>
   have:ns.length=xs.size:=by rw [hns];simp
   rw [←this,hx];simp
 rw [e] at hl
 refine min_intList hh hl hpos fun v h' tk hv kp=>?_
 obtain ⟨t,rfl⟩:=intItems_at hv
 have best:=argBest_lt (numAt xs) (xs.size - 1)
 refine h h' _ t tk kp ?_ fun a ha=>?_
 ·rw [hns,numAt_eq]
  exact getD_mem (by rw [List.length_map,Array.length_toList];have:=best.1;omega)
 ·rw [hns] at ha
  obtain ⟨j,hj,rfl⟩:=mem_getD ha
  rw [List.length_map,Array.length_toList] at hj
  rw [←numAt_eq]
  exact best.2 j (by omega)
end
section
variable {X:Cx}
theorem call_maxL (hc:X.calm=true):eB X (.builtin "max") (fun xs H Q=>∃ p ns,xs=[.ref p]∧SqL X.K H p (ns.map V.int)∧ns≠[]∧∀ M,M∈ns→(∀ a,a∈ns→a≤M)→Q (.int M) H):=by
 intro pins s σ H xs us Q I r ⟨p,ns,e,hq,hne,q⟩
 subst e
 obtain ⟨u,rfl,rx⟩:=vals1 r
 cases rx
 obtain ⟨its,rv,pl,hz⟩:=I.list hq
 exact mx_ints (I.ok.hd hc) pl.isList (intsAre_of rv) hne fun h' M t tk kp m1 m2=>⟨.int M,H,I.kept kp,⟨t,rfl⟩,q M m1 m2⟩
theorem call_minL (hc:X.calm=true):eB X (.builtin "min") (fun xs H Q=>∃ p ns,xs=[.ref p]∧SqL X.K H p (ns.map V.int)∧ns≠[]∧∀ M,M∈ns→(∀ a,a∈ns→M≤a)→Q (.int M) H):=by
 intro pins s σ H xs us Q I r ⟨p,ns,e,hq,hne,q⟩
 subst e
 obtain ⟨u,rfl,rx⟩:=vals1 r
 cases rx
 obtain ⟨its,rv,pl,hz⟩:=I.list hq
 exact mn_ints (I.ok.hd hc) pl.isList (intsAre_of rv) hne fun h' M t tk kp m1 m2=>⟨.int M,H,I.kept kp,⟨t,rfl⟩,q M m1 m2⟩
variable {e a b c:Expr} {es:List Expr} {ρ:List Ent} {d:PyData} {ds:List PyData} {pos p:Pos}
def maxI:List Int→Int
 | []=>0
 | a::r=>r.foldl max a
def minI:List Int→Int
 | []=>0
 | a::r=>r.foldl min a
theorem iA:∀ (r:List Int) (a:Int),a≤r.foldl max a∧∀ b∈r,b≤r.foldl max a
 | [],a=>⟨Int.le_refl _,fun _ h=>by cases h⟩
 | x::r,a=>by
  have ih:=iA r (max a x)
  rw [List.foldl_cons]
  refine ⟨by have:=ih.1;omega,fun b hb=>?_⟩
  rcases List.mem_cons.mp hb with rfl | hb
  ·have:=ih.1;omega
  ·exact ih.2 b hb
theorem jP:∀ (r:List Int) (a:Int),r.foldl max a=a∨r.foldl max a∈r
 | [],a=>.inl rfl
 | x::r,a=>by
  rw [List.foldl_cons]
  rcases jP r (max a x) with h | h
  ·by_cases hx:a≤x
   ·right;rw [h];simp [Int.max_def,hx]
   ·left;rw [h];simp [Int.max_def,hx]
  ·exact .inr (List.mem_cons_of_mem _ h)
theorem maxI_eq {ns:List Int} {M:Int} (h1:M∈ns) (h2:∀ a,a∈ns→a≤M):M=maxI ns:=by
 cases ns with
 | nil=>cases h1
 | cons a r=>
  show M=r.foldl max a
  have g:=iA r a
  have m:=jP r a
  apply Int.le_antisymm
  ·rcases List.mem_cons.mp h1 with rfl | h1
   ·exact g.1
   ·exact g.2 M h1
  ·rcases m with m | m
   ·rw [m];exact h2 a List.mem_cons_self
   ·exact h2 _ (List.mem_cons_of_mem _ m)
theorem foldl_min_le:∀ (r:List Int) (a:Int),r.foldl min a≤a∧∀ b∈r,r.foldl min a≤b
 | [],a=>⟨Int.le_refl _,fun _ h=>by cases h⟩
 | x::r,a=>by
  have ih:=foldl_min_le r (min a x)
  rw [List.foldl_cons]
  refine ⟨by have:=ih.1;omega,fun b hb=>?_⟩
  rcases List.mem_cons.mp hb with rfl | hb
  ·have:=ih.1;omega
  ·exact ih.2 b hb
theorem nE:∀ (r:List Int) (a:Int),r.foldl min a=a∨r.foldl min a∈r
 | [],a=>.inl rfl
 | x::r,a=>by
  rw [List.foldl_cons]
  rcases nE r (min a x) with h | h
  ·by_cases hx:a≤x
   ·left;rw [h];simp [Int.min_def,hx]
   ·right;rw [h];simp [Int.min_def,hx]
  ·exact .inr (List.mem_cons_of_mem _ h)
theorem minI_eq {ns:List Int} {M:Int} (h1:M∈ns) (h2:∀ a,a∈ns→M≤a):M=minI ns:=by
 cases ns with
 | nil=>cases h1
 | cons a r=>
  show M=r.foldl min a
  have g:=foldl_min_le r a
  have m:=nE r a
  apply Int.le_antisymm
  ·rcases m with m | m
   ·rw [m];exact h2 a List.mem_cons_self
   ·exact h2 _ (List.mem_cons_of_mem _ m)
  ·rcases List.mem_cons.mp h1 with rfl | h1
   ·exact g.1
   ·exact g.2 M h1
theorem maxI_mem {ns:List Int} (h:ns≠[]):maxI ns∈ns:=by
 cases ns with
 | nil=>exact absurd rfl h
 | cons a r=>
  rcases jP r a with m | m
  ·show r.foldl max a∈_;rw [m];exact List.mem_cons_self
  ·exact List.mem_cons_of_mem _ m
theorem maxI_ge {ns:List Int} {a:Int} (h:a∈ns):a≤maxI ns:=by
 cases ns with
 | nil=>cases h
 | cons b r=>
  rcases List.mem_cons.mp h with rfl | h
  ·exact (iA r a).1
  ·exact (iA r b).2 a h
def rCatS (K:PySem.W.Frag):R2:=fun x y H Q=>∃ l b xs zs,x=.ref l∧y=.ref b∧SqL K H l xs∧SqL K H b zs∧xs.length+zs.length≤sizeLine∧∀ p,H p=none→Q (.ref p) (upd H p (.lst (xs++zs)))
end
end L2.L3
namespace L2.L3
open PySem PySem.Spec PyProof.Rows
def blkOk (so:Scope) (NN:List Str) (scope:Scope) (N':List Str) (cap:List (Option Nat)):Bool:=
 decide (scope.kind=.function)&&scope.names.all (fun y=>decide (y.2=.cell→scope.names.lookup y.1=some .cell))&&scope.names.all (fun y=>decide (y.2=.local→scope.names.lookup y.1=some .local))
  && scope.names.all (fun y=>decide (y.2=.free→so.names.lookup y.1=some .cell))
  && (List.range cap.length).all (fun i=>match cap[i]? with
   | some (some j)=>(match N'[i]?,NN[j]? with | some x,some y=>decide (x=y∧scope.names.lookup x=some .free) | _,_=>false)
   | _=>true)
  && decide (cap.length=N'.length)&&decide N'.Nodup
theorem cF {X:Cx} {scope so:Scope} {N' NN:List Str} {cap:List (Option Nat)} (hs:X.env.scope=so) (hN:X.N=NN) (h:blkOk so NN scope N' cap=true):Blk X scope N' cap:=by
 unfold blkOk at h
 simp only [Bool.and_eq_true,decide_eq_true_eq,List.all_eq_true] at h
 obtain ⟨⟨⟨⟨⟨⟨h1,h2⟩,h3⟩,h4⟩,h5⟩,h6⟩,h7⟩:=h
 refine ⟨h1,h2,h3,fun y hy hk=>?_,fun i j hij=>?_,h6,h7⟩
 ·show X.env.scope.names.lookup y.1=some .cell
  rw [hs]
  exact h4 y hy hk
 ·have hi:i<cap.length:=(List.getElem?_eq_some_iff.mp hij).1
  have q:=h5 i (List.mem_range.mpr hi)
  rw [hij] at q
  dsimp only at q
  cases e1:N'[i]? with
  | none=>rw [e1] at q;cases q
  | some x=>
   rw [e1] at q
   cases e2:NN[j]? with
   | none=>rw [e2] at q;cases q
   | some y=>
    rw [e2] at q
    have q':x=y∧scope.names.lookup x=some .free:=of_decide_eq_true q
    exact ⟨x,rfl,by rw [hN,e2,q'.1],q'.2⟩
section
variable {X:Cx} {e a b c:Expr} {es:List Expr} {ρ:List Ent} {d da db dc:PyData} {ds:List PyData} {pos p:Pos}
end
abbrev Mt:=Str×Int×Int
abbrev dM (m:Mt):PyData:=.tuple [.str m.1,.int m.2.1,.int m.2.2]
abbrev dS (s:List Mt):PyData:=.tuple (s.map dM)
end L2.L3
namespace L2.L3
open PySem PySem.Spec PyProof.Rows
section
variable {prog:Program} {w:World} {A:Around} {R:Result→Shared→Prop} {I S:Addr} {fp wr:List Addr} {n:Nat} {P:Nat→Value→Prop} {St:Nat→Heap→Prop} {kw:List (Str×Value)}
abbrev bestObj (its:Array Value) (c:Nat):Obj:={ cls:=.type "list", dict:=none,data:=.seq its c,slots:=#[] }
theorem mxk_more (W:Walks prog w A.in1 I fp wr n P St) (bt:Nat→Nat→Bool) (hc:CmpOf prog w A.in1 .Gt P bt) (hS:S∉fp) :
  ∀ (k j:Nat) (s:Shared) (vb:Value) (c:Nat),n=j+1+k→St (j+1) s.heap→P (argBest bt j) vb→s.heap.get? S=some (bestObj #[vb,vb] c) →
   (∀ v h' tk,P (argBest bt (n - 1)) v→(∀ b o,b∉wr→b≠S→s.heap.get? b=some o→h'.get? b=some o)→R (.ok (.ret v)) { s with heap:=h',toks:=tk }) →
   codeAny (model prog w) A (.builtin "max.loop" ⟨[.ref I,.none,.ref S],kw⟩) R s:=by
 have nS:S∉wr:=fun z=>hS (W.sub _ z)
 have nm:(toString "max" ++ toString ".loop" : String) = "max.loop":=by decide
 intro k
 induction k with
 | zero=>
  intro j s vb c en st pb eS fin
  have en':j+1=n:=by omega
  apply codeAny_builtin F.entry_max_loop
  rw [Around.under_plainId F.plain_max_loop _]
  show wpAny _ A.in1 (seqItems? (.ref S)>>=_) _ _ s
  apply wpAny_bind;apply wpAny_seqItems eS rfl
  show wpAny _ A.in1 (tryCatch (pyNext (.ref I)) _>>=_) _ _ s
  apply wpAny_bind;apply wpAny_tryCatch
  refine W.done s _ _ (en'▸st) fun h' tk kp=>?_
  have eS':=kp S _ nS eS
  show wpAny _ A.in1 (updateSeq S (fun _=>#[])>>=_) _ _ _
  apply wpAny_bind
  refine wpAny_updateSeq eS' rfl (wpAny_bind (wpAny_letGo (wpAny_pure ?_)))
  exact fin vb _ tk (by rw [←en'];exact pb) fun b o hb hbS e=>(Heap.get?_update_other _ _ (Ne.symm hbS)).trans (kp b o hb e)
 | succ k ih=>
  intro j s vb c en st pb eS fin
  have jn:j+1<n:=by omega
  apply codeAny_builtin F.entry_max_loop
  rw [Around.under_plainId F.plain_max_loop _]
  show wpAny _ A.in1 (seqItems? (.ref S)>>=_) _ _ s
  apply wpAny_bind;apply wpAny_seqItems eS rfl
  show wpAny _ A.in1 (tryCatch (pyNext (.ref I)) _>>=_) _ _ s
  apply wpAny_bind;apply wpAny_tryCatch
  refine W.item (j+1) s _ _ jn st fun v h' tk pv st' kp=>?_
  have eS':=kp S _ nS eS
  show wpAny _ A.in1 (tryCatch (holding [v,v] (richCompare .Gt v vb>>=_)) _>>=_) _ _ _
  apply wpAny_bind;apply wpAny_tryCatch;apply wpAny_holding;apply wpAny_bind
  refine hc (j+1) (argBest bt j) v vb _ _ _ pv pb ?_
  apply wpAny_bind;apply wpAny_holding;apply wpAny_truthy_bool
  refine wpAny_bind (wpAny_letGo (wpAny_pure ?_))
  cases hb:bt (j+1) (argBest bt j) with
  | true=>
   simp only [if_true]
   apply wpAny_bind
   refine wpAny_updateSeq eS' rfl (wpAny_bind (wpAny_letGo ?_))
   rw [nm]
   refine wpAny_pure ⟨plainId_quiet F.plain_max_loop _,ih (j+1) _ v _ (by omega) (W.frame _ _ _ st' fun b hbf o e=>(Heap.get?_update_other _ _ (fun z:S=b=>hS (by rw [z];exact hbf))).trans e)
    (by simp only [argBest,hb,if_true];exact pv) (Heap.get?_update_self _ eS' rfl) fun v' h'' tk'' pv' kp'=>?_⟩
   exact fin v' h'' tk'' pv' fun b o hbw hbS e=>kp' b o hbw hbS ((Heap.get?_update_other _ _ (Ne.symm hbS)).trans (kp b o hbw e))
  | false=>
   simp only [Bool.false_eq_true,if_false]
   apply wpAny_bind;apply wpAny_letGo
   rw [nm]
   refine wpAny_pure ⟨plainId_quiet F.plain_max_loop _,ih (j+1) _ vb c (by omega) st' (by simp only [argBest,hb,Bool.false_eq_true,if_false];exact pb) eS' fun v' h'' tk'' pv' kp'=>?_⟩
   exact fin v' h'' tk'' pv' fun b o hbw hbS e=>kp' b o hbw hbS (kp b o hbw e)
theorem mxk_first (W:Walks prog w A.in1 I fp wr n P St) (bt:Nat→Nat→Bool) (hc:CmpOf prog w A.in1 .Gt P bt) (hS:S∉fp) (dv:Value) (dn:Str) {s:Shared} {c:Nat} (st:St 0 s.heap) (eS:s.heap.get? S=some (bestObj #[] c))
  (fin:∀ v h' tk,(∀ b o,b∉wr→b≠S→s.heap.get? b=some o→h'.get? b=some o)→(0<n→P (argBest bt (n - 1)) v)→(n=0→v=dv)→R (.ok (.ret v)) { s with heap:=h',toks:=tk }) :
  codeAny (model prog w) A (.builtin "max.loop" ⟨[.ref I,.none,.ref S],[(dn,dv)]⟩) R s:=by
 have nS:S∉wr:=fun z=>hS (W.sub _ z)
 have nm:(toString "max" ++ toString ".loop" : String) = "max.loop":=by decide
 apply codeAny_builtin F.entry_max_loop
 rw [Around.under_plainId F.plain_max_loop _]
 show wpAny _ A.in1 (seqItems? (.ref S)>>=_) _ _ s
 apply wpAny_bind;apply wpAny_seqItems eS rfl
 show wpAny _ A.in1 (tryCatch (pyNext (.ref I)) _>>=_) _ _ s
 apply wpAny_bind;apply wpAny_tryCatch
 by_cases hn:n=0
 ·refine W.done s _ _ (by rw [hn];exact st) fun h' tk kp=>?_
  show wpAny _ A.in1 (rule _>>=_) _ _ _
  exact wpAny_bind (wpAny_rule (wpAny_pure (fin dv h' tk (fun b o hb _ e=>kp b o hb e) (fun z=>by omega) fun _=>rfl)))
 ·refine W.item 0 s _ _ (by omega) st fun v h' tk pv st' kp=>?_
  have eS':=kp S _ nS eS
  show wpAny _ A.in1 (updateSeq S (fun _=>#[v,v])>>=_) _ _ _
  apply wpAny_bind
  refine wpAny_updateSeq eS' rfl ?_
  rw [nm]
  refine wpAny_pure ⟨plainId_quiet F.plain_max_loop _,mxk_more W bt hc hS (n - 1) 0 _ v _ (by omega) (W.frame _ _ _ st' fun b hbf o e=>(Heap.get?_update_other _ _ (fun z:S=b=>hS (by rw [z];exact hbf))).trans e) pv
   (Heap.get?_update_self _ eS' rfl) fun v' h'' tk'' pv' kp'=>?_⟩
  exact fin v' h'' tk'' (fun b o hbw hbS e=>kp' b o hbw hbS ((Heap.get?_update_other _ _ (Ne.symm hbS)).trans (kp b o hbw e))) (fun _=>pv') fun z=>absurd z hn
end
end L2.L3
namespace L2.L3
open PySem PySem.Spec PyProof.Rows
section
variable {prog:Program} {w:World} {A:Around} {E:Value→Shared→Prop} {s:Shared} {l:Addr} {us:List Value} {ns:List Int} {Q:Value→Shared→Prop}
theorem args_maxd (a v:Value):argsOk "max" ⟨[a],[(Str.ofString "default", v)]⟩:=by unfold argsOk;kernel_rfl
theorem bind_maxd (dv:Value):Builtin.Builtins.bindParams "max" ["key", "default"] 0 ⟨[],[(Str.ofString "default", dv)]⟩=pure [none,some dv]:=by kernel_rfl
theorem mx_dflt (hh:A.handled=none) (hl:s.heap.IsList l us.toArray) (hi:IntsAre us ns) (dv:Value)
  (h:∀ h' v tk,(∀ b o,s.heap.get? b=some o→h'.get? b=some o)→(ns=[]→v=dv)→(ns≠[]→∃ t,v=.int (maxI ns) t)→Q v { s with heap:=h',toks:=tk }) :
  wpAny (model prog w) A (call (.builtin "max") [.ref l] [(Str.ofString "default", dv)]) Q E s:=by
 have nm:(toString "max" ++ toString ".loop" : String) = "max.loop":=by decide
 obtain ⟨xs,e,hns⟩:=items_of hi
 rw [e] at hl
 refine PyProof.Rows.kmk_tree F.kind_max F.plain_max F.entry_max (args_maxd _ _) ?_
 show wpAny _ A.in1 (Builtin.Builtins.bindParams "max" ["key", "default"] 0 ⟨[],[(Str.ofString "default", dv)]⟩>>=_) _ _ s
 refine wpAny_bind (wpAny_of_eq (bind_maxd dv) ?_)
 refine wpAny_bind (wpAny_pure ?_)
 refine wpAny_bind (iter_intList hl fun s₂ e2 st hfp hlI=>?_)
 subst e2
 refine wpAny_bind (wpAny_newObj_type ?_)
 rw [nm]
 have W:=Walks.list (prog:=prog) (w:=w) (A:=A.in1) hh s.heap.objs.size l hlI (intItems xs)
 refine wpAny_pure ⟨plainId_quiet F.plain_max_loop _,mxk_first W _ (CmpOf.ints_gt (numAt xs) (fun _ _=>intItems_at)) (fun hm=>Nat.lt_irrefl _ (hfp _ hm)) dv _ (W.frame _ _ _ st fun b _ o e=>Heap.get?_push_of_some _ e) (Heap.get?_push_size _ rfl) fun v h' tk kp h1 h2=>?_⟩
 have sz:(intItems xs).size=xs.size:=by simp [intItems]
 have len:ns.length=xs.size:=by rw [hns];simp
 refine h h' v tk (fun b o e=>?_) (fun z=>h2 ?_) fun z=>?_
 ·have lt:=Heap.lt_size e
  refine kp b o ?_ ?_ (Heap.get?_push_of_some _ (Heap.get?_push_of_some _ e))
  ·intro hb
   have z:b=s.heap.objs.size:=by simpa using hb
   exact absurd lt (by rw [z];exact Nat.lt_irrefl _)
  ·intro hb
   rw [hb] at lt
   exact absurd lt (Nat.not_lt_of_le (by rw [Heap.size_push];exact Nat.le_succ _))
 ·rw [sz,←len,z];rfl
 ·have pos:0<xs.size:=by
   rw [←len]
   cases ns with
   | nil=>exact absurd rfl z
   | cons a r=>simp
  have pv:=h1 (by rw [sz];exact pos)
  obtain ⟨t,rfl⟩:=intItems_at pv
  refine ⟨t,?_⟩
  rw [sz]
  have best:=argBest_gt (numAt xs) (xs.size - 1)
  congr 1
  refine maxI_eq ?_ fun a ha=>?_
  ·rw [hns,numAt_eq]
   exact getD_mem (by rw [List.length_map,Array.length_toList];have:=best.1;omega)
  ·rw [hns] at ha
   obtain ⟨j,hj,rfl⟩:=mem_getD ha
   rw [List.length_map,Array.length_toList] at hj
   rw [←numAt_eq]
   exact best.2 j (by omega)
end
end L2.L3
namespace L2.L3
open PySem PySem.Spec PyProof.Rows
section
variable {X:Cx} {a b:Expr} {ρ:List Ent} {db:PyData} {pos p kp:Pos}
theorem pd_maxD {ns:List Int} (hc:X.calm=true) (hm:X.mg "max" = none) (ha:PD X a ρ (.list (ns.map .int))) (hb:PD X b ρ db) (he:starEach [a] X.env=(false,eval a X.env)::starEach [] X.env:=by rfl)
  (he':backTo pos (starEach [a] X.env)=(false,eval a X.env)::backTo pos (starEach [] X.env):=by rfl) (hpl:(backTo pos (starEach [a] X.env)).any (·.1)=false:=by rfl)
  (hk1:(backToKw pos (keywordEach [⟨some "default", b,kp⟩] X.env)).filterMap (·.1)=[Str.ofString "default"]:=by rfl) (hg:Gl X "max":=by rfl) :
  PD X (.Call (.Name "max" p) [a] [⟨some "default", b,kp⟩] pos) ρ (if ns=[] then db else .int (maxI ns)):=by
 refine ⟨?_⟩
 intro H0 G₀ G pins s σ H Q I R q
 refine wpAny_Call_Name_kw (gO I hg hm boot_max ?_ (by decide) (by decide))
 refine callWith_kw (thn ((lS ha pad_nil he).run H0 G₀ G pos pins s σ H (fun vs H'=>∃ G',Grow G H G' H'∧RepAll X.K G' vs [.list (ns.map .int)]) I R fun vs G' H' g r=>⟨G',g,r⟩) fun us s1 ⟨vs,H1,I1,r1,G1,g1,w1⟩=>?_) he' hpl
 refine thn (pk_cons (nm:=some "default") (kpos:=kp) hb.pe pk_nil pos pins s1 σ H1 (fun zs H'=>∃ G',Grow G1 H1 G' H'∧RepAll X.K G' zs [db]) I1 ⟨H0,G₀,G1,R.more g1,fun v G' H' g r=>⟨G',g,.cons r .nil⟩⟩) fun ws s2 ⟨zs,H2,I2,r2,G2,g2,w2⟩=>?_
 rw [hk1]
 cases w1 with
 | cons wa wn=>
  cases wn
  cases wa with
  | list hq ra=>
   have e:=ra.ints
   subst e
   obtain ⟨u,rfl,ru⟩:=vals1 r1
   cases ru
   cases w2 with
   | cons wb wn=>
    cases wn
    obtain ⟨dv,rfl,rd⟩:=vals1 r2
    obtain ⟨its,rv,pl,hz⟩:=I2.list ((g2.gg.trans g2.sub).seq hq)
    refine mx_dflt (I2.ok.hd hc) pl.isList (intsAre_of rv) dv fun h' v tk kp' h1 h2=>?_
    by_cases hn:ns=[]
    ·rw [h1 hn,if_pos hn] at *
     exact ⟨_,H2,I2.kept kp',rd,q _ G2 H2 (g1.trans g2) wb⟩
    ·obtain ⟨t,rfl⟩:=h2 hn
     rw [if_neg hn] at q
     exact ⟨.int _,H2,I2.kept kp',⟨t,rfl⟩,q _ G2 H2 (g1.trans g2) (.int _)⟩
end
end L2.L3
namespace L2.L3
open PySem PySem.Spec PyProof.Rows
section
variable {X:Cx}
theorem op_catS:OpR X (binaryOp .Add) (rCatS X.K):=by
 intro pins s σ H x y v u Q I rx ry ⟨l,b,xs,zs,e1,e2,h1,h2,hz,q⟩
 subst e1 e2
 cases rx
 cases ry
 obtain ⟨its,r1,p1,_⟩:=I.list h1
 obtain ⟨its2,r2,p2,_⟩:=I.list h2
 obtain ⟨⟨c1,d1,t1,sl1⟩,n1,g1,k1,_,m1⟩:=p1
 obtain ⟨⟨c2,d2,t2,sl2⟩,n2,g2,k2,_,m2⟩:=p2
 dsimp only at k1 m1 k2 m2
 subst k1 m1 k2 m2
 have hz':its.toArray.size+its2.toArray.size≤sizeLine:=by rw [List.size_toArray,List.size_toArray,←r1.length,←r2.length];exact hz
 refine concat_meets ⟨_,g1,rfl⟩ ⟨_,g2,rfl⟩ noFill_list_add seq_list_add F.slot_list_add F.entry_list_add (F.args_list_add_2 _ _) (list_addW l b _ _ n1 n2 d1 d2 sl1 sl2 hz') ⟨g1,g2,?_⟩
 have ea:its.toArray++its2.toArray=(its++its2).toArray:=by simp
 rw [ea]
 exact ⟨.ref _,_,I.lnew (t':=s.toks) (r1.append r2) (by rw [List.length_append];exact hz),rfl,q _ I.fresh⟩
def rCatU (K:PySem.W.Frag):R2:=fun x y H Q=>∃ l b xs zs,x=.ref l∧y=.ref b∧SqT K H l xs∧SqT K H b zs∧xs.length+zs.length≤sizeLine ∧
 (xs=[]→Q (.ref b) H)∧(xs≠[]→zs=[]→Q (.ref l) H)∧(xs≠[]→zs≠[]→∀ p,H p=none→Q (.ref p) (upd H p (.tup (xs++zs))))
theorem op_catU:OpR X (binaryOp .Add) (rCatU X.K):=by
 intro pins s σ H x y v u Q I rx ry ⟨l,b,xs,zs,e1,e2,h1,h2,hz,q0,q1,q2⟩
 by_cases hx:xs=[]
 ·subst e1 e2
  cases rx
  cases ry
  obtain ⟨its,r1,p1,_⟩:=I.tuple h1
  obtain ⟨its2,r2,p2,_⟩:=I.tuple h2
  obtain ⟨⟨c1,d1,t1,sl1⟩,g1,k1,n1,m1⟩:=p1
  obtain ⟨⟨c2,d2,t2,sl2⟩,g2,k2,n2,m2⟩:=p2
  dsimp only at k1 m1 k2 m2
  subst k1 m1 k2 m2
  have hi:its=[]:=by
   subst hx
   cases r1
   rfl
  refine concat_meets ⟨_,g1,rfl⟩ ⟨_,g2,rfl⟩ noFill_tuple_add seq_tuple_add F.slot_tuple_add F.entry_tuple_add (F.args_tuple_add_2 _ _) (tuple_addW0 l b _ _ n1 n2 d1 d2 sl1 sl2 (by rw [hi];rfl)) ⟨g1,g2,?_⟩
  exact ⟨.ref b,H,I,rfl,q0 hx⟩
 ·exact op_catT pins s σ H x y v u Q I rx ry ⟨l,b,xs,zs,e1,e2,h1,h2,hx,hz,q1 hx,q2 hx⟩
variable {e a b c o:Expr} {es:List Expr} {ρ:List Ent} {d da db dc:PyData} {ds:List PyData} {pos p:Pos}
theorem cmp_eqI {i j:Int}:CmpD X .Eq (.int i) (.int j) (decide (i=j)):=⟨_,op_eq,fun x y G H Q _ rx ry q=>by cases rx;cases ry;exact ⟨rfl,by simpa using q⟩⟩
theorem cmp_neI {i j:Int}:CmpD X .NotEq (.int i) (.int j) (!decide (i=j)):=⟨_,op_ne,fun x y G H Q _ rx ry q=>by cases rx;cases ry;exact ⟨rfl,by simpa using q⟩⟩
theorem cmp_eqS {i j:Str}:CmpD X .Eq (.str i) (.str j) (decide (i=j)):=⟨_,op_eq,fun x y G H Q _ rx ry q=>by cases rx;cases ry;exact ⟨rfl,by simpa using q⟩⟩
theorem cmp_neS {i j:Str}:CmpD X .NotEq (.str i) (.str j) (!decide (i=j)):=⟨_,op_ne,fun x y G H Q _ rx ry q=>by cases rx;cases ry;exact ⟨rfl,by simpa using q⟩⟩
theorem cmp_eqB {i j:Bool}:CmpD X .Eq (.bool i) (.bool j) (decide (i=j)):=⟨_,op_eq,fun x y G H Q _ rx ry q=>by cases rx;cases ry;exact ⟨rfl,by simpa using q⟩⟩
theorem cmp_neB {i j:Bool}:CmpD X .NotEq (.bool i) (.bool j) (!decide (i=j)):=⟨_,op_ne,fun x y G H Q _ rx ry q=>by cases rx;cases ry;exact ⟨rfl,by simpa using q⟩⟩
end
end L2.L3
namespace L2.L3
open PySem PySem.Spec PyProof.Rows
structure Callee (P:Program) (w:World) (K:PySem.W.Frag) (mg:Str→Option Value) (base:Heap) (x:Str) (k:Nat) (ps:List Str) (Fn:List PyData→PyData→Prop):Prop where
 ex:∃ f fd,mg x=some (.ref f)∧PySem.W.keepIn K (.ref f)=true∧Binds K fd ps []∧FnOk P w K mg base CX0 k f fd ps (spD K Fn)
structure Def (K:PySem.W.Frag) (mg:Str→Option Value) (x:Str) (st:Stmt):Prop where
 ex:∃ f fd,Fun K x x st f fd∧mg x=some (.ref f)
theorem def_mk {K:PySem.W.Frag} {h:Heap} {mg:Str→Option Value} {x:Str} {st:Stmt} {f:Addr} {oc:Value} {od an:Option Addr} {sl:Array (Option Value)} {kV doc pm cdv ct:Value} (X:K.In h) (G:h.Ns mainGlobals mg)
  (a:PySem.W.nsIn K mainGlobals x=some (some (.ref f))) (l:K.lookup f=some ⟨oc,od,.func (PySem.W.fnOf x x (gB st) (cG st) (aD st) .none kV doc pm an cdv ct),sl⟩) (c:PySem.W.codeIn K cdv x=true) (k:PySem.W.keepIn K (.ref f)=true) :
  Def K mg x st:=⟨f,_,fun_mk l c k,PySem.W.mg_of X G a⟩
section
variable {P:Program} {w:World} {K:PySem.W.Frag} {mg:Str→Option Value} {base:Heap} {X:Cx} {e:Expr} {es:List Expr} {ρ:List Ent} {d:PyData} {ds:List PyData} {pos p:Pos} {x:Str} {k:Nat} {ps N:List Str} {Fn:List PyData→PyData→Prop}
end
theorem eqv_list (a b:List PyData):PyData.eqv (.list a) (.list b)=PyData.eqvAll a b:=by rw [PyData.eqv]
theorem eqv_tuple (a b:List PyData):PyData.eqv (.tuple a) (.tuple b)=PyData.eqvAll a b:=by rw [PyData.eqv]
theorem eqvAll_ints:∀ a b:List Int,PyData.eqvAll (a.map .int) (b.map .int)=decide (a=b)
 | [],[]=>by simp [PyData.eqvAll]
 | [],_::_=>by simp [PyData.eqvAll]
 | _::_,[]=>by simp [PyData.eqvAll]
 | x::a,y::b=>by
  have ih:=eqvAll_ints a b
  simp only [List.map_cons,PyData.eqvAll,ih,PyData.eqv]
  by_cases h:x=y
  ·subst h;by_cases h2:a=b<;>simp [h2]
  ·simp [h]
theorem eqv_dM (a b:Mt):PyData.eqv (dM a) (dM b)=decide (a=b):=by
 obtain ⟨a1,a2,a3⟩:=a
 obtain ⟨b1,b2,b3⟩:=b
 simp only [dM,PyData.eqv,PyData.eqvAll]
 by_cases h1:a1=b1<;>by_cases h2:a2=b2<;>by_cases h3:a3=b3<;>simp [h1,h2,h3]
theorem eqvAll_dM:∀ a b:List Mt,PyData.eqvAll (a.map dM) (b.map dM)=decide (a=b)
 | [],[]=>by simp [PyData.eqvAll]
 | [],_::_=>by simp [PyData.eqvAll]
 | _::_,[]=>by simp [PyData.eqvAll]
 | x::a,y::b=>by
  have ih:=eqvAll_dM a b
  rw [List.map_cons,List.map_cons,PyData.eqvAll,ih,eqv_dM]
  by_cases h:x=y
  ·subst h;by_cases h2:a=b<;>simp [h2]
  ·simp [h]
theorem kY {ds:List PyData} (h:∀ d∈ds,PyData.canLay0 d=true):PyData.canLayAll0 ds=true:=by
 induction ds with
 | nil=>rfl
 | cons d r ih=>
  rw [PyData.canLayAll0,h d List.mem_cons_self,ih fun e he=>h e (List.mem_cons_of_mem _ he)]
  rfl
theorem jI {ds:List PyData} {n:Nat} (h:∀ d∈ds,PyData.depth d≤n):PyData.depthAll ds≤n:=by
 induction ds with
 | nil=>simp [PyData.depthAll]
 | cons d r ih=>
  have h1:=h d List.mem_cons_self
  have h2:=ih fun e he=>h e (List.mem_cons_of_mem _ he)
  simp only [PyData.depthAll]
  omega
theorem shaped_of {d:PyData} {n:Nat} (h1:PyData.canLay0 d=true) (h2:PyData.depth d≤n) (h3:n≤64):SeqAt.shaped d=true:=by
 unfold SeqAt.shaped
 rw [h1,Bool.true_and]
 exact decide_eq_true (Nat.le_trans h2 h3)
end L2.L3
namespace L2.L3
open PySem PySem.Spec PyProof.Rows
section
variable {X:Cx} {e a b c o:Expr} {es:List Expr} {ρ:List Ent} {d da db dc:PyData} {ds:List PyData} {pos p p2:Pos}
theorem inV_ints {ns:List Int} {i:Int}:inV (.int i) (ns.map V.int)=decide (i∈ns):=by
 unfold inV
 induction ns with
 | nil=>rfl
 | cons a r ih=>
  rw [List.map_cons,List.any_cons,ih]
  have e:eqV (.int a) (.int i)=decide (a=i):=rfl
  rw [e]
  by_cases h:a=i
  ·subst h;simp
  ·have h':¬i=a:=fun z=>h z.symm
   simp [h,h']
theorem inV_strs {ns:List Str} {i:Str}:inV (.str i) (ns.map V.str)=decide (i∈ns):=by
 unfold inV
 induction ns with
 | nil=>rfl
 | cons a r ih=>
  rw [List.map_cons,List.any_cons,ih]
  have e:eqV (.str a) (.str i)=(a==i):=rfl
  rw [e]
  by_cases h:a=i
  ·subst h;simp
  ·have h':¬i=a:=fun z=>h z.symm
   simp [h,h']
theorem flat_ints (ns:List Int):(ns.map V.int).all lF=true:=by simp [lF]
theorem flat_strs (ns:List Str):(ns.map V.str).all lF=true:=by simp [lF]
end
end L2.L3
namespace L2.L3
open PySem PySem.Spec PyProof.Rows
def tyD:PyData→String
 | .none => "NoneType"
 | .bool _ => "bool"
 | .int _ => "int"
 | .str _ => "str"
 | .list _ => "list"
 | .tuple _ => "tuple"
 | .dict _ => "dict"
example (K:PySem.W.Frag):PySem.W.kitOne K (.type "int") (.type "int")=some true:=by rfl
example (K:PySem.W.Frag):PySem.W.kitOne K (.type "bool") (.type "int")=some true:=by rfl
example (K:PySem.W.Frag):PySem.W.kitOne K (.type "str") (.type "int")=some false:=by rfl
section
variable {X:Cx} {e a b c o:Expr} {es:List Expr} {ρ:List Ent} {d da db dc:PyData} {ds:List PyData} {pos p p2:Pos}
theorem isinst_D {pins:List (Addr×Obj)} {σ:St} {H:Hp} {s:Shared} {A:Around} {E:Value→Shared→Prop} {Q:Value→Shared→Prop} {cv u:Value} {t:Bool} {v:V} (I:Inv X pins σ H s) (r:Rep X.K H v d) (rx:RelV v u)
  (e:PySem.W.kitOne X.K (.type (tyD d)) cv=some t) (h:∀ tk,Q (.bool t) { s with toks:=tk }):wpAny (model X.prog X.w) A (call (.builtin "isinstance") [u,cv]) Q E s:=by
 cases r with
 | none=>exact jZ I rx .non e h
 | bool x=>exact jZ I rx (.bl x) e h
 | int x=>exact jZ I rx (.int x) e h
 | str x=>exact jZ I rx (.str x) e h
 | list hq ra=>
  cases rx
  obtain ⟨its,_,⟨o,n,e1,e2,_⟩,_⟩:=I.list hq
  exact PySem.W.kia_one PySem.W.kitx_list I.kIn ⟨o,e1,e2⟩ e (fun z=>nomatch z) h
 | tuple hq ra=>
  cases rx
  obtain ⟨its,_,⟨o,e1,e2,_⟩,_⟩:=I.tuple hq
  exact PySem.W.kia_one PySem.W.kitx_tuple I.kIn ⟨o,e1,e2⟩ e (fun z=>nomatch z) h
 | dict hq _ _=>exact jZ I rx (.dK hq) e h
end
end L2.L3
namespace L2.L3
open PySem PySem.Spec PyProof.Rows
theorem vals_bl:∀ {bs:List Bool} {us:List Value},aV (bs.map V.bl) us→us=bs.map Value.bool
 | [],_,r=>by cases r;rfl
 | b::bs,_,r=>by
  cases r with
  | cons r1 r2=>cases r1;rw [vals_bl r2];rfl
theorem range_all (bs:List Bool):((List.range bs.length).all fun i=>bs.getD i false)=bs.all id:=by
 rw [Bool.eq_iff_iff]
 simp only [List.all_eq_true,List.mem_range]
 constructor
 ·intro h b hb
  obtain ⟨i,hi,rfl⟩:=List.mem_iff_getElem.mp hb
  have:=h i hi
  simpa [List.getD,List.getElem?_eq_getElem hi] using this
 ·intro h i hi
  have:=h bs[i] (List.getElem_mem hi)
  simpa [List.getD,List.getElem?_eq_getElem hi] using this
section
variable {X:Cx} {e a b c o:Expr} {es:List Expr} {ρ:List Ent} {d da db dc:PyData} {ds:List PyData} {pos p p2:Pos}
theorem call_allL (hc:X.calm=true):eB X (.builtin "all") (fun xs H Q=>∃ (p:Addr) (bs:List Bool),xs=[.ref p]∧SqL X.K H p (bs.map V.bl)∧Q (.bl (bs.all id)) H):=by
 intro pins s σ H xs us Q I r ⟨p,bs,e,hq,q⟩
 subst e
 obtain ⟨u,rfl,rx⟩:=vals1 r
 cases rx
 obtain ⟨its,rv,pl,hz⟩:=I.list hq
 have ev:=vals_bl rv
 subst ev
 have hl:=pl.isList
 have lt:p<s.heap.objs.size:=by obtain ⟨o,g,_⟩:=hl;exact Heap.lt_size g
 refine call_all_walk (wpAny_pyIter_list hl ?_)
 refine ⟨s.heap.objs.size,_,_,_,_,_,fun i=>bs.getD i false,rfl,Walks.list (A:=X.A.in1) (I.ok.hd hc) _ p (Nat.ne_of_lt lt) (bs.map Value.bool).toArray,⟨⟨_,Heap.get?_push_size _ rfl,rfl,rfl⟩,hl.push _⟩,fun i v s' Q' E' hP hQ=>?_,fun h' tk kp=>?_⟩
 ·have hP:(bs.map Value.bool).toArray[i]?=some v:=hP
  rw [List.getElem?_toArray,List.getElem?_map] at hP
  cases eb:bs[i]? with
  | none=>rw [eb] at hP;cases hP
  | some b=>
   rw [eb] at hP
   cases hP
   refine wpAny_truthy_bool ?_
   have:bs.getD i false=b:=by rw [List.getD,eb];rfl
   rw [←this]
   exact hQ
 ·have sz:(bs.map Value.bool).toArray.size=bs.length:=by simp
  rw [sz,range_all]
  refine ⟨.bl _,H,I.kept (fun b o g=>kp b o ?_ (Heap.get?_push_of_some _ g)),rfl,q⟩
  intro hb
  have z:b=s.heap.objs.size:=by simpa using hb
  exact absurd (Heap.lt_size g) (by rw [z];exact Nat.lt_irrefl _)
theorem dW {K:PySem.W.Frag} {G:Hp}:∀ ns:List Int,RepAll K G (ns.map V.int) (ns.map .int)
 | []=>.nil
 | _::r=>.cons (.int _) (dW r)
def sortI (ns:List Int):List Int:=ns.mergeSort (fun a b=>decide (a≤b))
theorem sortI_perm (ns:List Int):(sortI ns).Perm ns:=List.mergeSort_perm _ _
theorem sortI_sorted (ns:List Int):(sortI ns).Pairwise (·≤·):=by
 have h:=List.pairwise_mergeSort (le:=fun (a b:Int)=>decide (a≤b)) (fun a b c h1 h2=>by simp only [decide_eq_true_eq] at *;omega) (fun a b=>by simp only [Bool.or_eq_true,decide_eq_true_eq];omega) ns
 exact h.imp fun h=>by simpa using h
theorem sortI_eq {ns ms:List Int} (hp:ms.Perm ns) (hs:ms.Pairwise (·≤·)):ms=sortI ns:=PySem.W.ksm_same (hp.trans (sortI_perm ns).symm) hs (sortI_sorted ns)
theorem call_sortedI:eB X (.builtin "sorted") (fun xs H Q=>∃ (p:Addr) (ns:List Int),xs=[.ref p]∧SqL X.K H p (ns.map V.int)∧ns.length<64∧∀ l,H l=none→Q (.ref l) (upd H l (.lst ((sortI ns).map V.int)))):=by
 intro pins s σ H xs us Q I r ⟨p,ns,e,hq,h64,q⟩
 subst e
 obtain ⟨u,rfl,rx⟩:=vals1 r
 cases rx
 obtain ⟨its,rv,pl,hz⟩:=I.list hq
 have hi:=intsAre_of rv
 refine sorted_ints pl.isList hi (by rw [hi.length];exact h64) fun out ns' ho hp hs=>?_
 have e:=sortI_eq hp hs
 subst e
 obtain ⟨ep,g⟩:=sortedAll_at s.heap its out
 have hf:H (s.heap.objs.size+1)=none:=I.hok.fresh (Nat.le_succ _)
 refine ⟨.ref (s.heap.objs.size+1),_,I.laid (t':=s.toks) (fun b o g=>sortedAll_old g) (Nat.le_succ _) ?_,rfl,q _ hf⟩
 refine ⟨?_,out.toList,ep,jU ho,?_⟩
 ·rw [List.length_map,(sortI_perm ns).length_eq]
  exact Nat.le_of_lt (eT (by omega))
 ·rw [g]
end
end L2.L3
namespace L2.L3
open PySem PySem.Spec PyProof.Rows
section
variable {X:Cx} {iter a b:Expr} {ρ:List Ent} {p pos px:Pos} {x:Str}
theorem cmp_leS {i j:Str}:CmpD X .LtE (.str i) (.str j) (!decide (j.cps.toList<i.cps.toList)):=⟨fun x y H Q=>∃ i j,x=V.str i∧y=V.str j∧Q (.bl (!decide (j.cps.toList<i.cps.toList))) H,by
 intro pins s σ H x y v u Q I rx ry ⟨i,j,e1,e2,q⟩
 subst e1 e2
 obtain ⟨t,rfl⟩:=rx
 obtain ⟨t',rfl⟩:=ry
 exact PySem.P.le_str ⟨.bl _,H,I,rfl,q⟩,fun x y G H Q _ rx ry q=>by cases rx;cases ry;exact ⟨_,_,rfl,rfl,q⟩⟩
end
end L2.L3
namespace L2.L3
open PySem PySem.Spec PyProof.Rows
theorem bV.there {P:Program} {w:World} {H:Hp} {h:Heap} {a:Addr} {o:HO} (x:bV P w H h a o):∃ u,h.get? a=some u:=by
 cases o with
 | lst xs=>obtain ⟨_,_,_,_,e⟩:=x;exact ⟨_,e⟩
 | tup xs=>obtain ⟨_,_,_,u,e,_⟩:=x;exact ⟨u,e⟩
 | dK kvs=>obtain ⟨_,_,_,_,o,_,_,e,_⟩:=x;exact ⟨_,e⟩
 | dT kvs=>obtain ⟨_,_,_,_,o,_,_,e,_⟩:=x;exact ⟨_,e⟩
 | set S n=>obtain ⟨o,_,_,_,e,_⟩:=x;exact ⟨_,e⟩
 | ins C dx fs=>obtain ⟨_,_,_,e,_⟩:=x;exact ⟨_,e⟩
 | own y=>exact x
 | xd fs=>obtain ⟨_,⟨_,_,_,e,_⟩,_⟩:=x;exact ⟨_,e⟩
 | rng lo hi=>obtain ⟨_,_,_,e⟩:=x;exact ⟨_,e⟩
 | frz ob u=>obtain ⟨e,_⟩:=x;exact ⟨_,e⟩
 | tbl ps=>exact ⟨_,show h.get? a=some _ from x⟩
 | met f y=>exact ⟨_,show h.get? a=some _ from x⟩
 | ext φ=>exact x.2.1
theorem hok_no {P:Program} {w:World} {H:Hp} {h:Heap} {a:Addr} (x:HOk P w H h) (e:h.get? a=none):H a=none:=by
 cases q:H a with
 | none=>rfl
 | some u=>obtain ⟨v,z⟩:=bV.there (x a u q);rw [e] at z;cases z
def Fresh (X:Cx) (b:Addr):Prop:=(b∈X.ex∨X.s₀.heap.get? b=none)∧∀ p∈X.pn,p.1≠b
def ExcF (fr:Addr→Prop) (fl:Value) (H:Hp) (a C:Addr) (h:Heap):Prop:=
 fr a∧H a=none∧∃ oe vs a0 T oT ts,h.get? a=some oe∧oe.cls=.ref C∧oe.data=.fields vs∧vs[0]?=some a0 ∧
  vs[1]?=some (.ref T)∧fr T∧H T=none∧T≠a∧h.get? T=some oT∧oT.data=.fields ts∧ts[3]?=some fl
def ExcAt (fr:Addr→Prop) (H:Hp) (a C:Addr) (h:Heap):Prop:=
 (fr a∧H a=none∧∃ oe vs a0,h.get? a=some oe∧oe.cls=.ref C∧oe.data=.fields vs∧vs[0]?=some a0∧vs[1]?=some .none)∨ExcF fr .none H a C h
def ExcIs (X:Cx) (c:Str) (e:Value) (H:Hp) (s:Shared):Prop:=∃ a C,e=.ref a∧excC X.K c=some C∧ExcAt (Fresh X) H a C s.heap
theorem ExcF.mono {fr fr':Addr→Prop} {fl:Value} {H:Hp} {a C:Addr} {h:Heap} (x:ExcF fr fl H a C h) (k:∀ b,fr b→fr' b):ExcF fr' fl H a C h:=by
 obtain ⟨h1,h2,oe,vs,a0,T,oT,ts,e1,e2,e3,e4,e5,e6,e7⟩:=x
 exact ⟨k _ h1,h2,oe,vs,a0,T,oT,ts,e1,e2,e3,e4,e5,k _ e6,e7⟩
theorem ExcAt.mono {fr fr':Addr→Prop} {H:Hp} {a C:Addr} {h:Heap} (x:ExcAt fr H a C h) (k:∀ b,fr b→fr' b):ExcAt fr' H a C h:=by
 rcases x with ⟨h1,h2⟩ | x
 ·exact .inl ⟨k _ h1,h2⟩
 ·exact .inr (x.mono k)
theorem ExcAt.ob {fr:Addr→Prop} {H:Hp} {a C:Addr} {h:Heap} (x:ExcAt fr H a C h):fr a∧H a=none∧∃ oe vs,ExO h a C oe∧oe.data=.fields vs:=by
 rcases x with ⟨h1,h2,oe,vs,a0,e1,e2,e3,_⟩ | ⟨h1,h2,oe,vs,a0,T,oT,ts,e1,e2,e3,_⟩
 ·exact ⟨h1,h2,oe,vs,⟨e1,e2⟩,e3⟩
 ·exact ⟨h1,h2,oe,vs,⟨e1,e2⟩,e3⟩
structure Chg (X:Cx) (fr:Addr→Prop) (cs:List Addr) (H:Hp) (h h':Heap):Prop where
 ch:∀ b∈cs,fr b∧H b=none∧∃ o vs,h.get? b=some o∧o.data=.fields vs
 un:Un (frs X.stack) cs H H h h'
 hok:HOk X.prog X.w H h'
section
variable {X:Cx} {pins:List (Addr×Obj)} {σ:List (Option V)} {H H':Hp} {s:Shared} {h':Heap} {a C:Addr} {fr:Addr→Prop}
theorem noted_un {base:Heap} {Ts:List Addr} {a0 fl:Value} (I:Inv X pins σ H s) (hst:X.stack=X.env::X.outer) (ha:fr a∧H a=none∧∃ o vs,s.heap.get? a=some o∧o.data=.fields vs)
  (hT:∀ b∈Ts,fr b∧H b=none∧∃ o vs,s.heap.get? b=some o∧o.data=.fields vs) (hb:base=PySem.W.hideAll s.heap ((a::Ts)++frs X.stack)) (hnew:∀ b,s.heap.get? b=none→fr b)
  (N:Heap.NotedW base (X.env::X.outer) a (.ref C) a0 fl s.heap h'):Chg X fr (a::Ts) H s.heap h'∧ExcF fr fl H a C h':=by
 obtain ⟨st,ff,⟨oe,vs,T,oT,ts,e1,⟨e2,e3⟩,e4,e5,e6,e7,e8,e9,e10⟩,up⟩:=N
 have hmem:∀ b∈frs X.stack,∃ o,s.heap.get? b=some o∧∀ vs,o.data≠.fields vs:=fun b hm=>by
  obtain ⟨_,o,ho,hd⟩:=I.stack.mem hm
  exact ⟨o,ho,hd⟩
 have keep:∀ b o,s.heap.get? b=some o→b∉frs X.stack→b∉a::Ts→h'.get? b=some o:=fun b o e n1 n2=>
  st b o (by rw [hb];exact PySem.W.hideAll_get _ e fun z=>(List.mem_append.mp z).elim n2 n1)
 have slot:∀ b o,s.heap.get? b=some o→b∈frs X.stack→∃ sl,h'.get? b=some { o with slots:=sl }:=fun b o e hm=>by
  obtain ⟨o',ho',hd⟩:=hmem b hm
  rw [e] at ho';cases ho'
  exact up b o e hd
 have hch:∀ b∈a::Ts,fr b∧H b=none∧∃ o vs,s.heap.get? b=some o∧o.data=.fields vs:=fun b hm=>by
  rcases List.mem_cons.mp hm with rfl | hm
  ·exact ha
  ·exact hT b hm
 refine ⟨⟨hch,⟨fun b o e n n1 n2=>keep b o e n1 n2,fun b o e n n1 n2=>slot b o e n1,fun b o e n _=>n,fun b o e n2=>?_,fun _ _ q=>q,fun _ _ _ q=>q,fun _ ps q=>⟨#[],by rw [q];simp⟩⟩,fun b u q=>?_⟩,?_⟩
 ·by_cases hm:b∈frs X.stack
  ·obtain ⟨sl,z⟩:=slot b o e hm
   exact ⟨_,z⟩
  ·exact ⟨o,keep b o e hm n2⟩
 ·have tr:∀ c u,H c=some u→c∉frs X.stack∧c∉a::Ts:=fun c u q=>⟨fun z=>(by rw [I.stkFree c z] at q;cases q),fun z=>(by rw [(hch c z).2.1] at q;cases q)⟩
  refine (I.hok b u q).stay (fun c v hc z=>?_) (fun _ z=>z) fun _ _ z=>z
  rcases hc with rfl | hc
  ·exact keep c v z (tr c u q).1 (tr c u q).2
  ·exact keep c v z (tr c _ hc).1 (tr c _ hc).2
 ·refine ⟨ha.1,ha.2.1,oe,vs,a0,T,oT,ts,e1,e2,e4,e3,e5,?_⟩
  have hh:fr T∧H T=none:=by
   cases q:s.heap.get? T with
   | none=>exact ⟨hnew T q,hok_no I.hok q⟩
   | some o=>
    have hm:T∈(a::Ts)++frs X.stack:=Classical.byContradiction fun z=>by
     have:=PySem.W.hideAll_get _ q z
     rw [←hb,e6] at this;cases this
    rcases List.mem_append.mp hm with hm | hm
    ·exact ⟨(hch T hm).1,(hch T hm).2.1⟩
    ·exfalso
     obtain ⟨o',ho',hd⟩:=hmem T hm
     obtain ⟨sl,z⟩:=slot T o' ho' hm
     rw [e8] at z;cases z
     exact hd ts e9
  exact ⟨hh.1,hh.2,e7,e8,e9,e10⟩
theorem note_ok {M:Model} {A:Around} {E:Value→Shared→Prop} {Q:Unit→Shared→Prop} (hfr:A.frames=some X.stack) (hst:X.stack=X.env::X.outer) (hf:X.env.frame=some X.env.locals) (I:Inv X pins σ H s) (x:ExcAt fr H a C s.heap) (hnew:∀ b,s.heap.get? b=none→fr b)
  (h:∀ h' ch,Chg X fr ch H s.heap h'→ExcF fr (rawInt X.env.locals) H a C h'→Q () { s with heap:=h' }):wpAny M A (noteFrame (.ref a) X.env) Q E s:=by
 have frm:∀ (l:List Addr),∀ env∈X.env::X.outer,∀ b,env.frame=some b→b∈l++frs X.stack:=fun l env he b hb=>List.mem_append_right _ (by
  rw [hst];unfold frs
  exact List.mem_filterMap.mpr ⟨env,he,hb⟩)
 have hl:=I.stack
 rcases x with ⟨h1,h2,oe,vs,a0,e1,e2,e3,e4,e5⟩ | ⟨h1,h2,oe,vs,a0,T,oT,ts,e1,e2,e3,e4,e5,e6,e7,e8,e9,e10,e11⟩
 ·have hl':s.heap.FunFrames (PySem.W.hideAll s.heap ([a]++frs X.stack)) (X.env::X.outer):=PySem.W.funFrames_hide (hst▸hl) (frm [a])
  unfold noteFrame
  simp only [hf]
  refine wpAny_bind (wpAny_field e1 e3 e5 ?_)
  rw [if_neg (by decide)]
  refine wpAny_entryW (hst▸hfr) hl' hf e1 (fun b o e=>PySem.W.of_hideAll ([a]++frs X.stack) e) (PySem.W.hideAll_none ([a]++frs X.stack) (by simp)) e3 (Array.getElem?_eq_some_iff.mp e5).1 e4 fun h' N=>?_
  rw [e2] at N
  obtain ⟨c1,c2⟩:=noted_un (Ts:=[]) I hst ⟨h1,h2,oe,vs,e1,e3⟩ (fun _ z=>nomatch z) rfl hnew N
  exact h h' _ c1 c2
 ·have hl':s.heap.FunFrames (PySem.W.hideAll s.heap ([a,T]++frs X.stack)) (X.env::X.outer):=PySem.W.funFrames_hide (hst▸hl) (frm [a,T])
  refine wpAny_noteFrame_onW (hst▸hfr) hl' hf ⟨oe,vs,T,oT,ts,e1,⟨e2,e4⟩,e3,e5,PySem.W.hideAll_none ([a,T]++frs X.stack) (by simp),e8,e9,e10,e11⟩ (fun b o e=>PySem.W.of_hideAll ([a,T]++frs X.stack) e) (PySem.W.hideAll_none ([a,T]++frs X.stack) (by simp)) fun h' N=>?_
  obtain ⟨c1,c2⟩:=noted_un (Ts:=[T]) I hst ⟨h1,h2,oe,vs,e1,e3⟩ (fun b z=>by cases List.mem_singleton.mp z;exact ⟨e6,e7,oT,ts,e9,e10⟩) rfl hnew N
  exact h h' _ c1 c2
theorem fly_ok {M:Model} {A:Around} {E:Value→Shared→Prop} {Q:Unit→Shared→Prop} {fl:Value} (hok:HOk X.prog X.w H s.heap) (x:ExcF fr fl H a C s.heap)
  (h:∀ h' ch,Chg X fr ch H s.heap h'→ExcF fr .none H a C h'→Q () { s with heap:=h' }):wpAny M A (setFlight (.ref a) none) Q E s:=by
 obtain ⟨h1,h2,oe,vs,a0,T,oT,ts,e1,e2,e3,e4,e5,e6,e7,e8,e9,e10,e11⟩:=x
 have sz:3<ts.size:=(Array.getElem?_eq_some_iff.mp e11).1
 refine wpAny_setFlight_none e1 e3 e5 e9 e10 sz (h _ [T] ⟨fun b z=>?_,⟨fun b o e n _ n2=>?_,fun b o e n _ n2=>?_,fun b o e n _=>n,fun b o e n2=>?_,fun _ _ q=>q,fun _ _ _ q=>q,fun _ ps q=>⟨#[],by rw [q];simp⟩⟩,fun b u q=>?_⟩ ?_)
 ·cases List.mem_singleton.mp z;exact ⟨e6,e7,oT,ts,e9,e10⟩
 ·rw [Heap.get?_update_other _ _ (fun z=>n2 (by simp [z]))];exact e
 ·exact ⟨o.slots,by rw [Heap.get?_update_other _ _ (fun z=>n2 (by simp [z]))];exact e⟩
 ·exact ⟨o,by rw [Heap.get?_update_other _ _ (fun z=>n2 (by simp [z]))];exact e⟩
 ·have tr:∀ c u,H c=some u→T≠c:=fun c u q z=>by rw [←z,e7] at q;cases q
  refine (hok b u q).stay (fun c v hc z=>?_) (fun _ z=>z) fun _ _ z=>z
  rcases hc with rfl | hc
  ·rw [Heap.get?_update_other _ _ (tr c u q)];exact z
  ·rw [Heap.get?_update_other _ _ (tr c _ hc)];exact z
 ·refine ⟨h1,h2,oe,vs,a0,T,_,_,?_,e2,e3,e4,e5,e6,e7,e8,Heap.get?_update_self _ e9 (Obj.isFreed_of_fields (Obj.data_mapFields e10 _)),Obj.data_mapFields e10 _,by simp [sz]⟩
  rw [Heap.get?_update_other _ _ e8];exact e1
theorem leave_ok {M:Model} {A:Around} {E:Value→Shared→Prop} {Q:Unit→Shared→Prop} (hfr:A.frames=some X.stack) (hst:X.stack=X.env::X.outer) (hf:X.env.frame=some X.env.locals) (I:Inv X pins σ H s) (x:ExcAt fr H a C s.heap) (hnew:∀ b,s.heap.get? b=none→fr b)
  (h:∀ h' ch,Un (frs X.stack) ch H H s.heap h'→(∀ b∈ch,fr b)→HOk X.prog X.w H h'→ExcAt fr H a C h'→Q () { s with heap:=h' }):wpAny M A (leaving X.env (.ref a)) Q E s:=by
 unfold leaving
 refine wpAny_bind (note_ok hfr hst hf I x hnew fun h1 ch1 c1 x1=>?_)
 refine fly_ok (X:=X) (s:={ s with heap:=h1 }) c1.hok x1 fun h2 ch2 c2 x2=>?_
 refine h h2 (ch1++ch2) ((c1.un.mono (fun _ z=>z) fun b z=>List.mem_append_left _ z).trans (c2.un.mono (fun _ z=>z) fun b z=>List.mem_append_right _ z)) (fun b z=>?_) c2.hok (.inr x2)
 rcases List.mem_append.mp z with z | z
 ·exact (c1.ch b z).1
 ·exact (c2.ch b z).1
theorem Inv.chg {ch:List Addr} (I:Inv X pins σ H s) (c:Chg X (fun b=>Fresh X b∧∀ p∈pins,p.1≠b) ch H s.heap h'):Inv X pins σ H { s with heap:=h' }:=by
 obtain ⟨m,hn,hl⟩:=id I.loc
 obtain ⟨oL,es,ep,hoL,rL⟩:=id hn
 have cL:X.env.locals∉ch:=fun z=>by
  obtain ⟨_,_,o,vs,e1,e2⟩:=c.ch _ z
  rw [hoL] at e1;cases e1
  rw [rL.1] at e2;cases e2
 have cC:∀ x d,X.env.cells.lookup x=some d→d∉ch:=fun x d e z=>by
  obtain ⟨_,_,o,vs,e1,e2⟩:=c.ch _ z
  obtain ⟨v,o',e3,e4⟩:=I.cell x d e
  rw [e3] at e1;cases e1
  rw [e4] at e2;cases e2
 have cS:∀ b o,X.s₀.heap.get? b=some o→b∉X.ex→b∉ch:=fun b o e n z=>by
  rcases (c.ch b z).1.1.1 with q | q
  ·exact n q
  ·rw [e] at q;cases q
 have cP:∀ p∈X.pn++pins,p.1∉ch:=fun p hp z=>by
  rcases List.mem_append.mp hp with hp | hp
  ·exact (c.ch _ z).1.1.2 p hp rfl
  ·exact (c.ch _ z).1.2 p hp rfl
 have neL:∀ b o,X.s₀.heap.get? b=some o→b≠X.env.locals:=fun b o e=>Nat.ne_of_lt (Nat.lt_of_lt_of_le (Heap.lt_size e) I.ok.above)
 have nst:∀ b,b≠X.env.locals→b∉X.fs→b∉frs X.stack:=fun b n1 n2 z=>(List.mem_cons.mp (I.stkSub b z)).elim n1 n2
 have cellK:∀ x d,X.env.cells.lookup x=some d→∀ v,s.heap.IsCell d v→h'.IsCell d v:=fun x d e v ⟨o,ho,hd⟩=>by
  obtain ⟨sl,q⟩:=c.un.any ho (I.freeC x d e) (cC x d e)
  exact ⟨_,q,hd⟩
 refine ⟨I.ok,I.os,I.bare,⟨fun b o e n hb hx=>?_,fun b o e n hb hx=>?_,I.base.free,fun b o e hx=>?_,I.base.tups,I.base.frzs,I.base.tbls⟩,⟨m,?_,fun i x v e1 e2 e3=>?_⟩,fun x d e=>?_,I.free,I.freeC,fun p hp=>?_,c.hok,I.len⟩
 ·exact c.un.keep b o (I.base.keep b o e n hb hx) (I.base.free b o e n hx) (nst b (neL b o e) hb) (cS b o e hx)
 ·obtain ⟨sl,e1⟩:=I.base.slot b o e n hb hx
  obtain ⟨sl',e2⟩:=c.un.any e1 (I.base.free b o e n hx) (cS b o e hx)
  exact ⟨sl',e2⟩
 ·obtain ⟨o',e1⟩:=I.base.there b o e hx
  exact c.un.there b o' e1 (cS b o e hx)
 ·obtain ⟨sl,q⟩:=c.un.any hoL I.free cL
  exact ⟨_,es,ep,q,rL⟩
 ·obtain ⟨u,r,l⟩:=hl i x v e1 e2 e3
  refine ⟨u,r,?_⟩
  rcases l with l | ⟨k,d,e,z⟩
  ·exact .inl l
  ·exact .inr ⟨k,d,e,cellK x d e _ z⟩
 ·obtain ⟨v,z⟩:=I.cell x d e
  exact ⟨v,cellK x d e v z⟩
 ·obtain ⟨e,n,ne,nf,d⟩:=I.pin p hp
  exact ⟨c.un.keep p.1 p.2 e n (nst p.1 ne nf) (cP p hp),n,ne,nf,d⟩
theorem Inv.track {o:HO} (I:Inv X pins σ H s) (ha:Fresh X a∧∀ p∈pins,p.1≠a) (hn:H a=none) (hd:∃ u vs,s.heap.get? a=some u∧u.data=.fields vs) (ok:bV X.prog X.w (upd H a o) s.heap a o):Inv X pins σ (upd H a o) s:=by
 obtain ⟨u,vs,hu,hv⟩:=hd
 have nL:X.env.locals≠a:=fun z=>by
  obtain ⟨m,⟨oL,es,ep,hoL,rL⟩,_⟩:=id I.loc
  rw [z,hu] at hoL;cases hoL
  rw [rL.1] at hv;cases hv
 have nC:∀ x d,X.env.cells.lookup x=some d→d≠a:=fun x d e z=>by
  obtain ⟨v,o',e3,e4⟩:=I.cell x d e
  rw [z,hu] at e3;cases e3
  rw [e4] at hv;cases hv
 refine ⟨I.ok,I.os,I.bare,⟨I.base.keep,I.base.slot,fun b o e n hx=>?_,I.base.there,fun b xs e=>?_,fun b o u e=>?_,fun b ps e=>?_⟩,I.loc,I.cell,?_,fun x d e=>?_,fun p hp=>?_,fun b v e=>?_,I.len⟩
 ·rw [aE (fun z=>by
   subst z
   rcases ha.1.1 with q | q
   ·exact hx q
   ·rw [e] at q;cases q)]
  exact I.base.free b o e n hx
 ·have q:=I.base.tups b xs e
  rw [aE (aN q hn)];exact q
 ·have q:=I.base.frzs b o u e
  rw [aE (aN q hn)];exact q
 ·obtain ⟨more,q⟩:=I.base.tbls b ps e
  exact ⟨more,by rw [aE (aN q hn)];exact q⟩
 ·rw [aE nL];exact I.free
 ·rw [aE (nC x d e)];exact I.freeC x d e
 ·obtain ⟨e,n,ne,nf,d⟩:=I.pin p hp
  have np:p.1≠a:=by
   rcases List.mem_append.mp hp with hp | hp
   ·exact ha.1.2 p hp
   ·exact ha.2 p hp
  exact ⟨e,by rw [aE np];exact n,ne,nf,d⟩
 ·by_cases hb:b=a
  ·subst hb;rw [aG] at e;cases e;exact ok
  ·rw [aE hb] at e
   exact (I.hok b v e).stay (fun c w' _ q=>q) (fun c q=>by rw [aE (aN q hn)];exact q) fun c xs q=>by rw [aE (aN q hn)];exact q
end
end L2.L3
namespace L2.L3
open PySem PySem.Spec PyProof.Rows
inductive Re (α:Type) where
 | ok (a:α)
 | ex (c:Str)
abbrev Mm (α:Type):=Option (Re α)
abbrev ret {α:Type} (a:α):Mm α:=some (.ok a)
def bnd {α β:Type} (m:Mm α) (k:α→Mm β):Mm β:=match m with
 | some (.ok a)=>k a
 | some (.ex c)=>some (.ex c)
 | none=>none
def lft {α:Type} (o:Option α):Mm α:=match o with
 | some a=>some (.ok a)
 | none=>none
abbrev EF:=List Ent→Mm PyData
abbrev TF:=List Ent→Mm Bool
abbrev AF:=List Ent→Mm (List PyData)
section
variable {α β:Type}
theorem eF {m:Mm α} {k:α→Mm β} {r:Re β} (h:bnd m k=some r):(∃ a,m=some (.ok a)∧k a=some r)∨∃ c,m=some (.ex c)∧r=.ex c:=by
 match m,h with
 | some (.ok a),h=>exact .inl ⟨a,rfl,h⟩
 | some (.ex c),h=>exact .inr ⟨c,rfl,(Option.some.inj h).symm⟩
 | none,h=>cases h
theorem bI {o:Option α} {r:Re α} (h:lft o=some r):∃ a,o=some a∧r=.ok a:=by
 match o,h with
 | some a,h=>exact ⟨a,rfl,(Option.some.inj h).symm⟩
 | none,h=>cases h
end
def kZ (X:Cx) (H0 G₀ G:Hp) (ρ:List Ent) (c:Str):Prop:=
 ∀ (pins:List (Addr×Obj)) (s':Shared) (σ:St) (H' G':Hp) (e:Value),Inv X pins σ H' s'→RepS X.K H0 G₀ G' H' σ ρ→aX G G'→ExcIs X c e H' s'→X.xe e s'
theorem kZ.mono {X:Cx} {H0 G₀ G G':Hp} {ρ:List Ent} {c:Str} (h:kZ X H0 G₀ G ρ c) (s:aX G G'):kZ X H0 G₀ G' ρ c:=
 fun pins s' σ H' G2 e I R g x=>h pins s' σ H' G2 e I R (s.trans g) x
def EndE (X:Cx) (H0 G₀ G:Hp) (ρ:List Ent) (H:Hp) (Q:VK):Re PyData→Prop
 | .ok d=>∀ v G' H',Grow G H G' H'→Rep X.K G' v d→Q v H'
 | .ex c=>kZ X H0 G₀ G ρ c
def EndT (X:Cx) (H0 G₀ G:Hp) (ρ:List Ent) (H:Hp) (Q:Bool→Hp→Prop):Re Bool→Prop
 | .ok b=>∀ G' H',Grow G H G' H'→Q b H'
 | .ex c=>kZ X H0 G₀ G ρ c
def EndA (X:Cx) (H0 G₀ G:Hp) (ρ:List Ent) (H:Hp) (Q:List V→Hp→Prop):Re (List PyData)→Prop
 | .ok ds=>∀ vs G' H',Grow G H G' H'→RepAll X.K G' vs ds→Q vs H'
 | .ex c=>kZ X H0 G₀ G ρ c
def rE (X:Cx) (f:EF):TE:=fun σ H Q=>∃ ρ r H0 G₀ G,f ρ=some r∧RepS X.K H0 G₀ G H σ ρ∧EndE X H0 G₀ G ρ H Q r
def rT (X:Cx) (f:TF):TT:=fun σ H Q=>∃ ρ r H0 G₀ G,f ρ=some r∧RepS X.K H0 G₀ G H σ ρ∧EndT X H0 G₀ G ρ H Q r
def rA (X:Cx) (f:AF):TA:=fun σ H Q=>∃ ρ r H0 G₀ G,f ρ=some r∧RepS X.K H0 G₀ G H σ ρ∧EndA X H0 G₀ G ρ H Q r
structure DE (X:Cx) (e:Expr) (f:EF):Prop where
 run:PE X e (rE X f)
structure DT (X:Cx) (e:Expr) (f:TF):Prop where
 run:PT X e (rT X f)
structure DW (X:Cx) (e:Expr) (f:TF):Prop where
 run:PW X e (rT X f)
structure DA (X:Cx) (es:List Expr) (f:AF):Prop where
 run:PA X es (rA X f)
section
variable {X:Cx} {H0 G₀ G G1 H H1:Hp} {ρ:List Ent} {σ:St}
theorem EndE.more {Q:VK} {r:Re PyData} (q:EndE X H0 G₀ G ρ H Q r) (g:Grow G H G1 H1):EndE X H0 G₀ G1 ρ H1 Q r:=by
 cases r with
 | ok d=>exact fun v G' H' g' rv=>q v G' H' (g.trans g') rv
 | ex c=>exact kZ.mono q g.gg
theorem EndT.more {Q:Bool→Hp→Prop} {r:Re Bool} (q:EndT X H0 G₀ G ρ H Q r) (g:Grow G H G1 H1):EndT X H0 G₀ G1 ρ H1 Q r:=by
 cases r with
 | ok d=>exact fun G' H' g'=>q G' H' (g.trans g')
 | ex c=>exact kZ.mono q g.gg
theorem EndA.more {Q:List V→Hp→Prop} {r:Re (List PyData)} (q:EndA X H0 G₀ G ρ H Q r) (g:Grow G H G1 H1):EndA X H0 G₀ G1 ρ H1 Q r:=by
 cases r with
 | ok d=>exact fun v G' H' g' rv=>q v G' H' (g.trans g') rv
 | ex c=>exact kZ.mono q g.gg
theorem bE {fa:EF} {β:Type} {k:PyData→Mm β} {r:Re β} (R:RepS X.K H0 G₀ G H σ ρ) (e:bnd (fa ρ) k=some r) {T:VK} (hx:∀ c,r=.ex c→kZ X H0 G₀ G ρ c)
  (h:∀ x v G1 H1,Grow G H G1 H1→RepS X.K H0 G₀ G1 H1 σ ρ→Rep X.K G1 v x→k x=some r→T v H1):rE X fa σ H T:=by
 rcases eF e with ⟨x,e1,e2⟩ | ⟨c,e1,e2⟩
 ·exact ⟨ρ,_,H0,G₀,G,e1,R,fun v G1 H1 g1 rv=>h x v G1 H1 g1 (R.more g1) rv e2⟩
 ·exact ⟨ρ,_,H0,G₀,G,e1,R,hx c e2⟩
theorem bT {fa:TF} {β:Type} {k:Bool→Mm β} {r:Re β} (R:RepS X.K H0 G₀ G H σ ρ) (e:bnd (fa ρ) k=some r) {T:Bool→Hp→Prop} (hx:∀ c,r=.ex c→kZ X H0 G₀ G ρ c)
  (h:∀ x G1 H1,Grow G H G1 H1→RepS X.K H0 G₀ G1 H1 σ ρ→k x=some r→T x H1):rT X fa σ H T:=by
 rcases eF e with ⟨x,e1,e2⟩ | ⟨c,e1,e2⟩
 ·exact ⟨ρ,_,H0,G₀,G,e1,R,fun G1 H1 g1=>h x G1 H1 g1 (R.more g1) e2⟩
 ·exact ⟨ρ,_,H0,G₀,G,e1,R,hx c e2⟩
theorem bA {fa:AF} {β:Type} {k:List PyData→Mm β} {r:Re β} (R:RepS X.K H0 G₀ G H σ ρ) (e:bnd (fa ρ) k=some r) {T:List V→Hp→Prop} (hx:∀ c,r=.ex c→kZ X H0 G₀ G ρ c)
  (h:∀ x v G1 H1,Grow G H G1 H1→RepS X.K H0 G₀ G1 H1 σ ρ→RepAll X.K G1 v x→k x=some r→T v H1):rA X fa σ H T:=by
 rcases eF e with ⟨x,e1,e2⟩ | ⟨c,e1,e2⟩
 ·exact ⟨ρ,_,H0,G₀,G,e1,R,fun v G1 H1 g1 rv=>h x v G1 H1 g1 (R.more g1) rv e2⟩
 ·exact ⟨ρ,_,H0,G₀,G,e1,R,hx c e2⟩
theorem EndE.x {Q:VK} {r:Re PyData} (q:EndE X H0 G₀ G ρ H Q r):∀ c,r=.ex c→kZ X H0 G₀ G ρ c:=fun c e=>by subst e;exact q
theorem EndT.x {Q:Bool→Hp→Prop} {r:Re Bool} (q:EndT X H0 G₀ G ρ H Q r):∀ c,r=.ex c→kZ X H0 G₀ G ρ c:=fun c e=>by subst e;exact q
theorem EndA.x {Q:List V→Hp→Prop} {r:Re (List PyData)} (q:EndA X H0 G₀ G ρ H Q r):∀ c,r=.ex c→kZ X H0 G₀ G ρ c:=fun c e=>by subst e;exact q
end
section
variable {X:Cx} {e a b c:Expr} {es:List Expr} {pos p:Pos} {fa fb fc:EF}
theorem de_of {f:EF} (h:∀ ρ r,f ρ=some r→∃ d,r=.ok d∧PD X e ρ d):DE X e f:=⟨fun pins s σ H Q I ⟨ρ,r,H0,G₀,G,ef,R,q⟩=>by
 obtain ⟨d,rfl,hd⟩:=h ρ r ef
 exact hd.run H0 G₀ G pins s σ H Q I R q⟩
theorem DE.pd {f:EF} (h:DE X e f) {ρ:List Ent} {d:PyData} (q:f ρ=some (.ok d)):PD X e ρ d:=⟨fun H0 G₀ G pins s σ H Q I R k=>h.run pins s σ H Q I ⟨ρ,_,H0,G₀,G,q,R,k⟩⟩
theorem DT.ptd {f:TF} (h:DT X e f) {ρ:List Ent} {d:Bool} (q:f ρ=some (.ok d)):PTD X e ρ d:=⟨fun H0 G₀ G pins s σ H Q I R k=>h.run pins s σ H Q I ⟨ρ,_,H0,G₀,G,q,R,k⟩⟩
def cst (d:PyData):EF:=fun _=>some (.ok d)
def var (i:Nat):EF:=fun ρ=>match ρ[i]? with
 | some (.val d)=>some (.ok d)
 | _=>none
theorem aI {i:Int} {j}:DE X (.Constant (.int i) j pos) (cst (.int i)):=de_of fun ρ r e=>⟨_,(Option.some.inj e).symm,pd_int⟩
theorem gS {x:Str} {j}:DE X (.Constant (.str x) j pos) (cst (.str x)):=de_of fun ρ r e=>⟨_,(Option.some.inj e).symm,pd_str⟩
theorem gC {x:Bool} {j}:DE X (.Constant (.bool x) j pos) (cst (.bool x)):=de_of fun ρ r e=>⟨_,(Option.some.inj e).symm,pd_bool⟩
theorem de_none {j}:DE X (.Constant .none j pos) (cst .none):=de_of fun ρ r e=>⟨_,(Option.some.inj e).symm,pd_none⟩
theorem var_is {i:Nat} {ρ:List Ent} {r:Re PyData} (h:var i ρ=some r):∃ d,r=.ok d∧ρ[i]?=some (.val d):=by
 unfold var at h
 split at h
 ·rename_i d e;exact ⟨d,(Option.some.inj h).symm,e⟩
 ·cases h
theorem aA (i:Nat) {x:Str} (hN:X.N[i]?=some x:=by rfl) (hv:Vis X.env.scope x:=by first | exact Or.inl rfl | exact Or.inr (Or.inl rfl) | exact Or.inr (Or.inr rfl)) (hd:(x==("__debug__" : Str))=false:=by decide)
  (hcd:(x==("__classdict__" : Str))=false:=by decide):DE X (.Name x pos) (var i):=de_of fun ρ r e=>by
 obtain ⟨d,e1,e2⟩:=var_is e
 exact ⟨d,e1,pd_var i e2 hN hv hd hcd⟩
structure OpD (X:Cx) (op:Operator) (x y d:PyData):Prop where
 ex:∃ r:R2,OpR X (binaryOp op) r∧∀ v u G H Q,aX G H→Rep X.K G v x→Rep X.K G u y→(∀ w G' H',Grow G H G' H'→Rep X.K G' w d→Q w H')→r v u H Q
def op2 (g:PyData→PyData→Option PyData) (fa fb:EF):EF:=fun ρ=>bnd (fa ρ) fun x=>bnd (fb ρ) fun y=>lft (g x y)
theorem opR_any {f:Value→Value→Sem Value}:OpR X f (fun v u H Q=>∃ r,OpR X f r∧r v u H Q):=fun pins s σ H x y v u Q I rx ry ⟨_,h,q⟩=>h pins s σ H x y v u Q I rx ry q
theorem bC {op:Operator} {g:PyData→PyData→Option PyData} (hg:∀ x y d,g x y=some d→OpD X op x y d) (ha:DE X a fa) (hb:DE X b fb):DE X (.BinOp a op b pos) (op2 g fa fb):=
 ⟨fun pins s σ H Q I ⟨ρ,r,H0,G₀,G,e,R,q⟩=>pe_op opR_any ha.run hb.run pins s σ H Q I (bE R e q.x fun x v G1 H1 g1 R1 rv e1=>bE R1 e1 (q.more g1).x fun y u G2 H2 g2 R2 ru e2=>by
  obtain ⟨d,ed,rfl⟩:=bI e2
  obtain ⟨r,h1,h2⟩:=(hg x y d ed).ex
  exact ⟨r,h1,h2 v u G2 H2 Q g2.sub (rv.mono g2.gg) ru fun w G' H' g' rw'=>q w G' H' ((g1.trans g2).trans g') rw'⟩)⟩
def aJ:AF:=fun _=>some (.ok [])
def aC (f:EF) (g:AF):AF:=fun ρ=>bnd (f ρ) fun x=>bnd (g ρ) fun xs=>some (.ok (x::xs))
theorem aH:DA X [] aJ:=⟨fun pos pins s σ H Q I ⟨ρ,r,H0,G₀,G,e,R,q⟩=>iG pos pins s σ H Q I (by
 cases (Option.some.inj e);exact q [] G H (.refl R.sub) .nil)⟩
theorem aB {f:AF} (ha:DE X e fa) (hr:DA X es f) (hs:starEach (e::es) X.env=(false,eval e X.env)::starEach es X.env:=by rfl):DA X (e::es) (aC fa f):=
 ⟨fun pos pins s σ H Q I ⟨ρ,r,H0,G₀,G,e,R,q⟩=>eJ ha.run hr.run hs pos pins s σ H Q I (bE R e q.x fun x v G1 H1 g1 R1 rv e1=>bA R1 e1 (q.more g1).x fun ys us G2 H2 g2 R2 ru e2=>by
  cases (Option.some.inj e2)
  exact q _ G2 H2 (g1.trans g2) (.cons (rv.mono g2.gg) ru))⟩
def cZ (n:Nat):Bool:=decide (n≤100000)
theorem fM {n:Nat} (h:cZ n=true):n≤sizeLine:=Nat.le_trans (of_decide_eq_true h) (by decide)
theorem sz_lt {n:Nat} (h:cZ n=true):n<sizeLine:=Nat.lt_of_le_of_lt (of_decide_eq_true h) (by decide)
def mkTup (ds:List PyData):Option PyData:=if cZ ds.length then some (.tuple ds) else none
def mkLst (ds:List PyData):Option PyData:=if cZ ds.length then some (.list ds) else none
def tupE (f:AF):EF:=fun ρ=>bnd (f ρ) fun xs=>lft (mkTup xs)
def lstE (f:AF):EF:=fun ρ=>bnd (f ρ) fun xs=>lft (mkLst xs)
theorem mkTup_is {ds:List PyData} {d:PyData} (h:mkTup ds=some d):d=.tuple ds∧ds.length≤sizeLine:=by
 unfold mkTup at h
 split at h
 ·rename_i z;exact ⟨(Option.some.inj h).symm,fM z⟩
 ·cases h
theorem mkLst_is {ds:List PyData} {d:PyData} (h:mkLst ds=some d):d=.list ds∧ds.length≤sizeLine:=by
 unfold mkLst at h
 split at h
 ·rename_i z;exact ⟨(Option.some.inj h).symm,fM z⟩
 ·cases h
theorem jS {x1} {f:AF} (h:DA X es f):DE X (.Tuple es x1 pos) (tupE f):=⟨fun pins s σ H Q I ⟨ρ,r,H0,G₀,G,e,R,q⟩=>pe_tup h.run pins s σ H Q I (bA R e q.x fun xs vs G1 H1 g1 R1 rv e1=>by
 obtain ⟨d,ed,rfl⟩:=bI e1
 obtain ⟨rfl,hz⟩:=mkTup_is ed
 exact ⟨by rw [rv.length];exact hz,fun p hp=>q _ _ _ (g1.trans (.put g1.sub hp)) (.tuple (.of aG) (rv.mono (bJ (g1.sub.free hp))))⟩)⟩
theorem de_lst {f:AF} (h:DA X es f):DE X (.List es pos) (lstE f):=⟨fun pins s σ H Q I ⟨ρ,r,H0,G₀,G,e,R,q⟩=>pe_lst h.run pins s σ H Q I (bA R e q.x fun xs vs G1 H1 g1 R1 rv e1=>by
 obtain ⟨d,ed,rfl⟩:=bI e1
 obtain ⟨rfl,hz⟩:=mkLst_is ed
 exact ⟨by rw [rv.length];exact hz,fun p hp=>q _ _ _ (g1.trans (.put g1.sub hp)) (.list (.of aG) (rv.mono (bJ (g1.sub.free hp))))⟩)⟩
def cmpE (g:PyData→PyData→Option Bool) (fa fb:EF):EF:=fun ρ=>bnd (fa ρ) fun x=>bnd (fb ρ) fun y=>lft ((g x y).map .bool)
def fL (g:PyData→PyData→Option Bool) (fa fb:EF):TF:=fun ρ=>bnd (fa ρ) fun x=>bnd (fb ρ) fun y=>lft (g x y)
theorem de_cmp {op:CmpOp} {g:PyData→PyData→Option Bool} (hg:∀ x y t,g x y=some t→CmpD X op x y t) (ha:DE X a fa) (hb:DE X b fb) (hm:behindInMarks op b=false:=by first | exact nomark _ | with_unfolding_all rfl):DE X (.Compare a [op] [b] pos) (cmpE g fa fb):=
 ⟨fun pins s σ H Q I ⟨ρ,r,H0,G₀,G,e,R,q⟩=>pe_cmpR opR_any ha.run hb.run hm pins s σ H Q I (bE R e q.x fun x v G1 H1 g1 R1 rv e1=>bE R1 e1 (q.more g1).x fun y u G2 H2 g2 R2 ru e2=>by
  obtain ⟨d,ed,rfl⟩:=bI e2
  obtain ⟨t,et,rfl⟩:=Option.map_eq_some_iff.mp ed
  obtain ⟨r,h1,h2⟩:=(hg x y t et).ex
  exact ⟨r,h1,h2 v u G2 H2 Q g2.sub (rv.mono g2.gg) ru (q _ _ _ (g1.trans g2) (.bool _))⟩)⟩
theorem cM {op:CmpOp} {g:PyData→PyData→Option Bool} (hg:∀ x y t,g x y=some t→CmpD X op x y t) (ha:DE X a fa) (hb:DE X b fb) (hm:behindInMarks op b=false:=by first | exact nomark _ | with_unfolding_all rfl):DT X (.Compare a [op] [b] pos) (fL g fa fb):=
 ⟨fun pins s σ H Q I ⟨ρ,r,H0,G₀,G,e,R,q⟩=>pt_cmpR opR_any ha.run hb.run hm pins s σ H Q I (bE R e q.x fun x v G1 H1 g1 R1 rv e1=>bE R1 e1 (q.more g1).x fun y u G2 H2 g2 R2 ru e2=>by
  obtain ⟨t,et,rfl⟩:=bI e2
  obtain ⟨r,h1,h2⟩:=(hg x y t et).ex
  exact ⟨r,h1,h2 v u G2 H2 _ g2.sub (rv.mono g2.gg) ru ⟨_,rfl,q _ _ (g1.trans g2)⟩⟩)⟩
def chnE (g g':PyData→PyData→Option Bool) (fa fb fc:EF):EF:=fun ρ=>bnd (fa ρ) fun x=>bnd (fb ρ) fun y=>bnd (lft (g x y)) fun t=>if t then bnd (fc ρ) fun z=>lft ((g' y z).map .bool) else some (.ok (.bool false))
def chnT (g g':PyData→PyData→Option Bool) (fa fb fc:EF):TF:=fun ρ=>bnd (fa ρ) fun x=>bnd (fb ρ) fun y=>bnd (lft (g x y)) fun t=>if t then bnd (fc ρ) fun z=>lft (g' y z) else some (.ok false)
theorem dt_chn {op op':CmpOp} {g g':PyData→PyData→Option Bool} (hg:∀ x y t,g x y=some t→CmpD X op x y t) (hg':∀ x y t,g' x y=some t→CmpD X op' x y t) (ha:DE X a fa) (hb:DE X b fb) (hc:DE X c fc)
  (hm:lastMarks [op,op'] [b,c]=false:=by with_unfolding_all rfl):DT X (.Compare a [op,op'] [b,c] pos) (chnT g g' fa fb fc):=
 ⟨fun pins s σ H Q I ⟨ρ,r,H0,G₀,G,e,R,q⟩=>pt_chain opR_any opR_any ha.run hb.run hc.run hm pins s σ H Q I (bE R e q.x fun x v G1 H1 g1 R1 rv e1=>bE R1 e1 (q.more g1).x fun y u G2 H2 g2 R2 ru e2=>by
  rcases eF e2 with ⟨t,et,e3⟩ | ⟨c,et,_⟩
  ·obtain ⟨t',et',z⟩:=bI et
   cases z
   obtain ⟨r1,h1,h2⟩:=(hg x y _ et').ex
   refine ⟨r1,h1,h2 v u G2 H2 _ g2.sub (rv.mono g2.gg) ru ⟨_,rfl,?_⟩⟩
   cases t with
   | false=>rw [if_neg (by decide)] at e3;cases (Option.some.inj e3);exact iteF ⟨false,rfl,q _ _ (g1.trans g2)⟩
   | true=>
    rw [if_pos rfl] at e3
    refine iteT ?_
    exact bE R2 e3 ((q.more g1).more g2).x fun z w G3 H3 g3 R3 rw' e4=>by
     obtain ⟨t,et,rfl⟩:=bI e4
     obtain ⟨r2,h3,h4⟩:=(hg' y z t et).ex
     exact ⟨r2,h3,h4 u w G3 H3 _ g3.sub (ru.mono g3.gg) rw' ⟨_,rfl,q _ _ ((g1.trans g2).trans g3)⟩⟩
  ·obtain ⟨_,_,z⟩:=bI et;cases z)⟩
end
end L2.L3
namespace L2.L3
open PySem PySem.Spec PyProof.Rows
section
variable {X:Cx} {e a b c:Expr} {es rest:List Expr} {pos p:Pos} {fa fb fc:EF} {ft fu:TF}
def truD:PyData→Option Bool
 | .none=>some false
 | .bool b=>some b
 | .int i=>some (i != 0)
 | .str x=>if cZ x.length then some ((x.length:Int) != 0) else none
 | .list ds=>some (!ds.isEmpty)
 | .tuple ds=>some (!ds.isEmpty)
 | .dict _=>none
theorem rep_empty {K:PySem.W.Frag} {G:Hp} {vs:List V} {ds:List PyData} (r:RepAll K G vs ds):ds.isEmpty=vs.isEmpty:=by
 have h:=r.length
 cases vs<;>cases ds<;>simp at h ⊢
theorem tru_rep {K:PySem.W.Frag} {G H:Hp} {v:V} {d:PyData} {t:Bool} (s:aX G H) (r:Rep K G v d) (h:truD d=some t):TruV K v H t:=by
 cases r with
 | none=>exact (Option.some.inj h).symm
 | bool b=>exact (Option.some.inj h).symm
 | int i=>exact (Option.some.inj h).symm
 | str x=>
  have h:(if cZ x.length=true then some ((x.length:Int) != 0) else none)=some t:=h
  split at h
  ·rename_i z;exact ⟨fM z,(Option.some.inj h).symm⟩
  ·cases h
 | list hq r=>exact .inl ⟨_,s.seq hq,by rw [←rep_empty r];exact (Option.some.inj h).symm⟩
 | tuple hq r=>exact .inr (.inl ⟨_,nM s hq,by rw [←rep_empty r];exact (Option.some.inj h).symm⟩)
 | dict _ _ _=>cases h
def truT (fa:EF):TF:=fun ρ=>bnd (fa ρ) fun x=>lft (truD x)
theorem dt_tru (ha:DE X a fa) (he:∀ whole,isTrue a X.env whole=(do let v ←whole;standAt a.pos;holding [v] (truthy v)):=by intro _;rfl):DT X a (truT fa):=
 ⟨fun pins s σ H Q I ⟨ρ,r,H0,G₀,G,e,R,q⟩=>pt_truth ha.run he pins s σ H Q I (bE R e q.x fun x v G1 H1 g1 R1 rv e1=>by
  obtain ⟨t,et,rfl⟩:=bI e1
  exact ⟨t,tru_rep g1.sub rv et,q _ _ g1⟩)⟩
def notT (ft:TF):TF:=fun ρ=>bnd (ft ρ) fun t=>some (.ok (!t))
theorem dt_not (ha:DT X a ft):DT X (.UnaryOp .Not a pos) (notT ft):=
 ⟨fun pins s σ H Q I ⟨ρ,r,H0,G₀,G,e,R,q⟩=>pt_not ha.run pins s σ H Q I (bT R e q.x fun t G1 H1 g1 R1 e1=>by
  cases (Option.some.inj e1);exact q _ _ g1)⟩
def lG:PyData→Option Bool
 | .bool b=>some b
 | _=>none
def notE (fa:EF):EF:=fun ρ=>bnd (fa ρ) fun x=>lft ((lG x).map fun t=>.bool (!t))
theorem boolD_is {d:PyData} {t:Bool} (h:lG d=some t):d=.bool t:=by
 cases d<;>first | (cases h;done) | (cases (Option.some.inj h);rfl)
theorem de_not (ha:DE X a fa):DE X (.UnaryOp .Not a pos) (notE fa):=
 ⟨fun pins s σ H Q I ⟨ρ,r,H0,G₀,G,e,R,q⟩=>pe_not ha.run pins s σ H Q I (bE R e q.x fun x v G1 H1 g1 R1 rv e1=>by
  obtain ⟨d,ed,rfl⟩:=bI e1
  obtain ⟨t,et,rfl⟩:=Option.map_eq_some_iff.mp ed
  cases boolD_is et
  cases rv
  exact ⟨_,rfl,q _ _ _ g1 (.bool _)⟩)⟩
def andT (f g:TF):TF:=fun ρ=>bnd (f ρ) fun t=>if t then g ρ else some (.ok false)
def orT (f g:TF):TF:=fun ρ=>bnd (f ρ) fun t=>if t then some (.ok true) else g ρ
theorem dw_and1 (ha:DT X a ft):DW X (.BoolOp .And [a] pos) ft:=⟨pw_and1 ha.run⟩
theorem dw_or1 (ha:DT X a ft):DW X (.BoolOp .Or [a] pos) ft:=⟨pw_or1 ha.run⟩
theorem dw_and (ha:DT X a ft) (hb:DW X (.BoolOp .And (b::rest) pos) fu):DW X (.BoolOp .And (a::b::rest) pos) (andT ft fu):=
 ⟨fun wh pins s σ H Q I ⟨ρ,r,H0,G₀,G,e,R,q⟩=>pw_and ha.run hb.run wh pins s σ H Q I (bT R e q.x fun t G1 H1 g1 R1 e1=>by
  cases t with
  | true=>rw [if_pos rfl] at e1 ⊢;exact ⟨ρ,r,H0,G₀,G1,e1,R1,q.more g1⟩
  | false=>rw [if_neg (by decide)] at e1 ⊢;cases (Option.some.inj e1);exact q _ _ g1)⟩
theorem dw_or (ha:DT X a ft) (hb:DW X (.BoolOp .Or (b::rest) pos) fu):DW X (.BoolOp .Or (a::b::rest) pos) (orT ft fu):=
 ⟨fun wh pins s σ H Q I ⟨ρ,r,H0,G₀,G,e,R,q⟩=>pw_or ha.run hb.run wh pins s σ H Q I (bT R e q.x fun t G1 H1 g1 R1 e1=>by
  cases t with
  | true=>rw [if_pos rfl] at e1 ⊢;cases (Option.some.inj e1);exact q _ _ g1
  | false=>rw [if_neg (by decide)] at e1 ⊢;exact ⟨ρ,r,H0,G₀,G1,e1,R1,q.more g1⟩)⟩
theorem DW.dt (h:DW X e ft):DT X e ft:=⟨h.run _⟩
def andE (f g:EF):EF:=fun ρ=>bnd (f ρ) fun x=>bnd (lft (lG x)) fun t=>if t then g ρ else some (.ok (.bool false))
def orE (f g:EF):EF:=fun ρ=>bnd (f ρ) fun x=>bnd (lft (lG x)) fun t=>if t then some (.ok (.bool true)) else g ρ
theorem de_one {op} (ha:DE X a fa):DE X (.BoolOp op [a] pos) fa:=⟨pe_one ha.run⟩
theorem de_and (ha:DE X a fa) (hb:DE X (.BoolOp .And (b::rest) pos) fb):DE X (.BoolOp .And (a::b::rest) pos) (andE fa fb):=
 ⟨fun pins s σ H Q I ⟨ρ,r,H0,G₀,G,e,R,q⟩=>pe_and ha.run hb.run pins s σ H Q I (bE R e q.x fun x v G1 H1 g1 R1 rv e1=>by
  rcases eF e1 with ⟨t,et,e2⟩ | ⟨c,et,_⟩
  ·obtain ⟨t',et',z⟩:=bI et
   cases z
   cases boolD_is et'
   cases rv
   refine ⟨t,rfl,?_⟩
   cases t with
   | true=>rw [if_pos rfl] at e2 ⊢;exact ⟨ρ,r,H0,G₀,G1,e2,R1,q.more g1⟩
   | false=>rw [if_neg (by decide)] at e2 ⊢;cases (Option.some.inj e2);exact q _ _ _ g1 (.bool _)
  ·obtain ⟨_,_,z⟩:=bI et;cases z)⟩
def ifE (f:TF) (fa fb:EF):EF:=fun ρ=>bnd (f ρ) fun t=>if t then fa ρ else fb ρ
def ixD (x i:PyData):Option PyData:=match x,i with
 | .tuple ds,.int k=>atI ds k
 | .list ds,.int k=>atI ds k
 | .str z,.int k=>if cZ z.length then (atI z.cps.toList k).map fun c=>.str ⟨#[c]⟩ else none
 | _,_=>none
theorem ixD_rep {K:PySem.W.Frag} {G H:Hp} {v u:V} {x i d:PyData} {Q:VK} (s:aX G H) (rv:Rep K G v x) (ru:Rep K G u i) (h:ixD x i=some d) (q:∀ w,Rep K G w d→Q w H):rIx K v u H Q:=by
 cases ru with
 | int k=>
  cases rv with
  | tuple hq r=>
   obtain ⟨w,e,rw'⟩:=atI_rep r (show atI _ k=some d from h)
   exact .inr (.inl ⟨_,_,_,w,rfl,rfl,nM s hq,e,q w rw'⟩)
  | list hq r=>
   obtain ⟨w,e,rw'⟩:=atI_rep r (show atI _ k=some d from h)
   exact .inl ⟨_,_,_,w,rfl,rfl,s.seq hq,e,q w rw'⟩
  | str z=>
   have h:(if cZ z.length=true then (atI z.cps.toList k).map fun c=>PyData.str ⟨#[c]⟩ else none)=some d:=h
   split at h
   ·rename_i hz
    obtain ⟨c,ec,rfl⟩:=Option.map_eq_some_iff.mp h
    exact .inr (.inr ⟨_,_,c,rfl,rfl,fM hz,ec,q _ (.str _)⟩)
   ·cases h
  | none=>cases h
  | bool b=>cases h
  | int j=>cases h
  | dict _ _ _=>cases h
 | none=>cases rv<;>cases h
 | bool b=>cases rv<;>cases h
 | str b=>cases rv<;>cases h
 | list _ _=>cases rv<;>cases h
 | tuple _ _=>cases rv<;>cases h
 | dict _ _ _=>cases rv<;>cases h
theorem bN (ha:DE X a fa) (hb:DE X b fb) (hs:PlainIx b:=by exact fun _ _=>rfl):DE X (.Subscript a b pos) (op2 ixD fa fb):=
 ⟨fun pins s σ H Q I ⟨ρ,r,H0,G₀,G,e,R,q⟩=>pe_ix ix_seq ha.run hb.run hs pins s σ H Q I (bE R e q.x fun x v G1 H1 g1 R1 rv e1=>bE R1 e1 (q.more g1).x fun y u G2 H2 g2 R2 ru e2=>by
  obtain ⟨d,ed,rfl⟩:=bI e2
  exact ixD_rep g2.sub (rv.mono g2.gg) ru ed fun w rw'=>q w _ _ (g1.trans g2) rw')⟩
structure CallD (X:Cx) (f:Value) (ds:List PyData) (d:PyData):Prop where
 ex:∃ r:List V→Hp→VK→Prop,eB X f r∧∀ vs G H Q,aX G H→RepAll X.K G vs ds→(∀ w G' H',Grow G H G' H'→Rep X.K G' w d→Q w H')→r vs H Q
theorem callR_any {f:Value}:eB X f (fun vs H Q=>∃ r,eB X f r∧r vs H Q):=fun pins s σ H vs us Q I rx ⟨_,h,q⟩=>h pins s σ H vs us Q I rx q
def dP (g:List PyData→Option PyData) (fa:AF):EF:=fun ρ=>bnd (fa ρ) fun xs=>lft (g xs)
theorem bS {id:String} {x:Str} {g:List PyData→Option PyData} {f:AF} (hd:∀ ds d,g ds=some d→CallD X (.builtin id) ds d) (hm:X.mg x=none) (hv:bootBuiltins x=some (.builtin id)) (ha:DA X (e::es) f) (hg:Gl X x:=by rfl)
  (hn:x ≠ "__name__":=by decide) (hdb:(x==("__debug__" : Str))=false:=by decide)
  (he:starEach (e::es) X.env=(false,eval e X.env)::starEach es X.env:=by rfl) (hpl:(backTo pos (starEach es X.env)).any (·.1)=false:=by rfl):DE X (.Call (.Name x p) (e::es) [] pos) (dP g f):=
 ⟨fun pins s σ H Q I ⟨ρ,r,H0,G₀,G,e,R,q⟩=>pe_callB callR_any hg hm hv ha.run hn hdb he hpl pins s σ H Q I (bA R e q.x fun xs vs G1 H1 g1 R1 rv e1=>by
  obtain ⟨d,ed,rfl⟩:=bI e1
  obtain ⟨r,h1,h2⟩:=(hd xs d ed).ex
  exact ⟨r,h1,h2 vs G1 H1 Q g1.sub rv fun w G' H' g' rw'=>q w G' H' (g1.trans g') rw'⟩)⟩
theorem mJ {T:String} {x:Str} {g:List PyData→Option PyData} {f:AF} (hd:∀ ds d,g ds=some d→CallD X (.type T) ds d) (hm:X.mg x=none) (hv:bootBuiltins x=some (.type T)) (ha:DA X (e::es) f) (hg:Gl X x:=by rfl)
  (hn:x ≠ "__name__":=by decide) (hdb:(x==("__debug__" : Str))=false:=by decide)
  (he:starEach (e::es) X.env=(false,eval e X.env)::starEach es X.env:=by rfl) (hpl:(backTo pos (starEach es X.env)).any (·.1)=false:=by rfl):DE X (.Call (.Name x p) (e::es) [] pos) (dP g f):=
 ⟨fun pins s σ H Q I ⟨ρ,r,H0,G₀,G,e,R,q⟩=>pe_callTy callR_any hg hm hv ha.run hn hdb he hpl pins s σ H Q I (bA R e q.x fun xs vs G1 H1 g1 R1 rv e1=>by
  obtain ⟨d,ed,rfl⟩:=bI e1
  obtain ⟨r,h1,h2⟩:=(hd xs d ed).ex
  exact ⟨r,h1,h2 vs G1 H1 Q g1.sub rv fun w G' H' g' rw'=>q w G' H' (g1.trans g') rw'⟩)⟩
def gP:Ent→Ent
 | .lst ds=>.val (.list ds)
 | .dct kvs=>.val (.dict (kvs.map fun p=>(bF p.1,p.2)))
 | e=>e
def frzAll (ρ:List Ent):List Ent:=ρ.map gP
def gN:PyData→Bool
 | .none=>true
 | .bool _=>true
 | .int _=>true
 | .str _=>true
 | _=>false
theorem Rep.plain {K:PySem.W.Frag} {G G':Hp} {v:V} {d:PyData} (h:gN d=true) (r:Rep K G v d):Rep K G' v d:=by
 cases r with
 | none=>exact .none
 | bool b=>exact .bool b
 | int i=>exact .int i
 | str x=>exact .str x
 | list _ _=>cases h
 | tuple _ _=>cases h
 | dict _ _ _=>cases h
end
end L2.L3
namespace L2.L3
open PySem PySem.Spec PyProof.Rows
section
variable {K:PySem.W.Frag} {H0 G₀ G H:Hp} {σ:St} {ρ:List Ent}
theorem frz_step (ρ:List Ent) (n:Nat):(∃ e,ρ[n]?=some e∧(ρ.take (n+1)).map gP++ρ.drop (n+1)=((ρ.take n).map gP++ρ.drop n).set n (gP e))∨(ρ[n]?=none∧(ρ.take (n+1)).map gP++ρ.drop (n+1)=(ρ.take n).map gP++ρ.drop n):=by
 by_cases hn:n<ρ.length
 ·refine .inl ⟨ρ[n],by simp [hn],?_⟩
  apply List.ext_getElem?
  intro j
  rw [List.getElem?_set]
  by_cases hj:j<n
  ·rw [if_neg (by omega),List.getElem?_append_left (by simp;omega),List.getElem?_append_left (by simp;omega),List.getElem?_map,List.getElem?_map,List.getElem?_take_of_lt (by omega),List.getElem?_take_of_lt (by omega)]
  ·by_cases hj2:j=n
   ·subst hj2
    rw [if_pos rfl,if_pos (by simp;omega),List.getElem?_append_left (by simp;omega),List.getElem?_map,List.getElem?_take_of_lt (by omega)]
    simp [hn]
   ·rw [if_neg (by omega),List.getElem?_append_right (by simp;omega),List.getElem?_append_right (by simp;omega),List.getElem?_drop,List.getElem?_drop]
    simp only [List.length_map,List.length_take]
    congr 1
    omega
 ·refine .inr ⟨by simp;omega,?_⟩
  rw [List.take_of_length_le (by omega),List.take_of_length_le (by omega),List.drop_of_length_le (by omega),List.drop_of_length_le (by omega)]
theorem RepS.frzTo (R:RepS K H0 G₀ G H σ ρ):∀ n:Nat,∃ G',aX G G'∧RepS K H0 G₀ G' H σ ((ρ.take n).map gP++ρ.drop n)
 | 0=>⟨G,.refl _,by simpa using R⟩
 | n+1=>by
  obtain ⟨G1,s1,R1⟩:=R.frzTo n
  rcases frz_step ρ n with ⟨e,he,eq⟩ | ⟨_,eq⟩
  ·have hn:n<ρ.length:=(List.getElem?_eq_some_iff.mp he).1
   have at':((ρ.take n).map gP++ρ.drop n)[n]?=some e:=by
    rw [List.getElem?_append_right (by simp;omega),List.getElem?_drop]
    simp only [List.length_map,List.length_take]
    rw [show n+(n - min n ρ.length)=n by omega]
    exact he
   rw [eq]
   cases e with
   | lst ds=>
    obtain ⟨G2,s2,R2⟩:=R1.freeze at'
    exact ⟨G2,s1.trans s2,R2⟩
   | dct kvs=>
    obtain ⟨G2,s2,R2⟩:=R1.freezeD at'
    exact ⟨G2,s1.trans s2,R2⟩
   | val d=>
    refine ⟨G1,s1,?_⟩
    have:((ρ.take n).map gP++ρ.drop n).set n (gP (.val d))=(ρ.take n).map gP++ρ.drop n:=by
     apply List.ext_getElem?
     intro j
     rw [List.getElem?_set]
     split
     ·rename_i h;subst h
      rw [at']
      have:=(List.getElem?_eq_some_iff.mp at').1
      rw [if_pos this];rfl
     ·rfl
    rw [this];exact R1
   | no=>
    refine ⟨G1,s1,?_⟩
    have:((ρ.take n).map gP++ρ.drop n).set n (gP .no)=(ρ.take n).map gP++ρ.drop n:=by
     apply List.ext_getElem?
     intro j
     rw [List.getElem?_set]
     split
     ·rename_i h;subst h
      rw [at']
      have:=(List.getElem?_eq_some_iff.mp at').1
      rw [if_pos this];rfl
     ·rfl
    rw [this];exact R1
   | exc c=>
    refine ⟨G1,s1,?_⟩
    have:((ρ.take n).map gP++ρ.drop n).set n (gP (.exc c))=(ρ.take n).map gP++ρ.drop n:=by
     apply List.ext_getElem?
     intro j
     rw [List.getElem?_set]
     split
     ·rename_i h;subst h
      rw [at']
      have:=(List.getElem?_eq_some_iff.mp at').1
      rw [if_pos this];rfl
     ·rfl
    rw [this];exact R1
   | nst dss=>
    refine ⟨G1,s1,?_⟩
    have:((ρ.take n).map gP++ρ.drop n).set n (gP (.nst dss))=(ρ.take n).map gP++ρ.drop n:=by
     apply List.ext_getElem?
     intro j
     rw [List.getElem?_set]
     split
     ·rename_i h;subst h
      rw [at']
      have:=(List.getElem?_eq_some_iff.mp at').1
      rw [if_pos this];rfl
     ·rfl
    rw [this];exact R1
  ·rw [eq];exact ⟨G1,s1,R1⟩
theorem RepS.frzAll (R:RepS K H0 G₀ G H σ ρ):∃ G',aX G G'∧RepS K H0 G₀ G' H σ (frzAll ρ):=by
 obtain ⟨G',s,R'⟩:=R.frzTo ρ.length
 refine ⟨G',s,?_⟩
 have:(ρ.take ρ.length).map gP++ρ.drop ρ.length=L3.frzAll ρ:=by simp [L3.frzAll]
 rw [this] at R'
 exact R'
end
section
variable {X:Cx} {e a b c:Expr} {es rest:List Expr} {pos p:Pos} {fa fb fc:EF} {ft fu:TF}
def thT (f:TF):TF:=fun ρ=>match f (frzAll ρ) with
 | some (.ok b)=>some (.ok b)
 | _=>none
def thE (f:EF):EF:=fun ρ=>match f (frzAll ρ) with
 | some (.ok d)=>if gN d then some (.ok d) else none
 | _=>none
theorem dt_th (h:DT X e ft):DT X e (thT ft):=⟨fun pins s σ H Q I ⟨ρ,r,H0,G₀,G,ef,R,q⟩=>by
 unfold thT at ef
 split at ef
 ·rename_i b eb
  cases (Option.some.inj ef)
  obtain ⟨G',s',R'⟩:=R.frzAll
  exact h.run pins s σ H Q I ⟨_,_,H0,G₀,G',eb,R',fun G2 H2 g2=>q G H2 ⟨.refl _,g2.hh,s'.trans (g2.gg.trans g2.sub),fun _ z _=>z,id⟩⟩
 ·cases ef⟩
theorem de_th (h:DE X e fa):DE X e (thE fa):=⟨fun pins s σ H Q I ⟨ρ,r,H0,G₀,G,ef,R,q⟩=>by
 unfold thE at ef
 split at ef
 ·rename_i d eb
  split at ef
  ·rename_i hp
   cases (Option.some.inj ef)
   obtain ⟨G',s',R'⟩:=R.frzAll
   exact h.run pins s σ H Q I ⟨_,_,H0,G₀,G',eb,R',fun v G2 H2 g2 rv=>q v G H2 ⟨.refl _,g2.hh,s'.trans (g2.gg.trans g2.sub),fun _ z _=>z,id⟩ (rv.plain hp)⟩
  ·cases ef
 ·cases ef⟩
end
inductive So where
 | nx (ρ:List Ent)
 | rt (d:PyData)
 | bk (ρ:List Ent)
 | ct (ρ:List Ent)
 | xc (c:Str) (ρ:List Ent)
abbrev SF:=List Ent→Option So
def bns {α:Type} (m:Mm α) (ρ:List Ent) (k:α→Option So):Option So:=match m with
 | some (.ok a)=>k a
 | some (.ex c)=>some (.xc c ρ)
 | none=>none
theorem mK {α:Type} {m:Mm α} {ρ:List Ent} {k:α→Option So} {r:So} (h:bns m ρ k=some r):(∃ a,m=some (.ok a)∧k a=some r)∨∃ c,m=some (.ex c)∧r=.xc c ρ:=by
 match m,h with
 | some (.ok a),h=>exact .inl ⟨a,rfl,h⟩
 | some (.ex c),h=>exact .inr ⟨c,rfl,(Option.some.inj h).symm⟩
 | none,h=>cases h
def EndS (X:Cx) (H0 G₀ G:Hp) (D:Ends):So→Prop
 | .nx ρ=>∀ G' H' σ',aX G G'→RepS X.K H0 G₀ G' H' σ' ρ→D.nx σ' H'
 | .rt d=>∀ v G' H',aX G G'→Grow G₀ H0 G' H'→Rep X.K G' v d→D.rt v H'
 | .bk ρ=>∀ G' H' σ',aX G G'→RepS X.K H0 G₀ G' H' σ' ρ→D.bk σ' H'
 | .ct ρ=>∀ G' H' σ',aX G G'→RepS X.K H0 G₀ G' H' σ' ρ→D.ct σ' H'
 | .xc c ρ=>kZ X H0 G₀ G ρ c
theorem EndS.mono {X:Cx} {H0 G₀ G G':Hp} {D:Ends} {o:So} (h:EndS X H0 G₀ G D o) (s:aX G G'):EndS X H0 G₀ G' D o:=by
 cases o with
 | nx ρ=>exact fun G2 H' σ' s2 R=>h G2 H' σ' (s.trans s2) R
 | rt d=>exact fun v G2 H' s2 g r=>h v G2 H' (s.trans s2) g r
 | bk ρ=>exact fun G2 H' σ' s2 R=>h G2 H' σ' (s.trans s2) R
 | ct ρ=>exact fun G2 H' σ' s2 R=>h G2 H' σ' (s.trans s2) R
 | xc c ρ=>exact kZ.mono h s
def rS (X:Cx) (f:SF):TS:=fun D σ H=>∃ ρ o H0 G₀ G,f ρ=some o∧RepS X.K H0 G₀ G H σ ρ∧EndS X H0 G₀ G D o
structure DS (X:Cx) (st:Stmt) (f:SF):Prop where
 run:PS X st (rS X f)
structure DB (X:Cx) (sts:List Stmt) (f:SF):Prop where
 run:PSs X sts (rS X f)
section
variable {X:Cx} {H0 G₀ G H:Hp} {ρ:List Ent} {σ:St} {D:Ends} {o:So}
theorem sE {fa:EF} {k:PyData→Option So} (R:RepS X.K H0 G₀ G H σ ρ) (e:bns (fa ρ) ρ k=some o) (q:EndS X H0 G₀ G D o) {T:VK}
  (h:∀ x v G1 H1,Grow G H G1 H1→RepS X.K H0 G₀ G1 H1 σ ρ→Rep X.K G1 v x→k x=some o→EndS X H0 G₀ G1 D o→T v H1):rE X fa σ H T:=by
 rcases mK e with ⟨x,e1,e2⟩ | ⟨c,e1,e2⟩
 ·exact ⟨ρ,_,H0,G₀,G,e1,R,fun v G1 H1 g1 rv=>h x v G1 H1 g1 (R.more g1) rv e2 (q.mono g1.gg)⟩
 ·subst e2;exact ⟨ρ,_,H0,G₀,G,e1,R,q⟩
theorem sA {fa:AF} {k:List PyData→Option So} (R:RepS X.K H0 G₀ G H σ ρ) (e:bns (fa ρ) ρ k=some o) (q:EndS X H0 G₀ G D o) {T:List V→Hp→Prop}
  (h:∀ x v G1 H1,Grow G H G1 H1→RepS X.K H0 G₀ G1 H1 σ ρ→RepAll X.K G1 v x→k x=some o→EndS X H0 G₀ G1 D o→T v H1):rA X fa σ H T:=by
 rcases mK e with ⟨x,e1,e2⟩ | ⟨c,e1,e2⟩
 ·exact ⟨ρ,_,H0,G₀,G,e1,R,fun v G1 H1 g1 rv=>h x v G1 H1 g1 (R.more g1) rv e2 (q.mono g1.gg)⟩
 ·subst e2;exact ⟨ρ,_,H0,G₀,G,e1,R,q⟩
theorem sT {fa:TF} {k:Bool→Option So} (R:RepS X.K H0 G₀ G H σ ρ) (e:bns (fa ρ) ρ k=some o) (q:EndS X H0 G₀ G D o) {T:Bool→Hp→Prop}
  (h:∀ x G1 H1,Grow G H G1 H1→RepS X.K H0 G₀ G1 H1 σ ρ→k x=some o→EndS X H0 G₀ G1 D o→T x H1):rT X fa σ H T:=by
 rcases mK e with ⟨x,e1,e2⟩ | ⟨c,e1,e2⟩
 ·exact ⟨ρ,_,H0,G₀,G,e1,R,fun G1 H1 g1=>h x G1 H1 g1 (R.more g1) e2 (q.mono g1.gg)⟩
 ·subst e2;exact ⟨ρ,_,H0,G₀,G,e1,R,q⟩
end
section
variable {X:Cx} {st:Stmt} {rest:List Stmt} {f g:SF} {fa fb:EF} {ft:TF} {e c b:Expr} {pos:Pos}
def mZ:SF:=fun ρ=>some (.nx ρ)
def aY (f g:SF):SF:=fun ρ=>match f ρ with
 | some (.nx ρ')=>g ρ'
 | r=>r
theorem gT:DB X [] mZ:=⟨fun pins s σ H D I ⟨ρ,o,H0,G₀,G,e,R,q⟩=>pss_nil pins s σ H D I (by cases (Option.some.inj e);exact q G H σ (.refl _) R)⟩
theorem aL (h1:DS X st f) (h2:DB X rest g):DB X (st::rest) (aY f g):=⟨fun pins s σ H D I ⟨ρ,o,H0,G₀,G,e,R,q⟩=>by
 unfold aY at e
 split at e
 ·rename_i ρ' e1
  refine wpAny_execs_cons (thn (h1.run pins s σ H { D with nx:=fun σ' H'=>rS X g D σ' H' } I ⟨ρ,_,H0,G₀,G,e1,R,fun G' H' σ' s' R'=>⟨ρ',o,H0,G₀,G',e,R',q.mono s'⟩⟩) fun fl s1 z=>?_)
  cases fl with
  | next=>obtain ⟨σ',H',I',z⟩:=z;exact h2.run pins s1 σ' H' D I' z
  | ret v=>exact z
  | brk=>exact z
  | cont=>exact z
 ·rename_i z
  have hn:∀ ρ',o≠.nx ρ':=fun ρ' w=>z ρ' (by rw [e,w])
  have q':EndS X H0 G₀ G { D with nx:=fun _ _=>False } o:=by
   cases o with
   | nx ρ'=>exact absurd rfl (hn ρ')
   | rt d=>exact q
   | bk ρ'=>exact q
   | ct ρ'=>exact q
   | xc c ρ'=>exact q
  refine wpAny_execs_cons (thn (h1.run pins s σ H { D with nx:=fun _ _=>False } I ⟨ρ,o,H0,G₀,G,e,R,q'⟩) fun fl s1 z=>?_)
  cases fl with
  | next=>obtain ⟨_,_,_,z⟩:=z;exact z.elim
  | ret v=>exact z
  | brk=>exact z
  | cont=>exact z⟩
theorem aO (h:DS X st f):DB X [st] f:=⟨pss_one h.run⟩
def frzS (i:Nat) (f:SF):SF:=fun ρ=>match ρ[i]? with
 | some (.lst ds)=>f (ρ.set i (.val (.list ds)))
 | some (.dct kvs)=>f (ρ.set i (.val (.dict (kvs.map fun p=>(bF p.1,p.2)))))
 | _=>f ρ
theorem db_frz (i:Nat) (h:DB X rest f):DB X rest (frzS i f):=⟨fun pins s σ H D I ⟨ρ,o,H0,G₀,G,e,R,q⟩=>by
 unfold frzS at e
 split at e
 ·rename_i ds hi
  obtain ⟨G',s',R'⟩:=R.freeze hi
  exact h.run pins s σ H D I ⟨_,o,H0,G₀,G',e,R',q.mono s'⟩
 ·rename_i kvs hi
  obtain ⟨G',s',R'⟩:=R.freezeD hi
  exact h.run pins s σ H D I ⟨_,o,H0,G₀,G',e,R',q.mono s'⟩
 ·exact h.run pins s σ H D I ⟨ρ,o,H0,G₀,G,e,R,q⟩⟩
def retS (fa:EF):SF:=fun ρ=>bns (fa ρ) ρ fun d=>some (.rt d)
theorem aT (h:DE X e fa):DS X (.Return (some e) pos) (retS fa):=⟨fun pins s σ H D I ⟨ρ,o,H0,G₀,G,e,R,q⟩=>ps_ret h.run pins s σ H D I (sE R e q fun x v G1 H1 g1 R1 rv e1 q1=>by
 cases (Option.some.inj e1);exact q1 v G1 H1 (.refl _) R1.grow rv)⟩
def exprS (fa:EF):SF:=fun ρ=>bns (fa ρ) ρ fun _=>some (.nx ρ)
theorem ds_expr (h:DE X e fa) (hs:swapsWith e none pos.line X.env=pure false:=by rfl):DS X (.Expr e pos) (exprS fa):=⟨fun pins s σ H D I ⟨ρ,o,H0,G₀,G,e,R,q⟩=>ps_expr h.run hs pins s σ H D I (sE R e q fun x v G1 H1 g1 R1 rv e1 q1=>by
 cases (Option.some.inj e1);exact q1 G1 H1 σ (.refl _) R1)⟩
def ifS (ft:TF) (f g:SF):SF:=fun ρ=>bns (ft ρ) ρ fun t=>if t then f ρ else g ρ
theorem kC {x y:List Stmt} (hc:DT X c ft) (ha:DB X x f) (hb:DB X y g):DS X (.If c x y pos) (ifS ft f g):=⟨fun pins s σ H D I ⟨ρ,o,H0,G₀,G,e,R,q⟩=>ps_if hc.run ha.run hb.run pins s σ H D I (sT R e q fun t G1 H1 g1 R1 e1 q1=>by
 cases t with
 | true=>rw [if_pos rfl] at e1 ⊢;exact ⟨ρ,o,H0,G₀,G1,e1,R1,q1⟩
 | false=>rw [if_neg (by decide)] at e1 ⊢;exact ⟨ρ,o,H0,G₀,G1,e1,R1,q1⟩)⟩
def fP (i:Nat) (fa:EF):SF:=fun ρ=>bns (fa ρ) ρ fun d=>some (.nx (ρ.set i (.val d)))
theorem dF (i:Nat) {x:Str} {p:Pos} (hN:X.N.Nodup) (h:DE X e fa) (hi:X.N[i]?=some x:=by rfl) (hx:Loc X.env.scope x:=by first | exact Or.inl rfl | exact Or.inr rfl)
  (hs:swapsWith e (some (.Name x p)) pos.line X.env=pure false:=by rfl) (hf:X.fn x=true∨X.env.scope.names.lookup x=some .local:=by first | exact .inl rfl | exact .inr rfl) :
  DS X (.Assign [.Name x p] e pos) (fP i fa):=⟨fun pins s σ H D I ⟨ρ,o,H0,G₀,G,e,R,q⟩=>ps_set hN hi hx h.run hs hf pins s σ H D I (sE R e q fun x v G1 H1 g1 R1 rv e1 q1=>by
 cases (Option.some.inj e1);exact q1 G1 H1 _ (.refl _) (R1.set rv))⟩
def newS (i:Nat) (f:AF):SF:=fun ρ=>bns (f ρ) ρ fun ds=>if cZ ds.length then some (.nx (ρ.set i (.lst ds))) else none
theorem ds_new (i:Nat) {x:Str} {p p2:Pos} {es:List Expr} {f:AF} (hN:X.N.Nodup) (h:DA X es f) (hi:X.N[i]?=some x:=by rfl) (hx:Loc X.env.scope x:=by first | exact Or.inl rfl | exact Or.inr rfl)
  (hs:swapsWith (.List es p2) (some (.Name x p)) pos.line X.env=pure false:=by rfl) (hf:X.fn x=true∨X.env.scope.names.lookup x=some .local:=by first | exact .inl rfl | exact .inr rfl) :
  DS X (.Assign [.Name x p] (.List es p2) pos) (newS i f):=⟨fun pins s σ H D I ⟨ρ,o,H0,G₀,G,e,R,q⟩=>ps_set hN hi hx (pe_lst h.run) hs hf pins s σ H D I (sA R e q fun ds vs G1 H1 g1 R1 rv e1 q1=>by
 split at e1
 ·rename_i hz
  cases (Option.some.inj e1)
  exact ⟨by rw [rv.length];exact fM hz,fun a ha=>q1 G1 _ _ (.refl _) (R1.fresh ha rv)⟩
 ·cases e1)⟩
def appS (i:Nat) (fa:EF):SF:=fun ρ=>match ρ[i]? with
 | some (.lst ds)=>bns (fa ρ) ρ fun d=>if cZ ds.length then some (.nx (ρ.set i (.lst (ds++[d])))) else none
 | _=>none
theorem ds_app (i:Nat) {x:Str} {p ap cp:Pos} (h:DE X e fa) (hN:X.N[i]?=some x:=by rfl)
  (hv:Vis X.env.scope x:=by first | exact Or.inl rfl | exact Or.inr (Or.inl rfl) | exact Or.inr (Or.inr rfl)) (hd:(x==("__debug__" : Str))=false:=by decide) (hcd:(x==("__classdict__" : Str))=false:=by decide)
  (hbase:attributeBase (.Name x p) "append" X.env (eval (.Name x p) X.env)=eval (.Name x p) X.env:=by rfl)
  (hfew:((backTo cp (starEach (e::[]) X.env)).all (fun x=>!x.1)&&(backToKw cp (keywordEach [] X.env)).all (fun x=>x.1.isSome)&&decide ((e::[]).length+([]:List Keyword).length+(if ([]:List Keyword).isEmpty then 0 else 1)<30))=true:=by rfl)
  (hline:(ap.endLine==cp.line)=true:=by rfl) (hst:starEach (e::[]) X.env=(false,eval e X.env)::starEach [] X.env:=by rfl) (hplain:(backTo cp (starEach [] X.env)).any (·.1)=false:=by rfl)
  (hsw:swapsWith (.Call (.Attribute (.Name x p) "append" ap) [e] [] cp) none pos.line X.env=pure false:=by rfl) :
  DS X (.Expr (.Call (.Attribute (.Name x p) "append" ap) [e] [] cp) pos) (appS i fa):=⟨fun pins s σ H D I ⟨ρ,o,H0,G₀,G,ef,R,q⟩=>
 ps_expr (pe_bm PySem.F.plainAttrs_list PySem.F.slot_list_append PySem.F.type_list_append mU (iF hN hv hd hcd) (eJ h.run iG hst) hbase hfew hline hst hplain) hsw pins s σ H D I (by
  unfold appS at ef
  split at ef
  ·rename_i ds hi
   obtain ⟨a,xs,e1,h1,h2,h3,r⟩:=R.own hi
   refine ⟨.ref a,e1,.inl ⟨rfl,xs,.of h1⟩,sE R ef q fun d v G1 H1 g1 R1 rv e2 q1=>?_⟩
   split at e2
   ·rename_i hz
    cases (Option.some.inj e2)
    exact ⟨a,xs,v,rfl,rfl,g1.hh.lst h1,by rw [r.length];exact sz_lt hz,q1 G1 _ σ (.refl _) (R1.wrote hi e1 ((r.mono g1.gg).append (.cons rv .nil)))⟩
   ·cases e2
  ·cases ef)⟩
end
end L2.L3
namespace L2.L3
open PySem PySem.Spec PyProof.Rows
section
variable {X:Cx} {st:Stmt} {rest:List Stmt} {f g:SF} {fa fb:EF} {ft:TF} {e c b:Expr} {pos p:Pos}
def augD (op:Operator) (x y:PyData):Option PyData:=match op,x,y with
 | .Add,.int i,.int j=>some (.int (i+j))
 | .Sub,.int i,.int j=>some (.int (i - j))
 | _,_,_=>none
def augS (i:Nat) (op:Operator) (fa:EF):SF:=fun ρ=>match ρ[i]? with
 | some (.val x)=>bns (fa ρ) ρ fun y=>(match augD op x y with | some d=>some (.nx (ρ.set i (.val d))) | none=>none)
 | _=>none
theorem ds_aug (i:Nat) {x:Str} {op:Operator} (hN:X.N.Nodup) (h:DE X e fa) (hi:X.N[i]?=some x:=by rfl) (hx:Loc X.env.scope x:=by first | exact Or.inl rfl | exact Or.inr rfl)
  (hf:X.fn x=true∨X.env.scope.names.lookup x=some .local:=by first | exact .inl rfl | exact .inr rfl) (ho:op=.Add∨op=.Sub:=by first | exact .inl rfl | exact .inr rfl):DS X (.AugAssign (.Name x p) op e pos) (augS i op fa):=by
 rcases ho with rfl | rfl
 ·refine ⟨fun pins s σ H D I ⟨ρ,o,H0,G₀,G,ef,R,q⟩=>ps_aug hN hi hx h.run ip_add hf pins s σ H D I ?_⟩
  unfold augS at ef
  split at ef
  ·rename_i x1 hx1
   obtain ⟨v,ev,rv⟩:=R.val hx1
   refine ⟨v,ev,sE R ef q fun y u G1 H1 g1 R1 ru e1 q1=>?_⟩
   cases rv with
   | int i'=>
    cases ru with
    | int j'=>cases (Option.some.inj e1);exact ⟨_,_,rfl,rfl,q1 G1 H1 _ (.refl _) (R1.set (.int _))⟩
    | none=>cases e1
    | bool _=>cases e1
    | str _=>cases e1
    | list _ _=>cases e1
    | tuple _ _=>cases e1
    | dict _ _ _=>cases e1
   | none=>cases ru<;>cases e1
   | bool _=>cases ru<;>cases e1
   | str _=>cases ru<;>cases e1
   | list _ _=>cases ru<;>cases e1
   | tuple _ _=>cases ru<;>cases e1
   | dict _ _ _=>cases ru<;>cases e1
  ·cases ef
 ·refine ⟨fun pins s σ H D I ⟨ρ,o,H0,G₀,G,ef,R,q⟩=>ps_aug hN hi hx h.run ip_sub hf pins s σ H D I ?_⟩
  unfold augS at ef
  split at ef
  ·rename_i x1 hx1
   obtain ⟨v,ev,rv⟩:=R.val hx1
   refine ⟨v,ev,sE R ef q fun y u G1 H1 g1 R1 ru e1 q1=>?_⟩
   cases rv with
   | int i'=>
    cases ru with
    | int j'=>cases (Option.some.inj e1);exact ⟨_,_,rfl,rfl,q1 G1 H1 _ (.refl _) (R1.set (.int _))⟩
    | none=>cases e1
    | bool _=>cases e1
    | str _=>cases e1
    | list _ _=>cases e1
    | tuple _ _=>cases e1
    | dict _ _ _=>cases e1
   | none=>cases ru<;>cases e1
   | bool _=>cases ru<;>cases e1
   | str _=>cases ru<;>cases e1
   | list _ _=>cases ru<;>cases e1
   | tuple _ _=>cases ru<;>cases e1
   | dict _ _ _=>cases ru<;>cases e1
  ·cases ef
inductive Tg where
 | nm (i:Nat)
 | tp (is:List Nat)
 | nn (i:Nat) (js:List Nat)
def lN:List Ent→List Nat→List PyData→List Ent
 | ρ,i::is,d::ds=>lN (ρ.set i (.val d)) is ds
 | ρ,_,_=>ρ
def tgD (t:Tg) (ρ:List Ent) (d:PyData):Option (List Ent):=match t,d with
 | .nm i,d=>some (ρ.set i (.val d))
 | .tp is,.tuple ds=>if is.length=ds.length then some (lN ρ is ds) else none
 | .nn i js,.tuple [d,.tuple ds]=>if js.length=ds.length then some (lN (ρ.set i (.val d)) js ds) else none
 | _,_=>none
structure DG (X:Cx) (tg:Expr) (t:Tg):Prop where
 run:∀ ρ d ρ',tgD t ρ d=some ρ'→PGD X tg ρ d ρ'
structure DGs (X:Cx) (ts:List Expr) (is:List Nat):Prop where
 run:∀ ρ ds,is.length=ds.length→PGsD X ts ρ ds (lN ρ is ds)
theorem bP (i:Nat) {x:Str} (hN:X.N.Nodup) (hi:X.N[i]?=some x:=by rfl) (hx:Loc X.env.scope x:=by first | exact Or.inl rfl | exact Or.inr rfl) (hf:X.fn x=true∨X.env.scope.names.lookup x=some .local:=by first | exact .inl rfl | exact .inr rfl) :
  DG X (.Name x pos) (.nm i):=⟨fun ρ d ρ' h=>by cases (Option.some.inj h);exact pgd_name i hN hi hx hf⟩
theorem jH:DGs X [] []:=⟨fun ρ ds h=>by
 cases ds with
 | nil=>exact pgsd_nil
 | cons _ _=>cases h⟩
theorem bB (i:Nat) {x:Str} {es:List Expr} {is:List Nat} (hN:X.N.Nodup) (h:DGs X es is) (hi:X.N[i]?=some x:=by rfl) (hx:Loc X.env.scope x:=by first | exact Or.inl rfl | exact Or.inr rfl)
  (hf:X.fn x=true∨X.env.scope.names.lookup x=some .local:=by first | exact .inl rfl | exact .inr rfl)
  (hs:(assignEach (.Name x pos::es) X.env).map (·.2)=assign (.Name x pos) X.env::(assignEach es X.env).map (·.2):=by rfl):DGs X (.Name x pos::es) (i::is):=⟨fun ρ ds hl=>by
 cases ds with
 | nil=>cases hl
 | cons d ds=>exact pgsd_cons (pgd_name i hN hi hx hf) (h.run _ ds (by simpa using hl)) hs⟩
theorem mI {es:List Expr} {is:List Nat} {k:Nat} (hc:X.calm=true) (h:DGs X es is) (hn:(assignEach es X.env).length=is.length:=by rfl) (hst:(assignEach es X.env).findIdx? (·.1)=none:=by rfl):DG X (.Tuple es k pos) (.tp is):=⟨fun ρ d ρ' hq=>by
 cases d with
 | tuple ds=>
  have hq:(if is.length=ds.length then some (lN ρ is ds) else none)=some ρ':=hq
  split at hq
  ·rename_i hl
   cases (Option.some.inj hq)
   exact pgd_tup hc (h.run ρ ds hl) (hn.trans hl) hst
  ·cases hq
 | none=>cases hq
 | bool _=>cases hq
 | int _=>cases hq
 | str _=>cases hq
 | list _=>cases hq
 | dict _=>cases hq⟩
theorem tgD_nn {i:Nat} {js:List Nat} {ρ ρ':List Ent} {d:PyData} (h:tgD (.nn i js) ρ d=some ρ'):∃ a ds,d=.tuple [a,.tuple ds]∧js.length=ds.length∧ρ'=lN (ρ.set i (.val a)) js ds:=by
 unfold tgD at h
 split at h
 ·rename_i e;cases e
 ·rename_i e;cases e
 ·rename_i i' js' a ds e
  cases e
  split at h
  ·rename_i hl;exact ⟨a,ds,rfl,hl,(Option.some.inj h).symm⟩
  ·cases h
 ·cases h
def rG (X:Cx) (t:Tg):TG:=fun v σ H Q=>∃ ρ d ρ' H0 G₀ G,tgD t ρ d=some ρ'∧RepS X.K H0 G₀ G H σ ρ∧Rep X.K G v d∧∀ σ',RepS X.K H0 G₀ G H σ' ρ'→Q σ' H
theorem DG.pg {tg:Expr} {t:Tg} (h:DG X tg t):PG X tg (rG X t):=fun pins s σ H v u Q I r ⟨ρ,d,ρ',H0,G₀,G,e,R,rv,q⟩=>(h.run ρ d ρ' e).run pins s σ H v u Q I r ⟨H0,G₀,G,R,rv,q⟩
def unpS (t:Tg) (fa:EF):SF:=fun ρ=>bns (fa ρ) ρ fun d=>(tgD t ρ d).map So.nx
def EndI (X:Cx) (H0 G₀ G:Hp) (ρ:List Ent) (H:Hp) (R:It→Hp→Prop):Re (List PyData)→Prop
 | .ok ds=>∀ J G' H',Grow G H G' H'→Walk X.K J G' ds→R J H'
 | .ex c=>kZ X H0 G₀ G ρ c
def rIt (X:Cx) (f:AF):TI:=fun σ H R=>∃ ρ r H0 G₀ G,f ρ=some r∧RepS X.K H0 G₀ G H σ ρ∧EndI X H0 G₀ G ρ H R r
structure DI (X:Cx) (tg iter:Expr) (f:AF):Prop where
 run:PI X tg iter (rIt X f)
theorem DI.pid {tg iter:Expr} {f:AF} (h:DI X tg iter f) {ρ:List Ent} {ds:List PyData} (e:f ρ=some (.ok ds)):PID X tg iter ρ ds:=⟨fun pins s σ H R I ⟨H0,G₀,G,S,q⟩=>h.run pins s σ H R I ⟨ρ,_,H0,G₀,G,e,S,q⟩⟩
theorem di_of {tg iter:Expr} {f:AF} (h:∀ ρ r,f ρ=some r→∃ ds,r=.ok ds∧PID X tg iter ρ ds):DI X tg iter f:=⟨fun pins s σ H R I ⟨ρ,r,H0,G₀,G,e,S,q⟩=>by
 obtain ⟨ds,rfl,hp⟩:=h ρ r e
 exact hp.run pins s σ H R I ⟨H0,G₀,G,S,q⟩⟩
def seqD:PyData→Option (List PyData)
 | .list ds=>some ds
 | .tuple ds=>some ds
 | _=>none
def dH (fa:EF):AF:=fun ρ=>bnd (fa ρ) fun x=>lft (seqD x)
theorem bR {tg iter:Expr} (h:DE X iter fa):DI X tg iter (dH fa):=⟨fun pins s σ H R I ⟨ρ,r,H0,G₀,G,e,S,q⟩=>by
 rcases eF e with ⟨x,e1,e2⟩ | ⟨c,e1,e2⟩
 ·obtain ⟨ds,e3,rfl⟩:=bI e2
  cases x with
  | list es=>cases (Option.some.inj e3);exact (pid_list (h.pd e1)).run pins s σ H R I ⟨H0,G₀,G,S,q⟩
  | tuple es=>cases (Option.some.inj e3);exact (pid_tup (h.pd e1)).run pins s σ H R I ⟨H0,G₀,G,S,q⟩
  | none=>cases e3
  | bool _=>cases e3
  | int _=>cases e3
  | str _=>cases e3
  | dict _=>cases e3
 ·subst e2
  exact pi_list h.run pins s σ H R I ⟨ρ,_,H0,G₀,G,e1,S,q⟩⟩
def intD:PyData→Option Int
 | .int i=>some i
 | _=>none
theorem hV {d:PyData} {i:Int} (h:intD d=some i):d=.int i:=by
 cases d<;>first | (cases h;done) | (cases (Option.some.inj h);rfl)
def inRng (n:Int):Bool:=decide (-(2 ^ 62)≤n)&&decide (n<2 ^ 62)
theorem inRng_is {n:Int} (h:inRng n=true):-(2 ^ 62)≤n∧n<2 ^ 62:=by
 unfold inRng at h
 rw [Bool.and_eq_true] at h
 exact ⟨of_decide_eq_true h.1,of_decide_eq_true h.2⟩
def rng1 (fa:EF):AF:=fun ρ=>match fa ρ with
 | some (.ok (.int n))=>if inRng n then some (.ok (gM 0 n.toNat)) else none
 | _=>none
theorem di_rng1 {tg a:Expr} (hm:X.mg "range" = none) (h:DE X a fa) (hs:starEach [a] X.env=[(false,eval a X.env)]:=by rfl) (hs':starEach [a] X.env=(false,eval a X.env)::starEach [] X.env:=by rfl) (hg:Gl X "range":=by rfl) :
  DI X tg (.Call (.Name "range" p) [a] [] pos) (rng1 fa):=di_of fun ρ r e=>by
 unfold rng1 at e
 split at e
 ·rename_i n en
  split at e
  ·rename_i hr
   exact ⟨_,(Option.some.inj e).symm,pid_range1 hm (h.pd en) (inRng_is hr).1 (inRng_is hr).2 hs hs' hg⟩
  ·cases e
 ·cases e
def cU (t:Tg) (fb:SF):List PyData→List Ent→Option So
 | [],ρ=>some (.nx ρ)
 | d::ds,ρ=>match tgD t ρ d with
  | none=>none
  | some ρ1=>(match fb ρ1 with
   | some (.nx ρ2)=>cU t fb ds ρ2
   | some (.ct ρ2)=>cU t fb ds ρ2
   | some (.bk ρ2)=>some (.nx ρ2)
   | some (.rt d)=>some (.rt d)
   | some (.xc c ρ2)=>some (.xc c ρ2)
   | none=>none)
def forS (t:Tg) (fi:AF) (fb:SF):SF:=fun ρ=>bns (fi ρ) ρ fun ds=>cU t fb ds ρ
theorem ds_for {tg iter:Expr} {body:List Stmt} {t:Tg} {fi:AF} (hp:PassesOwn (model X.prog X.w) X.A X.env X.xe) (hc:X.calm=true) (hi:DI X tg iter fi) (hg:DG X tg t) (hb:DB X body g)
  (hs:∀ x,foldedSetIterable iter X.env x=pure x:=by intro _;rfl):DS X (.For tg iter body [] pos) (forS t fi g):=⟨fun pins s σ H D I ⟨ρ,o,H0,G₀,G,ef,R,q⟩=>
 ps_for hp hc hi.run hg.pg hb.run hs pins s σ H D I (by
  rcases mK ef with ⟨ds,e1,e2⟩ | ⟨c,e1,e2⟩
  ·refine ⟨ρ,_,H0,G₀,G,e1,R,fun J G1 H1 g1 wk=>?_⟩
   refine ⟨fun i m σ' H'=>m=ds.length - i∧i≤ds.length∧∃ ρ' G',aX G1 G'∧RepS X.K H0 G₀ G' H' σ' ρ'∧cU t g (ds.drop i) ρ'=some o,⟨ds.length,by simp,Nat.zero_le _,ρ,G1,.refl _,R.more g1,by simpa using e2⟩,?_⟩
   rintro i m σ' H' ⟨rfl,hin,ρ',G',s',R',e'⟩
   obtain ⟨wgo,wstop⟩:=wk i G' H' s' R'.sub
   by_cases hlt:i<ds.length
   ·rw [List.drop_eq_getElem_cons hlt] at e'
    have hx:ds[i]?=some ds[i]:=List.getElem?_eq_getElem hlt
    refine .inr ⟨(wgo _ hx).1,fun σ2 H2=>∃ ρ2 G2,aX G1 G2∧RepS X.K H0 G₀ G2 H2 σ2 ρ2∧cU t g (ds.drop (i+1)) ρ2=some o,?_,fun x H2 y=>?_⟩
    ·rintro σ2 H2 ⟨ρ2,G2,s2,R2,e2⟩
     exact ⟨ds.length - (i+1),by omega,rfl,hlt,ρ2,G2,s2,R2,e2⟩
    ·obtain ⟨G2,g2,rx⟩:=(wgo _ hx).2 x H2 y
     unfold cU at e'
     split at e'
     ·cases e'
     ·rename_i ρ1 et
      refine ⟨ρ',ds[i],ρ1,H0,G₀,G2,et,R'.more g2,rx,fun σ3 R3=>?_⟩
      have sg:aX G1 G2:=s'.trans g2.gg
      split at e'
      ·rename_i ρ2 eb
       exact ⟨ρ1,_,H0,G₀,G2,eb,R3,fun G4 H4 σ4 s4 R4=>⟨ρ2,G4,sg.trans s4,R4,e'⟩⟩
      ·rename_i ρ2 eb
       exact ⟨ρ1,_,H0,G₀,G2,eb,R3,fun G4 H4 σ4 s4 R4=>⟨ρ2,G4,sg.trans s4,R4,e'⟩⟩
      ·rename_i ρ2 eb
       cases (Option.some.inj e')
       exact ⟨ρ1,_,H0,G₀,G2,eb,R3,fun G4 H4 σ4 s4 R4=>q G4 H4 σ4 (g1.gg.trans (sg.trans s4)) R4⟩
      ·rename_i d' eb
       cases (Option.some.inj e')
       exact ⟨ρ1,_,H0,G₀,G2,eb,R3,fun v G4 H4 s4 gr rv=>q v G4 H4 (g1.gg.trans (sg.trans s4)) gr rv⟩
      ·rename_i c' ρ2 eb
       cases (Option.some.inj e')
       exact ⟨ρ1,_,H0,G₀,G2,eb,R3,kZ.mono q (g1.gg.trans sg)⟩
      ·cases e'
   ·have hi':i=ds.length:=by omega
    subst hi'
    rw [List.drop_length] at e'
    cases (Option.some.inj e')
    exact .inl ⟨wstop (Nat.le_refl _),q G' H' σ' (g1.gg.trans s') R'⟩
  ·subst e2
   exact ⟨ρ,_,H0,G₀,G,e1,R,q⟩)⟩
def jK (ft:TF) (fb:SF):Nat→SF
 | 0=>fun _=>none
 | n+1=>fun ρ=>bns (ft ρ) ρ fun t=>if t then (match fb ρ with
   | some (.nx ρ2)=>jK ft fb n ρ2
   | some (.ct ρ2)=>jK ft fb n ρ2
   | some (.bk ρ2)=>some (.nx ρ2)
   | some (.rt d)=>some (.rt d)
   | some (.xc c ρ2)=>some (.xc c ρ2)
   | none=>none) else some (.nx ρ)
theorem ds_while (n:Nat) {body:List Stmt} (hp:PassesOwn (model X.prog X.w) X.A X.env X.xe) (hc:DT X c ft) (hb:DB X body g):DS X (.While c body [] pos) (jK ft g n):=⟨fun pins s σ H D I ⟨ρ,o,H0,G₀,G,ef,R,q⟩=>
 ps_while hp hc.run hb.run pins s σ H D I (by
  refine ⟨fun m σ' H'=>∃ ρ' G',aX G G'∧RepS X.K H0 G₀ G' H' σ' ρ'∧jK ft g m ρ'=some o,⟨n,ρ,G,.refl _,R,ef⟩,?_⟩
  rintro m σ' H' ⟨ρ',G',s',R',e'⟩
  cases m with
  | zero=>cases e'
  | succ m=>
   unfold jK at e'
   refine sT R' e' (q.mono s') fun tt G1 H1 g1 R1 e1 q1=>?_
   cases tt with
   | false=>
    rw [if_neg (by decide)] at e1 ⊢
    cases (Option.some.inj e1)
    exact q1 G1 H1 σ' (.refl _) R1
   | true=>
    rw [if_pos rfl] at e1 ⊢
    refine ⟨fun σ2 H2=>∃ ρ2 G2,aX G G2∧RepS X.K H0 G₀ G2 H2 σ2 ρ2∧jK ft g m ρ2=some o,fun σ2 H2 z=>⟨m,Nat.lt_succ_self m,z⟩,?_⟩
    have sg:aX G G1:=s'.trans g1.gg
    split at e1
    ·rename_i ρ2 eb
     exact ⟨ρ',_,H0,G₀,G1,eb,R1,fun G4 H4 σ4 s4 R4=>⟨ρ2,G4,sg.trans s4,R4,e1⟩⟩
    ·rename_i ρ2 eb
     exact ⟨ρ',_,H0,G₀,G1,eb,R1,fun G4 H4 σ4 s4 R4=>⟨ρ2,G4,sg.trans s4,R4,e1⟩⟩
    ·rename_i ρ2 eb
     cases (Option.some.inj e1)
     exact ⟨ρ',_,H0,G₀,G1,eb,R1,fun G4 H4 σ4 s4 R4=>q1 G4 H4 σ4 s4 R4⟩
    ·rename_i d' eb
     cases (Option.some.inj e1)
     exact ⟨ρ',_,H0,G₀,G1,eb,R1,fun v G4 H4 s4 gr rv=>q1 v G4 H4 s4 gr rv⟩
    ·rename_i c' ρ2 eb
     cases (Option.some.inj e1)
     exact ⟨ρ',_,H0,G₀,G1,eb,R1,q1⟩
    ·cases e1)⟩
end
end L2.L3
namespace L2.L3
open PySem PySem.Spec PyProof.Rows
def nA (t:Tg) (ρb:List Ent) (ft:TF) (fe:EF):List PyData→Option (List PyData)
 | []=>some []
 | d::ds=>match tgD t ρb d with
  | none=>none
  | some ρx=>(match ft ρx with
   | some (.ok true)=>(match fe ρx with
    | some (.ok v)=>(nA t ρb ft fe ds).map (v::·)
    | _=>none)
   | some (.ok false)=>nA t ρb ft fe ds
   | _=>none)
def cK (t:Tg) (cap:List (Option Nat)) (fi:AF) (ft:TF) (fe:EF):EF:=fun ρ=>bnd (fi ρ) fun ds=>if cZ ds.length then lft ((nA t (bL cap ρ) ft fe ds).map .list) else none
def ttT:TF:=fun _=>some (.ok true)
def cX (t:Tg) (ρb:List Ent) (d:PyData):List Ent:=(tgD t ρb d).getD []
def cT (t:Tg) (ρb:List Ent) (ft:TF) (d:PyData):Bool:=match ft (cX t ρb d) with
 | some (.ok b)=>b
 | _=>false
def cV (t:Tg) (ρb:List Ent) (fe:EF) (d:PyData):PyData:=match fe (cX t ρb d) with
 | some (.ok v)=>v
 | _=>.none
theorem iK {t:Tg} {ρb:List Ent} {ft:TF} {fe:EF}:∀ {ds es:List PyData},nA t ρb ft fe ds=some es →
  (∀ d∈ds,tgD t ρb d=some (cX t ρb d)∧ft (cX t ρb d)=some (.ok (cT t ρb ft d))∧(cT t ρb ft d=true→fe (cX t ρb d)=some (.ok (cV t ρb fe d))))∧es=(ds.filter (cT t ρb ft)).map (cV t ρb fe)
 | [],es,h=>by
  cases (Option.some.inj h)
  exact ⟨fun _ z=>absurd z (by simp),rfl⟩
 | d::ds,es,h=>by
  unfold nA at h
  split at h
  ·cases h
  ·rename_i ρx et
   have ex:cX t ρb d=ρx:=by unfold cX;rw [et];rfl
   split at h
   ·rename_i e1
    have e1':cT t ρb ft d=true:=by unfold cT;rw [ex,e1]
    split at h
    ·rename_i v ev
     obtain ⟨es',e3,rfl⟩:=Option.map_eq_some_iff.mp h
     obtain ⟨i1,i2⟩:=iK e3
     have evv:cV t ρb fe d=v:=by unfold cV;rw [ex,ev]
     refine ⟨fun d' hd=>?_,?_⟩
     ·rcases List.mem_cons.mp hd with rfl | hd
      ·rw [ex,e1',evv];exact ⟨et,e1,fun _=>ev⟩
      ·exact i1 d' hd
     ·rw [List.filter_cons_of_pos e1',List.map_cons,evv,i2]
    ·cases h
   ·rename_i e1
    have e1':cT t ρb ft d=false:=by unfold cT;rw [ex,e1]
    obtain ⟨i1,i2⟩:=iK h
    refine ⟨fun d' hd=>?_,?_⟩
    ·rcases List.mem_cons.mp hd with rfl | hd
     ·rw [ex,e1'];exact ⟨et,e1,fun z=>by cases z⟩
     ·exact i1 d' hd
    ·rw [List.filter_cons_of_neg (by rw [e1'];decide),i2]
   ·cases h
def tgFree (cap:List (Option Nat)):Tg→Bool
 | .nm i=>(match cap[i]? with | some (some _)=>false | _=>true)
 | .tp is=>is.all fun i=>match cap[i]? with | some (some _)=>false | _=>true
 | .nn i js=>(match cap[i]? with | some (some _)=>false | _=>true)&&js.all fun i=>match cap[i]? with | some (some _)=>false | _=>true
theorem lJ:∀ {a b:List Ent} {i:Nat} {e:Ent},Weak a b→(b[i]?=some .no∨b[i]?=none)→Weak (a.set i e) b
 | _,_,_,_,.nil,_=>.nil
 | _::_,_,0,_,.keep w,h=>by
  rcases h with h | h
  ·cases (Option.some.inj h);exact .no w
  ·cases h
 | _::_,_,0,_,.no w,_=>.no w
 | _::_,_,i+1,_,.keep w,h=>.keep (lJ w (by simpa using h))
 | _::_,_,i+1,_,.no w,h=>.no (lJ w (by simpa using h))
theorem capE_no {cap:List (Option Nat)} {ρ:List Ent} {i:Nat} (h:(match cap[i]? with | some (some _)=>false | _=>true)=true):(bL cap ρ)[i]?=some .no∨(bL cap ρ)[i]?=none:=by
 unfold bL
 rw [List.getElem?_map]
 cases e:cap[i]? with
 | none=>exact .inr rfl
 | some o=>
  rw [e] at h
  cases o with
  | none=>exact .inl rfl
  | some j=>cases h
theorem weak_all {cap:List (Option Nat)} {ρ:List Ent}:∀ {is:List Nat} {ds:List PyData} {a:List Ent},(is.all fun i=>match cap[i]? with | some (some _)=>false | _=>true)=true→Weak a (bL cap ρ)→Weak (lN a is ds) (bL cap ρ)
 | [],ds,a,_,w=>by cases ds<;>exact w
 | i::is,[],a,_,w=>w
 | i::is,d::ds,a,h,w=>by
  rw [List.all_cons,Bool.and_eq_true] at h
  exact weak_all (is:=is) (ds:=ds) (a:=a.set i (.val d)) h.2 (lJ w (capE_no h.1))
theorem weak_tg {cap:List (Option Nat)} {ρ ρx:List Ent} {t:Tg} {d:PyData} (hf:tgFree cap t=true) (h:tgD t (bL cap ρ) d=some ρx):Weak ρx (bL cap ρ):=by
 cases t with
 | nm i=>cases (Option.some.inj h);exact lJ (.refl _) (capE_no hf)
 | tp is=>
  cases d with
  | tuple ds=>
   have h:(if is.length=ds.length then some (lN (bL cap ρ) is ds) else none)=some ρx:=h
   split at h
   ·cases (Option.some.inj h);exact weak_all hf (.refl _)
   ·cases h
  | none=>cases h
  | bool _=>cases h
  | int _=>cases h
  | str _=>cases h
  | list _=>cases h
  | dict _=>cases h
 | nn i js=>
  obtain ⟨a,ds,rfl,hl,rfl⟩:=tgD_nn h
  have hf:((match cap[i]? with | some (some _)=>false | _=>true)&&js.all fun i=>match cap[i]? with | some (some _)=>false | _=>true)=true:=hf
  rw [Bool.and_eq_true] at hf
  exact weak_all hf.2 (lJ (.refl _) (capE_no hf.1))
section
variable {X:Cx} {elt iter tg:Expr} {ifs:List Expr} {scope:Scope} {pos spos p:Pos} {N':List Str} {cap:List (Option Nat)} {t:Tg} {fi:AF} {ft:TF} {fe:EF}
structure DTs (X:Cx) (ifs:List Expr) (f:TF):Prop where
 run:∀ ρ b,f ρ=some (.ok b)→PTsD X ifs ρ b
theorem eK:DTs X [] ttT:=⟨fun ρ b e=>by cases (Option.some.inj e);exact ptsd_nil⟩
theorem gA {c:Expr} (h:DT X c ft):DTs X [c] ft:=⟨fun ρ b e=>ptsd_one (h.ptd e)⟩
theorem cB (hc:X.calm=true) (B:Blk X scope N' cap) (hi:DI X tg iter fi) (hf:tgFree cap t=true) (hg:∀ C s₃ H₃ fp,DG (bO X scope N' C s₃ H₃ fp) tg t) (ht:∀ C s₃ H₃ fp,DTs (bO X scope N' C s₃ H₃ fp) ifs ft)
  (he:∀ C s₃ H₃ fp,DE (bO X scope N' C s₃ H₃ fp) elt fe) (hs:∀ x,foldedSetIterable iter X.env x=pure x:=by intro _;rfl):DE X (.ListComp elt [⟨tg,iter,ifs,0⟩] scope pos) (cK t cap fi ft fe):=⟨fun pins s σ H Q I ⟨ρ,r,H0,G₀,G,e,R,q⟩=>by
 rcases eF e with ⟨ds,e1,e2⟩ | ⟨c,e1,e2⟩
 ·split at e2
  ·rename_i hz
   obtain ⟨d,ed,rfl⟩:=bI e2
   obtain ⟨es,e3,rfl⟩:=Option.map_eq_some_iff.mp ed
   obtain ⟨k1,rfl⟩:=iK e3
   exact (pd_comp (xs:=ds) (φ:=fun d=>d) (ρb:=bL cap ρ) (ρx:=cX t (bL cap ρ)) (cnd:=cT t (bL cap ρ) ft) (f:=cV t (bL cap ρ) fe) hc B (by simpa using hi.pid e1) (.refl _) (fun x hx=>weak_tg hf (k1 x hx).1) (fM hz)
    (fun C s₃ H₃ fp x hx=>(hg C s₃ H₃ fp).run _ _ _ (k1 x hx).1) (fun C s₃ H₃ fp x hx=>(ht C s₃ H₃ fp).run _ _ (k1 x hx).2.1) (fun C s₃ H₃ fp x hx hcx=>(he C s₃ H₃ fp).pd ((k1 x hx).2.2 hcx)) hs).run H0 G₀ G pins s σ H Q I R q
  ·cases e2
 ·subst e2
  exact pe_comp (g:=fun _ _ _ _=>False) (tc:=fun _ _ _=>False) (te:=fun _ _ _=>False) hc B hi.run (fun _ _ _ _ _ _ _ _ _ _ _ _ _ z=>z.elim) (fun _ _ _ _ _ _ _ _ _ _ z=>z.elim) (fun _ _ _ _ _ _ _ _ _ _ z=>z.elim) hs pins s σ H Q I
   ⟨ρ,_,H0,G₀,G,e1,R,q⟩⟩
end
def startN (m:Nat) (ds:List PyData):List Ent:=ds.map .val++List.replicate (m - ds.length) .no
def dJ (m n:Nat) (f:SF) (ds:List PyData):Mm PyData:=if ds.length=n then (match f (startN m ds) with
 | some (.rt d)=>some (.ok d)
 | some (.nx _)=>some (.ok .none)
 | _=>none) else none
abbrev aK (P:Program) (w:World) (K:PySem.W.Frag) (mg:Str→Option Value) (base:Heap) (x:Str) (k:Nat) (ps:List Str) (F:List PyData→Mm PyData):Prop:=
 Callee P w K mg base x k ps fun ds d=>F ds=some (.ok d)
section
variable {P:Program} {w:World} {K:PySem.W.Frag} {mg:Str→Option Value} {base:Heap} {X:Cx} {e:Expr} {es:List Expr} {pos p:Pos} {x:Str} {k:Nat} {ps N:List Str} {F:List PyData→Mm PyData}
def aS (F:List PyData→Mm PyData) (fa:AF):EF:=fun ρ=>bnd (fa ρ) fun ds=>match F ds with
 | some (.ok d)=>some (.ok d)
 | _=>none
theorem aQ {fa:AF} (C:aK X.prog X.w X.K X.mg X.base x k ps F) (hr:Room k X.A) (ha:DA X (e::es) fa) (hg:Gl X x:=by rfl) (hdb:(x==("__debug__" : Str))=false:=by decide)
  (he:starEach (e::es) X.env=(false,eval e X.env)::starEach es X.env:=by rfl) (hpl:(backTo pos (starEach es X.env)).any (·.1)=false:=by rfl):DE X (.Call (.Name x p) (e::es) [] pos) (aS F fa):=⟨fun pins s σ H Q I ⟨ρ,r,H0,G₀,G,e',R,q⟩=>by
 obtain ⟨f,fd,a,b,c,Fk⟩:=C.ex
 refine pe_call Fk hr hg a b c .nil (pass0 (X:=X)) ha.run hdb he hpl pins s σ H Q I (bA R e' q.x fun ds vs G1 H1 g1 R1 rv e1=>?_)
 split at e1
 ·rename_i d ed
  cases (Option.some.inj e1)
  exact ⟨G1,ds,d,⟨g1.sub,R1.tab⟩,by simpa using rv,ed,fun v G2 H2 g2 r2=>q v G2 H2 (g1.trans g2) r2⟩
 ·cases e1⟩
theorem startE_eq (N:List Str) (ds:List PyData):gJ N ds=startN N.length ds:=rfl
theorem fn_den {st:Stmt} {f:SF} {fa:Addr} {fd:FuncData} (m n:Nat) (Fu:Fun K x x st fa fd) (S:FnScope N ps (aD st)) (hm:N.length=m) (hn:ps.length=n)
  (body:∀ (cdv:Value) (A:Around) (outer:List Env) (s:Shared) (H:Hp) (E:XK),Room k (A.deeper (envOfC x (aD st) s.heap.objs.size fa cdv))→DB (fcx P w K mg base N x (aD st) fa cdv A outer s H E) (cG st) f) :
  FnOk P w K mg base CX0 (k+1) fa fd ps (spD K fun ds d=>dJ m n f ds=some (.ok d)):=by
 refine Fu.ok S (fun vs H Q E ⟨G,ds,d,s,r,hF,_⟩=>?_) (fun cdv A outer s H vs Q E hr ⟨G,ds,d,sm,r,hF,q⟩=>?_)
 ·have hF:dJ m n f ds=some (.ok d):=hF
  unfold dJ at hF
  split at hF
  ·rename_i hl;rw [r.length,hl,hn]
  ·cases hF
 ·have hF:dJ m n f ds=some (.ok d):=hF
  unfold dJ at hF
  split at hF
  ·rw [←hm,←startE_eq] at hF
   split at hF
   ·rename_i d' e
    cases (Option.some.inj hF)
    exact ⟨_,(body cdv A outer s H E hr).run,gJ N ds,_,H,G,G,e,eR sm r,fun v G' H' _ g rv=>q v G' H' g rv⟩
   ·rename_i ρ' e
    cases (Option.some.inj hF)
    exact ⟨_,(body cdv A outer s H E hr).run,gJ N ds,_,H,G,G,e,eR sm r,fun G' H' σ' _ R'=>q .non G' H' R'.grow .none⟩
   ·cases hF
  ·cases hF
theorem aR {st:Stmt} {f:SF} (m n:Nat) (D:Def K mg x st) (S:FnScope N ps (aD st)) (hm:N.length=m) (hn:ps.length=n)
  (hb:∀ (kV doc pm:Value) (an:Option Addr) (cdv ct:Value) (us:List Value),us.length=ps.length→bindArgs (PySem.W.fnOf x x (gB st) (cG st) (aD st) .none kV doc pm an cdv ct) ⟨us,[]⟩=pure (ps.zip us))
  (body:∀ (fa:Addr) (cdv:Value) (A:Around) (outer:List Env) (s:Shared) (H:Hp) (E:XK),Room k (A.deeper (envOfC x (aD st) s.heap.objs.size fa cdv))→DB (fcx P w K mg base N x (aD st) fa cdv A outer s H E) (cG st) f) :
  aK P w K mg base x (k+1) ps (dJ m n f):=by
 obtain ⟨fa,fd,Fu,hmg⟩:=D.ex
 exact ⟨fa,fd,hmg,Fu.kp,Fu.binds hb,fn_den m n Fu S hm hn fun cdv A outer s H E hr=>body fa cdv A outer s H E hr⟩
end
end L2.L3
namespace L2.L3
open PySem PySem.Spec PyProof.Rows
def cR {α:Type} (f:PyData→Option α):List PyData→Option (List α)
 | []=>some []
 | d::ds=>match f d with
  | none=>none
  | some a=>(cR f ds).map (a::·)
def strD:PyData→Option Str
 | .str i=>some i
 | _=>none
theorem mP {d:PyData} {i:Str} (h:strD d=some i):d=.str i:=by
 cases d<;>first | (cases h;done) | (cases (Option.some.inj h);rfl)
theorem cD {α:Type} {f:PyData→Option α} {g:α→PyData} (h:∀ d a,f d=some a→d=g a):∀ {ds:List PyData} {as:List α},cR f ds=some as→ds=as.map g
 | [],as,e=>by cases (Option.some.inj e);rfl
 | d::ds,as,e=>by
  unfold cR at e
  split at e
  ·cases e
  ·rename_i a ea
   obtain ⟨as',e',rfl⟩:=Option.map_eq_some_iff.mp e
   rw [List.map_cons,←h d a ea,cD h e']
theorem fJ {α:Type} {f:PyData→Option α} {g:α→PyData} (h:∀ a,f (g a)=some a):∀ as:List α,cR f (as.map g)=some as
 | []=>rfl
 | a::as=>by rw [List.map_cons,cR,h a];show (cR f (as.map g)).map (a::·)=_;rw [fJ h as];rfl
theorem kA (ns:List Int):cR intD (ns.map .int)=some ns:=fJ (g:=.int) (fun _=>rfl) ns
section
variable {X:Cx} {x y d:PyData}
theorem opD_of {op:Operator} {g:Int→Int→Int} {i j:Int} (ho:OpR X (binaryOp op) (rI0 fun i j=>.int (g i j))):OpD X op (.int i) (.int j) (.int (g i j)):=⟨_,ho,fun v u G H Q s rv ru q=>by
 cases rv;cases ru;exact ⟨_,_,rfl,rfl,q _ _ _ (.refl s) (.int _)⟩⟩
theorem opD_ofC {op:Operator} {C:Int→Int→Prop} {g:Int→Int→Int} {i j:Int} (ho:OpR X (binaryOp op) (rI C fun i j=>.int (g i j))) (hc:C i j):OpD X op (.int i) (.int j) (.int (g i j)):=⟨_,ho,fun v u G H Q s rv ru q=>by
 cases rv;cases ru;exact ⟨_,_,rfl,rfl,hc,q _ _ _ (.refl s) (.int _)⟩⟩
def eG (x y:PyData):Option PyData:=match x,y with
 | .int i,.int j=>some (.int (i+j))
 | .str i,.str j=>if cZ (i.length+j.length) then some (.str (i++j)) else none
 | .list a,.list b=>if cZ (a.length+b.length) then some (.list (a++b)) else none
 | .tuple a,.tuple b=>if cZ (a.length+b.length) then some (.tuple (a++b)) else none
 | _,_=>none
theorem dB (x y d:PyData) (h:eG x y=some d):OpD X .Add x y d:=by
 unfold eG at h
 split at h
 ·cases (Option.some.inj h);exact opD_of op_add
 ·split at h
  ·rename_i i j hz
   cases (Option.some.inj h)
   exact ⟨_,op_add_str,fun v u G H Q s rv ru q=>by cases rv;cases ru;exact ⟨_,_,rfl,rfl,fM hz,q _ _ _ (.refl s) (.str _)⟩⟩
  ·cases h
 ·split at h
  ·rename_i a b hz
   cases (Option.some.inj h)
   exact ⟨_,op_catS,fun v u G H Q s rv ru q=>by
    cases rv with
    | list h1 r1=>cases ru with
     | list h2 r2=>exact ⟨_,_,_,_,rfl,rfl,s.seq h1,s.seq h2,by rw [r1.length,r2.length];exact fM hz,fun l hl=>q _ _ _ (.put s hl) (.list (.of aG) ((r1.append r2).mono (bJ (s.free hl))))⟩⟩
  ·cases h
 ·split at h
  ·rename_i a b hz
   cases (Option.some.inj h)
   exact ⟨_,op_catU,fun v u G H Q s rv ru q=>by
    cases rv with
    | tuple h1 r1=>cases ru with
     | tuple h2 r2=>
      refine ⟨_,_,_,_,rfl,rfl,nM s h1,nM s h2,by rw [r1.length,r2.length];exact fM hz,fun z=>?_,fun z z2=>?_,fun _ _ l hl=>q _ _ _ (.put s hl) (.tuple (.of aG) ((r1.append r2).mono (bJ (s.free hl))))⟩
      ·subst z
       cases r1
       exact q _ G H (.refl s) (.tuple h2 r2)
      ·subst z2
       cases r2
       exact q _ G H (.refl s) (by rw [List.append_nil];exact .tuple h1 r1)⟩
  ·cases h
 ·cases h
def subD (x y:PyData):Option PyData:=match x,y with
 | .int i,.int j=>some (.int (i - j))
 | _,_=>none
theorem sub_ok (x y d:PyData) (h:subD x y=some d):OpD X .Sub x y d:=by
 unfold subD at h
 split at h
 ·cases (Option.some.inj h);exact opD_of op_sub
 ·cases h
def jM (i:Int):Bool:=decide (-(2 ^ 64)<i)&&decide (i<2 ^ 64)
theorem smallI_is {i:Int} (h:jM i=true):-(2 ^ 64)<i∧i<2 ^ 64:=by
 unfold jM at h
 rw [Bool.and_eq_true] at h
 exact ⟨of_decide_eq_true h.1,of_decide_eq_true h.2⟩
def kT (x y:PyData):Option PyData:=match x,y with
 | .int i,.int j=>if jM i || jM j then some (.int (i*j)) else none
 | _,_=>none
theorem nT (x y d:PyData) (h:kT x y=some d):OpD X .Mult x y d:=by
 unfold kT at h
 split at h
 ·split at h
  ·rename_i hz
   cases (Option.some.inj h)
   rw [Bool.or_eq_true] at hz
   exact opD_ofC op_mul (hz.imp smallI_is smallI_is)
  ·cases h
 ·cases h
def modD (x y:PyData):Option PyData:=match x,y with
 | .int i,.int j=>if 0<j then some (.int (i % j)) else none
 | _,_=>none
theorem mod_ok (x y d:PyData) (h:modD x y=some d):OpD X .Mod x y d:=by
 unfold modD at h
 split at h
 ·split at h
  ·rename_i hz
   cases (Option.some.inj h)
   exact opD_ofC op_mod hz
  ·cases h
 ·cases h
def fdvD (x y:PyData):Option PyData:=match x,y with
 | .int i,.int j=>if 0<j∧j<1073741824 then some (.int (i / j)) else none
 | _,_=>none
theorem fdv_ok (x y d:PyData) (h:fdvD x y=some d):OpD X .FloorDiv x y d:=by
 unfold fdvD at h
 split at h
 ·split at h
  ·rename_i hz
   cases (Option.some.inj h)
   exact opD_ofC op_fdiv hz
  ·cases h
 ·cases h
def ltD (x y:PyData):Option Bool:=match x,y with
 | .int i,.int j=>some (decide (i<j))
 | _,_=>none
def leD (x y:PyData):Option Bool:=match x,y with
 | .int i,.int j=>some (decide (i≤j))
 | .str i,.str j=>some (!decide (j.cps.toList<i.cps.toList))
 | _,_=>none
def gtD (x y:PyData):Option Bool:=match x,y with
 | .int i,.int j=>some (decide (j<i))
 | _,_=>none
def geD (x y:PyData):Option Bool:=match x,y with
 | .int i,.int j=>some (decide (j≤i))
 | _,_=>none
theorem lt_ok (x y:PyData) (t:Bool) (h:ltD x y=some t):CmpD X .Lt x y t:=by
 unfold ltD at h;split at h
 ·cases (Option.some.inj h);exact cmp_lt
 ·cases h
theorem le_ok (x y:PyData) (t:Bool) (h:leD x y=some t):CmpD X .LtE x y t:=by
 unfold leD at h;split at h
 ·cases (Option.some.inj h);exact cmp_le
 ·cases (Option.some.inj h);exact cmp_leS
 ·cases h
def eqD (x y:PyData):Option Bool:=match x,y with
 | .int i,.int j=>some (decide (i=j))
 | .str i,.str j=>some (decide (i=j))
 | .bool i,.bool j=>some (decide (i=j))
 | x,y=>if SeqAt.shaped x&&SeqAt.shaped y then some (PyData.eqv x y) else none
def neD (x y:PyData):Option Bool:=match x,y with
 | .int i,.int j=>some (!decide (i=j))
 | .str i,.str j=>some (!decide (i=j))
 | .bool i,.bool j=>some (!decide (i=j))
 | x,y=>if SeqAt.shaped x&&SeqAt.shaped y then some (!PyData.eqv x y) else none
theorem eq_ok (hu:X.A.units+64<cLine) (x y:PyData) (t:Bool) (h:eqD x y=some t):CmpD X .Eq x y t:=by
 unfold eqD at h;split at h
 ·cases (Option.some.inj h);exact cmp_eqI
 ·cases (Option.some.inj h);exact cmp_eqS
 ·cases (Option.some.inj h);exact cmp_eqB
 ·split at h
  ·rename_i hz
   rw [Bool.and_eq_true] at hz
   cases (Option.some.inj h);exact cmp_eq hu hz.1 hz.2
  ·cases h
theorem ne_ok (hu:X.A.units+64<cLine) (x y:PyData) (t:Bool) (h:neD x y=some t):CmpD X .NotEq x y t:=by
 unfold neD at h;split at h
 ·cases (Option.some.inj h);exact cmp_neI
 ·cases (Option.some.inj h);exact cmp_neS
 ·cases (Option.some.inj h);exact cmp_neB
 ·split at h
  ·rename_i hz
   rw [Bool.and_eq_true] at hz
   cases (Option.some.inj h);exact cmp_ne hu hz.1 hz.2
  ·cases h
def inD (x y:PyData):Option Bool:=match x,seqD y with
 | .int i,some ds=>(cR intD ds).map fun ns=>decide (i∈ns)
 | .str i,some ds=>(cR strD ds).map fun ns=>decide (i∈ns)
 | _,_=>none
def ninD (x y:PyData):Option Bool:=(inD x y).map (!·)
theorem iZ {K:PySem.W.Frag} {G H:Hp} {v:V} {y:PyData} {ds:List PyData} (s:aX G H) (h:seqD y=some ds) (r:Rep K G v y):∃ p vs,v=.ref p∧(SqL K H p vs∨SqT K H p vs)∧RepAll K G vs ds:=by
 cases r with
 | list hq r=>cases (Option.some.inj h);exact ⟨_,_,rfl,.inl (s.seq hq),r⟩
 | tuple hq r=>cases (Option.some.inj h);exact ⟨_,_,rfl,.inr (nM s hq),r⟩
 | dict _ _ _=>cases h
 | none=>cases h
 | bool _=>cases h
 | int _=>cases h
 | str _=>cases h
theorem in_ok (x y:PyData) (t:Bool) (h:inD x y=some t):CmpD X .In x y t:=by
 unfold inD at h;split at h
 ·rename_i i ds e
  obtain ⟨ns,e2,rfl⟩:=Option.map_eq_some_iff.mp h
  have:=cD (g:=.int) (fun d a q=>hV q) e2
  subst this
  exact ⟨_,op_in_seq,fun v u G H Q s rv ru q=>by
   obtain ⟨p,vs,rfl,hq,r⟩:=iZ s e ru
   have e3:=r.ints
   subst e3
   cases rv
   exact ⟨p,_,rfl,hq,rfl,flat_ints ns,by rw [inV_ints];simpa using q⟩⟩
 ·rename_i i ds e
  obtain ⟨ns,e2,rfl⟩:=Option.map_eq_some_iff.mp h
  have:=cD (g:=.str) (fun d a q=>mP q) e2
  subst this
  exact ⟨_,op_in_seq,fun v u G H Q s rv ru q=>by
   obtain ⟨p,vs,rfl,hq,r⟩:=iZ s e ru
   have e3:=r.strs
   subst e3
   cases rv
   exact ⟨p,_,rfl,hq,rfl,flat_strs ns,by rw [inV_strs];simpa using q⟩⟩
 ·cases h
theorem nin_ok (x y:PyData) (t:Bool) (h:ninD x y=some t):CmpD X .NotIn x y t:=by
 unfold ninD at h
 obtain ⟨t',hq,rfl⟩:=Option.map_eq_some_iff.mp h
 clear h
 unfold inD at hq;split at hq
 ·rename_i i ds e
  obtain ⟨ns,e2,rfl⟩:=Option.map_eq_some_iff.mp hq
  have:=cD (g:=.int) (fun d a q=>hV q) e2
  subst this
  exact ⟨_,op_notIn_seq,fun v u G H Q s rv ru q=>by
   obtain ⟨p,vs,rfl,hq,r⟩:=iZ s e ru
   have e3:=r.ints
   subst e3
   cases rv
   exact ⟨p,_,rfl,hq,rfl,flat_ints ns,by rw [inV_ints];simpa using q⟩⟩
 ·rename_i i ds e
  obtain ⟨ns,e2,rfl⟩:=Option.map_eq_some_iff.mp hq
  have:=cD (g:=.str) (fun d a q=>mP q) e2
  subst this
  exact ⟨_,op_notIn_seq,fun v u G H Q s rv ru q=>by
   obtain ⟨p,vs,rfl,hq,r⟩:=iZ s e ru
   have e3:=r.strs
   subst e3
   cases rv
   exact ⟨p,_,rfl,hq,rfl,flat_strs ns,by rw [inV_strs];simpa using q⟩⟩
 ·cases hq
def lenD (ds:List PyData):Option PyData:=match ds with
 | [.list xs]=>some (.int xs.length)
 | [.tuple xs]=>some (.int xs.length)
 | [.str z]=>if cZ z.length then some (.int z.length) else none
 | _=>none
theorem len_ok (ds:List PyData) (d:PyData) (h:lenD ds=some d):CallD X (.builtin "len") ds d:=by
 unfold lenD at h;split at h
 ·cases (Option.some.inj h)
  exact ⟨_,call_len_seq,fun vs G H Q s r q=>by
   cases r with | cons r rr=>cases rr;cases r with | list hq r=>exact ⟨_,_,rfl,.inl (s.seq hq),by rw [r.length];exact q _ G H (.refl s) (.int _)⟩⟩
 ·cases (Option.some.inj h)
  exact ⟨_,call_len_seq,fun vs G H Q s r q=>by
   cases r with | cons r rr=>cases rr;cases r with | tuple hq r=>exact ⟨_,_,rfl,.inr (nM s hq),by rw [r.length];exact q _ G H (.refl s) (.int _)⟩⟩
 ·split at h
  ·rename_i hz
   cases (Option.some.inj h)
   exact ⟨_,call_len_str,fun vs G H Q s r q=>by
    cases r with | cons r rr=>cases rr;cases r with | str z=>exact ⟨_,rfl,fM hz,q _ G H (.refl s) (.int _)⟩⟩
  ·cases h
 ·cases h
def maxD (ds:List PyData):Option PyData:=match ds with
 | [.int i,.int j]=>some (.int (max i j))
 | [.list xs]=>(match cR intD xs with | some (n::ns)=>some (.int (maxI (n::ns))) | _=>none)
 | _=>none
def minD (ds:List PyData):Option PyData:=match ds with
 | [.int i,.int j]=>some (.int (min i j))
 | [.list xs]=>(match cR intD xs with | some (n::ns)=>some (.int (minI (n::ns))) | _=>none)
 | _=>none
theorem max_ok (hc:X.calm=true) (ds:List PyData) (d:PyData) (h:maxD ds=some d):CallD X (.builtin "max") ds d:=by
 unfold maxD at h;split at h
 ·rename_i i j
  cases (Option.some.inj h)
  exact ⟨_,call_max2 hc,fun vs G H Q s r q=>by
   cases r with | cons r rr=>cases rr with | cons r' rr=>cases rr;cases r;cases r';exact ⟨i,j,rfl,by rw [show (if j > i then j else i)=max i j by split<;>omega];exact q _ G H (.refl s) (.int _)⟩⟩
 ·split at h
  ·rename_i xs n ns e
   cases (Option.some.inj h)
   have:=cD (g:=.int) (fun d a q=>hV q) e
   subst this
   exact ⟨_,call_maxL hc,fun vs G H Q s r q=>by
    cases r with | cons r rr=>cases rr;cases r with | list hq r=>
     have e:=r.ints
     subst e
     exact ⟨_,n::ns,rfl,s.seq hq,by simp,fun M m1 m2=>by rw [maxI_eq m1 m2];exact q _ G H (.refl s) (.int _)⟩⟩
  ·cases h
 ·cases h
theorem min_ok (hc:X.calm=true) (ds:List PyData) (d:PyData) (h:minD ds=some d):CallD X (.builtin "min") ds d:=by
 unfold minD at h;split at h
 ·rename_i i j
  cases (Option.some.inj h)
  exact ⟨_,call_min2 hc,fun vs G H Q s r q=>by
   cases r with | cons r rr=>cases rr with | cons r' rr=>cases rr;cases r;cases r';exact ⟨i,j,rfl,by rw [show (if j<i then j else i)=min i j by split<;>omega];exact q _ G H (.refl s) (.int _)⟩⟩
 ·split at h
  ·rename_i xs n ns e
   cases (Option.some.inj h)
   have:=cD (g:=.int) (fun d a q=>hV q) e
   subst this
   exact ⟨_,call_minL hc,fun vs G H Q s r q=>by
    cases r with | cons r rr=>cases rr;cases r with | list hq r=>
     have e:=r.ints
     subst e
     exact ⟨_,n::ns,rfl,s.seq hq,by simp,fun M m1 m2=>by rw [minI_eq m1 m2];exact q _ G H (.refl s) (.int _)⟩⟩
  ·cases h
 ·cases h
def allB (ds:List PyData):Option PyData:=match ds with
 | [.list xs]=>(cR lG xs).map fun ns=>.bool (ns.all id)
 | _=>none
theorem all_ok (hc:X.calm=true) (ds:List PyData) (d:PyData) (h:allB ds=some d):CallD X (.builtin "all") ds d:=by
 unfold allB at h;split at h
 ·obtain ⟨ns,e,rfl⟩:=Option.map_eq_some_iff.mp h
  have:=cD (g:=.bool) (fun d a q=>boolD_is q) e
  subst this
  exact ⟨_,call_allL hc,fun vs G H Q s r q=>by
   cases r with | cons r rr=>cases rr;cases r with | list hq r=>
    have e:=r.bools
    subst e
    exact ⟨_,ns,rfl,s.seq hq,q _ G H (.refl s) (.bool _)⟩⟩
 ·cases h
def tupD (ds:List PyData):Option PyData:=match ds with
 | [.list xs]=>some (.tuple xs)
 | [.tuple xs]=>some (.tuple xs)
 | _=>none
theorem tup_ok (ds:List PyData) (d:PyData) (h:tupD ds=some d):CallD X (.type "tuple") ds d:=by
 unfold tupD at h;split at h
 ·cases (Option.some.inj h)
  exact ⟨_,nG,fun vs G H Q s r q=>by
   cases r with | cons r rr=>cases rr;cases r with | list hq r=>exact ⟨_,_,rfl,.inl ⟨s.seq hq,fun l hl=>q _ _ _ (.put s hl) (.tuple (.of aG) (r.mono (bJ (s.free hl))))⟩⟩⟩
 ·cases (Option.some.inj h)
  exact ⟨_,nG,fun vs G H Q s r q=>by
   cases r with | cons r rr=>cases rr;cases r with | tuple hq r=>exact ⟨_,_,rfl,.inr ⟨nM s hq,q _ G H (.refl s) (.tuple hq r)⟩⟩⟩
 ·cases h
def lstD (ds:List PyData):Option PyData:=match ds with
 | [.list xs]=>some (.list xs)
 | [.tuple xs]=>some (.list xs)
 | _=>none
def intC (ds:List PyData):Option PyData:=match ds with
 | [.bool b]=>some (.int (if b then 1 else 0))
 | [.int i]=>some (.int i)
 | _=>none
def srtD (ds:List PyData):Option PyData:=match ds with
 | [.list xs]=>(match cR intD xs with | some ns=>if ns.length<64 then some (.list ((sortI ns).map .int)) else none | none=>none)
 | _=>none
theorem srt_ok (ds:List PyData) (d:PyData) (h:srtD ds=some d):CallD X (.builtin "sorted") ds d:=by
 unfold srtD at h;split at h
 ·split at h
  ·rename_i xs ns e
   split at h
   ·rename_i hl
    cases (Option.some.inj h)
    have:=cD (g:=.int) (fun d a q=>hV q) e
    subst this
    exact ⟨_,call_sortedI,fun vs G H Q s r q=>by
     cases r with | cons r rr=>cases rr;cases r with | list hq r=>
      have e:=r.ints
      subst e
      exact ⟨_,ns,rfl,s.seq hq,hl,fun l hn=>q _ _ _ (.put s hn) (.list (.of aG) (dW _))⟩⟩
   ·cases h
  ·cases h
 ·cases h
end
section
variable {X:Cx} {a b:Expr} {pos p p2:Pos} {fa fb:EF}
def negD:PyData→Option PyData
 | .int i=>some (.int (-i))
 | _=>none
def op1 (g:PyData→Option PyData) (fa:EF):EF:=fun ρ=>bnd (fa ρ) fun x=>lft (g x)
theorem de_neg (ha:DE X a fa):DE X (.UnaryOp .USub a pos) (op1 negD fa):=⟨fun pins s σ H Q I ⟨ρ,r,H0,G₀,G,e,R,q⟩=>pe_un un_neg ha.run pins s σ H Q I (bE R e q.x fun x v G1 H1 g1 R1 rv e1=>by
 obtain ⟨d,ed,rfl⟩:=bI e1
 cases x with
 | int i=>cases (Option.some.inj ed);cases rv;exact ⟨_,rfl,q _ _ _ g1 (.int _)⟩
 | none=>cases ed
 | bool _=>cases ed
 | str _=>cases ed
 | list _=>cases ed
 | tuple _=>cases ed
 | dict _=>cases ed)⟩
end
end L2.L3
namespace L2.L3
open PySem PySem.Spec PyProof.Rows
def chn3E (g1 g2 g3:PyData→PyData→Option Bool) (fa fb fc fd:EF):EF:=fun ρ=>bnd (fa ρ) fun x=>bnd (fb ρ) fun y=>bnd (lft (g1 x y)) fun t=>if t then bnd (fc ρ) fun z=>bnd (lft (g2 y z)) fun u=>if u then bnd (fd ρ) fun w=>lft ((g3 z w).map .bool) else some (.ok (.bool false)) else some (.ok (.bool false))
def isB (k x:PyData):Option Bool:=match k,x with
 | .none,.none=>some true
 | .none,.bool _=>some false
 | .none,.int _=>some false
 | .none,.str _=>some false
 | .none,.list _=>some false
 | .none,.tuple _=>some false
 | .none,.dict _=>some false
 | .bool a,.bool b=>some (b==a)
 | _,_=>none
def isE (neg:Bool) (k:PyData) (fa:EF):EF:=fun ρ=>bnd (fa ρ) fun x=>lft ((isB k x).map fun t=>.bool (neg != t))
def isT (neg:Bool) (k:PyData) (fa:EF):TF:=fun ρ=>bnd (fa ρ) fun x=>lft ((isB k x).map fun t=>neg != t)
abbrev OF:=List Ent→Mm (Option Int)
def maxDf (x y:PyData):Option PyData:=match x with
 | .list xs=>(match cR intD xs with | some []=>some y | some (n::ns)=>some (.int (maxI (n::ns))) | none=>none)
 | _=>none
def tyI:PyData→Option Bool
 | .int _=>some true
 | .bool _=>some true
 | .dict _=>none
 | _=>some false
def tyB:PyData→Option Bool
 | .bool _=>some true
 | .dict _=>none
 | _=>some false
def tyS:PyData→Option Bool
 | .str _=>some true
 | .dict _=>none
 | _=>some false
def tyT:PyData→Option Bool
 | .tuple _=>some true
 | .dict _=>none
 | _=>some false
def isTy (T:String) (x:PyData):Option Bool:=if T = "int" then tyI x else if T = "bool" then tyB x else if T = "str" then tyS x else if T = "tuple" then tyT x else none
def isD (T:String) (x:PyData):Option PyData:=(isTy T x).map .bool
def lrng1 (fa:EF):EF:=fun ρ=>match fa ρ with
 | some (.ok (.int n))=>if inRng n&&cZ n.toNat then some (.ok (.list (gM 0 n.toNat))) else none
 | _=>none
def kX (ns:List Int):List Int:=ns.foldl (fun a n=>if n∈a then a else a++[n]) []
def iS (ns:List Str):List Str:=ns.foldl (fun a n=>if n∈a then a else a++[n]) []
def cE (a b:Str):Bool:=!decide (b.cps.toList<a.cps.toList)
def eA (ns:List Str):List Str:=ns.mergeSort cE
def ssetD (x:PyData):Option PyData:=match x with
 | .list xs=>(match cR intD xs with
  | some ns=>if ns.length<64 then some (.list ((sortI (kX ns)).map .int)) else none
  | none=>(match cR strD xs with
   | some ns=>if ns.length<64 then some (.list ((eA (iS ns)).map .str)) else none
   | none=>none))
 | _=>none
end L2.L3
namespace L2.L3
open PySem PySem.Spec PyProof.Rows
section
variable {X:Cx} {e a b c d:Expr} {es:List Expr} {pos p p2:Pos} {fa fb fc fd:EF}
theorem op_isB:OpR X (compareOp .Is) (fun x y H Q=>∃ c d,x=.bl c∧y=.bl d∧Q (.bl (c==d)) H):=by
 intro pins s σ H x y v u Q I rx ry ⟨c,d,e1,e2,q⟩
 subst e1 e2
 cases rx;cases ry
 exact is_bool (aW I q rfl)
theorem op_isNB:OpR X (compareOp .IsNot) (fun x y H Q=>∃ c d,x=.bl c∧y=.bl d∧Q (.bl (c != d)) H):=by
 intro pins s σ H x y v u Q I rx ry ⟨c,d,e1,e2,q⟩
 subst e1 e2
 cases rx;cases ry
 exact isnot_bool (aW I q rfl)
theorem cmp_isN {x:PyData} {t:Bool} (h:isB .none x=some t):CmpD X .Is x .none t:=⟨_,op_isN,fun v u G H Q s rv ru q=>by
 cases ru
 refine ⟨rfl,?_⟩
 cases rv<;>(have h:=Option.some.inj h;subst h;simpa using q)⟩
theorem cmp_isNN {x:PyData} {t:Bool} (h:isB .none x=some t):CmpD X .IsNot x .none (true != t):=⟨_,op_notN,fun v u G H Q s rv ru q=>by
 cases ru
 refine ⟨rfl,?_⟩
 cases rv<;>(have h:=Option.some.inj h;subst h;simpa using q)⟩
theorem isB_bool {c:Bool} {x:PyData} {t:Bool} (h:isB (.bool c) x=some t):∃ d,x=.bool d∧t=(d==c):=by
 cases x<;>first | (cases h;done) | (exact ⟨_,rfl,(Option.some.inj h).symm⟩)
theorem cmp_isT {c:Bool} {x:PyData} {t:Bool} (h:isB (.bool c) x=some t):CmpD X .Is x (.bool c) t:=by
 obtain ⟨d,rfl,rfl⟩:=isB_bool h
 exact ⟨_,op_isB,fun v u G H Q s rv ru q=>by cases rv;cases ru;exact ⟨_,_,rfl,rfl,q⟩⟩
theorem cmp_isNT {c:Bool} {x:PyData} {t:Bool} (h:isB (.bool c) x=some t):CmpD X .IsNot x (.bool c) (true != t):=by
 obtain ⟨d,rfl,rfl⟩:=isB_bool h
 exact ⟨_,op_isNB,fun v u G H Q s rv ru q=>by cases rv;cases ru;exact ⟨_,_,rfl,rfl,by cases d<;>cases c<;>exact q⟩⟩
def isG (neg:Bool) (k:PyData) (x y:PyData):Option Bool:=match k,y with
 | .none,.none=>(isB k x).map fun t=>neg != t
 | .bool a,.bool b=>if a=b then (isB k x).map fun t=>neg != t else none
 | _,_=>none
theorem isE_eq (neg:Bool) (k:PyData) (hk:k=.none∨∃ c,k=.bool c):isE neg k fa=cmpE (isG neg k) fa (cst k):=by
 funext ρ
 unfold isE cmpE cst
 cases fa ρ with
 | none=>rfl
 | some r=>cases r with
  | ex c=>rfl
  | ok x=>
   rcases hk with rfl | ⟨c,rfl⟩
   ·show lft _=lft _;simp only [isG,Option.map_map];rfl
   ·show lft _=lft _;simp only [isG,if_pos,Option.map_map];rfl
theorem isT_eq (neg:Bool) (k:PyData) (hk:k=.none∨∃ c,k=.bool c):isT neg k fa=fL (isG neg k) fa (cst k):=by
 funext ρ
 unfold isT fL cst
 cases fa ρ with
 | none=>rfl
 | some r=>cases r with
  | ex c=>rfl
  | ok x=>
   rcases hk with rfl | ⟨c,rfl⟩
   ·rfl
   ·show lft _=lft _;simp only [isG,if_pos]
theorem isG_ok {k x y:PyData} {t:Bool} (h:isG false k x y=some t):CmpD X .Is x y t:=by
 unfold isG at h
 split at h
 ·obtain ⟨t',e,rfl⟩:=Option.map_eq_some_iff.mp h
  have:=cmp_isN (X:=X) e
  cases t'<;>exact this
 ·split at h
  ·rename_i hab
   subst hab
   obtain ⟨t',e,rfl⟩:=Option.map_eq_some_iff.mp h
   have:=cmp_isT (X:=X) e
   cases t'<;>exact this
  ·cases h
 ·cases h
theorem isG_okN {k x y:PyData} {t:Bool} (h:isG true k x y=some t):CmpD X .IsNot x y t:=by
 unfold isG at h
 split at h
 ·obtain ⟨t',e,rfl⟩:=Option.map_eq_some_iff.mp h
  exact cmp_isNN (X:=X) e
 ·split at h
  ·rename_i hab
   subst hab
   obtain ⟨t',e,rfl⟩:=Option.map_eq_some_iff.mp h
   exact cmp_isNT (X:=X) e
  ·cases h
 ·cases h
theorem de_is_bool {k:Bool} {j} (ha:DE X a fa):DE X (.Compare a [.Is] [.Constant (.bool k) j p] pos) (isE false (.bool k) fa):=by rw [isE_eq _ _ (.inr ⟨_,rfl⟩)];exact de_cmp (fun _ _ _ h=>isG_ok h) ha gC
theorem dt_isNot_bool {k:Bool} {j} (ha:DE X a fa):DT X (.Compare a [.IsNot] [.Constant (.bool k) j p] pos) (isT true (.bool k) fa):=by rw [isT_eq _ _ (.inr ⟨_,rfl⟩)];exact cM (fun _ _ _ h=>isG_okN h) ha gC
end
end L2.L3
namespace L2.L3
open PySem PySem.Spec PyProof.Rows
section
variable {X:Cx} {a b:Expr} {elts:List Expr} {k0:Nat} {p0 pos p:Pos} {fa fb:EF}
end
end L2.L3
namespace L2.SX
open PySem
def mM (xs:Array Nat):Prop:=xs.toList.Pairwise (·<·)
theorem mM.lt {xs:Array Nat} (h:mM xs) {i j:Nat} (hij:i<j) (hj:j<xs.size):xs[i]<xs[j]:=by
 have:=List.pairwise_iff_getElem.mp h i j (by simpa using Nat.lt_trans hij hj) (by simpa using hj) hij
 simpa using this
theorem go_is {xs:Array Nat} {j:Nat} (h:mM xs):∀ (fuel lo hi:Nat),hi - lo≤fuel→lo≤hi→hi≤xs.size→(∀ i (hi':i<xs.size),i<lo→xs[i]<j)→(∀ i (hi':i<xs.size),hi≤i→j≤xs[i]) →
  SetTable.below.go xs j fuel lo hi≤xs.size∧(∀ i (hi':i<xs.size),i<SetTable.below.go xs j fuel lo hi→xs[i]<j)∧∀ i (hi':i<xs.size),SetTable.below.go xs j fuel lo hi≤i→j≤xs[i]
 | 0,lo,hi,hf,hl,hs,h1,h2=>by
  have:lo=hi:=by omega
  subst this
  unfold SetTable.below.go
  exact ⟨hs,h1,h2⟩
 | fuel+1,lo,hi,hf,hl,hs,h1,h2=>by
  unfold SetTable.below.go
  by_cases hlt:lo<hi
  ·rw [if_pos hlt]
   dsimp only
   have hm:(lo+hi) / 2<xs.size:=by omega
   have hg:xs.getD ((lo+hi) / 2) j=xs[(lo+hi) / 2]:=by simp [Array.getD,hm]
   rw [hg]
   by_cases hc:xs[(lo+hi) / 2]<j
   ·rw [if_pos hc]
    refine go_is h fuel _ hi (by omega) (by omega) hs (fun i hi' hlt'=>?_) h2
    by_cases he:i=(lo+hi) / 2
    ·subst he;exact hc
    ·exact Nat.lt_trans (h.lt (by omega) hm) hc
   ·rw [if_neg hc]
    refine go_is h fuel lo _ (by omega) (by omega) (by omega) h1 (fun i hi' hge=>?_)
    by_cases he:i=(lo+hi) / 2
    ·subst he;omega
    ·have:=h.lt (i:=(lo+hi) / 2) (j:=i) (by omega) hi'
     omega
  ·rw [if_neg hlt]
   have:lo=hi:=by omega
   subst this
   exact ⟨hs,h1,h2⟩
theorem below_is {xs:Array Nat} (h:mM xs) (j:Nat):SetTable.below xs j≤xs.size∧(∀ i (hi':i<xs.size),i<SetTable.below xs j→xs[i]<j)∧∀ i (hi':i<xs.size),SetTable.below xs j≤i→j≤xs[i]:=
 go_is h _ _ _ (by omega) (Nat.zero_le _) (Nat.le_refl _) (fun _ _ z=>absurd z (by omega)) (fun i hi' z=>absurd z (by omega))
theorem below_next {xs:Array Nat} (h:mM xs) {i:Nat} (hi:i<xs.size):SetTable.below xs (xs[i]+1)=i+1:=by
 obtain ⟨b1,b2,b3⟩:=below_is h (xs[i]+1)
 have c1:¬SetTable.below xs (xs[i]+1)≤i:=fun z=>by have:=b3 i hi z;omega
 have c2:¬i+1<SetTable.below xs (xs[i]+1):=fun z=>by
  have lt:i+1<xs.size:=by omega
  have:=b2 (i+1) lt z
  have:=h.lt (i:=i) (j:=i+1) (by omega) lt
  omega
 omega
theorem below_zero (xs:Array Nat) (h:mM xs):SetTable.below xs 0=0:=by
 obtain ⟨b1,b2,b3⟩:=below_is h 0
 cases e:SetTable.below xs 0 with
 | zero=>rfl
 | succ n=>
  have:=b2 0 (by omega) (by omega)
  omega
theorem rise_put {xs:Array Nat} (h:mM xs) {j:Nat} (hn:xs[SetTable.below xs j]?≠some j):mM (SetTable.insertAt xs (SetTable.below xs j) j):=by
 obtain ⟨b1,b2,b3⟩:=below_is h j
 unfold mM
 rw [SetTable.toList_insertAt,List.pairwise_append]
 have ne:∀ i (hi':i<xs.size),SetTable.below xs j≤i→j<xs[i]:=fun i hi' hge=>by
  have a:=b3 i hi' hge
  by_cases e:xs[i]=j
  ·exfalso
   by_cases e2:i=SetTable.below xs j
   ·exact hn (by rw [←e2];simp [hi',e])
   ·have lt:SetTable.below xs j<i:=by omega
    have:=h.lt (i:=SetTable.below xs j) (j:=i) lt hi'
    have:=b3 (SetTable.below xs j) (by omega) (Nat.le_refl _)
    omega
  ·omega
 refine ⟨h.sublist (List.take_sublist _ _),?_,fun a ha b hb=>?_⟩
 ·rw [List.pairwise_cons]
  refine ⟨fun a ha=>?_,h.sublist (List.drop_sublist _ _)⟩
  obtain ⟨k,hk,e⟩:=List.mem_iff_getElem.mp ha
  rw [List.getElem_drop] at e
  subst e
  have:SetTable.below xs j+k<xs.size:=by simpa using (by rw [List.length_drop,Array.length_toList] at hk;omega:SetTable.below xs j+k<xs.size)
  have:=ne (SetTable.below xs j+k) this (by omega)
  simpa using this
 ·obtain ⟨k,hk,e⟩:=List.mem_iff_getElem.mp ha
  rw [List.getElem_take] at e
  subst e
  rw [List.length_take,Array.length_toList] at hk
  have k1:k<xs.size:=by omega
  have ak:=b2 k k1 (by omega)
  have ak':xs.toList[k]'(by simpa using k1)<j:=by simpa using ak
  rcases List.mem_cons.mp hb with rfl | hb
  ·exact ak'
  ·obtain ⟨k',hk',e'⟩:=List.mem_iff_getElem.mp hb
   rw [List.getElem_drop] at e'
   subst e'
   have k2:SetTable.below xs j+k'<xs.size:=by rw [List.length_drop,Array.length_toList] at hk';omega
   have:=ne (SetTable.below xs j+k') k2 (by omega)
   have:j<xs.toList[SetTable.below xs j+k']'(by simpa using k2):=by simpa using this
   omega
structure TOk (t:SetTable) (led:Bool):Prop where
 led:t.led=led
 rise:t.plain=true→mM t.place
theorem TOk.fresh (led:Bool):TOk (SetTable.fresh 0 0 led) led:=⟨rfl,fun _=>by simp [SetTable.fresh,mM]⟩
theorem TOk.standIn {t:SetTable} {led:Bool} (h:TOk t led) (n:Nat):TOk (t.standIn n) led:=⟨h.led,fun z=>by cases z⟩
theorem TOk.off {t:SetTable} {led:Bool} (h:TOk t led):TOk { t with plain:=false } led:=⟨h.led,fun z=>by cases z⟩
theorem TOk.orStandIn {t:SetTable} {led:Bool} (h:TOk t led) (n:Nat):TOk (t.orStandIn n) led:=by
 unfold SetTable.orStandIn
 split
 ·exact h
 ·exact h.standIn n
theorem slot_free {t:SetTable} {j:Nat} (h:t.slot j=.empty∨t.slot j=.dummy):t.place[SetTable.below t.place j]?≠some j:=by
 intro z
 have:t.slot j=.live (SetTable.below t.place j):=by
  unfold SetTable.slot
  dsimp only
  rw [if_pos (by rw [z];simp)]
 rcases h with h | h<;>(rw [this] at h;cases h)
theorem nQ {t:SetTable} {f:Nat→Int} {h:Int}:∀ (fuel:Nat) (p:SetTable.Probe) (j:Nat) (d:Option Nat),(∀ k,p.dummy=some k→t.slot k=.dummy)→SetTable.probe.go t f h fuel p=some (.empty j d) →
  (t.slot j=.empty)∧∀ k,d=some k→t.slot k=.dummy
 | 0,p,j,d,_,e=>by unfold SetTable.probe.go at e;cases e
 | fuel+1,p,j,d,hd,e=>by
  unfold SetTable.probe.go at e
  split at e
  ·rename_i es
   cases (Option.some.inj e)
   exact ⟨es,hd⟩
  ·rename_i es
   refine nQ fuel _ j d (fun k hk=>?_) e
   have adv:∀ q:SetTable.Probe,(t.advance q).dummy=q.dummy:=fun q=>by unfold SetTable.advance;split<;>rfl
   rw [adv] at hk
   cases hk
   exact es
  ·split at e
   ·cases e
   ·refine nQ fuel _ j d (fun k hk=>?_) e
    have adv:∀ q:SetTable.Probe,(t.advance q).dummy=q.dummy:=fun q=>by unfold SetTable.advance;split<;>rfl
    rw [adv] at hk
    exact hd k hk
theorem TOk.layNew {t:SetTable} {led:Bool} (h:TOk t led) (es:Array (Int×Value)) (hs:Int) (x:Value):TOk (layNew t es hs x).2.1 led:=by
 unfold PySem.layNew
 split
 ·rename_i slot wd e
  dsimp only
  have hput:TOk (t.put slot).1 led:=by
   refine ⟨h.led,fun hp=>?_⟩
   have hr:mM t.place:=h.rise hp
   refine rise_put hr (slot_free ?_)
   unfold SetTable.freeSlot SetTable.probe at e
   split at e
   ·rename_i j d em
    obtain ⟨a,b⟩:=nQ _ _ j d (fun k hk=>by simp [SetTable.probeStart] at hk) em
    cases (Option.some.inj e)
    cases d with
    | none=>exact .inl a
    | some k=>exact .inr (b k rfl)
   ·cases e
  exact hput.orStandIn _
 ·exact h.standIn _
theorem TOk.relayAll {t:SetTable} {led:Bool} (h:TOk t led) (es:Array (Int×Value)) (wanted:Nat):TOk (relayAll t es wanted).2.1 led:=by
 unfold PySem.relayAll
 split
 ·rename_i t' order e
  dsimp only
  split
  ·unfold SetTable.relaid SetTable.laid at e
   cases ho:SetTable.layClean (SetTable.sizeAbove wanted - 1) (es.map (·.1)) with
   | none=>rw [ho] at e;cases e
   | some owner=>
    rw [ho] at e
    have e:=Option.some.inj e
    have e1:=(congrArg Prod.fst e).symm
    dsimp only at e1
    subst e1
    refine ⟨h.led,fun _=>?_⟩
    show List.Pairwise (·<·) _
    simp only [List.toList_toArray]
    rw [List.pairwise_map,List.pairwise_filterMap]
    refine List.pairwise_lt_range.imp ?_
    intro a b hab x hx y hy
    obtain ⟨u,_,rfl⟩:=Option.map_eq_some_iff.mp hx
    obtain ⟨v,_,rfl⟩:=Option.map_eq_some_iff.mp hy
    exact hab
  ·exact h.standIn _
 ·exact h.standIn _
end L2.SX
namespace L2.SX
open PySem PyProof.Rows
section
variable {prog:Program} {w:World} {K:Type} [DecidableEq K]
structure Good (knd:KeyKind prog w K) (h:Heap) (a:Addr) (ks:List K) (led:Bool):Prop where
 ex:∃ o es ep t,h.get? a=some o∧o.ExactSet∧o.data=.set es ep t∧ElemsOf knd es.toList∧(∀ k,k∈ks↔∃ e∈es.toList,knd.is k e.2=true)∧es.size=ks.length∧t.fits es.size=true∧TOk t led
 nd:ks.Nodup
 few:ks.length<scanBound
def addK (ks:List K) (k:K):List K:=if k∈ks then ks else ks++[k]
variable {knd:KeyKind prog w K} {A:Around} {E:Value→Shared→Prop} {s:Shared} {a:Addr} {ks:List K} {led:Bool}
theorem Good.keeps {h h':Heap} (g:Good knd h a ks led) (k:∀ o,h.get? a=some o→h'.get? a=some o):Good knd h' a ks led:=by
 obtain ⟨o,es,ep,t,ho,r⟩:=g.ex
 exact ⟨⟨o,es,ep,t,k o ho,r⟩,g.nd,g.few⟩
theorem stored {h:Heap} {o:Obj} {es es':Array (Int×Value)} {ep:Nat} {t t':SetTable} (ho:h.get? a=some o) (hd:o.data=.set es ep t):(h.update a (Obj.putSet es' t')).get? a=some { o with data:=.set es' (ep+1) t' }:=by
 have e:=putSet_of es' t' hd
 have q:=Heap.get?_update_self (Obj.putSet es' t') ho (by rw [e];rfl)
 rw [e] at q
 exact q
theorem dB {k:K} {x:Value} {Q:Bool→Shared→Prop} (hkey:knd.is k x=true) (hsc:x.scannable=true) (g:Good knd s.heap a ks led) (hroom:ks.length+1<scanBound)
  (h:∀ h' b,Heap.SameBut a s.heap h'→Good knd h' a (addK ks k) led→Q b { s with heap:=h' }):wpAny (model prog w) A (setAddHashed a x (knd.hash k)) Q E s:=by
 obtain ⟨o,es,ep,t,ho,hex,hd,hel,hmem,hn,hf,hT⟩:=g.ex
 have hb:es.size<scanBound:=by rw [hn];exact g.few
 unfold setAddHashed setAddHashedIn
 refine wpAny_holding (wpAny_bind (wpAny_setState_of ho hd hf ?_))
 dsimp only
 rw [byScan_of hsc hb hel]
 simp only [↓reduceIte]
 unfold setAddByScan
 refine wpAny_bind (wpAny_bind (wpAny_rule (wpAny_bind (wpAny_setScan_of hkey ho hd hf hel ?_))))
 cases hr:List.findIdx? (fun e=>knd.is k e.2) es.toList with
 | some j=>
  dsimp only
  obtain ⟨hj,hpj,_⟩:=List.findIdx?_eq_some_iff_getElem.mp hr
  have hk:k∈ks:=(hmem k).mpr ⟨es.toList[j],List.getElem_mem hj,hpj⟩
  refine wpAny_pure (wpAny_pure ?_)
  have q:=h s.heap false (Heap.SameBut.refl a s.heap) (by unfold addK;rw [if_pos hk];exact g)
  exact q
 | none=>
  dsimp only
  have hk:k∉ks:=fun z=>by
   obtain ⟨e,he,hp⟩:=(hmem k).mp z
   have:=List.findIdx?_eq_none_iff.mp hr e he
   rw [hp] at this
   cases this
  have gone:∀ (b:Bool) {s₁:Shared} {Q':Unit→Shared→Prop},Q' () s₁→wpAny (model prog w) A (match b with | true=>rule "set.scan.the-table-gave-way" | false=>pure ()) Q' E s₁:=by
   intro b s₁ Q' q
   cases b
   ·exact wpAny_pure q
   ·exact wpAny_rule q
  have hperm:=layNew_perm t es (knd.hash k) x
  have hfits:=layNew_fits t es (knd.hash k) x
  have hTL:=hT.layNew es (knd.hash k) x
  generalize layNew t es (knd.hash k) x=L at hperm hfits hTL ⊢
  obtain ⟨es1,t1,wd,gave⟩:=L
  dsimp only at hperm hfits hTL ⊢
  rw [Array.toList_push] at hperm
  have hel1:ElemsOf knd es1.toList:=(hel.push hkey hsc).perm hperm
  have hmem1:∀ k',k'∈addK ks k↔∃ e∈es1.toList,knd.is k' e.2=true:=by
   intro k'
   unfold addK
   rw [if_neg hk,List.mem_append,List.mem_singleton,hmem k']
   constructor
   ·rintro (⟨e,he,hp⟩ | rfl)
    ·exact ⟨e,hperm.mem_iff.mpr (List.mem_append_left _ he),hp⟩
    ·exact ⟨_,hperm.mem_iff.mpr (List.mem_append_right _ (List.mem_singleton.mpr rfl)),hkey⟩
   ·rintro ⟨e,he,hp⟩
    rcases List.mem_append.mp (hperm.mem_iff.mp he) with he | he
    ·exact .inl ⟨e,he,hp⟩
    ·rw [List.mem_singleton] at he
     subst he
     exact .inr (knd.inj x k' k hp hkey)
  have hlen:(addK ks k).length=ks.length+1:=by unfold addK;rw [if_neg hk];simp
  have hsz1:es1.size=(addK ks k).length:=by rw [hlen,←hn,←Array.length_toList,hperm.length_eq];simp
  have hb1:es1.size<scanBound:=by rw [hsz1,hlen];exact hroom
  have hnd:(addK ks k).Nodup:=by
   unfold addK
   rw [if_neg hk,List.nodup_append]
   exact ⟨g.nd,by simp,fun a ha b hb=>by rw [List.mem_singleton] at hb;subst hb;exact fun z=>hk (z▸ha)⟩
  have tail:∀ {gv:Bool→Sem Unit} (hgv:∀ (b:Bool) (s₁:Shared) (Q':Unit→Shared→Prop),Q' () s₁→wpAny (model prog w) A (gv b) Q' E s₁) {t2:SetTable},t2.fits es1.size=true→TOk t2 led→∀ {R:Option Bool→Shared→Prop},(∀ h',Heap.SameBut a s.heap h'→Good knd h' a (addK ks k) led→R (some true) { s with heap:=h' }) →
    wpAny (model prog w) A (do
     storeSet a es1 t2
     if (!wd&&t2.tooFull)=true then do
       gv (relayAll t2 es1 (SetTable.grown es1.size)).2.2
       storeSet a (relayAll t2 es1 (SetTable.grown es1.size)).1 (relayAll t2 es1 (SetTable.grown es1.size)).2.1
       pure (some true)
      else pure (some true)) R E s:=by
   intro gv hgv t2 hf2 hT2 R hR
   refine wpAny_bind (wpAny_storeSet_of ho hd ?_ (fits_of_scanBound hb1))
   have ho1:=stored (es':=es1) (t':=t2) ho hd
   have sb1:=Heap.SameBut.update s.heap a (Obj.putSet es1 t2)
   split
   ·have p2:=relayAll_perm t2 es1 (SetTable.grown es1.size)
    have f2:=relayAll_fits t2 es1 (SetTable.grown es1.size)
    have hT3:=hT2.relayAll es1 (SetTable.grown es1.size)
    generalize relayAll t2 es1 (SetTable.grown es1.size)=W at p2 f2 hT3 ⊢
    obtain ⟨es2,t3,gv2⟩:=W
    dsimp only at p2 f2 hT3 ⊢
    have sz2:es2.size=es1.size:=by rw [←Array.length_toList,p2.length_eq,Array.length_toList]
    refine wpAny_bind (hgv _ _ _ ?_)
    refine wpAny_bind (wpAny_storeSet_of ho1 rfl ?_ (fits_of_scanBound (by rw [sz2];exact hb1)))
    have ho2:=stored (a:=a) (es':=es2) (t':=t3) ho1 rfl
    refine wpAny_pure (hR _ (sb1.trans (Heap.SameBut.update _ a _)) ⟨⟨_,es2,_,t3,ho2,hex,rfl,hel1.perm p2,fun k'=>(hmem1 k').trans ⟨fun ⟨e,he,q⟩=>⟨e,p2.mem_iff.mpr he,q⟩,fun ⟨e,he,q⟩=>⟨e,p2.mem_iff.mp he,q⟩⟩,by rw [sz2];exact hsz1,f2,hT3⟩,hnd,by rw [hlen];exact hroom⟩)
   ·exact wpAny_pure (hR _ sb1 ⟨⟨_,es1,_,t2,ho1,hex,rfl,hel1,hmem1,hsz1,hf2,hT2⟩,hnd,by rw [hlen];exact hroom⟩)
  refine wpAny_bind (gone _ ?_)
  split
  ·refine wpAny_bind ?_
   rw [hashByValue_scannable 8 hsc]
   refine wpAny_pure ?_
   split
   ·refine tail (fun b s₁ Q' q=>by cases b<;>first | exact wpAny_pure q | exact wpAny_rule q) hfits hTL fun h' sb gg=>?_
    dsimp only
    exact wpAny_pure (h h' true sb gg)
   ·refine tail (fun b s₁ Q' q=>by cases b<;>first | exact wpAny_pure q | exact wpAny_rule q) (SetTable.fits_plain_off hfits) hTL.off fun h' sb gg=>?_
    dsimp only
    exact wpAny_pure (h h' true sb gg)
  ·refine wpAny_bind (wpAny_pure ?_)
   simp only [↓reduceIte]
   refine tail (fun b s₁ Q' q=>by cases b<;>first | exact wpAny_pure q | exact wpAny_rule q) hfits hTL fun h' sb gg=>?_
   dsimp only
   exact wpAny_pure (h h' true sb gg)
end
section
variable {prog:Program} {w:World} {K:Type} [DecidableEq K] {knd:KeyKind prog w K} {A:Around} {R:Result→Shared→Prop} {I:Addr} {fp wr:List Addr} {G:Array GenState→Array GenState→Prop} {n:Nat} {P:Nat→Value→Prop} {St:Nat→Shared→Prop} {led:Bool}
def metK (val:Nat→K) (i:Nat):List K:=((List.range i).map val).foldl addK []
theorem metK_succ (val:Nat→K) (i:Nat):metK val (i+1)=addK (metK val i) (val i):=by unfold metK;rw [List.range_succ,List.map_append,List.foldl_append];rfl
theorem metK_len (val:Nat→K):∀ i,(metK val i).length≤i
 | 0=>by simp [metK]
 | i+1=>by
  have:=metK_len val i
  rw [metK_succ];unfold addK;split
  ·omega
  ·simp;omega
theorem loop_ok (W:WalksS prog w A.in1 I fp wr G n P St) (S:Addr) (hSf:S∉fp) (val:Nat→K) (hval:∀ i v,P i v→knd.is (val i) v=true∧v.scannable=true)
  (hpy:∀ i v (A':Around) (E':Value→Shared→Prop) (s':Shared) (Q':Int→Shared→Prop),P i v→Q' (knd.hash (val i)) { s' with toks:=s'.toks+1 }→wpAny (model prog w) A' (pyHash v) Q' E' s') (hb:n+1<scanBound) :
  ∀ (m i:Nat) (s:Shared),n - i=m→i≤n→St i s→Good knd s.heap S (metK val i) led→(∀ s',Moved (S::wr) G s s'→Good knd s'.heap S (metK val n) led→R (.ok (.ret .none)) s') →
   codeAny (model prog w) A (.builtin "set.update.loop" ⟨[.ref S,.ref I],[]⟩) R s:=by
 have nw:S∉wr:=fun z=>hSf (W.sub _ z)
 have up:∀ b∈wr,b∈S::wr:=fun b hb=>List.mem_cons_of_mem _ hb
 intro m
 induction m with
 | zero=>
  intro i s hm hi st g hR
  obtain rfl:i=n:=by omega
  refine codeAny_builtin F.entry_set_update_loop ?_
  rw [Around.under_plainId F.plain_set_update_loop _]
  show wpAny _ A.in1 (pyNext (.ref I)>>=_) _ _ s
  refine wpAny_bind (W.done s _ _ st fun s' mv=>?_)
  exact wpAny_pure (hR s' (mv.mono up) (g.keeps fun o e=>mv.heap S o nw e))
 | succ m ih=>
  intro i s hm hi st g hR
  have lt:i<n:=by omega
  refine codeAny_builtin F.entry_set_update_loop ?_
  rw [Around.under_plainId F.plain_set_update_loop _]
  show wpAny _ A.in1 (pyNext (.ref I)>>=_) _ _ s
  refine wpAny_bind (W.item i s _ _ lt st fun v s' pv st' mv=>?_)
  have g':=g.keeps (h':=s'.heap) fun o e=>mv.heap S o nw e
  obtain ⟨hk,hsc⟩:=hval i v pv
  show wpAny _ A.in1 (holding [v] (setAdd S v)>>=_) _ _ s'
  refine wpAny_bind (wpAny_holding ?_)
  unfold setAdd
  refine wpAny_holding (wpAny_bind (hpy i v _ _ _ _ pv ?_))
  have room:(metK val i).length+1<scanBound:=by have:=metK_len val i;omega
  refine dB (knd:=knd) (s:={ s' with toks:=s'.toks+1 }) hk hsc g' room fun h' b sb g2=>?_
  rw [←metK_succ] at g2
  refine wpAny_pure ⟨plainId_quiet F.plain_set_update_loop _,ih (i+1) _ (by omega) lt (W.frame _ s' _ _ st' (Nat.le_succ _) fun c hc o e=>?_) g2 fun s'' mv'' g''=>?_⟩
  ·rw [sb.2 c (fun z:c=S=>hSf (z▸hc))]
   exact e
  ·refine hR s'' (Moved.trans W.gtrans ((mv.mono up).then_heap (Nat.le_succ _) fun c o hc e=>?_) mv'') g''
   rw [sb.2 c (fun z:c=S=>hc (by rw [z];exact List.mem_cons_self))]
   exact e
end
end L2.SX
namespace L2.SX
open PySem PyProof.Rows
def ledOf (w:World):Bool:=!w.params.followText "set-order"
abbrev cA (w:World):Obj:={ cls:=.type "set", dict:=none,data:=.set #[] 0 (.fresh 0 0 (ledOf w)) }
section
variable {prog:Program} {w:World} {A:Around} {E:Value→Shared→Prop} {s:Shared} {K:Type} [DecidableEq K] {knd:KeyKind prog w K}
theorem good_new (h:Heap):Good knd (h.push (cA w)) h.objs.size [] (ledOf w):=
 ⟨⟨_,#[],0,_,Heap.get?_push_size _ rfl,⟨rfl,rfl,rfl⟩,rfl,fun e he=>by simp at he,fun k=>by simp,rfl,rfl,.fresh _⟩,List.nodup_nil,by show 0<scanBound;decide⟩
theorem new_one (v:Value) {Q1:Value→Shared→Prop} (h:Q1 (.ref s.heap.objs.size) { s with heap:=s.heap.push (cA w) }):codeAny (model prog w) A (.call (.builtin "set.__new__") ⟨[.type "set", v],[]⟩) (wants Q1 E) s:=by
 refine codeAny_of_tree ?_
 show wpAny _ A.in1 (checkBuiltinCall "set.__new__" ⟨[.type "set", v],[]⟩>>=fun _=>again (.builtin "set.__new__" ⟨[.type "set", v],[]⟩)) _ _ s
 refine wpAny_bind (wpAny_of_eq (F.newCall_set_1 v) (wpAny_pure ⟨plainId_quiet F.plain_set_new _,codeAny_builtin F.entry_set_new ?_⟩))
 rw [Around.under_plainId F.plain_set_new _]
 unfold Builtin.«set.__new__» Builtin.Frozenset.newClass
 have sub:=sub_set_self
 obtain ⟨hp,gs,dr,tk,os⟩:=s
 dsimp only
 wp_walk
 refine wpAny_askSetting (wpAny_pure ?_)
 dsimp only [newObj]
 exact wpAny_bind (wpAny_alloc (wpAny_pure (wpAny_pure h)))
theorem set_of {l:Addr} {items:Array Value} {val:Nat→K} {Q:Value→Shared→Prop} (hh:A.handled=none) (hl:s.heap.IsList l items) (hval:∀ i v,items[i]?=some v→knd.is (val i) v=true∧v.scannable=true)
  (hpy:∀ i v (A':Around) (E':Value→Shared→Prop) (s':Shared) (Q':Int→Shared→Prop),items[i]?=some v→Q' (knd.hash (val i)) { s' with toks:=s'.toks+1 }→wpAny (model prog w) A' (pyHash v) Q' E' s') (hb:items.size+1<scanBound)
  (h:∀ (h':Heap) (tk:Nat),Good knd h' s.heap.objs.size (metK val items.size) (ledOf w)→(∀ b o,b<s.heap.objs.size→s.heap.get? b=some o→h'.get? b=some o)→Q (.ref s.heap.objs.size) { s with heap:=h',toks:=tk }) :
  wpAny (model prog w) A (call (.type "set") [.ref l]) Q E s:=by
 obtain ⟨c,tl,hmro⟩:=F.called_set.mro
 have hmade:=F.called_set.made
 have hsub:=F.called_set.sub
 refine wpAny_call (codeAny_of_tree ?_)
 show wpAny _ _ (callAny (.type "set") ⟨[.ref l],[]⟩) _ _ _
 refine wpAny_pure ⟨Code.quiet_builtin _ (by decide +kernel),codeAny_builtin F.entry_type_call ?_⟩
 rw [Around.under_plain (weight_type_call_type "set" [.ref l] []) rfl]
 have n1:=F.called_set.notType
 have n2:=F.called_set.canCreate
 have n3:=F.typeCall_set_1 (.ref l)
 repeat (any_goals (first | assumption | wp_step))
 refine codeAny_mono (new_one (.ref l) (E:=E) (Q1:=fun ob s1=>ob=.ref s.heap.objs.size∧s1={ s with heap:=s.heap.push (cA w) }) ⟨rfl,rfl⟩) fun r s1 hr=>?_
 cases r with
 | error e=>exact hr
 | ok fl=>
  cases fl with
  | ret ob=>
   obtain ⟨rfl,rfl⟩:=hr
   have hS:(s.heap.push (cA w)).get? s.heap.objs.size=some (cA w):=Heap.get?_push_size _ rfl
   have hT:Shared.TypeIs { s with heap:=s.heap.push (cA w) } (.ref s.heap.objs.size) "set" := ⟨_,hS,rfl⟩
   have k1:=F.called_set.init.lookup
   have k2:=F.called_set.init.bind (.ref s.heap.objs.size)
   repeat (any_goals (first | assumption | wp_step))
   refine codeAny_mono (codeAny_call_builtin (R:=wants (fun r s2=>r=.none∧∃ h' tk,s2={ s with heap:=h',toks:=tk }∧Good knd h' s.heap.objs.size (metK val items.size) (ledOf w)∧∀ b o,b<s.heap.objs.size→s.heap.get? b=some o→h'.get? b=some o) E)
    F.called_set.init.plain F.entry_set_init (check_set_init_1 hT ?_)) fun r2 s2 hr2=>?_
   ·obtain ⟨ol,g0,c0,nl,d0⟩:=hl
    obtain ⟨ocl,odc,odt,osl⟩:=ol
    dsimp only at c0 d0
    subst c0 d0
    have g1:(s.heap.push (cA w)).get? l=some { cls:=.type "list", dict:=odc,data:=.seq items nl,slots:=osl }:=Heap.get?_push_of_some _ g0
    have s1:=F.sub_list_set
    have s2:=F.sub_list_frozenset
    have ne:(Value.type "list" == Value.type "dict")=false:=by decide
    have L1:(s.heap.push (cA w)).IsList l items:=⟨_,g1,rfl,nl,rfl⟩
    unfold Builtin.«set.__init__» noKeywords Builtin.Frozenset.updateFrom
    generalize hI:pyIter=PI
    wp_walk
    subst hI
    refine wpAny_pyIter_list L1 (wpAny_bind (wpAny_runValue ?_))
    have lt:l<s.heap.objs.size:=Heap.lt_size g0
    have h3:A.in1.in1.in1.handled=none:=by simp [hh]
    have nI:l≠(s.heap.push (cA w)).objs.size:=by
     rw [Heap.size_push];exact Nat.ne_of_lt (Nat.lt_succ_of_lt lt)
    have nf:s.heap.objs.size∉[(s.heap.push (cA w)).objs.size,l]:=by
     rw [Heap.size_push]
     intro z
     rcases List.mem_cons.mp z with z | z
     ·exact absurd z (Nat.ne_of_lt (Nat.lt_succ_self _))
     ·rw [List.mem_singleton] at z
      exact absurd z (Nat.ne_of_gt lt)
    refine loop_ok (knd:=knd) (led:=ledOf w) ((Walks.list h3 _ l nI items).toS) s.heap.objs.size nf val hval hpy hb (items.size - 0) 0 _ (by omega) (Nat.zero_le _) ⟨⟨_,Heap.get?_push_size _ rfl,rfl,rfl⟩,L1.push _⟩ ?g0 ?gR
    case g0=>exact (good_new (knd:=knd) s.heap).keeps fun o e=>Heap.get?_push_of_some _ e
    case gR=>
     intro s' mv g'
     obtain ⟨h',gs',dr',tk',os'⟩:=s'
     obtain rfl:gs'=s.gens:=mv.gens
     obtain rfl:dr'=s.drawn:=mv.drawn
     obtain rfl:os'=s.os:=mv.os
     show wpAny _ _ _ _ _ _
     refine wpAny_pure ?_
     show wpAny _ _ (ret Value.none) _ _ _
     refine wpAny_pure ⟨rfl,h',tk',rfl,g',fun b o hb' e=>?_⟩
     refine mv.heap b o (fun z=>?_) (Heap.get?_push_of_some _ (Heap.get?_push_of_some _ e))
     rcases List.mem_cons.mp z with z | z
     ·exact absurd z (Nat.ne_of_lt hb')
     ·rw [List.mem_singleton,Heap.size_push] at z
      exact absurd z (Nat.ne_of_lt (Nat.lt_succ_of_lt hb'))
   ·cases r2 with
    | error e=>exact hr2
    | ok fl2=>
     cases fl2 with
     | ret r=>
      obtain ⟨rfl,h',tk,rfl,g',kp⟩:=hr2
      repeat (any_goals (first | assumption | wp_step))
      exact h _ _ g' kp
     | _=>exact hr2.elim
  | _=>exact hr.elim
end
end L2.SX
namespace L2.SX
open PySem PyProof.Rows
theorem slot_next:Slot "set_iterator" "__next__" "set_iterator.__next__" :=
 .of (owner := "set_iterator") (n := "__next__") (by rw [typeLookup_type,builtinLookup_eq_fast];kernel_rfl) (by decide +kernel) (by decide +kernel) (by decide +kernel) (by first | exact .inl (by decide +kernel) | exact .inr (by decide +kernel)) (by rw [isSubtype_type];kernel_rfl)
theorem entry_next:entryFor table "set_iterator.__next__" = some Builtin.«set_iterator.__next__»:=entryFor_of_fast (by kernel_rfl)
theorem args_next (v:Value):argsOk "set_iterator.__next__" ⟨[v],[]⟩:=by unfold argsOk;kernel_rfl
theorem entry_iter:entryFor table "set.__iter__" = some Builtin.«frozenset.__iter__»:=entryFor_alias (id' := "frozenset.__iter__") (by kernel_rfl) rfl (by decide +kernel) (by kernel_rfl)
abbrev itO (f0:Value) (i:Nat) (a:Addr) (n ep:Nat):Obj:={ cls:=.type "set_iterator", data:=.fields #[f0,rawInt i,.ref a,rawInt n,rawInt ep] }
structure SetAt (h:Heap) (a:Addr) (es:Array (Int×Value)) (ep:Nat) (t:SetTable):Prop where
 ex:∃ o,h.get? a=some o∧o.cls=.type "set" ∧ o.data=.set es ep t
 fits:t.fits es.size=true
section
variable {prog:Program} {w:World} {A:Around} {E:Value→Shared→Prop} {s:Shared} {a I:Addr} {es:Array (Int×Value)} {ep i:Nat} {t:SetTable}
theorem SetAt.keeps {h h':Heap} (g:SetAt h a es ep t) (k:∀ o,h.get? a=some o→h'.get? a=some o):SetAt h' a es ep t:=by
 obtain ⟨o,ho,r⟩:=g.ex
 exact ⟨⟨o,k o ho,r⟩,g.fits⟩
theorem SetAt.state {Q:(Array (Int×Value)×Nat×SetTable)→Shared→Prop} (g:SetAt s.heap a es ep t) (h:Q (es,ep,t) s):wpAny (model prog w) A (setState a) Q E s:=by
 obtain ⟨o,ho,_,hd⟩:=g.ex
 exact wpAny_setState_of ho hd g.fits h
theorem SetAt.entries {Q:Array (Int×Value)→Shared→Prop} (g:SetAt s.heap a es ep t) (h:Q es s):wpAny (model prog w) A (setEntries a) Q E s:=by
 unfold setEntries
 exact wpAny_bind (g.state (wpAny_pure h))
theorem next_item {f0:Nat} {x:Value} {nx:Nat} {Q:Option Value→Shared→Prop} (hI:s.heap.get? I=some (itO (rawInt f0) i a es.size ep)) (g:SetAt s.heap a es ep t)
  (hn:∀ (A':Around) (E':Value→Shared→Prop) (Q':Option (Value×Nat)→Shared→Prop),Q' (some (x,nx)) s→wpAny (model prog w) A' (setNext a f0 i ep) Q' E' s)
  (hQ:∀ h',h'.get? I=some (itO (rawInt nx) (i+1) a es.size ep)→Heap.SameBut I s.heap h'→Q (some x) { s with heap:=h' }):wpAny (model prog w) A (pyNext (.ref I)) Q E s:=by
 have hT:s.TypeIs (.ref I) "set_iterator" := ⟨_,hI,rfl⟩
 unfold pyNext
 refine wpAny_bind (wpAny_attempt (wpAny_callSpecial?_slot (name:=Str.ofString "__next__") hT slot_next (wpAny_call_entry slot_next hT entry_next ?_ (args_next _))))
 unfold Builtin.«set_iterator.__next__»
 generalize hSE:setEntries=SE
 generalize hSN:setNext=SN
 generalize hSF:setField=SF
 wp_walk
 subst hSE hSN hSF
 refine g.entries ?_
 dsimp only
 rw [if_neg (by simp)]
 show wpAny _ A.in1 (setNext a (f0:Int).toNat (i:Int).toNat (ep:Int).toNat>>=_) _ _ s
 rw [Int.toNat_natCast,Int.toNat_natCast,Int.toNat_natCast]
 refine wpAny_bind (hn _ _ _ ?_)
 dsimp only
 refine wpAny_bind (wpAny_setField_rec hI (by simp) fun h1 g1 s1=>?_)
 refine wpAny_bind (wpAny_setField_rec g1 (by simp) fun h2 g2 s2=>?_)
 refine wpAny_pure ⟨x,rfl,wpAny_pure (hQ h2 ?_ (s1.trans s2))⟩
 rw [g2]
 simp [itO,rawInt]
theorem next_end {f0:Nat} {Q:Option Value→Shared→Prop} (hh:A.handled=none) (hI:s.heap.get? I=some (itO (rawInt f0) i a es.size ep)) (g:SetAt s.heap a es ep t)
  (hn:∀ (A':Around) (E':Value→Shared→Prop) (Q':Option (Value×Nat)→Shared→Prop),Q' none s→wpAny (model prog w) A' (setNext a f0 i ep) Q' E' s)
  (hQ:∀ h',Heap.ExtBut I s.heap h'→Q none { s with heap:=h' }):wpAny (model prog w) A (pyNext (.ref I)) Q E s:=by
 have hT:s.TypeIs (.ref I) "set_iterator" := ⟨_,hI,rfl⟩
 unfold pyNext
 refine wpAny_bind (wpAny_attempt (wpAny_callSpecial?_slot (name:=Str.ofString "__next__") hT slot_next (wpAny_call_entry slot_next hT entry_next ?_ (args_next _))))
 unfold Builtin.«set_iterator.__next__»
 generalize hSE:setEntries=SE
 generalize hSN:setNext=SN
 generalize hSF:setField=SF
 generalize hNE:newExc=NE
 generalize hRN:@raiseNew=RN
 wp_walk
 subst hSE hSN hSF hNE hRN
 refine g.entries ?_
 dsimp only
 rw [if_neg (by simp)]
 show wpAny _ A.in1 (setNext a (f0:Int).toNat (i:Int).toNat (ep:Int).toNat>>=_) _ _ s
 rw [Int.toNat_natCast,Int.toNat_natCast,Int.toNat_natCast]
 refine wpAny_bind (hn _ _ _ ?_)
 dsimp only
 refine wpAny_bind (wpAny_setField_rec hI (by simp) fun h1 g1 s1=>?_)
 refine wpAny_bind ?_
 dsimp only [newExc,newTuple]
 refine wpAny_bind (wpAny_newObj_type ?_ (by size_fits))
 refine wpAny_bind (m:=firstArgMember _ _) (wpAny_of_eq (a:=Value.none) (by first | rfl | (simp only [firstArgMember];rfl)) ?_)
 refine wpAny_newObj_type ?_ (by size_fits)
 dsimp only [raiseNew]
 refine wpAny_bind (wpAny_handled ?_)
 rw [show A.in1.handled=none from hh]
 refine wpAny_bind (wpAny_pure (wpAny_throw ?_))
 refine wpAny_bind (wpAny_isInstance (T := "StopIteration") (b:=true) ⟨_,Heap.get?_push_size _ rfl,rfl⟩ isSubtype_stop ?_)
 exact wpAny_pure (hQ _ ((s1.extBut.push _).push _))
end
end L2.SX
namespace L2.SX
open PySem PyProof.Rows
section
variable {prog:Program} {w:World} {A:Around} {E:Value→Shared→Prop} {s:Shared} {a I T:Addr} {es:Array (Int×Value)} {ep i:Nat} {t:SetTable}
abbrev plO (pl:List Nat):Obj:={ cls:=.type "tuple", data:=.seq (pl.map fun (k:Nat)=>rawInt k).toArray }
theorem next_itemD {pl:List Nat} {p:Nat} {hx:Int} {x:Value} {Q:Option Value→Shared→Prop} (hI:s.heap.get? I=some (itO (.ref T) i a es.size ep)) (hT:s.heap.get? T=some (plO pl)) (g:SetAt s.heap a es ep t) (hp:pl[i]?=some p) (he:es[p]?=some (hx,x))
  (hQ:∀ h',h'.get? I=some (itO (.ref T) (i+1) a es.size ep)→Heap.SameBut I s.heap h'→Q (some x) { s with heap:=h' }):wpAny (model prog w) A (pyNext (.ref I)) Q E s:=by
 have hty:s.TypeIs (.ref I) "set_iterator" := ⟨_,hI,rfl⟩
 unfold pyNext
 refine wpAny_bind (wpAny_attempt (wpAny_callSpecial?_slot (name:=Str.ofString "__next__") hty slot_next (wpAny_call_entry slot_next hty entry_next ?_ (args_next _))))
 unfold Builtin.«set_iterator.__next__»
 generalize hSE:setEntries=SE
 generalize hSN:setNextDrawn=SN
 generalize hSF:setField=SF
 generalize hSI:seqItems?=SI
 wp_walk
 subst hSE hSN hSF hSI
 refine g.entries ?_
 dsimp only
 rw [if_neg (by simp)]
 show wpAny _ A.in1 (seqItems? (.ref T)>>=_) _ _ s
 refine wpAny_bind (wpAny_seqItems hT rfl ?_)
 dsimp only
 have e1:(pl.map fun (k:Nat)=>rawInt k).toArray[(i:Int).toNat]?=some (rawInt p):=by
  rw [Int.toNat_natCast,List.getElem?_toArray,List.getElem?_map,hp];rfl
 rw [e1]
 show wpAny _ A.in1 (setNextDrawn a (p:Int).toNat (ep:Int).toNat>>=_) _ _ s
 rw [Int.toNat_natCast,Int.toNat_natCast]
 unfold setNextDrawn
 refine wpAny_bind (wpAny_bind (g.state ?_))
 dsimp only
 rw [if_neg (by simp),he]
 refine wpAny_pure ?_
 refine wpAny_bind (wpAny_setField_rec hI (by simp) fun h1 g1 s1=>?_)
 refine wpAny_pure ⟨x,rfl,wpAny_pure (hQ h1 ?_ s1)⟩
 rw [g1]
 simp [itO,rawInt]
theorem next_endD {pl:List Nat} {Q:Option Value→Shared→Prop} (hh:A.handled=none) (hI:s.heap.get? I=some (itO (.ref T) i a es.size ep)) (hT:s.heap.get? T=some (plO pl)) (g:SetAt s.heap a es ep t) (hp:pl[i]?=none)
  (hQ:∀ h',Heap.ExtBut I s.heap h'→Q none { s with heap:=h' }):wpAny (model prog w) A (pyNext (.ref I)) Q E s:=by
 have hty:s.TypeIs (.ref I) "set_iterator" := ⟨_,hI,rfl⟩
 unfold pyNext
 refine wpAny_bind (wpAny_attempt (wpAny_callSpecial?_slot (name:=Str.ofString "__next__") hty slot_next (wpAny_call_entry slot_next hty entry_next ?_ (args_next _))))
 unfold Builtin.«set_iterator.__next__»
 generalize hSE:setEntries=SE
 generalize hSF:setField=SF
 generalize hSI:seqItems?=SI
 generalize hNE:newExc=NE
 generalize hRN:@raiseNew=RN
 wp_walk
 subst hSE hSF hSI hNE hRN
 refine g.entries ?_
 dsimp only
 rw [if_neg (by simp)]
 show wpAny _ A.in1 (seqItems? (.ref T)>>=_) _ _ s
 refine wpAny_bind (wpAny_seqItems hT rfl ?_)
 dsimp only
 have e1:(pl.map fun (k:Nat)=>rawInt k).toArray[(i:Int).toNat]?=none:=by
  rw [Int.toNat_natCast,List.getElem?_toArray,List.getElem?_map,hp];rfl
 rw [e1]
 dsimp only
 refine wpAny_bind (wpAny_setField_rec hI (by simp) fun h0 g0 s0=>?_)
 refine wpAny_bind (wpAny_setField_rec g0 (by simp) fun h1 g1 s1=>?_)
 refine wpAny_bind ?_
 dsimp only [newExc,newTuple]
 refine wpAny_bind (wpAny_newObj_type ?_ (by size_fits))
 refine wpAny_bind (m:=firstArgMember _ _) (wpAny_of_eq (a:=Value.none) (by first | rfl | (simp only [firstArgMember];rfl)) ?_)
 refine wpAny_newObj_type ?_ (by size_fits)
 dsimp only [raiseNew]
 refine wpAny_bind (wpAny_handled ?_)
 rw [show A.in1.handled=none from hh]
 refine wpAny_bind (wpAny_pure (wpAny_throw ?_))
 refine wpAny_bind (wpAny_isInstance (T := "StopIteration") (b:=true) ⟨_,Heap.get?_push_size _ rfl,rfl⟩ isSubtype_stop ?_)
 exact wpAny_pure (hQ _ (((s0.trans s1).extBut.push _).push _))
theorem go_perm {α:Type} (next:Nat→Nat):∀ (fuel k:Nat) (left:List α) (out:Array α),left.length=fuel→(pickOrder.go next fuel k left out).toList.Perm (out.toList++left)
 | 0,k,left,out,h=>by
  have:left=[]:=List.length_eq_zero_iff.mp h
  subst this
  simp [pickOrder.go]
 | fuel+1,k,left,out,h=>by
  unfold pickOrder.go
  have lt:next k % left.length<left.length:=Nat.mod_lt _ (by omega)
  rw [List.getElem?_eq_getElem lt]
  dsimp only
  refine (go_perm next fuel (k+1) _ _ (by rw [List.length_eraseIdx,if_pos lt];omega)).trans ?_
  rw [Array.toList_push,List.append_assoc]
  refine List.Perm.append_left _ ?_
  show (left[next k % left.length]::left.eraseIdx (next k % left.length)).Perm left
  generalize next k % left.length=m at lt
  rw [List.eraseIdx_eq_take_drop_succ]
  have e:left=left.take m++left[m]::left.drop (m+1):=by rw [List.getElem_cons_drop,List.take_append_drop]
  refine List.Perm.trans ?_ (List.Perm.of_eq e.symm)
  exact List.perm_middle.symm
theorem pick_perm {α:Type} (next:Nat→Nat) (xs:Array α):(pickOrder next xs).toList.Perm xs.toList:=by
 unfold pickOrder
 have:=go_perm next xs.size 0 xs.toList #[] (by simp)
 simpa using this
theorem walkT (hb:w.params.followText "set-order" = true) {Q:Array (Int×Value)→Shared→Prop} (g:SetAt s.heap a es ep t) (h:Q (pickOrder (w.params.setOrder a ep) es) s):wpAny (model prog w) A (setWalk a) Q E s:=by
 unfold setWalk
 refine wpAny_bind (g.state ?_)
 dsimp only
 unfold setsByText
 refine wpAny_bind (wpAny_bind (wpAny_askSetting (wpAny_pure ?_)))
 show wpAny _ _ (if w.params.followText "set-order" = true then _ else _) _ _ s
 rw [if_pos hb]
 exact wpAny_bind (wpAny_askSetting (wpAny_pure h))
theorem nextT (hb:w.params.followText "set-order" = true) {f0:Nat} {Q:Option (Value×Nat)→Shared→Prop} (g:SetAt s.heap a es ep t) (h:Q (((pickOrder (w.params.setOrder a ep) es)[i]?).map fun e=>(e.2,f0)) s):wpAny (model prog w) A (setNext a f0 i ep) Q E s:=by
 unfold setNext
 refine wpAny_bind (g.state ?_)
 dsimp only
 refine wpAny_bind ?_
 unfold setsByText
 refine wpAny_bind (wpAny_askSetting (wpAny_pure ?_))
 show wpAny _ _ (if w.params.followText "set-order" = true then _ else _) _ _ s
 rw [if_pos hb,if_neg (by simp)]
 refine wpAny_bind ?_
 exact walkT hb g (wpAny_pure h)
theorem nextC (hb:w.params.followText "set-order" = false) (hnd:(!t.plain&&decide (es.size > 1))=false) (hl:t.led=true) {f0:Nat} {Q:Option (Value×Nat)→Shared→Prop} (g:SetAt s.heap a es ep t)
  (h:Q (match es[SetTable.below t.place f0]?,t.place[SetTable.below t.place f0]? with | some (_,x),some j=>some (x,j+1) | _,_=>none) s):wpAny (model prog w) A (setNext a f0 i ep) Q E s:=by
 unfold setNext
 refine wpAny_bind (g.state ?_)
 dsimp only
 refine wpAny_bind ?_
 unfold setsByText
 refine wpAny_bind (wpAny_askSetting (wpAny_pure ?_))
 show wpAny _ _ (if w.params.followText "set-order" = true then _ else (if (!t.plain&&decide (es.size > 1))=true then _ else _)) _ _ s
 rw [hb,if_neg (by decide),hnd,if_neg (by decide)]
 show wpAny _ _ ((if (!t.led&&!es.isEmpty)=true then unsupported "set:maker-not-led" else pure PUnit.unit)>>=fun _=>_) _ _ s
 rw [hl]
 rw [if_neg (by simp)]
 exact wpAny_bind (wpAny_pure (wpAny_pure h))
end
end L2.SX
namespace L2.SX
open PySem PyProof.Rows
theorem choose_ok {M:Model} {A:Around} {E:Value→Shared→Prop} {s:Shared} {src:Source} {n:Nat} {Q:Nat→Shared→Prop} (hn:n≠0) (h:∀ k,k<n→Q k { s with drawn:=s.drawn.bump src }):wpAny M A (choose src n) Q E s:=fun Γ p hΓ=>by
 unfold choose
 rw [Sem.wp_choose]
 exact ⟨hn,h _ (Nat.mod_lt _ (by omega))⟩
theorem draw_ok {α:Type} {M:Model} {A:Around} {E:Value→Shared→Prop}:∀ (n:Nat) (xs:List α) (s:Shared) (Q:List α→Shared→Prop),xs.length=n→(∀ ys d',ys.Perm xs→Q ys { s with drawn:=d' })→wpAny M A (drawOrder n xs) Q E s
 | 0,xs,s,Q,hn,h=>by
  have:xs=[]:=List.length_eq_zero_iff.mp hn
  subst this
  unfold drawOrder
  exact wpAny_pure (h [] s.drawn .nil)
 | n+1,[],s,Q,hn,h=>by cases hn
 | n+1,x::xs,s,Q,hn,h=>by
  unfold drawOrder
  refine wpAny_bind (choose_ok (by simp) fun k hk=>?_)
  rw [List.getElem?_eq_getElem hk]
  dsimp only
  refine wpAny_bind (draw_ok n _ _ _ (by rw [List.length_eraseIdx,if_pos hk];omega) fun ys d' hp=>wpAny_pure (h _ d' ?_))
  refine (hp.cons _).trans ?_
  generalize hL:x::xs=left at hk ⊢
  rw [List.eraseIdx_eq_take_drop_succ]
  have e:left=left.take k++left[k]::left.drop (k+1):=by rw [List.getElem_cons_drop,List.take_append_drop]
  exact List.perm_middle.symm.trans (List.Perm.of_eq e.symm)
theorem slot_self:Slot "set_iterator" "__iter__" "set_iterator.__iter__" :=
 .of (owner := "set_iterator") (n := "__iter__") (by rw [typeLookup_type,builtinLookup_eq_fast];kernel_rfl) (by decide +kernel) (by decide +kernel) (by decide +kernel) (by first | exact .inl (by decide +kernel) | exact .inr (by decide +kernel)) (by rw [isSubtype_type];kernel_rfl)
theorem entry_self:entryFor table "set_iterator.__iter__" = some Builtin.«dict_keyiterator.__iter__»:=entryFor_alias (id' := "dict_keyiterator.__iter__") (by kernel_rfl) rfl (by decide +kernel) (by kernel_rfl)
theorem args_self (v:Value):argsOk "set_iterator.__iter__" ⟨[v],[]⟩:=by unfold argsOk;kernel_rfl
theorem self_iter {prog:Program} {w:World} {A:Around} {E:Value→Shared→Prop} {s:Shared} {I:Addr} {Q:Value→Shared→Prop} (hty:s.TypeIs (.ref I) "set_iterator") (h:Q (.ref I) s):wpAny (model prog w) A (pyIter (.ref I)) Q E s:=by
 refine wpAny_pyIter_slot hty slot_self (wpAny_call_entry slot_self hty entry_self ?_ (args_self _))
 show wpAny _ _ (ret (.ref I)) _ _ s
 exact wpAny_pure ⟨_,rfl, "set_iterator", _,hty,slot_next.lookup,h⟩
section
variable {prog:Program} {w:World} {E:Value→Shared→Prop} {a I T:Addr} {es:Array (Int×Value)} {ep:Nat} {t:SetTable}
theorem walksT (hb:w.params.followText "set-order" = true) (hne:a≠I) {A:Around} (hh:A.handled=none):Walks prog w A I [I,a] [I] es.size (fun i v=>((pickOrder (w.params.setOrder a ep) es).toList.map (·.2))[i]?=some v)
  (fun i h=>h.get? I=some (itO (rawInt 0) i a es.size ep)∧SetAt h a es ep t) where
 sub:=fun b hb=>by simp at hb;simp [hb]
 frame:=fun i h h' st kp=>⟨kp I (by simp) _ st.1,st.2.keeps fun o e=>kp a (by simp) o e⟩
 item:=fun i s Q E hi st hQ=>by
  have hl:(pickOrder (w.params.setOrder a ep) es).size=es.size:=by rw [←Array.length_toList,(pick_perm _ _).length_eq,Array.length_toList]
  have hi':i<(pickOrder (w.params.setOrder a ep) es).size:=by omega
  refine next_item st.1 st.2 (x:=(pickOrder (w.params.setOrder a ep) es)[i].2) (nx:=0) (fun A' E' Q' q=>nextT hb st.2 (by rw [Array.getElem?_eq_getElem hi'];exact q)) fun h' g1 s1=>?_
  refine hQ _ h' s.toks ?_ ⟨g1,st.2.keeps fun o e=>s1.extBut _ _ hne e⟩ fun b o hb e=>s1.extBut b o (by simpa using hb) e
  rw [List.getElem?_map,Array.getElem?_toList,Array.getElem?_eq_getElem hi']
  rfl
 done:=fun s Q E st hQ=>by
  have hl:(pickOrder (w.params.setOrder a ep) es).size=es.size:=by rw [←Array.length_toList,(pick_perm _ _).length_eq,Array.length_toList]
  refine next_end hh st.1 st.2 (fun A' E' Q' q=>nextT hb st.2 (by rw [Array.getElem?_eq_none (by omega)];exact q)) fun h' x=>hQ h' s.toks fun b o hb e=>x b o (by simpa using hb) e
 self:=fun i s Q E st hQ=>by
  have hty:s.TypeIs (.ref I) "set_iterator" := ⟨_,st.1,rfl⟩
  exact self_iter hty hQ
def slotAt (t:SetTable):Nat→Nat
 | 0=>0
 | i+1=>t.place.getD i 0+1
theorem below_slotAt {n:Nat} (hr:mM t.place) (hn:t.place.size=n):∀ i,i≤n→SetTable.below t.place (slotAt t i)=i
 | 0,_=>below_zero _ hr
 | i+1,h=>by
  have lt:i<t.place.size:=by omega
  show SetTable.below t.place (t.place.getD i 0+1)=i+1
  have:t.place.getD i 0=t.place[i]:=by simp [Array.getD,lt]
  rw [this]
  exact below_next hr lt
theorem walksC (hb:w.params.followText "set-order" = false) (hnd:(!t.plain&&decide (es.size > 1))=false) (hl:t.led=true) (hr:mM t.place) (hp:t.place.size=es.size) (hne:a≠I) {A:Around} (hh:A.handled=none) :
  Walks prog w A I [I,a] [I] es.size (fun i v=>(es.toList.map (·.2))[i]?=some v) (fun i h=>i≤es.size∧h.get? I=some (itO (rawInt (slotAt t i)) i a es.size ep)∧SetAt h a es ep t) where
 sub:=fun b hb=>by simp at hb;simp [hb]
 frame:=fun i h h' st kp=>⟨st.1,kp I (by simp) _ st.2.1,st.2.2.keeps fun o e=>kp a (by simp) o e⟩
 item:=fun i s Q E hi st hQ=>by
  have hi':i<t.place.size:=by omega
  have bl:=below_slotAt hr hp i (by omega)
  refine next_item st.2.1 st.2.2 (x:=es[i].2) (nx:=slotAt t (i+1)) (fun A' E' Q' q=>nextC hb hnd hl st.2.2 (by
   rw [bl,Array.getElem?_eq_getElem hi,Array.getElem?_eq_getElem hi']
   have:slotAt t (i+1)=t.place[i]+1:=by show t.place.getD i 0+1=_;simp [Array.getD,hi']
   rw [this] at q
   exact q)) fun h' g1 s1=>?_
  refine hQ _ h' s.toks ?_ ⟨hi,g1,st.2.2.keeps fun o e=>s1.extBut _ _ hne e⟩ fun b o hb e=>s1.extBut b o (by simpa using hb) e
  rw [List.getElem?_map,Array.getElem?_toList,Array.getElem?_eq_getElem hi]
  rfl
 done:=fun s Q E st hQ=>by
  have bl:=below_slotAt hr hp es.size (Nat.le_refl _)
  refine next_end hh st.2.1 st.2.2 (fun A' E' Q' q=>nextC hb hnd hl st.2.2 (by
   rw [bl,Array.getElem?_eq_none (Nat.le_refl _)]
   exact q)) fun h' x=>hQ h' s.toks fun b o hb e=>x b o (by simpa using hb) e
 self:=fun i s Q E st hQ=>self_iter ⟨_,st.2.1,rfl⟩ hQ
theorem walksD {pl:List Nat} (hpl:pl.Perm (List.range es.size)) (hne:a≠I) (hTI:T≠I) {A:Around} (hh:A.handled=none) :
  Walks prog w A I [I,a,T] [I] es.size (fun i v=>(pl.map fun k=>(es.toList.map (·.2)).getD k .none)[i]?=some v) (fun i h=>h.get? I=some (itO (.ref T) i a es.size ep)∧h.get? T=some (plO pl)∧SetAt h a es ep t) where
 sub:=fun b hb=>by simp at hb;simp [hb]
 frame:=fun i h h' st kp=>⟨kp I (by simp) _ st.1,kp T (by simp) _ st.2.1,st.2.2.keeps fun o e=>kp a (by simp) o e⟩
 item:=fun i s Q E hi st hQ=>by
  have hlen:pl.length=es.size:=by rw [hpl.length_eq,List.length_range]
  have hi':i<pl.length:=by omega
  have hm:pl[i]∈List.range es.size:=hpl.mem_iff.mp (List.getElem_mem hi')
  have hlt:pl[i]<es.size:=List.mem_range.mp hm
  refine next_itemD (p:=pl[i]) (hx:=es[pl[i]].1) (x:=es[pl[i]].2) st.1 st.2.1 st.2.2 (List.getElem?_eq_getElem hi') (Array.getElem?_eq_getElem hlt) fun h' g1 s1=>?_
  refine hQ _ h' s.toks ?_ ⟨g1,s1.extBut _ _ hTI st.2.1,st.2.2.keeps fun o e=>s1.extBut _ _ hne e⟩ fun b o hb e=>s1.extBut b o (by simpa using hb) e
  rw [List.getElem?_map,List.getElem?_eq_getElem hi']
  simp [List.getD,hlt]
 done:=fun s Q E st hQ=>by
  have hlen:pl.length=es.size:=by rw [hpl.length_eq,List.length_range]
  exact next_endD hh st.1 st.2.1 st.2.2 (List.getElem?_eq_none (by omega)) fun h' x=>hQ h' s.toks fun b o hb e=>x b o (by simpa using hb) e
 self:=fun i s Q E st hQ=>self_iter ⟨_,st.1,rfl⟩ hQ
theorem perm_drawn {α:Type} (xs:List α) (d:α) {pl:List Nat} (h:pl.Perm (List.range xs.length)):(pl.map fun k=>xs.getD k d).Perm xs:=by
 refine (h.map _).trans (List.Perm.of_eq ?_)
 apply List.ext_getElem?
 intro i
 rw [List.getElem?_map]
 by_cases hi:i<xs.length
 ·rw [List.getElem?_range hi,List.getElem?_eq_getElem hi];simp [List.getD,hi]
 ·rw [List.getElem?_eq_none (by simpa using hi),List.getElem?_eq_none (by omega)];rfl
theorem iter_set {A:Around} {s:Shared} {Q:Value→Shared→Prop} (g:SetAt s.heap a es ep t) (hT:TOk t (ledOf w)) (few:es.size≤sizeLine)
  (h:∀ (h':Heap) (d':Drawn) (I:Addr) (vs:List Value) (fp:List Addr) (St:Nat→Heap→Prop),vs.Perm (es.toList.map (·.2))→(∀ b o,s.heap.get? b=some o→h'.get? b=some o)→s.heap.objs.size≤I→I∈fp→(∀ b∈fp,b=a∨s.heap.objs.size≤b) →
   (∀ A':Around,A'.handled=none→Walks prog w A' I fp [I] es.size (fun i v=>vs[i]?=some v) St)→St 0 h'→Q (.ref I) { s with heap:=h',drawn:=d' }) :
  wpAny (model prog w) A (pyIter (.ref a)) Q E s:=by
 obtain ⟨o,ho,hc,hd⟩:=g.ex
 have hty:s.TypeIs (.ref a) "set" := ⟨o,ho,hc⟩
 have lt:a<s.heap.objs.size:=Heap.lt_size ho
 have hpl:t.place.size=es.size:=by
  have:=g.fits
  simp only [SetTable.fits,Bool.and_eq_true,beq_iff_eq] at this
  exact this.1
 refine wpAny_pyIter_slot hty F.slot_set_iter (wpAny_call_entry F.slot_set_iter hty entry_iter ?_ (F.args_set_iter_1 _))
 unfold Builtin.«frozenset.__iter__»
 generalize hSD:setDrawn=SD
 generalize hSE:setEpoch=SE
 generalize hSZ:Builtin.Frozenset.sizeOf=SZ
 wp_walk
 subst hSD hSE hSZ
 unfold Builtin.Frozenset.sizeOf
 refine wpAny_bind (g.entries (wpAny_pure ?_))
 have fin:∀ (f0:Value) (s2:Shared),SetAt s2.heap a es ep t→Q (.ref s2.heap.objs.size) { s2 with heap:=s2.heap.push (itO f0 0 a es.size ep) } →
   wpAny (model prog w) A.in1 (setEpoch a>>=fun e=>newFields "set_iterator" [f0,rawInt 0,Value.ref a,rawInt (es.size:Nat),rawInt (e:Nat)]>>=fun v=>ret v) (fun fin s'=>∃ v,fin=Fin.done (Flow.ret v)∧∃ T' r,s'.TypeIs v T'∧typeLookup (Value.type T') (Str.ofString "__next__")=pure (some r)∧Q v s') E s2:=by
  intro f0 s2 g2 q
  refine wpAny_bind ?_
  unfold setEpoch
  refine wpAny_bind (g2.state (wpAny_pure ?_))
  refine wpAny_bind ?_
  unfold newFields
  exact wpAny_newObj_type (wpAny_pure ⟨_,rfl, "set_iterator", _,⟨_,Heap.get?_push_size _ rfl,rfl⟩,slot_next.lookup,q⟩) (by size_fits)
 have plain:∀ (vs:List Value) (St:Nat→Heap→Prop),vs.Perm (es.toList.map (·.2))→(∀ A':Around,A'.handled=none→Walks prog w A' s.heap.objs.size [s.heap.objs.size,a] [s.heap.objs.size] es.size (fun i v=>vs[i]?=some v) St) →
   St 0 (s.heap.push (itO (rawInt 0) 0 a es.size ep))→Q (.ref s.heap.objs.size) { s with heap:=s.heap.push (itO (rawInt 0) 0 a es.size ep) }:=by
  intro vs St hp W st
  refine h _ s.drawn s.heap.objs.size vs [s.heap.objs.size,a] St hp (fun b o e=>Heap.get?_push_of_some _ e) (Nat.le_refl _) (by simp) (fun b hb=>?_) W st
  rcases List.mem_cons.mp hb with z | z
  ·exact .inr (by rw [z];exact Nat.le_refl _)
  ·exact .inl (List.mem_singleton.mp z)
 have hne:a≠s.heap.objs.size:=Nat.ne_of_lt lt
 have g1:SetAt (s.heap.push (itO (rawInt 0) 0 a es.size ep)) a es ep t:=g.keeps fun o e=>Heap.get?_push_of_some _ e
 refine wpAny_bind ?_
 unfold setDrawn
 refine wpAny_bind (g.state ?_)
 dsimp only
 unfold setsByText
 refine wpAny_bind (wpAny_bind (wpAny_askSetting (wpAny_pure (wpAny_pure ?_))))
 show wpAny _ _ (if (!w.params.followText "set-order" && (!t.plain&&decide (es.size > 1)))=true then _ else _) _ _ s
 cases hbt:w.params.followText "set-order" with
 | true=>
  rw [if_neg (by simp)]
  refine wpAny_bind (wpAny_pure ?_)
  exact fin (rawInt 0) s g (plain _ _ ((pick_perm _ _).map _) (fun A' hA=>walksT hbt hne hA) ⟨Heap.get?_push_size _ rfl,g1⟩)
 | false=>
  have hled:t.led=true:=by rw [hT.led];unfold ledOf;rw [hbt];rfl
  cases hdr:(!t.plain&&decide (es.size > 1)) with
  | false=>
   rw [if_neg (by simp)]
   refine wpAny_bind (wpAny_pure ?_)
   have hr:mM t.place:=by
    cases hp:t.plain with
    | true=>exact hT.rise hp
    | false=>
     rw [hp] at hdr
     have:¬es.size > 1:=by simpa using hdr
     unfold mM
     have hl:t.place.toList.length≤1:=by rw [Array.length_toList];omega
     match t.place.toList,hl with
     | [],_=>exact .nil
     | [x],_=>exact List.pairwise_singleton _ _
   exact fin (rawInt 0) s g (plain _ _ (.refl _) (fun A' hA=>walksC hbt hdr hled hr hpl hne hA) ⟨Nat.zero_le _,Heap.get?_push_size _ rfl,g1⟩)
  | true=>
   rw [if_pos (by simp)]
   refine wpAny_bind (draw_ok es.size (List.range es.size) s _ (by simp) fun pl d' hpl'=>?_)
   refine wpAny_bind ?_
   unfold newTuple
   refine wpAny_newObj_type ?_ (by
    have h1:pl.length=es.size:=by rw [hpl'.length_eq,List.length_range]
    show (pl.map fun (k:Nat)=>rawInt k).toArray.size≤sizeLine
    rw [List.size_toArray,List.length_map,h1]
    exact few)
   have g2:SetAt (s.heap.push (plO pl)) a es ep t:=g.keeps fun o e=>Heap.get?_push_of_some _ e
   refine fin (.ref s.heap.objs.size) { s with heap:=s.heap.push (plO pl),drawn:=d' } g2 ?_
   have sz:(s.heap.push (plO pl)).objs.size=s.heap.objs.size+1:=Heap.size_push ..
   have hp2:(pl.map fun k=>(es.toList.map (·.2)).getD k Value.none).Perm (es.toList.map (·.2)):=perm_drawn _ _ (by simpa using hpl')
   refine h _ d' (s.heap.push (plO pl)).objs.size _ [(s.heap.push (plO pl)).objs.size,a,s.heap.objs.size] _ hp2 (fun b o e=>Heap.get?_push_of_some _ (Heap.get?_push_of_some _ e)) (by rw [sz];exact Nat.le_succ _) (by simp) (fun b hb=>?_)
    (fun A' hA=>walksD (ep:=ep) (t:=t) hpl' (by rw [sz];exact Nat.ne_of_lt (Nat.lt_succ_of_lt lt)) (by rw [sz];exact Nat.ne_of_lt (Nat.lt_succ_self _)) hA) ⟨Heap.get?_push_size _ rfl,Heap.get?_push_of_some _ (Heap.get?_push_size _ rfl),g2.keeps fun o e=>Heap.get?_push_of_some _ e⟩
   rcases List.mem_cons.mp hb with z | z
   ·exact .inr (by rw [z,sz];exact Nat.le_succ _)
   ·rcases List.mem_cons.mp z with z | z
    ·exact .inl z
    ·rw [List.mem_singleton] at z;exact .inr (by rw [z];exact Nat.le_refl _)
end
end L2.SX
namespace L2.SX
open PySem PyProof.Rows
theorem set_len:typeLookup (.type "set") "__len__" = pure (some (.builtin "set.__len__")):=by rw [typeLookup_type,builtinLookup_eq_fast];kernel_rfl
section
variable {prog:Program} {w:World} {E:Value→Shared→Prop} {a:Addr} {es:Array (Int×Value)} {ep:Nat} {t:SetTable}
theorem collect_set {A:Around} {s:Shared} {Q:List Value→Shared→Prop} (hh:A.handled=none) (g:SetAt s.heap a es ep t) (hT:TOk t (ledOf w)) (few:es.size≤sizeLine)
  (hQ:∀ (h':Heap) (d':Drawn) (tk:Nat) (vs:List Value),vs.Perm (es.toList.map (·.2))→(∀ b o,s.heap.get? b=some o→h'.get? b=some o)→s.heap.objs.size<h'.objs.size→Q vs { s with heap:=h',drawn:=d',toks:=tk }) :
  wpAny (model prog w) A (collect (.ref a)) Q E s:=by
 obtain ⟨o,ho,hc,_⟩:=g.ex
 have lt:a<s.heap.objs.size:=Heap.lt_size ho
 unfold collect
 refine wpAny_bind (wpAny_runValue (codeAny_builtin F.entry_proto_collect ?_))
 rw [Around.under_plainId F.plain_proto_collect _]
 show wpAny _ A.in1 (newList []>>=fun l=>again (.builtin "list.__iadd__" ⟨[l,.ref a],[]⟩)) _ _ s
 refine wpAny_bind (wpAny_newObj_type ?_)
 refine wpAny_pure ⟨plainId_quiet F.plain_list_iadd _,codeAny_builtin F.entry_list_iadd ?_⟩
 rw [Around.under_plainId F.plain_list_iadd _]
 have g1:SetAt (s.heap.push { cls:=.type "list", data:=.seq ([]:List Value).toArray }) a es ep t:=g.keeps fun o e=>Heap.get?_push_of_some _ e
 have hS1:(s.heap.push { cls:=.type "list", data:=.seq ([]:List Value).toArray }).get? s.heap.objs.size=some { cls:=.type "list", data:=.seq ([]:List Value).toArray }:=Heap.get?_push_size _ rfl
 have ty1:Shared.TypeIs { s with heap:=s.heap.push { cls:=.type "list", data:=.seq ([]:List Value).toArray } } (.ref a) "set" := ⟨o,Heap.get?_push_of_some _ ho,hc⟩
 show wpAny _ A.in1 (Builtin.List.listExtendWith (.ref s.heap.objs.size) (.ref a) (.ref s.heap.objs.size)) _ _ _
 unfold Builtin.List.listExtendWith
 refine wpAny_bind (wpAny_typeOf ty1 ?_)
 have e1:Builtin.List.listSameRef (.ref s.heap.objs.size) (.ref a)=false:=by simp [Builtin.List.listSameRef,Nat.ne_of_gt lt]
 have e2:(Value.type "set" == Value.type "list")=false:=by decide
 have e3:(Value.type "set" == Value.type "tuple")=false:=by decide
 simp only [e1,e2,e3,Bool.or_false,Bool.false_eq_true,if_false]
 refine wpAny_bind (iter_set (w:=w) g1 hT few fun h' d' I vs fp St hp kp hI hIf hfp W st=>?_)
 have ty2:Shared.TypeIs { s with heap:=h',drawn:=d' } (.ref a) "set" := ⟨o,kp a o (Heap.get?_push_of_some _ ho),hc⟩
 refine wpAny_bind (wpAny_holding ?_)
 have hint:∀ Q':Bool→Shared→Prop,Q' false { s with heap:=h',drawn:=d' }→wpAny (model prog w) A.in1 (Builtin.List.listLengthHint (.ref a)) Q' E { s with heap:=h',drawn:=d' }:=by
  intro Q' q
  unfold Builtin.List.listLengthHint
  refine wpAny_bind (wpAny_specialOf ty2 set_len ?_)
  generalize hid:("set.__len__" : String)=i0
  wp_delta
  rw [show splitId i0=some ("set", "__len__") from by rw [←hid];decide +kernel]
  rw [←hid]
  refine wpAny_bind (wpAny_isInstance (T := "set") (b:=true) ty2 sub_set_self ?_)
  refine wpAny_ite_split (fun z=>absurd z (by decide)) fun _=>?_
  refine wpAny_ite_split (fun _=>?_) fun z=>absurd (by decide +kernel) z
  exact wpAny_bind (wpAny_typeOf ty2 (wpAny_pure q))
 refine hint _ ?_
 have hSf:s.heap.objs.size∉fp:=fun hm=>by
  rcases hfp _ hm with z | z
  ·exact absurd z (Nat.ne_of_gt lt)
  ·rw [Heap.size_push] at z;exact absurd z (Nat.not_succ_le_self _)
 refine wpAny_ite_split (fun _=>?_) fun z=>absurd (by decide +kernel) z
 have hS2:=kp _ _ hS1
 refine wpAny_bind (wpAny_rule ?_)
 refine wpAny_bind ?_
 show wpAny _ A.in1 (updateSeq s.heap.objs.size (·.push .none)>>=fun _=>updateSeq s.heap.objs.size (·.pop)) _ _ _
 refine wpAny_bind (wpAny_updateSeq hS2 rfl ?_)
 have hS3:=Heap.get?_update_self (Obj.mapSeq (·.push Value.none)) hS2 rfl
 refine wpAny_updateSeq hS3 rfl ?_
 have hS4:=Heap.get?_update_self (Obj.mapSeq (·.pop)) hS3 rfl
 have oth:∀ b o,b≠s.heap.objs.size→h'.get? b=some o→((h'.update s.heap.objs.size (Obj.mapSeq (·.push Value.none))).update s.heap.objs.size (Obj.mapSeq (·.pop))).get? b=some o:=
  fun b o hb e=>by rw [Heap.get?_update_other _ _ (Ne.symm hb),Heap.get?_update_other _ _ (Ne.symm hb)];exact e
 have W1:=W A.in1 hh
 refine wpAny_pure ⟨plainId_quiet F.plain_extend_loop _,codeAny_extend_loopS W1.toS few _ hSf _ es.size 0 _ _ _ rfl (Nat.zero_le _)
  (W1.frame 0 _ _ st fun b hb o e=>oth b o (fun z=>hSf (z▸hb)) e) hS4 (ItemsOf.nil _) fun s' acc' c' hm hS' hacc=>?_⟩
 show wpAny _ A (load s.heap.objs.size>>=_) _ _ s'
 refine wpAny_bind (wpAny_load hS' (wpAny_pure ?_))
 have hv:acc'.toList=vs:=by
  have hl:vs.length=es.size:=by rw [hp.length_eq];simp
  refine List.ext_getElem? fun i=>?_
  by_cases hi:i<es.size
  ·have h1:i<acc'.size:=by rw [hacc.1];exact hi
   have h2:=hacc.2 i _ (Array.getElem?_eq_getElem h1)
   rw [h2,Array.getElem?_toList,Array.getElem?_eq_getElem h1]
  ·rw [List.getElem?_eq_none (by rw [Array.length_toList,hacc.1];omega),List.getElem?_eq_none (by rw [hl];omega)]
 show Q acc'.toList s'
 rw [hv,Moved.eq_with hm]
 refine hQ s'.heap d' s'.toks vs hp (fun b o e=>?_) (Heap.lt_size hS')
 have hb:b≠s.heap.objs.size:=Nat.ne_of_lt (Heap.lt_size e)
 refine hm.heap b o (fun hmem=>?_) (oth b o hb (kp b o (Heap.get?_push_of_some _ e)))
 rcases List.mem_cons.mp hmem with z | z
 ·exact hb z
 ·rw [List.mem_singleton] at z
  rw [Heap.size_push] at hI
  have q:=Heap.lt_size e
  rw [z] at q
  exact Nat.lt_irrefl _ (Nat.lt_of_lt_of_le (Nat.lt_succ_of_lt q) hI)
end
end L2.SX
namespace L2.SX
open PySem PyProof.Rows
theorem perm_of {α:Type} [DecidableEq α]:∀ (ks qs:List α),ks.Nodup→(∀ k∈ks,k∈qs)→qs.length=ks.length→qs.Perm ks
 | [],[],_,_,_=>.refl _
 | k::ks,qs,hn,hm,hl=>by
  have h1:=List.perm_cons_erase (hm k (by simp))
  have hn':=List.nodup_cons.mp hn
  refine h1.trans (.cons k (perm_of ks _ hn'.2 (fun x hx=>?_) ?_))
  ·exact (List.mem_erase_of_ne (fun z=>by rw [z] at hx;exact hn'.1 hx)).mpr (hm x (by simp [hx]))
  ·have:=h1.length_eq;simp only [List.length_cons] at this hl;omega
section
variable {prog:Program} {w:World} {K:Type} [DecidableEq K] {knd:KeyKind prog w K}
inductive Keys (knd:KeyKind prog w K):List Value→List K→Prop
 | nil:Keys knd [] []
 | cons {v k vs ks}:knd.is k v=true→Keys knd vs ks→Keys knd (v::vs) (k::ks)
theorem Keys.len {vs ks} (h:Keys knd vs ks):ks.length=vs.length:=by induction h<;>simp [*]
theorem Keys.mem {vs ks} (h:Keys knd vs ks) {v:Value} {k:K} (hv:v∈vs) (e:knd.is k v=true):k∈ks:=by
 induction h with
 | nil=>cases hv
 | cons h1 _ ih=>
  rcases List.mem_cons.mp hv with z | z
  ·subst z;rw [knd.inj _ _ _ e h1];simp
  ·exact List.mem_cons_of_mem _ (ih z)
theorem keys_ex:∀ (es:List (Int×Value)),ElemsOf knd es→∃ qs,Keys knd (es.map (·.2)) qs
 | [],_=>⟨[],.nil⟩
 | e::es,h=>by
  obtain ⟨qs,hq⟩:=keys_ex es fun x hx=>h x (List.mem_cons_of_mem _ hx)
  obtain ⟨⟨k,hk,_⟩,_⟩:=h e (by simp)
  exact ⟨k::qs,.cons hk hq⟩
theorem Keys.perm {vs us:List Value} (hp:us.Perm vs):∀ {ks},Keys knd vs ks→∃ qs,Keys knd us qs∧qs.Perm ks:=by
 induction hp with
 | nil=>intro ks h;exact ⟨ks,h,.refl _⟩
 | cons v _ ih=>
  intro ks h
  cases h with
  | cons h1 h2=>obtain ⟨qs,a,b⟩:=ih h2;exact ⟨_::qs,.cons h1 a,.cons _ b⟩
 | swap x y l=>
  intro ks h
  cases h with
  | cons h1 h2=>cases h2 with
   | cons h3 h4=>exact ⟨_,.cons h3 (.cons h1 h4),.swap ..⟩
 | trans _ _ i1 i2=>
  intro ks h
  obtain ⟨q1,a1,b1⟩:=i2 h
  obtain ⟨q2,a2,b2⟩:=i1 a1
  exact ⟨q2,a2,b2.trans b1⟩
theorem Good.keys {h:Heap} {a:Addr} {ks:List K} {led:Bool} (g:Good knd h a ks led):∃ es ep t,SetAt h a es ep t∧TOk t led∧es.size=ks.length∧∀ vs,vs.Perm (es.toList.map (·.2))→∃ qs,Keys knd vs qs∧qs.Perm ks:=by
 obtain ⟨o,es,ep,t,ho,hx,hd,hE,hm,hl,hf,hT⟩:=g.ex
 refine ⟨es,ep,t,⟨⟨o,ho,hx.1,hd⟩,hf⟩,hT,hl,fun vs hp=>?_⟩
 obtain ⟨qs,hq⟩:=keys_ex es.toList hE
 have h1:qs.Perm ks:=perm_of ks qs g.nd (fun k hk=>by
  obtain ⟨e,he,hi⟩:=(hm k).mp hk
  exact hq.mem (List.mem_map_of_mem he) hi) (by rw [hq.len,List.length_map,Array.length_toList,hl])
 obtain ⟨q2,a2,b2⟩:=Keys.perm hp.symm.symm hq
 exact ⟨q2,a2,b2.trans h1⟩
theorem keys_ints {vs:List Value} {ks:List Int} (h:Keys (intKind prog w) vs ks):IntsAre vs ks:=by
 induction h with
 | nil=>exact .nil
 | cons h1 _ ih=>obtain ⟨t,rfl⟩:=Value.isInt_shape h1;exact .cons _ t ih
theorem keys_strs {vs:List Value} {ks:List Str} (h:Keys (PySem.strKind prog w) vs ks):StrsAre vs ks:=by
 induction h with
 | nil=>exact .nil
 | cons h1 _ ih=>obtain ⟨t,rfl⟩:=Value.isStrOf_shape h1;exact .cons _ t ih
variable {A:Around} {E:Value→Shared→Prop} {s:Shared} {a:Addr} {es:Array (Int×Value)} {ep:Nat} {t:SetTable}
theorem sorted_set {Out:Array Value→Prop} {Q:Value→Shared→Prop} (hh:A.handled=none) (g:SetAt s.heap a es ep t) (hT:TOk t (ledOf w)) (few:es.size<64)
  (hsort:∀ (A':Around) (E':Value→Shared→Prop) (s':Shared) (l:Addr) (vs:List Value) (n:Nat) (P:Fin→Shared→Prop),vs.Perm (es.toList.map (·.2))→s'.heap.get? l=some (seqObj "list" vs.toArray n) →
   (∀ out,Out out→P (.done (.ret .none)) { s' with heap:=sortedHeap s'.heap l vs out })→wpAny (model prog w) A' (Builtin.«list.sort» ⟨[.ref l],[]⟩) P E' s')
  (h:∀ (h':Heap) (d':Drawn) (tk:Nat) (D:Addr) (out:Array Value) (e:Nat),(∀ b o,s.heap.get? b=some o→h'.get? b=some o)→s.heap.objs.size≤D→h'.get? D=some (seqObj "list" out e)→Out out→Q (.ref D) { s with heap:=h',drawn:=d',toks:=tk }) :
  wpAny (model prog w) A (call (.builtin "sorted") [.ref a]) Q E s:=by
 have big:(64:Nat)≤sizeLine:=by decide
 refine Calls.call_function_entry kind_sorted plain_sorted entry_sorted (args_sorted1 _) ?_
 unfold Builtin.«sorted»
 refine wpAny_bind (m:=checkCount "sorted" 1 1 _) (wpAny_pure ?_)
 refine wpAny_bind (collect_set hh g hT (Nat.le_trans (Nat.le_of_lt few) big) fun h1 d1 tk vs hp kp hlt=>?_)
 have hl:vs.length=es.size:=by rw [hp.length_eq];simp
 refine wpAny_bind (wpAny_newList ?_ (by rw [hl];exact Nat.le_trans (Nat.le_of_lt few) big))
 have hoL:(h1.push (seqObj "list" vs.toArray 0)).get? h1.objs.size=some (seqObj "list" vs.toArray 0):=Heap.get?_push_size _ rfl
 refine wpAny_bind (wpAny_holding (wpAny_call_entry slot_list_sort ⟨_,hoL,rfl⟩ entry_list_sort (hsort _ _ _ _ vs 0 _ hp hoL fun out ho=>⟨_,rfl,?_⟩) (args_list_sort _)))
 obtain ⟨e,he⟩:=sortedHeap_at (out:=out) hoL
 refine wpAny_pure ⟨_,rfl,h _ d1 tk h1.objs.size out e (fun b o g=>?_) (Nat.le_of_lt hlt) he ho⟩
 have hb:b<h1.objs.size:=Heap.lt_size (kp b o g)
 rw [sortedHeap_old (Nat.ne_of_lt hb) (by rw [Heap.size_push];exact Nat.lt_succ_of_lt hb),Heap.get?_push_of_some _ (kp b o g)]
theorem sorted_setI {ks:List Int} {Q:Value→Shared→Prop} (hh:A.handled=none) (g:Good (intKind prog w) s.heap a ks (ledOf w)) (few:ks.length<64)
  (h:∀ (h':Heap) (d':Drawn) (tk:Nat) (D:Addr) (out:Array Value) (e:Nat),(∀ b o,s.heap.get? b=some o→h'.get? b=some o)→s.heap.objs.size≤D→h'.get? D=some (seqObj "list" out e)→IntsAre out.toList (L3.sortI ks)→Q (.ref D) { s with heap:=h',drawn:=d',toks:=tk }) :
  wpAny (model prog w) A (call (.builtin "sorted") [.ref a]) Q E s:=by
 obtain ⟨es,ep,t,g1,hT,hl,hv⟩:=g.keys
 refine sorted_set (Out:=fun out=>IntsAre out.toList (L3.sortI ks)) hh g1 hT (by rw [hl];exact few) (fun A' E' s' l vs n P hp ho q=>?_) h
 obtain ⟨qs,hk,hq⟩:=hv vs hp
 refine list_sort_tree ho (keys_ints hk) (by rw [hp.length_eq,List.length_map,Array.length_toList,hl];exact few) fun out ns' h1 h2 h3=>q out ?_
 rw [←L3.sortI_eq (h2.trans hq) h3]
 exact h1
end
end L2.SX
namespace L2.L3
open PySem PySem.Spec PyProof.Rows
section
variable {X:Cx} {H0 G₀ G G1 H H1:Hp} {ρ:List Ent} {σ:St} {a b c d e:Expr} {lo hi:Option Expr} {pos p p2 pos2:Pos} {fa fb fc fd:EF} {fl fh:OF}
theorem Inv.draws {pins:List (Addr×Obj)} {s:Shared} {d':Drawn} (I:Inv X pins σ H s):Inv X pins σ H { s with drawn:=d' }:=⟨I.ok,I.os,I.bare,I.base,I.loc,I.cell,I.free,I.freeC,I.pin,I.hok,I.len⟩
def tSset (K:PySem.W.Frag) (t:TA):TE:=fun σ H Q=>t σ H fun xs H1=>(∃ a ns,xs=[.ref a]∧SqL K H1 a (ns.map V.int)∧ns.length<64∧∀ l,H1 l=none→Q (.ref l) (upd H1 l (.lst ((sortI (kX ns)).map V.int)))) ∨
 ∃ a ns,xs=[.ref a]∧SqL K H1 a (ns.map V.str)∧ns.length<64∧∀ l,H1 l=none→Q (.ref l) (upd H1 l (.lst ((eA (iS ns)).map V.str)))
theorem dedup_metG {α:Type} [DecidableEq α] (d:α) (ns:List α):SX.metK (fun i=>ns.getD i d) ns.length=ns.foldl SX.addK []:=by
 unfold SX.metK
 have:(List.range ns.length).map (fun i=>ns.getD i d)=ns:=by
  refine List.ext_getElem? fun i=>?_
  rw [List.getElem?_map]
  by_cases h:i<ns.length
  ·rw [List.getElem?_range h,List.getElem?_eq_getElem h];simp [h]
  ·rw [List.getElem?_eq_none (by simp;omega),List.getElem?_eq_none (by omega)];rfl
 rw [this]
theorem dedup_met (ns:List Int):SX.metK (fun i=>ns.getD i 0) ns.length=kX ns:=dedup_metG 0 ns
theorem dedup_metS (ns:List Str):SX.metK (fun i=>ns.getD i "") ns.length=iS ns:=dedup_metG ("" : Str) ns
theorem ints_at {vs:List Value} {ns:List Int} (h:IntsAre vs ns):∀ (i:Nat) (v:Value),vs[i]?=some v→∃ t:Tok,v=Value.int (ns.getD i 0) t:=by
 induction h with
 | nil=>intro i v e;simp at e
 | cons n t _ ih=>
  intro i v e
  cases i with
  | zero=>simp at e;exact ⟨t,by simp [←e]⟩
  | succ i=>simpa using ih i v (by simpa using e)
theorem strs_at {vs:List Value} {ns:List Str} (h:StrsAre vs ns):∀ (i:Nat) (v:Value),vs[i]?=some v→∃ t:Tok,v=Value.str (ns.getD i "") t:=by
 induction h with
 | nil=>intro i v e;simp at e
 | cons n t _ ih=>
  intro i v e
  cases i with
  | zero=>simp at e;exact ⟨t,by simp [←e]⟩
  | succ i=>simpa using ih i v (by simpa using e)
theorem nK {ns:List Str}:∀ {us:List Value},aV (ns.map V.str) us→StrsAre us ns:=by
 induction ns with
 | nil=>intro us r;cases r;exact .nil
 | cons n ns ih=>intro us r;cases r with | cons r1 r2=>obtain ⟨t,rfl⟩:=r1;exact .cons n t (ih r2)
theorem vals_strs:∀ {vs:List Value} {ns:List Str},StrsAre vs ns→aV (ns.map V.str) vs
 | _,_,.nil=>.nil
 | _,_,.cons n t h=>.cons ⟨t,rfl⟩ (vals_strs h)
theorem kP {K:PySem.W.Frag} {G:Hp}:∀ ns:List Str,RepAll K G (ns.map V.str) (ns.map .str)
 | []=>.nil
 | _::r=>.cons (.str _) (kP r)
theorem lK {vs:List Value} {ns:List Str} (h:StrsAre vs ns):vs.length=ns.length:=by induction h<;>simp [*]
theorem lX {a b c:Str} (h1:cE a b=true) (h2:cE b c=true):cE a c=true:=by
 unfold cE at *
 simp only [Bool.not_eq_true',decide_eq_false_iff_not,List.not_lt] at *
 exact List.le_trans h1 h2
theorem jF (a b:Str):(cE a b || cE b a)=true:=by
 unfold cE
 simp only [Bool.or_eq_true,Bool.not_eq_true',decide_eq_false_iff_not,List.not_lt]
 exact List.le_total _ _
theorem leStr_anti {a b:Str} (h1:cE a b=true) (h2:cE b a=true):a=b:=by
 unfold cE at *
 simp only [Bool.not_eq_true',decide_eq_false_iff_not,List.not_lt] at *
 have e:=List.le_antisymm h1 h2
 cases a;cases b
 congr 1
 exact Array.toList_inj.mp e
theorem bX (ns:List Str):(eA ns).Perm ns:=List.mergeSort_perm _ _
theorem sortS_sorted (ns:List Str):(eA ns).Pairwise (fun a b=>cE a b=true):=List.pairwise_mergeSort (le:=cE) (fun a b c h1 h2=>lX h1 h2) jF ns
theorem rising_pw:∀ (l:List Str) (p:Str),risingS p l=true→(p::l).Pairwise (fun a b=>cE a b=true)
 | [],p,_=>List.pairwise_singleton _ _
 | x::r,p,h=>by
  have h':(!ltCps x.cps.toList p.cps.toList&&risingS x r)=true:=h
  rw [Bool.and_eq_true] at h'
  have h1:cE p x=true:=by unfold cE;rw [←ltCps_eq];exact h'.1
  have ih:=rising_pw r x h'.2
  refine List.pairwise_cons.mpr ⟨fun y hy=>?_,ih⟩
  rcases List.mem_cons.mp hy with z | z
  ·rw [z];exact h1
  ·exact lX h1 ((List.pairwise_cons.mp ih).1 y z)
theorem sorted_pw (l:List Str) (h:sortedS l=true):l.Pairwise (fun a b=>cE a b=true):=by
 cases l with
 | nil=>exact .nil
 | cons x r=>exact rising_pw r x h
theorem same_of_pw:∀ {a b:List Str},a.Perm b→a.Pairwise (fun a b=>cE a b=true)→b.Pairwise (fun a b=>cE a b=true)→a=b
 | [],b,hp,_,_=>by rw [List.nil_perm.mp hp]
 | x::a,b,hp,ha,hb=>by
  match b,hp,hb with
  | [],hp,_=>exact absurd hp.length_eq (by simp)
  | y::b,hp,hb=>
   have h1:=List.pairwise_cons.mp ha
   have h2:=List.pairwise_cons.mp hb
   have e:x=y:=by
    rcases List.mem_cons.mp (hp.mem_iff.mp (List.mem_cons_self (a:=x) (l:=a))) with z | z
    ·exact z
    ·rcases List.mem_cons.mp (hp.mem_iff.mpr (List.mem_cons_self (a:=y) (l:=b))) with q | q
     ·exact q.symm
     ·exact leStr_anti (h1.1 y q) (h2.1 x z)
   subst e
   rw [same_of_pw (List.Perm.cons_inv hp) h1.2 h2.2]
theorem sortS_eq {ns ms:List Str} (hp:ms.Perm ns) (hs:sortedS ms=true):ms=eA ns:=same_of_pw (hp.trans (bX ns).symm) (sorted_pw ms hs) (sortS_sorted ns)
theorem sorted_setS {prog:Program} {w:World} {A:Around} {E:Value→Shared→Prop} {s:Shared} {a:Addr} {ks:List Str} {Q:Value→Shared→Prop} (hh:A.handled=none) (g:SX.Good (PySem.strKind prog w) s.heap a ks (SX.ledOf w)) (few:ks.length<64)
  (h:∀ (h':Heap) (d':Drawn) (tk:Nat) (D:Addr) (out:Array Value) (e:Nat),(∀ b o,s.heap.get? b=some o→h'.get? b=some o)→s.heap.objs.size≤D→h'.get? D=some (seqObj "list" out e)→StrsAre out.toList (eA ks)→Q (.ref D) { s with heap:=h',drawn:=d',toks:=tk }) :
  wpAny (model prog w) A (call (.builtin "sorted") [.ref a]) Q E s:=by
 obtain ⟨es,ep,t,g1,hT,hl,hv⟩:=g.keys
 refine SX.sorted_set (Out:=fun out=>StrsAre out.toList (eA ks)) hh g1 hT (by rw [hl];exact few) (fun A' E' s' l vs n P hp ho q=>?_) h
 obtain ⟨qs,hk,hq⟩:=hv vs hp
 have hS:=SX.keys_strs hk
 refine list_sort_treeK strKind_oneLt ho hS.keysOf (fun v₁ v₂ rest e=>keyKind_strs (by rw [←e];exact hS)) (by rw [hp.length_eq,List.length_map,Array.length_toList,hl];exact few) fun st' hp' hs'=>q _ ?_
 obtain ⟨ss',h1,h2,h3⟩:=sorted_out_str hS hp' hs'
 rw [←sortS_eq (h2.trans hq) h3]
 exact h1
theorem pe_sset {t:TA} (hc:X.calm=true) (h1:Gl X "sorted") (m1:X.mg "sorted" = none) (h2:Gl X "set") (m2:X.mg "set" = none) (b2:bootBuiltins "set" = some (.type "set")) (ha:PA X [e] t) (he:starEach [e] X.env=(false,eval e X.env)::starEach [] X.env)
  (he2:starEach [.Call (.Name "set" p2) [e] [] pos2] X.env=(false,eval (.Call (.Name "set" p2) [e] [] pos2) X.env)::starEach [] X.env) (hpl:∀ q,(backTo q (starEach [] X.env)).any (·.1)=false) (hn:∀ q,backTo q (starEach [] X.env)=[]) :
  PE X (.Call (.Name "sorted" p) [.Call (.Name "set" p2) [e] [] pos2] [] pos) (tSset X.K t):=by
 intro pins s σ H Q I h
 refine wpAny_Call_Name_kw (gO I h1 m1 boot_sorted ?_)
 refine callWith_builtin1 ?_ he2 (hpl _)
 rw [he2]
 show wpAny _ _ (spliced ((false,eval (.Call (.Name "set" p2) [e] [] pos2) X.env)::backTo pos (starEach [] X.env))) _ _ s
 rw [hn]
 refine Calls.spliced_cons (wpAny_Call_Name_kw (gO I h2 m2 b2 ?_))
 refine callWith_type1 (thn (ha pos2 pins s σ H _ I h) fun us s1 ⟨vs,H1,I1,r1,qq⟩=>?_) he (hpl _)
 rcases qq with ⟨a,ns,e1,hq,h64,q⟩ | ⟨a,ns,e1,hq,h64,q⟩
 ·subst e1
  obtain ⟨u,rfl,rx⟩:=vals1 r1
  cases rx
  obtain ⟨its,rv,pl,hz⟩:=I1.list hq
  have hi:=intsAre_of rv
  have hd:=I1.ok.hd hc
  have hl:its.length=ns.length:=hi.length
  refine SX.set_of (knd:=intKind X.prog X.w) (val:=fun i=>ns.getD i 0) hd pl.isList (fun i v e=>?_) (fun i v A' E' s' Q' e q'=>?_) ?_ fun h' tk g kp=>?_
  ·obtain ⟨t,rfl⟩:=ints_at hi i v (by simpa using e)
   exact ⟨by simp [intKind,Value.isInt],rfl⟩
  ·obtain ⟨t,rfl⟩:=ints_at hi i v (by simpa using e)
   exact (intKind X.prog X.w).pyHash (k:=ns.getD i 0) (by simp [intKind,Value.isInt]) q'
  ·have hsz:its.toArray.size=ns.length:=by rw [List.size_toArray,hl]
   rw [hsz];exact Nat.lt_of_le_of_lt h64 (by decide)
  ·have hsz:its.toArray.size=ns.length:=by rw [List.size_toArray,hl]
   rw [hsz,dedup_met] at g
   refine Calls.spliced_nil (SX.sorted_setI hd g ?_ fun h2 d2 tk2 D out ep k2 hs2 ho hout=>?_)
   ·rw [←dedup_met];exact Nat.lt_of_le_of_lt (SX.metK_len _ _) h64
   ·have kk:∀ b o,s1.heap.get? b=some o→h2.get? b=some o:=fun b o z=>k2 b o (kp b o (Heap.lt_size z) z)
    obtain ⟨so,_,_,_,hso,_⟩:=g.ex
    have lt:s1.heap.objs.size≤D:=Nat.le_trans (Nat.le_of_lt (Heap.lt_size hso)) hs2
    have hf:H1 D=none:=I1.hok.fresh lt
    refine ⟨.ref D,_,Inv.draws (I1.laid (t':=tk2) (a:=D) (o:=.lst ((sortI (kX ns)).map V.int)) kk lt ⟨?_,out.toList,ep,jU hout,?_⟩),rfl,q _ hf⟩
    ·rw [List.length_map,(sortI_perm _).length_eq,←dedup_met]
     exact Nat.le_trans (SX.metK_len _ _) (Nat.le_of_lt (eT (by omega)))
    ·rw [ho]
 ·subst e1
  obtain ⟨u,rfl,rx⟩:=vals1 r1
  cases rx
  obtain ⟨its,rv,pl,hz⟩:=I1.list hq
  have hi:=nK rv
  have hd:=I1.ok.hd hc
  have hl:its.length=ns.length:=lK hi
  refine SX.set_of (knd:=PySem.strKind X.prog X.w) (val:=fun i=>ns.getD i "") hd pl.isList (fun i v e=>?_) (fun i v A' E' s' Q' e q'=>?_) ?_ fun h' tk g kp=>?_
  ·obtain ⟨t,rfl⟩:=strs_at hi i v (by simpa using e)
   exact ⟨by simp [PySem.strKind,Value.isStrOf],rfl⟩
  ·obtain ⟨t,rfl⟩:=strs_at hi i v (by simpa using e)
   exact (PySem.strKind X.prog X.w).pyHash (k:=ns.getD i "") (by simp [PySem.strKind,Value.isStrOf]) q'
  ·have hsz:its.toArray.size=ns.length:=by rw [List.size_toArray,hl]
   rw [hsz];exact Nat.lt_of_le_of_lt h64 (by decide)
  ·have hsz:its.toArray.size=ns.length:=by rw [List.size_toArray,hl]
   rw [hsz,dedup_metS] at g
   refine Calls.spliced_nil (sorted_setS hd g ?_ fun h2 d2 tk2 D out ep k2 hs2 ho hout=>?_)
   ·rw [←dedup_metS];exact Nat.lt_of_le_of_lt (SX.metK_len _ _) h64
   ·have kk:∀ b o,s1.heap.get? b=some o→h2.get? b=some o:=fun b o z=>k2 b o (kp b o (Heap.lt_size z) z)
    obtain ⟨so,_,_,_,hso,_⟩:=g.ex
    have lt:s1.heap.objs.size≤D:=Nat.le_trans (Nat.le_of_lt (Heap.lt_size hso)) hs2
    have hf:H1 D=none:=I1.hok.fresh lt
    refine ⟨.ref D,_,Inv.draws (I1.laid (t':=tk2) (a:=D) (o:=.lst ((eA (iS ns)).map V.str)) kk lt ⟨?_,out.toList,ep,vals_strs hout,?_⟩),rfl,q _ hf⟩
    ·rw [List.length_map,(bX _).length_eq,←dedup_metS]
     exact Nat.le_trans (SX.metK_len _ _) (Nat.le_of_lt (eT (by omega)))
    ·rw [ho]
theorem de_sset (hc:X.calm=true) (m1:X.mg "sorted" = none) (m2:X.mg "set" = none) (ha:DE X e fa) (h1:Gl X "sorted":=by rfl) (h2:Gl X "set":=by rfl) (he:starEach [e] X.env=(false,eval e X.env)::starEach [] X.env:=by rfl)
  (he2:starEach [.Call (.Name "set" p2) [e] [] pos2] X.env=(false,eval (.Call (.Name "set" p2) [e] [] pos2) X.env)::starEach [] X.env:=by rfl):DE X (.Call (.Name "sorted" p) [.Call (.Name "set" p2) [e] [] pos2] [] pos) (op1 ssetD fa):=
 ⟨fun pins s σ H Q I ⟨ρ,r,H0,G₀,G,ef,R,q⟩=>pe_sset hc h1 m1 h2 m2 boot_set (eJ ha.run iG he) he he2 (fun _=>rfl) (fun _=>rfl) pins s σ H Q I (bE R ef q.x fun x v G1 H1 g1 R1 rv e1=>by
  obtain ⟨d,ed,rfl⟩:=bI e1
  unfold ssetD at ed
  split at ed
  ·split at ed
   ·rename_i xs ns e2
    split at ed
    ·rename_i h64
     cases (Option.some.inj ed)
     have:=cD (g:=.int) (fun d a q=>hV q) e2
     subst this
     cases rv with
     | list hq r=>
      have e3:=r.ints
      subst e3
      refine .inl ⟨_,ns,rfl,g1.sub.seq hq,h64,fun l hl=>q _ _ _ (g1.trans (.put g1.sub hl)) (.list (.of aG) (dW _))⟩
    ·cases ed
   ·split at ed
    ·rename_i xs _ ns e2
     split at ed
     ·rename_i h64
      cases (Option.some.inj ed)
      have:=cD (g:=.str) (fun d a q=>mP q) e2
      subst this
      cases rv with
      | list hq r=>
       have e3:=r.strs
       subst e3
       refine .inr ⟨_,ns,rfl,g1.sub.seq hq,h64,fun l hl=>q _ _ _ (g1.trans (.put g1.sub hl)) (.list (.of aG) (kP _))⟩
     ·cases ed
    ·cases ed
  ·cases ed)⟩
end
theorem isTy_kit {K:PySem.W.Frag} {T:String} {x:PyData} {t:Bool} (h:isTy T x=some t):PySem.W.kitOne K (.type (tyD x)) (.type T)=some t:=by
 unfold isTy at h
 by_cases c:T = "int"
 ·rw [if_pos c] at h;subst c;cases x<;>first | (cases h;rfl) | cases h
 rw [if_neg c] at h
 by_cases c:T = "bool"
 ·rw [if_pos c] at h;subst c;cases x<;>first | (cases h;rfl) | cases h
 rw [if_neg c] at h
 by_cases c:T = "str"
 ·rw [if_pos c] at h;subst c;cases x<;>first | (cases h;rfl) | cases h
 rw [if_neg c] at h
 by_cases c:T = "tuple"
 ·rw [if_pos c] at h;subst c;cases x<;>first | (cases h;rfl) | cases h
 rw [if_neg c] at h;cases h
def repD (ds:List PyData) (y:PyData):Option PyData:=match y with
 | .int k=>if cZ ds.length&&inRng k&&cZ (ds.length*k.toNat) then some (.list (List.replicate k.toNat ds).flatten) else none
 | _=>none
def repE (fa:AF) (fb:EF):EF:=fun ρ=>bnd (fa ρ) fun ds=>if cZ ds.length then bnd (fb ρ) fun y=>lft (repD ds y) else none
section
variable {X:Cx} {H0 G₀ G G1 H H1:Hp} {ρ:List Ent} {σ:St} {a b c d e iter:Expr} {es:List Expr} {pos p p2 pos2 px:Pos} {x:Str} {fa fb fc fd:EF}
theorem de_isinst {T:String} (hm:X.mg "isinstance" = none) (hx:X.mg x=none) (hv:bootBuiltins x=some (.type T)) (ha:DE X a fa) (hn:x ≠ "__name__":=by decide) (hdb:(x==("__debug__" : Str))=false:=by decide)
  (he:starEach [a,.Name x p2] X.env=(false,eval a X.env)::starEach [.Name x p2] X.env:=by rfl) (he2:starEach [.Name x p2] X.env=(false,eval (.Name x p2) X.env)::starEach [] X.env:=by rfl)
  (hpl:(backTo pos (starEach [.Name x p2] X.env)).any (·.1)=false:=by rfl) (hg:Gl X "isinstance":=by rfl) (hgx:Gl X x:=by rfl):DE X (.Call (.Name "isinstance" p) [a,.Name x p2] [] pos) (op1 (isD T) fa):=by
 have hc:eB X (.builtin "isinstance") (fun xs H Q=>∃ v d t,xs=[v,.ty T]∧Rep X.K H v d∧isTy T d=some t∧Q (.bl t) H):=by
  intro pins s σ H xs us Q I r ⟨v,d,t,e1,rv,ht,q⟩
  subst e1
  obtain ⟨u,w',rfl,r1,r2⟩:=vals2 r
  cases r2
  exact isinst_D I rv r1 (isTy_kit ht) fun tk=>⟨.bl t,H,I.tok tk,rfl,q⟩
 exact ⟨fun pins s σ H Q I ⟨ρ,r,H0,G₀,G,e,R,q⟩=>pe_callB hc hg hm boot_isinstance (eJ ha.run (eJ (pe_bltn (v:=.ty T) hgx hx hv rfl hn hdb) iG he2) he) (by decide) (by decide) he hpl pins s σ H Q I (bE R e q.x fun x v G1 H1 g1 R1 rv e1=>by
  obtain ⟨d,ed,rfl⟩:=bI e1
  obtain ⟨t,et,rfl⟩:=Option.map_eq_some_iff.mp ed
  exact ⟨v,x,t,rfl,rv.mono g1.sub,et,q _ _ _ g1 (.bool t)⟩)⟩
theorem rep_flat {K:PySem.W.Frag} {vs:List V} {ds:List PyData} (r:RepAll K G vs ds):∀ k:Nat,RepAll K G (List.replicate k vs).flatten (List.replicate k ds).flatten
 | 0=>.nil
 | k+1=>by rw [List.replicate_succ,List.replicate_succ,List.flatten_cons,List.flatten_cons];exact r.append (rep_flat r k)
theorem de_rep {f:AF} (ha:DA X es f) (hb:DE X b fb):DE X (.BinOp (.List es p) .Mult b pos) (repE f fb):=⟨fun pins s σ H Q I ⟨ρ,r,H0,G₀,G,e,R,q⟩=>pe_op op_rep (pe_lst ha.run) hb.run pins s σ H Q I (bA R e q.x fun ds vs G1 H1 g1 R1 rv e1=>by
 split at e1
 ·rename_i hz
  refine ⟨by rw [rv.length];exact fM hz,fun l hl=>?_⟩
  have g1':=g1.trans (.put (o:=.lst vs) g1.sub hl)
  exact bE (R.more g1') e1 (q.more g1').x fun y u G2 H2 g2 R2 ru e2=>by
   obtain ⟨d,ed,rfl⟩:=bI e2
   unfold repD at ed
   split at ed
   ·split at ed
    ·rename_i hk
     simp only [Bool.and_eq_true] at hk
     have hr:=inRng_is hk.1.2
     cases (Option.some.inj ed)
     cases ru
     refine ⟨l,_,vs,rfl,rfl,g2.hh.lst aG,by omega,by omega,by rw [rv.length];exact fM hk.2,fun l2 hl2=>q _ _ _ ((g1'.trans g2).trans (.put g2.sub hl2)) (.list (.of aG) (rep_flat (rv.mono (((bJ (g1.sub.free hl)).trans g2.gg).trans (bJ (g2.sub.free hl2)))) _))⟩
    ·cases ed
   ·cases ed
 ·cases e1)⟩
end
def anyB (ds:List PyData):Option PyData:=match ds with
 | [.list xs]=>(cR lG xs).map fun ns=>.bool (ns.any id)
 | _=>none
theorem range_any (bs:List Bool):(List.range bs.length).any (fun i=>bs.getD i false)=bs.any id:=by
 have:(List.range bs.length).map (fun i=>bs.getD i false)=bs:=by
  refine List.ext_getElem? fun i=>?_
  rw [List.getElem?_map]
  by_cases h:i<bs.length
  ·rw [List.getElem?_range h,List.getElem?_eq_getElem h];simp [h]
  ·rw [List.getElem?_eq_none (by simp;omega),List.getElem?_eq_none (by omega)];rfl
 conv=>rhs;rw [←this]
 rw [List.any_map];rfl
section
variable {X:Cx} {H0 G₀ G G1 H H1:Hp} {ρ:List Ent} {σ:St} {a b c d e iter:Expr} {es:List Expr} {pos p p2 pos2 px:Pos} {x:Str} {fa fb fc fd:EF}
theorem call_anyL (hc:X.calm=true):eB X (.builtin "any") (fun xs H Q=>∃ (p:Addr) (bs:List Bool),xs=[.ref p]∧SqL X.K H p (bs.map V.bl)∧Q (.bl (bs.any id)) H):=by
 intro pins s σ H xs us Q I r ⟨p,bs,e,hq,q⟩
 subst e
 obtain ⟨u,rfl,rx⟩:=vals1 r
 cases rx
 obtain ⟨its,rv,pl,hz⟩:=I.list hq
 have ev:=vals_bl rv
 subst ev
 have hl:=pl.isList
 have lt:p<s.heap.objs.size:=by obtain ⟨o,g,_⟩:=hl;exact Heap.lt_size g
 refine call_any_walk (wpAny_pyIter_list hl ?_)
 refine ⟨s.heap.objs.size,_,_,_,_,_,fun i=>bs.getD i false,rfl,Walks.list (A:=X.A.in1) (I.ok.hd hc) _ p (Nat.ne_of_lt lt) (bs.map Value.bool).toArray,⟨⟨_,Heap.get?_push_size _ rfl,rfl,rfl⟩,hl.push _⟩,fun i v s' Q' E' hP hQ=>?_,fun h' tk kp=>?_⟩
 ·have hP:(bs.map Value.bool).toArray[i]?=some v:=hP
  rw [List.getElem?_toArray,List.getElem?_map] at hP
  cases eb:bs[i]? with
  | none=>rw [eb] at hP;cases hP
  | some b=>
   rw [eb] at hP
   cases hP
   refine wpAny_truthy_bool ?_
   have:bs.getD i false=b:=by rw [List.getD,eb];rfl
   rw [←this]
   exact hQ
 ·have sz:(bs.map Value.bool).toArray.size=bs.length:=by simp
  rw [sz,range_any]
  refine ⟨.bl _,H,I.kept (fun b o g=>kp b o ?_ (Heap.get?_push_of_some _ g)),rfl,q⟩
  intro hb
  have z:b=s.heap.objs.size:=by simpa using hb
  exact absurd (Heap.lt_size g) (by rw [z];exact Nat.lt_irrefl _)
theorem any_ok (hc:X.calm=true) (ds:List PyData) (d:PyData) (h:anyB ds=some d):CallD X (.builtin "any") ds d:=by
 unfold anyB at h;split at h
 ·obtain ⟨ns,e,rfl⟩:=Option.map_eq_some_iff.mp h
  have:=cD (g:=.bool) (fun d a q=>boolD_is q) e
  subst this
  exact ⟨_,call_anyL hc,fun vs G H Q s r q=>by
   cases r with | cons r rr=>cases rr;cases r with | list hq r=>
    have e:=r.bools
    subst e
    exact ⟨_,ns,rfl,s.seq hq,q _ G H (.refl s) (.bool _)⟩⟩
 ·cases h
def inAll (x:PyData) (ds:List PyData):Option Bool:=if SeqAt.shaped x&&ds.all SeqAt.shaped then some (ds.any fun d=>PyData.eqv d x) else none
def inX (x y:PyData):Option Bool:=match x with
 | .tuple _=>(match seqD y with | some ds=>inAll x ds | none=>none)
 | .list _=>(match seqD y with | some ds=>inAll x ds | none=>none)
 | _=>inD x y
def ninX (x y:PyData):Option Bool:=(inX x y).map (!·)
def rInX (K:PySem.W.Frag) (neg:Bool) (dx:PyData) (ds:List PyData):R2:=fun x y H Q=>∃ p xs,y=.ref p∧(SqL K H p xs∨SqT K H p xs)∧Rep K H x dx∧RepAll K H xs ds∧SeqAt.shaped dx=true∧ds.all SeqAt.shaped=true∧Q (.bl (if neg then !(ds.any fun d=>PyData.eqv d dx) else ds.any fun d=>PyData.eqv d dx)) H
open Classical in
theorem inX_at {pins:List (Addr×Obj)} {s:Shared} {A:Around} (I:Inv X pins σ H s) (hu:A.units+64<cLine) {v:Value} {dx:PyData} {bs:List Addr} (rx:Reads s.heap v dx bs) (hx:SeqAt.shaped dx=true) :
  ∀ {xs:List V} {ds:List PyData} {us:List Value},RepAll X.K H xs ds→aV xs us→ds.all SeqAt.shaped=true →
   (∀ u∈us,SeqAt.EqAt A s u v (decide (∃ d as,Reads s.heap u d as∧SeqAt.shaped d=true∧PyData.eqv d dx=true)))∧us.any (fun u=>decide (∃ d as,Reads s.heap u d as∧SeqAt.shaped d=true∧PyData.eqv d dx=true))=ds.any fun d=>PyData.eqv d dx
 | _,_,_,.nil,.nil,_=>⟨(fun u hm=>by cases hm),rfl⟩
 | _,_,_,.cons (d:=d) r rr,.cons t tt,hs=>by
  rw [List.all_cons,Bool.and_eq_true] at hs
  obtain ⟨h1,h2⟩:=inX_at I hu rx hx rr tt hs.2
  obtain ⟨as,ra⟩:=r.reads I t
  have key0:∀ u,Reads s.heap u d as→decide (∃ d as,Reads s.heap u d as∧SeqAt.shaped d=true∧PyData.eqv d dx=true)=PyData.eqv d dx:=by
   intro u ra
   cases e:PyData.eqv d dx with
   | true=>exact decide_eq_true ⟨d,as,ra,hs.1,e⟩
   | false=>
    refine decide_eq_false fun ⟨d',as',r',s',e'⟩=>?_
    rw [SeqAt.Reads.unique d d' _ _ _ (SeqAt.canLay_of_shaped hs.1) ra r'] at e
    rw [e] at e';cases e'
  have key:=key0 _ ra
  refine ⟨fun u hu'=>?_,by rw [List.any_cons,List.any_cons,key,h2]⟩
  rcases List.mem_cons.mp hu' with z | z
  ·subst z
   rw [key]
   exact SeqAt.eqAt_reads d dx A s _ v as bs ra rx (SeqAt.canLay_of_shaped hs.1) (SeqAt.canLay_of_shaped hx) (SeqAt.room_of_shaped hs.1 hu)
  ·exact h1 u z
open Classical in
theorem op_inX (hu:X.A.in1.units+64<cLine) (dx:PyData) (ds:List PyData):OpR X (compareOp .In) (rInX X.K false dx ds):=by
 intro pins s σ H x y v u Q I rx ry h
 obtain ⟨p,xs,rfl,hq,r1,r2,h1,h2,q⟩:=h
 cases ry
 obtain ⟨bs,rb⟩:=r1.reads I rx
 rcases hq with hq | hq
 ·obtain ⟨its,r,pl,hz⟩:=I.list hq
  obtain ⟨e1,e2⟩:=inX_at (A:=X.A.in1) I hu rb h1 r2 r h2
  refine SeqAt.in_listAt _ pl.isList (fun w hw=>e1 w (by simpa using hw)) ⟨.bl _,H,I,rfl,?_⟩
  rw [←Array.any_toList,e2]
  exact q
 ·obtain ⟨its,r,pl,hz⟩:=I.tuple hq
  obtain ⟨e1,e2⟩:=inX_at (A:=X.A.in1) I hu rb h1 r2 r h2
  refine SeqAt.in_tupleAt _ pl (fun w hw=>e1 w (by simpa using hw)) ⟨.bl _,H,I,rfl,?_⟩
  rw [←Array.any_toList,e2]
  exact q
open Classical in
theorem op_ninX (hu:X.A.in1.units+64<cLine) (dx:PyData) (ds:List PyData):OpR X (compareOp .NotIn) (rInX X.K true dx ds):=by
 intro pins s σ H x y v u Q I rx ry h
 obtain ⟨p,xs,rfl,hq,r1,r2,h1,h2,q⟩:=h
 cases ry
 obtain ⟨bs,rb⟩:=r1.reads I rx
 rcases hq with hq | hq
 ·obtain ⟨its,r,pl,hz⟩:=I.list hq
  obtain ⟨e1,e2⟩:=inX_at (A:=X.A.in1) I hu rb h1 r2 r h2
  refine SeqAt.notIn_listAt _ pl.isList (fun w hw=>e1 w (by simpa using hw)) ⟨.bl _,H,I,rfl,?_⟩
  rw [←Array.any_toList,e2]
  exact q
 ·obtain ⟨its,r,pl,hz⟩:=I.tuple hq
  obtain ⟨e1,e2⟩:=inX_at (A:=X.A.in1) I hu rb h1 r2 r h2
  refine SeqAt.notIn_tupleAt _ pl (fun w hw=>e1 w (by simpa using hw)) ⟨.bl _,H,I,rfl,?_⟩
  rw [←Array.any_toList,e2]
  exact q
theorem inAll_ok {hu:X.A.in1.units+64<cLine} {x y:PyData} {ds:List PyData} {t:Bool} (e:seqD y=some ds) (h:inAll x ds=some t):CmpD X .In x y t∧CmpD X .NotIn x y (!t):=by
 unfold inAll at h
 split at h
 ·rename_i hz
  rw [Bool.and_eq_true] at hz
  cases (Option.some.inj h)
  refine ⟨⟨_,op_inX hu x ds,fun v u G H Q s rv ru q=>?_⟩,⟨_,op_ninX hu x ds,fun v u G H Q s rv ru q=>?_⟩⟩
  ·obtain ⟨p,vs,rfl,hq,r⟩:=iZ s e ru
   exact ⟨p,vs,rfl,hq,rv.mono s,r.mono s,hz.1,hz.2,q⟩
  ·obtain ⟨p,vs,rfl,hq,r⟩:=iZ s e ru
   exact ⟨p,vs,rfl,hq,rv.mono s,r.mono s,hz.1,hz.2,q⟩
 ·cases h
theorem inX_ok (hu:X.A.in1.units+64<cLine) (x y:PyData) (t:Bool) (h:inX x y=some t):CmpD X .In x y t:=by
 unfold inX at h
 split at h
 ·split at h
  ·rename_i ds e;exact (inAll_ok (hu:=hu) e h).1
  ·cases h
 ·split at h
  ·rename_i ds e;exact (inAll_ok (hu:=hu) e h).1
  ·cases h
 ·exact in_ok x y t h
theorem ninX_ok (hu:X.A.in1.units+64<cLine) (x y:PyData) (t:Bool) (h:ninX x y=some t):CmpD X .NotIn x y t:=by
 unfold ninX at h
 obtain ⟨t',hq,rfl⟩:=Option.map_eq_some_iff.mp h
 unfold inX at hq
 split at hq
 ·split at hq
  ·rename_i ds e;exact (inAll_ok (hu:=hu) e hq).2
  ·cases hq
 ·split at hq
  ·rename_i ds e;exact (inAll_ok (hu:=hu) e hq).2
  ·cases hq
 ·exact nin_ok x y _ (by unfold ninD;rw [hq];rfl)
end
theorem _root_.L2.Room.units1 {k:Nat} {A:Around} (r:Room k A):A.in1.units+64<cLine:=by
 have:=r.un
 show A.units+1+64<cLine
 omega
theorem vals_range {lo:Int} {n:Nat} {acc:Array Value} (h:ItemsOf (fun i v=>∃ t,v=.int (lo+i*1) t) acc n):aV (((List.range n).map fun (k:Nat)=>lo+(k:Int)).map V.int) acc.toList:=by
 have key:∀ (m:Nat) (l:List Value) (o:Nat),l.length=m→(∀ (i:Nat) (v:Value),l[i]?=some v→∃ t:Tok,v=Value.int (lo+((o+i:Nat):Int)*1) t)→aV (((List.range' o m).map fun (k:Nat)=>lo+(k:Int)).map V.int) l:=by
  intro m
  induction m with
  | zero=>intro l o hl _;rw [List.length_eq_zero_iff.mp hl];exact .nil
  | succ m ih=>
   intro l o hl hv
   match l,hl with
   | v::l,hl=>
    rw [List.range'_succ]
    obtain ⟨t,e⟩:=hv 0 v rfl
    refine .cons ⟨t,?_⟩ (ih l (o+1) (by simpa using hl) fun i u hu=>?_)
    ·rw [e];simp
    ·obtain ⟨t',e'⟩:=hv (i+1) u (by simpa using hu)
     exact ⟨t',by rw [e',show o+(i+1)=o+1+i by omega]⟩
 have:=key n acc.toList 0 (by rw [Array.length_toList];exact h.1) fun i v e=>by
  rw [Array.getElem?_toList] at e
  simpa using h.2 i v e
 rw [List.range_eq_range']
 exact this
section
variable {X:Cx} {H0 G₀ G G1 H H1:Hp} {ρ:List Ent} {σ:St} {a b c d e iter:Expr} {es:List Expr} {pos p p2 pos2 px:Pos} {x:Str} {fa fb fc fd:EF}
def rngV (lo:Int) (n:Nat):List V:=((List.range n).map fun (k:Nat)=>lo+(k:Int)).map V.int
theorem rngV_rep {K:PySem.W.Frag} {G:Hp} (lo:Int) (n:Nat):RepAll K G (rngV lo n) (gM lo n):=by
 have:=dW (K:=K) (G:=G) ((List.range n).map fun (k:Nat)=>lo+(k:Int))
 unfold rngV gM
 rw [List.map_map (g:=PyData.int)] at this
 exact this
end
section
variable {X:Cx} {a b e:Expr} {elts:List Expr} {k0:Nat} {p0 pos p:Pos} {fa fb:EF} {st:Stmt}
end
end L2.L3
namespace L2.ZT
open PySem PyProof.Rows
section
variable {prog:Program} {w:World} {A:Around} {E:Value→Shared→Prop} {s:Shared}
variable {z TI TO c d t u:Addr} {i j:Nat} {xs ys:Array Value} {a b:Value}
end
section
variable {prog:Program} {w:World} {A:Around} {E:Value→Shared→Prop} {s:Shared}
end
end L2.ZT
namespace L2.L3
open PySem PySem.Spec PyProof.Rows
def Itt (K:PySem.W.Frag) (l1 l2:Addr):It:=
 ⟨fun i H=>∃ xs ys x y,SqT K H l1 xs∧SqT K H l2 ys∧xs[i]?=some x∧ys[i]?=some y,
 fun i H v H'=>∃ T x y,H T=none∧v=.ref T∧H'=upd H T (.tup [x,y])∧(∀ xs,SqT K H l1 xs→xs[i]?=some x)∧∀ ys,SqT K H l2 ys→ys[i]?=some y,
 fun i H=>∃ xs ys,SqT K H l1 xs∧SqT K H l2 ys∧(xs.length≤i∨ys.length≤i)⟩
section
variable {X:Cx} {a b:Expr} {elts:List Expr} {k0:Nat} {p0 pos p:Pos} {fa fb:EF}
end
end L2.L3
namespace L2.ST
open PySem PySem.W PyProof.Rows
section
variable {α β:Type} {lt:Nat→Nat→Bool} {n:Nat}
def run (lt:Nat→Nat→Bool):KasT α→α
 | .ret a=>a
 | .ask i j k=>run lt (k (lt i j))
def asks (n:Nat) (lt:Nat→Nat→Bool):KasT α→Prop
 | .ret _=>True
 | .ask i j k=>i<n∧j<n∧asks n lt (k (lt i j))
def Hq (n:Nat) (lt:Nat→Nat→Bool) (t:KasT α) (Q:α→Prop):Prop:=asks n lt t∧Q (run lt t)
theorem iO {a:α} {Q:α→Prop} (h:Q a):Hq n lt (.ret a) Q:=⟨trivial,h⟩
theorem hq_ask {i j:Nat} {k:Bool→KasT α} {Q:α→Prop} (hi:i<n) (hj:j<n) (h:Hq n lt (k (lt i j)) Q):Hq n lt (.ask i j k) Q:=⟨⟨hi,hj,h.1⟩,h.2⟩
theorem mV {f:α→KasT β} {Q:β→Prop}:∀ {t:KasT α},Hq n lt t (fun a=>Hq n lt (f a) Q)→Hq n lt (t.bind f) Q
 | .ret _,h=>h.2
 | .ask i j k,h=>hq_ask h.1.1 h.1.2.1 (mV (t:=k (lt i j)) ⟨h.1.2.2,h.2⟩)
theorem hZ {t:KasT α} {Q Q':α→Prop} (h:Hq n lt t Q) (hq:∀ a,Q a→Q' a):Hq n lt t Q':=⟨h.1,hq _ h.2⟩
theorem wp_run {cmp:Nat→Nat→(Bool→Shared→Prop)→Shared→Prop} {s:Shared} (hc:∀ i j C,i<n→j<n→C (lt i j) s→cmp i j C s):∀ (t:KasT α) {Q:α→Shared→Prop},asks n lt t→Q (run lt t) s→t.kasWp cmp Q s
 | .ret _,_,_,h=>h
 | .ask i j k,Q,a,h=>hc i j _ a.1 a.2.1 (wp_run hc (k (lt i j)) a.2.2 h)
end
section
variable {r:Nat→Int} {n:Nat} {p:Array Nat}
def vl (r:Nat→Int) (p:Array Nat) (k:Nat):Int:=r (p.getD k 0)
def ltr (r:Nat→Int) (i j:Nat):Bool:=decide (r i<r j)
def Up (r:Nat→Int) (p:Array Nat) (k:Nat):Prop:=∀ i j,i≤j→j<k→vl r p i≤vl r p j
def Down (r:Nat→Int) (p:Array Nat) (k:Nat):Prop:=∀ i j,i≤j→j<k→vl r p j≤vl r p i
structure Pm (n:Nat) (p:Array Nat):Prop where
 size:p.size=n
 perm:p.Perm (List.range n).toArray
theorem Pm.lt (h:Pm n p) (hn:0<n) (k:Nat):p.getD k 0<n:=by
 by_cases hk:k<p.size
 ·have e:p.getD k 0=p[k]:=by simp [Array.getD,hk]
  rw [e]
  have:p[k]∈(List.range n).toArray:=h.perm.mem_iff.mp (Array.getElem_mem hk)
  simpa using this
 ·have e:p.getD k 0=0:=by simp [Array.getD,hk]
  rw [e];exact hn
theorem Pm.rev (h:Pm n p) (i j:Nat):Pm n (kas_rev p i j):=⟨by unfold kas_rev;rw [mirror_size];exact h.size,(mirror_perm _ _ _ _).trans h.perm⟩
theorem Pm.bub (h:Pm n p) (i j:Nat):Pm n (bubble p i j):=⟨by rw [bubble_size];exact h.size,(bubble_perm _ _ _).trans h.perm⟩
theorem getD_of {p q:Array Nat} {i j:Nat} (h:p[i]?=q[j]?):p.getD i 0=q.getD j 0:=by
 rw [Array.getD_eq_getD_getElem?,Array.getD_eq_getD_getElem?,h]
theorem vl_rev {i j:Nat} (hj:j≤p.size) (k:Nat):vl r (kas_rev p i j) k=if i≤k∧k<j then vl r p (i+j - 1 - k) else vl r p k:=by
 have e:=getElem?_mirror_all (i:=i) hj k
 unfold vl kas_rev
 by_cases h:i≤k∧k<j
 ·rw [if_pos h] at e ⊢;rw [getD_of e]
 ·rw [if_neg h] at e ⊢;rw [getD_of e]
theorem vl_bub {src d:Nat} (hs:src<p.size) (hd:d≤src) (k:Nat):vl r (bubble p src d) k=if k=src - d then vl r p src else if src - d<k∧k≤src then vl r p (k - 1) else vl r p k:=by
 have e:=getElem?_bubble hs d hd k
 unfold vl
 by_cases h:k=src - d
 ·rw [if_pos h] at e ⊢;rw [getD_of e]
 ·rw [if_neg h] at e ⊢
  by_cases h2:src - d<k∧k≤src
  ·rw [if_pos h2] at e ⊢;rw [getD_of e]
  ·rw [if_neg h2] at e ⊢;rw [getD_of e]
theorem Up.snoc {k:Nat} (h:Up r p k) (hk:0<k) (hl:vl r p (k - 1)≤vl r p k):Up r p (k+1):=fun i j hij hj=>by
 by_cases e:j=k
 ·subst e
  by_cases e2:i=j
  ·subst e2;exact Int.le_refl _
  ·exact Int.le_trans (h i (j - 1) (by omega) (by omega)) hl
 ·exact h i j hij (by omega)
theorem Down.snoc {k:Nat} (h:Down r p k) (hk:0<k) (hl:vl r p k≤vl r p (k - 1)):Down r p (k+1):=fun i j hij hj=>by
 by_cases e:j=k
 ·subst e
  by_cases e2:i=j
  ·subst e2;exact Int.le_refl _
  ·exact Int.le_trans hl (h i (j - 1) (by omega) (by omega))
 ·exact h i j hij (by omega)
theorem h_asc (P:Pm n p) (hn:0<n):∀ (f m:Nat),0<m→Up r p m→Hq n (ltr r) (kas_asc p f m) (fun k=>m≤k∧k≤m+f∧Up r p k∧(k<m+f→vl r p k<vl r p (k - 1)))
 | 0,m,hm,h=>iO ⟨Nat.le_refl _,Nat.le_refl _,h,fun z=>absurd z (by omega)⟩
 | f+1,m,hm,h=>by
  refine hq_ask (P.lt hn _) (P.lt hn _) ?_
  by_cases c:r (p.getD m 0)<r (p.getD (m - 1) 0)
  ·rw [show ltr r (p.getD m 0) (p.getD (m - 1) 0)=true from decide_eq_true c,if_pos rfl]
   exact iO ⟨Nat.le_refl _,by omega,h,fun _=>c⟩
  ·rw [show ltr r (p.getD m 0) (p.getD (m - 1) 0)=false from decide_eq_false c,if_neg (by simp)]
   exact hZ (h_asc P hn f (m+1) (by omega) (h.snoc hm (Int.not_lt.mp c))) fun k ⟨a,b,c,d⟩=>⟨by omega,by omega,c,fun z=>d (by omega)⟩
theorem vl_same {i j:Nat} (hj:j≤p.size) (he:∀ k,i≤k→k<j→vl r p k=vl r p (j - 1)) (k:Nat):vl r (kas_rev p i j) k=vl r p k:=by
 rw [vl_rev hj]
 by_cases h:i≤k∧k<j
 ·rw [if_pos h,he _ (by omega) (by omega),he k h.1 h.2]
 ·rw [if_neg h]
theorem Down.cong {p':Array Nat} {k:Nat} (e:∀ k,vl r p' k=vl r p k) (h:Down r p k):Down r p' k:=fun i j a b=>by rw [e,e];exact h i j a b
theorem h_desc (hn:0<n):∀ (f:Nat) (p:Array Nat) (m q:Nat),Pm n p→q<m→m+f≤n→Down r p m→(∀ k,m - (q+1)≤k→k<m→vl r p k=vl r p (m - 1)) →
  Hq n (ltr r) (kas_desc f p m q) (fun x=>Pm n x.1∧m≤x.2.1∧x.2.1≤m+f∧x.2.2<x.2.1∧Down r x.1 x.2.1∧∀ k,x.2.1 - (x.2.2+1)≤k→k<x.2.1→vl r x.1 k=vl r x.1 (x.2.1 - 1))
 | 0,p,m,q,P,hq,hm,hd,he=>iO ⟨P,Nat.le_refl _,Nat.le_refl _,hq,hd,he⟩
 | f+1,p,m,q,P,hq,hm,hd,he=>by
  have one:∀ p':Array Nat,∀ k,m+1 - (0+1)≤k→k<m+1→vl r p' k=vl r p' (m+1 - 1):=fun p' k a b=>by rw [show k=m+1 - 1 by omega]
  refine hq_ask (P.lt hn _) (P.lt hn _) ?_
  by_cases c:r (p.getD m 0)<r (p.getD (m - 1) 0)
  ·rw [show ltr r (p.getD m 0) (p.getD (m - 1) 0)=true from decide_eq_true c,if_pos rfl]
   have hd':=hd.snoc (by omega) (Int.le_of_lt c)
   by_cases q0:q > 0
   ·rw [if_pos q0]
    have e:=vl_same (i:=m - (q+1)) (j:=m) (by rw [P.size];omega) he
    exact hZ (h_desc hn f _ (m+1) 0 (P.rev _ _) (by omega) (by omega) (hd'.cong e) (one _)) fun x ⟨a,b,c,d,e,g⟩=>⟨a,by omega,by omega,d,e,g⟩
   ·rw [if_neg q0]
    exact hZ (h_desc hn f _ (m+1) 0 P (by omega) (by omega) hd' (one _)) fun x ⟨a,b,c,d,e,g⟩=>⟨a,by omega,by omega,d,e,g⟩
  ·rw [show ltr r (p.getD m 0) (p.getD (m - 1) 0)=false from decide_eq_false c,if_neg (by simp)]
   refine hq_ask (P.lt hn _) (P.lt hn _) ?_
   by_cases c2:r (p.getD (m - 1) 0)<r (p.getD m 0)
   ·rw [show ltr r (p.getD (m - 1) 0) (p.getD m 0)=true from decide_eq_true c2,if_pos rfl]
    exact iO ⟨P,Nat.le_refl _,Nat.le_add_right _ _,hq,hd,he⟩
   ·rw [show ltr r (p.getD (m - 1) 0) (p.getD m 0)=false from decide_eq_false c2,if_neg (by simp)]
    have eq:vl r p m=vl r p (m - 1):=by unfold vl;omega
    refine hZ (h_desc hn f p (m+1) (q+1) P (by omega) (by omega) (hd.snoc (by omega) (by omega)) fun k a b=>?_) fun x ⟨a,b,c,d,e,g⟩=>⟨a,by omega,by omega,d,e,g⟩
    rw [show m+1 - 1=m by omega,eq]
    by_cases e2:k=m
    ·rw [e2,eq]
    ·exact he k (by omega) (by omega)
theorem Down.rev {m:Nat} (P:Pm n p) (hm:m≤n) (h:Down r p m):Up r (kas_rev p 0 m) m:=fun i j hij hj=>by
 rw [vl_rev (by rw [P.size];omega),vl_rev (by rw [P.size];omega),if_pos (by omega),if_pos (by omega)]
 exact h _ _ (by omega) (by omega)
abbrev Goal (r:Nat→Int) (n:Nat) (x:Nat×Array Nat):Prop:=Pm n x.2∧0<x.1∧x.1≤n∧Up r x.2 x.1
theorem h_tail (hn:0<n) {m:Nat} (P:Pm n p) (h0:0<m) (hm:m≤n) (hd:Down r p m):Hq n (ltr r) (kas_tail3 m n p) (Goal r n):=by
 unfold kas_tail3
 refine mV (hZ (h_asc (P.rev 0 m) hn (n - m) m h0 (hd.rev P hm)) fun k ⟨a,b,c,d⟩=>iO ⟨P.rev 0 m,by show 0<k;omega,by show k≤n;omega,c⟩)
theorem h_descPart (hn:0<n) {m:Nat} (P:Pm n p) (hm:m+1≤n) (hd:Down r p (m+1)):Hq n (ltr r) (kas_descPart m n p) (Goal r n):=by
 unfold kas_descPart
 refine mV (hZ (h_desc hn (n - (m+1)) p (m+1) 0 P (by omega) (by omega) hd (fun k a b=>by rw [show k=m+1 - 1 by omega])) fun x ⟨a,b,c,d,e,g⟩=>?_)
 by_cases h:x.2.2 > 0
 ·rw [if_pos h]
  exact h_tail hn (a.rev _ _) (by omega) (by omega) (e.cong (vl_same (by rw [a.size];omega) g))
 ·rw [if_neg h]
  exact h_tail hn a (by omega) (by omega) e
theorem h_count (hn:0<n) (P:Pm n p):Hq n (ltr r) (kas_count n p) (Goal r n):=by
 unfold kas_count
 refine mV (hZ (h_asc P hn (n - 1) 1 (by decide) (fun i j a b=>by rw [show i=j by omega];exact Int.le_refl _)) fun m ⟨a,b,c,d⟩=>?_)
 by_cases h:(m==n)=true
 ·rw [if_pos h]
  exact iO ⟨P,by show 0<m;omega,by show m≤n;omega,c⟩
 ·rw [if_neg h]
  have hmn:m<n:=by have:m≠n:=fun z=>h (by rw [z];simp);omega
  have dr:=d (by omega)
  by_cases h1:m > 1
  ·rw [if_pos h1]
   refine hq_ask (P.lt hn _) (P.lt hn _) ?_
   by_cases c2:r (p.getD 0 0)<r (p.getD (m - 1) 0)
   ·rw [show ltr r (p.getD 0 0) (p.getD (m - 1) 0)=true from decide_eq_true c2,if_pos rfl]
    exact iO ⟨P,by show 0<m;omega,by show m≤n;omega,c⟩
   ·rw [show ltr r (p.getD 0 0) (p.getD (m - 1) 0)=false from decide_eq_false c2,if_neg (by simp)]
    have eqs:∀ k,k<m→vl r p k=vl r p (m - 1):=fun k hk=>by
     have a1:=c 0 k (Nat.zero_le _) hk
     have a2:=c k (m - 1) (by omega) (by omega)
     have a3:vl r p (m - 1)≤vl r p 0:=Int.not_lt.mp c2
     omega
    have e:=vl_same (r:=r) (i:=0) (j:=m) (by rw [P.size];omega) (fun k _ hk=>eqs k hk)
    refine h_descPart hn (P.rev 0 m) (by omega) (Down.cong e ?_)
    refine Down.snoc (fun i j hij hj=>?_) (by omega) (Int.le_of_lt dr)
    rw [eqs i (by omega),eqs j hj];exact Int.le_refl _
  ·rw [if_neg h1]
   refine h_descPart hn P (by omega) (Down.snoc (fun i j hij hj=>?_) (by omega) (Int.le_of_lt dr))
   rw [show i=j by omega];exact Int.le_refl _
theorem h_place (hn:0<n) (P:Pm n p) {k:Nat} (hu:Up r p k):∀ (f l u:Nat),l≤u→u≤k→u - l≤f→(∀ i,i<l→vl r p i≤vl r p k)→(∀ i,u≤i→i<k→vl r p k<vl r p i) →
  Hq n (ltr r) (kas_place p k f l u) (fun x=>x≤k∧(∀ i,i<x→vl r p i≤vl r p k)∧∀ i,x≤i→i<k→vl r p k<vl r p i)
 | 0,l,u,h1,h2,h3,a,b=>iO ⟨by omega,a,fun i hi hk=>b i (by omega) hk⟩
 | f+1,l,u,h1,h2,h3,a,b=>by
  unfold kas_place
  by_cases h:l≥u
  ·rw [if_pos h];exact iO ⟨by omega,a,fun i hi hk=>b i (by omega) hk⟩
  ·rw [if_neg h]
   refine hq_ask (P.lt hn _) (P.lt hn _) ?_
   by_cases c:r (p.getD k 0)<r (p.getD ((l+u) / 2) 0)
   ·rw [show ltr r (p.getD k 0) (p.getD ((l+u) / 2) 0)=true from decide_eq_true c,if_pos rfl]
    refine h_place hn P hu f l ((l+u) / 2) (by omega) (by omega) (by omega) a fun i hi hk=>?_
    have c':vl r p k<vl r p ((l+u) / 2):=c
    exact Int.lt_of_lt_of_le c' (hu _ _ hi hk)
   ·rw [show ltr r (p.getD k 0) (p.getD ((l+u) / 2) 0)=false from decide_eq_false c,if_neg (by simp)]
    refine h_place hn P hu f ((l+u) / 2+1) u (by omega) (by omega) (by omega) (fun i hi=>?_) b
    have c':vl r p ((l+u) / 2)≤vl r p k:=Int.not_lt.mp c
    exact Int.le_trans (hu i ((l+u) / 2) (by omega) (by omega)) c'
theorem h_bin (hn:0<n):∀ (f:Nat) (p:Array Nat) (k:Nat),Pm n p→0<k→k+f=n→Up r p k→Hq n (ltr r) (kas_bin f p k) (fun q=>Pm n q∧Up r q n)
 | 0,p,k,P,_,hk,hu=>iO ⟨P,by rw [show n=k by omega];exact hu⟩
 | f+1,p,k,P,h0,hk,hu=>by
  unfold kas_bin
  refine mV (hZ (h_place hn P hu k 0 k (Nat.zero_le _) (Nat.le_refl _) (by omega) (fun i hi=>absurd hi (by omega)) (fun i hi hk=>absurd hi (by omega))) fun l ⟨a,b,c⟩=>?_)
  refine h_bin hn f _ (k+1) (P.bub _ _) (by omega) (by omega) fun i j hij hj=>?_
  have hs:k<p.size:=by rw [P.size];omega
  have ei:=vl_bub (r:=r) hs (show k - l≤k by omega) i
  have ej:=vl_bub (r:=r) hs (show k - l≤k by omega) j
  rw [show k - (k - l)=l by omega] at ei ej
  rw [ei,ej]
  by_cases i1:i=l
  ·rw [if_pos i1]
   by_cases j1:j=l
   ·rw [if_pos j1];exact Int.le_refl _
   ·rw [if_neg j1,if_pos (by omega)];exact Int.le_of_lt (c (j - 1) (by omega) (by omega))
  ·rw [if_neg i1]
   by_cases i2:l<i∧i≤k
   ·rw [if_pos i2,if_neg (by omega),if_pos (by omega)];exact hu _ _ (by omega) (by omega)
   ·rw [if_neg i2]
    by_cases j1:j=l
    ·rw [if_pos j1];exact b i (by omega)
    ·rw [if_neg j1]
     by_cases j2:l<j∧j≤k
     ·rw [if_pos j2];exact hu _ _ (by omega) (by omega)
     ·rw [if_neg j2];exact hu _ _ hij (by omega)
theorem h_sort (hn:2≤n):Hq n (ltr r) (kas_sort n) (fun q=>Pm n q∧Up r q n):=by
 unfold kas_sort
 refine mV (hZ (h_count (by omega) ⟨by simp,Array.Perm.refl _⟩) fun x ⟨a,b,c,d⟩=>?_)
 by_cases h:x.1<n
 ·rw [if_pos h,show max x.1 1=x.1 by omega]
  exact h_bin (by omega) _ _ _ a b (by omega) d
 ·rw [if_neg h]
  exact iO ⟨a,by rw [show n=x.1 by omega];exact d⟩
end
end L2.ST
namespace L2.L3
open PySem
def ltC:PyData→PyData→Bool
 | .int a,.int b=>decide (a<b)
 | .str a,.str b=>!cE b a
 | _,_=>false
def eqC:PyData→PyData→Bool
 | .int a,.int b=>a==b
 | .str a,.str b=>a==b
 | _,_=>false
def ltR:List PyData→List PyData→Bool
 | a::r,b::s=>if eqC a b then ltR r s else ltC a b
 | _,_=>false
def eW:List Bool→List PyData→Bool
 | [],[]=>true
 | true::g,.int _::r=>eW g r
 | false::g,.str _::r=>eW g r
 | _,_=>false
theorem gX {a:List PyData} (h:eW [] a=true):a=[]:=by
 cases a with
 | nil=>rfl
 | cons x r=>cases x<;>cases h
theorem sig_int {g:List Bool} {a:List PyData} (h:eW (true::g) a=true):∃ i r,a=.int i::r∧eW g r=true:=by
 cases a with
 | nil=>cases h
 | cons x r=>cases x<;>first | exact ⟨_,_,rfl,h⟩ | cases h
theorem sig_str {g:List Bool} {a:List PyData} (h:eW (false::g) a=true):∃ i r,a=.str i::r∧eW g r=true:=by
 cases a with
 | nil=>cases h
 | cons x r=>cases x<;>first | exact ⟨_,_,rfl,h⟩ | cases h
theorem leStr_refl (a:Str):cE a a=true:=by have:=jF a a;rwa [Bool.or_self] at this
theorem ltR_irr:∀ (g:List Bool) (a:List PyData),eW g a=true→ltR a a=false
 | [],a,h=>by rw [gX h];rfl
 | true::g,a,h=>by
  obtain ⟨i,r,rfl,h⟩:=sig_int h
  simp [ltR,eqC,ltR_irr g r h]
 | false::g,a,h=>by
  obtain ⟨i,r,rfl,h⟩:=sig_str h
  simp [ltR,eqC,ltR_irr g r h]
theorem ltR_tri:∀ (g:List Bool) (a b:List PyData),eW g a=true→eW g b=true→ltR a b=true∨a=b∨ltR b a=true
 | [],a,b,h,h'=>by rw [gX h,gX h'];exact .inr (.inl rfl)
 | true::g,a,b,h,h'=>by
  obtain ⟨i,r,rfl,h⟩:=sig_int h
  obtain ⟨j,q,rfl,h'⟩:=sig_int h'
  by_cases e:i=j
  ·subst e
   rcases ltR_tri g r q h h' with z | z | z
   ·exact .inl (by simp [ltR,eqC,z])
   ·exact .inr (.inl (by rw [z]))
   ·exact .inr (.inr (by simp [ltR,eqC,z]))
  ·by_cases l:i<j
   ·exact .inl (by simp [ltR,eqC,e,ltC,l])
   ·exact .inr (.inr (by have:¬j=i:=fun z=>e z.symm;simp [ltR,eqC,this,ltC];omega))
 | false::g,a,b,h,h'=>by
  obtain ⟨i,r,rfl,h⟩:=sig_str h
  obtain ⟨j,q,rfl,h'⟩:=sig_str h'
  by_cases e:i=j
  ·subst e
   rcases ltR_tri g r q h h' with z | z | z
   ·exact .inl (by simp [ltR,eqC,z])
   ·exact .inr (.inl (by rw [z]))
   ·exact .inr (.inr (by simp [ltR,eqC,z]))
  ·have e':¬j=i:=fun z=>e z.symm
   cases l:cE j i with
   | false=>exact .inl (by simp [ltR,eqC,e,ltC,l])
   | true=>
    cases l2:cE i j with
    | false=>exact .inr (.inr (by simp [ltR,eqC,e',ltC,l2]))
    | true=>exact absurd (leStr_anti l2 l) e
theorem ltR_tr:∀ (g:List Bool) (a b c:List PyData),eW g a=true→eW g b=true→eW g c=true→ltR a b=true→ltR b c=true→ltR a c=true
 | [],a,b,c,h,_,_,z,_=>by rw [gX h] at z;cases z
 | true::g,a,b,c,h,h',h'',z,z'=>by
  obtain ⟨i,r,rfl,h⟩:=sig_int h
  obtain ⟨j,q,rfl,h'⟩:=sig_int h'
  obtain ⟨k,u,rfl,h''⟩:=sig_int h''
  simp only [ltR,eqC,ltC,beq_iff_eq] at z z' ⊢
  by_cases e:i=j
  ·subst e
   rw [if_pos rfl] at z
   by_cases e2:i=k
   ·subst e2;rw [if_pos rfl] at z' ⊢;exact ltR_tr g r q u h h' h'' z z'
   ·rw [if_neg e2] at z' ⊢;exact z'
  ·rw [if_neg e] at z
   by_cases e2:j=k
   ·subst e2;rw [if_neg e];exact z
   ·rw [if_neg e2] at z'
    rw [decide_eq_true_eq] at z z'
    rw [if_neg (by omega)];exact decide_eq_true (by omega)
 | false::g,a,b,c,h,h',h'',z,z'=>by
  obtain ⟨i,r,rfl,h⟩:=sig_str h
  obtain ⟨j,q,rfl,h'⟩:=sig_str h'
  obtain ⟨k,u,rfl,h''⟩:=sig_str h''
  simp only [ltR,eqC,ltC,beq_iff_eq] at z z' ⊢
  by_cases e:i=j
  ·subst e
   rw [if_pos rfl] at z
   by_cases e2:i=k
   ·subst e2;rw [if_pos rfl] at z' ⊢;exact ltR_tr g r q u h h' h'' z z'
   ·rw [if_neg e2] at z' ⊢;exact z'
  ·rw [if_neg e] at z
   by_cases e2:j=k
   ·subst e2;rw [if_neg e];exact z
   ·rw [if_neg e2] at z'
    have z1:cE j i=false:=by simpa using z
    have z2:cE k j=false:=by simpa using z'
    have y1:cE i j=true:=by have:=jF i j;rw [z1,Bool.or_false] at this;exact this
    have y2:cE j k=true:=by have:=jF j k;rw [z2,Bool.or_false] at this;exact this
    have z3:cE k i=false:=by
     cases q3:cE k i with
     | false=>rfl
     | true=>rw [lX q3 y1] at z2;cases z2
    have e3:¬i=k:=fun w=>by subst w;rw [leStr_refl] at z3;cases z3
    rw [if_neg e3,z3];rfl
def ltT:PyData→PyData→Bool
 | .tuple a,.tuple b=>ltR a b
 | _,_=>false
def bG (g:List Bool):PyData→Bool
 | .tuple a=>eW g a
 | _=>false
theorem fB {g:List Bool} {d:PyData} (h:bG g d=true):∃ a,d=.tuple a∧eW g a=true:=by
 cases d<;>first | exact ⟨_,rfl,h⟩ | cases h
section
variable {g:List Bool} {a b c:PyData}
theorem ltT_irr (h:bG g a=true):ltT a a=false:=by obtain ⟨x,rfl,h⟩:=fB h;exact ltR_irr g x h
theorem ltT_tri (h:bG g a=true) (h':bG g b=true):ltT a b=true∨a=b∨ltT b a=true:=by
 obtain ⟨x,rfl,h⟩:=fB h
 obtain ⟨y,rfl,h'⟩:=fB h'
 exact (ltR_tri g x y h h').imp id (Or.imp (fun e=>by rw [e]) id)
theorem ltT_tr (h:bG g a=true) (h':bG g b=true) (h'':bG g c=true) (z:ltT a b=true) (z':ltT b c=true):ltT a c=true:=by
 obtain ⟨x,rfl,h⟩:=fB h
 obtain ⟨y,rfl,h'⟩:=fB h'
 obtain ⟨u,rfl,h''⟩:=fB h''
 exact ltR_tr g x y u h h' h'' z z'
theorem ltT_le (h:bG g a=true) (h':bG g b=true) (h'':bG g c=true) (z:ltT b a=false) (z':ltT c b=false):ltT c a=false:=by
 cases e:ltT c a with
 | false=>rfl
 | true=>
  rcases ltT_tri h h' with q | q | q
  ·rw [ltT_tr h'' h h' e q] at z';cases z'
  ·subst q;rw [e] at z';cases z'
  ·rw [q] at z;cases z
end
def insT (x:PyData):List PyData→List PyData
 | []=>[x]
 | y::l=>if ltT y x then y::insT x l else x::y::l
def jW (l:List PyData):List PyData:=l.foldr insT []
theorem insT_perm (x:PyData):∀ l:List PyData,(insT x l).Perm (x::l)
 | []=>.refl _
 | y::l=>by
  unfold insT
  split
  ·exact ((insT_perm x l).cons y).trans (.swap x y l)
  ·exact .refl _
theorem srtR_perm:∀ l:List PyData,(jW l).Perm l
 | []=>.refl _
 | x::l=>(insT_perm x _).trans ((srtR_perm l).cons x)
abbrev SrtD (l:List PyData):Prop:=l.Pairwise fun a b=>ltT b a=false
theorem insT_sorted {g:List Bool} {x:PyData} (hx:bG g x=true):∀ l:List PyData,(∀ d∈l,bG g d=true)→SrtD l→SrtD (insT x l)
 | [],_,_=>by simp [insT]
 | y::l,h,hp=>by
  have hp':=List.pairwise_cons.mp hp
  have hy:=h y (by simp)
  unfold insT
  by_cases e:ltT y x=true
  ·rw [if_pos e,SrtD,List.pairwise_cons]
   refine ⟨fun z hz=>?_,insT_sorted hx l (fun d hd=>h d (List.mem_cons_of_mem _ hd)) hp'.2⟩
   rcases List.mem_cons.mp ((insT_perm x l).mem_iff.mp hz) with rfl | hz
   ·cases q:ltT z y with
    | false=>rfl
    | true=>have:=ltT_tr hx hy hx q e;rw [ltT_irr hx] at this;cases this
   ·exact hp'.1 z hz
  ·rw [if_neg e,SrtD,List.pairwise_cons]
   have e':ltT y x=false:=by simpa using e
   refine ⟨fun z hz=>?_,hp⟩
   rcases List.mem_cons.mp hz with rfl | hz
   ·exact e'
   ·exact ltT_le hx hy (h z (List.mem_cons_of_mem _ hz)) e' (hp'.1 z hz)
theorem lL {g:List Bool}:∀ l:List PyData,(∀ d∈l,bG g d=true)→SrtD (jW l)
 | [],_=>.nil
 | x::l,h=>insT_sorted (h x (by simp)) _ (fun d hd=>h d (List.mem_cons_of_mem _ ((srtR_perm l).mem_iff.mp hd))) (lL l fun d hd=>h d (List.mem_cons_of_mem _ hd))
theorem srt_same {g:List Bool}:∀ (l m:List PyData),l.Perm m→(∀ d∈l,bG g d=true)→SrtD l→SrtD m→l=m
 | [],m,hp,_,_,_=>by rw [List.nil_perm.mp hp]
 | x::l,[],hp,_,_,_=>by have:=hp.length_eq;simp at this
 | x::l,y::m,hp,h,h1,h2=>by
  have q1:=List.pairwise_cons.mp h1
  have q2:=List.pairwise_cons.mp h2
  have hy:y∈x::l:=hp.mem_iff.mpr (by simp)
  have hx:x∈y::m:=hp.mem_iff.mp (by simp)
  have e:x=y:=by
   rcases List.mem_cons.mp hy with z | z
   ·exact z.symm
   ·rcases List.mem_cons.mp hx with w | w
    ·exact w
    ·rcases ltT_tri (h x (by simp)) (h y hy) with u | u | u
     ·rw [q2.1 x w] at u;cases u
     ·exact u
     ·rw [q1.1 y z] at u;cases u
  subst e
  rw [srt_same l m (List.Perm.cons_inv hp) (fun d hd=>h d (List.mem_cons_of_mem _ hd)) q1.2 q2.2]
theorem srtR_eq {g:List Bool} {l m:List PyData} (hp:l.Perm m) (h:∀ d∈m,bG g d=true) (hs:SrtD l):l=jW m:=
 srt_same (g:=g) l (jW m) (hp.trans (srtR_perm m).symm) (fun d hd=>h d (hp.mem_iff.mp hd)) hs (lL m h)
def rk (ds:List PyData) (i:Nat):Int:=((ds.filter fun x=>ltT x (ds.getD i .none)).length:Nat)
theorem filt_le {α:Type} {p q:α→Bool}:∀ l:List α,(∀ x∈l,p x=true→q x=true)→(l.filter p).length≤(l.filter q).length
 | [],_=>by simp
 | x::l,h=>by
  have ih:=filt_le l fun y hy=>h y (List.mem_cons_of_mem _ hy)
  cases e:p x with
  | false=>
   rw [List.filter_cons_of_neg (by simp [e])]
   cases e2:q x with
   | false=>rw [List.filter_cons_of_neg (by simp [e2])];exact ih
   | true=>rw [List.filter_cons_of_pos e2,List.length_cons];omega
  | true=>rw [List.filter_cons_of_pos e,List.filter_cons_of_pos (h x (by simp) e),List.length_cons,List.length_cons];omega
theorem filt_lt {α:Type} {p q:α→Bool}:∀ l:List α,(∀ x∈l,p x=true→q x=true)→(∃ x∈l,p x=false∧q x=true)→(l.filter p).length<(l.filter q).length
 | [],_,⟨x,hx,_⟩=>by cases hx
 | x::l,h,⟨y,hy,h1,h2⟩=>by
  have ih:=filt_le l fun y hy=>h y (List.mem_cons_of_mem _ hy)
  rcases List.mem_cons.mp hy with rfl | hy
  ·rw [List.filter_cons_of_neg (by simp [h1]),List.filter_cons_of_pos h2,List.length_cons];omega
  ·have ih2:=filt_lt l (fun y hy=>h y (List.mem_cons_of_mem _ hy)) ⟨y,hy,h1,h2⟩
   cases e:p x with
   | false=>
    rw [List.filter_cons_of_neg (by simp [e])]
    cases e2:q x with
    | false=>rw [List.filter_cons_of_neg (by simp [e2])];exact ih2
    | true=>rw [List.filter_cons_of_pos e2,List.length_cons];omega
   | true=>rw [List.filter_cons_of_pos e,List.filter_cons_of_pos (h x (by simp) e),List.length_cons,List.length_cons];omega
theorem rk_lt {g:List Bool} {ds:List PyData} (h:∀ d∈ds,bG g d=true) {i j:Nat} (hi:i<ds.length) (hj:j<ds.length):ltT (ds.getD i .none) (ds.getD j .none)=ST.ltr (rk ds) i j:=by
 have mi:ds.getD i .none∈ds:=by rw [List.getD_eq_getElem?_getD,List.getElem?_eq_getElem hi];exact List.getElem_mem hi
 have mj:ds.getD j .none∈ds:=by rw [List.getD_eq_getElem?_getD,List.getElem?_eq_getElem hj];exact List.getElem_mem hj
 unfold ST.ltr rk
 generalize ds.getD i PyData.none=a at *
 generalize ds.getD j PyData.none=b at *
 have ha:=h a mi
 have hb:=h b mj
 cases e:ltT a b with
 | true=>
  refine (decide_eq_true ?_).symm
  have:=filt_lt (p:=fun x=>ltT x a) (q:=fun x=>ltT x b) ds (fun x hx z=>ltT_tr (h x hx) ha hb z e) ⟨a,mi,ltT_irr ha,e⟩
  omega
 | false=>
  refine (decide_eq_false ?_).symm
  have:=filt_le (p:=fun x=>ltT x b) (q:=fun x=>ltT x a) ds (fun x hx z=>by
   rcases ltT_tri ha hb with q | q | q
   ·rw [e] at q;cases q
   ·subst q;exact z
   ·exact ltT_tr (h x hx) hb ha z q)
  omega
theorem kQ {g:List Bool} {ds:List PyData} (h:∀ d∈ds,bG g d=true) {p:Array Nat} (P:ST.Pm ds.length p) (U:ST.Up (rk ds) p ds.length):(p.toList.map fun i=>ds.getD i .none)=jW ds:=by
 have hl:p.toList.length=ds.length:=by rw [Array.length_toList];exact P.size
 have hr:(List.range ds.length).map (fun i=>ds.getD i .none)=ds:=by
  refine List.ext_getElem (by simp) fun i h1 h2=>?_
  simp [List.getD_eq_getElem?_getD,h2]
 have hp:(p.toList.map fun i=>ds.getD i .none).Perm ds:=by
  have:=(Array.perm_iff_toList_perm.mp P.perm).map fun i=>ds.getD i PyData.none
  simp only [List.toList_toArray] at this
  rw [hr] at this
  exact this
 refine srtR_eq hp h ?_
 unfold SrtD
 rw [List.pairwise_map,List.pairwise_iff_getElem]
 intro i j hi hj hij
 have hi':i<p.size:=by simpa using hi
 have hj':j<p.size:=by simpa using hj
 have u:=U i j (Nat.le_of_lt hij) (by rw [P.size] at hj';exact hj')
 unfold ST.vl at u
 have ei:p.toList[i]=p.getD i 0:=by simp [Array.getD,hi']
 have ej:p.toList[j]=p.getD j 0:=by simp [Array.getD,hj']
 rw [ei,ej]
 by_cases hn:0<ds.length
 ·rw [rk_lt h (P.lt hn j) (P.lt hn i)]
  exact decide_eq_false (by omega)
 ·rw [P.size] at hi';omega
end L2.L3
namespace L2.L3
open PySem PySem.W PyProof.Rows PySem.Calls
section
variable {prog:Program} {w:World} {A:Around} {E:Value→Shared→Prop} {s:Shared}
theorem one_int {Q:Bool→Shared→Prop} (b:Bool) (m n:Int) (t u:Tok) (h:Q (decide (m<n)) s):wpAny (model prog w) A (oneLt' b (.int m t) (.int n u)) Q E s:=by
 cases b with
 | true=>exact oneLt_int h
 | false=>exact kat_one _ _ (lt_int h)
theorem one_str {Q:Bool→Shared→Prop} (b:Bool) (m n:Str) (t u:Tok) (h:Q (decide (m.cps.toList<n.cps.toList)) s):wpAny (model prog w) A (oneLt' b (.str m t) (.str n u)) Q E s:=by
 cases b with
 | true=>exact oneLt_str h
 | false=>exact kat_one _ _ (lt_str h)
theorem cells_lt {Q:Bool→Shared→Prop}:∀ (g:List Bool) (xs ys:List Value) (ds es:List PyData) (as bs:List Addr) (i:Nat),ReadsAll s.heap xs ds as→ReadsAll s.heap ys es bs→eW g ds=true→eW g es=true→Q (ltR ds es) s →
  KatLex prog w A true false Q (xs.zip ys) i s
 | [],xs,ys,ds,es,as,bs,i,r,r',h,h',q=>by
  have e1:=gX h
  have e2:=gX h'
  subst e1;subst e2
  cases r;cases r'
  exact kat_nil q
 | true::g,xs,ys,ds,es,as,bs,i,r,r',h,h',q=>by
  obtain ⟨m,r1,rfl,h⟩:=sig_int h
  obtain ⟨n,r2,rfl,h'⟩:=sig_int h'
  cases r with | cons v rr=>
  cases r' with | cons v' rr'=>
  cases v;cases v'
  refine kat_cons (SeqAt.EqAt.int_int _ _ _ _ _ _ _ _ ?_)
  by_cases e:m=n
  ·subst e
   rw [beq_self_eq_true]
   refine kat_yes (cells_lt g _ _ _ _ _ _ _ rr rr' h h' ?_)
   simpa [ltR,eqC] using q
  ·rw [beq_eq_false_iff_ne.mpr e]
   refine kat_no (one_int _ _ _ _ _ ?_)
   simpa [ltR,eqC,e,ltC] using q
 | false::g,xs,ys,ds,es,as,bs,i,r,r',h,h',q=>by
  obtain ⟨m,r1,rfl,h⟩:=sig_str h
  obtain ⟨n,r2,rfl,h'⟩:=sig_str h'
  cases r with | cons v rr=>
  cases r' with | cons v' rr'=>
  cases v;cases v'
  refine kat_cons (SeqAt.EqAt.str_str _ _ _ _ _ _ _ _ ?_)
  by_cases e:m=n
  ·subst e
   rw [beq_self_eq_true]
   refine kat_yes (cells_lt g _ _ _ _ _ _ _ rr rr' h h' ?_)
   simpa [ltR,eqC] using q
  ·rw [beq_eq_false_iff_ne.mpr e]
   refine kat_no (one_str _ _ _ _ _ ?_)
   have:ltR (.str m::r1) (.str n::r2)=decide (m.cps.toList<n.cps.toList):=by
    simp [ltR,eqC,e,ltC,cE]
   rw [←this];exact q
theorem row_lt {Q:Bool→Shared→Prop} {g:List Bool} {v u:Value} {d e:PyData} {as bs:List Addr} (r:Reads s.heap v d as) (r':Reads s.heap u e bs) (h:bG g d=true) (h':bG g e=true) (q:Q (ltT d e) s) :
  wpAny (model prog w) A (keyLt' (tuples' true) v u) Q E s:=by
 obtain ⟨x,rfl,h⟩:=fB h
 obtain ⟨y,rfl,h'⟩:=fB h'
 cases r with
 | tuple hg hc hd rr=>
  cases r' with
  | tuple hg' hc' hd' rr'=>
   refine kat_lt hg hd hg' hd' ?_
   have sz:∀ (g:List Bool) (x y:List PyData),eW g x=true→eW g y=true→x.length=y.length:=by
    intro g
    induction g with
    | nil=>intro x y h h';rw [gX h,gX h']
    | cons b g ih=>
     intro x y h h'
     cases b with
     | true=>obtain ⟨_,_,rfl,h⟩:=sig_int h;obtain ⟨_,_,rfl,h'⟩:=sig_int h';simp [ih _ _ h h']
     | false=>obtain ⟨_,_,rfl,h⟩:=sig_str h;obtain ⟨_,_,rfl,h'⟩:=sig_str h';simp [ih _ _ h h']
   have ln:∀ {vs:List Value} {ds:List PyData} {as:List Addr},ReadsAll s.heap vs ds as→vs.length=ds.length:=by
    intro vs
    induction vs with
    | nil=>intro ds as r;cases r;rfl
    | cons v vs ih=>intro ds as r;cases r with | cons _ r=>simp [ih r]
   have e1:=ln rr
   have e2:=ln rr'
   have e3:=sz _ _ _ h h'
   rw [decide_eq_false (by rw [←Array.length_toList,←Array.length_toList];omega)]
   exact cells_lt g _ _ _ _ _ _ 0 rr rr' h h' q
inductive Rows (h:Heap):List Value→List PyData→Prop
 | nil:Rows h [] []
 | cons {v:Value} {vs:List Value} {d:PyData} {ds:List PyData} {as:List Addr}:Reads h v d as→Rows h vs ds→Rows h (v::vs) (d::ds)
theorem Rows.len {h:Heap} {vs:List Value} {ds:List PyData} (r:Rows h vs ds):vs.length=ds.length:=by
 induction r with
 | nil=>rfl
 | cons _ _ ih=>simp [ih]
theorem Rows.keeps {h h':Heap} (k:∀ b o,h.get? b=some o→h'.get? b=some o) {vs:List Value} {ds:List PyData} (r:Rows h vs ds):Rows h' vs ds:=by
 induction r with
 | nil=>exact .nil
 | cons r _ ih=>exact .cons (Reads.keeps k r) ih
theorem Rows.at {h:Heap} {vs:List Value} {ds:List PyData} (r:Rows h vs ds):∀ i,i<vs.length→∃ as,Reads h (vs.getD i .none) (ds.getD i .none) as:=by
 induction r with
 | nil=>intro i hi;simp at hi
 | cons r _ ih=>
  intro i hi
  cases i with
  | zero=>exact ⟨_,r⟩
  | succ i=>exact ih i (by simpa using hi)
theorem Rows.firsts {h:Heap} {g:List Bool} {k:Bool} {vs:List Value} {ds:List PyData} (r:Rows h vs ds) (hs:∀ d∈ds,bG (k::g) d=true) :
  ∃ fs:List Value,KatTups h vs fs∧fs.length=vs.length∧∀ v∈fs,(k=true∧∃ i t,v=.int i t)∨(k=false∧∃ i t,v=.str i t):=by
 induction r with
 | nil=>exact ⟨[],.nil,rfl,fun v hv=>by cases hv⟩
 | @cons v vs d ds as r _ ih=>
  obtain ⟨fs,t,l,a⟩:=ih fun d hd=>hs d (List.mem_cons_of_mem _ hd)
  obtain ⟨x,rfl,hx⟩:=fB (hs d (by simp))
  cases r with
  | tuple hg hc hd rr=>
   cases k with
   | true=>
    obtain ⟨i,y,rfl,hy⟩:=sig_int hx
    generalize hv:Array.toList _=vl at rr
    cases rr with | cons z rr=>
    cases z with | int _ tk=>
    refine ⟨.int i tk::fs,KatTups.cons hg hc hd (by rw [←Array.getElem?_toList,hv];rfl) t,by simp [l],fun v hv=>?_⟩
    ·rcases List.mem_cons.mp hv with rfl | hv
     ·exact .inl ⟨rfl,_,_,rfl⟩
     ·exact a v hv
   | false=>
    obtain ⟨i,y,rfl,hy⟩:=sig_str hx
    generalize hv:Array.toList _=vl at rr
    cases rr with | cons z rr=>
    cases z with | str _ tk=>
    refine ⟨.str i tk::fs,KatTups.cons hg hc hd (by rw [←Array.getElem?_toList,hv];rfl) t,by simp [l],fun v hv=>?_⟩
    ·rcases List.mem_cons.mp hv with rfl | hv
     ·exact .inr ⟨rfl,_,_,rfl⟩
     ·exact a v hv
theorem rows_kind {g:List Bool} {k:Bool} {vs:List Value} {ds:List PyData} (r:Rows s.heap vs ds) (hs:∀ d∈ds,bG (k::g) d=true) (hne:0<vs.length) {Q:SortKind→Shared→Prop} (h:Q (tuples' true) s) :
  wpAny (model prog w) A (keyKind' vs.toArray) Q E s:=by
 obtain ⟨fs,t,l,a⟩:=r.firsts hs
 cases k with
 | true=>
  refine kat_kind (T:=.type "int") t (by omega) (fun v hv=>?_) (by decide) h
  rcases a v hv with ⟨_,i,t,rfl⟩ | ⟨z,_⟩
  ·exact Looks.of_pure rfl
  ·cases z
 | false=>
  refine kat_kind (T:=.type "str") t (by omega) (fun v hv=>?_) (by decide) h
  rcases a v hv with ⟨z,_⟩ | ⟨_,i,t,rfl⟩
  ·cases z
  ·exact Looks.of_pure rfl
theorem list_sort_rows {a:Addr} {vs:List Value} {ds:List PyData} {g:List Bool} {k:Bool} {n:Nat} {h0:Heap} {P:Fin→Shared→Prop} (ho:s.heap.get? a=some (seqObj "list" vs.toArray n))
  (rd:Rows h0 vs ds) (hk:∀ b o,h0.get? b=some o→b≠a∧s.heap.get? b=some o) (hs:∀ d∈ds,bG (k::g) d=true) (h64:vs.length<64)
  (h:∀ p:Array Nat,ST.Pm ds.length p→(p.toList.map fun i=>ds.getD i .none)=jW ds→P (.done (.ret .none)) { s with heap:=sortedHeap s.heap a vs (p.toList.map fun i=>vs.getD i .none).toArray }) :
  wpAny (model prog w) A (Builtin.«list.sort» ⟨[.ref a],[]⟩) P E s:=by
 have ln:=rd.len
 rw [list_sort_plain]
 have ha:a<s.heap.objs.size:=Heap.lt_size ho
 refine wpAny_bind (listItems_at ho rfl ?_)
 refine wpAny_bind (listUpdate_at ho rfl ?_)
 obtain ⟨e1,ho1⟩:∃ e1,(s.heap.update a (Obj.mapSeq fun _=>#[])).get? a=some (seqObj "list" #[] e1):=⟨_,get?_update_seq ho (fun _=>#[])⟩
 refine wpAny_bind (seqEpoch_at ho1 rfl ?_)
 refine wpAny_bind (wpAny_newTuple ?_)
 refine wpAny_bind (wpAny_newList ?_)
 refine wpAny_holding ?_
 have ho6:(((s.heap.update a (Obj.mapSeq fun _=>#[])).push (seqObj "tuple" vs.toArray 0)).push (seqObj "list" #[] 0)).get? a=some (seqObj "list" #[] e1):=by
  rw [Heap.get?_push_ne _ _ _ (by rw [size_push',Heap.size_update];exact Nat.ne_of_lt (Nat.lt_succ_of_lt ha)),Heap.get?_push_ne _ _ _ (by rw [Heap.size_update];exact Nat.ne_of_lt ha)]
  exact ho1
 have rd6:Rows (((s.heap.update a (Obj.mapSeq fun _=>#[])).push (seqObj "tuple" vs.toArray 0)).push (seqObj "list" #[] 0)) vs ds:=rd.keeps fun b o q=>by
  obtain ⟨h1,h2⟩:=hk b o q
  refine Heap.get?_push_of_some _ (Heap.get?_push_of_some _ ?_)
  rw [Heap.get?_update_ne _ _ _ _ h1];exact h2
 show wpAny (model prog w) A _ P E { s with heap:=((s.heap.update a (Obj.mapSeq fun _=>#[])).push (seqObj "tuple" vs.toArray 0)).push (seqObj "list" #[] 0) }
 dsimp only
 have hsz:vs.toArray.size=vs.length:=by simp
 by_cases h2:vs.toArray.size<2
 ·rw [if_pos h2,if_pos h2]
  refine wpAny_bind (wpAny_pure ?_)
  rw [StateT.run_pure]
  refine wpAny_bind (wpAny_pure ?_)
  dsimp only
  refine wpAny_bind (seqEpoch_at ho6 rfl ?_)
  refine wpAny_bind (listUpdate_at ho6 rfl ?_ (hsz2:=by rw [Array.size_map];show (pairsOf vs).size≤_;rw [pairsOf_size,sizeLine_eq];omega))
  simp only [bne_self_eq_false,Bool.false_eq_true,if_false]
  refine wpAny_pure ?_
  have hpm:ST.Pm ds.length (List.range vs.length).toArray:=by rw [ln];exact ⟨by simp,Array.Perm.refl _⟩
  have hp:=h (List.range vs.length).toArray hpm (kQ hs hpm (fun i j hij hj=>by rw [show i=j by omega];exact Int.le_refl _))
  have e:(List.range vs.length).map (fun i=>vs.getD i Value.none)=vs:=by
   refine List.ext_getElem (by simp) fun i h1 h2=>?_
   simp [List.getD_eq_getElem?_getD,h2]
  have e2:((vs.toArray.zip vs.toArray).map (·.2))=vs.toArray:=by
   apply Array.toList_inj.mp
   simp [Array.toList_zip,List.map_snd_zip]
  simp only [List.toList_toArray,e] at hp
  rw [←e2] at hp
  exact hp
 ·rw [if_neg h2,if_neg h2]
  refine wpAny_bind (rows_kind (s:={ s with heap:=_ }) rd6 hs (by omega) ?_)
  have hq:=ST.h_sort (r:=rk ds) (n:=vs.length) (by omega)
  refine wpAny_bind (wpAny_mono (kat_run (κ:=tuples' true) (ks:=vs) (vs:=vs) (s:={ s with heap:=_ }) (G:=fun p s'=>s'={ s with heap:=((s.heap.update a (Obj.mapSeq fun _=>#[])).push (seqObj "tuple" vs.toArray 0)).push (seqObj "list" #[] 0) }∧ST.Pm vs.length p∧ST.Up (rk ds) p vs.length)
   (Q:=fun st' s'=>∃ p:Array Nat,arrOf st'=p.map (kas_item (vs.toArray.zip vs.toArray))∧failedOf st'=none∧s'={ s with heap:=((s.heap.update a (Obj.mapSeq fun _=>#[])).push (seqObj "tuple" vs.toArray 0)).push (seqObj "list" #[] 0) }∧ST.Pm vs.length p∧ST.Up (rk ds) p vs.length)
   rfl (by omega) h64 (fun p' st' s' a1 a2 a3 a4=>⟨p',a2,a3,a4⟩)
   (ST.wp_run (n:=vs.length) (lt:=ST.ltr (rk ds)) (fun i j C hi hj hC=>?_) _ hq.1 ⟨rfl,hq.2⟩)) ?_ fun _ _ e=>e)
  ·obtain ⟨as,ri⟩:=rd6.at i hi
   obtain ⟨bs,rj⟩:=rd6.at j hj
   have mi:ds.getD i .none∈ds:=by rw [List.getD_eq_getElem?_getD,List.getElem?_eq_getElem (by omega)];exact List.getElem_mem (by omega)
   have mj:ds.getD j .none∈ds:=by rw [List.getD_eq_getElem?_getD,List.getElem?_eq_getElem (by omega)];exact List.getElem_mem (by omega)
   refine row_lt ri rj (hs _ mi) (hs _ mj) ?_
   rw [rk_lt hs (by omega) (by omega)]
   exact hC
  ·rintro ⟨⟨⟩,st'⟩ s' ⟨p,har,hf,rfl,hP,hU⟩
   dsimp only
   have hout:=kat_snds rfl har
   refine wpAny_bind (seqEpoch_at ho6 rfl ?_)
   rw [hout]
   refine wpAny_bind (listUpdate_at ho6 rfl ?_ (hsz2:=by rw [List.size_toArray,List.length_map,Array.length_toList,hP.size,sizeLine_eq];omega))
   rw [hf]
   simp only [bne_self_eq_false,Bool.false_eq_true,if_false]
   rw [ln] at hP hU
   exact wpAny_pure (h p hP (kQ hs hP hU))
theorem nF {l:Addr} {T:String} {o:Obj} {vs:List Value} {n:Nat} {Q:List Value→Shared→Prop} (hT:T = "list" ∨ T = "tuple") (ho:s.heap.get? l=some o) (hc:o.cls=.type T) (hd:o.data=.seq vs.toArray n) (few:vs.length≤sizeLine)
  (hQ:∀ h',(∀ b o,s.heap.get? b=some o→h'.get? b=some o)→s.heap.objs.size≤h'.objs.size→Q vs { s with heap:=h' }):wpAny (model prog w) A (collect (.ref l)) Q E s:=by
 unfold collect
 refine wpAny_bind (wpAny_runValue (codeAny_builtin F.entry_proto_collect ?_))
 rw [Around.under_plainId F.plain_proto_collect _]
 show wpAny _ A.in1 (newList []>>=fun l'=>again (.builtin "list.__iadd__" ⟨[l',.ref l],[]⟩)) _ _ s
 refine wpAny_bind (wpAny_newObj_type ?_)
 refine wpAny_pure ⟨plainId_quiet F.plain_list_iadd _,codeAny_builtin F.entry_list_iadd ?_⟩
 rw [Around.under_plainId F.plain_list_iadd _]
 have hS1:(s.heap.push { cls:=.type "list", data:=.seq ([]:List Value).toArray }).get? s.heap.objs.size=some { cls:=.type "list", data:=.seq ([]:List Value).toArray }:=Heap.get?_push_size _ rfl
 have ty1:Shared.TypeIs { s with heap:=s.heap.push { cls:=.type "list", data:=.seq ([]:List Value).toArray } } (.ref l) T:=⟨o,Heap.get?_push_of_some _ ho,hc⟩
 show wpAny _ A.in1 (Builtin.List.listExtendWith (.ref s.heap.objs.size) (.ref l) (.ref s.heap.objs.size)) _ _ _
 unfold Builtin.List.listExtendWith
 refine wpAny_bind (wpAny_typeOf ty1 ?_)
 rw [if_pos (by rcases hT with rfl | rfl<;>simp)]
 refine wpAny_bind (listItems_at (Heap.get?_push_of_some _ ho) hd ?_)
 refine wpAny_bind (listItems_at hS1 rfl ?_)
 rw [if_neg (by simp)]
 refine wpAny_bind (listUpdate_at hS1 rfl ?_ (Nat.zero_le _) (by rw [Array.size_append,List.size_toArray,List.size_toArray,List.length_nil];omega))
 have hS₂:=Heap.get?_update_self (Obj.mapSeq (·++vs.toArray)) hS1 rfl
 refine wpAny_pure ?_
 show wpAny _ A (load s.heap.objs.size>>=_) _ _ _
 refine wpAny_bind (wpAny_load hS₂ (wpAny_pure ?_))
 have e:(([]:List Value).toArray++vs.toArray).toList=vs:=by simp
 show Q (([]:List Value).toArray++vs.toArray).toList _
 rw [e]
 refine hQ _ (fun b o' hb=>?_) (by rw [Heap.size_update,size_push'];omega)
 rw [Heap.get?_update_ne _ _ _ _ (Nat.ne_of_lt (Heap.lt_size hb))]
 exact Heap.get?_push_of_some _ hb
theorem sorted_seq {l:Addr} {T:String} {o:Obj} {vs:List Value} {n:Nat} {Q:Value→Shared→Prop} {R:Array Value→Prop} (hT:T = "list" ∨ T = "tuple") (ho:s.heap.get? l=some o) (hc:o.cls=.type T) (hd:o.data=.seq vs.toArray n) (h64:vs.length<64)
  (sort:∀ (A':Around) (E':Value→Shared→Prop) (s':Shared) (a:Addr) (k:Nat) (P:Fin→Shared→Prop),s'.heap.get? a=some (seqObj "list" vs.toArray k)→(∀ b o,s.heap.get? b=some o→b≠a∧s'.heap.get? b=some o) →
   (∀ out,R out→P (.done (.ret .none)) { s' with heap:=sortedHeap s'.heap a vs out })→wpAny (model prog w) A' (Builtin.«list.sort» ⟨[.ref a],[]⟩) P E' s')
  (h:∀ (a:Addr) (h2:Heap) (ep:Nat) (out:Array Value),R out→(∀ b o,s.heap.get? b=some o→h2.get? b=some o)→s.heap.objs.size≤a→h2.get? a=some (seqObj "list" out ep)→Q (.ref a) { s with heap:=h2 }) :
  wpAny (model prog w) A (call (.builtin "sorted") [.ref l]) Q E s:=by
 refine Calls.call_function_entry kind_sorted plain_sorted entry_sorted (args_sorted1 _) ?_
 unfold Builtin.«sorted»
 refine wpAny_bind (m:=checkCount "sorted" 1 1 _) (wpAny_pure ?_)
 refine wpAny_bind (nF hT ho hc hd (by rw [sizeLine_eq];omega) fun h1 kp up=>?_)
 refine wpAny_bind (wpAny_newList ?_ (by rw [sizeLine_eq];omega))
 have hoL:(h1.push (seqObj "list" vs.toArray 0)).get? h1.objs.size=some (seqObj "list" vs.toArray 0):=Heap.get?_push_size _ rfl
 have keep:∀ b o,s.heap.get? b=some o→b≠h1.objs.size∧(h1.push (seqObj "list" vs.toArray 0)).get? b=some o:=fun b o q=>⟨Nat.ne_of_lt (Heap.lt_size (kp _ _ q)),Heap.get?_push_of_some _ (kp _ _ q)⟩
 show wpAny _ _ _ _ _ { s with heap:=h1.push (seqObj "list" vs.toArray 0) }
 refine wpAny_bind (wpAny_holding (wpAny_call_entry slot_list_sort ⟨_,hoL,rfl⟩ entry_list_sort (sort _ _ { s with heap:=h1.push (seqObj "list" vs.toArray 0) } _ 0 _ hoL keep fun out hR=>⟨_,rfl,?_⟩) (args_list_sort _)))
 obtain ⟨e1,ho1⟩:∃ e1,((h1.push (seqObj "list" vs.toArray 0)).update h1.objs.size (Obj.mapSeq fun _=>#[])).get? h1.objs.size=some (seqObj "list" #[] e1):=⟨_,get?_update_seq hoL (fun _=>#[])⟩
 have hz:h1.objs.size<((h1.push (seqObj "list" vs.toArray 0)).update h1.objs.size (Obj.mapSeq fun _=>#[])).objs.size:=Heap.lt_size ho1
 have ho6:=Heap.get?_push_of_some (seqObj "list" #[] 0) (Heap.get?_push_of_some (seqObj "tuple" vs.toArray 0) ho1)
 obtain ⟨e2,ho2⟩:∃ e2,(sortedHeap (h1.push (seqObj "list" vs.toArray 0)) h1.objs.size vs out).get? h1.objs.size=some (seqObj "list" out e2):=⟨_,get?_update_seq ho6 (fun _=>out)⟩
 refine wpAny_pure ⟨_,rfl,h _ _ e2 out hR (fun b o q=>?_) up ho2⟩
 obtain ⟨hb,hq⟩:=keep b o q
 unfold sortedHeap
 rw [Heap.get?_update_ne _ _ _ _ hb]
 refine Heap.get?_push_of_some _ (Heap.get?_push_of_some _ ?_)
 rw [Heap.get?_update_ne _ _ _ _ hb]
 exact hq
end
end L2.L3
namespace L2.L3
open PySem PySem.W PyProof.Rows
def sigOf:List PyData→Option (List Bool)
 | []=>some []
 | .int _::r=>(sigOf r).map (true::·)
 | .str _::r=>(sigOf r).map (false::·)
 | _=>none
def sigT:PyData→Option (List Bool)
 | .tuple a=>sigOf a
 | _=>none
def srtL (ds:List PyData):Option PyData:=match ds with
 | x::xs=>(match sigT x with
  | some (k::g)=>if (x::xs).all (bG (k::g))&&decide ((x::xs).length<64) then some (.list (jW (x::xs))) else none
  | _=>none)
 | _=>none
def srtX (ds:List PyData):Option PyData:=match srtD ds with
 | some d=>some d
 | none=>(match ds with
  | [.list xs]=>srtL xs
  | [.tuple xs]=>(match cR intD xs with
   | some ns=>if ns.length<64 then some (.list ((sortI ns).map .int)) else none
   | none=>srtL xs)
  | _=>none)
section
variable {X:Cx} {pins:List (Addr×Obj)} {σ:List (Option V)} {H:Hp} {s:Shared}
theorem rows_of (I:Inv X pins σ H s):∀ {xs:List V} {ds:List PyData} {us:List Value},RepAll X.K H xs ds→aV xs us→Rows s.heap us ds
 | _,_,_,.nil,.nil=>.nil
 | _,_,_,.cons r rr,.cons t tt=>by
  obtain ⟨as,ra⟩:=r.reads I t
  exact .cons ra (rows_of I rr tt)
theorem RepAll.at {K:PySem.W.Frag} {G:Hp}:∀ {vs:List V} {ds:List PyData},RepAll K G vs ds→∀ i,i<vs.length→Rep K G (vs.getD i .non) (ds.getD i .none)
 | _,_,.nil,i,h=>by simp at h
 | _,_,.cons r rr,0,_=>r
 | _,_,.cons r rr,i+1,h=>RepAll.at rr i (by simpa using h)
theorem RepAll.len {K:PySem.W.Frag} {G:Hp}:∀ {vs:List V} {ds:List PyData},RepAll K G vs ds→vs.length=ds.length
 | _,_,.nil=>rfl
 | _,_,.cons _ rr=>by simp [RepAll.len rr]
theorem RepAll.pick {K:PySem.W.Frag} {G:Hp} {vs:List V} {ds:List PyData} (r:RepAll K G vs ds):∀ p:List Nat,(∀ i∈p,i<vs.length)→RepAll K G (p.map fun i=>vs.getD i .non) (p.map fun i=>ds.getD i .none)
 | [],_=>.nil
 | i::p,h=>.cons (r.at i (h i (by simp))) (RepAll.pick r p fun j hj=>h j (List.mem_cons_of_mem _ hj))
theorem aV.at':∀ {vs:List V} {us:List Value},aV vs us→∀ i,i<vs.length→RelV (vs.getD i .non) (us.getD i .none)
 | _,_,.nil,i,h=>by simp at h
 | _,_,.cons r rr,0,_=>r
 | _,_,.cons r rr,i+1,h=>aV.at' rr i (by simpa using h)
theorem aV.pick {vs:List V} {us:List Value} (r:aV vs us):∀ p:List Nat,(∀ i∈p,i<vs.length)→aV (p.map fun i=>vs.getD i .non) (p.map fun i=>us.getD i .none)
 | [],_=>.nil
 | i::p,h=>.cons (aV.at' r i (h i (by simp))) (aV.pick r p fun j hj=>h j (List.mem_cons_of_mem _ hj))
theorem seq_parts (I:Inv X pins σ H s) {p:Addr} {vs:List V} (h:SqL X.K H p vs∨SqT X.K H p vs):∃ (its:List Value) (T:String) (o:Obj) (n:Nat),(T = "list" ∨ T = "tuple")∧s.heap.get? p=some o∧o.cls=.type T∧o.data=.seq its.toArray n∧aV vs its:=by
 rcases h with h | h
 ·obtain ⟨its,rv,pl,hz⟩:=I.list h
  obtain ⟨o,ho,hc,n,hd⟩:=pl.isList
  exact ⟨its, "list", o,n,.inl rfl,ho,hc,hd,rv⟩
 ·obtain ⟨its,rv,⟨o,ho,hc,n,hd⟩,hz⟩:=I.tuple h
  exact ⟨its, "tuple", o,n,.inr rfl,ho,hc,hd,rv⟩
theorem call_sortedR:eB X (.builtin "sorted") (fun xs H Q=>∃ (p:Addr) (vs:List V) (ds:List PyData) (k:Bool) (g:List Bool),xs=[.ref p]∧(SqL X.K H p vs∨SqT X.K H p vs)∧RepAll X.K H vs ds∧(∀ d∈ds,bG (k::g) d=true)∧ds.length<64 ∧
  ∀ (l:Addr) (ix:List Nat),H l=none→(∀ i∈ix,i<vs.length)→(ix.map fun i=>ds.getD i .none)=jW ds→Q (.ref l) (upd H l (.lst (ix.map fun i=>vs.getD i .non)))):=by
 intro pins s σ H xs us Q I r ⟨p,vs,ds,k,g,e,hq,r2,hs,h64,q⟩
 subst e
 obtain ⟨u,rfl,rx⟩:=vals1 r
 cases rx
 obtain ⟨its,T,o,n,hT,ho,hc,hd,rv⟩:=seq_parts I hq
 have l1:=r2.len
 have l2:=rv.length
 have rd:=rows_of I r2 rv
 refine sorted_seq (R:=fun out=>∃ ix:List Nat,(∀ i∈ix,i<vs.length)∧ix.length=ds.length∧(ix.map fun i=>ds.getD i PyData.none)=jW ds∧out=(ix.map fun i=>its.getD i Value.none).toArray) hT ho hc hd (by omega) (fun A' E' s' a k' P ha keep hP=>list_sort_rows ha rd keep hs (by omega) fun ix hI he=>hP _ ⟨ix.toList,fun i hi=>?_,by rw [Array.length_toList];exact hI.size,he,rfl⟩) (fun a h2 ep out ⟨ix,hr,hn,he,ho'⟩ kp hz g=>?_)
 ·have:=(Array.perm_iff_toList_perm.mp hI.perm).mem_iff.mp hi
  simp at this
  omega
 ·subst ho'
  have hf:H a=none:=I.hok.fresh hz
  refine ⟨.ref a,_,I.laid (t':=s.toks) kp hz ?_,rfl,q _ ix hf hr he⟩
  refine ⟨?_,ix.map fun i=>its.getD i Value.none,ep,aV.pick rv _ hr,?_⟩
  ·rw [List.length_map,hn]
   exact Nat.le_of_lt (eT (by omega))
  ·rw [g]
theorem call_sortedJ:eB X (.builtin "sorted") (fun xs H Q=>∃ (p:Addr) (ns:List Int),xs=[.ref p]∧SqT X.K H p (ns.map V.int)∧ns.length<64∧∀ l,H l=none→Q (.ref l) (upd H l (.lst ((sortI ns).map V.int)))):=by
 intro pins s σ H xs us Q I r ⟨p,ns,e,hq,h64,q⟩
 subst e
 obtain ⟨u,rfl,rx⟩:=vals1 r
 cases rx
 obtain ⟨its,T,o,n,hT,ho,hc,hd,rv⟩:=seq_parts I (.inr hq)
 have hi:=intsAre_of rv
 have hl:=hi.length
 refine sorted_seq (R:=fun out=>IntsAre out.toList (sortI ns)) hT ho hc hd (by omega) (fun A' E' s' a k' P ha keep hP=>list_sort_tree ha hi (by omega) fun out ns' h1 h2 h3=>?_) (fun a h2 ep out hR kp hz g=>?_)
 ·have e:=sortI_eq h2 h3
  subst e
  exact hP _ h1
 ·have hf:H a=none:=I.hok.fresh hz
  refine ⟨.ref a,_,I.laid (t':=s.toks) kp hz ?_,rfl,q _ hf⟩
  refine ⟨?_,out.toList,ep,jU hR,?_⟩
  ·rw [List.length_map,(sortI_perm ns).length_eq]
   exact Nat.le_of_lt (eT (by omega))
  ·rw [g]
end
section
variable {X:Cx}
theorem srtX_ok (ds:List PyData) (d:PyData) (h:srtX ds=some d):CallD X (.builtin "sorted") ds d:=by
 unfold srtX at h;split at h
 ·rename_i e
  cases (Option.some.inj h)
  exact srt_ok ds _ e
 ·have key:∀ (y:PyData) (xs:List PyData),seqD y=some xs→∀ d,srtL xs=some d→CallD X (.builtin "sorted") [y] d:=fun y xs hy d h=>by
   unfold srtL at h;split at h
   ·rename_i x xs
    split at h
    ·rename_i k g e
     split at h
     ·rename_i hc
      rw [Bool.and_eq_true] at hc
      cases (Option.some.inj h)
      have hs:∀ d∈x::xs,bG (k::g) d=true:=fun d hd=>List.all_eq_true.mp hc.1 d hd
      exact ⟨_,call_sortedR,fun vs G H Q s r q=>by
       obtain ⟨v,rfl,r0⟩:∃ v,vs=[v]∧Rep X.K G v y:=by
        cases r with
        | cons r rr=>cases rr;exact ⟨_,rfl,r⟩
       obtain ⟨p,us,rfl,hq,r⟩:=iZ s hy r0
       exact ⟨_,_,x::xs,k,g,rfl,hq,r.mono s,hs,of_decide_eq_true hc.2,fun l ix hn hi he=>q _ _ _ (.put s hn) (.list (.of aG) (by
        rw [←he]
        exact (r.pick ix hi).mono (Grow.put s hn).gg))⟩⟩
     ·cases h
    ·cases h
   ·cases h
  split at h
  ·exact key _ _ rfl d h
  ·rename_i xs
   split at h
   ·rename_i ns e
    split at h
    ·rename_i hl
     cases (Option.some.inj h)
     have:=cD (g:=.int) (fun d a q=>hV q) e
     subst this
     exact ⟨_,call_sortedJ,fun vs G H Q s r q=>by
      cases r with | cons r rr=>cases rr;cases r with | tuple hq r=>
       have e:=r.ints
       subst e
       exact ⟨_,ns,rfl,nM s hq,hl,fun l hn=>q _ _ _ (.put s hn) (.list (.of aG) (dW _))⟩⟩
    ·cases h
   ·exact key _ _ rfl d h
  ·cases h
end
theorem srtL_rows {g:List Bool} {k:Bool} {x:PyData} {xs:List PyData} (hs:∀ d∈x::xs,bG (k::g) d=true) (h64:(x::xs).length<64):srtL (x::xs)=some (.list (jW (x::xs))):=by
 have so:∀ (g:List Bool) (a:List PyData),eW g a=true→sigOf a=some g:=by
  intro g
  induction g with
  | nil=>intro a h;rw [gX h];rfl
  | cons b g ih=>
   intro a h
   cases b with
   | true=>obtain ⟨i,r,rfl,h⟩:=sig_int h;simp [sigOf,ih r h]
   | false=>obtain ⟨i,r,rfl,h⟩:=sig_str h;simp [sigOf,ih r h]
 obtain ⟨a,e,ha⟩:=fB (hs x (by simp))
 have e2:sigT x=some (k::g):=by subst e;exact so _ _ ha
 have e3:((x::xs).all (bG (k::g))&&decide ((x::xs).length<64))=true:=by
  rw [Bool.and_eq_true]
  exact ⟨List.all_eq_true.mpr hs,decide_eq_true h64⟩
 show (match sigT x with | some (k::g)=>if (x::xs).all (bG (k::g))&&decide ((x::xs).length<64) then some (PyData.list (jW (x::xs))) else none | _=>none)=_
 rw [e2]
 exact if_pos e3
theorem allI_rows {g:List Bool} {k:Bool} {x:PyData} {xs:List PyData} (hs:∀ d∈x::xs,bG (k::g) d=true):cR intD (x::xs)=none:=by
 obtain ⟨a,e,ha⟩:=fB (hs x (by simp))
 subst e;rfl
theorem srtX_rows {g:List Bool} {k:Bool} {ds:List PyData} (hs:∀ d∈ds,bG (k::g) d=true) (h64:ds.length<64):srtX [.list ds]=some (.list (jW ds)):=by
 cases ds with
 | nil=>simp [srtX,srtD,cR,sortI,jW]
 | cons x xs=>
  have e1:srtD [.list (x::xs)]=none:=by
   show (match cR intD (x::xs) with | some ns=>_ | none=>none)=_
   rw [allI_rows hs]
  show (match srtD [.list (x::xs)] with | some d=>some d | none=>srtL (x::xs))=_
  rw [e1]
  exact srtL_rows hs h64
end L2.L3
namespace L2.L3
open PySem
theorem bnd_ok {α β:Type} {m:Mm α} {a:α} {k:α→Mm β} (h:m=some (.ok a)):bnd m k=k a:=by rw [h];rfl
theorem bns_ok {α:Type} {m:Mm α} {ρ:List Ent} {a:α} {k:α→Option So} (h:m=some (.ok a)):bns m ρ k=k a:=by rw [h];rfl
theorem loopC_map {α:Type} {t:Tg} {ρb:List Ent} {ft:TF} {fe:EF} (φ:α→PyData) (ρx:α→List Ent) (c:α→Bool) (v:α→PyData):∀ (xs:List α),(∀ x∈xs,tgD t ρb (φ x)=some (ρx x))→(∀ x∈xs,ft (ρx x)=some (.ok (c x)))→(∀ x∈xs,c x=true→fe (ρx x)=some (.ok (v x))) →
  nA t ρb ft fe (xs.map φ)=some ((xs.filter c).map v)
 | [],_,_,_=>rfl
 | x::xs,h1,h2,h3=>by
  have ih:=loopC_map φ ρx c v xs (fun y hy=>h1 y (List.mem_cons_of_mem _ hy)) (fun y hy=>h2 y (List.mem_cons_of_mem _ hy)) (fun y hy=>h3 y (List.mem_cons_of_mem _ hy))
  have e1:=h1 x List.mem_cons_self
  have e2:=h2 x List.mem_cons_self
  rw [List.map_cons,nA,e1]
  dsimp only
  rw [e2]
  cases hc:c x with
  | true=>
   have e3:=h3 x List.mem_cons_self hc
   dsimp only
   rw [e3]
   dsimp only
   rw [ih,List.filter_cons_of_pos hc]
   rfl
  | false=>
   dsimp only
   rw [ih,List.filter_cons_of_neg (by rw [hc];decide)]
theorem cN {α:Type} {t:Tg} {cap:List (Option Nat)} {fi:AF} {ft:TF} {fe:EF} {ρ:List Ent} (φ:α→PyData) (ρx:α→List Ent) (c:α→Bool) (v:α→PyData) (xs:List α) (hi:fi ρ=some (.ok (xs.map φ))) (hz:xs.length≤100000)
  (h1:∀ x∈xs,tgD t (bL cap ρ) (φ x)=some (ρx x)) (h2:∀ x∈xs,ft (ρx x)=some (.ok (c x))) (h3:∀ x∈xs,c x=true→fe (ρx x)=some (.ok (v x))) :
  cK t cap fi ft fe ρ=some (.ok (.list ((xs.filter c).map v))):=by
 unfold cK
 rw [bnd_ok hi,List.length_map,if_pos (by unfold cZ;exact decide_eq_true hz),loopC_map φ ρx c v xs h1 h2 h3]
 rfl
theorem filter_all {α:Type} {c:α→Bool} {xs:List α} (h:∀ x∈xs,c x=true):xs.filter c=xs:=List.filter_eq_self.mpr h
theorem cO {α:Type} {t:Tg} {cap:List (Option Nat)} {fi:AF} {fe:EF} {ρ:List Ent} (φ:α→PyData) (ρx:α→List Ent) (v:α→PyData) (xs:List α) (hi:fi ρ=some (.ok (xs.map φ))) (hz:xs.length≤100000)
  (h1:∀ x∈xs,tgD t (bL cap ρ) (φ x)=some (ρx x)) (h3:∀ x∈xs,fe (ρx x)=some (.ok (v x))) :
  cK t cap fi ttT fe ρ=some (.ok (.list (xs.map v))):=by
 rw [cN φ ρx (fun _=>true) v xs hi hz h1 (fun _ _=>rfl) (fun x hx _=>h3 x hx),filter_all (fun _ _=>rfl)]
section
variable {α β:Type} {ρ:List Ent} {fa fb fc fd:EF} {ft fu:TF} {aa:AF} {d e:PyData} {i j k:Int}
@[simp] theorem fI (a:α) (k:α→Mm β):bnd (some (.ok a)) k=k a:=rfl
@[simp] theorem bnd_x (c:Str) (k:α→Mm β):bnd (some (.ex c)) k=some (.ex c):=rfl
@[simp] theorem iT (a:α) (k:α→Option So):bns (some (.ok a)) ρ k=k a:=rfl
@[simp] theorem bns_x (c:Str) (k:α→Option So):bns (some (.ex c)) ρ k=some (.xc c ρ):=rfl
@[simp] theorem lft_s (a:α):lft (some a)=some (.ok a):=rfl
@[simp] theorem cst_e:cst d ρ=some (.ok d):=rfl
@[simp] theorem var_0 (d:PyData) (r:List Ent):var 0 (.val d::r)=some (.ok d):=rfl
@[simp] theorem var_s (n:Nat) (x:Ent) (r:List Ent):var (n+1) (x::r)=var n r:=rfl
@[simp] theorem op2_e (g:PyData→PyData→Option PyData):op2 g fa fb ρ=bnd (fa ρ) fun x=>bnd (fb ρ) fun y=>lft (g x y):=rfl
@[simp] theorem op1_e (g:PyData→Option PyData):op1 g fa ρ=bnd (fa ρ) fun x=>lft (g x):=rfl
@[simp] theorem aNil_e:aJ ρ=some (.ok []):=rfl
@[simp] theorem cH:aC fa aa ρ=bnd (fa ρ) fun x=>bnd (aa ρ) fun xs=>some (.ok (x::xs)):=rfl
@[simp] theorem tupE_e:tupE aa ρ=bnd (aa ρ) fun xs=>lft (mkTup xs):=rfl
@[simp] theorem lstE_e:lstE aa ρ=bnd (aa ρ) fun xs=>lft (mkLst xs):=rfl
@[simp] theorem szOk_e (n:Nat):cZ n=decide (n≤100000):=rfl
@[simp] theorem mkTup_e (ds:List PyData):mkTup ds=if ds.length≤100000 then some (.tuple ds) else none:=by unfold mkTup cZ;by_cases h:ds.length≤100000<;>simp [h]
@[simp] theorem mkLst_e (ds:List PyData):mkLst ds=if ds.length≤100000 then some (.list ds) else none:=by unfold mkLst cZ;by_cases h:ds.length≤100000<;>simp [h]
@[simp] theorem cmpE_e (g:PyData→PyData→Option Bool):cmpE g fa fb ρ=bnd (fa ρ) fun x=>bnd (fb ρ) fun y=>lft ((g x y).map .bool):=rfl
@[simp] theorem cmpT_e (g:PyData→PyData→Option Bool):fL g fa fb ρ=bnd (fa ρ) fun x=>bnd (fb ρ) fun y=>lft (g x y):=rfl
theorem ite_and (t u:Bool):(if t=true then (some (Re.ok u):Mm Bool) else some (.ok false))=some (.ok (t&&u)):=by cases t<;>rfl
@[simp] theorem chnE_e (g g':PyData→PyData→Option Bool):chnE g g' fa fb fc ρ=bnd (fa ρ) fun x=>bnd (fb ρ) fun y=>bnd (lft (g x y)) fun t=>if t then bnd (fc ρ) fun z=>lft ((g' y z).map .bool) else some (.ok (.bool false)):=rfl
@[simp] theorem chnT_e (g g':PyData→PyData→Option Bool):chnT g g' fa fb fc ρ=bnd (fa ρ) fun x=>bnd (fb ρ) fun y=>bnd (lft (g x y)) fun t=>if t then bnd (fc ρ) fun z=>lft (g' y z) else some (.ok false):=rfl
@[simp] theorem truT_e:truT fa ρ=bnd (fa ρ) fun x=>lft (truD x):=rfl
@[simp] theorem truD_b (b:Bool):truD (.bool b)=some b:=rfl
@[simp] theorem truD_l (ds:List PyData):truD (.list ds)=some (!ds.isEmpty):=rfl
@[simp] theorem truD_t (ds:List PyData):truD (.tuple ds)=some (!ds.isEmpty):=rfl
@[simp] theorem truD_i (i:Int):truD (.int i)=some (i != 0):=rfl
@[simp] theorem truD_n:truD .none=some false:=rfl
@[simp] theorem notT_e:notT ft ρ=bnd (ft ρ) fun t=>some (.ok (!t)):=rfl
@[simp] theorem notE_e:notE fa ρ=bnd (fa ρ) fun x=>lft ((lG x).map fun t=>.bool (!t)):=rfl
@[simp] theorem boolD_b (b:Bool):lG (.bool b)=some b:=rfl
@[simp] theorem intD_i (i:Int):intD (.int i)=some i:=rfl
@[simp] theorem strD_s (i:Str):strD (.str i)=some i:=rfl
@[simp] theorem andT_e:andT ft fu ρ=bnd (ft ρ) fun t=>if t then fu ρ else some (.ok false):=rfl
@[simp] theorem orT_e:orT ft fu ρ=bnd (ft ρ) fun t=>if t then some (.ok true) else fu ρ:=rfl
@[simp] theorem andE_e:andE fa fb ρ=bnd (fa ρ) fun x=>bnd (lft (lG x)) fun t=>if t then fb ρ else some (.ok (.bool false)):=rfl
@[simp] theorem orE_e:orE fa fb ρ=bnd (fa ρ) fun x=>bnd (lft (lG x)) fun t=>if t then some (.ok (.bool true)) else fb ρ:=rfl
@[simp] theorem ifE_e:ifE ft fa fb ρ=bnd (ft ρ) fun t=>if t then fa ρ else fb ρ:=rfl
@[simp] theorem bltE_e (g:List PyData→Option PyData):dP g aa ρ=bnd (aa ρ) fun xs=>lft (g xs):=rfl
@[simp] theorem callE_e (F:List PyData→Mm PyData):aS F aa ρ=bnd (aa ρ) fun ds=>(match F ds with | some (.ok d)=>some (.ok d) | _=>none):=rfl
@[simp] theorem add_ii:eG (.int i) (.int j)=some (.int (i+j)):=rfl
@[simp] theorem sub_ii:subD (.int i) (.int j)=some (.int (i - j)):=rfl
@[simp] theorem neg_i:negD (.int i)=some (.int (-i)):=rfl
@[simp] theorem add_tt (a b:List PyData):eG (.tuple a) (.tuple b)=if a.length+b.length≤100000 then some (.tuple (a++b)) else none:=by
 show (if cZ (a.length+b.length)=true then _ else _)=_
 by_cases h:a.length+b.length≤100000<;>simp [h]
@[simp] theorem add_ll (a b:List PyData):eG (.list a) (.list b)=if a.length+b.length≤100000 then some (.list (a++b)) else none:=by
 show (if cZ (a.length+b.length)=true then _ else _)=_
 by_cases h:a.length+b.length≤100000<;>simp [h]
@[simp] theorem lt_ii:ltD (.int i) (.int j)=some (decide (i<j)):=rfl
@[simp] theorem le_ii:leD (.int i) (.int j)=some (decide (i≤j)):=rfl
@[simp] theorem gt_ii:gtD (.int i) (.int j)=some (decide (j<i)):=rfl
@[simp] theorem ge_ii:geD (.int i) (.int j)=some (decide (j≤i)):=rfl
@[simp] theorem eq_ii:eqD (.int i) (.int j)=some (decide (i=j)):=rfl
@[simp] theorem ne_ii:neD (.int i) (.int j)=some (!decide (i=j)):=rfl
@[simp] theorem eq_ss (a b:Str):eqD (.str a) (.str b)=some (decide (a=b)):=rfl
@[simp] theorem ne_ss (a b:Str):neD (.str a) (.str b)=some (!decide (a=b)):=rfl
@[simp] theorem eq_bb (a b:Bool):eqD (.bool a) (.bool b)=some (decide (a=b)):=rfl
@[simp] theorem ne_bb (a b:Bool):neD (.bool a) (.bool b)=some (!decide (a=b)):=rfl
@[simp] theorem mod_ii:modD (.int i) (.int j)=if 0<j then some (.int (i % j)) else none:=rfl
@[simp] theorem fdv_ii:fdvD (.int i) (.int j)=if 0<j∧j<1073741824 then some (.int (i / j)) else none:=rfl
theorem mul_iiR (h1:-(2 ^ 64)<j) (h2:j<2 ^ 64):kT (.int i) (.int j)=some (.int (i*j)):=by
 show (if (jM i || jM j)=true then _ else _)=_
 rw [if_pos];simp [jM];right;omega
theorem mul_iiL (h1:-(2 ^ 64)<i) (h2:i<2 ^ 64):kT (.int i) (.int j)=some (.int (i*j)):=by
 show (if (jM i || jM j)=true then _ else _)=_
 rw [if_pos];simp [jM];left;omega
@[simp] theorem len_l (xs:List PyData):lenD [.list xs]=some (.int xs.length):=rfl
@[simp] theorem len_t (xs:List PyData):lenD [.tuple xs]=some (.int xs.length):=rfl
@[simp] theorem max_ii:maxD [.int i,.int j]=some (.int (max i j)):=rfl
@[simp] theorem min_ii:minD [.int i,.int j]=some (.int (min i j)):=rfl
@[simp] theorem tup_l (xs:List PyData):tupD [.list xs]=some (.tuple xs):=rfl
@[simp] theorem tup_t (xs:List PyData):tupD [.tuple xs]=some (.tuple xs):=rfl
@[simp] theorem lst_l (xs:List PyData):lstD [.list xs]=some (.list xs):=rfl
@[simp] theorem lst_t (xs:List PyData):lstD [.tuple xs]=some (.list xs):=rfl
@[simp] theorem int_b (b:Bool):intC [.bool b]=some (.int (if b then 1 else 0)):=rfl
@[simp] theorem seqI_e:dH fa ρ=bnd (fa ρ) fun x=>lft (seqD x):=rfl
@[simp] theorem seqD_l (ds:List PyData):seqD (.list ds)=some ds:=rfl
@[simp] theorem seqD_t (ds:List PyData):seqD (.tuple ds)=some ds:=rfl
@[simp] theorem ixD_t (ds:List PyData):ixD (.tuple ds) (.int i)=atI ds i:=rfl
@[simp] theorem ixD_l (ds:List PyData):ixD (.list ds) (.int i)=atI ds i:=rfl
theorem atI_nn {xs:List α} (n:Nat):atI xs (n:Int)=xs[n]?:=by
 unfold atI ixN
 rw [if_pos (by omega)]
 by_cases h:n<xs.length
 ·rw [if_pos (by omega)];simp
 ·rw [if_neg (by omega)];rw [List.getElem?_eq_none (by omega)];rfl
@[simp] theorem at_0 (a:α) (r:List α):atI (a::r) 0=some a:=by
 unfold atI ixN
 rw [if_pos (by decide),if_pos (by simp<;>omega)];rfl
@[simp] theorem at_1 (a b:α) (r:List α):atI (a::b::r) 1=some b:=by
 unfold atI ixN
 rw [if_pos (by decide),if_pos (by simp<;>omega)];rfl
@[simp] theorem at_2 (a b c:α) (r:List α):atI (a::b::c::r) 2=some c:=by
 unfold atI ixN
 rw [if_pos (by decide),if_pos (by simp<;>omega)];rfl
@[simp] theorem at_3 (a b c d:α) (r:List α):atI (a::b::c::d::r) 3=some d:=by
 unfold atI ixN
 rw [if_pos (by decide),if_pos (by simp<;>omega)];rfl
@[simp] theorem nilS_e:mZ ρ=some (.nx ρ):=rfl
@[simp] theorem dO:retS fa ρ=bns (fa ρ) ρ fun d=>some (.rt d):=rfl
@[simp] theorem exprS_e:exprS fa ρ=bns (fa ρ) ρ fun _=>some (.nx ρ):=rfl
@[simp] theorem lM (i:Nat):fP i fa ρ=bns (fa ρ) ρ fun d=>some (.nx (ρ.set i (.val d))):=rfl
@[simp] theorem unpS_e (t:Tg):unpS t fa ρ=bns (fa ρ) ρ fun d=>(tgD t ρ d).map So.nx:=rfl
@[simp] theorem iN (f g:SF):ifS ft f g ρ=bns (ft ρ) ρ fun t=>if t then f ρ else g ρ:=rfl
@[simp] theorem mG (t:Tg) (fb:SF):forS t aa fb ρ=bns (aa ρ) ρ fun ds=>cU t fb ds ρ:=rfl
@[simp] theorem newS_e (i:Nat):newS i aa ρ=bns (aa ρ) ρ fun ds=>if ds.length≤100000 then some (.nx (ρ.set i (.lst ds))) else none:=by
 unfold newS cZ;cases aa ρ with
 | none=>rfl
 | some r=>cases r with
  | ok ds=>by_cases h:ds.length≤100000<;>simp [bns,h]
  | ex c=>rfl
theorem aM {f g:SF} {ρ':List Ent} (h:f ρ=some (.nx ρ')):aY f g ρ=g ρ':=by unfold aY;rw [h]
theorem mQ {f g:SF} (h:f ρ=some (.rt d)):aY f g ρ=some (.rt d):=by unfold aY;rw [h]
@[simp] theorem tg_nm (i:Nat):tgD (.nm i) ρ d=some (ρ.set i (.val d)):=rfl
@[simp] theorem tg_tp2 (i j:Nat) (a b:PyData):tgD (.tp [i,j]) ρ (.tuple [a,b])=some ((ρ.set i (.val a)).set j (.val b)):=rfl
@[simp] theorem tg_tp3 (i j k:Nat) (a b c:PyData):tgD (.tp [i,j,k]) ρ (.tuple [a,b,c])=some (((ρ.set i (.val a)).set j (.val b)).set k (.val c)):=rfl
@[simp] theorem tg_tp4 (i j k l:Nat) (a b c d:PyData):tgD (.tp [i,j,k,l]) ρ (.tuple [a,b,c,d])=some ((((ρ.set i (.val a)).set j (.val b)).set k (.val c)).set l (.val d)):=rfl
end
end L2.L3
namespace L2.L3
open PySem
theorem loopS_inv {α:Type} {t:Tg} {fb:SF} (φ:α→PyData) (P:Nat→List Ent→Prop):∀ (xs:List α) (i:Nat) (ρ:List Ent),P i ρ →
  (∀ (j:Nat) (x:α) (ρ:List Ent),xs[j]?=some x→P (i+j) ρ→∃ ρ1 ρ2,tgD t ρ (φ x)=some ρ1∧(fb ρ1=some (.nx ρ2)∨fb ρ1=some (.ct ρ2))∧P (i+j+1) ρ2) →
  ∃ ρ',cU t fb (xs.map φ) ρ=some (.nx ρ')∧P (i+xs.length) ρ'
 | [],i,ρ,h,_=>⟨ρ,rfl,by simpa using h⟩
 | x::xs,i,ρ,h,turn=>by
  obtain ⟨ρ1,ρ2,e1,e2,h2⟩:=turn 0 x ρ rfl (by simpa using h)
  obtain ⟨ρ',e3,h3⟩:=loopS_inv φ P xs (i+1) ρ2 (by simpa using h2) (fun j y ρ hy hp=>by
   have e:i+1+j=i+(j+1):=by omega
   rw [e] at hp ⊢
   exact turn (j+1) y ρ (by simpa using hy) hp)
  refine ⟨ρ',?_,by rw [List.length_cons,show i+(xs.length+1)=i+1+xs.length by omega];exact h3⟩
  rw [List.map_cons,cU,e1]
  dsimp only
  rcases e2 with e2 | e2<;>(rw [e2];exact e3)
theorem loopS_all {α:Type} {t:Tg} {fb:SF} (φ:α→PyData) (P:List Ent→Prop) (xs:List α) (ρ:List Ent) (h:P ρ)
  (turn:∀ x∈xs,∀ ρ,P ρ→∃ ρ1 ρ2,tgD t ρ (φ x)=some ρ1∧(fb ρ1=some (.nx ρ2)∨fb ρ1=some (.ct ρ2))∧P ρ2):∃ ρ',cU t fb (xs.map φ) ρ=some (.nx ρ')∧P ρ':=
 loopS_inv φ (fun _=>P) xs 0 ρ h fun j x ρ hx hp=>turn x (List.mem_of_getElem? hx) ρ hp
theorem appS_at {i:Nat} {fa:EF} {ρ:List Ent} {ds:List PyData} {d:PyData} (h:ρ[i]?=some (.lst ds)) (ha:fa ρ=some (.ok d)) (hz:ds.length≤100000):appS i fa ρ=some (.nx (ρ.set i (.lst (ds++[d])))):=by
 unfold appS
 rw [h]
 dsimp only
 rw [bns_ok ha,if_pos (by unfold cZ;exact decide_eq_true hz)]
theorem rng1_at {fa:EF} {ρ:List Ent} {n:Int} (h:fa ρ=some (.ok (.int n))) (h1:-1000000000≤n) (h2:n≤1000000000):rng1 fa ρ=some (.ok (gM 0 n.toNat)):=by
 unfold rng1
 rw [h]
 dsimp only
 rw [if_pos]
 simp [inRng];omega
end L2.L3
namespace L2.L3
open PySem PySem.W PyProof.Rows
section
variable {X:Cx} {e:Expr} {fa:EF} {x:Str} {pos:Pos}
def dfE (g:PyData→PyData→Option PyData) (fa fb:EF):EF:=fun ρ=>match fa ρ,fb ρ with
 | some (.ok x),some (.ok y)=>lft (g x y)
 | _,_=>none
theorem de_maxDf {a b:Expr} {fb:EF} {p kp:Pos} (hc:X.calm=true) (hm:X.mg "max" = none) (ha:DE X a fa) (hb:DE X b fb) (he:starEach [a] X.env=(false,eval a X.env)::starEach [] X.env:=by rfl)
  (he':backTo pos (starEach [a] X.env)=(false,eval a X.env)::backTo pos (starEach [] X.env):=by rfl) (hpl:(backTo pos (starEach [a] X.env)).any (·.1)=false:=by rfl)
  (hk1:(backToKw pos (keywordEach [⟨some "default", b,kp⟩] X.env)).filterMap (·.1)=[Str.ofString "default"]:=by rfl) (hg:Gl X "max":=by rfl) :
  DE X (.Call (.Name "max" p) [a] [⟨some "default", b,kp⟩] pos) (dfE maxDf fa fb):=de_of fun ρ r e=>by
 unfold dfE at e
 split at e
 ·rename_i x y ea eb
  obtain ⟨d,ed,rfl⟩:=bI e
  refine ⟨d,rfl,?_⟩
  unfold maxDf at ed
  split at ed
  ·rename_i xs
   split at ed
   ·rename_i ei
    have hx:=cD (g:=PyData.int) (fun d a q=>hV q) ei
    subst hx
    have key:=pd_maxD (p:=p) (ns:=[]) hc hm (ha.pd ea) (hb.pd eb) he he' hpl hk1 hg
    cases (Option.some.inj ed)
    exact key
   ·rename_i n ns ei
    have hx:=cD (g:=PyData.int) (fun d a q=>hV q) ei
    subst hx
    have key:=pd_maxD (p:=p) (ns:=n::ns) hc hm (ha.pd ea) (hb.pd eb) he he' hpl hk1 hg
    cases (Option.some.inj ed)
    rw [if_neg (by simp)] at key
    exact key
   ·cases ed
  ·cases ed
 ·cases e
end
theorem df_at {g:PyData→PyData→Option PyData} {fa fb:EF} {ρ:List Ent} {x y d:PyData} (ha:fa ρ=some (.ok x)) (hb:fb ρ=some (.ok y)) (h:g x y=some d):dfE g fa fb ρ=some (.ok d):=by
 unfold dfE
 rw [ha,hb]
 dsimp only
 rw [h];rfl
end L2.L3
namespace L2.L3
open PySem PySem.Spec PySem.Calls PyProof.Rows
abbrev lamO (qual:Str) (params:Arguments) (body:Expr) (scope:Scope) (pm:Value) (c:Addr) (ct:Value):Obj:=PySem.W.kla_obj "<lambda>" qual params body scope [] pm c ct
section
variable {P:Program} {w:World} {K:PySem.W.Frag} {mg:Str→Option Value} {base:Heap}
theorem lam_call {k:Nat} {f c:Addr} {qual x:Str} {params:Arguments} {body:Expr} {scope:Scope} {pm ct u:Value} {fe:EF} {A:Around} {outer:List Env} {s:Shared} {H G:Hp} {v:V} {d kd:PyData}
  (hr:Room (k+1) A) (e0:Env0 P w K mg base A outer s H) (ho:s.heap.get? f=some (lamO qual params body scope pm c ct)) (hcd:s.heap.CodeRec (.ref c) qual) (S:FnScope [x] [x] scope)
  (hb:bindArgs (PySem.W.kla_fn "<lambda>" qual params body scope [] pm (.ref c) ct) ⟨[u],[]⟩=pure [(x,u)])
  (hbody:DE (fcx P w K mg base [x] qual scope f (.ref c) A outer s H E0) body fe)
  (sm:aX G H∧lA K G H) (rep:Rep K G v d) (rel:RelV v u) (hf:fe [.val d]=some (.ok kd)) :
  codeAny (model P w) A (.call (.ref f) ⟨[u],[]⟩) (CR CX0 outer P w H s (fun v' H'=>∃ G',Grow G H G' H'∧Rep K G' v' kd) E0) s:=by
 have lim:s.heap.NoLimit:=e0.mod.nolimit.keeps fun b o e=>(e0.bs b o e).1
 refine PySem.W.kla_callFunE hr.depth ho rfl S.co S.gen rfl hcd ?_
 rw [hb]
 have hkind:∀ y∈[(x,u)],scope.names.lookup y.1=some .local∨(scope.names.lookup y.1=some .cell∧((cellsFrom (s.heap.objs.size+1) scope.names []).lookup y.1).isSome=true):=fun y hy=>by
  obtain rfl:=List.mem_singleton.mp hy
  rcases S.par x (by simp) with q | q
  ·exact .inl q
  ·exact .inr ⟨q,PySem.W.cellsFrom_some _ _ _ (.inl q)⟩
 refine wpAny_pure (wpAny_newFunctionEnv_cells S.kind hkind fun env he s1 xx=>?_)
 subst he
 refine ⟨lim.keeps xx.toInCall.keep,PySem.W.kla_codeExpr ?_⟩
 have I:Inv (fcx P w K mg base [x] qual scope f (.ref c) A outer s H E0) [] (start [x] [v]) H s1:=(inv_start (CX:=CX0) (E:=E0) (us:=[u]) S hr.hd e0 rfl (.cons rel .nil) xx).wish _
 have R:RepS K H G G H (start [x] [v]) [.val d]:=eR (N:=[x]) (ds:=[d]) sm (.cons rep .nil)
 refine wpAny_mono (hbody.run [] s1 _ H (fun v' H'=>∃ G',Grow G H G' H'∧Rep K G' v' kd) I ⟨_,_,H,G,G,hf,R,fun v' G' H' g rv=>⟨G',g,rv⟩⟩) (fun u' s' hs=>?_) fun e s' hs=>hs.elim
 obtain ⟨v',H',J,rv,q⟩:=hs
 exact ⟨v',H',J.os,J.bare,J.base,J.hok,rv,q⟩
end
end L2.L3
namespace L2.L3
open PySem PySem.Spec PySem.Calls PyProof.Rows
structure BM (mg:Str→Option Value) (base:Heap):Prop where
 ex:∃ bm ob,mg "__builtins__" = some (.ref bm)∧bm≠builtinsNs∧bm≠mainGlobals∧base.get? bm=some ob∧ob.cls=.type "module" ∧ ob.dict=some builtinsNs∧ob.data=.plain
theorem triples_snoc_n (i j:Int) (t u:Tok) (v:Value):∀ (n:Nat) (l:List Value),l.length≤n→TriplesOk l→TriplesOk (l++[.int i t,.int j u,v]):=by
 intro n
 induction n with
 | zero=>
  intro l hl _
  cases l with
  | nil=>trivial
  | cons a l=>cases hl
 | succ n ih=>
  intro l hl h
  unfold TriplesOk at h
  split at h
  ·trivial
  ·rename_i rest
   have hr:rest.length≤n:=by simp only [List.length_cons] at hl;omega
   exact ih rest hr h
  ·cases h
theorem triples_snoc (l:List Value) (i j:Int) (t u:Tok) (v:Value) (h:TriplesOk l):TriplesOk (l++[.int i t,.int j u,v]):=triples_snoc_n i j t u v l.length l (Nat.le_refl _) h
theorem among_snoc {p:Pos} {c cv:Value} (i j:Int) (t u:Tok):∀ (l:List Value),TriplesOk l→codeAmong p (l++[.int i t,.int j u,c])=some cv→codeAmong p l=some cv∨cv=c
 | [],_,h=>by
  have h:(if (i==(p.line:Int)&&j==(p.col:Int))=true then some c else none)=some cv:=h
  split at h
  ·exact .inr (Option.some.inj h).symm
  ·cases h
 | .int a _::.int b _::d::r,ht,h=>by
  have h:(if (a==(p.line:Int)&&b==(p.col:Int))=true then some d else codeAmong p (r++[.int i t,.int j u,c]))=some cv:=h
  show (if (a==(p.line:Int)&&b==(p.col:Int))=true then some d else codeAmong p r)=some cv∨_
  split at h
  ·rename_i hc;rw [if_pos hc];exact .inl h
  ·rename_i hc;rw [if_neg hc];exact among_snoc i j t u r ht h
section
variable {X:Cx} {pins:List (Addr×Obj)} {σ:St} {H H0 G₀ G:Hp} {s:Shared} {ρ:List Ent}
theorem lam_make {x:Str} {c P:Addr} {params:Arguments} {body:Expr} {scope:Scope} {pos:Pos} {E:Value→Shared→Prop} {Q:Value→Shared→Prop} (hx:x∈gG) (ht:PySem.W.tabIn X.K x=some (c,P)) (hc:X.env.code=.ref c)
  (hq:X.env.qual ++ "<lambda>" = lamQ x) (C:PySem.W.codeHdIn X.K c P=true) (M:BM X.mg X.base) (hdef:defaultsOf params X.env=([],[])) (hcl:closureFor scope X.env=pure []) (I:Inv X pins σ H s) (R:RepS X.K H0 G₀ G H σ ρ)
  (h:∀ f c' ct pm H' s',Inv X pins σ H' s'→Grow G H G H'→s'.heap.get? f=some (lamO (lamQ x) params body scope pm c' ct)→H' f=none→s.heap.objs.size≤f→H' c'=some (cdO c' (lamQ x))→Q (.ref f) s') :
  wpAny (model X.prog X.w) X.A (eval (.Lambda params body scope pos) X.env) Q E s:=by
 refine PySem.W.kla_eval hdef ?_
 rw [hq]
 have hTab:=R.tab.1 x hx c P ht
 generalize lamQ x=q at hTab h ⊢
 obtain ⟨ps,hP,hT,hA⟩:=hTab
 have hPo:s.heap.get? P=some (PySem.W.tabObj ps):=I.hok P _ hP
 have C0:PySem.W.CodeHd s.heap c P:=PySem.W.codeHd_of_K I.kIn C
 have hg:s.heap.Ns mainGlobals X.mg:=I.mod.glob.keeps I.bk
 have hgP:mainGlobals≠P:=fun z=>by
  obtain ⟨o,es,ep,e,hd,_⟩:=hg
  rw [z,hPo] at e;cases e;cases hd
 have hB:s.heap.BuiltinsAt X.mg P:=by
  obtain ⟨bm,ob,b1,b2,b3,b4,b5,b6,b7⟩:=M.ex
  refine ⟨bm,ob,b1,b2,b3,fun z=>?_,I.bk _ _ b4,b5,b6,b7⟩
  have e:=I.bk _ _ b4
  rw [z,hPo] at e;cases e;cases b5
 cases hm:codeAmong pos ps.toList with
 | some cv=>
  obtain ⟨c',rfl,hc'⟩:=hA pos cv hm
  refine PySem.W.kla_makeFunctionHit hcl I.ok.glob hg hc C0 hPo hT hm hB fun ct h' tk kp sz=>?_
  exact h _ c' ct _ H _ (I.kept fun b o e=>Heap.get?_push_of_some _ (kp b o e)) (.refl R.sub) (Heap.get?_push_size _ rfl) (I.hok.fresh sz) sz hc'
 | none=>
  refine PySem.W.kla_makeFunction hcl I.ok.glob hg hc C0 hPo hT hm hgP hB fun c' ct h' tk ex ge lt rc tb=>?_
  have hf:H c'=none:=I.hok.fresh ge
  have cP:c'≠P:=fun z=>by rw [z,hP] at hf;cases hf
  have lP:P≠X.env.locals:=fun z=>by have:=I.free;rw [←z,hP] at this;cases this
  -- the heap beside the table
  have kp:∀ b o,b≠P→s.heap.get? b=some o→(h'.push (lamO (q) params body scope ((X.mg "__name__").getD .none) c' ct)).get? b=some o:=fun b o n e=>Heap.get?_push_of_some _ (ex b o n e)
  have hsz:s.heap.objs.size≤h'.objs.size:=Nat.le_trans ge (Nat.le_of_lt lt)
  have H1:∀ b,b≠P→b≠c'→upd (upd H P (.tbl (q,ps++#[rawInt pos.line,rawInt pos.col,.ref c']))) c' (cdO c' (q)) b=H b:=fun b n1 n2=>by rw [aE n2,aE n1]
  have HP:upd (upd H P (.tbl (q,ps++#[rawInt pos.line,rawInt pos.col,.ref c']))) c' (cdO c' (q)) P=some (.tbl (q,ps++#[rawInt pos.line,rawInt pos.col,.ref c'])):=by rw [aE (Ne.symm cP),aG]
  have nb:∀ b o,s.heap.get? b=some o→b≠c':=fun b o e=>Nat.ne_of_lt (Nat.lt_of_lt_of_le (Heap.lt_size e) ge)
  have nH:∀ b o,H b=some o→b≠c':=fun b o e z=>by rw [z,hf] at e;cases e
  have nP:∀ b,H b=none→b≠P:=fun b e z=>by rw [z,hP] at e;cases e
  have hsm:Sm H (upd (upd H P (.tbl (q,ps++#[rawInt pos.line,rawInt pos.col,.ref c']))) c' (cdO c' (q))):=by
   refine ⟨fun b o e n=>?_,fun b p e=>?_,fun P' q' t=>?_⟩
   ·rw [H1 b (fun z=>by rw [z,hP] at e;cases e;exact n _ rfl) (nH b o e)];exact e
   ·by_cases z:b=P
    ·rw [z];exact ⟨_,HP⟩
    ·exact ⟨p,by rw [H1 b z (nH b _ e)];exact e⟩
   ·obtain ⟨ps',g1,g2,g3⟩:=t
    have old:∀ d o,H d=some (cdO d o)→upd (upd H P (.tbl (q,ps++#[rawInt pos.line,rawInt pos.col,.ref c']))) c' (cdO c' (q)) d=some (cdO d o):=fun d o e=>by
     rw [H1 d (fun z=>by rw [z,hP] at e;unfold cdO at e;cases e) (nH d _ e)];exact e
    by_cases z:P'=P
    ·subst z
     rw [hP] at g1
     cases g1
     refine ⟨_,HP,?_,fun p cv e=>?_⟩
     ·rw [Array.toList_append];exact triples_snoc _ _ _ _ _ _ g2
     ·rw [Array.toList_append] at e
      rcases among_snoc _ _ _ _ _ g2 e with e | rfl
      ·obtain ⟨d,e1,e2⟩:=g3 p cv e
       exact ⟨d,e1,old d _ e2⟩
      ·exact ⟨c',rfl,aG⟩
    ·refine ⟨ps',by rw [H1 P' z (nH P' _ g1)];exact g1,g2,fun p cv e=>?_⟩
     obtain ⟨d,e1,e2⟩:=g3 p cv e
     exact ⟨d,e1,old d _ e2⟩
  have gw:Grow G H G (upd (upd H P (.tbl (q,ps++#[rawInt pos.line,rawInt pos.col,.ref c']))) c' (cdO c' (q))):=by
   refine ⟨.refl _,hsm,fun b o e=>?_,fun _ e _=>e,id⟩
   rw [H1 b (fun z=>by have:=R.sub b o e;rw [z,hP] at this;cases this;exact R.tab.2 _ _ e) (nH b o (R.sub b o e))]
   exact R.sub b o e
  refine h h'.objs.size c' ct _ _ _ (I.step (ch:=[]) (g':=s.gens) (d':=s.drawn) (t':=tk) (h':=h'.push (lamO (q) params body scope ((X.mg "__name__").getD .none) c' ct)) (fun _ z=>nomatch z) (fun b o _ _ _ e n=>kp b o (nP b n) e) (fun b o _ _ _ e n=>⟨o.slots,kp b o (nP b n) e⟩)
   (fun b o _ e n=>by rw [H1 b (nP b n) (nb b o e)];exact n) (fun b o _ e=>?_) (fun b xs e=>by rw [H1 b (dG e hP (by nofun)) (nH b _ e)];exact e) (fun b o u e=>by rw [H1 b (dG e hP (by nofun)) (nH b _ e)];exact e) (fun b p e=>?_) (fun m hn=>(hn.extBut ex (Ne.symm lP)).push _) (fun b u e=>?_) I.bare) gw (Heap.get?_push_size _ rfl) ?_ hsz aG
  ·by_cases z:b=P
   ·rw [z];exact ⟨_,Heap.get?_push_of_some _ tb⟩
   ·exact ⟨o,kp b o z e⟩
  ·by_cases z:b=P
   ·subst z
    rw [hP] at e;cases e
    exact ⟨#[rawInt pos.line,rawInt pos.col,.ref c'],HP⟩
   ·exact ⟨#[],by rw [H1 b z (nH b _ e),e];simp⟩
  ·by_cases z:b=c'
   ·subst z
    rw [aG] at e;cases e
    obtain ⟨c2,o2,vs,t,e1,e2,e3,e4⟩:=rc
    cases e1
    exact ⟨⟨_,o2,vs,t,rfl,Heap.get?_push_of_some _ e2,e3,e4⟩,⟨o2,Heap.get?_push_of_some _ e2⟩,fun h1 h2 ⟨c3,o3,vs3,t3,g1,g2,g3,g4⟩ k=>by cases g1;exact ⟨_,o3,vs3,t3,rfl,k _ g2,g3,g4⟩⟩
   ·by_cases z2:b=P
    ·subst z2
     rw [HP] at e;cases e
     exact Heap.get?_push_of_some _ tb
    ·rw [H1 b z2 z] at e
     refine (I.hok b u e).stay (fun b' u' hb' e'=>kp b' u' (fun y=>?_) e') (fun b' e'=>by rw [H1 b' (dG e' hP (by nofun)) (nH b' _ e')];exact e') fun b' xs e'=>by rw [H1 b' (dG e' hP (by nofun)) (nH b' _ e')];exact e'
     rcases hb' with y' | y'
     ·exact z2 (y'.symm.trans y)
     ·rw [y,hP] at y';cases y'
  ·have:=Nat.ne_of_gt lt
   rw [H1 _ (fun z=>absurd (Heap.lt_size hPo) (by rw [←z];exact Nat.not_lt_of_le hsz)) this]
   exact I.hok.fresh hsz
end
end L2.L3
namespace L2.L3
open PySem PySem.W PyProof.Rows PySem.Calls
section
variable {prog:Program} {w:World} {A:Around} {E:Value→Shared→Prop} {s:Shared}
theorem key_fold {kS a:Addr} {oa:Obj} {vs:List Value} {J:List Value→Shared→Prop} {body:Value→PUnit→Sem (ForInStep PUnit)} (h64:vs.length<64)
  (hb:∀ x ks e (s:Shared),ks.length<64→vs[ks.length]?=some x→s.heap.get? kS=some (seqObj "list" (List.toArray ks) e)→s.heap.get? a=some oa→J ks s →
   wpAny (model prog w) A (body x ⟨⟩) (fun r s'=>r=.yield ⟨⟩∧∃ k c,s'.heap.get? kS=some (seqObj "list" (List.toArray (ks++[k])) c)∧s'.heap.get? a=some oa∧J (ks++[k]) s') E s) :
  ∀ (r ks:List Value) (e:Nat) (s:Shared),vs=(vs.take ks.length)++r→ks.length+r.length=vs.length→s.heap.get? kS=some (seqObj "list" (List.toArray ks) e)→s.heap.get? a=some oa→J ks s →
   wpAny (model prog w) A (forIn r PUnit.unit body) (fun _ s'=>∃ ks e,s'.heap.get? kS=some (seqObj "list" (List.toArray ks) e)∧s'.heap.get? a=some oa∧ks.length=vs.length∧J ks s') E s
 | [],ks,e,s,hv,hl,hk,ha,hJ=>by
  rw [List.forIn_nil]
  exact wpAny_pure ⟨ks,e,hk,ha,by simpa using hl,hJ⟩
 | x::r,ks,e,s,hv,hl,hk,ha,hJ=>by
  rw [List.length_cons] at hl
  rw [List.forIn_cons]
  have hx:vs[ks.length]?=some x:=by
   rw [hv,List.getElem?_append_right (by rw [List.length_take];omega),List.length_take]
   rw [show ks.length - min ks.length vs.length=0 by omega];rfl
  refine wpAny_bind (wpAny_mono (hb x ks e s (by omega) hx hk ha hJ) (fun q s' hq=>?_) fun _ _ x=>x)
  obtain ⟨rfl,k,c,hk',ha',h2⟩:=hq
  show wpAny (model prog w) A (forIn r PUnit.unit body) _ E s'
  refine key_fold h64 hb r (ks++[k]) c s' ?_ (by rw [List.length_append,List.length_singleton];omega) hk' ha' h2
  rw [List.length_append,List.length_singleton]
  have e1:vs.take (ks.length+1)=vs.take ks.length++[x]:=by rw [List.take_succ,hx];rfl
  rw [e1,List.append_assoc];exact hv
theorem key_rest {kS a:Addr} {f:Value} {e1:Nat} {vs:List Value} {kds:List PyData} {k:Bool} {g:List Bool} {J:List Value→Shared→Prop} {P:PySem.Fin→Shared→Prop} (hka:kS≠a) (hk:s.heap.get? kS=some (seqObj "list" #[] 0)) (ha:s.heap.get? a=some (seqObj "list" #[] e1)) (h64:vs.length<64)
  (hs:∀ d∈kds,bG (k::g) d=true) (hlen:kds.length=vs.length) (hJ:J [] s)
  (mono:∀ ks s h',J ks s→(∀ b,b≠kS→h'.get? b=s.heap.get? b)→h'.objs.size=s.heap.objs.size→(∃ o,h'.get? kS=some o)→J ks { s with heap:=h' })
  (step:∀ ks s x,vs[ks.length]?=some x→J ks s→wpAny (model prog w) A (call f [x]) (fun k s'=>J (ks++[k]) s'∧s'.heap.get? a=s.heap.get? a∧s'.heap.get? kS=s.heap.get? kS) (fun _ _=>False) s)
  (fin:∀ ks s,ks.length=vs.length→J ks s→Rows s.heap ks kds)
  (h:∀ (p:Array Nat) ks s' h',ST.Pm kds.length p→(p.toList.map fun i=>kds.getD i .none)=jW kds→J ks s'→(∀ b,b≠kS→b≠a→h'.get? b=s'.heap.get? b)→h'.objs.size=s'.heap.objs.size →
   (∃ c,h'.get? a=some (seqObj "list" (p.toList.map fun i=>vs.getD i .none).toArray c))→P (.done (.ret .none)) { s' with heap:=h' }) :
  wpAny (model prog w) A (ksk_rest a f false vs.toArray e1 (.ref kS)) P E s:=by
 unfold ksk_rest
 refine wpAny_bind (wpAny_rule ?_)
 first
  | rw [List.forIn_toArray]
  | (rw [←Array.forIn_toList];simp only [List.toList_toArray])
  | rw [←Array.forIn_toList]
 refine wpAny_bind (wpAny_mono (key_fold (J:=J) (oa:=seqObj "list" #[] e1) (a:=a) (kS:=kS) h64 (fun x ks e s' hz hx hk' ha' hj=>?_) vs [] 0 s (by simp) (by simp) hk ha hJ) (fun _ s' hd=>?_) fun _ _ x=>x)
 ·refine wpAny_bind (wpAny_attempt (wpAny_mono (step ks s' x hx hj) (fun kv s'' hq=>?_) fun _ _ hF=>hF.elim))
  obtain ⟨j2,a2,k2⟩:=hq
  rw [hk'] at k2
  rw [ha'] at a2
  have s1:=Heap.SameBut.update s''.heap kS (Obj.mapSeq (·.push kv))
  have ea:(List.toArray ks).push kv=List.toArray (ks++[kv]):=by simp
  obtain ⟨c2,hc2⟩:∃ c2,(s''.heap.update kS (Obj.mapSeq (·.push kv))).get? kS=some (seqObj "list" (List.toArray (ks++[kv])) c2):=⟨_,by rw [←ea];exact get?_update_seq k2 (·.push kv)⟩
  try dsimp only
  refine wpAny_bind (listUpdate_at k2 rfl ?_ (by rw [List.size_toArray,sizeLine_eq];omega) (Nat.le_trans (Nat.le_of_eq (Array.size_push ..)) (by rw [List.size_toArray,sizeLine_eq];omega)))
  exact wpAny_pure ⟨rfl,kv,c2,hc2,(s1.2 a hka.symm).trans a2,mono _ _ _ j2 (fun b hb=>s1.2 b hb) s1.1 ⟨_,hc2⟩⟩
 ·obtain ⟨ks,e,hk',ha',hl,hj⟩:=hd
  try dsimp only
  refine wpAny_bind (listItems_at hk' rfl ?_)
  have rd:=fin ks s' hl hj
  -- the end: the keys' list is emptied,the list is filled
  have tail:∀ (st:SortSt) (p:Array Nat),(arrOf st).map (·.2)=(p.toList.map fun i=>vs.getD i .none).toArray→failedOf st=none→ST.Pm kds.length p→(p.toList.map fun i=>kds.getD i .none)=jW kds →
    wpAny (model prog w) A (ksk_tail a false e1 (.ref kS) st) P E s':=by
   intro st p hout hf hP hS
   have s1:=Heap.SameBut.update s'.heap kS (Obj.mapSeq fun _=>(#[]:Array Value))
   have na:(s'.heap.update kS (Obj.mapSeq fun _=>(#[]:Array Value))).get? a=some (seqObj "list" #[] e1):=(s1.2 a hka.symm).trans ha'
   have s2:=Heap.SameBut.update (s'.heap.update kS (Obj.mapSeq fun _=>(#[]:Array Value))) a (Obj.mapSeq fun _=>(p.toList.map fun i=>vs.getD i Value.none).toArray)
   unfold ksk_tail
   try dsimp only
   rw [hout]
   refine wpAny_bind (listUpdate_at hk' rfl ?_ (by rw [List.size_toArray,sizeLine_eq];omega) (Nat.zero_le _))
   refine wpAny_bind (wpAny_letGo ?_)
   refine wpAny_bind (seqEpoch_at na rfl ?_)
   refine wpAny_bind (listUpdate_at na rfl ?_ (Nat.zero_le _) (by rw [if_neg (by decide),List.size_toArray,List.length_map,Array.length_toList,hP.size,sizeLine_eq];omega))
   rw [hf]
   simp only [bne_self_eq_false,Bool.false_eq_true,if_false]
   refine wpAny_pure (h p ks s' _ hP hS hj (fun b h1 h2=>(s2.2 b h2).trans (s1.2 b h1)) (s2.1.trans s1.1) ⟨_,get?_update_seq na fun _=>(p.toList.map fun i=>vs.getD i Value.none).toArray⟩)
  unfold ksk_end
  try dsimp only
  simp only [Bool.false_eq_true,if_false]
  by_cases h2:vs.toArray.size<2
  ·rw [if_pos h2,if_pos h2]
   refine wpAny_bind (wpAny_pure ?_)
   rw [StateT.run_pure]
   refine wpAny_bind (wpAny_pure ?_)
   have hsz:vs.toArray.size=vs.length:=by simp
   have hpm:ST.Pm kds.length (List.range vs.length).toArray:=by rw [hlen];exact ⟨by simp,Array.Perm.refl _⟩
   refine tail _ (List.range vs.length).toArray ?_ rfl hpm (kQ hs hpm (fun i j hij hj=>by rw [show i=j by omega];exact Int.le_refl _))
   show (ks.toArray.zip vs.toArray).map (·.2)=_
   apply Array.toList_inj.mp
   have e:(List.range vs.length).map (fun i=>vs.getD i Value.none)=vs:=by
    refine List.ext_getElem (by simp) fun i h1 h2=>?_
    simp [List.getD_eq_getElem?_getD,h2]
   simp only [List.toList_toArray,e,Array.toList_map,Array.toList_zip]
   rw [List.map_snd_zip (by omega)]
  ·rw [if_neg h2,if_neg h2]
   have hsz:vs.toArray.size=vs.length:=by simp
   refine wpAny_bind (rows_kind (s:=s') rd hs (by omega) ?_)
   have hq:=ST.h_sort (r:=rk kds) (n:=vs.length) (by omega)
   refine wpAny_bind (wpAny_mono (kat_run (κ:=tuples' true) (ks:=ks) (vs:=vs) (s:=s') (G:=fun p s2=>s2=s'∧ST.Pm vs.length p∧ST.Up (rk kds) p vs.length)
    (Q:=fun st' s2=>∃ p:Array Nat,arrOf st'=p.map (kas_item (ks.toArray.zip vs.toArray))∧failedOf st'=none∧s2=s'∧ST.Pm vs.length p∧ST.Up (rk kds) p vs.length)
    hl (by omega) h64 (fun p' st' s2 a1 a2 a3 a4=>⟨p',a2,a3,a4⟩)
    (ST.wp_run (n:=vs.length) (lt:=ST.ltr (rk kds)) (fun i j C hi hj hC=>?_) _ hq.1 ⟨rfl,hq.2⟩)) ?_ fun _ _ e=>e)
   ·obtain ⟨as,ri⟩:=rd.at i (by omega)
    obtain ⟨bs,rj⟩:=rd.at j (by omega)
    have mi:kds.getD i .none∈kds:=by rw [List.getD_eq_getElem?_getD,List.getElem?_eq_getElem (by omega)];exact List.getElem_mem (by omega)
    have mj:kds.getD j .none∈kds:=by rw [List.getD_eq_getElem?_getD,List.getElem?_eq_getElem (by omega)];exact List.getElem_mem (by omega)
    refine row_lt ri rj (hs _ mi) (hs _ mj) ?_
    rw [rk_lt hs (by omega) (by omega)]
    exact hC
   ·rintro ⟨⟨⟩,st'⟩ s2 ⟨p,har,hf,rfl,hP,hU⟩
    dsimp only
    rw [←hlen] at hP hU
    exact tail st' p (kat_snds hl har) hf hP (kQ hs hP hU)
end
end L2.L3
namespace L2.L3
open PySem PySem.W PyProof.Rows PySem.Calls
section
variable {prog:Program} {w:World} {A:Around} {E:Value→Shared→Prop} {s:Shared}
theorem sorted_key {l q:Addr} {T:String} {o:Obj} {vs:List Value} {n:Nat} {Q:Value→Shared→Prop} (hT:T = "list" ∨ T = "tuple") (ho:s.heap.get? l=some o) (hc:o.cls=.type T) (hd:o.data=.seq vs.toArray n) (h64:vs.length<64)
  (h:∀ (a kS:Addr) (e1:Nat) (h':Heap) (P:PySem.Fin→Shared→Prop) (E':Value→Shared→Prop),(∀ s',Q (.ref a) s'→P (.done (.ret .none)) s')→s.heap.objs.size≤a→a<kS→(∀ b o,s.heap.get? b=some o→h'.get? b=some o) →
   h'.get? kS=some (seqObj "list" #[] 0)→h'.get? a=some (seqObj "list" #[] e1)→wpAny (model prog w) A.in1.in1 (ksk_rest a (.ref q) false vs.toArray e1 (.ref kS)) P E' { s with heap:=h' }) :
  wpAny (model prog w) A (call (.builtin "sorted") [.ref l] [(Str.ofString "key", .ref q)]) Q E s:=by
 refine call_function_entry_kw kind_sorted plain_sorted entry_sorted (ksk_s1 _ _) ?_
 unfold Builtin.«sorted»
 refine wpAny_bind (m:=checkCount "sorted" 1 1 _) (wpAny_pure ?_)
 refine wpAny_bind (nF hT ho hc hd (by rw [sizeLine_eq];omega) fun h1 kp up=>?_)
 refine wpAny_bind (wpAny_newList ?_ (by rw [sizeLine_eq];omega))
 have hoL:(h1.push (seqObj "list" vs.toArray 0)).get? h1.objs.size=some (seqObj "list" vs.toArray 0):=Heap.get?_push_size _ rfl
 have keep:∀ b o,s.heap.get? b=some o→b≠h1.objs.size∧(h1.push (seqObj "list" vs.toArray 0)).get? b=some o:=fun b o q=>⟨Nat.ne_of_lt (Heap.lt_size (kp _ _ q)),Heap.get?_push_of_some _ (kp _ _ q)⟩
 show wpAny _ _ _ _ _ { s with heap:=h1.push (seqObj "list" vs.toArray 0) }
 refine wpAny_bind (wpAny_holding (wpAny_call_entry_kw slot_list_sort ⟨_,hoL,rfl⟩ entry_list_sort ?body (ksk_l1 _ _)))
 case body=>
  show wpAny (model prog w) A.in1.in1 (Builtin.«list.sort» ⟨[.ref h1.objs.size],[(Str.ofString "key", .ref q)]⟩) _ _ _
  rw [ksk_t1]
  unfold ksk_tree
  obtain ⟨e1,ho1⟩:∃ e1,((h1.push (seqObj "list" vs.toArray 0)).update h1.objs.size (Obj.mapSeq fun _=>(#[]:Array Value))).get? h1.objs.size=some (seqObj "list" #[] e1):=⟨_,get?_update_seq hoL fun _=>#[]⟩
  refine wpAny_bind (listItems_at hoL rfl ?_)
  refine wpAny_bind (listUpdate_at hoL rfl ?_ (by rw [List.size_toArray,sizeLine_eq];omega) (Nat.zero_le _))
  refine wpAny_bind (seqEpoch_at ho1 rfl ?_)
  refine wpAny_bind (wpAny_newTuple ?_ (by show vs.length≤_;rw [sizeLine_eq];omega))
  refine wpAny_bind (wpAny_newList ?_ (Nat.zero_le _))
  refine wpAny_holding ?_
  refine h h1.objs.size (((h1.push (seqObj "list" vs.toArray 0)).update h1.objs.size (Obj.mapSeq fun _=>(#[]:Array Value))).push (seqObj "tuple" vs.toArray 0)).objs.size e1 ((((h1.push (seqObj "list" vs.toArray 0)).update h1.objs.size (Obj.mapSeq fun _=>(#[]:Array Value))).push (seqObj "tuple" vs.toArray 0)).push (seqObj "list" #[] 0)) _ _ (fun s' hq=>⟨_,rfl,wpAny_pure ⟨_,rfl,hq⟩⟩) up ?_ (fun b o e=>?_) (Heap.get?_push_size _ rfl) (Heap.get?_push_of_some _ (Heap.get?_push_of_some _ ho1))
  ·rw [size_push',Heap.size_update,size_push'];exact Nat.lt_succ_of_lt (Nat.lt_succ_self _)
  ·obtain ⟨hb,hq⟩:=keep b o e
   refine Heap.get?_push_of_some _ (Heap.get?_push_of_some _ ?_)
   rw [Heap.get?_update_ne _ _ _ _ hb]
   exact hq
end
end L2.L3
namespace L2.L3
open PySem PySem.Spec PySem.Calls PyProof.Rows
def keysD (fe:EF):List PyData→Option (List PyData)
 | []=>some []
 | d::r=>match fe [.val d] with
  | some (.ok k)=>(keysD fe r).map (k::·)
  | _=>none
def keyOk (ks:List PyData):Bool:=match ks with
 | []=>true
 | x::xs=>(match sigT x with
  | some (k::g)=>(x::xs).all (bG (k::g))
  | _=>false)
def ixK (k:PyData) (ks:List PyData):Nat:=ks.findIdx fun k'=>!ltT k k'&&!ltT k' k
def srtK (ds ks:List PyData):Option (List PyData):=
 if (List.range ks.length).all (fun i=>ixK (ks.getD i .none) ks==i) then some ((jW ks).map fun k=>ds.getD (ixK k ks) .none) else none
def sortKD (fe:EF) (ds:List PyData):Option PyData:=match keysD fe ds with
 | some ks=>if keyOk ks&&decide (ks.length<64) then (srtK ds ks).map .list else none
 | none=>none
def sortKE (fa fe:EF):EF:=fun ρ=>match fa ρ with
 | some (.ok x)=>lft ((seqD x).bind (sortKD fe))
 | _=>none
theorem keysD_len {fe:EF}:∀ {ds ks:List PyData},keysD fe ds=some ks→ks.length=ds.length
 | [],ks,h=>by cases h;rfl
 | d::r,ks,h=>by
  unfold keysD at h
  split at h
  ·obtain ⟨l,e1,rfl⟩:=Option.map_eq_some_iff.mp h
   simp [keysD_len e1]
  ·cases h
theorem keysD_at {fe:EF}:∀ {ds ks:List PyData} {i:Nat} {d:PyData},keysD fe ds=some ks→ds[i]?=some d→∃ k,ks[i]?=some k∧fe [.val d]=some (.ok k)
 | [],ks,i,d,h,e=>by simp at e
 | d'::r,ks,i,d,h,e=>by
  unfold keysD at h
  split at h
  ·rename_i k ek
   obtain ⟨l,e1,rfl⟩:=Option.map_eq_some_iff.mp h
   cases i with
   | zero=>simp at e;subst e;exact ⟨k,rfl,ek⟩
   | succ i=>
    have e':r[i]?=some d:=by simpa using e
    exact keysD_at (ks:=l) e1 e'
  ·cases h
theorem keyOk_sig {ks:List PyData} (h:keyOk ks=true):∃ k g,∀ d∈ks,bG (k::g) d=true:=by
 unfold keyOk at h
 split at h
 ·exact ⟨true,[],fun d hd=>by cases hd⟩
 ·split at h
  ·rename_i k g _;exact ⟨k,g,fun d hd=>List.all_eq_true.mp h d hd⟩
  ·cases h
theorem srtK_pick {ds ks out:List PyData} {p:List Nat} (h:srtK ds ks=some out) (hp:∀ i∈p,i<ks.length) (e:(p.map fun i=>ks.getD i .none)=jW ks):out=p.map fun i=>ds.getD i .none:=by
 unfold srtK at h
 split at h
 ·rename_i hc
  cases (Option.some.inj h)
  rw [←e,List.map_map]
  refine List.map_congr_left fun i hi=>?_
  have:=List.all_eq_true.mp hc i (List.mem_range.mpr (hp i hi))
  show ds.getD (ixK (ks.getD i .none) ks) .none=_
  rw [beq_iff_eq.mp this]
 ·cases h
section
variable {X:Cx} {pins:List (Addr×Obj)} {σ:St} {H H0 G₀ G:Hp} {s:Shared} {ρ:List Ent}
structure KJ (X:Cx) (pins:List (Addr×Obj)) (σ:St) (G H:Hp) (N:Nat) (f c a kS:Addr) (qual:Str) (params:Arguments) (body:Expr) (scope:Scope) (pm ct:Value) (kds:List PyData) (ks:List Value) (s:Shared):Prop where
 ex:∃ G' H' kvs,Inv X pins σ H' s∧Grow G H G' H'∧lA X.K G' H'∧RepAll X.K G' kvs (kds.take ks.length)∧aV kvs ks∧H' f=none∧H' a=none∧H' kS=none
 fo:s.heap.get? f=some (lamO qual params body scope pm c ct)
 oa:∃ o,s.heap.get? a=some o
 okk:∃ o,s.heap.get? kS=some o
theorem inv_beside {N:Nat} {h':Heap} {ch:List Addr} {s0:Shared} {H0:Hp} (I0:Inv X pins σ H0 s0) (I:Inv X pins σ H s) (hch:∀ b∈ch,s0.heap.objs.size≤b∧H b=none) (same:∀ b,b∉ch→h'.get? b=s.heap.get? b) :
  Inv X pins σ H { s with heap:=h' }:=by
 have nt:∀ b u,H b=some u→b∉ch:=fun b u e z=>by rw [(hch b z).2] at e;cases e
 have lt:∀ b∈ch,∀ d,d<s0.heap.objs.size→d≠b:=fun b hb d hd z=>absurd (hch b hb).1 (by rw [←z];exact Nat.not_le_of_lt hd)
 refine I.step (ch:=ch) (g':=s.gens) (d':=s.drawn) (t':=s.toks) (h':=h') (fun b hb=>⟨.inr (Nat.le_trans I0.sz (hch b hb).1),fun z=>lt b hb _ I0.lt z.symm,fun x c e=>lt b hb c (by obtain ⟨v,q⟩:=I0.cell x c e;exact q.lt),fun p hp=>lt b hb p.1 (Heap.lt_size (I0.pin p hp).1)⟩)
  (fun b o _ _ hc e n=>(same b hc).trans e) (fun b o _ _ hc e n=>⟨o.slots,(same b hc).trans e⟩) (fun b o _ _ n=>n) (fun b o hc e=>⟨o,(same b hc).trans e⟩) (fun _ _ e=>e) (fun _ _ _ e=>e) (fun b ps e=>⟨#[],by rw [e];simp⟩) (fun m ⟨o,es,ep,e,r⟩=>⟨o,es,ep,(same _ fun z=>lt _ z _ I0.lt rfl).trans e,r⟩)
  (fun b u e=>(I.hok b u e).stay (fun b' u' hb' e'=>(same b' ?_).trans e') (fun _ z=>z) fun _ _ z=>z) I.bare
 rcases hb' with rfl | z
 ·exact nt _ _ e
 ·exact nt _ _ z
theorem inv_track {a:Addr} {o:HO} {s0:Shared} {H0:Hp} (I0:Inv X pins σ H0 s0) (I:Inv X pins σ H s) (ha:s0.heap.objs.size≤a) (hn:H a=none) (new:bV X.prog X.w (upd H a o) s.heap a o):Inv X pins σ (upd H a o) s:=by
 have lt:∀ d,d<s0.heap.objs.size→d≠a:=fun d hd z=>absurd ha (by rw [←z];exact Nat.not_le_of_lt hd)
 have nt:∀ b u,H b=some u→b≠a:=fun b u e z=>by rw [z,hn] at e;cases e
 refine I.step (ch:=[a]) (g':=s.gens) (d':=s.drawn) (t':=s.toks) (h':=s.heap) (fun b hb=>?_) (fun b o _ _ hc e n=>e) (fun b o _ _ hc e n=>⟨o.slots,e⟩) (fun b o hc e n=>by rw [aE (by simpa using hc)];exact n) (fun b o hc e=>⟨o,e⟩)
  (fun b xs e=>by rw [aE (nt b _ e)];exact e) (fun b o u e=>by rw [aE (nt b _ e)];exact e) (fun b ps e=>⟨#[],by rw [aE (nt b _ e),e];simp⟩) (fun m h=>h) (fun b u e=>?_) I.bare
 ·obtain rfl:=List.mem_singleton.mp hb
  exact ⟨.inr (Nat.le_trans I0.sz ha),fun z=>lt _ I0.lt z.symm,fun x c e=>lt c (by obtain ⟨v,q⟩:=I0.cell x c e;exact q.lt),fun p hp=>lt p.1 (Heap.lt_size (I0.pin p hp).1)⟩
 ·by_cases z:b=a
  ·subst z;rw [aG] at e;cases e;exact new
  ·rw [aE z] at e
   exact (I.hok b u e).stay (fun _ _ _ e'=>e') (fun b' e'=>by rw [aE (nt b' _ e')];exact e') fun b' xs e'=>by rw [aE (nt b' _ e')];exact e'
theorem nostack (I:Inv X pins σ H s) {b:Addr} (h:s.heap.objs.size≤b):b∉frs X.stack:=fun z=>by
 rcases List.mem_cons.mp (I.stkSub b z) with e | e
 ·exact absurd I.lt (by rw [←e];exact Nat.not_lt_of_le h)
 ·exact I.nofs h e
theorem de_sortK {k:Nat} {x y:Str} {c P:Addr} {params:Arguments} {body a:Expr} {scope:Scope} {lp kp p pos:Pos} {fa fe:EF} (hx:x∈gG) (ht:PySem.W.tabIn X.K x=some (c,P)) (hcode:X.env.code=.ref c)
  (hq:X.env.qual ++ "<lambda>" = lamQ x) (C:PySem.W.codeHdIn X.K c P=true) (M:BM X.mg X.base) (hr:Room (k+3) X.A) (hm:X.mg "sorted" = none) (ha:DE X a fa) (S:FnScope [y] [y] scope)
  (hbody:∀ (f c:Addr) (A:Around) (outer:List Env) (s:Shared) (H:Hp),Room k (A.deeper (envOfC (lamQ x) scope s.heap.objs.size f (.ref c)))→DE (fcx X.prog X.w X.K X.mg X.base [y] (lamQ x) scope f (.ref c) A outer s H E0) body fe)
  (hbind:∀ (pm ct u:Value) (c:Addr),bindArgs (PySem.W.kla_fn "<lambda>" (lamQ x) params body scope [] pm (.ref c) ct) ⟨[u],[]⟩=pure [(y,u)]:=by intros;rfl)
  (hdef:defaultsOf params X.env=([],[]):=by rfl) (hcl:closureFor scope X.env=pure []:=by rfl)
  (he:starEach [a] X.env=(false,eval a X.env)::starEach [] X.env:=by rfl)
  (he':backTo pos (starEach [a] X.env)=(false,eval a X.env)::backTo pos (starEach [] X.env):=by rfl) (hpl:(backTo pos (starEach [a] X.env)).any (·.1)=false:=by rfl)
  (hk1:(backToKw pos (keywordEach [⟨some "key", .Lambda params body scope lp,kp⟩] X.env)).filterMap (·.1)=[Str.ofString "key"]:=by rfl) (hg:Gl X "sorted":=by rfl) :
  DE X (.Call (.Name "sorted" p) [a] [⟨some "key", .Lambda params body scope lp,kp⟩] pos) (sortKE fa fe):=⟨fun pins s σ H Q I ⟨ρ,r,H0,G₀,G,ef,R,q⟩=>by
 unfold sortKE at ef
 refine wpAny_Call_Name_kw (gO I hg hm (by rfl:bootBuiltins "sorted" = some (.builtin "sorted")) ?_ (by decide) (by decide))
 split at ef
 ·rename_i d e1
  obtain ⟨out0,e3,rfl⟩:=bI ef
  obtain ⟨ds,e4,e5⟩:=Option.bind_eq_some_iff.mp e3
  unfold sortKD at e5
  split at e5
  ·rename_i kds ek
   split at e5
   ·rename_i hok
    rw [Bool.and_eq_true] at hok
    obtain ⟨out,e6,rfl⟩:=Option.map_eq_some_iff.mp e5
    obtain ⟨kk,gg,hs⟩:=keyOk_sig hok.1
    have k64:=of_decide_eq_true hok.2
    have kl:=keysD_len ek
    refine callWith_kw (thn ((lS (ha.pd e1) pad_nil he).run H0 G₀ G pos pins s σ H (fun vs H'=>∃ G',Grow G H G' H'∧RepAll X.K G' vs [d]) I R fun vs G' H' g r=>⟨G',g,r⟩) fun us s1 ⟨vs,H1,I1,r1,G1,g1,w1⟩=>?_) he' hpl
    show wpAny _ _ (evalAll ((do let v ←eval (.Lambda params body scope lp) X.env;standAt pos;pure v)::[])) _ _ s1
    refine wpAny_evalAll_cons (wpAny_bind (lam_make hx ht hcode hq C M hdef hcl I1 (R.more g1) fun f c' ct pm H2 s2 I2 g2 fo Hf sf hc'=>wpAny_bind (wpAny_standAt (wpAny_pure (wpAny_pure ?_)))))
    rw [hk1]
    cases w1 with | cons wa wn=>
    cases wn
    obtain ⟨u,rfl,ru⟩:=vals1 r1
    obtain ⟨l,ivs,rfl,hsq,ri⟩:=iZ g2.sub e4 wa
    cases ru
    obtain ⟨its,T,o,n,hT,ho,hc,hd,rv⟩:=seq_parts I2 hsq
    have l1:=ri.len
    have l2:=rv.length
    have tb2:lA X.K G1 H2:=((R.more g1).more g2).tab
    have nf:f∉frs X.stack:=nostack I1 sf
    refine sorted_key hT ho hc hd (by omega) fun a kS e1' h' Pn E' hP ga gk kp' hk0 ha0=>?_
    have gk':s2.heap.objs.size≤kS:=Nat.le_trans ga (Nat.le_of_lt gk)
    have na:a∉frs X.stack:=nostack I2 ga
    have nk:kS∉frs X.stack:=nostack I2 gk'
    refine key_rest (J:=KJ X pins σ G1 H2 0 f c' a kS (lamQ x) params body scope pm ct kds) (kds:=kds) (Nat.ne_of_gt gk) hk0 ha0 (by omega) hs (by omega) ?start ?mono ?step ?fin ?done
    case start=>exact ⟨⟨G1,H2,[],I2.kept (t':=s2.toks) kp',.refl g2.sub,tb2,.nil,.nil,Hf,I2.hok.fresh ga,I2.hok.fresh gk'⟩,kp' _ _ fo,⟨_,ha0⟩,⟨_,hk0⟩⟩
    case mono=>
     intro ks s3 h3 ⟨⟨G3,H3,kvs,I3,g3,t3,w3,v3,f3,a3,k3⟩,fo3,oa3,ok3⟩ same sz ok
     have fk:f≠kS:=fun z=>absurd (Heap.lt_size fo) (by rw [z];exact Nat.not_lt_of_le gk')
     refine ⟨⟨G3,H3,kvs,inv_beside (N:=0) (ch:=[kS]) I2 I3 (fun b hb=>?_) (fun b hb=>same b (by simpa using hb)),g3,t3,w3,v3,f3,a3,k3⟩,(same f fk).trans fo3,?_,ok⟩
     ·obtain rfl:=List.mem_singleton.mp hb
      exact ⟨gk',k3⟩
     ·obtain ⟨oo,e⟩:=oa3
      exact ⟨oo,(same a (Nat.ne_of_lt gk)).trans e⟩
    case step=>
     intro ks s3 xv hxv ⟨⟨G3,H3,kvs,I3,g3,t3,w3,v3,f3,a3,k3⟩,fo3,oa3,ok3⟩
     have hi:ks.length<its.length:=(List.getElem?_eq_some_iff.mp hxv).1
     have hdi:ds[ks.length]?=some (ds[ks.length]'(by omega)):=List.getElem?_eq_getElem (by omega)
     obtain ⟨kd,ekd,efe⟩:=keysD_at ek hdi
     obtain ⟨iv,eiv,riv⟩:=ri.get hdi
     obtain ⟨xv',exv,rxv⟩:=rv.get eiv
     rw [hxv] at exv;cases exv
     have cr:s3.heap.CodeRec (.ref c') (lamQ x):=(I3.hok c' _ (g3.hh.keep c' _ hc' (by unfold cdO;nofun))).1
     have r3:Room (k+1) X.A.in1.in1:=hr.in1.in1
     refine wpAny_call (codeAny_mono (lam_call r3 I3.env0.in1.in1 fo3 cr S (hbind pm ct xv c') (hbody f c' _ _ _ _ (r3.deeper _)) ⟨g3.sub,t3⟩ (riv.mono g3.gg) rxv efe) fun r s4 h4=>?_)
     cases r with
     | error e=>exact False.elim h4
     | ok fl=>
      cases fl with
      | next=>exact False.elim h4
      | brk=>exact False.elim h4
      | cont=>exact False.elim h4
      | ret u4=>
       obtain ⟨v4,H4,os4,bare4,un4,hok4,rv4,G4,g4,w4⟩:=h4
       obtain ⟨_,_,I4,_,rfl,rfl⟩:=I3.after (Q:=fun v H=>v=v4∧H=H4) (u:=u4) (s':=s4) ⟨v4,H4,os4,bare4,un4,hok4,rv4,rfl,rfl⟩
       obtain ⟨oo,eoa⟩:=oa3
       obtain ⟨ok',eok⟩:=ok3
       have keepA:=un4.keep a oo eoa a3 na (by simp)
       have keepK:=un4.keep kS ok' eok k3 nk (by simp)
       refine ⟨⟨⟨G4,_,kvs++[_],I4,g3.trans g4,t3.more g4,?_,Paired.snoc v3 rv4,un4.free f _ fo3 f3 (by simp),un4.free a _ eoa a3 (by simp),un4.free kS _ eok k3 (by simp)⟩,un4.keep f _ fo3 f3 nf (by simp),⟨oo,keepA⟩,⟨ok',keepK⟩⟩,keepA.trans eoa.symm,keepK.trans eok.symm⟩
       rw [List.length_append,List.length_singleton,List.take_succ,ekd]
       exact (w3.mono g4.gg).append (.cons w4 .nil)
    case fin=>
     intro ks s3 hl ⟨⟨G3,H3,kvs,I3,g3,t3,w3,v3,f3,a3,k3⟩,fo3,oa3,ok3⟩
     rw [List.take_of_length_le (by omega)] at w3
     exact rows_of I3 (w3.mono g3.sub) v3
    case done=>
     intro pp ks s3 h3 hPm hS ⟨⟨G3,H3,kvs,I3,g3,t3,w3,v3,f3,a3,k3⟩,fo3,oa3,ok3⟩ same sz ⟨cc,hca⟩
     refine hP _ ?_
     have pl:∀ i∈pp.toList,i<ivs.length:=fun i hi=>by
      have:=(Array.perm_iff_toList_perm.mp hPm.perm).mem_iff.mp hi
      simp at this
      omega
     have I5:Inv X pins σ H3 { s3 with heap:=h3 }:=inv_beside (N:=0) (ch:=[kS,a]) I2 I3 (fun b hb=>by
      rcases List.mem_cons.mp hb with rfl | hb
      ·exact ⟨gk',k3⟩
      ·obtain rfl:=List.mem_singleton.mp hb
       exact ⟨ga,a3⟩) (fun b hb=>same b (fun z=>hb (by simp [z])) fun z=>hb (by simp [z]))
     refine ⟨.ref a,_,inv_track (o:=.lst (pp.toList.map fun i=>ivs.getD i .non)) I2 I5 ga a3 ⟨?_,pp.toList.map fun i=>its.getD i Value.none,cc,aV.pick rv _ pl,hca⟩,rfl,?_⟩
     ·rw [List.length_map,Array.length_toList,hPm.size]
      exact Nat.le_of_lt (eT (by omega))
     ·refine q (.ref a) _ _ ((g1.trans g2).trans (g3.trans (.put g3.sub a3))) (.list (.of aG) ?_)
      rw [srtK_pick (p:=pp.toList) e6 (fun i hi=>by have:=pl i hi;omega) hS]
      exact (ri.pick _ pl).mono (g3.gg.trans (Grow.put g3.sub a3).gg)
   ·cases e5
  ·cases e5
 ·cases ef⟩
end
end L2.L3
namespace L2.L3
open PySem PySem.Spec PySem.Calls PyProof.Rows
section
variable {P:Program} {w:World} {K:PySem.W.Frag} {mg:Str→Option Value} {base:Heap} {x:Str} {k:Nat} {ps N:List Str}
theorem fn_denL {st:Stmt} {f:SF} {fa c T:Addr} {fd:FuncData} (m n:Nat) (Fu:Fun K x x st fa fd) (S:FnScope N ps (aD st)) (hm:N.length=m) (hn:ps.length=n) (kb:K.In base) (nb:base.Ns mainGlobals mg) (hmg:mg x=some (.ref fa)) (ht:PySem.W.tabIn K x=some (c,T))
  (body:∀ (A:Around) (outer:List Env) (s:Shared) (H:Hp) (E:XK),Room k (A.deeper (envOfC x (aD st) s.heap.objs.size fa (.ref c)))→DB (fcx P w K mg base N x (aD st) fa (.ref c) A outer s H E) (cG st) f) :
  FnOk P w K mg base CX0 (k+1) fa fd ps (spD K fun ds d=>dJ m n f ds=some (.ok d)):=by
 obtain ⟨oc,od,kV,doc,pm,an,cdv,ct,osl,rfl,lk,hcd⟩:=Fu.ex
 have hc:cdv=.ref c:=PySem.W.law_code kb nb ht hmg (kb _ _ lk) rfl
 subst hc
 refine fn_of lk hcd S (fun vs H Q E ⟨G,ds,d,s,r,hF,_⟩=>?_) (fun A outer s H vs Q E hr ⟨G,ds,d,sm,r,hF,q⟩=>?_)
 ·have hF:dJ m n f ds=some (.ok d):=hF
  unfold dJ at hF
  split at hF
  ·rename_i hl;rw [r.length,hl,hn]
  ·cases hF
 ·have hF:dJ m n f ds=some (.ok d):=hF
  unfold dJ at hF
  split at hF
  ·rw [←hm,←startE_eq] at hF
   split at hF
   ·rename_i d' e
    cases (Option.some.inj hF)
    exact ⟨_,(body A outer s H E hr).run.nox,gJ N ds,_,H,G,G,e,eR sm r,fun v G' H' _ g rv=>q v G' H' g rv⟩
   ·rename_i ρ' e
    cases (Option.some.inj hF)
    exact ⟨_,(body A outer s H E hr).run.nox,gJ N ds,_,H,G,G,e,eR sm r,fun G' H' σ' _ R'=>q .non G' H' R'.grow .none⟩
   ·cases hF
  ·cases hF
theorem callee_denL {st:Stmt} {f:SF} {c T:Addr} (m n:Nat) (D:Def K mg x st) (S:FnScope N ps (aD st)) (hm:N.length=m) (hn:ps.length=n) (kb:K.In base) (nb:base.Ns mainGlobals mg) (ht:PySem.W.tabIn K x=some (c,T))
  (hb:∀ (kV doc pm:Value) (an:Option Addr) (cdv ct:Value) (us:List Value),us.length=ps.length→bindArgs (PySem.W.fnOf x x (gB st) (cG st) (aD st) .none kV doc pm an cdv ct) ⟨us,[]⟩=pure (ps.zip us))
  (body:∀ (fa:Addr) (A:Around) (outer:List Env) (s:Shared) (H:Hp) (E:XK),Room k (A.deeper (envOfC x (aD st) s.heap.objs.size fa (.ref c)))→DB (fcx P w K mg base N x (aD st) fa (.ref c) A outer s H E) (cG st) f) :
  aK P w K mg base x (k+1) ps (dJ m n f):=by
 obtain ⟨fa,fd,Fu,hmg⟩:=D.ex
 exact ⟨fa,fd,hmg,Fu.kp,Fu.binds hb,fn_denL m n Fu S hm hn kb nb hmg ht fun A outer s H E hr=>body fa A outer s H E hr⟩
end
theorem look_mem {β:Type}:∀ {l:List (Addr×β)} {a:Addr} {b:β},l.lookup a=some b→(a,b)∈l
 | [],_,_,e=>by cases e
 | (c,y)::r,a,b,e=>by
  rw [List.lookup_cons] at e
  cases hb:a==c with
  | true=>rw [hb] at e;cases e;rw [eq_of_beq hb];exact .head _
  | false=>rw [hb] at e;exact .tail _ (look_mem e)
theorem law_callL {P:Program} {w:World} {K:PySem.W.Frag} {mg mb:Str→Option Value} {k:Nat} {fa a:Addr} {fd:FuncData} {x:Str} {F:List PyData→Mm PyData} {s₁:Shared} {vs:List Value} {ns:List Int} {ts:List (Addr×Str)}
  (KX:K.In s₁.heap) (hns:s₁.heap.Ns mainGlobals mg) (hb:s₁.heap.Ns builtinsNs mb) (hbb:∀ x:Str,x ≠ "__name__" → mb x=bootBuiltins x) (hlim:s₁.heap.NoLimit) (hg:s₁.gens=#[])
  (ha:s₁.heap.get? a=some { cls:=.type "list", data:=.seq vs.toArray }) (hi:IntsAre vs ns) (hl:ns.length≤sizeLine) (hr:Room k callerA) (hbm:BM mg s₁.heap)
  (htab:∀ T q,ts.lookup T=some q→s₁.heap.get? T=some (PySem.W.tabObj #[])∧isCodeTable s₁.heap T∧K.lookup T=none) (hts:∀ x∈gG,∀ c T,PySem.W.tabIn K x=some (c,T)→ts.lookup T=some (lamQ x))
  (Fn:∀ base:Heap,K.In base→base.Ns mainGlobals mg→BM mg base→FnOk P w K mg base CX0 k fa fd [x] (spD K fun ds d=>F ds=some (.ok d))) (hbind:∀ (s:Shared) (u:Value),BindsTo s fd ⟨[u],[]⟩ [(x,u)]) (hF:F [.list (ns.map .int)]=some (.ok (.bool true))) :
  codeAny (model P w) callerA (.call (.ref fa) ⟨[.ref a],[]⟩) (fun r s'=>r=.ok (.ret (.bool true))∧OldK s₁.heap s'.heap∧s'.os=s₁.os∧AllBare s'.gens) s₁:=by
 have rv:=jU hi
 have lenV:=hi.length
 have core:∀ S:Hp,Only S→SqL K S a (ns.map V.int)→HOk P w S s₁.heap→(∀ b,S b≠none→b=a)→(S a≠none→K.lookup a=none) →
   codeAny (model P w) callerA (.call (.ref fa) ⟨[.ref a],[]⟩) (fun r s'=>r=.ok (.ret (.bool true))∧OldK s₁.heap s'.heap∧s'.os=s₁.os∧AllBare s'.gens) s₁:=by
  intro S hO hS hok hA hK
  generalize hH:(fun b=>match ts.lookup b with | some q=>some (HO.tbl (q,#[])) | none=>S b:Hp)=H
  have H1:∀ b q,ts.lookup b=some q→H b=some (.tbl (q,#[])):=fun b q e=>by rw [←hH];simp [e]
  have H2:∀ b,ts.lookup b=none→H b=S b:=fun b e=>by rw [←hH];simp [e]
  have ta:∀ b,S b≠none→ts.lookup b=none:=fun b e=>by
   cases q:ts.lookup b with
   | none=>rfl
   | some q'=>
    have z:=hA b e
    subst z
    have:=(htab _ _ q).1
    rw [ha] at this;cases this
  have SH:aX S H:=fun b o e=>by rw [H2 b (ta b (by rw [e];simp))];exact e
  have hokH:HOk P w H s₁.heap:=fun b u e=>by
   cases q:ts.lookup b with
   | some q'=>
    rw [H1 b q' q] at e;cases e
    exact (htab _ _ q).1
   | none=>
    rw [H2 b q] at e
    exact (hok b u e).stay (fun _ _ _ z=>z) (fun b' z=>SH b' _ z) fun b' xs z=>SH b' _ z
  have free:∀ {b:Addr} {o:Obj},s₁.heap.get? b=some o→o≠PySem.W.tabObj #[]→o≠{ cls:=.type "list", data:=.seq vs.toArray }→H b=none:=fun {b o} e n1 n2=>by
   cases q:ts.lookup b with
   | some q'=>exact absurd (Option.some.inj (e.symm.trans (htab _ _ q).1)) n1
   | none=>
    rw [H2 b q]
    cases z:S b with
    | none=>rfl
    | some u=>
     have y:=hA b (by rw [z];simp)
     subst y
     exact absurd (Option.some.inj (e.symm.trans ha)) n2
  have base_of:∀ {b:Addr} {o:Obj},s₁.heap.get? b=some o→H b=none→(hidT s₁.heap H).get? b=some o:=fun e n=>hidT_get e n
  have nsK:∀ {b:Addr} {m:Str→Option Value},s₁.heap.Ns b m→(hidT s₁.heap H).Ns b m:=fun {b m} ⟨o,es,ep,e,d,r⟩=>⟨o,es,ep,base_of e (free e (fun z=>by rw [z] at d;cases d) fun z=>by rw [z] at d;cases d),d,r⟩
  have hKb:K.In (hidT s₁.heap H):=fun b o e=>base_of (KX b o e) (by
   cases q:ts.lookup b with
   | some q'=>rw [(htab _ _ q).2.2] at e;cases e
   | none=>
    rw [H2 b q]
    cases z:S b with
    | none=>rfl
    | some u=>
     have y:=hA b (by rw [z];simp)
     subst y
     rw [hK (by rw [z];simp)] at e;cases e)
  have hM:Mod K mg (hidT s₁.heap H):=⟨hKb,nsK hns,⟨mb,nsK hb,hbb⟩,let ⟨mc,h1,h2⟩:=hlim;⟨mc,nsK h1,h2⟩⟩
  have hB:BM mg (hidT s₁.heap H):=by
   obtain ⟨bm,ob,b1,b2,b3,b4,b5,b6,b7⟩:=hbm.ex
   exact ⟨bm,ob,b1,b2,b3,base_of b4 (free b4 (fun z=>by rw [z] at b5;cases b5) fun z=>by rw [z] at b5;injection b5 with b5;exact absurd b5 (by decide)),b5,b6,b7⟩
  have e0:Env0 P w K mg (hidT s₁.heap H) callerA [] s₁ H:=⟨rfl,hM,fun b o e=>of_hidT e,Nat.le_of_eq (hidT_size _ _),trivial,fun b hb=>absurd (show b∈([]:List Addr) from hb) (by simp),hokH,.of_eq hg⟩
  have tabs:lA K S H:=⟨fun x hx c T e=>⟨#[],H1 _ _ (hts x hx c T e),trivial,fun pos cv e=>by cases e⟩,fun b ps e=>by
   rcases hO b with z | ⟨o,xs,z⟩<;>rw [z] at e<;>cases e⟩
  refine codeAny_mono ((Fn _ hKb (nsK hns) hB).run callerA [] s₁ H ⟨[.ref a],[]⟩ [.ref a] [.ref a] (fun v _=>v=.bl true) E0 hr e0 (hbind s₁ (.ref a)) (.cons rfl .nil) ⟨S,[.list (ns.map .int)],.bool true,⟨SH,tabs⟩,.cons (.list hS (dW ns)) .nil,hF,fun v G' H' _ r=>by cases r;rfl⟩) fun r s' h=>?_
  cases r with
  | error e=>exact False.elim h
  | ok fl=>
   cases fl with
   | next=>exact False.elim h
   | brk=>exact False.elim h
   | cont=>exact False.elim h
   | ret u=>
    obtain ⟨v,H',os,bare,un,hok',r',q⟩:=h
    have q':v=.bl true:=q
    subst q'
    obtain rfl:u=Value.bool true:=r'
    refine ⟨rfl,⟨fun b o e=>?_,fun b o e=>un.there b o e (by simp)⟩,os,bare⟩
    cases y:ts.lookup b with
    | some q2=>
     obtain ⟨t1,t2,t3⟩:=htab _ _ y
     rw [e] at t1;cases t1
     obtain ⟨more,em⟩:=un.tbls b _ (H1 b q2 y)
     exact .inr (.inl ⟨t2,rfl,#[],more,rfl,hok' b _ em⟩)
    | none=>
     cases q:S b with
     | none=>exact .inl (un.keep b o e (by rw [H2 b y];exact q) (by intro z;exact absurd (show b∈([]:List Addr) from z) (by simp)) (by simp))
     | some u=>
      rcases hO b with z | ⟨ob,xs,z⟩
      ·rw [q] at z;cases z
      ·have z2:=un.frzs b ob _ (SH b _ z)
       obtain ⟨e1,_⟩:=hok b _ z
       obtain ⟨e2,_⟩:=hok' b _ z2
       rw [e] at e1;cases e1
       exact .inl e2
 cases hk:K.lookup a with
 | some o=>
  have e:=KX a o hk
  rw [ha] at e
  cases e
  refine core (fun _=>none) (fun _=>.inl rfl) (.inr ⟨_,vs.toArray,_,hk,rfl,rfl,rfl,by rw [List.size_toArray,lenV];exact hl,by simpa using rv⟩) (fun b u z=>by have z':(none:Option HO)=some u:=z;cases z') (fun b z=>absurd rfl z) fun z=>absurd rfl z
 | none=>
  refine core (fun b=>if b=a then some (.frz { cls:=.type "list", data:=.seq vs.toArray } (.lst (ns.map V.int))) else none) (fun b=>?_) (.inl (.inr ⟨{ cls:=.type "list", data:=.seq vs.toArray },if_pos rfl⟩)) (fun b u z=>?_) (fun b z=>?_) fun _=>hk
  ·by_cases hb:b=a
   ·exact .inr ⟨_,_,if_pos hb⟩
   ·exact .inl (if_neg hb)
  ·by_cases hb:b=a
   ·have z':=(if_pos hb).symm.trans z
    cases z'
    subst hb
    exact ⟨ha,by rw [List.length_map];exact hl,vs,_,rv,ha⟩
   ·have z':=(if_neg hb).symm.trans z
    cases z'
  ·by_cases hb:b=a
   ·exact hb
   ·exact absurd (if_neg hb) z
theorem walkL {l:PySem.W.OpenLaw} {k:Nat} {q:Program} {loose:List Str} {XP:(Str→Option Value)→Heap→Prop} {YP:World→Heap→Prop} {d:DefRec} {K:Params→PySem.W.Frag} {F:List PyData→Mm PyData} {x:Str} (ts:List (Addr×Str)) (hn:l.most=some 63) (hdf:d.params.defaults=[]) (hr:Room k callerA)
  (hY:∀ (w:World) (h:Heap),YP w h→(K w.params).In h) (hT:∀ (w:World) (h:Heap),YP w h→∀ p∈ts.map (·.1),h.get? p=some (PySem.W.tabObj #[])) (hcd:∀ w:World,∀ p∈ts,(∃ c,PySem.W.codeHdIn (K w.params) c p.1=true)∧(K w.params).lookup p.1=none)
  (hts:∀ w:World,∀ x∈gG,∀ c T,PySem.W.tabIn (K w.params) x=some (c,T)→ts.lookup T=some (lamQ x))
  (Fn:∀ (w:World) (mg:Str→Option Value) (fa:Addr) (h:Heap),(K w.params).In h→h.Ns mainGlobals mg→mg d.name=some (.ref fa) →
   ∃ fd:FuncData,(∀ (s:Shared) (u:Value),BindsTo s fd ⟨[u],[]⟩ [(x,u)])∧∀ base:Heap,(K w.params).In base→base.Ns mainGlobals mg→BM mg base→FnOk l.prog w (K w.params) mg base CX0 k fa fd [x] (spD (K w.params) fun ds d=>F ds=some (.ok d)))
  (hF:∀ ns:List Int,ns.length≤63→F [.list (ns.map .int)]=some (.ok (.bool true))) :
  PySem.W.WalkO q loose XP YP l.row.toRowW d [] (fun f vs=>PySem.call f vs):=by
 refine Att.attach_call hn hdf fun w s₀ s₁ mg mb fa o pm cd doc a vs ns G Y ho hd hcd' hmg hobj hints hlen hg=>?_
 have KX:=hY w _ Y
 obtain ⟨fd,hb,hFn⟩:=Fn w mg fa _ KX G.T.g hmg
 have hbm:BM mg s₁.heap:=by
  obtain ⟨bm,ob,b1,b2,b3,b4,b5,b6⟩:=G.T.bmain
  refine ⟨bm,ob,b1,b2,fun z=>?_,b3,b4,b5,b6⟩
  obtain ⟨o,es,ep,e,hd,_⟩:=G.T.g
  rw [z,e] at b3;cases b3;rw [hd] at b6;cases b6
 refine law_callL (ts:=ts) KX G.T.g G.T.b G.T.builtins G.T.nolimit hg hobj hints (Nat.le_trans hlen (by decide)) hr hbm (fun T q e=>?_) (hts w) hFn hb (hF ns hlen)
 have m:=look_mem e
 have e1:=hT w _ Y T (List.mem_map_of_mem (f:=(·.1)) m)
 obtain ⟨⟨c,hc⟩,hn'⟩:=hcd w _ m
 exact ⟨e1,((PySem.W.codeHd_of_K KX hc).tab e1).isCodeTable,hn'⟩
theorem lam_all {K:PySem.W.Frag} {ts:List (Addr×Str)} (h1:PySem.W.tabIn K "in_ending_order" = none∨∃ c T,PySem.W.tabIn K "in_ending_order" = some (c,T)∧ts.lookup T=some (lamQ "in_ending_order"))
  (h2:PySem.W.tabIn K "in_laying_order" = none∨∃ c T,PySem.W.tabIn K "in_laying_order" = some (c,T)∧ts.lookup T=some (lamQ "in_laying_order")):∀ x∈gG,∀ c T,PySem.W.tabIn K x=some (c,T)→ts.lookup T=some (lamQ x):=fun x hx c T e=>by
 unfold gG at hx
 rcases List.mem_cons.mp hx with rfl | hx
 ·rcases h1 with h | ⟨c',T',h,h'⟩
  ·rw [h] at e;cases e
  ·rw [h] at e;cases e;exact h'
 ·obtain rfl:=List.mem_singleton.mp hx
  rcases h2 with h | ⟨c',T',h,h'⟩
  ·rw [h] at e;cases e
  ·rw [h] at e;cases e;exact h'
theorem all_cons {α:Type} {p:α→Prop} {a:α} {l:List α} (h:p a) (t:∀ x∈l,p x):∀ x∈a::l,p x:=List.forall_mem_cons.mpr ⟨h,t⟩
end L2.L3
namespace L2.L3
open PySem
theorem atI_getD {α:Type} {xs:List α} {p:Int} (h0:0≤p) (h1:p<xs.length) (dflt:α):atI xs p=some (xs.getD p.toNat dflt):=by
 have e:((p.toNat:Nat):Int)=p:=by omega
 have lt:p.toNat<xs.length:=by omega
 have q:=atI_nn (xs:=xs) p.toNat
 rw [e] at q
 rw [q]
 simp [List.getD,List.getElem?_eq_getElem lt]
theorem getD_map {α β:Type} (f:α→β) (xs:List α) (i:Nat) (d:α):(xs.map f).getD i (f d)=f (xs.getD i d):=by
 simp only [List.getD,List.getElem?_map]
 cases xs[i]?<;>rfl
theorem atI_map {α β:Type} (f:α→β) {xs:List α} {p:Int} (h0:0≤p) (h1:p<xs.length) (dflt:α):atI (xs.map f) p=some (f (xs.getD p.toNat dflt)):=by
 rw [atI_getD h0 (by rw [List.length_map];exact h1) (f dflt),getD_map]
def cellOf (ns:List Int) (k:Int):Int:=
 if k<ns.length then ns.getD k.toNat 0 else if ns=[] then 0 else ns.getD (k % (ns.length:Int)).toNat 0*31+k
def drawnOf (ns:List Int) (k:Int):Int:=(cellOf ns k+6151*(k+1))*40692 % 2147483399
def pickOf (ns:List Int) (k many:Int):Int:=(drawnOf ns k*drawnOf ns k+drawnOf ns k / 31) % 2147483629 % many
theorem gY (ns:List Int) (k:Int) {many:Int} (h:0<many):0≤pickOf ns k many:=Int.emod_nonneg _ (by omega)
theorem gZ (ns:List Int) (k:Int) {many:Int} (h:0<many):pickOf ns k many<many:=Int.emod_lt_of_pos _ h
def bD:List Str:=["a", "b", "cc", "d", "e", "fx", "g", "h", "i", "jjjj"]
def spanOf (ns:List Int) (at':Int):Int:=([12,30,30,200]:List Int).getD (pickOf ns at' 4).toNat 0
theorem span_is (ns:List Int) (at':Int):spanOf ns at'=12∨spanOf ns at'=30∨spanOf ns at'=200:=by
 have h0:=gY ns at' (many:=4) (by decide)
 have h1:=gZ ns at' (many:=4) (by decide)
 unfold spanOf
 generalize pickOf ns at' 4=p at h0 h1
 have:p=0∨p=1∨p=2∨p=3:=by omega
 rcases this with rfl | rfl | rfl | rfl<;>simp
def iW (ns:List Int) (at':Int) (k:Nat):Int:=([3,8,spanOf ns at']:List Int).getD (pickOf ns (at'+12+3*(k:Int)) 3).toNat 0
theorem sizeTop_is (ns:List Int) (at':Int) (k:Nat):0<iW ns at' k∧iW ns at' k≤200:=by
 have h0:=gY ns (at'+12+3*(k:Int)) (many:=3) (by decide)
 have h1:=gZ ns (at'+12+3*(k:Int)) (many:=3) (by decide)
 have hs:=span_is ns at'
 unfold iW
 generalize pickOf ns (at'+12+3*(k:Int)) 3=p at h0 h1
 have:p=0∨p=1∨p=2:=by omega
 rcases this with rfl | rfl | rfl<;>simp<;>omega
def gE (ns:List Int) (at':Int) (k:Nat):Int:=pickOf ns (at'+10+3*(k:Int)) (spanOf ns at')
def iX (ns:List Int) (at':Int) (k:Nat):Int:=1+pickOf ns (at'+11+3*(k:Int)) (iW ns at' k)
def mkMt (ns:List Int) (at':Int) (k:Nat):Mt:=(bD.getD k "", gE ns at' k,gE ns at' k+iX ns at' k)
def iJ (ns:List Int) (at' most:Int):Nat:=(pickOf ns (at'+1) (most+1)).toNat
def iY (ns:List Int) (at' most:Int):List Mt:=(List.range (iJ ns at' most)).map (mkMt ns at')
theorem many_le {ns:List Int} {at' most:Int} (h:0≤most):((iJ ns at' most:Nat):Int)≤most:=by
 have h0:=gY ns (at'+1) (many:=most+1) (by omega)
 have h1:=gZ ns (at'+1) (many:=most+1) (by omega)
 unfold iJ
 omega
theorem sheet_len (ns:List Int) (at' most:Int):(iY ns at' most).length=iJ ns at' most:=by simp [iY]
theorem begin_is (ns:List Int) (at':Int) (k:Nat):0≤gE ns at' k∧gE ns at' k<200:=by
 have hs:=span_is ns at'
 have h0:=gY ns (at'+10+3*(k:Int)) (many:=spanOf ns at') (by omega)
 have h1:=gZ ns (at'+10+3*(k:Int)) (many:=spanOf ns at') (by omega)
 unfold gE
 omega
theorem size_is (ns:List Int) (at':Int) (k:Nat):1≤iX ns at' k∧iX ns at' k≤200:=by
 have hs:=sizeTop_is ns at' k
 have h0:=gY ns (at'+11+3*(k:Int)) (many:=iW ns at' k) hs.1
 have h1:=gZ ns (at'+11+3*(k:Int)) (many:=iW ns at' k) hs.1
 unfold iX
 omega
theorem nameTab_nodup:bD.Nodup:=by decide +kernel
theorem nameTab_ok:∀ x∈bD,PyData.strOk x=true:=by decide +kernel
structure SheetOk (s:List Mt):Prop where
 few:s.length≤10
 names:s.map (·.1)=bD.take s.length
 times:∀ m∈s,0≤m.2.1∧m.2.1<m.2.2∧m.2.2<400
theorem sheet_ok (ns:List Int) (at':Int) {most:Int} (h0:0≤most) (h1:most≤10):SheetOk (iY ns at' most):=by
 have hm:=many_le (ns:=ns) (at':=at') h0
 refine ⟨by rw [sheet_len];omega,?_,fun m hm'=>?_⟩
 ·rw [sheet_len]
  have hl:iJ ns at' most≤bD.length:=by show _≤10;omega
  unfold iY
  rw [List.map_map]
  apply List.ext_getElem?
  intro i
  rw [List.getElem?_map]
  by_cases hi:i<iJ ns at' most
  ·rw [List.getElem?_range hi,List.getElem?_take_of_lt hi]
   have hi':i<bD.length:=by omega
   simp [mkMt,List.getD,List.getElem?_eq_getElem hi']
  ·rw [List.getElem?_eq_none (by simpa using hi),List.getElem?_eq_none (by simp;omega)]
   rfl
 ·unfold iY at hm'
  obtain ⟨k,_,rfl⟩:=List.mem_map.mp hm'
  have hb:=begin_is ns at' k
  have hs:=size_is ns at' k
  simp only [mkMt]
  omega
theorem SheetOk.name_ok {s:List Mt} (S:SheetOk s):∀ m∈s,PyData.strOk m.1=true:=fun m hm=>by
 have:m.1∈s.map (·.1):=List.mem_map.mpr ⟨m,hm,rfl⟩
 rw [S.names] at this
 exact nameTab_ok _ (List.mem_of_mem_take this)
theorem SheetOk.nodup {s:List Mt} (S:SheetOk s):(s.map (·.1)).Nodup:=by
 rw [S.names]
 exact nameTab_nodup.sublist (List.take_sublist _ _)
abbrev dN (ns:List Int):PyData:=.list (ns.map .int)
theorem sh_list {ds:List PyData} {n:Nat} (h1:∀ d∈ds,PyData.canLay0 d=true) (h2:∀ d∈ds,PyData.depth d≤n) (h3:n<64):SeqAt.shaped (.list ds)=true:=by
 refine shaped_of (n:=n+1) ?_ ?_ h3
 ·rw [PyData.canLay0];exact kY h1
 ·rw [PyData.depth];have:=jI h2;omega
theorem sh_tuple {ds:List PyData} {n:Nat} (h1:∀ d∈ds,PyData.canLay0 d=true) (h2:∀ d∈ds,PyData.depth d≤n) (h3:n<64):SeqAt.shaped (.tuple ds)=true:=by
 refine shaped_of (n:=n+1) ?_ ?_ h3
 ·rw [PyData.canLay0];exact kY h1
 ·rw [PyData.depth];have:=jI h2;omega
theorem sh_ints (ns:List Int):SeqAt.shaped (.list (ns.map .int))=true:=sh_list (n:=1) (fun d hd=>by obtain ⟨i,_,rfl⟩:=List.mem_map.mp hd;simp [PyData.canLay0]) (fun d hd=>by obtain ⟨i,_,rfl⟩:=List.mem_map.mp hd;simp [PyData.depth]) (by decide)
theorem eq_lists {a b:List PyData} (h1:SeqAt.shaped (.list a)=true) (h2:SeqAt.shaped (.list b)=true):eqD (.list a) (.list b)=some (PyData.eqvAll a b):=by
 show (if (SeqAt.shaped (.list a)&&SeqAt.shaped (.list b))=true then some (PyData.eqv (.list a) (.list b)) else none)=_
 rw [h1,h2,if_pos (by rfl),eqv_list]
theorem ne_lists {a b:List PyData} (h1:SeqAt.shaped (.list a)=true) (h2:SeqAt.shaped (.list b)=true):neD (.list a) (.list b)=some (!PyData.eqvAll a b):=by
 show (if (SeqAt.shaped (.list a)&&SeqAt.shaped (.list b))=true then some (!PyData.eqv (.list a) (.list b)) else none)=_
 rw [h1,h2,if_pos (by rfl),eqv_list]
theorem eq_tuples {a b:List PyData} (h1:SeqAt.shaped (.tuple a)=true) (h2:SeqAt.shaped (.tuple b)=true):eqD (.tuple a) (.tuple b)=some (PyData.eqvAll a b):=by
 show (if (SeqAt.shaped (.tuple a)&&SeqAt.shaped (.tuple b))=true then some (PyData.eqv (.tuple a) (.tuple b)) else none)=_
 rw [h1,h2,if_pos (by rfl),eqv_tuple]
theorem ne_ints (a b:List Int):neD (.list (a.map .int)) (.list (b.map .int))=some (!decide (a=b)):=by rw [ne_lists (sh_ints a) (sh_ints b),eqvAll_ints]
theorem sh_nil:SeqAt.shaped (.list [])=true:=by decide +kernel
theorem eqv_nil (ds:List PyData):PyData.eqvAll ds []=ds.isEmpty:=by cases ds<;>simp [PyData.eqvAll]
theorem eq_nil {ds:List PyData} (h:SeqAt.shaped (.list ds)=true):eqD (.list ds) (.list [])=some ds.isEmpty:=by rw [eq_lists h sh_nil,eqv_nil]
abbrev t1_l_cell:TF:=fL ltD (var 1) (dP lenD (aC (var 0) aJ))
abbrev t2_l_cell:TF:=fL eqD (var 0) (lstE aJ)
def f_l_cell:SF:=(aY (ifS t1_l_cell (retS (op2 ixD (var 0) (var 1))) mZ) (aY (ifS t2_l_cell (retS (cst (.int 0))) mZ) (retS (op2 eG (op2 kT (op2 ixD (var 0) (op2 modD (var 1) (dP lenD (aC (var 0) aJ)))) (cst (.int 31))) (var 1)))))
def F_l_cell:List PyData→Mm PyData:=dJ 2 2 f_l_cell
def f_l_pick:SF:=(aY (fP 3 (op2 modD (op2 kT (op2 eG (aS F_l_cell (aC (var 0) (aC (var 1) aJ))) (op2 kT (cst (.int 6151)) (op2 eG (var 1) (cst (.int 1))))) (cst (.int 40692))) (cst (.int 2147483399)))) (retS (op2 modD (op2 modD (op2 eG (op2 kT (var 3) (var 3)) (op2 fdvD (var 3) (cst (.int 31)))) (cst (.int 2147483629))) (var 2))))
def bM:List PyData→Mm PyData:=dJ 4 3 f_l_pick
abbrev b1_l_sheet:SF:=aY (fP 7 (aS bM (aC (var 0) (aC (op2 eG (op2 eG (var 1) (cst (.int 10))) (op2 kT (cst (.int 3)) (var 6))) (aC (var 3) aJ))))) (aY (fP 8 (op2 eG (cst (.int 1)) (aS bM (aC (var 0) (aC (op2 eG (op2 eG (var 1) (cst (.int 11))) (op2 kT (cst (.int 3)) (var 6))) (aC (op2 ixD (lstE (aC (cst (.int 3)) (aC (cst (.int 8)) (aC (var 3) aJ)))) (aS bM (aC (var 0) (aC (op2 eG (op2 eG (var 1) (cst (.int 12))) (op2 kT (cst (.int 3)) (var 6))) (aC (cst (.int 3)) aJ))))) aJ)))))) (appS 5 (tupE (aC (op2 ixD (var 4) (var 6)) (aC (var 7) (aC (op2 eG (var 7) (var 8)) aJ))))))
def f_l_sheet:SF:=(aY (fP 3 (op2 ixD (lstE (aC (cst (.int 12)) (aC (cst (.int 30)) (aC (cst (.int 30)) (aC (cst (.int 200)) aJ))))) (aS bM (aC (var 0) (aC (var 1) (aC (cst (.int 4)) aJ)))))) (aY (fP 4 (lstE (aC (cst (.str "a")) (aC (cst (.str "b")) (aC (cst (.str "cc")) (aC (cst (.str "d")) (aC (cst (.str "e")) (aC (cst (.str "fx")) (aC (cst (.str "g")) (aC (cst (.str "h")) (aC (cst (.str "i")) (aC (cst (.str "jjjj")) aJ)))))))))))) (aY (newS 5 aJ) (aY (forS (.nm 6) (rng1 (aS bM (aC (var 0) (aC (op2 eG (var 1) (cst (.int 1))) (aC (op2 eG (var 2) (cst (.int 1))) aJ))))) b1_l_sheet) (frzS 5 (retS (dP tupD (aC (var 5) aJ))))))))
def mX:List PyData→Mm PyData:=dJ 9 3 f_l_sheet
theorem bU {m n:Nat} {f:SF} {ds:List PyData} {d:PyData} (hl:ds.length=n) (h:f (startN m ds)=some (.rt d)):dJ m n f ds=some (.ok d):=by
 unfold dJ;rw [if_pos hl,h]
theorem ix_ints {ns:List Int} {p:Int} (h0:0≤p) (h1:p<ns.length):ixD (.list (ns.map .int)) (.int p)=some (.int (ns.getD p.toNat 0)):=by
 show atI (ns.map PyData.int) p=_
 rw [atI_map PyData.int h0 h1 0]
theorem e_cell (ns:List Int) (k:Int) (h0:0≤k):F_l_cell [dN ns,.int k]=some (.ok (.int (cellOf ns k))):=by
 refine bU rfl ?_
 show f_l_cell [.val (dN ns),.val (.int k)]=_
 unfold f_l_cell cellOf
 by_cases h1:k<ns.length
 ·rw [mQ (d:=.int (ns.getD k.toNat 0)),if_pos h1]
  simp [h1]
  rw [atI_map PyData.int h0 h1 0]
  simp
 ·rw [aM (ρ':=[.val (dN ns),.val (.int k)]) (by simp [h1]),if_neg h1]
  by_cases h2:ns=[]
  ·subst h2
   rw [mQ (d:=.int 0),if_pos rfl]
   have h:eqD (dN []) (.list [])=some true:=eq_nil sh_nil
   simp [h]
  ·have he:(ns.map PyData.int).isEmpty=false:=by cases ns with
    | nil=>exact absurd rfl h2
    | cons a r=>rfl
   have h:eqD (dN ns) (.list [])=some false:=by rw [eq_nil (sh_ints ns),he]
   rw [aM (ρ':=[.val (dN ns),.val (.int k)]) (by simp [h]),if_neg h2]
   have lp:(0:Int)<(ns.length:Nat):=by cases ns with
    | nil=>exact absurd rfl h2
    | cons a r=>simp<;>omega
   have a1:=Int.emod_nonneg k (b:=(ns.length:Int)) (by omega)
   have a2:=Int.emod_lt_of_pos k lp
   have lp':0<ns.length:=by omega
   have ix:ixD (dN ns) (.int (k % (ns.length:Int)))=some (.int (ns.getD (k % (ns.length:Int)).toNat 0)):=ix_ints a1 a2
   have ml:kT (.int (ns.getD (k % (ns.length:Int)).toNat 0)) (.int 31)=some (.int (ns.getD (k % (ns.length:Int)).toNat 0*31)):=mul_iiR (by decide) (by decide)
   simp only [dO,op2_e,var_s,var_0,fI,bltE_e,cH,aNil_e,len_l,lft_s,mod_ii,List.length_map,if_pos lp,ix,cst_e,ml,add_ii,iT]
theorem drawn_lo (ns:List Int) (k:Int):0≤drawnOf ns k∧drawnOf ns k<2147483399:=⟨Int.emod_nonneg _ (by decide),Int.emod_lt_of_pos _ (by decide)⟩
theorem e_pick (ns:List Int) (k many:Int) (h0:0≤k) (hm:0<many):bM [dN ns,.int k,.int many]=some (.ok (.int (pickOf ns k many))):=by
 refine bU rfl ?_
 show f_l_pick [.val (dN ns),.val (.int k),.val (.int many),.no]=_
 have db:=drawn_lo ns k
 unfold f_l_pick
 rw [aM (ρ':=[.val (dN ns),.val (.int k),.val (.int many),.val (.int (drawnOf ns k))])]
 ·have hsq:kT (.int (drawnOf ns k)) (.int (drawnOf ns k))=some (.int (drawnOf ns k*drawnOf ns k)):=mul_iiR (by omega) (by omega)
  simp [hsq,hm,pickOf]
 ·have h2:kT (.int 6151) (.int (k+1))=some (.int (6151*(k+1))):=mul_iiL (by decide) (by decide)
  have h3:kT (.int (cellOf ns k+6151*(k+1))) (.int 40692)=some (.int ((cellOf ns k+6151*(k+1))*40692)):=mul_iiR (by decide) (by decide)
  simp [e_cell ns k h0,h2,h3,drawnOf]
theorem rangeD_map (n:Nat):gM 0 n=(List.range n).map fun (k:Nat)=>PyData.int (k:Int):=by simp [gM]
theorem e_sheet (ns:List Int) (at' most:Int) (h0:0≤at') (hm:0≤most) (hm2:most≤10):mX [dN ns,.int at',.int most]=some (.ok (dS (iY ns at' most))):=by
 refine bU rfl ?_
 show f_l_sheet [.val (dN ns),.val (.int at'),.val (.int most),.no,.no,.no,.no,.no,.no]=_
 have sp:=span_is ns at'
 have ml:=many_le (ns:=ns) (at':=at') hm
 have p0:=gY ns (at'+1) (many:=most+1) (by omega)
 have p1:=gZ ns (at'+1) (many:=most+1) (by omega)
 unfold f_l_sheet
 rw [aM (ρ':=[.val (dN ns),.val (.int at'),.val (.int most),.val (.int (spanOf ns at')),.no,.no,.no,.no,.no])]
 rotate_left
 ·have h:=ix_ints (ns:=[12,30,30,200]) (gY ns at' (many:=4) (by decide)) (gZ ns at' (by decide))
  have h':atI [PyData.int 12,.int 30,.int 30,.int 200] (pickOf ns at' 4)=some (.int (spanOf ns at')):=h
  simp [e_pick ns at' 4 h0 (by decide),h']
 rw [aM (ρ':=[.val (dN ns),.val (.int at'),.val (.int most),.val (.int (spanOf ns at')),.val (.list (bD.map .str)),.no,.no,.no,.no])]
 rotate_left
 ·simp [bD]
 rw [aM (ρ':=[.val (dN ns),.val (.int at'),.val (.int most),.val (.int (spanOf ns at')),.val (.list (bD.map .str)),.lst [],.no,.no,.no])]
 rotate_left
 ·simp
 -- the turns
 have hr:rng1 (aS bM (aC (var 0) (aC (op2 eG (var 1) (cst (.int 1))) (aC (op2 eG (var 2) (cst (.int 1))) aJ)))) [.val (dN ns),.val (.int at'),.val (.int most),.val (.int (spanOf ns at')),.val (.list (bD.map .str)),.lst [],.no,.no,.no]=some (.ok ((List.range (iJ ns at' most)).map fun (k:Nat)=>PyData.int (k:Int))):=by
  rw [rng1_at (n:=pickOf ns (at'+1) (most+1)) (by simp [e_pick ns (at'+1) (most+1) (by omega) (by omega)]) (by omega) (by omega),rangeD_map]
  rfl
 have turns:=loopS_inv (t:=.nm 6) (fun (k:Nat)=>PyData.int (k:Int)) (fun m ρ=>m≤10→∃ x y z,ρ=[.val (dN ns),.val (.int at'),.val (.int most),.val (.int (spanOf ns at')),.val (.list (bD.map .str)),.lst ((List.range m).map fun k=>dM (mkMt ns at' k)),x,y,z])
  (fb:=(aY (fP 7 (aS bM (aC (var 0) (aC (op2 eG (op2 eG (var 1) (cst (.int 10))) (op2 kT (cst (.int 3)) (var 6))) (aC (var 3) aJ))))) (aY (fP 8 (op2 eG (cst (.int 1)) (aS bM (aC (var 0) (aC (op2 eG (op2 eG (var 1) (cst (.int 11))) (op2 kT (cst (.int 3)) (var 6))) (aC (op2 ixD (lstE (aC (cst (.int 3)) (aC (cst (.int 8)) (aC (var 3) aJ)))) (aS bM (aC (var 0) (aC (op2 eG (op2 eG (var 1) (cst (.int 12))) (op2 kT (cst (.int 3)) (var 6))) (aC (cst (.int 3)) aJ))))) aJ)))))) (appS 5 (tupE (aC (op2 ixD (var 4) (var 6)) (aC (var 7) (aC (op2 eG (var 7) (var 8)) aJ))))))))
  (List.range (iJ ns at' most)) 0 [.val (dN ns),.val (.int at'),.val (.int most),.val (.int (spanOf ns at')),.val (.list (bD.map .str)),.lst [],.no,.no,.no] (fun _=>⟨.no,.no,.no,rfl⟩) (by
  intro m k ρ hk hp
  have hk':m<iJ ns at' most∧k=m:=by
   obtain ⟨h1,h2⟩:=List.getElem?_eq_some_iff.mp hk
   rw [List.length_range] at h1
   rw [List.getElem_range] at h2
   exact ⟨h1,h2.symm⟩
  obtain ⟨hk1,rfl⟩:=hk'
  obtain ⟨x,y,z,rfl⟩:=hp (by omega)
  rw [Nat.zero_add]
  have st:=sizeTop_is ns at' k
  have e1:=e_pick ns (at'+10+3*(k:Int)) (spanOf ns at') (by omega) (by omega)
  have e2:=e_pick ns (at'+12+3*(k:Int)) 3 (by omega) (by decide)
  have e3:=e_pick ns (at'+11+3*(k:Int)) (iW ns at' k) (by omega) st.1
  have h:=ix_ints (ns:=[3,8,spanOf ns at']) (gY ns (at'+12+3*(k:Int)) (many:=3) (by decide)) (show pickOf ns _ 3<(3:Int) from gZ ns _ (by decide))
  have h':atI [PyData.int 3,.int 8,.int (spanOf ns at')] (pickOf ns (at'+12+3*(k:Int)) 3)=some (.int (iW ns at' k)):=h
  have m3:kT (.int 3) (.int (k:Int))=some (.int (3*(k:Int))):=mul_iiL (by decide) (by decide)
  have nm:atI (bD.map PyData.str) (k:Int)=some (.str (bD.getD k "")):=by
   have:=atI_map PyData.str (xs:=bD) (p:=(k:Int)) (by omega) (by show _<(10:Int);omega) ""
   simpa using this
  have nm':ixD (.list (bD.map PyData.str)) (.int (k:Int))=some (.str (bD.getD k "")):=nm
  refine ⟨_,[.val (dN ns),.val (.int at'),.val (.int most),.val (.int (spanOf ns at')),.val (.list (bD.map .str)),.lst ((List.range k).map (fun k=>dM (mkMt ns at' k))++[dM (mkMt ns at' k)]),.val (.int k),.val (.int (gE ns at' k)),.val (.int (iX ns at' k))],rfl,.inl ?_,fun _=>⟨.val (.int k),.val (.int (gE ns at' k)),.val (.int (iX ns at' k)),by rw [List.range_succ,List.map_append];rfl⟩⟩
  simp only [List.set]
  rw [aM (ρ':=[.val (dN ns),.val (.int at'),.val (.int most),.val (.int (spanOf ns at')),.val (.list (bD.map .str)),.lst ((List.range k).map fun k=>dM (mkMt ns at' k)),.val (.int k),.val (.int (gE ns at' k)),z]) (by simp [m3,e1,gE])]
  rw [aM (ρ':=[.val (dN ns),.val (.int at'),.val (.int most),.val (.int (spanOf ns at')),.val (.list (bD.map .str)),.lst ((List.range k).map fun k=>dM (mkMt ns at' k)),.val (.int k),.val (.int (gE ns at' k)),.val (.int (iX ns at' k))]) (by simp [m3,e2,h',e3,iX])]
  refine appS_at (ds:=(List.range k).map fun k=>dM (mkMt ns at' k)) rfl (d:=dM (mkMt ns at' k)) ?_ (by simp;omega)
  simp only [tupE_e,cH,op2_e,var_s,var_0,fI,nm',lft_s,add_ii,aNil_e,mkTup_e]
  rfl)
 obtain ⟨ρ',e,hp⟩:=turns
 rw [List.length_range,Nat.zero_add] at hp
 obtain ⟨x',y',z',rfl⟩:=hp (by omega)
 rw [aM (ρ':=[.val (dN ns),.val (.int at'),.val (.int most),.val (.int (spanOf ns at')),.val (.list (bD.map .str)),.lst ((List.range (iJ ns at' most)).map fun k=>dM (mkMt ns at' k)),x',y',z'])]
 rotate_left
 ·rw [mG,bns_ok hr]
  exact e
 show retS (dP tupD (aC (var 5) aJ)) [.val (dN ns),.val (.int at'),.val (.int most),.val (.int (spanOf ns at')),.val (.list (bD.map .str)),.val (.list ((List.range (iJ ns at' most)).map fun k=>dM (mkMt ns at' k))),x',y',z']=_
 simp [iY,List.map_map,Function.comp_def]
end L2.L3
namespace L2.L3
open PySem
abbrev k1_names_of:EF:=cK (.nm 0) [none] (dH (var 0)) ttT (op2 ixD (var 0) (cst (.int 0)))
def nX:SF:=(retS k1_names_of)
def eQ:List PyData→Mm PyData:=dJ 1 1 nX
def f_is_whole:SF:=(retS (andE (op1 (isD "int") (var 0)) (notE (op1 (isD "bool") (var 0)))))
def fX:List PyData→Mm PyData:=dJ 1 1 f_is_whole
@[simp] theorem isE_e (neg:Bool) (k:PyData) (fa:EF) (ρ:List Ent):isE neg k fa ρ=bnd (fa ρ) fun x=>lft ((isB k x).map fun t=>.bool (neg != t)):=rfl
@[simp] theorem isT_e (neg:Bool) (k:PyData) (fa:EF) (ρ:List Ent):isT neg k fa ρ=bnd (fa ρ) fun x=>lft ((isB k x).map fun t=>neg != t):=rfl
@[simp] theorem isB_tt:isB (.bool true) (.bool true)=some true:=rfl
@[simp] theorem isB_ff:isB (.bool false) (.bool false)=some true:=rfl
@[simp] theorem isD_tt (ds:List PyData):isD "tuple" (.tuple ds)=some (.bool true):=rfl
@[simp] theorem isD_ii (i:Int):isD "int" (.int i)=some (.bool true):=rfl
@[simp] theorem isD_bi (i:Int):isD "bool" (.int i)=some (.bool false):=rfl
@[simp] theorem isD_ss (i:Str):isD "str" (.str i)=some (.bool true):=rfl
@[simp] theorem chn3E_e (g1 g2 g3:PyData→PyData→Option Bool) (fa fb fc fd:EF) (ρ:List Ent):chn3E g1 g2 g3 fa fb fc fd ρ=bnd (fa ρ) fun x=>bnd (fb ρ) fun y=>bnd (lft (g1 x y)) fun t=>if t then bnd (fc ρ) fun z=>bnd (lft (g2 y z)) fun u=>if u then bnd (fd ρ) fun w=>lft ((g3 z w).map .bool) else some (.ok (.bool false)) else some (.ok (.bool false)):=rfl
theorem all_bools (bs:List Bool):allB [.list (bs.map .bool)]=some (.bool (bs.all id)):=by
 show (cR lG (bs.map .bool)).map _=_
 rw [fJ (g:=.bool) (fun _=>rfl) bs];rfl
theorem e_names (s:List Mt) (hz:s.length≤100000):eQ [dS s]=some (.ok (.list ((s.map (·.1)).map .str))):=by
 refine bU rfl ?_
 show nX [.val (dS s)]=_
 have k1:k1_names_of [.val (dS s)]=some (.ok (.list (s.map fun m=>.str m.1))):=cO dM (fun m=>[.val (dM m)]) (fun m=>.str m.1) s (by simp) hz (fun m _=>by simp [bL]) (fun m _=>by simp)
 unfold nX
 rw [dO,k1,List.map_map]
 rfl
end L2.L3
namespace L2.L3
open PySem
theorem sset_int (ns:List Int) (h:ns.length<64):ssetD (.list (ns.map .int))=some (.list ((sortI (kX ns)).map .int)):=by
 simp only [ssetD,kA,if_pos h]
theorem e_whole (i:Int):fX [.int i]=some (.ok (.bool true)):=by kernel_rfl
@[simp] theorem at_4 (a b c d e:α) (r:List α):atI (a::b::c::d::e::r) 4=some e:=by
 unfold atI ixN
 rw [if_pos (by decide),if_pos (by simp<;>omega)];rfl
@[simp] theorem at_5 (a b c d e f:α) (r:List α):atI (a::b::c::d::e::f::r) 5=some f:=by
 unfold atI ixN
 rw [if_pos (by decide),if_pos (by simp<;>omega)];rfl
theorem nin_ints (i:Int) (ns:List Int):ninX (.int i) (.list (ns.map .int))=some (!decide (i∈ns)):=by
 show (Option.map _ (cR intD (ns.map .int))).map _=_
 rw [kA];rfl
theorem aZ {F:List PyData→Mm PyData} {aa:AF} {ρ:List Ent} {ds:List PyData} {d:PyData} (ha:aa ρ=some (.ok ds)) (h:F ds=some (.ok d)):aS F aa ρ=some (.ok d):=by
 rw [callE_e,ha,fI,h]
theorem or_ff {ft fu:TF} {ρ:List Ent} (h1:ft ρ=some (.ok false)) (h2:fu ρ=some (.ok false)):orT ft fu ρ=some (.ok false):=by
 rw [orT_e,h1,fI,if_neg (by decide),h2]
theorem fU {g:List PyData→Option PyData} {aa:AF} {ρ:List Ent} {ds:List PyData} {d:PyData} (ha:aa ρ=some (.ok ds)) (h:g ds=some d):dP g aa ρ=some (.ok d):=by
 rw [bltE_e,ha,fI,h];rfl
theorem thT_at {f:TF} {ρ:List Ent} {b:Bool} (h:f (frzAll ρ)=some (.ok b)):thT f ρ=some (.ok b):=by unfold thT;rw [h]
theorem fY {fa:EF} {ρ:List Ent} {d:PyData} {ds:List PyData} (ha:fa ρ=some (.ok d)) (hd:seqD d=some ds):dH fa ρ=some (.ok ds):=by
 rw [seqI_e,ha,fI,hd];rfl
end L2.L3
namespace L2.L3
open PySem
def prs {α:Type}:List α→List (α×α)
 | a::b::r=>(a,b)::prs (b::r)
 | _=>[]
def Flat (f:Int→Int) (cuts:List Int):Prop:=∀ p∈prs cuts,p.1<p.2∧∀ x,p.1≤x→x<p.2→f x=f p.1
end L2.L3
namespace L2.L3
open PySem
theorem mem_dedup_go:∀ (ns acc:List Int) (x:Int),x∈ns.foldl (fun a n=>if n∈a then a else a++[n]) acc↔x∈acc∨x∈ns
 | [],acc,x=>by simp
 | n::ns,acc,x=>by
  rw [List.foldl_cons,mem_dedup_go ns]
  by_cases h:n∈acc
  ·rw [if_pos h];simp;constructor
   ·rintro (h1 | h1);exact .inl h1;exact .inr (.inr h1)
   ·rintro (h1 | rfl | h1);exact .inl h1;exact .inl h;exact .inr h1
  ·rw [if_neg h];simp;constructor
   ·rintro ((h1 | h1) | h1);exact .inl h1;exact .inr (.inl h1);exact .inr (.inr h1)
   ·rintro (h1 | h1 | h1);exact .inl (.inl h1);exact .inl (.inr h1);exact .inr h1
theorem mem_dedup (ns:List Int) (x:Int):x∈kX ns↔x∈ns:=by unfold kX;rw [mem_dedup_go];simp
theorem lT:∀ (ns acc:List Int),acc.Nodup→(ns.foldl (fun a n=>if n∈a then a else a++[n]) acc).Nodup
 | [],acc,h=>h
 | n::ns,acc,h=>by
  rw [List.foldl_cons]
  refine lT ns _ ?_
  by_cases hn:n∈acc
  ·rw [if_pos hn];exact h
  ·rw [if_neg hn,List.nodup_append]
   refine ⟨h,by simp,fun a ha b hb=>?_⟩
   rw [List.mem_singleton] at hb
   subst hb
   exact fun z=>hn (z▸ha)
theorem nodup_dedup (ns:List Int):(kX ns).Nodup:=lT ns [] List.nodup_nil
end L2.L3
namespace L2.L3
open PySem
abbrev k1_names_at:EF:=cK (.tp [0,1,2]) [none,none,none,some 1] (dH (var 0)) (chnT leD ltD (var 1) (var 3) (var 2)) (var 0)
def nY:SF:=(retS k1_names_at)
def lB:List PyData→Mm PyData:=dJ 2 2 nY
def f_load_at:SF:=(retS (dP lenD (aC (aS lB (aC (var 0) (aC (var 1) aJ))) aJ)))
def mW:List PyData→Mm PyData:=dJ 2 2 f_load_at
def bH (m:Int) (x:Mt):Bool:=decide (x.2.1≤m)&&decide (m<x.2.2)
def fZ (s:List Mt) (m:Int):List Str:=(s.filter (bH m)).map (·.1)
def aU (s:List Mt) (m:Int):Int:=((fZ s m).length:Nat)
theorem e_names_at (s:List Mt) (m:Int) (h:s.length≤100000):lB [dS s,.int m]=some (.ok (.list ((fZ s m).map .str))):=by
 refine bU rfl ?_
 show nY [.val (dS s),.val (.int m)]=_
 unfold nY
 have:=cN (t:=.tp [0,1,2]) (cap:=[none,none,none,some 1]) (fi:=dH (var 0)) (ft:=chnT leD ltD (var 1) (var 3) (var 2)) (fe:=var 0) (ρ:=[.val (dS s),.val (.int m)]) dM (fun x=>[.val (.str x.1),.val (.int x.2.1),.val (.int x.2.2),.val (.int m)]) (bH m) (fun x=>.str x.1) s rfl h (fun x _=>rfl) (fun x _=>by simp [ite_and,bH]) (fun x _ _=>rfl)
 rw [dO,bns_ok this]
 simp [fZ]
theorem e_load_at (s:List Mt) (m:Int) (h:s.length≤100000):mW [dS s,.int m]=some (.ok (.int (aU s m))):=by
 refine bU rfl ?_
 show f_load_at [.val (dS s),.val (.int m)]=_
 simp [f_load_at,e_names_at s m h,aU]
section
variable {s:List Mt} {lo hi:Int} {r:List Int}
end
end L2.L3
namespace L2.L3
open PySem
def gr:List Mt→Option Int→List Mt
 | [],_=>[]
 | m::r,none=>m::gr r (some m.2.2)
 | m::r,some e=>if e≤m.2.1 then m::gr r (some m.2.2) else gr r (some e)
end L2.L3
namespace L2.L3
open PySem PySem.Spec PyProof.Rows
def insK (kf:Mt→PyData) (x:Mt):List Mt→List Mt
 | []=>[x]
 | y::l=>if ltT (kf y) (kf x) then y::insK kf x l else x::y::l
def srtM (kf:Mt→PyData) (s:List Mt):List Mt:=s.foldr (insK kf) []
section
variable {kf:Mt→PyData}
theorem insK_map (x:Mt):∀ l:List Mt,(insK kf x l).map kf=insT (kf x) (l.map kf)
 | []=>rfl
 | y::l=>by
  show List.map kf (if ltT (kf y) (kf x) then y::insK kf x l else x::y::l)=(if ltT (kf y) (kf x) then kf y::insT (kf x) (l.map kf) else kf x::kf y::l.map kf)
  split
  ·rw [List.map_cons,insK_map x l]
  ·rfl
theorem srtM_map:∀ s:List Mt,(srtM kf s).map kf=jW (s.map kf)
 | []=>rfl
 | x::s=>by
  show (insK kf x (srtM kf s)).map kf=insT (kf x) (jW (s.map kf))
  rw [insK_map,srtM_map s]
theorem insK_perm (x:Mt):∀ l:List Mt,(insK kf x l).Perm (x::l)
 | []=>.refl _
 | y::l=>by
  unfold insK
  split
  ·exact ((insK_perm x l).cons y).trans (.swap x y l)
  ·exact .refl _
theorem srtM_perm:∀ s:List Mt,(srtM kf s).Perm s
 | []=>.refl _
 | x::s=>(insK_perm x _).trans ((srtM_perm s).cons x)
theorem ix_at {g:List Bool} {s:List Mt} (hs:∀ m,bG g (kf m)=true) (nd:(s.map kf).Nodup) {i:Nat} (hi:i<s.length):ixK ((s.map kf).getD i .none) (s.map kf)=i:=by
 have hl:i<(s.map kf).length:=by simpa using hi
 have e:(s.map kf).getD i .none=(s.map kf)[i]:=by rw [List.getD_eq_getElem?_getD,List.getElem?_eq_getElem hl];rfl
 have sg:∀ j (hj:j<(s.map kf).length),bG g ((s.map kf)[j])=true:=fun j hj=>by rw [List.getElem_map];exact hs _
 rw [e]
 unfold ixK
 rw [List.findIdx_eq hl]
 refine ⟨by rw [ltT_irr (sg i hl)];rfl,fun j hj=>?_⟩
 have hj':j<(s.map kf).length:=by omega
 rcases ltT_tri (sg i hl) (sg j hj') with z | z | z
 ·rw [z];rfl
 ·exact absurd z.symm (List.pairwise_iff_getElem.mp nd j i hj' hl hj)
 ·rw [z];simp
theorem srtK_of {g:List Bool} {s:List Mt} (hs:∀ m,bG g (kf m)=true) (nd:(s.map kf).Nodup):srtK (s.map dM) (s.map kf)=some ((srtM kf s).map dM):=by
 unfold srtK
 rw [if_pos]
 ·rw [←srtM_map,List.map_map]
  refine congrArg some (List.map_congr_left fun m hm=>?_)
  have hm:=(srtM_perm s).mem_iff.mp hm
  obtain ⟨i,hi,rfl⟩:=List.mem_iff_getElem.mp hm
  have e:(s.map kf).getD i .none=kf s[i]:=by rw [List.getD_eq_getElem?_getD,List.getElem?_eq_getElem (by simpa using hi),List.getElem_map];rfl
  show (s.map dM).getD (ixK (kf s[i]) (s.map kf)) .none=_
  rw [←e,ix_at hs nd hi,List.getD_eq_getElem?_getD,List.getElem?_eq_getElem (by simpa using hi),List.getElem_map];rfl
 ·rw [List.all_eq_true]
  intro i hi
  have hi:i<s.length:=by simpa using List.mem_range.mp hi
  rw [beq_iff_eq]
  exact ix_at hs nd hi
theorem keyOk_map {k:Bool} {g:List Bool} {s:List Mt} (hs:∀ m,bG (k::g) (kf m)=true) (ht:∀ m,sigT (kf m)=some (k::g)):keyOk (s.map kf)=true:=by
 cases s with
 | nil=>rfl
 | cons m r=>
  show (match sigT (kf m) with | some (k::g)=>((m::r).map kf).all (bG (k::g)) | _=>false)=true
  rw [ht m]
  exact List.all_eq_true.mpr fun d hd=>by obtain ⟨n,_,rfl⟩:=List.mem_map.mp hd;exact hs n
theorem keysD_map {fe:EF} (h:∀ m:Mt,fe [.val (dM m)]=some (.ok (kf m))):∀ s:List Mt,keysD fe (s.map dM)=some (s.map kf)
 | []=>rfl
 | m::s=>by
  show (match fe [.val (dM m)] with | some (.ok k)=>(keysD fe (s.map dM)).map (k::·) | _=>none)=_
  rw [h m,keysD_map h s];rfl
theorem sortKD_map {fe:EF} {k:Bool} {g:List Bool} {s:List Mt} (h:∀ m:Mt,fe [.val (dM m)]=some (.ok (kf m))) (hs:∀ m,bG (k::g) (kf m)=true) (ht:∀ m,sigT (kf m)=some (k::g)) (nd:(s.map kf).Nodup) (hz:s.length<64) :
  sortKD fe (s.map dM)=some (.list ((srtM kf s).map dM)):=by
 unfold sortKD
 rw [keysD_map h s]
 show (if (keyOk (s.map kf)&&decide ((s.map kf).length<64))=true then (srtK (s.map dM) (s.map kf)).map PyData.list else none)=_
 rw [if_pos (by rw [keyOk_map hs ht,List.length_map,decide_eq_true hz];rfl),srtK_of hs nd];rfl
end
end L2.L3
namespace L2.L3
open PySem PySem.Spec PyProof.Rows
theorem eX {t:Tg} {fb:SF} {d:PyData} {ds:List PyData} {ρ ρ1 ρ2:List Ent} (h1:tgD t ρ d=some ρ1) (h2:fb ρ1=some (.nx ρ2)):cU t fb (d::ds) ρ=cU t fb ds ρ2:=by
 rw [cU,h1];dsimp only;rw [h2]
theorem any_bls (bs:List Bool):anyB [.list (bs.map .bool)]=some (.bool (bs.any id)):=by
 show (cR lG (bs.map .bool)).map _=_
 rw [fJ (g:=.bool) (fun _=>rfl) bs];rfl
end L2.L3
namespace L2.L3
open PySem
abbrev lE:EF:=cK (.tp [0,1,2]) [none,none,none,some 0] (dH (var 0)) ttT (aS mW (aC (var 3) (aC (var 1) aJ)))
def iP:SF:=(retS (dfE maxDf lE (cst (.int 0))))
def fK:List PyData→Mm PyData:=dJ 1 1 iP
def f_overlap:SF:=(retS (cmpE ltD (dP maxD (aC (op2 ixD (var 0) (cst (.int 1))) (aC (op2 ixD (var 1) (cst (.int 1))) aJ))) (dP minD (aC (op2 ixD (var 0) (cst (.int 2))) (aC (op2 ixD (var 1) (cst (.int 2))) aJ)))))
def fW:List PyData→Mm PyData:=dJ 2 2 f_overlap
section
variable {nm:Str} {b z v:Int} {n:Nat} {o:List Int}
end
section
variable {nm nm':Str} {b z v b' z' v':Int} {n n':Nat} {o o':List Int}
end
abbrev ov (x y:Mt):Prop:=max x.2.1 y.2.1<min x.2.2 y.2.2
theorem e_overlap (x y:Mt):fW [dM x,dM y]=some (.ok (.bool (decide (ov x y)))):=by
 refine bU rfl ?_
 show f_overlap [.val (dM x),.val (dM y)]=_
 simp [f_overlap]
theorem ov_comm (x y:Mt):ov x y↔ov y x:=by unfold ov;rw [Int.max_comm,Int.min_comm]
end L2.L3
namespace L2.L3
open PySem PySem.Spec PyProof.Rows
section
variable {P:Program} {w:World} {K:PySem.W.Frag} {mg:Str→Option Value} {base:Heap} {x:Str} {k:Nat} {ps N:List Str}
end
section
variable {X:Cx} {e:Expr} {fa:EF} {pos p pos2 p2:Pos}
end
section
variable {X:Cx} {a b:Expr} {pos p p2 pos2:Pos} {fa:EF}
def tLrng1 (t:TA):TE:=fun σ H Q=>t σ H fun xs H1=>∃ n:Int,(xs=[.int n])∧inRng n=true∧cZ n.toNat=true∧∀ l,H1 l=none→Q (.ref l) (upd H1 l (.lst (rngV 0 n.toNat)))
theorem pe_lrng1 {t:TA} (hc:X.calm=true) (h1:Gl X "list") (m1:X.mg "list" = none) (h2:Gl X "range") (m2:X.mg "range" = none) (ha:PA X [a] t) (he:starEach [a] X.env=(false,eval a X.env)::starEach [] X.env)
  (he2:starEach [.Call (.Name "range" p2) [a] [] pos2] X.env=(false,eval (.Call (.Name "range" p2) [a] [] pos2) X.env)::starEach [] X.env) (hpl:∀ q,(backTo q (starEach [] X.env)).any (·.1)=false) (hn:∀ q,backTo q (starEach [] X.env)=[]) :
  PE X (.Call (.Name "list" p) [.Call (.Name "range" p2) [a] [] pos2] [] pos) (tLrng1 t):=by
 intro pins s σ H Q I h
 refine wpAny_Call_Name_kw (gO I h1 m1 boot_list ?_)
 refine callWith_type1 ?_ he2 (hpl _)
 rw [he2]
 show wpAny _ _ (spliced ((false,eval (.Call (.Name "range" p2) [a] [] pos2) X.env)::backTo pos (starEach [] X.env))) _ _ s
 rw [hn]
 refine Calls.spliced_cons (wpAny_Call_Name_kw (gO I h2 m2 boot_range ?_))
 refine callWith_type1 (thn (ha pos2 pins s σ H _ I h) fun us s1 ⟨vs,H1,I1,r1,n,e1,q2,q3,q⟩=>?_) he (hpl _)
 subst e1
 obtain ⟨u,rfl,ru⟩:=vals1 r1
 obtain ⟨t',rfl⟩:=ru
 have b2:=inRng_is q2
 have hz:=of_decide_eq_true q3
 refine call_range_1 ?_
 refine Calls.spliced_nil (call_list_range (n:=n.toNat) (I1.ok.hd hc) (IsRange.new ..) (small_one (by decide) (by decide) b2.1 b2.2) (by rw [rangeSize_one];split<;>omega) (Nat.le_trans hz (by decide)) fun h' tk acc c' kp ho hi=>?_)
 have sz:(s1.heap.push { cls:=.type "range", data:=.fields #[.int 0 s1.toks,.int n t',.int 1 (s1.toks+1)] }).objs.size=s1.heap.objs.size+1:=Heap.size_push ..
 have lt:s1.heap.objs.size≤(s1.heap.push { cls:=.type "range", data:=.fields #[.int 0 s1.toks,.int n t',.int 1 (s1.toks+1)] }).objs.size:=by rw [sz];exact Nat.le_succ _
 have hf:=I1.hok.fresh lt
 refine ⟨.ref _,_,I1.laid (t':=tk) (o:=.lst (rngV 0 n.toNat)) (fun b o e=>kp b o (Heap.get?_push_of_some _ e)) lt ⟨?_,acc.toList,c',vals_range hi,?_⟩,rfl,q _ hf⟩
 ·unfold rngV;rw [List.length_map,List.length_map,List.length_range];exact fM q3
 ·rw [ho]
theorem de_lrng1 (m1:X.mg "list" = none) (m2:X.mg "range" = none) (ha:DE X a fa) (hc:X.calm=true:=by rfl) (h1:Gl X "list":=by rfl) (h2:Gl X "range":=by rfl) (he:starEach [a] X.env=(false,eval a X.env)::starEach [] X.env:=by rfl)
  (he2:starEach [.Call (.Name "range" p2) [a] [] pos2] X.env=(false,eval (.Call (.Name "range" p2) [a] [] pos2) X.env)::starEach [] X.env:=by rfl) :
  DE X (.Call (.Name "list" p) [.Call (.Name "range" p2) [a] [] pos2] [] pos) (lrng1 fa):=
 ⟨fun pins s σ H Q I ⟨ρ,r,H0,G₀,G,ef,R,q⟩=>by
  unfold lrng1 at ef
  split at ef
  ·rename_i n ea
   split at ef
   ·rename_i hz
    simp only [Bool.and_eq_true] at hz
    cases (Option.some.inj ef)
    refine pe_lrng1 hc h1 m1 h2 m2 (eJ ha.run iG he) he he2 (fun _=>rfl) (fun _=>rfl) pins s σ H Q I ⟨ρ,_,H0,G₀,G,ea,R,fun v G1 H1 g1 rv=>?_⟩
    cases rv
    exact ⟨n,rfl,hz.1,hz.2,fun l hl=>q _ _ _ (g1.trans (.put g1.sub hl)) (.list (.of aG) (rngV_rep _ _))⟩
   ·cases ef
  ·cases ef⟩
end
end L2.L3
namespace L2.SX
open PySem PyProof.Rows
section
variable {prog:Program} {w:World} {K:Type} [DecidableEq K] {knd:KeyKind prog w K} {A:Around} {E:Value→Shared→Prop} {s:Shared} {a:Addr}
theorem entry_dloop:entryFor table "dict.update.loop" = some Builtin.«dict.update.loop»:=entryFor_of_tree (by kernel_rfl)
theorem jC:plainId "dict.update.loop" = true:=by decide +kernel
theorem list_no_keys:typeLookup (.type "list") "keys" = pure none:=am_miss_of_fast (by kernel_rfl)
theorem keys_none {xs:Array Value} {n:Nat} {sl:Array (Option Value)} {Q:Option Value→Shared→Prop} (hx:s.heap.get? a=some { cls:=.type "list", dict:=none,data:=.seq xs n,slots:=sl }) (hA:A.handled=none)
  (h:∀ h' tk,(∀ b ob,s.heap.get? b=some ob→h'.get? b=some ob)→Q none { s with heap:=h',toks:=tk }):wpAny (model prog w) A (getAttr? (.ref a) "keys") Q E s:=by
 obtain ⟨hp,g,d,tk,os⟩:=s
 have hT:∀ tk',(⟨hp,g,d,tk',os⟩:Shared).TypeIs (.ref a) "list" := fun _=>⟨_,hx,rfl⟩
 have f1:=sub_AttributeError
 have f3:=F.slot_list_getattribute.lookup
 have f4:=F.slot_list_getattribute.bind (.ref a)
 have f5:=am_list_getattr_none
 have hmiss:=list_no_keys
 have hname:(["__module__", "__name__", "__qualname__", "__doc__", "__annotations__"]:List Str).contains "keys" = false:=by decide +kernel
 have hsz:("keys" : Str).length+100≤sizeLine:=by size_fits
 generalize ("keys" : Str)=name at hmiss hname hsz ⊢
 unfold getAttr? getAttrBy? getAttrBy
 repeat (any_goals (first | assumption | exact hT _ | ((with_reducible show wpAny _ _ (call (Value.builtin "list.__getattribute__") _ _) _ _ _);refine call_meets F.slot_list_getattribute (hT _) am_entry_list_getattribute (F.args_list_getattribute_2 _ _) (meets_getattribute_miss_list a xs n sl name _ hmiss hname hsz) ⟨hx,hA,fun h' tk' e hx'=>?_⟩) | wp_step))
 obtain ⟨t',u',he⟩:=hx'.there
 show wpAny _ _ (getattributeRaised _ _ _ _ _ _ _) _ _ _
 unfold getattributeRaised
 repeat (any_goals (first | assumption | wp_step))
 exact h _ _ hx'.keeps
end
section
variable {prog:Program} {w:World} {K:Type} [DecidableEq K] {knd:KeyKind prog w K} {A:Around} {R:Result→Shared→Prop} {I:Addr} {fp wr:List Addr} {G:Array GenState→Array GenState→Prop} {n:Nat} {P:Nat→Value→Prop} {St:Nat→Shared→Prop}
theorem dloop_ok (W:WalksS prog w A.in1 I fp wr G n P St) (D:Addr) (hDf:D∉fp) {h₀:Heap} (hwr:∀ b∈wr,h₀.get? b=none) (hD:h₀.get? D=none) (prs:List (K×Value)) (hn:prs.length=n)
  (hval:∀ i v,P i v→∃ t o x kv,v=.ref t∧h₀.get? t=some o∧o.cls=.type "tuple" ∧ (∃ m,o.data=.seq #[x,kv.2] m)∧knd.is kv.1 x=true∧prs[i]?=some kv) (hsz:n≤sizeLine) :
  ∀ (m i:Nat) (s:Shared),n - i=m→i≤n→St i s→(∀ b o,h₀.get? b=some o→s.heap.get? b=some o)→s.heap.DictOf knd D (merged [] (prs.take i)) →
   (∀ s',Moved (D::wr) G s s'→(∀ b o,h₀.get? b=some o→s'.heap.get? b=some o)→s'.heap.DictOf knd D (merged [] prs)→R (.ok (.ret .none)) s') →
   codeAny (model prog w) A (.builtin "dict.update.loop" ⟨[.ref D,.ref I,rawInt (i:Int),.none],[]⟩) R s:=by
 have nw:D∉wr:=fun z=>hDf (W.sub _ z)
 have up:∀ b∈wr,b∈D::wr:=fun b hb=>List.mem_cons_of_mem _ hb
 have keep:∀ {s s':Shared},Moved wr G s s'→(∀ b o,h₀.get? b=some o→s.heap.get? b=some o)→∀ b o,h₀.get? b=some o→s'.heap.get? b=some o:=fun mv k b o e=>mv.heap b o (fun z=>by rw [hwr b z] at e;cases e) (k b o e)
 intro m
 induction m with
 | zero=>
  intro i s hm hi st kp g hR
  obtain rfl:i=n:=by omega
  refine codeAny_builtin entry_dloop ?_
  rw [Around.under_plainId jC _]
  show wpAny _ A.in1 (pyNext (.ref I)>>=_) _ _ s
  refine wpAny_bind (W.done s _ _ st fun s' mv=>?_)
  show wpAny _ _ (Builtin.Dict.addKeywords D []>>=_) _ _ _
  refine wpAny_bind (wpAny_pure (wpAny_pure (hR s' (mv.mono up) (keep mv kp) ?_)))
  rw [←hn,List.take_length] at g
  obtain ⟨o',es,ep,h1,h2⟩:=g
  exact ⟨o',es,ep,mv.heap D o' nw h1,h2⟩
 | succ m ih=>
  intro i s hm hi st kp g hR
  have lt:i<n:=by omega
  refine codeAny_builtin entry_dloop ?_
  rw [Around.under_plainId jC _]
  show wpAny _ A.in1 (pyNext (.ref I)>>=_) _ _ s
  refine wpAny_bind (W.item i s _ _ lt st fun v s' pv st' mv=>?_)
  obtain ⟨t,o,x,kv,rfl,ho,hc,⟨mm,hd⟩,hk,hp⟩:=hval i v pv
  have kp':=keep mv kp
  have g':s'.heap.DictOf knd D (merged [] (prs.take i)):=by
   obtain ⟨o',es,ep,h1,h2⟩:=g
   exact ⟨o',es,ep,mv.heap D o' nw h1,h2⟩
  have hT:s'.TypeIs (.ref t) "tuple" := ⟨o,kp' t o ho,hc⟩
  refine wpAny_bind (wpAny_holding (wpAny_bind (wpAny_tryCatch ?_)))
  unfold Builtin.Dict.pairItems
  refine wpAny_bind (wpAny_typeOf hT ?_)
  rw [if_pos (by decide)]
  refine wpAny_bind (wpAny_seqItems (kp' t o ho) hd (wpAny_pure ?_))
  show wpAny _ _ (holding [x,kv.2] (dictSet D x kv.2)) _ _ _
  have hlen:(merged [] (prs.take i)).length≤sizeLine:=by
   have:=merged_length_le ([]:List (K×Value)) (prs.take i)
   rw [List.length_take] at this
   simp at this
   omega
  refine wpAny_holding (wpAny_dictSet_pairs hk g' (fun h' g2 sb=>?_) hlen)
  rw [←merged_take_succ _ _ _ _ hp] at g2
  refine wpAny_pure ⟨plainId_quiet jC _,ih (i+1) _ (by omega) lt (W.frame _ s' _ _ st' (Nat.le_succ _) fun c hc' o' e=>?_) (fun b o' e=>?_) g2 fun s'' mv'' kp'' g''=>?_⟩
  ·show h'.get? c=_
   rw [sb.2 c (fun z:c=D=>hDf (z▸hc'))]
   exact e
  ·show h'.get? b=_
   rw [sb.2 b (fun z:b=D=>by rw [z,hD] at e;cases e)]
   exact kp' b o' e
  ·refine hR s'' (Moved.trans W.gtrans ((mv.mono up).then_heap (Nat.le_succ _) fun c o' hc' e=>?_) mv'') kp'' g''
   show h'.get? c=_
   rw [sb.2 c (fun z:c=D=>hc' (by rw [z];exact List.mem_cons_self))]
   exact e
end
section
variable {prog:Program} {w:World} {K:Type} [DecidableEq K] {knd:KeyKind prog w K} {A:Around} {E:Value→Shared→Prop} {s:Shared}
theorem dict_of {l:Addr} {items:Array Value} {n:Nat} {sl:Array (Option Value)} {prs:List (K×Value)} {Q:Value→Shared→Prop} (hh:A.handled=none) (hl:s.heap.get? l=some { cls:=.type "list", dict:=none,data:=.seq items n,slots:=sl })
  (hn:prs.length=items.size) (hval:∀ (i:Nat) (v:Value),items[i]?=some v→∃ (t:Addr) (o:Obj) (x:Value) (kv:K×Value),v=.ref t∧s.heap.get? t=some o∧o.cls=.type "tuple" ∧ (∃ m,o.data=.seq #[x,kv.2] m)∧knd.is kv.1 x=true∧prs[i]?=some kv) (hsz:prs.length≤sizeLine)
  (h:∀ (h':Heap) (tk:Nat),h'.DictOf knd s.heap.objs.size (merged [] prs)→(∀ b o,s.heap.get? b=some o→h'.get? b=some o)→Q (.ref s.heap.objs.size) { s with heap:=h',toks:=tk }) :
  wpAny (model prog w) A (call (.type "dict") [.ref l]) Q E s:=by
 refine callType_codes (Q₁:=fun obj s₁=>obj=.ref s.heap.objs.size∧s₁={ s with heap:=s.heap.push { cls:=.type "dict", data:=.dict #[] } }) F.kt_called_dict (F.kt_typeCall_dict_1 _) F.entry_dict_init (kt_code_dict_new _ ⟨rfl,rfl⟩) ?_
 rintro obj s₁ ⟨rfl,rfl⟩
 have hnew:(s.heap.push { cls:=.type "dict", data:=.dict #[] }).DictOf knd s.heap.objs.size []:=Heap.DictOf.new s.heap
 have hl1:(s.heap.push { cls:=.type "dict", data:=.dict #[] }).get? l=some { cls:=.type "list", dict:=none,data:=.seq items n,slots:=sl }:=Heap.get?_push_of_some _ hl
 have hT:Shared.TypeIs { s with heap:=s.heap.push { cls:=.type "dict", data:=.dict #[] } } (.ref l) "list" := ⟨_,hl1,rfl⟩
 have lt:l<s.heap.objs.size:=Heap.lt_size hl
 refine ⟨hnew.typeIs,F.args_dict_init_2 _ _,?_⟩
 unfold Builtin.«dict.__init__»
 refine wpAny_bind ?_
 unfold Builtin.Dict.selfAndRest
 refine wpAny_bind (wpAny_notOrdered_dict hnew.typeIs ?_)
 show wpAny _ _ (pure (s.heap.objs.size,[Value.ref l])) _ _ _
 refine wpAny_pure ?_
 show wpAny _ _ (Builtin.Dict.updateFrom "dict.__init__" s.heap.objs.size (.ref l) [] .none) _ _ _
 unfold Builtin.Dict.updateFrom
 refine wpAny_bind (wpAny_typeOf hT ?_)
 rw [if_pos (by decide)]
 refine wpAny_bind (keys_none (A:=A.in1.in1) hl1 hh fun h1 tk1 k1=>?_)
 rw [if_pos (by rfl)]
 refine wpAny_bind (wpAny_rule ?_)
 have L1:h1.IsList l items:=⟨_,k1 _ _ hl1,rfl,n,rfl⟩
 refine wpAny_bind (wpAny_pyIter_list L1 ?_)
 have ltD:s.heap.objs.size<h1.objs.size:=Heap.lt_size (k1 _ _ (Heap.get?_push_size _ rfl))
 have nI:l≠h1.objs.size:=Nat.ne_of_lt (Nat.lt_trans lt ltD)
 have kp0:∀ b o,s.heap.get? b=some o→(h1.push { cls:=.type "list_iterator", data:=.fields #[.ref l,.int 0 0] }).get? b=some o:=fun b o e=>Heap.get?_push_of_some _ (k1 b o (Heap.get?_push_of_some _ e))
 refine wpAny_pure ⟨plainId_quiet jC _,?_⟩
 refine dloop_ok (knd:=knd) (A:=A.in1) ((Walks.list (A:=A.in1.in1) hh h1.objs.size l nI items).toS) s.heap.objs.size ?_ (h₀:=s.heap) ?_ (Heap.get?_none_of_le (Nat.le_refl _)) prs hn hval (by omega) (items.size - 0) 0 _ (by omega) (Nat.zero_le _) ⟨⟨_,Heap.get?_push_size _ rfl,rfl,rfl⟩,L1.push _⟩ kp0 ?_ ?_
 ·intro z
  rcases List.mem_cons.mp z with z | z
  ·exact absurd z (Nat.ne_of_lt ltD)
  ·rw [List.mem_singleton] at z
   exact absurd z (Nat.ne_of_gt lt)
 ·intro b hb
  rw [List.mem_singleton] at hb
  subst hb
  exact Heap.get?_none_of_le (Nat.le_of_lt ltD)
 ·obtain ⟨o',es,ep,h2,h3⟩:=hnew
  exact ⟨o',es,ep,Heap.get?_push_of_some _ (k1 _ _ h2),h3⟩
 ·intro s' mv kp g'
  obtain ⟨h',gs',dr',tk',os'⟩:=s'
  obtain rfl:gs'=s.gens:=mv.gens
  obtain rfl:dr'=s.drawn:=mv.drawn
  obtain rfl:os'=s.os:=mv.os
  exact ⟨rfl,h h' tk' g' kp⟩
end
end L2.SX
namespace L2.L3
open PySem PySem.Spec PyProof.Rows
def dKey:PyData→Option Key
 | .int i=>some (.inl i)
 | .str x=>some (.inr x)
 | _=>none
theorem fT (k:Key):dKey (bF k)=some k:=by cases k<;>rfl
theorem dKey_is {d:PyData} {k:Key} (h:dKey d=some k):d=bF k:=by
 unfold dKey at h;split at h
 ·cases h;rfl
 ·cases h;rfl
 ·cases h
def pairK:PyData→Option (Key×PyData)
 | .tuple [k,v]=>(dKey k).map (·,v)
 | _=>none
theorem pairK_is {d:PyData} {p:Key×PyData} (h:pairK d=some p):d=.tuple [bF p.1,p.2]:=by
 unfold pairK at h;split at h
 ·obtain ⟨k,hk,rfl⟩:=Option.map_eq_some_iff.mp h
  rw [dKey_is hk]
 ·cases h
def mkDict (kvs:List (Key×PyData)):PyData:=.dict (kvs.map fun p=>(bF p.1,p.2))
def dictD (ds:List PyData):Option PyData:=match ds with
 | [.list xs]=>match cR pairK xs with
  | some kvs=>if decide (kvs.map (·.1)).Nodup&&decide (kvs.length≤1000) then some (mkDict kvs) else none
  | none=>none
 | _=>none
def nD (k:Key):List (PyData×PyData)→Option PyData
 | []=>none
 | p::r=>if dKey p.1=some k then some p.2 else nD k r
def nW (x k:PyData):Option PyData:=match x,dKey k with
 | .dict D,some k=>nD k D
 | _,_=>none
def nB (k:Key):List (Key×V)→Option V
 | []=>none
 | p::r=>if p.1=k then some p.2 else nB k r
section
variable {K:PySem.W.Frag} {G:Hp}
theorem lookK_rep {k:Key} {d:PyData}:∀ {kvs:List (Key×V)} {D:List (PyData×PyData)},D.map (·.1)=kvs.map (fun p=>bF p.1)→RepAll K G (kvs.map (·.2)) (D.map (·.2))→nD k D=some d→∃ v,nB k kvs=some v∧Rep K G v d
 | [],[],_,_,h=>by cases h
 | [],_::_,e,_,_=>by simp at e
 | _::_,[],e,_,_=>by simp at e
 | q::kvs,p::D,e,.cons r t,h=>by
  rw [List.map_cons,List.map_cons,List.cons.injEq] at e
  unfold nD at h
  unfold nB
  rw [e.1,fT] at h
  by_cases c:q.1=k
  ·rw [if_pos (by rw [c])] at h
   rw [if_pos c]
   cases (Option.some.inj h)
   exact ⟨_,rfl,r⟩
  ·rw [if_neg (fun z=>c (Option.some.inj z))] at h
   rw [if_neg c]
   exact lookK_rep e.2 t h
theorem lookV_val {k:Key} {v:V}:∀ {kvs:List (Key×V)} {vs:List (Key×Value)},KV kvs vs→nB k kvs=some v→∃ u,valueAt vs k=some u∧RelV v u
 | _,_,.nil,h=>by cases h
 | q::kvs,p::vs,.cons r t,h=>by
  unfold nB at h
  have e:valueAt (p::vs) k=if p.1=k then some p.2 else valueAt vs k:=by
   unfold valueAt
   rw [List.find?_cons]
   by_cases c:p.1=k
   ·rw [if_pos c];simp [c]
   ·rw [if_neg c];simp [c]
  rw [e]
  by_cases c:q.1=k
  ·rw [if_pos c] at h
   rw [if_pos (r.1▸c)]
   cases (Option.some.inj h)
   exact ⟨_,rfl,r.2⟩
  ·rw [if_neg c] at h
   rw [if_neg (fun z=>c (r.1.trans z))]
   exact lookV_val t h
theorem rep_key {k:Key} {v:V} (r:Rep K G v (bF k)):v=kV k:=by
 cases k<;>(cases r;rfl)
end
section
variable {X:Cx} {e a b:Expr} {fa fb:EF} {pos p:Pos}
theorem inv_big {pins:List (Addr×Obj)} {σ:St} {H:Hp} {s:Shared} (I:Inv X pins σ H s):sysModules<s.heap.objs.size:=by
 have h:mainGlobals<s.heap.objs.size:=(I.mod.glob.keeps I.bk).lt
 exact Nat.lt_trans (by decide) h
theorem key_rel {P:Program} {w:World} {k:Key} {u:Value} (r:RelV (kV k) u):(aP P w).is k u=true:=by
 cases k with
 | inl i=>obtain ⟨t,rfl⟩:=r;exact mixKind_int P w i t
 | inr x=>obtain ⟨t,rfl⟩:=r;exact jE P w x t
def rIxK:R2:=fun x y H Q=>∃ p kvs k v,x=.ref p∧y=kV k∧H p=some (.dK kvs)∧nB k kvs=some v∧Q v H
theorem ix_dict:IxR X rIxK:=by
 intro value slice pins s σ H x y v u Q I rx ry h hs
 obtain ⟨p,kvs,k,z,rfl,rfl,hq,he,q⟩:=h
 cases rx
 obtain ⟨hz,hS,vs,kv,dd⟩:=(show bV X.prog X.w H s.heap p (.dK kvs) from I.hok p _ hq)
 obtain ⟨w,ew,rw'⟩:=lookV_val kv he
 exact subscriptTail_builtinR (x:=w) dd.typeIs slot_dict_getitem.lookup
  (wpAny_getItem_of (Q:=fun r s'=>r=w∧EP X pins σ Q r s') (key_rel ry) dd.mapOf ew ⟨rfl,z,H,I.tok _,rw',q⟩) hs
theorem de_ixK (ha:DE X a fa) (hb:DE X b fb) (hs:PlainIx b:=by exact fun _ _=>rfl):DE X (.Subscript a b pos) (op2 nW fa fb):=
 ⟨fun pins s σ H Q I ⟨ρ,r,H0,G₀,G,e,R,q⟩=>pe_ix ix_dict ha.run hb.run hs pins s σ H Q I (bE R e q.x fun x v G1 H1 g1 R1 rv e1=>bE R1 e1 (q.more g1).x fun y u G2 H2 g2 R2 ru e2=>by
  obtain ⟨d,ed,rfl⟩:=bI e2
  unfold nW at ed
  split at ed
  ·rename_i D k hk
   rw [dKey_is hk] at ru
   cases rep_key ru
   cases (rv.mono g2.gg) with
   | dict h e0 rr=>
    obtain ⟨w,ew,rw'⟩:=lookK_rep e0 rr ed
    exact ⟨_,_,k,w,rfl,rfl,g2.sub _ _ h,ew,q w _ _ (g1.trans g2) rw'⟩
  ·cases ed)⟩
theorem prs_of {pins:List (Addr×Obj)} {σ:St} {H:Hp} {s:Shared} (I:Inv X pins σ H s):∀ {ts:List V} {kvs:List (Key×V)} {its:List Value},Paired (fun t (kv:Key×V)=>∃ a,t=V.ref a∧SqT X.K H a [kV kv.1,kv.2]) ts kvs→aV ts its →
  ∃ prs:List (Key×Value),KV kvs prs∧∀ (i:Nat) (v:Value),its[i]?=some v→∃ (t:Addr) (o:Obj) (x:Value) (kv:Key×Value),v=.ref t∧s.heap.get? t=some o∧o.cls=.type "tuple" ∧ (∃ m,o.data=.seq #[x,kv.2] m)∧(aP X.prog X.w).is kv.1 x=true∧prs[i]?=some kv
 | _,_,_,.nil,.nil=>⟨[],.nil,fun i v e=>by simp at e⟩
 | _,_,_,.cons ⟨a,e,hq⟩ t,.cons r rs=>by
  obtain ⟨prs,h1,h2⟩:=prs_of I t rs
  subst e
  cases r
  obtain ⟨its,rv,⟨o,ho,hc,n,hd⟩,hz⟩:=I.tuple hq
  obtain ⟨u,w,rfl,r1,r2⟩:=vals2 rv
  rename_i kv _ _ _
  refine ⟨(kv.1,w)::prs,.cons ⟨rfl,r2⟩ h1,fun i v e=>?_⟩
  cases i with
  | zero=>
   simp at e
   exact ⟨a,o,u,(kv.1,w),e.symm,ho,hc,⟨n,hd⟩,key_rel r1,rfl⟩
  | succ i=>exact h2 i v (by simpa using e)
theorem kv_len {kvs:List (Key×V)} {vs:List (Key×Value)} (h:KV kvs vs):kvs.length=vs.length:=by
 have:=congrArg List.length (kv_parts h).1
 simpa using this
theorem paired_len {α β:Type} {F:α→β→Prop}:∀ {l:List α} {m:List β},Paired F l m→l.length=m.length
 | _,_,.nil=>rfl
 | _,_,.cons _ t=>by simp [paired_len t]
theorem call_dict (hc:X.calm=true):eB X (.type "dict") (fun xs H Q=>∃ (p:Addr) (ts:List V) (kvs:List (Key×V)),xs=[.ref p]∧SqL X.K H p ts∧Paired (fun t (kv:Key×V)=>∃ a,t=V.ref a∧SqT X.K H a [kV kv.1,kv.2]) ts kvs∧(kvs.map (·.1)).Nodup∧kvs.length≤1000 ∧
  ∀ l,H l=none→Q (.ref l) (upd H l (.dK kvs))):=by
 intro pins s σ H xs us Q I r ⟨p,ts,kvs,e,hq,hp,nd,hz,q⟩
 subst e
 obtain ⟨u,rfl,rx⟩:=vals1 r
 cases rx
 obtain ⟨its,rv,⟨o,n,ho,hcl,hdc,hda⟩,_⟩:=I.list hq
 obtain ⟨prs,kv,hv⟩:=prs_of I hp rv
 obtain ⟨oc,od,odt,osl⟩:=o
 dsimp only at hcl hdc hda
 subst hcl hdc hda
 have hd:=I.ok.hd hc
 have l1:=kv_len kv
 have l2:=paired_len hp
 have l3:=rv.length
 have hline:kvs.length≤sizeLine:=Nat.le_of_lt (eT (by omega))
 refine SX.dict_of (knd:=aP X.prog X.w) (prs:=prs) hd ho (by rw [List.size_toArray];omega) (fun i v e=>hv i v (by simpa using e)) (by omega) fun h' tk dd kp=>?_
 have nd':(prs.map (·.1)).Nodup:=by rw [←(kv_parts kv).1];exact nd
 rw [merged_nil_of_nodup prs nd'] at dd
 have big:=inv_big I
 have ne:(s.heap.objs.size==sysModules)=false:=beq_eq_false_iff_ne.mpr (Nat.ne_of_gt big)
 exact ⟨.ref s.heap.objs.size,_,I.laid (t':=tk) (a:=s.heap.objs.size) (o:=.dK kvs) kp (Nat.le_refl _) ⟨hline,ne,prs,kv,dd⟩,rfl,q _ I.fresh⟩
theorem pairs_rep {K:PySem.W.Frag} {G:Hp}:∀ {ts:List V} {xs:List PyData} {ks:List (Key×PyData)},RepAll K G ts xs→cR pairK xs=some ks→∃ kvs:List (Key×V),Paired (fun t (kv:Key×V)=>∃ a,t=V.ref a∧SqT K G a [kV kv.1,kv.2]) ts kvs∧kvs.map (·.1)=ks.map (·.1)∧RepAll K G (kvs.map (·.2)) (ks.map (·.2))
 | _,_,_,.nil,h=>by cases (Option.some.inj h);exact ⟨[],.nil,rfl,.nil⟩
 | _,d::ds,ks,.cons r t,h=>by
  unfold cR at h
  split at h
  ·cases h
  ·rename_i q hq
   obtain ⟨ks',h1,rfl⟩:=Option.map_eq_some_iff.mp h
   obtain ⟨kvs,p1,p2,p3⟩:=pairs_rep t h1
   rw [pairK_is hq] at r
   cases r with
   | tuple hs rr=>
    cases rr with | cons ra rr=>
    cases rr with | cons rb rr=>
    cases rr
    cases rep_key ra
    exact ⟨(q.1,_)::kvs,.cons ⟨_,rfl,hs⟩ p1,by rw [List.map_cons,List.map_cons,p2],.cons rb p3⟩
theorem dict_ok (hc:X.calm=true) (ds:List PyData) (d:PyData) (h:dictD ds=some d):CallD X (.type "dict") ds d:=by
 unfold dictD at h
 split at h
 ·split at h
  ·rename_i xs ks e
   split at h
   ·rename_i hh
    rw [Bool.and_eq_true,decide_eq_true_eq,decide_eq_true_eq] at hh
    cases (Option.some.inj h)
    exact ⟨_,call_dict hc,fun vs G H Q s r q=>by
     cases r with | cons r rr=>cases rr;cases r with | list hq r=>
      obtain ⟨kvs,p1,p2,p3⟩:=pairs_rep r e
      have hl:kvs.length=ks.length:=by have:=congrArg List.length p2;simpa using this
      refine ⟨_,_,kvs,rfl,s.seq hq,Paired.mapP p1 (fun a b ⟨t,e1,e2⟩=>⟨t,e1,nM s e2⟩),by rw [p2];exact hh.1,by omega,fun l hl=>?_⟩
      refine q _ _ _ (.put s hl) (.dict aG ?_ ?_)
      ·rw [List.map_map]
       have:ks.map ((fun x=>x.1)∘fun p:Key×PyData=>(bF p.1,p.2))=(ks.map (·.1)).map bF:=by rw [List.map_map];rfl
       rw [this,←p2,List.map_map];rfl
      ·rw [List.map_map]
       exact p3.mono (bJ (s.free hl))⟩
   ·cases h
  ·cases h
 ·cases h
theorem boot_dict:bootBuiltins "dict" = some (.type "dict"):=by kernel_rfl
end
def setCT (i:Nat) (f:EF):SF:=fun ρ=>match f (frzAll ρ) with
 | some (.ok (.list ds))=>if ds.all gN then some (.nx (ρ.set i (.val (.list ds)))) else none
 | _=>none
theorem RepAll.plain {K:PySem.W.Frag} {G G':Hp}:∀ {vs:List V} {ds:List PyData},ds.all gN=true→RepAll K G vs ds→RepAll K G' vs ds
 | _,_,_,.nil=>.nil
 | _,_,h,.cons r t=>by
  rw [List.all_cons,Bool.and_eq_true] at h
  exact .cons (r.plain h.1) (RepAll.plain h.2 t)
section
variable {X:Cx} {elt iter tg:Expr} {ifs:List Expr} {scope:Scope} {pos spos p:Pos} {N':List Str} {cap:List (Option Nat)} {t:Tg} {fi:AF} {ft:TF} {fe:EF}
theorem ds_setCT (i:Nat) {x:Str} (hN:X.N.Nodup) (hc:X.calm=true) (B:Blk X scope N' cap) (hi:DI X tg iter fi) (hf:tgFree cap t=true) (hg:∀ C s₃ H₃ fp,DG (bO X scope N' C s₃ H₃ fp) tg t) (ht:∀ C s₃ H₃ fp,DTs (bO X scope N' C s₃ H₃ fp) ifs ft)
  (he:∀ C s₃ H₃ fp,DE (bO X scope N' C s₃ H₃ fp) elt fe)
  (hxi:X.N[i]?=some x:=by rfl) (hx:X.env.scope.names.lookup x=some .local:=by rfl)
  (hsw:swapsWith (.ListComp elt [⟨tg,iter,ifs,0⟩] scope pos) (some (.Name x p)) spos.line X.env=pure true:=by rfl)
  (hs:∀ x,foldedSetIterable iter X.env x=pure x:=by intro _;rfl):DS X (.Assign [.Name x p] (.ListComp elt [⟨tg,iter,ifs,0⟩] scope pos) spos) (setCT i (cK t cap fi ft fe)):=⟨fun pins s σ H D I ⟨ρ,o,H0,G₀,G,e,R,q⟩=>by
 unfold setCT at e
 split at e
 ·rename_i ds0 e1
  split at e
  ·rename_i hpl
   cases (Option.some.inj e)
   obtain ⟨G',s',R'⟩:=R.frzAll
   rcases eF e1 with ⟨ds,e3,e4⟩ | ⟨c,_,e4⟩
   ·split at e4
    ·rename_i hz
     obtain ⟨d',ed,z⟩:=bI e4
     cases z
     obtain ⟨es,e5,z2⟩:=Option.map_eq_some_iff.mp ed
     cases z2
     obtain ⟨k1,rfl⟩:=iK e5
     refine ps_setC (g:=gU X.K ds (fun d=>d) (bL cap (frzAll ρ)) (cX t (bL cap (frzAll ρ)))) (tc:=tU X.K ds (cX t (bL cap (frzAll ρ))) (cT t (bL cap (frzAll ρ)) ft)) (te:=eU X.K ds (cX t (bL cap (frzAll ρ))) (cT t (bL cap (frzAll ρ)) ft) (cV t (bL cap (frzAll ρ)) fe)) hN hxi hx hc B (hi.pid e3).run
      (fun C s₃ H₃ fp pins s σ H v u Q I r ⟨x,hx,q⟩=>((hg C s₃ H₃ fp).run _ _ _ (k1 x hx).1).run pins s σ H v u Q I r q)
      (fun C s₃ H₃ fp pins s σ H Q I ⟨x,hx,q⟩=>((ht C s₃ H₃ fp).run _ _ (k1 x hx).2.1).run pins s σ H Q I q)
      (fun C s₃ H₃ fp pins s σ H Q I ⟨x,hx,hcx,H0,G₀,G,R,q⟩=>((he C s₃ H₃ fp).pd ((k1 x hx).2.2 hcx)).run H0 G₀ G pins s σ H Q I R q) hsw hs pins s σ H D I ?_
     refine ⟨H0,G₀,G',R',fun J G1 H1 g wk=>jV (φ:=fun d=>d) (R'.more g) (by simpa using wk) (.refl _) (fun x hx=>weak_tg hf (k1 x hx).1) (fM hz) fun Dd ys G2 H2 g2 hD hn ra=>?_⟩
     have gt:=g.trans g2
     have hH:H Dd=none:=by
      cases hq:H Dd with
      | none=>rfl
      | some o=>obtain ⟨o',e'⟩:=g.hh.ne hq;rw [e'] at hn;cases hn
     have hG:G Dd=none:=by
      cases hq:G Dd with
      | none=>rfl
      | some o=>rw [R.sub _ _ hq] at hH;cases hH
     have gr:Grow G H (upd G Dd (.lst ys)) H2:=⟨bJ hG,gt.hh,fun b o q=>by
      by_cases hb:b=Dd
      ·subst hb;rw [aG] at q;cases q;exact gt.sub _ _ hD
      ·rw [aE hb] at q;exact gt.sub _ _ (gt.gg _ _ (s' _ _ q)),fun b e n=>by
      rw [aE (fun z=>n (by rw [z];exact hH))];exact e,fun n=>n.upd (by nofun)⟩
     exact q _ H2 _ gr.gg ((R.more gr).set (.list (.of aG) (RepAll.plain hpl ra)))
    ·cases e4
   ·cases e4
  ·cases e
 ·cases e⟩
end
abbrev eP:EF:=tupE (aC (op2 ixD (var 0) (cst (.int 1))) (aC (op1 negD (op2 ixD (var 0) (cst (.int 2)))) (aC (op2 ixD (var 0) (cst (.int 0))) aJ)))
def fE:SF:=(retS (sortKE (var 0) eP))
def bW:List PyData→Mm PyData:=dJ 1 1 fE
abbrev nJ:SF:=augS 1 .Add (cst (.int 1))
abbrev jL:TF:=fL inX (var 1) (var 0)
def kW:SF:=(aY (fP 1 (cst (.int 0))) (aY (jK jL nJ 1000) (retS (var 1))))
def iB:List PyData→Mm PyData:=dJ 2 1 kW
abbrev dX:EF:=cK (.tp [0,1]) [none,none,some 2] (dH (var 1)) (truT (aS fW (aC (var 2) (aC (var 0) aJ)))) (var 1)
abbrev fV:SF:=aY (setCT 3 dX) (appS 1 (tupE (aC (var 2) (aC (aS iB (aC (var 3) aJ)) aJ))))
def gQ:SF:=(aY (newS 1 aJ) (aY (forS (.nm 2) (dH (aS bW (aC (var 0) aJ))) fV) (frzS 1 (retS (var 1)))))
def dC:List PyData→Mm PyData:=dJ 4 1 gQ
abbrev k1_columns:EF:=cK (.tp [0,1]) [none,none] (dH (aS dC (aC (var 0) aJ))) ttT (tupE (aC (op2 ixD (var 0) (cst (.int 0))) (aC (var 1) aJ)))
def f_columns:SF:=(retS (dP dictD (aC k1_columns aJ)))
def mY:List PyData→Mm PyData:=dJ 1 1 f_columns
abbrev kL (m:Mt):PyData:=.tuple [.int m.2.1,.int (-m.2.2),.str m.1]
theorem kL_inj (a b:Mt) (h:kL a=kL b):a=b:=by
 obtain ⟨a1,a2,a3⟩:=a
 obtain ⟨b1,b2,b3⟩:=b
 injection h with h
 injection h with h1 h
 injection h with h2 h
 injection h with h3 h
 injection h1 with h1
 injection h2 with h2
 injection h3 with h3
 have:a3=b3:=Int.neg_inj.mp h2
 subst h1 this h3;rfl
def dA (s:List Mt):List Mt:=srtM kL s
theorem dE (s:List Mt):(dA s).Perm s:=srtM_perm s
theorem layO_sorted (s:List Mt):SrtD ((dA s).map kL):=by
 unfold dA
 rw [srtM_map]
 exact lL (g:=[true,true,false]) _ fun d hd=>by obtain ⟨m,_,rfl⟩:=List.mem_map.mp hd;rfl
theorem nd_kL {s:List Mt} (h:(s.map (·.1)).Nodup):(s.map kL).Nodup:=by
 rw [List.Nodup,List.pairwise_map] at h ⊢
 exact h.imp fun {a b} n e=>n (by rw [kL_inj a b e])
theorem e_laying {s:List Mt} (nd:(s.map (·.1)).Nodup) (hz:s.length<64):bW [dS s]=some (.ok (.list ((dA s).map dM))):=by
 refine bU rfl ?_
 show fE [.val (dS s)]=_
 have e:sortKE (var 0) eP [.val (dS s)]=some (.ok (.list ((dA s).map dM))):=by
  show lft (sortKD eP (s.map dM))=_
  rw [sortKD_map (kf:=kL) (k:=true) (g:=[true,false]) (fun m=>rfl) (fun m=>rfl) (fun m=>rfl) (nd_kL nd) hz];rfl
 unfold fE
 rw [dO,e];rfl
theorem in_ints (c:Int) (ns:List Int):inX (.int c) (.list (ns.map .int))=some (decide (c∈ns)):=by
 show (cR intD (ns.map .int)).map _=_
 rw [kA];rfl
theorem wh_free {t:List Int} {B:Nat} (hB:¬(B:Int)∈t):∀ (n c:Nat),c≤B→B - c<n→(∀ j<c,(j:Int)∈t)→∃ r:Nat,jK jL nJ n [.val (.list (t.map .int)),.val (.int (c:Nat))]=some (.nx [.val (.list (t.map .int)),.val (.int (r:Nat))])∧r≤B∧¬(r:Int)∈t∧∀ j<r,(j:Int)∈t
 | 0,c,_,h,_=>by omega
 | n+1,c,hc,h,hj=>by
  have t1:jL [.val (.list (t.map .int)),.val (.int (c:Nat))]=some (.ok (decide ((c:Int)∈t))):=by
   show lft (inX (.int (c:Nat)) (.list (t.map .int)))=_
   rw [in_ints];rfl
  by_cases hm:(c:Int)∈t
  ·have ne:c≠B:=fun z=>hB (z▸hm)
   obtain ⟨r,e,h1,h2,h3⟩:=wh_free hB n (c+1) (by omega) (by omega) (fun j hjc=>by
    by_cases z:j=c
    ·rw [z];exact hm
    ·exact hj j (by omega))
   refine ⟨r,?_,h1,h2,h3⟩
   rw [jK];dsimp only;rw [t1,decide_eq_true hm]
   exact e
  ·refine ⟨c,?_,hc,hm,hj⟩
   rw [jK];dsimp only;rw [t1,decide_eq_false hm];rfl
theorem e_first_free {t:List Int} {B:Nat} (hB:¬(B:Int)∈t) (hb:B<900):∃ r:Nat,iB [.list (t.map .int)]=some (.ok (.int (r:Nat)))∧r≤B∧¬(r:Int)∈t∧∀ j<r,(j:Int)∈t:=by
 obtain ⟨r,e,h⟩:=wh_free hB 1000 0 (Nat.zero_le _) (by omega) (fun j hj=>by omega)
 refine ⟨r,bU rfl ?_,h⟩
 show kW [.val (.list (t.map .int)),.no]=_
 unfold kW
 rw [aM (ρ':=[.val (.list (t.map .int)),.val (.int ((0:Nat):Int))]) rfl,aM e];rfl
abbrev Ly:=Mt×Nat
abbrev dY (p:Ly):PyData:=.tuple [dM p.1,.int (p.2:Nat)]
def taken (P:List Ly) (m:Mt):List Int:=(P.filter fun p=>decide (ov m p.1)).map fun p=>(p.2:Int)
def iU:List Ly→List Ly→Prop
 | _,[]=>True
 | P,q::Q=>(¬(q.2:Int)∈taken P q.1∧∀ j<q.2,(j:Int)∈taken P q.1)∧iU (P++[q]) Q
theorem step_laid (S:Ent) (P:List Ly) (m:Mt) (y:Ent) (hP:∀ p∈P,p.2<P.length) (hz:P.length<100) :
  ∃ (r:Nat) (y':Ent),fV [S,.lst (P.map dY),.val (dM m),y]=some (.nx [S,.lst ((P++[(m,r)]).map dY),.val (dM m),y'])∧r≤P.length∧¬(r:Int)∈taken P m∧∀ j<r,(j:Int)∈taken P m:=by
 have hB:¬((P.length:Nat):Int)∈taken P m:=fun z=>by
  obtain ⟨p,hp,e⟩:=List.mem_map.mp z
  have:=hP p (List.mem_filter.mp hp).1
  omega
 obtain ⟨r,er,h1,h2,h3⟩:=e_first_free hB (by omega)
 have k1:dX (frzAll [S,.lst (P.map dY),.val (dM m),y])=some (.ok (.list ((taken P m).map .int))):=by
  unfold taken
  rw [List.map_map]
  exact cN dY (fun p=>[.val (dM p.1),.val (.int (p.2:Nat)),.val (dM m)]) (fun p=>decide (ov m p.1)) (fun p=>.int (p.2:Nat)) P rfl (by omega) (fun p _=>rfl) (fun p _=>by
   rw [truT_e,aZ (ds:=[dM m,dM p.1]) rfl (e_overlap m p.1)];rfl) (fun p _ _=>rfl)
 have s1:setCT 3 dX [S,.lst (P.map dY),.val (dM m),y]=some (.nx [S,.lst (P.map dY),.val (dM m),.val (.list ((taken P m).map .int))]):=by
  unfold setCT
  rw [k1]
  dsimp only
  rw [if_pos (List.all_eq_true.mpr fun d hd=>by obtain ⟨i,_,rfl⟩:=List.mem_map.mp hd;rfl)];rfl
 refine ⟨r,.val (.list ((taken P m).map .int)),?_,h1,h2,h3⟩
 show aY (setCT 3 dX) _ _=_
 rw [aM s1,appS_at (i:=1) (ds:=P.map dY) (d:=dY (m,r)) rfl (by rw [tupE_e,cH,cH,aZ (ds:=[.list ((taken P m).map .int)]) rfl er];rfl) (by rw [List.length_map];omega)]
 simp
theorem loop_laid (S:Ent):∀ (l:List Mt) (P:List Ly) (x y:Ent),(∀ p∈P,p.2<P.length)→P.length+l.length≤100→∃ (Q:List Ly) (x' y':Ent),cU (.nm 2) fV (l.map dM) [S,.lst (P.map dY),x,y]=some (.nx [S,.lst ((P++Q).map dY),x',y'])∧Q.map (·.1)=l∧(∀ p∈P++Q,p.2<(P++Q).length)∧iU P Q
 | [],P,x,y,hP,hz=>⟨[],x,y,by rw [List.append_nil];rfl,rfl,by rw [List.append_nil];exact hP,trivial⟩
 | m::l,P,x,y,hP,hz=>by
  rw [List.length_cons] at hz
  obtain ⟨r,y1,e1,h1,h2,h3⟩:=step_laid S P m y hP (by omega)
  obtain ⟨Q,x',y',e2,h4,h5,h6⟩:=loop_laid S l (P++[(m,r)]) (.val (dM m)) y1 (fun p hp=>by
   rw [List.length_append,List.length_singleton]
   rcases List.mem_append.mp hp with hp | hp
   ·have:=hP p hp;omega
   ·rw [List.mem_singleton.mp hp];show r<_;omega) (by rw [List.length_append,List.length_singleton];omega)
  rw [List.append_assoc] at e2 h5
  refine ⟨(m,r)::Q,x',y',?_,by rw [List.map_cons,h4],h5,⟨h2,h3⟩,h6⟩
  rw [List.map_cons,eX (t:=.nm 2) (ρ1:=[S,.lst (P.map dY),.val (dM m),y]) rfl e1]
  exact e2
structure LayOf (L:List Mt) (P:List Ly):Prop where
 ord:P.map (·.1)=dA L
 low:∀ p∈P,p.2<P.length
 laid:iU [] P
theorem LayOf.len {L:List Mt} {P:List Ly} (h:LayOf L P):P.length=L.length:=by
 rw [←List.length_map (f:=(·.1)),h.ord,(dE L).length_eq]
theorem e_laid {L:List Mt} (nd:(L.map (·.1)).Nodup) (hz:L.length<64):∃ P,LayOf L P∧dC [dS L]=some (.ok (.list (P.map dY))):=by
 have hl:=(dE L).length_eq
 obtain ⟨Q,x',y',e,h1,h2,h3⟩:=loop_laid (.val (dS L)) (dA L) [] .no .no (by simp) (by simp;omega)
 rw [List.nil_append] at e h2
 refine ⟨Q,⟨h1,h2,h3⟩,bU rfl ?_⟩
 show gQ [.val (dS L),.no,.no,.no]=_
 unfold gQ
 rw [aM (ρ':=[.val (dS L),.lst [],.no,.no]) rfl]
 rw [aM (ρ':=[.val (dS L),.lst (Q.map dY),x',y']) (by
  rw [mG,fY (aZ (ds:=[dS L]) rfl (e_laying nd hz)) rfl]
  exact e)]
 rfl
def lI (P:List Ly):PyData:=mkDict (P.map fun p=>(.inr p.1.1,.int (p.2:Nat)))
theorem LayOf.nd {L:List Mt} {P:List Ly} (h:LayOf L P) (nd:(L.map (·.1)).Nodup):(P.map fun p=>p.1.1).Nodup:=by
 have:P.map (fun p=>p.1.1)=(dA L).map (·.1):=by rw [←h.ord,List.map_map];rfl
 rw [this]
 exact ((dE L).map (·.1)).nodup_iff.mpr nd
theorem dictD_of {xs:List PyData} {kvs:List (Key×PyData)} (h:cR pairK xs=some kvs) (nd:(kvs.map (·.1)).Nodup) (hz:kvs.length≤1000):dictD [.list xs]=some (mkDict kvs):=by
 unfold dictD
 dsimp only
 rw [h]
 dsimp only
 rw [if_pos (by rw [Bool.and_eq_true,decide_eq_true_eq,decide_eq_true_eq];exact ⟨nd,hz⟩)]
theorem e_columns {L:List Mt} (nd:(L.map (·.1)).Nodup) (hz:L.length<64):∃ P,LayOf L P∧dC [dS L]=some (.ok (.list (P.map dY)))∧mY [dS L]=some (.ok (lI P)):=by
 obtain ⟨P,hP,e⟩:=e_laid nd hz
 refine ⟨P,hP,e,bU rfl ?_⟩
 have hl:=hP.len
 show f_columns [.val (dS L)]=_
 have k1:k1_columns [.val (dS L)]=some (.ok (.list (P.map fun p=>.tuple [.str p.1.1,.int (p.2:Nat)]))):=
  cO dY (fun p=>[.val (dM p.1),.val (.int (p.2:Nat))]) (fun p=>.tuple [.str p.1.1,.int (p.2:Nat)]) P (fY (aZ (ds:=[dS L]) rfl e) rfl) (by omega) (fun p _=>rfl) (fun p _=>rfl)
 have ad:cR pairK (P.map fun p=>.tuple [.str p.1.1,.int (p.2:Nat)])=some (P.map fun p=>(Sum.inr p.1.1,.int (p.2:Nat))):=by
  have:(P.map fun p=>PyData.tuple [.str p.1.1,.int (p.2:Nat)])=(P.map fun p=>((Sum.inr p.1.1:Key),PyData.int (p.2:Nat))).map fun q=>.tuple [bF q.1,q.2]:=by rw [List.map_map];rfl
  rw [this,fJ (g:=fun q:Key×PyData=>.tuple [bF q.1,q.2]) (fun q=>by show (dKey (bF q.1)).map (·,q.2)=_;rw [fT];rfl)]
 have dd:dictD [.list (P.map fun p=>.tuple [.str p.1.1,.int (p.2:Nat)])]=some (lI P):=by
  refine dictD_of ad ?_ (by rw [List.length_map];omega)
  have nk:=hP.nd nd
  rw [List.map_map]
  rw [List.Nodup,List.pairwise_map] at nk ⊢
  exact nk.imp fun {a b} n z=>n (Sum.inr.inj z)
 unfold f_columns
 rw [dO,fU (ds:=[.list (P.map fun p=>.tuple [.str p.1.1,.int (p.2:Nat)])]) (by rw [cH,k1];rfl) dd];rfl
def eD:List Ly→Str→Nat
 | [],_=>0
 | p::P,x=>if p.1.1=x then p.2 else eD P x
theorem get_col {x:Str}:∀ {P:List Ly},x∈P.map (fun p=>p.1.1)→nW (lI P) (.str x)=some (.int (eD P x:Nat))
 | [],h=>by simp at h
 | p::P,h=>by
  show (if (some (Sum.inr p.1.1):Option Key)=some (Sum.inr x) then some (PyData.int (p.2:Nat)) else nW (lI P) (.str x))=_
  unfold eD
  by_cases c:p.1.1=x
  ·rw [if_pos (by rw [c]),if_pos c]
  ·rw [if_neg (fun z=>c (Sum.inr.inj (Option.some.inj z))),if_neg c]
   have:x∈P.map (fun p=>p.1.1):=by
    rcases List.mem_cons.mp h with z | z
    ·exact absurd z.symm c
    ·exact z
   exact get_col this
theorem LayOf.mem {L:List Mt} {P:List Ly} (h:LayOf L P) {m:Mt} (hm:m∈L):m.1∈P.map (fun p=>p.1.1):=by
 have:P.map (fun p=>p.1.1)=(dA L).map (·.1):=by rw [←h.ord,List.map_map];rfl
 rw [this]
 exact List.mem_map_of_mem ((dE L).mem_iff.mpr hm)
theorem jX {α:Type} [DecidableEq α]:∀ {l m:List α},l.Nodup→(∀ x∈l,x∈m)→l.length≤m.length
 | [],m,_,_=>Nat.zero_le _
 | a::r,m,nd,h=>by
  rw [List.nodup_cons] at nd
  have ha:=h a (by simp)
  have:=jX (l:=r) (m:=m.erase a) nd.2 fun x hx=>(List.mem_erase_of_ne (fun z:x=a=>nd.1 (by rw [←z];exact hx))).mpr (h x (List.mem_cons_of_mem _ hx))
  rw [List.length_erase_of_mem ha] at this
  have hp:0<m.length:=List.length_pos_of_mem ha
  rw [List.length_cons];omega
theorem layO_begins (s:List Mt):(dA s).Pairwise (fun a b=>a.2.1≤b.2.1):=by
 have h:=layO_sorted s
 unfold SrtD at h
 rw [List.pairwise_map] at h
 refine h.imp fun {a b} z=>?_
 have z:(if eqC (.int b.2.1) (.int a.2.1) then ltR [.int (-b.2.2),.str b.1] [.int (-a.2.2),.str a.1] else decide (b.2.1<a.2.1))=false:=z
 by_cases c:b.2.1=a.2.1
 ·omega
 ·rw [if_neg (by simpa [eqC] using c),decide_eq_false_iff_not] at z
  omega
theorem laid_pw:∀ (Q P:List Ly),iU P Q→P.Pairwise (fun p q=>ov q.1 p.1→p.2≠q.2)→(P++Q).Pairwise (fun p q=>ov q.1 p.1→p.2≠q.2)
 | [],P,_,h=>by rw [List.append_nil];exact h
 | q::Q,P,hl,h=>by
  obtain ⟨⟨h1,_⟩,h2⟩:=hl
  have:=laid_pw Q (P++[q]) h2 (List.pairwise_append.mpr ⟨h,List.pairwise_singleton _ _,fun p hp r hr=>by
   rw [List.mem_singleton] at hr
   subst hr
   exact fun o e=>h1 (List.mem_map.mpr ⟨p,List.mem_filter.mpr ⟨hp,decide_eq_true o⟩,by rw [e]⟩)⟩)
  rw [List.append_assoc] at this
  exact this
theorem laid_sup:∀ (Q P:List Ly),iU P Q→(P++Q).Pairwise (fun p q=>p.1.2.1≤q.1.2.1)→∀ q∈Q,∀ j<q.2,∃ p∈P++Q,p.2=j∧ov q.1 p.1∧p.1.2.1≤q.1.2.1
 | [],P,_,_,q,hq,_,_=>by cases hq
 | x::Q,P,hl,hb,q,hq,j,hj=>by
  obtain ⟨⟨_,h1⟩,h2⟩:=hl
  rcases List.mem_cons.mp hq with rfl | hq
  ·obtain ⟨p,hp,e⟩:=List.mem_map.mp (h1 j hj)
   obtain ⟨hp,ho⟩:=List.mem_filter.mp hp
   refine ⟨p,List.mem_append_left _ hp,by omega,of_decide_eq_true ho,?_⟩
   exact (List.pairwise_append.mp hb).2.2 p hp q (by simp)
  ·have e:P++x::Q=(P++[x])++Q:=by simp
   rw [e] at hb ⊢
   exact laid_sup Q (P++[x]) h2 hb q hq j hj
section
variable {L:List Mt} {P:List Ly}
theorem LayOf.begins (h:LayOf L P):P.Pairwise (fun p q=>p.1.2.1≤q.1.2.1):=by
 have:=layO_begins L
 rw [←h.ord,List.pairwise_map] at this
 exact this
theorem LayOf.diff (h:LayOf L P):P.Pairwise (fun p q=>ov q.1 p.1→p.2≠q.2):=by
 have:=laid_pw P [] h.laid .nil
 simpa using this
theorem LayOf.sup (h:LayOf L P) {q:Ly} (hq:q∈P) {j:Nat} (hj:j<q.2):∃ p∈P,p.2=j∧ov q.1 p.1∧p.1.2.1≤q.1.2.1:=by
 have:=laid_sup P [] h.laid (by simpa using h.begins) q hq j hj
 simpa using this
theorem LayOf.perm (h:LayOf L P):(P.map (·.1)).Perm L:=by rw [h.ord];exact dE L
def atP (d:Int) (P:List Ly):List Ly:=P.filter fun p=>bH d p.1
theorem eC {d:Int} {m:Mt}:bH d m=true↔m.2.1≤d∧d<m.2.2:=by unfold bH;simp
theorem LayOf.nodupAt (h:LayOf L P) (d:Int):((atP d P).map (·.2)).Nodup:=by
 unfold atP
 rw [List.Nodup,List.pairwise_map]
 refine List.Pairwise.imp_of_mem (fun {p q} hp hq z=>z ?_) (h.diff.filter _)
 have h1:=eC.mp (List.mem_filter.mp hp).2
 have h2:=eC.mp (List.mem_filter.mp hq).2
 unfold ov
 omega
theorem LayOf.load (h:LayOf L P) (d:Int):aU L d=((atP d P).length:Nat):=by
 unfold aU fZ atP
 rw [List.length_map,←(h.perm.filter (bH d)).length_eq,List.filter_map,List.length_map];rfl
theorem LayOf.up (h:LayOf L P) (hp:∀ m∈L,m.2.1<m.2.2) {q:Ly} (hq:q∈P):q.2+1≤(atP q.1.2.1 P).length:=by
 have hqL:q.1∈L:=h.perm.mem_iff.mp (List.mem_map_of_mem hq)
 have:=jX (l:=List.range (q.2+1)) (m:=(atP q.1.2.1 P).map (·.2)) List.nodup_range fun j hj=>by
  have hj:=List.mem_range.mp hj
  by_cases c:j<q.2
  ·obtain ⟨p,h1,h2,h3,h4⟩:=h.sup hq c
   refine List.mem_map.mpr ⟨p,List.mem_filter.mpr ⟨h1,eC.mpr ⟨h4,?_⟩⟩,h2⟩
   unfold ov at h3
   omega
  ·have:j=q.2:=by omega
   subst this
   exact List.mem_map.mpr ⟨q,List.mem_filter.mpr ⟨hq,eC.mpr ⟨Int.le_refl _,hp q.1 hqL⟩⟩,rfl⟩
 simpa using this
theorem col_self:∀ {P:List Ly},(P.map fun p=>p.1.1).Nodup→∀ p∈P,eD P p.1.1=p.2
 | [],_,p,h=>by cases h
 | q::P,nd,p,h=>by
  rw [List.map_cons,List.nodup_cons] at nd
  unfold eD
  rcases List.mem_cons.mp h with rfl | h
  ·rw [if_pos rfl]
  ·rw [if_neg (fun z:q.1.1=p.1.1=>nd.1 (by rw [z];exact List.mem_map_of_mem (f:=fun p:Ly=>p.1.1) h))]
   exact col_self nd.2 p h
end
def eO (L:List Mt):Int:=if L=[] then 0 else maxI (L.map fun x=>aU L x.2.1)
theorem e_most (s:List Mt) (hz:s.length≤1000):fK [dS s]=some (.ok (.int (eO s))):=by
 have k1:lE [.val (dS s)]=some (.ok (.list ((s.map fun x=>aU s x.2.1).map .int))):=by
  rw [List.map_map]
  exact cO dM (fun x=>[.val (.str x.1),.val (.int x.2.1),.val (.int x.2.2),.val (dS s)]) (fun x=>.int (aU s x.2.1)) s (by simp) (by omega) (fun x _=>by simp [bL]) (fun x _=>aZ (ds:=[dS s,.int x.2.1]) rfl (e_load_at s x.2.1 (by omega)))
 refine bU rfl ?_
 show iP [.val (dS s)]=_
 unfold iP
 rw [dO,df_at (x:=.list ((s.map fun x=>aU s x.2.1).map .int)) (y:=.int 0) k1 rfl (d:=.int (eO s)) (by
  unfold maxDf eO
  dsimp only
  rw [kA]
  cases s with
  | nil=>rfl
  | cons a r=>rfl)]
 rfl
theorem load_nonneg (L:List Mt) (d:Int):0≤aU L d:=by unfold aU;omega
theorem most_ge (L:List Mt) (d:Int):aU L d≤eO L:=by
 by_cases e:L=[]
 ·subst e;unfold eO;rw [if_pos rfl];exact Int.le_refl _
 ·unfold eO
  rw [if_neg e]
  by_cases z:L.filter (bH d)=[]
  ·have h0:aU L d=0:=by unfold aU fZ;rw [z];rfl
   rw [h0]
   have hm:=maxI_mem (ns:=L.map fun x=>aU L x.2.1) (by simp [e])
   obtain ⟨x,_,hx⟩:=List.mem_map.mp hm
   rw [←hx];exact load_nonneg _ _
  ·have hm:=maxI_mem (ns:=(L.filter (bH d)).map (·.2.1)) (by simp [z])
   obtain ⟨x,hx,hxe⟩:=List.mem_map.mp hm
   obtain ⟨hxL,hxd⟩:=List.mem_filter.mp hx
   have hxd:=eC.mp hxd
   have le:aU L d≤aU L x.2.1:=by
    unfold aU fZ
    rw [List.length_map,List.length_map]
    have:(L.filter (bH d)).length≤(L.filter (bH x.2.1)).length:=by
     have:L.filter (bH d)=(L.filter (bH x.2.1)).filter (bH d):=by
      rw [List.filter_filter]
      refine List.filter_congr fun m hm=>?_
      rw [Bool.eq_iff_iff,Bool.and_eq_true]
      constructor
      ·intro h
       refine ⟨h,eC.mpr ?_⟩
       have hd:=eC.mp h
       have:=maxI_ge (ns:=(L.filter (bH d)).map (·.2.1)) (List.mem_map.mpr ⟨m,List.mem_filter.mpr ⟨hm,h⟩,rfl⟩)
       omega
      ·exact fun h=>h.1
     rw [this];exact List.length_filter_le _ _
    omega
   exact Int.le_trans le (maxI_ge (List.mem_map.mpr ⟨x,hxL,rfl⟩))
theorem most_at (L:List Mt):eO L=0∨∃ m∈L,eO L=aU L m.2.1:=by
 by_cases e:L=[]
 ·left;unfold eO;rw [if_pos e]
 ·right
  unfold eO
  rw [if_neg e]
  obtain ⟨x,hx,h⟩:=List.mem_map.mp (maxI_mem (ns:=L.map fun x=>aU L x.2.1) (by simp [e]))
  exact ⟨x,hx,h.symm⟩
end L2.L3
namespace L2.L3
open PySem
def fN:List Mt→List Mt→Int→List (List Mt)
 | [],cur,_=>[cur]
 | m::l,cur,reach=>if m.2.1<reach then fN l (cur++[m]) (max reach m.2.2) else cur::fN l [m] m.2.2
def bY:List Mt→List (List Mt)
 | []=>[]
 | m::l=>fN l [m] m.2.2
theorem kU:∀ (l cur:List Mt) (r:Int),(fN l cur r).flatten=cur++l
 | [],cur,r=>by simp [fN]
 | m::l,cur,r=>by
  unfold fN
  split
  ·rw [kU l];simp
  ·rw [List.flatten_cons,kU l];rfl
theorem fQ (l:List Mt):(bY l).flatten=l:=by
 cases l with
 | nil=>rfl
 | cons m l=>exact kU l [m] _
structure Rch (cur:List Mt) (r:Int):Prop where
 top:∀ a∈cur,a.2.2≤r
 at':∃ a∈cur,a.2.2=r
theorem Rch.one (m:Mt):Rch [m] m.2.2:=⟨fun a h=>by rw [List.mem_singleton.mp h];exact Int.le_refl _,m,by simp,rfl⟩
theorem Rch.more {cur:List Mt} {r:Int} (h:Rch cur r) (m:Mt):Rch (cur++[m]) (max r m.2.2):=by
 refine ⟨fun a ha=>?_,?_⟩
 ·rcases List.mem_append.mp ha with ha | ha
  ·have:=h.top a ha;omega
  ·rw [List.mem_singleton.mp ha];omega
 ·obtain ⟨a,ha,e⟩:=h.at'
  by_cases c:r≤m.2.2
  ·exact ⟨m,by simp,by omega⟩
  ·exact ⟨a,List.mem_append_left _ ha,by omega⟩
theorem mE:∀ (l cur:List Mt) (r:Int),Rch cur r→(cur++l).Pairwise (fun a b=>a.2.1≤b.2.1)→(fN l cur r).Pairwise fun A B=>∀ a∈A,∀ b∈B,a.2.2≤b.2.1
 | [],cur,r,_,_=>by unfold fN;exact List.pairwise_singleton _ _
 | m::l,cur,r,h,hb=>by
  unfold fN
  split
  ·refine mE l _ _ (h.more m) ?_
   rw [List.append_assoc];exact hb
  ·rename_i c
   have hb':([m]++l).Pairwise (fun a b=>a.2.1≤b.2.1):=(List.pairwise_append.mp hb).2.1
   refine .cons (fun B hB a ha b hb2=>?_) (mE l [m] m.2.2 (.one m) hb')
   have hm:b∈m::l:=by
    have:b∈(fN l [m] m.2.2).flatten:=List.mem_flatten.mpr ⟨B,hB,hb2⟩
    rw [kU] at this
    exact this
   have h1:=h.top a ha
   rcases List.mem_cons.mp hm with rfl | hm
   ·omega
   ·have:=(List.pairwise_cons.mp hb').1 b hm
    omega
def Hang:List Mt→List Mt→Prop
 | _,[]=>True
 | A,m::l=>(∃ a∈A,m.2.1<a.2.2)∧Hang (A++[m]) l
theorem hang_snoc:∀ (l A:List Mt) (m:Mt),Hang A l→(∃ a∈A++l,m.2.1<a.2.2)→Hang A (l++[m])
 | [],A,m,_,h=>⟨by simpa using h,trivial⟩
 | x::l,A,m,h,hm=>⟨h.1,hang_snoc l (A++[x]) m h.2 (by simpa using hm)⟩
theorem nV:∀ (l:List Mt) (x:Mt) (cur:List Mt) (r:Int),Rch (x::cur) r→Hang [x] cur→∀ A∈fN l (x::cur) r,∃ y t,A=y::t∧Hang [y] t
 | [],x,cur,r,_,h,A,hA=>by
  unfold fN at hA
  rw [List.mem_singleton] at hA
  exact ⟨x,cur,hA,h⟩
 | m::l,x,cur,r,hr,h,A,hA=>by
  unfold fN at hA
  split at hA
  ·rename_i c
   obtain ⟨a,ha,e⟩:=hr.at'
   exact nV l x (cur++[m]) _ (hr.more m) (hang_snoc cur [x] m h ⟨a,by simpa using ha,by omega⟩) A hA
  ·rcases List.mem_cons.mp hA with rfl | hA
   ·exact ⟨x,cur,rfl,h⟩
   ·exact nV l m [] _ (.one m) trivial A hA
theorem grpOf_apart {l:List Mt} (hb:l.Pairwise (fun a b=>a.2.1≤b.2.1)):(bY l).Pairwise fun A B=>∀ a∈A,∀ b∈B,a.2.2≤b.2.1:=by
 cases l with
 | nil=>exact .nil
 | cons m l=>exact mE l [m] _ (.one m) hb
theorem nU {l:List Mt}:∀ A∈bY l,∃ y t,A=y::t∧Hang [y] t:=by
 cases l with
 | nil=>intro A h;cases h
 | cons m l=>exact nV l m [] _ (.one m) trivial
theorem grpOf_ov {l:List Mt} (hb:l.Pairwise (fun a b=>a.2.1≤b.2.1)) {A B:List Mt} {i j:Nat} (hA:(bY l)[i]?=some A) (hB:(bY l)[j]?=some B) {a b:Mt} (ha:a∈A) (hb':b∈B) (ho:ov a b):i=j:=by
 have pw:=grpOf_apart hb
 rw [List.pairwise_iff_getElem] at pw
 obtain ⟨h1,e1⟩:=List.getElem?_eq_some_iff.mp hA
 obtain ⟨h2,e2⟩:=List.getElem?_eq_some_iff.mp hB
 unfold ov at ho
 rcases Nat.lt_trichotomy i j with c | c | c
 ·have:=pw i j h1 h2 c a (by rw [e1];exact ha) b (by rw [e2];exact hb')
  omega
 ·exact c
 ·have:=pw j i h2 h1 c b (by rw [e2];exact hb') a (by rw [e1];exact ha)
  omega
end L2.L3
namespace L2.L3
open PySem PySem.Spec PyProof.Rows
theorem Paired.app {α β:Type} {F:α→β→Prop} {a:α} {b:β} (h:F a b):∀ {l:List α} {m:List β},Paired F l m→Paired F (l++[a]) (m++[b])
 | _,_,.nil=>.cons h .nil
 | _,_,.cons r t=>.cons r (Paired.app h t)
theorem Paired.unapp {α β:Type} {F:α→β→Prop} {m:List β} {b:β}:∀ {l:List α},Paired F l (m++[b])→∃ l' a,l=l'++[a]∧Paired F l' m∧F a b:=by
 induction m with
 | nil=>
  intro l h
  cases h with
  | cons r t=>cases t;exact ⟨[],_,rfl,.nil,r⟩
 | cons c m ih=>
  intro l h
  cases h with
  | cons r t=>
   obtain ⟨l',a,e,p,f⟩:=ih t
   exact ⟨_::l',a,by rw [e];rfl,.cons r p,f⟩
section
variable {K:PySem.W.Frag} {H0 G₀ G H:Hp} {σ:St} {ρ:List Ent}
theorem RepS.ownN {i:Nat} {dss:List (List PyData)} (R:RepS K H0 G₀ G H σ ρ) (h:ρ[i]?=some (.nst dss)):∃ a bs,σ[i]?=some (some (.ref a))∧H a=some (.lst (bs.map V.ref))∧G a=none∧H0 a=none∧a∉bs∧bs.Nodup∧Paired (InOk K H0 G H) bs dss:=by
 obtain ⟨o,e,a,bs,rfl,r⟩:=R.at h
 exact ⟨a,bs,e,r⟩
theorem RepS.freshN {i:Nat} {p:Addr} (R:RepS K H0 G₀ G H σ ρ) (h:H p=none) (hno:∀ (j:Nat) (dss:List (List PyData)),ρ[j]?=some (.nst dss)→j=i):RepS K H0 G₀ G (upd H p (.lst [])) (σ.set i (some (.ref p))) (ρ.set i (.nst [])):=by
 have R':=R.more (Grow.side (o:=.lst []) R.sub h)
 refine ⟨R'.grow,by simp [R.len],fun j o e h1 h2=>?_,⟨fun j k a ds es n h1 h2 h3 h4=>?_,fun j k a a' ds dss h1 h2 h3 h4=>?_,fun j k dss ess h1 h2=>?_,fun j k ks ls q1 q2=>?_⟩,R'.tab⟩
 ·rcases aF h1 with ⟨rfl,rfl,_⟩ | ⟨n,h1⟩
  ·rcases aF h2 with ⟨_,rfl,_⟩ | ⟨n,_⟩
   ·exact ⟨p,[],rfl,aG,R.sub.free h,R.grow.hh.free h,by simp,List.nodup_nil,.nil⟩
   ·exact absurd rfl n
  ·rcases aF h2 with ⟨z,_⟩ | ⟨_,h2⟩
   ·exact absurd z n
   ·exact R'.ent j o e h1 h2
 ·rcases aF h2 with ⟨_,z,_⟩ | ⟨n2,h2⟩
  ·cases z
  ·rcases aF h4 with ⟨_,z,_⟩ | ⟨n4,h4⟩
   ·cases z
   ·rw [List.getElem?_set_ne (Ne.symm n2)] at h1
    rw [List.getElem?_set_ne (Ne.symm n4)] at h3
    exact R.inj.two j k a ds es n h1 h2 h3 h4
 ·rcases aF h2 with ⟨_,z,_⟩ | ⟨n2,h2n⟩
  ·cases z
  ·rw [List.getElem?_set_ne (Ne.symm n2)] at h1
   rcases aF h4 with ⟨rfl,_,_⟩ | ⟨n4,h4⟩
   ·rcases aF h3 with ⟨_,z,_⟩ | ⟨n,_⟩
    ·cases z
     obtain ⟨b,xs,e,g1,_⟩:=R.own h2n
     rw [h1] at e;cases e
     exact ⟨aN g1 h,fun vs e=>by rw [aG] at e;cases e;simp⟩
    ·exact absurd rfl n
   ·exact absurd (hno k dss h4) n4
 ·have hi:∀ (j:Nat) (dss:List (List PyData)),(ρ.set i (.nst []))[j]?=some (.nst dss)→j=i:=fun j dss h1=>by
   rcases aF h1 with ⟨z,_,_⟩ | ⟨_,h1⟩
   ·exact z
   ·exact hno j dss h1
  rw [hi j dss h1,hi k ess h2]
 ·have od:∀ (j:Nat) (ks:List (Key×PyData)),(ρ.set i (.nst []))[j]?=some (.dct ks)→ρ[j]?=some (.dct ks):=fun j ks q=>by
   rcases aF q with ⟨_,z,_⟩ | ⟨_,q⟩
   ·cases z
   ·exact q
  exact R.inj.oneD j k ks ls (od j ks q1) (od k ls q2)
theorem RepS.pushN {i:Nat} {a p:Addr} {bs:List Addr} {dss:List (List PyData)} {ds:List PyData} {xs:List V} (R:RepS K H0 G₀ G H σ ρ) (h:ρ[i]?=some (.nst dss)) (e:σ[i]?=some (some (.ref a))) (ha:H a=some (.lst (bs.map V.ref))) (hp:H p=none) (r:RepAll K G xs ds) :
  RepS K H0 G₀ G (upd (upd H p (.lst xs)) a (.lst ((bs++[p]).map V.ref))) σ (ρ.set i (.nst (dss++[ds]))):=by
 obtain ⟨a',bs',e',h1,h2,h3,h4,h5,rv⟩:=R.ownN h
 rw [e] at e';cases e'
 have eb:bs'=bs:=by
  rw [ha] at h1
  have:bs.map V.ref=bs'.map V.ref:=by injection h1 with z;injection z
  exact (List.map_inj_right (fun _ _ z=>by cases z;rfl)).mp this.symm
 subst eb
 have R1:=R.more (Grow.side (o:=.lst xs) R.sub hp)
 have nap:a≠p:=aN ha hp
 have hb:∀ b∈bs',∃ ys,H b=some (.lst ys):=fun b hb=>by
  obtain ⟨_,ys,y,_⟩:=mT rv hb
  exact ⟨ys,y⟩
 have nbp:∀ b∈bs',b≠p:=fun b hm=>by obtain ⟨ys,y⟩:=hb b hm;exact aN y hp
 have nba:∀ b∈bs',b≠a:=fun b hm z=>h4 (z▸hm)
 have H1a:(upd H p (.lst xs)) a=some (.lst (bs'.map V.ref)):=by rw [aE nap];exact ha
 refine ⟨⟨R1.grow.gg,R1.grow.hh.wr h3 H1a,fun b o q=>?_,R1.grow.new,R1.grow.nt⟩,by simp [R.len],fun j o e' q1 q2=>?_,⟨fun j k b es fs n q1 q2 q3 q4=>?_,fun j k b b' es ess q1 q2 q3 q4=>?_,fun j k es fs q1 q2=>?_,fun j k ks ls q1 q2=>?_⟩,R1.tab.wr H1a⟩
 ·rw [aE (aN q h2)];exact R1.sub b o q
 ·rcases aF q2 with ⟨rfl,rfl,_⟩ | ⟨nj,q2⟩
  ·rw [e] at q1;cases q1
   refine ⟨a,bs'++[p],rfl,aG,h2,h3,?_,?_,Paired.app ⟨xs,by rw [aE (Ne.symm nap)];exact aG,R.sub.free hp,R.grow.hh.free hp,r⟩ (eN rv fun b dd hm ⟨ys,y1,y2,y3,y4⟩=>⟨ys,by rw [aE (nba b hm),aE (nbp b hm)];exact y1,y2,y3,y4⟩)⟩
   ·simp only [List.mem_append,List.mem_singleton,not_or]
    exact ⟨h4,nap⟩
   ·rw [List.nodup_append]
    exact ⟨h5,by simp,fun b hm c hc=>by rw [List.mem_singleton.mp hc];exact nbp b hm⟩
  ·have E:=R1.ent j o e' q1 q2
   cases e' with
   | no=>trivial
   | val d=>exact E
   | exc c=>obtain ⟨b,C,z,g1,g2⟩:=E;exact ⟨b,C,z,g1,by rw [aE (dG g2 H1a (by unfold xcO;nofun))];exact g2⟩
   | lst es=>
    obtain ⟨b,ys,z,g1,g2,g3,rv'⟩:=E
    subst z
    have m1:=(R.inj.mix j i b a es dss q1 q2 e h).1
    exact ⟨b,ys,rfl,by rw [aE m1];exact g1,g2,g3,rv'⟩
   | nst es=>exact absurd (R.inj.one j i es dss q2 h) nj
   | dct ks=>
    obtain ⟨b,ws,z,g1,g2,g3,rv'⟩:=E
    exact ⟨b,ws,z,by rw [aE (dG g1 H1a (by nofun))];exact g1,g2,g3,rv'⟩
 ·rcases aF q2 with ⟨_,z,_⟩ | ⟨_,q2⟩
  ·cases z
  ·rcases aF q4 with ⟨_,z,_⟩ | ⟨_,q4⟩
   ·cases z
   ·exact R.inj.two j k b es fs n q1 q2 q3 q4
 ·rcases aF q2 with ⟨_,z,_⟩ | ⟨_,q2n⟩
  ·cases z
  ·have ki:k=i:=by
    rcases aF q4 with ⟨z,_,_⟩ | ⟨_,q4⟩
    ·exact z
    ·exact R.inj.one k i ess dss q4 h
   subst ki
   rw [e] at q3;cases q3
   obtain ⟨m1,m2⟩:=R.inj.mix j k b a es dss q1 q2n e h
   obtain ⟨b2,ys,e2,g1,_⟩:=R.own q2n
   rw [q1] at e2;cases e2
   refine ⟨m1,fun vs z=>?_⟩
   rw [aG] at z;cases z
   rw [List.map_append,List.mem_append,not_or]
   refine ⟨m2 _ ha,fun z=>?_⟩
   have:b=p:=by simpa using z
   exact aN g1 hp this
 ·have hi:∀ (j:Nat) (es:List (List PyData)),(ρ.set i (.nst (dss++[ds])))[j]?=some (.nst es)→j=i:=fun j es q1=>by
   rcases aF q1 with ⟨z,_,_⟩ | ⟨_,q1⟩
   ·exact z
   ·exact R.inj.one j i es dss q1 h
  rw [hi j es q1,hi k fs q2]
 ·have od:∀ (j:Nat) (ks:List (Key×PyData)),(ρ.set i (.nst (dss++[ds])))[j]?=some (.dct ks)→ρ[j]?=some (.dct ks):=fun j ks q=>by
   rcases aF q with ⟨_,z,_⟩ | ⟨_,q⟩
   ·cases z
   ·exact q
  exact R.inj.oneD j k ks ls (od j ks q1) (od k ls q2)
theorem RepS.lastN {i:Nat} {a b:Addr} {bs:List Addr} {dss:List (List PyData)} {ds ds':List PyData} {xs:List V} (R:RepS K H0 G₀ G H σ ρ) (h:ρ[i]?=some (.nst (dss++[ds]))) (e:σ[i]?=some (some (.ref a))) (ha:H a=some (.lst ((bs++[b]).map V.ref))) (r:RepAll K G xs ds') :
  RepS K H0 G₀ G (upd H b (.lst xs)) σ (ρ.set i (.nst (dss++[ds']))):=by
 obtain ⟨a',bs',e',h1,h2,h3,h4,h5,rv⟩:=R.ownN h
 rw [e] at e';cases e'
 have eb:bs'=bs++[b]:=by
  rw [ha] at h1
  have:(bs++[b]).map V.ref=bs'.map V.ref:=by injection h1 with z;injection z
  exact (List.map_inj_right (fun _ _ z=>by cases z;rfl)).mp this.symm
 subst eb
 obtain ⟨l',c,el,pv,ys,y1,y2,y3,y4⟩:=Paired.unapp rv
 have ec:bs=l'∧b=c:=by
  have:=List.append_inj' el rfl
  exact ⟨this.1,by simpa using this.2⟩
 obtain ⟨rfl,rfl⟩:=ec
 have nab:a≠b:=fun z=>h4 (by simp [z])
 have nd:b∉bs:=fun z=>by
  rw [List.nodup_append] at h5
  exact h5.2.2 b z b (by simp) rfl
 refine ⟨⟨R.grow.gg,R.grow.hh.wr y3 y1,fun b o q=>?_,R.grow.new,R.grow.nt⟩,by simp [R.len],fun j o e' q1 q2=>?_,⟨fun j k b' es fs n q1 q2 q3 q4=>?_,fun j k c c' es ess q1 q2 q3 q4=>?_,fun j k es fs q1 q2=>?_,fun j k ks ls q1 q2=>?_⟩,R.tab.wr y1⟩
 ·rw [aE (aN q y2)];exact R.sub _ o q
 ·rcases aF q2 with ⟨rfl,rfl,_⟩ | ⟨nj,q2⟩
  ·rw [e] at q1;cases q1
   exact ⟨a,bs++[b],rfl,by rw [aE nab];exact ha,h2,h3,h4,h5,Paired.app ⟨xs,aG,y2,y3,r⟩ (eN pv fun c dd hm ⟨zs,z1,z2,z3,z4⟩=>⟨zs,by rw [aE (fun z:c=b=>nd (z▸hm))];exact z1,z2,z3,z4⟩)⟩
  ·have E:=R.ent j o e' q1 q2
   cases e' with
   | no=>trivial
   | val d=>exact E
   | exc c=>obtain ⟨c',C,z,g1,g2⟩:=E;exact ⟨c',C,z,g1,by rw [aE (dG g2 y1 (by unfold xcO;nofun))];exact g2⟩
   | lst es=>
    obtain ⟨c,zs,z,g1,g2,g3,rv'⟩:=E
    subst z
    have m2:=(R.inj.mix j i c a es _ q1 q2 e h).2 _ ha
    have ncb:c≠b:=fun z=>m2 (by simp [z])
    exact ⟨c,zs,rfl,by rw [aE ncb];exact g1,g2,g3,rv'⟩
   | nst es=>exact absurd (R.inj.one j i es _ q2 h) nj
   | dct ks=>
    obtain ⟨c,ws,z,g1,g2,g3,rv'⟩:=E
    exact ⟨c,ws,z,by rw [aE (dG g1 y1 (by nofun))];exact g1,g2,g3,rv'⟩
 ·rcases aF q2 with ⟨_,z,_⟩ | ⟨_,q2⟩
  ·cases z
  ·rcases aF q4 with ⟨_,z,_⟩ | ⟨_,q4⟩
   ·cases z
   ·exact R.inj.two j k b' es fs n q1 q2 q3 q4
 ·rcases aF q2 with ⟨_,z,_⟩ | ⟨_,q2n⟩
  ·cases z
  ·have ki:k=i:=by
    rcases aF q4 with ⟨z,_,_⟩ | ⟨_,q4⟩
    ·exact z
    ·exact R.inj.one k i ess _ q4 h
   subst ki
   rw [e] at q3;cases q3
   obtain ⟨m1,m2⟩:=R.inj.mix j k c a es _ q1 q2n e h
   exact ⟨m1,fun vs z=>by rw [aE nab] at z;exact m2 vs z⟩
 ·have hi:∀ (j:Nat) (es:List (List PyData)),(ρ.set i (.nst (dss++[ds'])))[j]?=some (.nst es)→j=i:=fun j es q1=>by
   rcases aF q1 with ⟨z,_,_⟩ | ⟨_,q1⟩
   ·exact z
   ·exact R.inj.one j i es _ q1 h
  rw [hi j es q1,hi k fs q2]
 ·have od:∀ (j:Nat) (ks:List (Key×PyData)),(ρ.set i (.nst (dss++[ds'])))[j]?=some (.dct ks)→ρ[j]?=some (.dct ks):=fun j ks q=>by
   rcases aF q with ⟨_,z,_⟩ | ⟨_,q⟩
   ·cases z
   ·exact q
  exact R.inj.oneD j k ks ls (od j ks q1) (od k ls q2)
theorem inner_rep {G':Hp} (gg:aX G G') (hG:∀ b,(∃ xs,H b=some (.lst xs))→True):∀ {bs:List Addr} {dss:List (List PyData)},Paired (InOk K H0 G H) bs dss→(∀ b∈bs,G' b=H b)→RepAll K G' (bs.map V.ref) (dss.map PyData.list)
 | _,_,.nil,_=>.nil
 | _,_,.cons ⟨xs,x1,x2,x3,x4⟩ t,h=>.cons (.list (.of (by rw [h _ List.mem_cons_self];exact x1)) (x4.mono gg)) (inner_rep gg hG t fun b hb=>h b (List.mem_cons_of_mem _ hb))
theorem RepS.freezeN {i:Nat} {dss:List (List PyData)} (R:RepS K H0 G₀ G H σ ρ) (h:ρ[i]?=some (.nst dss)):∃ G',aX G G'∧RepS K H0 G₀ G' H σ (ρ.set i (.val (.list (dss.map .list)))):=by
 classical
 obtain ⟨a,bs,e,h1,h2,h3,h4,h5,rv⟩:=R.ownN h
 have gn:∀ c∈a::bs,G c=none∧H0 c=none∧∃ ys,H c=some (.lst ys):=fun c hc=>by
  rcases List.mem_cons.mp hc with rfl | hc
  ·exact ⟨h2,h3,_,h1⟩
  ·obtain ⟨_,ys,y1,y2,y3,_⟩:=mT rv hc
   exact ⟨y2,y3,ys,y1⟩
 have gg:aX G (fun c=>if c∈a::bs then H c else G c):=fun c o q=>by
  show (if c∈a::bs then H c else G c)=some o
  rw [if_neg (fun z=>by rw [(gn c z).1] at q;cases q)];exact q
 refine ⟨fun c=>if c∈a::bs then H c else G c,gg,⟨⟨R.grow.gg.trans gg,R.grow.hh,fun c o q=>?_,fun c q n=>?_,fun n c ps=>?_⟩,by simp [R.len],fun j o e' q1 q2=>?_,R.inj.sub fun j e' q1 q2=>?_,R.tab.1,fun c ps=>?_⟩⟩
 ·have q:(if c∈a::bs then H c else G c)=some o:=q
  split at q
  ·exact q
  ·exact R.sub c o q
 ·show (if c∈a::bs then H c else G c)=none
  rw [if_neg (fun z=>n (gn c z).2.1)];exact R.grow.new c q n
 ·show (if c∈a::bs then H c else G c)≠_
  split
  ·rename_i hc
   obtain ⟨ys,y⟩:=(gn c hc).2.2
   rw [y];nofun
  ·exact R.grow.nt n c ps
 ·rcases aF q2 with ⟨rfl,rfl,_⟩ | ⟨nj,q2⟩
  ·rw [e] at q1;cases q1
   exact ⟨.ref a,rfl,.list (.of (by show (if a∈a::bs then H a else G a)=_;rw [if_pos List.mem_cons_self];exact h1)) (inner_rep gg (fun _ _=>trivial) rv fun b hb=>by show (if b∈a::bs then H b else G b)=_;rw [if_pos (List.mem_cons_of_mem _ hb)])⟩
  ·have E:=R.ent j o e' q1 q2
   cases e' with
   | no=>trivial
   | val d=>obtain ⟨v,z,r⟩:=E;exact ⟨v,z,r.mono gg⟩
   | exc c=>exact E
   | lst es=>
    obtain ⟨c,zs,z,g1,g2,g3,rv'⟩:=E
    subst z
    obtain ⟨m1,m2⟩:=R.inj.mix j i c a es dss q1 q2 e h
    refine ⟨c,zs,rfl,g1,?_,g3,rv'.mono gg⟩
    show (if c∈a::bs then H c else G c)=none
    rw [if_neg (fun z=>?_)]
    ·exact g2
    ·rcases List.mem_cons.mp z with z | z
     ·exact m1 z
     ·exact m2 _ h1 (List.mem_map.mpr ⟨c,z,rfl⟩)
   | nst es=>exact absurd (R.inj.one j i es dss q2 h) nj
   | dct ks=>
    obtain ⟨c,ws,z,g1,g2,g3,rv'⟩:=E
    refine ⟨c,ws,z,g1,?_,g3,rv'.mono gg⟩
    show (if c∈a::bs then H c else G c)=none
    rw [if_neg (fun w=>by obtain ⟨ys,y⟩:=(gn c w).2.2;rw [g1] at y;cases y)]
    exact g2
 ·rcases aF q1 with ⟨_,rfl,_⟩ | ⟨n,q1⟩
  ·cases q2
  ·exact ⟨q1,rfl⟩
 ·show (if c∈a::bs then H c else G c)≠_
  split
  ·rename_i hc
   obtain ⟨ys,y⟩:=(gn c hc).2.2
   rw [y];nofun
  ·exact R.tab.2 c ps
end
end L2.L3
namespace L2.L3
open PySem PySem.Spec PyProof.Rows
section
variable {X:Cx} {rest:List Stmt} {f:SF} {fa:EF} {e:Expr} {es:List Expr} {pos:Pos}
def noN (i:Nat) (ρ:List Ent):Bool:=(List.range ρ.length).all fun j=>j==i || (match ρ[j]? with | some (.nst _)=>false | _=>true)
theorem noN_is {i:Nat} {ρ:List Ent} (h:noN i ρ=true):∀ (j:Nat) (dss:List (List PyData)),ρ[j]?=some (.nst dss)→j=i:=fun j dss hj=>by
 have hl:=(List.getElem?_eq_some_iff.mp hj).1
 have:=List.all_eq_true.mp h j (List.mem_range.mpr hl)
 rw [hj] at this
 simpa using this
def newN (i:Nat):SF:=fun ρ=>if noN i ρ then some (.nx (ρ.set i (.nst []))) else none
theorem ds_newN (i:Nat) {x:Str} {p p2:Pos} (hN:X.N.Nodup) (hi:X.N[i]?=some x:=by rfl) (hx:Loc X.env.scope x:=by first | exact Or.inl rfl | exact Or.inr rfl)
  (hs:swapsWith (.List [] p2) (some (.Name x p)) pos.line X.env=pure false:=by rfl) (hf:X.fn x=true∨X.env.scope.names.lookup x=some .local:=by first | exact .inl rfl | exact .inr rfl) :
  DS X (.Assign [.Name x p] (.List [] p2) pos) (newN i):=⟨fun pins s σ H D I ⟨ρ,o,H0,G₀,G,e,R,q⟩=>ps_set hN hi hx (pe_lst iG) hs hf pins s σ H D I (by
 unfold newN at e
 split at e
 ·rename_i hz
  cases (Option.some.inj e)
  exact ⟨by show 0≤sizeLine;omega,fun a ha=>q G _ _ (.refl _) (R.freshN ha (noN_is hz))⟩
 ·cases e)⟩
def truN (i:Nat):TF:=fun ρ=>match ρ[i]? with
 | some (.nst dss)=>some (.ok (!dss.isEmpty))
 | _=>none
theorem dt_truN (i:Nat) {x:Str} {p:Pos} (hN:X.N[i]?=some x:=by rfl) (hv:Vis X.env.scope x:=by first | exact Or.inl rfl | exact Or.inr (Or.inl rfl) | exact Or.inr (Or.inr rfl)) (hd:(x==("__debug__" : Str))=false:=by decide)
  (hcd:(x==("__classdict__" : Str))=false:=by decide):DT X (.Name x p) (truN i):=⟨fun pins s σ H Q I ⟨ρ,r,H0,G₀,G,e,R,q⟩=>by
 refine pt_truth (iF hN hv hd hcd) (fun _=>rfl) pins s σ H Q I ?_
 unfold truN at e
 split at e
 ·rename_i dss hi
  cases (Option.some.inj e)
  obtain ⟨a,bs,e1,h1,_,_,_,_,rv⟩:=R.ownN hi
  refine ⟨_,e1,!dss.isEmpty,.inl ⟨bs.map V.ref,.of h1,?_⟩,q _ _ (.refl R.sub)⟩
  cases rv<;>rfl
 ·cases e⟩
def pushN (i:Nat) (f:AF):SF:=fun ρ=>match ρ[i]? with
 | some (.nst dss)=>bns (f ρ) ρ fun ds=>if cZ dss.length&&cZ ds.length then some (.nx (ρ.set i (.nst (dss++[ds])))) else none
 | _=>none
theorem ds_pushN (i:Nat) {x:Str} {p p2 ap cp:Pos} {f:AF} (h:DA X es f) (hN:X.N[i]?=some x:=by rfl)
  (hv:Vis X.env.scope x:=by first | exact Or.inl rfl | exact Or.inr (Or.inl rfl) | exact Or.inr (Or.inr rfl)) (hd:(x==("__debug__" : Str))=false:=by decide) (hcd:(x==("__classdict__" : Str))=false:=by decide)
  (hbase:attributeBase (.Name x p) "append" X.env (eval (.Name x p) X.env)=eval (.Name x p) X.env:=by rfl)
  (hfew:((backTo cp (starEach (.List es p2::[]) X.env)).all (fun x=>!x.1)&&(backToKw cp (keywordEach [] X.env)).all (fun x=>x.1.isSome)&&decide ((Expr.List es p2::[]).length+([]:List Keyword).length+(if ([]:List Keyword).isEmpty then 0 else 1)<30))=true:=by rfl)
  (hline:(ap.endLine==cp.line)=true:=by rfl) (hst:starEach (.List es p2::[]) X.env=(false,eval (.List es p2) X.env)::starEach [] X.env:=by rfl) (hplain:(backTo cp (starEach [] X.env)).any (·.1)=false:=by rfl)
  (hsw:swapsWith (.Call (.Attribute (.Name x p) "append" ap) [.List es p2] [] cp) none pos.line X.env=pure false:=by rfl) :
  DS X (.Expr (.Call (.Attribute (.Name x p) "append" ap) [.List es p2] [] cp) pos) (pushN i f):=⟨fun pins s σ H D I ⟨ρ,o,H0,G₀,G,ef,R,q⟩=>
 ps_expr (pe_bm PySem.F.plainAttrs_list PySem.F.slot_list_append PySem.F.type_list_append mU (iF hN hv hd hcd) (eJ (pe_lst h.run) iG hst) hbase hfew hline hst hplain) hsw pins s σ H D I (by
  unfold pushN at ef
  split at ef
  ·rename_i dss hi
   obtain ⟨a,bs,e1,h1,_⟩:=R.ownN hi
   refine ⟨.ref a,e1,.inl ⟨rfl,bs.map V.ref,.of h1⟩,sA R ef q fun ds vs G1 H1 g1 R1 rv e2 q1=>?_⟩
   split at e2
   ·rename_i hz
    rw [Bool.and_eq_true] at hz
    cases (Option.some.inj e2)
    obtain ⟨a1,bs1,e1',h1',_,_,_,_,pv⟩:=R1.ownN hi
    rw [e1] at e1';cases e1'
    have eb:bs1=bs:=by
     have:=g1.hh.lst h1
     rw [h1'] at this
     have:bs1.map V.ref=bs.map V.ref:=by injection this with z;injection z
     exact (List.map_inj_right (fun _ _ z=>by cases z;rfl)).mp this
    subst eb
    have hl:bs1.length=dss.length:=Paired.length pv
    refine ⟨by rw [rv.length];exact fM hz.2,fun pp hp=>⟨a,bs1.map V.ref,.ref pp,rfl,rfl,?_,by rw [List.length_map,hl];exact sz_lt hz.1,?_⟩⟩
    ·rw [aE (aN h1' hp)];exact h1'
    ·have key:=R1.pushN hi e1 h1' hp rv
     rw [List.map_append] at key
     exact q1 G1 _ σ (.refl _) key
   ·cases e2
  ·cases ef)⟩
def lastN (i:Nat) (fa:EF):SF:=fun ρ=>match ρ[i]? with
 | some (.nst dss)=>(match dss.getLast? with
  | some ds=>bns (fa ρ) ρ fun d=>if cZ ds.length then some (.nx (ρ.set i (.nst (dss.dropLast++[ds++[d]])))) else none
  | none=>none)
 | _=>none
theorem last_ix {bs:List Addr} {b:Addr}:atI ((bs++[b]).map V.ref) (-1)=some (V.ref b):=by
 unfold atI ixN
 rw [if_neg (by decide),if_pos (by simp<;>omega)]
 simp only [List.length_map,List.length_append,List.length_cons,List.length_nil,Nat.zero_add,Option.bind_some]
 rw [show (-1+((bs.length+1:Nat):Int)).toNat=bs.length by omega]
 simp
theorem dropLast_is {α:Type}:∀ {l:List α} {a:α},l.getLast?=some a→l=l.dropLast++[a]
 | [],_,h=>by cases h
 | [x],a,h=>by simp at h;simp [h]
 | x::y::t,a,h=>by
  rw [List.getLast?_cons_cons] at h
  have:=dropLast_is (l:=y::t) h
  rw [List.dropLast_cons₂,List.cons_append,←this]
theorem ds_lastN (i:Nat) {x:Str} {p up cp1 sp ap cp:Pos} {j1} (h:DE X e fa) (hN:X.N[i]?=some x:=by rfl)
  (hv:Vis X.env.scope x:=by first | exact Or.inl rfl | exact Or.inr (Or.inl rfl) | exact Or.inr (Or.inr rfl)) (hd:(x==("__debug__" : Str))=false:=by decide) (hcd:(x==("__classdict__" : Str))=false:=by decide)
  (hs:PlainIx (.UnaryOp .USub (.Constant (.int 1) j1 cp1) up):=by exact fun _ _=>rfl)
  (hbase:attributeBase (.Subscript (.Name x p) (.UnaryOp .USub (.Constant (.int 1) j1 cp1) up) sp) "append" X.env (eval (.Subscript (.Name x p) (.UnaryOp .USub (.Constant (.int 1) j1 cp1) up) sp) X.env)=eval (.Subscript (.Name x p) (.UnaryOp .USub (.Constant (.int 1) j1 cp1) up) sp) X.env:=by rfl)
  (hfew:((backTo cp (starEach (e::[]) X.env)).all (fun x=>!x.1)&&(backToKw cp (keywordEach [] X.env)).all (fun x=>x.1.isSome)&&decide ((e::[]).length+([]:List Keyword).length+(if ([]:List Keyword).isEmpty then 0 else 1)<30))=true:=by rfl)
  (hline:(ap.endLine==cp.line)=true:=by rfl) (hst:starEach (e::[]) X.env=(false,eval e X.env)::starEach [] X.env:=by rfl) (hplain:(backTo cp (starEach [] X.env)).any (·.1)=false:=by rfl)
  (hsw:swapsWith (.Call (.Attribute (.Subscript (.Name x p) (.UnaryOp .USub (.Constant (.int 1) j1 cp1) up) sp) "append" ap) [e] [] cp) none pos.line X.env=pure false:=by rfl) :
  DS X (.Expr (.Call (.Attribute (.Subscript (.Name x p) (.UnaryOp .USub (.Constant (.int 1) j1 cp1) up) sp) "append" ap) [e] [] cp) pos) (lastN i fa):=⟨fun pins s σ H D I ⟨ρ,o,H0,G₀,G,ef,R,q⟩=>
 ps_expr (pe_bm PySem.F.plainAttrs_list PySem.F.slot_list_append PySem.F.type_list_append mU (pe_ix ix_list (iF hN hv hd hcd) (pe_un un_neg pe_int) hs) (eJ h.run iG hst) hbase hfew hline hst hplain) hsw pins s σ H D I (by
  unfold lastN at ef
  split at ef
  ·rename_i dss hi
   split at ef
   ·rename_i ds hl
    obtain ⟨ed,_⟩:dss=dss.dropLast++[ds]∧True:=⟨dropLast_is hl,trivial⟩
    rw [ed] at hi
    generalize dss.dropLast=d0 at *
    subst ed
    obtain ⟨a,bs,e1,h1,_,_,_,_,rv⟩:=R.ownN hi
    obtain ⟨bs0,b,rfl,pv,ys,y1,y2,y3,y4⟩:=Paired.unapp rv
    refine ⟨.ref a,e1,1,rfl,a,_,-1,.ref b,rfl,rfl,.of h1,last_ix,.inl ⟨rfl,ys,.of y1⟩,sE R ef q fun d v G1 H1 g1 R1 rv e2 q1=>?_⟩
    split at e2
    ·rename_i hz
     cases (Option.some.inj e2)
     exact ⟨b,ys,v,rfl,rfl,g1.hh.lst y1,by rw [y4.length];exact sz_lt hz,q1 G1 _ σ (.refl _) (R1.lastN hi e1 (g1.hh.lst h1) ((y4.mono g1.gg).append (.cons rv .nil)))⟩
    ·cases e2
   ·cases ef
  ·cases ef)⟩
def frzN (i:Nat) (f:SF):SF:=fun ρ=>match ρ[i]? with
 | some (.nst dss)=>f (ρ.set i (.val (.list (dss.map .list))))
 | _=>f ρ
theorem db_frzN (i:Nat) (h:DB X rest f):DB X rest (frzN i f):=⟨fun pins s σ H D I ⟨ρ,o,H0,G₀,G,e,R,q⟩=>by
 unfold frzN at e
 split at e
 ·rename_i dss hi
  obtain ⟨G',s',R'⟩:=R.freezeN hi
  exact h.run pins s σ H D I ⟨_,o,H0,G₀,G',e,R',q.mono s'⟩
 ·exact h.run pins s σ H D I ⟨ρ,o,H0,G₀,G,e,R,q⟩⟩
end
end L2.L3
namespace L2.L3
open PySem PySem.Spec PyProof.Rows
section
variable {X:Cx}
theorem call_sortedS:eB X (.builtin "sorted") (fun xs H Q=>∃ (p:Addr) (ns:List Str),xs=[.ref p]∧SqL X.K H p (ns.map V.str)∧ns.length<64∧∀ l,H l=none→Q (.ref l) (upd H l (.lst ((eA ns).map V.str)))):=by
 intro pins s σ H xs us Q I r ⟨p,ns,e,hq,h64,q⟩
 subst e
 obtain ⟨u,rfl,rx⟩:=vals1 r
 cases rx
 obtain ⟨its,rv,pl,hz⟩:=I.list hq
 have hi:=nK rv
 refine sorted_strs pl.isList hi (by rw [lK hi];exact h64) fun out ns' ho hp hs=>?_
 have e:=sortS_eq hp hs
 subst e
 obtain ⟨ep,g⟩:=sortedAll_at s.heap its out
 have hf:H (s.heap.objs.size+1)=none:=I.hok.fresh (Nat.le_succ _)
 refine ⟨.ref (s.heap.objs.size+1),_,I.laid (t':=s.toks) (fun b o g=>sortedAll_old g) (Nat.le_succ _) ?_,rfl,q _ hf⟩
 refine ⟨?_,out.toList,ep,vals_strs ho,?_⟩
 ·rw [List.length_map,(bX ns).length_eq]
  exact Nat.le_of_lt (eT (by omega))
 ·rw [g]
def srtY (ds:List PyData):Option PyData:=match srtX ds with
 | some d=>some d
 | none=>(match ds with
  | [.list xs]=>(match cR strD xs with | some ns=>if ns.length<64 then some (.list ((eA ns).map .str)) else none | none=>none)
  | _=>none)
theorem srtY_ok (ds:List PyData) (d:PyData) (h:srtY ds=some d):CallD X (.builtin "sorted") ds d:=by
 unfold srtY at h;split at h
 ·rename_i e
  cases (Option.some.inj h)
  exact srtX_ok ds _ e
 ·split at h
  ·split at h
   ·rename_i xs ns e
    split at h
    ·rename_i hl
     cases (Option.some.inj h)
     have:=cD (g:=.str) (fun d a q=>mP q) e
     subst this
     exact ⟨_,call_sortedS,fun vs G H Q s r q=>by
      cases r with | cons r rr=>cases rr;cases r with | list hq r=>
       have e:=r.strs
       subst e
       exact ⟨_,ns,rfl,s.seq hq,hl,fun l hn=>q _ _ _ (.put s hn) (.list (.of aG) (kP _))⟩⟩
    ·cases h
   ·cases h
  ·cases h
end
theorem srtY_strs {x:Str} {ns:List Str} (h:(x::ns).length<64):srtY [.list ((x::ns).map .str)]=some (.list ((eA (x::ns)).map .str)):=by
 have e1:srtX [.list ((x::ns).map .str)]=none:=by
  unfold srtX srtD srtL
  have:sigT (PyData.str x)=none:=rfl
  simp [cR,intD,this]
 unfold srtY
 rw [e1]
 dsimp only
 rw [fJ (g:=.str) (fun _=>rfl) (x::ns)]
 dsimp only
 rw [if_pos h]
end L2.L3
namespace L2.L3
open PySem PySem.Spec PyProof.Rows
abbrev k1_part_of:EF:=cK (.nm 0) [none,some 1] (dH (var 0)) (fL inX (op2 ixD (var 0) (cst (.int 0))) (var 1)) (var 0)
def f_part_of:SF:=(retS (dP tupD (aC k1_part_of aJ)))
def kF:List PyData→Mm PyData:=dJ 2 2 f_part_of
abbrev mO:TF:=andT (truN 1) (fL ltD (var 4) (var 2))
abbrev b1_groups:SF:=ifS mO (aY (lastN 1 (var 3)) (fP 2 (dP maxD (aC (var 2) (aC (var 5) aJ))))) (aY (pushN 1 (aC (var 3) aJ)) (fP 2 (var 5)))
abbrev k1_groups:EF:=cK (.nm 0) [none] (dH (var 1)) ttT (dP srtY (aC (var 0) aJ))
def f_groups:SF:=(aY (newN 1) (aY (fP 2 (cst (.int 0))) (aY (forS (.tp [3,4,5]) (dH (aS bW (aC (var 0) aJ))) b1_groups) (frzN 1 (retS k1_groups)))))
def kH:List PyData→Mm PyData:=dJ 6 1 f_groups
abbrev iV:TF:=fL inX (var 1) (var 2)
abbrev b1_group_of:SF:=ifS iV (retS (var 2)) mZ
abbrev nmD (A:List Mt):List PyData:=(A.map (·.1)).map .str
theorem lW (S:Ent):∀ (l:List Mt) (done:List (List Mt)) (cur:List Mt) (r:Int) (x3 x4 x5:Ent),done.length+l.length≤1000→cur.length+l.length≤1000 →
  ∃ r' y3 y4 y5,cU (.tp [3,4,5]) b1_groups (l.map dM) [S,.nst ((done++[cur]).map nmD),.val (.int r),x3,x4,x5]=some (.nx [S,.nst ((done++fN l cur r).map nmD),.val (.int r'),y3,y4,y5])
 | [],done,cur,r,x3,x4,x5,_,_=>⟨r,x3,x4,x5,rfl⟩
 | m::l,done,cur,r,x3,x4,x5,h1,h2=>by
  simp only [List.length_cons] at h1 h2
  have t1:mO [S,.nst ((done++[cur]).map nmD),.val (.int r),.val (.str m.1),.val (.int m.2.1),.val (.int m.2.2)]=some (.ok (decide (m.2.1<r))):=by
   show andT (truN 1) (fL ltD (var 4) (var 2)) _=_
   have h0:truN 1 [S,.nst ((done++[cur]).map nmD),.val (.int r),.val (.str m.1),.val (.int m.2.1),.val (.int m.2.2)]=some (.ok true):=by
    show some (Re.ok (!((done++[cur]).map nmD).isEmpty))=_
    simp
   rw [andT_e,h0,fI,if_pos rfl]
   simp
  unfold fN
  by_cases c:m.2.1<r
  ·rw [if_pos c]
   obtain ⟨r',y3,y4,y5,e⟩:=lW S l done (cur++[m]) (max r m.2.2) (.val (.str m.1)) (.val (.int m.2.1)) (.val (.int m.2.2)) (by omega) (by simp;omega)
   refine ⟨r',y3,y4,y5,?_⟩
   rw [←e]
   refine eX (ρ1:=[S,.nst ((done++[cur]).map nmD),.val (.int r),.val (.str m.1),.val (.int m.2.1),.val (.int m.2.2)]) rfl ?_
   show ifS mO _ _ _=_
   rw [iN,t1,iT,decide_eq_true c,if_pos rfl]
   have l1:lastN 1 (var 3) [S,.nst ((done++[cur]).map nmD),.val (.int r),.val (.str m.1),.val (.int m.2.1),.val (.int m.2.2)]=some (.nx [S,.nst ((done++[cur++[m]]).map nmD),.val (.int r),.val (.str m.1),.val (.int m.2.1),.val (.int m.2.2)]):=by
    unfold lastN
    dsimp only [List.getElem?_cons_succ,List.getElem?_cons_zero]
    rw [List.map_append,List.map_append,show [cur].map nmD=[nmD cur] from rfl,List.getLast?_concat]
    dsimp only
    rw [List.dropLast_concat]
    show (if cZ (nmD cur).length then _ else _)=_
    rw [if_pos (by unfold cZ;exact decide_eq_true (by simp;omega))]
    simp
   rw [aM l1]
   show bns (dP maxD (aC (var 2) (aC (var 5) aJ)) _) _ _=_
   rw [fU (ρ:=[S,.nst ((done++[cur++[m]]).map nmD),.val (.int r),.val (.str m.1),.val (.int m.2.1),.val (.int m.2.2)]) (ds:=[.int r,.int m.2.2]) rfl max_ii]
   rfl
  ·rw [if_neg c]
   obtain ⟨r',y3,y4,y5,e⟩:=lW S l (done++[cur]) [m] m.2.2 (.val (.str m.1)) (.val (.int m.2.1)) (.val (.int m.2.2)) (by simp;omega) (by simp;omega)
   refine ⟨r',y3,y4,y5,?_⟩
   rw [show done++(cur::fN l [m] m.2.2)=(done++[cur])++fN l [m] m.2.2 by simp,←e]
   refine eX (ρ1:=[S,.nst ((done++[cur]).map nmD),.val (.int r),.val (.str m.1),.val (.int m.2.1),.val (.int m.2.2)]) rfl ?_
   show ifS mO _ _ _=_
   rw [iN,t1,iT,decide_eq_false c,if_neg (by decide)]
   have p1:pushN 1 (aC (var 3) aJ) [S,.nst ((done++[cur]).map nmD),.val (.int r),.val (.str m.1),.val (.int m.2.1),.val (.int m.2.2)]=some (.nx [S,.nst ((done++[cur]++[[m]]).map nmD),.val (.int r),.val (.str m.1),.val (.int m.2.1),.val (.int m.2.2)]):=by
    unfold pushN
    dsimp only [List.getElem?_cons_succ,List.getElem?_cons_zero]
    rw [show aC (var 3) aJ [S,.nst ((done++[cur]).map nmD),.val (.int r),.val (.str m.1),.val (.int m.2.1),.val (.int m.2.2)]=some (.ok [.str m.1]) from rfl,iT]
    rw [if_pos (by unfold cZ;simp;omega)]
    simp
   rw [aM p1]
   rfl
theorem in_strs (x:Str) (ns:List Str):inX (.str x) (.list (ns.map .str))=some (decide (x∈ns)):=by
 show (Option.map _ (cR strD (ns.map .str)))=_
 rw [fJ (g:=.str) (fun _=>rfl) ns];rfl
theorem e_part_of (s:List Mt) (ns:List Str) (hz:s.length≤1000):kF [dS s,.list (ns.map .str)]=some (.ok (dS (s.filter fun m=>decide (m.1∈ns)))):=by
 refine bU rfl ?_
 show f_part_of [.val (dS s),.val (.list (ns.map .str))]=_
 have k1:k1_part_of [.val (dS s),.val (.list (ns.map .str))]=some (.ok (.list ((s.filter fun m=>decide (m.1∈ns)).map dM))):=
  cN dM (fun m=>[.val (dM m),.val (.list (ns.map .str))]) (fun m=>decide (m.1∈ns)) dM s rfl (by omega) (fun m _=>rfl) (fun m _=>by
   show lft (inX (.str m.1) (.list (ns.map .str)))=_
   rw [in_strs];rfl) (fun m _ _=>rfl)
 unfold f_part_of
 rw [dO,fU (ds:=[.list ((s.filter fun m=>decide (m.1∈ns)).map dM)]) (by rw [cH,k1];rfl) (tup_l _)];rfl
abbrev gD (A:List Mt):PyData:=.list ((eA (A.map (·.1))).map .str)
theorem grp_len {l A:List Mt} (h:A∈bY l):A.length≤l.length:=by
 have:A.Sublist (bY l).flatten:=List.sublist_flatten_of_mem h
 rw [fQ] at this
 exact this.length_le
theorem e_groups {s:List Mt} (nd:(s.map (·.1)).Nodup) (hz:s.length<64):kH [dS s]=some (.ok (.list ((bY (dA s)).map gD))):=by
 have hl:=(dE s).length_eq
 refine bU rfl ?_
 show f_groups [.val (dS s),.no,.no,.no,.no,.no]=_
 have lp:∃ r y3 y4 y5,cU (.tp [3,4,5]) b1_groups ((dA s).map dM) [.val (dS s),.nst [],.val (.int 0),.no,.no,.no]=some (.nx [.val (dS s),.nst ((bY (dA s)).map nmD),.val (.int r),y3,y4,y5]):=by
  cases hs:dA s with
  | nil=>exact ⟨0,.no,.no,.no,rfl⟩
  | cons m l=>
   rw [hs] at hl
   simp only [List.length_cons] at hl
   obtain ⟨r',y3,y4,y5,e⟩:=lW (.val (dS s)) l [] [m] m.2.2 (.val (.str m.1)) (.val (.int m.2.1)) (.val (.int m.2.2)) (by simp;omega) (by simp;omega)
   refine ⟨r',y3,y4,y5,?_⟩
   rw [show bY (m::l)=[]++fN l [m] m.2.2 from rfl,←e]
   refine eX (ρ1:=[.val (dS s),.nst [],.val (.int 0),.val (.str m.1),.val (.int m.2.1),.val (.int m.2.2)]) rfl ?_
   rfl
 obtain ⟨r,y3,y4,y5,lp⟩:=lp
 have k1:k1_groups [.val (dS s),.val (.list (((bY (dA s)).map nmD).map .list)),.val (.int r),y3,y4,y5]=some (.ok (.list ((bY (dA s)).map gD))):=by
  have gl:(bY (dA s)).length≤1000:=by
   have h1:∀ (Gs:List (List Mt)),(∀ A∈Gs,A≠[])→Gs.length≤Gs.flatten.length:=by
    intro Gs
    induction Gs with
    | nil=>intro _;simp
    | cons A Gs ih=>
     intro h
     have hA:0<A.length:=List.length_pos_iff.mpr (h A (by simp))
     have:=ih fun B hB=>h B (by simp [hB])
     rw [List.flatten_cons,List.length_append,List.length_cons];omega
   have:=h1 (bY (dA s)) fun A hA=>by obtain ⟨y,t,e,_⟩:=nU A hA;rw [e];simp
   rw [fQ] at this
   omega
  refine cO (fun A:List Mt=>PyData.list (nmD A)) (fun A=>[.val (.list (nmD A))]) gD (bY (dA s)) (by rw [seqI_e];show some (Re.ok (((bY (dA s)).map nmD).map PyData.list))=_;rw [List.map_map];rfl) (by omega) (fun A _=>by simp [bL]) (fun A hA=>?_)
  obtain ⟨y,t,e,_⟩:=nU A hA
  have la:=grp_len hA
  subst e
  refine fU (ds:=[.list (nmD (y::t))]) rfl ?_
  exact srtY_strs (x:=y.1) (ns:=t.map (·.1)) (by simp at la ⊢;omega)
 unfold f_groups
 rw [aM (ρ':=[.val (dS s),.nst [],.no,.no,.no,.no]) rfl,aM (ρ':=[.val (dS s),.nst [],.val (.int 0),.no,.no,.no]) rfl]
 rw [aM (ρ':=[.val (dS s),.nst ((bY (dA s)).map nmD),.val (.int r),y3,y4,y5]) (by rw [mG,fY (aZ (ds:=[dS s]) rfl (e_laying nd hz)) rfl,iT];exact lp)]
 show retS k1_groups [.val (dS s),.val (.list (((bY (dA s)).map nmD).map .list)),.val (.int r),y3,y4,y5]=_
 rw [dO,k1];rfl
theorem loop_gof (S:Ent) (x:Str):∀ (Gs:List (List Mt)) (y:Ent),(∃ A∈Gs,x∈A.map (·.1))→∃ A∈Gs,x∈A.map (·.1)∧cU (.nm 2) b1_group_of (Gs.map gD) [S,.val (.str x),y]=some (.rt (gD A))
 | [],y,⟨A,h,_⟩=>by cases h
 | A::Gs,y,h=>by
  have t1:iV [S,.val (.str x),.val (gD A)]=some (.ok (decide (x∈A.map (·.1)))):=by
   show lft (inX (.str x) (gD A))=_
   rw [in_strs,lft_s]
   congr 2
   rw [decide_eq_decide]
   exact (bX _).mem_iff
  by_cases c:x∈A.map (·.1)
  ·refine ⟨A,by simp,c,?_⟩
   rw [List.map_cons,cU,show tgD (.nm 2) [S,.val (.str x),y] (gD A)=some [S,.val (.str x),.val (gD A)] from rfl]
   dsimp only
   rw [show b1_group_of [S,.val (.str x),.val (gD A)]=some (.rt (gD A)) from by show ifS iV _ _ _=_;rw [iN,t1,decide_eq_true c];rfl]
  ·obtain ⟨B,hB,hx⟩:=h
   have hB':B∈Gs:=by
    rcases List.mem_cons.mp hB with rfl | hB
    ·exact absurd hx c
    ·exact hB
   obtain ⟨C,hC,hxC,e⟩:=loop_gof S x Gs (.val (gD A)) ⟨B,hB',hx⟩
   refine ⟨C,by simp [hC],hxC,?_⟩
   rw [←e,List.map_cons]
   exact eX (ρ1:=[S,.val (.str x),.val (gD A)]) rfl (by show ifS iV _ _ _=_;rw [iN,t1,decide_eq_false c];rfl)
theorem cJ:∀ {s:List Mt},(s.map (·.1)).Nodup→∀ {a b:Mt},a∈s→b∈s→a.1=b.1→a=b
 | [],_,_,_,h,_,_=>by cases h
 | x::s,nd,a,b,ha,hb,e=>by
  rw [List.map_cons,List.nodup_cons] at nd
  rcases List.mem_cons.mp ha with ea | ha'
  ·rcases List.mem_cons.mp hb with eb | hb'
   ·rw [ea,eb]
   ·exact absurd (List.mem_map.mpr ⟨b,hb',by rw [←e,ea]⟩) nd.1
  ·rcases List.mem_cons.mp hb with eb | hb'
   ·exact absurd (List.mem_map.mpr ⟨a,ha',by rw [e,eb]⟩) nd.1
   ·exact cJ nd.2 ha' hb' e
end L2.L3
namespace L2.ZT
open PySem PyProof.Rows
section
variable {prog:Program} {w:World} {A:Around} {E:Value→Shared→Prop} {s:Shared}
variable {z TI TO c d t u:Addr} {i j:Nat} {xs ys:Array Value} {a b:Value}
end
section
variable {prog:Program} {w:World} {A:Around} {E:Value→Shared→Prop} {s:Shared}
end
end L2.ZT
namespace L2.L3
open PySem PySem.Spec PyProof.Rows
def Itl (K:PySem.W.Frag) (l1 l2:Addr):It:=
 ⟨fun i H=>∃ xs ys x y,SqT K H l1 xs∧SqL K H l2 ys∧xs[i]?=some x∧ys[i]?=some y,
 fun i H v H'=>∃ T x y,H T=none∧v=.ref T∧H'=upd H T (.tup [x,y])∧(∀ xs,SqT K H l1 xs→xs[i]?=some x)∧∀ ys,SqL K H l2 ys→ys[i]?=some y,
 fun i H=>∃ xs ys,SqT K H l1 xs∧SqL K H l2 ys∧(xs.length≤i∨ys.length≤i)⟩
section
variable {X:Cx} {a b:Expr} {elts:List Expr} {k0:Nat} {p0 pos p:Pos} {fa fb:EF}
end
theorem kR {g:PyData→PyData→Option PyData} {fa fb:EF} {ρ:List Ent} {x y d:PyData} (ha:fa ρ=some (.ok x)) (hb:fb ρ=some (.ok y)) (h:g x y=some d):op2 g fa fb ρ=some (.ok d):=by
 rw [op2_e,ha,fI,hb,fI,h];rfl
theorem fH {g:PyData→PyData→Option Bool} {fa fb:EF} {ρ:List Ent} {x y:PyData} {r:Bool} (ha:fa ρ=some (.ok x)) (hb:fb ρ=some (.ok y)) (h:g x y=some r):fL g fa fb ρ=some (.ok r):=by
 rw [cmpT_e,ha,fI,hb,fI,h];rfl
theorem kE {fa:EF} {aa:AF} {ρ:List Ent} {x:PyData} {xs:List PyData} (ha:fa ρ=some (.ok x)) (hb:aa ρ=some (.ok xs)):aC fa aa ρ=some (.ok (x::xs)):=by
 rw [cH,ha,fI,hb,fI]
theorem split_at {s:List Mt} {x:Mt} (nd:(s.map (·.1)).Nodup) (hx:x∈s):∃ l r,s=l++x::r∧∀ m∈l,m.1≠x.1:=by
 obtain ⟨l,r,rfl⟩:=List.append_of_mem hx
 refine ⟨l,r,rfl,fun m hm=>?_⟩
 rw [List.map_append,List.map_cons,List.Nodup,List.pairwise_append] at nd
 exact nd.2.2 m.1 (List.mem_map_of_mem hm) x.1 (by simp)
def prt (s:List Mt) (m:Mt):List Mt:=s.filter fun o=>!decide (o.1=m.1)&&decide (ov m o)
def gof (s:List Mt) (m:Mt):List Mt:=((bY (dA s)).find? fun A=>decide (m∈A)).getD []
def grp (s:List Mt) (m:Mt):List Mt:=s.filter fun a=>decide (a∈gof s m)
def wid (s:List Mt) (m:Mt):Int:=eO (grp s m)
section
variable {s:List Mt}
theorem bK {m:Mt} (hm:m∈s):gof s m∈bY (dA s)∧m∈gof s m:=by
 have hf:m∈(bY (dA s)).flatten:=by rw [fQ];exact (dE s).mem_iff.mpr hm
 obtain ⟨B,hB,hmB⟩:=List.mem_flatten.mp hf
 unfold gof
 cases h:(bY (dA s)).find? fun A=>decide (m∈A) with
 | none=>
  rw [List.find?_eq_none] at h
  exact absurd (decide_eq_true hmB) (h B hB)
 | some A=>exact ⟨List.mem_of_find?_eq_some h,by simpa using List.find?_some h⟩
theorem cI {A:List Mt} (hA:A∈bY (dA s)) {a:Mt} (ha:a∈A):a∈s:=
 (dE s).mem_iff.mp (by rw [←fQ (dA s)];exact List.mem_flatten.mpr ⟨A,hA,ha⟩)
theorem grp_ov {A B:List Mt} (hA:A∈bY (dA s)) (hB:B∈bY (dA s)) {a b:Mt} (ha:a∈A) (hb:b∈B) (ho:ov a b):A=B:=by
 obtain ⟨i,hi⟩:=List.getElem?_of_mem hA
 obtain ⟨j,hj⟩:=List.getElem?_of_mem hB
 have:=grpOf_ov (layO_begins s) hi hj ha hb ho
 subst this
 rw [hi] at hj
 exact Option.some.inj hj
variable (hp:∀ m∈s,m.2.1<m.2.2)
include hp
theorem ov_self {m:Mt} (hm:m∈s):ov m m:=by have:=hp m hm;unfold ov;omega
theorem mF {m:Mt} {A:List Mt} (hA:A∈bY (dA s)) (ha:m∈A):A=gof s m:=by
 have hm:=cI hA ha
 exact grp_ov hA (bK hm).1 ha (bK hm).2 (ov_self hp hm)
theorem gof_ov {a b:Mt} (ha:a∈s) (hb:b∈s) (ho:ov a b):gof s a=gof s b:=grp_ov (bK ha).1 (bK hb).1 (bK ha).2 (bK hb).2 ho
theorem wid_ov {a b:Mt} (ha:a∈s) (hb:b∈s) (ho:ov a b):wid s a=wid s b:=by unfold wid grp;rw [gof_ov hp ha hb ho]
theorem ov_of_at {d:Int} {a b:Mt} (ha:bH d a=true) (hb:bH d b=true):ov a b:=by
 have h1:=eC.mp ha
 have h2:=eC.mp hb
 unfold ov;omega
theorem load_grp {m:Mt} (hm:m∈s) {d:Int} (hd:bH d m=true):aU (grp s m) d=aU s d:=by
 unfold aU fZ grp
 rw [List.filter_filter]
 congr 3
 refine List.filter_congr fun o ho=>?_
 cases hg:bH d o with
 | false=>rfl
 | true=>
  rw [Bool.true_and]
  refine decide_eq_true ?_
  rw [gof_ov hp hm ho (ov_of_at hp hd hg)]
  exact (bK ho).2
theorem load_wid {m:Mt} (hm:m∈s) {d:Int} (hd:bH d m=true):aU s d≤wid s m:=by
 rw [←load_grp hp hm hd];exact most_ge _ _
theorem kB {m:Mt} (hm:m∈s):bH m.2.1 m=true:=eC.mpr ⟨Int.le_refl _,hp m hm⟩
theorem load_ge1 {m:Mt} (hm:m∈s) {d:Int} (hd:bH d m=true):1≤aU s d:=by
 unfold aU fZ
 have:0<((s.filter (bH d)).map (·.1)).length:=by
  rw [List.length_map]
  exact List.length_pos_of_mem (List.mem_filter.mpr ⟨hm,hd⟩)
 omega
theorem wid_pos {m:Mt} (hm:m∈s):1≤wid s m:=Int.le_trans (load_ge1 hp hm (kB hp hm)) (load_wid hp hm (kB hp hm))
theorem wid_at {m:Mt} (hm:m∈s):∃ o∈s,gof s o=gof s m∧wid s m=aU s o.2.1:=by
 rcases most_at (grp s m) with h | ⟨o,ho,h⟩
 ·have:=wid_pos hp hm;unfold wid at this;omega
 ·obtain ⟨hos,hog⟩:=List.mem_filter.mp ho
  have hg:gof s m=gof s o:=mF hp (bK hm).1 (of_decide_eq_true hog)
  refine ⟨o,hos,hg.symm,?_⟩
  show eO (grp s m)=_
  rw [h]
  have:grp s m=grp s o:=by unfold grp;rw [hg]
  rw [this,load_grp hp hos (kB hp hos)]
theorem load_len (d:Int):aU s d≤s.length:=by
 unfold aU fZ
 rw [List.length_map]
 have:=List.length_filter_le (bH d) s
 omega
theorem wid_len {m:Mt} (hm:m∈s):wid s m≤s.length:=by
 obtain ⟨o,_,_,h⟩:=wid_at hp hm
 rw [h];exact load_len hp _
omit hp
structure Laid (s:List Mt) (P:List Ly):Prop where
 lay:LayOf s P
 pos:∀ m∈s,m.2.1<m.2.2
 nd:(s.map (·.1)).Nodup
abbrev cl (P:List Ly) (m:Mt):Int:=(eD P m.1:Nat)
variable {P:List Ly}
theorem Laid.inP (h:Laid s P) {m:Mt} (hm:m∈s):(m,eD P m.1)∈P:=by
 obtain ⟨p,hp,rfl⟩:=List.mem_map.mp (h.lay.perm.mem_iff.mpr hm)
 rw [col_self (h.lay.nd h.nd) p hp]
 exact hp
theorem Laid.of (h:Laid s P) {p:Ly} (hp:p∈P):p.1∈s∧p.2=eD P p.1.1:=⟨h.lay.perm.mem_iff.mp (List.mem_map_of_mem hp),(col_self (h.lay.nd h.nd) p hp).symm⟩
theorem Laid.col_wid (h:Laid s P) {m:Mt} (hm:m∈s):cl P m<wid s m:=by
 have h1:=h.lay.up h.pos (h.inP hm)
 have h2:=h.lay.load m.2.1
 have h3:=load_wid h.pos hm (kB h.pos hm)
 dsimp only at h1
 show ((eD P m.1:Nat):Int)<_
 omega
theorem Laid.col_ne (h:Laid s P) {a b:Mt} (ha:a∈s) (hb:b∈s) (hn:a≠b) (ho:ov a b):cl P a≠cl P b:=by
 obtain ⟨i,hi,ei⟩:=List.getElem_of_mem (h.inP ha)
 obtain ⟨j,hj,ej⟩:=List.getElem_of_mem (h.inP hb)
 have pw:=h.lay.diff
 rw [List.pairwise_iff_getElem] at pw
 rcases Nat.lt_trichotomy i j with c | c | c
 ·have:=pw i j hi hj c
  rw [ei,ej] at this
  have:=this ((ov_comm _ _).mp ho)
  dsimp only at this
  show ((_:Nat):Int)≠((_:Nat):Int)
  omega
 ·subst c
  rw [ei] at ej
  exact absurd (congrArg Prod.fst ej) hn
 ·have:=pw j i hj hi c
  rw [ei,ej] at this
  have:=this ho
  dsimp only at this
  show ((_:Nat):Int)≠((_:Nat):Int)
  omega
def lst (s:List Mt) (P:List Ly) (m:Mt):Int:=minI ((wid s m::(prt s m).map (cl P)).filter fun c=>decide (cl P m<c))
theorem mem_prt {m o:Mt} (h:Laid s P) (hm:m∈s):o∈prt s m↔o∈s∧o≠m∧ov m o:=by
 unfold prt
 rw [List.mem_filter]
 constructor
 ·rintro ⟨h1,h2⟩
  rw [Bool.and_eq_true,decide_eq_true_eq] at h2
  exact ⟨h1,fun z=>by rw [z] at h2;simp at h2,h2.2⟩
 ·rintro ⟨h1,h2,h3⟩
  refine ⟨h1,?_⟩
  rw [Bool.and_eq_true,decide_eq_true_eq]
  refine ⟨?_,h3⟩
  have:o.1≠m.1:=fun z=>h2 (cJ h.nd h1 hm z)
  simp [this]
theorem full_nat {cs:List Nat} (nd:cs.Nodup) {w:Nat} (hl:∀ c∈cs,c<w) (hn:cs.length=w) {j:Nat} (hj:j<w):j∈cs:=by
 apply Classical.byContradiction
 intro z
 have:=jX (l:=j::cs) (m:=List.range w) (List.nodup_cons.mpr ⟨z,nd⟩) fun x hx=>by
  rcases List.mem_cons.mp hx with rfl | hx
  ·exact List.mem_range.mpr hj
  ·exact List.mem_range.mpr (hl x hx)
 rw [List.length_cons,List.length_range] at this
 omega
end
end L2.L3
namespace L2.L3
open PySem
def dn (m:Mt):Nat:=((m.2.2 - 1) / 48+1 - m.2.1 / 48).toNat
variable {m:Mt}
theorem sh_dM {m:Mt} (h:PyData.strOk m.1=true):SeqAt.shaped (dM m)=true:=sh_tuple (n:=1) (fun d hd=>by
 have:d=.str m.1∨d=.int m.2.1∨d=.int m.2.2:=by simpa using hd
 rcases this with rfl | rfl | rfl<;>simp [PyData.canLay0,h]) (fun d hd=>by
 have:d=.str m.1∨d=.int m.2.1∨d=.int m.2.2:=by simpa using hd
 rcases this with rfl | rfl | rfl<;>simp [PyData.depth]) (by decide)
theorem sh_dS {s:List Mt} (h:∀ m∈s,PyData.strOk m.1=true):SeqAt.shaped (dS s)=true:=sh_tuple (n:=2) (fun d hd=>by
 obtain ⟨m,hm,rfl⟩:=List.mem_map.mp hd
 exact SeqAt.canLay_of_shaped (sh_dM (h m hm))) (fun d hd=>by
 obtain ⟨m,hm,rfl⟩:=List.mem_map.mp hd
 rw [PyData.depth]
 have:PyData.depthAll [PyData.str m.1,.int m.2.1,.int m.2.2]≤1:=jI fun d hd=>by
  have:d=.str m.1∨d=.int m.2.1∨d=.int m.2.2:=by simpa using hd
  rcases this with rfl | rfl | rfl<;>simp [PyData.depth]
 omega) (by decide)
end L2.L3
namespace L2.L3
open PySem PySem.Spec PyProof.Rows PySem.W PySem.Builtin PySem.Builtin.ObjectAttr PySem.Builtin.Getset_descriptor
abbrev bmVE:List Value:=[.type "ValueError", .type "Exception", .type "BaseException", .type "object"]
structure XCls (K:Frag) (C:Addr):Prop where
 ex:excIn K C bmVE "ValueError.__new__" = true
 ga:findIn K (.ref C) "__getattribute__" = some (some (.builtin "BaseException.__getattribute__"))
 nga:findIn K (.ref C) "__getattr__" = some none
 cl:findIn K (.ref C) "__class__" = some (some (.builtin "object.__class__"))
 ob:mroIn K C (.type "object")=some true
theorem XCls.obj {K:Frag} {C:Addr} {h:Heap} (x:XCls K C) (X:K.In h):∃ bm N nm q bs hdct sn sub ab col dd k0 k1 k2 k3 k5 mN,h.get? C=some (excClassObj nm q C N bs bm hdct sn sub ab col dd k0 k1 k2 k3 k5 "ValueError.__new__")∧h.Ns N mN∧mN "__init__" = none∧OwnTail h bmVE bm:=by
 have q:=x.ex
 unfold excIn at q
 split at q
 ·rename_i dd cd sl ho
  split at q
  ·rename_i C' bm k0 k1 k2 k3 n k5 hm hs
   simp only [Bool.and_eq_true,beq_iff_eq,Bool.not_eq_true'] at q
   obtain ⟨⟨⟨⟨⟨rfl,rfl⟩,hdel⟩,ht⟩,hok⟩,hni⟩:=q
   obtain ⟨nm,bs,mro,ns,qn,hd,sn,sub,ab,col,del⟩:=cd
   dsimp only at hm hdel hok hni
   subst hm hdel
   have hsl:sl=#[k0,k1,k2,k3,some (.builtin "ValueError.__new__"),k5]:=by
    obtain ⟨l⟩:=sl
    simp only at hs
    rw [hs]
   subst hsl
   exact ⟨bm,ns,nm,qn,bs,hd,sn,sub,ab,col,dd,k0,k1,k2,k3,k5,_,X _ _ ho,.of_isNs (isNs_of_in X hok),nsMap_none_of_in X hok hni,tail_of_in X ht⟩
  ·cases q
 ·cases q
section
variable {prog:Program} {w:World} {A:Around} {E:Value→Shared→Prop} {s:Shared} {K:Frag} {C D a:Addr} {ox:Obj}
theorem xc_is {Q:Value→Shared→Prop} (X:K.In s.heap) (I:ExO s.heap a C ox) (e:isIn K (.ref C) D=true) (h:Q (.bool true) s) :
  wpAny (model prog w) A (call (.builtin "isinstance") [.ref a,.ref D]) Q E s:=isi_call X (fun _=>I.type) e (by intro q;cases q) h
theorem xc_match {M:Model} {Q:Bool→Shared→Prop} (x:XCls K C) (y:XCls K D) (X:K.In s.heap) (I:ExO s.heap a C ox) (hs:subIn K (.ref C) (.ref D)=some true) (hq:Q true s):wpAny M A (excMatches (.ref a) (.ref D)) Q E s:=by
 obtain ⟨bm,N,nm,q,bs,hdct,sn,sub,ab,col,dd,k0,k1,k2,k3,k5,mN,hC,hN,hni,T⟩:=y.obj X
 obtain ⟨hh,g,d,t,os⟩:=s
 have L1:=looks_subIn (M:=M) X hs
 have hcB:(Value.ref D::bm).contains (.type "BaseException")=true:=by rw [List.contains_cons,T.hasType (X := "BaseException") (b:=true) rfl];rfl
 have f:=tc_notTuple
 unfold excMatches
 repeat (first | (with_reducible refine wpAny_loadPart_at I.at_ ?_;rw [I.cls]) | with_reducible refine wpAny_loadPart_at hC ?_ | with_reducible refine L1.at ?_ | (with_reducible refine wpAny_isSubtype_exc hC ?_;rw [hcB]) | wp_step)
 exact hq
end
end L2.L3
namespace L2.L3
open PySem PySem.Spec PyProof.Rows
section
variable {X:Cx} {pins:List (Addr×Obj)} {σ:St} {H:Hp} {s:Shared}
theorem inv_new (I:Inv X pins σ H s) {b:Addr} (h:s.heap.get? b=none):Fresh X b:=by
 refine ⟨?_,fun p hp z=>?_⟩
 ·cases q:X.s₀.heap.get? b with
  | none=>exact .inr rfl
  | some o=>
   refine .inl (Classical.byContradiction fun n=>?_)
   obtain ⟨o',e⟩:=I.base.there b o q n
   rw [h] at e;cases e
 ·obtain ⟨e,_⟩:=I.pin p (List.mem_append_left _ hp)
  rw [z,h] at e;cases e
end
section
variable {X:Cx} {st:Stmt} {f:SF}
def noxS (f:SF):SF:=fun ρ=>match f ρ with
 | some (.xc _ _)=>none
 | r=>r
theorem ds_nox (h:DS X.nox st f):DS X st (noxS f):=⟨fun pins s σ H D I ⟨ρ,o,H0,G₀,G,e,R,q⟩=>by
 have ⟨e',n⟩:f ρ=some o∧∀ c ρ',o≠.xc c ρ':=by
  unfold noxS at e
  split at e
  ·cases e
  ·rename_i z
   exact ⟨e,fun c ρ' w=>z c ρ' (by rw [e,w])⟩
 have q':EndS X.nox H0 G₀ G D o:=by
  cases o with
  | nx ρ'=>exact q
  | rt d=>exact q
  | bk ρ'=>exact q
  | ct ρ'=>exact q
  | xc c ρ'=>exact absurd rfl (n c ρ')
 exact wpAny_mono (h.run pins s σ H D (I.wish _) ⟨ρ,o,H0,G₀,G,e',R,q'⟩) (fun _ _ z=>z.unwish) fun _ _ z=>False.elim z⟩
def raiseS (c:Str):SF:=fun ρ=>some (.xc c ρ)
theorem ds_raise {x m:Str} {C:Addr} {np sp cpos pos:Pos} {j} (hc:X.calm=true) (hE:excC X.K x=some C) (hX:XCls X.K C) (hg:Gl X x:=by rfl) (hdb:(x==("__debug__" : Str))=false:=by decide)
  (he:starEach [.Constant (.str m) j sp] X.env=(false,eval (.Constant (.str m) j sp) X.env)::starEach [] X.env:=by rfl) (hpl:(backTo cpos (starEach [] X.env)).any (·.1)=false:=by rfl) :
  DS X (.Raise (some (.Call (.Name x np) [.Constant (.str m) j sp] [] cpos)) none pos) (raiseS x):=⟨fun pins s σ H D I ⟨ρ,o,H0,G₀,G,e,R,q⟩=>by
 cases (Option.some.inj e)
 obtain ⟨bm,N,nm,qn,bs,hdct,sn,sub,ab,col,dd,k0,k1,k2,k3,k5,mN,hC,hN,hni,T⟩:=hX.obj I.mod.kin
 have hm:X.mg x=some (.ref C):=PySem.W.mg_of I.mod.kin I.mod.glob (excC_is hE)
 refine wpAny_Raise_call_subT (C:=C) (nm:=nm) (q:=qn) (N:=N) (bs:=bs) (bm:=bm) (hdct:=hdct) (sn:=sn) (sub:=sub) (ab:=ab) (col:=col) (dd:=dd) (k0:=k0) (k1:=k1) (k2:=k2) (k3:=k3) (k5:=k5)
  PySem.F.excBase_ValueError (mN:=mN) (T.hasType PySem.F.excBase_ValueError.hasBase) (I.ok.hd hc) (by rw [he];show (false || (backTo cpos (starEach [] X.env)).any (·.1))=false;rw [hpl];rfl) hni (ld_glob I hg hm ⟨rfl,?_⟩ hdb)
 have h:=eJ (X:=X) (pe_str:PE X (.Constant (.str m) j sp) (tC (.str m))) iG he cpos pins s σ H (fun vs H'=>vs=[.str m]∧H'=H) I ⟨rfl,rfl⟩
 rw [he] at h ⊢
 refine Calls.evalArgs_plain (thn h fun us s2 ⟨vs,H',I2,rv,e1,e2⟩=>?_)
 subst e1 e2
 refine ⟨rfl,by rw [←rv.length];show 1≤sizeLine;decide,I2.bk _ _ hC,hN.keeps I2.bk,T.keeps I2.bk,fun h' a hm'=>?_⟩
 obtain ⟨t,ht,_,_⟩:=hm'.there
 exact q pins { s2 with heap:=h' } σ H' G _ (I2.kept (t':=s2.toks) hm'.keeps) R (.refl _) ⟨a,C,rfl,hE,.inl ⟨inv_new I2 hm'.new,hok_no I2.hok hm'.new,_,_,.ref t,ht,rfl,rfl,rfl,rfl⟩⟩⟩
end
end L2.L3
namespace L2.L3
open PySem PySem.Spec PyProof.Rows
def runX (m n:Nat) (f:SF) (ds:List PyData):Mm PyData:=if ds.length=n then (match f (startN m ds) with
 | some (.rt d)=>some (.ok d)
 | some (.nx _)=>some (.ok .none)
 | some (.xc c _)=>some (.ex c)
 | _=>none) else none
def CX1 (P:Program) (w:World):CXT:=fun outer H s E e s'=>∃ a C H',e=.ref a∧E (.ref C) none H'∧s'.os=s.os∧AllBare s'.gens∧Un (frs outer) [] H H' s.heap s'.heap∧HOk P w H' s'.heap∧ExcAt (fun b=>s.heap.get? b=none) H' a C s'.heap
def EndX (K:PySem.W.Frag) (G H:Hp) (Q:VK) (E:XK):Re PyData→Prop
 | .ok d=>∀ v G' H',Grow G H G' H'→Rep K G' v d→Q v H'
 | .ex c=>∀ C G' H',excC K c=some C→Grow G H G' H'→E (.ref C) none H'
def spX (K:PySem.W.Frag) (F:List PyData→Mm PyData):Sp:=fun vs H Q E=>∃ G ds r,(aX G H∧lA K G H)∧RepAll K G vs ds∧F ds=some r∧EndX K G H Q E r
structure CalleeX (P:Program) (w:World) (K:PySem.W.Frag) (mg:Str→Option Value) (base:Heap) (x:Str) (k:Nat) (ps:List Str) (F:List PyData→Mm PyData):Prop where
 ex:∃ f fd,mg x=some (.ref f)∧PySem.W.keepIn K (.ref f)=true∧Binds K fd ps []∧FnOk P w K mg base (CX1 P w) k f fd ps (spX K F)
section
variable {X:Cx} {pins:List (Addr×Obj)} {σ:St} {H:Hp} {s:Shared}
theorem un_after {ch:List Addr} {h':Heap} (I:Inv X pins σ H s) (hex:X.ex=[]) (un:Un (frs X.stack) ch H H s.heap h') (hch:∀ b∈ch,X.s₀.heap.get? b=none):Un X.fs [] X.H₀ H X.s₀.heap h':=by
 have nx:∀ b:Addr,b∉X.ex:=fun b z=>by rw [hex] at z;cases z
 have neL:∀ b o,X.s₀.heap.get? b=some o→b≠X.env.locals:=fun b o e=>Nat.ne_of_lt (Nat.lt_of_lt_of_le (Heap.lt_size e) I.ok.above)
 have nc:∀ b o,X.s₀.heap.get? b=some o→b∉ch:=fun b o e z=>by rw [hch b z] at e;cases e
 refine ⟨fun b o e n hb _=>?_,fun b o e n hb _=>?_,fun b o e n _=>I.base.free b o e n (nx b),fun b o e _=>?_,I.base.tups,I.base.frzs,I.base.tbls⟩
 ·exact un.keep b o (I.base.keep b o e n hb (nx b)) (I.base.free b o e n (nx b)) (fun z=>(List.mem_cons.mp (I.stkSub b z)).elim (neL b o e) hb) (nc b o e)
 ·obtain ⟨sl,e1⟩:=I.base.slot b o e n hb (nx b)
  obtain ⟨sl',e2⟩:=un.any e1 (I.base.free b o e n (nx b)) (nc b o e)
  exact ⟨sl',e2⟩
 ·obtain ⟨o',e1⟩:=I.base.there b o e (nx b)
  exact un.there b o' e1 (nc b o e)
end
section
variable {P:Program} {w:World} {K:PySem.W.Frag} {mg:Str→Option Value} {base:Heap} {X:Cx} {e:Expr} {es:List Expr} {pos p:Pos} {x:Str} {k:Nat} {ps N:List Str} {F:List PyData→Mm PyData}
abbrev fcX (P:Program) (w:World) (K:PySem.W.Frag) (mg:Str→Option Value) (base:Heap) (N:List Str) (qual:Str) (scope:Scope) (f:Addr) (cd:Value) (A:Around) (outer:List Env) (s:Shared) (H:Hp) (E:XK):Cx:=cxOf (CX1 P w) P w K mg base N qual scope f cd A outer s H E
theorem fnX_den {st:Stmt} {f:SF} {fa:Addr} {fd:FuncData} (m n:Nat) (Fu:Fun K x x st fa fd) (S:FnScope N ps (aD st)) (hm:N.length=m) (hn:ps.length=n)
  (body:∀ (cdv:Value) (A:Around) (outer:List Env) (s:Shared) (H:Hp) (E:XK),Room k (A.deeper (envOfC x (aD st) s.heap.objs.size fa cdv))→DB (fcX P w K mg base N x (aD st) fa cdv A outer s H E) (cG st) f) :
  FnOk P w K mg base (CX1 P w) (k+1) fa fd ps (spX K (runX m n f)):=by
 obtain ⟨oc,od,kV,doc,pm,an,cdv,ct,osl,rfl,lk,hcd⟩:=Fu.ex
 refine fn_of lk hcd S (fun vs H Q E ⟨G,ds,r,s,rv,hF,_⟩=>?_) fun A outer s H vs Q E hr ⟨G,ds,r,sm,rv,hF,q⟩=>?_
 ·unfold runX at hF
  split at hF
  ·rename_i hl;rw [rv.length,hl,hn]
  ·cases hF
 ·unfold runX at hF
  split at hF
  ·rw [←hm,←startE_eq] at hF
   split at hF
   ·rename_i d e
    cases (Option.some.inj hF)
    exact ⟨_,(body cdv A outer s H E hr).run,gJ N ds,_,H,G,G,e,eR sm rv,fun v G' H' _ g rv=>q v G' H' g rv⟩
   ·rename_i ρ' e
    cases (Option.some.inj hF)
    exact ⟨_,(body cdv A outer s H E hr).run,gJ N ds,_,H,G,G,e,eR sm rv,fun G' H' σ' _ R'=>q .non G' H' R'.grow .none⟩
   ·rename_i c ρ' e
    cases (Option.some.inj hF)
    refine ⟨_,(body cdv A outer s H E hr).run,gJ N ds,_,H,G,G,e,eR sm rv,fun pins s' σ H' G' e' I R _ ⟨a,C,e1,hE,xa⟩=>?_⟩
    subst e1
    refine leave_ok (X:=fcX P w K mg base N x (aD st) fa cdv A outer s H E) (fr:=fun b=>s.heap.get? b=none) I.ok.frames rfl rfl I (xa.mono fun b hb=>?_) (fun b hb=>?_) fun h' ch un hch hok x'=>?_
    ·rcases hb.1 with z | z
     ·cases z
     ·exact z
    ·cases z:s.heap.get? b with
     | none=>rfl
     | some o=>
      obtain ⟨o',z'⟩:=I.base.there b o z (by intro w;cases w)
      rw [hb] at z';cases z'
    ·exact ⟨a,C,H',rfl,q C G' H' hE R.grow,I.os,I.bare,un_after I rfl un hch,hok,x'⟩
   ·cases hF
  ·cases hF
theorem eZ {st:Stmt} {f:SF} (m n:Nat) (D:Def K mg x st) (S:FnScope N ps (aD st)) (hm:N.length=m) (hn:ps.length=n)
  (hb:∀ (kV doc pm:Value) (an:Option Addr) (cdv ct:Value) (us:List Value),us.length=ps.length→bindArgs (PySem.W.fnOf x x (gB st) (cG st) (aD st) .none kV doc pm an cdv ct) ⟨us,[]⟩=pure (ps.zip us))
  (body:∀ (fa:Addr) (cdv:Value) (A:Around) (outer:List Env) (s:Shared) (H:Hp) (E:XK),Room k (A.deeper (envOfC x (aD st) s.heap.objs.size fa cdv))→DB (fcX P w K mg base N x (aD st) fa cdv A outer s H E) (cG st) f) :
  CalleeX P w K mg base x (k+1) ps (runX m n f):=by
 obtain ⟨fa,fd,Fu,hmg⟩:=D.ex
 exact ⟨fa,fd,hmg,Fu.kp,Fu.binds hb,fnX_den m n Fu S hm hn fun cdv A outer s H E hr=>body fa cdv A outer s H E hr⟩
def fO (F:List PyData→Mm PyData) (fa:AF):EF:=fun ρ=>bnd (fa ρ) F
theorem fF {fa:AF} (C:CalleeX X.prog X.w X.K X.mg X.base x k ps F) (hr:Room k X.A) (ha:DA X (e::es) fa) (hg:Gl X x:=by rfl) (hdb:(x==("__debug__" : Str))=false:=by decide)
  (he:starEach (e::es) X.env=(false,eval e X.env)::starEach es X.env:=by rfl) (hpl:(backTo pos (starEach es X.env)).any (·.1)=false:=by rfl):DE X (.Call (.Name x p) (e::es) [] pos) (fO F fa):=⟨fun pins s σ H Q I ⟨ρ,r,H0,G₀,G,e',R,q⟩=>by
 obtain ⟨f,fd,a,b,c,Fk⟩:=C.ex
 refine wpAny_Call_Name_kw (ld_glob I hg a ?_ hdb)
 refine PySem.W.callWith_K (h₀:=X.base) I.ok.mod.kin b (thn (ha.run pos pins s σ H (fun vs H1=>∃ G1 ds,Grow G H G1 H1∧RepS X.K H0 G₀ G1 H1 σ ρ∧RepAll X.K G1 vs ds∧F ds=some r) I (bA R e' q.x fun ds vs G1 H1 g1 R1 rv e1=>⟨G1,ds,g1,R1,rv,e1⟩))
  fun us s1 ⟨vs,H1,I1,rv,G1,ds,g1,R1,rd,hF⟩=>⟨I1.kIn,?_⟩) he hpl
 have sp:spX X.K F vs H1 Q (fun cv _ H'=>∃ G' C c,cv=.ref C∧r=.ex c∧excC X.K c=some C∧Grow G1 H1 G' H'):=by
  refine ⟨G1,ds,r,⟨g1.sub,R1.tab⟩,rd,hF,?_⟩
  cases r with
  | ok d=>exact fun v G' H' g rv=>q v G' H' (g1.trans g) rv
  | ex c=>exact fun C G' H' hC g=>⟨G',C,c,rfl,rfl,hC,g⟩
 have hl:us.length=ps.length:=by rw [←rv.length];exact Fk.len _ _ _ _ sp
 refine wpAny_call (codeAny_mono (Fk.run X.A X.stack s1 H1 ⟨us,[]⟩ us vs Q _ hr I1.env0 (by simpa using c s1 us I1.kIn (by simpa using hl)) rv sp) fun res s' hq=>?_)
 cases res with
 | error e2=>
  obtain ⟨a2,C2,H2,rfl,⟨G2,C3,c3,e3,rfl,hC,g2⟩,os,bare,un,hok,xa⟩:=hq
  cases e3
  exact q pins s' σ H2 G2 _ (I1.call' (ch:=[]) os un hok bare (fun b z=>nomatch z)) (R1.more g2) (g1.gg.trans g2.gg) ⟨a2,C2,rfl,hC,xa.mono fun b hb=>inv_new I1 hb⟩
 | ok fl=>
  cases fl with
  | ret u=>exact I1.after hq
  | next=>exact False.elim hq
  | brk=>exact False.elim hq
  | cont=>exact False.elim hq⟩
end
end L2.L3
namespace L2.L3
open PySem PySem.Spec PyProof.Rows
section
variable {K:PySem.W.Frag} {H0 G₀ G H:Hp} {σ:St} {ρ:List Ent}
theorem RepS.setNo (R:RepS K H0 G₀ G H σ ρ) (j:Nat) (o:Option V):RepS K H0 G₀ G H (σ.set j o) (ρ.set j .no):=by
 refine ⟨R.grow,by simp [R.len],fun i o' e h1 h2=>?_,R.inj.sub fun i e h1 h2=>?_,R.tab⟩
 ·rcases aF h2 with ⟨_,rfl,_⟩ | ⟨n,h2⟩
  ·trivial
  ·rw [List.getElem?_set_ne (Ne.symm n)] at h1
   exact R.ent i o' e h1 h2
 ·rcases aF h1 with ⟨_,rfl,_⟩ | ⟨n,h1⟩
  ·cases h2
  ·exact ⟨h1,List.getElem?_set_ne (Ne.symm n)⟩
theorem RepS.setExc {c:Str} {a C:Addr} (R:RepS K H0 G₀ G H σ ρ) (i:Nat) (hC:excC K c=some C) (ha:H a=some (xcO a C)):RepS K H0 G₀ G H (σ.set i (some (.ref a))) (ρ.set i (.exc c)):=by
 refine ⟨R.grow,by simp [R.len],fun j o' e h1 h2=>?_,R.inj.sub fun j e h1 h2=>?_,R.tab⟩
 ·rcases aF h2 with ⟨rfl,rfl,_⟩ | ⟨n,h2⟩
  ·rcases aF h1 with ⟨_,rfl,_⟩ | ⟨n,_⟩
   ·exact ⟨a,C,rfl,hC,ha⟩
   ·exact absurd rfl n
  ·rw [List.getElem?_set_ne (Ne.symm n)] at h1
   exact R.ent j o' e h1 h2
 ·rcases aF h1 with ⟨_,rfl,_⟩ | ⟨n,h1⟩
  ·cases h2
  ·exact ⟨h1,List.getElem?_set_ne (Ne.symm n)⟩
end
section
variable {X:Cx} {pins:List (Addr×Obj)} {σ:St} {H:Hp} {s:Shared}
theorem name_goes {M:Model} {A:Around} {E:Value→Shared→Prop} {Q:Unit→Shared→Prop} {j:Nat} {n:Str} {pos:Pos} (I:Inv X pins σ H s) (hN:X.N.Nodup) (hj:X.N[j]?=some n) (hk:X.env.scope.names.lookup n=some .local)
  (h:∀ s',Inv X pins (σ.set j none) H s'→Q () s'):wpAny M A (do bindName X.env n .none;unbindBehindTheSuite X.env n pos) Q E s:=by
 obtain ⟨m,hn,hl⟩:=id I.loc
 obtain ⟨oL,_,_,hoL,_⟩:=id hn
 have hcls:(X.env.scope.kind==.class || (X.env.scope.kind==.module&&X.env.locals != X.env.globals))=false:=by rw [I.ok.kind];rfl
 have hjσ:j<σ.length:=by rw [I.len];exact (List.getElem?_eq_some_iff.mp hj).1
 refine wpAny_nameGoes_keeps hk hn hcls fun h' v hn' hs=>?_
 have ne0:∀ b o,X.s₀.heap.get? b=some o→b≠X.env.locals:=fun b o e=>Nat.ne_of_lt (Nat.lt_of_lt_of_le (Heap.lt_size e) I.ok.above)
 refine h _ ⟨I.ok,I.os,I.bare,⟨fun b o e n hb hx=>?_,fun b o e n hb hx=>?_,I.base.free,fun b o e hx=>?_,I.base.tups,I.base.frzs,I.base.tbls⟩,⟨_,hn',fun i y v' e1 e2 e3=>?_⟩,fun y c e=>?_,I.free,I.freeC,fun p hp=>?_,fun b ob e=>?_,by simpa using I.len⟩
 ·exact (hs.2 b (ne0 b o e)).trans (I.base.keep b o e n hb hx)
 ·obtain ⟨sl,e1⟩:=I.base.slot b o e n hb hx
  exact ⟨sl,(hs.2 b (ne0 b o e)).trans e1⟩
 ·obtain ⟨o',e1⟩:=I.base.there b o e hx
  exact ⟨o',(hs.2 b (ne0 b o e)).trans e1⟩
 ·by_cases hi:i=j
  ·subst hi
   rw [List.getElem?_set_self hjσ] at e2
   cases e2
  ·rw [List.getElem?_set_ne (Ne.symm hi)] at e2
   obtain ⟨u',r',q⟩:=hl i y v' e1 e2 e3
   refine ⟨u',r',?_⟩
   rcases q with ⟨k,e⟩ | ⟨k,c,e,z⟩
   ·refine .inl ⟨k,?_⟩
    have:y≠n:=fun e=>hi (nodup_ix hN e1 (e▸hj))
    simp [this,e]
   ·exact .inr ⟨k,c,e,z.sameBut hs (I.cne y c e)⟩
 ·obtain ⟨w',z⟩:=I.cell y c e
  exact ⟨w',z.sameBut hs (I.cne y c e)⟩
 ·obtain ⟨e,n,ne,nf,d⟩:=I.pin p hp
  exact ⟨(hs.2 p.1 ne).trans e,n,ne,nf,d⟩
 ·refine (I.hok b ob e).stay (fun c w' hc q=>(hs.2 c ?_).trans q) (fun _ q=>q) fun _ _ q=>q
  rintro rfl
  rcases hc with rfl | hc
  ·rw [I.free] at e;cases e
  ·rw [I.free] at hc;cases hc
abbrev Cx.tryc (X:Cx) (E:Value→Shared→Prop) (pn:List (Addr×Obj)):Cx:={ X with xe:=E,pn:=pn }
abbrev Cx.suite (X:Cx) (a:Addr):Cx:={ X with A:=X.A.mark (some (.ref a)),calm:=false,xe:=fun _ _=>False }
theorem inv_tryc (I:Inv X pins σ H s) (E:Value→Shared→Prop):Inv (Cx.tryc X E (X.pn++pins)) [] σ H s:=
 ⟨⟨I.ok.mod,I.ok.kind,I.ok.glob,I.ok.blt,I.ok.above,I.ok.inj,I.ok.has,I.ok.cab,I.ok.hd,I.ok.frames,I.ok.stk,I.ok.exf,I.ok.bs,I.ok.bsz,I.ok.noex,I.ok.exfs,I.ok.funs,I.ok.frf⟩,I.os,I.bare,I.base,I.loc,I.cell,I.free,I.freeC,
  fun p hp=>I.pin p (by simpa using hp),I.hok,I.len⟩
theorem iM {E:Value→Shared→Prop} {pins':List (Addr×Obj)} (I:Inv (Cx.tryc X E (X.pn++pins)) pins' σ H s):Inv X pins σ H s:=
 ⟨⟨I.ok.mod,I.ok.kind,I.ok.glob,I.ok.blt,I.ok.above,I.ok.inj,I.ok.has,I.ok.cab,I.ok.hd,I.ok.frames,I.ok.stk,I.ok.exf,I.ok.bs,I.ok.bsz,I.ok.noex,I.ok.exfs,I.ok.funs,I.ok.frf⟩,I.os,I.bare,I.base,I.loc,I.cell,I.free,I.freeC,
  fun p hp=>I.pin p (List.mem_append_left _ hp),I.hok,I.len⟩
theorem inv_suite (I:Inv X pins σ H s) (a:Addr):Inv (Cx.suite X a) pins σ H s:=
 ⟨⟨I.ok.mod,I.ok.kind,I.ok.glob,I.ok.blt,I.ok.above,I.ok.inj,I.ok.has,I.ok.cab,(fun z=>nomatch z),I.ok.frames,I.ok.stk,I.ok.exf,I.ok.bs,I.ok.bsz,I.ok.noex,I.ok.exfs,I.ok.funs,I.ok.frf⟩,I.os,I.bare,I.base,I.loc,I.cell,I.free,I.freeC,I.pin,I.hok,I.len⟩
theorem inv_unsuite {a:Addr} (I:Inv (Cx.suite X a) pins σ H s) (ok:X.Ok):Inv X pins σ H s:=⟨ok,I.os,I.bare,I.base,I.loc,I.cell,I.free,I.freeC,I.pin,I.hok,I.len⟩
end
def tryS (i j:Nat) (cs:List Str) (f:SF):SF:=fun ρ=>match f ρ with
 | some (.xc c ρ')=>if cs.contains c then some (.nx (((ρ'.set j .no).set i (.exc c)).set j .no)) else none
 | r=>r
section
variable {X:Cx} {body:List Stmt} {f:SF}
theorem ds_try (i j:Nat) {cs:List Str} {x n d:Str} {D:Addr} {np xp ep hpos apos pos:Pos} (hN:X.N.Nodup) (hst:X.stack=X.env::X.outer) (hf:X.env.frame=some X.env.locals)
  (hD:excC X.K d=some D) (hXD:XCls X.K D) (hcs:∀ c∈cs,∃ C,excC X.K c=some C∧XCls X.K C∧PySem.W.subIn X.K (.ref C) (.ref D)=some true)
  (hb:∀ E pn,DB (Cx.tryc X E pn) body f)
  (hi:X.N[i]?=some x:=by rfl) (hj:X.N[j]?=some n:=by rfl) (hg:Gl X d:=by rfl) (hk:X.env.scope.names.lookup n=some .local:=by rfl) (hx:X.env.scope.names.lookup x=some .local:=by rfl)
  (hdb:(d==("__debug__" : Str))=false:=by decide) (hnd:(n==("__debug__" : Str))=false:=by decide) (hncd:(n==("__classdict__" : Str))=false:=by decide)
  (hs:swapsWith (.Name n ep) (some (.Name x xp)) apos.line X.env=pure false:=by rfl) :
  DS X (.Try body [.ExceptHandler (some (.Name d np)) (some n) [.Assign [.Name x xp] (.Name n ep) apos] hpos] [] [] pos) (tryS i j cs f):=⟨fun pins s σ H DD I ⟨ρ,o,H0,G₀,G,e,R,q⟩=>by
 refine wpAny_Try_except ?_
 have go:∀ o',f ρ=some o'→EndS (Cx.tryc X (fun e s₁=>wpAny (model X.prog X.w) X.A (noteFrame e X.env) (fun _ s₂=>wpAny (model X.prog X.w) X.A (setFlight e none) (fun _ s₃=>wpAny (model X.prog X.w) X.A (handleBy e X.env [.ExceptHandler (some (.Name d np)) (some n) [.Assign [.Name x xp] (.Name n ep) apos] hpos]) (SP X pins DD) X.xe s₃) X.xe s₂) X.xe s₁) (X.pn++pins)) H0 G₀ G DD o' →
   wpAny (model X.prog X.w) X.A (execs body X.env) (fun f s₁=>match f with | .next=>wpAny (model X.prog X.w) X.A (execs [] X.env) (SP X pins DD) X.xe s₁ | f=>SP X pins DD f s₁)
   (fun e s₁=>wpAny (model X.prog X.w) X.A (noteFrame e X.env) (fun _ s₂=>wpAny (model X.prog X.w) X.A (setFlight e none) (fun _ s₃=>wpAny (model X.prog X.w) X.A (handleBy e X.env [.ExceptHandler (some (.Name d np)) (some n) [.Assign [.Name x xp] (.Name n ep) apos] hpos]) (SP X pins DD) X.xe s₃) X.xe s₂) X.xe s₁) s:=fun o' e' q'=>by
  refine thn ((hb _ _).run [] s σ H DD (inv_tryc I _) ⟨ρ,o',H0,G₀,G,e',R,q'⟩) fun fl s1 z=>?_
  cases fl with
  | next=>obtain ⟨σ',H',I',z⟩:=z;exact pss_nil pins s1 σ' H' DD (iM I') z
  | ret v=>obtain ⟨v',σ',H',I',z⟩:=z;exact ⟨v',σ',H',iM I',z⟩
  | brk=>obtain ⟨σ',H',I',z⟩:=z;exact ⟨σ',H',iM I',z⟩
  | cont=>obtain ⟨σ',H',I',z⟩:=z;exact ⟨σ',H',iM I',z⟩
 unfold tryS at e
 split at e
 ·rename_i c ρ' e'
  split at e
  ·rename_i hc
   cases (Option.some.inj e)
   refine go _ e' fun pins' s' σ' H' G' ev I' R' sg ⟨a,C,hev,hE,xa⟩=>?_
   subst hev
   have I1:Inv X pins σ' H' s':=iM I'
   obtain ⟨C',hE',hXC,hsub⟩:=hcs c (by simpa using hc)
   have hE:excC X.K c=some C:=hE
   rw [hE] at hE';cases hE'
   have xa1:ExcAt (fun b=>Fresh X b∧∀ p∈pins,p.1≠b) H' a C s'.heap:=xa.mono fun b hb=>⟨⟨hb.1,fun p hp=>hb.2 p (List.mem_append_left _ hp)⟩,fun p hp=>hb.2 p (List.mem_append_right _ hp)⟩
   have nw:∀ b,s'.heap.get? b=none→Fresh X b∧∀ p∈pins,p.1≠b:=fun b hb=>⟨inv_new I1 hb,fun p hp z=>by
    obtain ⟨e,_⟩:=I1.pin p (List.mem_append_right _ hp)
    rw [z,hb] at e;cases e⟩
   refine note_ok (X:=X) I1.ok.frames hst hf I1 xa1 nw fun h1 ch1 c1 x1=>?_
   have I2:=Inv.chg I1 c1
   refine fly_ok (X:=X) (s:={ s' with heap:=h1 }) c1.hok x1 fun h2 ch2 c2 x2=>?_
   have I3:Inv X pins σ' H' { s' with heap:=h2 }:=Inv.chg (s:={ s' with heap:=h1 }) I2 c2
   obtain ⟨_,_,oe,vs,xo,_⟩:=(show ExcAt _ H' a C h2 from .inr x2).ob
   have hm:X.mg d=some (.ref D):=PySem.W.mg_of I.mod.kin I.mod.glob (excC_is hD)
   refine wpAny_handleBy_cons (codeAny_handlers_test (ld_glob (X:=Cx.suite X a) (inv_suite I3 a) hg hm (xc_match hXC hXD I3.kIn xo hsub ?_) hdb)) (by intro z;cases z)
   refine codeAny_handlers_suite_as ?_
   refine fly_ok (X:=X) (s:={ s' with heap:=h2 }) c2.hok x2 fun h3 ch3 c3 x3=>?_
   have I4:Inv X pins σ' H' { s' with heap:=h3 }:=Inv.chg (s:={ s' with heap:=h2 }) I3 c3
   obtain ⟨fa,na,oe3,vs3,xo3,hv3⟩:=(show ExcAt _ H' a C h3 from .inr x3).ob
   have I5:Inv X pins σ' (upd H' a (xcO a C)) { s' with heap:=h3 }:=Inv.track I4 fa na ⟨oe3,vs3,xo3.at_,hv3⟩ ⟨⟨oe3,xo3⟩,⟨oe3,xo3.at_⟩,fun g1 g2 ⟨o1,y⟩ k=>⟨o1,k _ y.at_,y.cls⟩⟩
   have hjσ:j<σ'.length:=by rw [I5.len];exact (List.getElem?_eq_some_iff.mp hj).1
   refine store_ok (i:=j) (v:=.ref a) I5 hN hj (.inl hk) rfl (fun s4 I6=>?_) (.inr hk)
   have run:=pss_one (ps_set (X:=Cx.suite X a) (pos:=apos) (pos':=xp) hN hi (.inl hx) (iF (i:=j) (pos:=ep) hj (.inl hk) hnd hncd) hs (.inr hx)) pins s4 _ _ { nx:=fun σ'' H''=>σ''=(σ'.set j (some (.ref a))).set i (some (.ref a))∧H''=upd H' a (xcO a C),rt:=fun _ _=>False } (inv_suite I6 a) ⟨.ref a,by rw [List.getElem?_set_self hjσ],rfl,rfl⟩
   refine wpAny_mono run (fun fl s5 z=>?_) fun _ _ z=>False.elim z
   cases fl with
   | next=>
    obtain ⟨σ5,H5,I7,e5,e6⟩:=z
    subst e5 e6
    have I8:=inv_unsuite I7 I.ok
    refine name_goes I8 hN hj hk fun s6 I9=>⟨_,_,I9,q G' _ _ sg ?_⟩
    have R1:RepS X.K H0 G₀ G' (upd H' a (xcO a C)) σ' ρ':=R'.more (Grow.side R'.sub na)
    exact (((R1.setNo j _).setExc i hE aG).setNo j none)
   | ret v=>obtain ⟨_,_,_,_,_,z⟩:=z;exact z.elim
   | brk=>obtain ⟨_,_,_,z⟩:=z;exact z.elim
   | cont=>obtain ⟨_,_,_,z⟩:=z;exact z.elim
  ·cases e
 ·rename_i z
  have n:∀ c ρ',o≠.xc c ρ':=fun c ρ' w=>z c ρ' (by rw [e,w])
  refine go o e ?_
  cases o with
  | nx ρ'=>exact q
  | rt d=>exact q
  | bk ρ'=>exact q
  | ct ρ'=>exact q
  | xc c ρ'=>exact absurd rfl (n c ρ')⟩
end
end L2.L3
namespace L2.L3
open PySem PySem.Spec PyProof.Rows
def xclsB (K:PySem.W.Frag) (C:Addr):Bool:=PySem.W.excIn K C bmVE "ValueError.__new__" && (PySem.W.findIn K (.ref C) "__getattribute__" == some (some (.builtin "BaseException.__getattribute__")))&&(PySem.W.findIn K (.ref C) "__getattr__" == some none)
 && (PySem.W.findIn K (.ref C) "__class__" == some (some (.builtin "object.__class__")))&&(PySem.W.mroIn K C (.type "object")==some true)
def exOkC (K:PySem.W.Frag) (S:Addr) (c:Str):Bool:=match excC K c with
 | some C=>xclsB K C&&(PySem.W.typeIn K (.ref C)==some (.type "type"))&&(PySem.W.subIn K (.ref C) (.type "ValueError")==some true)&&(PySem.W.subIn K (.ref C) (.ref S)==some true)
 | none=>false
theorem xcls_of {K:PySem.W.Frag} {C:Addr} (h:xclsB K C=true):XCls K C:=by
 simp only [xclsB,Bool.and_eq_true,beq_iff_eq] at h
 exact ⟨h.1.1.1.1,h.1.1.1.2,h.1.1.2,h.1.2,h.2⟩
section
variable {X:Cx} {pos p p2:Pos} {x:Str}
end
section
variable {P:Program} {w:World} {K:PySem.W.Frag} {mg:Str→Option Value} {base:Heap} {X:Cx} {pos p p2:Pos} {x y:Str} {k:Nat} {ps N:List Str} {F:Str→Mm PyData}
end
end L2.L3
namespace L2.L3
open PySem PySem.Spec PyProof.Rows
section
variable {X:Cx} {body:List Stmt} {f:SF}
end
end L2.L3
namespace L2.L3
open PySem PySem.Spec PyProof.Rows
section
variable {X:Cx} {body:List Stmt} {f:SF}
def exOkL (L:List Str) (K:PySem.W.Frag):Bool:=match excC K "SheetError" with
 | some S=>xclsB K S&&L.all (exOkC K S)
 | none=>false
structure ExL (L:List Str) (K:PySem.W.Frag):Prop where
 ok:exOkL L K=true
theorem ExL.she {L:List Str} {K:PySem.W.Frag} (F:ExL L K):∃ S,excC K "SheetError" = some S∧XCls K S∧∀ c∈L,∃ C,excC K c=some C∧XCls K C∧PySem.W.subIn K (.ref C) (.ref S)=some true:=by
 have h:=F.ok
 unfold exOkL at h
 split at h
 ·rename_i S hS
  rw [Bool.and_eq_true] at h
  refine ⟨S,hS,xcls_of h.1,fun c hc=>?_⟩
  have h2:=List.all_eq_true.mp h.2 c hc
  unfold exOkC at h2
  split at h2
  ·rename_i C hC
   simp only [Bool.and_eq_true,beq_iff_eq] at h2
   exact ⟨C,hC,xcls_of h2.1.1.1,h2.2⟩
  ·cases h2
 ·cases h
theorem ds_raiseL {L:List Str} {x m:Str} {np sp cpos pos:Pos} {j} (F:ExL L X.K) (hc:X.calm=true) (hx:x∈L:=by decide) (hg:Gl X x:=by rfl) (hdb:(x==("__debug__" : Str))=false:=by decide)
  (he:starEach [.Constant (.str m) j sp] X.env=(false,eval (.Constant (.str m) j sp) X.env)::starEach [] X.env:=by rfl) (hpl:(backTo cpos (starEach [] X.env)).any (·.1)=false:=by rfl) :
  DS X (.Raise (some (.Call (.Name x np) [.Constant (.str m) j sp] [] cpos)) none pos) (raiseS x):=by
 obtain ⟨S,_,_,h3⟩:=F.she
 obtain ⟨C,h1,h2,_⟩:=h3 x hx
 exact ds_raise hc h1 h2 hg hdb he hpl
end
end L2.L3
namespace L2.L3
open PySem PySem.Spec PyProof.Rows
abbrev t1_meeting_ofX:TF:=fL eqD (op2 ixD (var 2) (cst (.int 0))) (var 1)
abbrev cQ:SF:=ifS t1_meeting_ofX (retS (var 2)) mZ
def jQ:SF:=(aY (noxS (forS (.nm 2) (dH (var 0)) cQ)) (raiseS "NoMeeting"))
def gF:List PyData→Mm PyData:=runX 3 2 jQ
theorem kO {m n:Nat} {f:SF} {ds:List PyData} {d:PyData} (hl:ds.length=n) (h:f (startN m ds)=some (.rt d)):runX m n f ds=some (.ok d):=by
 unfold runX;rw [if_pos hl,h]
theorem runX_ex {m n:Nat} {f:SF} {ds:List PyData} {c:Str} {ρ:List Ent} (hl:ds.length=n) (h:f (startN m ds)=some (.xc c ρ)):runX m n f ds=some (.ex c):=by
 unfold runX;rw [if_pos hl,h]
theorem noxS_nx {f:SF} {ρ ρ':List Ent} (h:f ρ=some (.nx ρ')):noxS f ρ=some (.nx ρ'):=by unfold noxS;rw [h]
theorem noxS_rt {f:SF} {ρ:List Ent} {d:PyData} (h:f ρ=some (.rt d)):noxS f ρ=some (.rt d):=by unfold noxS;rw [h]
theorem callX_e (F:List PyData→Mm PyData) (fa:AF) (ρ:List Ent):fO F fa ρ=bnd (fa ρ) F:=rfl
theorem eE {F:List PyData→Mm PyData} {fa:AF} {ρ:List Ent} {ds:List PyData} {r:Re PyData} (ha:fa ρ=some (.ok ds)) (h:F ds=some r):fO F fa ρ=some r:=by rw [callX_e,ha,fI,h]
theorem loop_meet {S:PyData} {x:Str}:∀ (l:List Mt) (r:List Mt) (y:Ent),(∀ m∈l,m.1≠x)→∃ y',cU (.nm 2) cQ ((l++r).map dM) [.val S,.val (.str x),y]=cU (.nm 2) cQ (r.map dM) [.val S,.val (.str x),y']
 | [],r,y,_=>⟨y,rfl⟩
 | m::l,r,y,hl=>by
  have n:=hl m (by simp)
  obtain ⟨y',e⟩:=loop_meet (S:=S) l r (.val (dM m)) fun m hm=>hl m (List.mem_cons_of_mem _ hm)
  refine ⟨y',?_⟩
  rw [←e]
  show cU (.nm 2) cQ (dM m::(l++r).map dM) _=_
  exact eX (ρ1:=[.val S,.val (.str x),.val (dM m)]) (ρ2:=[.val S,.val (.str x),.val (dM m)]) rfl (by simp [n])
theorem e_meetX {s:List Mt} (nd:(s.map (·.1)).Nodup) {x:Mt} (hx:x∈s):gF [dS s,.str x.1]=some (.ok (dM x)):=by
 obtain ⟨l,r,rfl,h⟩:=split_at nd hx
 refine kO rfl ?_
 show jQ [.val (dS (l++x::r)),.val (.str x.1),.no]=_
 unfold jQ
 refine mQ (noxS_rt ?_)
 rw [mG,fY (d:=dS (l++x::r)) rfl rfl,iT]
 obtain ⟨y',e⟩:=loop_meet (S:=dS (l++x::r)) l (x::r) .no h
 rw [e]
 show cU (.nm 2) cQ (dM x::r.map dM) _=_
 rw [cU,tg_nm]
 dsimp only [List.set]
 rw [show cQ [.val (dS (l++x::r)),.val (.str x.1),.val (dM x)]=some (.rt (dM x)) from by simp]
def repl (x:Str) (b e:Int) (m:Mt):Mt:=if m.1=x then (m.1,b,e) else m
end L2.L3
namespace L2.L3
open PySem PySem.Spec PyProof.Rows
abbrev kI:TF:=fL inX (var 1) (var 2)
abbrev b1_group_ofX:SF:=ifS kI (retS (var 2)) mZ
def gI:SF:=(aY (noxS (forS (.nm 2) (dH (aS kH (aC (var 0) aJ))) b1_group_ofX)) (raiseS "NoMeeting"))
def cY:List PyData→Mm PyData:=runX 3 2 gI
def gH:SF:=(retS (aS fK (aC (aS kF (aC (var 0) (aC (fO cY (aC (var 0) (aC (var 1) aJ))) aJ))) aJ)))
def cW:List PyData→Mm PyData:=runX 2 2 gH
abbrev k1_partnersX:EF:=cK (.nm 0) [none,some 2,some 1] (dH (var 0)) (andT (fL neD (op2 ixD (var 0) (cst (.int 0))) (var 2)) (truT (aS fW (aC (var 1) (aC (var 0) aJ))))) (op2 ixD (var 0) (cst (.int 0)))
def mH:SF:=(aY (fP 2 (fO gF (aC (var 0) (aC (var 1) aJ)))) (retS k1_partnersX))
def jJ:List PyData→Mm PyData:=runX 3 2 mH
section
variable {s:List Mt}
theorem e_group_ofX (hp:∀ m∈s,m.2.1<m.2.2) (nd:(s.map (·.1)).Nodup) (hz:s.length<64) {m:Mt} (hm:m∈s):cY [dS s,.str m.1]=some (.ok (gD (gof s m))):=by
 have hf:m∈(bY (dA s)).flatten:=by rw [fQ];exact (dE s).mem_iff.mpr hm
 obtain ⟨B,hB,hmB⟩:=List.mem_flatten.mp hf
 obtain ⟨A,hA,hxA,e⟩:=loop_gof (.val (dS s)) m.1 (bY (dA s)) .no ⟨B,hB,List.mem_map.mpr ⟨m,hmB,rfl⟩⟩
 obtain ⟨a,ha,ea⟩:=List.mem_map.mp hxA
 have:a=m:=cJ nd (cI hA ha) hm ea
 subst this
 rw [←mF hp hA ha]
 refine kO rfl ?_
 show gI [.val (dS s),.val (.str a.1),.no]=_
 unfold gI
 refine mQ (noxS_rt ?_)
 rw [mG,fY (aZ (ds:=[dS s]) rfl (e_groups nd hz)) rfl,iT]
 exact e
theorem e_widX (hp:∀ m∈s,m.2.1<m.2.2) (nd:(s.map (·.1)).Nodup) (hz:s.length<64) {m:Mt} (hm:m∈s):cW [dS s,.str m.1]=some (.ok (.int (wid s m))):=by
 have hf:(s.filter fun a=>decide (a.1∈eA ((gof s m).map (·.1))))=grp s m:=by
  refine List.filter_congr fun a ha=>?_
  rw [decide_eq_decide,(bX _).mem_iff]
  constructor
  ·intro z
   obtain ⟨b,hb,eb⟩:=List.mem_map.mp z
   rw [←cJ nd (cI (bK hm).1 hb) ha eb];exact hb
  ·exact fun z=>List.mem_map.mpr ⟨a,z,rfl⟩
 refine kO rfl ?_
 show gH [.val (dS s),.val (.str m.1)]=_
 have h1:aS kF (aC (var 0) (aC (fO cY (aC (var 0) (aC (var 1) aJ))) aJ)) [.val (dS s),.val (.str m.1)]=some (.ok (dS (grp s m))):=by
  refine aZ (ds:=[dS s,gD (gof s m)]) (kE rfl (kE (eE (ds:=[dS s,.str m.1]) rfl (e_group_ofX hp nd hz hm)) rfl)) ?_
  have:=e_part_of s (eA ((gof s m).map (·.1))) (by omega)
  rw [hf] at this
  exact this
 have gl:(grp s m).length≤s.length:=List.length_filter_le _ _
 unfold gH
 rw [dO,aZ (ds:=[dS (grp s m)]) (by rw [cH,h1];rfl) (e_most _ (by omega))];rfl
theorem e_partnersX {m:Mt} (nd:(s.map (·.1)).Nodup) (hm:m∈s) (hz:s.length<64):jJ [dS s,.str m.1]=some (.ok (.list ((prt s m).map fun o=>.str o.1))):=by
 refine kO rfl ?_
 show mH [.val (dS s),.val (.str m.1),.no]=_
 unfold mH
 rw [aM (ρ':=[.val (dS s),.val (.str m.1),.val (dM m)]) (by rw [lM,eE (ds:=[dS s,.str m.1]) rfl (e_meetX nd hm)];rfl)]
 have k1:k1_partnersX [.val (dS s),.val (.str m.1),.val (dM m)]=some (.ok (.list ((prt s m).map fun o=>.str o.1))):=
  cN dM (fun o=>[.val (dM o),.val (dM m),.val (.str m.1)]) (fun o=>!decide (o.1=m.1)&&decide (ov m o)) (fun o=>.str o.1) s rfl (by omega) (fun o _=>rfl) (fun o _=>by
   have h2:truT (aS fW (aC (var 1) (aC (var 0) aJ))) [.val (dM o),.val (dM m),.val (.str m.1)]=some (.ok (decide (ov m o))):=by
    rw [truT_e,aZ (ds:=[dM m,dM o]) rfl (e_overlap m o)];rfl
   rw [andT_e,h2]
   show bnd (lft (neD (.str o.1) (.str m.1))) _=_
   rw [ne_ss]
   cases (decide (o.1=m.1))<;>rfl) (fun o _ _=>rfl)
 rw [dO,k1];rfl
variable {P:List Ly}
end
end L2.L3
namespace L2.SX
open PySem PyProof.Rows
theorem sub_dict_set:isSubtype (.type "dict") (.type "set")=pure false:=by rw [isSubtype_type];kernel_rfl
theorem sub_dict_frozen:isSubtype (.type "dict") (.type "frozenset")=pure false:=by rw [isSubtype_type];kernel_rfl
section
variable {prog:Program} {w:World} {A:Around} {E:Value→Shared→Prop} {s:Shared} {K:Type} [DecidableEq K] {knd:KeyKind prog w K}
theorem laid_nil (m f mv:Nat) (l p:Bool):SetTable.laid m f mv l p #[]=some ({ mask:=m,place:=#[],dummies:=#[],finger:=f,led:=l,moves:=mv,plain:=p },#[]):=by
 unfold SetTable.laid SetTable.layClean
 have e:(List.range (m+1)).filterMap (fun j=>((Array.replicate (m+1) (none:Option Nat)).getD j none).map (j,·))=[]:=by
  rw [List.filterMap_eq_nil_iff]
  intro j hj
  have:(Array.replicate (m+1) (none:Option Nat)).getD j none=none:=by simp [Array.getD]
  rw [this];rfl
 simp only [Array.foldl_empty,Option.map_some,Option.bind_eq_bind,Option.bind_some,e]
 rfl
theorem above_le (n:Nat):∀ (f z:Nat),z≤max 8 (2*n)→SetTable.sizeAbove.go n f z≤max 8 (2*n)
 | 0,z,h=>h
 | f+1,z,h=>by
  unfold SetTable.sizeAbove.go
  split
  ·exact above_le n f (z*2) (by omega)
  ·exact h
theorem above_bd (n:Nat):SetTable.sizeAbove n≤max 8 (2*n):=above_le n 64 8 (by omega)
theorem room_ok {a:Addr} {more:Nat} {led:Bool} {Q:Unit→Shared→Prop} (g:Good knd s.heap a [] led) (hm:more≤1000)
  (h:∀ h',Heap.SameBut a s.heap h'→Good knd h' a [] led→Q () { s with heap:=h' }):wpAny (model prog w) A (setRoomFor a more) Q E s:=by
 obtain ⟨o,es,ep,t,ho,hex,hd,hel,hmem,hn,hf,hT⟩:=g.ex
 have he:es=#[]:=Array.eq_empty_of_size_eq_zero (by rw [hn];rfl)
 subst he
 unfold setRoomFor
 refine wpAny_bind (wpAny_setState_of ho hd hf ?_)
 cases hr:t.roomFor more with
 | none=>exact wpAny_pure (h s.heap (Heap.SameBut.refl a s.heap) g)
 | some wanted=>
  dsimp only
  unfold setRelay
  refine wpAny_bind (wpAny_setState_of ho hd hf ?_)
  dsimp only
  have hp:t.place.size=0:=by
   have:=hf
   unfold SetTable.fits at this
   rw [Bool.and_eq_true,beq_iff_eq] at this
   exact this.1
  have hw:wanted≤2000:=by
   unfold SetTable.roomFor at hr
   split at hr
   ·cases hr;rw [hp];omega
   ·cases hr
  have hb:=above_bd wanted
  have hs:¬SetTable.sizeAbove wanted > sizeLine:=by rw [sizeLine_eq];omega
  rw [if_neg hs]
  have er:t.relaid (Array.map (fun x:Int×Value=>x.fst) #[]) wanted=some ({ mask:=SetTable.sizeAbove wanted - 1,place:=#[],dummies:=#[],finger:=t.finger,led:=t.led,moves:=t.movedTo (SetTable.sizeAbove wanted - 1),plain:=t.plain },#[]):=by
   unfold SetTable.relaid
   rw [Array.map_empty]
   exact laid_nil _ _ _ _ _
  rw [er]
  generalize hT':({ mask:=SetTable.sizeAbove wanted - 1,place:=#[],dummies:=#[],finger:=t.finger,led:=t.led,moves:=t.movedTo (SetTable.sizeAbove wanted - 1),plain:=t.plain }:SetTable)=T
  refine wpAny_bind (wpAny_of_eq (a:=(#[],T)) rfl ?_)
  refine wpAny_storeSet_of ho hd ?_ (Nat.zero_le _)
  have st:=stored (es':=#[]) (t':=T) ho hd
  refine h _ ?_ ⟨⟨_,#[],ep+1,T,st,⟨hex.1,hex.2.1,hex.2.2⟩,rfl,fun e he=>by simp at he,fun k=>by simp,rfl,?_,?_⟩,List.nodup_nil,by show 0<scanBound;decide⟩
  ·exact Heap.SameBut.update s.heap a (Obj.putSet #[] T)
  ·rw [←hT'];simp [SetTable.fits,SetTable.fill]
  ·rw [←hT'];exact ⟨hT.led,fun _=>by simp [mM]⟩
theorem set_ofD {d:Addr} {kvs:List (K×Value)} {Q:Value→Shared→Prop} (hd:s.heap.DictOf knd d kvs) (hS:(d==sysModules)=false) (hsc:∀ k v,knd.is k v=true→v.scannable=true) (hb:kvs.length≤1000)
  (h:∀ (h':Heap) (tk:Nat),Good knd h' s.heap.objs.size (kvs.map (·.1)) (ledOf w)→(∀ b o,b<s.heap.objs.size→s.heap.get? b=some o→h'.get? b=some o)→Q (.ref s.heap.objs.size) { s with heap:=h',toks:=tk }) :
  wpAny (model prog w) A (call (.type "set") [.ref d]) Q E s:=by
 obtain ⟨c,tl,hmro⟩:=F.called_set.mro
 have hmade:=F.called_set.made
 have hsub:=F.called_set.sub
 refine wpAny_call (codeAny_of_tree ?_)
 show wpAny _ _ (callAny (.type "set") ⟨[.ref d],[]⟩) _ _ _
 refine wpAny_pure ⟨Code.quiet_builtin _ (by decide +kernel),codeAny_builtin F.entry_type_call ?_⟩
 rw [Around.under_plain (weight_type_call_type "set" [.ref d] []) rfl]
 have n1:=F.called_set.notType
 have n2:=F.called_set.canCreate
 have n3:=F.typeCall_set_1 (.ref d)
 repeat (any_goals (first | assumption | wp_step))
 refine codeAny_mono (new_one (.ref d) (E:=E) (Q1:=fun ob s1=>ob=.ref s.heap.objs.size∧s1={ s with heap:=s.heap.push (cA w) }) ⟨rfl,rfl⟩) fun r s1 hr=>?_
 cases r with
 | error e=>exact hr
 | ok fl=>
  cases fl with
  | ret ob=>
   obtain ⟨rfl,rfl⟩:=hr
   have hS':(s.heap.push (cA w)).get? s.heap.objs.size=some (cA w):=Heap.get?_push_size _ rfl
   have hT:Shared.TypeIs { s with heap:=s.heap.push (cA w) } (.ref s.heap.objs.size) "set" := ⟨_,hS',rfl⟩
   have k1:=F.called_set.init.lookup
   have k2:=F.called_set.init.bind (.ref s.heap.objs.size)
   repeat (any_goals (first | assumption | wp_step))
   refine codeAny_mono (codeAny_call_builtin (R:=wants (fun r s2=>r=.none∧∃ h' tk,s2={ s with heap:=h',toks:=tk }∧Good knd h' s.heap.objs.size (kvs.map (·.1)) (ledOf w)∧∀ b o,b<s.heap.objs.size→s.heap.get? b=some o→h'.get? b=some o) E)
    F.called_set.init.plain F.entry_set_init (check_set_init_1 hT ?_)) fun r2 s2 hr2=>?_
   ·have hd1:(s.heap.push (cA w)).DictOf knd d kvs:=hd.push _
    have hty:Shared.TypeIs { s with heap:=s.heap.push (cA w) } (.ref d) "dict" := Heap.DictOf.typeIs (s:={ s with heap:=s.heap.push (cA w) }) hd1
    obtain ⟨od,es,ep,g0,hx,hdd,hk,hp,nd⟩:=hd1
    have s1:=sub_dict_set
    have s2:=sub_dict_frozen
    unfold Builtin.«set.__init__» noKeywords Builtin.Frozenset.updateFrom
    generalize hRF:setRoomFor=RF
    wp_walk
    rw [hdd]
    refine wpAny_pure ?_
    have hes:es.size=kvs.length:=by rw [←Array.length_toList];exact hp.length
    have lt:d<s.heap.objs.size:=by
     obtain ⟨o',_,_,e',_⟩:=hd
     exact Heap.lt_size e'
    have hda:d≠s.heap.objs.size:=Nat.ne_of_lt lt
    refine wpAny_bind (wpAny_dictEntries g0 hdd ?_)
    rw [←hRF]
    refine wpAny_bind (room_ok (knd:=knd) (led:=ledOf w) (good_new s.heap) (by omega) fun h1 sb1 g1=>?_)
    have gd1:h1.get? d=some od:=(sb1.2 d hda).trans g0
    refine wpAny_bind (wpAny_dictEntries gd1 hdd ?_)
    refine wpAny_bind ?_
    rw [Std.Legacy.Range.forIn_eq_forIn_range']
    have sz:Std.Legacy.Range.size [:es.size]=es.size:=by simp [Std.Legacy.Range.size]
    rw [sz]
    show wpAny _ _ (forIn (List.range' 0 es.size 1) _ _) _ _ _
    refine wpAny_forIn_list _ (fun rest _ s'=>∃ i h',i≤es.size∧rest=List.range' i (es.size - i) 1∧s'={ s with heap:=h' }∧Heap.SameBut s.heap.objs.size (s.heap.push (cA w)) h'∧Good knd h' s.heap.objs.size ((kvs.take i).map (·.1)) (ledOf w)) _ ?turn ?fin _ _ ⟨0,h1,Nat.zero_le _,rfl,rfl,sb1,g1⟩
    case turn=>
     rintro x rest _ _ ⟨i,h',hi,er,rfl,sb,g⟩
     have hlt:i<es.size:=by
      rcases Nat.lt_or_ge i es.size with z | z
      ·exact z
      ·rw [Nat.sub_eq_zero_of_le z] at er;cases er
     rw [show es.size - i=(es.size - (i+1))+1 by omega,List.range'_succ] at er
     obtain ⟨rfl,rfl⟩:=List.cons.inj er
     have gd:h'.get? d=some od:=(sb.2 d hda).trans g0
     refine wpAny_bind (wpAny_dictEntries gd hdd ?_)
     rw [Array.getElem?_eq_getElem hlt]
     dsimp only
     have hk':x<kvs.length:=by omega
     have pk:knd.is (kvs[x]).1 (es[x]).key=true:=by
      have:∀ (a:List DictEntry) (b:List (K×Value)),Pairs knd a b→∀ (j:Nat) (h1:j<a.length) (h2:j<b.length),knd.is (b[j]).1 (a[j]).key=true:=by
       intro a b hab
       induction hab with
       | nil=>intro j h1;cases h1
       | cons p1 p2 p3 ih=>
        intro j h1 h2
        cases j with
        | zero=>exact p1
        | succ j=>exact ih j (by simpa using h1) (by simpa using h2)
      have:=this es.toList kvs hp x (by rw [Array.length_toList];exact hlt) hk'
      simpa using this
     obtain ⟨k',h1',h2'⟩:=hk es[x] (Array.getElem_mem hlt)
     have ek:k'=(kvs[x]).1:=knd.inj _ _ _ h1' pk
     subst ek
     rw [h2']
     refine wpAny_bind (wpAny_holding (dB pk (hsc _ _ pk) g (by
      rw [List.length_map,List.length_take]
      show min x kvs.length+1<4096
      omega) fun h2 b sb2 g2=>?_))
     have gd2:h2.get? d=some od:=(sb2.2 d hda).trans gd
     refine wpAny_bind (wpAny_dictEpoch gd2 hdd ?_)
     simp only [bne_self_eq_false,Bool.false_eq_true,if_false]
     refine wpAny_pure ⟨x+1,h2,by omega,rfl,rfl,sb.trans sb2,?_⟩
     have et:(kvs.take (x+1)).map (·.1)=addK ((kvs.take x).map (·.1)) (kvs[x]).1:=by
      rw [List.take_succ,List.getElem?_eq_getElem hk',List.map_append]
      unfold addK
      rw [if_neg]
      ·rfl
      ·intro z
       rw [List.map_take] at z
       obtain ⟨j,hj,ej⟩:=List.getElem_of_mem z
       rw [List.length_take,List.length_map] at hj
       rw [List.getElem_take,List.getElem_map] at ej
       have:=(List.getElem_inj (i:=j) (j:=x) (h₀:=by rw [List.length_map];omega) (h₁:=by rw [List.length_map];exact hk') nd).mp (by rw [List.getElem_map,List.getElem_map];exact ej)
       omega
     rw [et];exact g2
    case fin=>
     rintro _ _ ⟨i,h',hi,er,rfl,sb,g⟩
     have:es.size - i=0:=by
      have:=congrArg List.length er
      simpa using this.symm
     have e:kvs.take i=kvs:=List.take_of_length_le (by omega)
     rw [e] at g
     refine wpAny_pure (wpAny_pure ⟨rfl,h',_,rfl,g,fun b o hb' e'=>?_⟩)
     exact (sb.2 b (Nat.ne_of_lt hb')).trans (Heap.get?_push_of_some _ e')
   ·cases r2 with
    | error e=>exact hr2
    | ok fl2=>
     cases fl2 with
     | ret r=>
      obtain ⟨rfl,h',tk,rfl,g',kp⟩:=hr2
      repeat (any_goals (first | assumption | wp_step))
      exact h _ _ g' kp
     | _=>exact hr2.elim
  | _=>exact hr.elim
end
end L2.SX
namespace L2.SX
open PySem PyProof.Rows
theorem entry_ne:entryFor table "set.__ne__" = some Builtin.«frozenset.__ne__»:=entryFor_alias (id' := "frozenset.__ne__") (by kernel_rfl) rfl (by decide +kernel) (by kernel_rfl)
theorem sub_set_frozen:isSubtype (.type "set") (.type "frozenset")=pure false:=by rw [isSubtype_type];kernel_rfl
section
variable {prog:Program} {w:World} {A:Around} {E:Value→Shared→Prop} {s:Shared} {K:Type} [DecidableEq K] {knd:KeyKind prog w K}
theorem any_set {b:Addr} {Q:Bool→Shared→Prop} (ty:s.TypeIs (.ref b) "set") (h:Q true s):wpAny (model prog w) A (Builtin.Frozenset.isAnySet (.ref b)) Q E s:=by
 have s1:=sub_set_self
 unfold Builtin.Frozenset.isAnySet
 wp_walk
 exact h
theorem size_at {a:Addr} {o:Obj} {es:Array (Int×Value)} {ep:Nat} {t:SetTable} {Q:Nat→Shared→Prop} (ho:s.heap.get? a=some o) (hd:o.data=.set es ep t) (hf:t.fits es.size=true) (h:Q es.size s):wpAny (model prog w) A (Builtin.Frozenset.sizeOf a) Q E s:=by
 unfold Builtin.Frozenset.sizeOf setEntries
 exact wpAny_bind (wpAny_bind (wpAny_setState_of ho hd hf (wpAny_pure (wpAny_pure h))))
theorem entries_at {a:Addr} {o:Obj} {es:Array (Int×Value)} {ep:Nat} {t:SetTable} {Q:Array (Int×Value)→Shared→Prop} (ho:s.heap.get? a=some o) (hd:o.data=.set es ep t) (hf:t.fits es.size=true) (h:Q es s):wpAny (model prog w) A (setEntries a) Q E s:=by
 unfold setEntries
 exact wpAny_bind (wpAny_setState_of ho hd hf (wpAny_pure h))
theorem epoch_at {a:Addr} {o:Obj} {es:Array (Int×Value)} {ep:Nat} {t:SetTable} {Q:Nat→Shared→Prop} (ho:s.heap.get? a=some o) (hd:o.data=.set es ep t) (hf:t.fits es.size=true) (h:Q ep s):wpAny (model prog w) A (setEpoch a) Q E s:=by
 unfold setEpoch
 exact wpAny_bind (wpAny_setState_of ho hd hf (wpAny_pure h))
theorem quiet_at {x:Value} {Q:Bool→Shared→Prop} (hx:x.scannable=true) (h:Q true s):wpAny (model prog w) A (Builtin.Frozenset.quietEq x) Q E s:=by
 unfold Builtin.Frozenset.quietEq
 cases x<;>first | exact wpAny_pure h | cases hx
theorem walk_at {a b:Addr} {oa ob:Obj} {ea eb:Array (Int×Value)} {pa pb:Nat} {ta tb:SetTable} {Q:List (Int×Value)→Shared→Prop} (hoa:s.heap.get? a=some oa) (hda:oa.data=.set ea pa ta) (hfa:ta.fits ea.size=true) (hob:s.heap.get? b=some ob) (hdb:ob.data=.set eb pb tb) (hfb:tb.fits eb.size=true)
  (h1:∀ e∈ea.toList,e.2.scannable=true) (h2:∀ e∈eb.toList,e.2.scannable=true) (h:Q ea.toList s):wpAny (model prog w) A (Builtin.Frozenset.walkUnseen a b) Q E s:=by
 unfold Builtin.Frozenset.walkUnseen
 refine wpAny_bind (entries_at hoa hda hfa ?_)
 refine wpAny_bind (entries_at hob hdb hfb ?_)
 refine wpAny_bind ?_
 refine wpAny_forIn_list _ (fun rest r s'=>r.1=none∧s'=s∧∀ e∈rest,e.2.scannable=true) _ ?_ ?_ _ _ ⟨rfl,rfl,fun e he=>(List.mem_append.mp he).elim (h1 e) (h2 e)⟩
 ·rintro ⟨hh,x⟩ rest r s' ⟨hr,rfl,hall⟩
  refine wpAny_bind (quiet_at (hall _ List.mem_cons_self) ?_)
  simp only [Bool.not_true,Bool.false_eq_true,if_false]
  exact wpAny_pure ⟨rfl,rfl,fun e he=>hall e (List.mem_cons_of_mem _ he)⟩
 ·rintro ⟨r1,r2⟩ s' ⟨hr,rfl,_⟩
  simp only at hr
  subst hr
  exact wpAny_pure h
theorem subset_ok {a b:Addr} {ks qs:List K} {la lb:Bool} {id:String} {Q:Bool→Shared→Prop} (ga:Good knd s.heap a ks la) (gb:Good knd s.heap b qs lb) (hsc:∀ k v,knd.is k v=true→v.scannable=true) (hl:ks.length=qs.length)
  (h:Q (ks.all fun k=>decide (k∈qs)) s):wpAny (model prog w) A (Builtin.Frozenset.subsetOf id a b) Q E s:=by
 obtain ⟨oa,ea,pa,ta,hoa,hxa,hda,hela,hmema,hna,hfa,hTa⟩:=ga.ex
 obtain ⟨ob,eb,pb,tb,hob,hxb,hdb,helb,hmemb,hnb,hfb,hTb⟩:=gb.ex
 have so:s.heap.SetOf knd b (fun k=>decide (k∈qs)) eb.size:=⟨ob,eb,pb,tb,hob,hxb,hdb,helb,fun k=>by rw [decide_eq_true_eq];exact hmemb k,by rw [hnb];exact gb.few,hfb,rfl⟩
 have c1:∀ e∈ea.toList,e.2.scannable=true:=fun e he=>by
  exact (hela e he).2
 have c2:∀ e∈eb.toList,e.2.scannable=true:=fun e he=>by
  exact (helb e he).2
 unfold Builtin.Frozenset.subsetOf
 refine wpAny_bind (size_at hoa hda hfa ?_)
 refine wpAny_bind (size_at hob hdb hfb ?_)
 rw [if_neg (by rw [hna,hnb,hl];exact Nat.lt_irrefl _)]
 refine wpAny_bind (epoch_at hoa hda hfa ?_)
 refine wpAny_bind (walk_at hoa hda hfa hob hdb hfb c1 c2 ?_)
 refine wpAny_bind ?_
 have key:∀ l:List (Int×Value),(∀ e∈l,e∈ea.toList)→((∀ e∈l,∀ k,knd.is k e.2=true→k∈qs)∨∃ e∈l,∃ k,knd.is k e.2=true∧k∉qs):=fun l hl=>by
  by_cases c:∀ e∈l,∀ k,knd.is k e.2=true→k∈qs
  ·exact .inl c
  ·refine .inr (Classical.byContradiction fun z=>c fun e he k hk=>Classical.byContradiction fun z2=>z ⟨e,he,k,hk,z2⟩)
 refine wpAny_forIn_list _ (fun rest r s'=>r.1=none∧s'=s∧(∀ e∈rest,e∈ea.toList)∧((∀ e∈rest,∀ k,knd.is k e.2=true→k∈qs)→(ks.all fun k=>decide (k∈qs))=true)) _ ?_ ?_ _ _ ⟨rfl,rfl,fun e he=>he,fun hall=>?_⟩
 ·rintro ⟨hh,x⟩ rest r s' ⟨hr,rfl,hin,hall⟩
  obtain ⟨k,h1,h2⟩:=(hela _ (hin _ List.mem_cons_self)).1
  have h2:hh=knd.hash k:=h2
  rw [h2]
  refine wpAny_bind (wpAny_holding (wpAny_setFind_of h1 (hsc _ _ h1) so fun r' hr'=>?_))
  by_cases c:k∈qs
  ·rw [decide_eq_true c] at hr'
   obtain ⟨j,rfl⟩:=Option.isSome_iff_exists.mp hr'
   simp only [Option.isNone_some,Bool.false_eq_true,if_false]
   unfold Builtin.Frozenset.unchanged
   refine wpAny_bind (wpAny_bind (epoch_at hoa hda hfa ?_))
   simp only [bne_self_eq_false,Bool.false_eq_true,if_false]
   refine wpAny_pure (wpAny_pure ⟨rfl,rfl,fun e he=>hin e (List.mem_cons_of_mem _ he),fun hr2=>hall fun e he k' hk'=>?_⟩)
   rcases List.mem_cons.mp he with rfl | he
   ·rw [knd.inj _ _ _ hk' h1];exact c
   ·exact hr2 e he k' hk'
  ·rw [decide_eq_false c] at hr'
   have:r'=none:=by cases r' with | none=>rfl | some j=>cases hr'
   subst this
   simp only [Option.isNone_none,if_true]
   have hf:(ks.all fun k=>decide (k∈qs))=false:=by
    rw [Bool.eq_false_iff]
    intro z
    have:=List.all_eq_true.mp z k ((hmema k).mpr ⟨_,hin _ List.mem_cons_self,h1⟩)
    exact c (of_decide_eq_true this)
   rw [hf] at h
   exact wpAny_pure (wpAny_pure h)
 ·rintro ⟨r1,r2⟩ s' ⟨hr,rfl,_,hall⟩
  simp only at hr
  subst hr
  have:=hall (fun e he=>nomatch he)
  rw [this] at h
  exact wpAny_pure h
 ·rw [List.all_eq_true]
  intro k hk
  obtain ⟨e,he,h1⟩:=(hmema k).mp hk
  exact decide_eq_true (hall e he k h1)
theorem ne_tree {a b:Addr} {ks qs:List K} {la lb:Bool} {P:Fin→Shared→Prop} (ga:Good knd s.heap a ks la) (gb:Good knd s.heap b qs lb) (hsc:∀ k v,knd.is k v=true→v.scannable=true)
  (h:P (.done (.ret (.bool (!(decide (ks.length=qs.length)&&ks.all fun k=>decide (k∈qs)))))) s) :
  wpAny (model prog w) A (Builtin.«frozenset.__ne__» ⟨[.ref a,.ref b],[]⟩) P E s:=by
 obtain ⟨oa,ea,pa,ta,hoa,hxa,hda,hela,hmema,hna,hfa,hTa⟩:=id ga.ex
 obtain ⟨ob,eb,pb,tb,hob,hxb,hdb,helb,hmemb,hnb,hfb,hTb⟩:=id gb.ex
 have tya:s.TypeIs (.ref a) "set" := ⟨oa,hoa,hxa.1⟩
 have tyb:s.TypeIs (.ref b) "set" := ⟨ob,hob,hxb.1⟩
 show wpAny _ _ (Builtin.Frozenset.isAnySet (.ref b)>>=_) _ _ s
 refine wpAny_bind (any_set tyb ?_)
 simp only [Bool.not_true,Bool.false_eq_true,if_false]
 refine wpAny_bind (wpAny_pure ?_)
 refine wpAny_bind (wpAny_pure ?_)
 refine wpAny_bind (size_at hoa hda hfa ?_)
 refine wpAny_bind (size_at hob hdb hfb ?_)
 refine wpAny_bind ?_
 by_cases c:ks.length=qs.length
 ·rw [if_neg (by rw [hna,hnb,c];simp)]
  rw [decide_eq_true c,Bool.true_and] at h
  have s2:=sub_set_frozen
  refine wpAny_bind ?_
  generalize hSS:Builtin.Frozenset.subsetOf=SS
  wp_walk
  rw [←hSS]
  exact subset_ok ga gb hsc c (wpAny_pure h)
 ·rw [if_pos (by rw [hna,hnb];simpa using c)]
  rw [decide_eq_false c] at h
  exact wpAny_pure (wpAny_pure h)
theorem sets_ne {a b:Addr} {ks qs:List K} {la lb:Bool} {Q:Value→Shared→Prop} (ga:Good knd s.heap a ks la) (gb:Good knd s.heap b qs lb) (hsc:∀ k v,knd.is k v=true→v.scannable=true) (hu:A.units<cLine)
  (h:Q (.bool (!(decide (ks.length=qs.length)&&ks.all fun k=>decide (k∈qs)))) s):wpAny (model prog w) A (richCompare .NotEq (.ref a) (.ref b)) Q E s:=by
 have tya:s.TypeIs (.ref a) "set":=by obtain ⟨o,_,_,_,ho,hx,_⟩:=ga.ex;exact ⟨o,ho,hx.1⟩
 have tyb:s.TypeIs (.ref b) "set":=by obtain ⟨o,_,_,_,ho,hx,_⟩:=gb.ex;exact ⟨o,ho,hx.1⟩
 exact wpAny_richCompare_same_room (op:=.NotEq) tya tyb F.slot_set_ne (wpAny_call_entry F.slot_set_ne tya entry_ne (ne_tree ga gb hsc ⟨_,rfl,(fun e=>nomatch e),h⟩) (F.args_set_ne_2 _ _)) hu
end
end L2.SX
namespace L2
open PySem PySem.Spec PyProof.Rows
section
variable (P:Program) (w:World)
end
section
variable {P:Program} {w:World} {H H':Hp} {h h':Heap} {a:Addr} {o:HO}
end
section
variable {P:Program} {w:World} {H:Hp} {h h':Heap} {x e:Addr} {o':HO}
end
section
variable {fs fs' ex ex':List Addr} {H H1 H2:Hp} {h h1 h2 h':Heap} {a x e:Addr} {o:HO}
end
section
variable {X:Cx} {pins:List (Addr×Obj)} {σ:List (Option V)} {H H':Hp} {s:Shared} {h':Heap}
end
section
variable {X:Cx}
variable {a b:Expr} {ta tb:TE} {pos:Pos}
variable {tA tB':TT} {rest:List Expr}
end
section
variable {X:Cx} {pins:List (Addr×Obj)} {σ:St} {H:Hp} {s:Shared} {a:Addr} {xs ys:List V}
end
section
variable {X:Cx} {pins:List (Addr×Obj)} {σ:St} {H:Hp} {s:Shared} {E:Value→Shared→Prop}
end
section
variable {X:Cx} {st:Stmt} {rest:List Stmt} {t u:TS} {e:Expr} {te:TE} {pos:Pos}
end
section
variable {X:Cx} {pos:Pos}
end
section
variable {X:Cx} {pos:Pos}
end
section
variable {X:Cx} {tg:Expr}
end
section
variable {X:Cx} {a b c:Expr} {ta tb tc:TE} {pos:Pos}
end
section
variable {X:Cx} {a b c:Expr} {ta tb tc:TE} {pos:Pos}
end
section
variable {prog:Program} {w:World} {A:Around} {E:Value→Shared→Prop} {s:Shared} {K:PySem.W.Frag} {x dx C f:Addr} {mA:Str→Option Value} {name:Str} {v:Value}
end
section
variable {P:Program} {w:World} {H H':Hp} {h h':Heap} {a C dx:Addr} {fs fs':List (Str×V)}
end
section
variable {X:Cx} {pins:List (Addr×Obj)} {σ:St} {H:Hp} {s:Shared} {a C dx:Addr} {fs:List (Str×V)} {f:Str} {v:V} {A:Around} {E:Value→Shared→Prop}
end
section
variable {X:Cx} {o e value:Expr} {f:Str} {pos pos' tpos:Pos} {ta tv:TE}
end
section
variable {X:Cx} {pins:List (Addr×Obj)} {σ:St} {H:Hp} {s:Shared} {A:Around} {E:Value→Shared→Prop} {Q:Value→Shared→Prop} {c:Value} {b:Bool}
end
section
variable {X:Cx} {e:Expr} {es:List Expr} {te:TE} {t:TA} {pos:Pos}
end
section
variable {X:Cx} {pins:List (Addr×Obj)} {σ:St} {H:Hp} {s s':Shared}
end
section
variable {X:Cx} {CX:CXT} {k:Nat} {f C:Addr} {fd:FuncData} {ps:List Str} {sp:Sp} {dvs:List V} {ds:List Value} {E:XK} {x m:Str} {p pos apos:Pos} {e o:Expr} {es:List Expr} {ta:TE} {t:TA}
end
section
variable {X:Cx} {CX:CXT} {k:Nat} {f C:Addr} {fd:FuncData} {ps ks:List Str} {sp:Sp} {E:XK} {x m:Str} {p pos apos kpos:Pos} {e o:Expr} {es:List Expr} {kws:List Keyword} {te ta:TE} {t tk:TA} {nm:Option Str}
variable {g:List Value→List Value→List Value} {gV:List V→List V→List V}
end
section
variable {X:Cx} {x:Str} {p pos:Pos} {e:Expr} {es:List Expr} {t:TA} {id T:String} {r:List V→Hp→VK→Prop}
end
section
variable {κ:Type} [DecidableEq κ]
def valV (kvs:List (κ×V)) (k:κ):Option V:=(kvs.find? fun kv=>decide (kv.1=k)).map (·.2)
def putK (kvs:List (κ×V)) (k:κ) (v:V):List (κ×V):=
 if (kvs.any fun kv=>decide (kv.1=k))=true then kvs.map (fun kv=>if kv.1=k then (kv.1,v) else kv) else kvs++[(k,v)]
def dropK (kvs:List (κ×V)) (k:κ):List (κ×V):=kvs.filter fun kv=>decide (kv.1≠k)
theorem valV_pos {p:κ×V} {r:List (κ×V)} {k:κ} (e:p.1=k):valV (p::r) k=some p.2:=by simp [valV,List.find?_cons,e]
theorem valV_neg {p:κ×V} {r:List (κ×V)} {k:κ} (e:¬p.1=k):valV (p::r) k=valV r k:=by simp [valV,List.find?_cons,e]
theorem valV_any (k:κ):∀ kvs:List (κ×V),(kvs.any fun kv=>decide (kv.1=k))=(valV kvs k).isSome
 | []=>rfl
 | p::r=>by
  rw [List.any_cons]
  by_cases e:p.1=k
  ·simp only [valV_pos e,decide_eq_true e,Bool.true_or,Option.isSome_some]
  ·rw [valV_neg e,decide_eq_false e,Bool.false_or];exact valV_any k r
theorem length_putK (kvs:List (κ×V)) (k:κ) (v:V):(putK kvs k v).length≤kvs.length+1:=by
 unfold putK
 split
 ·rw [List.length_map];omega
 ·rw [List.length_append,List.length_cons,List.length_nil];omega
theorem RelO.isSome_eq {o:Option V} {u:Option Value} (r:RelO o u):o.isSome=u.isSome:=by
 cases o with
 | none=>cases u with
  | none=>rfl
  | some _=>exact (show False from r).elim
 | some _=>cases u with
  | none=>exact (show False from r).elim
  | some _=>rfl
theorem KV.val {kvs:List (κ×V)} {vs:List (κ×Value)} (r:KV kvs vs) (k:κ):RelO (valV kvs k) (valueAt vs k):=by
 unfold KV at r
 induction r with
 | nil=>exact True.intro
 | @cons p q ps qs h t ih=>
  obtain ⟨h1,h2⟩:=h
  by_cases e:p.1=k
  ·have e':q.1=k:=h1.symm.trans e
   have b:valueAt (q::qs) k=some q.2:=by simp [valueAt,List.find?_cons,e']
   rw [valV_pos e,b];exact h2
  ·have e':¬q.1=k:=fun z=>e (h1.trans z)
   have b:valueAt (q::qs) k=valueAt qs k:=by simp [valueAt,List.find?_cons,e']
   rw [valV_neg e,b];exact ih
theorem KV.any {kvs:List (κ×V)} {vs:List (κ×Value)} (r:KV kvs vs) (k:κ):(kvs.any fun kv=>decide (kv.1=k))=vs.any fun kv=>decide (kv.1=k):=by
 unfold KV at r
 induction r with
 | nil=>rfl
 | cons h t ih=>rw [List.any_cons,List.any_cons,ih,h.1]
theorem KV.repl {kvs:List (κ×V)} {vs:List (κ×Value)} (r:KV kvs vs) (k:κ) {y:V} {u:Value} (ry:RelV y u) :
  KV (kvs.map fun kv=>if kv.1=k then (kv.1,y) else kv) (vs.map fun kv=>if kv.1=k then (kv.1,u) else kv):=by
 unfold KV at r ⊢
 induction r with
 | nil=>exact .nil
 | @cons p q ps qs h t ih=>
  rw [List.map_cons,List.map_cons]
  refine .cons ?_ ih
  obtain ⟨h1,h2⟩:=h
  by_cases e:p.1=k
  ·rw [if_pos e,if_pos (h1.symm.trans e)];exact ⟨h1,ry⟩
  ·rw [if_neg e,if_neg (fun z=>e (h1.trans z))];exact ⟨h1,h2⟩
theorem KV.put {kvs:List (κ×V)} {vs:List (κ×Value)} (r:KV kvs vs) (k:κ) {y:V} {u:Value} (ry:RelV y u):KV (putK kvs k y) (stored vs k u):=by
 unfold putK stored
 rw [r.any k]
 by_cases e:(vs.any fun kv=>decide (kv.1=k))=true
 ·rw [if_pos e,if_pos e];exact r.repl k ry
 ·rw [if_neg e,if_neg e];exact Paired.snoc r ⟨rfl,ry⟩
theorem KV.drop {kvs:List (κ×V)} {vs:List (κ×Value)} (r:KV kvs vs) (k:κ):KV (dropK kvs k) (without vs k):=by
 unfold KV at r ⊢
 unfold dropK without
 induction r with
 | nil=>exact .nil
 | @cons p q ps qs h t ih=>
  obtain ⟨h1,h2⟩:=h
  rw [List.filter_cons,List.filter_cons]
  by_cases e:p.1=k
  ·have a:¬decide (p.1≠k)=true:=by simp [e]
   have b:¬decide (q.1≠k)=true:=by simp [h1.symm.trans e]
   rw [if_neg a,if_neg b];exact ih
  ·have e':¬q.1=k:=fun z=>e (h1.trans z)
   have a:decide (p.1≠k)=true:=by simp [e]
   have b:decide (q.1≠k)=true:=by simp [e']
   rw [if_pos a,if_pos b];exact .cons ⟨h1,h2⟩ ih
theorem KV.length {kvs:List (κ×V)} {vs:List (κ×Value)} (r:KV kvs vs):kvs.length=vs.length:=Paired.length r
theorem dropK_le (kvs:List (κ×V)) (k:κ):(dropK kvs k).length≤kvs.length:=List.length_filter_le _ _
end
theorem kV_is {P:Program} {w:World} {k:Key} {u:Value} (r:RelV (kV k) u):(aP P w).is k u=true:=by
 cases k with
 | inl i=>obtain ⟨t,e⟩:=(show ∃ t,u=Value.int i t from r);subst e;exact mixKind_int P w i t
 | inr x=>obtain ⟨t,e⟩:=(show ∃ t,u=Value.str x t from r);subst e;exact jE P w x t
theorem items_are {P:Program} {w:World}:∀ {ks:List Key} {us:List Value},aV (ks.map kV) us→ItemsAre (aP P w) ks us
 | [],_,r=>by rw [List.map_nil] at r;cases r;exact .nil
 | k::ks,_,r=>by
  rw [List.map_cons] at r
  cases r with
  | cons h t=>exact .cons (kV_is h) (items_are t)
abbrev KT (H:Hp):List (List Key×V)→List (List Key×Addr×Value)→Prop:=Paired fun p q=>p.1=q.1∧H q.2.1=some (.tup (p.1.map kV))∧RelV p.2 q.2.2
theorem KT.val {H:Hp} {kvs:List (List Key×V)} {xs:List (List Key×Addr×Value)} (r:KT H kvs xs) (k:List Key):RelO (valV kvs k) ((atKey xs k).map (·.2)):=by
 induction r with
 | nil=>exact True.intro
 | @cons p q ps qs h t ih=>
  obtain ⟨h1,_,h2⟩:=h
  by_cases e:p.1=k
  ·have e':q.1=k:=h1.symm.trans e
   have b:atKey (q::qs) k=some q.2:=by simp [atKey,List.find?_cons,e']
   rw [valV_pos e,b];exact h2
  ·have e':¬q.1=k:=fun z=>e (h1.trans z)
   have b:atKey (q::qs) k=atKey qs k:=by simp [atKey,List.find?_cons,e']
   rw [valV_neg e,b];exact ih
theorem KT.repl {H:Hp} {kvs:List (List Key×V)} {xs:List (List Key×Addr×Value)} (r:KT H kvs xs) (k:List Key) {y:V} {u:Value} (ry:RelV y u) :
  KT H (kvs.map fun kv=>if kv.1=k then (kv.1,y) else kv) (xs.map (putAt k u)):=by
 induction r with
 | nil=>exact .nil
 | @cons p q ps qs h t ih=>
  rw [List.map_cons,List.map_cons]
  refine .cons ?_ ih
  obtain ⟨h1,h2,h3⟩:=h
  unfold putAt
  by_cases e:p.1=k
  ·rw [if_pos e,if_pos (h1.symm.trans e)];exact ⟨h1,h2,ry⟩
  ·rw [if_neg e,if_neg (fun z=>e (h1.trans z))];exact ⟨h1,h2,h3⟩
theorem KT.put {H:Hp} {kvs:List (List Key×V)} {xs:List (List Key×Addr×Value)} (r:KT H kvs xs) (k:List Key) {b:Addr} {y:V} {u:Value} (hb:H b=some (.tup (k.map kV))) (ry:RelV y u) :
  KT H (putK kvs k y) (storedH xs k b u):=by
 have e:(kvs.any fun kv=>decide (kv.1=k))=(atKey xs k).isSome:=by
  rw [valV_any,(r.val k).isSome_eq,Option.isSome_map]
 unfold putK storedH
 rw [e]
 by_cases q:(atKey xs k).isSome=true
 ·rw [if_pos q,if_pos q];exact r.repl k ry
 ·rw [if_neg q,if_neg q];exact Paired.snoc r ⟨rfl,hb,ry⟩
theorem KT.keeps {H H':Hp} {kvs:List (List Key×V)} {xs:List (List Key×Addr×Value)} (r:KT H kvs xs) (ht:∀ b ys,H b=some (.tup ys)→H' b=some (.tup ys)):KT H' kvs xs:=
 Paired.mapP r fun _ _ z=>⟨z.1,ht _ _ z.2.1,z.2.2⟩
section
variable {P:Program} {w:World} {H:Hp} {h:Heap} {a:Addr}
theorem rd_of {u:HO} (ok:HOk P w H h) (e:Rd H a u):bV P w H h a u:=e.ok ok
theorem dk_rd {kvs:List (Key×V)} (ok:HOk P w H h) (e:Rd H a (.dK kvs)):kvs.length≤sizeLine∧(a==sysModules)=false∧∃ vs,KV kvs vs∧h.DictOf (aP P w) a vs:=
 show bV P w H h a (.dK kvs) from rd_of ok e
theorem dk_of {kvs:List (Key×V)} (ok:HOk P w H h) (e:H a=some (.dK kvs)):kvs.length≤sizeLine∧(a==sysModules)=false∧∃ vs,KV kvs vs∧h.DictOf (aP P w) a vs:=dk_rd ok (.inl e)
theorem key_of {ks:List Key} (ok:HOk P w H h) (e:H a=some (.tup (ks.map kV))):(tupleKind (aP P w)).is h ks a:=by
 obtain ⟨_,its,r,o,h1,h2,n,h3⟩:=(show bV P w H h a (.tup (ks.map kV)) from ok a _ e)
 exact ⟨o,its.toArray,n,h1,h2,h3,by simpa using items_are r⟩
theorem dt_rd {kvs:List (List Key×V)} (ok:HOk P w H h) (e:Rd H a (.dT kvs)):kvs.length≤sizeLine∧(a==sysModules)=false ∧
  ∃ xs,KT H kvs xs∧h.DictOfH (tupleKind (aP P w)) a xs:=by
 obtain ⟨z,y,xs,r,o,es,ep,h1,h2,h3,h4,h5⟩:=(show bV P w H h a (.dT kvs) from rd_of ok e)
 refine ⟨z,y,xs,r,o,es,ep,h1,h2,h3,h4,fun x hx=>?_,h5⟩
 have all:∀ {l:List (List Key×V)} {m:List (List Key×Addr×Value)},KT H l m→∀ x∈m,(tupleKind (aP P w)).is h x.1 x.2.1:=by
  intro l m q
  induction q with
  | nil=>intro x hx;exact nomatch hx
  | @cons p q ps qs hq t ih=>
   intro x hx
   rcases List.mem_cons.mp hx with e | hx
   ·subst e
    exact key_of ok (by rw [←hq.1];exact hq.2.1)
   ·exact ih x hx
 exact all r x hx
theorem dt_of {kvs:List (List Key×V)} (ok:HOk P w H h) (e:H a=some (.dT kvs)):kvs.length≤sizeLine∧(a==sysModules)=false ∧
  ∃ xs,KT H kvs xs∧h.DictOfH (tupleKind (aP P w)) a xs:=dt_rd ok (.inl e)
end
def DPut (H:Hp) (a:Addr) (y v:V) (H':Hp):Prop:=
 (∃ kvs k,H a=some (.dK kvs)∧y=kV k∧kvs.length<sizeLine∧H'=upd H a (.dK (putK kvs k v))) ∨
 ∃ kvs k b,H a=some (.dT kvs)∧y=.ref b∧H b=some (.tup (k.map kV))∧kvs.length<sizeLine∧H'=upd H a (.dT (putK kvs k v))
section
variable {X:Cx} {pins:List (Addr×Obj)} {σ:St} {H:Hp} {s:Shared} {a:Addr} {y v:V} {u r:Value} {o:Option V} {A:Around} {E:Value→Shared→Prop}
theorem Inv.big (I:Inv X pins σ H s):sysModules<s.heap.objs.size:=by
 have h:mainGlobals<s.heap.objs.size:=(I.mod.glob.keeps I.bk).lt
 exact Nat.lt_trans (by decide) h
theorem d_write {h':Heap} {t':Nat} {ob:HO} (I:Inv X pins σ H s) (mu:Mut (H a)) (hs:Heap.SameBut a s.heap h') (he:∃ q,h'.get? a=some q) (new:bV X.prog X.w (upd H a ob) h' a ob) :
  Inv X pins σ (upd H a ob) { s with heap:=h',toks:=t' }:=
 I.write (x:=a) (e:=a) mu (.inl rfl) (fun b q hb z=>(hs.2 b hb).trans z) he new
theorem dk_new {P:Program} {w:World} {H':Hp} {h':Heap} {kvs:List (Key×V)} {vs:List (Key×Value)} (z:kvs.length≤sizeLine) (hd:(a==sysModules)=false) (rel:KV kvs vs) (dd:h'.DictOf (aP P w) a vs) :
  bV P w H' h' a (.dK kvs):=⟨z,hd,vs,rel,dd⟩
theorem d_setItem {H':Hp} {Q:Unit→Shared→Prop} (hu:A.units+1<cLine) (I:Inv X pins σ H s) (g:DPut H a y v H') (ry:RelV y u) (rv:RelV v r) (h:∀ s',Inv X pins σ H' s'→Q () s') :
  wpAny (model X.prog X.w) A (setItem (.ref a) u r) Q E s:=by
 rcases g with ⟨kvs,k,e,ey,l,eH⟩ | ⟨kvs,k,b,e,ey,eb,l,eH⟩
 ·subst ey eH
  obtain ⟨z,hd,vs,rel,dd⟩:=dk_of I.hok e
  have hz:vs.length≤sizeLine:=by rw [←rel.length];exact z
  have hl:(putK kvs k v).length≤sizeLine:=by have:=length_putK kvs k v;omega
  refine wpAny_setItem_pairs (hsz:=hz) (kV_is ry) dd fun h' dd' hs=>h _ ?_
  have he:∃ q,h'.get? a=some q:=let ⟨q,_,_,hq,_⟩:=dd';⟨q,hq⟩
  exact d_write I (by rw [e];exact True.intro) hs he (dk_new hl hd (rel.put k rv) dd')
 ·subst ey eH
  cases (show u=Value.ref b from ry)
  obtain ⟨z,hd,xs,rel,dd⟩:=dt_of I.hok e
  have hz:xs.length≤sizeLine:=by rw [←Paired.length rel];exact z
  have hl:(putK kvs k v).length≤sizeLine:=by have:=length_putK kvs k v;omega
  refine wpAny_setItem_heap (hsz:=hz) (tupleKind_room_in1 hu) (key_of I.hok eb) dd fun h' dd' hs=>h _ ?_
  obtain ⟨q,es,ep,hq,h2,h3,h4,_,h5⟩:=dd'
  refine d_write I (by rw [e];exact True.intro) hs ⟨q,hq⟩ ⟨hl,hd,_,(rel.put k eb rv).keeps fun c ys ec=>?_,q,es,ep,hq,h2,h3,h4,h5⟩
  rw [aE (dG ec e (fun z=>nomatch z))]
  exact ec
end
section
variable {X:Cx} {pins:List (Addr×Obj)} {σ:St} {H:Hp} {s:Shared} {a:Addr} {kvs:List (Key×V)} {k:Key} {u:Value} {A:Around} {E:Value→Shared→Prop}
theorem d_pop {v:V} {more:List Value} {Q:Value→Shared→Prop} (I:Inv X pins σ H s) (e:H a=some (.dK kvs)) (ry:RelV (kV k) u) (l:valV kvs k=some v) (hm:more=[]∨∃ x,more=[x])
  (h:∀ w' s',Inv X pins σ (upd H a (.dK (dropK kvs k))) s'→RelV v w'→Q w' s'):wpAny (model X.prog X.w) A (call (.builtin "dict.pop") (.ref a::u::more)) Q E s:=by
 obtain ⟨z,hd,vs,rel,dd⟩:=dk_of I.hok e
 obtain ⟨w',hw,rw'⟩:=RelO.some_of (v:=v) (o:=valueAt vs k) (by rw [←l];exact rel.val k)
 have hp:(keyPart u).isSome=true:=by
  cases k with
  | inl i=>obtain ⟨t,q⟩:=(show ∃ t,u=Value.int i t from ry);subst q;rfl
  | inr x=>obtain ⟨t,q⟩:=(show ∃ t,u=Value.str x t from ry);subst q;rfl
 have ha:argsOk "dict.pop" ⟨.ref a::u::more,[]⟩:=by
  rcases hm with q | ⟨x,q⟩
  ·subst q;exact PySem.F.args_dict_pop_2 _ _
  ·subst q;exact PySem.F.args_dict_pop_3 _ _ _
 refine call_meetsIn PySem.F.slot_dict_pop dd.typeIs PySem.F.entry_dict_pop ha (meets_dict_pop_there (aP X.prog X.w) a (kV_is ry) more hm hp)
  ⟨vs,w',dd,by rw [←rel.length];exact z,hw,fun h' dd' hs=>h w' _ ?_ rw'⟩
 have he:∃ q,h'.get? a=some q:=let ⟨q,_,_,hq,_⟩:=dd';⟨q,hq⟩
 exact d_write I (by rw [e];exact True.intro) hs he (dk_new (Nat.le_trans (dropK_le kvs k) z) hd (rel.drop k) dd')
end
def sDPut (td ty tv:TE):TS:=fun D σ H=>tv σ H fun v H1=>td σ H1 fun x H2=>ty σ H2 fun y H3=>∃ a H4,x=.ref a∧DPut H3 a y v H4∧D.nx σ H4
section
variable {X:Cx} {o i e value:Expr} {pos pos' tpos:Pos} {td ty tv:TE}
theorem ps_dput (hu:X.A.units+1<cLine) (ho:PE X o td) (hi:PE X i ty) (hv:PE X value tv) (hs:swapsWith value (some (.Subscript o i pos')) pos.line X.env=pure false) :
  PS X (.Assign [.Subscript o i pos'] value pos) (sDPut td ty tv):=by
 intro pins s σ H D I h
 refine wpAny_Assign_Subscript (thn (hv pins s σ H _ I h) fun r s1 ⟨v,H1,I1,rv,q1⟩=>thn (ho pins s1 σ H1 _ I1 q1) fun u s2 ⟨x,H2,I2,rx,q2⟩=>thn (hi pins s2 σ H2 _ I2 q2) fun iv s3 ⟨y,H3,I3,ry,a,H4,ex,g,q3⟩=>?_) hs
 subst ex
 obtain rfl:u=Value.ref a:=rx
 exact d_setItem hu I3 g ry rv fun s4 I4=>⟨σ,H4,I4,q3⟩
end
theorem dk_empty {P:Program} {w:World} {H:Hp} (h:Heap) (hb:sysModules<h.objs.size):bV P w H (h.push { cls:=.type "dict", data:=.dict #[] }) h.objs.size (.dK []):=
 ⟨Nat.zero_le _,beq_eq_false_iff_ne.mpr (Ne.symm (Nat.ne_of_lt hb)),[],.nil,Heap.DictOf.new h⟩
def tDNewK:TE:=fun _ H Q=>∀ p,H p=none→Q (.ref p) (upd H p (.dK []))
section
variable {X:Cx} {pos:Pos}
theorem pe_dnewK:PE X (.Dict [] [] pos) tDNewK:=fun pins s σ H Q I h=>
 wpAny_Dict_empty ⟨.ref s.heap.objs.size,_,I.laid (a:=s.heap.objs.size) (o:=.dK []) (t':=s.toks) (fun _ _ q=>Heap.get?_push_of_some _ q) (Nat.le_refl _) (dk_empty s.heap I.big),rfl,h _ (I.hok.fresh (Nat.le_refl _))⟩
end
structure M1 (X:Cx) (o:Expr) (m:Str) (apos:Pos) (e:Expr) (cpos:Pos):Prop where
 base:attributeBase o m X.env (eval o X.env)=eval o X.env
 few:((backTo cpos (starEach [e] X.env)).all (fun x=>!x.1)&&(backToKw cpos (keywordEach [] X.env)).all (fun x=>x.1.isSome)
  && decide (([e]:List Expr).length+([]:List Keyword).length+(if ([]:List Keyword).isEmpty then 0 else 1)<30))=true
 line:(apos.endLine==cpos.line)=true
 trees:backTo cpos (starEach [e] X.env)=[(false,eval e X.env)]
def IsD (H:Hp) (a:Addr):Prop:=(∃ kvs,Rd H a (.dK kvs))∨∃ kvs,Rd H a (.dT kvs)
theorem isD_at {X:Cx} {pins:List (Addr×Obj)} {σ:St} {H:Hp} {s:Shared} {a:Addr} (I:Inv X pins σ H s) (d:IsD H a) :
  s.TypeIs (.ref a) "dict" ∧ (∀ b,Value.ref a=.ref b→∃ ob,s.heap.get? b=some ob∧ob.dict=none)∧(a==sysModules)=false:=by
 rcases d with ⟨kvs,e⟩ | ⟨kvs,e⟩
 ·obtain ⟨_,hd,vs,_,dd⟩:=dk_rd I.hok e
  refine ⟨dd.typeIs,fun b q=>?_,hd⟩
  cases q
  obtain ⟨ob,_,_,h1,h2,_⟩:=dd
  exact ⟨ob,h1,h2.2.1⟩
 ·obtain ⟨_,hd,xs,_,dd⟩:=dt_rd I.hok e
  refine ⟨dd.typeIs,fun b q=>?_,hd⟩
  cases q
  obtain ⟨ob,_,_,h1,h2,_⟩:=dd
  exact ⟨ob,h1,h2.2.1⟩
section
variable {X:Cx} {pins:List (Addr×Obj)} {σ:St} {H:Hp} {s:Shared} {a:Addr} {y d:V} {u r:Value} {o:Option V} {A:Around} {E:Value→Shared→Prop}
end
def tDPop1 (td ty:TE):TE:=fun σ H Q=>td σ H fun x H1=>∃ a,x=.ref a∧IsD H1 a∧ty σ H1 fun y H2=>∃ kvs k v,H2 a=some (.dK kvs)∧y=kV k∧valV kvs k=some v∧Q v (upd H2 a (.dK (dropK kvs k)))
section
variable {X:Cx} {o e f:Expr} {apos cpos:Pos} {td ty tx:TE}
theorem pe_dpop1 (ho:PE X o td) (he:PE X e ty) (m:M1 X o "pop" apos e cpos):PE X (.Call (.Attribute o "pop" apos) [e] [] cpos) (tDPop1 td ty):=by
 intro pins s σ H Q I h
 refine wpAny_Call_method m.base m.few m.line PySem.F.plainAttrs_dict PySem.F.slot_dict_pop PySem.F.type_dict_pop (thn (ho pins s σ H _ I h) fun u s1 ⟨x,H1,I1,rx,a,ex,d,q1⟩=>?_)
 subst ex
 obtain rfl:u=Value.ref a:=rx
 obtain ⟨t1,t2,_⟩:=isD_at I1 d
 refine ⟨t1,t2,?_⟩
 rw [m.trees]
 refine Calls.callWith_builtin rfl (Calls.evalArgs_plain (Calls.spliced_cons (thn (he pins s1 σ H1 _ I1 q1) fun iv s2 ⟨y,H2,I2,ry,kvs,k,v,ea,ey,l,q2⟩=>Calls.spliced_nil ?_)))
 subst ey
 exact d_pop I2 ea ry l (.inl rfl) fun w' s3 I3 rw'=>⟨v,_,I3,rw',q2⟩
end
section
variable {X:Cx} {pins:List (Addr×Obj)} {σ:St} {H:Hp} {s:Shared} {a:Addr} {kvs:List (Key×V)} {A:Around} {E:Value→Shared→Prop}
end
section
variable {X:Cx} {pins:List (Addr×Obj)} {σ:St} {H:Hp} {s:Shared} {a:Addr} {y:V} {u:Value} {A:Around} {E:Value→Shared→Prop}
end
end L2
namespace Att
open PySem PySem.W PySem.Calls PyProof.Rows
section
variable {prog:Program} {w:World} {A:Around} {E:Value→Shared→Prop} {s:Shared} {K:Frag}
end
end Att
namespace L2
open PySem PySem.Spec PyProof.Rows
section
variable {P:Program} {w:World} {K:PySem.W.Frag} {mg:Str→Option Value} {base:Heap}
end
section
variable {X:Cx}
end
section
variable {κ:Type} [DecidableEq κ]
end
end L2
namespace L2.L3
open PySem PySem.Spec PyProof.Rows
section
variable {X:Cx} {e a b:Expr} {fa fb:EF} {pos p p2 p3:Pos}
end
def noD (i:Nat) (ρ:List Ent):Bool:=(List.range ρ.length).all fun j=>j==i || (match ρ[j]? with | some (.dct _)=>false | _=>true)
theorem noD_is {i:Nat} {ρ:List Ent} (h:noD i ρ=true):∀ (j:Nat) (ks:List (Key×PyData)),ρ[j]?=some (.dct ks)→j=i:=fun j ks hj=>by
 have:=List.all_eq_true.mp h j (List.mem_range.mpr (List.getElem?_eq_some_iff.mp hj).1)
 rw [hj] at this
 simpa using this
def putKD (kvs:List (Key×PyData)) (k:Key) (d:PyData):List (Key×PyData):=
 if (kvs.any fun kv=>decide (kv.1=k))=true then kvs.map (fun kv=>if kv.1=k then (kv.1,d) else kv) else kvs++[(k,d)]
def putDS (i:Nat) (fk fv:EF):SF:=fun ρ=>match ρ[i]? with
 | some (.dct kvs)=>bns (fv ρ) ρ fun d=>bns (fk ρ) ρ fun k=>(match dKey k with
  | some k=>if cZ kvs.length then some (.nx (ρ.set i (.dct (putKD kvs k d)))) else none
  | none=>none)
 | _=>none
theorem any_keys {β γ:Type} {k:Key}:∀ {vs:List (Key×β)} {kvs:List (Key×γ)},vs.map (·.1)=kvs.map (·.1)→(vs.any fun kv=>decide (kv.1=k))=kvs.any fun kv=>decide (kv.1=k)
 | [],[],_=>rfl
 | [],_::_,h=>by simp at h
 | _::_,[],h=>by simp at h
 | a::vs,b::kvs,h=>by
  rw [List.map_cons,List.map_cons,List.cons.injEq] at h
  rw [List.any_cons,List.any_cons,any_keys h.2,h.1]
theorem dD.repl {K:PySem.W.Frag} {G:Hp} {k:Key} {v:V} {d:PyData} (r:Rep K G v d):∀ {vs:List (Key×V)} {kvs:List (Key×PyData)},dD K G vs kvs→dD K G (vs.map fun kv=>if kv.1=k then (kv.1,v) else kv) (kvs.map fun kv=>if kv.1=k then (kv.1,d) else kv)
 | [],[],h=>h
 | [],_::_,h=>by have:=h.1;simp at this
 | _::_,[],h=>by have:=h.1;simp at this
 | a::vs,b::kvs,⟨h1,h2⟩=>by
  rw [List.map_cons,List.map_cons,List.cons.injEq] at h1
  rw [List.map_cons,List.map_cons] at h2
  cases h2 with
  | cons ra rr=>
   obtain ⟨i1,i2⟩:=dD.repl (k:=k) r (vs:=vs) (kvs:=kvs) ⟨h1.2,rr⟩
   by_cases c:b.1=k
   ·have c':a.1=k:=h1.1.trans c
    refine ⟨?_,?_⟩
    ·simp only [List.map_cons,if_pos c,if_pos c',i1,h1.1]
    ·simp only [List.map_cons,if_pos c,if_pos c']
     exact .cons r i2
   ·have c':¬a.1=k:=fun z=>c (h1.1.symm.trans z)
    refine ⟨?_,?_⟩
    ·simp only [List.map_cons,if_neg c,if_neg c',i1,h1.1]
    ·simp only [List.map_cons,if_neg c,if_neg c']
     exact .cons ra i2
theorem dD.put {K:PySem.W.Frag} {G:Hp} {k:Key} {v:V} {d:PyData} {vs:List (Key×V)} {kvs:List (Key×PyData)} (h:dD K G vs kvs) (r:Rep K G v d):dD K G (putK vs k v) (putKD kvs k d):=by
 unfold putK putKD
 rw [any_keys h.1]
 split
 ·exact dD.repl r h
 ·refine ⟨by rw [List.map_append,List.map_append,h.1];rfl,?_⟩
  rw [List.map_append,List.map_append]
  exact h.2.append (.cons r .nil)
theorem dD.len {K:PySem.W.Frag} {G:Hp} {vs:List (Key×V)} {kvs:List (Key×PyData)} (h:dD K G vs kvs):vs.length=kvs.length:=by
 have:=congrArg List.length h.1
 simpa using this
section
variable {X:Cx} {a e kx o f:Expr} {fa fk fv fd fx:EF} {pos p p2:Pos}
theorem ds_putD (i:Nat) {x:Str} {xp kp:Pos} (hu:X.A.units+64<cLine) (hv:DE X e fv) (hk:DE X kx fk) (hN:X.N[i]?=some x:=by rfl)
  (hvi:Vis X.env.scope x:=by first | exact Or.inl rfl | exact Or.inr (Or.inl rfl) | exact Or.inr (Or.inr rfl)) (hd:(x==("__debug__" : Str))=false:=by decide) (hcd:(x==("__classdict__" : Str))=false:=by decide)
  (hs:swapsWith e (some (.Subscript (.Name x xp) kx kp)) pos.line X.env=pure false:=by rfl) :
  DS X (.Assign [.Subscript (.Name x xp) kx kp] e pos) (putDS i fk fv):=⟨fun pins s σ H D I ⟨ρ,o,H0,G₀,G,ef,R,q⟩=>
 ps_dput (by omega) (iF hN hvi hd hcd) hk.run hv.run hs pins s σ H D I (by
  unfold putDS at ef
  split at ef
  ·rename_i kvs hi
   obtain ⟨a,vs,e1,_⟩:=R.ownD hi
   refine sE R ef q fun d v G1 H1 g1 R1 rv e2 q1=>⟨.ref a,e1,sE R1 e2 q1 fun k u G2 H2 g2 R2 ru e3 q2=>?_⟩
   split at e3
   ·rename_i key hk'
    split at e3
    ·rename_i hz
     cases (Option.some.inj e3)
     obtain ⟨a',vs',e1',h1,h2,h3,r⟩:=R2.ownD hi
     rw [e1] at e1';cases e1'
     rw [dKey_is hk'] at ru
     cases rep_key ru
     exact ⟨a,_,rfl,.inl ⟨vs',key,h1,rfl,by rw [r.len];exact sz_lt hz,rfl⟩,q2 G2 _ σ (.refl _) (R2.wroteD hi e1 (r.put (rv.mono g2.gg)))⟩
    ·cases e3
   ·cases e3
  ·cases ef)⟩
end
theorem valV_look {k:Key}:∀ kvs:List (Key×V),valV kvs k=nB k kvs
 | []=>rfl
 | p::r=>by
  unfold nB
  by_cases c:p.1=k
  ·rw [if_pos c,valV_pos c]
  ·rw [if_neg c,valV_neg c,valV_look r]
theorem lookK_none {k:Key}:∀ {kvs:List (Key×V)} {D:List (PyData×PyData)},D.map (·.1)=kvs.map (fun p=>bF p.1)→nD k D=none→nB k kvs=none
 | [],_,_,_=>rfl
 | p::r,[],h,_=>by simp at h
 | p::r,q::D,h,e=>by
  rw [List.map_cons,List.map_cons,List.cons.injEq] at h
  unfold nD at e
  unfold nB
  split at e
  ·cases e
  ·rename_i c
   rw [h.1,fT] at c
   rw [if_neg fun z=>c (by rw [z])]
   exact lookK_none h.2 e
section
variable {X:Cx} {o e f:Expr} {fd fk fx:EF} {ap cp:Pos}
end
section
variable {X:Cx} {o e:Expr} {fo fa:EF} {apos cpos:Pos}
end
section
variable {X:Cx} {b:Expr} {fb:EF} {p pos:Pos}
end
def dropKD (kvs:List (Key×PyData)) (k:Key):List (Key×PyData):=kvs.filter fun kv=>decide (kv.1≠k)
def popDS (i:Nat) (fk:EF):SF:=fun ρ=>match ρ[i]? with
 | some (.dct kvs)=>bns (fk ρ) ρ fun k=>(match dKey k with
  | some k=>if (nD k (kvs.map fun p=>(bF p.1,p.2))).isSome then some (.nx (ρ.set i (.dct (dropKD kvs k)))) else none
  | none=>none)
 | _=>none
theorem dD.keys {K:PySem.W.Frag} {G:Hp} {vs:List (Key×V)} {kvs:List (Key×PyData)} (r:dD K G vs kvs):(kvs.map fun p=>(bF p.1,p.2)).map (·.1)=vs.map fun p=>bF p.1:=by
 rw [List.map_map]
 have:=congrArg (List.map bF) r.1
 rw [List.map_map,List.map_map] at this
 exact this.symm
theorem dD.vals {K:PySem.W.Frag} {G:Hp} {vs:List (Key×V)} {kvs:List (Key×PyData)} (r:dD K G vs kvs):RepAll K G (vs.map (·.2)) ((kvs.map fun p=>(bF p.1,p.2)).map (·.2)):=by
 rw [List.map_map];exact r.2
theorem dD.drop {K:PySem.W.Frag} {G:Hp} {k:Key}:∀ {vs:List (Key×V)} {kvs:List (Key×PyData)},dD K G vs kvs→dD K G (dropK vs k) (dropKD kvs k)
 | [],[],h=>h
 | [],_::_,h=>by have:=h.1;simp at this
 | _::_,[],h=>by have:=h.1;simp at this
 | a::vs,b::kvs,⟨h1,h2⟩=>by
  rw [List.map_cons,List.map_cons,List.cons.injEq] at h1
  rw [List.map_cons,List.map_cons] at h2
  cases h2 with
  | cons ra rr=>
   obtain ⟨i1,i2⟩:=dD.drop (k:=k) (vs:=vs) (kvs:=kvs) ⟨h1.2,rr⟩
   unfold dropK dropKD at i1 i2 ⊢
   by_cases c:b.1=k
   ·have c':a.1=k:=h1.1.trans c
    rw [List.filter_cons_of_neg (by simpa using c'),List.filter_cons_of_neg (by simpa using c)]
    exact ⟨i1,i2⟩
   ·have c':¬a.1=k:=fun z=>c (h1.1.symm.trans z)
    rw [List.filter_cons_of_pos (by simpa using c'),List.filter_cons_of_pos (by simpa using c)]
    exact ⟨by rw [List.map_cons,List.map_cons,i1,h1.1],by rw [List.map_cons,List.map_cons];exact .cons ra i2⟩
theorem look_some {K:PySem.W.Frag} {G:Hp} {k:Key} {kvs:List (Key×V)} {D:List (PyData×PyData)} (h:D.map (·.1)=kvs.map (fun p=>bF p.1)) (r:RepAll K G (kvs.map (·.2)) (D.map (·.2))):(valV kvs k).isSome=(nD k D).isSome:=by
 rw [valV_look]
 cases e:nD k D with
 | none=>rw [lookK_none h e];rfl
 | some d=>
  obtain ⟨v,ev,_⟩:=lookK_rep h r e
  rw [ev];rfl
section
variable {X:Cx} {a b e kx o f:Expr} {fa fk fv fd fx:EF} {pos p p2 p3 ap cp:Pos}
theorem ds_popD (i:Nat) {x:Str} {xp:Pos} (hk:DE X e fk) (hN:X.N[i]?=some x:=by rfl)
  (hv:Vis X.env.scope x:=by first | exact Or.inl rfl | exact Or.inr (Or.inl rfl) | exact Or.inr (Or.inr rfl)) (hd:(x==("__debug__" : Str))=false:=by decide) (hcd:(x==("__classdict__" : Str))=false:=by decide)
  (m:M1 X (.Name x xp) "pop" ap e cp:=by exact ⟨rfl,rfl,rfl,rfl⟩)
  (hsw:swapsWith (.Call (.Attribute (.Name x xp) "pop" ap) [e] [] cp) none pos.line X.env=pure false:=by rfl) :
  DS X (.Expr (.Call (.Attribute (.Name x xp) "pop" ap) [e] [] cp) pos) (popDS i fk):=⟨fun pins s σ H D I ⟨ρ,o,H0,G₀,G,ef,R,q⟩=>
 ps_expr (pe_dpop1 (iF hN hv hd hcd) hk.run m) hsw pins s σ H D I (by
  unfold popDS at ef
  split at ef
  ·rename_i kvs hi
   obtain ⟨a,vs,e1,h1,_⟩:=R.ownD hi
   refine ⟨.ref a,e1,a,rfl,.inl ⟨vs,.inl h1⟩,sE R ef q fun k u G1 H1 g1 R1 ru e2 q1=>?_⟩
   split at e2
   ·rename_i key hk'
    split at e2
    ·rename_i hz
     cases (Option.some.inj e2)
     rw [dKey_is hk'] at ru
     cases rep_key ru
     obtain ⟨a',vs',e1',h1',h2,h3,r'⟩:=R1.ownD hi
     rw [e1] at e1';cases e1'
     have some':(valV vs' key).isSome=true:=by rw [look_some r'.keys r'.vals];exact hz
     obtain ⟨w,ew⟩:=Option.isSome_iff_exists.mp some'
     exact ⟨vs',key,w,h1',rfl,ew,q1 G1 _ σ (.refl _) (R1.wroteD hi e1 r'.drop)⟩
    ·cases e2
   ·cases e2
  ·cases ef)⟩
end
section
variable {X:Cx}
end
end L2.L3
namespace L2.L3
open PySem PySem.Spec PyProof.Rows PySem.Calls
def setNeD (x y:PyData):Option Bool:=match x,y with
 | .dict D,.list ys=>(match cR strD (D.map (·.1)),cR strD ys with
  | some ks,some ns=>if ks.length<64∧ns.length<64 then some (!(decide (ks.length=(iS ns).length)&&ks.all fun k=>decide (k∈iS ns))) else none
  | _,_=>none)
 | _,_=>none
def dfT (g:PyData→PyData→Option Bool) (fa fb:EF):TF:=fun ρ=>match fa ρ,fb ρ with
 | some (.ok x),some (.ok y)=>lft (g x y)
 | _,_=>none
theorem mix_scan {P:Program} {w:World} (k:Key) (v:Value) (h:(aP P w).is k v=true):v.scannable=true:=by
 rw [mixKind_is] at h
 rcases bQ h with ⟨i,t,rfl,rfl⟩ | ⟨x,t,rfl,rfl⟩<;>rfl
theorem fold_inr:∀ (ns acc:List Str),(ns.map (Sum.inr:Str→Key)).foldl SX.addK (acc.map Sum.inr)=(ns.foldl (fun a n=>if n∈a then a else a++[n]) acc).map Sum.inr
 | [],acc=>rfl
 | n::ns,acc=>by
  rw [List.map_cons,List.foldl_cons,List.foldl_cons]
  have e:SX.addK (acc.map (Sum.inr:Str→Key)) (Sum.inr n)=(if n∈acc then acc else acc++[n]).map Sum.inr:=by
   unfold SX.addK
   have:(Sum.inr n:Key)∈acc.map Sum.inr↔n∈acc:=⟨fun h=>by obtain ⟨m,hm,e⟩:=List.mem_map.mp h;rw [←Sum.inr.inj e];exact hm,fun h=>List.mem_map.mpr ⟨n,h,rfl⟩⟩
   by_cases c:n∈acc
   ·rw [if_pos (this.mpr c),if_pos c]
   ·rw [if_neg (fun z=>c (this.mp z)),if_neg c,List.map_append];rfl
  rw [e];exact fold_inr ns _
theorem met_inr (ns:List Str):SX.metK (fun i=>(Sum.inr (ns.getD i ""):Key)) ns.length=(iS ns).map Sum.inr:=by
 unfold SX.metK
 have:(List.range ns.length).map (fun i=>(Sum.inr (ns.getD i ""):Key))=ns.map Sum.inr:=by
  refine List.ext_getElem? fun i=>?_
  rw [List.getElem?_map,List.getElem?_map]
  by_cases h:i<ns.length
  ·rw [List.getElem?_range h,List.getElem?_eq_getElem h];simp [h]
  ·rw [List.getElem?_eq_none (by simp;omega),List.getElem?_eq_none (by omega)];rfl
 rw [this]
 exact fold_inr ns []
theorem keys_inr:∀ {kvs:List (Key×V)} {ks:List Str},(kvs.map fun p=>bF p.1)=ks.map .str→kvs.map (·.1)=ks.map (Sum.inr:Str→Key)
 | [],[],_=>rfl
 | [],_::_,h=>by simp at h
 | _::_,[],h=>by simp at h
 | p::kvs,k::ks,h=>by
  rw [List.map_cons,List.map_cons,List.cons.injEq] at h
  rw [List.map_cons,List.map_cons,keys_inr h.2]
  congr 1
  cases e:p.1 with
  | inl i=>rw [e] at h;cases h.1
  | inr x=>rw [e] at h;cases h.1;rfl
theorem kv_keys:∀ {kvs:List (Key×V)} {vs:List (Key×Value)},KV kvs vs→vs.map (·.1)=kvs.map (·.1)
 | [],_,r=>by cases r;rfl
 | p::kvs,_,r=>by
  cases r with
  | cons h t=>rw [List.map_cons,List.map_cons,kv_keys t,h.1]
theorem all_inj {K:Type} [DecidableEq K] (f:Str→K) (inj:∀ a b,f a=f b→a=b) (ks ns:List Str):(decide ((ks.map f).length=(ns.map f).length)&&(ks.map f).all fun k=>decide (k∈ns.map f))=(decide (ks.length=ns.length)&&ks.all fun k=>decide (k∈ns)):=by
 rw [List.length_map,List.length_map,List.all_map]
 congr 2
 funext k
 have:f k∈ns.map f↔k∈ns:=⟨fun h=>by obtain ⟨m,hm,e⟩:=List.mem_map.mp h;rw [←inj _ _ e];exact hm,fun h=>List.mem_map.mpr ⟨k,h,rfl⟩⟩
 by_cases c:k∈ns
 ·rw [decide_eq_true c];exact decide_eq_true (this.mpr c)
 ·rw [decide_eq_false c];exact decide_eq_false fun z=>c (this.mp z)
section
variable {X:Cx} {e1 e2:Expr} {fa fb:EF} {p1 p2 q1 q2 pos:Pos}
theorem dt_setNe (hc:X.calm=true) (hu:X.A.units+64<cLine) (m:X.mg "set" = none) (ha:DE X e1 fa) (hb:DE X e2 fb) (hg:Gl X "set":=by rfl)
  (he1:starEach [e1] X.env=(false,eval e1 X.env)::starEach [] X.env:=by rfl) (he2:starEach [e2] X.env=(false,eval e2 X.env)::starEach [] X.env:=by rfl) (hpl:∀ q,(backTo q (starEach [] X.env)).any (·.1)=false:=by exact fun _=>rfl) (hm:behindInMarks .NotEq (.Call (.Name "set" p2) [e2] [] q2)=false:=by rfl) :
  DT X (.Compare (.Call (.Name "set" p1) [e1] [] q1) [.NotEq] [.Call (.Name "set" p2) [e2] [] q2] pos) (dfT setNeD fa fb):=⟨fun pins s σ H Q I ⟨ρ,r,H0,G₀,G,ef,R,q⟩=>by
 unfold dfT at ef
 split at ef
 ·rename_i x y ea eb
  obtain ⟨t,et,rfl⟩:=bI ef
  unfold setNeD at et
  split at et
  ·rename_i D ys
   split at et
   ·rename_i ks ns hks hns
    split at et
    ·rename_i hz
     cases (Option.some.inj et)
     have ey:=cD (g:=PyData.str) (fun d a q=>mP q) hns
     have ex:=cD (g:=PyData.str) (fun d a q=>mP q) hks
     subst ey
     refine wpAny_isTrue_Compare1 (wpAny_Call_Name_kw (gO I hg m boot_set ?_)) hm
     refine callWith_type1 (thn ((lS (ha.pd ea) pad_nil he1).run H0 G₀ G q1 pins s σ H (fun vs H1=>∃ G1,Grow G H G1 H1∧RepAll X.K G1 vs [.dict D]) I R (fun vs G1 H1 g1 rv=>⟨G1,g1,rv⟩)) fun us s1 ⟨vs,H1,I1,r1,G1,g1,rv⟩=>?_) he1 (hpl _)
     cases rv with
     | cons rv rr=>
     cases rr
     cases rv with
     | dict hq e0 rd=>
      rename_i a kvs
      obtain ⟨u,rfl,rx⟩:=vals1 r1
      cases rx
      obtain ⟨z,lo,vs',rel,dd⟩:=dk_of I1.hok (g1.sub _ _ hq)
      have ek:kvs.map (·.1)=ks.map (Sum.inr:Str→Key):=keys_inr (by rw [←ex,←e0])
      have ek':vs'.map (·.1)=ks.map (Sum.inr:Str→Key):=(kv_keys rel).trans ek
      have lk:vs'.length=ks.length:=by have:=congrArg List.length ek';simpa using this
      refine SX.set_ofD (knd:=aP X.prog X.w) dd lo mix_scan (by omega) fun h' tk g kp=>?_
      rw [ek'] at g
      have I2:Inv X pins σ H1 { s1 with heap:=h',toks:=tk }:=I1.kept fun b o z=>kp b o (Heap.lt_size z) z
      obtain ⟨o1,es1,ep1,t1,ho1,hx1,hd1,_⟩:=id g.ex
      have I3:Inv X (pins++nR [s1.heap.objs.size] h') σ H1 { s1 with heap:=h',toks:=tk }:=I2.pinned (fun b hb=>by
       rw [List.mem_singleton.mp hb];exact I1.fpOk (Nat.le_refl _) (I1.hok.fresh (Nat.le_refl _))) (fun b hb=>by
       rw [List.mem_singleton.mp hb]
       exact ⟨o1,ho1,fun v z=>by rw [hd1] at z;cases z⟩)
      refine wpAny_Call_Name_kw (gO I3 hg m boot_set ?_)
      refine callWith_type1 (thn ((lS (hb.pd eb) pad_nil he2).run H0 G₀ G1 q2 (pins++nR [s1.heap.objs.size] h') _ σ H1 (fun vs H2=>∃ G2,Grow G1 H1 G2 H2∧RepAll X.K G2 vs [.list (ns.map .str)]) I3 (R.more g1) (fun vs G2 H2 g2 rv=>⟨G2,g2,rv⟩)) fun us s3 ⟨vs,H2,I4,r2,G2,g2,rv2⟩=>?_) he2 (hpl _)
      cases rv2 with
      | cons rv2 rr2=>
      cases rr2
      cases rv2 with
      | list hq2 ra2=>
       have e5:=ra2.strs
       subst e5
       obtain ⟨u,rfl,rx⟩:=vals1 r2
       cases rx
       obtain ⟨its,rvl,pl,hzl⟩:=I4.list (g2.sub.seq hq2)
       have hi:=nK rvl
       have hl:its.length=ns.length:=lK hi
       have hsz:its.toArray.size=ns.length:=by rw [List.size_toArray,hl]
       refine SX.set_of (knd:=aP X.prog X.w) (val:=fun i=>Sum.inr (ns.getD i "")) (I4.ok.hd hc) pl.isList (fun i v e=>?_) (fun i v A' E' s' Q' e q'=>?_) ?_ fun h2 tk2 gb kp2=>?_
       ·obtain ⟨t,rfl⟩:=strs_at hi i v (by simpa using e)
        exact ⟨jE _ _ _ _,rfl⟩
       ·obtain ⟨t,rfl⟩:=strs_at hi i v (by simpa using e)
        exact (aP X.prog X.w).pyHash (k:=Sum.inr (ns.getD i "")) (jE _ _ _ _) q'
       ·rw [hsz];exact Nat.lt_of_le_of_lt (Nat.succ_le_of_lt hz.2) (by decide)
       ·rw [hsz,met_inr] at gb
        have pin1:s3.heap.get? s1.heap.objs.size=some o1:=(I4.pin _ (List.mem_append_right _ (List.mem_append_right _ (iI List.mem_cons_self ho1)))).1
        have ga:SX.Good (aP X.prog X.w) h2 s1.heap.objs.size (ks.map Sum.inr) (SX.ledOf X.w):=g.keeps fun o eo=>by
         rw [ho1] at eo
         cases eo
         exact kp2 _ _ (Heap.lt_size pin1) pin1
        have I5:Inv X pins σ H2 { s3 with heap:=h2,toks:=tk2 }:=(I4.unpinned).kept fun b o z=>kp2 b o (Heap.lt_size z) z
        show wpAny _ _ (richCompare .NotEq (.ref s1.heap.objs.size) (.ref s3.heap.objs.size)) _ _ _
        refine SX.sets_ne ga gb mix_scan (by omega) ?_
        refine wpAny_truthy_bool ⟨H2,I5,?_⟩
        rw [all_inj (Sum.inr:Str→Key) (fun a b h=>Sum.inr.inj h)]
        exact q G2 H2 (g1.trans g2)
    ·cases et
   ·cases et
  ·cases et
 ·cases ef⟩
end
end L2.L3
namespace L2.L3
open PySem PySem.Spec PyProof.Rows
def flatD:PyData→Bool
 | .none=>true
 | .bool _=>true
 | .int _=>true
 | .str _=>true
 | _=>false
def keyB (d:PyData):Bool:=(dKey d).isSome
def jR (Db:List (PyData×PyData)):List (PyData×PyData)→Bool
 | []=>true
 | p::r=>match Spec.lookup p.1 Db with
  | none=>false
  | some u=>p.2.eqv u&&jR Db r
def eqKD (x y:PyData):Option Bool:=match x,y with
 | .dict Da,.dict Db=>if (Da.all fun p=>keyB p.1&&flatD p.2)&&(Db.all fun p=>keyB p.1&&flatD p.2) then some (decide (Da.length=Db.length)&&jR Db Da) else none
 | _,_=>none
def neKD (x y:PyData):Option Bool:=(eqKD x y).map (!·)
theorem eqRows_is (Db:List (PyData×PyData)):∀ Da,PySem.W.KeqRows Db Da (jR Db Da)
 | []=>.nil
 | (k,v)::r=>by
  unfold jR
  cases h:Spec.lookup k Db with
  | none=>exact .miss h
  | some u=>exact .hit h (eqRows_is Db r)
theorem flat_of {K:PySem.W.Frag} {G:Hp} {v:V} {d:PyData} {u:Value} (hf:flatD d=true) (r:Rep K G v d) (ru:RelV v u):PyProof.V.Flat u d:=by
 cases r with
 | none=>cases ru;exact fun h=>.none
 | bool b=>cases ru;exact fun h=>.bool b
 | int i=>obtain ⟨t,rfl⟩:=ru;exact fun h=>.int i t
 | str x=>obtain ⟨t,rfl⟩:=ru;exact fun h=>.str x t
 | list _ _=>cases hf
 | tuple _ _=>cases hf
 | dict _ _ _=>cases hf
theorem flat_pairs {K:PySem.W.Frag} {G:Hp} {kvs:List (Key×V)} {vs:List (Key×Value)} (p:KV kvs vs):∀ {D:List (PyData×PyData)},D.map (·.1)=kvs.map (fun p=>bF p.1)→RepAll K G (kvs.map (·.2)) (D.map (·.2))→(D.all fun p=>keyB p.1&&flatD p.2)=true→PyProof.V.FlatPairs bF vs D:=by
 unfold KV at p
 induction p with
 | nil=>
  intro D h _ _
  cases D with
  | nil=>exact .nil
  | cons _ _=>cases h
 | @cons a b _ _ h1 t ih=>
  intro D h r f
  cases D with
  | nil=>cases h
  | cons d D=>
   rw [List.map_cons,List.map_cons,List.cons.injEq] at h
   rw [List.all_cons,Bool.and_eq_true,Bool.and_eq_true] at f
   rw [List.map_cons,List.map_cons] at r
   cases r with
   | cons r1 rr=>
    obtain ⟨k,v⟩:=a
    obtain ⟨k',u⟩:=b
    obtain ⟨d1,d2⟩:=d
    have e1:d1=bF k:=h.1
    have e2:k=k':=h1.1
    subst e1 e2
    exact .cons (flat_of f.1.2 r1 h1.2) (ih h.2 rr f.2)
theorem same_keyD (a b:Key):Spec.same (bF a) (bF b)=decide (a=b):=by
 cases a<;>cases b<;>simp [bF,Spec.same]<;>(rw [Bool.eq_iff_iff];simp)
section
variable {X:Cx}
def rEqK (K:PySem.W.Frag) (neg:Bool) (Da Db:List (PyData×PyData)):R2:=fun x y H Q=>∃ a b ka kb,x=.ref a∧y=.ref b∧H a=some (.dK ka)∧H b=some (.dK kb)∧(Da.map (·.1)=ka.map (fun p=>bF p.1)∧RepAll K H (ka.map (·.2)) (Da.map (·.2))∧(Da.all fun p=>keyB p.1&&flatD p.2)=true) ∧
 (Db.map (·.1)=kb.map (fun p=>bF p.1)∧RepAll K H (kb.map (·.2)) (Db.map (·.2))∧(Db.all fun p=>keyB p.1&&flatD p.2)=true)∧Q (.bl (if neg then !(decide (Da.length=Db.length)&&jR Db Da) else decide (Da.length=Db.length)&&jR Db Da)) H
theorem tab_at {pins:List (Addr×Obj)} {s:Shared} {σ:St} {H:Hp} {a:Addr} {ka:List (Key×V)} {D:List (PyData×PyData)} (I:Inv X pins σ H s) (h:H a=some (.dK ka)) (e:D.map (·.1)=ka.map (fun p=>bF p.1)) (r:RepAll X.K H (ka.map (·.2)) (D.map (·.2))) (f:(D.all fun p=>keyB p.1&&flatD p.2)=true):TabAt (aP X.prog X.w) bF s.heap a D:=by
 obtain ⟨hz,hS,vs,kv,dd⟩:=(show bV X.prog X.w H s.heap a (.dK ka) from I.hok a _ h)
 exact ⟨hS,vs,dd,flat_pairs kv e r f⟩
theorem op_eqK (hu:X.A.units+64<cLine) (Da Db:List (PyData×PyData)):OpR X (compareOp .Eq) (rEqK X.K false Da Db):=by
 intro pins s σ H x y v u Q I rx ry ⟨a,b,ka,kb,ex,ey,ha,hb,⟨a1,a2,a3⟩,⟨b1,b2,b3⟩,q⟩
 subst ex ey
 cases rx
 cases ry
 have ta:=tab_at I ha a1 a2 a3
 have tb:=tab_at I hb b1 b2 b3
 by_cases c:Da.length=Db.length
 ·exact PySem.W.keq_tabs same_keyD ta tb c (by omega) (eqRows_is Db Da) ⟨.bl (jR Db Da),H,I,rfl,by rw [decide_eq_true c,Bool.true_and] at q;exact q⟩
 ·exact PySem.W.keq_tabs_len ta tb (by simpa using c) (by omega) ⟨.bl false,H,I,rfl,by rw [decide_eq_false c,Bool.false_and] at q;exact q⟩
theorem op_neK (hu:X.A.units+64<cLine) (Da Db:List (PyData×PyData)):OpR X (compareOp .NotEq) (rEqK X.K true Da Db):=by
 intro pins s σ H x y v u Q I rx ry ⟨a,b,ka,kb,ex,ey,ha,hb,⟨a1,a2,a3⟩,⟨b1,b2,b3⟩,q⟩
 subst ex ey
 cases rx
 cases ry
 have ta:=tab_at I ha a1 a2 a3
 have tb:=tab_at I hb b1 b2 b3
 by_cases c:Da.length=Db.length
 ·exact PySem.W.kne_tabs same_keyD ta tb c (by omega) (eqRows_is Db Da) ⟨.bl (!jR Db Da),H,I,rfl,by rw [decide_eq_true c,Bool.true_and] at q;exact q⟩
 ·exact PySem.W.kne_tabs_len ta tb (by simpa using c) (by omega) ⟨.bl true,H,I,rfl,by rw [decide_eq_false c,Bool.false_and] at q;exact q⟩
theorem eqK_ok (hu:X.A.units+64<cLine) (x y:PyData) (t:Bool) (h:eqKD x y=some t):CmpD X .Eq x y t:=by
 unfold eqKD at h
 split at h
 ·rename_i Da Db
  split at h
  ·rename_i hz
   rw [Bool.and_eq_true] at hz
   cases (Option.some.inj h)
   exact ⟨_,op_eqK hu Da Db,fun x y G H Q s rx ry q=>by
    cases rx with
    | dict h1 e1 r1=>
     cases ry with
     | dict h2 e2 r2=>exact ⟨_,_,_,_,rfl,rfl,s _ _ h1,s _ _ h2,⟨e1,r1.mono s,hz.1⟩,⟨e2,r2.mono s,hz.2⟩,q⟩⟩
  ·cases h
 ·cases h
theorem neK_ok (hu:X.A.units+64<cLine) (x y:PyData) (t:Bool) (h:neKD x y=some t):CmpD X .NotEq x y t:=by
 unfold neKD at h
 obtain ⟨t',h',et⟩:=Option.map_eq_some_iff.mp h
 clear h
 subst et
 unfold eqKD at h'
 split at h'
 ·rename_i Da Db
  split at h'
  ·rename_i hz
   rw [Bool.and_eq_true] at hz
   cases (Option.some.inj h')
   exact ⟨_,op_neK hu Da Db,fun x y G H Q s rx ry q=>by
    cases rx with
    | dict h1 e1 r1=>
     cases ry with
     | dict h2 e2 r2=>exact ⟨_,_,_,_,rfl,rfl,s _ _ h1,s _ _ h2,⟨e1,r1.mono s,hz.1⟩,⟨e2,r2.mono s,hz.2⟩,q⟩⟩
  ·cases h'
 ·cases h'
end
end L2.L3
namespace L2.L3
open PySem PySem.Spec PyProof.Rows
def thC (f:EF):EF:=fun ρ=>match f (frzAll ρ) with
 | some (.ok (.list ds))=>if ds.all gN then some (.ok (.list ds)) else none
 | _=>none
section
variable {X:Cx} {elt iter tg:Expr} {ifs:List Expr} {scope:Scope} {pos spos p:Pos} {N':List Str} {cap:List (Option Nat)} {t:Tg} {fi:AF} {ft:TF} {fe:EF}
theorem de_compT (hc:X.calm=true) (B:Blk X scope N' cap) (hi:DI X tg iter fi) (hf:tgFree cap t=true) (hg:∀ C s₃ H₃ fp,DG (bO X scope N' C s₃ H₃ fp) tg t) (ht:∀ C s₃ H₃ fp,DTs (bO X scope N' C s₃ H₃ fp) ifs ft)
  (he:∀ C s₃ H₃ fp,DE (bO X scope N' C s₃ H₃ fp) elt fe) (hs:∀ x,foldedSetIterable iter X.env x=pure x:=by intro _;rfl):DE X (.ListComp elt [⟨tg,iter,ifs,0⟩] scope pos) (thC (cK t cap fi ft fe)):=⟨fun pins s σ H Q I ⟨ρ,r,H0,G₀,G,e,R,q⟩=>by
 unfold thC at e
 split at e
 ·rename_i ds0 e1
  split at e
  ·rename_i hpl
   cases (Option.some.inj e)
   obtain ⟨G',s',R'⟩:=R.frzAll
   rcases eF e1 with ⟨ds,e3,e4⟩ | ⟨c,_,e4⟩
   ·split at e4
    ·rename_i hz
     obtain ⟨d',ed,z⟩:=bI e4
     cases z
     obtain ⟨es,e5,z2⟩:=Option.map_eq_some_iff.mp ed
     cases z2
     obtain ⟨k1,rfl⟩:=iK e5
     refine pe_comp (g:=gU X.K ds (fun d=>d) (bL cap (frzAll ρ)) (cX t (bL cap (frzAll ρ)))) (tc:=tU X.K ds (cX t (bL cap (frzAll ρ))) (cT t (bL cap (frzAll ρ)) ft)) (te:=eU X.K ds (cX t (bL cap (frzAll ρ))) (cT t (bL cap (frzAll ρ)) ft) (cV t (bL cap (frzAll ρ)) fe)) hc B (hi.pid e3).run
      (fun C s₃ H₃ fp pins s σ H v u Q I r ⟨x,hx,q⟩=>((hg C s₃ H₃ fp).run _ _ _ (k1 x hx).1).run pins s σ H v u Q I r q)
      (fun C s₃ H₃ fp pins s σ H Q I ⟨x,hx,q⟩=>((ht C s₃ H₃ fp).run _ _ (k1 x hx).2.1).run pins s σ H Q I q)
      (fun C s₃ H₃ fp pins s σ H Q I ⟨x,hx,hcx,H0,G₀,G,R,q⟩=>((he C s₃ H₃ fp).pd ((k1 x hx).2.2 hcx)).run H0 G₀ G pins s σ H Q I R q) hs pins s σ H Q I ?_
     refine ⟨H0,G₀,G',R',fun J G1 H1 g wk=>jV (φ:=fun d=>d) (R'.more g) (by simpa using wk) (.refl _) (fun x hx=>weak_tg hf (k1 x hx).1) (fM hz) fun Dd ys G2 H2 g2 hD hn ra=>?_⟩
     have gt:=g.trans g2
     have hH:H Dd=none:=by
      cases hq:H Dd with
      | none=>rfl
      | some o=>obtain ⟨o',e'⟩:=g.hh.ne hq;rw [e'] at hn;cases hn
     have hG:G Dd=none:=by
      cases hq:G Dd with
      | none=>rfl
      | some o=>rw [R.sub _ _ hq] at hH;cases hH
     have gr:Grow G H (upd G Dd (.lst ys)) H2:=⟨bJ hG,gt.hh,fun b o q=>by
      by_cases hb:b=Dd
      ·subst hb;rw [aG] at q;cases q;exact gt.sub _ _ hD
      ·rw [aE hb] at q;exact gt.sub _ _ (gt.gg _ _ (s' _ _ q)),fun b e n=>by
      rw [aE (fun z=>n (by rw [z];exact hH))];exact e,fun n=>n.upd (by nofun)⟩
     exact q (.ref Dd) _ H2 gr (.list (.of aG) (RepAll.plain hpl ra))
    ·cases e4
   ·cases e4
  ·cases e
 ·cases e⟩
end
end L2.L3
namespace L2.L3
open PySem PySem.Spec PyProof.Rows
def keysK:List (PyData×PyData)→Option (List (Key×PyData))
 | []=>some []
 | p::r=>match dKey p.1,keysK r with
  | some k,some l=>some ((k,p.2)::l)
  | _,_=>none
def newDC (i:Nat) (fa:EF):SF:=fun ρ=>bns (fa ρ) ρ fun d=>match d with
 | .dict D=>(match keysK D with
  | some kvs=>if decide (kvs.length≤1000)&&noD i ρ then some (.nx (ρ.set i (.dct kvs))) else none
  | none=>none)
 | _=>none
def flatT:PyData→Bool
 | .tuple ds=>ds.all gN
 | d=>gN d
def setCU (i:Nat) (f:EF):SF:=fun ρ=>match f (frzAll ρ) with
 | some (.ok (.list ds))=>if ds.all flatT then some (.nx (ρ.set i (.val (.list ds)))) else none
 | _=>none
end L2.L3
namespace L2.L3
open PySem PySem.Spec PyProof.Rows
section
variable {X:Cx} {pins:List (Addr×Obj)} {σ:St} {H:Hp} {s:Shared} {a:Addr} {o o':HO}
theorem Inv.as (I:Inv X pins σ H s) (e:H a=some o) (h1:∀ xs,o≠.tup xs) (h2:∀ ob u,X.H₀ a≠some (.frz ob u)) (h3:∀ p,o≠.tbl p) (h4:∀ x,o≠.own x)
  (new:bV X.prog X.w (upd H a o') s.heap a o'):Inv X pins σ (upd H a o') s:=by
 have ne:∀ b,H b=none→b≠a:=fun b hb z=>by rw [z,e] at hb;cases hb
 have nu:∀ b,H b=none→upd H a o' b=none:=fun b hb=>by rw [aE (ne b hb)];exact hb
 refine ⟨I.ok,I.os,I.bare,⟨I.base.keep,I.base.slot,fun b ob q n hx=>nu b (I.base.free b ob q n hx),I.base.there,fun b xs q=>?_,fun b ob u q=>?_,fun b ps q=>?_⟩,I.loc,I.cell,nu _ I.free,fun x c q=>nu _ (I.freeC x c q),fun p hp=>?_,fun b u q=>?_,I.len⟩
 ·have z:=I.base.tups b xs q
  rw [aE (fun y=>by rw [y,e] at z;exact h1 _ (Option.some.inj z))];exact z
 ·rw [aE (fun y=>h2 ob u (by rw [←y];exact q))];exact I.base.frzs b ob u q
 ·obtain ⟨m,z⟩:=I.base.tbls b ps q
  exact ⟨m,by rw [aE (fun y=>by rw [y,e] at z;exact h3 _ (Option.some.inj z))];exact z⟩
 ·obtain ⟨e1,n,r⟩:=I.pin p hp
  exact ⟨e1,nu _ n,r⟩
 ·by_cases hb:b=a
  ·subst hb;rw [aG] at q;cases q;exact new
  ·rw [aE hb] at q
   refine (I.hok b u q).stay (fun _ _ _ z=>z) (fun c z=>?_) fun c xs z=>?_
   ·rw [aE (fun y=>by rw [y,e] at z;exact h4 _ (Option.some.inj z))];exact z
   ·rw [aE (fun y=>by rw [y,e] at z;exact h1 _ (Option.some.inj z))];exact z
end
def Itv (a:Addr) (o:Obj) (kvs:List (Key×V)):It where
 go i H:=H a=some (.frz o (.dK kvs))∧i<kvs.length
 yld i H x H':=H'=H∧(kvs[i]?).map (·.2)=some x
 stop i H:=H a=some (.frz o (.dK kvs))∧kvs.length≤i
theorem kv_at {kvs:List (Key×V)} {vs:List (Key×Value)} (r:KV kvs vs) {i:Nat} {p:Key×V} (h:kvs[i]?=some p):∃ u,vs[i]?=some (p.1,u)∧RelV p.2 u:=by
 unfold KV at r
 induction r generalizing i with
 | nil=>simp at h
 | @cons x y _ _ h1 t ih=>
  cases i with
  | zero=>simp at h;subst h;exact ⟨y.2,by simp [h1.1],h1.2⟩
  | succ i=>simpa using ih (by simpa using h)
theorem turn_vals {P:Program} {w:World} {K:PySem.W.Frag} {tg:Expr} {a it:Addr} {o:Obj} {kvs:List (Key×V)} {vs:List (Key×Value)} {ep:Nat} (rel:KV kvs vs)
  (hd:∀ h:Heap,h.get? a=some o→h.DictAt (aP P w) a vs ep):Turn P w K tg (Itv a o kvs) [it] it (fun i h=>h.IsValIter it a i vs.length ep) where
 mem:=by simp
 obj:=fun i h st b hb=>by
  have e:b=it:=by simpa using hb
  subst e
  obtain ⟨o,e,c,d⟩:=st
  exact ⟨o,e,fun v z=>by rw [d] at z;cases z⟩
 keep:=fun i h h' st k=>st.at fun o e=>k it (by simp) o e
 item:=by
  intro X hP hw hK hc i pins s σ H E I hf st hg
  subst hP hw hK
  obtain ⟨ha,hi⟩:=hg
  have dat:=hd _ (show s.heap.get? a=some o∧_ from I.hok a _ ha).1
  obtain ⟨u,hu,ru⟩:=kv_at rel (List.getElem?_eq_getElem hi)
  obtain ⟨f0,f1,f2,f3,f4,f5⟩:=hf it (by simp)
  refine wpAny_pyNext_values_item st dat hu fun h' st' sb=>?_
  have I1:Inv X pins σ H { s with heap:=h' }:=I.turned (t':=s.toks) (fun b o hb e=>(sb.2 b hb).trans e) f0 f1 f3 f4 f5
  obtain ⟨o1,e,c,d⟩:=id st'
  exact ⟨u,rfl,go_of (s:={ s with heap:=h' }) e c d (by decide) ⟨_,H,I1,ru,⟨rfl,by rw [List.getElem?_eq_getElem hi];rfl⟩,st',fun b hb=>(hf b hb).1⟩⟩
 done:=by
  intro X hP hw hK hc i pins s σ H E I hf st hg
  subst hP hw hK
  obtain ⟨ha,hi⟩:=hg
  have dat:=hd _ (show s.heap.get? a=some o∧_ from I.hok a _ ha).1
  obtain ⟨f0,f1,f2,f3,f4,f5⟩:=hf it (by simp)
  have hl:=rel.length
  exact wpAny_pyNext_values_end (I.ok.hd hc) st dat (by simp;omega) fun h' eb=>⟨rfl,I.turned (t':=s.toks) (fun b o hb e=>eb b o hb e) f0 f1 f3 f4 f5⟩
 self:=fun _ _ _ _ _ st h=>wpAny_pyIter_valiter st h
structure M0 (X:Cx) (o:Expr) (m:Str) (apos:Pos) (cpos:Pos):Prop where
 base:attributeBase o m X.env (eval o X.env)=eval o X.env
 few:((backTo cpos (starEach [] X.env)).all (fun x=>!x.1)&&(backToKw cpos (keywordEach [] X.env)).all (fun x=>x.1.isSome)
  && decide (([]:List Expr).length+([]:List Keyword).length+(if ([]:List Keyword).isEmpty then 0 else 1)<30))=true
 line:(apos.endLine==cpos.line)=true
 trees:backTo cpos (starEach [] X.env)=[]
section
variable {X:Cx} {o tg:Expr} {td:TE} {apos cpos:Pos}
def iVals (td:TE):TI:=fun σ H R=>td σ H fun v H1=>∃ a ob kvs,v=.ref a∧H1 a=some (.frz ob (.dK kvs))∧R (Itv a ob kvs) H1
theorem pi_vals (ho:PE X o td) (m:M0 X o "values" apos cpos):PI X tg (.Call (.Attribute o "values" apos) [] [] cpos) (iVals td):=by
 intro pins s σ H R I h
 refine wpAny_Call_method m.base m.few m.line PySem.F.plainAttrs_dict PySem.F.slot_dict_values PySem.F.type_dict_values (thn (ho pins s σ H _ I h) fun u s1 ⟨x,H1,I1,rx,a,ob,kvs,ex,ha,q1⟩=>?_)
 subst ex
 obtain rfl:u=Value.ref a:=rx
 obtain ⟨t1,t2,_⟩:=isD_at I1 (.inl ⟨kvs,.inr ⟨ob,ha⟩⟩)
 refine ⟨t1,t2,?_⟩
 rw [m.trees]
 refine Calls.callWith_builtin rfl (PySem.evalArgs_none ?_)
 obtain ⟨hob,z,lo,vs,rel,dd⟩:=(show s1.heap.get? a=some ob∧kvs.length≤sizeLine∧(a==sysModules)=false∧∃ vs,KV kvs vs∧s1.heap.DictOf (aP X.prog X.w) a vs from I1.hok a _ ha)
 obtain ⟨ep,dat⟩:=dd.dictAt
 have hd:∀ h:Heap,h.get? a=some ob→h.DictAt (aP X.prog X.w) a vs ep:=fun h e=>by
  obtain ⟨o1,es,e1,r⟩:=dat
  rw [hob] at e1;cases e1
  exact ⟨ob,es,e,r⟩
 refine call_meetsIn PySem.F.slot_dict_values dd.typeIs PySem.F.entry_dict_values (PySem.F.args_dict_values_1 _) (meets_dict_values (aP X.prog X.w) a lo) ⟨⟨vs,dd⟩,?_⟩
 have ha2:(s1.heap.push { cls:=.type "dict_values", data:=.fields #[.ref a] }).get? a=some ob:=Heap.get?_push_of_some _ hob
 refine wpAny_pyIter_values (s:={ s1 with heap:=s1.heap.push { cls:=.type "dict_values", data:=.fields #[.ref a] } }) (d:=a) (kvs:=vs) (ep:=ep) ⟨_,Heap.get?_push_size _ rfl,rfl,rfl⟩ (hd _ ha2) ?_
 have I2:Inv X pins σ H1 { s1 with heap:=s1.heap.push { cls:=.type "dict_values", data:=.fields #[.ref a] } }:=I1.kept (t':=s1.toks) fun b o e=>Heap.get?_push_of_some _ e
 refine ⟨_,[_],_,_,H1,rfl,I2.kept (t':=s1.toks) fun b o e=>Heap.get?_push_of_some _ e,turn_vals rel hd,⟨_,Heap.get?_push_size _ rfl,rfl,rfl⟩,fun b hb=>?_,q1⟩
 obtain rfl:=List.mem_singleton.mp hb
 exact I2.fpOk (Nat.le_refl _) (I2.hok.fresh (Nat.le_refl _))
end
def noE (ρ:List Ent):List Ent:=ρ.map fun _=>.no
def compV (k:Nat) (t:Tg) (cap:List (Option Nat)) (ft:TF) (fe:EF):EF:=fun ρ=>match ρ[k]? with
 | some (.val (.dict D))=>if (D.map (·.2)).all gN&&cZ D.length then (match nA t (bL cap (noE ρ)) ft fe (D.map (·.2)) with
  | some es=>if es.all gN then some (.ok (.list es)) else none
  | none=>none) else none
 | _=>none
theorem RepS.bare {K:PySem.W.Frag} {H0 G₀ G H G1 H1:Hp} {σ:St} {ρ:List Ent} (R:RepS K H0 G₀ G H σ ρ) (s:aX G1 H1) (t:lA K G1 H1):RepS K H1 G1 G1 H1 σ (noE ρ):=by
 refine ⟨.refl s,by simp [noE,R.len],fun i o e h1 h2=>?_,Inj.free fun i e h=>?_,t⟩
 ·unfold noE at h2;rw [List.getElem?_map] at h2
  cases q:ρ[i]? with
  | none=>rw [q] at h2;cases h2
  | some _=>rw [q] at h2;cases h2;trivial
 ·unfold noE at h;rw [List.getElem?_map] at h
  cases q:ρ[i]? with
  | none=>rw [q] at h;cases h
  | some _=>rw [q] at h;cases h;rfl
theorem walk_vals {K:PySem.W.Frag} {G:Hp} {a:Addr} {o:Obj} {kvs:List (Key×V)} {ds:List PyData} (ha:G a=some (.frz o (.dK kvs))) (r:RepAll K G (kvs.map (·.2)) ds):Walk K (Itv a o kvs) G ds:=by
 intro i G' H' s1 s2
 have hl:=r.length
 rw [List.length_map] at hl
 refine ⟨fun d e=>?_,fun h=>⟨s2 _ _ (s1 _ _ ha),by omega⟩⟩
 have hi:i<kvs.length:=by rw [hl];exact (List.getElem?_eq_some_iff.mp e).1
 obtain ⟨v,ev,rv⟩:=r.get e
 refine ⟨⟨s2 _ _ (s1 _ _ ha),hi⟩,fun x H2 ⟨e2,y⟩=>?_⟩
 subst e2
 rw [List.getElem?_map] at ev
 rw [ev] at y;cases y
 exact ⟨G',.refl s2,rv.mono s1⟩
section
variable {X:Cx} {elt tg:Expr} {ifs:List Expr} {scope:Scope} {pos spos p apos cpos xp:Pos} {N':List Str} {cap:List (Option Nat)} {t:Tg} {fi:AF} {ft:TF} {fe:EF}
theorem Tab.as {a P:Addr} {q:Str} {H:Hp} {o o':HO} (e:H a=some o) (h3:∀ p,o≠.tbl p) (hcd:∀ n,o≠cdO a n) (h:Tab P q H):Tab P q (upd H a o'):=by
 obtain ⟨ps,g1,g2,g3⟩:=h
 refine ⟨ps,by rw [aE (fun z=>by rw [z,e] at g1;exact h3 _ (Option.some.inj g1))];exact g1,g2,fun p cv q1=>?_⟩
 obtain ⟨d,e1,e2⟩:=g3 p cv q1
 exact ⟨d,e1,by rw [aE (fun z=>by subst z;rw [e] at e2;exact hcd _ (Option.some.inj e2))];exact e2⟩
theorem de_compV (k:Nat) {x:Str} (hc:X.calm=true) (B:Blk X scope N' cap) (hf:tgFree cap t=true) (hg:∀ C s₃ H₃ fp,DG (bO X scope N' C s₃ H₃ fp) tg t) (ht:∀ C s₃ H₃ fp,DTs (bO X scope N' C s₃ H₃ fp) ifs ft)
  (he:∀ C s₃ H₃ fp,DE (bO X scope N' C s₃ H₃ fp) elt fe) (hk:X.N[k]?=some x:=by rfl)
  (hv:Vis X.env.scope x:=by first | exact Or.inl rfl | exact Or.inr (Or.inl rfl) | exact Or.inr (Or.inr rfl)) (hd:(x==("__debug__" : Str))=false:=by decide) (hcd:(x==("__classdict__" : Str))=false:=by decide)
  (m:M0 X (.Name x xp) "values" apos cpos:=by exact ⟨rfl,rfl,rfl,rfl⟩)
  (hs:∀ y,foldedSetIterable (.Call (.Attribute (.Name x xp) "values" apos) [] [] cpos) X.env y=pure y:=by intro _;rfl) :
  DE X (.ListComp elt [⟨tg,.Call (.Attribute (.Name x xp) "values" apos) [] [] cpos,ifs,0⟩] scope pos) (compV k t cap ft fe):=⟨fun pins s σ H Q I ⟨ρ,r,H0,G₀,G,e,R,q⟩=>by
 unfold compV at e
 split at e
 ·rename_i D hD
  split at e
  ·rename_i hpz
   rw [Bool.and_eq_true] at hpz
   split at e
   ·rename_i es e5
    split at e
    ·rename_i hpl
     cases (Option.some.inj e)
     obtain ⟨k1,k2⟩:=iK e5
     obtain ⟨v,ev,rv⟩:=R.val hD
     cases rv with
     | @dict a kvs _ hGa e0 rr=>
     have hHa:=R.sub _ _ hGa
     obtain ⟨z,lo,vs,rel,dd⟩:=dk_of I.hok hHa
     obtain ⟨ob,es0,ep,hob,hr⟩:=id dd
     have nfr:∀ ob u,X.H₀ a≠some (.frz ob u):=fun ob' u y=>by
      have:=I.base.frzs a ob' u y
      rw [hHa] at this;cases this
     have If:Inv X pins σ (upd H a (.frz ob (.dK kvs))) s:=Inv.as (o':=.frz ob (.dK kvs)) I hHa (by nofun) nfr (by nofun) (by nofun) ⟨hob,z,lo,vs,rel,dd⟩
     have tb:lA X.K (upd (fun _=>none) a (.frz ob (.dK kvs))) (upd H a (.frz ob (.dK kvs))):=⟨fun y hy c P hc'=>Tab.as hHa (by nofun) (by unfold cdO;nofun) (R.tab.1 y hy c P hc'),fun b ps hb=>by
      by_cases hba:b=a
      ·subst hba;rw [aG] at hb;cases hb
      ·rw [aE hba] at hb;cases hb⟩
     have sb:aX (upd (fun _=>none) a (.frz ob (.dK kvs))) (upd H a (.frz ob (.dK kvs))):=fun b o hb=>by
      by_cases hba:b=a
      ·subst hba;rw [aG] at hb ⊢;exact hb
      ·rw [aE hba] at hb;cases hb
     have Rb:=R.bare sb tb
     have run:=pe_comp (pos:=pos) (g:=gU X.K (D.map (·.2)) (fun d=>d) (bL cap (noE ρ)) (cX t (bL cap (noE ρ)))) (tc:=tU X.K (D.map (·.2)) (cX t (bL cap (noE ρ))) (cT t (bL cap (noE ρ)) ft)) (te:=eU X.K (D.map (·.2)) (cX t (bL cap (noE ρ))) (cT t (bL cap (noE ρ)) ft) (cV t (bL cap (noE ρ)) fe)) hc B (pi_vals (tg:=tg) (iF (pos:=xp) hk hv hd hcd) m)
      (fun C s₃ H₃ fp pins s σ H v u Q I r ⟨x,hx,q⟩=>((hg C s₃ H₃ fp).run _ _ _ (k1 x hx).1).run pins s σ H v u Q I r q)
      (fun C s₃ H₃ fp pins s σ H Q I ⟨x,hx,q⟩=>((ht C s₃ H₃ fp).run _ _ (k1 x hx).2.1).run pins s σ H Q I q)
      (fun C s₃ H₃ fp pins s σ H Q I ⟨x,hx,hcx,H0,G₀,G,R,q⟩=>((he C s₃ H₃ fp).pd ((k1 x hx).2.2 hcx)).run H0 G₀ G pins s σ H Q I R q) hs pins s σ (upd H a (.frz ob (.dK kvs)))
      (fun v H2=>H2 a=some (.frz ob (.dK kvs))∧Q v (upd H2 a (.dK kvs))) If
      ⟨.ref a,ev,a,ob,kvs,rfl,aG,jV (φ:=fun d=>d) Rb (by rw [List.map_id' (D.map (·.2))];exact walk_vals aG (RepAll.plain hpz.1 rr)) (.refl _) (fun x hx=>weak_tg hf (k1 x hx).1) (by rw [List.length_map];exact fM hpz.2) fun Dd ys G2 H2 g2 hDd hn ra=>?_⟩
     ·refine wpAny_mono run (fun u s' ⟨v',H',I',rv',ha',q'⟩=>?_) fun _ _ z=>z
      obtain ⟨_,z',lo',vs',rel',dd'⟩:=(show s'.heap.get? a=some ob∧kvs.length≤sizeLine∧(a==sysModules)=false∧∃ vs,KV kvs vs∧s'.heap.DictOf (aP X.prog X.w) a vs from I'.hok a _ ha')
      exact ⟨v',_,Inv.as (o':=.dK kvs) I' ha' (by nofun) nfr (by nofun) (by nofun) ⟨z',lo',vs',rel',dd'⟩,rv',q'⟩
     ·have ha2:G2 a=some (.frz ob (.dK kvs)):=g2.gg _ _ aG
      have hDa:Dd≠a:=fun y=>by rw [y,aG] at hn;cases hn
      have hH:H Dd=none:=by rw [aE hDa] at hn;exact hn
      have hG:G Dd=none:=R.sub.free hH
      refine ⟨g2.sub _ _ ha2,?_⟩
      have gr:Grow G H (upd G Dd (.lst ys)) (upd H2 a (.dK kvs)):=by
       refine ⟨bJ hG,⟨fun b o hb n=>?_,fun b ps hb=>?_,fun P y tt=>?_⟩,fun b o hb=>?_,fun b e n=>by rw [aE (fun z=>n (by rw [z];exact hH))];exact e,fun n=>n.upd (by nofun)⟩
       ·by_cases hba:b=a
        ·subst hba;rw [hHa] at hb;cases hb;exact aG
        ·rw [aE hba];exact g2.hh.keep b o (by rw [aE hba];exact hb) n
       ·have hba:b≠a:=fun y=>by rw [y,hHa] at hb;cases hb
        rw [aE hba];exact g2.hh.tbl b ps (by rw [aE hba];exact hb)
       ·exact Tab.as (g2.sub _ _ ha2) (by nofun) (by unfold cdO;nofun) (g2.hh.tab P y (Tab.as hHa (by nofun) (by unfold cdO;nofun) tt))
       ·by_cases hb1:b=Dd
        ·subst hb1;rw [aG] at hb;cases hb
         rw [aE hDa];exact g2.sub _ _ hDd
        ·rw [aE hb1] at hb
         by_cases hba:b=a
         ·subst hba;rw [hGa] at hb;cases hb;exact aG
         ·rw [aE hba]
          exact g2.hh.keep b o (by rw [aE hba];exact R.sub _ _ hb) fun ps y=>R.tab.2 b ps (by rw [hb,y])
      rw [k2] at hpl
      have fin:Rep X.K (upd G Dd (.lst ys)) (.ref Dd) (.list es):=.list (.of aG) (by rw [k2];exact RepAll.plain hpl ra)
      exact q (.ref Dd) _ _ gr fin
    ·cases e
   ·cases e
  ·cases e
 ·cases e⟩
end
end L2.L3
namespace L2.L3
open PySem PySem.Spec PyProof.Rows
section
variable {X:Cx} {e:Expr} {fa:EF} {pos p p2 p3:Pos}
theorem de_emptyD:DE X (.Dict [] [] pos) (cst (.dict [])):=⟨fun pins s σ H Q I ⟨ρ,r,H0,G₀,G,e,R,q⟩=>by
 cases (Option.some.inj e)
 exact pe_dnewK pins s σ H Q I fun l hl=>q _ _ _ (.put R.sub hl) (.dict (kvs:=[]) aG rfl .nil)⟩
theorem call_copyD:eB X (.type "dict") (fun xs H Q=>∃ a kvs,xs=[V.ref a]∧H a=some (.dK kvs)∧∀ l,H l=none→Q (.ref l) (upd H l (.dK kvs))):=by
 intro pins s σ H xs us Q I r h
 obtain ⟨a,kvs,rfl,ha,q⟩:=h
 obtain ⟨u,rfl,rx⟩:=vals1 r
 cases rx
 obtain ⟨z,lo,vs,rel,dd⟩:=dk_of I.hok ha
 refine kt_call_dict lo dd (by rw [←rel.length];exact z) fun h' dd' hs=>?_
 refine ⟨.ref s.heap.objs.size,_,I.laid (a:=s.heap.objs.size) (o:=.dK kvs) (t':=s.toks) (fun b o ho=>?_) (Nat.le_refl _) (dk_new z (beq_eq_false_iff_ne.mpr (Ne.symm (Nat.ne_of_lt I.big))) rel dd'),rfl,q _ (I.hok.fresh (Nat.le_refl _))⟩
 exact (hs.2 b (Nat.ne_of_lt (Heap.lt_size ho))).trans (Heap.get?_push_of_some _ ho)
theorem keysK_is:∀ {D:List (PyData×PyData)} {kvs:List (Key×PyData)},keysK D=some kvs→D=kvs.map fun p=>(bF p.1,p.2):=by
 intro D
 induction D with
 | nil=>intro kvs h;cases (Option.some.inj h);rfl
 | cons p r ih=>
  intro kvs h
  unfold keysK at h
  split at h
  ·rename_i k l hk hl
   cases (Option.some.inj h)
   rw [List.map_cons,←ih hl,←dKey_is hk]
  ·cases h
theorem keyD_inj {k l:Key} (h:bF k=bF l):k=l:=by
 have:=congrArg dKey h
 rw [fT,fT] at this
 exact Option.some.inj this
theorem map_keyD:∀ {a b:List Key},a.map bF=b.map bF→a=b:=by
 intro a
 induction a with
 | nil=>intro b h;cases b with | nil=>rfl | cons _ _=>cases h
 | cons x a ih=>
  intro b h
  cases b with
  | nil=>cases h
  | cons y b=>
   rw [List.map_cons,List.map_cons,List.cons.injEq] at h
   rw [keyD_inj h.1,ih h.2]
def dcK (i:Nat) (ρ:List Ent):List PyData→Option So
 | [d]=>(match d with
  | .dict D=>(match keysK D with
   | some kvs=>if decide (kvs.length≤1000)&&noD i ρ then some (.nx (ρ.set i (.dct kvs))) else none
   | none=>none)
  | _=>none)
 | _=>none
theorem ds_newDC (i:Nat) {x:Str} (hN:X.N.Nodup) (hm:X.mg "dict" = none) (h:DE X e fa) (hg:Gl X "dict":=by rfl) (he:starEach [e] X.env=(false,eval e X.env)::starEach [] X.env:=by rfl) (hpl:(backTo p3 (starEach [] X.env)).any (·.1)=false:=by rfl)
  (hi:X.N[i]?=some x:=by rfl) (hx:Loc X.env.scope x:=by first | exact Or.inl rfl | exact Or.inr rfl)
  (hs:swapsWith (.Call (.Name "dict" p2) [e] [] p3) (some (.Name x p)) pos.line X.env=pure false:=by rfl) (hf:X.fn x=true∨X.env.scope.names.lookup x=some .local:=by first | exact .inl rfl | exact .inr rfl) :
  DS X (.Assign [.Name x p] (.Call (.Name "dict" p2) [e] [] p3) pos) (newDC i fa):=⟨fun pins s σ H D I ⟨ρ,o,H0,G₀,G,ef,R,q⟩=>ps_set hN hi hx (pe_callTy call_copyD hg hm boot_dict (aB h aH he).run (by decide) (by decide) he hpl) hs hf pins s σ H D I (by
 unfold newDC at ef
 have ef':bns (aC fa aJ ρ) ρ (dcK i ρ)=some o:=by
  rcases mK ef with ⟨d,e1,e2⟩ | ⟨c,e1,e2⟩
  ·have:aC fa aJ ρ=some (.ok [d]):=by unfold aC;rw [e1];rfl
   rw [this];exact e2
  ·have:aC fa aJ ρ=some (.ex c):=by unfold aC;rw [e1];rfl
   rw [this,e2];rfl
 refine sA R ef' q fun ds vs G1 H1 g1 R1 rv e1 q1=>?_
 unfold dcK at e1
 split at e1
 ·cases rv with | cons rv rr=>
  cases rr
  split at e1
  ·rename_i d D
   cases rv with
   | @dict a vs _ hGa e0 rr=>
   split at e1
   ·rename_i kvs hk
    split at e1
    ·rename_i hz
     cases (Option.some.inj e1)
     rw [Bool.and_eq_true,decide_eq_true_eq] at hz
     refine ⟨a,vs,rfl,g1.sub _ _ hGa,fun l hl=>q1 G1 _ _ (.refl _) (R1.freshD hl (noD_is hz.2) ⟨?_,?_⟩)⟩
     ·have e2:=keysK_is hk
      rw [e2,List.map_map] at e0
      refine (map_keyD (a:=kvs.map (·.1)) (b:=vs.map (·.1)) ?_).symm
      rw [List.map_map,List.map_map];exact e0
     ·rw [keysK_is hk,List.map_map] at rr;exact rr
    ·cases e1
   ·cases e1
  ·cases e1
 ·cases e1)⟩
open Classical in
noncomputable def mask (G H G2:Hp):Hp:=fun b=>if G b=none∧((∃ xs,H b=some (.lst xs))∨∃ kvs,H b=some (.dK kvs)) then none else G2 b
theorem mask_no {G H G2:Hp} {b:Addr} (h1:G b=none) (h2:(∃ xs,H b=some (.lst xs))∨∃ kvs,H b=some (.dK kvs)):mask G H G2 b=none:=by unfold mask;rw [if_pos ⟨h1,h2⟩]
theorem mask_is {G H G2:Hp} {b:Addr} (h:G b≠none∨((∀ xs,H b≠some (.lst xs))∧∀ kvs,H b≠some (.dK kvs))):mask G H G2 b=G2 b:=by
 unfold mask
 rw [if_neg]
 rintro ⟨h1,h2⟩
 rcases h with h | ⟨h3,h4⟩
 ·exact h h1
 ·rcases h2 with ⟨xs,h2⟩ | ⟨xs,h2⟩
  ·exact h3 _ h2
  ·exact h4 _ h2
theorem mask_sub {G H G2:Hp} {b:Addr} {o:HO} (h:mask G H G2 b=some o):G2 b=some o:=by
 unfold mask at h
 split at h
 ·cases h
 ·exact h
theorem same_mask {G H G2:Hp} (s:aX G G2):aX G (mask G H G2):=fun b o h=>by
 rw [mask_is (.inl (by rw [h];simp))];exact s b o h
theorem RepS.masked {K:PySem.W.Frag} {H0 G₀ G H G2 H2:Hp} {σ:St} {ρ ρ2:List Ent} (R:RepS K H0 G₀ G H σ ρ) (R2:RepS K H0 G₀ G2 H2 σ ρ2) (s:aX G G2) (hh:Sm H H2):RepS K H0 G₀ (mask G H G2) H2 σ ρ:=by
 have sg:=same_mask (H:=H) s
 refine ⟨⟨R.grow.gg.trans sg,R2.grow.hh,fun b o h=>R2.sub _ _ (mask_sub h),fun b h1 h2=>?_,fun n b ps h=>R2.grow.nt n b ps (mask_sub h)⟩,R.len,fun i o e h1 h2=>?_,?_,⟨R2.tab.1,fun b ps h=>R2.tab.2 b ps (mask_sub h)⟩⟩
 ·cases q:mask G H G2 b with
  | none=>rfl
  | some o=>have:=R2.grow.new b h1 h2;rw [mask_sub q] at this;cases this
 ·have E:=R.ent i o e h1 h2
  cases e with
  | no=>trivial
  | val d=>obtain ⟨v,z,rv⟩:=E;exact ⟨v,z,rv.mono sg⟩
  | lst es=>
   obtain ⟨a,xs,z,g1,g2,g3,rv⟩:=E
   exact ⟨a,xs,z,hh.lst g1,mask_no g2 (.inl ⟨_,g1⟩),g3,rv.mono sg⟩
  | exc c=>obtain ⟨a,C,z,g1,g2⟩:=E;exact ⟨a,C,z,g1,hh.keep a _ g2 (by unfold xcO;nofun)⟩
  | nst dss=>
   obtain ⟨a,bs,z,g1,g2,g3,g4,g5,r⟩:=E
   exact ⟨a,bs,z,hh.lst g1,mask_no g2 (.inl ⟨_,g1⟩),g3,g4,g5,Paired.mapP r fun b ds ⟨xs,x1,x2,x3,x4⟩=>⟨xs,hh.lst x1,mask_no x2 (.inl ⟨_,x1⟩),x3,x4.mono sg⟩⟩
  | dct kvs=>
   obtain ⟨a,vs,z,g1,g2,g3,r⟩:=E
   exact ⟨a,vs,z,hh.keep a _ g1 (by nofun),mask_no g2 (.inr ⟨_,g1⟩),g3,r.mono sg⟩
 ·refine R.inj.other fun j a' dss h1 h2 vs e=>?_
  obtain ⟨a,bs,e1,e2,_⟩:=R.ent j _ _ h1 h2
  cases e1
  rw [hh.lst e2] at e
  cases e
  exact e2
theorem rep_mask {K:PySem.W.Frag} {G H G2 H2:Hp} (s2:aX G2 H2) (hh:Sm H H2) {v:V} {d:PyData} (h:flatT d=true) (r:Rep K G2 v d):Rep K (mask G H G2) v d:=by
 cases r with
 | none=>exact .none
 | bool b=>exact .bool b
 | int i=>exact .int i
 | str x=>exact .str x
 | list _ _=>cases h
 | dict _ _ _=>cases h
 | @tuple t xs ds hq rr=>
  have ne:∀ o,G2 t=some o→(∀ xs,o≠.lst xs)→(∀ kvs,o≠.dK kvs)→mask G H G2 t=some o:=fun o e n1 n2=>by
   rw [mask_is (.inr ⟨fun ys y=>?_,fun ys y=>?_⟩)]
   ·exact e
   ·have:=hh.keep t _ y (by nofun);rw [s2 _ _ e] at this;exact n1 _ (Option.some.inj this)
   ·have:=hh.keep t _ y (by nofun);rw [s2 _ _ e] at this;exact n2 _ (Option.some.inj this)
  refine .tuple ?_ (RepAll.plain h rr)
  rcases hq with (hq | ⟨o,hq⟩) | hq
  ·exact .inl (.inl (ne _ hq (by nofun) (by nofun)))
  ·exact .inl (.inr ⟨o,ne _ hq (by nofun) (by nofun)⟩)
  ·exact .inr hq
theorem reps_mask {K:PySem.W.Frag} {G H G2 H2:Hp} (s2:aX G2 H2) (hh:Sm H H2):∀ {vs:List V} {ds:List PyData},ds.all flatT=true→RepAll K G2 vs ds→RepAll K (mask G H G2) vs ds
 | _,_,_,.nil=>.nil
 | _,_,h,.cons r t=>by
  rw [List.all_cons,Bool.and_eq_true] at h
  exact .cons (rep_mask s2 hh h.1 r) (reps_mask s2 hh h.2 t)
end
section
variable {X:Cx} {elt iter tg:Expr} {ifs:List Expr} {scope:Scope} {pos spos p:Pos} {N':List Str} {cap:List (Option Nat)} {t:Tg} {fi:AF} {ft:TF} {fe:EF}
theorem ds_setCU (i:Nat) {x:Str} (hN:X.N.Nodup) (hc:X.calm=true) (B:Blk X scope N' cap) (hi:DI X tg iter fi) (hf:tgFree cap t=true) (hg:∀ C s₃ H₃ fp,DG (bO X scope N' C s₃ H₃ fp) tg t) (ht:∀ C s₃ H₃ fp,DTs (bO X scope N' C s₃ H₃ fp) ifs ft)
  (he:∀ C s₃ H₃ fp,DE (bO X scope N' C s₃ H₃ fp) elt fe)
  (hxi:X.N[i]?=some x:=by rfl) (hx:X.env.scope.names.lookup x=some .local:=by rfl)
  (hsw:swapsWith (.ListComp elt [⟨tg,iter,ifs,0⟩] scope pos) (some (.Name x p)) spos.line X.env=pure true:=by rfl)
  (hs:∀ x,foldedSetIterable iter X.env x=pure x:=by intro _;rfl):DS X (.Assign [.Name x p] (.ListComp elt [⟨tg,iter,ifs,0⟩] scope pos) spos) (setCU i (cK t cap fi ft fe)):=⟨fun pins s σ H D I ⟨ρ,o,H0,G₀,G,e,R,q⟩=>by
 unfold setCU at e
 split at e
 ·rename_i ds0 e1
  split at e
  ·rename_i hpl
   cases (Option.some.inj e)
   obtain ⟨G',s',R'⟩:=R.frzAll
   rcases eF e1 with ⟨ds,e3,e4⟩ | ⟨c,_,e4⟩
   ·split at e4
    ·rename_i hz
     obtain ⟨d',ed,z⟩:=bI e4
     cases z
     obtain ⟨es,e5,z2⟩:=Option.map_eq_some_iff.mp ed
     cases z2
     obtain ⟨k1,rfl⟩:=iK e5
     refine ps_setC (g:=gU X.K ds (fun d=>d) (bL cap (frzAll ρ)) (cX t (bL cap (frzAll ρ)))) (tc:=tU X.K ds (cX t (bL cap (frzAll ρ))) (cT t (bL cap (frzAll ρ)) ft)) (te:=eU X.K ds (cX t (bL cap (frzAll ρ))) (cT t (bL cap (frzAll ρ)) ft) (cV t (bL cap (frzAll ρ)) fe)) hN hxi hx hc B (hi.pid e3).run
      (fun C s₃ H₃ fp pins s σ H v u Q I r ⟨x,hx,q⟩=>((hg C s₃ H₃ fp).run _ _ _ (k1 x hx).1).run pins s σ H v u Q I r q)
      (fun C s₃ H₃ fp pins s σ H Q I ⟨x,hx,q⟩=>((ht C s₃ H₃ fp).run _ _ (k1 x hx).2.1).run pins s σ H Q I q)
      (fun C s₃ H₃ fp pins s σ H Q I ⟨x,hx,hcx,H0,G₀,G,R,q⟩=>((he C s₃ H₃ fp).pd ((k1 x hx).2.2 hcx)).run H0 G₀ G pins s σ H Q I R q) hsw hs pins s σ H D I ?_
     refine ⟨H0,G₀,G',R',fun J G1 H1 g wk=>jV (φ:=fun d=>d) (R'.more g) (by simpa using wk) (.refl _) (fun x hx=>weak_tg hf (k1 x hx).1) (fM hz) fun Dd ys G2 H2 g2 hD hn ra=>?_⟩
     have gt:=g.trans g2
     have hH:H Dd=none:=by
      cases hq:H Dd with
      | none=>rfl
      | some o=>obtain ⟨o',e'⟩:=g.hh.ne hq;rw [e'] at hn;cases hn
     have Rm:=R.masked (R'.more gt) (s'.trans gt.gg) gt.hh
     have hDm:mask G H G2 Dd=some (.lst ys):=by
      have z:(∀ xs,H Dd≠some (.lst xs))∧∀ kvs,H Dd≠some (.dK kvs):=⟨fun xs y=>(by rw [hH] at y;cases y),fun xs y=>(by rw [hH] at y;cases y)⟩
      rw [mask_is (.inr z)];exact hD
     exact q _ H2 _ (same_mask (s'.trans gt.gg)) (Rm.set (.list (.of hDm) (reps_mask gt.sub gt.hh hpl ra)))
    ·cases e4
   ·cases e4
  ·cases e
 ·cases e⟩
end
end L2.L3
namespace L2.L3
open PySem PySem.Spec PyProof.Rows
def fA:List Str:=["NoMeeting"]
section
variable {X:Cx} {pos p p2:Pos} {x:Str} {body:List Stmt} {f:SF}
theorem ds_tryL {L:List Str} (i j:Nat) {x n:Str} {np xp ep hpos apos pos:Pos} (F:ExL L X.K) (hN:X.N.Nodup) (hst:X.stack=X.env::X.outer) (hf:X.env.frame=some X.env.locals)
  (hb:∀ E pn,DB (Cx.tryc X E pn) body f)
  (hi:X.N[i]?=some x:=by rfl) (hj:X.N[j]?=some n:=by rfl) (hg:Gl X "SheetError":=by rfl) (hk:X.env.scope.names.lookup n=some .local:=by rfl) (hx:X.env.scope.names.lookup x=some .local:=by rfl)
  (hnd:(n==("__debug__" : Str))=false:=by decide) (hncd:(n==("__classdict__" : Str))=false:=by decide)
  (hs:swapsWith (.Name n ep) (some (.Name x xp)) apos.line X.env=pure false:=by rfl) :
  DS X (.Try body [.ExceptHandler (some (.Name "SheetError" np)) (some n) [.Assign [.Name x xp] (.Name n ep) apos] hpos] [] [] pos) (tryS i j L f):=by
 obtain ⟨S,h1,h2,h3⟩:=F.she
 exact ds_try i j hN hst hf h1 h2 h3 hb hi hj hg hk hx (by decide) hnd hncd hs
def isx1 (i:Nat):EF:=fun ρ=>match ρ[i]? with
 | some (.exc c)=>if c == "NoMeeting" then some (.ok (.bool true)) else none
 | _=>none
theorem de_isx1 (i:Nat) (F:ExL fA X.K) (hm:X.mg "isinstance" = none) (hN:X.N[i]?=some x:=by rfl) (hv:Vis X.env.scope x:=by first | exact Or.inl rfl | exact Or.inr (Or.inl rfl) | exact Or.inr (Or.inr rfl)) (hd:(x==("__debug__" : Str))=false:=by decide)
  (hcd:(x==("__classdict__" : Str))=false:=by decide)
  (he:starEach [.Name x p,.Name "NoMeeting" p2] X.env=(false,eval (.Name x p) X.env)::starEach [.Name "NoMeeting" p2] X.env:=by rfl) (he2:starEach [.Name "NoMeeting" p2] X.env=(false,eval (.Name "NoMeeting" p2) X.env)::starEach [] X.env:=by rfl)
  (hpl:(backTo pos (starEach [.Name "NoMeeting" p2] X.env)).any (·.1)=false:=by rfl) (hg:Gl X "isinstance":=by rfl) (hgd:Gl X "NoMeeting":=by rfl) {pi:Pos}:DE X (.Call (.Name "isinstance" pi) [.Name x p,.Name "NoMeeting" p2] [] pos) (isx1 i):=⟨fun pins s σ H Q I ⟨ρ,r,H0,G₀,G,e,R,q⟩=>by
 obtain ⟨S,_,_,h3⟩:=F.she
 obtain ⟨D,hD,_,_⟩:=h3 "NoMeeting" (by decide)
 have hmd:X.mg "NoMeeting" = some (.ref D):=PySem.W.mg_of I.mod.kin I.mod.glob (excC_is hD)
 have hc:eB X (.builtin "isinstance") (fun xs H Q=>∃ a,xs=[.ref a,.ref D]∧H a=some (xcO a D)∧Q (.bl true) H):=by
  intro pins s σ H xs us Q I r ⟨a,e1,hH,q⟩
  subst e1
  obtain ⟨u,w',rfl,r1,r2⟩:=vals2 r
  cases r1;cases r2
  obtain ⟨⟨ox,xo⟩,_⟩:=I.hok a _ hH
  exact xc_is I.kIn xo (by unfold PySem.W.isIn;simp) ⟨.bl true,H,I,rfl,q⟩
 refine pe_callB hc hg hm boot_isinstance (eJ (iF hN hv hd hcd) (eJ (pe_glob (v:=.ref D) hgd hmd rfl (by decide)) iG he2) he) (by decide) (by decide) he hpl pins s σ H Q I ?_
 unfold isx1 at e
 split at e
 ·rename_i c hi
  split at e
  ·rename_i hcn
   cases (Option.some.inj e)
   obtain ⟨o,eo,a,C,rfl,hC,hH⟩:=R.at hi
   rw [beq_iff_eq.mp hcn,hD] at hC
   cases hC
   exact ⟨_,eo,a,rfl,hH,q _ G H (.refl R.sub) (.bool _)⟩
  ·cases e
 ·cases e⟩
end
end L2.L3
namespace L2.L3
open PySem PySem.Spec PyProof.Rows
abbrev k1_l_load:EF:=cK (.nm 0) [none,some 1] (dH (var 0)) (chnT leD ltD (op2 ixD (var 0) (cst (.int 1))) (var 1) (op2 ixD (var 0) (cst (.int 2)))) (var 0)
def f_l_load:SF:=(retS (dP lenD (aC k1_l_load aJ)))
def F_l_load:List PyData→Mm PyData:=dJ 2 2 f_l_load
abbrev k1_l_most:EF:=cK (.nm 0) [none,some 0] (dH (var 0)) ttT (aS F_l_load (aC (var 1) (aC (op2 ixD (var 0) (cst (.int 1))) aJ)))
def f_l_most:SF:=(retS (dP maxD (aC (op2 eG (lstE (aC (cst (.int 0)) aJ)) k1_l_most) aJ)))
def F_l_most:List PyData→Mm PyData:=dJ 1 1 f_l_most
abbrev jG:EF:=cK (.nm 0) [none,some 1,some 2] (dH (fO jJ (aC (var 0) (aC (var 2) aJ)))) ttT (cmpE eqD (op2 nW (var 1) (var 0)) (op2 nW (var 1) (var 2)))
def fR:SF:=(retS (dP anyB (aC jG aJ)))
def dZ:List PyData→Mm PyData:=runX 3 3 fR
abbrev t1_is_laidX:TF:=dfT setNeD (var 1) (aS eQ (aC (var 0) aJ))
abbrev mD:EF:=compV 1 (.nm 0) [none] ttT (aS fX (aC (var 0) aJ))
abbrev t2_is_laidX:TF:=notT (truT (dP allB (aC mD aJ)))
abbrev k2_is_laidX:EF:=cK (.nm 0) [none,some 1,some 0] (dH (aS eQ (aC (var 0) aJ))) ttT (fO dZ (aC (var 2) (aC (var 1) (aC (var 0) aJ))))
def iR:SF:=(aY (ifS t1_is_laidX (retS (cst (.bool false))) mZ) (aY (ifS t2_is_laidX (retS (cst (.bool false))) mZ) (retS (notE (dP anyB (aC k2_is_laidX aJ))))))
def bZ:List PyData→Mm PyData:=runX 2 2 iR
def f_l_over:SF:=(retS (cmpE ltD (dP maxD (aC (op2 ixD (var 0) (cst (.int 1))) (aC (op2 ixD (var 1) (cst (.int 1))) aJ))) (dP minD (aC (op2 ixD (var 0) (cst (.int 2))) (aC (op2 ixD (var 1) (cst (.int 2))) aJ)))))
def kG:List PyData→Mm PyData:=dJ 2 2 f_l_over
abbrev mC:EF:=cK (.nm 0) [none] (dH (var 0)) ttT (tupE (aC (op2 ixD (var 0) (cst (.int 1))) (aC (op2 subD (cst (.int 0)) (op2 ixD (var 0) (cst (.int 2)))) (aC (op2 ixD (var 0) (cst (.int 0))) aJ))))
abbrev mB:EF:=cK (.tp [0,1]) [none,none,some 5] (dH (var 1)) (truT (aS kG (aC (var 2) (aC (var 0) aJ)))) (var 1)
abbrev lZ:EF:=cK (.nm 0) [none,some 6] (rng1 (op2 eG (dP lenD (aC (var 1) aJ)) (cst (.int 1)))) (fL ninX (var 0) (var 1)) (var 0)
abbrev mL:SF:=aY (fP 5 (tupE (aC (var 4) (aC (var 2) (aC (op2 subD (cst (.int 0)) (var 3)) aJ))))) (aY (fP 6 (thC mB)) (appS 1 (tupE (aC (var 5) (aC (thE (op2 ixD lZ (cst (.int 0)))) aJ)))))
abbrev lY:EF:=cK (.tp [0,1]) [none,none] (dH (var 1)) ttT (tupE (aC (op2 ixD (var 0) (cst (.int 0))) (aC (var 1) aJ)))
def nZ:SF:=(aY (newS 1 aJ) (aY (forS (.tp [2,3,4]) (dH (dP srtX (aC mC aJ))) mL) (frzS 1 (retS (dP dictD (aC lY aJ))))))
def lC:List PyData→Mm PyData:=dJ 7 1 nZ
abbrev lH:SF:=exprS (fO cW (aC (var 0) (aC (var 1) aJ)))
def iQ:SF:=(aY (fP 2 (cst .none)) (aY (tryS 2 3 fA lH) (retS (isx1 2))))
def dQ:List PyData→Mm PyData:=dJ 4 2 iQ
abbrev t1_law:TF:=orT (fL neKD (var 2) (aS lC (aC (var 1) aJ))) (isT true (.bool true) (fO bZ (aC (var 1) (aC (var 2) aJ))))
abbrev k1_law:EF:=cK (.nm 0) [none,some 3] (dH (var 1)) (fL inX (op2 ixD (var 0) (cst (.int 0))) (var 1)) (var 0)
abbrev k2_law:EF:=cK (.nm 0) [none,some 2] (dH (var 3)) ttT (op2 nW (var 1) (var 0))
abbrev t2_law:TF:=fL neD (op1 ssetD k2_law) (lrng1 (var 5))
abbrev k3_law:EF:=cK (.nm 0) [none,some 5,some 1] (dH (var 3)) (fL neD (fO cW (aC (var 2) (aC (var 0) aJ))) (var 1)) (var 0)
abbrev t3_law:TF:=fL neD k3_law (lstE aJ)
abbrev b1_law:SF:=aY (fP 4 (dP tupD (aC k1_law aJ))) (aY (fP 5 (aS F_l_most (aC (var 4) aJ))) (aY (ifS t2_law (retS (cst (.bool false))) mZ) (ifS t3_law (retS (cst (.bool false))) mZ)))
abbrev k4_law:EF:=cK (.nm 0) [none,some 1] (dH (tupE (aC (cst (.str "none")) (aC (cst (.str "zzzz")) aJ)))) ttT (aS dQ (aC (var 1) (aC (var 0) aJ)))
abbrev t4_law:TF:=fL neD k4_law (repE (aC (cst (.bool true)) aJ) (cst (.int 2)))
abbrev t5_law:TF:=fL eqD (var 1) (tupE aJ)
abbrev k5_law:EF:=cK (.nm 0) [none,some 6,some 7] (dH (var 1)) (andT (fL neD (var 0) (var 1)) (andT (truT (aS kG (aC (var 0) (aC (var 1) aJ)))) (fL eqD (op2 nW (var 2) (op2 ixD (var 0) (cst (.int 0)))) (op2 nW (var 2) (op2 ixD (var 1) (cst (.int 0))))))) (var 0)
abbrev t6_law:TF:=thT (fL neD (fO bZ (aC (var 1) (aC (var 7) aJ))) (cmpE eqD (var 8) (lstE aJ)))
def f_law:SF:=(aY (fP 1 (aS mX (aC (var 0) (aC (cst (.int 0)) (aC (cst (.int 10)) aJ))))) (aY (fP 2 (aS mY (aC (var 1) aJ))) (aY (ifS t1_law (retS (cst (.bool false))) mZ) (aY (forS (.nm 3) (dH (aS kH (aC (var 1) aJ))) b1_law) (aY (ifS t4_law (retS (cst (.bool false))) mZ) (aY (ifS t5_law (retS (cmpE eqKD (var 2) (cst (.dict [])))) mZ) (aY (fP 6 (op2 ixD (var 1) (aS bM (aC (var 0) (aC (cst (.int 100)) (aC (dP lenD (aC (var 1) aJ)) aJ)))))) (aY (newDC 7 (var 2)) (aY (putDS 7 (op2 ixD (var 6) (cst (.int 0))) (aS bM (aC (var 0) (aC (cst (.int 101)) (aC (cst (.int 4)) aJ))))) (aY (setCU 8 k5_law) (aY (ifS t6_law (retS (cst (.bool false))) mZ) (aY (popDS 7 (op2 ixD (var 6) (cst (.int 0)))) (frzS 7 (retS (isE false (.bool false) (fO bZ (aC (var 1) (aC (var 7) aJ))))))))))))))))))
def F_law:List PyData→Mm PyData:=dJ 9 1 f_law
end L2.L3
namespace L2.L3
open PySem PySem.Spec PyProof.Rows
theorem e_l_over (x y:Mt):kG [dM x,dM y]=some (.ok (.bool (decide (ov x y)))):=by
 refine bU rfl ?_
 show f_l_over [.val (dM x),.val (dM y)]=_
 simp [f_l_over]
theorem e_l_load (s:List Mt) (d:Int) (hz:s.length≤1000):F_l_load [dS s,.int d]=some (.ok (.int (aU s d))):=by
 have fl:(s.filter (bH d)).length≤s.length:=List.length_filter_le _ _
 have k1:k1_l_load [.val (dS s),.val (.int d)]=some (.ok (.list ((s.filter (bH d)).map dM))):=
  cN dM (fun m=>[.val (dM m),.val (.int d)]) (bH d) dM s rfl (by omega) (fun m _=>rfl) (fun m _=>by simp [ite_and,bH]) (fun m _ _=>rfl)
 refine bU rfl ?_
 show f_l_load [.val (dS s),.val (.int d)]=_
 unfold f_l_load
 rw [dO,fU (ds:=[.list ((s.filter (bH d)).map dM)]) (by rw [cH,k1];rfl) (d:=.int (aU s d)) (by rw [len_l];simp [aU,fZ])];rfl
theorem maxD_cons (n:Int) (ns:List Int):maxD [.list ((n::ns).map .int)]=some (.int (maxI (n::ns))):=by
 show (match cR intD ((n::ns).map .int) with | some (n::ns)=>some (PyData.int (maxI (n::ns))) | _=>none)=_
 rw [kA]
theorem e_l_most (s:List Mt) (hz:s.length≤1000):F_l_most [dS s]=some (.ok (.int (eO s))):=by
 have k1:k1_l_most [.val (dS s)]=some (.ok (.list ((s.map fun m=>aU s m.2.1).map .int))):=by
  rw [List.map_map]
  exact cO dM (fun m=>[.val (dM m),.val (dS s)]) (fun m=>.int (aU s m.2.1)) s rfl (by omega) (fun m _=>rfl) (fun m _=>aZ (ds:=[dS s,.int m.2.1]) rfl (e_l_load s m.2.1 hz))
 have mx:maxI (0::s.map fun m=>aU s m.2.1)=eO s:=by
  refine (maxI_eq ?_ ?_).symm
  ·rcases most_at s with z | ⟨m,hm,z⟩
   ·rw [z];simp
   ·rw [z];exact List.mem_cons_of_mem _ (List.mem_map.mpr ⟨m,hm,rfl⟩)
  ·intro a ha
   rcases List.mem_cons.mp ha with rfl | ha
   ·exact Int.le_trans (load_nonneg s 0) (most_ge s 0)
   ·obtain ⟨m,_,rfl⟩:=List.mem_map.mp ha
    exact most_ge s _
 refine bU rfl ?_
 show f_l_most [.val (dS s)]=_
 unfold f_l_most
 rw [dO,fU (ds:=[.list ((0::s.map fun m=>aU s m.2.1).map .int)]) (kE (kR (x:=.list [.int 0]) (y:=.list ((s.map fun m=>aU s m.2.1).map .int)) rfl k1 (by rw [add_ll,if_pos (by simp;omega)];rfl)) rfl) (d:=.int (eO s)) (by rw [maxD_cons,mx])];rfl
theorem laid_at:∀ (A:List Ly) (q:Ly) (B R:List Ly),iU R (A++q::B)→¬(q.2:Int)∈taken (R++A) q.1∧∀ j<q.2,(j:Int)∈taken (R++A) q.1
 | [],q,B,R,h=>by rw [List.append_nil];exact h.1
 | a::A,q,B,R,h=>by
  have:=laid_at A q B (R++[a]) h.2
  simpa using this
theorem free_head {T:List Int} {c n:Nat} (hn:c<n) (h1:¬(c:Int)∈T) (h2:∀ j<c,(j:Int)∈T):∃ r,(List.range n).filter (fun (i:Nat)=>!decide ((i:Int)∈T))=c::r:=by
 have e:((List.range n).filter fun (i:Nat)=>!decide ((i:Int)∈T)).head?=some c:=by
  rw [List.head?_filter,List.find?_range_eq_some]
  exact ⟨by simp [h1],List.mem_range.mpr hn,fun j hj=>by simp [h2 j hj]⟩
 cases h:(List.range n).filter fun (i:Nat)=>!decide ((i:Int)∈T) with
 | nil=>rw [h] at e;cases e
 | cons a r=>rw [h] at e;cases e;exact ⟨r,rfl⟩
theorem low_taken {R:List Ly} {m:Mt} {c:Nat} (h:∀ j<c,(j:Int)∈taken R m):c≤R.length:=by
 have:=jX (l:=(List.range c).map fun (j:Nat)=>(j:Int)) (m:=taken R m) (by
  rw [List.Nodup,List.pairwise_map]
  exact (List.nodup_range (n:=c)).imp fun {a b} n z=>n (by omega)) (fun x hx=>by
  obtain ⟨j,hj,rfl⟩:=List.mem_map.mp hx
  exact h j (List.mem_range.mp hj))
 rw [List.length_map,List.length_range] at this
 unfold taken at this
 rw [List.length_map] at this
 exact Nat.le_trans this (List.length_filter_le _ _)
theorem thE_at {f:EF} {ρ:List Ent} {d:PyData} (h:f (frzAll ρ)=some (.ok d)) (hp:gN d=true):thE f ρ=some (.ok d):=by unfold thE;rw [h];simp [hp]
theorem thC_at {f:EF} {ρ:List Ent} {ds:List PyData} (h:f (frzAll ρ)=some (.ok (.list ds))) (hp:ds.all gN=true):thC f ρ=some (.ok (.list ds)):=by unfold thC;rw [h];simp [hp]
theorem plain_ints (l:List Int):(l.map PyData.int).all gN=true:=List.all_eq_true.mpr fun d hd=>by obtain ⟨i,_,rfl⟩:=List.mem_map.mp hd;rfl
theorem turnL {S:PyData} {R:List Ly} {q:Ly} {x5 x6:Ent} (hr:R.length≤10) (h1:¬(q.2:Int)∈taken R q.1) (h2:∀ j<q.2,(j:Int)∈taken R q.1) :
  mL [.val S,.lst (R.map dY),.val (.int q.1.2.1),.val (.int (-q.1.2.2)),.val (.str q.1.1),x5,x6]
   = some (.nx [.val S,.lst ((R++[q]).map dY),.val (.int q.1.2.1),.val (.int (-q.1.2.2)),.val (.str q.1.1),.val (dM q.1),.val (.list ((taken R q.1).map .int))]):=by
 show aY (fP 5 _) (aY (fP 6 (thC mB)) _) _=_
 rw [aM (ρ':=[.val S,.lst (R.map dY),.val (.int q.1.2.1),.val (.int (-q.1.2.2)),.val (.str q.1.1),.val (dM q.1),x6]) (by
  rw [lM]
  show bns (some (Re.ok (PyData.tuple [.str q.1.1,.int q.1.2.1,.int (0 - -q.1.2.2)]))) _ _=_
  rw [show (0:Int) - -q.1.2.2=q.1.2.2 by omega];rfl)]
 have k2:mB (frzAll [.val S,.lst (R.map dY),.val (.int q.1.2.1),.val (.int (-q.1.2.2)),.val (.str q.1.1),.val (dM q.1),x6])=some (.ok (.list ((taken R q.1).map .int))):=by
  unfold taken
  rw [List.map_map]
  exact cN dY (fun p=>[.val (dM p.1),.val (.int (p.2:Nat)),.val (dM q.1)]) (fun p=>decide (ov q.1 p.1)) (fun p=>.int (p.2:Nat)) R rfl (by omega) (fun p _=>rfl) (fun p _=>by
   rw [truT_e,aZ (ds:=[dM q.1,dM p.1]) rfl (e_l_over q.1 p.1)];rfl) (fun p _ _=>rfl)
 rw [aM (ρ':=[.val S,.lst (R.map dY),.val (.int q.1.2.1),.val (.int (-q.1.2.2)),.val (.str q.1.1),.val (dM q.1),.val (.list ((taken R q.1).map .int))]) (by
  rw [lM,thC_at k2 (plain_ints _)];rfl)]
 have hc:=low_taken h2
 obtain ⟨r,er⟩:=free_head (n:=R.length+1) (by omega) h1 h2
 have rg:rng1 (op2 eG (dP lenD (aC (var 1) aJ)) (cst (.int 1))) (frzAll [.val S,.lst (R.map dY),.val (.int q.1.2.1),.val (.int (-q.1.2.2)),.val (.str q.1.1),.val (dM q.1),.val (.list ((taken R q.1).map .int))])=some (.ok ((List.range (R.length+1)).map fun (i:Nat)=>PyData.int (0+(i:Int)))):=by
  rw [rng1_at (n:=((R.length+1:Nat):Int)) (kR (x:=.int ((R.length:Nat):Int)) (y:=.int 1) (fU (ds:=[.list (R.map dY)]) rfl (by rw [len_l,List.length_map])) rfl rfl) (by omega) (by omega)]
  rfl
 have k3:lZ (frzAll [.val S,.lst (R.map dY),.val (.int q.1.2.1),.val (.int (-q.1.2.2)),.val (.str q.1.1),.val (dM q.1),.val (.list ((taken R q.1).map .int))])=some (.ok (.list ((q.2::r).map fun (i:Nat)=>PyData.int (0+(i:Int))))):=by
  rw [←er]
  exact cN (fun (i:Nat)=>PyData.int (0+(i:Int))) (fun i=>[.val (.int (0+(i:Int))),.val (.list ((taken R q.1).map .int))]) (fun (i:Nat)=>!decide ((i:Int)∈taken R q.1)) (fun i=>.int (0+(i:Int))) (List.range (R.length+1)) rg (by rw [List.length_range];omega) (fun i _=>rfl) (fun i _=>by
   rw [fH (x:=.int (0+(i:Int))) (y:=.list ((taken R q.1).map .int)) rfl rfl (nin_ints _ _),Int.zero_add]) (fun i _ _=>rfl)
 have kk:thE (op2 ixD lZ (cst (.int 0))) [.val S,.lst (R.map dY),.val (.int q.1.2.1),.val (.int (-q.1.2.2)),.val (.str q.1.1),.val (dM q.1),.val (.list ((taken R q.1).map .int))]=some (.ok (.int (q.2:Nat))):=
  thE_at (kR (x:=.list ((q.2::r).map fun (i:Nat)=>PyData.int (0+(i:Int)))) (y:=.int 0) k3 rfl (by rw [ixD_l,List.map_cons,at_0,Int.zero_add])) rfl
 rw [appS_at (i:=1) (ds:=R.map dY) (d:=dY q) rfl (by rw [tupE_e,cH,cH,kk];rfl) (by rw [List.length_map];omega)]
 simp
theorem loopL {S:PyData} {P:List Ly} (hl:P.length≤10) (hL:iU [] P):∀ (Q R:List Ly) (x2 x3 x4 x5 x6:Ent),P=R++Q→∃ y2 y3 y4 y5 y6,cU (.tp [2,3,4]) mL (Q.map fun p=>kL p.1) [.val S,.lst (R.map dY),x2,x3,x4,x5,x6]=some (.nx [.val S,.lst (P.map dY),y2,y3,y4,y5,y6])
 | [],R,x2,x3,x4,x5,x6,e=>⟨x2,x3,x4,x5,x6,by rw [e,List.append_nil];rfl⟩
 | q::Q,R,x2,x3,x4,x5,x6,e=>by
  have la:=laid_at R q Q [] (by rw [←e];exact hL)
  rw [List.nil_append] at la
  have rl:R.length≤10:=by
   have:R.length≤P.length:=by rw [e];simp
   omega
  obtain ⟨y2,y3,y4,y5,y6,e2⟩:=loopL hl hL Q (R++[q]) (.val (.int q.1.2.1)) (.val (.int (-q.1.2.2))) (.val (.str q.1.1)) (.val (dM q.1)) (.val (.list ((taken R q.1).map .int))) (by rw [e];simp)
  refine ⟨y2,y3,y4,y5,y6,?_⟩
  rw [←e2,List.map_cons]
  exact eX (ρ1:=[.val S,.lst (R.map dY),.val (.int q.1.2.1),.val (.int (-q.1.2.2)),.val (.str q.1.1),x5,x6]) rfl (turnL rl la.1 la.2)
theorem ad_pairs (P:List Ly):cR pairK (P.map fun p=>.tuple [.str p.1.1,.int (p.2:Nat)])=some (P.map fun p=>(Sum.inr p.1.1,.int (p.2:Nat))):=by
 have:(P.map fun p=>PyData.tuple [.str p.1.1,.int (p.2:Nat)])=(P.map fun p=>((Sum.inr p.1.1:Key),PyData.int (p.2:Nat))).map fun q=>.tuple [bF q.1,q.2]:=by rw [List.map_map];rfl
 rw [this,fJ (g:=fun q:Key×PyData=>.tuple [bF q.1,q.2]) (fun q=>by show (dKey (bF q.1)).map (·,q.2)=_;rw [fT];rfl)]
abbrev enc (R:List Ly):List (Key×PyData):=R.map fun p=>((.inr p.1.1:Key),PyData.int (p.2:Nat))
theorem nd_enc {s:List Mt} {P:List Ly} (h:Laid s P):((enc P).map (·.1)).Nodup:=by
 have:=h.lay.nd h.nd
 rw [List.map_map]
 rw [List.Nodup,List.pairwise_map] at this ⊢
 exact this.imp fun {a b} n z=>n (Sum.inr.inj z)
theorem e_l_laying {s:List Mt} {P:List Ly} (h:Laid s P) (hz:s.length≤10):lC [dS s]=some (.ok (lI P)):=by
 have pl:=h.lay.len
 refine bU rfl ?_
 show nZ [.val (dS s),.no,.no,.no,.no,.no,.no]=_
 unfold nZ
 rw [aM (ρ':=[.val (dS s),.lst [],.no,.no,.no,.no,.no]) rfl]
 have k1:mC [.val (dS s),.lst [],.no,.no,.no,.no,.no]=some (.ok (.list (s.map kL))):=
  cO dM (fun m=>[.val (dM m)]) kL s rfl (by omega) (fun m _=>rfl) (fun m _=>by
   show some (Re.ok (PyData.tuple [.int m.2.1,.int (0 - m.2.2),.str m.1]))=_
   rw [Int.zero_sub])
 have e:P.map (fun p=>kL p.1)=jW (s.map kL):=by
  rw [←srtM_map,show srtM kL s=dA s from rfl,←h.lay.ord,List.map_map];rfl
 have so:dP srtX (aC mC aJ) [.val (dS s),.lst [],.no,.no,.no,.no,.no]=some (.ok (.list (P.map fun p=>kL p.1))):=by
  rw [fU (ds:=[.list (s.map kL)]) (by rw [cH,k1];rfl) (srtX_rows (k:=true) (g:=[true,false]) (fun d hd=>by obtain ⟨m,_,rfl⟩:=List.mem_map.mp hd;rfl) (by rw [List.length_map];omega)),e]
 obtain ⟨y2,y3,y4,y5,y6,el⟩:=loopL (S:=dS s) (P:=P) (by omega) h.lay.laid P [] .no .no .no .no .no rfl
 rw [aM (ρ':=[.val (dS s),.lst (P.map dY),y2,y3,y4,y5,y6]) (by rw [mG,fY so rfl];exact el)]
 have k4:lY [.val (dS s),.val (.list (P.map dY)),y2,y3,y4,y5,y6]=some (.ok (.list (P.map fun p=>.tuple [.str p.1.1,.int (p.2:Nat)]))):=
  cO dY (fun p=>[.val (dM p.1),.val (.int (p.2:Nat))]) (fun p=>.tuple [.str p.1.1,.int (p.2:Nat)]) P rfl (by omega) (fun p _=>rfl) (fun p _=>rfl)
 show retS (dP dictD (aC lY aJ)) [.val (dS s),.val (.list (P.map dY)),y2,y3,y4,y5,y6]=_
 rw [dO,fU (ds:=[.list (P.map fun p=>.tuple [.str p.1.1,.int (p.2:Nat)])]) (by rw [cH,k4];rfl) (dictD_of (ad_pairs P) (nd_enc h) (by rw [List.length_map];omega))];rfl
end L2.L3
namespace L2.L3
open PySem PySem.Spec PyProof.Rows
abbrev Lx:=List (Str×Int)
def dL (l:Lx):PyData:=.dict (l.map fun p=>(.str p.1,.int p.2))
def gL:Lx→Str→Int
 | [],_=>0
 | p::l,x=>if p.1=x then p.2 else gL l x
theorem get_L {x:Str}:∀ {l:Lx},x∈l.map (·.1)→nW (dL l) (.str x)=some (.int (gL l x))
 | [],h=>by simp at h
 | p::l,h=>by
  show (if (some (Sum.inr p.1):Option Key)=some (Sum.inr x) then some (PyData.int p.2) else nW (dL l) (.str x))=_
  unfold gL
  by_cases c:p.1=x
  ·rw [if_pos (by rw [c]),if_pos c]
  ·rw [if_neg (fun z=>c (Sum.inr.inj (Option.some.inj z))),if_neg c]
   have:x∈l.map (·.1):=by
    rcases List.mem_cons.mp h with z | z
    ·exact absurd z.symm c
    ·exact z
   exact get_L this
theorem all_strs (l:List Str):cR strD (l.map .str)=some l:=fJ (g:=PyData.str) (fun _=>rfl) l
theorem dedupS_go:∀ (ns acc:List Str),(∀ x∈ns,x∉acc)→ns.Nodup→ns.foldl (fun a n=>if n∈a then a else a++[n]) acc=acc++ns
 | [],acc,_,_=>by simp
 | n::ns,acc,h,nd=>by
  rw [List.nodup_cons] at nd
  rw [List.foldl_cons,if_neg (h n (by simp)),dedupS_go ns (acc++[n]) (fun x hx z=>by
   rcases List.mem_append.mp z with z | z
   ·exact h x (List.mem_cons_of_mem _ hx) z
   ·rw [List.mem_singleton] at z;subst z;exact nd.1 hx) nd.2]
  simp
theorem dedupS_nd {ns:List Str} (nd:ns.Nodup):iS ns=ns:=by
 have:=dedupS_go ns [] (by simp) nd
 simpa [iS] using this
section
variable {s:List Mt} {l:Lx}
theorem t1_laid (nd:(s.map (·.1)).Nodup) (hz:s.length≤10) (hl:l.length≤10):t1_is_laidX [.val (dS s),.val (dL l)]=some (.ok (!(decide (l.length=s.length)&&l.all fun p=>decide (p.1∈s.map (·.1))))):=by
 have e1:(aS eQ (aC (var 0) aJ)) [.val (dS s),.val (dL l)]=some (.ok (.list ((s.map (·.1)).map .str))):=aZ (ds:=[dS s]) rfl (e_names s (by omega))
 show dfT setNeD (var 1) (aS eQ (aC (var 0) aJ)) [.val (dS s),.val (dL l)]=_
 unfold dfT
 rw [e1]
 have e2:setNeD (dL l) (.list ((s.map (·.1)).map .str))=some (!(decide (l.length=s.length)&&l.all fun p=>decide (p.1∈s.map (·.1)))):=by
  show (match cR strD ((l.map fun p=>(PyData.str p.1,PyData.int p.2)).map (·.1)),cR strD ((s.map (·.1)).map .str) with
   | some ks,some ns=>if ks.length<64∧ns.length<64 then some (!(decide (ks.length=(iS ns).length)&&ks.all fun k=>decide (k∈iS ns))) else none
   | _,_=>none)=_
  rw [show ((l.map fun p=>(PyData.str p.1,PyData.int p.2)).map (·.1))=(l.map (·.1)).map .str by rw [List.map_map,List.map_map];rfl,all_strs,all_strs]
  dsimp only
  rw [if_pos (by rw [List.length_map,List.length_map];omega),dedupS_nd nd,List.length_map,List.length_map,List.all_map];rfl
 show lft (setNeD (dL l) _)=_
 rw [e2];rfl
theorem loop_whole (l:Lx):nA (.nm 0) [.no] ttT (aS fX (aC (var 0) aJ)) (l.map fun p=>.int p.2)=some (l.map fun _=>.bool true):=by
 induction l with
 | nil=>rfl
 | cons p l ih=>
  rw [List.map_cons]
  unfold nA
  dsimp only [tgD,ttT,List.set]
  rw [aZ (ds:=[.int p.2]) rfl (e_whole p.2)]
  dsimp only
  rw [ih];rfl
theorem t2_laid (hl:l.length≤10):t2_is_laidX [.val (dS s),.val (dL l)]=some (.ok false):=by
 have k1:mD [.val (dS s),.val (dL l)]=some (.ok (.list (l.map fun _=>.bool true))):=by
  show compV 1 (.nm 0) [none] ttT (aS fX (aC (var 0) aJ)) [.val (dS s),.val (dL l)]=_
  unfold compV
  dsimp only [List.getElem?_cons_succ,List.getElem?_cons_zero,dL]
  rw [show ((l.map fun p=>(PyData.str p.1,PyData.int p.2)).map (·.2))=l.map fun p=>.int p.2 by rw [List.map_map];rfl]
  rw [if_pos (by
   rw [Bool.and_eq_true]
   refine ⟨List.all_eq_true.mpr fun d hd=>?_,by unfold cZ;rw [List.length_map];exact decide_eq_true (by omega)⟩
   obtain ⟨i,_,rfl⟩:=List.mem_map.mp hd;rfl)]
  rw [show bL [none] (noE [.val (dS s),.val (.dict (l.map fun p=>(PyData.str p.1,PyData.int p.2)))])=[.no] from rfl,loop_whole]
  dsimp only
  rw [if_pos (List.all_eq_true.mpr fun d hd=>by obtain ⟨i,_,rfl⟩:=List.mem_map.mp hd;rfl)]
 show notT (truT (dP allB (aC mD aJ))) _=_
 have a1:allB [.list (l.map fun _=>PyData.bool true)]=some (.bool true):=by
  rw [show (l.map fun _=>PyData.bool true)=(l.map fun _=>true).map .bool by rw [List.map_map];rfl,all_bools]
  congr 2
  rw [List.all_eq_true]
  intro b hb
  obtain ⟨_,_,rfl⟩:=List.mem_map.mp hb;rfl
 rw [notT_e,truT_e,fU (ds:=[.list (l.map fun _=>.bool true)]) (by rw [cH,k1];rfl) a1];rfl
def crash (s:List Mt) (l:Lx) (m:Mt):Bool:=(prt s m).any fun o=>decide (gL l o.1=gL l m.1)
theorem cmpE_at {g:PyData→PyData→Option Bool} {fa fb:EF} {ρ:List Ent} {x y:PyData} {r:Bool} (ha:fa ρ=some (.ok x)) (hb:fb ρ=some (.ok y)) (h:g x y=some r):cmpE g fa fb ρ=some (.ok (.bool r)):=by
 rw [cmpE_e,ha,fI,hb,fI,h];rfl
theorem e_shares (nd:(s.map (·.1)).Nodup) (hz:s.length≤10) (hk:∀ m∈s,m.1∈l.map (·.1)) {m:Mt} (hm:m∈s):dZ [dS s,dL l,.str m.1]=some (.ok (.bool (crash s l m))):=by
 have lp:(prt s m).length≤s.length:=List.length_filter_le _ _
 have k1:jG [.val (dS s),.val (dL l),.val (.str m.1)]=some (.ok (.list (((prt s m).map fun o=>decide (gL l o.1=gL l m.1)).map .bool))):=by
  rw [List.map_map]
  exact cO (fun o:Mt=>PyData.str o.1) (fun o=>[.val (.str o.1),.val (dL l),.val (.str m.1)]) (fun o=>.bool (decide (gL l o.1=gL l m.1))) (prt s m) (fY (eE (ds:=[dS s,.str m.1]) rfl (e_partnersX nd hm (by omega))) rfl) (by omega) (fun o _=>rfl) (fun o ho=>by
   have hos:o∈s:=(List.mem_filter.mp ho).1
   exact cmpE_at (kR (x:=dL l) (y:=.str o.1) rfl rfl (get_L (hk o hos))) (kR (x:=dL l) (y:=.str m.1) rfl rfl (get_L (hk m hm))) eq_ii)
 refine kO rfl ?_
 show fR [.val (dS s),.val (dL l),.val (.str m.1)]=_
 unfold fR crash
 rw [dO,fU (ds:=[.list (((prt s m).map fun o=>decide (gL l o.1=gL l m.1)).map .bool)]) (by rw [cH,k1];rfl) (any_bls _),List.any_map];rfl
theorem e_is_laid (nd:(s.map (·.1)).Nodup) (hz:s.length≤10) (hl:l.length=s.length) (ha:∀ p∈l,p.1∈s.map (·.1)) (hk:∀ m∈s,m.1∈l.map (·.1)):bZ [dS s,dL l]=some (.ok (.bool (!s.any (crash s l)))):=by
 refine kO rfl ?_
 show iR [.val (dS s),.val (dL l)]=_
 unfold iR
 have t1:=t1_laid (s:=s) (l:=l) nd hz (by omega)
 rw [show (decide (l.length=s.length)&&l.all fun p=>decide (p.1∈s.map (·.1)))=true by
  rw [Bool.and_eq_true]
  exact ⟨decide_eq_true hl,List.all_eq_true.mpr fun p hp=>decide_eq_true (ha p hp)⟩] at t1
 rw [aM (by rw [iN,t1];rfl),aM (by rw [iN,t2_laid (by omega)];rfl)]
 have k2:k2_is_laidX [.val (dS s),.val (dL l)]=some (.ok (.list ((s.map (crash s l)).map .bool))):=by
  rw [List.map_map]
  exact cO (fun o:Mt=>PyData.str o.1) (fun o=>[.val (.str o.1),.val (dL l),.val (dS s)]) (fun o=>.bool (crash s l o)) s (fY (aZ (ds:=[dS s]) rfl (e_names s (by omega))) (by rw [List.map_map];rfl)) (by omega) (fun o _=>rfl) (fun o ho=>eE (ds:=[dS s,dL l,.str o.1]) rfl (e_shares nd hz hk ho))
 rw [dO,notE_e,fU (ds:=[.list ((s.map (crash s l)).map .bool)]) (by rw [cH,k2];rfl) (any_bls _),List.any_map];rfl
theorem not_laid (nd:(s.map (·.1)).Nodup) (hz:s.length≤10) (hl:l.length≤10) (hn:l.length≠s.length):bZ [dS s,dL l]=some (.ok (.bool false)):=by
 refine kO rfl ?_
 show iR [.val (dS s),.val (dL l)]=_
 unfold iR
 have t1:=t1_laid (s:=s) (l:=l) nd hz hl
 rw [decide_eq_false hn,Bool.false_and] at t1
 exact mQ (by rw [iN,t1];rfl)
end
theorem loop_gno (S:Ent) (x:Str):∀ (Gs:List (List Mt)) (y:Ent),(∀ A∈Gs,x∉A.map (·.1))→∃ y',cU (.nm 2) b1_group_ofX (Gs.map gD) [S,.val (.str x),y]=some (.nx [S,.val (.str x),y'])
 | [],y,_=>⟨y,rfl⟩
 | A::Gs,y,h=>by
  have t1:kI [S,.val (.str x),.val (gD A)]=some (.ok false):=by
   show lft (inX (.str x) (.list ((eA (A.map (·.1))).map .str)))=_
   rw [in_strs,decide_eq_false (fun z=>h A (by simp) ((bX _).mem_iff.mp z))];rfl
  obtain ⟨y',e⟩:=loop_gno S x Gs (.val (gD A)) fun B hB=>h B (List.mem_cons_of_mem _ hB)
  refine ⟨y',?_⟩
  rw [←e,List.map_cons]
  exact eX (ρ1:=[S,.val (.str x),.val (gD A)]) rfl (by show ifS kI _ _ _=_;rw [iN,t1];rfl)
theorem no_group_ofX {s:List Mt} (nd:(s.map (·.1)).Nodup) (hz:s.length<64) {x:Str} (h:x∉s.map (·.1)):cY [dS s,.str x]=some (.ex "NoMeeting"):=by
 obtain ⟨y',e⟩:=loop_gno (.val (dS s)) x (bY (dA s)) .no fun A hA z=>by
  obtain ⟨a,ha,ea⟩:=List.mem_map.mp z
  exact h (List.mem_map.mpr ⟨a,cI hA ha,ea⟩)
 refine runX_ex (ρ:=[.val (dS s),.val (.str x),y']) rfl ?_
 show gI [.val (dS s),.val (.str x),.no]=_
 unfold gI
 rw [aM (noxS_nx (ρ':=[.val (dS s),.val (.str x),y']) (by rw [mG,fY (aZ (ds:=[dS s]) rfl (e_groups nd hz)) rfl,iT];exact e))]
 rfl
theorem callE_ex {F:List PyData→Mm PyData} {fa:AF} {ρ:List Ent} {c:Str} (h:fa ρ=some (.ex c)):aS F fa ρ=some (.ex c):=by unfold aS;rw [h];rfl
theorem aCons_ex {fa:EF} {aa:AF} {ρ:List Ent} {c:Str} (h:fa ρ=some (.ex c)):aC fa aa ρ=some (.ex c):=by unfold aC;rw [h];rfl
theorem no_widX {s:List Mt} (nd:(s.map (·.1)).Nodup) (hz:s.length<64) {x:Str} (h:x∉s.map (·.1)):cW [dS s,.str x]=some (.ex "NoMeeting"):=by
 refine runX_ex (ρ:=[.val (dS s),.val (.str x)]) rfl ?_
 show gH [.val (dS s),.val (.str x)]=_
 unfold gH
 have e:fO cY (aC (var 0) (aC (var 1) aJ)) [.val (dS s),.val (.str x)]=some (.ex "NoMeeting"):=eE (ds:=[dS s,.str x]) rfl (no_group_ofX nd hz h)
 have e2:aC (var 0) (aC (fO cY (aC (var 0) (aC (var 1) aJ))) aJ) [.val (dS s),.val (.str x)]=some (.ex "NoMeeting"):=by
  show bnd (some (Re.ok (dS s))) _=_
  rw [fI,aCons_ex e];rfl
 rw [dO,callE_ex (aCons_ex (callE_ex e2))];rfl
theorem e_refused {s:List Mt} (nd:(s.map (·.1)).Nodup) (hz:s.length<64) {x:Str} (h:x∉s.map (·.1)):dQ [dS s,.str x]=some (.ok (.bool true)):=by
 refine bU rfl ?_
 show iQ [.val (dS s),.val (.str x),.no,.no]=_
 unfold iQ
 rw [aM (ρ':=[.val (dS s),.val (.str x),.val .none,.no]) rfl]
 rw [aM (ρ':=[.val (dS s),.val (.str x),.exc "NoMeeting", .no]) (by
  have b:lH [.val (dS s),.val (.str x),.val .none,.no]=some (.xc "NoMeeting" [.val (dS s),.val (.str x),.val .none,.no]):=by
   show exprS _ _=_
   unfold exprS
   rw [eE (ds:=[dS s,.str x]) rfl (no_widX nd hz h)];rfl
  unfold tryS
  rw [b]
  dsimp only
  rw [if_pos (by decide +kernel)];rfl)]
 rfl
end L2.L3
namespace L2.L3
open PySem PySem.Spec PyProof.Rows
section
variable {s:List Mt} {P:List Ly}
theorem grp_wid (h:Laid s P) {A:List Mt} (hA:A∈bY (dA s)):∃ y∈s,A=gof s y:=by
 obtain ⟨y,t,e,_⟩:=nU A hA
 have hy:y∈A:=by rw [e];simp
 exact ⟨y,cI hA hy,mF h.pos hA hy⟩
theorem col_grp (h:Laid s P) {y:Mt} (hy:y∈s) {k:Nat} (hk:(k:Int)<wid s y):∃ a∈gof s y,eD P a.1=k:=by
 obtain ⟨o,ho,hg,hw⟩:=wid_at h.pos hy
 have hod:=kB h.pos ho
 have hmem:=full_nat (h.lay.nodupAt o.2.1) (w:=(wid s y).toNat) (fun c hc=>by
  obtain ⟨p,hp,rfl⟩:=List.mem_map.mp hc
  obtain ⟨hpP,hpd⟩:=List.mem_filter.mp hp
  obtain ⟨q1,q2⟩:=h.of hpP
  have h1:=h.col_wid q1
  rw [wid_ov h.pos q1 ho (ov_of_at h.pos hpd hod)] at h1
  have h2:wid s o=wid s y:=by unfold wid grp;rw [hg]
  rw [h2] at h1
  have h3:((eD P p.1.1:Nat):Int)<wid s y:=h1
  rw [q2];omega) (by
  have:=h.lay.load o.2.1
  rw [List.length_map]
  omega) (j:=k) (by omega)
 obtain ⟨p,hp,e⟩:=List.mem_map.mp hmem
 obtain ⟨hpP,hpd⟩:=List.mem_filter.mp hp
 obtain ⟨q1,q2⟩:=h.of hpP
 refine ⟨p.1,?_,by rw [←q2,e]⟩
 rw [←hg,←gof_ov h.pos q1 ho (ov_of_at h.pos hpd hod)]
 exact (bK q1).2
theorem cols_all (h:Laid s P) {y:Mt} (hy:y∈s):sortI (kX ((eA ((gof s y).map (·.1))).map fun x=>((eD P x:Nat):Int)))=(List.range (wid s y).toNat).map fun (k:Nat)=>(0+(k:Int)):=by
 refine (sortI_eq ?_ ?_).symm
 ·refine (List.perm_ext_iff_of_nodup ?_ (nodup_dedup _)).mpr fun j=>?_
  ·rw [List.Nodup,List.pairwise_map]
   exact (List.nodup_range (n:=(wid s y).toNat)).imp fun {a b} n z=>n (by omega)
  ·rw [mem_dedup]
   constructor
   ·intro hj
    obtain ⟨k,hk,rfl⟩:=List.mem_map.mp hj
    have hk:=List.mem_range.mp hk
    obtain ⟨a,ha,e⟩:=col_grp h hy (k:=k) (by omega)
    refine List.mem_map.mpr ⟨a.1,(bX _).mem_iff.mpr (List.mem_map_of_mem ha),?_⟩
    rw [e];omega
   ·intro hj
    obtain ⟨x,hx,rfl⟩:=List.mem_map.mp hj
    obtain ⟨a,ha,rfl⟩:=List.mem_map.mp ((bX _).mem_iff.mp hx)
    have has:=cI (bK hy).1 ha
    have h1:=h.col_wid has
    have h2:wid s a=wid s y:=by unfold wid grp;rw [←mF h.pos (bK hy).1 ha]
    rw [h2] at h1
    have h3:((eD P a.1:Nat):Int)<wid s y:=h1
    exact List.mem_map.mpr ⟨eD P a.1,List.mem_range.mpr (by omega),by omega⟩
 ·rw [List.pairwise_map]
  exact (List.pairwise_lt_range (n:=(wid s y).toNat)).imp fun {a b} z=>by omega
theorem grp_names (nd:(s.map (·.1)).Nodup) {m:Mt} (hm:m∈s):(s.filter fun a=>decide (a.1∈eA ((gof s m).map (·.1))))=grp s m:=by
 refine List.filter_congr fun a ha=>?_
 rw [decide_eq_decide,(bX _).mem_iff]
 constructor
 ·intro z
  obtain ⟨b,hb,eb⟩:=List.mem_map.mp z
  rw [←cJ nd (cI (bK hm).1 hb) ha eb];exact hb
 ·exact fun z=>List.mem_map.mpr ⟨a,z,rfl⟩
theorem lrng1_at {fa:EF} {ρ:List Ent} {n:Int} (h:fa ρ=some (.ok (.int n))) (h0:0≤n) (h1:n≤1000):lrng1 fa ρ=some (.ok (.list (gM 0 n.toNat))):=by
 unfold lrng1
 rw [h]
 dsimp only
 rw [if_pos (by
  rw [Bool.and_eq_true]
  exact ⟨by simp [inRng];omega,by unfold cZ;exact decide_eq_true (by omega)⟩)]
abbrev s9 (ns:List Int) (s:List Mt) (P:List Ly) (x3 x4 x5:Ent):List Ent:=[.val (dN ns),.val (dS s),.val (lI P),x3,x4,x5,.no,.no,.no]
theorem turnG {ns:List Int} {x4 x5:Ent} (h:Laid s P) (hz:s.length≤10) {y:Mt} (hy:y∈s):∃ d4 d5,b1_law (s9 ns s P (.val (gD (gof s y))) x4 x5)=some (.nx (s9 ns s P (.val (gD (gof s y))) (.val d4) (.val d5))):=by
 have gl:(grp s y).length≤s.length:=List.length_filter_le _ _
 have gs:(gof s y).length≤s.length:=by
  have:=jX (l:=gof s y) (m:=s) (by
   have h1:(dA s).Nodup:=(dE s).nodup_iff.mpr ((List.pairwise_map.mp h.nd).imp fun n e=>n (by rw [e]))
   rw [←fQ (dA s)] at h1
   exact (List.pairwise_flatten.mp h1).1 _ (bK hy).1) fun a ha=>cI (bK hy).1 ha
  exact this
 have sl:(eA ((gof s y).map (·.1))).length≤10:=by rw [(bX _).length_eq,List.length_map];omega
 have wb:0≤wid s y∧wid s y≤10:=by
  have h1:=wid_pos h.pos hy
  have h2:=wid_len h.pos hy
  omega
 have k1:k1_law (s9 ns s P (.val (gD (gof s y))) x4 x5)=some (.ok (.list ((grp s y).map dM))):=by
  rw [←grp_names h.nd hy]
  exact cN (t:=.nm 0) (cap:=[none,some 3]) (fi:=dH (var 1)) (ft:=fL inX (op2 ixD (var 0) (cst (.int 0))) (var 1)) (fe:=var 0) (ρ:=s9 ns s P (.val (gD (gof s y))) x4 x5) dM (fun m=>[.val (dM m),.val (gD (gof s y))]) (fun m=>decide (m.1∈eA ((gof s y).map (·.1)))) dM s rfl (by omega) (fun m _=>rfl) (fun m _=>fH (x:=.str m.1) (y:=gD (gof s y)) rfl rfl (in_strs _ _)) (fun m _ _=>rfl)
 refine ⟨dS (grp s y),.int (wid s y),?_⟩
 show aY (fP 4 _) (aY (fP 5 _) (aY (ifS t2_law _ _) _)) _=_
 rw [aM (ρ':=s9 ns s P (.val (gD (gof s y))) (.val (dS (grp s y))) x5) (by rw [lM,fU (ds:=[.list ((grp s y).map dM)]) (by rw [cH,k1];rfl) (d:=dS (grp s y)) rfl];rfl)]
 rw [aM (ρ':=s9 ns s P (.val (gD (gof s y))) (.val (dS (grp s y))) (.val (.int (wid s y)))) (by rw [lM,aZ (ds:=[dS (grp s y)]) rfl (e_l_most (grp s y) (by omega))];rfl)]
 have k2:k2_law (s9 ns s P (.val (gD (gof s y))) (.val (dS (grp s y))) (.val (.int (wid s y))))=some (.ok (.list (((eA ((gof s y).map (·.1))).map fun x=>((eD P x:Nat):Int)).map .int))):=by
  rw [List.map_map]
  exact cO (t:=.nm 0) (cap:=[none,some 2]) (fi:=dH (var 3)) (fe:=op2 nW (var 1) (var 0)) (ρ:=s9 ns s P (.val (gD (gof s y))) (.val (dS (grp s y))) (.val (.int (wid s y)))) PyData.str (fun x=>[.val (.str x),.val (lI P)]) (fun x=>.int ((eD P x:Nat):Int)) (eA ((gof s y).map (·.1))) rfl (by omega) (fun x _=>rfl) (fun x hx=>by
   obtain ⟨a,ha,rfl⟩:=List.mem_map.mp ((bX _).mem_iff.mp hx)
   exact kR (x:=lI P) (y:=.str a.1) rfl rfl (get_col (h.lay.mem (cI (bK hy).1 ha))))
 have t2:t2_law (s9 ns s P (.val (gD (gof s y))) (.val (dS (grp s y))) (.val (.int (wid s y))))=some (.ok false):=by
  refine fH (x:=.list (((List.range (wid s y).toNat).map fun (k:Nat)=>(0+(k:Int))).map .int)) (y:=.list (((List.range (wid s y).toNat).map fun (k:Nat)=>(0+(k:Int))).map .int)) ?_ ?_ (by rw [ne_ints,decide_eq_true rfl];rfl)
  ·rw [op1_e,k2,fI,sset_int _ (by rw [List.length_map];omega),cols_all h hy];rfl
  ·rw [lrng1_at (n:=wid s y) rfl (by omega) (by omega)]
   unfold gM
   rw [List.map_map];rfl
 rw [aM (ρ':=s9 ns s P (.val (gD (gof s y))) (.val (dS (grp s y))) (.val (.int (wid s y)))) (by rw [iN,t2];rfl)]
 have k3:k3_law (s9 ns s P (.val (gD (gof s y))) (.val (dS (grp s y))) (.val (.int (wid s y))))=some (.ok (.list [])):=by
  have:=cN (t:=.nm 0) (cap:=[none,some 5,some 1]) (fi:=dH (var 3)) (ft:=fL neD (fO cW (aC (var 2) (aC (var 0) aJ))) (var 1)) (fe:=var 0) (ρ:=s9 ns s P (.val (gD (gof s y))) (.val (dS (grp s y))) (.val (.int (wid s y)))) PyData.str (fun x=>[.val (.str x),.val (.int (wid s y)),.val (dS s)]) (fun _=>false) PyData.str (eA ((gof s y).map (·.1))) rfl (by omega) (fun x _=>rfl) (fun x hx=>by
   obtain ⟨a,ha,rfl⟩:=List.mem_map.mp ((bX _).mem_iff.mp hx)
   have has:=cI (bK hy).1 ha
   have h2:wid s a=wid s y:=by unfold wid grp;rw [←mF h.pos (bK hy).1 ha]
   exact fH (x:=.int (wid s y)) (y:=.int (wid s y)) (eE (ds:=[dS s,.str a.1]) rfl (by rw [←h2];exact e_widX h.pos h.nd (by omega) has)) rfl (by rw [ne_ii,decide_eq_true rfl];rfl)) (fun x _ z=>nomatch z)
  rw [(List.filter_eq_nil_iff (p:=fun _:Str=>false)).mpr (fun _ _ z=>Bool.noConfusion z)] at this
  exact this
 have t3:t3_law (s9 ns s P (.val (gD (gof s y))) (.val (dS (grp s y))) (.val (.int (wid s y))))=some (.ok false):=fH (x:=.list []) (y:=.list []) k3 rfl (by rw [ne_lists sh_nil sh_nil];rfl)
 show ifS t3_law _ _ _=_
 rw [iN,t3];rfl
end
end L2.L3
namespace L2.L3
open PySem PySem.Spec PyProof.Rows
theorem lookup_cons (k:PyData) (p:PyData×PyData) (D:List (PyData×PyData)):Spec.lookup k (p::D)=if Spec.same p.1 k then some p.2 else Spec.lookup k D:=by
 obtain ⟨a,b⟩:=p
 rfl
theorem lookup_is {kvs:List (Key×PyData)} (nd:(kvs.map (·.1)).Nodup):∀ {k:Key} {d:PyData},(k,d)∈kvs→Spec.lookup (bF k) (kvs.map fun p=>(bF p.1,p.2))=some d:=by
 induction kvs with
 | nil=>intro k d h;cases h
 | cons p kvs ih=>
  intro k d h
  rw [List.map_cons,List.nodup_cons] at nd
  rw [List.map_cons,lookup_cons,same_keyD]
  rcases List.mem_cons.mp h with z | z
  ·rw [←z,if_pos (decide_eq_true rfl)]
  ·rw [if_neg (by
    rw [decide_eq_true_eq]
    intro e
    exact nd.1 (by rw [e];exact List.mem_map_of_mem (f:=(·.1)) z)),ih nd.2 z]
theorem eqRows_self {kvs:List (Key×PyData)} (nd:(kvs.map (·.1)).Nodup) (hv:∀ p∈kvs,p.2.eqv p.2=true):∀ l:List (Key×PyData),(∀ p∈l,p∈kvs)→jR (kvs.map fun p=>(bF p.1,p.2)) (l.map fun p=>(bF p.1,p.2))=true
 | [],_=>rfl
 | p::l,h=>by
  rw [List.map_cons]
  unfold jR
  dsimp only
  rw [lookup_is nd (show (p.1,p.2)∈kvs from h p (by simp))]
  dsimp only
  rw [hv p (h p (by simp)),eqRows_self nd hv l fun q hq=>h q (List.mem_cons_of_mem _ hq)];rfl
section
variable {s:List Mt} {P:List Ly}
theorem eq_col (h:Laid s P):eqKD (lI P) (lI P)=some true:=by
 have fl:((enc P).map fun p=>(bF p.1,p.2)).all (fun p=>keyB p.1&&flatD p.2)=true:=by
  rw [List.all_eq_true]
  intro p hp
  obtain ⟨q,hq,rfl⟩:=List.mem_map.mp hp
  obtain ⟨r,_,rfl⟩:=List.mem_map.mp hq
  rfl
 show eqKD (.dict ((enc P).map fun p=>(bF p.1,p.2))) (.dict ((enc P).map fun p=>(bF p.1,p.2)))=_
 unfold eqKD
 dsimp only
 rw [fl,if_pos (by rfl),eqRows_self (nd_enc h) (fun p hp=>by obtain ⟨r,_,rfl⟩:=List.mem_map.mp hp;simp [PyData.eqv]) _ (fun p hp=>hp),decide_eq_true rfl];rfl
def lV (P:List Ly) (n:Str) (v:Int):Lx:=P.map fun p=>(p.1.1,if p.1.1=n then v else ((p.2:Nat):Int))
def lP (P:List Ly):Lx:=P.map fun p=>(p.1.1,((p.2:Nat):Int))
theorem dL_P (P:List Ly):dL (lP P)=lI P:=by
 show PyData.dict _=PyData.dict _
 rw [lP,List.map_map,List.map_map];rfl
theorem gL_P (x:Str):∀ P:List Ly,gL (lP P) x=((eD P x:Nat):Int)
 | []=>rfl
 | p::P=>by
  show (if p.1.1=x then ((p.2:Nat):Int) else gL (lP P) x)=((if p.1.1=x then p.2 else eD P x:Nat):Int)
  rw [gL_P x P];split<;>rfl
theorem gL_V {n:Str} {v:Int} {x:Str}:∀ {P:List Ly},x∈P.map (fun p=>p.1.1)→gL (lV P n v) x=if x=n then v else ((eD P x:Nat):Int)
 | [],h=>by simp at h
 | p::P,h=>by
  show (if p.1.1=x then (if p.1.1=n then v else ((p.2:Nat):Int)) else gL (lV P n v) x)=if x=n then v else ((if p.1.1=x then p.2 else eD P x:Nat):Int)
  by_cases c:p.1.1=x
  ·rw [if_pos c,if_pos c,c]
  ·rw [if_neg c,if_neg c]
   have:x∈P.map (fun p=>p.1.1):=by
    rcases List.mem_cons.mp h with z | z
    ·exact absurd z.symm c
    ·exact z
   exact gL_V this
theorem jD (h:Laid s P) {x:Str}:x∈P.map (fun p=>p.1.1)↔x∈s.map (·.1):=by
 have:P.map (fun p=>p.1.1)=(P.map (·.1)).map (·.1):=by rw [List.map_map];rfl
 rw [this]
 exact (h.lay.perm.map (·.1)).mem_iff
theorem crash_P (h:Laid s P):s.any (crash s (lP P))=false:=by
 rw [List.any_eq_false]
 intro m hm z
 unfold crash at z
 obtain ⟨o,ho,e⟩:=List.any_eq_true.mp z
 have ⟨h1,h2,h3⟩:=(mem_prt h hm).mp ho
 rw [decide_eq_true_eq,gL_P,gL_P] at e
 exact h.col_ne h1 hm h2 ((ov_comm _ _).mp h3) e
theorem laid_told (h:Laid s P) (hz:s.length≤10):bZ [dS s,lI P]=some (.ok (.bool true)):=by
 have nm:(lP P).map (·.1)=P.map fun p=>p.1.1:=by rw [lP,List.map_map];rfl
 have e:=e_is_laid (s:=s) (l:=lP P) h.nd hz (by rw [lP,List.length_map];exact h.lay.len) (fun p hp=>by
  rw [←jD h,←nm];exact List.mem_map_of_mem hp) (fun m hm=>by rw [nm,jD h];exact List.mem_map_of_mem hm)
 rw [dL_P,crash_P h] at e
 exact e
def fG (s:List Mt) (P:List Ly) (x:Mt) (v:Int):List Mt:=s.filter fun r=>!decide (r=x)&&(decide (ov r x)&&decide (((eD P r.1:Nat):Int)=v))
theorem crash_V (h:Laid s P) {x:Mt} (hx:x∈s) (v:Int):(!s.any (crash s (lV P x.1 v)))=decide (fG s P x v=[]):=by
 have inP:∀ m∈s,m.1∈P.map (fun p=>p.1.1):=fun m hm=>(jD h).mpr (List.mem_map_of_mem hm)
 rw [Bool.eq_iff_iff,Bool.not_eq_true',decide_eq_true_eq]
 constructor
 ·intro z
  unfold fG
  rw [List.filter_eq_nil_iff]
  intro r hr y
  rw [Bool.and_eq_true,Bool.and_eq_true,decide_eq_true_eq,decide_eq_true_eq] at y
  have hn:r≠x:=fun w=>by rw [w] at y;simp at y
  rw [List.any_eq_false] at z
  refine z x hx (List.any_eq_true.mpr ⟨r,(mem_prt h hx).mpr ⟨hr,hn,(ov_comm _ _).mp y.2.1⟩,decide_eq_true ?_⟩)
  rw [gL_V (inP r hr),gL_V (inP x hx),if_pos rfl,if_neg (fun w=>hn (cJ h.nd hr hx w))]
  exact y.2.2
 ·intro z
  rw [List.any_eq_false]
  intro m hm y
  obtain ⟨o,ho,e⟩:=List.any_eq_true.mp y
  have ⟨h1,h2,h3⟩:=(mem_prt h hm).mp ho
  rw [decide_eq_true_eq,gL_V (inP o h1),gL_V (inP m hm)] at e
  unfold fG at z
  rw [List.filter_eq_nil_iff] at z
  by_cases c1:o.1=x.1
  ·have c1':=cJ h.nd h1 hx c1
   subst c1'
   have c2:m.1≠o.1:=fun w=>h2 (cJ h.nd h1 hm w.symm)
   rw [if_pos rfl,if_neg c2] at e
   refine z m hm ?_
   rw [Bool.and_eq_true,Bool.and_eq_true,decide_eq_true_eq,decide_eq_true_eq]
   exact ⟨by simp [show m≠o from fun w=>h2 w.symm],h3,e.symm⟩
  ·rw [if_neg c1] at e
   by_cases c2:m.1=x.1
   ·have c2':=cJ h.nd hm hx c2
    subst c2'
    rw [if_pos rfl] at e
    refine z o h1 ?_
    rw [Bool.and_eq_true,Bool.and_eq_true,decide_eq_true_eq,decide_eq_true_eq]
    exact ⟨by simp [h2],(ov_comm _ _).mp h3,e⟩
   ·rw [if_neg c2] at e
    exact h.col_ne h1 hm h2 ((ov_comm _ _).mp h3) e
theorem keysK_enc:∀ kvs:List (Key×PyData),keysK (kvs.map fun p=>(bF p.1,p.2))=some kvs
 | []=>rfl
 | p::l=>by
  rw [List.map_cons]
  unfold keysK
  dsimp only
  rw [fT,keysK_enc l]
abbrev encV (P:List Ly) (n:Str) (v:Int):List (Key×PyData):=P.map fun p=>((.inr p.1.1:Key),PyData.int (if p.1.1=n then v else ((p.2:Nat):Int)))
theorem put_enc {n:Str} (v:Int) (hn:n∈P.map fun p=>p.1.1):putKD (enc P) (.inr n) (.int v)=encV P n v:=by
 unfold putKD
 rw [if_pos (by
  obtain ⟨p,hp,e⟩:=List.mem_map.mp hn
  exact List.any_eq_true.mpr ⟨_,List.mem_map_of_mem hp,decide_eq_true (by rw [←e])⟩),List.map_map]
 refine List.map_congr_left fun p _=>?_
 show (if (Sum.inr p.1.1:Key)=Sum.inr n then ((Sum.inr p.1.1:Key),PyData.int v) else ((Sum.inr p.1.1:Key),PyData.int (p.2:Nat)))=_
 by_cases c:p.1.1=n
 ·rw [if_pos (by rw [c]),if_pos c]
 ·rw [if_neg (fun z=>c (Sum.inr.inj z)),if_neg c]
theorem dL_V (P:List Ly) (n:Str) (v:Int):PyData.dict ((encV P n v).map fun p=>(bF p.1,p.2))=dL (lV P n v):=by
 show PyData.dict _=PyData.dict _
 rw [lV,List.map_map,List.map_map];rfl
theorem laid_V (h:Laid s P) (hz:s.length≤10) {x:Mt} (hx:x∈s) (v:Int):bZ [dS s,dL (lV P x.1 v)]=some (.ok (.bool (decide (fG s P x v=[])))):=by
 have nm:(lV P x.1 v).map (·.1)=P.map fun p=>p.1.1:=by rw [lV,List.map_map];rfl
 have e:=e_is_laid (s:=s) (l:=lV P x.1 v) h.nd hz (by rw [lV,List.length_map];exact h.lay.len) (fun p hp=>by
  rw [←jD h,←nm];exact List.mem_map_of_mem hp) (fun m hm=>by rw [nm,jD h];exact List.mem_map_of_mem hm)
 rw [crash_V h hx] at e
 exact e
theorem drop_V (h:Laid s P) {x:Mt} (hx:x∈s) (v:Int):∃ l:Lx,PyData.dict ((dropKD (encV P x.1 v) (.inr x.1)).map fun p=>(bF p.1,p.2))=dL l∧l.length<s.length:=by
 refine ⟨(lV P x.1 v).filter fun p=>!decide (p.1=x.1),?_,?_⟩
 ·show PyData.dict _=PyData.dict _
  unfold dropKD lV
  rw [List.filter_map,List.filter_map,List.map_map,List.map_map]
  have:P.filter ((fun kv:Key×PyData=>decide (kv.1≠Sum.inr x.1))∘fun p=>((.inr p.1.1:Key),PyData.int (if p.1.1=x.1 then v else ((p.2:Nat):Int))))=P.filter ((fun p:Str×Int=>!decide (p.1=x.1))∘fun p=>(p.1.1,if p.1.1=x.1 then v else ((p.2:Nat):Int))):=List.filter_congr fun p _=>by
   show decide ((Sum.inr p.1.1:Key)≠Sum.inr x.1)=!decide (p.1.1=x.1)
   by_cases c:p.1.1=x.1
   ·rw [c];simp
   ·simp [c]
  rw [this];rfl
 ·have e:(lV P x.1 v).length=s.length:=by rw [lV,List.length_map];exact h.lay.len
  rw [←e]
  have hm:x.1∈(lV P x.1 v).map (·.1):=by
   have nm:(lV P x.1 v).map (·.1)=P.map fun p=>p.1.1:=by rw [lV,List.map_map];rfl
   rw [nm,jD h];exact List.mem_map_of_mem hx
  obtain ⟨p,hp,ep⟩:=List.mem_map.mp hm
  refine List.length_filter_lt_length_iff_exists.mpr ⟨p,hp,?_⟩
  simp [ep]
end
end L2.L3
namespace L2.L3
open PySem PySem.Spec PyProof.Rows
theorem ne_dM {a b:Mt} (h1:PyData.strOk a.1=true) (h2:PyData.strOk b.1=true):neD (dM a) (dM b)=some (!decide (a=b)):=by
 show (if (SeqAt.shaped (dM a)&&SeqAt.shaped (dM b))=true then some (!PyData.eqv (dM a) (dM b)) else none)=_
 rw [sh_dM h1,sh_dM h2,if_pos (by rfl)]
 have:=eqvAll_dM [a] [b]
 simp only [List.map_cons,List.map_nil,PyData.eqvAll,Bool.and_true,List.cons.injEq,and_true] at this
 rw [this]
theorem andT_at {ft fu:TF} {ρ:List Ent} {a b:Bool} (h1:ft ρ=some (.ok a)) (h2:fu ρ=some (.ok b)):andT ft fu ρ=some (.ok (a&&b)):=by
 rw [andT_e,h1,fI]
 cases a
 ·rfl
 ·rw [if_pos rfl,h2];rfl
section
variable {s:List Mt} {P:List Ly}
abbrev r9 (ns:List Int) (s:List Mt) (P:List Ly) (x3 x4 x5 x6 x7 x8:Ent):List Ent:=[.val (dN ns),.val (dS s),.val (lI P),x3,x4,x5,x6,x7,x8]
theorem k5_is {ns:List Int} {x3 x4 x5:Ent} (h:Laid s P) (ok:∀ m∈s,PyData.strOk m.1=true) (hz:s.length≤10) {x:Mt} (hx:x∈s) (v:Int) :
  k5_law (r9 ns s P x3 x4 x5 (.val (dM x)) (.val (dL (lV P x.1 v))) .no)=some (.ok (.list ((fG s P x v).map dM))):=by
 have inP:∀ m∈s,m.1∈P.map (fun p=>p.1.1):=fun m hm=>(jD h).mpr (List.mem_map_of_mem hm)
 have nm:(lV P x.1 v).map (·.1)=P.map fun p=>p.1.1:=by rw [lV,List.map_map];rfl
 have e:fG s P x v=s.filter fun r=>!decide (r=x)&&(decide (ov r x)&&decide (gL (lV P x.1 v) r.1=v)):=by
  unfold fG
  refine List.filter_congr fun r hr=>?_
  by_cases c:r=x
  ·rw [decide_eq_true c];rfl
  ·rw [gL_V (inP r hr),if_neg (fun w=>c (cJ h.nd hr hx w))]
 rw [e]
 refine cN (t:=.nm 0) (cap:=[none,some 6,some 7]) (fi:=dH (var 1)) (fe:=var 0) (ρ:=r9 ns s P x3 x4 x5 (.val (dM x)) (.val (dL (lV P x.1 v))) .no) dM (fun m=>[.val (dM m),.val (dM x),.val (dL (lV P x.1 v))]) (fun r=>!decide (r=x)&&(decide (ov r x)&&decide (gL (lV P x.1 v) r.1=v))) dM s rfl (by omega) (fun m _=>rfl) (fun m hm=>?_) (fun m _ _=>rfl)
 refine andT_at (fH (x:=dM m) (y:=dM x) rfl rfl (ne_dM (ok m hm) (ok x hx))) (andT_at ?_ ?_)
 ·rw [truT_e,aZ (ds:=[dM m,dM x]) rfl (e_l_over m x)];rfl
 ·have g:gL (lV P x.1 v) x.1=v:=by rw [gL_V (inP x hx),if_pos rfl]
  have:=fH (g:=eqD) (ρ:=[.val (dM m),.val (dM x),.val (dL (lV P x.1 v))]) (kR (g:=nW) (fa:=var 2) (fb:=op2 ixD (var 0) (cst (.int 0))) (x:=dL (lV P x.1 v)) (y:=.str m.1) rfl rfl (get_L (by rw [nm];exact inP m hm))) (kR (g:=nW) (fa:=var 2) (fb:=op2 ixD (var 1) (cst (.int 0))) (x:=dL (lV P x.1 v)) (y:=.str x.1) rfl rfl (get_L (by rw [nm];exact inP x hx))) eq_ii
  rw [g] at this
  exact this
theorem flat_rows (l:List Mt):(l.map dM).all flatT=true:=List.all_eq_true.mpr fun d hd=>by obtain ⟨m,_,rfl⟩:=List.mem_map.mp hd;rfl
theorem sh_rows11 {s:List Mt} (h:∀ m∈s,PyData.strOk m.1=true):SeqAt.shaped (.list (s.map dM))=true:=sh_list (n:=2) (fun d hd=>by
 obtain ⟨m,hm,rfl⟩:=List.mem_map.mp hd
 rw [PyData.canLay0]
 exact kY fun d hd=>by
  have:d=.str m.1∨d=.int m.2.1∨d=.int m.2.2:=by simpa using hd
  rcases this with rfl | rfl | rfl
  ·simpa [PyData.canLay0] using h m hm
  ·simp [PyData.canLay0]
  ·simp [PyData.canLay0]) (fun d hd=>by
 obtain ⟨m,hm,rfl⟩:=List.mem_map.mp hd
 rw [PyData.depth]
 have:PyData.depthAll [PyData.str m.1,.int m.2.1,.int m.2.2]≤1:=jI fun d hd=>by
  have:d=.str m.1∨d=.int m.2.1∨d=.int m.2.2:=by simpa using hd
  rcases this with rfl | rfl | rfl<;>simp [PyData.depth]
 omega) (by decide)
abbrev ND (e:Ent):Prop:=∀ ks,e≠.dct ks
theorem nd_is {e:Ent} (h:ND e):(match some e with | some (.dct _)=>false | _=>true)=true:=by
 cases e with
 | dct ks=>exact absurd rfl (h ks)
 | _=>rfl
theorem noD9 {a b c d:PyData} {x3 x4 x5:Ent} (h3:ND x3) (h4:ND x4) (h5:ND x5):noD 7 [.val a,.val b,.val c,x3,x4,x5,.val d,.no,.no]=true:=by
 unfold noD
 rw [List.all_eq_true]
 intro j hj
 have hj:j<9:=List.mem_range.mp hj
 rw [Bool.or_eq_true]
 right
 rcases j with _ | _ | _ | _ | _ | _ | _ | _ | _ | j
 ·rfl
 ·rfl
 ·rfl
 ·exact nd_is h3
 ·exact nd_is h4
 ·exact nd_is h5
 ·rfl
 ·rfl
 ·rfl
 ·omega
abbrev tailL:SF:=(aY (fP 6 (op2 ixD (var 1) (aS bM (aC (var 0) (aC (cst (.int 100)) (aC (dP lenD (aC (var 1) aJ)) aJ)))))) (aY (newDC 7 (var 2)) (aY (putDS 7 (op2 ixD (var 6) (cst (.int 0))) (aS bM (aC (var 0) (aC (cst (.int 101)) (aC (cst (.int 4)) aJ))))) (aY (setCU 8 k5_law) (aY (ifS t6_law (retS (cst (.bool false))) mZ) (aY (popDS 7 (op2 ixD (var 6) (cst (.int 0)))) (frzS 7 (retS (isE false (.bool false) (fO bZ (aC (var 1) (aC (var 7) aJ))))))))))))
theorem law_end {ns:List Int} {x3 x4 x5:Ent} (h:Laid s P) (ok:∀ m∈s,PyData.strOk m.1=true) (hz:s.length≤10) (hs:s≠[]) (h3:ND x3) (h4:ND x4) (h5:ND x5):tailL (r9 ns s P x3 x4 x5 .no .no .no)=some (.rt (.bool true)):=by
 have hl0:0<s.length:=List.length_pos_iff.mpr hs
 have p1:=e_pick ns 100 ((s.length:Nat):Int) (by omega) (by omega)
 have p2:=gY ns 100 (many:=((s.length:Nat):Int)) (by omega)
 have p3:=gZ ns 100 (many:=((s.length:Nat):Int)) (by omega)
 generalize pickOf ns 100 ((s.length:Nat):Int)=r1 at p1 p2 p3
 have q1:=e_pick ns 101 4 (by omega) (by omega)
 generalize pickOf ns 101 4=v at q1
 have hr1:r1.toNat<s.length:=by omega
 have hx:s[r1.toNat]∈s:=List.getElem_mem hr1
 generalize ho:s[r1.toNat]=x at hx
 have hix:ixD (dS s) (.int r1)=some (dM x):=by
  show atI (s.map dM) r1=_
  unfold atI ixN
  rw [if_pos p2,if_pos (by rw [List.length_map];omega)]
  show (s.map dM)[r1.toNat]?=_
  rw [List.getElem?_map,List.getElem?_eq_getElem hr1,ho];rfl
 have u1:op2 ixD (var 1) (aS bM (aC (var 0) (aC (cst (.int 100)) (aC (dP lenD (aC (var 1) aJ)) aJ)))) (r9 ns s P x3 x4 x5 .no .no .no)=some (.ok (dM x)):=
  kR (x:=dS s) (y:=.int r1) rfl (aZ (ds:=[dN ns,.int 100,.int (s.length:Nat)]) (kE rfl (kE rfl (kE (by rw [show dP lenD (aC (var 1) aJ) (r9 ns s P x3 x4 x5 .no .no .no)=some (.ok (.int ((s.map dM).length:Nat))) from rfl,List.length_map]) rfl))) p1) hix
 show aY _ _ _=_
 rw [aM (ρ':=r9 ns s P x3 x4 x5 (.val (dM x)) .no .no) (by rw [lM,u1];rfl)]
 have pl:P.length=s.length:=h.lay.len
 have nin:x.1∈P.map fun p=>p.1.1:=(jD h).mpr (List.mem_map_of_mem hx)
 rw [aM (ρ':=r9 ns s P x3 x4 x5 (.val (dM x)) (.dct (enc P)) .no) (by
  unfold newDC
  rw [show var 2 (r9 ns s P x3 x4 x5 (.val (dM x)) .no .no)=some (.ok (.dict ((enc P).map fun p=>(bF p.1,p.2)))) from rfl,iT]
  dsimp only
  rw [keysK_enc]
  dsimp only
  rw [if_pos (by rw [Bool.and_eq_true];exact ⟨decide_eq_true (by rw [List.length_map];omega),noD9 h3 h4 h5⟩)]
  rfl)]
 rw [aM (ρ':=r9 ns s P x3 x4 x5 (.val (dM x)) (.dct (encV P x.1 v)) .no) (by
  unfold putDS
  dsimp only [List.getElem?_cons_succ,List.getElem?_cons_zero]
  rw [aZ (ds:=[dN ns,.int 101,.int 4]) rfl q1,iT,show op2 ixD (var 6) (cst (.int 0)) (r9 ns s P x3 x4 x5 (.val (dM x)) (.dct (enc P)) .no)=some (.ok (.str x.1)) from rfl,iT]
  dsimp only [dKey]
  rw [if_pos (by unfold cZ;exact decide_eq_true (by rw [List.length_map];omega)),put_enc v nin];rfl)]
 have fz:∀ y8 y8':Ent,gP y8=y8'→frzAll (r9 ns s P x3 x4 x5 (.val (dM x)) (.dct (encV P x.1 v)) y8)=r9 ns s P (gP x3) (gP x4) (gP x5) (.val (dM x)) (.val (dL (lV P x.1 v))) y8':=fun y8 y8' e=>by
  subst e
  rw [←dL_V];rfl
 rw [aM (ρ':=r9 ns s P x3 x4 x5 (.val (dM x)) (.dct (encV P x.1 v)) (.val (.list ((fG s P x v).map dM)))) (by
  unfold setCU
  rw [fz .no .no rfl,k5_is h ok hz hx v]
  dsimp only
  rw [if_pos (flat_rows _)];rfl)]
 have t6:t6_law (r9 ns s P x3 x4 x5 (.val (dM x)) (.dct (encV P x.1 v)) (.val (.list ((fG s P x v).map dM))))=some (.ok false):=by
  refine thT_at ?_
  rw [fz _ (.val (.list ((fG s P x v).map dM))) rfl]
  refine fH (x:=.bool (decide (fG s P x v=[]))) (y:=.bool (decide (fG s P x v=[]))) (eE (ds:=[dS s,dL (lV P x.1 v)]) rfl (laid_V h hz hx v)) ?_ (by rw [ne_bb,decide_eq_true rfl];rfl)
  refine cmpE_at (x:=.list ((fG s P x v).map dM)) (y:=.list []) rfl rfl ?_
  rw [eq_nil (sh_rows11 (s:=fG s P x v) fun m hm=>ok m (List.mem_filter.mp hm).1)]
  cases fG s P x v<;>rfl
 rw [aM (ρ':=r9 ns s P x3 x4 x5 (.val (dM x)) (.dct (encV P x.1 v)) (.val (.list ((fG s P x v).map dM)))) (by rw [iN,t6];rfl)]
 obtain ⟨l,el,hl⟩:=drop_V h hx v
 rw [aM (ρ':=r9 ns s P x3 x4 x5 (.val (dM x)) (.dct (dropKD (encV P x.1 v) (.inr x.1))) (.val (.list ((fG s P x v).map dM)))) (by
  unfold popDS
  dsimp only [List.getElem?_cons_succ,List.getElem?_cons_zero]
  rw [show op2 ixD (var 6) (cst (.int 0)) (r9 ns s P x3 x4 x5 (.val (dM x)) (.dct (encV P x.1 v)) (.val (.list ((fG s P x v).map dM))))=some (.ok (.str x.1)) from rfl,iT]
  dsimp only [dKey]
  have g:nW (.dict ((encV P x.1 v).map fun p=>(bF p.1,p.2))) (.str x.1)=some (.int (gL (lV P x.1 v) x.1)):=by
   rw [dL_V,get_L (by rw [lV,List.map_map];exact nin)]
  have g:nD (.inr x.1) ((encV P x.1 v).map fun p=>(bF p.1,p.2))=some (.int (gL (lV P x.1 v) x.1)):=g
  rw [if_pos (by rw [g];rfl)];rfl)]
 show retS (isE false (.bool false) (fO bZ (aC (var 1) (aC (var 7) aJ)))) (r9 ns s P x3 x4 x5 (.val (dM x)) (.val (.dict ((dropKD (encV P x.1 v) (.inr x.1)).map fun p=>(bF p.1,p.2)))) (.val (.list ((fG s P x v).map dM))))=_
 rw [el,dO,isE_e,eE (ds:=[dS s,dL l]) rfl (not_laid h.nd hz (by omega) (by omega))]
 rfl
end
theorem e_law (ns:List Int) (hl:ns.length≤63):F_law [dN ns]=some (.ok (.bool true)):=by
 have S:=sheet_ok ns 0 (most:=10) (by omega) (by omega)
 have es:=e_sheet ns 0 10 (by omega) (by omega) (by omega)
 generalize iY ns 0 10=s at S es
 have hz:=S.few
 obtain ⟨P,hP,_,hc⟩:=e_columns S.nodup (by omega:s.length<64)
 have h:Laid s P:=⟨hP,fun m hm=>(S.times m hm).2.1,S.nodup⟩
 refine bU rfl ?_
 show f_law [.val (dN ns),.no,.no,.no,.no,.no,.no,.no,.no]=_
 unfold f_law
 rw [aM (ρ':=[.val (dN ns),.val (dS s),.no,.no,.no,.no,.no,.no,.no]) (by rw [lM,aZ (ds:=[dN ns,.int 0,.int 10]) rfl es];rfl)]
 rw [aM (ρ':=r9 ns s P .no .no .no .no .no .no) (by rw [lM,aZ (ds:=[dS s]) rfl hc];rfl)]
 have t1:t1_law (r9 ns s P .no .no .no .no .no .no)=some (.ok false):=by
  refine or_ff (fH (x:=lI P) (y:=lI P) rfl (aZ (ds:=[dS s]) rfl (e_l_laying h hz)) ?_) ?_
  ·show (eqKD (lI P) (lI P)).map _=_
   rw [eq_col h];rfl
  ·rw [isT_e,eE (ds:=[dS s,lI P]) rfl (laid_told h hz)];rfl
 rw [aM (ρ':=r9 ns s P .no .no .no .no .no .no) (by rw [iN,t1];rfl)]
 have L:∃ ρ',cU (.nm 3) b1_law ((bY (dA s)).map gD) (r9 ns s P .no .no .no .no .no .no)=some (.nx ρ')∧∃ x3 x4 x5,ρ'=r9 ns s P x3 x4 x5 .no .no .no∧ND x3∧ND x4∧ND x5:=by
  refine loopS_all gD (fun ρ=>∃ x3 x4 x5,ρ=r9 ns s P x3 x4 x5 .no .no .no∧ND x3∧ND x4∧ND x5) _ _ ⟨_,_,_,rfl,nofun,nofun,nofun⟩ ?_
  rintro A hA _ ⟨x3,x4,x5,rfl,_,_,_⟩
  obtain ⟨y,hy,rfl⟩:=grp_wid h hA
  obtain ⟨d4,d5,e⟩:=turnG (ns:=ns) (x4:=x4) (x5:=x5) h hz hy
  exact ⟨_,_,rfl,.inl e,_,_,_,rfl,nofun,nofun,nofun⟩
 obtain ⟨_,e,x3,x4,x5,rfl,n3,n4,n5⟩:=L
 rw [aM (by rw [mG,fY (aZ (ds:=[dS s]) rfl (e_groups S.nodup (by omega))) rfl,iT];exact e)]
 have nn:∀ x∈(["none", "zzzz"]:List Str),x∉s.map (·.1):=fun x hx z=>by
  rw [S.names] at z
  exact (show ∀ x∈(["none", "zzzz"]:List Str),x∉bD by decide +kernel) x hx (List.mem_of_mem_take z)
 have k4:k4_law (r9 ns s P x3 x4 x5 .no .no .no)=some (.ok (.list [.bool true,.bool true])):=
  cO (t:=.nm 0) (cap:=[none,some 1]) (fe:=aS dQ (aC (var 1) (aC (var 0) aJ))) (fi:=dH (tupE (aC (cst (.str "none")) (aC (cst (.str "zzzz")) aJ)))) (ρ:=r9 ns s P x3 x4 x5 .no .no .no) PyData.str (fun x=>[.val (.str x),.val (dS s)]) (fun _=>.bool true) ["none", "zzzz"] rfl (by decide) (fun _ _=>rfl) (fun x hx=>aZ (ds:=[dS s,.str x]) rfl (e_refused S.nodup (by omega) (nn x hx)))
 have t4:t4_law (r9 ns s P x3 x4 x5 .no .no .no)=some (.ok false):=fH (x:=.list [.bool true,.bool true]) (y:=.list [.bool true,.bool true]) k4 rfl (by decide +kernel)
 rw [aM (ρ':=r9 ns s P x3 x4 x5 .no .no .no) (by rw [iN,t4];rfl)]
 have t5:t5_law (r9 ns s P x3 x4 x5 .no .no .no)=some (.ok (s.map dM).isEmpty):=by
  refine fH (x:=dS s) (y:=.tuple []) rfl rfl ?_
  rw [eq_tuples (sh_dS S.name_ok) (by decide +kernel),eqv_nil]
 by_cases hs:s=[]
 ·have hp:P=[]:=List.length_eq_zero_iff.mp (by rw [hP.len,hs];rfl)
  exact mQ (by rw [iN,t5,iT,hs,hp];rfl)
 rw [aM (ρ':=r9 ns s P x3 x4 x5 .no .no .no) (by
  rw [iN,t5,iT]
  cases s with
  | nil=>exact absurd rfl hs
  | cons a r=>rfl)]
 exact law_end h S.name_ok hz hs n3 n4 n5
end L2.L3
namespace L2.L3
theorem len1 {α:Type} {l:List α} (h:l.length=1):∃ a,l=[a]:=by
 cases l with
 | nil=>cases h
 | cons a l=>cases l with
  | nil=>exact ⟨a,rfl⟩
  | cons b l=>simp at h
theorem lenS {α:Type} {l:List α} {n:Nat} (h:l.length=n+1):∃ a r,l=a::r∧r.length=n:=by
 cases l with
 | nil=>cases h
 | cons a r=>exact ⟨a,r,rfl,by simpa using h⟩
theorem len2 {α:Type} {l:List α} (h:l.length=2):∃ a b,l=[a,b]:=by
 obtain ⟨a,r,rfl,k⟩:=lenS h;obtain ⟨b,rfl⟩:=len1 k;exact ⟨a,b,rfl⟩
theorem len3 {α:Type} {l:List α} (h:l.length=3):∃ a b c,l=[a,b,c]:=by
 obtain ⟨a,r,rfl,k⟩:=lenS h;obtain ⟨b,c,rfl⟩:=len2 k;exact ⟨a,b,c,rfl⟩
end L2.L3
namespace L2.L3
open PySem PySem.Spec PyProof.Rows
section
variable {X:Cx} {e b:Expr} {es:List Expr} {pos p p0 p1 lp sp:Pos} {x y:Str} {k k':Nat} {ps ps':List Str} {F F':List PyData→Mm PyData} {fa:AF} {fb:EF}
end
end L2.L3
namespace HT
open PySem PySem.Spec PyProof.Rows
section
variable {prog:Program} {w:World} {A:Around} {E:Value→Shared→Prop} {s:Shared}
end
end HT
namespace L2
open PySem PySem.Spec PyProof.Rows
end L2
namespace L2.L3
open PySem PySem.Spec PyProof.Rows
section
variable {X:Cx} {a:Expr} {lo hi:Option Expr} {fa:EF} {fl fh:OF} {pos p2:Pos}
end
def top (i:Nat):Stmt:=PySem.Challenge.pw_daysheet_k11_whole_columns.main.body.getD i (.Pass ⟨0,0,0,0⟩)
structure Blt (mg:Str→Option Value):Prop where
 b_all:mg "all" = none
 b_any:mg "any" = none
 b_bool:mg "bool" = none
 b_dict:mg "dict" = none
 b_int:mg "int" = none
 b_isinstance:mg "isinstance" = none
 b_len:mg "len" = none
 b_list:mg "list" = none
 b_max:mg "max" = none
 b_min:mg "min" = none
 b_range:mg "range" = none
 b_set:mg "set" = none
 b_sorted:mg "sorted" = none
 b_tuple:mg "tuple" = none
section
variable {P:Program} {w:World} {K:PySem.W.Frag} {mg:Str→Option Value} {base:Heap}
theorem fS {N P:List Str} {sc:Scope} (a:sc.kind=.function:=by rfl) (b:sc.isCoroutine=false:=by rfl) (c:sc.isGenerator=false:=by rfl) (d:N.Nodup:=by decide +kernel) (e:N.take P.length=P:=by rfl) (f:∀ x∈P,sc.names.lookup x=some .local∨sc.names.lookup x=some .cell:=by decide +kernel) (g:∀ y∈sc.names,y.2≠.free:=by decide +kernel):FnScope N P sc:=⟨a,b,c,d,e,f,g⟩
theorem hM {k j:Nat} {A:Around} (r:Room k A) (h:j≤k:=by decide):Room j A:=r.mono h
abbrev s_l_cell:Stmt:=top 25
noncomputable abbrev n_l_cell:List Str:=["_law_script", "_law_k"]
theorem sc_l_cell:FnScope n_l_cell ["_law_script", "_law_k"] (aD s_l_cell):=fS
theorem c_l_cell (D:Def K mg "_law_cell" s_l_cell) (B:Blt mg) (XF:ExL fA K)  : aK P w K mg base "_law_cell" 1 ["_law_script", "_law_k"] F_l_cell:=by
 refine aR 2 2 D sc_l_cell rfl rfl (fun _ _ _ _ _ _ us hl=>by obtain ⟨_,_,rfl⟩:=len2 hl;rfl) (fun fa cdv A outer s H E hr=>?_)
 exact (aL (kC (cM lt_ok (aA 1) (bS len_ok B.b_len boot_len (aB (aA 0) aH))) (aO (aT (bN (aA 0) (aA 1)))) gT) (aL (kC (cM (eq_ok hr.units) (aA 0) (de_lst aH)) (aO (aT aI)) gT) (aO (aT (bC dB (bC nT (bN (aA 0) (bC mod_ok (aA 1) (bS len_ok B.b_len boot_len (aB (aA 0) aH)))) aI) (aA 1))))))
abbrev s_l_pick:Stmt:=top 26
noncomputable abbrev n_l_pick:List Str:=["_law_script", "_law_k", "_law_many", "_law_drawn"]
theorem sc_l_pick:FnScope n_l_pick ["_law_script", "_law_k", "_law_many"] (aD s_l_pick):=fS
theorem c_l_pick (D:Def K mg "_law_pick" s_l_pick) (B:Blt mg) (XF:ExL fA K) (C_l_cell:aK P w K mg base "_law_cell" 1 ["_law_script", "_law_k"] F_l_cell):aK P w K mg base "_law_pick" 2 ["_law_script", "_law_k", "_law_many"] bM:=by
 refine aR 4 3 D sc_l_pick rfl rfl (fun _ _ _ _ _ _ us hl=>by obtain ⟨_,_,_,rfl⟩:=len3 hl;rfl) (fun fa cdv A outer s H E hr=>?_)
 exact (aL (dF 3 sc_l_pick.nd (bC mod_ok (bC nT (bC dB (aQ C_l_cell (hM hr) (aB (aA 0) (aB (aA 1) aH))) (bC nT aI (bC dB (aA 1) aI))) aI) aI)) (aO (aT (bC mod_ok (bC mod_ok (bC dB (bC nT (aA 3) (aA 3)) (bC fdv_ok (aA 3) aI)) aI) (aA 2)))))
abbrev s_l_sheet:Stmt:=top 27
noncomputable abbrev n_l_sheet:List Str:=["_law_script", "_law_at", "_law_most_here", "_law_span", "_law_names", "_law_made", "_law_k", "_law_begin", "_law_size"]
theorem eL:FnScope n_l_sheet ["_law_script", "_law_at", "_law_most_here"] (aD s_l_sheet):=fS
theorem c_l_sheet (D:Def K mg "_law_sheet" s_l_sheet) (B:Blt mg) (XF:ExL fA K) (C_l_pick:aK P w K mg base "_law_pick" 2 ["_law_script", "_law_k", "_law_many"] bM):aK P w K mg base "_law_sheet" 3 ["_law_script", "_law_at", "_law_most_here"] mX:=by
 refine aR 9 3 D eL rfl rfl (fun _ _ _ _ _ _ us hl=>by obtain ⟨_,_,_,rfl⟩:=len3 hl;rfl) (fun fa cdv A outer s H E hr=>?_)
 exact (aL (dF 3 eL.nd (bN (de_lst (aB aI (aB aI (aB aI (aB aI aH))))) (aQ C_l_pick (hM hr) (aB (aA 0) (aB (aA 1) (aB aI aH)))))) (aL (dF 4 eL.nd (de_lst (aB gS (aB gS (aB gS (aB gS (aB gS (aB gS (aB gS (aB gS (aB gS (aB gS aH)))))))))))) (aL (ds_new 5 eL.nd aH) (aL (ds_for PassesOwn.never rfl (di_rng1 B.b_range (aQ C_l_pick (hM hr) (aB (aA 0) (aB (bC dB (aA 1) aI) (aB (bC dB (aA 2) aI) aH))))) (bP 6 eL.nd) (aL (dF 7 eL.nd (aQ C_l_pick (hM hr) (aB (aA 0) (aB (bC dB (bC dB (aA 1) aI) (bC nT aI (aA 6))) (aB (aA 3) aH))))) (aL (dF 8 eL.nd (bC dB aI (aQ C_l_pick (hM hr) (aB (aA 0) (aB (bC dB (bC dB (aA 1) aI) (bC nT aI (aA 6))) (aB (bN (de_lst (aB aI (aB aI (aB (aA 3) aH)))) (aQ C_l_pick (hM hr) (aB (aA 0) (aB (bC dB (bC dB (aA 1) aI) (bC nT aI (aA 6))) (aB aI aH))))) aH)))))) (aO (ds_app 5 (jS (aB (bN (aA 4) (aA 6)) (aB (aA 7) (aB (bC dB (aA 7) (aA 8)) aH))))))))) (db_frz 5 (aO (aT (mJ tup_ok B.b_tuple boot_tuple (aB (aA 5) aH)))))))))
abbrev fD:Stmt:=top 14
theorem nN:FnScope ["sheet"] ["sheet"] (aD fD):=fS
theorem c_in_laying_order {c T:Addr} (D:Def K mg "in_laying_order" fD) (B:Blt mg) (kb:K.In base) (nb:base.Ns mainGlobals mg) (M:BM mg base) (ht:PySem.W.tabIn K "in_laying_order" = some (c,T)) (hC:PySem.W.codeHdIn K c T=true) (XF:ExL fA K)  : aK P w K mg base "in_laying_order" 5 ["sheet"] bW:=by
 refine callee_denL 1 1 D nN rfl rfl kb nb ht (fun _ _ _ _ _ _ us hl=>by obtain ⟨_,rfl⟩:=len1 hl;rfl) (fun fa A outer s H E hr=>?_)
 exact (aO (aT (de_sortK (k:=1) (y := "meeting") (by unfold gG;simp) ht rfl rfl hC M (hM hr) B.b_sorted (aA 0) (by exact fS) (fun f c A outer s H hr=>(jS (aB (bN (aA 0) aI) (aB (de_neg (bN (aA 0) aI)) (aB (bN (aA 0) aI) aH))))))))
abbrev s_overlap:Stmt:=top 7
theorem sc_overlap:FnScope ["one", "other"] ["one", "other"] (aD s_overlap):=fS
theorem c_overlap (D:Def K mg "overlap" s_overlap) (B:Blt mg) (XF:ExL fA K)  : aK P w K mg base "overlap" 1 ["one", "other"] fW:=by
 refine aR 2 2 D sc_overlap rfl rfl (fun _ _ _ _ _ _ us hl=>by obtain ⟨_,_,rfl⟩:=len2 hl;rfl) (fun fa cdv A outer s H E hr=>?_)
 exact (aO (aT (de_cmp lt_ok (bS (max_ok rfl) B.b_max boot_max (aB (bN (aA 0) aI) (aB (bN (aA 1) aI) aH))) (bS (min_ok rfl) B.b_min boot_min (aB (bN (aA 0) aI) (aB (bN (aA 1) aI) aH))))))
abbrev kN:Stmt:=top 17
theorem jN:FnScope ["taken", "column"] ["taken"] (aD kN):=fS
theorem c_first_free (D:Def K mg "first_free" kN) (B:Blt mg) (XF:ExL fA K)  : aK P w K mg base "first_free" 1 ["taken"] iB:=by
 refine aR 2 1 D jN rfl rfl (fun _ _ _ _ _ _ us hl=>by obtain ⟨_,rfl⟩:=len1 hl;rfl) (fun fa cdv A outer s H E hr=>?_)
 exact (aL (dF 1 jN.nd aI) (aL (ds_while 1000 PassesOwn.never (cM (inX_ok hr.units1) (aA 1) (aA 0)) (aO (ds_aug 1 jN.nd aI))) (aO (aT (aA 1)))))
abbrev eI:Stmt:=top 18
noncomputable abbrev lD:List Str:=["sheet", "laid", "meeting", "taken"]
theorem dR:FnScope lD ["sheet"] (aD eI):=fS
theorem c_laid_meetings (D:Def K mg "laid_meetings" eI) (B:Blt mg) (XF:ExL fA K) (C_in_laying_order:aK P w K mg base "in_laying_order" 5 ["sheet"] bW) (C_overlap:aK P w K mg base "overlap" 1 ["one", "other"] fW) (C_first_free:aK P w K mg base "first_free" 1 ["taken"] iB):aK P w K mg base "laid_meetings" 6 ["sheet"] dC:=by
 refine aR 4 1 D dR rfl rfl (fun _ _ _ _ _ _ us hl=>by obtain ⟨_,rfl⟩:=len1 hl;rfl) (fun fa cdv A outer s H E hr=>?_)
 have nd1:(["other", "column", "meeting"]:List Str).Nodup:=by decide +kernel
 exact (aL (ds_new 1 dR.nd aH) (aL (ds_for PassesOwn.never rfl (bR (aQ C_in_laying_order (hM hr) (aB (aA 0) aH))) (bP 2 dR.nd) (aL (ds_setCT 3 dR.nd (N':=["other", "column", "meeting"]) (cap:=[none,none,some 2]) rfl (cF (so:=aD eI) (NN:=lD) rfl rfl (by decide +kernel)) (bR (aA 1)) rfl (fun _ _ _ _=>(mI rfl (bB 0 nd1 (bB 1 nd1 jH)))) (fun _ _ _ _=>(gA (dt_tru (aQ C_overlap (hM hr) (aB (aA 2) (aB (aA 0) aH)))))) (fun _ _ _ _=>aA 1)) (aO (ds_app 1 (jS (aB (aA 2) (aB (aQ C_first_free (hM hr) (aB (aA 3) aH)) aH))))))) (db_frz 1 (aO (aT (aA 1))))))
abbrev mS:Stmt:=top 19
theorem sc_columns:FnScope ["sheet"] ["sheet"] (aD mS):=fS
theorem c_columns (D:Def K mg "columns" mS) (B:Blt mg) (XF:ExL fA K) (C_laid_meetings:aK P w K mg base "laid_meetings" 6 ["sheet"] dC):aK P w K mg base "columns" 7 ["sheet"] mY:=by
 refine aR 1 1 D sc_columns rfl rfl (fun _ _ _ _ _ _ us hl=>by obtain ⟨_,rfl⟩:=len1 hl;rfl) (fun fa cdv A outer s H E hr=>?_)
 have nd1:(["meeting", "column"]:List Str).Nodup:=by decide +kernel
 exact (aO (aT (mJ (dict_ok rfl) B.b_dict boot_dict (aB (cB (N':=["meeting", "column"]) (cap:=[none,none]) rfl (cF (so:=aD mS) (NN:=["sheet"]) rfl rfl (by decide +kernel)) (bR (aQ C_laid_meetings (hM hr) (aB (aA 0) aH))) rfl (fun _ _ _ _=>(mI rfl (bB 0 nd1 (bB 1 nd1 jH)))) (fun _ _ _ _=>eK) (fun _ _ _ _=>(jS (aB (bN (aA 0) aI) (aB (aA 1) aH))))) aH))))
abbrev s_groups:Stmt:=top 15
noncomputable abbrev n_groups:List Str:=["sheet", "told", "reach", "name", "begin", "end"]
theorem eV:FnScope n_groups ["sheet"] (aD s_groups):=fS
theorem c_groups (D:Def K mg "groups" s_groups) (B:Blt mg) (XF:ExL fA K) (C_in_laying_order:aK P w K mg base "in_laying_order" 5 ["sheet"] bW):aK P w K mg base "groups" 6 ["sheet"] kH:=by
 refine aR 6 1 D eV rfl rfl (fun _ _ _ _ _ _ us hl=>by obtain ⟨_,rfl⟩:=len1 hl;rfl) (fun fa cdv A outer s H E hr=>?_)
 have nd1:(["group"]:List Str).Nodup:=by decide +kernel
 exact (aL (ds_newN 1 eV.nd) (aL (dF 2 eV.nd aI) (aL (ds_for PassesOwn.never rfl (bR (aQ C_in_laying_order (hM hr) (aB (aA 0) aH))) (mI rfl (bB 3 eV.nd (bB 4 eV.nd (bB 5 eV.nd jH)))) (aO (kC (DW.dt (dw_and (dt_truN 1) (dw_and1 (cM lt_ok (aA 4) (aA 2))))) (aL (ds_lastN 1 (aA 3)) (aO (dF 2 eV.nd (bS (max_ok rfl) B.b_max boot_max (aB (aA 2) (aB (aA 5) aH)))))) (aL (ds_pushN 1 (aB (aA 3) aH)) (aO (dF 2 eV.nd (aA 5))))))) (db_frzN 1 (aO (aT (cB (N':=["group"]) (cap:=[none]) rfl (cF (so:=aD s_groups) (NN:=n_groups) rfl rfl (by decide +kernel)) (bR (aA 1)) rfl (fun _ _ _ _=>bP 0 nd1) (fun _ _ _ _=>eK) (fun _ _ _ _=>(bS srtY_ok B.b_sorted boot_sorted (aB (aA 0) aH))))))))))
abbrev s_l_load:Stmt:=top 29
noncomputable abbrev n_l_load:List Str:=["_law_sheet_here", "_law_moment"]
theorem sc_l_load:FnScope n_l_load ["_law_sheet_here", "_law_moment"] (aD s_l_load):=fS
theorem c_l_load (D:Def K mg "_law_load" s_l_load) (B:Blt mg) (XF:ExL fA K)  : aK P w K mg base "_law_load" 1 ["_law_sheet_here", "_law_moment"] F_l_load:=by
 refine aR 2 2 D sc_l_load rfl rfl (fun _ _ _ _ _ _ us hl=>by obtain ⟨_,_,rfl⟩:=len2 hl;rfl) (fun fa cdv A outer s H E hr=>?_)
 have nd1:(["_law_one", "_law_moment"]:List Str).Nodup:=by decide +kernel
 exact (aO (aT (bS len_ok B.b_len boot_len (aB (cB (N':=["_law_one", "_law_moment"]) (cap:=[none,some 1]) rfl (cF (so:=aD s_l_load) (NN:=n_l_load) rfl rfl (by decide +kernel)) (bR (aA 0)) rfl (fun _ _ _ _=>bP 0 nd1) (fun _ _ _ _=>(gA (dt_chn le_ok lt_ok (bN (aA 0) aI) (aA 1) (bN (aA 0) aI)))) (fun _ _ _ _=>aA 0)) aH))))
abbrev s_l_most:Stmt:=top 30
theorem sc_l_most:FnScope ["_law_sheet_here"] ["_law_sheet_here"] (aD s_l_most):=fS
theorem c_l_most (D:Def K mg "_law_most" s_l_most) (B:Blt mg) (XF:ExL fA K) (C_l_load:aK P w K mg base "_law_load" 1 ["_law_sheet_here", "_law_moment"] F_l_load):aK P w K mg base "_law_most" 2 ["_law_sheet_here"] F_l_most:=by
 refine aR 1 1 D sc_l_most rfl rfl (fun _ _ _ _ _ _ us hl=>by obtain ⟨_,rfl⟩:=len1 hl;rfl) (fun fa cdv A outer s H E hr=>?_)
 have nd1:(["_law_one", "_law_sheet_here"]:List Str).Nodup:=by decide +kernel
 exact (aO (aT (bS (max_ok rfl) B.b_max boot_max (aB (bC dB (de_lst (aB aI aH)) (cB (N':=["_law_one", "_law_sheet_here"]) (cap:=[none,some 0]) rfl (cF (so:=aD s_l_most) (NN:=["_law_sheet_here"]) rfl rfl (by decide +kernel)) (bR (aA 0)) rfl (fun _ _ _ _=>bP 0 nd1) (fun _ _ _ _=>eK) (fun _ _ _ _=>(aQ C_l_load (hM hr) (aB (aA 1) (aB (bN (aA 0) aI) aH)))))) aH))))
abbrev kK:Stmt:=top 5
theorem sc_names_of:FnScope ["sheet"] ["sheet"] (aD kK):=fS
theorem c_names_of (D:Def K mg "names_of" kK) (B:Blt mg) (XF:ExL fA K)  : aK P w K mg base "names_of" 1 ["sheet"] eQ:=by
 refine aR 1 1 D sc_names_of rfl rfl (fun _ _ _ _ _ _ us hl=>by obtain ⟨_,rfl⟩:=len1 hl;rfl) (fun fa cdv A outer s H E hr=>?_)
 have nd1:(["meeting"]:List Str).Nodup:=by decide +kernel
 exact (aO (aT (cB (N':=["meeting"]) (cap:=[none]) rfl (cF (so:=aD kK) (NN:=["sheet"]) rfl rfl (by decide +kernel)) (bR (aA 0)) rfl (fun _ _ _ _=>bP 0 nd1) (fun _ _ _ _=>eK) (fun _ _ _ _=>(bN (aA 0) aI)))))
abbrev nO:Stmt:=top 4
theorem sc_is_whole:FnScope ["thing"] ["thing"] (aD nO):=fS
theorem c_is_whole (D:Def K mg "is_whole" nO) (B:Blt mg) (XF:ExL fA K)  : aK P w K mg base "is_whole" 1 ["thing"] fX:=by
 refine aR 1 1 D sc_is_whole rfl rfl (fun _ _ _ _ _ _ us hl=>by obtain ⟨_,rfl⟩:=len1 hl;rfl) (fun fa cdv A outer s H E hr=>?_)
 exact (aO (aT (de_and (de_isinst B.b_isinstance B.b_int boot_int (aA 0)) (de_one (de_not (de_isinst B.b_isinstance B.b_bool boot_bool (aA 0)))))))
abbrev jO:Stmt:=top 6
noncomputable abbrev n_meeting_ofX:List Str:=["sheet", "name", "meeting"]
theorem lO:FnScope n_meeting_ofX ["sheet", "name"] (aD jO):=fS
theorem c_meeting_ofX (D:Def K mg "meeting_of" jO) (B:Blt mg) (XF:ExL fA K)  : CalleeX P w K mg base "meeting_of" 1 ["sheet", "name"] gF:=by
 refine eZ 3 2 D lO rfl rfl (fun _ _ _ _ _ _ us hl=>by obtain ⟨_,_,rfl⟩:=len2 hl;rfl) (fun fa cdv A outer s H E hr=>?_)
 exact (aL (ds_nox (ds_for PassesOwn.never rfl (bR (aA 0)) (bP 2 lO.nd) (aO (kC (cM (eq_ok hr.units) (bN (aA 2) aI) (aA 1)) (aO (aT (aA 2))) gT)))) (aO (ds_raiseL XF rfl)))
abbrev jA:Stmt:=top 8
noncomputable abbrev n_partnersX:List Str:=["sheet", "name", "meeting"]
theorem sc_partnersX:FnScope n_partnersX ["sheet", "name"] (aD jA):=fS
theorem c_partnersX (D:Def K mg "partners" jA) (B:Blt mg) (XF:ExL fA K) (C_meeting_ofX:CalleeX P w K mg base "meeting_of" 1 ["sheet", "name"] gF) (C_overlap:aK P w K mg base "overlap" 1 ["one", "other"] fW):CalleeX P w K mg base "partners" 2 ["sheet", "name"] jJ:=by
 refine eZ 3 2 D sc_partnersX rfl rfl (fun _ _ _ _ _ _ us hl=>by obtain ⟨_,_,rfl⟩:=len2 hl;rfl) (fun fa cdv A outer s H E hr=>?_)
 have nd1:(["other", "meeting", "name"]:List Str).Nodup:=by decide +kernel
 exact (aL (dF 2 sc_partnersX.nd (fF C_meeting_ofX (hM hr) (aB (aA 0) (aB (aA 1) aH)))) (aO (aT (cB (N':=["other", "meeting", "name"]) (cap:=[none,some 2,some 1]) rfl (cF (so:=aD jA) (NN:=n_partnersX) rfl rfl (by decide +kernel)) (bR (aA 0)) rfl (fun _ _ _ _=>bP 0 nd1) (fun _ _ _ _=>(gA (DW.dt (dw_and (cM (ne_ok hr.units) (bN (aA 0) aI) (aA 2)) (dw_and1 (dt_tru (aQ C_overlap (hM hr) (aB (aA 1) (aB (aA 0) aH))))))))) (fun _ _ _ _=>(bN (aA 0) aI))))))
abbrev dU:Stmt:=top 20
noncomputable abbrev jY:List Str:=["sheet", "laying", "name"]
theorem sc_shares_columnX:FnScope jY ["sheet", "laying", "name"] (aD dU):=fS
theorem c_shares_columnX (D:Def K mg "shares_column" dU) (B:Blt mg) (XF:ExL fA K) (C_partnersX:CalleeX P w K mg base "partners" 2 ["sheet", "name"] jJ):CalleeX P w K mg base "shares_column" 3 ["sheet", "laying", "name"] dZ:=by
 refine eZ 3 3 D sc_shares_columnX rfl rfl (fun _ _ _ _ _ _ us hl=>by obtain ⟨_,_,_,rfl⟩:=len3 hl;rfl) (fun fa cdv A outer s H E hr=>?_)
 have nd1:(["other", "laying", "name"]:List Str).Nodup:=by decide +kernel
 exact (aO (aT (bS (any_ok rfl) B.b_any boot_any (aB (cB (N':=["other", "laying", "name"]) (cap:=[none,some 1,some 2]) rfl (cF (so:=aD dU) (NN:=jY) rfl rfl (by decide +kernel)) (bR (fF C_partnersX (hM hr) (aB (aA 0) (aB (aA 2) aH)))) rfl (fun _ _ _ _=>bP 0 nd1) (fun _ _ _ _=>eK) (fun _ _ _ _=>(de_cmp (eq_ok hr.units) (de_ixK (aA 1) (aA 0)) (de_ixK (aA 1) (aA 2))))) aH))))
abbrev iE:Stmt:=top 21
theorem sc_is_laidX:FnScope ["sheet", "laying"] ["sheet", "laying"] (aD iE):=fS
theorem c_is_laidX (D:Def K mg "is_laid" iE) (B:Blt mg) (XF:ExL fA K) (C_names_of:aK P w K mg base "names_of" 1 ["sheet"] eQ) (C_is_whole:aK P w K mg base "is_whole" 1 ["thing"] fX) (C_shares_columnX:CalleeX P w K mg base "shares_column" 3 ["sheet", "laying", "name"] dZ):CalleeX P w K mg base "is_laid" 4 ["sheet", "laying"] bZ:=by
 refine eZ 2 2 D sc_is_laidX rfl rfl (fun _ _ _ _ _ _ us hl=>by obtain ⟨_,_,rfl⟩:=len2 hl;rfl) (fun fa cdv A outer s H E hr=>?_)
 have nd1:(["column"]:List Str).Nodup:=by decide +kernel
 have nd2:(["name", "laying", "sheet"]:List Str).Nodup:=by decide +kernel
 exact (aL (kC (dt_setNe rfl hr.units B.b_set (aA 1) (aQ C_names_of (hM hr) (aB (aA 0) aH))) (aO (aT gC)) gT) (aL (kC (dt_not (dt_tru (bS (all_ok rfl) B.b_all boot_all (aB (de_compV 1 (N':=["column"]) (cap:=[none]) rfl (cF (so:=aD iE) (NN:=["sheet", "laying"]) rfl rfl (by decide +kernel))  rfl (fun _ _ _ _=>bP 0 nd1) (fun _ _ _ _=>eK) (fun _ _ _ _=>(aQ C_is_whole (hM hr) (aB (aA 0) aH)))) aH)))) (aO (aT gC)) gT) (aO (aT (de_not (bS (any_ok rfl) B.b_any boot_any (aB (cB (N':=["name", "laying", "sheet"]) (cap:=[none,some 1,some 0]) rfl (cF (so:=aD iE) (NN:=["sheet", "laying"]) rfl rfl (by decide +kernel)) (bR (aQ C_names_of (hM hr) (aB (aA 0) aH))) rfl (fun _ _ _ _=>bP 0 nd2) (fun _ _ _ _=>eK) (fun _ _ _ _=>(fF C_shares_columnX (hM hr) (aB (aA 2) (aB (aA 1) (aB (aA 0) aH)))))) aH)))))))
abbrev s_l_over:Stmt:=top 28
noncomputable abbrev n_l_over:List Str:=["_law_one", "_law_other"]
theorem sc_l_over:FnScope n_l_over ["_law_one", "_law_other"] (aD s_l_over):=fS
theorem c_l_over (D:Def K mg "_law_over" s_l_over) (B:Blt mg) (XF:ExL fA K)  : aK P w K mg base "_law_over" 1 ["_law_one", "_law_other"] kG:=by
 refine aR 2 2 D sc_l_over rfl rfl (fun _ _ _ _ _ _ us hl=>by obtain ⟨_,_,rfl⟩:=len2 hl;rfl) (fun fa cdv A outer s H E hr=>?_)
 exact (aO (aT (de_cmp lt_ok (bS (max_ok rfl) B.b_max boot_max (aB (bN (aA 0) aI) (aB (bN (aA 1) aI) aH))) (bS (min_ok rfl) B.b_min boot_min (aB (bN (aA 0) aI) (aB (bN (aA 1) aI) aH))))))
abbrev eM:Stmt:=top 31
noncomputable abbrev iH:List Str:=["_law_sheet_here", "_law_laid", "_law_begin", "_law_less", "_law_name", "_law_one", "_law_taken"]
theorem dI:FnScope iH ["_law_sheet_here"] (aD eM):=fS
theorem c_l_laying (D:Def K mg "_law_laying" eM) (B:Blt mg) (XF:ExL fA K) (C_l_over:aK P w K mg base "_law_over" 1 ["_law_one", "_law_other"] kG):aK P w K mg base "_law_laying" 2 ["_law_sheet_here"] lC:=by
 refine aR 7 1 D dI rfl rfl (fun _ _ _ _ _ _ us hl=>by obtain ⟨_,rfl⟩:=len1 hl;rfl) (fun fa cdv A outer s H E hr=>?_)
 have nd1:(["_law_one"]:List Str).Nodup:=by decide +kernel
 have nd2:(["_law_other", "_law_column", "_law_one"]:List Str).Nodup:=by decide +kernel
 have nd3:(["_law_column", "_law_taken"]:List Str).Nodup:=by decide +kernel
 have nd4:(["_law_one", "_law_column"]:List Str).Nodup:=by decide +kernel
 exact (aL (ds_new 1 dI.nd aH) (aL (ds_for PassesOwn.never rfl (bR (bS srtX_ok B.b_sorted boot_sorted (aB (cB (N':=["_law_one"]) (cap:=[none]) rfl (cF (so:=aD eM) (NN:=iH) rfl rfl (by decide +kernel)) (bR (aA 0)) rfl (fun _ _ _ _=>bP 0 nd1) (fun _ _ _ _=>eK) (fun _ _ _ _=>(jS (aB (bN (aA 0) aI) (aB (bC sub_ok aI (bN (aA 0) aI)) (aB (bN (aA 0) aI) aH)))))) aH))) (mI rfl (bB 2 dI.nd (bB 3 dI.nd (bB 4 dI.nd jH)))) (aL (dF 5 dI.nd (jS (aB (aA 4) (aB (aA 2) (aB (bC sub_ok aI (aA 3)) aH))))) (aL (dF 6 dI.nd (de_compT (N':=["_law_other", "_law_column", "_law_one"]) (cap:=[none,none,some 5]) rfl (cF (so:=aD eM) (NN:=iH) rfl rfl (by decide +kernel)) (bR (aA 1)) rfl (fun _ _ _ _=>(mI rfl (bB 0 nd2 (bB 1 nd2 jH)))) (fun _ _ _ _=>(gA (dt_tru (aQ C_l_over (hM hr) (aB (aA 2) (aB (aA 0) aH)))))) (fun _ _ _ _=>aA 1))) (aO (ds_app 1 (jS (aB (aA 5) (aB (de_th (bN (cB (N':=["_law_column", "_law_taken"]) (cap:=[none,some 6]) rfl (cF (so:=aD eM) (NN:=iH) rfl rfl (by decide +kernel)) (di_rng1 B.b_range (bC dB (bS len_ok B.b_len boot_len (aB (aA 1) aH)) aI)) rfl (fun _ _ _ _=>bP 0 nd3) (fun _ _ _ _=>(gA (cM (ninX_ok hr.units1) (aA 0) (aA 1)))) (fun _ _ _ _=>aA 0)) aI)) aH)))))))) (db_frz 1 (aO (aT (mJ (dict_ok rfl) B.b_dict boot_dict (aB (cB (N':=["_law_one", "_law_column"]) (cap:=[none,none]) rfl (cF (so:=aD eM) (NN:=iH) rfl rfl (by decide +kernel)) (bR (aA 1)) rfl (fun _ _ _ _=>(mI rfl (bB 0 nd4 (bB 1 nd4 jH)))) (fun _ _ _ _=>eK) (fun _ _ _ _=>(jS (aB (bN (aA 0) aI) (aB (aA 1) aH))))) aH)))))))
abbrev kM:Stmt:=top 9
theorem sc_names_at:FnScope ["sheet", "moment"] ["sheet", "moment"] (aD kM):=fS
theorem c_names_at (D:Def K mg "names_at" kM) (B:Blt mg) (XF:ExL fA K)  : aK P w K mg base "names_at" 1 ["sheet", "moment"] lB:=by
 refine aR 2 2 D sc_names_at rfl rfl (fun _ _ _ _ _ _ us hl=>by obtain ⟨_,_,rfl⟩:=len2 hl;rfl) (fun fa cdv A outer s H E hr=>?_)
 have nd1:(["name", "begin", "end", "moment"]:List Str).Nodup:=by decide +kernel
 exact (aO (aT (cB (N':=["name", "begin", "end", "moment"]) (cap:=[none,none,none,some 1]) rfl (cF (so:=aD kM) (NN:=["sheet", "moment"]) rfl rfl (by decide +kernel)) (bR (aA 0)) rfl (fun _ _ _ _=>(mI rfl (bB 0 nd1 (bB 1 nd1 (bB 2 nd1 jH))))) (fun _ _ _ _=>(gA (dt_chn le_ok lt_ok (aA 1) (aA 3) (aA 2)))) (fun _ _ _ _=>aA 0))))
abbrev s_load_at:Stmt:=top 11
theorem sc_load_at:FnScope ["sheet", "moment"] ["sheet", "moment"] (aD s_load_at):=fS
theorem c_load_at (D:Def K mg "load_at" s_load_at) (B:Blt mg) (XF:ExL fA K) (C_names_at:aK P w K mg base "names_at" 1 ["sheet", "moment"] lB):aK P w K mg base "load_at" 2 ["sheet", "moment"] mW:=by
 refine aR 2 2 D sc_load_at rfl rfl (fun _ _ _ _ _ _ us hl=>by obtain ⟨_,_,rfl⟩:=len2 hl;rfl) (fun fa cdv A outer s H E hr=>?_)
 exact (aO (aT (bS len_ok B.b_len boot_len (aB (aQ C_names_at (hM hr) (aB (aA 0) (aB (aA 1) aH))) aH))))
abbrev fC:Stmt:=top 12
theorem sc_most_at_once:FnScope ["sheet"] ["sheet"] (aD fC):=fS
theorem c_most_at_once (D:Def K mg "most_at_once" fC) (B:Blt mg) (XF:ExL fA K) (C_load_at:aK P w K mg base "load_at" 2 ["sheet", "moment"] mW):aK P w K mg base "most_at_once" 3 ["sheet"] fK:=by
 refine aR 1 1 D sc_most_at_once rfl rfl (fun _ _ _ _ _ _ us hl=>by obtain ⟨_,rfl⟩:=len1 hl;rfl) (fun fa cdv A outer s H E hr=>?_)
 have nd1:(["name", "begin", "end", "sheet"]:List Str).Nodup:=by decide +kernel
 exact (aO (aT (de_maxDf rfl B.b_max (cB (N':=["name", "begin", "end", "sheet"]) (cap:=[none,none,none,some 0]) rfl (cF (so:=aD fC) (NN:=["sheet"]) rfl rfl (by decide +kernel)) (bR (aA 0)) rfl (fun _ _ _ _=>(mI rfl (bB 0 nd1 (bB 1 nd1 (bB 2 nd1 jH))))) (fun _ _ _ _=>eK) (fun _ _ _ _=>(aQ C_load_at (hM hr) (aB (aA 3) (aB (aA 1) aH))))) aI)))
abbrev mR:Stmt:=top 22
theorem sc_part_of:FnScope ["sheet", "names"] ["sheet", "names"] (aD mR):=fS
theorem c_part_of (D:Def K mg "part_of" mR) (B:Blt mg) (XF:ExL fA K)  : aK P w K mg base "part_of" 1 ["sheet", "names"] kF:=by
 refine aR 2 2 D sc_part_of rfl rfl (fun _ _ _ _ _ _ us hl=>by obtain ⟨_,_,rfl⟩:=len2 hl;rfl) (fun fa cdv A outer s H E hr=>?_)
 have nd1:(["meeting", "names"]:List Str).Nodup:=by decide +kernel
 exact (aO (aT (mJ tup_ok B.b_tuple boot_tuple (aB (cB (N':=["meeting", "names"]) (cap:=[none,some 1]) rfl (cF (so:=aD mR) (NN:=["sheet", "names"]) rfl rfl (by decide +kernel)) (bR (aA 0)) rfl (fun _ _ _ _=>bP 0 nd1) (fun _ _ _ _=>(gA (cM (inX_ok hr.units1) (bN (aA 0) aI) (aA 1)))) (fun _ _ _ _=>aA 0)) aH))))
abbrev lR:Stmt:=top 16
noncomputable abbrev n_group_ofX:List Str:=["sheet", "name", "group"]
theorem sc_group_ofX:FnScope n_group_ofX ["sheet", "name"] (aD lR):=fS
theorem c_group_ofX (D:Def K mg "group_of" lR) (B:Blt mg) (XF:ExL fA K) (C_groups:aK P w K mg base "groups" 6 ["sheet"] kH):CalleeX P w K mg base "group_of" 7 ["sheet", "name"] cY:=by
 refine eZ 3 2 D sc_group_ofX rfl rfl (fun _ _ _ _ _ _ us hl=>by obtain ⟨_,_,rfl⟩:=len2 hl;rfl) (fun fa cdv A outer s H E hr=>?_)
 exact (aL (ds_nox (ds_for PassesOwn.never rfl (bR (aQ C_groups (hM hr) (aB (aA 0) aH))) (bP 2 sc_group_ofX.nd) (aO (kC (cM (inX_ok hr.units1) (aA 1) (aA 2)) (aO (aT (aA 2))) gT)))) (aO (ds_raiseL XF rfl)))
abbrev lQ:Stmt:=top 23
theorem sc_width_ofX:FnScope ["sheet", "name"] ["sheet", "name"] (aD lQ):=fS
theorem c_width_ofX (D:Def K mg "width_of" lQ) (B:Blt mg) (XF:ExL fA K) (C_group_ofX:CalleeX P w K mg base "group_of" 7 ["sheet", "name"] cY) (C_part_of:aK P w K mg base "part_of" 1 ["sheet", "names"] kF) (C_most_at_once:aK P w K mg base "most_at_once" 3 ["sheet"] fK):CalleeX P w K mg base "width_of" 8 ["sheet", "name"] cW:=by
 refine eZ 2 2 D sc_width_ofX rfl rfl (fun _ _ _ _ _ _ us hl=>by obtain ⟨_,_,rfl⟩:=len2 hl;rfl) (fun fa cdv A outer s H E hr=>?_)
 exact (aO (aT (aQ C_most_at_once (hM hr) (aB (aQ C_part_of (hM hr) (aB (aA 0) (aB (fF C_group_ofX (hM hr) (aB (aA 0) (aB (aA 1) aH))) aH))) aH))))
abbrev iD:Stmt:=top 32
noncomputable abbrev n_l_is_refused:List Str:=["_law_sheet_here", "_law_name", "_law_kept", "e"]
theorem gK:FnScope n_l_is_refused ["_law_sheet_here", "_law_name"] (aD iD):=fS
theorem c_l_is_refused (D:Def K mg "_law_is_refused" iD) (B:Blt mg) (XF:ExL fA K) (C_width_ofX:CalleeX P w K mg base "width_of" 8 ["sheet", "name"] cW):aK P w K mg base "_law_is_refused" 9 ["_law_sheet_here", "_law_name"] dQ:=by
 refine aR 4 2 D gK rfl rfl (fun _ _ _ _ _ _ us hl=>by obtain ⟨_,_,rfl⟩:=len2 hl;rfl) (fun fa cdv A outer s H E hr=>?_)
 exact (aL (dF 2 gK.nd de_none) (aL (ds_tryL 2 3 XF gK.nd rfl rfl (fun _ _=>(aO (ds_expr (fF C_width_ofX (hM hr) (aB (aA 0) (aB (aA 1) aH))))))) (aO (aT (de_isx1 2 XF B.b_isinstance)))))
abbrev jB:Stmt:=top 33
noncomputable abbrev n_law:List Str:=["_law_script", "_law_sheet_here", "_law_told", "_law_group", "_law_rows", "_law_most_here", "_law_one", "_law_other", "_law_cross"]
theorem kJ:FnScope n_law ["_law_script"] (aD jB):=fS
theorem c_law {fa:Addr} {fd:FuncData} (Fu:Fun K "law" "law" jB fa fd) (B:Blt mg) (XF:ExL fA K) (C_l_sheet:aK P w K mg base "_law_sheet" 3 ["_law_script", "_law_at", "_law_most_here"] mX) (C_columns:aK P w K mg base "columns" 7 ["sheet"] mY) (C_l_laying:aK P w K mg base "_law_laying" 2 ["_law_sheet_here"] lC) (C_is_laidX:CalleeX P w K mg base "is_laid" 4 ["sheet", "laying"] bZ) (C_groups:aK P w K mg base "groups" 6 ["sheet"] kH) (C_l_most:aK P w K mg base "_law_most" 2 ["_law_sheet_here"] F_l_most) (C_width_ofX:CalleeX P w K mg base "width_of" 8 ["sheet", "name"] cW) (C_l_is_refused:aK P w K mg base "_law_is_refused" 9 ["_law_sheet_here", "_law_name"] dQ) (C_l_pick:aK P w K mg base "_law_pick" 2 ["_law_script", "_law_k", "_law_many"] bM) (C_l_over:aK P w K mg base "_law_over" 1 ["_law_one", "_law_other"] kG):FnOk P w K mg base CX0 10 fa fd ["_law_script"] (spD K fun ds d=>F_law ds=some (.ok d)):=by
 refine fn_den 9 1 Fu kJ rfl rfl (fun cdv A outer s H E hr=>?_)
 have nd1:(["_law_one", "_law_group"]:List Str).Nodup:=by decide +kernel
 have nd2:(["_law_name", "_law_told"]:List Str).Nodup:=by decide +kernel
 have nd3:(["_law_name", "_law_most_here", "_law_sheet_here"]:List Str).Nodup:=by decide +kernel
 have nd4:(["_law_name", "_law_sheet_here"]:List Str).Nodup:=by decide +kernel
 have nd5:(["_law_row", "_law_one", "_law_other"]:List Str).Nodup:=by decide +kernel
 exact (aL (dF 1 kJ.nd (aQ C_l_sheet (hM hr) (aB (aA 0) (aB aI (aB aI aH))))) (aL (dF 2 kJ.nd (aQ C_columns (hM hr) (aB (aA 1) aH))) (aL (kC (DW.dt (dw_or (cM (neK_ok hr.units) (aA 2) (aQ C_l_laying (hM hr) (aB (aA 1) aH))) (dw_or1 (dt_isNot_bool (fF C_is_laidX (hM hr) (aB (aA 1) (aB (aA 2) aH))))))) (aO (aT gC)) gT) (aL (ds_for PassesOwn.never rfl (bR (aQ C_groups (hM hr) (aB (aA 1) aH))) (bP 3 kJ.nd) (aL (dF 4 kJ.nd (mJ tup_ok B.b_tuple boot_tuple (aB (cB (N':=["_law_one", "_law_group"]) (cap:=[none,some 3]) rfl (cF (so:=aD jB) (NN:=n_law) rfl rfl (by decide +kernel)) (bR (aA 1)) rfl (fun _ _ _ _=>bP 0 nd1) (fun _ _ _ _=>(gA (cM (inX_ok hr.units1) (bN (aA 0) aI) (aA 1)))) (fun _ _ _ _=>aA 0)) aH))) (aL (dF 5 kJ.nd (aQ C_l_most (hM hr) (aB (aA 4) aH))) (aL (kC (cM (ne_ok hr.units) (de_sset rfl B.b_sorted B.b_set (cB (N':=["_law_name", "_law_told"]) (cap:=[none,some 2]) rfl (cF (so:=aD jB) (NN:=n_law) rfl rfl (by decide +kernel)) (bR (aA 3)) rfl (fun _ _ _ _=>bP 0 nd2) (fun _ _ _ _=>eK) (fun _ _ _ _=>(de_ixK (aA 1) (aA 0))))) (de_lrng1 B.b_list B.b_range (aA 5))) (aO (aT gC)) gT) (aO (kC (cM (ne_ok hr.units) (cB (N':=["_law_name", "_law_most_here", "_law_sheet_here"]) (cap:=[none,some 5,some 1]) rfl (cF (so:=aD jB) (NN:=n_law) rfl rfl (by decide +kernel)) (bR (aA 3)) rfl (fun _ _ _ _=>bP 0 nd3) (fun _ _ _ _=>(gA (cM (ne_ok hr.units) (fF C_width_ofX (hM hr) (aB (aA 2) (aB (aA 0) aH))) (aA 1)))) (fun _ _ _ _=>aA 0)) (de_lst aH)) (aO (aT gC)) gT)))))) (aL (kC (cM (ne_ok hr.units) (cB (N':=["_law_name", "_law_sheet_here"]) (cap:=[none,some 1]) rfl (cF (so:=aD jB) (NN:=n_law) rfl rfl (by decide +kernel)) (bR (jS (aB gS (aB gS aH)))) rfl (fun _ _ _ _=>bP 0 nd4) (fun _ _ _ _=>eK) (fun _ _ _ _=>(aQ C_l_is_refused (hM hr) (aB (aA 1) (aB (aA 0) aH))))) (de_rep (aB gC aH) aI)) (aO (aT gC)) gT) (aL (kC (cM (eq_ok hr.units) (aA 1) (jS aH)) (aO (aT (de_cmp (eqK_ok hr.units) (aA 2) de_emptyD))) gT) (aL (dF 6 kJ.nd (bN (aA 1) (aQ C_l_pick (hM hr) (aB (aA 0) (aB aI (aB (bS len_ok B.b_len boot_len (aB (aA 1) aH)) aH)))))) (aL (ds_newDC 7 kJ.nd B.b_dict (aA 2)) (aL (ds_putD 7 hr.units (aQ C_l_pick (hM hr) (aB (aA 0) (aB aI (aB aI aH)))) (bN (aA 6) aI)) (aL (ds_setCU 8 kJ.nd (N':=["_law_row", "_law_one", "_law_other"]) (cap:=[none,some 6,some 7]) rfl (cF (so:=aD jB) (NN:=n_law) rfl rfl (by decide +kernel)) (bR (aA 1)) rfl (fun _ _ _ _=>bP 0 nd5) (fun _ _ _ _=>(gA (DW.dt (dw_and (cM (ne_ok hr.units) (aA 0) (aA 1)) (dw_and (dt_tru (aQ C_l_over (hM hr) (aB (aA 0) (aB (aA 1) aH)))) (dw_and1 (cM (eq_ok hr.units) (de_ixK (aA 2) (bN (aA 0) aI)) (de_ixK (aA 2) (bN (aA 1) aI))))))))) (fun _ _ _ _=>aA 0)) (aL (kC (dt_th (cM (ne_ok hr.units) (fF C_is_laidX (hM hr) (aB (aA 1) (aB (aA 7) aH))) (de_cmp (eq_ok hr.units) (aA 8) (de_lst aH)))) (aO (aT gC)) gT) (aL (ds_popD 7 (bN (aA 6) aI)) (db_frz 7 (aO (aT (de_is_bool (fF C_is_laidX (hM hr) (aB (aA 1) (aB (aA 7) aH)))))))))))))))))))
end
theorem blt_mk {K:PySem.W.Frag} {h:Heap} {mg:Str→Option Value} (X:K.In h) (G:h.Ns mainGlobals mg) (z0:PySem.W.nsIn K mainGlobals "all" = some none) (z1:PySem.W.nsIn K mainGlobals "any" = some none) (z2:PySem.W.nsIn K mainGlobals "bool" = some none) (z3:PySem.W.nsIn K mainGlobals "dict" = some none) (z4:PySem.W.nsIn K mainGlobals "int" = some none) (z5:PySem.W.nsIn K mainGlobals "isinstance" = some none) (z6:PySem.W.nsIn K mainGlobals "len" = some none) (z7:PySem.W.nsIn K mainGlobals "list" = some none) (z8:PySem.W.nsIn K mainGlobals "max" = some none) (z9:PySem.W.nsIn K mainGlobals "min" = some none) (z10:PySem.W.nsIn K mainGlobals "range" = some none) (z11:PySem.W.nsIn K mainGlobals "set" = some none) (z12:PySem.W.nsIn K mainGlobals "sorted" = some none) (z13:PySem.W.nsIn K mainGlobals "tuple" = some none)  : Blt mg:=
 ⟨PySem.W.mg_none_of X G z0,PySem.W.mg_none_of X G z1,PySem.W.mg_none_of X G z2,PySem.W.mg_none_of X G z3,PySem.W.mg_none_of X G z4,PySem.W.mg_none_of X G z5,PySem.W.mg_none_of X G z6,PySem.W.mg_none_of X G z7,PySem.W.mg_none_of X G z8,PySem.W.mg_none_of X G z9,PySem.W.mg_none_of X G z10,PySem.W.mg_none_of X G z11,PySem.W.mg_none_of X G z12,PySem.W.mg_none_of X G z13⟩
theorem law_mk {l:PySem.W.OpenLaw} {w:World} {K:PySem.W.Frag} {h:Heap} {mg:Str→Option Value} {fa f4:Addr} (X:K.In h) (G:h.Ns mainGlobals mg) (hfa:mg "law" = some (.ref fa)) {od4 an4:Option Addr} {sl4:Array (Option Value)} {oc4 kV4 dc4 pm4 cd4 ct4:Value}
  (B:Blt mg) (XF:ExL fA K) (D0:Def K mg "_law_cell" s_l_cell) (D1:Def K mg "_law_pick" s_l_pick) (D2:Def K mg "_law_sheet" s_l_sheet) (D3:Def K mg "in_laying_order" fD) (D4:Def K mg "overlap" s_overlap) (D5:Def K mg "first_free" kN) (D6:Def K mg "laid_meetings" eI) (D7:Def K mg "columns" mS) (D8:Def K mg "groups" s_groups) (D9:Def K mg "_law_load" s_l_load) (D10:Def K mg "_law_most" s_l_most) (D11:Def K mg "names_of" kK) (D12:Def K mg "is_whole" nO) (D13:Def K mg "meeting_of" jO) (D14:Def K mg "partners" jA) (D15:Def K mg "shares_column" dU) (D16:Def K mg "is_laid" iE) (D17:Def K mg "_law_over" s_l_over) (D18:Def K mg "_law_laying" eM) (D19:Def K mg "names_at" kM) (D20:Def K mg "load_at" s_load_at) (D21:Def K mg "most_at_once" fC) (D22:Def K mg "part_of" mR) (D23:Def K mg "group_of" lR) (D24:Def K mg "width_of" lQ) (D25:Def K mg "_law_is_refused" iD) (tb0:PySem.W.tabIn K "in_laying_order" = some (93,89)) (hC0:PySem.W.codeHdIn K 93 89=true)
  (a4:PySem.W.nsIn K mainGlobals "law" = some (some (.ref f4))) (l4:K.lookup f4=some ⟨oc4,od4,.func (PySem.W.fnOf "law" "law" (gB jB) (cG jB) (aD jB) .none kV4 dc4 pm4 an4 cd4 ct4),sl4⟩) (c4:PySem.W.codeIn K cd4 "law" = true) (k4:PySem.W.keepIn K (.ref f4)=true) :
  ∃ fd:FuncData,(∀ (s:Shared) (v:Value),BindsTo s fd ⟨[v],[]⟩ [("_law_script", v)])∧∀ base:Heap,K.In base→base.Ns mainGlobals mg→BM mg base→FnOk l.prog w K mg base CX0 10 fa fd ["_law_script"] (spD K fun ds d=>F_law ds=some (.ok d)):=by
 have e:=hfa.symm.trans (PySem.W.mg_of X G a4)
 cases e
 refine ⟨PySem.W.fnOf "law" "law" (gB jB) (cG jB) (aD jB) .none kV4 dc4 pm4 an4 cd4 ct4,fun s v=>.of_eq rfl,fun base kb nb M=>?_⟩
 have C_l_cell:=c_l_cell (P:=l.prog) (w:=w) (base:=base) D0 B XF
 have C_l_pick:=c_l_pick (P:=l.prog) (w:=w) (base:=base) D1 B XF C_l_cell
 have C_l_sheet:=c_l_sheet (P:=l.prog) (w:=w) (base:=base) D2 B XF C_l_pick
 have C_in_laying_order:=c_in_laying_order (P:=l.prog) (w:=w) (base:=base) D3 B kb nb M tb0 hC0 XF
 have C_overlap:=c_overlap (P:=l.prog) (w:=w) (base:=base) D4 B XF
 have C_first_free:=c_first_free (P:=l.prog) (w:=w) (base:=base) D5 B XF
 have C_laid_meetings:=c_laid_meetings (P:=l.prog) (w:=w) (base:=base) D6 B XF C_in_laying_order C_overlap C_first_free
 have C_columns:=c_columns (P:=l.prog) (w:=w) (base:=base) D7 B XF C_laid_meetings
 have C_groups:=c_groups (P:=l.prog) (w:=w) (base:=base) D8 B XF C_in_laying_order
 have C_l_load:=c_l_load (P:=l.prog) (w:=w) (base:=base) D9 B XF
 have C_l_most:=c_l_most (P:=l.prog) (w:=w) (base:=base) D10 B XF C_l_load
 have C_names_of:=c_names_of (P:=l.prog) (w:=w) (base:=base) D11 B XF
 have C_is_whole:=c_is_whole (P:=l.prog) (w:=w) (base:=base) D12 B XF
 have C_meeting_ofX:=c_meeting_ofX (P:=l.prog) (w:=w) (base:=base) D13 B XF
 have C_partnersX:=c_partnersX (P:=l.prog) (w:=w) (base:=base) D14 B XF C_meeting_ofX C_overlap
 have C_shares_columnX:=c_shares_columnX (P:=l.prog) (w:=w) (base:=base) D15 B XF C_partnersX
 have C_is_laidX:=c_is_laidX (P:=l.prog) (w:=w) (base:=base) D16 B XF C_names_of C_is_whole C_shares_columnX
 have C_l_over:=c_l_over (P:=l.prog) (w:=w) (base:=base) D17 B XF
 have C_l_laying:=c_l_laying (P:=l.prog) (w:=w) (base:=base) D18 B XF C_l_over
 have C_names_at:=c_names_at (P:=l.prog) (w:=w) (base:=base) D19 B XF
 have C_load_at:=c_load_at (P:=l.prog) (w:=w) (base:=base) D20 B XF C_names_at
 have C_most_at_once:=c_most_at_once (P:=l.prog) (w:=w) (base:=base) D21 B XF C_load_at
 have C_part_of:=c_part_of (P:=l.prog) (w:=w) (base:=base) D22 B XF
 have C_group_ofX:=c_group_ofX (P:=l.prog) (w:=w) (base:=base) D23 B XF C_groups
 have C_width_ofX:=c_width_ofX (P:=l.prog) (w:=w) (base:=base) D24 B XF C_group_ofX C_part_of C_most_at_once
 have C_l_is_refused:=c_l_is_refused (P:=l.prog) (w:=w) (base:=base) D25 B XF C_width_ofX
 exact c_law (fun_mk (st:=jB) l4 c4 k4) B XF C_l_sheet C_columns C_l_laying C_is_laidX C_groups C_l_most C_width_ofX C_l_is_refused C_l_pick C_l_over
end L2.L3
open PySem PySem.W PyProof.Rows
namespace PySem.W.Fast
theorem tw13738041149877142910:True:=⟨⟩
theorem tw788362011218595768:True:=⟨⟩
theorem tw11035867564648788727:True:=⟨⟩
theorem tw5221083723789141507:True:=⟨⟩
theorem tw3458772744600024649:True:=⟨⟩
theorem tw8708130503610854372:True:=⟨⟩
theorem tw700968880258857392:True:=⟨⟩
theorem tw9750961938663101375:True:=⟨⟩
theorem tw13216836267609401361:True:=⟨⟩
theorem tw15014703208675736130:True:=⟨⟩
theorem tw5514045949133590302:True:=⟨⟩
theorem tw10459503530910382638:True:=⟨⟩
theorem tw4138519460959551103:True:=⟨⟩
theorem tw11072200000146955514:True:=⟨⟩
theorem tw12633794092816014880:True:=⟨⟩
theorem tw862487613789477088:True:=⟨⟩
theorem tw1256151934748447246:True:=⟨⟩
theorem tw4436538608144934894:True:=⟨⟩
theorem tw9481558214345309689:True:=⟨⟩
theorem tw13465625924073119771:True:=⟨⟩
theorem tw4996386230653292968:True:=⟨⟩
theorem tw6132373143815404652:True:=⟨⟩
theorem tw4244967234867765355:True:=⟨⟩
theorem tw11164034800916050535:True:=⟨⟩
theorem tw17445936888452963237:True:=⟨⟩
theorem tw15567362890836479201:True:=⟨⟩
theorem tw13079011958509421153:True:=⟨⟩
theorem tw16766111585342519260:True:=⟨⟩
theorem tw16756184776555187603:True:=⟨⟩
theorem tw6095280649110821954:True:=⟨⟩
theorem tw14727884591867029117:True:=⟨⟩
theorem tw8070099989823105061:True:=⟨⟩
theorem tw14580517734536556032:True:=⟨⟩
theorem tw6738109647782250778:True:=⟨⟩
theorem tw2250565277748351783:True:=⟨⟩
theorem tw16485810809868587295:True:=⟨⟩
theorem tw12430179222534714308:True:=⟨⟩
theorem tw1711735464277856511:True:=⟨⟩
end PySem.W.Fast
set_option maxRecDepth 100000 in
set_option maxHeartbeats 0 in
theorem PySem.Challenge.cw_daysheet_k11_whole_columns_holds : PySem.Challenge.rw_daysheet_k11_whole_columns.Holds := by
 w_on;o_law;k_head;(case hw=>w_witness2)
 k_fill
 refine L2.L3.walkL (l:=PySem.Challenge.rw_daysheet_k11_whole_columns) (k:=10) (F:=L2.L3.F_law) (x := "_law_script") [(89,L2.L3.lamQ "in_laying_order")] rfl rfl ⟨rfl,by decide,by decide⟩ (fun w h Y=>PySem.W.km_in_of Y) (fun w h Y=>PySem.W.km_tabs_of Y) ?cd ?ts ?F (fun ns hl=>L2.L3.e_law ns hl)
 case cd=>exact fun w=>L2.L3.all_cons ⟨⟨93,by kernel_rfl⟩,by kernel_rfl⟩ (fun _ h=>nomatch h)
 case ts=>exact fun w=>L2.L3.lam_all (.inl (by kernel_rfl)) (.inr ⟨93,89,by kernel_rfl,by decide⟩)
 case F=>
  intro w mg fa h KX G hmg
  refine' L2.L3.law_mk KX G hmg ?B ?XF ?D0 ?D1 ?D2 ?D3 ?D4 ?D5 ?D6 ?D7 ?D8 ?D9 ?D10 ?D11 ?D12 ?D13 ?D14 ?D15 ?D16 ?D17 ?D18 ?D19 ?D20 ?D21 ?D22 ?D23 ?D24 ?D25 ?tb0 ?hC0 ?a4 ?l4 ?c4 ?k4
  (case XF=>exact ⟨by kernel_rfl⟩)
  (case tb0=>kernel_rfl);(case hC0=>kernel_rfl)
  (case a4=>k_is);(case l4=>k_is);(case c4=>k_is);(case k4=>k_is)
  (case B=>(refine' L2.L3.blt_mk KX G ?z0 ?z1 ?z2 ?z3 ?z4 ?z5 ?z6 ?z7 ?z8 ?z9 ?z10 ?z11 ?z12 ?z13;(case z0=>k_is);(case z1=>k_is);(case z2=>k_is);(case z3=>k_is);(case z4=>k_is);(case z5=>k_is);(case z6=>k_is);(case z7=>k_is);(case z8=>k_is);(case z9=>k_is);(case z10=>k_is);(case z11=>k_is);(case z12=>k_is);(case z13=>k_is)))
  (case D0 | D1 | D2 | D3 | D4 | D5 | D6 | D7 | D8 | D9 | D10 | D11 | D12 | D13 | D14 | D15 | D16 | D17 | D18 | D19 | D20 | D21 | D22 | D23 | D24 | D25=>(refine' L2.L3.def_mk KX G ?a ?l ?c ?k;(case a=>k_is);(case l=>k_is);(case c=>k_is);(case k=>k_is)))

