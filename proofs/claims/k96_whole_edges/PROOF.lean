import PyProof.Rows.All
import Wide.All
import OpenK.AllK
import Wide.FinOn
import Lean
import PyProof.EqAt
import PyProof.EqKinds
import PyProof.TupleCall
import PySem.Challenge.RW_daysheet_k96_whole_edges
set_option Elab.async false
set_option linter.all false
set_option maxRecDepth 100000
set_option maxHeartbeats 4000000
namespace L2
open PySem PySem.Spec PyProof.Rows
abbrev Key:=Sum Int Str
def uJ:Key→Value→Bool
 | .inl k,v=>Value.isInt k v
 | .inr x,v=>Value.isStrOf x v
def b5O (w:World):Key→Int
 | .inl k=>hashInt k
 | .inr x=>hashStr w x
theorem cO:∀ {k:Key} {v:Value},uJ k v=true→(∃ i t,k=Sum.inl i∧v=Value.int i t)∨(∃ x t,k=Sum.inr x∧v=Value.str x t)
 | .inl i,v,h=>by
  obtain ⟨t,e⟩:=Value.isInt_shape (k:=i) (v:=v) h
  exact .inl ⟨i,t,rfl,e⟩
 | .inr x,v,h=>by
  obtain ⟨t,e⟩:=Value.isStrOf_shape (x:=x) (v:=v) h
  exact .inr ⟨x,t,rfl,e⟩
theorem a5b (i:Int) (t:Tok):uJ (.inl i) (.int i t)=true:=by simp [uJ,Value.isInt]
theorem a5a (x:Str) (t:Tok):uJ (.inr x) (.str x t)=true:=by simp [uJ,Value.isStrOf]
theorem b2R (a b:Int):decide ((Sum.inl a:Key)=Sum.inl b)=(a==b):=by
 by_cases e:a=b
 ·subst e;simp
 ·have h:¬(Sum.inl a:Key)=Sum.inl b:=fun q=>e (Sum.inl.inj q)
  rw [decide_eq_false h]
  exact (beq_eq_false_iff_ne.mpr e).symm
theorem b2O (a b:Str):decide ((Sum.inr a:Key)=Sum.inr b)=decide (a=b):=by
 by_cases e:a=b
 ·subst e;simp
 ·have h:¬(Sum.inr a:Key)=Sum.inr b:=fun q=>e (Sum.inr.inj q)
  rw [decide_eq_false h,decide_eq_false e]
theorem b2Q (a:Int) (b:Str):decide ((Sum.inl a:Key)=Sum.inr b)=false:=decide_eq_false (fun q=>nomatch q)
theorem b2P (a:Str) (b:Int):decide ((Sum.inr a:Key)=Sum.inl b)=false:=decide_eq_false (fun q=>nomatch q)
def dB (prog:Program) (w:World):PySem.KeyKind prog w Key where
 is:=uJ
 hash:=b5O w
 inj:=fun v a b ha hb=>by
  rcases cO ha with ⟨i,t,rfl,rfl⟩ | ⟨x,t,rfl,rfl⟩
  ·rcases cO hb with ⟨j,u,rfl,e⟩ | ⟨y,u,rfl,e⟩
   ·injection e with e1 _;rw [e1]
   ·exact nomatch e
  ·rcases cO hb with ⟨j,u,rfl,e⟩ | ⟨y,u,rfl,e⟩
   ·exact nomatch e
   ·injection e with e1 _;rw [e1]
 byValue:=fun k v h=>by
  rcases cO h with ⟨i,t,rfl,rfl⟩ | ⟨x,t,rfl,rfl⟩<;>rfl
 pyHash:=fun hv h=>by
  rcases cO hv with ⟨i,t,rfl,rfl⟩ | ⟨x,t,rfl,rfl⟩
  ·exact wpAny_pyHash_int h
  ·exact wpAny_pyHash_str h
 eqBool:=fun hu hv h=>by
  rcases cO hu with ⟨i,t,rfl,rfl⟩ | ⟨x,t,rfl,rfl⟩
  ·rcases cO hv with ⟨j,u,rfl,rfl⟩ | ⟨y,u,rfl,rfl⟩
   ·rw [b2R] at h;exact wpAny_eqBool_int h
   ·rw [b2Q] at h;exact SeqAt.EqAt.int_str i t y u _ _ _ _ h
  ·rcases cO hv with ⟨j,u,rfl,rfl⟩ | ⟨y,u,rfl,rfl⟩
   ·rw [b2P] at h;exact SeqAt.EqAt.str_int x t j u _ _ _ _ h
   ·rw [b2O] at h;exact wpAny_eqBool_str h
 «strs»:=fun k x t v h=>by
  rcases cO h with ⟨i,u,rfl,e⟩ | ⟨y,u,rfl,e⟩
  ·exact nomatch e
  ·injection e with e1 _
   subst e1
   cases v<;>rfl
theorem rJ (prog:Program) (w:World) (i:Int) (t:Tok):(dB prog w).is (.inl i) (.int i t)=true:=a5b i t
theorem rH (prog:Program) (w:World) (x:Str) (t:Tok):(dB prog w).is (.inr x) (.str x t)=true:=a5a x t
inductive V where
 | non | bl (b:Bool) | int (i:Int) | str (x:Str) | byt (b:Array UInt8) | flt (b:UInt64) | ref (a:Addr) | ty (n:String)
 deriving DecidableEq
def RelV:V→Value→Prop
 | .non,u=>u=Value.none
 | .bl b,u=>u=Value.bool b
 | .int i,u=>∃ t,u=Value.int i t
 | .str x,u=>∃ t,u=Value.str x t
 | .byt b,u=>∃ t,u=Value.bytes b t
 | .flt b,u=>∃ t,u=Value.float b t
 | .ref a,u=>u=Value.ref a
 | .ty n,u=>u=Value.type n
abbrev aY:List V→List Value→Prop:=Paired RelV
theorem aY.length {xs:List V} {us:List Value} (r:aY xs us):xs.length=us.length:=Paired.length r
theorem aY.get:∀ {xs:List V} {us:List Value} {i:Nat} {x:V},aY xs us→xs[i]?=some x→∃ u,us[i]?=some u∧RelV x u
 | _,_,_,_,.nil,e=>by simp at e
 | _,_,0,_,.cons r _,e=>by simp at e;subst e;exact ⟨_,rfl,r⟩
 | _,_,i+1,x,.cons _ t,e=>by
  obtain ⟨u,h1,h2⟩:=aY.get (i:=i) (x:=x) t (by simpa using e)
  exact ⟨u,by simpa using h1,h2⟩
theorem aY.append:∀ {xs ys:List V} {us ws:List Value},aY xs us→aY ys ws→aY (xs++ys) (us++ws)
 | _,_,_,_,.nil,s=>s
 | _,_,_,_,.cons r t,s=>.cons r (aY.append t s)
theorem aY.take:∀ {xs:List V} {us:List Value} (n:Nat),aY xs us→aY (xs.take n) (us.take n)
 | _,_,0,_=>.nil
 | _,_,_+1,.nil=>.nil
 | _,_,n+1,.cons r t=>.cons r (aY.take n t)
theorem aY.drop:∀ {xs:List V} {us:List Value} (n:Nat),aY xs us→aY (xs.drop n) (us.drop n)
 | _,_,0,r=>r
 | _,_,_+1,.nil=>.nil
 | _,_,n+1,.cons _ t=>aY.drop n t
def a3g:Option V→Option Value→Prop
 | some v,some u=>RelV v u
 | none,none=>True
 | _,_=>False
def KV {κ:Type}:List (κ×V)→List (κ×Value)→Prop:=Paired fun (p:κ×V) (q:κ×Value)=>p.1=q.1∧RelV p.2 q.2
def kV:Key→V
 | .inl i=>.int i
 | .inr x=>.str x
inductive HO where
 | lst (xs:List V)
 | tup (xs:List V)
 | dK (kvs:List (Key×V)) | dT (kvs:List (List Key×V))
 | set (S:Int→Bool) (n:Nat)
 | ins (C dx:Addr) (fs:List (Str×V))
 | own (x:Addr)
 | xd (fs:List (Str×V))
 | met (f x:Addr)
 | rng (lo hi:Int)
 | frz (o:Obj) (u:HO)
 | tbl (ps:Str×Array Value)
 | ext (φ:Heap→Prop)
abbrev Hp:=Addr→Option HO
def upd (H:Hp) (a:Addr) (o:HO):Hp:=fun b=>if b=a then some o else H b
theorem aN {H:Hp} {a:Addr} {o:HO}:upd H a o a=some o:=by unfold upd;rw [if_pos rfl]
theorem aL {H:Hp} {a b:Addr} {o:HO} (h:b≠a):upd H a o b=H b:=by unfold upd;rw [if_neg h]
theorem kC {H:Hp} {a b:Addr} {o u:HO} (h:H a=some o) (h':H b=some u) (d:o≠u):a≠b:=by
 intro e;subst e;rw [h] at h';exact d (Option.some.inj h')
theorem bI {H:Hp} {a b:Addr} {o:HO} (h:H a=some o) (h':H b=none):a≠b:=by
 intro e;subst e;rw [h] at h';cases h'
section
variable (P:Program) (w:World)
def cM (H:Hp) (h:Heap) (a:Addr):HO→Prop
 | .lst xs=>xs.length≤sizeLine∧∃ (its:List Value) (n:Nat),aY xs its∧h.get? a=some { cls:=.type "list", data:=.seq its.toArray n }
 | .tup xs=>xs.length≤sizeLine∧∃ its:List Value,aY xs its∧IsTup h a its.toArray
 | .dK kvs=>kvs.length≤sizeLine∧(a==sysModules)=false∧∃ vs,KV kvs vs∧h.DictOf (dB P w) a vs
 | .dT kvs=>kvs.length≤sizeLine∧(a==sysModules)=false∧∃ xs:List (List Key×Addr×Value),
   Paired (fun (p:List Key×V) (q:List Key×Addr×Value)=>p.1=q.1∧H q.2.1=some (.tup (p.1.map kV))∧RelV p.2 q.2.2) kvs xs ∧
   ∃ o es ep,h.get? a=some o∧o.ExactDict∧o.data=.dict es ep∧es.toList=xs.map (entryOfKey (tupleKind (dB P w)))∧(xs.map (·.1)).Nodup
 | .set S n=>h.SetOf (intKind P w) a S n
 | .ins C dx fs=>H dx=some (.own a)∧fs.length≤1000∧dx≠a∧h.get? a=some (PySem.W.instObj C dx) ∧
   ∃ mA,h.Ns1 dx mA∧(∀ f,a3g (fs.lookup f) (mA f))∧PySem.Within mA (fs.map (·.1))
 | .own _=>∃ o,h.get? a=some o
 | .xd fs=>∃ mA,h.Ns1 a mA∧∀ f,a3g (fs.lookup f) (mA f)
 | .rng lo hi=>∃ t u v,h.get? a=some { cls:=.type "range", data:=.fields #[.int lo t,.int hi u,.int 1 v] }
 | .frz o u=>h.get? a=some o∧cM H h a u
 | .tbl ps=>h.get? a=some { cls:=.none,data:=.fields ps.2 }
 | .met f x=>h.get? a=some (PySem.W.methodObj (.ref f) (.ref x))
 | .ext φ=>φ h∧(∃ o,h.get? a=some o)∧∀ h1 h2:Heap,φ h1→(∀ o,h1.get? a=some o→h2.get? a=some o)→φ h2
def HOk (H:Hp) (h:Heap):Prop:=∀ a o,H a=some o→cM P w H h a o
end
section
variable {P:Program} {w:World} {H H':Hp} {h h':Heap} {a:Addr} {o:HO}
theorem cM.lt (x:cM P w H h a o):a<h.objs.size:=by
 cases o with
 | lst xs=>obtain ⟨_,_,_,_,e⟩:=x;exact Heap.lt_size e
 | tup xs=>obtain ⟨_,_,_,p⟩:=x;exact p.lt
 | dK kvs=>obtain ⟨_,_,_,_,o,_,_,e,_⟩:=x;exact Heap.lt_size e
 | dT kvs=>obtain ⟨_,_,_,_,o,_,_,e,_⟩:=x;exact Heap.lt_size e
 | set S n=>obtain ⟨o,_,_,_,e,_⟩:=x;exact Heap.lt_size e
 | ins C dx fs=>obtain ⟨_,_,_,e,_⟩:=x;exact Heap.lt_size e
 | own y=>obtain ⟨_,e⟩:=x;exact Heap.lt_size e
 | xd fs=>obtain ⟨_,⟨_,_,_,e,_⟩,_⟩:=x;exact Heap.lt_size e
 | rng lo hi=>obtain ⟨_,_,_,e⟩:=x;exact Heap.lt_size e
 | frz ob u=>obtain ⟨e,_⟩:=x;exact Heap.lt_size e
 | tbl ps=>exact Heap.lt_size (show h.get? a=some _ from x)
 | met f y=>exact Heap.lt_size (show h.get? a=some _ from x)
 | ext φ=>obtain ⟨_,⟨_,e⟩,_⟩:=x;exact Heap.lt_size e
theorem Paired.mapP {α β:Type} {F G:α→β→Prop}:∀ {l₁:List α} {l₂:List β},Paired F l₁ l₂→(∀ a b,F a b→G a b)→Paired G l₁ l₂
 | _,_,.nil,_=>.nil
 | _,_,.cons r t,f=>.cons (f _ _ r) (Paired.mapP t f)
theorem cM.stay (x:cM P w H h a o) (k:∀ b u,(b=a∨H b=some (.own a))→h.get? b=some u→h'.get? b=some u)
  (ho:∀ b,H b=some (.own a)→H' b=some (.own a)) (ht:∀ b xs,H b=some (.tup xs)→H' b=some (.tup xs)):cM P w H' h' a o:=by
 induction o with
 | lst xs=>obtain ⟨z,its,n,r,e⟩:=x;exact ⟨z,its,n,r,k _ _ (.inl rfl) e⟩
 | tup xs=>obtain ⟨z,its,r,ob,e,c⟩:=x;exact ⟨z,its,r,ob,k _ _ (.inl rfl) e,c⟩
 | dK kvs=>obtain ⟨z,y,vs,r,ob,es,ep,e,c⟩:=x;exact ⟨z,y,vs,r,ob,es,ep,k _ _ (.inl rfl) e,c⟩
 | dT kvs=>
  obtain ⟨z,y,xs,r,ob,es,ep,e,c⟩:=x
  exact ⟨z,y,xs,Paired.mapP r fun p q z=>⟨z.1,ht _ _ z.2.1,z.2.2⟩,ob,es,ep,k _ _ (.inl rfl) e,c⟩
 | set S n=>obtain ⟨ob,es,ep,t,e,c⟩:=x;exact ⟨ob,es,ep,t,k _ _ (.inl rfl) e,c⟩
 | ins C dx fs=>
  obtain ⟨d,z,ne,e,mA,⟨od,es,ep,e2,c⟩,r⟩:=x
  exact ⟨ho _ d,z,ne,k _ _ (.inl rfl) e,mA,⟨od,es,ep,k _ _ (.inr d) e2,c⟩,r⟩
 | own y=>obtain ⟨ob,e⟩:=x;exact ⟨ob,k _ _ (.inl rfl) e⟩
 | xd fs=>obtain ⟨mA,⟨od,es,ep,e,c⟩,r⟩:=x;exact ⟨mA,⟨od,es,ep,k _ _ (.inl rfl) e,c⟩,r⟩
 | rng lo hi=>obtain ⟨t,u,v,e⟩:=x;exact ⟨t,u,v,k _ _ (.inl rfl) e⟩
 | frz ob u ih=>obtain ⟨e,q⟩:=x;exact ⟨k _ _ (.inl rfl) e,ih q⟩
 | tbl ps=>
  have e:h.get? a=some { cls:=.none,data:=.fields ps.2 }:=x
  show h'.get? a=some { cls:=.none,data:=.fields ps.2 }
  exact k a _ (.inl rfl) e
 | met f y=>
  have e:h.get? a=some (PySem.W.methodObj (.ref f) (.ref y)):=x
  show h'.get? a=some (PySem.W.methodObj (.ref f) (.ref y))
  exact k a _ (.inl rfl) e
 | ext φ=>obtain ⟨p,⟨o,e⟩,st⟩:=x;exact ⟨st _ _ p fun o q=>k _ _ (.inl rfl) q,⟨o,k _ _ (.inl rfl) e⟩,st⟩
theorem HOk.lt (x:HOk P w H h) (e:H a=some o):a<h.objs.size:=(x a o e).lt
theorem HOk.fresh (x:HOk P w H h) (e:h.objs.size≤a):H a=none:=by
 cases q:H a with
 | none=>rfl
 | some u=>exact absurd (Nat.lt_of_lt_of_le (x.lt q) e) (Nat.lt_irrefl _)
theorem HOk.kept (x:HOk P w H h) (k:∀ b u,h.get? b=some u→h'.get? b=some u):HOk P w H h':=fun a o e=>
 (x a o e).stay (fun b u _ q=>k b u q) (fun _ q=>q) fun _ _ q=>q
theorem HOk.laid (x:HOk P w H h) (k:∀ b u,h.get? b=some u→h'.get? b=some u) (hp:h.objs.size≤a) (new:cM P w (upd H a o) h' a o):HOk P w (upd H a o) h':=fun b u e=>by
 have hn:=x.fresh hp
 by_cases hb:b=a
 ·subst hb;rw [aN] at e;cases e;exact new
 ·rw [aL hb] at e
  exact (x b u e).stay (fun c v _ q=>k c v q) (fun c q=>by rw [aL (bI q hn)];exact q) fun c xs q=>by rw [aL (bI q hn)];exact q
end
def Rd (H:Hp) (a:Addr) (u:HO):Prop:=H a=some u∨∃ o,H a=some (.frz o u)
theorem Rd.ok {P:Program} {w:World} {H:Hp} {h:Heap} {a:Addr} {u:HO} (r:Rd H a u) (x:HOk P w H h):cM P w H h a u:=by
 rcases r with r | ⟨o,r⟩
 ·exact x a u r
 ·obtain ⟨_,q⟩:=x a _ r
  exact q
def Mut:Option HO→Prop
 | some (.lst _)=>True
 | some (.dK _)=>True
 | some (.dT _)=>True
 | some (.set _ _)=>True
 | some (.ins _ _ _)=>True
 | some (.ext _)=>True
 | _=>False
section
variable {P:Program} {w:World} {H:Hp} {h h':Heap} {x e:Addr} {o':HO}
theorem HOk.write (ok:HOk P w H h) (mu:Mut (H x)) (he:e=x∨H e=some (.own x)) (k:∀ b u,b≠e→h.get? b=some u→h'.get? b=some u) (heo:∃ u,h'.get? e=some u)
  (new:cM P w (upd H x o') h' x o'):HOk P w (upd H x o') h':=fun b u q=>by
 have nown:∀ c y,H c=some (.own y)→c≠x:=fun c y r z=>by subst z;rw [r] at mu;exact mu
 have ntup:∀ c xs,H c=some (.tup xs)→c≠x:=fun c xs r z=>by subst z;rw [r] at mu;exact mu
 by_cases hb:b=x
 ·subst hb;rw [aN] at q;cases q;exact new
 ·rw [aL hb] at q
  by_cases hbe:b=e
  ·have q':H b=some (.own x):=by
    rcases he with z | z
    ·exact absurd (hbe.trans z) hb
    ·rw [hbe];exact z
   rw [q] at q';cases q'
   obtain ⟨v,hv⟩:=heo
   exact ⟨v,by rw [hbe];exact hv⟩
  ·refine (ok b u q).stay (fun c v hc r=>k c v ?_ r) (fun c r=>by rw [aL (nown c b r)];exact r) fun c xs r=>by rw [aL (ntup c xs r)];exact r
   rcases hc with rfl | hc
   ·exact hbe
   ·rintro rfl
    rcases he with z | z
    ·exact nown c b hc z
    ·rw [hc] at z;cases z;exact hb rfl
end
structure Un (fs ex:List Addr) (H H':Hp) (h h':Heap):Prop where
 keep:∀ b o,h.get? b=some o→H b=none→b∉fs→b∉ex→h'.get? b=some o
 slot:∀ b o,h.get? b=some o→H b=none→b∈fs→b∉ex→∃ sl,h'.get? b=some { o with slots:=sl }
 free:∀ b o,h.get? b=some o→H b=none→b∉ex→H' b=none
 there:∀ b o,h.get? b=some o→b∉ex→∃ o',h'.get? b=some o'
 tups:∀ b xs,H b=some (.tup xs)→H' b=some (.tup xs)
 frzs:∀ b o u,H b=some (.frz o u)→H' b=some (.frz o u)
 tbls:∀ b ps,H b=some (.tbl ps)→∃ more,H' b=some (.tbl (ps.1,ps.2++more))
section
variable {fs fs' ex ex':List Addr} {H H1 H2:Hp} {h h1 h2 h':Heap} {a x e:Addr} {o:HO}
theorem Un.any (u:Un fs ex H H1 h h1) {b:Addr} {ob:Obj} (q:h.get? b=some ob) (n:H b=none) (hx:b∉ex):∃ sl,h1.get? b=some { ob with slots:=sl }:=by
 by_cases hb:b∈fs
 ·exact u.slot b ob q n hb hx
 ·exact ⟨ob.slots,u.keep b ob q n hb hx⟩
theorem Un.trans (a:Un fs ex H H1 h h1) (b:Un fs ex H1 H2 h1 h2):Un fs ex H H2 h h2 where
 keep:=fun c ob q n hc hx=>b.keep c ob (a.keep c ob q n hc hx) (a.free c ob q n hx) hc hx
 slot:=fun c ob q n hc hx=>by
  obtain ⟨sl,e1⟩:=a.slot c ob q n hc hx
  obtain ⟨sl',e2⟩:=b.slot c _ e1 (a.free c ob q n hx) hc hx
  exact ⟨sl',e2⟩
 free:=fun c ob q n hx=>by
  obtain ⟨o',e1⟩:=a.there c ob q hx
  exact b.free c o' e1 (a.free c ob q n hx) hx
 there:=fun c ob q hx=>by
  obtain ⟨o',e1⟩:=a.there c ob q hx
  exact b.there c o' e1 hx
 tups:=fun c xs q=>b.tups c xs (a.tups c xs q)
 frzs:=fun c ob xs q=>b.frzs c ob xs (a.frzs c ob xs q)
 tbls:=fun c ps q=>by
  obtain ⟨m1,e1⟩:=a.tbls c ps q
  obtain ⟨m2,e2⟩:=b.tbls c _ e1
  exact ⟨m1++m2,by rw [e2];simp [Array.append_assoc]⟩
theorem Un.kept (k:∀ b u,h.get? b=some u→h'.get? b=some u):Un fs ex H H h h':=
 ⟨fun b ob q _ _ _=>k b ob q,fun b ob q _ _ _=>⟨ob.slots,k b ob q⟩,fun _ _ _ n _=>n,fun b ob q _=>⟨ob,k b ob q⟩,fun _ _ q=>q,fun _ _ _ q=>q,fun _ ps q=>⟨#[],by rw [q];simp⟩⟩
theorem Un.refl:Un fs ex H H h h:=Un.kept fun _ _ q=>q
theorem Un.laid (k:∀ b u,h.get? b=some u→h'.get? b=some u) (hp:h.objs.size≤a) (hn:H a=none):Un fs ex H (upd H a o) h h' where
 keep:=fun b u q _ _ _=>k b u q
 slot:=fun b u q _ _ _=>⟨u.slots,k b u q⟩
 free:=fun b u q n _=>by rw [aL (Nat.ne_of_lt (Nat.lt_of_lt_of_le (Heap.lt_size q) hp))];exact n
 there:=fun b u q _=>⟨u,k b u q⟩
 tups:=fun b xs q=>by rw [aL (bI q hn)];exact q
 frzs:=fun b u xs q=>by rw [aL (bI q hn)];exact q
 tbls:=fun b ps q=>⟨#[],by rw [aL (bI q hn),q];simp⟩
theorem Un.write (mu:Mut (H x)) (he:e=x∨H e=some (.own x)) (k:∀ b u,b≠e→h.get? b=some u→h'.get? b=some u) (heo:∃ u,h'.get? e=some u):Un fs ex H (upd H x o) h h':=by
 have hx:∀ b,H b=none→b≠x:=fun b n z=>by subst z;rw [n] at mu;exact mu
 have hb:∀ b,H b=none→b≠e:=fun b n z=>by
  subst z
  rcases he with r | r
  ·exact hx b n r
  ·rw [n] at r;cases r
 have hm:∀ b u,H b=some u→¬Mut (some u)→b≠x:=fun b u q nm z=>by subst z;rw [q] at mu;exact nm mu
 refine ⟨fun b u q n _ _=>k b u (hb b n) q,fun b u q n _ _=>⟨u.slots,k b u (hb b n) q⟩,fun b u q n _=>by rw [aL (hx b n)];exact n,fun b u q _=>?_,
  fun b xs q=>by rw [aL (hm b _ q fun z=>z)];exact q,fun b u xs q=>by rw [aL (hm b _ q fun z=>z)];exact q,fun b ps q=>⟨#[],by rw [aL (hm b _ q fun z=>z),q];simp⟩⟩
 by_cases hbe:b=e
 ·subst hbe;exact heo
 ·exact ⟨u,k b u hbe q⟩
theorem Un.mono (u:Un fs ex H H1 h h1) (hs:∀ b∈fs,b∈fs') (hx:∀ b∈ex,b∈ex'):Un fs' ex' H H1 h h1:=
 ⟨fun b ob q n hb he=>u.keep b ob q n (fun z=>hb (hs b z)) fun z=>he (hx b z),fun _ _ q n _ he=>u.any q n fun z=>he (hx _ z),fun b ob q n he=>u.free b ob q n fun z=>he (hx b z),fun b ob q he=>u.there b ob q fun z=>he (hx b z),u.tups,u.frzs,u.tbls⟩
end
def trk (h:Heap) (H:Hp):List Addr:=(List.range h.objs.size).filter fun a=>(H a).isSome
def wA (h:Heap) (H:Hp):Heap:=PySem.W.hideAll h (trk h H)
theorem a5e (h:Heap) (H:Hp):(wA h H).objs.size=h.objs.size:=PySem.W.hideAll_size _ _
theorem a7F {h:Heap} {H:Hp} {b:Addr} {o:Obj} (e:h.get? b=some o) (n:H b=none):(wA h H).get? b=some o:=
 PySem.W.hideAll_get _ e fun hm=>by
  have q:(H b).isSome=true:=(List.mem_filter.mp hm).2
  rw [n] at q;simp at q
theorem a9H {h:Heap} {H:Hp} {b:Addr} {o:Obj} (e:(wA h H).get? b=some o):h.get? b=some o∧H b=none:=by
 have e':h.get? b=some o:=PySem.W.of_hideAll (trk h H) e
 refine ⟨e',?_⟩
 cases q:H b with
 | none=>rfl
 | some x=>
  have hm:b∈trk h H:=List.mem_filter.mpr ⟨List.mem_range.mpr (Heap.lt_size e'),by simp [q]⟩
  have z:(wA h H).get? b=none:=PySem.W.hideAll_none (trk h H) hm
  rw [z] at e;cases e
def b0O (g h:Heap) (L:Addr):List (Addr×Obj):=(List.range h.objs.size).filterMap fun a=>if a=L∨(g.get? a).isSome=true then none else (h.get? a).map fun o=>(a,o)
def rest (g h:Heap) (L d:Addr):List (Addr×Obj):=(b0O g h L).filter fun p=>decide (p.1≠d)
structure Mod (K:PySem.W.Frag) (mg:Str→Option Value) (base:Heap):Prop where
 kin:K.In base
 glob:base.Ns mainGlobals mg
 blt:∃ mb,base.Ns builtinsNs mb∧∀ x:Str,x ≠ "__name__" → mb x=bootBuiltins x
 nolimit:base.NoLimit
structure Cx where
 prog:Program
 w:World
 K:PySem.W.Frag
 mg:Str→Option Value
 base:Heap
 A:Around
 N:List Str
 s₀:Shared
 H₀:Hp
 env:Env
 outer:List Env
 stack:List Env
 ex:List Addr
 fn:Str→Bool
 calm:Bool
 pn:List (Addr×Obj)
 xe:Value→Shared→Prop
def frs (l:List Env):List Addr:=l.filterMap (·.frame)
abbrev Cx.fs (X:Cx):List Addr:=frs X.outer
def Vis (sc:Scope) (x:Str):Prop:=sc.names.lookup x=some .local∨sc.names.lookup x=some .cell∨sc.names.lookup x=some .free
def Loc (sc:Scope) (x:Str):Prop:=sc.names.lookup x=some .local∨sc.names.lookup x=some .cell
def Look (env:Env) (h:Heap) (m:Str→Option Value) (x:Str) (u:Value):Prop:=
 (env.kindOf x=some .local∧m x=some u)∨((env.kindOf x=some .cell∨env.kindOf x=some .free)∧∃ c,env.cells.lookup x=some c∧h.IsCell c (some u))
structure Cx.Ok (X:Cx):Prop where
 mod:Mod X.K X.mg X.base
 kind:X.env.scope.kind=.function
 glob:X.env.globals=mainGlobals
 blt:X.env.builtins=builtinsNs
 above:X.s₀.heap.objs.size≤X.env.locals
 inj:∀ x y c,X.env.cells.lookup x=some c→X.env.cells.lookup y=some c→x=y
 has:∀ x,(X.env.kindOf x=some .cell∨X.env.kindOf x=some .free)→∃ c,X.env.cells.lookup x=some c
 cab:∀ x c,X.fn x=true→X.env.cells.lookup x=some c→X.s₀.heap.objs.size≤c
 hd:X.calm=true→X.A.handled=none
 frames:X.A.frames=some X.stack
 stk:X.stack=X.outer∨(X.stack=X.env::X.outer∧X.env.frame=some X.env.locals)
 exf:∀ b∈X.ex,b≠X.env.locals∧∀ x c,X.env.cells.lookup x=some c→c≠b
 bs:∀ b o,X.base.get? b=some o→X.s₀.heap.get? b=some o∧X.H₀ b=none
 bsz:X.base.objs.size≤X.s₀.heap.objs.size
 noex:∀ b o,X.base.get? b=some o→b∉X.ex
 exfs:∀ b∈X.ex,b∉X.fs
 funs:X.s₀.heap.FunFrames X.base X.outer
 frf:∀ b∈X.fs,X.H₀ b=none
structure Inv (X:Cx) (pins:List (Addr×Obj)) (σ:List (Option V)) (H:Hp) (s:Shared):Prop where
 ok:X.Ok
 os:s.os=X.s₀.os
 bare:AllBare s.gens
 base:Un X.fs X.ex X.H₀ H X.s₀.heap s.heap
 loc:∃ m,s.heap.Ns X.env.locals m∧∀ (i:Nat) (x:Str) (v:V),X.N[i]?=some x→σ[i]?=some (some v)→Vis X.env.scope x→∃ u,RelV v u∧Look X.env s.heap m x u
 cell:∀ x c,X.env.cells.lookup x=some c→∃ v,s.heap.IsCell c v
 free:H X.env.locals=none
 freeC:∀ x c,X.env.cells.lookup x=some c→H c=none
 pin:∀ p∈X.pn++pins,s.heap.get? p.1=some p.2∧H p.1=none∧p.1≠X.env.locals∧p.1∉X.fs∧∀ v,p.2.data≠.cell v
 hok:HOk X.prog X.w H s.heap
 len:σ.length=X.N.length
section
variable {X:Cx} {pins:List (Addr×Obj)} {σ:List (Option V)} {H H':Hp} {s:Shared} {h':Heap}
theorem Cx.Ok.nofr (ok:X.Ok) {b:Addr} {o:Obj} (e:X.base.get? b=some o):b∉X.fs:=fun hb=>by
 have:=(ok.funs.mem hb).1
 rw [e] at this;cases this
theorem Inv.bs (I:Inv X pins σ H s):∀ b o,X.base.get? b=some o→s.heap.get? b=some o∧H b=none:=fun b o e=>
 ⟨I.base.keep b o (I.ok.bs b o e).1 (I.ok.bs b o e).2 (I.ok.nofr e) (I.ok.noex b o e),I.base.free b o (I.ok.bs b o e).1 (I.ok.bs b o e).2 (I.ok.noex b o e)⟩
theorem Inv.bk (I:Inv X pins σ H s):∀ b o,X.base.get? b=some o→s.heap.get? b=some o:=fun b o e=>(I.bs b o e).1
theorem Inv.mod (I:Inv X pins σ H s):Mod X.K X.mg X.base:=I.ok.mod
theorem Inv.kIn (I:Inv X pins σ H s):X.K.In s.heap:=I.ok.mod.kin.keeps I.bk
theorem Inv.lt (I:Inv X pins σ H s):X.env.locals<s.heap.objs.size:=let ⟨_,hn,_⟩:=I.loc;hn.lt
theorem Inv.sz (I:Inv X pins σ H s):X.s₀.heap.objs.size≤s.heap.objs.size:=Nat.le_trans I.ok.above (Nat.le_of_lt I.lt)
theorem Inv.nofs (I:Inv X pins σ H s) {a:Addr} (h:s.heap.objs.size≤a):a∉X.fs:=fun hb=>by
 obtain ⟨_,o,ho,_⟩:=I.ok.funs.mem hb
 exact absurd (Nat.lt_of_lt_of_le (Heap.lt_size ho) (Nat.le_trans I.sz h)) (Nat.lt_irrefl _)
theorem Inv.cne (I:Inv X pins σ H s):∀ x c,X.env.cells.lookup x=some c→c≠X.env.locals:=fun x c e z=>by
 obtain ⟨v,o,ho,hd⟩:=I.cell x c e
 obtain ⟨m,⟨o',es,ep,ho',hd',_⟩,_⟩:=I.loc
 rw [z,ho'] at ho;cases ho;rw [hd'] at hd;cases hd
theorem Inv.funs (I:Inv X pins σ H s):s.heap.FunFrames X.base X.outer:=by
 have all:∀ (l:List Env),(∀ b∈frs l,b∈X.fs)→X.s₀.heap.FunFrames X.base l→s.heap.FunFrames X.base l:=by
  intro l
  induction l with
  | nil=>intro _ _;trivial
  | cons env r ih=>
   intro hs hl
   obtain ⟨hk,⟨L,o,hf,hn,ho,hd⟩,hr⟩:=hl
   have hL:L∈X.fs:=hs L (by unfold frs;rw [List.filterMap_cons,hf];exact List.mem_cons_self)
   obtain ⟨sl,e⟩:=I.base.slot L o ho (I.ok.frf L hL) hL fun z=>I.ok.exfs L z hL
   exact ⟨hk,⟨L,_,hf,hn,e,hd⟩,ih (fun b hb=>hs b (by unfold frs;rw [List.filterMap_cons,hf];exact List.mem_cons_of_mem _ hb)) hr⟩
 exact all X.outer (fun _ hb=>hb) I.ok.funs
theorem Inv.stack (I:Inv X pins σ H s):s.heap.FunFrames X.base X.stack:=by
 rcases I.ok.stk with e | ⟨e,hf⟩
 ·rw [e];exact I.funs
 ·rw [e]
  obtain ⟨m,hn,_⟩:=I.loc
  refine .cons (by rw [I.ok.kind];decide) hf hn ?_ I.funs
  exact Heap.get?_none_of_le (Nat.le_trans I.ok.bsz I.ok.above)
theorem Inv.stkSub (I:Inv X pins σ H s):∀ b∈frs X.stack,b∈X.env.locals::X.fs:=fun b hb=>by
 rcases I.ok.stk with e | ⟨e,hf⟩
 ·rw [e] at hb;exact List.mem_cons_of_mem _ hb
 ·rw [e] at hb
  unfold frs at hb
  rw [List.filterMap_cons,hf] at hb
  exact hb
theorem Inv.stkFree (I:Inv X pins σ H s):∀ b∈frs X.stack,H b=none:=fun b hb=>by
 rcases List.mem_cons.mp (I.stkSub b hb) with e | hb
 ·rw [e];exact I.free
 ·obtain ⟨_,o,ho,_⟩:=I.ok.funs.mem hb
  exact I.base.free b o ho (I.ok.frf b hb) fun z=>I.ok.exfs b z hb
theorem Inv.step {g':Array GenState} {t':Nat} {d':Drawn} {ch:List Addr} (I:Inv X pins σ H s)
  (hch:∀ b∈ch,(b∈X.ex∨X.s₀.heap.objs.size≤b)∧b≠X.env.locals∧(∀ x c,X.env.cells.lookup x=some c→c≠b)∧∀ p∈X.pn++pins,p.1≠b)
  (keep:∀ b o,b≠X.env.locals→b∉X.fs→b∉ch→s.heap.get? b=some o→H b=none→h'.get? b=some o)
  (slot:∀ b o,b≠X.env.locals→b∈X.fs→b∉ch→s.heap.get? b=some o→H b=none→∃ sl,h'.get? b=some { o with slots:=sl }) (free:∀ b o,b∉ch→s.heap.get? b=some o→H b=none→H' b=none)
  (there:∀ b o,b∉ch→s.heap.get? b=some o→∃ o',h'.get? b=some o')
  (tups:∀ b xs,H b=some (.tup xs)→H' b=some (.tup xs)) (frzs:∀ b o u,H b=some (.frz o u)→H' b=some (.frz o u)) (tbls:∀ b ps,H b=some (.tbl ps)→∃ more,H' b=some (.tbl (ps.1,ps.2++more)))
  (ns:∀ m,s.heap.Ns X.env.locals m→h'.Ns X.env.locals m) (hok:HOk X.prog X.w H' h') (hg:AllBare g') :
  Inv X pins σ H' { s with heap:=h',gens:=g',drawn:=d',toks:=t' }:=by
 have neL:∀ b o,X.s₀.heap.get? b=some o→b≠X.env.locals:=fun b o e=>Nat.ne_of_lt (Nat.lt_of_lt_of_le (Heap.lt_size e) I.ok.above)
 have neC:∀ b o,X.s₀.heap.get? b=some o→b∉X.ex→b∉ch:=fun b o e hx hb=>by
  rcases (hch b hb).1 with z | z
  ·exact hx z
  ·exact absurd (Nat.lt_of_lt_of_le (Heap.lt_size e) z) (Nat.lt_irrefl _)
 have cellK:∀ x c,X.env.cells.lookup x=some c→∀ v,s.heap.IsCell c v→h'.IsCell c v:=fun x c e v ⟨o,ho,hd⟩=>by
  have nch:c∉ch:=fun z=>(hch c z).2.2.1 x c e rfl
  by_cases hc:c∈X.fs
  ·obtain ⟨sl,q⟩:=slot c o (I.cne x c e) hc nch ho (I.freeC x c e)
   exact ⟨_,q,hd⟩
  ·exact ⟨o,keep c o (I.cne x c e) hc nch ho (I.freeC x c e),hd⟩
 refine ⟨I.ok,I.os,hg,⟨fun b o e n hb hx=>?_,fun b o e n hb hx=>?_,fun b o e n hx=>?_,fun b o e hx=>?_,fun b xs e=>tups b xs (I.base.tups b xs e),fun b o xs e=>frzs b o xs (I.base.frzs b o xs e),fun b ps e=>?_⟩,?_,fun x c e=>?_,?_,fun x c e=>?_,fun p hp=>?_,hok,I.len⟩
 ·exact keep b o (neL b o e) hb (neC b o e hx) (I.base.keep b o e n hb hx) (I.base.free b o e n hx)
 ·obtain ⟨sl,e1⟩:=I.base.slot b o e n hb hx
  obtain ⟨sl',e2⟩:=slot b _ (neL b o e) hb (neC b o e hx) e1 (I.base.free b o e n hx)
  exact ⟨sl',e2⟩
 ·obtain ⟨o',e1⟩:=I.base.there b o e hx
  exact free b o' (neC b o e hx) e1 (I.base.free b o e n hx)
 ·obtain ⟨o',e1⟩:=I.base.there b o e hx
  exact there b o' (neC b o e hx) e1
 ·obtain ⟨m1,e1⟩:=I.base.tbls b ps e
  obtain ⟨m2,e2⟩:=tbls b _ e1
  exact ⟨m1++m2,by rw [e2];simp [Array.append_assoc]⟩
 ·obtain ⟨m,hn,hl⟩:=I.loc
  refine ⟨m,ns m hn,fun i x v e1 e2 e3=>?_⟩
  obtain ⟨u,r,l⟩:=hl i x v e1 e2 e3
  refine ⟨u,r,?_⟩
  rcases l with l | ⟨k,c,e,z⟩
  ·exact .inl l
  ·exact .inr ⟨k,c,e,cellK x c e _ z⟩
 ·obtain ⟨v,z⟩:=I.cell x c e
  exact ⟨v,cellK x c e v z⟩
 ·obtain ⟨m,⟨o,_,_,ho,_⟩,_⟩:=I.loc
  exact free _ o (fun z=>(hch _ z).2.1 rfl) ho I.free
 ·obtain ⟨v,o,ho,hd⟩:=I.cell x c e
  exact free c o (fun z=>(hch c z).2.2.1 x c e rfl) ho (I.freeC x c e)
 ·obtain ⟨e,n,ne,nf,d⟩:=I.pin p hp
  have nch:p.1∉ch:=fun z=>(hch p.1 z).2.2.2 p hp rfl
  exact ⟨keep p.1 p.2 ne nf nch e n,free p.1 p.2 nch e n,ne,nf,d⟩
theorem Inv.un {t':Nat} (I:Inv X pins σ H s) (u:Un X.fs [] H H' s.heap h') (hok:HOk X.prog X.w H' h'):Inv X pins σ H' { s with heap:=h',toks:=t' }:=by
 obtain ⟨m,⟨o,es,ep,ho,r⟩,_⟩:=id I.loc
 obtain ⟨sl,hL⟩:=u.any ho I.free (by simp)
 exact I.step (g':=s.gens) (d':=s.drawn) (ch:=[]) (fun _ z=>nomatch z) (fun b o _ hb _ e n=>u.keep b o e n hb (by simp)) (fun b o _ hb _ e n=>u.slot b o e n hb (by simp)) (fun b o _ e n=>u.free b o e n (by simp)) (fun b o _ e=>u.there b o e (by simp)) u.tups u.frzs u.tbls (fun m' hm=>by
  obtain ⟨o',es',ep',ho',r'⟩:=hm
  rw [ho] at ho';cases ho'
  exact ⟨_,es',ep',hL,r'⟩) hok I.bare
theorem Inv.call {g':Array GenState} {t':Nat} {d':Drawn} {ch:List Addr} (I:Inv X pins σ H s) (u:Un (frs X.stack) ch H H' s.heap h') (hok:HOk X.prog X.w H' h') (hg:AllBare g')
  (hch:∀ b∈ch,(b∈X.ex∨X.s₀.heap.objs.size≤b)∧b≠X.env.locals∧(∀ x c,X.env.cells.lookup x=some c→c≠b)∧∀ p∈X.pn++pins,p.1≠b) :
  Inv X pins σ H' { s with heap:=h',gens:=g',drawn:=d',toks:=t' }:=by
 obtain ⟨m,⟨o,es,ep,ho,r⟩,_⟩:=id I.loc
 obtain ⟨sl,hL⟩:=u.any ho I.free fun z=>(hch _ z).2.1 rfl
 exact I.step (ch:=ch) hch (fun b o hL hb hc e n=>u.keep b o e n (fun z=>(List.mem_cons.mp (I.stkSub b z)).elim hL hb) hc) (fun b o _ _ hc e n=>u.any e n hc) (fun b o hc e n=>u.free b o e n hc) (fun b o hc e=>u.there b o e hc) u.tups u.frzs u.tbls (fun m' hm=>by
  obtain ⟨o',es',ep',ho',r'⟩:=hm
  rw [ho] at ho';cases ho'
  exact ⟨_,es',ep',hL,r'⟩) hok hg
theorem Inv.turned {t':Nat} {it:Addr} (I:Inv X pins σ H s) (k:∀ b o,b≠it→s.heap.get? b=some o→h'.get? b=some o) (hn:H it=none) (hL:it≠X.env.locals)
  (h1:it∈X.ex∨X.s₀.heap.objs.size≤it) (h2:∀ x c,X.env.cells.lookup x=some c→c≠it) (h3:∀ p∈X.pn++pins,p.1≠it):Inv X pins σ H { s with heap:=h',toks:=t' }:=by
 have nit:∀ b u,H b=some u→b≠it:=fun b u e z=>by rw [z,hn] at e;cases e
 refine I.step (g':=s.gens) (d':=s.drawn) (ch:=[it]) (fun b hb=>?_) (fun b o _ _ hc e _=>k b o (fun z=>hc (by simp [z])) e) (fun b o _ _ hc e _=>⟨o.slots,k b o (fun z=>hc (by simp [z])) e⟩) (fun _ _ _ _ n=>n)
  (fun b o hc e=>⟨o,k b o (fun z=>hc (by simp [z])) e⟩) (fun _ _ e=>e) (fun _ _ _ e=>e) (fun b ps e=>⟨#[],by rw [e];simp⟩) (fun m hm=>?_) (fun b u e=>?_) I.bare
 ·have e:b=it:=by simpa using hb
  subst e
  exact ⟨h1,hL,h2,h3⟩
 ·obtain ⟨o,es,ep,ho,r⟩:=hm
  exact ⟨o,es,ep,k _ o (Ne.symm hL) ho,r⟩
 ·refine (I.hok b u e).stay (fun c v hc q=>k c v ?_ q) (fun _ q=>q) fun _ _ q=>q
  rcases hc with z | z
  ·rw [z];exact nit b u e
  ·exact nit c _ z
theorem Inv.tok (I:Inv X pins σ H s) (t:Nat):Inv X pins σ H { s with toks:=t }:=I.un (h':=s.heap) (t':=t) Un.refl I.hok
theorem Inv.kept {t':Nat} (I:Inv X pins σ H s) (k:∀ b u,s.heap.get? b=some u→h'.get? b=some u):Inv X pins σ H { s with heap:=h',toks:=t' }:=I.un (Un.kept k) (I.hok.kept k)
theorem Inv.laid {a:Addr} {o:HO} {t':Nat} (I:Inv X pins σ H s) (k:∀ b u,s.heap.get? b=some u→h'.get? b=some u) (hp:s.heap.objs.size≤a) (new:cM X.prog X.w (upd H a o) h' a o) :
  Inv X pins σ (upd H a o) { s with heap:=h',toks:=t' }:=I.un (Un.laid k hp (I.hok.fresh hp)) (I.hok.laid k hp new)
theorem Inv.write {x e:Addr} {o:HO} {t':Nat} (I:Inv X pins σ H s) (mu:Mut (H x)) (he:e=x∨H e=some (.own x)) (k:∀ b u,b≠e→s.heap.get? b=some u→h'.get? b=some u) (heo:∃ u,h'.get? e=some u)
  (new:cM X.prog X.w (upd H x o) h' x o):Inv X pins σ (upd H x o) { s with heap:=h',toks:=t' }:=I.un (Un.write mu he k heo) (I.hok.write mu he k heo new)
theorem Inv.pins_of {pins':List (Addr×Obj)} (I:Inv X pins σ H s) (h:∀ p∈pins',s.heap.get? p.1=some p.2∧H p.1=none∧p.1≠X.env.locals∧p.1∉X.fs∧∀ v,p.2.data≠.cell v):Inv X pins' σ H s:=
 ⟨I.ok,I.os,I.bare,I.base,I.loc,I.cell,I.free,I.freeC,fun p hp=>(List.mem_append.mp hp).elim (fun z=>I.pin p (List.mem_append_left _ z)) (h p),I.hok,I.len⟩
theorem tZ {N:List Str} (hN:N.Nodup) {i j:Nat} {x:Str} (a:N[i]?=some x) (b:N[j]?=some x):i=j:=by
 obtain ⟨h1,e1⟩:=List.getElem?_eq_some_iff.mp a
 obtain ⟨h2,e2⟩:=List.getElem?_eq_some_iff.mp b
 exact (List.getElem_inj hN).mp (e1.trans e2.symm)
theorem wJ {M:Model} {A:Around} {E:Value→Shared→Prop} {i:Nat} {x:Str} {v:V} {u:Value} {Q:Unit→Shared→Prop} (I:Inv X pins σ H s) (hN:X.N.Nodup) (hi:X.N[i]?=some x) (hx:Loc X.env.scope x) (r:RelV v u)
  (h:∀ s',Inv X pins (σ.set i (some v)) H s'→(∃ a,Heap.SameBut a s.heap s'.heap∧(a=X.env.locals∨X.env.cells.lookup x=some a))→Q () s') (hf:X.fn x=true∨X.env.scope.names.lookup x=some .local:=by first | exact .inl rfl | exact .inr rfl | assumption):wpAny M A (storeName X.env x u) Q E s:=by
 obtain ⟨m,hn,hl⟩:=id I.loc
 have hcls:(X.env.scope.kind==.class || (X.env.scope.kind==.module&&X.env.locals != X.env.globals))=false:=by rw [I.ok.kind];rfl
 have hiσ:i<σ.length:=by rw [I.len];exact (List.getElem?_eq_some_iff.mp hi).1
 have cne:=I.cne
 have tracked:∀ {a:Addr} {h':Heap},(∃ o,s.heap.get? a=some o∧H a=none)→Heap.SameBut a s.heap h'→HOk X.prog X.w H h':=fun {a h'} ha hs b ob e=>by
  obtain ⟨_,_,hfree⟩:=ha
  refine (I.hok b ob e).stay (fun c w' hc q=>(hs.2 c ?_).trans q) (fun _ q=>q) fun _ _ q=>q
  rintro rfl
  rcases hc with rfl | hc
  ·rw [hfree] at e;cases e
  ·rw [hfree] at hc;cases hc
 rcases hx with hk | hk
 ·refine wpAny_storeName_local hk hn (fun h' hn' hs=>?_) hcls
  obtain ⟨oL,_,_,hoL,_⟩:=id hn
  refine h _ ⟨I.ok,I.os,I.bare,⟨fun b o e n hb hx=>?_,fun b o e n hb hx=>?_,I.base.free,fun b o e hx=>?_,I.base.tups,I.base.frzs,I.base.tbls⟩,⟨_,hn',fun j y v' e1 e2 e3=>?_⟩,fun y c e=>?_,I.free,I.freeC,fun p hp=>?_,tracked ⟨oL,hoL,I.free⟩ hs,by simpa using I.len⟩ ⟨_,hs,.inl rfl⟩
  ·exact (hs.2 b (Nat.ne_of_lt (Nat.lt_of_lt_of_le (Heap.lt_size e) I.ok.above))).trans (I.base.keep b o e n hb hx)
  ·obtain ⟨sl,e1⟩:=I.base.slot b o e n hb hx
   exact ⟨sl,(hs.2 b (Nat.ne_of_lt (Nat.lt_of_lt_of_le (Heap.lt_size e) I.ok.above))).trans e1⟩
  ·obtain ⟨o',e1⟩:=I.base.there b o e hx
   exact ⟨o',(hs.2 b (Nat.ne_of_lt (Nat.lt_of_lt_of_le (Heap.lt_size e) I.ok.above))).trans e1⟩
  ·by_cases hj:j=i
   ·subst hj
    rw [hi] at e1;cases e1
    rw [List.getElem?_set_self hiσ] at e2
    cases e2
    exact ⟨u,r,.inl ⟨hk,by simp⟩⟩
   ·rw [List.getElem?_set_ne (Ne.symm hj)] at e2
    obtain ⟨u',r',q⟩:=hl j y v' e1 e2 e3
    refine ⟨u',r',?_⟩
    rcases q with ⟨k,e⟩ | ⟨k,c,e,z⟩
    ·refine .inl ⟨k,?_⟩
     have:y≠x:=fun e=>hj (tZ hN e1 (e▸hi))
     simp [this,e]
    ·exact .inr ⟨k,c,e,z.sameBut hs (cne y c e)⟩
  ·obtain ⟨w',z⟩:=I.cell y c e
   exact ⟨w',z.sameBut hs (cne y c e)⟩
  ·obtain ⟨e,n,ne,nf,d⟩:=I.pin p hp
   exact ⟨(hs.2 p.1 ne).trans e,n,ne,nf,d⟩
 ·have hfn:X.fn x=true:=by
   rcases hf with z | z
   ·exact z
   ·rw [z] at hk;cases hk
  obtain ⟨c,hc⟩:=I.ok.has x (.inl hk)
  obtain ⟨w',z⟩:=I.cell x c hc
  refine wpAny_storeName_cell I.ok.kind hk hc z (fun h' hc' hs=>?_)
  obtain ⟨oc,hoc,hocd⟩:=id z
  refine h { s with heap:=h' } ⟨I.ok,I.os,I.bare,⟨fun b o e n hb hx=>?_,fun b o e n hb hx=>?_,I.base.free,fun b o e hx=>?_,I.base.tups,I.base.frzs,I.base.tbls⟩,⟨m,hn.sameBut hs (Ne.symm (cne x c hc)),fun j y v' e1 e2 e3=>?_⟩,fun y c' e=>?_,I.free,I.freeC,fun p hp=>?_,tracked ⟨oc,hoc,I.freeC x c hc⟩ hs,by simpa using I.len⟩ ⟨c,hs,.inr hc⟩
  ·exact (hs.2 b (Nat.ne_of_lt (Nat.lt_of_lt_of_le (Heap.lt_size e) (I.ok.cab x c hfn hc)))).trans (I.base.keep b o e n hb hx)
  ·obtain ⟨sl,e1⟩:=I.base.slot b o e n hb hx
   exact ⟨sl,(hs.2 b (Nat.ne_of_lt (Nat.lt_of_lt_of_le (Heap.lt_size e) (I.ok.cab x c hfn hc)))).trans e1⟩
  ·obtain ⟨o',e1⟩:=I.base.there b o e hx
   exact ⟨o',(hs.2 b (Nat.ne_of_lt (Nat.lt_of_lt_of_le (Heap.lt_size e) (I.ok.cab x c hfn hc)))).trans e1⟩
  ·by_cases hj:j=i
   ·subst hj
    rw [hi] at e1;cases e1
    rw [List.getElem?_set_self hiσ] at e2
    cases e2
    exact ⟨u,r,.inr ⟨.inl hk,c,hc,hc'⟩⟩
   ·rw [List.getElem?_set_ne (Ne.symm hj)] at e2
    obtain ⟨u',r',q⟩:=hl j y v' e1 e2 e3
    refine ⟨u',r',?_⟩
    rcases q with q | ⟨k,c',e,z'⟩
    ·exact .inl q
    ·refine .inr ⟨k,c',e,z'.sameBut hs ?_⟩
     rintro rfl
     exact hj (tZ hN e1 (I.ok.inj _ _ _ e hc▸hi))
  ·by_cases hcc:c'=c
   ·subst hcc;exact ⟨_,hc'⟩
   ·obtain ⟨w2,z2⟩:=I.cell y c' e
    exact ⟨w2,z2.sameBut hs hcc⟩
  ·obtain ⟨e,n,ne,nf,d⟩:=I.pin p hp
   refine ⟨(hs.2 p.1 ?_).trans e,n,ne,nf,d⟩
   intro q
   rw [q,hoc] at e
   have q':oc=p.2:=Option.some.inj e
   exact d w' (by rw [←q'];exact hocd)
theorem oK {M:Model} {A:Around} {E:Value→Shared→Prop} {i:Nat} {x:Str} {v:V} {u:Value} {Q:Unit→Shared→Prop} (I:Inv X pins σ H s) (hN:X.N.Nodup) (hi:X.N[i]?=some x) (hx:Loc X.env.scope x) (r:RelV v u)
  (h:∀ s',Inv X pins (σ.set i (some v)) H s'→Q () s') (hf:X.fn x=true∨X.env.scope.names.lookup x=some .local:=by first | exact .inl rfl | exact .inr rfl | assumption):wpAny M A (storeName X.env x u) Q E s:=
 wJ I hN hi hx r (fun s' I' _=>h s' I') hf
theorem Inv.call' {s':Shared} {ch:List Addr} (I:Inv X pins σ H s) (ho:s'.os=s.os) (u:Un (frs X.stack) ch H H' s.heap s'.heap) (hok:HOk X.prog X.w H' s'.heap) (hg:AllBare s'.gens)
  (hch:∀ b∈ch,(b∈X.ex∨X.s₀.heap.objs.size≤b)∧b≠X.env.locals∧(∀ x c,X.env.cells.lookup x=some c→c≠b)∧∀ p∈X.pn++pins,p.1≠b):Inv X pins σ H' s':=by
 obtain ⟨h',g',d',t',o'⟩:=s'
 have e:o'=s.os:=ho
 subst e
 exact I.call (g':=g') (t':=t') (d':=d') u hok hg hch
end
abbrev XK:=Value→Option Addr→Hp→Prop
abbrev St:=List (Option V)
abbrev VK:=V→Hp→Prop
abbrev TE:=St→Hp→VK→Prop
abbrev TT:=St→Hp→(Bool→Hp→Prop)→Prop
abbrev TA:=St→Hp→(List V→Hp→Prop)→Prop
structure Ends where
 nx:St→Hp→Prop
 rt:VK
 bk:St→Hp→Prop:=fun _ _=>False
 ct:St→Hp→Prop:=fun _ _=>False
abbrev TS:=Ends→St→Hp→Prop
def EP (X:Cx) (pins:List (Addr×Obj)) (σ:St) (Q:VK) (u:Value) (s':Shared):Prop:=∃ v H',Inv X pins σ H' s'∧RelV v u∧Q v H'
def TP (X:Cx) (pins:List (Addr×Obj)) (σ:St) (Q:Bool→Hp→Prop) (b:Bool) (s':Shared):Prop:=∃ H',Inv X pins σ H' s'∧Q b H'
def AP (X:Cx) (pins:List (Addr×Obj)) (σ:St) (Q:List V→Hp→Prop) (us:List Value) (s':Shared):Prop:=∃ vs H',Inv X pins σ H' s'∧aY vs us∧Q vs H'
def SP (X:Cx) (pins:List (Addr×Obj)) (D:Ends) (f:Flow) (s':Shared):Prop:=
 match f with
 | .next=>∃ σ' H',Inv X pins σ' H' s'∧D.nx σ' H'
 | .brk=>∃ σ' H',Inv X pins σ' H' s'∧D.bk σ' H'
 | .cont=>∃ σ' H',Inv X pins σ' H' s'∧D.ct σ' H'
 | .ret u=>∃ v σ' H',Inv X pins σ' H' s'∧RelV v u∧D.rt v H'
def PE (X:Cx) (e:Expr) (t:TE):Prop:=
 ∀ (pins:List (Addr×Obj)) (s:Shared) (σ:St) (H:Hp) (Q:VK),Inv X pins σ H s→t σ H Q→wpAny (model X.prog X.w) X.A (eval e X.env) (EP X pins σ Q) X.xe s
def PT (X:Cx) (e:Expr) (t:TT):Prop:=
 ∀ (pins:List (Addr×Obj)) (s:Shared) (σ:St) (H:Hp) (Q:Bool→Hp→Prop),Inv X pins σ H s→t σ H Q→wpAny (model X.prog X.w) X.A (isTrue e X.env (eval e X.env)) (TP X pins σ Q) X.xe s
def PW (X:Cx) (e:Expr) (t:TT):Prop:=
 ∀ (whole:Sem Value) (pins:List (Addr×Obj)) (s:Shared) (σ:St) (H:Hp) (Q:Bool→Hp→Prop),Inv X pins σ H s→t σ H Q→wpAny (model X.prog X.w) X.A (isTrue e X.env whole) (TP X pins σ Q) X.xe s
def PA (X:Cx) (es:List Expr) (t:TA):Prop:=
 ∀ (pos:Pos) (pins:List (Addr×Obj)) (s:Shared) (σ:St) (H:Hp) (Q:List V→Hp→Prop),Inv X pins σ H s→t σ H Q→wpAny (model X.prog X.w) X.A (spliced (backTo pos (starEach es X.env))) (AP X pins σ Q) X.xe s
def PS (X:Cx) (st:Stmt) (t:TS):Prop:=
 ∀ (pins:List (Addr×Obj)) (s:Shared) (σ:St) (H:Hp) (D:Ends),Inv X pins σ H s→t D σ H→wpAny (model X.prog X.w) X.A (exec st X.env) (SP X pins D) X.xe s
def PSs (X:Cx) (st:List Stmt) (t:TS):Prop:=
 ∀ (pins:List (Addr×Obj)) (s:Shared) (σ:St) (H:Hp) (D:Ends),Inv X pins σ H s→t D σ H→wpAny (model X.prog X.w) X.A (execs st X.env) (SP X pins D) X.xe s
theorem thn {α:Type} {t:Sem α} {Q Q':α→Shared→Prop} {M:Model} {A:Around} {E:Value→Shared→Prop} {s:Shared} (h:wpAny M A t Q E s) (hQ:∀ a s,Q a s→Q' a s):wpAny M A t Q' E s:=wpAny_mono h hQ fun _ _ x=>x
section
variable {X:Cx}
def b3V (i:Nat):TE:=fun σ H Q=>∃ v,σ[i]?=some (some v)∧Q v H
def tC (v:V):TE:=fun _ H Q=>Q v H
theorem jP {i:Nat} {x:Str} {pos:Pos} (hN:X.N[i]?=some x) (hv:Vis X.env.scope x) (hd:(x==("__debug__" : Str))=false:=by decide) (hcd:(x==("__classdict__" : Str))=false:=by decide):PE X (.Name x pos) (b3V i):=by
 intro pins s σ H Q I h
 obtain ⟨v,e,h⟩:=h
 obtain ⟨m,hn,hl⟩:=I.loc
 obtain ⟨u,r,l⟩:=hl i x v hN e hv
 have fin:EP X pins σ Q u s:=⟨v,H,I,r,h⟩
 rcases l with ⟨hk,hm⟩ | ⟨hk,c,hc,hcell⟩
 ·exact wpAny_Name (wpAny_loadName_local I.ok.kind hk hn hm fin) hd
 ·rcases hk with hk | hk
  ·exact wpAny_Name (wpAny_loadName_cell I.ok.kind hk hc hcell fin) hd
  ·exact wpAny_Name (wpAny_loadName_free I.ok.kind hk hc hcell fin hcd) hd
theorem b2f {i j pos}:PE X (.Constant (.int i) j pos) (tC (.int i)):=fun _ _ _ H _ I h=>wpAny_Constant_int ⟨.int i,H,I.tok _,⟨_,rfl⟩,h⟩
theorem b4v {b j pos}:PE X (.Constant (.bool b) j pos) (tC (.bl b)):=fun _ _ _ H _ I h=>Constant_bool ⟨.bl b,H,I,rfl,h⟩
theorem a6I {j pos}:PE X (.Constant .none j pos) (tC .non):=fun _ _ _ H _ I h=>Constant_none ⟨.non,H,I,rfl,h⟩
theorem a6H {x j pos}:PE X (.Constant (.str x) j pos) (tC (.str x)):=fun _ _ _ H _ I h=>Calls.Constant_str ⟨.str x,H,I.tok _,⟨_,rfl⟩,h⟩
def Gl (X:Cx) (x:Str):Prop:=X.env.kindOf x=some .globalImplicit
theorem mS {E:Value→Shared→Prop} {pins:List (Addr×Obj)} {s:Shared} {σ:St} {H:Hp} {x:Str} {u:Value} {pos:Pos} {Q:Value→Shared→Prop} (I:Inv X pins σ H s) (hg:Gl X x) (hm:X.mg x=some u) (h:Q u s)
  (hd:(x==("__debug__" : Str))=false:=by decide):wpAny (model X.prog X.w) X.A (eval (.Name x pos) X.env) Q E s:=
 Calls.Name_function_global I.ok.kind hg (Calls.loadGlobal_global (by rw [I.ok.glob];exact I.mod.glob.keeps I.bk) hm h) hd
theorem hZ {E:Value→Shared→Prop} {pins:List (Addr×Obj)} {s:Shared} {σ:St} {H:Hp} {x:Str} {u:Value} {pos:Pos} {Q:Value→Shared→Prop} (I:Inv X pins σ H s) (hg:Gl X x) (hm:X.mg x=none) (hv:bootBuiltins x=some u) (h:Q u s)
  (hn:x ≠ "__name__":=by decide) (hd:(x==("__debug__" : Str))=false:=by decide):wpAny (model X.prog X.w) X.A (eval (.Name x pos) X.env) Q E s:=by
 obtain ⟨mb,h1,h2⟩:=I.mod.blt
 exact Calls.Name_function_global I.ok.kind hg (Calls.loadGlobal_builtin (by rw [I.ok.glob];exact I.mod.glob.keeps I.bk) hm (by rw [I.ok.blt];exact h1.keeps I.bk) ((h2 x hn).trans hv) h) hd
theorem a3v {x:Str} {v:V} {u:Value} {pos:Pos} (hg:Gl X x) (hm:X.mg x=some u) (r:RelV v u) (hd:(x==("__debug__" : Str))=false:=by decide):PE X (.Name x pos) (tC v):=
 fun _ _ _ H _ I h=>mS I hg hm ⟨v,H,I,r,h⟩ hd
theorem a3y {x:Str} {v:V} {u:Value} {pos:Pos} (hg:Gl X x) (hm:X.mg x=none) (hv:bootBuiltins x=some u) (r:RelV v u) (hn:x ≠ "__name__":=by decide) (hd:(x==("__debug__" : Str))=false:=by decide):PE X (.Name x pos) (tC v):=
 fun _ _ _ H _ I h=>hZ I hg hm hv ⟨v,H,I,r,h⟩ hn hd
variable {a b:Expr} {ta tb:TE} {pos:Pos}
def tB (t:TE):TT:=fun σ H Q=>t σ H fun x H1=>∃ c,x=.bl c∧Q c H1
variable {tA tB':TT} {rest:List Expr}
def tOr (t u:TT):TT:=fun σ H Q=>t σ H fun c H1=>if c=true then Q true H1 else u σ H1 Q
def b5q (t:TT):TT:=fun σ H Q=>t σ H fun c H1=>Q (!c) H1
theorem b1U (ha:PT X a tA):PW X (.BoolOp .Or [a] pos) tA:=by
 intro wh pins s σ H Q I h
 refine isTrue_or (thn (ha pins s σ H Q I h) fun c s1 e=>?_)
 cases c with
 | false=>exact isTrue_or_nil e
 | true=>exact e
theorem b4s (ha:PT X a tA) (hb:PW X (.BoolOp .Or (b::rest) pos) tB'):PW X (.BoolOp .Or (a::b::rest) pos) (tOr tA tB'):=by
 intro wh pins s σ H Q I h
 refine isTrue_or (thn (ha pins s σ H _ I h) fun c s1 ⟨H1,I1,q1⟩=>?_)
 cases c with
 | true=>exact ⟨H1,I1,q1⟩
 | false=>exact hb wh pins s1 σ H1 Q I1 q1
theorem b1V (ha:PT X a tA):PT X (.UnaryOp .Not a pos) (b5q tA):=by
 intro pins s σ H Q I h
 exact isTrue_not (ha pins s σ H (fun c H1=>Q (!c) H1) I h)
def b4e (ta tb:TE):TE:=fun σ H Q=>ta σ H fun x H1=>∃ c,x=.bl c∧if c=true then tb σ H1 Q else Q (.bl false) H1
def b3Y (ta:TE):TE:=fun σ H Q=>ta σ H fun x H1=>∃ c,x=.bl c∧Q (.bl (!c)) H1
theorem b2d {op} {t:TE} (h:PE X a t):PE X (.BoolOp op [a] pos) t:=fun pins s σ H Q I hw=>BoolOp_one (h pins s σ H Q I hw)
theorem b2g (ha:PE X a ta) (hb:PE X (.BoolOp .And (b::rest) pos) tb):PE X (.BoolOp .And (a::b::rest) pos) (b4e ta tb):=by
 intro pins s σ H Q I h
 refine BoolOp_and (thn (ha pins s σ H _ I h) fun v s1 ⟨x,H1,I1,r1,q1⟩=>?_)
 obtain ⟨c,rfl,q1⟩:=q1
 cases r1
 refine wpAny_truthy_bool ?_
 cases c with
 | true=>exact hb pins s1 σ H1 Q I1 q1
 | false=>exact ⟨.bl false,H1,I1,rfl,q1⟩
theorem b2e (ha:PE X a ta):PE X (.UnaryOp .Not a pos) (b3Y ta):=by
 intro pins s σ H Q I h
 refine UnaryOp_ (thn (ha pins s σ H _ I h) fun v s1 ⟨x,H1,I1,r1,q1⟩=>?_)
 obtain ⟨c,rfl,q1⟩:=q1
 cases r1
 exact not_of (wpAny_truthy_bool ⟨.bl (!c),H1,I1,rfl,q1⟩)
def tIf (t:TT) (ta tb:TE):TE:=fun σ H Q=>t σ H fun c H1=>if c=true then ta σ H1 Q else tb σ H1 Q
theorem a6K {c:Expr} (hc:PT X c tA) (ha:PE X a ta) (hb:PE X b tb):PE X (.IfExp c a b pos) (tIf tA ta tb):=by
 intro pins s σ H Q I h
 refine wpAny_IfExp (thn (hc pins s σ H _ I h) fun d s1 ⟨H1,I1,q1⟩=>?_)
 cases d with
 | true=>exact ha pins s1 σ H1 Q I1 q1
 | false=>exact hb pins s1 σ H1 Q I1 q1
end
def SqL (K:PySem.W.Frag) (H:Hp) (a:Addr) (xs:List V):Prop:=
 Rd H a (.lst xs) ∨
  ∃ (o:Obj) (its:Array Value) (n:Nat),K.lookup a=some o∧o.cls=.type "list" ∧ o.dict=none∧o.data=.seq its n∧its.size≤sizeLine∧aY xs its.toList
def SqT (K:PySem.W.Frag) (H:Hp) (a:Addr) (xs:List V):Prop:=
 Rd H a (.tup xs) ∨
  ∃ (o:Obj) (its:Array Value) (n:Nat),K.lookup a=some o∧o.cls=.type "tuple" ∧ o.data=.seq its n∧its.size≤sizeLine∧aY xs its.toList
def b6i:Value→Option V
 | .none=>some .non
 | .bool b=>some (.bl b)
 | .int i _=>some (.int i)
 | .str x _=>some (.str x)
 | .bytes b _=>some (.byt b)
 | .float b _=>some (.flt b)
 | .ref a=>some (.ref a)
 | .type n=>some (.ty n)
 | _=>none
theorem RelV.abs {x:V} {u:Value} (r:RelV x u):b6i u=some x:=by
 cases x with
 | non=>cases r;rfl
 | bl _=>cases r;rfl
 | int _=>obtain ⟨t,rfl⟩:=r;rfl
 | str _=>obtain ⟨t,rfl⟩:=r;rfl
 | byt _=>obtain ⟨t,rfl⟩:=r;rfl
 | flt _=>obtain ⟨t,rfl⟩:=r;rfl
 | ref _=>cases r;rfl
 | ty _=>cases r;rfl
theorem RelV.inj {x y:V} {u:Value} (r:RelV x u) (q:RelV y u):x=y:=Option.some.inj (r.abs.symm.trans q.abs)
theorem aY.inj:∀ {xs ys:List V} {us:List Value},aY xs us→aY ys us→xs=ys
 | _,_,_,.nil,.nil=>rfl
 | _,_,_,.cons r t,.cons r' t'=>by rw [r.inj r',aY.inj t t']
section
variable {X:Cx} {pins:List (Addr×Obj)} {σ:St} {H:Hp} {s:Shared} {a:Addr} {xs ys:List V}
theorem SqL.of {K:PySem.W.Frag} (h:H a=some (.lst xs)):SqL K H a xs:=.inl (.inl h)
theorem SqT.of {K:PySem.W.Frag} (h:H a=some (.tup xs)):SqT K H a xs:=.inl (.inl h)
theorem Inv.list (I:Inv X pins σ H s) (h:SqL X.K H a xs):∃ its:List Value,aY xs its∧PlainL s.heap a its.toArray∧xs.length≤sizeLine:=by
 rcases h with h | ⟨o,its,n,hk,hc,hd,hs,hz,r⟩
 ·obtain ⟨z,its,n,r,e⟩:=h.ok I.hok
  exact ⟨its,r,⟨_,n,e,rfl,rfl,rfl⟩,z⟩
 ·refine ⟨its.toList,r,⟨o,n,I.kIn a o hk,hc,hd,by simpa using hs⟩,?_⟩
  have e:=r.length
  simp only [Array.length_toList] at e
  omega
theorem Inv.tuple (I:Inv X pins σ H s) (h:SqT X.K H a xs):∃ its:List Value,aY xs its∧IsTup s.heap a its.toArray∧xs.length≤sizeLine:=by
 rcases h with h | ⟨o,its,n,hk,hc,hs,hz,r⟩
 ·obtain ⟨z,its,r,p⟩:=h.ok I.hok
  exact ⟨its,r,p,z⟩
 ·refine ⟨its.toList,r,⟨o,I.kIn a o hk,hc,n,by simpa using hs⟩,?_⟩
  have e:=r.length
  simp only [Array.length_toList] at e
  omega
theorem Inv.list_inj (I:Inv X pins σ H s) (h:SqL X.K H a xs) (h':SqL X.K H a ys):xs=ys:=by
 obtain ⟨its,r,⟨o,n,e,_,_,d⟩,_⟩:=I.list h
 obtain ⟨its',r',⟨o',n',e',_,_,d'⟩,_⟩:=I.list h'
 rw [e] at e';cases e'
 rw [d] at d'
 injection d' with d1 _
 have:its=its':=by simpa using congrArg Array.toList d1
 subst this
 exact r.inj r'
theorem Inv.tuple_inj (I:Inv X pins σ H s) (h:SqT X.K H a xs) (h':SqT X.K H a ys):xs=ys:=by
 obtain ⟨its,r,⟨o,e,_,n,d⟩,_⟩:=I.tuple h
 obtain ⟨its',r',⟨o',e',_,n',d'⟩,_⟩:=I.tuple h'
 rw [e] at e';cases e'
 rw [d] at d'
 injection d' with d1 _
 have:its=its':=by simpa using congrArg Array.toList d1
 subst this
 exact r.inj r'
end
abbrev Cx.wish (X:Cx) (E:Value→Shared→Prop):Cx:={ X with xe:=E }
abbrev Cx.nox (X:Cx):Cx:=X.wish fun _ _=>False
theorem Cx.Ok.wish {X:Cx} (ok:X.Ok) (E:Value→Shared→Prop):(X.wish E).Ok:=
 ⟨ok.mod,ok.kind,ok.glob,ok.blt,ok.above,ok.inj,ok.has,ok.cab,ok.hd,ok.frames,ok.stk,ok.exf,ok.bs,ok.bsz,ok.noex,ok.exfs,ok.funs,ok.frf⟩
theorem Cx.Ok.unwish {X:Cx} {E:Value→Shared→Prop} (ok:(X.wish E).Ok):X.Ok:=
 ⟨ok.mod,ok.kind,ok.glob,ok.blt,ok.above,ok.inj,ok.has,ok.cab,ok.hd,ok.frames,ok.stk,ok.exf,ok.bs,ok.bsz,ok.noex,ok.exfs,ok.funs,ok.frf⟩
section
variable {X:Cx} {pins:List (Addr×Obj)} {σ:St} {H:Hp} {s:Shared} {E:Value→Shared→Prop}
theorem Inv.wish (I:Inv X pins σ H s) (E:Value→Shared→Prop):Inv (X.wish E) pins σ H s:=⟨I.ok.wish E,I.os,I.bare,I.base,I.loc,I.cell,I.free,I.freeC,I.pin,I.hok,I.len⟩
theorem Inv.unwish (I:Inv (X.wish E) pins σ H s):Inv X pins σ H s:=⟨I.ok.unwish,I.os,I.bare,I.base,I.loc,I.cell,I.free,I.freeC,I.pin,I.hok,I.len⟩
theorem SP.unwish {D:Ends} {f:Flow} {s':Shared} (h:SP (X.wish E) pins D f s'):SP X pins D f s':=by
 cases f with
 | next=>obtain ⟨σ',H',I,q⟩:=h;exact ⟨σ',H',I.unwish,q⟩
 | brk=>obtain ⟨σ',H',I,q⟩:=h;exact ⟨σ',H',I.unwish,q⟩
 | cont=>obtain ⟨σ',H',I,q⟩:=h;exact ⟨σ',H',I.unwish,q⟩
 | ret u=>obtain ⟨v,σ',H',I,r,q⟩:=h;exact ⟨v,σ',H',I.unwish,r,q⟩
theorem PSs.nox {st:List Stmt} {t:TS} (h:PSs X.nox st t):PSs X st t:=fun pins s σ H D I hw=>
 wpAny_mono (h pins s σ H D (I.wish _) hw) (fun _ _ q=>q.unwish) fun _ _ z=>False.elim z
end
section
variable {X:Cx} {st:Stmt} {rest:List Stmt} {t u:TS} {e:Expr} {te:TE} {pos:Pos}
def b4a:TS:=fun D σ H=>D.nx σ H
theorem a3r:PSs X [] b4a:=fun _ _ σ H _ I h=>wpAny_execs_nil ⟨σ,H,I,h⟩
theorem a3q (h1:PS X st t):PSs X [st] t:=by
 intro pins s σ H D I h
 refine wpAny_execs_cons (thn (h1 pins s σ H D I h) fun f s1 q=>?_)
 cases f with
 | next=>exact wpAny_execs_nil q
 | ret v=>exact q
 | brk=>exact q
 | cont=>exact q
theorem Inv.quiet {pins:List (Addr×Obj)} {σ:St} {H:Hp} {s:Shared} (I:Inv X pins σ H s):interactive X.env=false:=by simp [interactive,I.ok.kind]
def b4c (te:TE):TS:=fun D σ H=>te σ H fun _ H1=>D.nx σ H1
theorem a3t (he:PE X e te) (hs:swapsWith e none pos.line X.env=pure false:=by rfl):PS X (.Expr e pos) (b4c te):=by
 intro pins s σ H D I h
 exact wpAny_Expr_any (thn (he pins s σ H _ I h) fun v s1 ⟨x,H1,I1,r1,q1⟩=>⟨σ,H1,I1,q1⟩) I.quiet hs
def b5p (te:TE):TS:=fun D σ H=>te σ H D.rt
theorem b1W (he:PE X e te):PS X (.Return (some e) pos) (b5p te):=by
 intro pins s σ H D I h
 exact wpAny_Return_some (thn (he pins s σ H _ I h) fun v s1 ⟨x,H1,I1,r1,q1⟩=>⟨x,σ,H1,I1,r1,q1⟩)
def b5s (c:TT) (t u:TS):TS:=fun D σ H=>c σ H fun b H1=>if b=true then t D σ H1 else u D σ H1
theorem b4t {c:Expr} {a b:List Stmt} {tc:TT} (hc:PT X c tc) (ha:PSs X a t) (hb:PSs X b u):PS X (.If c a b pos) (b5s tc t u):=by
 intro pins s σ H D I h
 refine wpAny_If (thn (hc pins s σ H _ I h) fun d s1 ⟨H1,I1,q1⟩=>?_)
 cases d with
 | true=>exact ha pins s1 σ H1 D I1 q1
 | false=>exact hb pins s1 σ H1 D I1 q1
end
abbrev TG:=V→St→Hp→(St→Hp→Prop)→Prop
abbrev TGs:=List V→St→Hp→(St→Hp→Prop)→Prop
def PG (X:Cx) (target:Expr) (t:TG):Prop:=
 ∀ (pins:List (Addr×Obj)) (s:Shared) (σ:St) (H:Hp) (v:V) (u:Value) (Q:St→Hp→Prop),Inv X pins σ H s→RelV v u→t v σ H Q →
  wpAny (model X.prog X.w) X.A (assign target X.env u) (fun _ s'=>∃ σ' H',Inv X pins σ' H' s'∧Q σ' H') X.xe s
def PGs (X:Cx) (ts:List Expr) (t:TGs):Prop:=
 ∀ (pins:List (Addr×Obj)) (s:Shared) (σ:St) (H:Hp) (vs:List V) (us:List Value) (Q:St→Hp→Prop),Inv X pins σ H s→aY vs us→t vs σ H Q →
  wpAny (model X.prog X.w) X.A (assignInOrder ((assignEach ts X.env).map (·.2)) us) (fun _ s'=>∃ σ' H',Inv X pins σ' H' s'∧Q σ' H') X.xe s
abbrev TIp:=V→V→Hp→VK→Prop
def PIp (X:Cx) (op:Operator) (t:TIp):Prop:=
 ∀ (pins:List (Addr×Obj)) (s:Shared) (σ:St) (H:Hp) (x y:V) (v u:Value) (Q:VK),Inv X pins σ H s→RelV x v→RelV y u→t x y H Q →
  wpAny (model X.prog X.w) X.A (inplaceOp op v u) (EP X pins σ Q) X.xe s
section
variable {X:Cx} {pos:Pos}
def a7P (i:Nat):TG:=fun v σ H Q=>Q (σ.set i (some v)) H
theorem a9s {i:Nat} {x:Str} (hN:X.N.Nodup) (hi:X.N[i]?=some x) (hx:Loc X.env.scope x) (hf:X.fn x=true∨X.env.scope.names.lookup x=some .local:=by first | exact .inl rfl | exact .inr rfl | assumption):PG X (.Name x pos) (a7P i):=by
 intro pins s σ H v u Q I r h
 exact wpAny_assign_Name (oK I hN hi hx r (fun s' I'=>⟨_,H,I',h⟩) hf)
def b6a:TGs:=fun vs σ H Q=>vs=[]∧Q σ H
def b4P (t:TG) (u:TGs):TGs:=fun vs σ H Q=>∃ v r,vs=v::r∧t v σ H fun σ' H'=>u r σ' H' Q
theorem a9q:PGs X [] b6a:=by
 intro pins s σ H vs us Q I r h
 obtain ⟨e,h⟩:=h
 subst e
 cases r
 exact assignInOrder_nil ⟨σ,H,I,h⟩
theorem a6G {e:Expr} {es:List Expr} {t:TG} {u:TGs} (h1:PG X e t) (h2:PGs X es u)
  (hs:(assignEach (e::es) X.env).map (·.2)=assign e X.env::(assignEach es X.env).map (·.2):=by rfl):PGs X (e::es) (b4P t u):=by
 intro pins s σ H vs us Q I r h
 obtain ⟨v,vr,e1,h⟩:=h
 subst e1
 cases r with
 | cons r rr=>
  rw [hs]
  refine assignInOrder_cons (thn (h1 pins s σ H _ _ _ I r h) fun _ s1 ⟨σ1,H1,I1,q1⟩=>?_)
  exact h2 pins s1 σ1 H1 _ _ Q I1 rr q1
def b5Z (K:PySem.W.Frag) (n:Nat) (t:TGs):TG:=fun v σ H Q=>∃ a xs,v=.ref a∧SqT K H a xs∧xs.length=n∧t xs σ H Q
theorem b2b {es:List Expr} {k:Nat} {t:TGs} {n:Nat} (hc:X.calm=true) (h:PGs X es t)
  (hn:(assignEach es X.env).length=n:=by rfl) (hst:(assignEach es X.env).findIdx? (·.1)=none:=by rfl):PG X (.Tuple es k pos) (b5Z X.K n t):=by
 intro pins s σ H v u Q I r hw
 obtain ⟨a,xs,e1,hq,hl,hw⟩:=hw
 subst e1
 cases r
 obtain ⟨its,rv,ht,hz⟩:=I.tuple hq
 refine assign_Tuple_tuple (I.ok.hd hc) ht (by simp [hn,←hl,rv.length]) hst fun h' hx=>?_
 have I1:Inv X pins σ H { s with heap:=h' }:=I.kept (t':=s.toks) fun b o e=>hx b o (Nat.ne_of_lt (Heap.lt_size e)) e
 exact h pins _ σ H xs _ Q I1 (by simpa using rv) hw
def b1L (te:TE) (g:TG):TS:=fun D σ H=>te σ H fun x H1=>g x σ H1 D.nx
theorem b1Y {tg e:Expr} {te:TE} {g:TG} (he:PE X e te) (hg:PG X tg g) (hs:swapsWithSole [tg] e pos.line X.env=pure false:=by rfl) (hw:swappedStores [tg] e X.env=pure none:=by rfl)
  (h1:(assignEach [tg] X.env).map (·.2)=[assign tg X.env]:=by rfl):PS X (.Assign [tg] e pos) (b1L te g):=by
 intro pins s σ H D I h
 refine wpAny_Assign_stores (thn (he pins s σ H _ I h) fun v s1 ⟨x,H1,I1,r1,q1⟩=>?_) hs hw
 rw [h1]
 exact thn (hg pins s1 σ H1 x v _ I1 r1 q1) fun _ s2 q=>q
theorem a2u {i:Nat} {x:Str} {e:Expr} {te:TE} {pos':Pos} (hN:X.N.Nodup) (hi:X.N[i]?=some x) (hx:Loc X.env.scope x) (he:PE X e te) (hs:swapsWith e (some (.Name x pos')) pos.line X.env=pure false:=by rfl) (hf:X.fn x=true∨X.env.scope.names.lookup x=some .local:=by first | exact .inl rfl | exact .inr rfl | assumption) :
  PS X (.Assign [.Name x pos'] e pos) (b1L te (a7P i)):=by
 intro pins s σ H D I h
 refine wpAny_Assign_Name (thn (he pins s σ H _ I h) fun v s1 ⟨y,H1,I1,r1,q1⟩=>?_) hs
 exact oK I1 hN hi hx r1 (fun s2 I2=>⟨_,H1,I2,q1⟩) hf
def b5v (i:Nat) (te:TE) (ti:TIp):TS:=fun D σ H=>∃ x,σ[i]?=some (some x)∧te σ H fun y H1=>ti x y H1 fun z H2=>D.nx (σ.set i (some z)) H2
theorem a6B {i:Nat} {x:Str} {e:Expr} {te:TE} {op:Operator} {ti:TIp} {pos':Pos} (hN:X.N.Nodup) (hi:X.N[i]?=some x) (hx:Loc X.env.scope x) (he:PE X e te) (ho:PIp X op ti) (hf:X.fn x=true∨X.env.scope.names.lookup x=some .local:=by first | exact .inl rfl | exact .inr rfl | assumption) :
  PS X (.AugAssign (.Name x pos') op e pos) (b5v i te ti):=by
 intro pins s σ H D I h
 obtain ⟨v,e1,h⟩:=h
 obtain ⟨m,hn,hl⟩:=I.loc
 have vis:Vis X.env.scope x:=by rcases hx with k | k;exact .inl k;exact .inr (.inl k)
 obtain ⟨u,r,l⟩:=hl i x v hi e1 vis
 refine wpAny_AugAssign_Name ?_
 have go:wpAny (model X.prog X.w) X.A (eval e X.env) (fun w s₂=>wpAny (model X.prog X.w) X.A (inplaceOp op u w) (fun r s₃=>wpAny (model X.prog X.w) X.A (storeName X.env x r) (fun _=>SP X pins D .next) X.xe s₃) X.xe s₂) X.xe s:=by
  refine thn (he pins s σ H _ I h) fun w s1 ⟨y,H1,I1,r1,q1⟩=>?_
  refine thn (ho pins s1 σ H1 v y u w _ I1 r r1 q1) fun z s2 ⟨zv,H2,I2,r2,q2⟩=>?_
  exact oK I2 hN hi hx r2 (fun s3 I3=>⟨_,H2,I3,q2⟩) hf
 rcases l with ⟨hk,hm⟩ | ⟨hk,c,hc,hcell⟩
 ·exact wpAny_loadName_local I.ok.kind hk hn hm go
 ·rcases hk with hk | hk
  ·exact wpAny_loadName_cell I.ok.kind hk hc hcell go
  ·rcases hx with k | k
   ·have:X.env.scope.names.lookup x=some .free:=hk
    rw [k] at this;cases this
   ·have:X.env.scope.names.lookup x=some .free:=hk
    rw [k] at this;cases this
def ipI (f:Int→Int→Int):TIp:=fun x y H Q=>∃ i j,x=.int i∧y=.int j∧Q (.int (f i j)) H
theorem b3c:PIp X .Add (ipI fun i j=>i+j):=by
 intro pins s σ H x y v u Q I r1 r2 h
 obtain ⟨i,j,e1,e2,q⟩:=h
 subst e1;subst e2
 obtain ⟨t,rfl⟩:=r1
 obtain ⟨t',rfl⟩:=r2
 exact iadd_int ⟨.int _,H,I.tok _,⟨_,rfl⟩,q⟩
theorem b3b:PIp X .Sub (ipI fun i j=>i - j):=by
 intro pins s σ H x y v u Q I r1 r2 h
 obtain ⟨i,j,e1,e2,q⟩:=h
 subst e1;subst e2
 obtain ⟨t,rfl⟩:=r1
 obtain ⟨t',rfl⟩:=r2
 exact isub_int ⟨.int _,H,I.tok _,⟨_,rfl⟩,q⟩
end
section
variable {X:Cx} {pos:Pos}
end
structure It where
 go:Nat→Hp→Prop
 yld:Nat→Hp→V→Hp→Prop
 stop:Nat→Hp→Prop
def sI (X:Cx) (pins:List (Addr×Obj)) (H:Hp) (b:Addr):Prop:=
 H b=none∧b≠X.env.locals∧b∉X.fs∧(b∈X.ex∨X.s₀.heap.objs.size≤b)∧(∀ x c,X.env.cells.lookup x=some c→c≠b)∧∀ p∈X.pn++pins,p.1≠b
theorem Inv.fpOk {X:Cx} {pins:List (Addr×Obj)} {σ:St} {H H':Hp} {s:Shared} {b:Addr} (I:Inv X pins σ H s) (hb:s.heap.objs.size≤b) (hn:H' b=none):sI X pins H' b:=by
 refine ⟨hn,Nat.ne_of_gt (Nat.lt_of_lt_of_le I.lt hb),I.nofs hb,.inr (Nat.le_trans I.sz hb),fun x c e z=>?_,fun p hp z=>?_⟩
 ·obtain ⟨v,q⟩:=I.cell x c e
  exact absurd (Nat.lt_of_lt_of_le q.lt (by rw [z];exact hb)) (Nat.lt_irrefl _)
 ·exact absurd (Nat.lt_of_lt_of_le (Heap.lt_size (I.pin p hp).1) (by rw [z];exact hb)) (Nat.lt_irrefl _)
structure Turn (P:Program) (w:World) (K:PySem.W.Frag) (tg:Expr) (J:It) (fp:List Addr) (it:Addr) (tn:Nat→Heap→Prop):Prop where
 mem:it∈fp
 obj:∀ i h,tn i h→∀ b∈fp,∃ o,h.get? b=some o∧∀ v,o.data≠.cell v
 keep:∀ i h h',tn i h→(∀ b∈fp,∀ o,h.get? b=some o→h'.get? b=some o)→tn i h'
 item:∀ (X:Cx),X.prog=P→X.w=w→X.K=K→X.calm=true→∀ (i:Nat) (pins:List (Addr×Obj)) (s:Shared) (σ:St) (H:Hp) (E:Value→Shared→Prop),Inv X pins σ H s→(∀ b∈fp,sI X pins H b)→tn i s.heap→J.go i H →
  wpAny (model P w) X.A (pyNext (.ref it)) (fun r s1=>∃ u,r=some u ∧
   wpAny (model P w) X.A (letOwnedTupleGo tg (.ref it) u) (fun _ s2=>∃ x H',Inv X pins σ H' s2∧RelV x u∧J.yld i H x H'∧tn (i+1) s2.heap∧∀ b∈fp,H' b=none) E s1) E s
 done:∀ (X:Cx),X.prog=P→X.w=w→X.K=K→X.calm=true→∀ (i:Nat) (pins:List (Addr×Obj)) (s:Shared) (σ:St) (H:Hp) (E:Value→Shared→Prop),Inv X pins σ H s→(∀ b∈fp,sI X pins H b)→tn i s.heap→J.stop i H →
  wpAny (model P w) X.A (pyNext (.ref it)) (fun r s1=>r=none∧Inv X pins σ H s1) E s
 self:∀ (A:Around) (i:Nat) (s:Shared) (Q:Value→Shared→Prop) (E:Value→Shared→Prop),tn i s.heap→Q (.ref it) s→wpAny (model P w) A (pyIter (.ref it)) Q E s
abbrev TI:=St→Hp→(It→Hp→Prop)→Prop
def PIE (X:Cx) (pins:List (Addr×Obj)) (σ:St) (tg:Expr) (R:It→Hp→Prop) (itv:Value) (s2:Shared):Prop:=
 ∃ (it:Addr) (fp:List Addr) (tn:Nat→Heap→Prop) (J:It) (H':Hp),itv=.ref it∧Inv X pins σ H' s2∧Turn X.prog X.w X.K tg J fp it tn∧tn 0 s2.heap∧(∀ b∈fp,sI X pins H' b)∧R J H'
def PI (X:Cx) (tg iter:Expr) (wi:TI):Prop:=
 ∀ (pins:List (Addr×Obj)) (s:Shared) (σ:St) (H:Hp) (R:It→Hp→Prop),Inv X pins σ H s→wi σ H R →
  wpAny (model X.prog X.w) X.A (eval iter X.env) (fun v s1=>wpAny (model X.prog X.w) X.A (pyIter v) (PIE X pins σ tg R) X.xe s1) X.xe s
theorem a7L {M:Model} {A:Around} {E:Value→Shared→Prop} {s:Shared} {tg:Expr} {it:Addr} {u:Value} {o:Obj} {n:String} {vs:Array Value} {Q:Unit→Shared→Prop} (ho:s.heap.get? it=some o) (hc:o.cls=.type n) (hd:o.data=.fields vs)
  (hn:["enumerate", "zip", "dict_itemiterator", "dict_reverseitemiterator", "odict_iterator", "itertools.zip_longest", "itertools.pairwise"].contains n=false) (hQ:Q () s):wpAny M A (letOwnedTupleGo tg (.ref it) u) Q E s:=by
 unfold letOwnedTupleGo
 cases tg<;>first
  | exact wpAny_pure hQ
  | (cases u<;>first
    | exact wpAny_pure hQ
    | (refine wpAny_bind (wpAny_load ho ?_);rw [hc,hd];show wpAny M A (if (["enumerate", "zip", "dict_itemiterator", "dict_reverseitemiterator", "odict_iterator", "itertools.zip_longest", "itertools.pairwise"].contains n&&vs[0]?==some (rawInt _))=true then _ else _) Q E s;rw [if_neg (by intro h;rw [hn,Bool.false_and] at h;cases h)];exact wpAny_pure hQ))
def Itl (K:PySem.W.Frag) (a:Addr):It:=
 ⟨fun i H=>∃ xs x,SqL K H a xs∧xs[i]?=some x,fun i H x H'=>H'=H∧∀ xs,SqL K H a xs→xs[i]?=some x,fun i H=>∃ xs,SqL K H a xs∧xs.length≤i⟩
def Itt (K:PySem.W.Frag) (a:Addr):It:=
 ⟨fun i H=>∃ xs x,SqT K H a xs∧xs[i]?=some x,fun i H x H'=>H'=H∧∀ xs,SqT K H a xs→xs[i]?=some x,fun i H=>∃ xs,SqT K H a xs∧xs.length≤i⟩
def Itr (lo:Int) (n:Nat):It:=⟨fun i _=>i<n,fun i H x H'=>H'=H∧x=.int (lo+i),fun i _=>n≤i⟩
theorem a4i {P:Program} {w:World} {K:PySem.W.Frag} {tg:Expr} (a it:Addr):Turn P w K tg (Itl K a) [it] it (fun i h=>h.IsListIter it a i) where
 mem:=by simp
 obj:=fun i h st b hb=>by
  have e:b=it:=by simpa using hb
  subst e
  obtain ⟨o,e,c,d⟩:=st
  exact ⟨o,e,fun v z=>by rw [d] at z;cases z⟩
 keep:=fun i h h' st k=>st.at fun o e=>k it (by simp) o e
 item:=by
  intro X hP hw hK hc i pins s σ H E I hf st hg
  subst hP hw hK
  obtain ⟨xs,x,hq,hx⟩:=hg
  obtain ⟨its,rv,p,hz⟩:=I.list hq
  obtain ⟨u,hu,ru⟩:=rv.get hx
  obtain ⟨f0,f1,f2,f3,f4,f5⟩:=hf it (by simp)
  refine wpAny_pyNext_list_item st p.isList (x:=u) (by simpa using hu) fun h' st' sb=>?_
  have I1:Inv X pins σ H { s with heap:=h' }:=I.turned (t':=s.toks) (fun b o hb e=>(sb.2 b hb).trans e) f0 f1 f3 f4 f5
  obtain ⟨o,e,c,d⟩:=id st'
  exact ⟨u,rfl,a7L (s:={ s with heap:=h' }) e c d (by decide) ⟨x,H,I1,ru,⟨rfl,fun ys hy=>by rw [I.list_inj hy hq];exact hx⟩,st',fun b hb=>(hf b hb).1⟩⟩
 done:=by
  intro X hP hw hK hc i pins s σ H E I hf st hg
  subst hP hw hK
  obtain ⟨xs,hq,hx⟩:=hg
  obtain ⟨its,rv,p,hz⟩:=I.list hq
  obtain ⟨f0,f1,f2,f3,f4,f5⟩:=hf it (by simp)
  have hl:=rv.length
  exact wpAny_pyNext_list_end (I.ok.hd hc) st p.isList (by simp;omega) fun h' eb=>⟨rfl,I.turned (t':=s.toks) (fun b o hb e=>eb b o hb e) f0 f1 f3 f4 f5⟩
 self:=fun _ _ _ _ _ st h=>wpAny_pyIter_listiter st h
theorem a2c {P:Program} {w:World} {K:PySem.W.Frag} {tg:Expr} (a it:Addr):Turn P w K tg (Itt K a) [it] it (fun i h=>h.IsTupleIter it a i) where
 mem:=by simp
 obj:=fun i h st b hb=>by
  have e:b=it:=by simpa using hb
  subst e
  obtain ⟨o,e,c,d⟩:=st
  exact ⟨o,e,fun v z=>by rw [d] at z;cases z⟩
 keep:=fun i h h' st k=>st.at fun o e=>k it (by simp) o e
 item:=by
  intro X hP hw hK hc i pins s σ H E I hf st hg
  subst hP hw hK
  obtain ⟨xs,x,hq,hx⟩:=hg
  obtain ⟨its,rv,p,hz⟩:=I.tuple hq
  obtain ⟨u,hu,ru⟩:=rv.get hx
  obtain ⟨f0,f1,f2,f3,f4,f5⟩:=hf it (by simp)
  refine wpAny_pyNext_tuple_item st (show s.heap.IsTuple a its.toArray from p) (x:=u) (by simpa using hu) fun h' st' sb=>?_
  have I1:Inv X pins σ H { s with heap:=h' }:=I.turned (t':=s.toks) (fun b o hb e=>(sb.2 b hb).trans e) f0 f1 f3 f4 f5
  obtain ⟨o,e,c,d⟩:=id st'
  exact ⟨u,rfl,a7L (s:={ s with heap:=h' }) e c d (by decide) ⟨x,H,I1,ru,⟨rfl,fun ys hy=>by rw [I.tuple_inj hy hq];exact hx⟩,st',fun b hb=>(hf b hb).1⟩⟩
 done:=by
  intro X hP hw hK hc i pins s σ H E I hf st hg
  subst hP hw hK
  obtain ⟨xs,hq,hx⟩:=hg
  obtain ⟨its,rv,p,hz⟩:=I.tuple hq
  obtain ⟨f0,f1,f2,f3,f4,f5⟩:=hf it (by simp)
  have hl:=rv.length
  exact wpAny_pyNext_tuple_end (I.ok.hd hc) st (show s.heap.IsTuple a its.toArray from p) (by simp;omega) fun h' eb=>⟨rfl,I.turned (t':=s.toks) (fun b o hb e=>eb b o hb e) f0 f1 f3 f4 f5⟩
 self:=fun _ _ _ _ _ st h=>wpAny_pyIter_tupleiter st h
theorem a2d {P:Program} {w:World} {K:PySem.W.Frag} {tg:Expr} (it:Addr) (lo:Int) (n:Nat):Turn P w K tg (Itr lo n) [it] it (fun i h=>IsRangeIter h it (lo+(i:Nat)*1) ((n:Int) - (i:Nat)) 1) where
 mem:=by simp
 obj:=fun i h st b hb=>by
  have e:b=it:=by simpa using hb
  subst e
  exact ⟨_,st,fun v z=>by
   have z':Data.fields _=Data.cell v:=z
   cases z'⟩
 keep:=fun i h h' st k=>k it (by simp) _ st
 item:=by
  intro X hP hw hK hc i pins s σ H E I hf st hg
  subst hP hw hK
  obtain ⟨f0,f1,f2,f3,f4,f5⟩:=hf it (by simp)
  have W:=Walks.range (prog:=X.prog) (w:=X.w) (I.ok.hd hc) it lo 1 n
  refine W.item i s _ _ hg st fun v h' tk hv st' kk=>?_
  obtain ⟨t,rfl⟩:=hv
  have I1:Inv X pins σ H { s with heap:=h',toks:=tk }:=I.turned (fun b o hb e=>kk b o (by simpa using hb) e) f0 f1 f3 f4 f5
  refine ⟨_,rfl,a7L (s:={ s with heap:=h',toks:=tk }) (n := "range_iterator") st' rfl rfl (by decide) ⟨.int (lo+i),H,I1,⟨t,?_⟩,⟨rfl,rfl⟩,st',fun b hb=>(hf b hb).1⟩⟩
  rw [Int.mul_one]
 done:=by
  intro X hP hw hK hc i pins s σ H E I hf st hg
  subst hP hw hK
  obtain ⟨f0,f1,f2,f3,f4,f5⟩:=hf it (by simp)
  exact wpAny_pyNext_range_end (I.ok.hd hc) st (by have:n≤i:=hg;omega) fun h' eb=>⟨rfl,I.turned (t':=s.toks) (fun b o hb e=>eb b o hb e) f0 f1 f3 f4 f5⟩
 self:=fun _ _ _ _ _ st h=>wpAny_pyIter_rangeiter st h
section
variable {X:Cx} {tg:Expr}
def b4M (K:PySem.W.Frag) (tl:TE):TI:=fun σ H R=>tl σ H fun x H1=>∃ a,x=.ref a∧(∃ xs,SqL K H1 a xs)∧R (Itl K a) H1
def b5Y (K:PySem.W.Frag) (tl:TE):TI:=fun σ H R=>tl σ H fun x H1=>∃ a,x=.ref a∧(∃ xs,SqT K H1 a xs)∧R (Itt K a) H1
theorem yZ {l:Expr} {tl:TE} (hl:PE X l tl):PI X tg l (b4M X.K tl):=by
 intro pins s σ H R I h
 refine thn (hl pins s σ H _ I h) fun v s1 ⟨x,H1,I1,r1,q1⟩=>?_
 obtain ⟨a,e,⟨xs,hq⟩,q⟩:=q1
 subst e
 cases r1
 obtain ⟨its,rv,p,hz⟩:=I1.list hq
 refine wpAny_pyIter_list p.isList ?_
 refine ⟨s1.heap.objs.size,[s1.heap.objs.size],_,_,H1,rfl,I1.kept (t':=s1.toks) fun b o e=>Heap.get?_push_of_some _ e,a4i a _,⟨_,Heap.get?_push_size _ rfl,rfl,rfl⟩,fun b hb=>?_,q⟩
 have e:b=s1.heap.objs.size:=by simpa using hb
 subst e
 exact I1.fpOk (Nat.le_refl _) (I1.hok.fresh (Nat.le_refl _))
theorem b2a {l:Expr} {tl:TE} (hl:PE X l tl):PI X tg l (b5Y X.K tl):=by
 intro pins s σ H R I h
 refine thn (hl pins s σ H _ I h) fun v s1 ⟨x,H1,I1,r1,q1⟩=>?_
 obtain ⟨a,e,⟨xs,hq⟩,q⟩:=q1
 subst e
 cases r1
 obtain ⟨its,rv,p,hz⟩:=I1.tuple hq
 refine wpAny_pyIter_tuple (show s1.heap.IsTuple a its.toArray from p) ?_
 refine ⟨s1.heap.objs.size,[s1.heap.objs.size],_,_,H1,rfl,I1.kept (t':=s1.toks) fun b o e=>Heap.get?_push_of_some _ e,a2c a _,⟨_,Heap.get?_push_size _ rfl,rfl,rfl⟩,fun b hb=>?_,q⟩
 have e:b=s1.heap.objs.size:=by simpa using hb
 subst e
 exact I1.fpOk (Nat.le_refl _) (I1.hok.fresh (Nat.le_refl _))
theorem a0T {pins:List (Addr×Obj)} {σ:St} {H:Hp} {s:Shared} {R:It→Hp→Prop} {E:Value→Shared→Prop} {lo hi:Int} {t u v:Tok} {tk:Nat} (I:Inv X pins σ H s) (h1:-(2 ^ 62)≤lo) (h2:lo<2 ^ 62) (h3:-(2 ^ 62)≤hi) (h4:hi<2 ^ 62)
  (q:R (Itr lo (hi - lo).toNat) H):wpAny (model X.prog X.w) X.A (pyIter (.ref s.heap.objs.size)) (PIE X pins σ tg R) E { s with heap:=s.heap.push { cls:=.type "range", data:=.fields #[.int lo t,.int hi u,.int 1 v] },toks:=tk }:=by
 refine wpAny_pyIter_range (IsRange.new ..) (small_one h1 h2 h3 h4) ?_
 have I1:Inv X pins σ H { s with heap:=s.heap.push { cls:=.type "range", data:=.fields #[.int lo t,.int hi u,.int 1 v] },toks:=tk }:=I.kept fun b o e=>Heap.get?_push_of_some _ e
 refine ⟨(s.heap.push { cls:=.type "range", data:=.fields #[.int lo t,.int hi u,.int 1 v] }).objs.size,[(s.heap.push { cls:=.type "range", data:=.fields #[.int lo t,.int hi u,.int 1 v] }).objs.size],_,_,H,rfl,
  I1.kept (t':=tk) fun b o e=>Heap.get?_push_of_some _ e,a2d _ lo (hi - lo).toNat,?_,fun b hb=>?_,q⟩
 ·have e1:lo+((0:Nat):Int)*1=lo:=by simp
  have e2:(((hi - lo).toNat:Nat):Int) - ((0:Nat):Int)=Builtin.Range.rangeSize lo hi 1:=by rw [rangeSize_one];split<;>omega
  show IsRangeIter _ _ (lo+((0:Nat):Int)*1) ((((hi - lo).toNat:Nat):Int) - ((0:Nat):Int)) 1
  rw [e1,e2]
  exact Heap.get?_push_size _ rfl
 ·have e:b=(s.heap.push { cls:=.type "range", data:=.fields #[.int lo t,.int hi u,.int 1 v] }).objs.size:=by simpa using hb
  subst e
  exact I1.fpOk (Nat.le_refl _) (I1.hok.fresh (Nat.le_refl _))
def b4L (ta:TA):TI:=fun σ H R=>ta σ H fun vs H1=>∃ j:Int,vs=[.int j]∧-(2 ^ 62)≤j∧j<2 ^ 62∧R (Itr 0 j.toNat) H1
def b4K (ta:TA):TI:=fun σ H R=>ta σ H fun vs H1=>∃ i j:Int,vs=[.int i,.int j]∧(-(2 ^ 62)≤i∧i<2 ^ 62∧-(2 ^ 62)≤j∧j<2 ^ 62)∧R (Itr i (j - i).toNat) H1
theorem a4G {a:Expr} {ta:TA} {p pos:Pos} (hg:Gl X "range") (hm:X.mg "range" = none) (ha:PA X [a] ta) (hs:starEach [a] X.env=[(false,eval a X.env)]:=by rfl):PI X tg (.Call (.Name "range" p) [a] [] pos) (b4L ta):=by
 intro pins s σ H R I h
 refine Call_ (hZ I hg hm boot_range (PyProof.Rows.callWith_type1 (thn (ha pos pins s σ H _ I h) fun us s1 ⟨vs,H1,I1,r1,q1⟩=>?_) hs rfl))
 obtain ⟨j,e,q1,q2,q⟩:=q1
 subst e
 cases r1 with
 | cons r rr=>
  cases rr
  obtain ⟨t,rfl⟩:=r
  exact call_range_1 (a0T I1 (by omega) (by omega) q1 q2 (by simpa using q))
theorem a4F {a b:Expr} {ta:TA} {p pos:Pos} (hg:Gl X "range") (hm:X.mg "range" = none) (ha:PA X [a,b] ta) (hs:starEach [a,b] X.env=[(false,eval a X.env),(false,eval b X.env)]:=by rfl) (hs2:starEach [b] X.env=[(false,eval b X.env)]:=by rfl) :
  PI X tg (.Call (.Name "range" p) [a,b] [] pos) (b4K ta):=by
 intro pins s σ H R I h
 refine Call_ (hZ I hg hm boot_range (PyProof.Rows.callWith_type1 (thn (ha pos pins s σ H _ I h) fun us s1 ⟨vs,H1,I1,r1,q1⟩=>?_) (by rw [hs,hs2]) (by rw [hs2];rfl)))
 obtain ⟨i,j,e,⟨q1,q2,q3,q4⟩,q⟩:=q1
 subst e
 cases r1 with
 | cons r rr=>
  cases rr with
  | cons r' rr=>
   cases rr
   obtain ⟨t,rfl⟩:=r
   obtain ⟨t',rfl⟩:=r'
   exact call_range_2 (a0T I1 q1 q2 q3 q4 q)
def b5u (wi:TI) (g:TG) (tb:TS):TS:=fun D σ H=>wi σ H fun J H1=>∃ W:Nat→Nat→St→Hp→Prop,(∃ m,W 0 m σ H1)∧∀ i m σ H,W i m σ H →
 (J.stop i H∧D.nx σ H)∨(J.go i H∧∃ N:St→Hp→Prop,(∀ σ' H',N σ' H'→∃ m',m'<m∧W (i+1) m' σ' H')∧∀ x H',J.yld i H x H'→g x σ H' fun σ2 H2=>tb { D with nx:=N,ct:=N,bk:=D.nx } σ2 H2)
def tX (fp:List Addr) (h:Heap):List (Addr×Obj):=fp.filterMap fun b=>(h.get? b).map fun o=>(b,o)
theorem kZ {fp:List Addr} {h:Heap} {b:Addr} {o:Obj} (hb:b∈fp) (e:h.get? b=some o):(b,o)∈tX fp h:=List.mem_filterMap.mpr ⟨b,hb,by rw [e];rfl⟩
theorem a4J {fp:List Addr} {h:Heap} {p:Addr×Obj} (hp:p∈tX fp h):p.1∈fp∧h.get? p.1=some p.2:=by
 obtain ⟨b,hb,e⟩:=List.mem_filterMap.mp hp
 cases q:h.get? b with
 | none=>rw [q] at e;cases e
 | some o=>
  rw [q] at e
  have e':(b,o)=p:=Option.some.inj e
  subst e'
  exact ⟨hb,q⟩
theorem Inv.pinned {pins:List (Addr×Obj)} {σ:St} {H:Hp} {s:Shared} {fp:List Addr} (I:Inv X pins σ H s) (hf:∀ b∈fp,sI X pins H b) (ho:∀ b∈fp,∃ o,s.heap.get? b=some o∧∀ v,o.data≠.cell v):Inv X (pins++tX fp s.heap) σ H s:=
 I.pins_of fun p hp=>(List.mem_append.mp hp).elim (fun z=>I.pin p (List.mem_append_right _ z)) fun z=>by
  obtain ⟨hb,e⟩:=a4J z
  obtain ⟨f0,f1,f2,_⟩:=hf p.1 hb
  obtain ⟨o,e',d⟩:=ho p.1 hb
  rw [e] at e';cases e'
  exact ⟨e,f0,f1,f2,d⟩
theorem Inv.unpinned {pins pl:List (Addr×Obj)} {σ:St} {H:Hp} {s:Shared} (I:Inv X (pins++pl) σ H s):Inv X pins σ H s:=I.pins_of fun p hp=>I.pin p (List.mem_append_right _ (List.mem_append_left _ hp))
theorem b1X {iter:Expr} {body:List Stmt} {wi:TI} {g:TG} {tb:TS} {pos:Pos} (hp:PassesOwn (model X.prog X.w) X.A X.env X.xe) (hc:X.calm=true) (hi:PI X tg iter wi) (hg:PG X tg g) (hb:PSs X body tb)
  (hs:∀ x,foldedSetIterable iter X.env x=pure x:=by intro _;rfl):PS X (.For tg iter body [] pos) (b5u wi g tb):=by
 intro pins s σ H D I h
 refine wpAny_For (thn (hi pins s σ H _ I h) fun v s1 h1=>thn h1 fun itv s2 h2=>?_) hs
 obtain ⟨it,fp,tn,J,H2,e,I2,T,st2,f2,W,⟨m0,w0⟩,turn⟩:=h2
 subst e
 -- what stays true of the iterator's objects through the loop
 have stat:∀ {H':Hp},(∀ b∈fp,H' b=none)→∀ b∈fp,sI X pins H' b:=fun hn b hb=>⟨hn b hb,(f2 b hb).2⟩
 refine codeAny_forLoop_any (fun n s'=>∃ i σ' H',Inv X pins σ' H' s'∧tn i s'.heap∧(∀ b∈fp,H' b=none)∧W i n σ' H') ?_ m0 ⟨0,σ,H2,I2,st2,fun b hb=>(f2 b hb).1,w0⟩
 rintro n s3 ⟨i,σ3,H3,I3,st3,fr3,w3⟩
 rcases turn i n σ3 H3 w3 with ⟨stop,qn⟩ | ⟨go,N,hN,step⟩
 ·refine wpAny_passesOwn hp (thn (T.done X rfl rfl rfl hc i pins s3 σ3 H3 X.xe I3 (stat fr3) st3 stop) fun r s4 ⟨hr,I4⟩=>?_)
  subst hr
  exact wpAny_execs_nil ⟨σ3,H3,I4,qn⟩
 ·refine wpAny_passesOwn hp (thn (T.item X rfl rfl rfl hc i pins s3 σ3 H3 X.xe I3 (stat fr3) st3 go) fun r s4 ⟨u,hr,h4⟩=>?_)
  subst hr
  refine wpAny_passesOwn hp (thn h4 fun _ s5 ⟨x,H5,I5,r5,y5,st5,fr5⟩=>?_)
  have I5':=I5.pinned (stat fr5) (T.obj _ _ st5)
  refine wpAny_passesOwn hp (thn (hg _ s5 σ3 H5 x u _ I5' r5 (step x H5 y5)) fun _ s6 ⟨σ6,H6,I6,q6⟩=>?_)
  refine wpAny_passesOwn hp (thn (hb _ s6 σ6 H6 _ I6 q6) fun f s7 q7=>?_)
  have again:∀ {σ7:St} {H7:Hp},Inv X (pins++tX fp s5.heap) σ7 H7 s7→N σ7 H7→∃ m,m<n∧∃ i σ' H',Inv X pins σ' H' s7∧tn i s7.heap∧(∀ b∈fp,H' b=none)∧W i m σ' H':=fun {σ7 H7} I7 n7=>by
   obtain ⟨m',hm,w7⟩:=hN σ7 H7 n7
   refine ⟨m',hm,i+1,σ7,H7,I7.unpinned,T.keep _ _ _ st5 fun b hb o e=>(I7.pin (b,o) (List.mem_append_right _ (List.mem_append_right _ (kZ hb e)))).1,fun b hb=>?_,w7⟩
   obtain ⟨o,e,d⟩:=T.obj _ _ st5 b hb
   exact (I7.pin (b,o) (List.mem_append_right _ (List.mem_append_right _ (kZ hb e)))).2.1
  cases f with
  | next=>obtain ⟨σ7,H7,I7,n7⟩:=q7;exact again I7 n7
  | cont=>obtain ⟨σ7,H7,I7,n7⟩:=q7;exact again I7 n7
  | brk=>obtain ⟨σ7,H7,I7,q7⟩:=q7;exact ⟨σ7,H7,I7.unpinned,q7⟩
  | ret v=>obtain ⟨x7,σ7,H7,I7,r7,q7⟩:=q7;exact ⟨x7,σ7,H7,I7.unpinned,r7,q7⟩
end
abbrev R2:=V→V→Hp→VK→Prop
def OpR (X:Cx) (f:Value→Value→Sem Value) (r:R2):Prop:=
 ∀ (pins:List (Addr×Obj)) (s:Shared) (σ:St) (H:Hp) (x y:V) (v u:Value) (Q:VK),Inv X pins σ H s→RelV x v→RelV y u→r x y H Q →
  wpAny (model X.prog X.w) X.A (f v u) (EP X pins σ Q) X.xe s
def UnR (X:Cx) (f:Value→Sem Value) (r:V→Hp→VK→Prop):Prop:=
 ∀ (pins:List (Addr×Obj)) (s:Shared) (σ:St) (H:Hp) (x:V) (v:Value) (Q:VK),Inv X pins σ H s→RelV x v→r x H Q →
  wpAny (model X.prog X.w) X.A (f v) (EP X pins σ Q) X.xe s
def eM (X:Cx) (f:Value) (r:List V→Hp→VK→Prop):Prop:=
 ∀ (pins:List (Addr×Obj)) (s:Shared) (σ:St) (H:Hp) (xs:List V) (us:List Value) (Q:VK),Inv X pins σ H s→aY xs us→r xs H Q →
  wpAny (model X.prog X.w) X.A (call f us) (EP X pins σ Q) X.xe s
def b6j (X:Cx) (r:V→Hp→(Bool→Hp→Prop)→Prop):Prop:=
 ∀ (pins:List (Addr×Obj)) (s:Shared) (σ:St) (H:Hp) (x:V) (v:Value) (Q:Bool→Hp→Prop),Inv X pins σ H s→RelV x v→r x H Q →
  wpAny (model X.prog X.w) X.A (truthy v) (TP X pins σ Q) X.xe s
def tOp (r:R2) (ta tb:TE):TE:=fun σ H Q=>ta σ H fun x H1=>tb σ H1 fun y H2=>r x y H2 Q
def tUn (r:V→Hp→VK→Prop) (ta:TE):TE:=fun σ H Q=>ta σ H fun x H1=>r x H1 Q
def rI (C:Int→Int→Prop) (g:Int→Int→V):R2:=fun x y H Q=>∃ i j,x=.int i∧y=.int j∧C i j∧Q (g i j) H
def rI0 (g:Int→Int→V):R2:=fun x y H Q=>∃ i j,x=.int i∧y=.int j∧Q (g i j) H
def rU (g:Int→V):V→Hp→VK→Prop:=fun x H Q=>∃ i,x=.int i∧Q (g i) H
section
variable {X:Cx} {a b c:Expr} {ta tb tc:TE} {pos:Pos}
theorem b3G (ha:PE X a ta) (hb:PE X b tb) {pins:List (Addr×Obj)} {s:Shared} {σ:St} {H:Hp} {R:V→V→Hp→Prop} (I:Inv X pins σ H s)
  (h:ta σ H fun x H1=>tb σ H1 fun y H2=>R x y H2) {Q:Value→Shared→Prop} {f:Value→Value→Sem Value}
  (hf:∀ v u s2 x y H2,Inv X pins σ H2 s2→RelV x v→RelV y u→R x y H2→wpAny (model X.prog X.w) X.A (f v u) Q X.xe s2) :
  wpAny (model X.prog X.w) X.A (eval a X.env) (fun v s₁=>wpAny (model X.prog X.w) X.A (eval b X.env) (fun u s₂=>wpAny (model X.prog X.w) X.A (f v u) Q X.xe s₂) X.xe s₁) X.xe s:=by
 refine thn (ha pins s σ H _ I h) fun v s1 ⟨x,H1,I1,r1,q1⟩=>?_
 refine thn (hb pins s1 σ H1 _ I1 q1) fun u s2 ⟨y,H2,I2,r2,q2⟩=>?_
 exact hf v u s2 x y H2 I2 r1 r2 q2
theorem b0Y {op:Operator} {r:R2} (ho:OpR X (binaryOp op) r) (ha:PE X a ta) (hb:PE X b tb):PE X (.BinOp a op b pos) (tOp r ta tb):=by
 intro pins s σ H Q I h
 exact wpAny_BinOp (b3G ha hb I h fun v u s2 x y H2 I2 rx ry q=>ho pins s2 σ H2 x y v u Q I2 rx ry q)
theorem b4u {op:UnaryOp} {r:V→Hp→VK→Prop} (ho:UnR X (unaryOp op) r) (ha:PE X a ta):PE X (.UnaryOp op a pos) (tUn r ta):=by
 intro pins s σ H Q I h
 exact UnaryOp_ (thn (ha pins s σ H _ I h) fun v s1 ⟨x,H1,I1,r1,q1⟩=>ho pins s1 σ H1 x v Q I1 r1 q1)
theorem opI {f:Value→Value→Sem Value} {C:Int→Int→Prop} {g:Int→Int→Int}
  (rule:∀ (i j:Int) (t u:Tok) (s:Shared) (Q:Value→Shared→Prop) (E:Value→Shared→Prop),C i j→Q (.int (g i j) s.toks) { s with toks:=s.toks+1 }→wpAny (model X.prog X.w) X.A (f (.int i t) (.int j u)) Q E s) :
  OpR X f (rI C fun i j=>.int (g i j)):=by
 intro pins s σ H x y v u Q I rx ry h
 obtain ⟨i,j,rfl,rfl,hc,q⟩:=h
 obtain ⟨t,rfl⟩:=rx
 obtain ⟨t',rfl⟩:=ry
 exact rule i j t t' s _ _ hc ⟨.int (g i j),H,I.tok _,⟨_,rfl⟩,q⟩
theorem b4z {f:Value→Value→Sem Value} {g:Int→Int→Int}
  (rule:∀ (i j:Int) (t u:Tok) (s:Shared) (Q:Value→Shared→Prop) (E:Value→Shared→Prop),Q (.int (g i j) s.toks) { s with toks:=s.toks+1 }→wpAny (model X.prog X.w) X.A (f (.int i t) (.int j u)) Q E s) :
  OpR X f (rI0 fun i j=>.int (g i j)):=by
 intro pins s σ H x y v u Q I rx ry h
 obtain ⟨i,j,rfl,rfl,q⟩:=h
 obtain ⟨t,rfl⟩:=rx
 obtain ⟨t',rfl⟩:=ry
 exact rule i j t t' s _ _ ⟨.int (g i j),H,I.tok _,⟨_,rfl⟩,q⟩
theorem b2t {f:Value→Value→Sem Value} {g:Int→Int→Bool}
  (rule:∀ (i j:Int) (t u:Tok) (s:Shared) (Q:Value→Shared→Prop) (E:Value→Shared→Prop),Q (.bool (g i j)) s→wpAny (model X.prog X.w) X.A (f (.int i t) (.int j u)) Q E s) :
  OpR X f (rI0 fun i j=>.bl (g i j)):=by
 intro pins s σ H x y v u Q I rx ry h
 obtain ⟨i,j,rfl,rfl,q⟩:=h
 obtain ⟨t,rfl⟩:=rx
 obtain ⟨t',rfl⟩:=ry
 exact rule i j t t' s _ _ ⟨.bl (g i j),H,I,rfl,q⟩
def b6p (i j:Int):Prop:=0<j∧j<1073741824
def b3P (i j:Int):Prop:=(-(2 ^ 64)<i∧i<2 ^ 64)∨(-(2 ^ 64)<j∧j<2 ^ 64)
theorem b3P.ok {i j:Int} (h:b3P i j):IntMulOk i j:=by
 rcases h with ⟨h1,h2⟩ | ⟨h1,h2⟩
 ·exact .of_left (intBits_le_64 h1 h2)
 ·exact .of_right (intBits_le_64 h1 h2)
theorem b2s:OpR X (binaryOp .Add) (rI0 fun i j=>.int (i+j)):=b4z fun _ _ _ _ _ _ _ q=>add_int q
theorem b2k:OpR X (binaryOp .Sub) (rI0 fun i j=>.int (i - j)):=b4z fun _ _ _ _ _ _ _ q=>sub_int q
theorem b2n:OpR X (binaryOp .Mult) (rI b3P fun i j=>.int (i*j)):=opI fun _ _ _ _ _ _ _ hc q=>mul_int q hc.ok
theorem a9B:OpR X (binaryOp .FloorDiv) (rI b6p fun i j=>.int (i / j)):=opI fun i j _ _ _ _ _ hc q=>by
 have h1:(0:Int)<j:=hc.1
 have h2:j<1073741824:=hc.2
 exact floordiv_int (by omega) (by rw [Int.fdiv_eq_ediv_of_nonneg i (by omega)];exact q) (.inl (PyProof.noPylong_small (by omega)))
theorem b2o:OpR X (binaryOp .Mod) (rI (fun _ j=>0<j) fun i j=>.int (i % j)):=opI fun i j _ _ _ _ _ hc q=>by
 have h1:(0:Int)<j:=hc
 exact mod_int' (by omega) (by rw [Int.fmod_eq_emod_of_nonneg i (by omega)];exact q)
theorem unI {f:Value→Sem Value} {g:Int→Int}
  (rule:∀ (i:Int) (t:Tok) (s:Shared) (Q:Value→Shared→Prop) (E:Value→Shared→Prop),Q (.int (g i) s.toks) { s with toks:=s.toks+1 }→wpAny (model X.prog X.w) X.A (f (.int i t)) Q E s) :
  UnR X f (rU fun i=>.int (g i)):=by
 intro pins s σ H x v Q I rx h
 obtain ⟨i,rfl,q⟩:=h
 obtain ⟨t,rfl⟩:=rx
 exact rule i t s _ _ ⟨.int (g i),H,I.tok _,⟨_,rfl⟩,q⟩
theorem b1D:UnR X (unaryOp .USub) (rU fun i=>.int (-i)):=unI fun _ _ _ _ _ q=>neg_int q
end
def b4h:V→V→Bool
 | .non,.non=>true | .non,.int _=>true | .int _,.non=>true | .non,.bl _=>true | .bl _,.non=>true | .non,.str _=>true | .str _,.non=>true
 | .int _,.int _=>true | .bl _,.bl _=>true | .str _,.str _=>true | .byt _,.byt _=>true
 | .int _,.str _=>true | .str _,.int _=>true | .bl _,.str _=>true | .str _,.bl _=>true
 | _,_=>false
def rEq:R2:=fun x y H Q=>b4h x y=true∧Q (.bl (decide (x=y))) H
def rNe:R2:=fun x y H Q=>b4h x y=true∧Q (.bl (!decide (x=y))) H
theorem a3W {i j:Int}:decide (V.int i=V.int j)=(i==j):=by
 rw [Bool.eq_iff_iff]
 simp
theorem a8n {i j:Bool}:decide (V.bl i=V.bl j)=(i==j):=by
 rw [Bool.eq_iff_iff]
 simp
theorem a3V {i j:Str}:decide (V.str i=V.str j)=(i==j):=by
 rw [Bool.eq_iff_iff]
 simp
theorem a3X {i j:Array UInt8}:decide (V.byt i=V.byt j)=(i.toList==j.toList):=by
 rw [Bool.eq_iff_iff]
 cases i
 cases j
 simp
section
variable {X:Cx} {a b c:Expr} {ta tb tc:TE} {pos:Pos}
theorem bM {pins:List (Addr×Obj)} {σ:St} {H:Hp} {s:Shared} {Q:VK} {k k':Bool} (I:Inv X pins σ H s) (q:Q (.bl k) H) (e:k=k'):EP X pins σ Q (.bool k') s:=by
 subst e
 exact ⟨.bl k,H,I,rfl,q⟩
theorem a6V:OpR X (compareOp .Eq) rEq:=by
 intro pins s σ H x y v u Q I rx ry h
 obtain ⟨hs,q⟩:=h
 cases x with
 | non=>
  cases rx
  cases y with
  | non=>cases ry;exact PySem.EqNone.eq_none_none (bM I q (by simp))
  | bl j=>cases ry;exact PySem.EqNone.eq_none_bool (bM I q (by simp))
  | int j=>obtain ⟨t',rfl⟩:=ry;exact PySem.EqNone.eq_none_int (bM I q (by simp))
  | str j=>obtain ⟨t',rfl⟩:=ry;exact PySem.EqNone.eq_none_str (bM I q (by simp))
  | _=>exact absurd (show false=true from hs) Bool.false_ne_true
 | bl i=>
  cases rx
  cases y with
  | non=>cases ry;exact PySem.EqNone.eq_bool_none (bM I q (by simp))
  | bl j=>cases ry;exact eq_bool (bM I q a8n)
  | str j=>obtain ⟨t',rfl⟩:=ry;exact PySem.EqMixed.eq_bool_str (bM I q (by simp))
  | _=>exact absurd (show false=true from hs) Bool.false_ne_true
 | int i=>
  obtain ⟨t,rfl⟩:=rx
  cases y with
  | non=>cases ry;exact PySem.EqNone.eq_int_none (bM I q (by simp))
  | int j=>obtain ⟨t',rfl⟩:=ry;exact eq_int (bM I q a3W)
  | str j=>obtain ⟨t',rfl⟩:=ry;exact PySem.EqMixed.eq_int_str (bM I q (by simp))
  | _=>exact absurd (show false=true from hs) Bool.false_ne_true
 | str i=>
  obtain ⟨t,rfl⟩:=rx
  cases y with
  | non=>cases ry;exact PySem.EqNone.eq_str_none (bM I q (by simp))
  | bl j=>cases ry;exact PySem.EqMixed.eq_str_bool (bM I q (by simp))
  | int j=>obtain ⟨t',rfl⟩:=ry;exact PySem.EqMixed.eq_str_int (bM I q (by simp))
  | str j=>obtain ⟨t',rfl⟩:=ry;exact eq_str (bM I q a3V)
  | _=>exact absurd (show false=true from hs) Bool.false_ne_true
 | byt i=>
  obtain ⟨t,rfl⟩:=rx
  cases y with
  | byt j=>obtain ⟨t',rfl⟩:=ry;exact PySem.W.eq_bytes (bM I q a3X)
  | _=>exact absurd (show false=true from hs) Bool.false_ne_true
 | _=>cases y<;>exact absurd (show false=true from hs) Bool.false_ne_true
theorem a6T:OpR X (compareOp .NotEq) rNe:=by
 intro pins s σ H x y v u Q I rx ry h
 obtain ⟨hs,q⟩:=h
 cases x with
 | non=>
  cases rx
  cases y with
  | non=>cases ry;exact PySem.EqNone.ne_none_none (bM I q (by simp))
  | bl j=>cases ry;exact PySem.EqNone.ne_none_bool (bM I q (by simp))
  | int j=>obtain ⟨t',rfl⟩:=ry;exact PySem.EqNone.ne_none_int (bM I q (by simp))
  | str j=>obtain ⟨t',rfl⟩:=ry;exact PySem.EqNone.ne_none_str (bM I q (by simp))
  | _=>exact absurd (show false=true from hs) Bool.false_ne_true
 | bl i=>
  cases rx
  cases y with
  | non=>cases ry;exact PySem.EqNone.ne_bool_none (bM I q (by simp))
  | bl j=>cases ry;exact ne_bool (bM I q (congrArg not a8n))
  | str j=>obtain ⟨t',rfl⟩:=ry;exact PySem.EqMixed.ne_bool_str (bM I q (by simp))
  | _=>exact absurd (show false=true from hs) Bool.false_ne_true
 | int i=>
  obtain ⟨t,rfl⟩:=rx
  cases y with
  | non=>cases ry;exact PySem.EqNone.ne_int_none (bM I q (by simp))
  | int j=>obtain ⟨t',rfl⟩:=ry;exact ne_int (bM I q (congrArg not a3W))
  | str j=>obtain ⟨t',rfl⟩:=ry;exact PySem.EqMixed.ne_int_str (bM I q (by simp))
  | _=>exact absurd (show false=true from hs) Bool.false_ne_true
 | str i=>
  obtain ⟨t,rfl⟩:=rx
  cases y with
  | non=>cases ry;exact PySem.EqNone.ne_str_none (bM I q (by simp))
  | bl j=>cases ry;exact PySem.EqMixed.ne_str_bool (bM I q (by simp))
  | int j=>obtain ⟨t',rfl⟩:=ry;exact PySem.EqMixed.ne_str_int (bM I q (by simp))
  | str j=>obtain ⟨t',rfl⟩:=ry;exact ne_str (bM I q (congrArg not a3V))
  | _=>exact absurd (show false=true from hs) Bool.false_ne_true
 | byt i=>
  obtain ⟨t,rfl⟩:=rx
  cases y with
  | byt j=>obtain ⟨t',rfl⟩:=ry;exact PySem.W.ne_bytes (bM I q (congrArg not a3X))
  | _=>exact absurd (show false=true from hs) Bool.false_ne_true
 | _=>cases y<;>exact absurd (show false=true from hs) Bool.false_ne_true
theorem b4w:OpR X (compareOp .Lt) (rI0 fun i j=>.bl (decide (i<j))):=b2t fun _ _ _ _ _ _ _ q=>lt_int q
theorem b4x:OpR X (compareOp .LtE) (rI0 fun i j=>.bl (decide (i≤j))):=b2t fun _ _ _ _ _ _ _ q=>le_int q
theorem b4y:OpR X (compareOp .Gt) (rI0 fun i j=>.bl (decide (j<i))):=b2t fun _ _ _ _ _ _ _ q=>gt_int q
theorem a6U:OpR X (compareOp .Is) (fun x y H Q=>y=.non∧Q (.bl (decide (x=.non))) H):=by
 intro pins s σ H x y v u Q I rx ry h
 obtain ⟨rfl,q⟩:=h
 cases ry
 refine is_none_gen (bM I q ?_)
 cases x<;>first
  | (cases rx;rfl)
  | (obtain ⟨t,rfl⟩:=rx;rfl)
theorem a9y:OpR X (compareOp .IsNot) (fun x y H Q=>y=.non∧Q (.bl (!decide (x=.non))) H):=by
 intro pins s σ H x y v u Q I rx ry h
 obtain ⟨rfl,q⟩:=h
 cases ry
 refine isnot_none_gen (bM I q ?_)
 cases x<;>first
  | (cases rx;rfl)
  | (obtain ⟨t,rfl⟩:=rx;rfl)
theorem a2C (b:Expr) {op:CmpOp} (h:op≠.In:=by decide) (h2:op≠.NotIn:=by decide):behindInMarks op b=false:=by
 have e1:(op==CmpOp.In)=false:=by cases op<;>first | rfl | exact absurd rfl h
 have e2:(op==CmpOp.NotIn)=false:=by cases op<;>first | rfl | exact absurd rfl h2
 cases b<;>simp [behindInMarks,e1,e2]
theorem a9u {op:CmpOp} {r:R2} (ho:OpR X (compareOp op) r) (ha:PE X a ta) (hb:PE X b tb) (hm:behindInMarks op b=false):PE X (.Compare a [op] [b] pos) (tOp r ta tb):=by
 intro pins s σ H Q I h
 exact wpAny_Compare1 (b3G ha hb I h fun v u s2 x y H2 I2 rx ry q=>ho pins s2 σ H2 x y v u Q I2 rx ry q) hm
def b0R (t:TE):TT:=fun σ H Q=>t σ H fun x H'=>∃ k,x=.bl k∧Q k H'
theorem a3p {op:CmpOp} {r:R2} (ho:OpR X (compareOp op) r) (ha:PE X a ta) (hb:PE X b tb) (hm:behindInMarks op b=false):PT X (.Compare a [op] [b] pos) (b0R (tOp r ta tb)):=by
 intro pins s σ H Q I h
 refine wpAny_isTrue_Compare1 (thn (ha pins s σ H _ I h) fun v s1 ⟨x,H1,I1,r1,q1⟩=>thn (hb pins s1 σ H1 _ I1 q1) fun u s2 ⟨y,H2,I2,r2,q2⟩=>
  thn (ho pins s2 σ H2 x y v u _ I2 r1 r2 q2) fun c s3 ⟨z,H3,I3,r3,k,e,q3⟩=>?_) hm
 subst e
 cases r3
 exact wpAny_truthy_bool ⟨H3,I3,q3⟩
def a6b (r r':R2) (ta tb tc:TE):TE:=fun σ H Q=>ta σ H fun x H1=>tb σ H1 fun y H2=>r x y H2 fun z H3=>∃ k,z=.bl k ∧
 (if k=true then tc σ H3 fun w' H4=>r' y w' H4 Q else Q (.bl false) H3)
theorem a6M {op op':CmpOp} {r r':R2} (ho:OpR X (compareOp op) r) (ho':OpR X (compareOp op') r') (ha:PE X a ta) (hb:PE X b tb) (hc:PE X c tc)
  (hm:lastMarks [op,op'] [b,c]=false:=by with_unfolding_all rfl):PE X (.Compare a [op,op'] [b,c] pos) (a6b r r' ta tb tc):=by
 intro pins s σ H Q I h
 refine Compare_chain (thn (ha pins s σ H _ I h) fun v s1 ⟨x,H1,I1,r1,q1⟩=>chain_link (thn (hb pins s1 σ H1 _ I1 q1) fun u s2 ⟨y,H2,I2,r2,q2⟩=>
  thn (ho pins s2 σ H2 x y v u _ I2 r1 r2 q2) fun d s3 ⟨z,H3,I3,r3,k,e,q3⟩=>?_)) hm
 subst e
 cases r3
 refine wpAny_truthy_bool ?_
 cases k with
 | false=>exact ite_ff ⟨.bl false,H3,I3,rfl,q3⟩
 | true=>exact ite_tt (chain_last (thn (hc pins s3 σ H3 _ I3 q3) fun w' s4 ⟨z',H4,I4,r4,q4⟩=>ho' pins s4 σ H4 y z' u w' Q I4 r2 r4 q4))
theorem a6z {op op':CmpOp} {r r':R2} (ho:OpR X (compareOp op) r) (ho':OpR X (compareOp op') r') (ha:PE X a ta) (hb:PE X b tb) (hc:PE X c tc)
  (hm:lastMarks [op,op'] [b,c]=false:=by with_unfolding_all rfl):PT X (.Compare a [op,op'] [b,c] pos) (b0R (a6b r r' ta tb tc)):=by
 intro pins s σ H Q I h
 refine isTrue_chain (thn (ha pins s σ H _ I h) fun v s1 ⟨x,H1,I1,r1,q1⟩=>test_link (thn (hb pins s1 σ H1 _ I1 q1) fun u s2 ⟨y,H2,I2,r2,q2⟩=>
  thn (ho pins s2 σ H2 x y v u _ I2 r1 r2 q2) fun d s3 ⟨z,H3,I3,r3,k,e,q3⟩=>?_)) hm
 subst e
 cases r3
 refine wpAny_truthy_bool ?_
 cases k with
 | false=>
  obtain ⟨k',e',q'⟩:=q3
  cases e'
  exact ite_ff ⟨H3,I3,q'⟩
 | true=>
  refine ite_tt (test_last (thn (hc pins s3 σ H3 _ I3 q3) fun w' s4 ⟨z',H4,I4,r4,q4⟩=>thn (ho' pins s4 σ H4 y z' u w' _ I4 r2 r4 q4) fun d' s5 ⟨z2,H5,I5,r5,k2,e2,q5⟩=>?_))
  subst e2
  cases r5
  exact wpAny_truthy_bool ⟨H5,I5,q5⟩
def b3N (K:PySem.W.Frag) (x:V) (H:Hp) (k:Bool):Prop:=
 match x with
 | .non=>k=false
 | .bl b=>k=b
 | .int i=>k=(i != 0)
 | .str y=>y.length≤sizeLine∧k=((y.length:Int) != 0)
 | .byt y=>y.size≤sizeLine∧k=((y.size:Int) != 0)
 | .ref p=>(∃ xs,SqL K H p xs∧k=!xs.isEmpty)∨(∃ xs,SqT K H p xs∧k=!xs.isEmpty)∨∃ kvs,H p=some (.dK kvs)∧k=!kvs.isEmpty
 | _=>False
theorem a2J {κ:Type} {kvs:List (κ×V)} {vs:List (κ×Value)} (r:KV kvs vs):(!vs.isEmpty)=!kvs.isEmpty:=by
 cases r<;>rfl
theorem uR {xs:List V} {its:List Value} (r:aY xs its):(!its.toArray.isEmpty)=!xs.isEmpty:=by
 cases r<;>simp
theorem qF:(sizeLine:Nat)<2 ^ 63:=by rw [sizeLine_eq];decide
theorem b1I:b6j X (fun x H Q=>∃ k,b3N X.K x H k∧Q k H):=by
 intro pins s σ H x v Q I rx h
 obtain ⟨k,e,q⟩:=h
 have hl:=qF
 have hs:sizeLine=16777216:=sizeLine_eq
 cases x with
 | non=>
  cases rx
  have e':k=false:=e
  subst e'
  exact truthy_none ⟨H,I,q⟩
 | bl b=>
  cases rx
  have e':k=b:=e
  subst e'
  exact wpAny_truthy_bool ⟨H,I,q⟩
 | int i=>
  obtain ⟨t,rfl⟩:=rx
  have e':k=(i != 0):=e
  subst e'
  exact PySem.P.truthy_int ⟨H,I,q⟩
 | str y=>
  obtain ⟨t,rfl⟩:=rx
  obtain ⟨hy,e'⟩:y.length≤sizeLine∧k=((y.length:Int) != 0):=e
  subst e'
  exact PySem.P.truthy_str (by omega) ⟨H,I.tok _,q⟩
 | byt y=>
  obtain ⟨t,rfl⟩:=rx
  obtain ⟨hy,e'⟩:y.size≤sizeLine∧k=((y.size:Int) != 0):=e
  subst e'
  exact PySem.W.truthy_bytes (by omega) ⟨H,I.tok _,q⟩
 | ref p=>
  cases rx
  have e':(∃ xs,SqL X.K H p xs∧k=!xs.isEmpty)∨(∃ xs,SqT X.K H p xs∧k=!xs.isEmpty)∨∃ kvs,H p=some (.dK kvs)∧k=!kvs.isEmpty:=e
  rcases e' with ⟨xs,hx,e'⟩ | ⟨xs,hx,e'⟩ | ⟨kvs,hx,e'⟩
  ·subst e'
   obtain ⟨its,r,pl,hz⟩:=I.list hx
   have hlen:=r.length
   exact wpAny_truthy_list pl.isList (by simp only [List.size_toArray];omega) ⟨H,I.tok _,by rw [uR r];exact q⟩
  ·subst e'
   obtain ⟨its,r,pl,hz⟩:=I.tuple hx
   have hlen:=r.length
   exact truthy_tuple pl (by simp only [List.size_toArray];omega) ⟨H,I.tok _,by rw [uR r];exact q⟩
  ·subst e'
   obtain ⟨hz,hS,vs,r,m⟩:kvs.length≤sizeLine∧(p==sysModules)=false∧∃ vs,KV kvs vs∧s.heap.DictOf (dB X.prog X.w) p vs:=I.hok p _ hx
   have hlen:kvs.length=vs.length:=Paired.length r
   exact wpAny_truthy_dict hS m (by omega) ⟨H,I.tok _,by rw [a2J r];exact q⟩
 | _=>exact (show False from e).elim
theorem a6y (ha:PE X a ta) (he:∀ whole,isTrue a X.env whole=(do let v ←whole;standAt a.pos;holding [v] (truthy v))) :
  PT X a (fun σ H Q=>ta σ H fun x H'=>∃ k,b3N X.K x H' k∧Q k H'):=by
 intro pins s σ H Q I h
 exact isTrue_plain (thn (ha pins s σ H _ I h) fun v s1 ⟨x,H1,I1,r1,q1⟩=>b1I pins s1 σ H1 x v Q I1 r1 q1) (he _)
theorem a2A:OpR X (binaryOp .Add) (fun x y H Q=>∃ i j,x=.str i∧y=.str j∧i.length+j.length≤sizeLine∧Q (.str (i++j)) H):=by
 intro pins s σ H x y v u Q I rx ry h
 obtain ⟨i,j,rfl,rfl,hz,q⟩:=h
 obtain ⟨t,rfl⟩:=rx
 obtain ⟨t',rfl⟩:=ry
 exact add_str (fun t' tk=>⟨.str (i++j),H,I.tok _,⟨_,rfl⟩,q⟩) hz
theorem vals1 {x:V} {us:List Value} (r:aY [x] us):∃ u,us=[u]∧RelV x u:=by
 cases r with
 | cons r1 r2=>cases r2;exact ⟨_,rfl,r1⟩
theorem vals2 {x y:V} {us:List Value} (r:aY [x,y] us):∃ u w',us=[u,w']∧RelV x u∧RelV y w':=by
 cases r with
 | cons r1 r2=>
  cases r2 with
  | cons r3 r4=>cases r4;exact ⟨_,_,rfl,r1,r3⟩
theorem a5z (hc:X.calm=true):eM X (.builtin "max") (fun xs H Q=>∃ i j,xs=[.int i,.int j]∧Q (.int (if j > i then j else i)) H):=by
 intro pins s σ H xs us Q I r h
 obtain ⟨i,j,rfl,q⟩:=h
 obtain ⟨u,w',rfl,⟨t,rfl⟩,⟨t',rfl⟩⟩:=vals2 r
 refine max_two_ints (I.ok.hd hc) fun h' tk k=>⟨_,H,I.kept k,?_,q⟩
 by_cases hj:j > i
 ·rw [if_pos hj,if_pos hj];exact ⟨_,rfl⟩
 ·rw [if_neg hj,if_neg hj];exact ⟨_,rfl⟩
theorem a5x (hc:X.calm=true):eM X (.builtin "min") (fun xs H Q=>∃ i j,xs=[.int i,.int j]∧Q (.int (if j<i then j else i)) H):=by
 intro pins s σ H xs us Q I r h
 obtain ⟨i,j,rfl,q⟩:=h
 obtain ⟨u,w',rfl,⟨t,rfl⟩,⟨t',rfl⟩⟩:=vals2 r
 refine min_two_ints (I.ok.hd hc) fun h' tk k=>⟨_,H,I.kept k,?_,q⟩
 by_cases hj:j<i
 ·rw [if_pos hj,if_pos hj];exact ⟨_,rfl⟩
 ·rw [if_neg hj,if_neg hj];exact ⟨_,rfl⟩
theorem xY:eM X (.type "int") (fun xs H Q=>(∃ i,xs=[.int i]∧Q (.int i) H)∨∃ k,xs=[.bl k]∧Q (.int (if k then 1 else 0)) H):=by
 intro pins s σ H xs us Q I r h
 rcases h with ⟨i,rfl,q⟩ | ⟨k,rfl,q⟩
 ·obtain ⟨u,rfl,t,rfl⟩:=vals1 r
  exact call_int_int ⟨.int i,H,I,⟨_,rfl⟩,q⟩
 ·obtain ⟨u,rfl,r1⟩:=vals1 r
  cases r1
  exact call_int_bool ⟨.int (if k then 1 else 0),H,I.tok _,⟨_,rfl⟩,q⟩
end
structure ObjM (h:Heap) (x dx C:Addr) (mA:Str→Option Value):Prop where
 obj:h.get? x=some (PySem.W.instObj C dx)
 ns:h.Ns1 dx mA
 ne:dx≠x
theorem a4T {h:Heap} {dx:Addr} {mA:Str→Option Value} (n:h.Ns1 dx mA):∃ od,h.get? dx=some od∧∀ name,PySem.W.lookIn name od=some (mA name):=by
 obtain ⟨o,es,ep,ho,hd,hk,_,hm⟩:=n
 refine ⟨o,ho,fun name=>?_⟩
 have e:=hm name
 unfold nsFind findBy at e
 rw [←Array.find?_toList] at e
 unfold PySem.W.lookIn
 rw [hd]
 dsimp only
 split
 ·rename_i y q
  rw [q] at e
  exact congrArg some e
 ·rename_i q
  rw [q] at e
  have a:es.toList.any (·.refKey)=false:=by
   rw [List.any_eq_false]
   intro y hy
   obtain ⟨z,t,hkey⟩:=hk y (Array.mem_toList_iff.mp hy)
   simp [DictEntry.refKey,hkey]
  have a':¬es.toList.any (·.refKey)=true:=by rw [a];exact Bool.false_ne_true
  rw [if_neg a']
  exact congrArg some e
theorem ObjM.look {h:Heap} {x dx C:Addr} {mA:Str→Option Value} (I:ObjM h x dx C mA):∃ od,PySem.W.InstAt h x (PySem.W.instObj C dx) C (some od)∧∀ name,PySem.W.lookIn name od=some (mA name):=
 let ⟨od,ho,hl⟩:=a4T I.ns
 ⟨od,⟨I.obj,rfl,rfl,ho⟩,hl⟩
section
variable {prog:Program} {w:World} {A:Around} {E:Value→Shared→Prop} {s:Shared} {K:PySem.W.Frag} {x dx C f:Addr} {mA:Str→Option Value} {name:Str} {v:Value}
end
section
variable {P:Program} {w:World} {H H':Hp} {h h':Heap} {a C dx:Addr} {fs fs':List (Str×V)}
theorem b0h (hok:HOk P w H h) (e:H a=some (.ins C dx fs)):∃ mA,ObjM h a dx C mA∧(∀ f,a3g (fs.lookup f) (mA f))∧PySem.Within mA (fs.map (·.1))∧fs.length≤1000∧H dx=some (.own a):=by
 obtain ⟨d,z,ne,ob,mA,n,r,q⟩:=(show cM P w H h a (.ins C dx fs) from hok a _ e)
 exact ⟨mA,⟨ob,n,ne⟩,r,q,z,d⟩
end
structure Cls (K:PySem.W.Frag) (C:Addr):Prop where
 pg:PySem.W.plainGet K C Str.empty=true
 hd:PySem.W.hasDictIn K C=true
 po:PySem.W.plainOver K C=true
 sa:PySem.W.findIn K (.ref C) "__setattr__" = some (some (.builtin "object.__setattr__"))
theorem Cls.get {K:PySem.W.Frag} {C:Addr} (c:Cls K C) (f:Str):PySem.W.plainGet K C f=true:=c.pg
section
variable {X:Cx} {pins:List (Addr×Obj)} {σ:St} {H:Hp} {s:Shared} {a C dx:Addr} {fs:List (Str×V)} {f:Str} {v:V} {A:Around} {E:Value→Shared→Prop}
end
section
variable {X:Cx} {o e value:Expr} {f:Str} {pos pos' tpos:Pos} {ta tv:TE}
end
section
variable {X:Cx} {pins:List (Addr×Obj)} {σ:St} {H:Hp} {s:Shared} {A:Around} {E:Value→Shared→Prop} {Q:Value→Shared→Prop} {c:Value} {b:Bool}
inductive TyOf (K:PySem.W.Frag) (H:Hp):V→Value→Prop where
 | non:TyOf K H .non (.type "NoneType")
 | bl (x:Bool):TyOf K H (.bl x) (.type "bool")
 | int (i:Int):TyOf K H (.int i) (.type "int")
 | str (x:Str):TyOf K H (.str x) (.type "str")
 | flt (x:UInt64):TyOf K H (.flt x) (.type "float")
 | lst {a:Addr} {xs:List V} (e:H a=some (.lst xs)):TyOf K H (.ref a) (.type "list")
 | frz {a:Addr} {o:Obj} {xs:List V} (e:H a=some (.frz o (.lst xs))):TyOf K H (.ref a) (.type "list")
 | tup {a:Addr} {xs:List V} (e:H a=some (.tup xs)):TyOf K H (.ref a) (.type "tuple")
 | dK {a:Addr} {kvs:List (Key×V)} (e:H a=some (.dK kvs)):TyOf K H (.ref a) (.type "dict")
 | dT {a:Addr} {kvs:List (List Key×V)} (e:H a=some (.dT kvs)):TyOf K H (.ref a) (.type "dict")
 | ins {a C dx:Addr} {fs:List (Str×V)} (e:H a=some (.ins C dx fs)) (cl:Cls K C) (ha:PySem.W.findIn K (.ref C) "__class__" = some (some (.builtin "object.__class__")))
   (hn:PySem.W.specialIn K (.builtin "object.__class__") "__get__" = some (some (.builtin "getset_descriptor.__get__"))) (htk:PySem.W.takesIn K (.builtin "object.__class__")=some true)
   (hm:PySem.W.mroIn K C (.type "object")=some true):TyOf K H (.ref a) (.ref C)
theorem kE {x:V} {u t:Value} (I:Inv X pins σ H s) (rx:RelV x u) (ty:TyOf X.K H x t) (e:PySem.W.kitOne X.K t c=some b) (h:∀ tk,Q (.bool b) { s with toks:=tk }) :
  wpAny (model X.prog X.w) A (call (.builtin "isinstance") [u,c]) Q E s:=by
 cases ty with
 | non=>cases (show u=Value.none from rx);exact PySem.W.kia_one PySem.W.kitx_none I.kIn True.intro e (fun z=>nomatch z) h
 | bl y=>cases (show u=Value.bool y from rx);exact PySem.W.kia_one PySem.W.kitx_bool I.kIn True.intro e (fun z=>nomatch z) h
 | int i=>obtain ⟨t,q⟩:=(show ∃ t,u=Value.int i t from rx);cases q;exact PySem.W.kia_one PySem.W.kitx_int I.kIn True.intro e (fun z=>nomatch z) h
 | str y=>obtain ⟨t,q⟩:=(show ∃ t,u=Value.str y t from rx);cases q;exact PySem.W.kia_one PySem.W.kitx_str I.kIn True.intro e (fun z=>nomatch z) h
 | flt y=>obtain ⟨t,q⟩:=(show ∃ t,u=Value.float y t from rx);cases q;exact PySem.W.kia_one PySem.W.kitx_float I.kIn True.intro e (fun z=>nomatch z) h
 | @lst a xs ea=>
  cases (show u=Value.ref a from rx)
  obtain ⟨_,_,n,_,h1⟩:=(show cM X.prog X.w H s.heap a (.lst xs) from I.hok a _ ea)
  exact PySem.W.kia_one PySem.W.kitx_list I.kIn ⟨_,h1,rfl⟩ e (fun z=>nomatch z) h
 | @frz a ob xs ea=>
  cases (show u=Value.ref a from rx)
  obtain ⟨_,_,_,n,_,h1⟩:=(show cM X.prog X.w H s.heap a (.frz ob (.lst xs)) from I.hok a _ ea)
  exact PySem.W.kia_one PySem.W.kitx_list I.kIn ⟨_,h1,rfl⟩ e (fun z=>nomatch z) h
 | @tup a xs ea=>
  cases (show u=Value.ref a from rx)
  obtain ⟨_,_,_,p⟩:=(show cM X.prog X.w H s.heap a (.tup xs) from I.hok a _ ea)
  obtain ⟨o,h1,h2,_⟩:=p
  exact PySem.W.kia_one PySem.W.kitx_tuple I.kIn ⟨o,h1,h2⟩ e (fun z=>nomatch z) h
 | @dK a kvs ea=>
  cases (show u=Value.ref a from rx)
  obtain ⟨_,_,vs,_,p⟩:=(show cM X.prog X.w H s.heap a (.dK kvs) from I.hok a _ ea)
  obtain ⟨o,es,ep,h1,h2,_⟩:=p
  exact PySem.W.kia_one PySem.W.kitx_dict I.kIn ⟨o,h1,h2.1⟩ e (fun z=>nomatch z) h
 | @dT a kvs ea=>
  cases (show u=Value.ref a from rx)
  obtain ⟨_,_,xs,_,o,es,ep,h1,h2,_⟩:=(show cM X.prog X.w H s.heap a (.dT kvs) from I.hok a _ ea)
  exact PySem.W.kia_one PySem.W.kitx_dict I.kIn ⟨o,h1,h2.1⟩ e (fun z=>nomatch z) h
 | @ins a C dx fs ea cl ha hn htk hm=>
  cases (show u=Value.ref a from rx)
  obtain ⟨mA,O,_⟩:=b0h I.hok ea
  obtain ⟨od,J,_⟩:=O.look
  exact PySem.W.kia_one (PySem.W.kitx_own (cl.get _) cl.hd ha hn htk hm) I.kIn J e (fun z=>nomatch z) h
end
structure Room (k:Nat) (A:Around):Prop where
 hd:A.handled=none
 dp:A.depth+3*k+5<recursionLimit
 un:A.units+16*k+200<cLine
theorem Room.mono {j k:Nat} {A:Around} (r:Room k A) (h:j≤k):Room j A:=⟨r.hd,by have:=r.dp;omega,by have:=r.un;omega⟩
theorem Room.deeper {k:Nat} {A:Around} (r:Room (k+1) A) (env:Env):Room k (A.deeper env):=
 ⟨r.hd,by have:=r.dp;show A.depth+1+3*k+5<_;omega,by have:=r.un;show A.units+3+16*k+200<_;omega⟩
theorem Room.in1 {k:Nat} {A:Around} (r:Room (k+1) A):Room k A.in1:=
 ⟨r.hd,by have:=r.dp;show A.depth+3*k+5<_;omega,by have:=r.un;show A.units+1+16*k+200<_;omega⟩
theorem Room.depth {k:Nat} {A:Around} (r:Room k A):A.depth<recursionLimit:=by have:=r.dp;omega
theorem Room.units {k:Nat} {A:Around} (r:Room k A):A.units+64<cLine:=by have:=r.un;omega
def b3Z:TA:=fun _ H Q=>Q [] H
def b4d (ta:TE) (tr:TA):TA:=fun σ H Q=>ta σ H fun x H1=>tr σ H1 fun xs H2=>Q (x::xs) H2
section
variable {X:Cx} {e:Expr} {es:List Expr} {te:TE} {t:TA} {pos:Pos}
theorem iR:PA X [] b3Z:=fun _ _ _ _ H Q I h=>Calls.spliced_nil ⟨[],H,I,.nil,h⟩
theorem dY (ha:PE X e te) (hr:PA X es t) (hs:starEach (e::es) X.env=(false,eval e X.env)::starEach es X.env:=by rfl):PA X (e::es) (b4d te t):=by
 intro pos pins s σ H Q I h
 rw [hs]
 show wpAny _ _ (spliced ((false,eval e X.env)::backTo pos (starEach es X.env))) _ _ s
 refine Calls.spliced_cons (thn (ha pins s σ H _ I h) fun u s1 ⟨x,H1,I1,r1,q1⟩=>?_)
 exact thn (hr pos pins s1 σ H1 _ I1 q1) fun us s2 ⟨xs,H2,I2,r2,q2⟩=>⟨x::xs,H2,I2,.cons r1 r2,q2⟩
def b5o (t:TA):TE:=fun σ H Q=>t σ H fun xs H1=>xs.length≤sizeLine∧∀ p,H1 p=none→Q (.ref p) (upd H1 p (.tup xs))
def b5r (t:TA):TE:=fun σ H Q=>t σ H fun xs H1=>xs.length≤sizeLine∧∀ p,H1 p=none→Q (.ref p) (upd H1 p (.lst xs))
theorem b2c {x1} (h:PA X es t):PE X (.Tuple es x1 pos) (b5o t):=by
 intro pins s σ H Q I hq
 refine wpAny_Tuple_spliced (thn (h pos pins s σ H _ I hq) fun us s1 ⟨xs,H1,I1,r,z,q⟩=>⟨by rw [←r.length];exact z,?_⟩)
 have hf:H1 s1.heap.objs.size=none:=I1.hok.fresh (Nat.le_refl _)
 refine ⟨.ref s1.heap.objs.size,upd H1 s1.heap.objs.size (.tup xs),I1.laid (t':=s1.toks) (fun b u e=>Heap.get?_push_of_some _ e) (Nat.le_refl _) ?_,rfl,q _ hf⟩
 exact ⟨z,us,r,⟨_,Heap.get?_push_size _ rfl,rfl,_,rfl⟩⟩
theorem a2z (h:PA X es t):PE X (.List es pos) (b5r t):=by
 intro pins s σ H Q I hq
 refine wpAny_List_spliced (thn (h pos pins s σ H _ I hq) fun us s1 ⟨xs,H1,I1,r,z,q⟩=>⟨by rw [←r.length];exact z,?_⟩)
 have hf:H1 s1.heap.objs.size=none:=I1.hok.fresh (Nat.le_refl _)
 refine ⟨.ref s1.heap.objs.size,upd H1 s1.heap.objs.size (.lst xs),I1.laid (t':=s1.toks) (fun b u e=>Heap.get?_push_of_some _ e) (Nat.le_refl _) ?_,rfl,q _ hf⟩
 exact ⟨z,us,0,r,Heap.get?_push_size _ rfl⟩
end
abbrev Sp:=List V→Hp→VK→XK→Prop
abbrev CXT:=List Env→Hp→Shared→XK→Value→Shared→Prop
structure Env0 (P:Program) (w:World) (K:PySem.W.Frag) (mg:Str→Option Value) (base:Heap) (A:Around) (outer:List Env) (s:Shared) (H:Hp):Prop where
 frames:A.frames=some outer
 mod:Mod K mg base
 bs:∀ b o,base.get? b=some o→s.heap.get? b=some o∧H b=none
 bsz:base.objs.size≤s.heap.objs.size
 funs:s.heap.FunFrames base outer
 frf:∀ b∈frs outer,H b=none
 hok:HOk P w H s.heap
 bare:AllBare s.gens
def CE (outer:List Env) (P:Program) (w:World) (H:Hp) (s:Shared) (Q:VK) (u:Value) (s':Shared):Prop:=
 ∃ v H',s'.os=s.os∧AllBare s'.gens∧Un (frs outer) [] H H' s.heap s'.heap∧HOk P w H' s'.heap∧RelV v u∧Q v H'
def CR (CX:CXT) (outer:List Env) (P:Program) (w:World) (H:Hp) (s:Shared) (Q:VK) (E:XK) (r:Result) (s':Shared):Prop:=
 match r with
 | .ok (.ret u)=>CE outer P w H s Q u s'
 | .ok _=>False
 | .error e=>CX outer H s E e s'
structure FnOk (P:Program) (w:World) (K:PySem.W.Frag) (mg:Str→Option Value) (base:Heap) (CX:CXT) (k:Nat) (f:Addr) (fd:FuncData) (ps:List Str) (sp:Sp):Prop where
 len:∀ vs H Q E,sp vs H Q E→vs.length=ps.length
 run:∀ (A:Around) (outer:List Env) (s:Shared) (H:Hp) (args:Args) (us:List Value) (vs:List V) (Q:VK) (E:XK),Room k A→Env0 P w K mg base A outer s H→BindsTo s fd args (ps.zip us)→aY vs us→sp vs H Q E →
  codeAny (model P w) A (.call (.ref f) args) (CR CX outer P w H s Q E) s
theorem Env0.in1 {P:Program} {w:World} {K:PySem.W.Frag} {mg:Str→Option Value} {base:Heap} {A:Around} {outer:List Env} {s:Shared} {H:Hp} (e:Env0 P w K mg base A outer s H) :
  Env0 P w K mg base A.in1 outer s H:=⟨e.frames,e.mod,e.bs,e.bsz,e.funs,e.frf,e.hok,e.bare⟩
section
variable {X:Cx} {pins:List (Addr×Obj)} {σ:St} {H:Hp} {s s':Shared}
theorem Inv.env0 (I:Inv X pins σ H s):Env0 X.prog X.w X.K X.mg X.base X.A X.stack s H:=
 ⟨I.ok.frames,I.ok.mod,I.bs,Nat.le_trans I.ok.bsz I.sz,I.stack,I.stkFree,I.hok,I.bare⟩
theorem Inv.after {Q:VK} {u:Value} (I:Inv X pins σ H s) (h:CE X.stack X.prog X.w H s Q u s'):EP X pins σ Q u s':=by
 obtain ⟨v,H',os,bare,un,hok,r,q⟩:=h
 obtain ⟨hh,g,d,t,os'⟩:=s'
 obtain rfl:os'=s.os:=os
 exact ⟨v,H',I.call (h':=hh) (g':=g) (d':=d) (t':=t) (ch:=[]) un hok bare (fun b z=>absurd z (by simp)),r,q⟩
end
def b0T (sp:Sp) (dvs:List V) (E:XK) (t:TA):TE:=fun σ H Q=>t σ H fun vs H1=>sp (vs++dvs) H1 Q E
def Binds (K:PySem.W.Frag) (fd:FuncData) (ps:List Str) (ds:List Value):Prop:=
 ∀ (s:Shared) (us:List Value),K.In s.heap→(us++ds).length=ps.length→BindsTo s fd ⟨us,[]⟩ (ps.zip (us++ds))
theorem Binds.all {K:PySem.W.Frag} {fd:FuncData} {ps:List Str} (h:∀ us:List Value,us.length=ps.length→bindArgs fd ⟨us,[]⟩=pure (ps.zip us)):Binds K fd ps []:=fun s us _ hl=>by
 rw [List.append_nil] at hl ⊢
 exact .of_eq (h us hl)
def a0x (CX:CXT) (X:Cx) (E:XK):Prop:=∀ (pins:List (Addr×Obj)) (σ:St) (H:Hp) (s:Shared) (e:Value) (s':Shared),Inv X pins σ H s→CX X.stack H s E e s'→X.xe e s'
section
variable {X:Cx} {CX:CXT} {k:Nat} {f C:Addr} {fd:FuncData} {ps:List Str} {sp:Sp} {dvs:List V} {ds:List Value} {E:XK} {x m:Str} {p pos apos:Pos} {e o:Expr} {es:List Expr} {ta:TE} {t:TA}
theorem a6q {pins:List (Addr×Obj)} {σ:St} {H:Hp} {s:Shared} {Q:VK} {us:List Value} {vs:List V} (F:FnOk X.prog X.w X.K X.mg X.base CX k f fd ps sp) (hr:Room k X.A) (hb:Binds X.K fd ps ds) (hd:aY dvs ds) (hx:a0x CX X E)
  (I:Inv X pins σ H s) (r:aY vs us) (h:sp (vs++dvs) H Q E):wpAny (model X.prog X.w) X.A (call (.ref f) us) (EP X pins σ Q) X.xe s:=by
 have r2:aY (vs++dvs) (us++ds):=r.append hd
 have hl:(us++ds).length=ps.length:=by rw [←r2.length];exact F.len _ _ _ _ h
 refine wpAny_call (codeAny_mono (F.run X.A X.stack s H ⟨us,[]⟩ (us++ds) (vs++dvs) Q E hr I.env0 (hb s us I.kIn hl) r2 h) fun r s' hq=>?_)
 cases r with
 | error e=>exact hx pins σ H s e s' I hq
 | ok fl=>
  cases fl with
  | ret u=>exact I.after hq
  | next=>exact False.elim hq
  | brk=>exact False.elim hq
  | cont=>exact False.elim hq
theorem a3x (F:FnOk X.prog X.w X.K X.mg X.base CX k f fd ps sp) (hr:Room k X.A) (hg:Gl X x) (hm:X.mg x=some (.ref f)) (hk:PySem.W.keepIn X.K (.ref f)=true) (hb:Binds X.K fd ps ds) (hd:aY dvs ds) (hx:a0x CX X E)
  (ha:PA X (e::es) t) (hdb:(x==("__debug__" : Str))=false:=by decide) (he:starEach (e::es) X.env=(false,eval e X.env)::starEach es X.env:=by rfl) (hpl:(backTo pos (starEach es X.env)).any (·.1)=false:=by rfl) :
  PE X (.Call (.Name x p) (e::es) [] pos) (b0T sp dvs E t):=by
 intro pins s σ H Q I h
 refine wpAny_Call_Name_kw (mS I hg hm ?_ hdb)
 refine PySem.W.callWith_K (h₀:=X.base) I.ok.mod.kin hk (thn (ha pos pins s σ H _ I h) fun us s1 ⟨vs,H1,I1,r,q⟩=>⟨I1.kIn,?_⟩) he hpl
 exact a6q F hr hb hd hx I1 r q
theorem a6N (F:FnOk X.prog X.w X.K X.mg X.base CX k f fd ps sp) (hr:Room k X.A) (hg:Gl X x) (hm:X.mg x=some (.ref f)) (hk:PySem.W.keepIn X.K (.ref f)=true) (hb:Binds X.K fd ps ds) (hd:aY dvs ds) (hx:a0x CX X E)
  (hdb:(x==("__debug__" : Str))=false:=by decide):PE X (.Call (.Name x p) [] [] pos) (b0T sp dvs E b3Z):=by
 intro pins s σ H Q I h
 refine wpAny_Call_Name_kw (mS I hg hm ?_ hdb)
 exact PySem.W.callWith_K0 I.kIn hk (a6q (us:=[]) F hr hb hd hx I .nil h)
end
section
variable {X:Cx} {CX:CXT} {k:Nat} {f C:Addr} {fd:FuncData} {ps ks:List Str} {sp:Sp} {E:XK} {x m:Str} {p pos apos kpos:Pos} {e o:Expr} {es:List Expr} {kws:List Keyword} {te ta:TE} {t tk:TA} {nm:Option Str}
variable {g:List Value→List Value→List Value} {gV:List V→List V→List V}
end
structure FnScope (N P:List Str) (sc:Scope):Prop where
 kind:sc.kind=.function
 co:sc.isCoroutine=false
 gen:sc.isGenerator=false
 nd:N.Nodup
 pre:N.take P.length=P
 par:∀ x∈P,sc.names.lookup x=some .local∨sc.names.lookup x=some .cell
 nofree:∀ y∈sc.names,y.2≠.free
theorem yB {kindOf:Str→Option NameKind} {x:Str}:∀ {binds:List (Str×Value)} {m:Str→Option Value},(∀ v,(x,v)∉binds)→bindL kindOf binds m x=m x
 | [],_,_=>rfl
 | (n,v)::r,m,h=>by
  unfold bindL
  rw [yB fun w hw=>h w (List.mem_cons_of_mem _ hw)]
  split
  ·have:x≠n:=by rintro rfl;exact h v List.mem_cons_self
   simp [this]
  ·rfl
theorem yD {kindOf:Str→Option NameKind} {x:Str}:∀ {binds:List (Str×Value)} {m:Str→Option Value},(∀ v,(x,v)∉binds)→bindC kindOf binds m x=m x
 | [],_,_=>rfl
 | (n,v)::r,m,h=>by
  unfold bindC
  rw [yD fun w hw=>h w (List.mem_cons_of_mem _ hw)]
  split
  ·rfl
  ·have:x≠n:=by rintro rfl;exact h v List.mem_cons_self
   simp [this]
theorem yC {kindOf:Str→Option NameKind} {x:Str} {v:Value}:∀ {P:List Str} {vs:List Value} {i:Nat} {m:Str→Option Value},P.Nodup→P[i]?=some x→vs[i]?=some v→kindOf x=some .local →
  bindL kindOf (P.zip vs) m x=some v
 | [],_,_,_,_,h,_,_=>by simp at h
 | _::_,[],_,_,_,_,h,_=>by simp at h
 | p::P,w::vs,0,m,nd,h1,h2,hk=>by
  simp at h1 h2;subst h1;subst h2
  show bindL kindOf ((p,w)::P.zip vs) m p=_
  unfold bindL
  rw [yB fun v hv=>(List.nodup_cons.mp nd).1 (List.of_mem_zip hv).1,if_pos hk]
  simp
 | p::P,w::vs,i+1,m,nd,h1,h2,hk=>by
  show bindL kindOf ((p,w)::P.zip vs) m x=_
  unfold bindL
  exact yC (i:=i) (List.nodup_cons.mp nd).2 (by simpa using h1) (by simpa using h2) hk
theorem yE {kindOf:Str→Option NameKind} {x:Str} {v:Value}:∀ {P:List Str} {vs:List Value} {i:Nat} {m:Str→Option Value},P.Nodup→P[i]?=some x→vs[i]?=some v→kindOf x≠some .local →
  bindC kindOf (P.zip vs) m x=some v
 | [],_,_,_,_,h,_,_=>by simp at h
 | _::_,[],_,_,_,_,h,_=>by simp at h
 | p::P,w::vs,0,m,nd,h1,h2,hk=>by
  simp at h1 h2;subst h1;subst h2
  show bindC kindOf ((p,w)::P.zip vs) m p=_
  unfold bindC
  rw [yD fun v hv=>(List.nodup_cons.mp nd).1 (List.of_mem_zip hv).1,if_neg hk]
  simp
 | p::P,w::vs,i+1,m,nd,h1,h2,hk=>by
  show bindC kindOf ((p,w)::P.zip vs) m x=_
  unfold bindC
  exact yE (i:=i) (List.nodup_cons.mp nd).2 (by simpa using h1) (by simpa using h2) hk
def start (N:List Str) (vs:List V):St:=vs.map some++List.replicate (N.length - vs.length) none
def a1B (CX:CXT) (P:Program) (w:World) (K:PySem.W.Frag) (mg:Str→Option Value) (base:Heap) (N:List Str) (qual:Str) (scope:Scope) (f:Addr) (cd:Value) (A:Around) (outer:List Env) (s:Shared) (H:Hp) (E:XK):Cx where
 prog:=P
 w:=w
 K:=K
 mg:=mg
 base:=base
 A:=A.deeper (envOfC qual scope s.heap.objs.size f cd)
 N:=N
 s₀:=s
 H₀:=H
 env:=envOfC qual scope s.heap.objs.size f cd
 outer:=outer
 stack:=envOfC qual scope s.heap.objs.size f cd::outer
 ex:=[]
 calm:=true
 fn:=fun _=>true
 pn:=[]
 xe:=fun e s'=>wpAny (model P w) (A.deeper (envOfC qual scope s.heap.objs.size f cd)) (leaving (envOfC qual scope s.heap.objs.size f cd) e) (fun _ s''=>CX outer H s E e s'') (fun e' s''=>CX outer H s E e' s'') s'
theorem pM {sc:Scope} {n:Nat} {x:Str} (h:sc.names.lookup x=some .cell):∃ c,(cellsFrom n sc.names []).lookup x=some c:=by
 have q:=PySem.W.cellsFrom_some sc.names n [] (.inl h)
 exact Option.isSome_iff_exists.mp q
theorem xR {CX:CXT} {P:Program} {w:World} {K:PySem.W.Frag} {mg:Str→Option Value} {base:Heap} {N ps:List Str} {qual:Str} {scope:Scope} {f:Addr} {cd:Value} {A:Around} {outer:List Env} {s s1:Shared} {H:Hp} {E:XK} {us:List Value} {vs:List V}
  (S:FnScope N ps scope) (hd:A.handled=none) (e0:Env0 P w K mg base A outer s H) (hl:vs.length=ps.length) (r:aY vs us)
  (x:InCallC s s.heap.objs.size (bindL (envOfC qual scope s.heap.objs.size f cd).kindOf (ps.zip us) fun _=>none) (cellsFrom (s.heap.objs.size+1) scope.names []) (bindC (envOfC qual scope s.heap.objs.size f cd).kindOf (ps.zip us) fun _=>none) s1) :
  Inv (a1B CX P w K mg base N qual scope f cd A outer s H E) [] (start N vs) H s1:=by
 have hpl:ps.length≤N.length:=by have:=congrArg List.length S.pre;rw [List.length_take] at this;omega
 obtain ⟨h1,tk,rfl,hk⟩:=x.done
 have noA:∀ b:Addr,b∉(a1B CX P w K mg base N qual scope f cd A outer s H E).ex:=fun b z=>absurd (show b∈([]:List Addr) from z) (by simp)
 refine ⟨⟨e0.mod,S.kind,rfl,rfl,Nat.le_refl _,fun y z c h1 h2=>?_,fun y hy=>?_,fun y c _ h=>?_,fun _=>hd,Around.frames_deeper e0.frames,.inr ⟨rfl,rfl⟩,fun b z=>absurd z (noA b),e0.bs,e0.bsz,fun b _ _=>noA b,fun b z=>absurd z (noA b),e0.funs,e0.frf⟩,
  rfl,e0.bare,Un.kept hk,⟨_,x.toInCall.ns,fun i y v h1 h2 h3=>?_⟩,fun y c h=>⟨_,x.cell y c h⟩,e0.hok.fresh (Nat.le_refl _),fun y c h=>?_,fun p hp=>absurd (show p∈([]:List (Addr×Obj)) from hp) (by simp),e0.hok.kept hk,?_⟩
 ·exact name_of_addr x.apart (PySem.mem_of_lookup h1) (PySem.mem_of_lookup h2)
 ·have hy:scope.names.lookup y=some .cell∨scope.names.lookup y=some .free:=hy
  rcases hy with hy | hy
  ·exact pM hy
  ·exact absurd rfl (S.nofree _ (PySem.mem_of_lookup hy))
 ·exact Nat.le_of_lt (x.above y c (PySem.mem_of_lookup h))
 ·have hi:i<vs.length:=by
   unfold start at h2
   by_cases hi:i<vs.length
   ·exact hi
   ·rw [List.getElem?_append_right (by simpa using hi)] at h2
    rw [List.getElem?_replicate] at h2
    split at h2<;>cases h2
  have ha:vs[i]?=some v:=by
   unfold start at h2
   rw [List.getElem?_append_left (by simpa using hi),List.getElem?_map] at h2
   cases e:vs[i]? with
   | none=>rw [e] at h2;cases h2
   | some a=>rw [e] at h2;cases h2;rfl
  obtain ⟨u,hu,rv⟩:=r.get ha
  have hp:ps[i]?=some y:=by
   rw [←S.pre,List.getElem?_take_of_lt (by omega)];exact h1
  have ndP:ps.Nodup:=by rw [←S.pre];exact S.nd.sublist (List.take_sublist _ _)
  refine ⟨u,rv,?_⟩
  rcases S.par y (List.mem_of_getElem? hp) with k | k
  ·exact .inl ⟨k,yC ndP hp hu k⟩
  ·obtain ⟨c,e⟩:=pM (n:=s.heap.objs.size+1) k
   refine .inr ⟨.inl k,c,e,?_⟩
   have q:=x.cell y c e
   rw [yE ndP hp hu (by show scope.names.lookup y≠_;rw [k];decide)] at q
   exact q
 ·exact e0.hok.fresh (Nat.le_of_lt (x.above y c (PySem.mem_of_lookup h)))
 ·unfold start
  show _=N.length
  rw [List.length_append,List.length_map,List.length_replicate]
  omega
theorem a7S {CX:CXT} {P:Program} {w:World} {K:PySem.W.Frag} {mg:Str→Option Value} {base:Heap} {k:Nat} {f:Addr} {name qual:Str} {params:Arguments} {body:List Stmt} {scope:Scope} {dV kV doc pm cdv ct oc:Value} {an od:Option Addr}
  {osl:Array (Option Value)} {N ps:List Str} {sp:Sp} (lk:K.lookup f=some ⟨oc,od,.func (PySem.W.fnOf name qual params body scope dV kV doc pm an cdv ct),osl⟩) (hcd:PySem.W.codeIn K cdv qual=true) (S:FnScope N ps scope)
  (len:∀ vs H Q E,sp vs H Q E→vs.length=ps.length)
  (hbody:∀ (A:Around) (outer:List Env) (s:Shared) (H:Hp) (vs:List V) (Q:VK) (E:XK),Room k (A.deeper (envOfC qual scope s.heap.objs.size f cdv))→sp vs H Q E →
   ∃ t,PSs (a1B CX P w K mg base N qual scope f cdv A outer s H E) body t∧t { nx:=fun _ H'=>Q .non H',rt:=Q } (start N vs) H) :
  FnOk P w K mg base CX (k+1) f (PySem.W.fnOf name qual params body scope dV kV doc pm an cdv ct) ps sp:=by
 refine ⟨len,fun A outer s H args us vs Q E hr e0 hb r hsp=>?_⟩
 have hl:=len _ _ _ _ hsp
 have KX:K.In s.heap:=e0.mod.kin.keeps fun b o e=>(e0.bs b o e).1
 have lim:s.heap.NoLimit:=e0.mod.nolimit.keeps fun b o e=>(e0.bs b o e).1
 have hkind:∀ y∈ps.zip us,scope.names.lookup y.1=some .local∨(scope.names.lookup y.1=some .cell∧((cellsFrom (s.heap.objs.size+1) scope.names []).lookup y.1).isSome=true):=fun ⟨n,v⟩ hy=>by
  rcases S.par n (List.of_mem_zip hy).1 with q | q
  ·exact .inl q
  ·exact .inr ⟨q,PySem.W.cellsFrom_some _ _ _ (.inl q)⟩
 refine codeAny_call_function hr.depth (KX _ _ lk) rfl S.co S.gen rfl (PySem.W.codeRec_of KX hcd) (hb _ _ _ _ ?_)
 refine wpAny_newFunctionEnv_cells S.kind hkind fun env he s1 x=>?_
 subst he
 refine ⟨lim.keeps x.toInCall.keep,codeAny_func ?_⟩
 obtain ⟨t,ht,hq⟩:=hbody A outer s H vs Q E (hr.deeper _) hsp
 have I:Inv (a1B CX P w K mg base N qual scope f cdv A outer s H E) [] (start N vs) H s1:=xR S hr.hd e0 hl r x
 refine wpAny_mono (ht [] s1 (start N vs) H _ I hq) (fun fl s' hs=>?_) fun e s' hs=>hs
 have fin:∀ {σ':St} {H':Hp} {v:V} {u:Value},Inv (a1B CX P w K mg base N qual scope f cdv A outer s H E) [] σ' H' s'→RelV v u→Q v H'→CE outer P w H s Q u s':=
  fun {σ' H' v u} J rv q=>⟨v,H',J.os,J.bare,J.base,J.hok,rv,q⟩
 cases fl with
 | ret u=>
  obtain ⟨v,σ',H',J,rv,q⟩:=hs
  exact fin J rv q
 | next=>
  obtain ⟨σ',H',J,q⟩:=hs
  exact fin (v:=V.non) (u:=Value.none) J rfl q
 | brk=>
  obtain ⟨_,_,_,q⟩:=hs
  exact False.elim q
 | cont=>
  obtain ⟨_,_,_,q⟩:=hs
  exact False.elim q
section
variable {X:Cx} {x:Str} {p pos:Pos} {e:Expr} {es:List Expr} {t:TA} {id T:String} {r:List V→Hp→VK→Prop}
def tCB (r:List V→Hp→VK→Prop) (t:TA):TE:=fun σ H Q=>t σ H fun vs H1=>r vs H1 Q
theorem oS (hc:eM X (.builtin id) r) (hg:Gl X x) (hm:X.mg x=none) (hv:bootBuiltins x=some (.builtin id)) (ha:PA X (e::es) t) (hn:x ≠ "__name__":=by decide) (hdb:(x==("__debug__" : Str))=false:=by decide)
  (he:starEach (e::es) X.env=(false,eval e X.env)::starEach es X.env:=by rfl) (hpl:(backTo pos (starEach es X.env)).any (·.1)=false:=by rfl):PE X (.Call (.Name x p) (e::es) [] pos) (tCB r t):=by
 intro pins s σ H Q I h
 refine wpAny_Call_Name_kw (hZ I hg hm hv ?_ hn hdb)
 exact PyProof.Rows.callWith_builtin1 (thn (ha pos pins s σ H _ I h) fun us s1 ⟨vs,H1,I1,r1,q1⟩=>hc pins s1 σ H1 vs us Q I1 r1 q1) he hpl
theorem a4I (hc:eM X (.type T) r) (hg:Gl X x) (hm:X.mg x=none) (hv:bootBuiltins x=some (.type T)) (ha:PA X (e::es) t) (hn:x ≠ "__name__":=by decide) (hdb:(x==("__debug__" : Str))=false:=by decide)
  (he:starEach (e::es) X.env=(false,eval e X.env)::starEach es X.env:=by rfl) (hpl:(backTo pos (starEach es X.env)).any (·.1)=false:=by rfl):PE X (.Call (.Name x p) (e::es) [] pos) (tCB r t):=by
 intro pins s σ H Q I h
 refine wpAny_Call_Name_kw (hZ I hg hm hv ?_ hn hdb)
 exact PyProof.Rows.callWith_type1 (thn (ha pos pins s σ H _ I h) fun us s1 ⟨vs,H1,I1,r1,q1⟩=>hc pins s1 σ H1 vs us Q I1 r1 q1) he hpl
end
end L2
namespace HT
open PySem PyProof.Rows
section
open PySem.SeqAt
open PySem.AutoSeq1 (wpAny_loadPart')
open PySem.MeetsSeq PySem.MeetsSeq2 PySem.MeetsSeq3
end
section
variable {prog:Program} {w:World} {A:Around} {E:Value→Shared→Prop} {s:Shared}
theorem cat_tup {t b:Addr} {vs ws:List Value} {Q:Value→Shared→Prop} (ht:IsTup s.heap t vs.toArray) (hb:IsTup s.heap b ws.toArray) (hv:vs≠[])
  (h1:ws=[]→Q (.ref t) s) (h2:ws≠[]→Q (.ref s.heap.objs.size) { s with heap:=s.heap.push { cls:=.type "tuple", data:=.seq (vs++ws).toArray } })
  (hsz:vs.length+ws.length≤sizeLine):wpAny (model prog w) A (binaryOp .Add (.ref t) (.ref b)) Q E s:=by
 obtain ⟨⟨cls,dd,data,sl⟩,ho,hc,n,hd⟩:=id ht
 obtain ⟨⟨cls2,dd2,data2,sl2⟩,ho2,hc2,n2,hd2⟩:=id hb
 simp only at hc hd hc2 hd2
 subst hc hd hc2 hd2
 have e:vs.toArray++ws.toArray=(vs++ws).toArray:=by simp
 by_cases hw:ws=[]
 ·exact concat_meets ⟨_,ho,rfl⟩ ⟨_,ho2,rfl⟩ noFill_tuple_add seq_tuple_add PySem.F.slot_tuple_add PySem.F.entry_tuple_add (PySem.F.args_tuple_add_2 _ _)
   (tuple_addW1 t b vs.toArray ws.toArray n n2 dd dd2 sl sl2 (by simpa using hv) (by simp [hw])) ⟨ho,ho2,h1 hw⟩
 ·refine concat_meets ⟨_,ho,rfl⟩ ⟨_,ho2,rfl⟩ noFill_tuple_add seq_tuple_add PySem.F.slot_tuple_add PySem.F.entry_tuple_add (PySem.F.args_tuple_add_2 _ _)
   (tuple_addW2 t b vs.toArray ws.toArray n n2 dd dd2 sl sl2 (by simpa using hv) (by simpa using hw) (by rw [List.size_toArray,List.size_toArray];exact hsz)) ⟨ho,ho2,?_⟩
  rw [e]
  exact h2 hw
def sIx (n d:Nat):Option Int→Nat
 | none=>d
 | some v=>if v<0 then (v+(n:Int)).toNat else min v.toNat n
theorem sIx_none (n d:Nat):sIx n d none=d:=rfl
theorem b1R (n d:Nat) (hd:d≤n) (o:Option Int):sIx n d o≤n:=by
 cases o with
 | none=>exact hd
 | some v=>
  show (if v<0 then (v+(n:Int)).toNat else min v.toNat n)≤n
  by_cases hv:v<0
  ·rw [if_pos hv];omega
  ·rw [if_neg hv];exact Nat.min_le_right _ _
theorem a4a (v:Int) (n d:Nat):(if v<0 then max (v+(n:Int)) 0 else min v (n:Int))=((sIx n d (some v):Nat):Int):=by
 show (if v<0 then max (v+(n:Int)) 0 else min v (n:Int))=(((if v<0 then (v+(n:Int)).toNat else min v.toNat n):Nat):Int)
 by_cases hv:v<0
 ·simp only [if_pos hv];omega
 ·simp only [if_neg hv];omega
theorem a3f (lo hi:Option Int) (n:Nat):Builtin.Slice.sliceAdjust lo hi 1 (n:Int)=(((sIx n 0 lo:Nat):Int),((sIx n n hi:Nat):Int)):=by
 have h1:¬((1:Int)<0):=by omega
 unfold Builtin.Slice.sliceAdjust
 simp only [h1,if_false]
 refine Prod.ext ?_ ?_
 ·cases lo with
  | none=>rfl
  | some v=>exact a4a v n 0
 ·cases hi with
  | none=>rfl
  | some v=>exact a4a v n n
theorem a2v (i j:Nat):Builtin.Slice.slicePlaces (i:Int) (j:Int) 1=j - i:=by
 unfold Builtin.Slice.slicePlaces
 have h1:(1:Int) > 0:=by omega
 simp only [h1,if_true,Int.ediv_one]
 split<;>omega
theorem tK {v:Value} {o:Option Int} {Q:Option Int→Shared→Prop} (p:IsPart v o) (h:Q o s):wpAny (model prog w) A (Builtin.Slice.slicePartIndex v) Q E s:=by
 cases p with
 | none=>exact slicePart_none h
 | int i t=>exact slicePart_int h
theorem pZ {sl:Addr} {vl vu:Value} {lo hi:Option Int} {n:Nat} {Q:Int×Int×Nat→Shared→Prop} (hs:s.heap.IsSliceOf sl vl vu .none) (pl:IsPart vl lo) (pu:IsPart vu hi)
  (h:Q (((sIx n 0 lo:Nat):Int),1,sIx n n hi - sIx n 0 lo) s):wpAny (model prog w) A (Builtin.Slice.sliceApplied (.ref sl) (pure (n:Int))) Q E s:=by
 obtain ⟨os,hos,hcs,hds⟩:=id hs
 unfold Builtin.Slice.sliceApplied Builtin.Slice.sliceFields
 refine wpAny_bind (wpAny_bind (wpAny_field hos hds (x:=vl) rfl (wpAny_bind (wpAny_field hos hds (x:=vu) rfl (wpAny_bind (wpAny_field hos hds (x:=.none) rfl (wpAny_pure ?_)))))))
 refine wpAny_bind (slicePart_none ?_)
 show wpAny _ _ (if ((1:Int)==0)=true then _ else _) _ _ s
 rw [if_neg (by decide)]
 refine wpAny_bind (tK pl (wpAny_bind (tK pu (wpAny_bind (wpAny_pure ?_)))))
 show wpAny _ _ (match Builtin.Slice.sliceAdjust lo hi 1 (n:Int) with | (lo,hi)=>pure (lo,(1:Int),Builtin.Slice.slicePlaces lo hi 1)) _ _ s
 rw [a3f lo hi n]
 show wpAny _ _ (pure (((sIx n 0 lo:Nat):Int),(1:Int),Builtin.Slice.slicePlaces ((sIx n 0 lo:Nat):Int) ((sIx n n hi:Nat):Int) 1)) _ _ s
 rw [a2v]
 exact wpAny_pure h
theorem a6E (xs:Array Value) (i k:Nat):((List.range k).filterMap fun (m:Nat)=>xs[((i:Int)+(m:Int)*1).toNat]?).toArray=((xs.toList.drop i).take k).toArray:=by
 have e:(fun (m:Nat)=>xs[((i:Int)+(m:Int)*1).toNat]?)=fun m=>xs[i+m]?:=by
  funext m
  have:((i:Int)+(m:Int)*1).toNat=i+m:=by omega
  rw [this]
 rw [e]
 have:=pick_run xs i k
 rw [List.filterMap_map] at this
 have e2:((fun x=>xs[x]?)∘fun x=>i+x)=fun m=>xs[i+m]?:=rfl
 rw [e2] at this
 rw [this]
theorem getItem_tuple_cut {t sl:Addr} {items:Array Value} {vl vu:Value} {lo hi:Option Int} {Q:Value→Shared→Prop} (ht:IsTup s.heap t items) (hs:s.heap.IsSliceOf sl vl vu .none) (pl:IsPart vl lo) (pu:IsPart vu hi)
  (hw:¬(sIx items.size 0 lo=0∧sIx items.size items.size hi=items.size))
  (h:Q (.ref s.heap.objs.size) { s with heap:=s.heap.push { cls:=.type "tuple", data:=.seq ((items.toList.drop (sIx items.size 0 lo)).take (sIx items.size items.size hi - sIx items.size 0 lo)).toArray } })
  (hsz:items.size≤sizeLine):wpAny (model prog w) A (getItem (.ref t) (.ref sl)) Q E s:=by
 have htake:sizeOk (.seq ((items.toList.drop (sIx items.size 0 lo)).take (sIx items.size items.size hi - sIx items.size 0 lo)).toArray):=by
  show ((items.toList.drop (sIx items.size 0 lo)).take (sIx items.size items.size hi - sIx items.size 0 lo)).toArray.size≤sizeLine
  rw [List.size_toArray,List.length_take,List.length_drop,Array.length_toList]
  omega
 have hj:sIx items.size items.size hi≤items.size:=b1R _ _ (Nat.le_refl _) hi
 obtain ⟨os,hos,hcs,hds⟩:=id hs
 have hTs:s.TypeIs (.ref sl) "slice" := ⟨os,hos,hcs⟩
 unfold getItem
 try with_reducible refine wpAny_holding ?_
 first | refine wpAny_bind (wpAny_pure ?_) | skip
 refine wpAny_bind (wpAny_sequenceKey ht.typeIs (by decide) ?_)
 refine wpAny_bind (wpAny_callSpecial?_slot (name:=Str.ofString "__getitem__") ht.typeIs PyProof.Rows.slot_tuple_getitem
  (wpAny_call_entry PyProof.Rows.slot_tuple_getitem ht.typeIs entry_tuple_getitem ?_ (args_tuple_getitem _ _)))
 show wpAny _ _ (Builtin.Tuple.tupleItemsOf (.ref t)>>=_) _ _ s
 refine wpAny_bind (tupleItemsOf_ ht ?_)
 refine wpAny_bind (wpAny_typeOf hTs ?_)
 rw [if_pos (by decide)]
 refine wpAny_bind (pZ hs pl pu ?_)
 have hno:¬((((sIx items.size 0 lo:Nat):Int)==0&&(1:Int)==1&&(sIx items.size items.size hi - sIx items.size 0 lo)==items.size)=true):=by
  intro q
  rw [Bool.and_eq_true,Bool.and_eq_true] at q
  have q1:((sIx items.size 0 lo:Nat):Int)=0:=eq_of_beq q.1.1
  have q2:sIx items.size items.size hi - sIx items.size 0 lo=items.size:=eq_of_beq q.2
  exact hw ⟨by omega,by omega⟩
 show wpAny _ _ (if (((sIx items.size 0 lo:Nat):Int)==0&&(1:Int)==1&&(sIx items.size items.size hi - sIx items.size 0 lo)==items.size)=true then _ else _) _ _ s
 rw [if_neg hno,a6E]
 first
  | exact wpAny_bind (m:=Builtin.Tuple.tupleExact _) (wpAny_newObj_type (wpAny_pure ⟨_,rfl,wpAny_pure h⟩) htake)
  | exact wpAny_bind (m:=Builtin.Tuple.tupleExact _) (wpAny_newObj_type (wpAny_bind (wpAny_pure (wpAny_pure ⟨_,rfl,wpAny_pure h⟩))) htake)
  | exact wpAny_bind (wpAny_bind (m:=Builtin.Tuple.tupleExact _) (wpAny_newObj_type (wpAny_pure (wpAny_pure ⟨_,rfl,wpAny_pure h⟩)) htake))
  | exact wpAny_bind (wpAny_bind (m:=Builtin.Tuple.tupleExact _) (wpAny_newObj_type (wpAny_pure ⟨_,rfl,wpAny_pure h⟩) htake))
end
end HT
namespace L2
open PySem PySem.Spec PyProof.Rows
abbrev TO:=St→Hp→(Option Int→Hp→Prop)→Prop
def PO (X:Cx) (e:Option Expr) (t:TO):Prop:=
 ∀ (pins:List (Addr×Obj)) (s:Shared) (σ:St) (H:Hp) (Q:Option Int→Hp→Prop),Inv X pins σ H s→t σ H Q →
  wpAny (model X.prog X.w) X.A (evalPart e X.env) (fun u s'=>∃ o H',Inv X pins σ H' s'∧IsPart u o∧Q o H') X.xe s
def a8V:TO:=fun _ H Q=>Q none H
def b3X (t:TE):TO:=fun σ H Q=>t σ H fun x H1=>∃ i,x=.int i∧Q (some i) H1
theorem intsAre_of {ns:List Int}:∀ {us:List Value},aY (ns.map V.int) us→IntsAre us ns:=by
 induction ns with
 | nil=>intro us r;rw [List.map_nil] at r;cases r;exact .nil
 | cons n ns ih=>
  intro us r
  rw [List.map_cons] at r
  cases r with
  | cons r1 r2=>
   obtain ⟨t,e⟩:=r1
   subst e
   exact .cons n t (ih r2)
section
variable {X:Cx} {e:Expr} {te:TE} {lo hi:Option Expr} {tl th:TO} {pos p2:Pos}
theorem a9n:PO X none a8V:=by
 intro pins s σ H Q I h
 rw [evalPart_none]
 exact wpAny_pure ⟨none,H,I,.none,h⟩
theorem a9m (h:PE X e te):PO X (some e) (b3X te):=by
 intro pins s σ H Q I hw
 rw [evalPart_some]
 refine thn (h pins s σ H _ I hw) fun u s1 ⟨x,H1,I1,r1,q1⟩=>?_
 obtain ⟨i,rfl,q⟩:=q1
 obtain ⟨t,rfl⟩:=r1
 exact ⟨some i,H1,I1,.int i t,q⟩
def SlR (X:Cx) (r:V→Option Int→Option Int→Hp→VK→Prop):Prop:=
 ∀ (pins:List (Addr×Obj)) (s:Shared) (σ:St) (H:Hp) (x:V) (v vl vu:Value) (lo hi:Option Int) (sl:Addr) (Q:VK),Inv X pins σ H s→RelV x v→s.heap.IsSliceOf sl vl vu .none→IsPart vl lo→IsPart vu hi→r x lo hi H Q →
  ∃ T id,typeLookup (.type T) "__getitem__" = pure (some (.builtin id))∧s.TypeIs v T∧wpAny (model X.prog X.w) X.A (getItem v (.ref sl)) (EP X pins σ Q) X.xe s
theorem SlR.or {r r':V→Option Int→Option Int→Hp→VK→Prop} (h:SlR X r) (h':SlR X r'):SlR X (fun x lo hi H Q=>r x lo hi H Q∨r' x lo hi H Q):=by
 intro pins s σ H x v vl vu lo hi sl Q I rx hs pl pu q
 rcases q with q | q
 ·exact h pins s σ H x v vl vu lo hi sl Q I rx hs pl pu q
 ·exact h' pins s σ H x v vl vu lo hi sl Q I rx hs pl pu q
def tSl (r:V→Option Int→Option Int→Hp→VK→Prop) (te:TE) (tl th:TO):TE:=fun σ H Q=>te σ H fun x H1=>tl σ H1 fun l H2=>th σ H2 fun u H3=>r x l u H3 Q
theorem a0V {r:V→Option Int→Option Int→Hp→VK→Prop} (hr:SlR X r) (he:PE X e te) (hl:PO X lo tl) (hu:PO X hi th):PE X (.Subscript e (.Slice lo hi none p2) pos) (tSl r te tl th):=by
 intro pins s σ H Q I h
 refine Subscript_ (thn (he pins s σ H _ I h) fun v s1 ⟨x,H1,I1,r1,q1⟩=>?_)
 refine wpAny_Slice (thn (hl pins s1 σ H1 _ I1 q1) fun vl s2 ⟨l,H2,I2,pl,q2⟩=>thn (hu pins s2 σ H2 _ I2 q2) fun vu s3 ⟨u,H3,I3,pu,q3⟩=>?_)
 rw [evalPart_none]
 refine wpAny_pure ?_
 have I4:Inv X pins σ H3 { s3 with heap:=s3.heap.push { cls:=.type "slice", data:=.fields #[vl,vu,.none] } }:=I3.kept (t':=s3.toks) fun b ob q=>Heap.get?_push_of_some _ q
 obtain ⟨T,id,hT,ht,hg⟩:=hr pins { s3 with heap:=s3.heap.push { cls:=.type "slice", data:=.fields #[vl,vu,.none] } } σ H3 x v vl vu l u s3.heap.objs.size Q I4 r1 (Heap.IsSliceOf.new ..) pl pu q3
 show wpAny (model X.prog X.w) X.A (subscriptTail e (.Slice lo hi none p2) v (.ref s3.heap.objs.size)) (EP X pins σ Q) X.xe { s3 with heap:=s3.heap.push { cls:=.type "slice", data:=.fields #[vl,vu,.none] } }
 exact tail_any (ops:=[.ref s3.heap.objs.size,v]) ht hT hg (by with_unfolding_all rfl)
def a1C (xs:List V) (lo hi:Option Int):List V:=(xs.drop (HT.sIx xs.length 0 lo)).take (HT.sIx xs.length xs.length hi - HT.sIx xs.length 0 lo)
theorem rZ (xs:List V) (lo hi:Option Int):(a1C xs lo hi).length≤xs.length:=by
 unfold a1C
 rw [List.length_take,List.length_drop]
 omega
def b5D (K:PySem.W.Frag):V→Option Int→Option Int→Hp→VK→Prop:=fun x lo hi H Q=>∃ a xs,x=.ref a∧SqT K H a xs ∧
 ¬(HT.sIx xs.length 0 lo=0∧HT.sIx xs.length xs.length hi=xs.length)∧∀ p,H p=none→Q (.ref p) (upd H p (.tup (a1C xs lo hi)))
theorem a6m:SlR X (b5D X.K):=by
 intro pins s σ H x v vl vu lo hi sl Q I rx hs pl pu h
 obtain ⟨a,xs,rfl,hx,hw,q⟩:=h
 cases rx
 obtain ⟨its,r,ht,hz⟩:=I.tuple hx
 have hlen:its.toArray.size=xs.length:=by rw [List.size_toArray];exact r.length.symm
 refine ⟨"tuple", _,PyProof.Rows.slot_tuple_getitem.lookup,ht.typeIs,?_⟩
 refine HT.getItem_tuple_cut ht hs pl pu (by rw [hlen];exact hw) ?_ (by rw [hlen];exact hz)
 rw [hlen]
 refine ⟨.ref s.heap.objs.size,_,I.laid (t':=s.toks) (o:=.tup (a1C xs lo hi)) (fun b ob q=>Heap.get?_push_of_some _ q) (Nat.le_refl _) ?_,rfl,q _ (I.hok.fresh (Nat.le_refl _))⟩
 exact ⟨Nat.le_trans (rZ xs lo hi) hz,_,(r.drop (HT.sIx xs.length 0 lo)).take (HT.sIx xs.length xs.length hi - HT.sIx xs.length 0 lo),IsTup.new _ _⟩
def b4q (K:PySem.W.Frag):R2:=fun x y H Q=>∃ a b xs ys,x=.ref a∧y=.ref b∧SqT K H a xs∧SqT K H b ys∧xs≠[]∧xs.length+ys.length≤sizeLine ∧
 (ys=[]→Q (.ref a) H)∧(ys≠[]→∀ p,H p=none→Q (.ref p) (upd H p (.tup (xs++ys))))
theorem aY.nil_iff {xs:List V} {us:List Value} (r:aY xs us):us=[]↔xs=[]:=by
 cases r with
 | nil=>simp
 | cons _ _=>simp
theorem a9D:OpR X (binaryOp .Add) (b4q X.K):=by
 intro pins s σ H x y v u Q I rx ry h
 obtain ⟨a,b,xs,ys,rfl,rfl,ha,hb,hx,hz,q1,q2⟩:=h
 cases rx
 cases ry
 obtain ⟨its,r1,p1,_⟩:=I.tuple ha
 obtain ⟨its2,r2,p2,_⟩:=I.tuple hb
 refine HT.cat_tup p1 p2 (fun z=>hx (r1.nil_iff.mp z)) (fun z=>⟨.ref a,H,I,rfl,q1 (r2.nil_iff.mp z)⟩) (fun z=>?_) (by rw [←r1.length,←r2.length];exact hz)
 refine ⟨.ref s.heap.objs.size,_,I.laid (t':=s.toks) (o:=.tup (xs++ys)) (fun b ob q=>Heap.get?_push_of_some _ q) (Nat.le_refl _) ?_,rfl,q2 (fun w=>z (r2.nil_iff.mpr w)) _ (I.hok.fresh (Nat.le_refl _))⟩
 exact ⟨by rw [List.length_append];exact hz,_,r1.append r2,IsTup.new _ _⟩
end
def ixN (n:Nat) (i:Int):Option Nat:=if 0≤i then (if i<n then some i.toNat else none) else if -(n:Int)≤i then some (i+n).toNat else none
def atI {α:Type} (xs:List α) (i:Int):Option α:=(ixN xs.length i).bind fun j=>xs[j]?
theorem b0a {n:Nat} {i:Int} {j:Nat} (h:ixN n i=some j):seqIndex? i n=some j∧j<n∧-(n:Int)≤i∧i<n:=by
 unfold ixN at h
 by_cases h0:0≤i
 ·rw [if_pos h0] at h
  by_cases h1:i<n
  ·rw [if_pos h1] at h
   have e:i.toNat=j:=Option.some.inj h
   exact ⟨by rw [seqIndex_of h0 h1,e],by omega,by omega,h1⟩
  ·rw [if_neg h1] at h;cases h
 ·rw [if_neg h0] at h
  by_cases h1:-(n:Int)≤i
  ·rw [if_pos h1] at h
   have e:(i+n).toNat=j:=Option.some.inj h
   exact ⟨by rw [seqIndex_neg (by omega) h1,e],by omega,h1,by omega⟩
  ·rw [if_neg h1] at h;cases h
theorem a0t {α:Type} {xs:List α} {i:Int} {v:α} (h:atI xs i=some v):∃ j,seqIndex? i xs.length=some j∧xs[j]?=some v∧j<xs.length∧-(xs.length:Int)≤i∧i<xs.length:=by
 unfold atI at h
 cases e:ixN xs.length i with
 | none=>rw [e] at h;cases h
 | some j=>
  rw [e] at h
  obtain ⟨h1,h2,h3,h4⟩:=b0a e
  exact ⟨j,h1,h,h2,h3,h4⟩
theorem a8L {α:Type} (xs:List α) (v:α):atI (xs++[v]) (-1)=some v:=by
 have hl:(xs++[v]).length=xs.length+1:=by simp
 have e:ixN (xs++[v]).length (-1)=some xs.length:=by
  unfold ixN
  rw [hl,if_neg (by decide),if_pos (by omega)]
  congr 1
  omega
 unfold atI
 rw [e]
 show (xs++[v])[xs.length]?=some v
 simp
def sQ (b:Expr):Prop:=∀ o i,subscripted b false o i=operate [o,i] (getItem o i)
def IxR (X:Cx) (r:R2):Prop:=
 ∀ (value slice:Expr) (pins:List (Addr×Obj)) (s:Shared) (σ:St) (H:Hp) (x y:V) (v u:Value) (Q:VK),Inv X pins σ H s→RelV x v→RelV y u→r x y H Q →
  subscripted slice false v u=operate [v,u] (getItem v u)→wpAny (model X.prog X.w) X.A (subscriptTail value slice v u) (EP X pins σ Q) X.xe s
def MtR (X:Cx) (id:String) (r:V→List V→Hp→VK→Prop):Prop:=
 ∀ (pins:List (Addr×Obj)) (s:Shared) (σ:St) (H:Hp) (x:V) (xs:List V) (v:Value) (us:List Value) (Q:VK),Inv X pins σ H s→RelV x v→aY xs us→r x xs H Q →
  wpAny (model X.prog X.w) X.A (call (.builtin id) (v::us)) (EP X pins σ Q) X.xe s
section
variable {X:Cx} {a b:Expr} {ta tb:TE} {pos:Pos}
theorem IxR.or {r r':R2} (h:IxR X r) (h':IxR X r'):IxR X (fun x y H Q=>r x y H Q∨r' x y H Q):=by
 intro value slice pins s σ H x y v u Q I rx ry q hs
 rcases q with q | q
 ·exact h value slice pins s σ H x y v u Q I rx ry q hs
 ·exact h' value slice pins s σ H x y v u Q I rx ry q hs
theorem b0Z {r:R2} (hr:IxR X r) (ha:PE X a ta) (hb:PE X b tb) (hs:sQ b):PE X (.Subscript a b pos) (tOp r ta tb):=by
 intro pins s σ H Q I h
 exact Subscript_ (b3G ha hb I h fun v u s2 x y H2 I2 rx ry q=>hr a b pins s2 σ H2 x y v u Q I2 rx ry q (hs _ _))
def b4l (K:PySem.W.Frag):R2:=fun x y H Q=>∃ p xs i v,x=.ref p∧y=.int i∧SqL K H p xs∧atI xs i=some v∧Q v H
def b4j (K:PySem.W.Frag):R2:=fun x y H Q=>∃ p xs i v,x=.ref p∧y=.int i∧SqT K H p xs∧atI xs i=some v∧Q v H
def b4k:R2:=fun x y H Q=>∃ z i c,x=.str z∧y=.int i∧z.length≤sizeLine∧atI z.cps.toList i=some c∧Q (.str ⟨#[c]⟩) H
theorem a3K:IxR X (b4l X.K):=by
 intro value slice pins s σ H x y v u Q I rx ry h hs
 obtain ⟨p,xs,i,z,rfl,rfl,hq,he,q⟩:=h
 cases rx
 obtain ⟨t,rfl⟩:=ry
 obtain ⟨its,r,pl,hz⟩:=I.list hq
 obtain ⟨j,h1,h2,h3,h4,h5⟩:=a0t he
 obtain ⟨w,ew,rw'⟩:=r.get h2
 have hl:=r.length
 have hn:=qF
 have fin:EP X pins σ Q w s:=⟨z,H,I,rw',q⟩
 by_cases h0:0≤i
 ·have hj:i.toNat=j:=by
   rw [seqIndex_of h0 h5] at h1
   exact Option.some.inj h1
  exact item_listR pl.isList h0 (by omega) (by rw [hj];simpa using ew) fin hs
 ·have hj:(i+(its.toArray.size:Int)).toNat=j:=by
   rw [seqIndex_neg (by omega) h4] at h1
   rw [List.size_toArray,←hl]
   exact Option.some.inj h1
  exact subscriptTail_builtinR (x:=w) pl.isList.typeIs slot_list_getitem.lookup
   (wpAny_getItem_list_neg (Q:=fun r s'=>r=w∧EP X pins σ Q r s') pl.isList (by omega) (by rw [List.size_toArray]<;>omega) (by omega) (by rw [hj];simpa using ew) ⟨rfl,fin⟩) hs
theorem b2S:IxR X (b4j X.K):=by
 intro value slice pins s σ H x y v u Q I rx ry h hs
 obtain ⟨p,xs,i,z,rfl,rfl,hq,he,q⟩:=h
 cases rx
 obtain ⟨t,rfl⟩:=ry
 obtain ⟨its,r,pl,hz⟩:=I.tuple hq
 obtain ⟨j,h1,h2,h3,h4,h5⟩:=a0t he
 obtain ⟨w,ew,rw'⟩:=r.get h2
 have hl:=r.length
 have hn:=qF
 have fin:EP X pins σ Q w s:=⟨z,H,I,rw',q⟩
 exact subscriptTail_builtinR (x:=w) pl.typeIs slot_tuple_getitem.lookup
  (getItem_tuple (j:=j) (Q:=fun r s'=>r=w∧EP X pins σ Q r s') pl (by omega) (by omega) (by rw [List.size_toArray,←hl];exact h1) (by simpa using ew) ⟨rfl,fin⟩) hs
theorem b2T:IxR X b4k:=by
 intro value slice pins s σ H x y v u Q I rx ry h hs
 obtain ⟨z,i,c,rfl,rfl,hz,he,q⟩:=h
 obtain ⟨t,rfl⟩:=rx
 obtain ⟨t',rfl⟩:=ry
 obtain ⟨j,h1,h2,h3,h4,h5⟩:=a0t he
 have hl:z.cps.toList.length=z.length:=by simp [Str.length]
 rw [hl] at h1 h4 h5
 have hn:=qF
 exact tail_any (typeIs_str s z t) slot_str_getitem.lookup (getItem_str (c:=c) (by
  have e1:decide (i < -(2 ^ 63:Int))=false:=decide_eq_false (by omega)
  have e2:decide (i≥2 ^ 63)=false:=decide_eq_false (by omega)
  rw [e1,e2,Bool.or_false]) (by rw [h1];simpa using h2) ⟨.str ⟨#[c]⟩,H,I.tok _,⟨_,rfl⟩,q⟩) hs
def rIx (K:PySem.W.Frag):R2:=fun x y H Q=>b4l K x y H Q∨b4j K x y H Q∨b4k x y H Q
theorem b2U:IxR X (rIx X.K):=a3K.or (b2S.or b2T)
theorem yS (lo hi:Option Int) (n:Nat):(sliceBounds lo hi none n).1=((HT.sIx n 0 lo:Nat):Int)∧(sliceBounds lo hi none n).2.1=((HT.sIx n n hi:Nat):Int)∧(sliceBounds lo hi none n).2.2=1:=by
 refine ⟨?_,?_,rfl⟩
 ·cases lo with
  | none=>simp [sliceBounds,HT.sIx]
  | some i=>
   simp only [sliceBounds,HT.sIx,Option.getD_none,show (1:Int) > 0 by decide,if_true]
   by_cases h:i<0
   ·simp only [h,if_true]<;>omega
   ·simp only [h,if_false]<;>omega
 ·cases hi with
  | none=>simp [sliceBounds,HT.sIx]
  | some i=>
   simp only [sliceBounds,HT.sIx,Option.getD_none,show (1:Int) > 0 by decide,if_true]
   by_cases h:i<0
   ·simp only [h,if_true]<;>omega
   ·simp only [h,if_false]<;>omega
theorem vR (its:List Value) (lo hi:Option Int):slicePick its.toArray lo hi none=((its.drop (HT.sIx its.length 0 lo)).take (HT.sIx its.length its.length hi - HT.sIx its.length 0 lo)).toArray:=by
 obtain ⟨h1,h2,h3⟩:=yS lo hi its.toArray.size
 unfold slicePick
 rw [h1,h2,h3]
 simp only [sliceRange_one,pick_run,List.size_toArray]<;>rfl
def b5E (K:PySem.W.Frag):V→Option Int→Option Int→Hp→VK→Prop:=fun x lo hi H Q=>∃ a xs,x=.ref a∧SqL K H a xs∧∀ p,H p=none→Q (.ref p) (upd H p (.lst (a1C xs lo hi)))
theorem a3m:SlR X (b5E X.K):=by
 intro pins s σ H x v vl vu lo hi sl Q I rx hs pl pu h
 obtain ⟨a,xs,rfl,hx,q⟩:=h
 cases rx
 obtain ⟨its,r,ht,hz⟩:=I.list hx
 have hlen:=r.length
 refine ⟨"list", _,slot_list_getitem.lookup,ht.isList.typeIs,?_⟩
 refine wpAny_getItem_list_slice ht.isList hs pl pu .none (by simp) ?_ (by rw [List.size_toArray]<;>omega)
 rw [vR,←hlen]
 refine ⟨.ref s.heap.objs.size,_,I.laid (t':=s.toks) (o:=.lst (a1C xs lo hi)) (fun b ob q=>Heap.get?_push_of_some _ q) (Nat.le_refl _) ?_,rfl,q _ (I.hok.fresh (Nat.le_refl _))⟩
 exact ⟨Nat.le_trans (rZ xs lo hi) hz,_,0,(r.drop (HT.sIx xs.length 0 lo)).take (HT.sIx xs.length xs.length hi - HT.sIx xs.length 0 lo),Heap.get?_push_size _ rfl⟩
def lH:V→Bool
 | .non=>true
 | .bl _=>true
 | .int _=>true
 | .str _=>true
 | _=>false
def eqV:V→V→Bool
 | .non,.non=>true
 | .bl a,.bl b=>a==b
 | .bl a,.int b=>(if a then 1 else 0)==b
 | .int a,.bl b=>a==(if b then 1 else 0)
 | .int a,.int b=>a==b
 | .str a,.str b=>a==b
 | _,_=>false
theorem b3i {A:Around} {s:Shared} {y x:V} {u v:Value} (ry:RelV y u) (rx:RelV x v) (fy:lH y=true) (fx:lH x=true):SeqAt.EqAt A s u v (eqV y x):=by
 cases y with
 | non=>
  cases ry
  cases x with
  | non=>cases rx;exact SeqAt.EqAt.same _
  | bl b=>cases rx;exact SeqAt.EqAt.none_bool b
  | int b=>obtain ⟨t,rfl⟩:=rx;exact SeqAt.EqAt.none_int b t
  | str b=>obtain ⟨t,rfl⟩:=rx;exact SeqAt.EqAt.none_str b t
  | _=>exact absurd (show false=true from fx) Bool.false_ne_true
 | bl a=>
  cases ry
  cases x with
  | non=>cases rx;exact SeqAt.EqAt.bool_none a
  | bl b=>cases rx;exact SeqAt.EqAt.bool_bool a b
  | int b=>obtain ⟨t,rfl⟩:=rx;exact SeqAt.EqAt.bool_int a b t
  | str b=>obtain ⟨t,rfl⟩:=rx;exact SeqAt.EqAt.bool_str a b t
  | _=>exact absurd (show false=true from fx) Bool.false_ne_true
 | int a=>
  obtain ⟨t',rfl⟩:=ry
  cases x with
  | non=>cases rx;exact SeqAt.EqAt.int_none a t'
  | bl b=>cases rx;exact SeqAt.EqAt.int_bool a t' b
  | int b=>obtain ⟨t,rfl⟩:=rx;exact SeqAt.EqAt.int_int a t' b t
  | str b=>obtain ⟨t,rfl⟩:=rx;exact SeqAt.EqAt.int_str a t' b t
  | _=>exact absurd (show false=true from fx) Bool.false_ne_true
 | str a=>
  obtain ⟨t',rfl⟩:=ry
  cases x with
  | non=>cases rx;exact SeqAt.EqAt.str_none a t'
  | bl b=>cases rx;exact SeqAt.EqAt.str_bool a t' b
  | int b=>obtain ⟨t,rfl⟩:=rx;exact SeqAt.EqAt.str_int a t' b t
  | str b=>obtain ⟨t,rfl⟩:=rx;exact SeqAt.EqAt.str_str a t' b t
  | _=>exact absurd (show false=true from fx) Bool.false_ne_true
 | _=>exact absurd (show false=true from fy) Bool.false_ne_true
def eqU (x:V) (u:Value):Bool:=match u with
 | .none=>eqV .non x
 | .bool b=>eqV (.bl b) x
 | .int i _=>eqV (.int i) x
 | .str z _=>eqV (.str z) x
 | _=>false
theorem a8c {x y:V} {u:Value} (r:RelV y u) (f:lH y=true):eqU x u=eqV y x:=by
 cases y with
 | non=>cases r;rfl
 | bl b=>cases r;rfl
 | int i=>obtain ⟨t,rfl⟩:=r;rfl
 | str z=>obtain ⟨t,rfl⟩:=r;rfl
 | _=>exact absurd (show false=true from f) Bool.false_ne_true
theorem a0u {x:V}:∀ {xs:List V} {us:List Value},aY xs us→xs.all lH=true→us.any (eqU x)=xs.any fun y=>eqV y x
 | _,_,.nil,_=>rfl
 | y::xs,u::us,.cons r t,f=>by
  rw [List.all_cons,Bool.and_eq_true] at f
  rw [List.any_cons,List.any_cons,a8c r f.1,a0u t f.2]
theorem uC {A:Around} {s:Shared} {x:V} {v:Value} (rx:RelV x v) (fx:lH x=true):∀ {xs:List V} {us:List Value},aY xs us→xs.all lH=true→∀ u∈us,SeqAt.EqAt A s u v (eqU x u)
 | _,_,.nil,_=>fun u hu=>by cases hu
 | y::xs,u::us,.cons r t,f=>fun u' hu=>by
  rw [List.all_cons,Bool.and_eq_true] at f
  rcases List.mem_cons.mp hu with rfl | hu
  ·rw [a8c r f.1];exact b3i r rx f.1 fx
  ·exact uC rx fx t f.2 u' hu
def inV (x:V) (xs:List V):Bool:=xs.any fun y=>eqV y x
def rIn (K:PySem.W.Frag) (neg:Bool):R2:=fun x y H Q=>∃ p xs,y=.ref p∧(SqL K H p xs∨SqT K H p xs)∧lH x=true∧xs.all lH=true∧Q (.bl (if neg then !inV x xs else inV x xs)) H
theorem oU:OpR X (compareOp .NotIn) (rIn X.K true):=by
 intro pins s σ H x y v u Q I rx ry h
 obtain ⟨p,xs,rfl,hq,fx,fs,q⟩:=h
 cases ry
 rcases hq with hq | hq
 ·obtain ⟨its,r,pl,hz⟩:=I.list hq
  refine SeqAt.notIn_listAt (eqU x) pl.isList (fun w hw=>uC rx fx r fs w (by simpa using hw)) ⟨.bl _,H,I,rfl,?_⟩
  rw [show its.toArray.any (eqU x)=its.any (eqU x) by simp,a0u r fs]
  exact q
 ·obtain ⟨its,r,pl,hz⟩:=I.tuple hq
  refine SeqAt.notIn_tupleAt (eqU x) pl (fun w hw=>uC rx fx r fs w (by simpa using hw)) ⟨.bl _,H,I,rfl,?_⟩
  rw [show its.toArray.any (eqU x)=its.any (eqU x) by simp,a0u r fs]
  exact q
theorem pP:eM X (.builtin "len") (fun xs H Q=>∃ p ys,xs=[.ref p]∧(SqL X.K H p ys∨SqT X.K H p ys)∧Q (.int ys.length) H):=by
 intro pins s σ H xs us Q I r h
 obtain ⟨p,ys,rfl,hq,q⟩:=h
 obtain ⟨u,rfl,rx⟩:=vals1 r
 cases rx
 have hn:=qF
 rcases hq with hq | hq
 ·obtain ⟨its,r',pl,hz⟩:=I.list hq
  have hlen:=r'.length
  exact Calls.call_len_list pl.isList (by simp only [List.size_toArray]<;>omega) ⟨.int ys.length,H,I.tok _,⟨s.toks+1,by rw [List.size_toArray,hlen]⟩,q⟩
 ·obtain ⟨its,r',pl,hz⟩:=I.tuple hq
  have hlen:=r'.length
  exact len_tuple pl (by simp only [List.size_toArray]<;>omega) ⟨.int ys.length,H,I.tok _,⟨s.toks+1,by rw [List.size_toArray,hlen]⟩,q⟩
theorem a0l:eM X (.builtin "len") (fun xs H Q=>∃ z,xs=[.str z]∧z.length≤sizeLine∧Q (.int z.length) H):=by
 intro pins s σ H xs us Q I r h
 obtain ⟨z,rfl,hz,q⟩:=h
 obtain ⟨u,rfl,t,rfl⟩:=vals1 r
 have hn:=qF
 exact len_str (by omega) ⟨.int z.length,H,I.tok _,⟨_,rfl⟩,q⟩
theorem pO:eM X (.type "list") (fun xs H Q=>∃ p ys,xs=[.ref p]∧(SqL X.K H p ys∨SqT X.K H p ys)∧∀ l,H l=none→Q (.ref l) (upd H l (.lst ys))):=by
 intro pins s σ H xs us Q I r h
 obtain ⟨p,ys,rfl,hq,q⟩:=h
 obtain ⟨u,rfl,rx⟩:=vals1 r
 cases rx
 have fin:∀ (its:List Value),aY ys its→ys.length≤sizeLine→∀ (h':Heap) (c':Nat),(∀ b o',s.heap.get? b=some o'→h'.get? b=some o') →
   h'.get? s.heap.objs.size=some { cls:=.type "list", dict:=none,data:=.seq its.toArray c',slots:=#[] }→EP X pins σ Q (.ref s.heap.objs.size) { s with heap:=h' }:=fun its r' hz h' c' kp e=>
  ⟨.ref s.heap.objs.size,_,I.laid (t':=s.toks) kp (Nat.le_refl _) (show cM X.prog X.w _ h' _ (.lst ys) from ⟨hz,its,c',r',e⟩),rfl,q _ (I.hok.fresh (Nat.le_refl _))⟩
 rcases hq with hq | hq
 ·obtain ⟨its,r',pl,hz⟩:=I.list hq
  have hlen:=r'.length
  obtain ⟨o,ho,hc,n,hd⟩:=pl.isList
  exact call_list_seq p (.inl rfl) ho hc hd (fun h' c' kp e=>fin its r' hz h' c' kp e) (by simp only [List.size_toArray]<;>omega)
 ·obtain ⟨its,r',pl,hz⟩:=I.tuple hq
  have hlen:=r'.length
  obtain ⟨o,ho,hc,n,hd⟩:=pl
  exact call_list_seq p (.inr rfl) ho hc hd (fun h' c' kp e=>fin its r' hz h' c' kp e) (by simp only [List.size_toArray]<;>omega)
theorem nR:eM X (.type "tuple") (fun xs H Q=>∃ p ys,xs=[.ref p]∧((SqL X.K H p ys∧∀ l,H l=none→Q (.ref l) (upd H l (.tup ys)))∨(SqT X.K H p ys∧Q (.ref p) H))):=by
 intro pins s σ H xs us Q I r h
 obtain ⟨p,ys,rfl,h⟩:=h
 obtain ⟨u,rfl,rx⟩:=vals1 r
 cases rx
 rcases h with ⟨hq,q⟩ | ⟨hq,q⟩
 ·obtain ⟨its,r',pl,hz⟩:=I.list hq
  have hlen:=r'.length
  refine call_tuple_list pl.isList (fun h' kp=>?_) (by simp only [List.size_toArray]<;>omega)
  have I1:Inv X pins σ H { s with heap:=h' }:=I.kept (t':=s.toks) kp
  have I2:Inv X pins σ (upd H h'.objs.size (.tup ys)) { s with heap:=h'.push { cls:=.type "tuple", data:=.seq its.toArray } }:=
   I1.laid (t':=s.toks) (fun b o e=>Heap.get?_push_of_some _ e) (Nat.le_refl _) (show cM X.prog X.w _ _ _ (.tup ys) from ⟨hz,its,r',IsTup.new _ _⟩)
  exact ⟨.ref h'.objs.size,_,I2,rfl,q _ (I1.hok.fresh (Nat.le_refl _))⟩
 ·obtain ⟨its,r',pl,hz⟩:=I.tuple hq
  exact call_tuple_same pl ⟨.ref p,H,I,rfl,q⟩
def tyV (K:PySem.W.Frag) (T:String) (x:V) (H:Hp):Prop:=match x with
 | .str _=>T = "str"
 | .int _=>T = "int"
 | .ref p=>(T = "list" ∧ ∃ xs,SqL K H p xs)∨(T = "tuple" ∧ ∃ o,K.lookup p=some o∧o.cls=.type "tuple" ∧ o.dict=none) ∨
   (T = "dict" ∧ ((∃ kvs,H p=some (.dK kvs))∨∃ kvs,H p=some (.dT kvs)))∨(T = "set" ∧ ∃ S n,H p=some (.set S n))
 | _=>False
theorem b1E {pins:List (Addr×Obj)} {σ:St} {H:Hp} {s:Shared} {T:String} {x:V} {v:Value} (I:Inv X pins σ H s) (r:RelV x v) (ty:tyV X.K T x H) :
  s.TypeIs v T∧∀ a,v=.ref a→∃ ob,s.heap.get? a=some ob∧ob.dict=none:=by
 cases x with
 | str z=>
  obtain ⟨t,rfl⟩:=r
  cases (show T = "str" from ty)
  exact ⟨typeIs_str s z t,fun _ e=>nomatch e⟩
 | int i=>
  obtain ⟨t,rfl⟩:=r
  cases (show T = "int" from ty)
  exact ⟨typeIs_int s i t,fun _ e=>nomatch e⟩
 | ref p=>
  cases r
  rcases ty with ⟨rfl,xs,hq⟩ | ⟨rfl,o,hk,hc,hd⟩ | ⟨rfl,hk⟩ | ⟨rfl,S,n,hk⟩
  ·obtain ⟨its,_,pl,_⟩:=I.list hq
   refine ⟨pl.isList.typeIs,fun a e=>?_⟩
   cases e
   obtain ⟨o,n,e,c,hd,_⟩:=pl
   exact ⟨o,e,hd⟩
  ·refine ⟨⟨o,I.kIn p o hk,hc⟩,fun a e=>?_⟩
   cases e
   exact ⟨o,I.kIn _ o hk,hd⟩
  ·have z:∃ o,s.heap.get? p=some o∧o.ExactDict:=by
    rcases hk with ⟨kvs,hk⟩ | ⟨kvs,hk⟩
    ·obtain ⟨_,_,_,_,o,_,_,e,ex,_⟩:=I.hok p _ hk
     exact ⟨o,e,ex⟩
    ·obtain ⟨_,_,_,_,o,_,_,e,ex,_⟩:=I.hok p _ hk
     exact ⟨o,e,ex⟩
   obtain ⟨o,e,ex⟩:=z
   refine ⟨⟨o,e,ex.1⟩,fun a e2=>?_⟩
   cases e2
   exact ⟨o,e,ex.2.1⟩
  ·obtain ⟨o,_,_,_,e,ex,_⟩:=I.hok p _ hk
   refine ⟨⟨o,e,ex.1⟩,fun a e2=>?_⟩
   cases e2
   exact ⟨o,e,ex.2.1⟩
 | _=>exact False.elim ty
def tBM (K:PySem.W.Frag) (T:String) (r:V→List V→Hp→VK→Prop) (to:TE) (t:TA):TE:=fun σ H Q=>to σ H fun x H1=>tyV K T x H1∧t σ H1 fun xs H2=>r x xs H2 Q
variable {o e:Expr} {es:List Expr} {to:TE} {t:TA} {name:Str} {apos cpos:Pos} {T id:String} {r:V→List V→Hp→VK→Prop}
theorem a6O (pa:PlainAttrs T) (slot:Slot T name id) (hty:typeOf (.builtin id)=pure (.type "method_descriptor")) (hm:MtR X id r) (ho:PE X o to) (ha:PA X (e::es) t)
  (hbase:attributeBase o name X.env (eval o X.env)=eval o X.env:=by rfl)
  (hfew:((backTo cpos (starEach (e::es) X.env)).all (fun x=>!x.1)&&(backToKw cpos (keywordEach [] X.env)).all (fun x=>x.1.isSome)
   && decide ((e::es).length+([]:List Keyword).length+(if ([]:List Keyword).isEmpty then 0 else 1)<30))=true:=by rfl)
  (hline:(apos.endLine==cpos.line)=true:=by rfl) (hs:starEach (e::es) X.env=(false,eval e X.env)::starEach es X.env:=by rfl) (hplain:(backTo cpos (starEach es X.env)).any (·.1)=false:=by rfl) :
  PE X (.Call (.Attribute o name apos) (e::es) [] cpos) (tBM X.K T r to t):=by
 intro pins s σ H Q I h
 refine wpAny_Call_method_late hbase hfew hline rfl (thn (ho pins s σ H _ I h) fun v s1 ⟨x,H1,I1,r1,ty,q1⟩=>?_)
 obtain ⟨h1,h2⟩:=b1E I1 r1 ty
 refine ⟨T,id,pa,slot,hty,h1,h2,?_⟩
 have hA:=ha cpos pins s1 σ H1 _ I1 q1
 rw [hs] at hA ⊢
 refine Calls.callWith_builtin (by show (false || (backTo cpos (starEach es X.env)).any (·.1))=false;rw [hplain]<;>rfl) (Calls.evalArgs_plain ?_)
 exact thn hA fun us s2 ⟨vs,H2,I2,r2,q2⟩=>hm pins s2 σ H2 x vs v us Q I2 r1 r2 q2
end
def MtM (X:Cx) (id:String) (r:V→List V→Hp→VK→Prop):Prop:=
 ∀ (pins:List (Addr×Obj)) (s:Shared) (σ:St) (H:Hp) (x:V) (xs:List V) (v:Value) (us:List Value) (Q:VK),Inv X pins σ H s→RelV x v→aY xs us→r x xs H Q →
  wpAny (model X.prog X.w) X.A (call (.builtin id) (v::us)) (EP X pins σ Q) X.xe s
theorem aY.one:∀ {x:V} {us:List Value},aY [x] us→∃ u,us=[u]∧RelV x u
 | _,_,.cons r .nil=>⟨_,rfl,r⟩
theorem aY.rep {xs:List V} {us:List Value} (h:aY xs us):∀ k:Nat,aY (List.replicate k xs).flatten (List.replicate k us).flatten
 | 0=>.nil
 | k+1=>by
  rw [List.replicate_succ,List.replicate_succ,List.flatten_cons,List.flatten_cons]
  exact aY.append h (aY.rep h k)
theorem foldl_rep (its:List Value):∀ (k:Nat) (acc:List Value),
  List.foldl (fun x1 x2=>x1++x2) acc.toArray (List.replicate k its.toArray)=(acc++(List.replicate k its).flatten).toArray
 | 0,acc=>by simp
 | k+1,acc=>by
  have e:acc.toArray++its.toArray=(acc++its).toArray:=by simp
  have e2:(acc++its)++(List.replicate k its).flatten=acc++(List.replicate (k+1) its).flatten:=by
   rw [List.replicate_succ,List.flatten_cons,List.append_assoc]
  rw [←e2,←foldl_rep its k (acc++its),←e,List.replicate_succ,List.foldl_cons]
section
variable {X:Cx} {pins:List (Addr×Obj)} {σ:St} {H:Hp} {s:Shared} {l b:Addr} {xs ys zs:List V}
theorem Inv.lset {its its':List Value} {n:Nat} {f:Array Value→Array Value} {t':Nat} (I:Inv X pins σ H s) (hH:H l=some (.lst xs))
  (e:s.heap.get? l=some { cls:=.type "list", data:=.seq its.toArray n }) (hf:f its.toArray=its'.toArray) (hv:aY ys its') (hz:ys.length≤sizeLine) :
  Inv X pins σ (upd H l (.lst ys)) { s with heap:=s.heap.update l (Obj.mapSeq f),toks:=t' }:=by
 have q:=PySem.IsL.update e f
 rw [hf] at q
 refine I.write (x:=l) (e:=l) (by rw [hH];exact trivial) (.inl rfl) (fun b' u hb hu=>(Heap.get?_update_other s.heap (Obj.mapSeq f) (Ne.symm hb)).trans hu) ⟨_,q⟩ ?_
 exact ⟨hz,its',_,hv,q⟩
theorem Inv.lnew {its:List Value} {t':Nat} (I:Inv X pins σ H s) (hv:aY ys its) (hz:ys.length≤sizeLine) :
  Inv X pins σ (upd H s.heap.objs.size (.lst ys)) { s with heap:=s.heap.push { cls:=.type "list", data:=.seq its.toArray },toks:=t' }:=
 I.laid (fun _ _ q=>Heap.get?_push_of_some _ q) (Nat.le_refl _) ⟨hz,its,0,hv,Heap.get?_push_size _ rfl⟩
theorem Inv.fresh (I:Inv X pins σ H s):H s.heap.objs.size=none:=I.hok.fresh (Nat.le_refl _)
theorem Inv.lstM (I:Inv X pins σ H s) (hH:H l=some (.lst xs)):xs.length≤sizeLine∧∃ (its:List Value) (n:Nat),aY xs its∧xs.length=its.length∧s.heap.get? l=some { cls:=.type "list", data:=.seq its.toArray n }:=by
 obtain ⟨z,its,n,r,e⟩:=I.hok l _ hH
 exact ⟨z,its,n,r,r.length,e⟩
theorem a0Z {n:Nat} (h:n≤sizeLine):Builtin.List.listTooLong n=false:=by
 unfold Builtin.List.listTooLong
 exact decide_eq_false (by omega)
end
section
variable {X:Cx}
def a9j:V→List V→Hp→VK→Prop:=fun x vs H Q=>∃ l xs y,x=.ref l∧vs=[y]∧H l=some (.lst xs)∧xs.length<sizeLine∧Q .non (upd H l (.lst (xs++[y])))
theorem xB:MtM X "list.append" a9j:=by
 intro pins s σ H x vs v us Q I rx rv h
 obtain ⟨l,xs,y,rfl,rfl,hH,hz,q⟩:=h
 cases rx
 obtain ⟨u,rfl,ru⟩:=rv.one
 obtain ⟨z,its,n,r,hl,e⟩:=I.lstM hH
 refine call_meets F.slot_list_append ⟨_,e,rfl⟩ F.entry_list_append (F.args_list_append_2 _ _) (PySem.list_append l its.toArray n u (by rw [List.size_toArray];omega)) ⟨e,?_⟩
 refine ⟨.non,_,I.lset (its':=its++[u]) hH e (by simp) (r.append (.cons ru .nil)) ?_,rfl,q⟩
 rw [List.length_append,List.length_singleton]
 omega
def b5F:R2:=fun x y H Q=>∃ l k xs,x=.ref l∧y=.int k∧H l=some (.lst xs)∧-(2 ^ 63)≤k∧k<2 ^ 63∧xs.length*k.toNat≤sizeLine ∧
 ∀ p,H p=none→Q (.ref p) (upd H p (.lst (List.replicate k.toNat xs).flatten))
theorem len_rep {α:Type} (xs:List α) (k:Nat):(List.replicate k xs).flatten.length=k*xs.length:=by
 induction k with
 | zero=>simp
 | succ k ih=>rw [List.replicate_succ,List.flatten_cons,List.length_append,ih,Nat.succ_mul,Nat.add_comm]
theorem b2l:OpR X (binaryOp .Mult) b5F:=by
 intro pins s σ H x y v u Q I rx ry h
 obtain ⟨l,k,xs,rfl,rfl,hH,h1,h2,hz,q⟩:=h
 cases rx
 obtain ⟨t,rfl⟩:=ry
 obtain ⟨z,its,n,r,hl,e⟩:=I.lstM hH
 have hlen:its.toArray.size*k.toNat≤sizeLine:=by rw [List.size_toArray,←hl];exact hz
 have hcap:¬its.toArray.size*k.toNat > (2 ^ 63 - 1) / 8:=by
  have:(sizeLine:Nat)≤(2 ^ 63 - 1) / 8:=by decide
  omega
 have hfit:¬(!Builtin.List.listFitsIndex k)=true:=by
  rw [fitsIndex_both h1 h2]
  exact Bool.false_ne_true
 have hlong:¬Builtin.List.listTooLong (its.toArray.size*k.toNat)=true:=by
  rw [a0Z hlen]
  exact Bool.false_ne_true
 have hnew:List.foldl (fun x1 x2=>x1++x2) #[] (List.replicate (if its.toArray.isEmpty=true then 0 else k.toNat) its.toArray)=(List.replicate k.toNat its).flatten.toArray:=by
  have f0:∀ m:Nat,List.foldl (fun x1 x2=>x1++x2) #[] (List.replicate m its.toArray)=(List.replicate m its).flatten.toArray:=fun m=>by
   have:=foldl_rep its m []
   rw [List.nil_append] at this
   exact this
  rw [f0]
  cases its with
  | nil=>simp
  | cons a r'=>rw [if_neg (by simp)]
 refine wpAny_binaryOp_repeat_ref (T := "list") (U := "int") (by decide) ⟨_,e,rfl⟩ (fun s'=>typeIs_int s' k t) noFill_list_mul F.fills_int_mul F.slot_int_rmul repeat_list F.slot_int_index.lookup
  (call_meets F.slot_int_rmul (typeIs_int s k t) F.entry_int_rmul (F.args_int_rmul_2 _ _) (int___rmul___int_list k t l its.toArray n)
   ⟨e,rfl,⟨_,e,rfl⟩,call_meets F.slot_list_mul ⟨_,e,rfl⟩ F.entry_list_mul (F.args_list_mul_2 _ _) (AutoListH.list___mul___list_int_3 l its.toArray n k t hfit hcap hlong) ⟨e,?_⟩⟩)
 rw [hnew]
 exact ⟨.ref _,_,I.lnew (t':=s.toks) (r.rep k.toNat) (by rw [len_rep,Nat.mul_comm];exact hz),rfl,q _ I.fresh⟩
end
section
variable {prog:Program} {w:World} {A:Around} {E:Value→Shared→Prop} {s:Shared}
end
section
variable {X:Cx}
end
end L2
namespace Att
open PySem PySem.W PySem.Calls PyProof.Rows
theorem sG {P:Params} {h:Heap}:∀ (ns:List Int) (vs:List Value),WellAll P h vs (ns.map WData.int)→IntsAre vs ns:=by
 intro ns
 induction ns with
 | nil=>
  intro vs w
  rw [List.map_nil] at w
  cases w
  exact .nil
 | cons n ns ih=>
  intro vs w
  rw [List.map_cons] at w
  cases w with
  | cons a b=>
   cases a
   exact .cons _ _ (ih _ b)
theorem a4y {l:OpenLaw} {n:Nat} (hn:l.most=some n) {P:Params} {h:Heap} {args:List WData} {vals:List Value}
  (hpre:l.row.toRowW.claim.pre args=true) (hwl:WellAll P h vals args) :
  ∃ a vs ns,vals=[Value.ref a]∧args=[WData.list (ns.map WData.int)]∧h.get? a=some { cls:=.type "list", data:=.seq vs.toArray }∧IntsAre vs ns∧ns.length≤n:=by
 have hsh:WShape.hasAll [] args [.list .int]=true:=(pre_splitW hpre).1
 have hc:l.pre.holds [] { args:=args }=true:=(pre_splitW hpre).2
 obtain ⟨d,r,rfl,h1,h2⟩:=hasAllW_cons hsh
 obtain rfl:=hasAllW_nil h2
 obtain ⟨xs,rfl,h3⟩:=hasW_list h1
 obtain ⟨ns,rfl⟩:=items_int h3
 have hlen:ns.length≤n:=by
  unfold OpenLaw.pre at hc
  have h4:(WTm.not (.lt (.lit (.int (n:Int))) (.len (.arg 0)))).holds [] { args:=[.list (ns.map .int)] }=true:=by
   have h4:=(holds_andW hc).1
   rw [hn] at h4
   exact h4
  have h5:=condW_of h4 (w_not (w_lt w_lit (w_len_list (w_arg rfl))))
  rw [List.length_map] at h5
  refine Nat.le_of_not_lt fun q=>?_
  have q':(n:Int)<((ns.length:Nat):Int):=by omega
  first
   | (rw [decide_eq_true q'] at h5;exact absurd h5 (by decide))
   | (simp at h5;omega)
 cases hwl with
 | cons w1 w2=>
  cases w2
  cases w1 with
  | list ho hall=>exact ⟨_,_,ns,rfl,rfl,ho,sG ns _ hall,hlen⟩
theorem a4E (l:OpenLaw) (args:List WData):l.row.toRowW.claim.post args (.bool true) args=true:=
 postW_of (r:=l.row.toRowW) (X:=(true==true))
  (show WShape.has [] (.bool true) .bool=true by first | rfl | decide | simp [WShape.has,WShape.arms,WShape.armsAll])
  (show (WTm.eq .res (.lit (.bool true))).value [] { args:=args,res:=some (.bool true),after:=args }=some (.bool (true==true)) from w_eq_bool (w_res rfl) w_lit) rfl
theorem attach_call {l:OpenLaw} {n:Nat} {q:Program} {loose:List Str} {XP:(Str→Option Value)→Heap→Prop} {YP:World→Heap→Prop} {d:DefRec}
  (hn:l.most=some n) (hdf:d.params.defaults=[])
  (call:∀ (w:World) (s₀ s₁:Shared) (mg mb:Str→Option Value) (fa:Addr) (o:Obj) (pm cd doc:Value) (a:Addr) (vs:List Value) (ns:List Int),
   Ground q loose [] XP w s₀ mg mb s₁.heap→YP w s₁.heap →
   s₁.heap.get? fa=some o→o.data=.func (docDef d.name d.params d.body d.scope pm cd doc)→s₁.heap.CodeRec cd d.name→mg d.name=some (.ref fa) →
   s₁.heap.get? a=some { cls:=.type "list", data:=.seq vs.toArray }→IntsAre vs ns→ns.length≤n→s₁.gens=#[] →
   codeAny (model l.prog w) callerA (.call (.ref fa) ⟨[.ref a],[]⟩) (fun r s'=>r=.ok (.ret (.bool true))∧OldK s₁.heap s'.heap∧s'.os=s₁.os∧AllBare s'.gens) s₁) :
  WalkO q loose XP YP l.row.toRowW d [] (fun f vs=>PySem.call f vs):=by
 intro w s₀ s₁ mg mb G Y fa o pm cd doc dV kV ho hd hcd hD hmg hg args vals as hpre hlay hrd hwl hlo
 obtain rfl:dV=.none:=Dflts.none hD hdf
 obtain rfl:kV=.none:=Dflts.noKw hD
 obtain ⟨a,vs,ns,rfl,rfl,hobj,hints,hlen⟩:=a4y hn hpre hwl
 refine enter_call (codeAny_mono (call w s₀ s₁ mg mb fa o pm cd doc a vs ns G Y ho (fd_plain hd) hcd hmg hobj hints hlen hg) fun r s' hq=>?_)
 obtain ⟨rfl,h2,h3,h4⟩:=hq
 exact ⟨.inl ⟨.bool true,.bool true,[],rfl,fun _=>rfl,.bool true,a4E l _,fun _=>⟨List.Pairwise.nil,fun _ hm=>(nomatch hm)⟩⟩,h2,h3,h4⟩
section
variable {prog:Program} {w:World} {A:Around} {E:Value→Shared→Prop} {s:Shared} {K:Frag}
end
end Att
namespace L2
open PySem PySem.Spec PyProof.Rows
theorem kA:∀ {vs:List Value} {ns:List Int},IntsAre vs ns→aY (ns.map V.int) vs
 | _,_,.nil=>.nil
 | _,_,.cons n t h=>.cons ⟨t,rfl⟩ (kA h)
def b6k (H:Hp):Prop:=∀ b,H b=none∨∃ o xs,H b=some (.frz o (.lst xs))
def fR (s:Stmt):Arguments:=match s with
 | .FunctionDef _ a _ _ _ _ _ _ _ _=>a
 | _=>{ posonlyargs:=[],args:=[],vararg:=none,kwonlyargs:=[],kw_defaults:=[],kwarg:=none,defaults:=[] }
def cN (s:Stmt):List Stmt:=match s with
 | .FunctionDef _ _ b _ _ _ _ _ _ _=>b
 | _=>[]
def aG (s:Stmt):Scope:=match s with
 | .FunctionDef _ _ _ _ _ _ sc _ _ _=>sc
 | _=>{ kind:=.function,names:=[],isGenerator:=false,isCoroutine:=false }
abbrev CX0:CXT:=fun _ _ _ _ _ _=>False
abbrev E0:XK:=fun _ _ _=>False
theorem a6R {X:Cx}:a0x CX0 X E0:=fun _ _ _ _ _ _ _ h=>h.elim
structure Fun (K:PySem.W.Frag) (x qual:Str) (st:Stmt) (f:Addr) (fd:FuncData):Prop where
 ex:∃ (oc:Value) (od:Option Addr) (kV doc pm:Value) (an:Option Addr) (cdv ct:Value) (osl:Array (Option Value)),
  fd=PySem.W.fnOf x qual (fR st) (cN st) (aG st) .none kV doc pm an cdv ct∧K.lookup f=some ⟨oc,od,.func fd,osl⟩∧PySem.W.codeIn K cdv qual=true
 kp:PySem.W.keepIn K (.ref f)=true
section
variable {P:Program} {w:World} {K:PySem.W.Frag} {mg:Str→Option Value} {base:Heap}
theorem Fun.ok {x qual:Str} {st:Stmt} {f:Addr} {fd:FuncData} {N ps:List Str} {k:Nat} {sp:Sp} (F:Fun K x qual st f fd) (S:FnScope N ps (aG st)) (len:∀ vs H Q E,sp vs H Q E→vs.length=ps.length)
  (hbody:∀ (cdv:Value) (A:Around) (outer:List Env) (s:Shared) (H:Hp) (vs:List V) (Q:VK) (E:XK),Room k (A.deeper (envOfC qual (aG st) s.heap.objs.size f cdv))→sp vs H Q E →
   ∃ t,PSs (a1B CX0 P w K mg base N qual (aG st) f cdv A outer s H E).nox (cN st) t∧t { nx:=fun _ H'=>Q .non H',rt:=Q } (start N vs) H):FnOk P w K mg base CX0 (k+1) f fd ps sp:=by
 obtain ⟨oc,od,kV,doc,pm,an,cdv,ct,osl,rfl,lk,hcd⟩:=F.ex
 refine a7S lk hcd S len fun A outer s H vs Q E hr hsp=>?_
 obtain ⟨t,h,q⟩:=hbody cdv A outer s H vs Q E hr hsp
 exact ⟨t,h.nox,q⟩
theorem Fun.binds {x qual:Str} {st:Stmt} {f:Addr} {fd:FuncData} {ps:List Str} (F:Fun K x qual st f fd)
  (h:∀ (kV doc pm:Value) (an:Option Addr) (cdv ct:Value) (us:List Value),us.length=ps.length→bindArgs (PySem.W.fnOf x qual (fR st) (cN st) (aG st) .none kV doc pm an cdv ct) ⟨us,[]⟩=pure (ps.zip us)):Binds K fd ps []:=by
 obtain ⟨oc,od,kV,doc,pm,an,cdv,ct,osl,rfl,lk,hcd⟩:=F.ex
 exact .all (h kV doc pm an cdv ct)
theorem a7Q {x qual:Str} {st:Stmt} {f:Addr} {oc:Value} {od an:Option Addr} {osl:Array (Option Value)} {kV doc pm cdv ct:Value} (l:K.lookup f=some ⟨oc,od,.func (PySem.W.fnOf x qual (fR st) (cN st) (aG st) .none kV doc pm an cdv ct),osl⟩)
  (c:PySem.W.codeIn K cdv qual=true) (k:PySem.W.keepIn K (.ref f)=true):Fun K x qual st f (PySem.W.fnOf x qual (fR st) (cN st) (aG st) .none kV doc pm an cdv ct):=⟨⟨oc,od,kV,doc,pm,an,cdv,ct,osl,rfl,l,c⟩,k⟩
end
theorem fX {n:Nat} (h:n≤1000):n<sizeLine:=Nat.lt_of_le_of_lt h (by decide)
section
variable {X:Cx}
theorem pv (i:Nat) {x:Str} {pos:Pos} (hN:X.N[i]?=some x:=by rfl) (hv:Vis X.env.scope x:=by first | exact Or.inl rfl | exact Or.inr (Or.inl rfl) | exact Or.inr (Or.inr rfl)) (hd:(x==("__debug__" : Str))=false:=by decide)
  (hcd:(x==("__classdict__" : Str))=false:=by decide):PE X (.Name x pos) (b3V i):=jP hN hv hd hcd
end
theorem b5Q {A B:Prop} (h:B):if false=true then A else B:=by
 rw [if_neg Bool.false_ne_true]
 exact h
theorem b5P {A B:Prop} (h:A):if true=true then A else B:=by
 rw [if_pos rfl]
 exact h
def bR (H H':Hp):Prop:=∀ b o,H b=some o→H' b=some o
theorem bR.refl (H:Hp):bR H H:=fun _ _ h=>h
theorem bR.trans {H H1 H2:Hp} (a:bR H H1) (b:bR H1 H2):bR H H2:=fun c o h=>b c o (a c o h)
theorem bR.free {H H':Hp} (e:bR H H') {l:Addr} (h:H' l=Option.none):H l=Option.none:=by
 cases q:H l with
 | none=>rfl
 | some o=>
  rw [e l o q] at h
  cases h
theorem bR.seq {K:PySem.W.Frag} {H H':Hp} {a:Addr} {xs:List V} (e:bR H H') (h:SqL K H a xs):SqL K H' a xs:=by
 rcases h with (h | ⟨o,h⟩) | h
 ·exact .inl (.inl (e _ _ h))
 ·exact .inl (.inr ⟨o,e _ _ h⟩)
 ·exact .inr h
theorem a2M {α β:Type} {l:List α} {f:α→β→Sem (ForInStep β)} {g:α→β→β}:∀ (c:β),(∀ x∈l,∀ c,f x c=pure (.yield (g x c)))→(forIn l c f:Sem β)=pure (l.foldl (fun c x=>g x c) c):=by
 induction l with
 | nil=>intro c _;rfl
 | cons x r ih=>
  intro c h
  rw [List.forIn_cons,h x List.mem_cons_self]
  exact ih _ fun y hy=>h y (List.mem_cons_of_mem _ hy)
def jW (env:Env) (p:Str×NameKind) (cs:List (Str×Addr)):List (Str×Addr):=
 if p.2=.free then (match env.cells.lookup p.1 with | some a=>(p.1,a)::cs | none=>cs) else cs
def a0g (scope:Scope) (env:Env):List (Str×Addr):=scope.names.foldl (fun cs p=>jW env p cs) []
theorem pL {scope:Scope} {env:Env} (h:∀ p∈scope.names,p.2=.free→∃ c,env.cells.lookup p.1=some c):closureFor scope env=pure (a0g scope env):=by
 simp only [closureFor]
 rw [a2M (g:=jW env) [] (fun x hx c=>by
  obtain ⟨n,kind⟩:=x
  by_cases hk:kind=.free
  ·subst hk
   obtain ⟨a,e⟩:=h _ hx rfl
   have e':env.cells.lookup n=some a:=e
   simp [jW,e',cellOf]
   try rfl
  ·have hb:(kind==NameKind.free)=false:=by simpa using hk
   simp [jW,hb,hk])]
 rfl
theorem b1p {env:Env}:∀ (names:List (Str×NameKind)) (cs:List (Str×Addr)),(∀ x c,(x,c)∈cs→env.cells.lookup x=some c) →
  ∀ x c,(x,c)∈names.foldl (fun cs p=>jW env p cs) cs→env.cells.lookup x=some c
 | [],cs,h=>h
 | p::r,cs,h=>by
  refine b1p r _ ?_
  intro x c hx
  unfold jW at hx
  dsimp only at hx
  split at hx
  ·split at hx
   ·rename_i a e
    rcases List.mem_cons.mp hx with z | z
    ·cases z;exact e
    ·exact h x c z
   ·exact h x c hx
  ·exact h x c hx
theorem a4b {env:Env} {q:Str×Addr}:∀ (names:List (Str×NameKind)) (cs:List (Str×Addr)),q∈cs→q∈names.foldl (fun cs p=>jW env p cs) cs
 | [],_,h=>h
 | p::r,cs,h=>by
  refine a4b r _ ?_
  unfold jW
  dsimp only
  split
  ·split
   ·exact List.mem_cons_of_mem _ h
   ·exact h
  ·exact h
theorem a8z {env:Env} {x:Str} {c:Addr} (e:env.cells.lookup x=some c):∀ (names:List (Str×NameKind)) (cs:List (Str×Addr)),(x,NameKind.free)∈names→(x,c)∈names.foldl (fun cs p=>jW env p cs) cs
 | [],_,h=>by simp at h
 | p::r,cs,h=>by
  rcases List.mem_cons.mp h with z | z
  ·subst z
   refine a4b r _ ?_
   unfold jW
   dsimp only
   rw [if_pos rfl,e]
   exact List.mem_cons_self
  ·exact a8z e r _ z
theorem iU {α:Type} {x:Str} {c:α}:∀ {l:List (Str×α)},(x,c)∈l→∃ c',l.lookup x=some c'
 | [],h=>by simp at h
 | (y,d)::r,h=>by
  by_cases e:x=y
  ·subst e;exact ⟨d,by simp [List.lookup_cons]⟩
  ·have hb:(x==y)=false:=by simpa using e
   rcases List.mem_cons.mp h with z | z
   ·cases z;exact absurd rfl e
   ·obtain ⟨c',q⟩:=iU z
    exact ⟨c',by simp [List.lookup_cons,hb,q]⟩
theorem a4c {scope:Scope} {env:Env} {x:Str} {c:Addr} (h:(a0g scope env).lookup x=some c):env.cells.lookup x=some c:=
 b1p scope.names [] (fun _ _ z=>by simp at z) x c (PySem.mem_of_lookup h)
theorem a1F {scope:Scope} {env:Env} {x:Str} {c:Addr} (hx:(x,NameKind.free)∈scope.names) (e:env.cells.lookup x=some c):(a0g scope env).lookup x=some c:=by
 obtain ⟨c',q⟩:=iU (a8z e scope.names [] hx)
 have:=a4c (scope:=scope) q
 rw [e] at this
 cases this
 exact q
theorem iB {env:Env} (hf:env.scope.kind=.function):∀ {names:List (Str×NameKind)} {x:Str},names.lookup x=some .free→env.kindOf x=some .cell →
  (names.map fun (n,k)=>if (k==NameKind.free&&env.scope.kind==.function&&env.kindOf n==some .cell) then (n,NameKind.cell) else (n,k)).lookup x=some .cell
 | [],_,h,_=>by simp at h
 | (n,k)::r,x,h,hk=>by
  have ih:=@iB env hf r x
  show List.lookup x ((if (k==NameKind.free&&env.scope.kind==.function&&env.kindOf n==some .cell)=true then (n,NameKind.cell) else (n,k))::_)=_
  cases hx:x==n with
  | true=>
   simp only [List.lookup_cons,hx] at h
   have e:x=n:=by simpa using hx
   subst e
   cases h
   have hc:(NameKind.free==NameKind.free&&env.scope.kind==.function&&env.kindOf x==some NameKind.cell)=true:=by rw [hf,hk];rfl
   rw [if_pos hc]
   simp [List.lookup_cons]
  | false=>
   simp only [List.lookup_cons,hx] at h
   by_cases hc:(k==NameKind.free&&env.scope.kind==.function&&env.kindOf n==some .cell)=true
   ·rw [if_pos hc];simp only [List.lookup_cons,hx];exact ih h hk
   ·rw [if_neg hc];simp only [List.lookup_cons,hx];exact ih h hk
theorem iN:∀ (names:List (Str×NameKind)) (n:Nat) (acc cl:List (Str×Addr)),cellsFrom n names (acc++cl)=cellsFrom n names acc++cl
 | [],_,_,_=>rfl
 | (x,k)::r,n,acc,cl=>by
  unfold cellsFrom
  split
  ·exact iN r (n+1) ((x,n)::acc) cl
  ·exact iN r n acc cl
theorem fD (names:List (Str×NameKind)) (n:Nat) (cl:List (Str×Addr)) {x:Str} {c:Addr} (h:(cellsFrom n names cl).lookup x=some c) :
  (cellsFrom n names []).lookup x=some c∨((cellsFrom n names []).lookup x=none∧cl.lookup x=some c):=by
 have e:=iN names n [] cl
 rw [List.nil_append] at e
 rw [e,List.lookup_append] at h
 cases q:(cellsFrom n names []).lookup x with
 | some d=>rw [q] at h;exact .inl h
 | none=>rw [q] at h;exact .inr ⟨rfl,h⟩
theorem a1G (names:List (Str×NameKind)) (n:Nat) (cl:List (Str×Addr)) {x:Str} {c:Addr} (h:cl.lookup x=some c):∃ d,(cellsFrom n names cl).lookup x=some d:=by
 have e:=iN names n [] cl
 rw [List.nil_append] at e
 rw [e,List.lookup_append]
 cases q:(cellsFrom n names []).lookup x with
 | some d=>exact ⟨d,rfl⟩
 | none=>exact ⟨c,h⟩
theorem a1H (names:List (Str×NameKind)) (n:Nat) (cl:List (Str×Addr)) {x:Str} {c:Addr} (h0:(cellsFrom n names []).lookup x=none) (h:cl.lookup x=some c):(cellsFrom n names cl).lookup x=some c:=by
 have e:=iN names n [] cl
 rw [List.nil_append] at e
 rw [e,List.lookup_append,h0]
 exact h
theorem a1I (names:List (Str×NameKind)) (n:Nat) (cl:List (Str×Addr)) {x:Str} {c:Addr} (h:(cellsFrom n names []).lookup x=some c):(cellsFrom n names cl).lookup x=some c:=by
 have e:=iN names n [] cl
 rw [List.nil_append] at e
 rw [e,List.lookup_append,h]
 rfl
theorem qX:∀ (names:List (Str×NameKind)) (n:Nat) (acc:List (Str×Addr)) {x:Str} {c:Addr},(x,c)∈cellsFrom n names acc→(x,c)∈acc∨(x,NameKind.cell)∈names
 | [],_,_,_,_,h=>.inl h
 | (y,k)::r,n,acc,x,c,h=>by
  unfold cellsFrom at h
  split at h
  ·rename_i hk
   have hk':k=.cell:=by simpa using hk
   rcases qX r (n+1) ((y,n)::acc) h with z | z
   ·rcases List.mem_cons.mp z with z | z
    ·cases z;subst hk';exact .inr List.mem_cons_self
    ·exact .inl z
   ·exact .inr (List.mem_cons_of_mem _ z)
  ·rcases qX r n acc h with z | z
   ·exact .inl z
   ·exact .inr (List.mem_cons_of_mem _ z)
theorem b0M {M:Model} {A:Around} {E:Value→Shared→Prop} {s:Shared} {scope:Scope} {globals:Addr} {cl:List (Str×Addr)} {qual:Str} {env:Env} {Q:Env→Shared→Prop}
  (hQ:Q (newEnv scope s.heap.objs.size globals (cellsFrom (s.heap.objs.size+1) scope.names cl) qual none .none (some env) builtinsNs) { s with heap:=pushCells (s.heap.push { cls:=.type "dict", data:=.dict #[] }) scope.names }) :
  wpAny M A (newFunctionEnv scope globals cl [] qual none .none (some env)) Q E s:=by
 simp only [newFunctionEnv,Option.isSome_some,if_true]
 refine wpAny_bind (wpAny_alloc ?_)
 refine wpAny_bind (wpAny_layCells _ (fun name kind cells=>by cases hkc:kind==NameKind.cell<;>simp [hkc]) _ _ _ _ ?_)
 rw [show ({ s with heap:=s.heap.push { cls:=.type "dict", data:=.dict #[] } }:Shared).heap.objs.size=s.heap.objs.size+1 from Heap.size_push ..]
 refine wpAny_bind (wpAny_pure ?_)
 exact wpAny_pure hQ
structure Blk (X:Cx) (scope:Scope) (N':List Str) (cap:List (Option Nat)):Prop where
 kind:scope.kind=.function
 cells:∀ y∈scope.names,y.2=.cell→scope.names.lookup y.1=some .cell
 names:∀ y∈scope.names,y.2=.local→scope.names.lookup y.1=some .local
 free:∀ y∈scope.names,y.2=.free→X.env.kindOf y.1=some .cell
 caps:∀ (i j:Nat),cap[i]?=some (some j)→∃ x,N'[i]?=some x∧X.N[j]?=some x∧scope.names.lookup x=some .free
 len:cap.length=N'.length
 nd:N'.Nodup
def kF (cap:List (Option Nat)) (σ:St):St:=cap.map fun o=>match o with
 | some j=>(σ[j]?).getD none
 | none=>none
def dA (X:Cx) (scope:Scope) (N':List Str) (C:Addr) (s₃:Shared) (H₃:Hp) (fp:List Addr):Cx:=
 { X with env:=compEnvC scope (cellsFrom (C+1) scope.names (a0g scope X.env)) C X.env,N:=N',s₀:=s₃,H₀:=H₃,outer:=X.stack,ex:=fp,fn:=fun x=>decide (scope.names.lookup x=some .cell),pn:=[],xe:=fun _ _=>False }
theorem b0L {X:Cx} {scope:Scope} {N':List Str} {cap:List (Option Nat)} {pins:List (Addr×Obj)} {σ:St} {H:Hp} {s:Shared} {fp:List Addr} {h':Heap} {tk:Nat} {m':Str→Option Value}
  (B:Blk X scope N' cap) (I:Inv X pins σ H s) (hf:∀ b∈fp,sI X pins H b) (hlt:∀ b∈fp,b<s.heap.objs.size)
  (hn:h'.Ns s.heap.objs.size m') (hk:∀ b o,s.heap.get? b=some o→h'.get? b=some o) (ow:CellsOk h' (s.heap.objs.size+1) (cellsFrom (s.heap.objs.size+1) scope.names [])) :
  Inv (dA X scope N' s.heap.objs.size s H fp) [] (kF cap σ) H { s with heap:=h',toks:=tk }:=by
 have cl:∀ x c,(a0g scope X.env).lookup x=some c→X.env.cells.lookup x=some c:=fun x c h=>a4c h
 have hsz:∀ x c,X.env.cells.lookup x=some c→c<s.heap.objs.size:=fun x c e=>by
  obtain ⟨v,q⟩:=I.cell x c e
  exact q.lt
 have own:∀ x c,(cellsFrom (s.heap.objs.size+1) scope.names []).lookup x=some c→h'.IsCell c none∧s.heap.objs.size<c:=fun x c e=>by
  obtain ⟨q1,q2⟩:=ow.empty x c (PySem.mem_of_lookup e)
  exact ⟨q1,Nat.lt_of_lt_of_le (Nat.lt_succ_self _) q2⟩
 refine ⟨⟨I.ok.mod,B.kind,I.ok.glob,I.ok.blt,Nat.le_refl _,?_,?_,?_,I.ok.hd,I.ok.frames,.inl rfl,?_,I.bs,Nat.le_trans I.ok.bsz I.sz,?_,?_,I.stack,I.stkFree⟩,
  rfl,I.bare,Un.kept hk,⟨m',hn,?_⟩,?_,I.hok.fresh (Nat.le_refl _),?_,?_,I.hok.kept hk,?_⟩
 ·intro x y c h1 h2
  rcases fD _ _ _ h1 with a1 | ⟨_,a1⟩<;>rcases fD _ _ _ h2 with a2 | ⟨_,a2⟩
  ·exact name_of_addr ow.apart (PySem.mem_of_lookup a1) (PySem.mem_of_lookup a2)
  ·exact absurd (hsz y c (cl y c a2)) (Nat.not_lt_of_lt (own x c a1).2)
  ·exact absurd (hsz x c (cl x c a1)) (Nat.not_lt_of_lt (own y c a2).2)
  ·exact I.ok.inj x y c (cl x c a1) (cl y c a2)
 ·intro x hx
  have hx:(relabel scope X.env).names.lookup x=some .cell∨(relabel scope X.env).names.lookup x=some .free:=hx
  have key:∃ k,(relabel scope X.env).names.lookup x=some k∧(k=.cell∨k=.free):=by
   rcases hx with h | h
   ·exact ⟨_,h,.inl rfl⟩
   ·exact ⟨_,h,.inr rfl⟩
  obtain ⟨k,hk1,hk2⟩:=key
  obtain ⟨⟨n,k0⟩,hm,he⟩:=List.mem_map.mp (PySem.mem_of_lookup hk1)
  have fr:(k0=.free∨k0=.cell)∧n=x:=by
   dsimp only at he
   by_cases hc:(k0==NameKind.free&&X.env.scope.kind==.function&&X.env.kindOf n==some .cell)=true
   ·rw [if_pos hc] at he
    cases he
    simp only [Bool.and_eq_true] at hc
    exact ⟨.inl (by simpa using hc.1.1),rfl⟩
   ·rw [if_neg hc] at he
    cases he
    rcases hk2 with z | z
    ·exact ⟨.inr z,rfl⟩
    ·exact ⟨.inl z,rfl⟩
  obtain ⟨hk0,rfl⟩:=fr
  rcases hk0 with rfl | rfl
  ·obtain ⟨c,e⟩:=I.ok.has n (.inl (B.free _ hm rfl))
   exact a1G _ _ _ (a1F hm e)
  ·obtain ⟨c,e⟩:=pM (sc:=scope) (n:=s.heap.objs.size+1) (B.cells _ hm rfl)
   exact ⟨c,a1I _ _ _ e⟩
 ·intro x c hx e
  have hx:scope.names.lookup x=some .cell:=of_decide_eq_true hx
  rcases fD _ _ _ e with e | ⟨n0,_⟩
  ·exact Nat.le_of_lt (own x c e).2
  ·obtain ⟨d,q⟩:=pM (sc:=scope) (n:=s.heap.objs.size+1) hx
   rw [q] at n0;cases n0
 ·intro b hb
  refine ⟨Nat.ne_of_lt (hlt b hb),fun x c e=>?_⟩
  rcases fD _ _ _ e with e | ⟨_,e⟩
  ·exact fun z=>absurd (hlt b hb) (Nat.not_lt_of_lt (by rw [←z];exact (own x c e).2))
  ·exact (hf b hb).2.2.2.2.1 x c (cl x c e)
 ·intro b o e hb
  rcases (hf b hb).2.2.2.1 with z | z
  ·exact I.ok.noex b o e z
  ·exact absurd (Nat.lt_of_lt_of_le (Heap.lt_size e) (Nat.le_trans I.ok.bsz z)) (Nat.lt_irrefl _)
 ·intro b hb hfs
  rcases List.mem_cons.mp (I.stkSub b hfs) with z | z
  ·exact (hf b hb).2.1 z
  ·exact (hf b hb).2.2.1 z
 ·intro i x v e1 e2 _
  have e1:N'[i]?=some x:=e1
  have e2:(kF cap σ)[i]?=some (some v):=e2
  unfold kF at e2
  rw [List.getElem?_map] at e2
  cases hc:cap[i]? with
  | none=>rw [hc] at e2;cases e2
  | some o=>
   rw [hc] at e2
   cases o with
   | none=>cases e2
   | some j=>
    have e3:(σ[j]?).getD none=some v:=Option.some.inj e2
    have e4:σ[j]?=some (some v):=by
     cases q:σ[j]? with
     | none=>rw [q] at e3;cases e3
     | some w'=>rw [q] at e3;have:w'=some v:=e3;rw [this]
    obtain ⟨y,h1,h2,h3⟩:=B.caps i j hc
    rw [e1] at h1
    cases h1
    have hcell:X.env.kindOf x=some .cell:=B.free _ (PySem.mem_of_lookup h3) rfl
    obtain ⟨m,_,hl⟩:=I.loc
    obtain ⟨u,r,l⟩:=hl j x v h2 e4 (.inr (.inl hcell))
    refine ⟨u,r,?_⟩
    rcases l with ⟨k,_⟩ | ⟨_,c,e,z⟩
    ·rw [hcell] at k;cases k
    ·refine .inr ⟨.inl ?_,c,a1H _ _ _ ?_ (a1F (PySem.mem_of_lookup h3) e),?_⟩
     ·exact iB I.ok.kind h3 hcell
     ·cases q:(cellsFrom (s.heap.objs.size+1) scope.names []).lookup x with
      | none=>rfl
      | some d=>
       rcases qX _ _ _ (PySem.mem_of_lookup q) with z | z
       ·cases z
       ·rw [B.cells _ z rfl] at h3;cases h3
     ·obtain ⟨o,q1,q2⟩:=z
      exact ⟨o,hk c o q1,q2⟩
 ·intro x c e
  rcases fD _ _ _ e with e | ⟨_,e⟩
  ·exact ⟨none,(own x c e).1⟩
  ·obtain ⟨v,o,q1,q2⟩:=I.cell x c (cl x c e)
   exact ⟨v,o,hk c o q1,q2⟩
 ·intro x c e
  rcases fD _ _ _ e with e | ⟨_,e⟩
  ·exact I.hok.fresh (Nat.le_of_lt (own x c e).2)
  ·exact I.freeC x c (cl x c e)
 ·intro p hp
  exact absurd (show p∈([]:List (Addr×Obj)) from hp) (by simp)
 ·show (kF cap σ).length=N'.length
  unfold kF
  rw [List.length_map]
  exact B.len
def PTs (X:Cx) (ifs:List Expr) (t:TT):Prop:=
 ∀ (pins:List (Addr×Obj)) (s:Shared) (σ:St) (H:Hp) (Q:Bool→Hp→Prop),Inv X pins σ H s→t σ H Q →
  wpAny (model X.prog X.w) X.A (forIn ifs true fun c r=>if r=true then do let ok ←isTrue c X.env (eval c X.env);pure (ForInStep.yield ok) else pure (ForInStep.yield r)) (TP X pins σ Q) X.xe s
def b5w:TT:=fun _ H Q=>Q true H
theorem a9l {X:Cx}:PTs X [] b5w:=fun _ _ _ H _ I h=>wpAny_tests_nil ⟨H,I,h⟩
theorem a9k {X:Cx} {c:Expr} {t:TT} (h:PT X c t):PTs X [c] t:=fun pins s σ H Q I hw=>wpAny_tests_one (h pins s σ H Q I hw)
def a4f (J:It) (g:TG) (tc:TT) (te:TE) (σ₀:St) (H:Hp) (Q:VK):Prop:=
 ∃ W:Addr→Nat→Nat→List V→St→Hp→Prop,∀ D,H D=none→(∃ m,W D 0 m [] σ₀ (upd H D (.lst [])))∧∀ i m ys σ1 H1,W D i m ys σ1 H1→H1 D=some (.lst ys) →
  (J.stop i H1∧Q (.ref D) H1)∨(J.go i H1∧∀ x H2,J.yld i H1 x H2→g x σ1 H2 fun σ3 H3=>tc σ3 H3 fun b H4=>
   if b=true then te σ3 H4 fun v H5=>H5 D=some (.lst ys)∧ys.length<sizeLine∧∃ m',m'<m∧W D (i+1) m' (ys++[v]) σ3 (upd H5 D (.lst (ys++[v])))
   else H4 D=some (.lst ys)∧∃ m',m'<m∧W D (i+1) m' ys σ3 H4)
theorem a1D {X:Cx} {elt iter tg:Expr} {ifs:List Expr} {scope:Scope} {pos:Pos} {N':List Str} {cap:List (Option Nat)} {pins:List (Addr×Obj)} {σ:St} {H:Hp} {s:Shared} {J:It} {it:Addr} {fp:List Addr} {tn:Nat→Heap→Prop}
  {g:TG} {tc:TT} {te:TE} {Q:VK} {RR:Value→Addr→Result→Shared→Prop} (hc:X.calm=true) (B:Blk X scope N' cap) (I:Inv X pins σ H s) (T:Turn X.prog X.w X.K tg J fp it tn) (st:tn 0 s.heap) (hf:∀ b∈fp,sI X pins H b)
  (hg:∀ C s₃ H₃ fp,PG (dA X scope N' C s₃ H₃ fp) tg g) (ht:∀ C s₃ H₃ fp,PTs (dA X scope N' C s₃ H₃ fp) ifs tc) (he:∀ C s₃ H₃ fp,PE (dA X scope N' C s₃ H₃ fp) elt te)
  (w:a4f J g tc te (kF cap σ) H Q)
  (fin:∀ D C s' H' m',s.heap.get? C=none→s.heap.objs.size≤C→s'.heap.Ns C m'→H' C=none→Inv X pins σ H' s'→Q (.ref D) H'→RR (.ref D) C (.ok .next) s') :
  wpAny (model X.prog X.w) X.A (newList []) (fun acc s₃=>wpAny (model X.prog X.w) X.A (newFunctionEnv scope X.env.globals (a0g scope X.env) [] X.env.qual none .none (some X.env)) (fun cenv s₄=>
   codeAny (model X.prog X.w) X.A (.compStart (.ListComp elt [⟨tg,iter,ifs,0⟩] scope pos) 0 (.ref it) acc { cenv with scope:=relabel scope X.env }) (RR acc cenv.locals) s₄) X.xe s₃) X.xe s:=by
 refine wpAny_newObj_type (b0M ?_)
 dsimp only
 obtain ⟨W,hW⟩:=w
 have hD:H s.heap.objs.size=none:=I.hok.fresh (Nat.le_refl _)
 obtain ⟨⟨m0,w0⟩,turn⟩:=hW s.heap.objs.size hD
 have I3:Inv X pins σ (upd H s.heap.objs.size (.lst [])) { s with heap:=s.heap.push { cls:=.type "list", data:=.seq ([]:List Value).toArray } }:=I.lnew (its:=[]) (ys:=[]) (t':=s.toks) .nil (Nat.zero_le _)
 generalize hH2:s.heap.push { cls:=.type "list", dict:=none,data:=.seq ([]:List Value).toArray }=H2 at I3 ⊢
 have hC:H2.objs.size=s.heap.objs.size+1:=by rw [←hH2,Heap.size_push]
 have lt3:∀ b∈fp,b<s.heap.objs.size:=fun b hb=>by
  obtain ⟨o,e,_⟩:=T.obj 0 _ st b hb
  exact Heap.lt_size e
 have hf3:∀ b∈fp,sI X pins (upd H s.heap.objs.size (.lst [])) b:=fun b hb=>by
  refine ⟨?_,(hf b hb).2⟩
  rw [aL (Nat.ne_of_lt (lt3 b hb))]
  exact (hf b hb).1
 have ow:CellsOk (pushCells (H2.push { cls:=.type "dict", data:=.dict #[] }) scope.names) (H2.objs.size+1) (cellsFrom (H2.objs.size+1) scope.names []):=by
  have ok:=cellsFrom_ok scope.names (H2.push { cls:=.type "dict", data:=.dict #[] }) (H2.objs.size+1) [] ⟨fun _ _ hm=>(nomatch hm),List.Pairwise.nil⟩ (by rw [Heap.size_push];exact Nat.le_refl _)
  rw [Heap.size_push] at ok
  exact ok
 have hns₁:(pushCells (H2.push { cls:=.type "dict", data:=.dict #[] }) scope.names).Ns H2.objs.size fun _=>none:=(Heap.Ns.new H2 (.type "dict")).keeps (pushCells_keeps _ _)
 have keep:∀ b o,H2.get? b=some o→(pushCells (H2.push { cls:=.type "dict", data:=.dict #[] }) scope.names).get? b=some o:=fun b o e=>pushCells_keeps _ _ b o (Heap.get?_push_of_some _ e)
 generalize pushCells (H2.push { cls:=.type "dict", data:=.dict #[] }) scope.names=h₁ at ow hns₁ keep ⊢
 have I4:Inv (dA X scope N' H2.objs.size { s with heap:=H2 } (upd H s.heap.objs.size (.lst [])) fp) [] (kF cap σ) (upd H s.heap.objs.size (.lst [])) { s with heap:=h₁ }:=
  b0L (s:={ s with heap:=H2 }) B I3 hf3 (fun b hb=>by show b<H2.objs.size;rw [hC];exact Nat.lt_succ_of_lt (lt3 b hb)) hns₁ keep ow
 have st4:tn 0 h₁:=T.keep 0 _ _ st fun b hb o e=>keep b o (by rw [←hH2];exact Heap.get?_push_of_some _ e)
 have loop:∀ s₅:Shared,s₅={ s with heap:=h₁ } →
   codeAny (model X.prog X.w) X.A (.compLoop (.ListComp elt [⟨tg,iter,ifs,0⟩] scope pos) 0 (.ref it) (.ref s.heap.objs.size) (compEnvC scope (cellsFrom (H2.objs.size+1) scope.names (a0g scope X.env)) H2.objs.size X.env))
    (RR (.ref s.heap.objs.size) H2.objs.size) s₅:=by
  rintro s₅ rfl
  refine codeAny_loop rfl (fun n s'=>∃ i ys σ' H',Inv (dA X scope N' H2.objs.size { s with heap:=H2 } (upd H s.heap.objs.size (.lst [])) fp) [] σ' H' s'∧tn i s'.heap∧(∀ b∈fp,H' b=none)∧H' s.heap.objs.size=some (.lst ys)∧W s.heap.objs.size i n ys σ' H') ?_ m0
   ⟨0,[],_,_,I4,st4,fun b hb=>(hf3 b hb).1,aN,w0⟩
  rintro n s6 ⟨i,ys,σ6,H6,I6,st6,fr6,hD6,w6⟩
  show wpAny _ X.A ((compTurn (.ListComp elt [⟨tg,iter,ifs,0⟩] scope pos) 0 (.ref it) (.ref s.heap.objs.size) (compEnvC scope (cellsFrom (H2.objs.size+1) scope.names (a0g scope X.env)) H2.objs.size X.env)).onRaise (fun x=>do noteFrame x (compEnvC scope (cellsFrom (H2.objs.size+1) scope.names (a0g scope X.env)) H2.objs.size X.env);theTreesLotGoes x)) _ _ s6
  refine wpAny_noted ?_
  rw [compTurn_list]
  have stat:∀ {H':Hp},(∀ b∈fp,H' b=none)→∀ b∈fp,sI (dA X scope N' H2.objs.size { s with heap:=H2 } (upd H s.heap.objs.size (.lst [])) fp) [] H' b:=fun hn b hb=>
   ⟨hn b hb,Nat.ne_of_lt (by show b<H2.objs.size;rw [hC];exact Nat.lt_succ_of_lt (lt3 b hb)),I4.ok.exfs b hb,.inl hb,fun x c e=>(I4.ok.exf b hb).2 x c e,fun p hp=>absurd (show p∈([]:List (Addr×Obj)) from hp) (by simp)⟩
  rcases turn i n ys σ6 H6 w6 hD6 with ⟨stop,qn⟩ | ⟨go,step⟩
  ·refine wpAny_bind (wpAny_standAt (wpAny_bind (thn (T.done (dA X scope N' H2.objs.size { s with heap:=H2 } (upd H s.heap.objs.size (.lst [])) fp) rfl rfl rfl hc i [] s6 _ H6 _ I6 (stat fr6) st6 stop) fun r s7 ⟨hr,I7⟩=>?_)))
   subst hr
   refine wpAny_pure ?_
   obtain ⟨m7,hn7,_⟩:=I7.loc
   refine fin _ _ s7 H6 m7 ?_ ?_ hn7 I7.free ?_ qn
   ·exact Heap.get?_none_of_le (by rw [hC];exact Nat.le_succ _)
   ·rw [hC];exact Nat.le_succ _
   ·refine I3.call' (ch:=fp) ?_ ?_ I7.hok I7.bare fun b hb=>?_
    ·exact I7.os
    ·exact I7.base
    ·obtain ⟨f0,f1,f2,f3,f4,f5⟩:=hf3 b hb
     exact ⟨f3,f1,f4,f5⟩
  ·refine wpAny_bind (wpAny_standAt (wpAny_bind (thn (T.item (dA X scope N' H2.objs.size { s with heap:=H2 } (upd H s.heap.objs.size (.lst [])) fp) rfl rfl rfl hc i [] s6 _ H6 _ I6 (stat fr6) st6 go) fun r s7 ⟨u,hr,h7⟩=>?_)))
   subst hr
   refine wpAny_bind (thn h7 fun _ s8 ⟨x,H8,I8,r8,y8,st8,fr8⟩=>?_)
   have I8':=I8.pinned (stat fr8) (T.obj _ _ st8)
   have bad:∀ {α:Type} {t:Sem α} {Q':α→Shared→Prop} {s':Shared} {E:Value→Shared→Prop},wpAny (model X.prog X.w) X.A t Q' (fun _ _=>False) s'→wpAny (model X.prog X.w) X.A t Q' E s':=fun h=>wpAny_mono h (fun _ _ q=>q) fun _ _ z=>z.elim
   refine wpAny_bind (bad (thn (hg _ _ _ _ _ s8 _ H8 x u _ I8' r8 (step x H8 y8)) fun _ s9 ⟨σ9,H9,I9,q9⟩=>?_))
   refine bad ?_
   refine wpAny_bind (thn (ht _ _ _ _ _ s9 σ9 H9 _ I9 q9) fun ok s10 ⟨H10,I10,q10⟩=>?_)
   have again:∀ {σ':St} {H':Hp} {ys':List V} {s':Shared} {m':Nat},Inv (dA X scope N' H2.objs.size { s with heap:=H2 } (upd H s.heap.objs.size (.lst [])) fp) ([]++tX fp s8.heap) σ' H' s'→H' s.heap.objs.size=some (.lst ys') →
     m'<n→W s.heap.objs.size (i+1) m' ys' σ' H' →
     ∃ m,m<n∧∃ i ys σ' H',Inv (dA X scope N' H2.objs.size { s with heap:=H2 } (upd H s.heap.objs.size (.lst [])) fp) [] σ' H' s'∧tn i s'.heap∧(∀ b∈fp,H' b=none)∧H' s.heap.objs.size=some (.lst ys)∧W s.heap.objs.size i m ys σ' H':=fun {σ' H' ys' s' m'} J' hD' hm' w'=>by
    refine ⟨m',hm',i+1,ys',σ',H',J'.unpinned,T.keep _ _ _ st8 fun b hb o e=>(J'.pin (b,o) (List.mem_append_right _ (List.mem_append_right _ (kZ hb e)))).1,fun b hb=>?_,hD',w'⟩
    obtain ⟨o,e,d⟩:=T.obj _ _ st8 b hb
    exact (J'.pin (b,o) (List.mem_append_right _ (List.mem_append_right _ (kZ hb e)))).2.1
   cases ok with
   | false=>
    obtain ⟨hD10,m',hm',w'⟩:=q10
    exact wpAny_pure ⟨rfl,again I10 hD10 hm' w'⟩
   | true=>
    refine wpAny_bind (wpAny_bind (thn (he _ _ _ _ _ s10 σ9 H10 _ I10 q10) fun y s11 ⟨v,H11,I11,r11,hD11,hlen,m',hm',w'⟩=>?_))
    refine wpAny_bind (thn (xB (X:=dA X scope N' H2.objs.size { s with heap:=H2 } (upd H s.heap.objs.size (.lst [])) fp) _ s11 σ9 H11 (.ref s.heap.objs.size) [v] (.ref s.heap.objs.size) [y] (fun _ H'=>H'=upd H11 s.heap.objs.size (.lst (ys++[v]))) I11 rfl (.cons r11 .nil) ⟨_,_,_,rfl,rfl,hD11,hlen,rfl⟩) fun _ s12 ⟨_,H12,I12,_,e12⟩=>?_)
    subst e12
    exact wpAny_pure (wpAny_pure ⟨rfl,again I12 aN hm' w'⟩)
 exact codeAny_compStart_list (loop _ rfl) (T.self _ 0 _ _ _ st4 (loop _ rfl))
def b0S (wi:TI) (cap:List (Option Nat)) (g:TG) (tc:TT) (te:TE):TE:=fun σ H Q=>wi σ H fun J H1=>a4f J g tc te (kF cap σ) H1 Q
section
variable {X:Cx} {elt iter tg:Expr} {ifs:List Expr} {scope:Scope} {pos spos:Pos} {N':List Str} {cap:List (Option Nat)} {wi:TI} {g:TG} {tc:TT} {te:TE}
theorem a3w (hc:X.calm=true) (B:Blk X scope N' cap) (hi:PI X tg iter wi)
  (hg:∀ C s₃ H₃ fp,PG (dA X scope N' C s₃ H₃ fp) tg g) (ht:∀ C s₃ H₃ fp,PTs (dA X scope N' C s₃ H₃ fp) ifs tc) (he:∀ C s₃ H₃ fp,PE (dA X scope N' C s₃ H₃ fp) elt te)
  (hs:∀ x,foldedSetIterable iter X.env x=pure x:=by intro _;rfl):PE X (.ListComp elt [⟨tg,iter,ifs,0⟩] scope pos) (b0S wi cap g tc te):=by
 intro pins s σ H Q I h
 rw [eval_ListComp]
 refine wpAny_comprehension_free (use:=none) rfl hs (pL fun p hp hk=>I.ok.has p.1 (.inl (B.free p hp hk))) B.kind B.names ?_
 refine thn (hi pins s σ H _ I h) fun v s1 h1=>thn h1 fun itv s2 ⟨it,fp,tn,J,H2,e,I2,T,st2,f2,w⟩=>?_
 subst e
 refine a1D (RR:=fun acc C=>compPost (model X.prog X.w) X.A X.xe none (EP X pins σ Q) acc C) hc B I2 T st2 f2 hg ht he w ?_
 intro D C s' H' m' hC hCs hn hCf I' q
 refine ⟨m',hn,fun h'' hs''=>⟨.ref D,H',?_,rfl,q⟩⟩
 refine I'.turned (t':=s'.toks) (it:=C) (fun b o hb e=>hs''.extBut b o hb e) hCf ?_ (.inr (Nat.le_trans I2.sz hCs)) ?_ ?_
 ·exact Nat.ne_of_gt (Nat.lt_of_lt_of_le I2.lt hCs)
 ·intro x c e z
  obtain ⟨v,q⟩:=I2.cell x c e
  exact absurd (Nat.lt_of_lt_of_le q.lt (by rw [z];exact hCs)) (Nat.lt_irrefl _)
 ·intro p hp z
  exact absurd (Nat.lt_of_lt_of_le (Heap.lt_size (I2.pin p hp).1) (by rw [z];exact hCs)) (Nat.lt_irrefl _)
theorem a3s {i:Nat} {x:Str} {pos':Pos} (hN:X.N.Nodup) (hxi:X.N[i]?=some x) (hx:X.env.scope.names.lookup x=some .local) (hc:X.calm=true) (B:Blk X scope N' cap) (hi:PI X tg iter wi)
  (hg:∀ C s₃ H₃ fp,PG (dA X scope N' C s₃ H₃ fp) tg g) (ht:∀ C s₃ H₃ fp,PTs (dA X scope N' C s₃ H₃ fp) ifs tc) (he:∀ C s₃ H₃ fp,PE (dA X scope N' C s₃ H₃ fp) elt te)
  (hsw:swapsWith (.ListComp elt [⟨tg,iter,ifs,0⟩] scope pos) (some (.Name x pos')) spos.line X.env=pure true)
  (hs:∀ x,foldedSetIterable iter X.env x=pure x:=by intro _;rfl) :
  PS X (.Assign [.Name x pos'] (.ListComp elt [⟨tg,iter,ifs,0⟩] scope pos) spos) (b1L (b0S wi cap g tc te) (a7P i)):=by
 intro pins s σ H Dn I h
 rw [exec_Assign_Name_used _ _ _ _ hsw]
 refine wpAny_bind (wpAny_standAt (wpAny_bind ?_))
 show wpAny _ X.A (do let _ ←comprehension (.ListComp elt [⟨tg,iter,ifs,0⟩] scope pos) scope X.env _ (newList []) false (eval iter X.env) (some (assign (.Name x pos') X.env))) _ _ s
 refine wpAny_bind (wpAny_mono (wpAny_comprehension_free (use:=some (assign (.Name x pos') X.env)) (Q:=fun _ s'=>SP X pins Dn .next s') rfl hs (pL fun p hp hk=>I.ok.has p.1 (.inl (B.free p hp hk))) B.kind B.names ?_) (fun _ s' hq=>wpAny_pure (wpAny_pure hq)) fun _ _ e=>e)
 refine thn (hi pins s σ H _ I h) fun v s1 h1=>thn h1 fun itv s2 ⟨it,fp,tn,J,H2,e,I2,T,st2,f2,w⟩=>?_
 subst e
 refine a1D (RR:=fun acc C=>compPost (model X.prog X.w) X.A X.xe (some (assign (.Name x pos') X.env)) (fun _ s'=>SP X pins Dn .next s') acc C) hc B I2 T st2 f2 hg ht he w ?_
 intro D C s' H' m' hC hCs hn hCf I' q
 have nL:C≠X.env.locals:=Nat.ne_of_gt (Nat.lt_of_lt_of_le I2.lt hCs)
 have nC:∀ y c,X.env.cells.lookup y=some c→c≠C:=fun y c e z=>by
  obtain ⟨v,q⟩:=I2.cell y c e
  exact absurd (Nat.lt_of_lt_of_le q.lt (by rw [z];exact hCs)) (Nat.lt_irrefl _)
 show wpAny _ X.A (assign (.Name x pos') X.env (.ref D)) _ _ _
 refine wpAny_assign_Name (wJ (v:=.ref D) I' hN hxi (.inl hx) rfl (fun s3 I3 ⟨a,hsb,ha⟩=>?_) (.inr hx))
 have ne:C≠a:=by
  rcases ha with z | z
  ·rw [z];exact nL
  ·exact fun y=>nC x a z y.symm
 refine ⟨m',hn.sameBut hsb ne,fun h'' hs''=>⟨_,H',?_,q⟩⟩
 refine I3.turned (t':=s3.toks) (it:=C) (fun b o hb e=>hs''.extBut b o hb e) hCf nL (.inr (Nat.le_trans I2.sz hCs)) nC ?_
 intro p hp z
 exact absurd (Nat.lt_of_lt_of_le (Heap.lt_size (I2.pin p hp).1) (by rw [z];exact hCs)) (Nat.lt_irrefl _)
end
end L2
namespace L2.L3
open PySem PySem.Spec PyProof.Rows PySem.W
def iK (K:Frag) (c:Str):Option Addr:=match nsIn K mainGlobals c with
 | some (some (.ref C))=>some C
 | _=>none
theorem zZ {K:Frag} {c:Str} {C:Addr} (h:iK K c=some C):nsIn K mainGlobals c=some (some (.ref C)):=by
 unfold iK at h
 split at h
 ·rename_i e;cases h;exact e
 ·cases h
structure ExO (h:Heap) (a C:Addr) (ox:Obj):Prop where
 at_:h.get? a=some ox
 cls:ox.cls=.ref C
theorem ExO.type {h:Heap} {a C:Addr} {ox:Obj} {M:Model} (I:ExO h a C ox):Looks M h (typeOf (.ref a)) (.ref C):=I.cls▸(Looks.ld I.at_).andThen .now
end L2.L3
namespace L2.L3
open PySem PySem.Spec PyProof.Rows
def kD:Key→PyData
 | .inl i=>.int i
 | .inr x=>.str x
mutual
inductive Rep (K:PySem.W.Frag) (G:Hp):V→PyData→Prop
 | none:Rep K G .non .none
 | bool (b:Bool):Rep K G (.bl b) (.bool b)
 | int (i:Int):Rep K G (.int i) (.int i)
 | str (x:Str):Rep K G (.str x) (.str x)
 | list {a:Addr} {xs:List V} {ds:List PyData}:SqL K G a xs→RepAll K G xs ds→Rep K G (.ref a) (.list ds)
 | tuple {a:Addr} {xs:List V} {ds:List PyData}:SqT K G a xs→RepAll K G xs ds→Rep K G (.ref a) (.tuple ds)
 | dict {a:Addr} {kvs:List (Key×V)} {D:List (PyData×PyData)}:G a=some (.dK kvs)→D.map (·.1)=kvs.map (fun p=>kD p.1)→RepAll K G (kvs.map (·.2)) (D.map (·.2))→Rep K G (.ref a) (.dict D)
inductive RepAll (K:PySem.W.Frag) (G:Hp):List V→List PyData→Prop
 | nil:RepAll K G [] []
 | cons {v:V} {vs:List V} {d:PyData} {ds:List PyData}:Rep K G v d→RepAll K G vs ds→RepAll K G (v::vs) (d::ds)
end
theorem iO {K:PySem.W.Frag} {H H':Hp} {a:Addr} {xs:List V} (e:bR H H') (h:SqT K H a xs):SqT K H' a xs:=by
 rcases h with (h | ⟨o,h⟩) | h
 ·exact .inl (.inl (e _ _ h))
 ·exact .inl (.inr ⟨o,e _ _ h⟩)
 ·exact .inr h
section
variable {K:PySem.W.Frag} {G G':Hp}
mutual
theorem Rep.mono (s:bR G G'):∀ {v:V} {d:PyData},Rep K G v d→Rep K G' v d
 | _,_,.none=>.none
 | _,_,.bool b=>.bool b
 | _,_,.int i=>.int i
 | _,_,.str x=>.str x
 | _,_,.list h r=>.list (s.seq h) (RepAll.mono s r)
 | _,_,.tuple h r=>.tuple (iO s h) (RepAll.mono s r)
 | _,_,.dict h e r=>.dict (s _ _ h) e (RepAll.mono s r)
theorem RepAll.mono (s:bR G G'):∀ {vs:List V} {ds:List PyData},RepAll K G vs ds→RepAll K G' vs ds
 | _,_,.nil=>.nil
 | _,_,.cons r t=>.cons (Rep.mono s r) (RepAll.mono s t)
end
theorem RepAll.length:∀ {vs:List V} {ds:List PyData},RepAll K G vs ds→vs.length=ds.length
 | _,_,.nil=>rfl
 | _,_,.cons _ t=>by simp [RepAll.length t]
theorem RepAll.get:∀ {vs:List V} {ds:List PyData} {i:Nat} {d:PyData},RepAll K G vs ds→ds[i]?=some d→∃ v,vs[i]?=some v∧Rep K G v d
 | _,_,_,_,.nil,e=>by simp at e
 | _,_,0,_,.cons r _,e=>by simp at e;subst e;exact ⟨_,rfl,r⟩
 | _,_,i+1,d,.cons _ t,e=>by
  obtain ⟨u,h1,h2⟩:=RepAll.get (i:=i) (d:=d) t (by simpa using e)
  exact ⟨u,by simpa using h1,h2⟩
theorem RepAll.append:∀ {vs ws:List V} {ds es:List PyData},RepAll K G vs ds→RepAll K G ws es→RepAll K G (vs++ws) (ds++es)
 | _,_,_,_,.nil,h=>h
 | _,_,_,_,.cons r t,h=>.cons r (RepAll.append t h)
theorem RepAll.take:∀ {vs:List V} {ds:List PyData} (n:Nat),RepAll K G vs ds→RepAll K G (vs.take n) (ds.take n)
 | _,_,0,_=>.nil
 | _,_,_+1,.nil=>.nil
 | _,_,n+1,.cons r t=>.cons r (RepAll.take n t)
theorem RepAll.drop:∀ {vs:List V} {ds:List PyData} (n:Nat),RepAll K G vs ds→RepAll K G (vs.drop n) (ds.drop n)
 | _,_,0,r=>r
 | _,_,_+1,.nil=>.nil
 | _,_,n+1,.cons _ t=>RepAll.drop n t
theorem RepAll.ints:∀ {vs:List V} {ns:List Int},RepAll K G vs (ns.map .int)→vs=ns.map V.int
 | [],[],_=>rfl
 | _,[],.nil=>rfl
 | _,n::r,.cons (.int _) t=>by rw [RepAll.ints (ns:=r) t];rfl
theorem RepAll.strs:∀ {vs:List V} {ns:List Str},RepAll K G vs (ns.map .str)→vs=ns.map V.str
 | [],[],_=>rfl
 | _,[],.nil=>rfl
 | _,n::r,.cons (.str _) t=>by rw [RepAll.strs (ns:=r) t];rfl
theorem RepAll.bools:∀ {vs:List V} {ns:List Bool},RepAll K G vs (ns.map .bool)→vs=ns.map V.bl
 | [],[],_=>rfl
 | _,[],.nil=>rfl
 | _,n::r,.cons (.bool _) t=>by rw [RepAll.bools (ns:=r) t];rfl
end
section
variable {P:Program} {w:World}
theorem pA:∀ {kvs:List (Key×V)} {vs:List (Key×Value)},KV kvs vs→kvs.map (·.1)=vs.map (·.1)∧aY (kvs.map (·.2)) (vs.map (·.2))
 | _,_,.nil=>⟨rfl,.nil⟩
 | _,_,.cons h t=>by
  obtain ⟨a,b⟩:=pA t
  exact ⟨by rw [List.map_cons,List.map_cons,a,h.1],.cons h.2 b⟩
theorem rD {h:Heap}:∀ {es:List DictEntry} {vs:List (Key×Value)},Pairs (dB P w) es vs→(∃ as,ReadsAll h (es.map (·.key)) (vs.map fun p=>kD p.1) as)∧es.map (·.val)=vs.map (·.2)
 | _,_,.nil=>⟨⟨_,.nil⟩,rfl⟩
 | e::es,kv::vs,.cons hk hv t=>by
  obtain ⟨⟨as,a⟩,b⟩:=rD (h:=h) t
  refine ⟨?_,by rw [List.map_cons,List.map_cons,b,hv]⟩
  rcases cO (show uJ kv.1 e.key=true from hk) with ⟨i,t,e1,e2⟩ | ⟨x,t,e1,e2⟩
  ·refine ⟨_,.cons (as:=[]) (by dsimp only;rw [e1,e2];exact .int i t) a⟩
  ·refine ⟨_,.cons (as:=[]) (by dsimp only;rw [e1,e2];exact .str x t) a⟩
end
section
variable {X:Cx} {pins:List (Addr×Obj)} {σ:St} {H:Hp} {s:Shared}
mutual
theorem Rep.reads (I:Inv X pins σ H s):∀ {v:V} {d:PyData} {u:Value},Rep X.K H v d→RelV v u→∃ as,Reads s.heap u d as
 | _,_,_,.none,r=>by cases r;exact ⟨_,.none⟩
 | _,_,_,.bool b,r=>by cases r;exact ⟨_,.bool b⟩
 | _,_,_,.int i,r=>by obtain ⟨t,rfl⟩:=r;exact ⟨_,.int i t⟩
 | _,_,_,.str x,r=>by obtain ⟨t,rfl⟩:=r;exact ⟨_,.str x t⟩
 | _,_,_,.list h q,r=>by
  cases r
  obtain ⟨its,rv,⟨o,n,e,hc,_,hd⟩,_⟩:=I.list h
  obtain ⟨as,z⟩:=RepAll.reads I q rv
  exact ⟨_,.list e hc hd (by simpa using z)⟩
 | _,_,_,.tuple h q,r=>by
  cases r
  obtain ⟨its,rv,⟨o,e,hc,n,hd⟩,_⟩:=I.tuple h
  obtain ⟨as,z⟩:=RepAll.reads I q rv
  exact ⟨_,.tuple e hc hd (by simpa using z)⟩
 | _,_,_,.dict h e0 q,r=>by
  cases r
  obtain ⟨hz,hS,vs,kv,o,es,ep,e,hex,hd,_,hp,_⟩:=I.hok _ _ h
  obtain ⟨a1,a2⟩:=pA kv
  obtain ⟨⟨as,b1⟩,b2⟩:=rD (h:=s.heap) hp
  obtain ⟨bs,z⟩:=RepAll.reads I q a2
  refine ⟨_,.dict e hex.1 hd (as:=as) (bs:=bs) ?_ (by rw [b2];exact z)⟩
  rw [e0,show (fun p:Key×V=>kD p.1)=kD∘(·.1) from rfl,←List.map_map,a1,List.map_map];exact b1
theorem RepAll.reads (I:Inv X pins σ H s):∀ {vs:List V} {ds:List PyData} {us:List Value},RepAll X.K H vs ds→aY vs us→∃ as,ReadsAll s.heap us ds as
 | _,_,_,.nil,.nil=>⟨_,.nil⟩
 | _,_,_,.cons r t,.cons q w=>by
  obtain ⟨as,a⟩:=Rep.reads I r q
  obtain ⟨bs,b⟩:=RepAll.reads I t w
  exact ⟨_,.cons a b⟩
end
end
def gK:List Str:=["in_ending_order", "in_laying_order"]
def lamQ (x:Str):Str:=x ++ ".<locals>." ++ "<lambda>"
def cdO (c:Addr) (q:Str):HO:=.ext fun h=>h.CodeRec (.ref c) q
def Tab (P:Addr) (q:Str) (H:Hp):Prop:=
 ∃ ps,H P=some (.tbl (q,ps))∧TriplesOk ps.toList∧∀ pos cv,codeAmong pos ps.toList=some cv→∃ c,cv=.ref c∧H c=some (cdO c q)
def NoT (G:Hp):Prop:=∀ b ps,G b≠some (.tbl ps)
def nF (K:PySem.W.Frag) (G H:Hp):Prop:=(∀ x∈gK,∀ c P,PySem.W.tabIn K x=some (c,P)→Tab P (lamQ x) H)∧NoT G
theorem NoT.upd {G:Hp} {a:Addr} {o:HO} (n:NoT G) (h:∀ ps,o≠.tbl ps):NoT (L2.upd G a o):=fun b ps e=>by
 by_cases hb:b=a
 ·subst hb;rw [aN] at e;cases e;exact h _ rfl
 ·rw [aL hb] at e;exact n b ps e
theorem Tab.same {P:Addr} {q:Str} {H H':Hp} (t:Tab P q H) (s:bR H H'):Tab P q H':=by
 obtain ⟨ps,h1,h2,h3⟩:=t
 refine ⟨ps,s _ _ h1,h2,fun pos cv e=>?_⟩
 obtain ⟨c,e1,e2⟩:=h3 pos cv e
 exact ⟨c,e1,s _ _ e2⟩
theorem Tab.wr {P a:Addr} {q:Str} {H:Hp} {xs:List V} {o:HO} (t:Tab P q H) (h:H a=some (.lst xs)):Tab P q (upd H a o):=by
 obtain ⟨ps,h1,h2,h3⟩:=t
 refine ⟨ps,by rw [aL (kC h1 h (by nofun))];exact h1,h2,fun pos cv e=>?_⟩
 obtain ⟨c,e1,e2⟩:=h3 pos cv e
 exact ⟨c,e1,by rw [aL (kC e2 h (by unfold cdO;nofun))];exact e2⟩
structure Sm (H H':Hp):Prop where
 keep:∀ b o,H b=some o→(∀ ps,o≠.tbl ps)→H' b=some o
 tbl:∀ b ps,H b=some (.tbl ps)→∃ ps',H' b=some (.tbl ps')
 tab:∀ P q,Tab P q H→Tab P q H'
theorem Sm.of {H H':Hp} (s:bR H H'):Sm H H':=⟨fun b o h _=>s b o h,fun b ps h=>⟨ps,s _ _ h⟩,fun P q t=>t.same s⟩
theorem Sm.refl (H:Hp):Sm H H:=.of (.refl _)
theorem Sm.trans {H H1 H2:Hp} (a:Sm H H1) (b:Sm H1 H2):Sm H H2:=⟨fun c o h n=>b.keep c o (a.keep c o h n) n,fun c ps h=>by
 obtain ⟨p1,h1⟩:=a.tbl c ps h
 exact b.tbl c p1 h1,fun P q t=>b.tab P q (a.tab P q t)⟩
theorem Sm.ne {H H':Hp} (s:Sm H H') {b:Addr} {o:HO} (h:H b=some o):∃ o',H' b=some o':=by
 cases o with
 | tbl ps=>obtain ⟨p,e⟩:=s.tbl b ps h;exact ⟨_,e⟩
 | _=>exact ⟨_,s.keep b _ h (by nofun)⟩
theorem Sm.free {H H':Hp} (s:Sm H H') {l:Addr} (h:H' l=none):H l=none:=by
 cases q:H l with
 | none=>rfl
 | some o=>
  obtain ⟨o',e⟩:=s.ne q
  rw [h] at e;cases e
theorem Sm.lst {H H':Hp} (s:Sm H H') {l:Addr} {xs:List V} (h:H l=some (.lst xs)):H' l=some (.lst xs):=s.keep l _ h (by nofun)
theorem Sm.wr {H H':Hp} (s:Sm H H') {l:Addr} {xs:List V} {o:HO} (h0:H l=none) (h:H' l=some (.lst xs)):Sm H (upd H' l o):=
 ⟨fun b u e n=>by rw [aL (bI e h0)];exact s.keep b u e n,fun b ps e=>by rw [aL (bI e h0)];exact s.tbl b ps e,fun P q t=>(s.tab P q t).wr h⟩
theorem nF.wr {K:PySem.W.Frag} {G H:Hp} {a:Addr} {xs:List V} {o:HO} (t:nF K G H) (h:H a=some (.lst xs)):nF K G (upd H a o):=⟨fun x hx c P e=>(t.1 x hx c P e).wr h,t.2⟩
structure Grow (G H G' H':Hp):Prop where
 gg:bR G G'
 hh:Sm H H'
 sub:bR G' H'
 new:∀ a,G a=none→H a≠none→G' a=none
 nt:NoT G→NoT G'
theorem nF.more {K:PySem.W.Frag} {G H G' H':Hp} (t:nF K G H) (g:Grow G H G' H'):nF K G' H':=⟨fun x hx c P e=>g.hh.tab _ _ (t.1 x hx c P e),g.nt t.2⟩
theorem Grow.refl {G H:Hp} (s:bR G H):Grow G H G H:=⟨.refl _,.refl _,s,fun _ e _=>e,id⟩
theorem Grow.trans {G H G1 H1 G2 H2:Hp} (a:Grow G H G1 H1) (b:Grow G1 H1 G2 H2):Grow G H G2 H2:=
 ⟨a.gg.trans b.gg,a.hh.trans b.hh,b.sub,fun c e n=>b.new c (a.new c e n) (fun z=>by
  cases q:H c with
  | none=>exact n q
  | some o=>obtain ⟨o',e'⟩:=a.hh.ne q;rw [e'] at z;cases z),fun n=>b.nt (a.nt n)⟩
theorem bC {H:Hp} {p:Addr} {o:HO} (h:H p=none):bR H (upd H p o):=fun b u e=>by rw [aL (bI e h)];exact e
theorem a4C {G H:Hp} {p:Addr} {o:HO} (s:bR G H):bR (upd G p o) (upd H p o):=fun b u e=>by
 by_cases hb:b=p
 ·subst hb;rw [aN] at e ⊢;exact e
 ·rw [aL hb] at e ⊢;exact s b u e
theorem Grow.put {G H:Hp} {p:Addr} {o:HO} (s:bR G H) (h:H p=none) (ho:∀ ps,o≠.tbl ps:=by nofun):Grow G H (upd G p o) (upd H p o):=
 ⟨bC (s.free h),.of (bC h),a4C s,fun a e n=>by rw [aL (fun z=>n (by rw [z];exact h))];exact e,fun n=>n.upd ho⟩
theorem Grow.side {G H:Hp} {p:Addr} {o:HO} (s:bR G H) (h:H p=none):Grow G H G (upd H p o):=
 ⟨.refl _,.of (bC h),s.trans (bC h),fun a e _=>e,id⟩
inductive Ent where
 | no
 | val (d:PyData)
 | lst (ds:List PyData)
 | exc (c:Str)
 | nst (dss:List (List PyData))
 | dct (kvs:List (Key×PyData))
def xcO (a C:Addr):HO:=.ext fun h=>∃ ox,ExO h a C ox
def b6l (K:PySem.W.Frag) (H0 G H:Hp) (b:Addr) (ds:List PyData):Prop:=∃ xs,H b=some (.lst xs)∧G b=none∧H0 b=none∧RepAll K G xs ds
def a1W (K:PySem.W.Frag) (G:Hp) (vs:List (Key×V)) (kvs:List (Key×PyData)):Prop:=vs.map (·.1)=kvs.map (·.1)∧RepAll K G (vs.map (·.2)) (kvs.map (·.2))
theorem a1W.mono {K:PySem.W.Frag} {G G':Hp} {vs:List (Key×V)} {kvs:List (Key×PyData)} (h:a1W K G vs kvs) (s:bR G G'):a1W K G' vs kvs:=⟨h.1,h.2.mono s⟩
def a1U (K:PySem.W.Frag) (H0 G H:Hp) (o:Option V):Ent→Prop
 | .no=>True
 | .val d=>∃ v,o=some v∧Rep K G v d
 | .lst ds=>∃ a xs,o=some (.ref a)∧H a=some (.lst xs)∧G a=none∧H0 a=none∧RepAll K G xs ds
 | .exc c=>∃ a C,o=some (.ref a)∧iK K c=some C∧H a=some (xcO a C)
 | .nst dss=>∃ a bs,o=some (.ref a)∧H a=some (.lst (bs.map V.ref))∧G a=none∧H0 a=none∧a∉bs∧bs.Nodup∧Paired (b6l K H0 G H) bs dss
 | .dct kvs=>∃ a vs,o=some (.ref a)∧H a=some (.dK vs)∧G a=none∧H0 a=none∧a1W K G vs kvs
def a3L:Ent→Bool
 | .lst _=>true
 | .nst _=>true
 | .dct _=>true
 | _=>false
structure Inj (H:Hp) (σ:St) (ρ:List Ent):Prop where
 two:∀ (i j:Nat) (a:Addr) (ds es:List PyData),i≠j→σ[i]?=some (some (.ref a))→ρ[i]?=some (.lst ds)→σ[j]?=some (some (.ref a))→ρ[j]?=some (.lst es)→False
 mix:∀ (i j:Nat) (a a':Addr) (ds:List PyData) (dss:List (List PyData)),σ[i]?=some (some (.ref a))→ρ[i]?=some (.lst ds)→σ[j]?=some (some (.ref a'))→ρ[j]?=some (.nst dss)→a≠a'∧∀ vs,H a'=some (.lst vs)→V.ref a∉vs
 one:∀ (i j:Nat) (dss ess:List (List PyData)),ρ[i]?=some (.nst dss)→ρ[j]?=some (.nst ess)→i=j
 oneD:∀ (i j:Nat) (ks ls:List (Key×PyData)),ρ[i]?=some (.dct ks)→ρ[j]?=some (.dct ls)→i=j
theorem Inj.sub {H:Hp} {σ σ':St} {ρ ρ':List Ent} (I:Inj H σ ρ) (h:∀ (i:Nat) (e:Ent),ρ'[i]?=some e→a3L e=true→ρ[i]?=some e∧σ'[i]?=σ[i]?):Inj H σ' ρ':=by
 refine ⟨fun i j a ds es n h1 h2 h3 h4=>?_,fun i j a a' ds dss h1 h2 h3 h4=>?_,fun i j dss ess h1 h2=>?_,fun i j ks ls h1 h2=>I.oneD i j ks ls (h i _ h1 rfl).1 (h j _ h2 rfl).1⟩
 ·obtain ⟨x1,x2⟩:=h i _ h2 rfl
  obtain ⟨y1,y2⟩:=h j _ h4 rfl
  rw [x2] at h1;rw [y2] at h3
  exact I.two i j a ds es n h1 x1 h3 y1
 ·obtain ⟨x1,x2⟩:=h i _ h2 rfl
  obtain ⟨y1,y2⟩:=h j _ h4 rfl
  rw [x2] at h1;rw [y2] at h3
  exact I.mix i j a a' ds dss h1 x1 h3 y1
 ·exact I.one i j dss ess (h i _ h1 rfl).1 (h j _ h2 rfl).1
theorem Inj.other {H H':Hp} {σ:St} {ρ:List Ent} (I:Inj H σ ρ) (h:∀ (j:Nat) (a':Addr) (dss:List (List PyData)),σ[j]?=some (some (.ref a'))→ρ[j]?=some (.nst dss)→∀ vs,H' a'=some (.lst vs)→H a'=some (.lst vs)):Inj H' σ ρ:=
 ⟨I.two,fun i j a a' ds dss h1 h2 h3 h4=>⟨(I.mix i j a a' ds dss h1 h2 h3 h4).1,fun vs e=>(I.mix i j a a' ds dss h1 h2 h3 h4).2 vs (h j a' dss h3 h4 vs e)⟩,I.one,I.oneD⟩
theorem Inj.free {H:Hp} {σ:St} {ρ:List Ent} (h:∀ (i:Nat) (e:Ent),ρ[i]?=some e→a3L e=false):Inj H σ ρ:=
 ⟨fun i j a ds es n h1 h2 h3 h4=>Bool.noConfusion (h i _ h2),fun i j a a' ds dss h1 h2 h3 h4=>Bool.noConfusion (h i _ h2),fun i j dss ess h1 h2=>Bool.noConfusion (h i _ h1),fun i j ks ls h1 h2=>Bool.noConfusion (h i _ h1)⟩
theorem kW {α β:Type} {F F':α→β→Prop}:∀ {l:List α} {m:List β},Paired F l m→(∀ a b,a∈l→F a b→F' a b)→Paired F' l m
 | _,_,.nil,_=>.nil
 | _,_,.cons r t,h=>.cons (h _ _ List.mem_cons_self r) (kW t fun a b ha=>h a b (List.mem_cons_of_mem _ ha))
theorem wV {α β:Type} {F:α→β→Prop} {a:α}:∀ {l:List α} {m:List β},Paired F l m→a∈l→∃ b,F a b
 | _,_,.cons r t,h=>by
  rcases List.mem_cons.mp h with rfl | h
  ·exact ⟨_,r⟩
  ·exact wV t h
structure RepS (K:PySem.W.Frag) (H0 G₀ G H:Hp) (σ:St) (ρ:List Ent):Prop where
 grow:Grow G₀ H0 G H
 len:σ.length=ρ.length
 ent:∀ (i:Nat) (o:Option V) (e:Ent),σ[i]?=some o→ρ[i]?=some e→a1U K H0 G H o e
 inj:Inj H σ ρ
 tab:nF K G H
theorem a1U.more {K:PySem.W.Frag} {H0 G H G' H':Hp} {o:Option V} {e:Ent} (g:Grow G H G' H') (h:a1U K H0 G H o e):a1U K H0 G' H' o e:=by
 cases e with
 | no=>trivial
 | val d=>obtain ⟨v,e,r⟩:=h;exact ⟨v,e,r.mono g.gg⟩
 | lst ds=>
  obtain ⟨a,xs,e,h1,h2,h3,r⟩:=h
  exact ⟨a,xs,e,g.hh.lst h1,g.new a h2 (by rw [h1];simp),h3,r.mono g.gg⟩
 | exc c=>obtain ⟨a,C,e,h1,h2⟩:=h;exact ⟨a,C,e,h1,g.hh.keep a _ h2 (by unfold xcO;nofun)⟩
 | nst dss=>
  obtain ⟨a,bs,e,h1,h2,h3,h4,h5,r⟩:=h
  exact ⟨a,bs,e,g.hh.lst h1,g.new a h2 (by rw [h1];simp),h3,h4,h5,Paired.mapP r fun b ds ⟨xs,x1,x2,x3,x4⟩=>⟨xs,g.hh.lst x1,g.new b x2 (by rw [x1];simp),x3,x4.mono g.gg⟩⟩
 | dct kvs=>
  obtain ⟨a,vs,e,h1,h2,h3,r⟩:=h
  exact ⟨a,vs,e,g.hh.keep a _ h1 (by nofun),g.new a h2 (by rw [h1];simp),h3,r.mono g.gg⟩
section
variable {K:PySem.W.Frag} {H0 G₀ G H G' H':Hp} {σ:St} {ρ:List Ent}
theorem RepS.more (R:RepS K H0 G₀ G H σ ρ) (g:Grow G H G' H'):RepS K H0 G₀ G' H' σ ρ:=
 ⟨R.grow.trans g,R.len,fun i o e h1 h2=>(R.ent i o e h1 h2).more g,R.inj.other (fun j a' dss h1 h2 vs e=>by
  obtain ⟨a,bs,e1,e2,_⟩:=R.ent j _ _ h1 h2
  cases e1
  rw [g.hh.lst e2] at e
  cases e
  exact e2),R.tab.more g⟩
theorem RepS.sub (R:RepS K H0 G₀ G H σ ρ):bR G H:=R.grow.sub
theorem RepS.at {i:Nat} {e:Ent} (R:RepS K H0 G₀ G H σ ρ) (h:ρ[i]?=some e):∃ o,σ[i]?=some o∧a1U K H0 G H o e:=by
 have hi:i<σ.length:=by rw [R.len];exact (List.getElem?_eq_some_iff.mp h).1
 exact ⟨σ[i],by simp [hi],R.ent i _ e (by simp [hi]) h⟩
theorem RepS.val {i:Nat} {d:PyData} (R:RepS K H0 G₀ G H σ ρ) (h:ρ[i]?=some (.val d)):∃ v,σ[i]?=some (some v)∧Rep K G v d:=by
 obtain ⟨o,e,v,rfl,r⟩:=R.at h
 exact ⟨v,e,r⟩
theorem RepS.own {i:Nat} {ds:List PyData} (R:RepS K H0 G₀ G H σ ρ) (h:ρ[i]?=some (.lst ds)):∃ a xs,σ[i]?=some (some (.ref a))∧H a=some (.lst xs)∧G a=none∧H0 a=none∧RepAll K G xs ds:=by
 obtain ⟨o,e,a,xs,rfl,r⟩:=R.at h
 exact ⟨a,xs,e,r⟩
theorem aV {α:Type} {l:List α} {i j:Nat} {x y:α} (h:(l.set i x)[j]?=some y):(j=i∧y=x∧i<l.length)∨(j≠i∧l[j]?=some y):=by
 by_cases e:j=i
 ·subst e
  have hl:j<l.length:=by
   have:=(List.getElem?_eq_some_iff.mp h).1
   simpa using this
  rw [List.getElem?_set_self hl] at h
  exact .inl ⟨rfl,(Option.some.inj h).symm,hl⟩
 ·rw [List.getElem?_set_ne (Ne.symm e)] at h
  exact .inr ⟨e,h⟩
theorem RepS.set {i:Nat} {v:V} {d:PyData} (R:RepS K H0 G₀ G H σ ρ) (r:Rep K G v d):RepS K H0 G₀ G H (σ.set i (some v)) (ρ.set i (.val d)):=by
 refine ⟨R.grow,by simp [R.len],fun j o e h1 h2=>?_,R.inj.sub fun j e h1 h2=>?_,R.tab⟩
 ·rcases aV h1 with ⟨rfl,rfl,_⟩ | ⟨n,h1⟩
  ·rcases aV h2 with ⟨_,rfl,_⟩ | ⟨n,_⟩
   ·exact ⟨v,rfl,r⟩
   ·exact absurd rfl n
  ·rcases aV h2 with ⟨z,_⟩ | ⟨_,h2⟩
   ·exact absurd z n
   ·exact R.ent j o e h1 h2
 ·rcases aV h1 with ⟨_,rfl,_⟩ | ⟨n,h1⟩
  ·cases h2
  ·exact ⟨h1,List.getElem?_set_ne (Ne.symm n)⟩
theorem RepS.freeze {i:Nat} {ds:List PyData} (R:RepS K H0 G₀ G H σ ρ) (h:ρ[i]?=some (.lst ds)):∃ G',bR G G'∧RepS K H0 G₀ G' H σ (ρ.set i (.val (.list ds))):=by
 obtain ⟨a,xs,e,h1,h2,h3,r⟩:=R.own h
 have gg:bR G (upd G a (.lst xs)):=bC h2
 refine ⟨upd G a (.lst xs),gg,⟨⟨R.grow.gg.trans gg,R.grow.hh,fun b o q=>?_,fun b q n=>?_,fun n=>(R.grow.nt n).upd (by nofun)⟩,by simp [R.len],fun j o e' q1 q2=>?_,R.inj.sub fun j e h1 h2=>?_,R.tab.1,R.tab.2.upd (by nofun)⟩⟩
 ·by_cases hb:b=a
  ·subst hb;rw [aN] at q;cases q;exact h1
  ·rw [aL hb] at q;exact R.sub b o q
 ·have nb:b≠a:=fun z=>n (by rw [z];exact h3)
  rw [aL nb];exact R.grow.new b q n
 ·rcases aV q2 with ⟨rfl,rfl,_⟩ | ⟨nj,q2⟩
  ·rw [e] at q1;cases q1
   exact ⟨.ref a,rfl,.list (.of aN) (r.mono gg)⟩
  ·have E:=R.ent j o e' q1 q2
   cases e' with
   | no=>trivial
   | val d=>obtain ⟨v,z,rv⟩:=E;exact ⟨v,z,rv.mono gg⟩
   | lst es=>
    obtain ⟨b,ys,z,g1,g2,g3,rv⟩:=E
    have nb:b≠a:=fun w=>by
     subst w z
     exact R.inj.two j i b es ds nj q1 q2 e h
    exact ⟨b,ys,z,g1,by rw [aL nb];exact g2,g3,rv.mono gg⟩
   | exc c=>exact E
   | nst dss=>
    obtain ⟨b,bs,z,g1,g2,g3,g4,g5,rv⟩:=E
    subst z
    obtain ⟨m1,m2⟩:=R.inj.mix i j a b ds dss e h q1 q2
    have ni:∀ c∈bs,c≠a:=fun c hc w=>m2 _ g1 (by subst w;exact List.mem_map.mpr ⟨c,hc,rfl⟩)
    exact ⟨b,bs,rfl,g1,by rw [aL (Ne.symm m1)];exact g2,g3,g4,g5,kW rv fun c dd hc ⟨xs',x1,x2,x3,x4⟩=>⟨xs',x1,by rw [aL (ni c hc)];exact x2,x3,x4.mono gg⟩⟩
   | dct kvs=>
    obtain ⟨b,vs,z,g1,g2,g3,rv⟩:=E
    exact ⟨b,vs,z,g1,by rw [aL (kC g1 h1 (by nofun))];exact g2,g3,rv.mono gg⟩
 ·rcases aV h1 with ⟨_,rfl,_⟩ | ⟨n,h1⟩
  ·cases h2
  ·exact ⟨h1,rfl⟩
theorem RepS.wrote {i:Nat} {a:Addr} {ds ds':List PyData} {xs:List V} (R:RepS K H0 G₀ G H σ ρ) (h:ρ[i]?=some (.lst ds)) (e:σ[i]?=some (some (.ref a))) (r:RepAll K G xs ds'):RepS K H0 G₀ G (upd H a (.lst xs)) σ (ρ.set i (.lst ds')):=by
 obtain ⟨a',xs',e',h1,h2,h3,_⟩:=R.own h
 rw [e] at e';cases e'
 refine ⟨⟨R.grow.gg,R.grow.hh.wr h3 h1,fun b o q=>?_,fun b q n=>R.grow.new b q n,R.grow.nt⟩,by simp [R.len],fun j o e' q1 q2=>?_,⟨fun j k b es fs hjk q1 q2 q3 q4=>?_,fun j k b a' es dss q1 q2 q3 q4=>?_,fun j k dss ess q1 q2=>?_,fun j k ks ls q1 q2=>?_⟩,R.tab.wr h1⟩
 ·rw [aL (bI q h2)];exact R.sub b o q
 ·rcases aV q2 with ⟨rfl,rfl,_⟩ | ⟨nj,q2⟩
  ·rw [e] at q1;cases q1
   exact ⟨a,xs,rfl,aN,h2,h3,r⟩
  ·have E:=R.ent j o e' q1 q2
   cases e' with
   | no=>trivial
   | val d=>exact E
   | lst es=>
    obtain ⟨b,ys,z,g1,g2,g3,rv⟩:=E
    have nb:b≠a:=fun w=>by
     subst w z
     exact R.inj.two j i b es ds nj q1 q2 e h
    exact ⟨b,ys,z,by rw [aL nb];exact g1,g2,g3,rv⟩
   | exc c=>obtain ⟨b,C,z,g1,g2⟩:=E;exact ⟨b,C,z,g1,by rw [aL (kC g2 h1 (by unfold xcO;nofun))];exact g2⟩
   | nst dss=>
    obtain ⟨b,bs,z,g1,g2,g3,g4,g5,rv⟩:=E
    subst z
    obtain ⟨m1,m2⟩:=R.inj.mix i j a b ds dss e h q1 q2
    have ni:∀ c∈bs,c≠a:=fun c hc w=>m2 _ g1 (by subst w;exact List.mem_map.mpr ⟨c,hc,rfl⟩)
    exact ⟨b,bs,rfl,by rw [aL (Ne.symm m1)];exact g1,g2,g3,g4,g5,kW rv fun c dd hc ⟨xs',x1,x2,x3,x4⟩=>⟨xs',by rw [aL (ni c hc)];exact x1,x2,x3,x4⟩⟩
   | dct kvs=>
    obtain ⟨b,vs,z,g1,g2,g3,rv⟩:=E
    exact ⟨b,vs,z,by rw [aL (kC g1 h1 (by nofun))];exact g1,g2,g3,rv⟩
 ·rcases aV q2 with ⟨rfl,_,_⟩ | ⟨n2,q2⟩
  ·rcases aV q4 with ⟨z,_,_⟩ | ⟨n4,q4⟩
   ·exact hjk z.symm
   ·exact R.inj.two j k b ds fs hjk q1 h q3 q4
  ·rcases aV q4 with ⟨z,_,_⟩ | ⟨n4,q4⟩
   ·subst z;exact R.inj.two j k b es ds hjk q1 ‹ρ[j]?=some (Ent.lst es)› q3 h
   ·exact R.inj.two j k b es fs hjk q1 ‹ρ[j]?=some (Ent.lst es)› q3 q4
 ·rcases aV q4 with ⟨_,z,_⟩ | ⟨_,q4⟩
  ·cases z
  ·have old:∃ fs,ρ[j]?=some (.lst fs):=by
    rcases aV q2 with ⟨rfl,_,_⟩ | ⟨_,q2⟩
    ·exact ⟨_,h⟩
    ·exact ⟨_,q2⟩
   obtain ⟨fs,q2⟩:=old
   obtain ⟨m1,m2⟩:=R.inj.mix j k b a' fs dss q1 q2 q3 q4
   have m3:=(R.inj.mix i k a a' ds dss e h q3 q4).1
   exact ⟨m1,fun vs z=>m2 vs (by rw [aL (Ne.symm m3)] at z;exact z)⟩
 ·rcases aV q1 with ⟨_,z,_⟩ | ⟨_,q1⟩
  ·cases z
  ·rcases aV q2 with ⟨_,z,_⟩ | ⟨_,q2⟩
   ·cases z
   ·exact R.inj.one j k dss ess q1 q2
 ·rcases aV q1 with ⟨_,z,_⟩ | ⟨_,q1⟩
  ·cases z
  ·rcases aV q2 with ⟨_,z,_⟩ | ⟨_,q2⟩
   ·cases z
   ·exact R.inj.oneD j k ks ls q1 q2
theorem RepS.fresh {i:Nat} {p:Addr} {ds:List PyData} {xs:List V} (R:RepS K H0 G₀ G H σ ρ) (h:H p=none) (r:RepAll K G xs ds):RepS K H0 G₀ G (upd H p (.lst xs)) (σ.set i (some (.ref p))) (ρ.set i (.lst ds)):=by
 have R':=R.more (Grow.side (o:=.lst xs) R.sub h)
 refine ⟨R'.grow,by simp [R.len],fun j o e h1 h2=>?_,⟨fun j k a es fs hjk h1 h2 h3 h4=>?_,fun j k b a' es dss q1 q2 q3 q4=>?_,fun j k dss ess q1 q2=>?_,fun j k ks ls q1 q2=>?_⟩,R'.tab⟩
 ·rcases aV h1 with ⟨rfl,rfl,_⟩ | ⟨n,h1⟩
  ·rcases aV h2 with ⟨_,rfl,_⟩ | ⟨n,_⟩
   ·exact ⟨p,xs,rfl,aN,R.sub.free h,R.grow.hh.free h,r⟩
   ·exact absurd rfl n
  ·rcases aV h2 with ⟨z,_⟩ | ⟨_,h2⟩
   ·exact absurd z n
   ·exact R'.ent j o e h1 h2
 ·have old:∀ j es,j≠i→σ[j]?=some (some (.ref p))→ρ[j]?=some (.lst es)→False:=fun j es _ q1 q2=>by
   obtain ⟨b,ys,e,g1,_⟩:=R.own q2
   rw [q1] at e;cases e
   rw [h] at g1;cases g1
  rcases aV h2 with ⟨rfl,_,_⟩ | ⟨n2,h2⟩
  ·rcases aV h1 with ⟨_,z,_⟩ | ⟨n,_⟩
   ·cases z
    rcases aV h4 with ⟨z,_,_⟩ | ⟨n4,h4⟩
    ·exact hjk z.symm
    ·rw [List.getElem?_set_ne (Ne.symm n4)] at h3
     exact old k fs n4 h3 h4
   ·exact absurd rfl n
  ·rw [List.getElem?_set_ne (Ne.symm n2)] at h1
   rcases aV h4 with ⟨zk,_,_⟩ | ⟨n4,h4⟩
   ·subst zk
    rcases aV h3 with ⟨_,z,_⟩ | ⟨n,_⟩
    ·cases z;exact old j es n2 h1 ‹ρ[j]?=some (Ent.lst es)›
    ·exact absurd rfl n
   ·rw [List.getElem?_set_ne (Ne.symm n4)] at h3
    exact R.inj.two j k a es fs hjk h1 h2 h3 h4
 ·rcases aV q4 with ⟨_,z,_⟩ | ⟨n4,q4⟩
  ·cases z
  ·rw [List.getElem?_set_ne (Ne.symm n4)] at q3
   obtain ⟨a1,bs,z,g1,g2,g3,g4,g5,rv⟩:=R.ent k _ _ q3 q4
   have z':a'=a1:=by cases z;rfl
   subst z'
   have pa:a'≠p:=bI g1 h
   have pb:V.ref p∉bs.map V.ref:=fun z=>by
    obtain ⟨c,hc,e⟩:=List.mem_map.mp z
    cases e
    obtain ⟨dd,⟨xs',x1,_⟩⟩:=wV rv hc
    rw [h] at x1;cases x1
   rcases aV q2 with ⟨rfl,_,_⟩ | ⟨n2,q2⟩
   ·rcases aV q1 with ⟨_,z,_⟩ | ⟨n,_⟩
    ·cases z
     exact ⟨Ne.symm pa,fun vs e=>by rw [aL pa,g1] at e;cases e;exact pb⟩
    ·exact absurd rfl n
   ·rw [List.getElem?_set_ne (Ne.symm n2)] at q1
    obtain ⟨m1,m2⟩:=R.inj.mix j k b a' es dss q1 q2 q3 q4
    exact ⟨m1,fun vs e=>m2 vs (by rw [aL pa] at e;exact e)⟩
 ·rcases aV q1 with ⟨_,z,_⟩ | ⟨_,q1⟩
  ·cases z
  ·rcases aV q2 with ⟨_,z,_⟩ | ⟨_,q2⟩
   ·cases z
   ·exact R.inj.one j k dss ess q1 q2
 ·rcases aV q1 with ⟨_,z,_⟩ | ⟨_,q1⟩
  ·cases z
  ·rcases aV q2 with ⟨_,z,_⟩ | ⟨_,q2⟩
   ·cases z
   ·exact R.inj.oneD j k ks ls q1 q2
theorem RepS.ownD {i:Nat} {kvs:List (Key×PyData)} (R:RepS K H0 G₀ G H σ ρ) (h:ρ[i]?=some (.dct kvs)):∃ a vs,σ[i]?=some (some (.ref a))∧H a=some (.dK vs)∧G a=none∧H0 a=none∧a1W K G vs kvs:=by
 obtain ⟨o,e,a,vs,rfl,r⟩:=R.at h
 exact ⟨a,vs,e,r⟩
theorem RepS.freezeD {i:Nat} {kvs:List (Key×PyData)} (R:RepS K H0 G₀ G H σ ρ) (h:ρ[i]?=some (.dct kvs)):∃ G',bR G G'∧RepS K H0 G₀ G' H σ (ρ.set i (.val (.dict (kvs.map fun p=>(kD p.1,p.2))))):=by
 obtain ⟨a,vs,e,h1,h2,h3,r⟩:=R.ownD h
 have gg:bR G (upd G a (.dK vs)):=bC h2
 refine ⟨upd G a (.dK vs),gg,⟨⟨R.grow.gg.trans gg,R.grow.hh,fun b o q=>?_,fun b q n=>?_,fun n=>(R.grow.nt n).upd (by nofun)⟩,by simp [R.len],fun j o e' q1 q2=>?_,R.inj.sub fun j e h1 h2=>?_,R.tab.1,R.tab.2.upd (by nofun)⟩⟩
 ·by_cases hb:b=a
  ·subst hb;rw [aN] at q;cases q;exact h1
  ·rw [aL hb] at q;exact R.sub b o q
 ·have nb:b≠a:=fun z=>n (by rw [z];exact h3)
  rw [aL nb];exact R.grow.new b q n
 ·rcases aV q2 with ⟨rfl,rfl,_⟩ | ⟨nj,q2⟩
  ·rw [e] at q1;cases q1
   refine ⟨.ref a,rfl,.dict (kvs:=vs) aN ?_ ?_⟩
   ·rw [List.map_map]
    have:=congrArg (List.map kD) r.1
    rw [List.map_map,List.map_map] at this
    exact this.symm
   ·rw [List.map_map];exact r.2.mono gg
  ·have E:=R.ent j o e' q1 q2
   cases e' with
   | no=>trivial
   | val d=>obtain ⟨v,z,rv⟩:=E;exact ⟨v,z,rv.mono gg⟩
   | lst es=>
    obtain ⟨b,ys,z,g1,g2,g3,rv⟩:=E
    exact ⟨b,ys,z,g1,by rw [aL (kC g1 h1 (by nofun))];exact g2,g3,rv.mono gg⟩
   | exc c=>exact E
   | nst dss=>
    obtain ⟨b,bs,z,g1,g2,g3,g4,g5,rv⟩:=E
    exact ⟨b,bs,z,g1,by rw [aL (kC g1 h1 (by nofun))];exact g2,g3,g4,g5,kW rv fun c dd hc ⟨xs',x1,x2,x3,x4⟩=>⟨xs',x1,by rw [aL (kC x1 h1 (by nofun))];exact x2,x3,x4.mono gg⟩⟩
   | dct ks=>exact absurd (R.inj.oneD j i ks kvs q2 h) nj
 ·rcases aV h1 with ⟨_,rfl,_⟩ | ⟨n,h1⟩
  ·cases h2
  ·exact ⟨h1,rfl⟩
end
structure PD (X:Cx) (e:Expr) (ρ:List Ent) (d:PyData):Prop where
 run:∀ (H0 G₀ G:Hp) (pins:List (Addr×Obj)) (s:Shared) (σ:St) (H:Hp) (Q:VK),Inv X pins σ H s→RepS X.K H0 G₀ G H σ ρ→(∀ v G' H',Grow G H G' H'→Rep X.K G' v d→Q v H') →
  wpAny (model X.prog X.w) X.A (eval e X.env) (EP X pins σ Q) X.xe s
structure PTD (X:Cx) (e:Expr) (ρ:List Ent) (b:Bool):Prop where
 run:∀ (H0 G₀ G:Hp) (pins:List (Addr×Obj)) (s:Shared) (σ:St) (H:Hp) (Q:Bool→Hp→Prop),Inv X pins σ H s→RepS X.K H0 G₀ G H σ ρ→(∀ G' H',Grow G H G' H'→Q b H') →
  wpAny (model X.prog X.w) X.A (isTrue e X.env (eval e X.env)) (TP X pins σ Q) X.xe s
structure PAD (X:Cx) (es:List Expr) (ρ:List Ent) (ds:List PyData):Prop where
 run:∀ (H0 G₀ G:Hp) (pos:Pos) (pins:List (Addr×Obj)) (s:Shared) (σ:St) (H:Hp) (Q:List V→Hp→Prop),Inv X pins σ H s→RepS X.K H0 G₀ G H σ ρ→(∀ vs G' H',Grow G H G' H'→RepAll X.K G' vs ds→Q vs H') →
  wpAny (model X.prog X.w) X.A (spliced (backTo pos (starEach es X.env))) (AP X pins σ Q) X.xe s
def tD (X:Cx) (ρ:List Ent) (d:PyData):TE:=fun σ H Q=>∃ H0 G₀ G,RepS X.K H0 G₀ G H σ ρ∧∀ v G' H',Grow G H G' H'→Rep X.K G' v d→Q v H'
def tTD (X:Cx) (ρ:List Ent) (b:Bool):TT:=fun σ H Q=>∃ H0 G₀ G,RepS X.K H0 G₀ G H σ ρ∧∀ G' H',Grow G H G' H'→Q b H'
def tAD (X:Cx) (ρ:List Ent) (ds:List PyData):TA:=fun σ H Q=>∃ H0 G₀ G,RepS X.K H0 G₀ G H σ ρ∧∀ vs G' H',Grow G H G' H'→RepAll X.K G' vs ds→Q vs H'
section
variable {X:Cx} {e a b c:Expr} {es:List Expr} {ρ:List Ent} {d da db dc:PyData} {ds:List PyData} {pos p:Pos}
theorem PD.pe (h:PD X e ρ d):PE X e (tD X ρ d):=fun pins s σ H Q I ⟨H0,G₀,G,R,k⟩=>h.run H0 G₀ G pins s σ H Q I R k
theorem PTD.pt {b:Bool} (h:PTD X e ρ b):PT X e (tTD X ρ b):=fun pins s σ H Q I ⟨H0,G₀,G,R,k⟩=>h.run H0 G₀ G pins s σ H Q I R k
theorem PAD.pa (h:PAD X es ρ ds):PA X es (tAD X ρ ds):=fun pos pins s σ H Q I ⟨H0,G₀,G,R,k⟩=>h.run H0 G₀ G pos pins s σ H Q I R k
theorem PD.of {t:TE} (h:PE X e t) (k:∀ H0 G₀ G σ H Q,RepS X.K H0 G₀ G H σ ρ→(∀ v G' H',Grow G H G' H'→Rep X.K G' v d→Q v H')→t σ H Q):PD X e ρ d:=
 ⟨fun H0 G₀ G pins s σ H Q I R q=>h pins s σ H Q I (k H0 G₀ G σ H Q R q)⟩
theorem b2j {i:Int} {j}:PD X (.Constant (.int i) j pos) ρ (.int i):=.of b2f fun _ _ _ _ _ _ R q=>q _ _ _ (.refl R.sub) (.int i)
theorem b2i {x:Str} {j}:PD X (.Constant (.str x) j pos) ρ (.str x):=.of a6H fun _ _ _ _ _ _ R q=>q _ _ _ (.refl R.sub) (.str x)
theorem a9x {x:Bool} {j}:PD X (.Constant (.bool x) j pos) ρ (.bool x):=.of b4v fun _ _ _ _ _ _ R q=>q _ _ _ (.refl R.sub) (.bool x)
theorem a9v {j}:PD X (.Constant .none j pos) ρ .none:=.of a6I fun _ _ _ _ _ _ R q=>q _ _ _ (.refl R.sub) .none
theorem b2h (i:Nat) {x:Str} (h:ρ[i]?=some (.val d)) (hN:X.N[i]?=some x:=by rfl) (hv:Vis X.env.scope x:=by first | exact Or.inl rfl | exact Or.inr (Or.inl rfl) | exact Or.inr (Or.inr rfl)) (hd:(x==("__debug__" : Str))=false:=by decide)
  (hcd:(x==("__classdict__" : Str))=false:=by decide):PD X (.Name x pos) ρ d:=.of (jP hN hv hd hcd) fun H0 G₀ G σ H Q R q=>by
 obtain ⟨v,e,r⟩:=R.val h
 exact ⟨v,e,q v G H (.refl R.sub) r⟩
theorem a6Q {x:Str} {i:Int} {t:Tok} (hg:Gl X x) (hm:X.mg x=some (.int i t)) (hd:(x==("__debug__" : Str))=false:=by decide):PD X (.Name x pos) ρ (.int i):=
 .of (a3v (v:=.int i) hg hm ⟨t,rfl⟩ hd) fun _ _ _ _ _ _ R q=>q _ _ _ (.refl R.sub) (.int i)
end
end L2.L3
namespace L2.L3
open PySem PySem.Spec PyProof.Rows
section
variable {X:Cx} {e a b c:Expr} {es:List Expr} {ρ:List Ent} {d da db dc:PyData} {ds:List PyData} {pos p:Pos}
theorem gB:PAD X [] ρ []:=⟨fun H0 G₀ G pos pins s σ H Q I R q=>iR pos pins s σ H Q I (q [] G H (.refl R.sub) .nil)⟩
theorem dQ (ha:PD X e ρ d) (hr:PAD X es ρ ds) (hs:starEach (e::es) X.env=(false,eval e X.env)::starEach es X.env:=by rfl):PAD X (e::es) ρ (d::ds):=by
 refine ⟨?_⟩
 intro H0 G₀ G pos pins s σ H Q I R q
 exact dY ha.pe hr.pa hs pos pins s σ H Q I ⟨H0,G₀,G,R,fun x G1 H1 g1 r1=>⟨H0,G₀,G1,R.more g1,fun xs G2 H2 g2 r2=>q _ G2 H2 (g1.trans g2) (.cons (r1.mono g2.gg) r2)⟩⟩
structure CmpD (X:Cx) (op:CmpOp) (da db:PyData) (t:Bool):Prop where
 ex:∃ r:R2,OpR X (compareOp op) r∧∀ x y G H Q,bR G H→Rep X.K G x da→Rep X.K G y db→Q (V.bl t) H→r x y H Q
theorem b3A {i j:Int}:CmpD X .Lt (.int i) (.int j) (decide (i<j)):=⟨_,b4w,fun x y G H Q _ rx ry q=>by cases rx;cases ry;exact ⟨_,_,rfl,rfl,q⟩⟩
theorem b3B {i j:Int}:CmpD X .LtE (.int i) (.int j) (decide (i≤j)):=⟨_,b4x,fun x y G H Q _ rx ry q=>by cases rx;cases ry;exact ⟨_,_,rfl,rfl,q⟩⟩
theorem cmp_gt {i j:Int}:CmpD X .Gt (.int i) (.int j) (decide (j<i)):=⟨_,b4y,fun x y G H Q _ rx ry q=>by cases rx;cases ry;exact ⟨_,_,rfl,rfl,q⟩⟩
def b4o (X:Cx) (da db:PyData) (neg:Bool):R2:=fun x y H Q=>Rep X.K H x da∧Rep X.K H y db∧SeqAt.shaped da=true∧SeqAt.shaped db=true∧Q (.bl (if neg then !PyData.eqv da db else PyData.eqv da db)) H
theorem b2r (hu:X.A.units+64<cLine) (da db:PyData):OpR X (compareOp .Eq) (b4o X da db false):=by
 intro pins s σ H x y v u Q I rx ry ⟨r1,r2,h1,h2,q⟩
 obtain ⟨as,w1⟩:=r1.reads I rx
 obtain ⟨bs,w2⟩:=r2.reads I ry
 exact eq_dataH w1 w2 h1 h2 hu ⟨.bl _,H,I,rfl,q⟩
theorem b2m (hu:X.A.units+64<cLine) (da db:PyData):OpR X (compareOp .NotEq) (b4o X da db true):=by
 intro pins s σ H x y v u Q I rx ry ⟨r1,r2,h1,h2,q⟩
 obtain ⟨as,w1⟩:=r1.reads I rx
 obtain ⟨bs,w2⟩:=r2.reads I ry
 exact ne_dataH w1 w2 h1 h2 hu ⟨.bl _,H,I,rfl,q⟩
theorem b3C (hu:X.A.units+64<cLine) (h1:SeqAt.shaped da=true) (h2:SeqAt.shaped db=true):CmpD X .Eq da db (PyData.eqv da db):=
 ⟨_,b2r hu da db,fun x y G H Q s rx ry q=>⟨rx.mono s,ry.mono s,h1,h2,q⟩⟩
theorem b3z (hu:X.A.units+64<cLine) (h1:SeqAt.shaped da=true) (h2:SeqAt.shaped db=true):CmpD X .NotEq da db (!PyData.eqv da db):=
 ⟨_,b2m hu da db,fun x y G H Q s rx ry q=>⟨rx.mono s,ry.mono s,h1,h2,q⟩⟩
variable {rest:List Expr}
theorem a0s {K:PySem.W.Frag} {G:Hp} {xs:List V} {ds:List PyData} {i:Int} {d:PyData} (r:RepAll K G xs ds) (h:atI ds i=some d):∃ v,atI xs i=some v∧Rep K G v d:=by
 unfold atI at h ⊢
 rw [r.length]
 cases e:ixN ds.length i with
 | none=>rw [e] at h;cases h
 | some j=>
  rw [e] at h
  exact r.get h
def spD (K:PySem.W.Frag) (F:List PyData→PyData→Prop):Sp:=fun vs H Q _=>∃ G ds d,(bR G H∧nF K G H)∧RepAll K G vs ds∧F ds d∧∀ v G' H',Grow G H G' H'→Rep K G' v d→Q v H'
end
end L2.L3
namespace L2.L3
open PySem PySem.Spec PyProof.Rows
def Walk (K:PySem.W.Frag) (J:It) (G:Hp) (ds:List PyData):Prop:=
 ∀ (i:Nat) (G' H':Hp),bR G G'→bR G' H'→(∀ d,ds[i]?=some d→J.go i H'∧∀ x H2,J.yld i H' x H2→∃ G2,Grow G' H' G2 H2∧Rep K G2 x d)∧(ds.length≤i→J.stop i H')
def tID (K:PySem.W.Frag) (ρ:List Ent) (ds:List PyData):TI:=fun σ H R=>∃ H0 G₀ G,RepS K H0 G₀ G H σ ρ∧∀ J G' H',Grow G H G' H'→Walk K J G' ds→R J H'
structure PID (X:Cx) (tg iter:Expr) (ρ:List Ent) (ds:List PyData):Prop where
 run:PI X tg iter (tID X.K ρ ds)
theorem a4h {K:PySem.W.Frag} {G:Hp} {a:Addr} {xs:List V} {ds:List PyData} (hq:SqL K G a xs) (r:RepAll K G xs ds):Walk K (Itl K a) G ds:=by
 intro i G' H' s1 s2
 refine ⟨fun d e=>?_,fun hl=>⟨xs,(s1.trans s2).seq hq,by rw [r.length];exact hl⟩⟩
 obtain ⟨v,ev,rv⟩:=r.get e
 refine ⟨⟨xs,v,(s1.trans s2).seq hq,ev⟩,fun x H2 ⟨e2,y⟩=>?_⟩
 subst e2
 have z:=y xs ((s1.trans s2).seq hq)
 rw [ev] at z
 cases z
 exact ⟨G',.refl s2,rv.mono s1⟩
theorem a5W {K:PySem.W.Frag} {G:Hp} {a:Addr} {xs:List V} {ds:List PyData} (hq:SqT K G a xs) (r:RepAll K G xs ds):Walk K (Itt K a) G ds:=by
 intro i G' H' s1 s2
 refine ⟨fun d e=>?_,fun hl=>⟨xs,iO (s1.trans s2) hq,by rw [r.length];exact hl⟩⟩
 obtain ⟨v,ev,rv⟩:=r.get e
 refine ⟨⟨xs,v,iO (s1.trans s2) hq,ev⟩,fun x H2 ⟨e2,y⟩=>?_⟩
 subst e2
 have z:=y xs (iO (s1.trans s2) hq)
 rw [ev] at z
 cases z
 exact ⟨G',.refl s2,rv.mono s1⟩
def eI (lo:Int) (n:Nat):List PyData:=(List.range n).map fun (k:Nat)=>.int (lo+(k:Int))
theorem a0y {K:PySem.W.Frag} {G:Hp} (lo:Int) (n:Nat):Walk K (Itr lo n) G (eI lo n):=by
 intro i G' H' s1 s2
 unfold eI
 refine ⟨fun d e=>?_,fun hl=>by rw [List.length_map,List.length_range] at hl;exact hl⟩
 rw [List.getElem?_map] at e
 by_cases hi:i<n
 ·rw [List.getElem?_range hi] at e
  cases e
  refine ⟨hi,fun x H2 ⟨e1,e2⟩=>?_⟩
  subst e1 e2
  exact ⟨G',.refl s2,.int _⟩
 ·rw [List.getElem?_eq_none (by simpa using hi)] at e
  cases e
section
variable {X:Cx} {tg iter a b:Expr} {ρ:List Ent} {ds:List PyData} {p pos:Pos}
theorem PI.imp {wi wi':TI} (h:PI X tg iter wi) (k:∀ σ H R,wi' σ H R→wi σ H R):PI X tg iter wi':=fun pins s σ H R I w=>h pins s σ H R I (k σ H R w)
theorem a6D (h:PD X iter ρ (.list ds)):PID X tg iter ρ ds:=⟨PI.imp (yZ h.pe) fun σ H R ⟨H0,G₀,G,S,q⟩=>⟨H0,G₀,G,S,fun v G1 H1 g1 r1=>by
 cases r1 with
 | list hq r=>exact ⟨_,rfl,⟨_,g1.sub.seq hq⟩,q _ _ _ g1 (a4h hq r)⟩⟩⟩
theorem a9o (h:PD X iter ρ (.tuple ds)):PID X tg iter ρ ds:=⟨PI.imp (b2a h.pe) fun σ H R ⟨H0,G₀,G,S,q⟩=>⟨H0,G₀,G,S,fun v G1 H1 g1 r1=>by
 cases r1 with
 | tuple hq r=>exact ⟨_,rfl,⟨_,iO g1.sub hq⟩,q _ _ _ g1 (a5W hq r)⟩⟩⟩
theorem a2x {n:Int} (hm:X.mg "range" = none) (ha:PD X a ρ (.int n)) (h1:-(2 ^ 62)≤n) (h2:n<2 ^ 62) (hs:starEach [a] X.env=[(false,eval a X.env)]:=by rfl) (hs':starEach [a] X.env=(false,eval a X.env)::starEach [] X.env:=by rfl) (hg:Gl X "range":=by rfl) :
  PID X tg (.Call (.Name "range" p) [a] [] pos) ρ (eI 0 n.toNat):=
 ⟨PI.imp (a4G hg hm (dQ ha gB hs').pa hs) fun σ H R ⟨H0,G₀,G,S,q⟩=>⟨H0,G₀,G,S,fun vs G1 H1 g1 r1=>by
  cases r1 with
  | cons r rr=>
   cases rr
   cases r
   exact ⟨n,rfl,h1,h2,q _ _ _ g1 (a0y 0 n.toNat)⟩⟩⟩
theorem a2w {m n:Int} (hm:X.mg "range" = none) (ha:PD X a ρ (.int m)) (hb:PD X b ρ (.int n)) (h1:-(2 ^ 62)≤m) (h2:m<2 ^ 62) (h3:-(2 ^ 62)≤n) (h4:n<2 ^ 62)
  (hs:starEach [a,b] X.env=[(false,eval a X.env),(false,eval b X.env)]:=by rfl) (hs2:starEach [b] X.env=[(false,eval b X.env)]:=by rfl)
  (hs':starEach [a,b] X.env=(false,eval a X.env)::starEach [b] X.env:=by rfl) (hs2':starEach [b] X.env=(false,eval b X.env)::starEach [] X.env:=by rfl) (hg:Gl X "range":=by rfl) :
  PID X tg (.Call (.Name "range" p) [a,b] [] pos) ρ (eI m (n - m).toNat):=
 ⟨PI.imp (a4F hg hm (dQ ha (dQ hb gB hs2') hs').pa hs hs2) fun σ H R ⟨H0,G₀,G,S,q⟩=>⟨H0,G₀,G,S,fun vs G1 H1 g1 r1=>by
  cases r1 with
  | cons r rr=>
   cases rr with
   | cons r' rr=>
    cases rr
    cases r
    cases r'
    exact ⟨m,n,rfl,⟨h1,h2,h3,h4⟩,q _ _ _ g1 (a0y m _)⟩⟩⟩
end
def tGD (K:PySem.W.Frag) (ρ:List Ent) (d:PyData) (ρ':List Ent):TG:=fun v σ H Q=>∃ H0 G₀ G,RepS K H0 G₀ G H σ ρ∧Rep K G v d∧∀ σ',RepS K H0 G₀ G H σ' ρ'→Q σ' H
def b5t (K:PySem.W.Frag) (ρ:List Ent) (ds:List PyData) (ρ':List Ent):TGs:=fun vs σ H Q=>∃ H0 G₀ G,RepS K H0 G₀ G H σ ρ∧RepAll K G vs ds∧∀ σ',RepS K H0 G₀ G H σ' ρ'→Q σ' H
structure PGD (X:Cx) (tg:Expr) (ρ:List Ent) (d:PyData) (ρ':List Ent):Prop where
 run:PG X tg (tGD X.K ρ d ρ')
structure PGsD (X:Cx) (ts:List Expr) (ρ:List Ent) (ds:List PyData) (ρ':List Ent):Prop where
 run:PGs X ts (b5t X.K ρ ds ρ')
section
variable {X:Cx} {e:Expr} {es:List Expr} {ρ ρ1 ρ2:List Ent} {d:PyData} {ds:List PyData} {pos:Pos}
theorem a0U (i:Nat) {x:Str} (hN:X.N.Nodup) (hi:X.N[i]?=some x:=by rfl) (hx:Loc X.env.scope x:=by first | exact Or.inl rfl | exact Or.inr rfl) (hf:X.fn x=true∨X.env.scope.names.lookup x=some .local:=by first | exact .inl rfl | exact .inr rfl) :
  PGD X (.Name x pos) ρ d (ρ.set i (.val d)):=⟨fun pins s σ H v u Q I r ⟨H0,G₀,G,S,rv,q⟩=>a9s hN hi hx hf pins s σ H v u Q I r (q _ (S.set rv))⟩
theorem a6F:PGsD X [] ρ [] ρ:=⟨fun pins s σ H vs us Q I r ⟨H0,G₀,G,S,rv,q⟩=>by
 cases rv
 exact a9q pins s σ H [] us Q I r ⟨rfl,q σ S⟩⟩
theorem a4H (h1:PGD X e ρ d ρ1) (h2:PGsD X es ρ1 ds ρ2) (hs:(assignEach (e::es) X.env).map (·.2)=assign e X.env::(assignEach es X.env).map (·.2):=by rfl):PGsD X (e::es) ρ (d::ds) ρ2:=⟨fun pins s σ H vs us Q I r ⟨H0,G₀,G,S,rv,q⟩=>by
 cases rv with
 | cons r1 r2=>exact a6G h1.run h2.run hs pins s σ H _ us Q I r ⟨_,_,rfl,H0,G₀,G,S,r1,fun σ' S'=>⟨H0,G₀,G,S',r2,q⟩⟩⟩
theorem a9r {k:Nat} (hc:X.calm=true) (h:PGsD X es ρ ds ρ1) (hn:(assignEach es X.env).length=ds.length:=by rfl) (hst:(assignEach es X.env).findIdx? (·.1)=none:=by rfl):PGD X (.Tuple es k pos) ρ (.tuple ds) ρ1:=⟨fun pins s σ H v u Q I r ⟨H0,G₀,G,S,rv,q⟩=>by
 cases rv with
 | tuple hq rr=>exact b2b hc h.run hn hst pins s σ H _ u Q I r ⟨_,_,rfl,iO S.sub hq,rr.length,H0,G₀,G,S,rr,q⟩⟩
end
inductive Out where
 | nx (ρ:List Ent)
 | rt (d:PyData)
 | bk (ρ:List Ent)
 | ct (ρ:List Ent)
def b1r (K:PySem.W.Frag) (H0 G₀ G:Hp) (D:Ends):Out→Prop
 | .nx ρ=>∀ G' H' σ',bR G G'→RepS K H0 G₀ G' H' σ' ρ→D.nx σ' H'
 | .rt d=>∀ v G' H',bR G G'→Grow G₀ H0 G' H'→Rep K G' v d→D.rt v H'
 | .bk ρ=>∀ G' H' σ',bR G G'→RepS K H0 G₀ G' H' σ' ρ→D.bk σ' H'
 | .ct ρ=>∀ G' H' σ',bR G G'→RepS K H0 G₀ G' H' σ' ρ→D.ct σ' H'
def tSD (K:PySem.W.Frag) (ρ:List Ent) (o:Out):TS:=fun D σ H=>∃ H0 G₀ G,RepS K H0 G₀ G H σ ρ∧b1r K H0 G₀ G D o
structure PSD (X:Cx) (st:Stmt) (ρ:List Ent) (o:Out):Prop where
 run:PS X st (tSD X.K ρ o)
inductive Weak:List Ent→List Ent→Prop
 | nil:Weak [] []
 | keep {e:Ent} {a b:List Ent}:Weak a b→Weak (e::a) (e::b)
 | no {e:Ent} {a b:List Ent}:Weak a b→Weak (e::a) (.no::b)
theorem Weak.refl:∀ ρ:List Ent,Weak ρ ρ
 | []=>.nil
 | _::r=>.keep (Weak.refl r)
theorem Weak.at:∀ {a b:List Ent} {i:Nat} {e:Ent},Weak a b→b[i]?=some e→e=.no∨a[i]?=some e
 | _,_,_,_,.nil,h=>by simp at h
 | _,_,0,e,.keep _,h=>.inr (by simpa using h)
 | _,_,0,e,.no _,h=>.inl (by simpa using h.symm)
 | _,_,i+1,e,.keep w,h=>by
  rcases Weak.at (i:=i) w (by simpa using h) with z | z
  ·exact .inl z
  ·exact .inr (by simpa using z)
 | _,_,i+1,e,.no w,h=>by
  rcases Weak.at (i:=i) w (by simpa using h) with z | z
  ·exact .inl z
  ·exact .inr (by simpa using z)
theorem Weak.length:∀ {a b:List Ent},Weak a b→a.length=b.length
 | _,_,.nil=>rfl
 | _,_,.keep w=>by simp [Weak.length w]
 | _,_,.no w=>by simp [Weak.length w]
theorem RepS.weak {K:PySem.W.Frag} {H0 G₀ G H:Hp} {σ:St} {ρ ρ':List Ent} (R:RepS K H0 G₀ G H σ ρ) (w:Weak ρ ρ'):RepS K H0 G₀ G H σ ρ':=by
 refine ⟨R.grow,R.len.trans w.length,fun i o e h1 h2=>?_,R.inj.sub fun i e h1 h2=>?_,R.tab⟩
 ·rcases w.at h2 with z | z
  ·subst z;trivial
  ·exact R.ent i o e h1 z
 ·rcases w.at h1 with z | z
  ·subst z;cases h2
  ·exact ⟨z,rfl⟩
section
variable {X:Cx} {st:Stmt} {rest:List Stmt} {ρ ρ1 ρ2:List Ent} {o:Out} {e c:Expr} {d:PyData} {ds:List PyData} {pos:Pos}
theorem PSD.of {t:TS} (h:PS X st t) (k:∀ H0 G₀ G σ H D,RepS X.K H0 G₀ G H σ ρ→b1r X.K H0 G₀ G D o→t D σ H):PSD X st ρ o:=⟨fun pins s σ H D I ⟨H0,G₀,G,S,q⟩=>h pins s σ H D I (k H0 G₀ G σ H D S q)⟩
end
def dD (cap:List (Option Nat)) (ρ:List Ent):List Ent:=cap.map fun o=>match o with
 | some j=>(match ρ[j]? with | some (.val d)=>.val d | _=>.no)
 | none=>.no
theorem xX (cap:List (Option Nat)) (ρ:List Ent):∀ (i:Nat) (e:Ent),(dD cap ρ)[i]?=some e→a3L e=false:=fun i e h=>by
 unfold dD at h
 rw [List.getElem?_map] at h
 cases hc:cap[i]? with
 | none=>rw [hc] at h;cases h
 | some c=>
  rw [hc] at h
  cases c with
  | none=>cases h;rfl
  | some j=>
   have h2:(match ρ[j]? with | some (Ent.val d)=>Ent.val d | _=>Ent.no)=e:=Option.some.inj h
   cases hr:ρ[j]? with
   | none=>rw [hr] at h2;subst h2;rfl
   | some q=>rw [hr] at h2;cases q<;>(subst h2;rfl)
theorem RepS.cap {K:PySem.W.Frag} {H0 G₀ G H:Hp} {σ:St} {ρ:List Ent} (R:RepS K H0 G₀ G H σ ρ) (cap:List (Option Nat)):RepS K H G G H (kF cap σ) (dD cap ρ):=by
 refine ⟨.refl R.sub,by simp [kF,dD],fun i o e h1 h2=>?_,Inj.free (xX cap ρ),R.tab⟩
 ·unfold kF at h1
  unfold dD at h2
  rw [List.getElem?_map] at h1 h2
  cases hc:cap[i]? with
  | none=>rw [hc] at h1;cases h1
  | some c=>
   rw [hc] at h1 h2
   cases c with
   | none=>cases h2;trivial
   | some j=>
    have h1:(σ[j]?).getD none=o:=Option.some.inj h1
    have h2:(match ρ[j]? with | some (Ent.val d)=>Ent.val d | _=>Ent.no)=e:=Option.some.inj h2
    cases hr:ρ[j]? with
    | none=>rw [hr] at h2;subst h2;trivial
    | some q=>
     rw [hr] at h2
     cases q with
     | no=>subst h2;trivial
     | lst ds=>subst h2;trivial
     | exc c=>subst h2;trivial
     | nst dss=>subst h2;trivial
     | dct kvs=>subst h2;trivial
     | val d=>
      subst h2
      obtain ⟨v,e,r⟩:=R.val hr
      rw [e] at h1
      subst h1
      exact ⟨v,rfl,r⟩
section
variable {X:Cx} {elt iter tg:Expr} {ifs:List Expr} {scope:Scope} {pos spos:Pos} {N':List Str} {cap:List (Option Nat)} {ρ ρb:List Ent} {α:Type} {xs:List α} {φ f:α→PyData} {cnd:α→Bool} {ρx:α→List Ent}
structure PTsD (X:Cx) (ifs:List Expr) (ρ:List Ent) (b:Bool):Prop where
 run:PTs X ifs (tTD X ρ b)
theorem a6x:PTsD X [] ρ true:=⟨fun pins s σ H Q I ⟨H0,G₀,G,R,q⟩=>a9l pins s σ H Q I (q G H (.refl R.sub))⟩
theorem a6w {c:Expr} {t:Bool} (h:PTD X c ρ t):PTsD X [c] ρ t:=⟨a9k h.pt⟩
def gU (K:PySem.W.Frag) (xs:List α) (φ:α→PyData) (ρb:List Ent) (ρx:α→List Ent):TG:=fun v σ H Q=>∃ x∈xs,tGD K ρb (φ x) (ρx x) v σ H Q
def tU (K:PySem.W.Frag) (xs:List α) (ρx:α→List Ent) (cnd:α→Bool):TT:=fun σ H Q=>∃ x∈xs,∃ H0 G₀ G,RepS K H0 G₀ G H σ (ρx x)∧∀ G' H',Grow G H G' H'→Q (cnd x) H'
def eU (K:PySem.W.Frag) (xs:List α) (ρx:α→List Ent) (cnd:α→Bool) (f:α→PyData):TE:=fun σ H Q=>∃ x∈xs,cnd x=true∧∃ H0 G₀ G,RepS K H0 G₀ G H σ (ρx x)∧∀ v G' H',Grow G H G' H'→Rep K G' v (f x)→Q v H'
theorem a4j {K:PySem.W.Frag} {J:It} {H0 G₀ G H:Hp} {σ:St} {Q:VK} (R:RepS K H0 G₀ G H σ ρ) (wk:Walk K J G (xs.map φ)) (hb:Weak (dD cap ρ) ρb) (hw:∀ x∈xs,Weak (ρx x) ρb) (hz:xs.length≤sizeLine)
  (q:∀ D ys G' H',Grow G H G' H'→G' D=some (.lst ys)→H D=none→RepAll K G' ys ((xs.filter cnd).map f)→Q (.ref D) H'):a4f J (gU K xs φ ρb ρx) (tU K xs ρx cnd) (eU K xs ρx cnd f) (kF cap σ) H Q:=by
 refine ⟨fun D i m ys σ' H'=>m=xs.length - i∧i≤xs.length∧∃ G',RepS K H G G' H' σ' ρb∧G' D=none∧RepAll K G' ys (((xs.take i).filter cnd).map f),fun D hD=>⟨⟨xs.length,by simp,Nat.zero_le _,G,?_,R.sub.free hD,by simpa using RepAll.nil⟩,?_⟩⟩
 ·exact ((R.cap cap).more (.side R.sub hD)).weak hb
 ·rintro i m ys σ1 H1 ⟨rfl,hi,G1,R1,hG1,ra⟩ hD1
  obtain ⟨wgo,wstop⟩:=wk i G1 H1 R1.grow.gg R1.sub
  by_cases hlt:i<xs.length
  ·have hx:xs[i]?=some xs[i]:=List.getElem?_eq_getElem hlt
   have hm:xs[i]∈xs:=List.getElem_mem hlt
   obtain ⟨go,yl⟩:=wgo (φ xs[i]) (by rw [List.getElem?_map,hx];rfl)
   have tk:(xs.take (i+1)).filter cnd=(xs.take i).filter cnd++(if cnd xs[i]=true then [xs[i]] else []):=by
    rw [List.take_succ,hx,List.filter_append]
    cases hcx:cnd xs[i]<;>simp [hcx]
   refine .inr ⟨go,fun x H2 y=>?_⟩
   obtain ⟨G2,g2,rx⟩:=yl x H2 y
   refine ⟨xs[i],hm,H,G,G2,R1.more g2,rx,fun σ3 R3=>⟨xs[i],hm,H,G,G2,R3,fun G4 H4 g4=>?_⟩⟩
   have g14:=g2.trans g4
   have hD4:H4 D=some (.lst ys):=g14.hh.lst hD1
   have hG4:G4 D=none:=g14.new D hG1 (by rw [hD1];simp)
   dsimp only
   by_cases hcx:cnd xs[i]=true
   ·rw [if_pos hcx]
    refine ⟨xs[i],hm,hcx,H,G,G4,R3.more g4,fun v G5 H5 g5 rv=>?_⟩
    have hD5:H5 D=some (.lst ys):=g5.hh.lst hD4
    have hG5:G5 D=none:=g5.new D hG4 (by rw [hD4];simp)
    have hlen:ys.length<sizeLine:=by
     have h1:=ra.length
     have h2:(((xs.take i).filter cnd).map f).length≤i:=by
      rw [List.length_map]
      exact Nat.le_trans (List.length_filter_le _ _) (by rw [List.length_take];omega)
     omega
    refine ⟨hD5,hlen,xs.length - (i+1),by omega,rfl,hlt,G5,?_,hG5,?_⟩
    ·have R5:RepS K H G G5 H5 σ3 ρb:=((R3.more g4).more g5).weak (hw _ hm)
     -- the list at D has one item more;nothing else speaks of D
     have noOwn:∀ (j:Nat) (e:Ent),ρb[j]?=some e→a3L e=false:=fun j e h2=>by
      rcases hb.at h2 with z' | z'
      ·rw [z'];rfl
      ·exact xX cap ρ j e z'
     have hHD:H D=none:=hD
     refine ⟨⟨R5.grow.gg,R5.grow.hh.wr hHD hD5,fun b o e=>?_,R5.grow.new,R5.grow.nt⟩,R5.len,fun j o e h1 h2=>?_,Inj.free (fun j e h2=>noOwn j e h2),R5.tab.wr hD5⟩
     ·rw [aL (bI e hG5)];exact R5.sub b o e
     ·have E:=R5.ent j o e h1 h2
      cases e with
      | no=>trivial
      | val d=>exact E
      | exc c=>obtain ⟨b,C,z,g1,g2⟩:=E;exact ⟨b,C,z,g1,by rw [aL (kC g2 hD5 (by unfold xcO;nofun))];exact g2⟩
      | lst es=>have:=noOwn j _ h2;cases this
      | nst dss=>have:=noOwn j _ h2;cases this
      | dct kvs=>have:=noOwn j _ h2;cases this
    ·rw [tk,if_pos hcx,List.map_append]
     exact (ra.mono ((g14.trans g5).gg)).append (.cons rv .nil)
   ·rw [if_neg hcx]
    refine ⟨hD4,xs.length - (i+1),by omega,rfl,hlt,G4,(R3.more g4).weak (hw _ hm),hG4,?_⟩
    rw [tk,if_neg hcx,List.append_nil]
    exact ra.mono g14.gg
  ·refine .inl ⟨wstop (by rw [List.length_map];omega),?_⟩
   have hi':i=xs.length:=by omega
   subst hi'
   rw [List.take_length] at ra
   have sD:bR G1 (upd G1 D (.lst ys)):=bC hG1
   refine q D ys (upd G1 D (.lst ys)) H1 ⟨R1.grow.gg.trans sD,R1.grow.hh,fun b o e=>?_,fun b e n=>?_,fun n=>(R1.grow.nt n).upd (by nofun)⟩ aN hD (ra.mono sD)
   ·by_cases hbD:b=D
    ·subst hbD;rw [aN] at e;cases e;exact hD1
    ·rw [aL hbD] at e;exact R1.sub b o e
   ·rw [aL (fun z=>n (by rw [z];exact hD))]
    exact R1.grow.new b e n
theorem a0B {K:PySem.W.Frag} {J:It} {H0 G₀ G H:Hp} {σ:St} {Q:VK} (R:RepS K H0 G₀ G H σ ρ) (wk:Walk K J G (xs.map φ)) (hb:Weak (dD cap ρ) ρb) (hw:∀ x∈xs,Weak (ρx x) ρb) (hz:xs.length≤sizeLine)
  (q:∀ v G' H',Grow G H G' H'→Rep K G' v (.list ((xs.filter cnd).map f))→Q v H'):a4f J (gU K xs φ ρb ρx) (tU K xs ρx cnd) (eU K xs ρx cnd f) (kF cap σ) H Q:=
 a4j R wk hb hw hz fun D ys G' H' g h _ ra=>q _ G' H' g (.list (.of h) ra)
theorem a9w (hc:X.calm=true) (B:Blk X scope N' cap) (hi:PID X tg iter ρ (xs.map φ)) (hb:Weak (dD cap ρ) ρb) (hw:∀ x∈xs,Weak (ρx x) ρb) (hz:xs.length≤sizeLine)
  (hg:∀ C s₃ H₃ fp x,x∈xs→PGD (dA X scope N' C s₃ H₃ fp) tg ρb (φ x) (ρx x))
  (ht:∀ C s₃ H₃ fp x,x∈xs→PTsD (dA X scope N' C s₃ H₃ fp) ifs (ρx x) (cnd x))
  (he:∀ C s₃ H₃ fp x,x∈xs→cnd x=true→PD (dA X scope N' C s₃ H₃ fp) elt (ρx x) (f x))
  (hs:∀ x,foldedSetIterable iter X.env x=pure x:=by intro _;rfl):PD X (.ListComp elt [⟨tg,iter,ifs,0⟩] scope pos) ρ (.list ((xs.filter cnd).map f)):=
 .of (a3w (g:=gU X.K xs φ ρb ρx) (tc:=tU X.K xs ρx cnd) (te:=eU X.K xs ρx cnd f) hc B hi.run (fun C s₃ H₃ fp pins s σ H v u Q I r ⟨x,hx,q⟩=>(hg C s₃ H₃ fp x hx).run pins s σ H v u Q I r q)
  (fun C s₃ H₃ fp pins s σ H Q I ⟨x,hx,q⟩=>(ht C s₃ H₃ fp x hx).run pins s σ H Q I q) (fun C s₃ H₃ fp pins s σ H Q I ⟨x,hx,hcx,H0,G₀,G,R,q⟩=>(he C s₃ H₃ fp x hx hcx).run H0 G₀ G pins s σ H Q I R q) hs)
  fun H0 G₀ G σ H Q R q=>⟨H0,G₀,G,R,fun J G' H' g wk=>a0B (R.more g) wk hb hw hz fun v G2 H2 g2 r2=>q v G2 H2 (g.trans g2) r2⟩
theorem a6A (i:Nat) {x:Str} {p:Pos} (hN:X.N.Nodup) (hc:X.calm=true) (B:Blk X scope N' cap) (hi:PID X tg iter ρ (xs.map φ)) (hb:Weak (dD cap ρ) ρb) (hw:∀ x∈xs,Weak (ρx x) ρb) (hz:xs.length≤sizeLine)
  (hg:∀ C s₃ H₃ fp x,x∈xs→PGD (dA X scope N' C s₃ H₃ fp) tg ρb (φ x) (ρx x))
  (ht:∀ C s₃ H₃ fp x,x∈xs→PTsD (dA X scope N' C s₃ H₃ fp) ifs (ρx x) (cnd x))
  (he:∀ C s₃ H₃ fp x,x∈xs→cnd x=true→PD (dA X scope N' C s₃ H₃ fp) elt (ρx x) (f x))
  (hxi:X.N[i]?=some x:=by rfl) (hx:X.env.scope.names.lookup x=some .local:=by rfl)
  (hsw:swapsWith (.ListComp elt [⟨tg,iter,ifs,0⟩] scope pos) (some (.Name x p)) spos.line X.env=pure true:=by rfl)
  (hs:∀ x,foldedSetIterable iter X.env x=pure x:=by intro _;rfl):PSD X (.Assign [.Name x p] (.ListComp elt [⟨tg,iter,ifs,0⟩] scope pos) spos) ρ (.nx (ρ.set i (.val (.list ((xs.filter cnd).map f))))):=
 .of (a3s (g:=gU X.K xs φ ρb ρx) (tc:=tU X.K xs ρx cnd) (te:=eU X.K xs ρx cnd f) hN hxi hx hc B hi.run (fun C s₃ H₃ fp pins s σ H v u Q I r ⟨x,hx,q⟩=>(hg C s₃ H₃ fp x hx).run pins s σ H v u Q I r q)
  (fun C s₃ H₃ fp pins s σ H Q I ⟨x,hx,q⟩=>(ht C s₃ H₃ fp x hx).run pins s σ H Q I q) (fun C s₃ H₃ fp pins s σ H Q I ⟨x,hx,hcx,H0,G₀,G,R,q⟩=>(he C s₃ H₃ fp x hx hcx).run H0 G₀ G pins s σ H Q I R q) hsw hs)
  fun H0 G₀ G σ H D R q=>⟨H0,G₀,G,R,fun J G' H' g wk=>a0B (R.more g) wk hb hw hz fun v G2 H2 g2 r2=>q G2 H2 _ (g.gg.trans g2.gg) (((R.more g).more g2).set r2)⟩
end
def gW (N:List Str) (ds:List PyData):List Ent:=ds.map .val++List.replicate (N.length - ds.length) .no
theorem fA {K:PySem.W.Frag} {G H:Hp} {N:List Str} {vs:List V} {ds:List PyData} (s:bR G H∧nF K G H) (r:RepAll K G vs ds):RepS K H G G H (start N vs) (gW N ds):=by
 have hl:=r.length
 refine ⟨.refl s.1,by simp [start,gW,hl],fun i o e h1 h2=>?_,Inj.free (fun i e h2=>?_),s.2⟩
 ·unfold gW at h2
  unfold start at h1
  by_cases hi:i<ds.length
  ·rw [List.getElem?_append_left (by simpa using hi),List.getElem?_map] at h2
   rw [List.getElem?_append_left (by simp;omega),List.getElem?_map] at h1
   rw [List.getElem?_eq_getElem hi] at h2
   obtain ⟨v,ev,rv⟩:=r.get (List.getElem?_eq_getElem hi)
   rw [ev] at h1
   cases h1;cases h2
   exact ⟨v,rfl,rv⟩
  ·rw [List.getElem?_append_right (by simpa using hi),List.getElem?_replicate] at h2
   split at h2
   ·cases h2;trivial
   ·cases h2
 ·unfold gW at h2
  by_cases hi:i<ds.length
  ·rw [List.getElem?_append_left (by simpa using hi),List.getElem?_map,List.getElem?_eq_getElem hi] at h2
   cases h2;rfl
  ·rw [List.getElem?_append_right (by simpa using hi),List.getElem?_replicate] at h2
   split at h2
   ·cases h2;rfl
   ·cases h2
section
variable {P:Program} {w:World} {K:PySem.W.Frag} {mg:Str→Option Value} {base:Heap}
abbrev fcx (P:Program) (w:World) (K:PySem.W.Frag) (mg:Str→Option Value) (base:Heap) (N:List Str) (qual:Str) (scope:Scope) (f:Addr) (cd:Value) (A:Around) (outer:List Env) (s:Shared) (H:Hp) (E:XK):Cx:=(a1B CX0 P w K mg base N qual scope f cd A outer s H E).nox
end
end L2.L3
namespace L2.L3
open PySem PySem.Spec PyProof.Rows
section
variable {prog:Program} {w:World} {A:Around} {E:Value→Shared→Prop} {s:Shared} {l:Addr} {us:List Value} {ns:List Int} {Q:Value→Shared→Prop}
theorem a1p (hi:IntsAre us ns):∃ xs:Array (Int×Tok),us.toArray=intItems xs∧ns=xs.toList.map (·.1):=by
 obtain ⟨xs,e⟩:=hi.allInts.items
 exact ⟨xs,e,by rw [←hi.numsOf,←nums_intItems,←e]⟩
theorem a9L (hh:A.handled=none) (hl:s.heap.IsList l us.toArray) (hi:IntsAre us ns) (hne:ns≠[])
  (h:∀ h' M t tk,(∀ b o,s.heap.get? b=some o→h'.get? b=some o)→M∈ns→(∀ a,a∈ns→a≤M)→Q (.int M t) { s with heap:=h',toks:=tk }) :
  wpAny (model prog w) A (call (.builtin "max") [.ref l]) Q E s:=by
 obtain ⟨xs,e,hns⟩:=a1p hi
 have hpos:0<xs.size:=by
  cases hx:ns with
  | nil=>exact absurd hx hne
  | cons a r=>
   have:ns.length=xs.size:=by rw [hns];simp
   rw [←this,hx];simp
 rw [e] at hl
 refine max_intList hh hl hpos fun v h' tk hv kp=>?_
 obtain ⟨t,rfl⟩:=intItems_at hv
 have best:=argBest_gt (numAt xs) (xs.size - 1)
 refine h h' _ t tk kp ?_ fun a ha=>?_
 ·rw [hns,numAt_eq]
  exact getD_mem (by rw [List.length_map,Array.length_toList];have:=best.1;omega)
 ·rw [hns] at ha
  obtain ⟨j,hj,rfl⟩:=mem_getD ha
  rw [List.length_map,Array.length_toList] at hj
  rw [←numAt_eq]
  exact best.2 j (by omega)
theorem a9P (hh:A.handled=none) (hl:s.heap.IsList l us.toArray) (hi:IntsAre us ns) (hne:ns≠[])
  (h:∀ h' M t tk,(∀ b o,s.heap.get? b=some o→h'.get? b=some o)→M∈ns→(∀ a,a∈ns→M≤a)→Q (.int M t) { s with heap:=h',toks:=tk }) :
  wpAny (model prog w) A (call (.builtin "min") [.ref l]) Q E s:=by
 obtain ⟨xs,e,hns⟩:=a1p hi
 have hpos:0<xs.size:=by
  cases hx:ns with
  | nil=>exact absurd hx hne
  | cons a r=>
   have:ns.length=xs.size:=by rw [hns];simp
   rw [←this,hx];simp
 rw [e] at hl
 refine min_intList hh hl hpos fun v h' tk hv kp=>?_
 obtain ⟨t,rfl⟩:=intItems_at hv
 have best:=argBest_lt (numAt xs) (xs.size - 1)
 refine h h' _ t tk kp ?_ fun a ha=>?_
 ·rw [hns,numAt_eq]
  exact getD_mem (by rw [List.length_map,Array.length_toList];have:=best.1;omega)
 ·rw [hns] at ha
  obtain ⟨j,hj,rfl⟩:=mem_getD ha
  rw [List.length_map,Array.length_toList] at hj
  rw [←numAt_eq]
  exact best.2 j (by omega)
end
section
variable {X:Cx}
theorem a5y (hc:X.calm=true):eM X (.builtin "max") (fun xs H Q=>∃ p ns,xs=[.ref p]∧SqL X.K H p (ns.map V.int)∧ns≠[]∧∀ M,M∈ns→(∀ a,a∈ns→a≤M)→Q (.int M) H):=by
 intro pins s σ H xs us Q I r ⟨p,ns,e,hq,hne,q⟩
 subst e
 obtain ⟨u,rfl,rx⟩:=vals1 r
 cases rx
 obtain ⟨its,rv,pl,hz⟩:=I.list hq
 exact a9L (I.ok.hd hc) pl.isList (intsAre_of rv) hne fun h' M t tk kp m1 m2=>⟨.int M,H,I.kept kp,⟨t,rfl⟩,q M m1 m2⟩
theorem a5w (hc:X.calm=true):eM X (.builtin "min") (fun xs H Q=>∃ p ns,xs=[.ref p]∧SqL X.K H p (ns.map V.int)∧ns≠[]∧∀ M,M∈ns→(∀ a,a∈ns→M≤a)→Q (.int M) H):=by
 intro pins s σ H xs us Q I r ⟨p,ns,e,hq,hne,q⟩
 subst e
 obtain ⟨u,rfl,rx⟩:=vals1 r
 cases rx
 obtain ⟨its,rv,pl,hz⟩:=I.list hq
 exact a9P (I.ok.hd hc) pl.isList (intsAre_of rv) hne fun h' M t tk kp m1 m2=>⟨.int M,H,I.kept kp,⟨t,rfl⟩,q M m1 m2⟩
variable {e a b c:Expr} {es:List Expr} {ρ:List Ent} {d:PyData} {ds:List PyData} {pos p:Pos}
def b2H:List Int→Int
 | []=>0
 | a::r=>r.foldl max a
def b2G:List Int→Int
 | []=>0
 | a::r=>r.foldl min a
theorem pH:∀ (r:List Int) (a:Int),a≤r.foldl max a∧∀ b∈r,b≤r.foldl max a
 | [],a=>⟨Int.le_refl _,fun _ h=>by cases h⟩
 | x::r,a=>by
  have ih:=pH r (max a x)
  rw [List.foldl_cons]
  refine ⟨by have:=ih.1;omega,fun b hb=>?_⟩
  rcases List.mem_cons.mp hb with rfl | hb
  ·have:=ih.1;omega
  ·exact ih.2 b hb
theorem nM:∀ (r:List Int) (a:Int),r.foldl max a=a∨r.foldl max a∈r
 | [],a=>.inl rfl
 | x::r,a=>by
  rw [List.foldl_cons]
  rcases nM r (max a x) with h | h
  ·by_cases hx:a≤x
   ·right;rw [h];simp [Int.max_def,hx]
   ·left;rw [h];simp [Int.max_def,hx]
  ·exact .inr (List.mem_cons_of_mem _ h)
theorem a9T {ns:List Int} {M:Int} (h1:M∈ns) (h2:∀ a,a∈ns→a≤M):M=b2H ns:=by
 cases ns with
 | nil=>cases h1
 | cons a r=>
  show M=r.foldl max a
  have g:=pH r a
  have m:=nM r a
  apply Int.le_antisymm
  ·rcases List.mem_cons.mp h1 with rfl | h1
   ·exact g.1
   ·exact g.2 M h1
  ·rcases m with m | m
   ·rw [m];exact h2 a List.mem_cons_self
   ·exact h2 _ (List.mem_cons_of_mem _ m)
theorem pG:∀ (r:List Int) (a:Int),r.foldl min a≤a∧∀ b∈r,r.foldl min a≤b
 | [],a=>⟨Int.le_refl _,fun _ h=>by cases h⟩
 | x::r,a=>by
  have ih:=pG r (min a x)
  rw [List.foldl_cons]
  refine ⟨by have:=ih.1;omega,fun b hb=>?_⟩
  rcases List.mem_cons.mp hb with rfl | hb
  ·have:=ih.1;omega
  ·exact ih.2 b hb
theorem nK:∀ (r:List Int) (a:Int),r.foldl min a=a∨r.foldl min a∈r
 | [],a=>.inl rfl
 | x::r,a=>by
  rw [List.foldl_cons]
  rcases nK r (min a x) with h | h
  ·by_cases hx:a≤x
   ·left;rw [h];simp [Int.min_def,hx]
   ·right;rw [h];simp [Int.min_def,hx]
  ·exact .inr (List.mem_cons_of_mem _ h)
theorem a9R {ns:List Int} {M:Int} (h1:M∈ns) (h2:∀ a,a∈ns→M≤a):M=b2G ns:=by
 cases ns with
 | nil=>cases h1
 | cons a r=>
  show M=r.foldl min a
  have g:=pG r a
  have m:=nK r a
  apply Int.le_antisymm
  ·rcases m with m | m
   ·rw [m];exact h2 a List.mem_cons_self
   ·exact h2 _ (List.mem_cons_of_mem _ m)
  ·rcases List.mem_cons.mp h1 with rfl | h1
   ·exact g.1
   ·exact g.2 M h1
def b4r (K:PySem.W.Frag):R2:=fun x y H Q=>∃ l b xs zs,x=.ref l∧y=.ref b∧SqL K H l xs∧SqL K H b zs∧xs.length+zs.length≤sizeLine∧∀ p,H p=none→Q (.ref p) (upd H p (.lst (xs++zs)))
end
end L2.L3
namespace L2.L3
open PySem PySem.Spec PyProof.Rows
def b1q (so:Scope) (NN:List Str) (scope:Scope) (N':List Str) (cap:List (Option Nat)):Bool:=
 decide (scope.kind=.function)&&scope.names.all (fun y=>decide (y.2=.cell→scope.names.lookup y.1=some .cell))&&scope.names.all (fun y=>decide (y.2=.local→scope.names.lookup y.1=some .local))
  && scope.names.all (fun y=>decide (y.2=.free→so.names.lookup y.1=some .cell))
  && (List.range cap.length).all (fun i=>match cap[i]? with
   | some (some j)=>(match N'[i]?,NN[j]? with | some x,some y=>decide (x=y∧scope.names.lookup x=some .free) | _,_=>false)
   | _=>true)
  && decide (cap.length=N'.length)&&decide N'.Nodup
theorem bU {X:Cx} {scope so:Scope} {N' NN:List Str} {cap:List (Option Nat)} (hs:X.env.scope=so) (hN:X.N=NN) (h:b1q so NN scope N' cap=true):Blk X scope N' cap:=by
 unfold b1q at h
 simp only [Bool.and_eq_true,decide_eq_true_eq,List.all_eq_true] at h
 obtain ⟨⟨⟨⟨⟨⟨h1,h2⟩,h3⟩,h4⟩,h5⟩,h6⟩,h7⟩:=h
 refine ⟨h1,h2,h3,fun y hy hk=>?_,fun i j hij=>?_,h6,h7⟩
 ·show X.env.scope.names.lookup y.1=some .cell
  rw [hs]
  exact h4 y hy hk
 ·have hi:i<cap.length:=(List.getElem?_eq_some_iff.mp hij).1
  have q:=h5 i (List.mem_range.mpr hi)
  rw [hij] at q
  dsimp only at q
  cases e1:N'[i]? with
  | none=>rw [e1] at q;cases q
  | some x=>
   rw [e1] at q
   cases e2:NN[j]? with
   | none=>rw [e2] at q;cases q
   | some y=>
    rw [e2] at q
    have q':x=y∧scope.names.lookup x=some .free:=of_decide_eq_true q
    exact ⟨x,rfl,by rw [hN,e2,q'.1],q'.2⟩
section
variable {X:Cx} {e a b c:Expr} {es:List Expr} {ρ:List Ent} {d da db dc:PyData} {ds:List PyData} {pos p:Pos}
end
abbrev Mt:=Str×Int×Int
abbrev dM (m:Mt):PyData:=.tuple [.str m.1,.int m.2.1,.int m.2.2]
abbrev dS (s:List Mt):PyData:=.tuple (s.map dM)
end L2.L3
namespace L2.L3
open PySem PySem.Spec PyProof.Rows
section
variable {prog:Program} {w:World} {A:Around} {R:Result→Shared→Prop} {I S:Addr} {fp wr:List Addr} {n:Nat} {P:Nat→Value→Prop} {St:Nat→Heap→Prop} {kw:List (Str×Value)}
end
end L2.L3
namespace L2.L3
open PySem PySem.Spec PyProof.Rows
section
variable {prog:Program} {w:World} {A:Around} {E:Value→Shared→Prop} {s:Shared} {l:Addr} {us:List Value} {ns:List Int} {Q:Value→Shared→Prop}
end
end L2.L3
namespace L2.L3
open PySem PySem.Spec PyProof.Rows
section
variable {X:Cx} {a b:Expr} {ρ:List Ent} {db:PyData} {pos p kp:Pos}
end
end L2.L3
namespace L2.L3
open PySem PySem.Spec PyProof.Rows
section
variable {X:Cx}
theorem a9E:OpR X (binaryOp .Add) (b4r X.K):=by
 intro pins s σ H x y v u Q I rx ry ⟨l,b,xs,zs,e1,e2,h1,h2,hz,q⟩
 subst e1 e2
 cases rx
 cases ry
 obtain ⟨its,r1,p1,_⟩:=I.list h1
 obtain ⟨its2,r2,p2,_⟩:=I.list h2
 obtain ⟨⟨c1,d1,t1,sl1⟩,n1,g1,k1,_,m1⟩:=p1
 obtain ⟨⟨c2,d2,t2,sl2⟩,n2,g2,k2,_,m2⟩:=p2
 dsimp only at k1 m1 k2 m2
 subst k1 m1 k2 m2
 have hz':its.toArray.size+its2.toArray.size≤sizeLine:=by rw [List.size_toArray,List.size_toArray,←r1.length,←r2.length];exact hz
 refine concat_meets ⟨_,g1,rfl⟩ ⟨_,g2,rfl⟩ noFill_list_add seq_list_add F.slot_list_add F.entry_list_add (F.args_list_add_2 _ _) (list_addW l b _ _ n1 n2 d1 d2 sl1 sl2 hz') ⟨g1,g2,?_⟩
 have ea:its.toArray++its2.toArray=(its++its2).toArray:=by simp
 rw [ea]
 exact ⟨.ref _,_,I.lnew (t':=s.toks) (r1.append r2) (by rw [List.length_append];exact hz),rfl,q _ I.fresh⟩
def b4p (K:PySem.W.Frag):R2:=fun x y H Q=>∃ l b xs zs,x=.ref l∧y=.ref b∧SqT K H l xs∧SqT K H b zs∧xs.length+zs.length≤sizeLine ∧
 (xs=[]→Q (.ref b) H)∧(xs≠[]→zs=[]→Q (.ref l) H)∧(xs≠[]→zs≠[]→∀ p,H p=none→Q (.ref p) (upd H p (.tup (xs++zs))))
theorem a9C:OpR X (binaryOp .Add) (b4p X.K):=by
 intro pins s σ H x y v u Q I rx ry ⟨l,b,xs,zs,e1,e2,h1,h2,hz,q0,q1,q2⟩
 by_cases hx:xs=[]
 ·subst e1 e2
  cases rx
  cases ry
  obtain ⟨its,r1,p1,_⟩:=I.tuple h1
  obtain ⟨its2,r2,p2,_⟩:=I.tuple h2
  obtain ⟨⟨c1,d1,t1,sl1⟩,g1,k1,n1,m1⟩:=p1
  obtain ⟨⟨c2,d2,t2,sl2⟩,g2,k2,n2,m2⟩:=p2
  dsimp only at k1 m1 k2 m2
  subst k1 m1 k2 m2
  have hi:its=[]:=by
   subst hx
   cases r1
   rfl
  refine concat_meets ⟨_,g1,rfl⟩ ⟨_,g2,rfl⟩ noFill_tuple_add seq_tuple_add F.slot_tuple_add F.entry_tuple_add (F.args_tuple_add_2 _ _) (tuple_addW0 l b _ _ n1 n2 d1 d2 sl1 sl2 (by rw [hi];rfl)) ⟨g1,g2,?_⟩
  exact ⟨.ref b,H,I,rfl,q0 hx⟩
 ·exact a9D pins s σ H x y v u Q I rx ry ⟨l,b,xs,zs,e1,e2,h1,h2,hx,hz,q1 hx,q2 hx⟩
variable {e a b c o:Expr} {es:List Expr} {ρ:List Ent} {d da db dc:PyData} {ds:List PyData} {pos p:Pos}
theorem a0W {T id:String} {name:Str} {r:V→List V→Hp→VK→Prop} {apos cpos:Pos} (pa:PlainAttrs T) (slot:Slot T name id) (hty:typeOf (.builtin id)=pure (.type "method_descriptor")) (hm:MtR X id r)
  (ho:PD X o ρ da) (ha:PAD X (e::es) ρ ds) (ht:∀ x G H,bR G H→Rep X.K G x da→tyV X.K T x H)
  (k:∀ x vs G H Q,bR G H→Rep X.K G x da→RepAll X.K G vs ds→(∀ v G' H',Grow G H G' H'→Rep X.K G' v d→Q v H')→r x vs H Q)
  (hbase:attributeBase o name X.env (eval o X.env)=eval o X.env:=by rfl)
  (hfew:((backTo cpos (starEach (e::es) X.env)).all (fun x=>!x.1)&&(backToKw cpos (keywordEach [] X.env)).all (fun x=>x.1.isSome)
   && decide ((e::es).length+([]:List Keyword).length+(if ([]:List Keyword).isEmpty then 0 else 1)<30))=true:=by rfl)
  (hline:(apos.endLine==cpos.line)=true:=by rfl) (hs:starEach (e::es) X.env=(false,eval e X.env)::starEach es X.env:=by rfl) (hplain:(backTo cpos (starEach es X.env)).any (·.1)=false:=by rfl) :
  PD X (.Call (.Attribute o name apos) (e::es) [] cpos) ρ d:=
 .of (a6O pa slot hty hm ho.pe ha.pa hbase hfew hline hs hplain) fun H0 G₀ G σ H Q R q=>⟨H0,G₀,G,R,fun x G1 H1 g1 r1=>⟨ht x G1 H1 g1.sub r1,H0,G₀,G1,R.more g1,fun vs G2 H2 g2 r2=>
  k x vs G2 H2 Q g2.sub (r1.mono g2.gg) r2 fun v G3 H3 g3 r3=>q v G3 H3 (g1.trans (g2.trans g3)) r3⟩⟩
theorem b0G {i j:Int}:CmpD X .Eq (.int i) (.int j) (decide (i=j)):=⟨_,a6V,fun x y G H Q _ rx ry q=>by cases rx;cases ry;exact ⟨rfl,by simpa using q⟩⟩
theorem b0A {i j:Int}:CmpD X .NotEq (.int i) (.int j) (!decide (i=j)):=⟨_,a6T,fun x y G H Q _ rx ry q=>by cases rx;cases ry;exact ⟨rfl,by simpa using q⟩⟩
theorem b0F {i j:Str}:CmpD X .Eq (.str i) (.str j) (decide (i=j)):=⟨_,a6V,fun x y G H Q _ rx ry q=>by cases rx;cases ry;exact ⟨rfl,by simpa using q⟩⟩
theorem b0z {i j:Str}:CmpD X .NotEq (.str i) (.str j) (!decide (i=j)):=⟨_,a6T,fun x y G H Q _ rx ry q=>by cases rx;cases ry;exact ⟨rfl,by simpa using q⟩⟩
theorem b0H {i j:Bool}:CmpD X .Eq (.bool i) (.bool j) (decide (i=j)):=⟨_,a6V,fun x y G H Q _ rx ry q=>by cases rx;cases ry;exact ⟨rfl,by simpa using q⟩⟩
theorem b0B {i j:Bool}:CmpD X .NotEq (.bool i) (.bool j) (!decide (i=j)):=⟨_,a6T,fun x y G H Q _ rx ry q=>by cases rx;cases ry;exact ⟨rfl,by simpa using q⟩⟩
end
end L2.L3
namespace L2.L3
open PySem PySem.Spec PyProof.Rows
structure Callee (P:Program) (w:World) (K:PySem.W.Frag) (mg:Str→Option Value) (base:Heap) (x:Str) (k:Nat) (ps:List Str) (Fn:List PyData→PyData→Prop):Prop where
 ex:∃ f fd,mg x=some (.ref f)∧PySem.W.keepIn K (.ref f)=true∧Binds K fd ps []∧FnOk P w K mg base CX0 k f fd ps (spD K Fn)
structure Def (K:PySem.W.Frag) (mg:Str→Option Value) (x:Str) (st:Stmt):Prop where
 ex:∃ f fd,Fun K x x st f fd∧mg x=some (.ref f)
theorem def_mk {K:PySem.W.Frag} {h:Heap} {mg:Str→Option Value} {x:Str} {st:Stmt} {f:Addr} {oc:Value} {od an:Option Addr} {sl:Array (Option Value)} {kV doc pm cdv ct:Value} (X:K.In h) (G:h.Ns mainGlobals mg)
  (a:PySem.W.nsIn K mainGlobals x=some (some (.ref f))) (l:K.lookup f=some ⟨oc,od,.func (PySem.W.fnOf x x (fR st) (cN st) (aG st) .none kV doc pm an cdv ct),sl⟩) (c:PySem.W.codeIn K cdv x=true) (k:PySem.W.keepIn K (.ref f)=true) :
  Def K mg x st:=⟨f,_,a7Q l c k,PySem.W.mg_of X G a⟩
section
variable {P:Program} {w:World} {K:PySem.W.Frag} {mg:Str→Option Value} {base:Heap} {X:Cx} {e:Expr} {es:List Expr} {ρ:List Ent} {d:PyData} {ds:List PyData} {pos p:Pos} {x:Str} {k:Nat} {ps N:List Str} {Fn:List PyData→PyData→Prop}
end
theorem a8a (a b:List PyData):PyData.eqv (.list a) (.list b)=PyData.eqvAll a b:=by rw [PyData.eqv]
theorem a5j (a b:List PyData):PyData.eqv (.tuple a) (.tuple b)=PyData.eqvAll a b:=by rw [PyData.eqv]
theorem rQ:∀ a b:List Str,PyData.eqvAll (a.map .str) (b.map .str)=decide (a=b)
 | [],[]=>by simp [PyData.eqvAll]
 | [],_::_=>by simp [PyData.eqvAll]
 | _::_,[]=>by simp [PyData.eqvAll]
 | x::a,y::b=>by
  have ih:=rQ a b
  simp only [List.map_cons,PyData.eqvAll,ih,PyData.eqv]
  by_cases h:x=y
  ·subst h;by_cases h2:a=b<;>simp [h2]
  ·simp [h]
theorem b3h (a b:Mt):PyData.eqv (dM a) (dM b)=decide (a=b):=by
 obtain ⟨a1,a2,a3⟩:=a
 obtain ⟨b1,b2,b3⟩:=b
 simp only [dM,PyData.eqv,PyData.eqvAll]
 by_cases h1:a1=b1<;>by_cases h2:a2=b2<;>by_cases h3:a3=b3<;>simp [h1,h2,h3]
theorem xU:∀ a b:List Mt,PyData.eqvAll (a.map dM) (b.map dM)=decide (a=b)
 | [],[]=>by simp [PyData.eqvAll]
 | [],_::_=>by simp [PyData.eqvAll]
 | _::_,[]=>by simp [PyData.eqvAll]
 | x::a,y::b=>by
  have ih:=xU a b
  rw [List.map_cons,List.map_cons,PyData.eqvAll,ih,b3h]
  by_cases h:x=y
  ·subst h;by_cases h2:a=b<;>simp [h2]
  ·simp [h]
theorem pN {ds:List PyData} (h:∀ d∈ds,PyData.canLay0 d=true):PyData.canLayAll0 ds=true:=by
 induction ds with
 | nil=>rfl
 | cons d r ih=>
  rw [PyData.canLayAll0,h d List.mem_cons_self,ih fun e he=>h e (List.mem_cons_of_mem _ he)]
  rfl
theorem mE {ds:List PyData} {n:Nat} (h:∀ d∈ds,PyData.depth d≤n):PyData.depthAll ds≤n:=by
 induction ds with
 | nil=>simp [PyData.depthAll]
 | cons d r ih=>
  have h1:=h d List.mem_cons_self
  have h2:=ih fun e he=>h e (List.mem_cons_of_mem _ he)
  simp only [PyData.depthAll]
  omega
theorem wN {d:PyData} {n:Nat} (h1:PyData.canLay0 d=true) (h2:PyData.depth d≤n) (h3:n≤64):SeqAt.shaped d=true:=by
 unfold SeqAt.shaped
 rw [h1,Bool.true_and]
 exact decide_eq_true (Nat.le_trans h2 h3)
end L2.L3
namespace L2.L3
open PySem PySem.Spec PyProof.Rows
section
variable {X:Cx} {e a b c o:Expr} {es:List Expr} {ρ:List Ent} {d da db dc:PyData} {ds:List PyData} {pos p p2:Pos}
def cutD (xs:List PyData) (lo hi:Option Int):List PyData:=(xs.drop (HT.sIx xs.length 0 lo)).take (HT.sIx xs.length xs.length hi - HT.sIx xs.length 0 lo)
theorem pK {K:PySem.W.Frag} {G:Hp} {xs:List V} (r:RepAll K G xs ds) (lo hi:Option Int):RepAll K G (a1C xs lo hi) (cutD ds lo hi):=by
 unfold a1C cutD
 rw [r.length]
 exact (r.drop _).take _
theorem a5r (ds:List PyData) {k:Int} (h:0≤k):cutD ds (some k) none=ds.drop k.toNat:=by
 have e:HT.sIx ds.length 0 (some k)=min k.toNat ds.length:=by
  show (if k<0 then (k+(ds.length:Int)).toNat else min k.toNat ds.length)=_
  rw [if_neg (by omega)]
 unfold cutD
 rw [e,HT.sIx_none]
 by_cases hk:k.toNat≤ds.length
 ·rw [Nat.min_eq_left hk,List.take_of_length_le (by rw [List.length_drop];exact Nat.le_refl _)]
 ·rw [Nat.min_eq_right (by omega),List.drop_of_length_le (Nat.le_refl _),List.drop_of_length_le (by omega),List.take_nil]
theorem a5q (ds:List PyData) {k:Int} (h:0≤k):cutD ds none (some k)=ds.take k.toNat:=by
 have e:HT.sIx ds.length ds.length (some k)=min k.toNat ds.length:=by
  show (if k<0 then (k+(ds.length:Int)).toNat else min k.toNat ds.length)=_
  rw [if_neg (by omega)]
 unfold cutD
 rw [e,HT.sIx_none,List.drop_zero,Nat.sub_zero]
 by_cases hk:k.toNat≤ds.length
 ·rw [Nat.min_eq_left hk]
 ·rw [Nat.min_eq_right (by omega),List.take_of_length_le (Nat.le_refl _),List.take_of_length_le (by omega)]
theorem a6P (i:Nat) {x:Str} {k:Int} (h:ρ[i]?=some (.lst ds)) (hb:PD X b ρ (.int k)) (hk:atI ds k=some d) (hs:sQ b:=by exact fun _ _=>rfl) (hN:X.N[i]?=some x:=by rfl)
  (hv:Vis X.env.scope x:=by first | exact Or.inl rfl | exact Or.inr (Or.inl rfl) | exact Or.inr (Or.inr rfl)) (hd:(x==("__debug__" : Str))=false:=by decide) (hcd:(x==("__classdict__" : Str))=false:=by decide) :
  PD X (.Subscript (.Name x p) b pos) ρ d:=
 .of (b0Z a3K (jP hN hv hd hcd) hb.pe hs) fun H0 G₀ G σ H Q R q=>by
  obtain ⟨a,xs,e1,h1,_,_,r⟩:=R.own h
  obtain ⟨v,ev,rv⟩:=a0s r hk
  exact ⟨_,e1,H0,G₀,G,R,fun y G1 H1 g1 r1=>by cases r1;exact ⟨a,xs,k,v,rfl,rfl,.of (g1.hh.lst h1),ev,q v G1 H1 g1 (rv.mono g1.gg)⟩⟩
theorem a7D {ns:List Int} {i:Int}:inV (.int i) (ns.map V.int)=decide (i∈ns):=by
 unfold inV
 induction ns with
 | nil=>rfl
 | cons a r ih=>
  rw [List.map_cons,List.any_cons,ih]
  have e:eqV (.int a) (.int i)=decide (a=i):=rfl
  rw [e]
  by_cases h:a=i
  ·subst h;simp
  ·have h':¬i=a:=fun z=>h z.symm
   simp [h,h']
theorem a7C {ns:List Str} {i:Str}:inV (.str i) (ns.map V.str)=decide (i∈ns):=by
 unfold inV
 induction ns with
 | nil=>rfl
 | cons a r ih=>
  rw [List.map_cons,List.any_cons,ih]
  have e:eqV (.str a) (.str i)=(a==i):=rfl
  rw [e]
  by_cases h:a=i
  ·subst h;simp
  ·have h':¬i=a:=fun z=>h z.symm
   simp [h,h']
theorem a5h (ns:List Int):(ns.map V.int).all lH=true:=by simp [lH]
theorem a5g (ns:List Str):(ns.map V.str).all lH=true:=by simp [lH]
end
end L2.L3
namespace L2.L3
open PySem PySem.Spec PyProof.Rows
def tyD:PyData→String
 | .none => "NoneType"
 | .bool _ => "bool"
 | .int _ => "int"
 | .str _ => "str"
 | .list _ => "list"
 | .tuple _ => "tuple"
 | .dict _ => "dict"
example (K:PySem.W.Frag):PySem.W.kitOne K (.type "int") (.type "int")=some true:=by rfl
example (K:PySem.W.Frag):PySem.W.kitOne K (.type "bool") (.type "int")=some true:=by rfl
example (K:PySem.W.Frag):PySem.W.kitOne K (.type "str") (.type "int")=some false:=by rfl
section
variable {X:Cx} {e a b c o:Expr} {es:List Expr} {ρ:List Ent} {d da db dc:PyData} {ds:List PyData} {pos p p2:Pos}
theorem a7y {pins:List (Addr×Obj)} {σ:St} {H:Hp} {s:Shared} {A:Around} {E:Value→Shared→Prop} {Q:Value→Shared→Prop} {cv u:Value} {t:Bool} {v:V} (I:Inv X pins σ H s) (r:Rep X.K H v d) (rx:RelV v u)
  (e:PySem.W.kitOne X.K (.type (tyD d)) cv=some t) (h:∀ tk,Q (.bool t) { s with toks:=tk }):wpAny (model X.prog X.w) A (call (.builtin "isinstance") [u,cv]) Q E s:=by
 cases r with
 | none=>exact kE I rx .non e h
 | bool x=>exact kE I rx (.bl x) e h
 | int x=>exact kE I rx (.int x) e h
 | str x=>exact kE I rx (.str x) e h
 | list hq ra=>
  cases rx
  obtain ⟨its,_,⟨o,n,e1,e2,_⟩,_⟩:=I.list hq
  exact PySem.W.kia_one PySem.W.kitx_list I.kIn ⟨o,e1,e2⟩ e (fun z=>nomatch z) h
 | tuple hq ra=>
  cases rx
  obtain ⟨its,_,⟨o,e1,e2,_⟩,_⟩:=I.tuple hq
  exact PySem.W.kia_one PySem.W.kitx_tuple I.kIn ⟨o,e1,e2⟩ e (fun z=>nomatch z) h
 | dict hq _ _=>exact kE I rx (.dK hq) e h
end
end L2.L3
namespace L2.L3
open PySem PySem.Spec PyProof.Rows
theorem yJ:∀ {bs:List Bool} {us:List Value},aY (bs.map V.bl) us→us=bs.map Value.bool
 | [],_,r=>by cases r;rfl
 | b::bs,_,r=>by
  cases r with
  | cons r1 r2=>cases r1;rw [yJ r2];rfl
theorem range_all (bs:List Bool):((List.range bs.length).all fun i=>bs.getD i false)=bs.all id:=by
 rw [Bool.eq_iff_iff]
 simp only [List.all_eq_true,List.mem_range]
 constructor
 ·intro h b hb
  obtain ⟨i,hi,rfl⟩:=List.mem_iff_getElem.mp hb
  have:=h i hi
  simpa [List.getD,List.getElem?_eq_getElem hi] using this
 ·intro h i hi
  have:=h bs[i] (List.getElem_mem hi)
  simpa [List.getD,List.getElem?_eq_getElem hi] using this
section
variable {X:Cx} {e a b c o:Expr} {es:List Expr} {ρ:List Ent} {d da db dc:PyData} {ds:List PyData} {pos p p2:Pos}
theorem a5C (hc:X.calm=true):eM X (.builtin "all") (fun xs H Q=>∃ (p:Addr) (bs:List Bool),xs=[.ref p]∧SqL X.K H p (bs.map V.bl)∧Q (.bl (bs.all id)) H):=by
 intro pins s σ H xs us Q I r ⟨p,bs,e,hq,q⟩
 subst e
 obtain ⟨u,rfl,rx⟩:=vals1 r
 cases rx
 obtain ⟨its,rv,pl,hz⟩:=I.list hq
 have ev:=yJ rv
 subst ev
 have hl:=pl.isList
 have lt:p<s.heap.objs.size:=by obtain ⟨o,g,_⟩:=hl;exact Heap.lt_size g
 refine call_all_walk (wpAny_pyIter_list hl ?_)
 refine ⟨s.heap.objs.size,_,_,_,_,_,fun i=>bs.getD i false,rfl,Walks.list (A:=X.A.in1) (I.ok.hd hc) _ p (Nat.ne_of_lt lt) (bs.map Value.bool).toArray,⟨⟨_,Heap.get?_push_size _ rfl,rfl,rfl⟩,hl.push _⟩,fun i v s' Q' E' hP hQ=>?_,fun h' tk kp=>?_⟩
 ·have hP:(bs.map Value.bool).toArray[i]?=some v:=hP
  rw [List.getElem?_toArray,List.getElem?_map] at hP
  cases eb:bs[i]? with
  | none=>rw [eb] at hP;cases hP
  | some b=>
   rw [eb] at hP
   cases hP
   refine wpAny_truthy_bool ?_
   have:bs.getD i false=b:=by rw [List.getD,eb];rfl
   rw [←this]
   exact hQ
 ·have sz:(bs.map Value.bool).toArray.size=bs.length:=by simp
  rw [sz,range_all]
  refine ⟨.bl _,H,I.kept (fun b o g=>kp b o ?_ (Heap.get?_push_of_some _ g)),rfl,q⟩
  intro hb
  have z:b=s.heap.objs.size:=by simpa using hb
  exact absurd (Heap.lt_size g) (by rw [z];exact Nat.lt_irrefl _)
theorem eP {K:PySem.W.Frag} {G:Hp}:∀ ns:List Int,RepAll K G (ns.map V.int) (ns.map .int)
 | []=>.nil
 | _::r=>.cons (.int _) (eP r)
def sortI (ns:List Int):List Int:=ns.mergeSort (fun a b=>decide (a≤b))
theorem sortI_perm (ns:List Int):(sortI ns).Perm ns:=List.mergeSort_perm _ _
theorem yR (ns:List Int):(sortI ns).Pairwise (·≤·):=by
 have h:=List.pairwise_mergeSort (le:=fun (a b:Int)=>decide (a≤b)) (fun a b c h1 h2=>by simp only [decide_eq_true_eq] at *;omega) (fun a b=>by simp only [Bool.or_eq_true,decide_eq_true_eq];omega) ns
 exact h.imp fun h=>by simpa using h
theorem sortI_eq {ns ms:List Int} (hp:ms.Perm ns) (hs:ms.Pairwise (·≤·)):ms=sortI ns:=PySem.W.ksm_same (hp.trans (sortI_perm ns).symm) hs (yR ns)
theorem a0k:eM X (.builtin "sorted") (fun xs H Q=>∃ (p:Addr) (ns:List Int),xs=[.ref p]∧SqL X.K H p (ns.map V.int)∧ns.length<64∧∀ l,H l=none→Q (.ref l) (upd H l (.lst ((sortI ns).map V.int)))):=by
 intro pins s σ H xs us Q I r ⟨p,ns,e,hq,h64,q⟩
 subst e
 obtain ⟨u,rfl,rx⟩:=vals1 r
 cases rx
 obtain ⟨its,rv,pl,hz⟩:=I.list hq
 have hi:=intsAre_of rv
 refine sorted_ints pl.isList hi (by rw [hi.length];exact h64) fun out ns' ho hp hs=>?_
 have e:=sortI_eq hp hs
 subst e
 obtain ⟨ep,g⟩:=sortedAll_at s.heap its out
 have hf:H (s.heap.objs.size+1)=none:=I.hok.fresh (Nat.le_succ _)
 refine ⟨.ref (s.heap.objs.size+1),_,I.laid (t':=s.toks) (fun b o g=>sortedAll_old g) (Nat.le_succ _) ?_,rfl,q _ hf⟩
 refine ⟨?_,out.toList,ep,kA ho,?_⟩
 ·rw [List.length_map,(sortI_perm ns).length_eq]
  exact Nat.le_of_lt (fX (by omega))
 ·rw [g]
end
end L2.L3
namespace L2.L3
open PySem PySem.Spec PyProof.Rows
def Its (n:Nat) (val:Nat→V):It:=⟨fun i _=>i<n,fun i H x H'=>H'=H∧x=val i,fun i _=>n≤i⟩
theorem a2b {P:Program} {w:World} {K:PySem.W.Frag} {x:Str} {px:Pos} {it:Addr} {n:Nat} {PP:Nat→Value→Prop} {St:Nat→Heap→Prop} {val:Nat→V} (W:∀ A':Around,A'.handled=none→Walks P w A' it [it] [it] n PP St)
  (hobj:∀ i h,St i h→∃ o,h.get? it=some o∧∀ v,o.data≠.cell v) (hv:∀ i u,i<n→PP i u→RelV (val i) u)
  (hself:∀ (A:Around) (i:Nat) (s:Shared) (Q:Value→Shared→Prop) (E:Value→Shared→Prop),St i s.heap→Q (.ref it) s→wpAny (model P w) A (pyIter (.ref it)) Q E s):Turn P w K (.Name x px) (Its n val) [it] it (fun i h=>i≤n∧St i h) where
 mem:=by simp
 obj:=fun i h st b hb=>by
  have e:b=it:=by simpa using hb
  subst e
  exact hobj i h st.2
 keep:=fun i h h' st k=>⟨st.1,(W {} rfl).frame i h h' st.2 k⟩
 item:=by
  intro X hP hw hK hc i pins s σ H E I hf st hg
  subst hP hw hK
  obtain ⟨f0,f1,f2,f3,f4,f5⟩:=hf it (by simp)
  refine (W X.A (I.ok.hd hc)).item i s _ _ hg st.2 fun u h' tk pu st' kk=>⟨u,rfl,wpAny_pure ?_⟩
  have I1:Inv X pins σ H { s with heap:=h',toks:=tk }:=I.turned (fun b o hb e=>kk b o (by simpa using hb) e) f0 f1 f3 f4 f5
  exact ⟨val i,H,I1,hv i u hg pu,⟨rfl,rfl⟩,⟨hg,st'⟩,fun b hb=>(hf b hb).1⟩
 done:=by
  intro X hP hw hK hc i pins s σ H E I hf st hg
  subst hP hw hK
  obtain ⟨f0,f1,f2,f3,f4,f5⟩:=hf it (by simp)
  have e:i=n:=Nat.le_antisymm st.1 hg
  subst e
  exact (W X.A (I.ok.hd hc)).done s _ _ st.2 fun h' tk kk=>⟨rfl,I.turned (fun b o hb e=>kk b o (by simpa using hb) e) f0 f1 f3 f4 f5⟩
 self:=fun A i s Q E st h=>hself A i s Q E st.2 h
def lettersOf (z:Str):List Str:=z.cps.toList.map fun c=>⟨#[c]⟩
section
variable {X:Cx} {iter a b:Expr} {ρ:List Ent} {p pos px:Pos} {x:Str}
theorem a9p {z:Str} (h:PD X iter ρ (.str z)) (hc:X.calm=true):PID X (.Name x px) iter ρ ((lettersOf z).map .str):=by
 refine ⟨?_⟩
 intro pins s σ H R I ⟨H0,G₀,G,S,q⟩
 refine thn (h.run H0 G₀ G pins s σ H (fun v H'=>v=.str z∧∃ G',Grow G H G' H') I S fun v G' H' g r=>by cases r;exact ⟨rfl,G',g⟩) fun v s1 ⟨y,H1,I1,r1,e1,G1,g1⟩=>?_
 subst e1
 obtain ⟨t,rfl⟩:=r1
 have wk:Walk X.K (Its z.cps.size fun i=>.str ⟨#[z.cps.getD i 0]⟩) G1 ((lettersOf z).map .str):=by
  intro i G' H' s1 s2
  have hl:((lettersOf z).map PyData.str).length=z.cps.size:=by simp [lettersOf]
  refine ⟨fun d e=>?_,fun hle=>by rw [hl] at hle;exact hle⟩
  have hi:i<z.cps.size:=by
   have:=(List.getElem?_eq_some_iff.mp e).1
   rw [hl] at this
   exact this
  refine ⟨hi,fun y H2 ⟨e2,e3⟩=>?_⟩
  subst e2 e3
  refine ⟨G',.refl s2,?_⟩
  have ed:d=.str ⟨#[z.cps.getD i 0]⟩:=by
   unfold lettersOf at e
   rw [List.getElem?_map,List.getElem?_map,Array.getElem?_toList,Array.getElem?_eq_getElem hi] at e
   have:=Option.some.inj e
   rw [←this]
   simp [Array.getD,hi]
  rw [ed]
  exact .str _
 have hv:∀ i u,i<z.cps.size→SignAt z i u→RelV (.str ⟨#[z.cps.getD i 0]⟩) u:=by
  rintro i u hi ⟨c,t',ec,rfl⟩
  refine ⟨t',?_⟩
  rw [Array.getElem?_eq_getElem hi] at ec
  have:=Option.some.inj ec
  simp [Array.getD,hi,this]
 have fin:∀ (cl:String) (o:Obj),o={ cls:=.type cl,data:=.fields #[.str z t,.int 0 0] }→(∀ A':Around,A'.handled=none→Walks X.prog X.w A' s1.heap.objs.size [s1.heap.objs.size] [s1.heap.objs.size] z.cps.size (SignAt z) (fun i h=>h.IsStrIter s1.heap.objs.size cl z t i)) →
   (∀ (A:Around) (i:Nat) (s:Shared) (Q:Value→Shared→Prop) (E:Value→Shared→Prop),s.heap.IsStrIter s1.heap.objs.size cl z t i→Q (.ref s1.heap.objs.size) s→wpAny (model X.prog X.w) A (pyIter (.ref s1.heap.objs.size)) Q E s) →
   PIE X pins σ (.Name x px) R (.ref s1.heap.objs.size) { s1 with heap:=s1.heap.push o }:=by
  intro cl o eo W hself
  subst eo
  refine ⟨s1.heap.objs.size,[s1.heap.objs.size],_,_,H1,rfl,I1.kept (t':=s1.toks) fun b o e=>Heap.get?_push_of_some _ e,a2b W (fun i h ⟨o,g,_,gd⟩=>⟨o,g,fun v z=>by rw [gd] at z;cases z⟩) hv hself,⟨Nat.zero_le _,⟨_,Heap.get?_push_size _ rfl,rfl,rfl⟩⟩,fun b hb=>?_,q _ G1 H1 g1 wk⟩
  have e:b=s1.heap.objs.size:=by simpa using hb
  subst e
  exact I1.fpOk (Nat.le_refl _) (I1.hok.fresh (Nat.le_refl _))
 cases ha:z.cps.all (·<128)
 ·exact wpAny_pyIter_wide ha (fin "str_iterator" _ rfl (fun A' hA=>Walks.strWide hA _ z t) fun A i s Q E st hq=>wpAny_pyIter_striter_wide st hq)
 ·exact wpAny_pyIter_ascii ha (fin "str_ascii_iterator" _ rfl (fun A' hA=>Walks.strAscii hA _ z t) fun A i s Q E st hq=>wpAny_pyIter_striter_ascii st hq)
theorem b0C {i j:Str}:CmpD X .LtE (.str i) (.str j) (!decide (j.cps.toList<i.cps.toList)):=⟨fun x y H Q=>∃ i j,x=V.str i∧y=V.str j∧Q (.bl (!decide (j.cps.toList<i.cps.toList))) H,by
 intro pins s σ H x y v u Q I rx ry ⟨i,j,e1,e2,q⟩
 subst e1 e2
 obtain ⟨t,rfl⟩:=rx
 obtain ⟨t',rfl⟩:=ry
 exact PySem.P.le_str ⟨.bl _,H,I,rfl,q⟩,fun x y G H Q _ rx ry q=>by cases rx;cases ry;exact ⟨_,_,rfl,rfl,q⟩⟩
end
end L2.L3
namespace L2.L3
open PySem PySem.Spec PyProof.Rows
theorem cM.there {P:Program} {w:World} {H:Hp} {h:Heap} {a:Addr} {o:HO} (x:cM P w H h a o):∃ u,h.get? a=some u:=by
 cases o with
 | lst xs=>obtain ⟨_,_,_,_,e⟩:=x;exact ⟨_,e⟩
 | tup xs=>obtain ⟨_,_,_,u,e,_⟩:=x;exact ⟨u,e⟩
 | dK kvs=>obtain ⟨_,_,_,_,o,_,_,e,_⟩:=x;exact ⟨_,e⟩
 | dT kvs=>obtain ⟨_,_,_,_,o,_,_,e,_⟩:=x;exact ⟨_,e⟩
 | set S n=>obtain ⟨o,_,_,_,e,_⟩:=x;exact ⟨_,e⟩
 | ins C dx fs=>obtain ⟨_,_,_,e,_⟩:=x;exact ⟨_,e⟩
 | own y=>exact x
 | xd fs=>obtain ⟨_,⟨_,_,_,e,_⟩,_⟩:=x;exact ⟨_,e⟩
 | rng lo hi=>obtain ⟨_,_,_,e⟩:=x;exact ⟨_,e⟩
 | frz ob u=>obtain ⟨e,_⟩:=x;exact ⟨_,e⟩
 | tbl ps=>exact ⟨_,show h.get? a=some _ from x⟩
 | met f y=>exact ⟨_,show h.get? a=some _ from x⟩
 | ext φ=>exact x.2.1
theorem a7E {P:Program} {w:World} {H:Hp} {h:Heap} {a:Addr} (x:HOk P w H h) (e:h.get? a=none):H a=none:=by
 cases q:H a with
 | none=>rfl
 | some u=>obtain ⟨v,z⟩:=cM.there (x a u q);rw [e] at z;cases z
def yF (X:Cx) (b:Addr):Prop:=(b∈X.ex∨X.s₀.heap.get? b=none)∧∀ p∈X.pn,p.1≠b
def a1T (fr:Addr→Prop) (fl:Value) (H:Hp) (a C:Addr) (h:Heap):Prop:=
 fr a∧H a=none∧∃ oe vs a0 T oT ts,h.get? a=some oe∧oe.cls=.ref C∧oe.data=.fields vs∧vs[0]?=some a0 ∧
  vs[1]?=some (.ref T)∧fr T∧H T=none∧T≠a∧h.get? T=some oT∧oT.data=.fields ts∧ts[3]?=some fl
def ExcAt (fr:Addr→Prop) (H:Hp) (a C:Addr) (h:Heap):Prop:=
 (fr a∧H a=none∧∃ oe vs a0,h.get? a=some oe∧oe.cls=.ref C∧oe.data=.fields vs∧vs[0]?=some a0∧vs[1]?=some .none)∨a1T fr .none H a C h
def b4Y (X:Cx) (c:Str) (e:Value) (H:Hp) (s:Shared):Prop:=∃ a C,e=.ref a∧iK X.K c=some C∧ExcAt (yF X) H a C s.heap
theorem a1T.mono {fr fr':Addr→Prop} {fl:Value} {H:Hp} {a C:Addr} {h:Heap} (x:a1T fr fl H a C h) (k:∀ b,fr b→fr' b):a1T fr' fl H a C h:=by
 obtain ⟨h1,h2,oe,vs,a0,T,oT,ts,e1,e2,e3,e4,e5,e6,e7⟩:=x
 exact ⟨k _ h1,h2,oe,vs,a0,T,oT,ts,e1,e2,e3,e4,e5,k _ e6,e7⟩
theorem ExcAt.mono {fr fr':Addr→Prop} {H:Hp} {a C:Addr} {h:Heap} (x:ExcAt fr H a C h) (k:∀ b,fr b→fr' b):ExcAt fr' H a C h:=by
 rcases x with ⟨h1,h2⟩ | x
 ·exact .inl ⟨k _ h1,h2⟩
 ·exact .inr (x.mono k)
theorem ExcAt.ob {fr:Addr→Prop} {H:Hp} {a C:Addr} {h:Heap} (x:ExcAt fr H a C h):fr a∧H a=none∧∃ oe vs,ExO h a C oe∧oe.data=.fields vs:=by
 rcases x with ⟨h1,h2,oe,vs,a0,e1,e2,e3,_⟩ | ⟨h1,h2,oe,vs,a0,T,oT,ts,e1,e2,e3,_⟩
 ·exact ⟨h1,h2,oe,vs,⟨e1,e2⟩,e3⟩
 ·exact ⟨h1,h2,oe,vs,⟨e1,e2⟩,e3⟩
structure Chg (X:Cx) (fr:Addr→Prop) (cs:List Addr) (H:Hp) (h h':Heap):Prop where
 ch:∀ b∈cs,fr b∧H b=none∧∃ o vs,h.get? b=some o∧o.data=.fields vs
 un:Un (frs X.stack) cs H H h h'
 hok:HOk X.prog X.w H h'
section
variable {X:Cx} {pins:List (Addr×Obj)} {σ:List (Option V)} {H H':Hp} {s:Shared} {h':Heap} {a C:Addr} {fr:Addr→Prop}
theorem a0Y {base:Heap} {Ts:List Addr} {a0 fl:Value} (I:Inv X pins σ H s) (hst:X.stack=X.env::X.outer) (ha:fr a∧H a=none∧∃ o vs,s.heap.get? a=some o∧o.data=.fields vs)
  (hT:∀ b∈Ts,fr b∧H b=none∧∃ o vs,s.heap.get? b=some o∧o.data=.fields vs) (hb:base=PySem.W.hideAll s.heap ((a::Ts)++frs X.stack)) (hnew:∀ b,s.heap.get? b=none→fr b)
  (N:Heap.NotedW base (X.env::X.outer) a (.ref C) a0 fl s.heap h'):Chg X fr (a::Ts) H s.heap h'∧a1T fr fl H a C h':=by
 obtain ⟨st,ff,⟨oe,vs,T,oT,ts,e1,⟨e2,e3⟩,e4,e5,e6,e7,e8,e9,e10⟩,up⟩:=N
 have hmem:∀ b∈frs X.stack,∃ o,s.heap.get? b=some o∧∀ vs,o.data≠.fields vs:=fun b hm=>by
  obtain ⟨_,o,ho,hd⟩:=I.stack.mem hm
  exact ⟨o,ho,hd⟩
 have keep:∀ b o,s.heap.get? b=some o→b∉frs X.stack→b∉a::Ts→h'.get? b=some o:=fun b o e n1 n2=>
  st b o (by rw [hb];exact PySem.W.hideAll_get _ e fun z=>(List.mem_append.mp z).elim n2 n1)
 have slot:∀ b o,s.heap.get? b=some o→b∈frs X.stack→∃ sl,h'.get? b=some { o with slots:=sl }:=fun b o e hm=>by
  obtain ⟨o',ho',hd⟩:=hmem b hm
  rw [e] at ho';cases ho'
  exact up b o e hd
 have hch:∀ b∈a::Ts,fr b∧H b=none∧∃ o vs,s.heap.get? b=some o∧o.data=.fields vs:=fun b hm=>by
  rcases List.mem_cons.mp hm with rfl | hm
  ·exact ha
  ·exact hT b hm
 refine ⟨⟨hch,⟨fun b o e n n1 n2=>keep b o e n1 n2,fun b o e n n1 n2=>slot b o e n1,fun b o e n _=>n,fun b o e n2=>?_,fun _ _ q=>q,fun _ _ _ q=>q,fun _ ps q=>⟨#[],by rw [q];simp⟩⟩,fun b u q=>?_⟩,?_⟩
 ·by_cases hm:b∈frs X.stack
  ·obtain ⟨sl,z⟩:=slot b o e hm
   exact ⟨_,z⟩
  ·exact ⟨o,keep b o e hm n2⟩
 ·have tr:∀ c u,H c=some u→c∉frs X.stack∧c∉a::Ts:=fun c u q=>⟨fun z=>(by rw [I.stkFree c z] at q;cases q),fun z=>(by rw [(hch c z).2.1] at q;cases q)⟩
  refine (I.hok b u q).stay (fun c v hc z=>?_) (fun _ z=>z) fun _ _ z=>z
  rcases hc with rfl | hc
  ·exact keep c v z (tr c u q).1 (tr c u q).2
  ·exact keep c v z (tr c _ hc).1 (tr c _ hc).2
 ·refine ⟨ha.1,ha.2.1,oe,vs,a0,T,oT,ts,e1,e2,e4,e3,e5,?_⟩
  have hh:fr T∧H T=none:=by
   cases q:s.heap.get? T with
   | none=>exact ⟨hnew T q,a7E I.hok q⟩
   | some o=>
    have hm:T∈(a::Ts)++frs X.stack:=Classical.byContradiction fun z=>by
     have:=PySem.W.hideAll_get _ q z
     rw [←hb,e6] at this;cases this
    rcases List.mem_append.mp hm with hm | hm
    ·exact ⟨(hch T hm).1,(hch T hm).2.1⟩
    ·exfalso
     obtain ⟨o',ho',hd⟩:=hmem T hm
     obtain ⟨sl,z⟩:=slot T o' ho' hm
     rw [e8] at z;cases z
     exact hd ts e9
  exact ⟨hh.1,hh.2,e7,e8,e9,e10⟩
theorem a3A {M:Model} {A:Around} {E:Value→Shared→Prop} {Q:Unit→Shared→Prop} (hfr:A.frames=some X.stack) (hst:X.stack=X.env::X.outer) (hf:X.env.frame=some X.env.locals) (I:Inv X pins σ H s) (x:ExcAt fr H a C s.heap) (hnew:∀ b,s.heap.get? b=none→fr b)
  (h:∀ h' ch,Chg X fr ch H s.heap h'→a1T fr (rawInt X.env.locals) H a C h'→Q () { s with heap:=h' }):wpAny M A (noteFrame (.ref a) X.env) Q E s:=by
 have frm:∀ (l:List Addr),∀ env∈X.env::X.outer,∀ b,env.frame=some b→b∈l++frs X.stack:=fun l env he b hb=>List.mem_append_right _ (by
  rw [hst];unfold frs
  exact List.mem_filterMap.mpr ⟨env,he,hb⟩)
 have hl:=I.stack
 rcases x with ⟨h1,h2,oe,vs,a0,e1,e2,e3,e4,e5⟩ | ⟨h1,h2,oe,vs,a0,T,oT,ts,e1,e2,e3,e4,e5,e6,e7,e8,e9,e10,e11⟩
 ·have hl':s.heap.FunFrames (PySem.W.hideAll s.heap ([a]++frs X.stack)) (X.env::X.outer):=PySem.W.funFrames_hide (hst▸hl) (frm [a])
  unfold noteFrame
  simp only [hf]
  refine wpAny_bind (wpAny_field e1 e3 e5 ?_)
  rw [if_neg (by decide)]
  refine wpAny_entryW (hst▸hfr) hl' hf e1 (fun b o e=>PySem.W.of_hideAll ([a]++frs X.stack) e) (PySem.W.hideAll_none ([a]++frs X.stack) (by simp)) e3 (Array.getElem?_eq_some_iff.mp e5).1 e4 fun h' N=>?_
  rw [e2] at N
  obtain ⟨c1,c2⟩:=a0Y (Ts:=[]) I hst ⟨h1,h2,oe,vs,e1,e3⟩ (fun _ z=>nomatch z) rfl hnew N
  exact h h' _ c1 c2
 ·have hl':s.heap.FunFrames (PySem.W.hideAll s.heap ([a,T]++frs X.stack)) (X.env::X.outer):=PySem.W.funFrames_hide (hst▸hl) (frm [a,T])
  refine wpAny_noteFrame_onW (hst▸hfr) hl' hf ⟨oe,vs,T,oT,ts,e1,⟨e2,e4⟩,e3,e5,PySem.W.hideAll_none ([a,T]++frs X.stack) (by simp),e8,e9,e10,e11⟩ (fun b o e=>PySem.W.of_hideAll ([a,T]++frs X.stack) e) (PySem.W.hideAll_none ([a,T]++frs X.stack) (by simp)) fun h' N=>?_
  obtain ⟨c1,c2⟩:=a0Y (Ts:=[T]) I hst ⟨h1,h2,oe,vs,e1,e3⟩ (fun b z=>by cases List.mem_singleton.mp z;exact ⟨e6,e7,oT,ts,e9,e10⟩) rfl hnew N
  exact h h' _ c1 c2
theorem a2N {M:Model} {A:Around} {E:Value→Shared→Prop} {Q:Unit→Shared→Prop} {fl:Value} (hok:HOk X.prog X.w H s.heap) (x:a1T fr fl H a C s.heap)
  (h:∀ h' ch,Chg X fr ch H s.heap h'→a1T fr .none H a C h'→Q () { s with heap:=h' }):wpAny M A (setFlight (.ref a) none) Q E s:=by
 obtain ⟨h1,h2,oe,vs,a0,T,oT,ts,e1,e2,e3,e4,e5,e6,e7,e8,e9,e10,e11⟩:=x
 have sz:3<ts.size:=(Array.getElem?_eq_some_iff.mp e11).1
 refine wpAny_setFlight_none e1 e3 e5 e9 e10 sz (h _ [T] ⟨fun b z=>?_,⟨fun b o e n _ n2=>?_,fun b o e n _ n2=>?_,fun b o e n _=>n,fun b o e n2=>?_,fun _ _ q=>q,fun _ _ _ q=>q,fun _ ps q=>⟨#[],by rw [q];simp⟩⟩,fun b u q=>?_⟩ ?_)
 ·cases List.mem_singleton.mp z;exact ⟨e6,e7,oT,ts,e9,e10⟩
 ·rw [Heap.get?_update_other _ _ (fun z=>n2 (by simp [z]))];exact e
 ·exact ⟨o.slots,by rw [Heap.get?_update_other _ _ (fun z=>n2 (by simp [z]))];exact e⟩
 ·exact ⟨o,by rw [Heap.get?_update_other _ _ (fun z=>n2 (by simp [z]))];exact e⟩
 ·have tr:∀ c u,H c=some u→T≠c:=fun c u q z=>by rw [←z,e7] at q;cases q
  refine (hok b u q).stay (fun c v hc z=>?_) (fun _ z=>z) fun _ _ z=>z
  rcases hc with rfl | hc
  ·rw [Heap.get?_update_other _ _ (tr c u q)];exact z
  ·rw [Heap.get?_update_other _ _ (tr c _ hc)];exact z
 ·refine ⟨h1,h2,oe,vs,a0,T,_,_,?_,e2,e3,e4,e5,e6,e7,e8,Heap.get?_update_self _ e9 (Obj.isFreed_of_fields (Obj.data_mapFields e10 _)),Obj.data_mapFields e10 _,by simp [sz]⟩
  rw [Heap.get?_update_other _ _ e8];exact e1
theorem a7p {M:Model} {A:Around} {E:Value→Shared→Prop} {Q:Unit→Shared→Prop} (hfr:A.frames=some X.stack) (hst:X.stack=X.env::X.outer) (hf:X.env.frame=some X.env.locals) (I:Inv X pins σ H s) (x:ExcAt fr H a C s.heap) (hnew:∀ b,s.heap.get? b=none→fr b)
  (h:∀ h' ch,Un (frs X.stack) ch H H s.heap h'→(∀ b∈ch,fr b)→HOk X.prog X.w H h'→ExcAt fr H a C h'→Q () { s with heap:=h' }):wpAny M A (leaving X.env (.ref a)) Q E s:=by
 unfold leaving
 refine wpAny_bind (a3A hfr hst hf I x hnew fun h1 ch1 c1 x1=>?_)
 refine a2N (X:=X) (s:={ s with heap:=h1 }) c1.hok x1 fun h2 ch2 c2 x2=>?_
 refine h h2 (ch1++ch2) ((c1.un.mono (fun _ z=>z) fun b z=>List.mem_append_left _ z).trans (c2.un.mono (fun _ z=>z) fun b z=>List.mem_append_right _ z)) (fun b z=>?_) c2.hok (.inr x2)
 rcases List.mem_append.mp z with z | z
 ·exact (c1.ch b z).1
 ·exact (c2.ch b z).1
theorem Inv.chg {ch:List Addr} (I:Inv X pins σ H s) (c:Chg X (fun b=>yF X b∧∀ p∈pins,p.1≠b) ch H s.heap h'):Inv X pins σ H { s with heap:=h' }:=by
 obtain ⟨m,hn,hl⟩:=id I.loc
 obtain ⟨oL,es,ep,hoL,rL⟩:=id hn
 have cL:X.env.locals∉ch:=fun z=>by
  obtain ⟨_,_,o,vs,e1,e2⟩:=c.ch _ z
  rw [hoL] at e1;cases e1
  rw [rL.1] at e2;cases e2
 have cC:∀ x d,X.env.cells.lookup x=some d→d∉ch:=fun x d e z=>by
  obtain ⟨_,_,o,vs,e1,e2⟩:=c.ch _ z
  obtain ⟨v,o',e3,e4⟩:=I.cell x d e
  rw [e3] at e1;cases e1
  rw [e4] at e2;cases e2
 have cS:∀ b o,X.s₀.heap.get? b=some o→b∉X.ex→b∉ch:=fun b o e n z=>by
  rcases (c.ch b z).1.1.1 with q | q
  ·exact n q
  ·rw [e] at q;cases q
 have cP:∀ p∈X.pn++pins,p.1∉ch:=fun p hp z=>by
  rcases List.mem_append.mp hp with hp | hp
  ·exact (c.ch _ z).1.1.2 p hp rfl
  ·exact (c.ch _ z).1.2 p hp rfl
 have neL:∀ b o,X.s₀.heap.get? b=some o→b≠X.env.locals:=fun b o e=>Nat.ne_of_lt (Nat.lt_of_lt_of_le (Heap.lt_size e) I.ok.above)
 have nst:∀ b,b≠X.env.locals→b∉X.fs→b∉frs X.stack:=fun b n1 n2 z=>(List.mem_cons.mp (I.stkSub b z)).elim n1 n2
 have cellK:∀ x d,X.env.cells.lookup x=some d→∀ v,s.heap.IsCell d v→h'.IsCell d v:=fun x d e v ⟨o,ho,hd⟩=>by
  obtain ⟨sl,q⟩:=c.un.any ho (I.freeC x d e) (cC x d e)
  exact ⟨_,q,hd⟩
 refine ⟨I.ok,I.os,I.bare,⟨fun b o e n hb hx=>?_,fun b o e n hb hx=>?_,I.base.free,fun b o e hx=>?_,I.base.tups,I.base.frzs,I.base.tbls⟩,⟨m,?_,fun i x v e1 e2 e3=>?_⟩,fun x d e=>?_,I.free,I.freeC,fun p hp=>?_,c.hok,I.len⟩
 ·exact c.un.keep b o (I.base.keep b o e n hb hx) (I.base.free b o e n hx) (nst b (neL b o e) hb) (cS b o e hx)
 ·obtain ⟨sl,e1⟩:=I.base.slot b o e n hb hx
  obtain ⟨sl',e2⟩:=c.un.any e1 (I.base.free b o e n hx) (cS b o e hx)
  exact ⟨sl',e2⟩
 ·obtain ⟨o',e1⟩:=I.base.there b o e hx
  exact c.un.there b o' e1 (cS b o e hx)
 ·obtain ⟨sl,q⟩:=c.un.any hoL I.free cL
  exact ⟨_,es,ep,q,rL⟩
 ·obtain ⟨u,r,l⟩:=hl i x v e1 e2 e3
  refine ⟨u,r,?_⟩
  rcases l with l | ⟨k,d,e,z⟩
  ·exact .inl l
  ·exact .inr ⟨k,d,e,cellK x d e _ z⟩
 ·obtain ⟨v,z⟩:=I.cell x d e
  exact ⟨v,cellK x d e v z⟩
 ·obtain ⟨e,n,ne,nf,d⟩:=I.pin p hp
  exact ⟨c.un.keep p.1 p.2 e n (nst p.1 ne nf) (cP p hp),n,ne,nf,d⟩
theorem Inv.track {o:HO} (I:Inv X pins σ H s) (ha:yF X a∧∀ p∈pins,p.1≠a) (hn:H a=none) (hd:∃ u vs,s.heap.get? a=some u∧u.data=.fields vs) (ok:cM X.prog X.w (upd H a o) s.heap a o):Inv X pins σ (upd H a o) s:=by
 obtain ⟨u,vs,hu,hv⟩:=hd
 have nL:X.env.locals≠a:=fun z=>by
  obtain ⟨m,⟨oL,es,ep,hoL,rL⟩,_⟩:=id I.loc
  rw [z,hu] at hoL;cases hoL
  rw [rL.1] at hv;cases hv
 have nC:∀ x d,X.env.cells.lookup x=some d→d≠a:=fun x d e z=>by
  obtain ⟨v,o',e3,e4⟩:=I.cell x d e
  rw [z,hu] at e3;cases e3
  rw [e4] at hv;cases hv
 refine ⟨I.ok,I.os,I.bare,⟨I.base.keep,I.base.slot,fun b o e n hx=>?_,I.base.there,fun b xs e=>?_,fun b o u e=>?_,fun b ps e=>?_⟩,I.loc,I.cell,?_,fun x d e=>?_,fun p hp=>?_,fun b v e=>?_,I.len⟩
 ·rw [aL (fun z=>by
   subst z
   rcases ha.1.1 with q | q
   ·exact hx q
   ·rw [e] at q;cases q)]
  exact I.base.free b o e n hx
 ·have q:=I.base.tups b xs e
  rw [aL (bI q hn)];exact q
 ·have q:=I.base.frzs b o u e
  rw [aL (bI q hn)];exact q
 ·obtain ⟨more,q⟩:=I.base.tbls b ps e
  exact ⟨more,by rw [aL (bI q hn)];exact q⟩
 ·rw [aL nL];exact I.free
 ·rw [aL (nC x d e)];exact I.freeC x d e
 ·obtain ⟨e,n,ne,nf,d⟩:=I.pin p hp
  have np:p.1≠a:=by
   rcases List.mem_append.mp hp with hp | hp
   ·exact ha.1.2 p hp
   ·exact ha.2 p hp
  exact ⟨e,by rw [aL np];exact n,ne,nf,d⟩
 ·by_cases hb:b=a
  ·subst hb;rw [aN] at e;cases e;exact ok
  ·rw [aL hb] at e
   exact (I.hok b v e).stay (fun c w' _ q=>q) (fun c q=>by rw [aL (bI q hn)];exact q) fun c xs q=>by rw [aL (bI q hn)];exact q
end
end L2.L3
namespace L2.L3
open PySem PySem.Spec PyProof.Rows
inductive Re (α:Type) where
 | ok (a:α)
 | ex (c:Str)
abbrev Mm (α:Type):=Option (Re α)
abbrev ret {α:Type} (a:α):Mm α:=some (.ok a)
def bnd {α β:Type} (m:Mm α) (k:α→Mm β):Mm β:=match m with
 | some (.ok a)=>k a
 | some (.ex c)=>some (.ex c)
 | none=>none
def lft {α:Type} (o:Option α):Mm α:=match o with
 | some a=>some (.ok a)
 | none=>none
abbrev EF:=List Ent→Mm PyData
abbrev TF:=List Ent→Mm Bool
abbrev AF:=List Ent→Mm (List PyData)
section
variable {α β:Type}
theorem dE {m:Mm α} {k:α→Mm β} {r:Re β} (h:bnd m k=some r):(∃ a,m=some (.ok a)∧k a=some r)∨∃ c,m=some (.ex c)∧r=.ex c:=by
 match m,h with
 | some (.ok a),h=>exact .inl ⟨a,rfl,h⟩
 | some (.ex c),h=>exact .inr ⟨c,rfl,(Option.some.inj h).symm⟩
 | none,h=>cases h
theorem aX {o:Option α} {r:Re α} (h:lft o=some r):∃ a,o=some a∧r=.ok a:=by
 match o,h with
 | some a,h=>exact ⟨a,rfl,(Option.some.inj h).symm⟩
 | none,h=>cases h
end
def jY (X:Cx) (H0 G₀ G:Hp) (ρ:List Ent) (c:Str):Prop:=
 ∀ (pins:List (Addr×Obj)) (s':Shared) (σ:St) (H' G':Hp) (e:Value),Inv X pins σ H' s'→RepS X.K H0 G₀ G' H' σ ρ→bR G G'→b4Y X c e H' s'→X.xe e s'
theorem jY.mono {X:Cx} {H0 G₀ G G':Hp} {ρ:List Ent} {c:Str} (h:jY X H0 G₀ G ρ c) (s:bR G G'):jY X H0 G₀ G' ρ c:=
 fun pins s' σ H' G2 e I R g x=>h pins s' σ H' G2 e I R (s.trans g) x
def a1V (X:Cx) (H0 G₀ G:Hp) (ρ:List Ent) (H:Hp) (Q:VK):Re PyData→Prop
 | .ok d=>∀ v G' H',Grow G H G' H'→Rep X.K G' v d→Q v H'
 | .ex c=>jY X H0 G₀ G ρ c
def a5N (X:Cx) (H0 G₀ G:Hp) (ρ:List Ent) (H:Hp) (Q:Bool→Hp→Prop):Re Bool→Prop
 | .ok b=>∀ G' H',Grow G H G' H'→Q b H'
 | .ex c=>jY X H0 G₀ G ρ c
def a5O (X:Cx) (H0 G₀ G:Hp) (ρ:List Ent) (H:Hp) (Q:List V→Hp→Prop):Re (List PyData)→Prop
 | .ok ds=>∀ vs G' H',Grow G H G' H'→RepAll X.K G' vs ds→Q vs H'
 | .ex c=>jY X H0 G₀ G ρ c
def rE (X:Cx) (f:EF):TE:=fun σ H Q=>∃ ρ r H0 G₀ G,f ρ=some r∧RepS X.K H0 G₀ G H σ ρ∧a1V X H0 G₀ G ρ H Q r
def rT (X:Cx) (f:TF):TT:=fun σ H Q=>∃ ρ r H0 G₀ G,f ρ=some r∧RepS X.K H0 G₀ G H σ ρ∧a5N X H0 G₀ G ρ H Q r
def rA (X:Cx) (f:AF):TA:=fun σ H Q=>∃ ρ r H0 G₀ G,f ρ=some r∧RepS X.K H0 G₀ G H σ ρ∧a5O X H0 G₀ G ρ H Q r
structure DE (X:Cx) (e:Expr) (f:EF):Prop where
 run:PE X e (rE X f)
structure DT (X:Cx) (e:Expr) (f:TF):Prop where
 run:PT X e (rT X f)
structure DW (X:Cx) (e:Expr) (f:TF):Prop where
 run:PW X e (rT X f)
structure DA (X:Cx) (es:List Expr) (f:AF):Prop where
 run:PA X es (rA X f)
section
variable {X:Cx} {H0 G₀ G G1 H H1:Hp} {ρ:List Ent} {σ:St}
theorem a1V.more {Q:VK} {r:Re PyData} (q:a1V X H0 G₀ G ρ H Q r) (g:Grow G H G1 H1):a1V X H0 G₀ G1 ρ H1 Q r:=by
 cases r with
 | ok d=>exact fun v G' H' g' rv=>q v G' H' (g.trans g') rv
 | ex c=>exact jY.mono q g.gg
theorem a5N.more {Q:Bool→Hp→Prop} {r:Re Bool} (q:a5N X H0 G₀ G ρ H Q r) (g:Grow G H G1 H1):a5N X H0 G₀ G1 ρ H1 Q r:=by
 cases r with
 | ok d=>exact fun G' H' g'=>q G' H' (g.trans g')
 | ex c=>exact jY.mono q g.gg
theorem a5O.more {Q:List V→Hp→Prop} {r:Re (List PyData)} (q:a5O X H0 G₀ G ρ H Q r) (g:Grow G H G1 H1):a5O X H0 G₀ G1 ρ H1 Q r:=by
 cases r with
 | ok d=>exact fun v G' H' g' rv=>q v G' H' (g.trans g') rv
 | ex c=>exact jY.mono q g.gg
theorem bE {fa:EF} {β:Type} {k:PyData→Mm β} {r:Re β} (R:RepS X.K H0 G₀ G H σ ρ) (e:bnd (fa ρ) k=some r) {T:VK} (hx:∀ c,r=.ex c→jY X H0 G₀ G ρ c)
  (h:∀ x v G1 H1,Grow G H G1 H1→RepS X.K H0 G₀ G1 H1 σ ρ→Rep X.K G1 v x→k x=some r→T v H1):rE X fa σ H T:=by
 rcases dE e with ⟨x,e1,e2⟩ | ⟨c,e1,e2⟩
 ·exact ⟨ρ,_,H0,G₀,G,e1,R,fun v G1 H1 g1 rv=>h x v G1 H1 g1 (R.more g1) rv e2⟩
 ·exact ⟨ρ,_,H0,G₀,G,e1,R,hx c e2⟩
theorem bT {fa:TF} {β:Type} {k:Bool→Mm β} {r:Re β} (R:RepS X.K H0 G₀ G H σ ρ) (e:bnd (fa ρ) k=some r) {T:Bool→Hp→Prop} (hx:∀ c,r=.ex c→jY X H0 G₀ G ρ c)
  (h:∀ x G1 H1,Grow G H G1 H1→RepS X.K H0 G₀ G1 H1 σ ρ→k x=some r→T x H1):rT X fa σ H T:=by
 rcases dE e with ⟨x,e1,e2⟩ | ⟨c,e1,e2⟩
 ·exact ⟨ρ,_,H0,G₀,G,e1,R,fun G1 H1 g1=>h x G1 H1 g1 (R.more g1) e2⟩
 ·exact ⟨ρ,_,H0,G₀,G,e1,R,hx c e2⟩
theorem bA {fa:AF} {β:Type} {k:List PyData→Mm β} {r:Re β} (R:RepS X.K H0 G₀ G H σ ρ) (e:bnd (fa ρ) k=some r) {T:List V→Hp→Prop} (hx:∀ c,r=.ex c→jY X H0 G₀ G ρ c)
  (h:∀ x v G1 H1,Grow G H G1 H1→RepS X.K H0 G₀ G1 H1 σ ρ→RepAll X.K G1 v x→k x=some r→T v H1):rA X fa σ H T:=by
 rcases dE e with ⟨x,e1,e2⟩ | ⟨c,e1,e2⟩
 ·exact ⟨ρ,_,H0,G₀,G,e1,R,fun v G1 H1 g1 rv=>h x v G1 H1 g1 (R.more g1) rv e2⟩
 ·exact ⟨ρ,_,H0,G₀,G,e1,R,hx c e2⟩
theorem a1V.x {Q:VK} {r:Re PyData} (q:a1V X H0 G₀ G ρ H Q r):∀ c,r=.ex c→jY X H0 G₀ G ρ c:=fun c e=>by subst e;exact q
theorem a5N.x {Q:Bool→Hp→Prop} {r:Re Bool} (q:a5N X H0 G₀ G ρ H Q r):∀ c,r=.ex c→jY X H0 G₀ G ρ c:=fun c e=>by subst e;exact q
theorem a5O.x {Q:List V→Hp→Prop} {r:Re (List PyData)} (q:a5O X H0 G₀ G ρ H Q r):∀ c,r=.ex c→jY X H0 G₀ G ρ c:=fun c e=>by subst e;exact q
end
section
variable {X:Cx} {e a b c:Expr} {es:List Expr} {pos p:Pos} {fa fb fc:EF}
theorem lI {f:EF} (h:∀ ρ r,f ρ=some r→∃ d,r=.ok d∧PD X e ρ d):DE X e f:=⟨fun pins s σ H Q I ⟨ρ,r,H0,G₀,G,ef,R,q⟩=>by
 obtain ⟨d,rfl,hd⟩:=h ρ r ef
 exact hd.run H0 G₀ G pins s σ H Q I R q⟩
theorem DE.pd {f:EF} (h:DE X e f) {ρ:List Ent} {d:PyData} (q:f ρ=some (.ok d)):PD X e ρ d:=⟨fun H0 G₀ G pins s σ H Q I R k=>h.run pins s σ H Q I ⟨ρ,_,H0,G₀,G,q,R,k⟩⟩
theorem DT.ptd {f:TF} (h:DT X e f) {ρ:List Ent} {d:Bool} (q:f ρ=some (.ok d)):PTD X e ρ d:=⟨fun H0 G₀ G pins s σ H Q I R k=>h.run pins s σ H Q I ⟨ρ,_,H0,G₀,G,q,R,k⟩⟩
def cst (d:PyData):EF:=fun _=>some (.ok d)
def var (i:Nat):EF:=fun ρ=>match ρ[i]? with
 | some (.val d)=>some (.ok d)
 | _=>none
theorem aC {i:Int} {j}:DE X (.Constant (.int i) j pos) (cst (.int i)):=lI fun ρ r e=>⟨_,(Option.some.inj e).symm,b2j⟩
theorem aM {x:Str} {j}:DE X (.Constant (.str x) j pos) (cst (.str x)):=lI fun ρ r e=>⟨_,(Option.some.inj e).symm,b2i⟩
theorem bG {x:Bool} {j}:DE X (.Constant (.bool x) j pos) (cst (.bool x)):=lI fun ρ r e=>⟨_,(Option.some.inj e).symm,a9x⟩
theorem aZ {j}:DE X (.Constant .none j pos) (cst .none):=lI fun ρ r e=>⟨_,(Option.some.inj e).symm,a9v⟩
theorem eN {x:Str} {i:Int} (hg:Gl X x) (hm:∃ t,X.mg x=some (.int i t)) (hd:(x==("__debug__" : Str))=false:=by decide):DE X (.Name x pos) (cst (.int i)):=lI fun ρ r e=>⟨_,(Option.some.inj e).symm,by
 obtain ⟨t,hm⟩:=hm
 exact a6Q hg hm hd⟩
theorem b1A {i:Nat} {ρ:List Ent} {r:Re PyData} (h:var i ρ=some r):∃ d,r=.ok d∧ρ[i]?=some (.val d):=by
 unfold var at h
 split at h
 ·rename_i d e;exact ⟨d,(Option.some.inj h).symm,e⟩
 ·cases h
theorem aE (i:Nat) {x:Str} (hN:X.N[i]?=some x:=by rfl) (hv:Vis X.env.scope x:=by first | exact Or.inl rfl | exact Or.inr (Or.inl rfl) | exact Or.inr (Or.inr rfl)) (hd:(x==("__debug__" : Str))=false:=by decide)
  (hcd:(x==("__classdict__" : Str))=false:=by decide):DE X (.Name x pos) (var i):=lI fun ρ r e=>by
 obtain ⟨d,e1,e2⟩:=b1A e
 exact ⟨d,e1,b2h i e2 hN hv hd hcd⟩
structure OpD (X:Cx) (op:Operator) (x y d:PyData):Prop where
 ex:∃ r:R2,OpR X (binaryOp op) r∧∀ v u G H Q,bR G H→Rep X.K G v x→Rep X.K G u y→(∀ w G' H',Grow G H G' H'→Rep X.K G' w d→Q w H')→r v u H Q
def op2 (g:PyData→PyData→Option PyData) (fa fb:EF):EF:=fun ρ=>bnd (fa ρ) fun x=>bnd (fb ρ) fun y=>lft (g x y)
theorem kY {f:Value→Value→Sem Value}:OpR X f (fun v u H Q=>∃ r,OpR X f r∧r v u H Q):=fun pins s σ H x y v u Q I rx ry ⟨_,h,q⟩=>h pins s σ H x y v u Q I rx ry q
theorem aS {op:Operator} {g:PyData→PyData→Option PyData} (hg:∀ x y d,g x y=some d→OpD X op x y d) (ha:DE X a fa) (hb:DE X b fb):DE X (.BinOp a op b pos) (op2 g fa fb):=
 ⟨fun pins s σ H Q I ⟨ρ,r,H0,G₀,G,e,R,q⟩=>b0Y kY ha.run hb.run pins s σ H Q I (bE R e q.x fun x v G1 H1 g1 R1 rv e1=>bE R1 e1 (q.more g1).x fun y u G2 H2 g2 R2 ru e2=>by
  obtain ⟨d,ed,rfl⟩:=aX e2
  obtain ⟨r,h1,h2⟩:=(hg x y d ed).ex
  exact ⟨r,h1,h2 v u G2 H2 Q g2.sub (rv.mono g2.gg) ru fun w G' H' g' rw'=>q w G' H' ((g1.trans g2).trans g') rw'⟩)⟩
def aF:AF:=fun _=>some (.ok [])
def aB (f:EF) (g:AF):AF:=fun ρ=>bnd (f ρ) fun x=>bnd (g ρ) fun xs=>some (.ok (x::xs))
theorem aD:DA X [] aF:=⟨fun pos pins s σ H Q I ⟨ρ,r,H0,G₀,G,e,R,q⟩=>iR pos pins s σ H Q I (by
 cases (Option.some.inj e);exact q [] G H (.refl R.sub) .nil)⟩
theorem aA {f:AF} (ha:DE X e fa) (hr:DA X es f) (hs:starEach (e::es) X.env=(false,eval e X.env)::starEach es X.env:=by rfl):DA X (e::es) (aB fa f):=
 ⟨fun pos pins s σ H Q I ⟨ρ,r,H0,G₀,G,e,R,q⟩=>dY ha.run hr.run hs pos pins s σ H Q I (bE R e q.x fun x v G1 H1 g1 R1 rv e1=>bA R1 e1 (q.more g1).x fun ys us G2 H2 g2 R2 ru e2=>by
  cases (Option.some.inj e2)
  exact q _ G2 H2 (g1.trans g2) (.cons (rv.mono g2.gg) ru))⟩
def cG (n:Nat):Bool:=decide (n≤100000)
theorem eS {n:Nat} (h:cG n=true):n≤sizeLine:=Nat.le_trans (of_decide_eq_true h) (by decide)
theorem b4f {n:Nat} (h:cG n=true):n<sizeLine:=Nat.lt_of_le_of_lt (of_decide_eq_true h) (by decide)
def xE (ds:List PyData):Option PyData:=if cG ds.length then some (.tuple ds) else none
def xF (ds:List PyData):Option PyData:=if cG ds.length then some (.list ds) else none
def aK (f:AF):EF:=fun ρ=>bnd (f ρ) fun xs=>lft (xE xs)
def eY (f:AF):EF:=fun ρ=>bnd (f ρ) fun xs=>lft (xF xs)
theorem a7e {ds:List PyData} {d:PyData} (h:xE ds=some d):d=.tuple ds∧ds.length≤sizeLine:=by
 unfold xE at h
 split at h
 ·rename_i z;exact ⟨(Option.some.inj h).symm,eS z⟩
 ·cases h
theorem a7f {ds:List PyData} {d:PyData} (h:xF ds=some d):d=.list ds∧ds.length≤sizeLine:=by
 unfold xF at h
 split at h
 ·rename_i z;exact ⟨(Option.some.inj h).symm,eS z⟩
 ·cases h
theorem aH {x1} {f:AF} (h:DA X es f):DE X (.Tuple es x1 pos) (aK f):=⟨fun pins s σ H Q I ⟨ρ,r,H0,G₀,G,e,R,q⟩=>b2c h.run pins s σ H Q I (bA R e q.x fun xs vs G1 H1 g1 R1 rv e1=>by
 obtain ⟨d,ed,rfl⟩:=aX e1
 obtain ⟨rfl,hz⟩:=a7e ed
 exact ⟨by rw [rv.length];exact hz,fun p hp=>q _ _ _ (g1.trans (.put g1.sub hp)) (.tuple (.of aN) (rv.mono (bC (g1.sub.free hp))))⟩)⟩
theorem cJ {f:AF} (h:DA X es f):DE X (.List es pos) (eY f):=⟨fun pins s σ H Q I ⟨ρ,r,H0,G₀,G,e,R,q⟩=>a2z h.run pins s σ H Q I (bA R e q.x fun xs vs G1 H1 g1 R1 rv e1=>by
 obtain ⟨d,ed,rfl⟩:=aX e1
 obtain ⟨rfl,hz⟩:=a7f ed
 exact ⟨by rw [rv.length];exact hz,fun p hp=>q _ _ _ (g1.trans (.put g1.sub hp)) (.list (.of aN) (rv.mono (bC (g1.sub.free hp))))⟩)⟩
def oG (g:PyData→PyData→Option Bool) (fa fb:EF):EF:=fun ρ=>bnd (fa ρ) fun x=>bnd (fb ρ) fun y=>lft ((g x y).map .bool)
def fH (g:PyData→PyData→Option Bool) (fa fb:EF):TF:=fun ρ=>bnd (fa ρ) fun x=>bnd (fb ρ) fun y=>lft (g x y)
theorem lB {op:CmpOp} {g:PyData→PyData→Option Bool} (hg:∀ x y t,g x y=some t→CmpD X op x y t) (ha:DE X a fa) (hb:DE X b fb) (hm:behindInMarks op b=false:=by first | exact a2C _ | with_unfolding_all rfl):DE X (.Compare a [op] [b] pos) (oG g fa fb):=
 ⟨fun pins s σ H Q I ⟨ρ,r,H0,G₀,G,e,R,q⟩=>a9u kY ha.run hb.run hm pins s σ H Q I (bE R e q.x fun x v G1 H1 g1 R1 rv e1=>bE R1 e1 (q.more g1).x fun y u G2 H2 g2 R2 ru e2=>by
  obtain ⟨d,ed,rfl⟩:=aX e2
  obtain ⟨t,et,rfl⟩:=Option.map_eq_some_iff.mp ed
  obtain ⟨r,h1,h2⟩:=(hg x y t et).ex
  exact ⟨r,h1,h2 v u G2 H2 Q g2.sub (rv.mono g2.gg) ru (q _ _ _ (g1.trans g2) (.bool _))⟩)⟩
theorem cI {op:CmpOp} {g:PyData→PyData→Option Bool} (hg:∀ x y t,g x y=some t→CmpD X op x y t) (ha:DE X a fa) (hb:DE X b fb) (hm:behindInMarks op b=false:=by first | exact a2C _ | with_unfolding_all rfl):DT X (.Compare a [op] [b] pos) (fH g fa fb):=
 ⟨fun pins s σ H Q I ⟨ρ,r,H0,G₀,G,e,R,q⟩=>a3p kY ha.run hb.run hm pins s σ H Q I (bE R e q.x fun x v G1 H1 g1 R1 rv e1=>bE R1 e1 (q.more g1).x fun y u G2 H2 g2 R2 ru e2=>by
  obtain ⟨t,et,rfl⟩:=aX e2
  obtain ⟨r,h1,h2⟩:=(hg x y t et).ex
  exact ⟨r,h1,h2 v u G2 H2 _ g2.sub (rv.mono g2.gg) ru ⟨_,rfl,q _ _ (g1.trans g2)⟩⟩)⟩
def a5t (g g':PyData→PyData→Option Bool) (fa fb fc:EF):EF:=fun ρ=>bnd (fa ρ) fun x=>bnd (fb ρ) fun y=>bnd (lft (g x y)) fun t=>if t then bnd (fc ρ) fun z=>lft ((g' y z).map .bool) else some (.ok (.bool false))
def a8A (g g':PyData→PyData→Option Bool) (fa fb fc:EF):TF:=fun ρ=>bnd (fa ρ) fun x=>bnd (fb ρ) fun y=>bnd (lft (g x y)) fun t=>if t then bnd (fc ρ) fun z=>lft (g' y z) else some (.ok false)
theorem a2Y {op op':CmpOp} {g g':PyData→PyData→Option Bool} (hg:∀ x y t,g x y=some t→CmpD X op x y t) (hg':∀ x y t,g' x y=some t→CmpD X op' x y t) (ha:DE X a fa) (hb:DE X b fb) (hc:DE X c fc)
  (hm:lastMarks [op,op'] [b,c]=false:=by with_unfolding_all rfl):DE X (.Compare a [op,op'] [b,c] pos) (a5t g g' fa fb fc):=
 ⟨fun pins s σ H Q I ⟨ρ,r,H0,G₀,G,e,R,q⟩=>a6M kY kY ha.run hb.run hc.run hm pins s σ H Q I (bE R e q.x fun x v G1 H1 g1 R1 rv e1=>bE R1 e1 (q.more g1).x fun y u G2 H2 g2 R2 ru e2=>by
  rcases dE e2 with ⟨t,et,e3⟩ | ⟨c,et,_⟩
  ·obtain ⟨t',et',z⟩:=aX et
   cases z
   obtain ⟨r1,h1,h2⟩:=(hg x y _ et').ex
   refine ⟨r1,h1,h2 v u G2 H2 _ g2.sub (rv.mono g2.gg) ru ⟨_,rfl,?_⟩⟩
   cases t with
   | false=>rw [if_neg (by decide)] at e3 ⊢;cases (Option.some.inj e3);exact q _ _ _ (g1.trans g2) (.bool _)
   | true=>
    rw [if_pos rfl] at e3 ⊢
    exact bE R2 e3 ((q.more g1).more g2).x fun z w G3 H3 g3 R3 rw' e4=>by
     obtain ⟨d,ed,rfl⟩:=aX e4
     obtain ⟨t,et,rfl⟩:=Option.map_eq_some_iff.mp ed
     obtain ⟨r2,h3,h4⟩:=(hg' y z t et).ex
     exact ⟨r2,h3,h4 u w G3 H3 Q g3.sub (ru.mono g3.gg) rw' (q _ _ _ ((g1.trans g2).trans g3) (.bool _))⟩
  ·obtain ⟨_,_,z⟩:=aX et;cases z)⟩
theorem a2U {op op':CmpOp} {g g':PyData→PyData→Option Bool} (hg:∀ x y t,g x y=some t→CmpD X op x y t) (hg':∀ x y t,g' x y=some t→CmpD X op' x y t) (ha:DE X a fa) (hb:DE X b fb) (hc:DE X c fc)
  (hm:lastMarks [op,op'] [b,c]=false:=by with_unfolding_all rfl):DT X (.Compare a [op,op'] [b,c] pos) (a8A g g' fa fb fc):=
 ⟨fun pins s σ H Q I ⟨ρ,r,H0,G₀,G,e,R,q⟩=>a6z kY kY ha.run hb.run hc.run hm pins s σ H Q I (bE R e q.x fun x v G1 H1 g1 R1 rv e1=>bE R1 e1 (q.more g1).x fun y u G2 H2 g2 R2 ru e2=>by
  rcases dE e2 with ⟨t,et,e3⟩ | ⟨c,et,_⟩
  ·obtain ⟨t',et',z⟩:=aX et
   cases z
   obtain ⟨r1,h1,h2⟩:=(hg x y _ et').ex
   refine ⟨r1,h1,h2 v u G2 H2 _ g2.sub (rv.mono g2.gg) ru ⟨_,rfl,?_⟩⟩
   cases t with
   | false=>rw [if_neg (by decide)] at e3;cases (Option.some.inj e3);exact b5Q ⟨false,rfl,q _ _ (g1.trans g2)⟩
   | true=>
    rw [if_pos rfl] at e3
    refine b5P ?_
    exact bE R2 e3 ((q.more g1).more g2).x fun z w G3 H3 g3 R3 rw' e4=>by
     obtain ⟨t,et,rfl⟩:=aX e4
     obtain ⟨r2,h3,h4⟩:=(hg' y z t et).ex
     exact ⟨r2,h3,h4 u w G3 H3 _ g3.sub (ru.mono g3.gg) rw' ⟨_,rfl,q _ _ ((g1.trans g2).trans g3)⟩⟩
  ·obtain ⟨_,_,z⟩:=aX et;cases z)⟩
end
end L2.L3
namespace L2.L3
open PySem PySem.Spec PyProof.Rows
section
variable {X:Cx} {e a b c:Expr} {es rest:List Expr} {pos p:Pos} {fa fb fc:EF} {ft fu:TF}
def a0A:PyData→Option Bool
 | .none=>some false
 | .bool b=>some b
 | .int i=>some (i != 0)
 | .str x=>if cG x.length then some ((x.length:Int) != 0) else none
 | .list ds=>some (!ds.isEmpty)
 | .tuple ds=>some (!ds.isEmpty)
 | .dict _=>none
theorem wT {K:PySem.W.Frag} {G:Hp} {vs:List V} {ds:List PyData} (r:RepAll K G vs ds):ds.isEmpty=vs.isEmpty:=by
 have h:=r.length
 cases vs<;>cases ds<;>simp at h ⊢
theorem a8T {K:PySem.W.Frag} {G H:Hp} {v:V} {d:PyData} {t:Bool} (s:bR G H) (r:Rep K G v d) (h:a0A d=some t):b3N K v H t:=by
 cases r with
 | none=>exact (Option.some.inj h).symm
 | bool b=>exact (Option.some.inj h).symm
 | int i=>exact (Option.some.inj h).symm
 | str x=>
  have h:(if cG x.length=true then some ((x.length:Int) != 0) else none)=some t:=h
  split at h
  ·rename_i z;exact ⟨eS z,(Option.some.inj h).symm⟩
  ·cases h
 | list hq r=>exact .inl ⟨_,s.seq hq,by rw [←wT r];exact (Option.some.inj h).symm⟩
 | tuple hq r=>exact .inr (.inl ⟨_,iO s hq,by rw [←wT r];exact (Option.some.inj h).symm⟩)
 | dict _ _ _=>cases h
def gG (fa:EF):TF:=fun ρ=>bnd (fa ρ) fun x=>lft (a0A x)
theorem dZ (ha:DE X a fa) (he:∀ whole,isTrue a X.env whole=(do let v ←whole;standAt a.pos;holding [v] (truthy v)):=by intro _;rfl):DT X a (gG fa):=
 ⟨fun pins s σ H Q I ⟨ρ,r,H0,G₀,G,e,R,q⟩=>a6y ha.run he pins s σ H Q I (bE R e q.x fun x v G1 H1 g1 R1 rv e1=>by
  obtain ⟨t,et,rfl⟩:=aX e1
  exact ⟨t,a8T g1.sub rv et,q _ _ g1⟩)⟩
def hV (ft:TF):TF:=fun ρ=>bnd (ft ρ) fun t=>some (.ok (!t))
theorem dR (ha:DT X a ft):DT X (.UnaryOp .Not a pos) (hV ft):=
 ⟨fun pins s σ H Q I ⟨ρ,r,H0,G₀,G,e,R,q⟩=>b1V ha.run pins s σ H Q I (bT R e q.x fun t G1 H1 g1 R1 e1=>by
  cases (Option.some.inj e1);exact q _ _ g1)⟩
def kG:PyData→Option Bool
 | .bool b=>some b
 | _=>none
def b2v (fa:EF):EF:=fun ρ=>bnd (fa ρ) fun x=>lft ((kG x).map fun t=>.bool (!t))
theorem pR {d:PyData} {t:Bool} (h:kG d=some t):d=.bool t:=by
 cases d<;>first | (cases h;done) | (cases (Option.some.inj h);rfl)
theorem b3w (ha:DE X a fa):DE X (.UnaryOp .Not a pos) (b2v fa):=
 ⟨fun pins s σ H Q I ⟨ρ,r,H0,G₀,G,e,R,q⟩=>b2e ha.run pins s σ H Q I (bE R e q.x fun x v G1 H1 g1 R1 rv e1=>by
  obtain ⟨d,ed,rfl⟩:=aX e1
  obtain ⟨t,et,rfl⟩:=Option.map_eq_some_iff.mp ed
  cases pR et
  cases rv
  exact ⟨_,rfl,q _ _ _ g1 (.bool _)⟩)⟩
def b6g (f g:TF):TF:=fun ρ=>bnd (f ρ) fun t=>if t then g ρ else some (.ok false)
def orT (f g:TF):TF:=fun ρ=>bnd (f ρ) fun t=>if t then some (.ok true) else g ρ
theorem fZ (ha:DT X a ft):DW X (.BoolOp .Or [a] pos) ft:=⟨b1U ha.run⟩
theorem iE (ha:DT X a ft) (hb:DW X (.BoolOp .Or (b::rest) pos) fu):DW X (.BoolOp .Or (a::b::rest) pos) (orT ft fu):=
 ⟨fun wh pins s σ H Q I ⟨ρ,r,H0,G₀,G,e,R,q⟩=>b4s ha.run hb.run wh pins s σ H Q I (bT R e q.x fun t G1 H1 g1 R1 e1=>by
  cases t with
  | true=>rw [if_pos rfl] at e1 ⊢;cases (Option.some.inj e1);exact q _ _ g1
  | false=>rw [if_neg (by decide)] at e1 ⊢;exact ⟨ρ,r,H0,G₀,G1,e1,R1,q.more g1⟩)⟩
theorem DW.dt (h:DW X e ft):DT X e ft:=⟨h.run _⟩
def qZ (f g:EF):EF:=fun ρ=>bnd (f ρ) fun x=>bnd (lft (kG x)) fun t=>if t then g ρ else some (.ok (.bool false))
def orE (f g:EF):EF:=fun ρ=>bnd (f ρ) fun x=>bnd (lft (kG x)) fun t=>if t then some (.ok (.bool true)) else g ρ
theorem mG {op} (ha:DE X a fa):DE X (.BoolOp op [a] pos) fa:=⟨b2d ha.run⟩
theorem jV (ha:DE X a fa) (hb:DE X (.BoolOp .And (b::rest) pos) fb):DE X (.BoolOp .And (a::b::rest) pos) (qZ fa fb):=
 ⟨fun pins s σ H Q I ⟨ρ,r,H0,G₀,G,e,R,q⟩=>b2g ha.run hb.run pins s σ H Q I (bE R e q.x fun x v G1 H1 g1 R1 rv e1=>by
  rcases dE e1 with ⟨t,et,e2⟩ | ⟨c,et,_⟩
  ·obtain ⟨t',et',z⟩:=aX et
   cases z
   cases pR et'
   cases rv
   refine ⟨t,rfl,?_⟩
   cases t with
   | true=>rw [if_pos rfl] at e2 ⊢;exact ⟨ρ,r,H0,G₀,G1,e2,R1,q.more g1⟩
   | false=>rw [if_neg (by decide)] at e2 ⊢;cases (Option.some.inj e2);exact q _ _ _ g1 (.bool _)
  ·obtain ⟨_,_,z⟩:=aX et;cases z)⟩
def ifE (f:TF) (fa fb:EF):EF:=fun ρ=>bnd (f ρ) fun t=>if t then fa ρ else fb ρ
theorem b4U (hc:DT X c ft) (ha:DE X a fa) (hb:DE X b fb):DE X (.IfExp c a b pos) (ifE ft fa fb):=
 ⟨fun pins s σ H Q I ⟨ρ,r,H0,G₀,G,e,R,q⟩=>a6K hc.run ha.run hb.run pins s σ H Q I (bT R e q.x fun t G1 H1 g1 R1 e1=>by
  cases t with
  | true=>rw [if_pos rfl] at e1 ⊢;exact ⟨ρ,r,H0,G₀,G1,e1,R1,q.more g1⟩
  | false=>rw [if_neg (by decide)] at e1 ⊢;exact ⟨ρ,r,H0,G₀,G1,e1,R1,q.more g1⟩)⟩
def ixD (x i:PyData):Option PyData:=match x,i with
 | .tuple ds,.int k=>atI ds k
 | .list ds,.int k=>atI ds k
 | .str z,.int k=>if cG z.length then (atI z.cps.toList k).map fun c=>.str ⟨#[c]⟩ else none
 | _,_=>none
theorem b0b {K:PySem.W.Frag} {G H:Hp} {v u:V} {x i d:PyData} {Q:VK} (s:bR G H) (rv:Rep K G v x) (ru:Rep K G u i) (h:ixD x i=some d) (q:∀ w,Rep K G w d→Q w H):rIx K v u H Q:=by
 cases ru with
 | int k=>
  cases rv with
  | tuple hq r=>
   obtain ⟨w,e,rw'⟩:=a0s r (show atI _ k=some d from h)
   exact .inr (.inl ⟨_,_,_,w,rfl,rfl,iO s hq,e,q w rw'⟩)
  | list hq r=>
   obtain ⟨w,e,rw'⟩:=a0s r (show atI _ k=some d from h)
   exact .inl ⟨_,_,_,w,rfl,rfl,s.seq hq,e,q w rw'⟩
  | str z=>
   have h:(if cG z.length=true then (atI z.cps.toList k).map fun c=>PyData.str ⟨#[c]⟩ else none)=some d:=h
   split at h
   ·rename_i hz
    obtain ⟨c,ec,rfl⟩:=Option.map_eq_some_iff.mp h
    exact .inr (.inr ⟨_,_,c,rfl,rfl,eS hz,ec,q _ (.str _)⟩)
   ·cases h
  | none=>cases h
  | bool b=>cases h
  | int j=>cases h
  | dict _ _ _=>cases h
 | none=>cases rv<;>cases h
 | bool b=>cases rv<;>cases h
 | str b=>cases rv<;>cases h
 | list _ _=>cases rv<;>cases h
 | tuple _ _=>cases rv<;>cases h
 | dict _ _ _=>cases rv<;>cases h
theorem bJ (ha:DE X a fa) (hb:DE X b fb) (hs:sQ b:=by exact fun _ _=>rfl):DE X (.Subscript a b pos) (op2 ixD fa fb):=
 ⟨fun pins s σ H Q I ⟨ρ,r,H0,G₀,G,e,R,q⟩=>b0Z b2U ha.run hb.run hs pins s σ H Q I (bE R e q.x fun x v G1 H1 g1 R1 rv e1=>bE R1 e1 (q.more g1).x fun y u G2 H2 g2 R2 ru e2=>by
  obtain ⟨d,ed,rfl⟩:=aX e2
  exact b0b g2.sub (rv.mono g2.gg) ru ed fun w rw'=>q w _ _ (g1.trans g2) rw')⟩
structure CallD (X:Cx) (f:Value) (ds:List PyData) (d:PyData):Prop where
 ex:∃ r:List V→Hp→VK→Prop,eM X f r∧∀ vs G H Q,bR G H→RepAll X.K G vs ds→(∀ w G' H',Grow G H G' H'→Rep X.K G' w d→Q w H')→r vs H Q
theorem xZ {f:Value}:eM X f (fun vs H Q=>∃ r,eM X f r∧r vs H Q):=fun pins s σ H vs us Q I rx ⟨_,h,q⟩=>h pins s σ H vs us Q I rx q
def dF (g:List PyData→Option PyData) (fa:AF):EF:=fun ρ=>bnd (fa ρ) fun xs=>lft (g xs)
theorem bK {id:String} {x:Str} {g:List PyData→Option PyData} {f:AF} (hd:∀ ds d,g ds=some d→CallD X (.builtin id) ds d) (hm:X.mg x=none) (hv:bootBuiltins x=some (.builtin id)) (ha:DA X (e::es) f) (hg:Gl X x:=by rfl)
  (hn:x ≠ "__name__":=by decide) (hdb:(x==("__debug__" : Str))=false:=by decide)
  (he:starEach (e::es) X.env=(false,eval e X.env)::starEach es X.env:=by rfl) (hpl:(backTo pos (starEach es X.env)).any (·.1)=false:=by rfl):DE X (.Call (.Name x p) (e::es) [] pos) (dF g f):=
 ⟨fun pins s σ H Q I ⟨ρ,r,H0,G₀,G,e,R,q⟩=>oS xZ hg hm hv ha.run hn hdb he hpl pins s σ H Q I (bA R e q.x fun xs vs G1 H1 g1 R1 rv e1=>by
  obtain ⟨d,ed,rfl⟩:=aX e1
  obtain ⟨r,h1,h2⟩:=(hd xs d ed).ex
  exact ⟨r,h1,h2 vs G1 H1 Q g1.sub rv fun w G' H' g' rw'=>q w G' H' (g1.trans g') rw'⟩)⟩
theorem fT {T:String} {x:Str} {g:List PyData→Option PyData} {f:AF} (hd:∀ ds d,g ds=some d→CallD X (.type T) ds d) (hm:X.mg x=none) (hv:bootBuiltins x=some (.type T)) (ha:DA X (e::es) f) (hg:Gl X x:=by rfl)
  (hn:x ≠ "__name__":=by decide) (hdb:(x==("__debug__" : Str))=false:=by decide)
  (he:starEach (e::es) X.env=(false,eval e X.env)::starEach es X.env:=by rfl) (hpl:(backTo pos (starEach es X.env)).any (·.1)=false:=by rfl):DE X (.Call (.Name x p) (e::es) [] pos) (dF g f):=
 ⟨fun pins s σ H Q I ⟨ρ,r,H0,G₀,G,e,R,q⟩=>a4I xZ hg hm hv ha.run hn hdb he hpl pins s σ H Q I (bA R e q.x fun xs vs G1 H1 g1 R1 rv e1=>by
  obtain ⟨d,ed,rfl⟩:=aX e1
  obtain ⟨r,h1,h2⟩:=(hd xs d ed).ex
  exact ⟨r,h1,h2 vs G1 H1 Q g1.sub rv fun w G' H' g' rw'=>q w G' H' (g1.trans g') rw'⟩)⟩
def jS:Ent→Ent
 | .lst ds=>.val (.list ds)
 | .dct kvs=>.val (.dict (kvs.map fun p=>(kD p.1,p.2)))
 | e=>e
def frzAll (ρ:List Ent):List Ent:=ρ.map jS
end
end L2.L3
namespace L2.L3
open PySem PySem.Spec PyProof.Rows
section
variable {K:PySem.W.Frag} {H0 G₀ G H:Hp} {σ:St} {ρ:List Ent}
theorem a7R (ρ:List Ent) (n:Nat):(∃ e,ρ[n]?=some e∧(ρ.take (n+1)).map jS++ρ.drop (n+1)=((ρ.take n).map jS++ρ.drop n).set n (jS e))∨(ρ[n]?=none∧(ρ.take (n+1)).map jS++ρ.drop (n+1)=(ρ.take n).map jS++ρ.drop n):=by
 by_cases hn:n<ρ.length
 ·refine .inl ⟨ρ[n],by simp [hn],?_⟩
  apply List.ext_getElem?
  intro j
  rw [List.getElem?_set]
  by_cases hj:j<n
  ·rw [if_neg (by omega),List.getElem?_append_left (by simp;omega),List.getElem?_append_left (by simp;omega),List.getElem?_map,List.getElem?_map,List.getElem?_take_of_lt (by omega),List.getElem?_take_of_lt (by omega)]
  ·by_cases hj2:j=n
   ·subst hj2
    rw [if_pos rfl,if_pos (by simp;omega),List.getElem?_append_left (by simp;omega),List.getElem?_map,List.getElem?_take_of_lt (by omega)]
    simp [hn]
   ·rw [if_neg (by omega),List.getElem?_append_right (by simp;omega),List.getElem?_append_right (by simp;omega),List.getElem?_drop,List.getElem?_drop]
    simp only [List.length_map,List.length_take]
    congr 1
    omega
 ·refine .inr ⟨by simp;omega,?_⟩
  rw [List.take_of_length_le (by omega),List.take_of_length_le (by omega),List.drop_of_length_le (by omega),List.drop_of_length_le (by omega)]
theorem RepS.frzTo (R:RepS K H0 G₀ G H σ ρ):∀ n:Nat,∃ G',bR G G'∧RepS K H0 G₀ G' H σ ((ρ.take n).map jS++ρ.drop n)
 | 0=>⟨G,.refl _,by simpa using R⟩
 | n+1=>by
  obtain ⟨G1,s1,R1⟩:=R.frzTo n
  rcases a7R ρ n with ⟨e,he,eq⟩ | ⟨_,eq⟩
  ·have hn:n<ρ.length:=(List.getElem?_eq_some_iff.mp he).1
   have at':((ρ.take n).map jS++ρ.drop n)[n]?=some e:=by
    rw [List.getElem?_append_right (by simp;omega),List.getElem?_drop]
    simp only [List.length_map,List.length_take]
    rw [show n+(n - min n ρ.length)=n by omega]
    exact he
   rw [eq]
   cases e with
   | lst ds=>
    obtain ⟨G2,s2,R2⟩:=R1.freeze at'
    exact ⟨G2,s1.trans s2,R2⟩
   | dct kvs=>
    obtain ⟨G2,s2,R2⟩:=R1.freezeD at'
    exact ⟨G2,s1.trans s2,R2⟩
   | val d=>
    refine ⟨G1,s1,?_⟩
    have:((ρ.take n).map jS++ρ.drop n).set n (jS (.val d))=(ρ.take n).map jS++ρ.drop n:=by
     apply List.ext_getElem?
     intro j
     rw [List.getElem?_set]
     split
     ·rename_i h;subst h
      rw [at']
      have:=(List.getElem?_eq_some_iff.mp at').1
      rw [if_pos this];rfl
     ·rfl
    rw [this];exact R1
   | no=>
    refine ⟨G1,s1,?_⟩
    have:((ρ.take n).map jS++ρ.drop n).set n (jS .no)=(ρ.take n).map jS++ρ.drop n:=by
     apply List.ext_getElem?
     intro j
     rw [List.getElem?_set]
     split
     ·rename_i h;subst h
      rw [at']
      have:=(List.getElem?_eq_some_iff.mp at').1
      rw [if_pos this];rfl
     ·rfl
    rw [this];exact R1
   | exc c=>
    refine ⟨G1,s1,?_⟩
    have:((ρ.take n).map jS++ρ.drop n).set n (jS (.exc c))=(ρ.take n).map jS++ρ.drop n:=by
     apply List.ext_getElem?
     intro j
     rw [List.getElem?_set]
     split
     ·rename_i h;subst h
      rw [at']
      have:=(List.getElem?_eq_some_iff.mp at').1
      rw [if_pos this];rfl
     ·rfl
    rw [this];exact R1
   | nst dss=>
    refine ⟨G1,s1,?_⟩
    have:((ρ.take n).map jS++ρ.drop n).set n (jS (.nst dss))=(ρ.take n).map jS++ρ.drop n:=by
     apply List.ext_getElem?
     intro j
     rw [List.getElem?_set]
     split
     ·rename_i h;subst h
      rw [at']
      have:=(List.getElem?_eq_some_iff.mp at').1
      rw [if_pos this];rfl
     ·rfl
    rw [this];exact R1
  ·rw [eq];exact ⟨G1,s1,R1⟩
theorem RepS.frzAll (R:RepS K H0 G₀ G H σ ρ):∃ G',bR G G'∧RepS K H0 G₀ G' H σ (frzAll ρ):=by
 obtain ⟨G',s,R'⟩:=R.frzTo ρ.length
 refine ⟨G',s,?_⟩
 have:(ρ.take ρ.length).map jS++ρ.drop ρ.length=L3.frzAll ρ:=by simp [L3.frzAll]
 rw [this] at R'
 exact R'
end
section
variable {X:Cx} {e a b c:Expr} {es rest:List Expr} {pos p:Pos} {fa fb fc:EF} {ft fu:TF}
def thT (f:TF):TF:=fun ρ=>match f (frzAll ρ) with
 | some (.ok b)=>some (.ok b)
 | _=>none
theorem b1j (h:DT X e ft):DT X e (thT ft):=⟨fun pins s σ H Q I ⟨ρ,r,H0,G₀,G,ef,R,q⟩=>by
 unfold thT at ef
 split at ef
 ·rename_i b eb
  cases (Option.some.inj ef)
  obtain ⟨G',s',R'⟩:=R.frzAll
  exact h.run pins s σ H Q I ⟨_,_,H0,G₀,G',eb,R',fun G2 H2 g2=>q G H2 ⟨.refl _,g2.hh,s'.trans (g2.gg.trans g2.sub),fun _ z _=>z,id⟩⟩
 ·cases ef⟩
end
inductive So where
 | nx (ρ:List Ent)
 | rt (d:PyData)
 | bk (ρ:List Ent)
 | ct (ρ:List Ent)
 | xc (c:Str) (ρ:List Ent)
abbrev SF:=List Ent→Option So
def bns {α:Type} (m:Mm α) (ρ:List Ent) (k:α→Option So):Option So:=match m with
 | some (.ok a)=>k a
 | some (.ex c)=>some (.xc c ρ)
 | none=>none
theorem mH {α:Type} {m:Mm α} {ρ:List Ent} {k:α→Option So} {r:So} (h:bns m ρ k=some r):(∃ a,m=some (.ok a)∧k a=some r)∨∃ c,m=some (.ex c)∧r=.xc c ρ:=by
 match m,h with
 | some (.ok a),h=>exact .inl ⟨a,rfl,h⟩
 | some (.ex c),h=>exact .inr ⟨c,rfl,(Option.some.inj h).symm⟩
 | none,h=>cases h
def sJ (X:Cx) (H0 G₀ G:Hp) (D:Ends):So→Prop
 | .nx ρ=>∀ G' H' σ',bR G G'→RepS X.K H0 G₀ G' H' σ' ρ→D.nx σ' H'
 | .rt d=>∀ v G' H',bR G G'→Grow G₀ H0 G' H'→Rep X.K G' v d→D.rt v H'
 | .bk ρ=>∀ G' H' σ',bR G G'→RepS X.K H0 G₀ G' H' σ' ρ→D.bk σ' H'
 | .ct ρ=>∀ G' H' σ',bR G G'→RepS X.K H0 G₀ G' H' σ' ρ→D.ct σ' H'
 | .xc c ρ=>jY X H0 G₀ G ρ c
theorem sJ.mono {X:Cx} {H0 G₀ G G':Hp} {D:Ends} {o:So} (h:sJ X H0 G₀ G D o) (s:bR G G'):sJ X H0 G₀ G' D o:=by
 cases o with
 | nx ρ=>exact fun G2 H' σ' s2 R=>h G2 H' σ' (s.trans s2) R
 | rt d=>exact fun v G2 H' s2 g r=>h v G2 H' (s.trans s2) g r
 | bk ρ=>exact fun G2 H' σ' s2 R=>h G2 H' σ' (s.trans s2) R
 | ct ρ=>exact fun G2 H' σ' s2 R=>h G2 H' σ' (s.trans s2) R
 | xc c ρ=>exact jY.mono h s
def rS (X:Cx) (f:SF):TS:=fun D σ H=>∃ ρ o H0 G₀ G,f ρ=some o∧RepS X.K H0 G₀ G H σ ρ∧sJ X H0 G₀ G D o
structure DS (X:Cx) (st:Stmt) (f:SF):Prop where
 run:PS X st (rS X f)
structure DB (X:Cx) (sts:List Stmt) (f:SF):Prop where
 run:PSs X sts (rS X f)
section
variable {X:Cx} {H0 G₀ G H:Hp} {ρ:List Ent} {σ:St} {D:Ends} {o:So}
theorem sE {fa:EF} {k:PyData→Option So} (R:RepS X.K H0 G₀ G H σ ρ) (e:bns (fa ρ) ρ k=some o) (q:sJ X H0 G₀ G D o) {T:VK}
  (h:∀ x v G1 H1,Grow G H G1 H1→RepS X.K H0 G₀ G1 H1 σ ρ→Rep X.K G1 v x→k x=some o→sJ X H0 G₀ G1 D o→T v H1):rE X fa σ H T:=by
 rcases mH e with ⟨x,e1,e2⟩ | ⟨c,e1,e2⟩
 ·exact ⟨ρ,_,H0,G₀,G,e1,R,fun v G1 H1 g1 rv=>h x v G1 H1 g1 (R.more g1) rv e2 (q.mono g1.gg)⟩
 ·subst e2;exact ⟨ρ,_,H0,G₀,G,e1,R,q⟩
theorem sA {fa:AF} {k:List PyData→Option So} (R:RepS X.K H0 G₀ G H σ ρ) (e:bns (fa ρ) ρ k=some o) (q:sJ X H0 G₀ G D o) {T:List V→Hp→Prop}
  (h:∀ x v G1 H1,Grow G H G1 H1→RepS X.K H0 G₀ G1 H1 σ ρ→RepAll X.K G1 v x→k x=some o→sJ X H0 G₀ G1 D o→T v H1):rA X fa σ H T:=by
 rcases mH e with ⟨x,e1,e2⟩ | ⟨c,e1,e2⟩
 ·exact ⟨ρ,_,H0,G₀,G,e1,R,fun v G1 H1 g1 rv=>h x v G1 H1 g1 (R.more g1) rv e2 (q.mono g1.gg)⟩
 ·subst e2;exact ⟨ρ,_,H0,G₀,G,e1,R,q⟩
theorem sT {fa:TF} {k:Bool→Option So} (R:RepS X.K H0 G₀ G H σ ρ) (e:bns (fa ρ) ρ k=some o) (q:sJ X H0 G₀ G D o) {T:Bool→Hp→Prop}
  (h:∀ x G1 H1,Grow G H G1 H1→RepS X.K H0 G₀ G1 H1 σ ρ→k x=some o→sJ X H0 G₀ G1 D o→T x H1):rT X fa σ H T:=by
 rcases mH e with ⟨x,e1,e2⟩ | ⟨c,e1,e2⟩
 ·exact ⟨ρ,_,H0,G₀,G,e1,R,fun G1 H1 g1=>h x G1 H1 g1 (R.more g1) e2 (q.mono g1.gg)⟩
 ·subst e2;exact ⟨ρ,_,H0,G₀,G,e1,R,q⟩
end
section
variable {X:Cx} {st:Stmt} {rest:List Stmt} {f g:SF} {fa fb:EF} {ft:TF} {e c b:Expr} {pos:Pos}
def fG:SF:=fun ρ=>some (.nx ρ)
def aW (f g:SF):SF:=fun ρ=>match f ρ with
 | some (.nx ρ')=>g ρ'
 | r=>r
theorem cK:DB X [] fG:=⟨fun pins s σ H D I ⟨ρ,o,H0,G₀,G,e,R,q⟩=>a3r pins s σ H D I (by cases (Option.some.inj e);exact q G H σ (.refl _) R)⟩
theorem aI (h1:DS X st f) (h2:DB X rest g):DB X (st::rest) (aW f g):=⟨fun pins s σ H D I ⟨ρ,o,H0,G₀,G,e,R,q⟩=>by
 unfold aW at e
 split at e
 ·rename_i ρ' e1
  refine wpAny_execs_cons (thn (h1.run pins s σ H { D with nx:=fun σ' H'=>rS X g D σ' H' } I ⟨ρ,_,H0,G₀,G,e1,R,fun G' H' σ' s' R'=>⟨ρ',o,H0,G₀,G',e,R',q.mono s'⟩⟩) fun fl s1 z=>?_)
  cases fl with
  | next=>obtain ⟨σ',H',I',z⟩:=z;exact h2.run pins s1 σ' H' D I' z
  | ret v=>exact z
  | brk=>exact z
  | cont=>exact z
 ·rename_i z
  have hn:∀ ρ',o≠.nx ρ':=fun ρ' w=>z ρ' (by rw [e,w])
  have q':sJ X H0 G₀ G { D with nx:=fun _ _=>False } o:=by
   cases o with
   | nx ρ'=>exact absurd rfl (hn ρ')
   | rt d=>exact q
   | bk ρ'=>exact q
   | ct ρ'=>exact q
   | xc c ρ'=>exact q
  refine wpAny_execs_cons (thn (h1.run pins s σ H { D with nx:=fun _ _=>False } I ⟨ρ,o,H0,G₀,G,e,R,q'⟩) fun fl s1 z=>?_)
  cases fl with
  | next=>obtain ⟨_,_,_,z⟩:=z;exact z.elim
  | ret v=>exact z
  | brk=>exact z
  | cont=>exact z⟩
theorem aP (h:DS X st f):DB X [st] f:=⟨a3q h.run⟩
def a1u (i:Nat) (f:SF):SF:=fun ρ=>match ρ[i]? with
 | some (.lst ds)=>f (ρ.set i (.val (.list ds)))
 | some (.dct kvs)=>f (ρ.set i (.val (.dict (kvs.map fun p=>(kD p.1,p.2)))))
 | _=>f ρ
theorem vI (i:Nat) (h:DB X rest f):DB X rest (a1u i f):=⟨fun pins s σ H D I ⟨ρ,o,H0,G₀,G,e,R,q⟩=>by
 unfold a1u at e
 split at e
 ·rename_i ds hi
  obtain ⟨G',s',R'⟩:=R.freeze hi
  exact h.run pins s σ H D I ⟨_,o,H0,G₀,G',e,R',q.mono s'⟩
 ·rename_i kvs hi
  obtain ⟨G',s',R'⟩:=R.freezeD hi
  exact h.run pins s σ H D I ⟨_,o,H0,G₀,G',e,R',q.mono s'⟩
 ·exact h.run pins s σ H D I ⟨ρ,o,H0,G₀,G,e,R,q⟩⟩
def retS (fa:EF):SF:=fun ρ=>bns (fa ρ) ρ fun d=>some (.rt d)
theorem aT (h:DE X e fa):DS X (.Return (some e) pos) (retS fa):=⟨fun pins s σ H D I ⟨ρ,o,H0,G₀,G,e,R,q⟩=>b1W h.run pins s σ H D I (sE R e q fun x v G1 H1 g1 R1 rv e1 q1=>by
 cases (Option.some.inj e1);exact q1 v G1 H1 (.refl _) R1.grow rv)⟩
def b4Q (fa:EF):SF:=fun ρ=>bns (fa ρ) ρ fun _=>some (.nx ρ)
def ifS (ft:TF) (f g:SF):SF:=fun ρ=>bns (ft ρ) ρ fun t=>if t then f ρ else g ρ
theorem eB {x y:List Stmt} (hc:DT X c ft) (ha:DB X x f) (hb:DB X y g):DS X (.If c x y pos) (ifS ft f g):=⟨fun pins s σ H D I ⟨ρ,o,H0,G₀,G,e,R,q⟩=>b4t hc.run ha.run hb.run pins s σ H D I (sT R e q fun t G1 H1 g1 R1 e1 q1=>by
 cases t with
 | true=>rw [if_pos rfl] at e1 ⊢;exact ⟨ρ,o,H0,G₀,G1,e1,R1,q1⟩
 | false=>rw [if_neg (by decide)] at e1 ⊢;exact ⟨ρ,o,H0,G₀,G1,e1,R1,q1⟩)⟩
def dO (i:Nat) (fa:EF):SF:=fun ρ=>bns (fa ρ) ρ fun d=>some (.nx (ρ.set i (.val d)))
theorem bY (i:Nat) {x:Str} {p:Pos} (hN:X.N.Nodup) (h:DE X e fa) (hi:X.N[i]?=some x:=by rfl) (hx:Loc X.env.scope x:=by first | exact Or.inl rfl | exact Or.inr rfl)
  (hs:swapsWith e (some (.Name x p)) pos.line X.env=pure false:=by rfl) (hf:X.fn x=true∨X.env.scope.names.lookup x=some .local:=by first | exact .inl rfl | exact .inr rfl) :
  DS X (.Assign [.Name x p] e pos) (dO i fa):=⟨fun pins s σ H D I ⟨ρ,o,H0,G₀,G,e,R,q⟩=>a2u hN hi hx h.run hs hf pins s σ H D I (sE R e q fun x v G1 H1 g1 R1 rv e1 q1=>by
 cases (Option.some.inj e1);exact q1 G1 H1 _ (.refl _) (R1.set rv))⟩
def vW (i:Nat) (f:AF):SF:=fun ρ=>bns (f ρ) ρ fun ds=>if cG ds.length then some (.nx (ρ.set i (.lst ds))) else none
theorem qQ (i:Nat) {x:Str} {p p2:Pos} {es:List Expr} {f:AF} (hN:X.N.Nodup) (h:DA X es f) (hi:X.N[i]?=some x:=by rfl) (hx:Loc X.env.scope x:=by first | exact Or.inl rfl | exact Or.inr rfl)
  (hs:swapsWith (.List es p2) (some (.Name x p)) pos.line X.env=pure false:=by rfl) (hf:X.fn x=true∨X.env.scope.names.lookup x=some .local:=by first | exact .inl rfl | exact .inr rfl) :
  DS X (.Assign [.Name x p] (.List es p2) pos) (vW i f):=⟨fun pins s σ H D I ⟨ρ,o,H0,G₀,G,e,R,q⟩=>a2u hN hi hx (a2z h.run) hs hf pins s σ H D I (sA R e q fun ds vs G1 H1 g1 R1 rv e1 q1=>by
 split at e1
 ·rename_i hz
  cases (Option.some.inj e1)
  exact ⟨by rw [rv.length];exact eS hz,fun a ha=>q1 G1 _ _ (.refl _) (R1.fresh ha rv)⟩
 ·cases e1)⟩
def a5K (i:Nat) (fa:EF):SF:=fun ρ=>match ρ[i]? with
 | some (.lst ds)=>bns (fa ρ) ρ fun d=>if cG ds.length then some (.nx (ρ.set i (.lst (ds++[d])))) else none
 | _=>none
theorem a2V (i:Nat) {x:Str} {p ap cp:Pos} (h:DE X e fa) (hN:X.N[i]?=some x:=by rfl)
  (hv:Vis X.env.scope x:=by first | exact Or.inl rfl | exact Or.inr (Or.inl rfl) | exact Or.inr (Or.inr rfl)) (hd:(x==("__debug__" : Str))=false:=by decide) (hcd:(x==("__classdict__" : Str))=false:=by decide)
  (hbase:attributeBase (.Name x p) "append" X.env (eval (.Name x p) X.env)=eval (.Name x p) X.env:=by rfl)
  (hfew:((backTo cp (starEach (e::[]) X.env)).all (fun x=>!x.1)&&(backToKw cp (keywordEach [] X.env)).all (fun x=>x.1.isSome)&&decide ((e::[]).length+([]:List Keyword).length+(if ([]:List Keyword).isEmpty then 0 else 1)<30))=true:=by rfl)
  (hline:(ap.endLine==cp.line)=true:=by rfl) (hst:starEach (e::[]) X.env=(false,eval e X.env)::starEach [] X.env:=by rfl) (hplain:(backTo cp (starEach [] X.env)).any (·.1)=false:=by rfl)
  (hsw:swapsWith (.Call (.Attribute (.Name x p) "append" ap) [e] [] cp) none pos.line X.env=pure false:=by rfl) :
  DS X (.Expr (.Call (.Attribute (.Name x p) "append" ap) [e] [] cp) pos) (a5K i fa):=⟨fun pins s σ H D I ⟨ρ,o,H0,G₀,G,ef,R,q⟩=>
 a3t (a6O PySem.F.plainAttrs_list PySem.F.slot_list_append PySem.F.type_list_append xB (jP hN hv hd hcd) (dY h.run iR hst) hbase hfew hline hst hplain) hsw pins s σ H D I (by
  unfold a5K at ef
  split at ef
  ·rename_i ds hi
   obtain ⟨a,xs,e1,h1,h2,h3,r⟩:=R.own hi
   refine ⟨.ref a,e1,.inl ⟨rfl,xs,.of h1⟩,sE R ef q fun d v G1 H1 g1 R1 rv e2 q1=>?_⟩
   split at e2
   ·rename_i hz
    cases (Option.some.inj e2)
    exact ⟨a,xs,v,rfl,rfl,g1.hh.lst h1,by rw [r.length];exact b4f hz,q1 G1 _ σ (.refl _) (R1.wrote hi e1 ((r.mono g1.gg).append (.cons rv .nil)))⟩
   ·cases e2
  ·cases ef)⟩
end
end L2.L3
namespace L2.L3
open PySem PySem.Spec PyProof.Rows
section
variable {X:Cx} {st:Stmt} {rest:List Stmt} {f g:SF} {fa fb:EF} {ft:TF} {e c b:Expr} {pos p:Pos}
def b6e (op:Operator) (x y:PyData):Option PyData:=match op,x,y with
 | .Add,.int i,.int j=>some (.int (i+j))
 | .Sub,.int i,.int j=>some (.int (i - j))
 | _,_,_=>none
def b0N (i:Nat) (op:Operator) (fa:EF):SF:=fun ρ=>match ρ[i]? with
 | some (.val x)=>bns (fa ρ) ρ fun y=>(match b6e op x y with | some d=>some (.nx (ρ.set i (.val d))) | none=>none)
 | _=>none
theorem b3q (i:Nat) {x:Str} {op:Operator} (hN:X.N.Nodup) (h:DE X e fa) (hi:X.N[i]?=some x:=by rfl) (hx:Loc X.env.scope x:=by first | exact Or.inl rfl | exact Or.inr rfl)
  (hf:X.fn x=true∨X.env.scope.names.lookup x=some .local:=by first | exact .inl rfl | exact .inr rfl) (ho:op=.Add∨op=.Sub:=by first | exact .inl rfl | exact .inr rfl):DS X (.AugAssign (.Name x p) op e pos) (b0N i op fa):=by
 rcases ho with rfl | rfl
 ·refine ⟨fun pins s σ H D I ⟨ρ,o,H0,G₀,G,ef,R,q⟩=>a6B hN hi hx h.run b3c hf pins s σ H D I ?_⟩
  unfold b0N at ef
  split at ef
  ·rename_i x1 hx1
   obtain ⟨v,ev,rv⟩:=R.val hx1
   refine ⟨v,ev,sE R ef q fun y u G1 H1 g1 R1 ru e1 q1=>?_⟩
   cases rv with
   | int i'=>
    cases ru with
    | int j'=>cases (Option.some.inj e1);exact ⟨_,_,rfl,rfl,q1 G1 H1 _ (.refl _) (R1.set (.int _))⟩
    | none=>cases e1
    | bool _=>cases e1
    | str _=>cases e1
    | list _ _=>cases e1
    | tuple _ _=>cases e1
    | dict _ _ _=>cases e1
   | none=>cases ru<;>cases e1
   | bool _=>cases ru<;>cases e1
   | str _=>cases ru<;>cases e1
   | list _ _=>cases ru<;>cases e1
   | tuple _ _=>cases ru<;>cases e1
   | dict _ _ _=>cases ru<;>cases e1
  ·cases ef
 ·refine ⟨fun pins s σ H D I ⟨ρ,o,H0,G₀,G,ef,R,q⟩=>a6B hN hi hx h.run b3b hf pins s σ H D I ?_⟩
  unfold b0N at ef
  split at ef
  ·rename_i x1 hx1
   obtain ⟨v,ev,rv⟩:=R.val hx1
   refine ⟨v,ev,sE R ef q fun y u G1 H1 g1 R1 ru e1 q1=>?_⟩
   cases rv with
   | int i'=>
    cases ru with
    | int j'=>cases (Option.some.inj e1);exact ⟨_,_,rfl,rfl,q1 G1 H1 _ (.refl _) (R1.set (.int _))⟩
    | none=>cases e1
    | bool _=>cases e1
    | str _=>cases e1
    | list _ _=>cases e1
    | tuple _ _=>cases e1
    | dict _ _ _=>cases e1
   | none=>cases ru<;>cases e1
   | bool _=>cases ru<;>cases e1
   | str _=>cases ru<;>cases e1
   | list _ _=>cases ru<;>cases e1
   | tuple _ _=>cases ru<;>cases e1
   | dict _ _ _=>cases ru<;>cases e1
  ·cases ef
inductive Tg where
 | nm (i:Nat)
 | tp (is:List Nat)
 | nn (i:Nat) (js:List Nat)
def lU:List Ent→List Nat→List PyData→List Ent
 | ρ,i::is,d::ds=>lU (ρ.set i (.val d)) is ds
 | ρ,_,_=>ρ
def tgD (t:Tg) (ρ:List Ent) (d:PyData):Option (List Ent):=match t,d with
 | .nm i,d=>some (ρ.set i (.val d))
 | .tp is,.tuple ds=>if is.length=ds.length then some (lU ρ is ds) else none
 | .nn i js,.tuple [d,.tuple ds]=>if js.length=ds.length then some (lU (ρ.set i (.val d)) js ds) else none
 | _,_=>none
structure DG (X:Cx) (tg:Expr) (t:Tg):Prop where
 run:∀ ρ d ρ',tgD t ρ d=some ρ'→PGD X tg ρ d ρ'
structure DGs (X:Cx) (ts:List Expr) (is:List Nat):Prop where
 run:∀ ρ ds,is.length=ds.length→PGsD X ts ρ ds (lU ρ is ds)
theorem bD (i:Nat) {x:Str} (hN:X.N.Nodup) (hi:X.N[i]?=some x:=by rfl) (hx:Loc X.env.scope x:=by first | exact Or.inl rfl | exact Or.inr rfl) (hf:X.fn x=true∨X.env.scope.names.lookup x=some .local:=by first | exact .inl rfl | exact .inr rfl) :
  DG X (.Name x pos) (.nm i):=⟨fun ρ d ρ' h=>by cases (Option.some.inj h);exact a0U i hN hi hx hf⟩
theorem pJ:DGs X [] []:=⟨fun ρ ds h=>by
 cases ds with
 | nil=>exact a6F
 | cons _ _=>cases h⟩
theorem eE (i:Nat) {x:Str} {es:List Expr} {is:List Nat} (hN:X.N.Nodup) (h:DGs X es is) (hi:X.N[i]?=some x:=by rfl) (hx:Loc X.env.scope x:=by first | exact Or.inl rfl | exact Or.inr rfl)
  (hf:X.fn x=true∨X.env.scope.names.lookup x=some .local:=by first | exact .inl rfl | exact .inr rfl)
  (hs:(assignEach (.Name x pos::es) X.env).map (·.2)=assign (.Name x pos) X.env::(assignEach es X.env).map (·.2):=by rfl):DGs X (.Name x pos::es) (i::is):=⟨fun ρ ds hl=>by
 cases ds with
 | nil=>cases hl
 | cons d ds=>exact a4H (a0U i hN hi hx hf) (h.run _ ds (by simpa using hl)) hs⟩
theorem vE {es:List Expr} {is:List Nat} {k:Nat} (hc:X.calm=true) (h:DGs X es is) (hn:(assignEach es X.env).length=is.length:=by rfl) (hst:(assignEach es X.env).findIdx? (·.1)=none:=by rfl):DG X (.Tuple es k pos) (.tp is):=⟨fun ρ d ρ' hq=>by
 cases d with
 | tuple ds=>
  have hq:(if is.length=ds.length then some (lU ρ is ds) else none)=some ρ':=hq
  split at hq
  ·rename_i hl
   cases (Option.some.inj hq)
   exact a9r hc (h.run ρ ds hl) (hn.trans hl) hst
  ·cases hq
 | none=>cases hq
 | bool _=>cases hq
 | int _=>cases hq
 | str _=>cases hq
 | list _=>cases hq
 | dict _=>cases hq⟩
theorem b1J {i:Nat} {js:List Nat} {ρ ρ':List Ent} {d:PyData} (h:tgD (.nn i js) ρ d=some ρ'):∃ a ds,d=.tuple [a,.tuple ds]∧js.length=ds.length∧ρ'=lU (ρ.set i (.val a)) js ds:=by
 unfold tgD at h
 split at h
 ·rename_i e;cases e
 ·rename_i e;cases e
 ·rename_i i' js' a ds e
  cases e
  split at h
  ·rename_i hl;exact ⟨a,ds,rfl,hl,(Option.some.inj h).symm⟩
  ·cases h
 ·cases h
def rG (X:Cx) (t:Tg):TG:=fun v σ H Q=>∃ ρ d ρ' H0 G₀ G,tgD t ρ d=some ρ'∧RepS X.K H0 G₀ G H σ ρ∧Rep X.K G v d∧∀ σ',RepS X.K H0 G₀ G H σ' ρ'→Q σ' H
theorem DG.pg {tg:Expr} {t:Tg} (h:DG X tg t):PG X tg (rG X t):=fun pins s σ H v u Q I r ⟨ρ,d,ρ',H0,G₀,G,e,R,rv,q⟩=>(h.run ρ d ρ' e).run pins s σ H v u Q I r ⟨H0,G₀,G,R,rv,q⟩
def b1C (t:Tg) (fa:EF):SF:=fun ρ=>bns (fa ρ) ρ fun d=>(tgD t ρ d).map So.nx
theorem b3o {tg:Expr} {t:Tg} (h:DE X e fa) (hg:DG X tg t) (hs:swapsWithSole [tg] e pos.line X.env=pure false:=by rfl) (hw:swappedStores [tg] e X.env=pure none:=by rfl)
  (h1:(assignEach [tg] X.env).map (·.2)=[assign tg X.env]:=by rfl):DS X (.Assign [tg] e pos) (b1C t fa):=⟨fun pins s σ H D I ⟨ρ,o,H0,G₀,G,ef,R,q⟩=>
 b1Y h.run hg.pg hs hw h1 pins s σ H D I (sE R ef q fun d v G1 H1 g1 R1 rv e1 q1=>by
  obtain ⟨ρ',e2,rfl⟩:=Option.map_eq_some_iff.mp e1
  exact ⟨ρ,d,ρ',H0,G₀,G1,e2,R1,rv,fun σ' R'=>q1 G1 H1 σ' (.refl _) R'⟩)⟩
def b6o (X:Cx) (H0 G₀ G:Hp) (ρ:List Ent) (H:Hp) (R:It→Hp→Prop):Re (List PyData)→Prop
 | .ok ds=>∀ J G' H',Grow G H G' H'→Walk X.K J G' ds→R J H'
 | .ex c=>jY X H0 G₀ G ρ c
def rIt (X:Cx) (f:AF):TI:=fun σ H R=>∃ ρ r H0 G₀ G,f ρ=some r∧RepS X.K H0 G₀ G H σ ρ∧b6o X H0 G₀ G ρ H R r
structure DI (X:Cx) (tg iter:Expr) (f:AF):Prop where
 run:PI X tg iter (rIt X f)
theorem DI.pid {tg iter:Expr} {f:AF} (h:DI X tg iter f) {ρ:List Ent} {ds:List PyData} (e:f ρ=some (.ok ds)):PID X tg iter ρ ds:=⟨fun pins s σ H R I ⟨H0,G₀,G,S,q⟩=>h.run pins s σ H R I ⟨ρ,_,H0,G₀,G,e,S,q⟩⟩
theorem a3U {tg iter:Expr} {f:AF} (h:∀ ρ r,f ρ=some r→∃ ds,r=.ok ds∧PID X tg iter ρ ds):DI X tg iter f:=⟨fun pins s σ H R I ⟨ρ,r,H0,G₀,G,e,S,q⟩=>by
 obtain ⟨ds,rfl,hp⟩:=h ρ r e
 exact hp.run pins s σ H R I ⟨H0,G₀,G,S,q⟩⟩
def oN:PyData→Option (List PyData)
 | .list ds=>some ds
 | .tuple ds=>some ds
 | _=>none
def fF (fa:EF):AF:=fun ρ=>bnd (fa ρ) fun x=>lft (oN x)
theorem cE {tg iter:Expr} (h:DE X iter fa):DI X tg iter (fF fa):=⟨fun pins s σ H R I ⟨ρ,r,H0,G₀,G,e,S,q⟩=>by
 rcases dE e with ⟨x,e1,e2⟩ | ⟨c,e1,e2⟩
 ·obtain ⟨ds,e3,rfl⟩:=aX e2
  cases x with
  | list es=>cases (Option.some.inj e3);exact (a6D (h.pd e1)).run pins s σ H R I ⟨H0,G₀,G,S,q⟩
  | tuple es=>cases (Option.some.inj e3);exact (a9o (h.pd e1)).run pins s σ H R I ⟨H0,G₀,G,S,q⟩
  | none=>cases e3
  | bool _=>cases e3
  | int _=>cases e3
  | str _=>cases e3
  | dict _=>cases e3
 ·subst e2
  exact yZ h.run pins s σ H R I ⟨ρ,_,H0,G₀,G,e1,S,q⟩⟩
def intD:PyData→Option Int
 | .int i=>some i
 | _=>none
theorem lA {d:PyData} {i:Int} (h:intD d=some i):d=.int i:=by
 cases d<;>first | (cases h;done) | (cases (Option.some.inj h);rfl)
def jK (n:Int):Bool:=decide (-(2 ^ 62)≤n)&&decide (n<2 ^ 62)
theorem fO {n:Int} (h:jK n=true):-(2 ^ 62)≤n∧n<2 ^ 62:=by
 unfold jK at h
 rw [Bool.and_eq_true] at h
 exact ⟨of_decide_eq_true h.1,of_decide_eq_true h.2⟩
def a0Q (fa:EF):AF:=fun ρ=>match fa ρ with
 | some (.ok (.int n))=>if jK n then some (.ok (eI 0 n.toNat)) else none
 | _=>none
def a9h (fa fb:EF):AF:=fun ρ=>match fa ρ,fb ρ with
 | some (.ok (.int m)),some (.ok (.int n))=>if jK m&&jK n then some (.ok (eI m (n - m).toNat)) else none
 | _,_=>none
theorem sP {tg a:Expr} (hm:X.mg "range" = none) (h:DE X a fa) (hs:starEach [a] X.env=[(false,eval a X.env)]:=by rfl) (hs':starEach [a] X.env=(false,eval a X.env)::starEach [] X.env:=by rfl) (hg:Gl X "range":=by rfl) :
  DI X tg (.Call (.Name "range" p) [a] [] pos) (a0Q fa):=a3U fun ρ r e=>by
 unfold a0Q at e
 split at e
 ·rename_i n en
  split at e
  ·rename_i hr
   exact ⟨_,(Option.some.inj e).symm,a2x hm (h.pd en) (fO hr).1 (fO hr).2 hs hs' hg⟩
  ·cases e
 ·cases e
theorem a3T {tg a b:Expr} (hm:X.mg "range" = none) (h:DE X a fa) (h':DE X b fb)
  (hs:starEach [a,b] X.env=[(false,eval a X.env),(false,eval b X.env)]:=by rfl) (hs2:starEach [b] X.env=[(false,eval b X.env)]:=by rfl)
  (hs':starEach [a,b] X.env=(false,eval a X.env)::starEach [b] X.env:=by rfl) (hs2':starEach [b] X.env=(false,eval b X.env)::starEach [] X.env:=by rfl) (hg:Gl X "range":=by rfl) :
  DI X tg (.Call (.Name "range" p) [a,b] [] pos) (a9h fa fb):=a3U fun ρ r e=>by
 unfold a9h at e
 split at e
 ·rename_i m n em en
  split at e
  ·rename_i hr
   rw [Bool.and_eq_true] at hr
   exact ⟨_,(Option.some.inj e).symm,a2w hm (h.pd em) (h'.pd en) (fO hr.1).1 (fO hr.1).2 (fO hr.2).1 (fO hr.2).2 hs hs2 hs' hs2' hg⟩
  ·cases e
 ·cases e
def oX (t:Tg) (fb:SF):List PyData→List Ent→Option So
 | [],ρ=>some (.nx ρ)
 | d::ds,ρ=>match tgD t ρ d with
  | none=>none
  | some ρ1=>(match fb ρ1 with
   | some (.nx ρ2)=>oX t fb ds ρ2
   | some (.ct ρ2)=>oX t fb ds ρ2
   | some (.bk ρ2)=>some (.nx ρ2)
   | some (.rt d)=>some (.rt d)
   | some (.xc c ρ2)=>some (.xc c ρ2)
   | none=>none)
def a5f (t:Tg) (fi:AF) (fb:SF):SF:=fun ρ=>bns (fi ρ) ρ fun ds=>oX t fb ds ρ
theorem a0e {tg iter:Expr} {body:List Stmt} {t:Tg} {fi:AF} (hp:PassesOwn (model X.prog X.w) X.A X.env X.xe) (hc:X.calm=true) (hi:DI X tg iter fi) (hg:DG X tg t) (hb:DB X body g)
  (hs:∀ x,foldedSetIterable iter X.env x=pure x:=by intro _;rfl):DS X (.For tg iter body [] pos) (a5f t fi g):=⟨fun pins s σ H D I ⟨ρ,o,H0,G₀,G,ef,R,q⟩=>
 b1X hp hc hi.run hg.pg hb.run hs pins s σ H D I (by
  rcases mH ef with ⟨ds,e1,e2⟩ | ⟨c,e1,e2⟩
  ·refine ⟨ρ,_,H0,G₀,G,e1,R,fun J G1 H1 g1 wk=>?_⟩
   refine ⟨fun i m σ' H'=>m=ds.length - i∧i≤ds.length∧∃ ρ' G',bR G1 G'∧RepS X.K H0 G₀ G' H' σ' ρ'∧oX t g (ds.drop i) ρ'=some o,⟨ds.length,by simp,Nat.zero_le _,ρ,G1,.refl _,R.more g1,by simpa using e2⟩,?_⟩
   rintro i m σ' H' ⟨rfl,hin,ρ',G',s',R',e'⟩
   obtain ⟨wgo,wstop⟩:=wk i G' H' s' R'.sub
   by_cases hlt:i<ds.length
   ·rw [List.drop_eq_getElem_cons hlt] at e'
    have hx:ds[i]?=some ds[i]:=List.getElem?_eq_getElem hlt
    refine .inr ⟨(wgo _ hx).1,fun σ2 H2=>∃ ρ2 G2,bR G1 G2∧RepS X.K H0 G₀ G2 H2 σ2 ρ2∧oX t g (ds.drop (i+1)) ρ2=some o,?_,fun x H2 y=>?_⟩
    ·rintro σ2 H2 ⟨ρ2,G2,s2,R2,e2⟩
     exact ⟨ds.length - (i+1),by omega,rfl,hlt,ρ2,G2,s2,R2,e2⟩
    ·obtain ⟨G2,g2,rx⟩:=(wgo _ hx).2 x H2 y
     unfold oX at e'
     split at e'
     ·cases e'
     ·rename_i ρ1 et
      refine ⟨ρ',ds[i],ρ1,H0,G₀,G2,et,R'.more g2,rx,fun σ3 R3=>?_⟩
      have sg:bR G1 G2:=s'.trans g2.gg
      split at e'
      ·rename_i ρ2 eb
       exact ⟨ρ1,_,H0,G₀,G2,eb,R3,fun G4 H4 σ4 s4 R4=>⟨ρ2,G4,sg.trans s4,R4,e'⟩⟩
      ·rename_i ρ2 eb
       exact ⟨ρ1,_,H0,G₀,G2,eb,R3,fun G4 H4 σ4 s4 R4=>⟨ρ2,G4,sg.trans s4,R4,e'⟩⟩
      ·rename_i ρ2 eb
       cases (Option.some.inj e')
       exact ⟨ρ1,_,H0,G₀,G2,eb,R3,fun G4 H4 σ4 s4 R4=>q G4 H4 σ4 (g1.gg.trans (sg.trans s4)) R4⟩
      ·rename_i d' eb
       cases (Option.some.inj e')
       exact ⟨ρ1,_,H0,G₀,G2,eb,R3,fun v G4 H4 s4 gr rv=>q v G4 H4 (g1.gg.trans (sg.trans s4)) gr rv⟩
      ·rename_i c' ρ2 eb
       cases (Option.some.inj e')
       exact ⟨ρ1,_,H0,G₀,G2,eb,R3,jY.mono q (g1.gg.trans sg)⟩
      ·cases e'
   ·have hi':i=ds.length:=by omega
    subst hi'
    rw [List.drop_length] at e'
    cases (Option.some.inj e')
    exact .inl ⟨wstop (Nat.le_refl _),q G' H' σ' (g1.gg.trans s') R'⟩
  ·subst e2
   exact ⟨ρ,_,H0,G₀,G,e1,R,q⟩)⟩
end
end L2.L3
namespace L2.L3
open PySem PySem.Spec PyProof.Rows
def uD (t:Tg) (ρb:List Ent) (ft:TF) (fe:EF):List PyData→Option (List PyData)
 | []=>some []
 | d::ds=>match tgD t ρb d with
  | none=>none
  | some ρx=>(match ft ρx with
   | some (.ok true)=>(match fe ρx with
    | some (.ok v)=>(uD t ρb ft fe ds).map (v::·)
    | _=>none)
   | some (.ok false)=>uD t ρb ft fe ds
   | _=>none)
def cF (t:Tg) (cap:List (Option Nat)) (fi:AF) (ft:TF) (fe:EF):EF:=fun ρ=>bnd (fi ρ) fun ds=>if cG ds.length then lft ((uD t (dD cap ρ) ft fe ds).map .list) else none
def ttT:TF:=fun _=>some (.ok true)
def cX (t:Tg) (ρb:List Ent) (d:PyData):List Ent:=(tgD t ρb d).getD []
def cT (t:Tg) (ρb:List Ent) (ft:TF) (d:PyData):Bool:=match ft (cX t ρb d) with
 | some (.ok b)=>b
 | _=>false
def cV (t:Tg) (ρb:List Ent) (fe:EF) (d:PyData):PyData:=match fe (cX t ρb d) with
 | some (.ok v)=>v
 | _=>.none
theorem oY {t:Tg} {ρb:List Ent} {ft:TF} {fe:EF}:∀ {ds es:List PyData},uD t ρb ft fe ds=some es →
  (∀ d∈ds,tgD t ρb d=some (cX t ρb d)∧ft (cX t ρb d)=some (.ok (cT t ρb ft d))∧(cT t ρb ft d=true→fe (cX t ρb d)=some (.ok (cV t ρb fe d))))∧es=(ds.filter (cT t ρb ft)).map (cV t ρb fe)
 | [],es,h=>by
  cases (Option.some.inj h)
  exact ⟨fun _ z=>absurd z (by simp),rfl⟩
 | d::ds,es,h=>by
  unfold uD at h
  split at h
  ·cases h
  ·rename_i ρx et
   have ex:cX t ρb d=ρx:=by unfold cX;rw [et];rfl
   split at h
   ·rename_i e1
    have e1':cT t ρb ft d=true:=by unfold cT;rw [ex,e1]
    split at h
    ·rename_i v ev
     obtain ⟨es',e3,rfl⟩:=Option.map_eq_some_iff.mp h
     obtain ⟨i1,i2⟩:=oY e3
     have evv:cV t ρb fe d=v:=by unfold cV;rw [ex,ev]
     refine ⟨fun d' hd=>?_,?_⟩
     ·rcases List.mem_cons.mp hd with rfl | hd
      ·rw [ex,e1',evv];exact ⟨et,e1,fun _=>ev⟩
      ·exact i1 d' hd
     ·rw [List.filter_cons_of_pos e1',List.map_cons,evv,i2]
    ·cases h
   ·rename_i e1
    have e1':cT t ρb ft d=false:=by unfold cT;rw [ex,e1]
    obtain ⟨i1,i2⟩:=oY h
    refine ⟨fun d' hd=>?_,?_⟩
    ·rcases List.mem_cons.mp hd with rfl | hd
     ·rw [ex,e1'];exact ⟨et,e1,fun z=>by cases z⟩
     ·exact i1 d' hd
    ·rw [List.filter_cons_of_neg (by rw [e1'];decide),i2]
   ·cases h
def a2g (cap:List (Option Nat)):Tg→Bool
 | .nm i=>(match cap[i]? with | some (some _)=>false | _=>true)
 | .tp is=>is.all fun i=>match cap[i]? with | some (some _)=>false | _=>true
 | .nn i js=>(match cap[i]? with | some (some _)=>false | _=>true)&&js.all fun i=>match cap[i]? with | some (some _)=>false | _=>true
theorem lM:∀ {a b:List Ent} {i:Nat} {e:Ent},Weak a b→(b[i]?=some .no∨b[i]?=none)→Weak (a.set i e) b
 | _,_,_,_,.nil,_=>.nil
 | _::_,_,0,_,.keep w,h=>by
  rcases h with h | h
  ·cases (Option.some.inj h);exact .no w
  ·cases h
 | _::_,_,0,_,.no w,_=>.no w
 | _::_,_,i+1,_,.keep w,h=>.keep (lM w (by simpa using h))
 | _::_,_,i+1,_,.no w,h=>.no (lM w (by simpa using h))
theorem a0h {cap:List (Option Nat)} {ρ:List Ent} {i:Nat} (h:(match cap[i]? with | some (some _)=>false | _=>true)=true):(dD cap ρ)[i]?=some .no∨(dD cap ρ)[i]?=none:=by
 unfold dD
 rw [List.getElem?_map]
 cases e:cap[i]? with
 | none=>exact .inr rfl
 | some o=>
  rw [e] at h
  cases o with
  | none=>exact .inl rfl
  | some j=>cases h
theorem sR {cap:List (Option Nat)} {ρ:List Ent}:∀ {is:List Nat} {ds:List PyData} {a:List Ent},(is.all fun i=>match cap[i]? with | some (some _)=>false | _=>true)=true→Weak a (dD cap ρ)→Weak (lU a is ds) (dD cap ρ)
 | [],ds,a,_,w=>by cases ds<;>exact w
 | i::is,[],a,_,w=>w
 | i::is,d::ds,a,h,w=>by
  rw [List.all_cons,Bool.and_eq_true] at h
  exact sR (is:=is) (ds:=ds) (a:=a.set i (.val d)) h.2 (lM w (a0h h.1))
theorem a3i {cap:List (Option Nat)} {ρ ρx:List Ent} {t:Tg} {d:PyData} (hf:a2g cap t=true) (h:tgD t (dD cap ρ) d=some ρx):Weak ρx (dD cap ρ):=by
 cases t with
 | nm i=>cases (Option.some.inj h);exact lM (.refl _) (a0h hf)
 | tp is=>
  cases d with
  | tuple ds=>
   have h:(if is.length=ds.length then some (lU (dD cap ρ) is ds) else none)=some ρx:=h
   split at h
   ·cases (Option.some.inj h);exact sR hf (.refl _)
   ·cases h
  | none=>cases h
  | bool _=>cases h
  | int _=>cases h
  | str _=>cases h
  | list _=>cases h
  | dict _=>cases h
 | nn i js=>
  obtain ⟨a,ds,rfl,hl,rfl⟩:=b1J h
  have hf:((match cap[i]? with | some (some _)=>false | _=>true)&&js.all fun i=>match cap[i]? with | some (some _)=>false | _=>true)=true:=hf
  rw [Bool.and_eq_true] at hf
  exact sR hf.2 (lM (.refl _) (a0h hf.1))
section
variable {X:Cx} {elt iter tg:Expr} {ifs:List Expr} {scope:Scope} {pos spos p:Pos} {N':List Str} {cap:List (Option Nat)} {t:Tg} {fi:AF} {ft:TF} {fe:EF}
structure DTs (X:Cx) (ifs:List Expr) (f:TF):Prop where
 run:∀ ρ b,f ρ=some (.ok b)→PTsD X ifs ρ b
theorem bS:DTs X [] ttT:=⟨fun ρ b e=>by cases (Option.some.inj e);exact a6x⟩
theorem mV {c:Expr} (h:DT X c ft):DTs X [c] ft:=⟨fun ρ b e=>a6w (h.ptd e)⟩
theorem bN (hc:X.calm=true) (B:Blk X scope N' cap) (hi:DI X tg iter fi) (hf:a2g cap t=true) (hg:∀ C s₃ H₃ fp,DG (dA X scope N' C s₃ H₃ fp) tg t) (ht:∀ C s₃ H₃ fp,DTs (dA X scope N' C s₃ H₃ fp) ifs ft)
  (he:∀ C s₃ H₃ fp,DE (dA X scope N' C s₃ H₃ fp) elt fe) (hs:∀ x,foldedSetIterable iter X.env x=pure x:=by intro _;rfl):DE X (.ListComp elt [⟨tg,iter,ifs,0⟩] scope pos) (cF t cap fi ft fe):=⟨fun pins s σ H Q I ⟨ρ,r,H0,G₀,G,e,R,q⟩=>by
 rcases dE e with ⟨ds,e1,e2⟩ | ⟨c,e1,e2⟩
 ·split at e2
  ·rename_i hz
   obtain ⟨d,ed,rfl⟩:=aX e2
   obtain ⟨es,e3,rfl⟩:=Option.map_eq_some_iff.mp ed
   obtain ⟨k1,rfl⟩:=oY e3
   exact (a9w (xs:=ds) (φ:=fun d=>d) (ρb:=dD cap ρ) (ρx:=cX t (dD cap ρ)) (cnd:=cT t (dD cap ρ) ft) (f:=cV t (dD cap ρ) fe) hc B (by simpa using hi.pid e1) (.refl _) (fun x hx=>a3i hf (k1 x hx).1) (eS hz)
    (fun C s₃ H₃ fp x hx=>(hg C s₃ H₃ fp).run _ _ _ (k1 x hx).1) (fun C s₃ H₃ fp x hx=>(ht C s₃ H₃ fp).run _ _ (k1 x hx).2.1) (fun C s₃ H₃ fp x hx hcx=>(he C s₃ H₃ fp).pd ((k1 x hx).2.2 hcx)) hs).run H0 G₀ G pins s σ H Q I R q
  ·cases e2
 ·subst e2
  exact a3w (g:=fun _ _ _ _=>False) (tc:=fun _ _ _=>False) (te:=fun _ _ _=>False) hc B hi.run (fun _ _ _ _ _ _ _ _ _ _ _ _ _ z=>z.elim) (fun _ _ _ _ _ _ _ _ _ _ z=>z.elim) (fun _ _ _ _ _ _ _ _ _ _ z=>z.elim) hs pins s σ H Q I
   ⟨ρ,_,H0,G₀,G,e1,R,q⟩⟩
theorem a0d (i:Nat) {x:Str} (hN:X.N.Nodup) (hc:X.calm=true) (B:Blk X scope N' cap) (hi:DI X tg iter fi) (hf:a2g cap t=true) (hg:∀ C s₃ H₃ fp,DG (dA X scope N' C s₃ H₃ fp) tg t) (ht:∀ C s₃ H₃ fp,DTs (dA X scope N' C s₃ H₃ fp) ifs ft)
  (he:∀ C s₃ H₃ fp,DE (dA X scope N' C s₃ H₃ fp) elt fe)
  (hxi:X.N[i]?=some x:=by rfl) (hx:X.env.scope.names.lookup x=some .local:=by rfl)
  (hsw:swapsWith (.ListComp elt [⟨tg,iter,ifs,0⟩] scope pos) (some (.Name x p)) spos.line X.env=pure true:=by rfl)
  (hs:∀ x,foldedSetIterable iter X.env x=pure x:=by intro _;rfl):DS X (.Assign [.Name x p] (.ListComp elt [⟨tg,iter,ifs,0⟩] scope pos) spos) (dO i (cF t cap fi ft fe)):=⟨fun pins s σ H D I ⟨ρ,o,H0,G₀,G,e,R,q⟩=>by
 rcases mH e with ⟨d,e1,e2⟩ | ⟨c,e1,e2⟩
 ·cases (Option.some.inj e2)
  rcases dE e1 with ⟨ds,e3,e4⟩ | ⟨c,_,e4⟩
  ·split at e4
   ·rename_i hz
    obtain ⟨d',ed,z⟩:=aX e4
    cases z
    obtain ⟨es,e5,rfl⟩:=Option.map_eq_some_iff.mp ed
    obtain ⟨k1,rfl⟩:=oY e5
    exact (a6A i (xs:=ds) (φ:=fun d=>d) (ρb:=dD cap ρ) (ρx:=cX t (dD cap ρ)) (cnd:=cT t (dD cap ρ) ft) (f:=cV t (dD cap ρ) fe) hN hc B (by simpa using hi.pid e3) (.refl _) (fun x hx=>a3i hf (k1 x hx).1) (eS hz)
     (fun C s₃ H₃ fp x hx=>(hg C s₃ H₃ fp).run _ _ _ (k1 x hx).1) (fun C s₃ H₃ fp x hx=>(ht C s₃ H₃ fp).run _ _ (k1 x hx).2.1) (fun C s₃ H₃ fp x hx hcx=>(he C s₃ H₃ fp).pd ((k1 x hx).2.2 hcx)) hxi hx hsw hs).run pins s σ H D I ⟨H0,G₀,G,R,q⟩
   ·cases e4
  ·cases e4
 ·subst e2
  rcases dE e1 with ⟨ds,e3,e4⟩ | ⟨c',e3,e4⟩
  ·split at e4
   ·obtain ⟨_,_,z⟩:=aX e4;cases z
   ·cases e4
  ·cases e4
   exact a3s (g:=fun _ _ _ _=>False) (tc:=fun _ _ _=>False) (te:=fun _ _ _=>False) hN hxi hx hc B hi.run (fun _ _ _ _ _ _ _ _ _ _ _ _ _ z=>z.elim) (fun _ _ _ _ _ _ _ _ _ _ z=>z.elim) (fun _ _ _ _ _ _ _ _ _ _ z=>z.elim) hsw hs pins s σ H D I
    ⟨ρ,_,H0,G₀,G,e3,R,q⟩⟩
end
def pX (m:Nat) (ds:List PyData):List Ent:=ds.map .val++List.replicate (m - ds.length) .no
def cU (m n:Nat) (f:SF) (ds:List PyData):Mm PyData:=if ds.length=n then (match f (pX m ds) with
 | some (.rt d)=>some (.ok d)
 | some (.nx _)=>some (.ok .none)
 | _=>none) else none
abbrev aJ (P:Program) (w:World) (K:PySem.W.Frag) (mg:Str→Option Value) (base:Heap) (x:Str) (k:Nat) (ps:List Str) (F:List PyData→Mm PyData):Prop:=
 Callee P w K mg base x k ps fun ds d=>F ds=some (.ok d)
section
variable {P:Program} {w:World} {K:PySem.W.Frag} {mg:Str→Option Value} {base:Heap} {X:Cx} {e:Expr} {es:List Expr} {pos p:Pos} {x:Str} {k:Nat} {ps N:List Str} {F:List PyData→Mm PyData}
def aU (F:List PyData→Mm PyData) (fa:AF):EF:=fun ρ=>bnd (fa ρ) fun ds=>match F ds with
 | some (.ok d)=>some (.ok d)
 | _=>none
theorem aQ {fa:AF} (C:aJ X.prog X.w X.K X.mg X.base x k ps F) (hr:Room k X.A) (ha:DA X (e::es) fa) (hg:Gl X x:=by rfl) (hdb:(x==("__debug__" : Str))=false:=by decide)
  (he:starEach (e::es) X.env=(false,eval e X.env)::starEach es X.env:=by rfl) (hpl:(backTo pos (starEach es X.env)).any (·.1)=false:=by rfl):DE X (.Call (.Name x p) (e::es) [] pos) (aU F fa):=⟨fun pins s σ H Q I ⟨ρ,r,H0,G₀,G,e',R,q⟩=>by
 obtain ⟨f,fd,a,b,c,Fk⟩:=C.ex
 refine a3x Fk hr hg a b c .nil (a6R (X:=X)) ha.run hdb he hpl pins s σ H Q I (bA R e' q.x fun ds vs G1 H1 g1 R1 rv e1=>?_)
 split at e1
 ·rename_i d ed
  cases (Option.some.inj e1)
  exact ⟨G1,ds,d,⟨g1.sub,R1.tab⟩,by simpa using rv,ed,fun v G2 H2 g2 r2=>q v G2 H2 (g1.trans g2) r2⟩
 ·cases e1⟩
theorem pY (N:List Str) (ds:List PyData):gW N ds=pX N.length ds:=rfl
theorem a7T {st:Stmt} {f:SF} {fa:Addr} {fd:FuncData} (m n:Nat) (Fu:Fun K x x st fa fd) (S:FnScope N ps (aG st)) (hm:N.length=m) (hn:ps.length=n)
  (body:∀ (cdv:Value) (A:Around) (outer:List Env) (s:Shared) (H:Hp) (E:XK),Room k (A.deeper (envOfC x (aG st) s.heap.objs.size fa cdv))→DB (fcx P w K mg base N x (aG st) fa cdv A outer s H E) (cN st) f) :
  FnOk P w K mg base CX0 (k+1) fa fd ps (spD K fun ds d=>cU m n f ds=some (.ok d)):=by
 refine Fu.ok S (fun vs H Q E ⟨G,ds,d,s,r,hF,_⟩=>?_) (fun cdv A outer s H vs Q E hr ⟨G,ds,d,sm,r,hF,q⟩=>?_)
 ·have hF:cU m n f ds=some (.ok d):=hF
  unfold cU at hF
  split at hF
  ·rename_i hl;rw [r.length,hl,hn]
  ·cases hF
 ·have hF:cU m n f ds=some (.ok d):=hF
  unfold cU at hF
  split at hF
  ·rw [←hm,←pY] at hF
   split at hF
   ·rename_i d' e
    cases (Option.some.inj hF)
    exact ⟨_,(body cdv A outer s H E hr).run,gW N ds,_,H,G,G,e,fA sm r,fun v G' H' _ g rv=>q v G' H' g rv⟩
   ·rename_i ρ' e
    cases (Option.some.inj hF)
    exact ⟨_,(body cdv A outer s H E hr).run,gW N ds,_,H,G,G,e,fA sm r,fun G' H' σ' _ R'=>q .non G' H' R'.grow .none⟩
   ·cases hF
  ·cases hF
theorem aR {st:Stmt} {f:SF} (m n:Nat) (D:Def K mg x st) (S:FnScope N ps (aG st)) (hm:N.length=m) (hn:ps.length=n)
  (hb:∀ (kV doc pm:Value) (an:Option Addr) (cdv ct:Value) (us:List Value),us.length=ps.length→bindArgs (PySem.W.fnOf x x (fR st) (cN st) (aG st) .none kV doc pm an cdv ct) ⟨us,[]⟩=pure (ps.zip us))
  (body:∀ (fa:Addr) (cdv:Value) (A:Around) (outer:List Env) (s:Shared) (H:Hp) (E:XK),Room k (A.deeper (envOfC x (aG st) s.heap.objs.size fa cdv))→DB (fcx P w K mg base N x (aG st) fa cdv A outer s H E) (cN st) f) :
  aJ P w K mg base x (k+1) ps (cU m n f):=by
 obtain ⟨fa,fd,Fu,hmg⟩:=D.ex
 exact ⟨fa,fd,hmg,Fu.kp,Fu.binds hb,a7T m n Fu S hm hn fun cdv A outer s H E hr=>body fa cdv A outer s H E hr⟩
end
end L2.L3
namespace L2.L3
open PySem PySem.Spec PyProof.Rows
def eL {α:Type} (f:PyData→Option α):List PyData→Option (List α)
 | []=>some []
 | d::ds=>match f d with
  | none=>none
  | some a=>(eL f ds).map (a::·)
def yQ:PyData→Option Str
 | .str i=>some i
 | _=>none
theorem sK {d:PyData} {i:Str} (h:yQ d=some i):d=.str i:=by
 cases d<;>first | (cases h;done) | (cases (Option.some.inj h);rfl)
theorem dG {α:Type} {f:PyData→Option α} {g:α→PyData} (h:∀ d a,f d=some a→d=g a):∀ {ds:List PyData} {as:List α},eL f ds=some as→ds=as.map g
 | [],as,e=>by cases (Option.some.inj e);rfl
 | d::ds,as,e=>by
  unfold eL at e
  split at e
  ·cases e
  ·rename_i a ea
   obtain ⟨as',e',rfl⟩:=Option.map_eq_some_iff.mp e
   rw [List.map_cons,←h d a ea,dG h e']
theorem gS {α:Type} {f:PyData→Option α} {g:α→PyData} (h:∀ a,f (g a)=some a):∀ as:List α,eL f (as.map g)=some as
 | []=>rfl
 | a::as=>by rw [List.map_cons,eL,h a];show (eL f (as.map g)).map (a::·)=_;rw [gS h as];rfl
theorem a4o (ns:List Str):eL yQ (ns.map .str)=some ns:=gS (g:=.str) (fun _=>rfl) ns
section
variable {X:Cx} {x y d:PyData}
theorem a6W {op:Operator} {g:Int→Int→Int} {i j:Int} (ho:OpR X (binaryOp op) (rI0 fun i j=>.int (g i j))):OpD X op (.int i) (.int j) (.int (g i j)):=⟨_,ho,fun v u G H Q s rv ru q=>by
 cases rv;cases ru;exact ⟨_,_,rfl,rfl,q _ _ _ (.refl s) (.int _)⟩⟩
theorem zF {op:Operator} {C:Int→Int→Prop} {g:Int→Int→Int} {i j:Int} (ho:OpR X (binaryOp op) (rI C fun i j=>.int (g i j))) (hc:C i j):OpD X op (.int i) (.int j) (.int (g i j)):=⟨_,ho,fun v u G H Q s rv ru q=>by
 cases rv;cases ru;exact ⟨_,_,rfl,rfl,hc,q _ _ _ (.refl s) (.int _)⟩⟩
def cZ (x y:PyData):Option PyData:=match x,y with
 | .int i,.int j=>some (.int (i+j))
 | .str i,.str j=>if cG (i.length+j.length) then some (.str (i++j)) else none
 | .list a,.list b=>if cG (a.length+b.length) then some (.list (a++b)) else none
 | .tuple a,.tuple b=>if cG (a.length+b.length) then some (.tuple (a++b)) else none
 | _,_=>none
theorem bF (x y d:PyData) (h:cZ x y=some d):OpD X .Add x y d:=by
 unfold cZ at h
 split at h
 ·cases (Option.some.inj h);exact a6W b2s
 ·split at h
  ·rename_i i j hz
   cases (Option.some.inj h)
   exact ⟨_,a2A,fun v u G H Q s rv ru q=>by cases rv;cases ru;exact ⟨_,_,rfl,rfl,eS hz,q _ _ _ (.refl s) (.str _)⟩⟩
  ·cases h
 ·split at h
  ·rename_i a b hz
   cases (Option.some.inj h)
   exact ⟨_,a9E,fun v u G H Q s rv ru q=>by
    cases rv with
    | list h1 r1=>cases ru with
     | list h2 r2=>exact ⟨_,_,_,_,rfl,rfl,s.seq h1,s.seq h2,by rw [r1.length,r2.length];exact eS hz,fun l hl=>q _ _ _ (.put s hl) (.list (.of aN) ((r1.append r2).mono (bC (s.free hl))))⟩⟩
  ·cases h
 ·split at h
  ·rename_i a b hz
   cases (Option.some.inj h)
   exact ⟨_,a9C,fun v u G H Q s rv ru q=>by
    cases rv with
    | tuple h1 r1=>cases ru with
     | tuple h2 r2=>
      refine ⟨_,_,_,_,rfl,rfl,iO s h1,iO s h2,by rw [r1.length,r2.length];exact eS hz,fun z=>?_,fun z z2=>?_,fun _ _ l hl=>q _ _ _ (.put s hl) (.tuple (.of aN) ((r1.append r2).mono (bC (s.free hl))))⟩
      ·subst z
       cases r1
       exact q _ G H (.refl s) (.tuple h2 r2)
      ·subst z2
       cases r2
       exact q _ G H (.refl s) (by rw [List.append_nil];exact .tuple h1 r1)⟩
  ·cases h
 ·cases h
def sC (x y:PyData):Option PyData:=match x,y with
 | .int i,.int j=>some (.int (i - j))
 | _,_=>none
theorem lQ (x y d:PyData) (h:sC x y=some d):OpD X .Sub x y d:=by
 unfold sC at h
 split at h
 ·cases (Option.some.inj h);exact a6W b2k
 ·cases h
def dX (i:Int):Bool:=decide (-(2 ^ 64)<i)&&decide (i<2 ^ 64)
theorem wL {i:Int} (h:dX i=true):-(2 ^ 64)<i∧i<2 ^ 64:=by
 unfold dX at h
 rw [Bool.and_eq_true] at h
 exact ⟨of_decide_eq_true h.1,of_decide_eq_true h.2⟩
def jC (x y:PyData):Option PyData:=match x,y with
 | .int i,.int j=>if dX i || dX j then some (.int (i*j)) else none
 | _,_=>none
theorem iT (x y d:PyData) (h:jC x y=some d):OpD X .Mult x y d:=by
 unfold jC at h
 split at h
 ·split at h
  ·rename_i hz
   cases (Option.some.inj h)
   rw [Bool.or_eq_true] at hz
   exact zF b2n (hz.imp wL wL)
  ·cases h
 ·cases h
def a1c (x y:PyData):Option PyData:=match x,y with
 | .int i,.int j=>if 0<j then some (.int (i % j)) else none
 | _,_=>none
theorem uB (x y d:PyData) (h:a1c x y=some d):OpD X .Mod x y d:=by
 unfold a1c at h
 split at h
 ·split at h
  ·rename_i hz
   cases (Option.some.inj h)
   exact zF b2o hz
  ·cases h
 ·cases h
def a7V (x y:PyData):Option PyData:=match x,y with
 | .int i,.int j=>if 0<j∧j<1073741824 then some (.int (i / j)) else none
 | _,_=>none
theorem a7U (x y d:PyData) (h:a7V x y=some d):OpD X .FloorDiv x y d:=by
 unfold a7V at h
 split at h
 ·split at h
  ·rename_i hz
   cases (Option.some.inj h)
   exact zF a9B hz
  ·cases h
 ·cases h
def ltD (x y:PyData):Option Bool:=match x,y with
 | .int i,.int j=>some (decide (i<j))
 | _,_=>none
def leD (x y:PyData):Option Bool:=match x,y with
 | .int i,.int j=>some (decide (i≤j))
 | .str i,.str j=>some (!decide (j.cps.toList<i.cps.toList))
 | _,_=>none
def gtD (x y:PyData):Option Bool:=match x,y with
 | .int i,.int j=>some (decide (j<i))
 | _,_=>none
def geD (x y:PyData):Option Bool:=match x,y with
 | .int i,.int j=>some (decide (j≤i))
 | _,_=>none
theorem oW (x y:PyData) (t:Bool) (h:ltD x y=some t):CmpD X .Lt x y t:=by
 unfold ltD at h;split at h
 ·cases (Option.some.inj h);exact b3A
 ·cases h
theorem iW (x y:PyData) (t:Bool) (h:leD x y=some t):CmpD X .LtE x y t:=by
 unfold leD at h;split at h
 ·cases (Option.some.inj h);exact b3B
 ·cases (Option.some.inj h);exact b0C
 ·cases h
theorem b1h (x y:PyData) (t:Bool) (h:gtD x y=some t):CmpD X .Gt x y t:=by
 unfold gtD at h;split at h
 ·cases (Option.some.inj h);exact cmp_gt
 ·cases h
def eqD (x y:PyData):Option Bool:=match x,y with
 | .int i,.int j=>some (decide (i=j))
 | .str i,.str j=>some (decide (i=j))
 | .bool i,.bool j=>some (decide (i=j))
 | x,y=>if SeqAt.shaped x&&SeqAt.shaped y then some (PyData.eqv x y) else none
def neD (x y:PyData):Option Bool:=match x,y with
 | .int i,.int j=>some (!decide (i=j))
 | .str i,.str j=>some (!decide (i=j))
 | .bool i,.bool j=>some (!decide (i=j))
 | x,y=>if SeqAt.shaped x&&SeqAt.shaped y then some (!PyData.eqv x y) else none
theorem vC (hu:X.A.units+64<cLine) (x y:PyData) (t:Bool) (h:eqD x y=some t):CmpD X .Eq x y t:=by
 unfold eqD at h;split at h
 ·cases (Option.some.inj h);exact b0G
 ·cases (Option.some.inj h);exact b0F
 ·cases (Option.some.inj h);exact b0H
 ·split at h
  ·rename_i hz
   rw [Bool.and_eq_true] at hz
   cases (Option.some.inj h);exact b3C hu hz.1 hz.2
  ·cases h
theorem kB (hu:X.A.units+64<cLine) (x y:PyData) (t:Bool) (h:neD x y=some t):CmpD X .NotEq x y t:=by
 unfold neD at h;split at h
 ·cases (Option.some.inj h);exact b0A
 ·cases (Option.some.inj h);exact b0z
 ·cases (Option.some.inj h);exact b0B
 ·split at h
  ·rename_i hz
   rw [Bool.and_eq_true] at hz
   cases (Option.some.inj h);exact b3z hu hz.1 hz.2
  ·cases h
def inD (x y:PyData):Option Bool:=match x,oN y with
 | .int i,some ds=>(eL intD ds).map fun ns=>decide (i∈ns)
 | .str i,some ds=>(eL yQ ds).map fun ns=>decide (i∈ns)
 | _,_=>none
def b2y (x y:PyData):Option Bool:=(inD x y).map (!·)
theorem kM {K:PySem.W.Frag} {G H:Hp} {v:V} {y:PyData} {ds:List PyData} (s:bR G H) (h:oN y=some ds) (r:Rep K G v y):∃ p vs,v=.ref p∧(SqL K H p vs∨SqT K H p vs)∧RepAll K G vs ds:=by
 cases r with
 | list hq r=>cases (Option.some.inj h);exact ⟨_,_,rfl,.inl (s.seq hq),r⟩
 | tuple hq r=>cases (Option.some.inj h);exact ⟨_,_,rfl,.inr (iO s hq),r⟩
 | dict _ _ _=>cases h
 | none=>cases h
 | bool _=>cases h
 | int _=>cases h
 | str _=>cases h
theorem b2w (x y:PyData) (t:Bool) (h:b2y x y=some t):CmpD X .NotIn x y t:=by
 unfold b2y at h
 obtain ⟨t',hq,rfl⟩:=Option.map_eq_some_iff.mp h
 clear h
 unfold inD at hq;split at hq
 ·rename_i i ds e
  obtain ⟨ns,e2,rfl⟩:=Option.map_eq_some_iff.mp hq
  have:=dG (g:=.int) (fun d a q=>lA q) e2
  subst this
  exact ⟨_,oU,fun v u G H Q s rv ru q=>by
   obtain ⟨p,vs,rfl,hq,r⟩:=kM s e ru
   have e3:=r.ints
   subst e3
   cases rv
   exact ⟨p,_,rfl,hq,rfl,a5h ns,by rw [a7D];simpa using q⟩⟩
 ·rename_i i ds e
  obtain ⟨ns,e2,rfl⟩:=Option.map_eq_some_iff.mp hq
  have:=dG (g:=.str) (fun d a q=>sK q) e2
  subst this
  exact ⟨_,oU,fun v u G H Q s rv ru q=>by
   obtain ⟨p,vs,rfl,hq,r⟩:=kM s e ru
   have e3:=r.strs
   subst e3
   cases rv
   exact ⟨p,_,rfl,hq,rfl,a5g ns,by rw [a7C];simpa using q⟩⟩
 ·cases hq
def nB (ds:List PyData):Option PyData:=match ds with
 | [.list xs]=>some (.int xs.length)
 | [.tuple xs]=>some (.int xs.length)
 | [.str z]=>if cG z.length then some (.int z.length) else none
 | _=>none
theorem jQ (ds:List PyData) (d:PyData) (h:nB ds=some d):CallD X (.builtin "len") ds d:=by
 unfold nB at h;split at h
 ·cases (Option.some.inj h)
  exact ⟨_,pP,fun vs G H Q s r q=>by
   cases r with | cons r rr=>cases rr;cases r with | list hq r=>exact ⟨_,_,rfl,.inl (s.seq hq),by rw [r.length];exact q _ G H (.refl s) (.int _)⟩⟩
 ·cases (Option.some.inj h)
  exact ⟨_,pP,fun vs G H Q s r q=>by
   cases r with | cons r rr=>cases rr;cases r with | tuple hq r=>exact ⟨_,_,rfl,.inr (iO s hq),by rw [r.length];exact q _ G H (.refl s) (.int _)⟩⟩
 ·split at h
  ·rename_i hz
   cases (Option.some.inj h)
   exact ⟨_,a0l,fun vs G H Q s r q=>by
    cases r with | cons r rr=>cases rr;cases r with | str z=>exact ⟨_,rfl,eS hz,q _ G H (.refl s) (.int _)⟩⟩
  ·cases h
 ·cases h
def a7i (ds:List PyData):Option PyData:=match ds with
 | [.int i,.int j]=>some (.int (max i j))
 | [.list xs]=>(match eL intD xs with | some (n::ns)=>some (.int (b2H (n::ns))) | _=>none)
 | _=>none
def a9S (ds:List PyData):Option PyData:=match ds with
 | [.int i,.int j]=>some (.int (min i j))
 | [.list xs]=>(match eL intD xs with | some (n::ns)=>some (.int (b2G (n::ns))) | _=>none)
 | _=>none
theorem a7h (hc:X.calm=true) (ds:List PyData) (d:PyData) (h:a7i ds=some d):CallD X (.builtin "max") ds d:=by
 unfold a7i at h;split at h
 ·rename_i i j
  cases (Option.some.inj h)
  exact ⟨_,a5z hc,fun vs G H Q s r q=>by
   cases r with | cons r rr=>cases rr with | cons r' rr=>cases rr;cases r;cases r';exact ⟨i,j,rfl,by rw [show (if j > i then j else i)=max i j by split<;>omega];exact q _ G H (.refl s) (.int _)⟩⟩
 ·split at h
  ·rename_i xs n ns e
   cases (Option.some.inj h)
   have:=dG (g:=.int) (fun d a q=>lA q) e
   subst this
   exact ⟨_,a5y hc,fun vs G H Q s r q=>by
    cases r with | cons r rr=>cases rr;cases r with | list hq r=>
     have e:=r.ints
     subst e
     exact ⟨_,n::ns,rfl,s.seq hq,by simp,fun M m1 m2=>by rw [a9T m1 m2];exact q _ G H (.refl s) (.int _)⟩⟩
  ·cases h
 ·cases h
theorem b2F (hc:X.calm=true) (ds:List PyData) (d:PyData) (h:a9S ds=some d):CallD X (.builtin "min") ds d:=by
 unfold a9S at h;split at h
 ·rename_i i j
  cases (Option.some.inj h)
  exact ⟨_,a5x hc,fun vs G H Q s r q=>by
   cases r with | cons r rr=>cases rr with | cons r' rr=>cases rr;cases r;cases r';exact ⟨i,j,rfl,by rw [show (if j<i then j else i)=min i j by split<;>omega];exact q _ G H (.refl s) (.int _)⟩⟩
 ·split at h
  ·rename_i xs n ns e
   cases (Option.some.inj h)
   have:=dG (g:=.int) (fun d a q=>lA q) e
   subst this
   exact ⟨_,a5w hc,fun vs G H Q s r q=>by
    cases r with | cons r rr=>cases rr;cases r with | list hq r=>
     have e:=r.ints
     subst e
     exact ⟨_,n::ns,rfl,s.seq hq,by simp,fun M m1 m2=>by rw [a9R m1 m2];exact q _ G H (.refl s) (.int _)⟩⟩
  ·cases h
 ·cases h
def allB (ds:List PyData):Option PyData:=match ds with
 | [.list xs]=>(eL kG xs).map fun ns=>.bool (ns.all id)
 | _=>none
theorem oI (hc:X.calm=true) (ds:List PyData) (d:PyData) (h:allB ds=some d):CallD X (.builtin "all") ds d:=by
 unfold allB at h;split at h
 ·obtain ⟨ns,e,rfl⟩:=Option.map_eq_some_iff.mp h
  have:=dG (g:=.bool) (fun d a q=>pR q) e
  subst this
  exact ⟨_,a5C hc,fun vs G H Q s r q=>by
   cases r with | cons r rr=>cases rr;cases r with | list hq r=>
    have e:=r.bools
    subst e
    exact ⟨_,ns,rfl,s.seq hq,q _ G H (.refl s) (.bool _)⟩⟩
 ·cases h
def yL (ds:List PyData):Option PyData:=match ds with
 | [.list xs]=>some (.tuple xs)
 | [.tuple xs]=>some (.tuple xs)
 | _=>none
theorem yK (ds:List PyData) (d:PyData) (h:yL ds=some d):CallD X (.type "tuple") ds d:=by
 unfold yL at h;split at h
 ·cases (Option.some.inj h)
  exact ⟨_,nR,fun vs G H Q s r q=>by
   cases r with | cons r rr=>cases rr;cases r with | list hq r=>exact ⟨_,_,rfl,.inl ⟨s.seq hq,fun l hl=>q _ _ _ (.put s hl) (.tuple (.of aN) (r.mono (bC (s.free hl))))⟩⟩⟩
 ·cases (Option.some.inj h)
  exact ⟨_,nR,fun vs G H Q s r q=>by
   cases r with | cons r rr=>cases rr;cases r with | tuple hq r=>exact ⟨_,_,rfl,.inr ⟨iO s hq,q _ G H (.refl s) (.tuple hq r)⟩⟩⟩
 ·cases h
def a4S (ds:List PyData):Option PyData:=match ds with
 | [.list xs]=>some (.list xs)
 | [.tuple xs]=>some (.list xs)
 | _=>none
theorem a7k (ds:List PyData) (d:PyData) (h:a4S ds=some d):CallD X (.type "list") ds d:=by
 unfold a4S at h;split at h
 ·cases (Option.some.inj h)
  exact ⟨_,pO,fun vs G H Q s r q=>by
   cases r with | cons r rr=>cases rr;cases r with | list hq r=>exact ⟨_,_,rfl,.inl (s.seq hq),fun l hl=>q _ _ _ (.put s hl) (.list (.of aN) (r.mono (bC (s.free hl))))⟩⟩
 ·cases (Option.some.inj h)
  exact ⟨_,pO,fun vs G H Q s r q=>by
   cases r with | cons r rr=>cases rr;cases r with | tuple hq r=>exact ⟨_,_,rfl,.inr (iO s hq),fun l hl=>q _ _ _ (.put s hl) (.list (.of aN) (r.mono (bC (s.free hl))))⟩⟩
 ·cases h
def b0g (ds:List PyData):Option PyData:=match ds with
 | [.bool b]=>some (.int (if b then 1 else 0))
 | [.int i]=>some (.int i)
 | _=>none
theorem b3d (ds:List PyData) (d:PyData) (h:b0g ds=some d):CallD X (.type "int") ds d:=by
 unfold b0g at h;split at h
 ·cases (Option.some.inj h)
  exact ⟨_,xY,fun vs G H Q s r q=>by
   cases r with | cons r rr=>cases rr;cases r;exact .inr ⟨_,rfl,q _ G H (.refl s) (.int _)⟩⟩
 ·cases (Option.some.inj h)
  exact ⟨_,xY,fun vs G H Q s r q=>by
   cases r with | cons r rr=>cases rr;cases r;exact .inl ⟨_,rfl,q _ G H (.refl s) (.int _)⟩⟩
 ·cases h
def a4u (ds:List PyData):Option PyData:=match ds with
 | [.list xs]=>(match eL intD xs with | some ns=>if ns.length<64 then some (.list ((sortI ns).map .int)) else none | none=>none)
 | _=>none
theorem b1N (ds:List PyData) (d:PyData) (h:a4u ds=some d):CallD X (.builtin "sorted") ds d:=by
 unfold a4u at h;split at h
 ·split at h
  ·rename_i xs ns e
   split at h
   ·rename_i hl
    cases (Option.some.inj h)
    have:=dG (g:=.int) (fun d a q=>lA q) e
    subst this
    exact ⟨_,a0k,fun vs G H Q s r q=>by
     cases r with | cons r rr=>cases rr;cases r with | list hq r=>
      have e:=r.ints
      subst e
      exact ⟨_,ns,rfl,s.seq hq,hl,fun l hn=>q _ _ _ (.put s hn) (.list (.of aN) (eP _))⟩⟩
   ·cases h
  ·cases h
 ·cases h
end
section
variable {X:Cx} {a b:Expr} {pos p p2:Pos} {fa fb:EF}
def nA:PyData→Option PyData
 | .int i=>some (.int (-i))
 | _=>none
def op1 (g:PyData→Option PyData) (fa:EF):EF:=fun ρ=>bnd (fa ρ) fun x=>lft (g x)
theorem jU (ha:DE X a fa):DE X (.UnaryOp .USub a pos) (op1 nA fa):=⟨fun pins s σ H Q I ⟨ρ,r,H0,G₀,G,e,R,q⟩=>b4u b1D ha.run pins s σ H Q I (bE R e q.x fun x v G1 H1 g1 R1 rv e1=>by
 obtain ⟨d,ed,rfl⟩:=aX e1
 cases x with
 | int i=>cases (Option.some.inj ed);cases rv;exact ⟨_,rfl,q _ _ _ g1 (.int _)⟩
 | none=>cases ed
 | bool _=>cases ed
 | str _=>cases ed
 | list _=>cases ed
 | tuple _=>cases ed
 | dict _=>cases ed)⟩
end
end L2.L3
namespace L2.L3
open PySem PySem.Spec PyProof.Rows
def a8B (g1 g2 g3:PyData→PyData→Option Bool) (fa fb fc fd:EF):EF:=fun ρ=>bnd (fa ρ) fun x=>bnd (fb ρ) fun y=>bnd (lft (g1 x y)) fun t=>if t then bnd (fc ρ) fun z=>bnd (lft (g2 y z)) fun u=>if u then bnd (fd ρ) fun w=>lft ((g3 z w).map .bool) else some (.ok (.bool false)) else some (.ok (.bool false))
def isB (k x:PyData):Option Bool:=match k,x with
 | .none,.none=>some true
 | .none,.bool _=>some false
 | .none,.int _=>some false
 | .none,.str _=>some false
 | .none,.list _=>some false
 | .none,.tuple _=>some false
 | .none,.dict _=>some false
 | .bool a,.bool b=>some (b==a)
 | _,_=>none
def isE (neg:Bool) (k:PyData) (fa:EF):EF:=fun ρ=>bnd (fa ρ) fun x=>lft ((isB k x).map fun t=>.bool (neg != t))
def isT (neg:Bool) (k:PyData) (fa:EF):TF:=fun ρ=>bnd (fa ρ) fun x=>lft ((isB k x).map fun t=>neg != t)
abbrev OF:=List Ent→Mm (Option Int)
def gI:OF:=fun _=>some (.ok none)
def fM (fa:EF):OF:=fun ρ=>bnd (fa ρ) fun x=>lft ((intD x).map some)
def slD (x:PyData) (lo hi:Option Int):Option PyData:=match x with
 | .list ds=>some (.list (cutD ds lo hi))
 | .tuple ds=>if HT.sIx ds.length 0 lo=0∧HT.sIx ds.length ds.length hi=ds.length then none else some (.tuple (cutD ds lo hi))
 | _=>none
def slE (fa:EF) (lo hi:OF):EF:=fun ρ=>bnd (fa ρ) fun x=>bnd (lo ρ) fun l=>bnd (hi ρ) fun h=>lft (slD x l h)
def tyI:PyData→Option Bool
 | .int _=>some true
 | .bool _=>some true
 | .dict _=>none
 | _=>some false
def tyB:PyData→Option Bool
 | .bool _=>some true
 | .dict _=>none
 | _=>some false
def tyS:PyData→Option Bool
 | .str _=>some true
 | .dict _=>none
 | _=>some false
def tyT:PyData→Option Bool
 | .tuple _=>some true
 | .dict _=>none
 | _=>some false
def b0d (T:String) (x:PyData):Option Bool:=if T = "int" then tyI x else if T = "bool" then tyB x else if T = "str" then tyS x else if T = "tuple" then tyT x else none
def isD (T:String) (x:PyData):Option PyData:=(b0d T x).map .bool
def a1d (fa fb:EF):EF:=fun ρ=>match fa ρ,fb ρ with
 | some (.ok (.int m)),some (.ok (.int n))=>if jK m&&jK n&&cG (n - m).toNat then some (.ok (.list (eI m (n - m).toNat))) else none
 | _,_=>none
def a4g (a b:List PyData):List PyData:=(a.zip b).map fun p=>.tuple [p.1,p.2]
def b1u (fa fb:EF):AF:=fun ρ=>match fa ρ,fb ρ with
 | some (.ok (.list a)),some (.ok (.list b))=>some (.ok (a4g a b))
 | _,_=>none
def qT (ns:List Int):List Int:=ns.foldl (fun a n=>if n∈a then a else a++[n]) []
def gA (ns:List Str):List Str:=ns.foldl (fun a n=>if n∈a then a else a++[n]) []
def bP (a b:Str):Bool:=!decide (b.cps.toList<a.cps.toList)
def jD (ns:List Str):List Str:=ns.mergeSort bP
def rC (x:PyData):Option PyData:=match x with
 | .list xs=>(match eL intD xs with
  | some ns=>if ns.length<64 then some (.list ((sortI (qT ns)).map .int)) else none
  | none=>(match eL yQ xs with
   | some ns=>if ns.length<64 then some (.list ((jD (gA ns)).map .str)) else none
   | none=>none))
 | _=>none
end L2.L3
namespace L2.L3
open PySem PySem.Spec PyProof.Rows
section
variable {X:Cx} {e a b c d:Expr} {es:List Expr} {pos p p2:Pos} {fa fb fc fd:EF}
theorem b0y {o1 o2 o3:CmpOp} {g1 g2 g3:PyData→PyData→Option Bool} (h1:∀ x y t,g1 x y=some t→CmpD X o1 x y t) (h2:∀ x y t,g2 x y=some t→CmpD X o2 x y t) (h3:∀ x y t,g3 x y=some t→CmpD X o3 x y t)
  (ha:DE X a fa) (hb:DE X b fb) (hc:DE X c fc) (hd:DE X d fd) (hm:lastMarks [o1,o2,o3] [b,c,d]=false:=by with_unfolding_all rfl):DE X (.Compare a [o1,o2,o3] [b,c,d] pos) (a8B g1 g2 g3 fa fb fc fd):=⟨fun pins s σ H Q I ⟨ρ,r,H0,G₀,G,ef,R,q⟩=>by
 refine Compare_chain (thn (ha.run pins s σ H (fun v H1=>rE X fb σ H1 fun u H2=>∃ x y G2 t,CmpD X o1 x y t∧Rep X.K G2 v x∧Rep X.K G2 u y∧RepS X.K H0 G₀ G2 H2 σ ρ∧a1V X H0 G₀ G2 ρ H2 Q r ∧
   (if t then bnd (fc ρ) fun z=>bnd (lft (g2 y z)) fun u=>if u then bnd (fd ρ) fun w=>lft ((g3 z w).map .bool) else some (.ok (.bool false)) else some (.ok (.bool false)))=some r) I
  (bE R ef q.x fun x v G1 H1 k1 R1 rv e1=>bE R1 e1 (q.more k1).x fun y u G2 H2 k2 R2 ru e2=>by
   rcases dE e2 with ⟨t,et,e3⟩ | ⟨_,et,_⟩
   ·obtain ⟨t',et',z⟩:=aX et
    cases z
    exact ⟨x,y,G2,_,h1 x y _ et',rv.mono k2.gg,ru,R2,(q.more k1).more k2,e3⟩
   ·obtain ⟨_,_,z⟩:=aX et;cases z)) fun v s1 ⟨xv,H1,I1,r1,q1⟩=>chain_link (thn (hb.run pins s1 σ H1 _ I1 q1) fun u s2 ⟨yv,H2,I2,r2,x,y,G2,t,ct,rx,ry,R2,q2,e3⟩=>?_)) hm
 obtain ⟨rr,hr1,hr2⟩:=ct.ex
 refine thn (hr1 pins s2 σ H2 xv yv v u (fun w H'=>w=.bl t∧H'=H2) I2 r1 r2 (hr2 xv yv G2 H2 _ R2.sub rx ry ⟨rfl,rfl⟩)) fun dv s3 ⟨z,H3,I3,r3,ez,eH⟩=>?_
 subst ez eH
 cases r3
 refine wpAny_truthy_bool ?_
 cases t with
 | false=>
  refine ite_ff ?_
  rw [if_neg (by decide)] at e3
  cases (Option.some.inj e3)
  exact ⟨.bl false,H3,I3,rfl,q2 _ _ _ (.refl R2.sub) (.bool _)⟩
 | true=>
  refine ite_tt ?_
  rw [if_pos rfl] at e3
  refine chain_link (thn (hc.run pins s3 σ H3 (fun w H4=>∃ z G4 t,CmpD X o2 y z t∧Rep X.K G4 yv y∧Rep X.K G4 w z∧RepS X.K H0 G₀ G4 H4 σ ρ∧a1V X H0 G₀ G4 ρ H4 Q r ∧
    (if t then bnd (fd ρ) fun w=>lft ((g3 z w).map .bool) else some (.ok (.bool false)))=some r) I3
   (bE R2 e3 q2.x fun z w G4 H4 k4 R4 rw' e4=>by
    rcases dE e4 with ⟨t,et,e5⟩ | ⟨_,et,_⟩
    ·obtain ⟨t',et',z'⟩:=aX et
     cases z'
     exact ⟨z,G4,_,h2 y z _ et',ry.mono k4.gg,rw',R4,q2.more k4,e5⟩
    ·obtain ⟨_,_,z'⟩:=aX et;cases z')) fun w s4 ⟨wv,H4,I4,r4,z,G4,t,ct2,ry4,rz,R4,q4,e5⟩=>?_)
  obtain ⟨rr2,hr3,hr4⟩:=ct2.ex
  refine thn (hr3 pins s4 σ H4 yv wv u w (fun w H'=>w=.bl t∧H'=H4) I4 r2 r4 (hr4 yv wv G4 H4 _ R4.sub ry4 rz ⟨rfl,rfl⟩)) fun dv2 s5 ⟨z2,H5,I5,r5,ez2,eH2⟩=>?_
  subst ez2 eH2
  cases r5
  refine wpAny_truthy_bool ?_
  cases t with
  | false=>
   refine ite_ff ?_
   rw [if_neg (by decide)] at e5
   cases (Option.some.inj e5)
   exact ⟨.bl false,H5,I5,rfl,q4 _ _ _ (.refl R4.sub) (.bool _)⟩
  | true=>
   refine ite_tt ?_
   rw [if_pos rfl] at e5
   refine chain_last (thn (hd.run pins s5 σ H5 (fun k H6=>∃ rr,OpR X (compareOp o3) rr∧rr wv k H6 Q) I5
    (bE R4 e5 q4.x fun wd k G6 H6 k6 R6 rk e6=>by
     obtain ⟨d',ed,rfl⟩:=aX e6
     obtain ⟨t,et,rfl⟩:=Option.map_eq_some_iff.mp ed
     obtain ⟨rr3,hr5,hr6⟩:=(h3 z wd t et).ex
     exact ⟨rr3,hr5,hr6 wv k G6 H6 Q k6.sub (rz.mono k6.gg) rk (q4 _ _ _ k6 (.bool _))⟩)) fun k s6 ⟨kv,H6,I6,r6,rr3,hr5,q6⟩=>hr5 pins s6 σ H6 wv kv w k Q I6 r4 r6 q6)⟩
theorem b2p:OpR X (compareOp .Is) (fun x y H Q=>∃ c d,x=.bl c∧y=.bl d∧Q (.bl (c==d)) H):=by
 intro pins s σ H x y v u Q I rx ry ⟨c,d,e1,e2,q⟩
 subst e1 e2
 cases rx;cases ry
 exact is_bool (bM I q rfl)
theorem a9A:OpR X (compareOp .IsNot) (fun x y H Q=>∃ c d,x=.bl c∧y=.bl d∧Q (.bl (c != d)) H):=by
 intro pins s σ H x y v u Q I rx ry ⟨c,d,e1,e2,q⟩
 subst e1 e2
 cases rx;cases ry
 exact isnot_bool (bM I q rfl)
theorem b0E {x:PyData} {t:Bool} (h:isB .none x=some t):CmpD X .Is x .none t:=⟨_,a6U,fun v u G H Q s rv ru q=>by
 cases ru
 refine ⟨rfl,?_⟩
 cases rv<;>(have h:=Option.some.inj h;subst h;simpa using q)⟩
theorem a8w {x:PyData} {t:Bool} (h:isB .none x=some t):CmpD X .IsNot x .none (true != t):=⟨_,a9y,fun v u G H Q s rv ru q=>by
 cases ru
 refine ⟨rfl,?_⟩
 cases rv<;>(have h:=Option.some.inj h;subst h;simpa using q)⟩
theorem a1r {c:Bool} {x:PyData} {t:Bool} (h:isB (.bool c) x=some t):∃ d,x=.bool d∧t=(d==c):=by
 cases x<;>first | (cases h;done) | (exact ⟨_,rfl,(Option.some.inj h).symm⟩)
theorem b0D {c:Bool} {x:PyData} {t:Bool} (h:isB (.bool c) x=some t):CmpD X .Is x (.bool c) t:=by
 obtain ⟨d,rfl,rfl⟩:=a1r h
 exact ⟨_,b2p,fun v u G H Q s rv ru q=>by cases rv;cases ru;exact ⟨_,_,rfl,rfl,q⟩⟩
theorem a8v {c:Bool} {x:PyData} {t:Bool} (h:isB (.bool c) x=some t):CmpD X .IsNot x (.bool c) (true != t):=by
 obtain ⟨d,rfl,rfl⟩:=a1r h
 exact ⟨_,a9A,fun v u G H Q s rv ru q=>by cases rv;cases ru;exact ⟨_,_,rfl,rfl,by cases d<;>cases c<;>exact q⟩⟩
def isG (neg:Bool) (k:PyData) (x y:PyData):Option Bool:=match k,y with
 | .none,.none=>(isB k x).map fun t=>neg != t
 | .bool a,.bool b=>if a=b then (isB k x).map fun t=>neg != t else none
 | _,_=>none
theorem b2Z (neg:Bool) (k:PyData) (hk:k=.none∨∃ c,k=.bool c):isE neg k fa=oG (isG neg k) fa (cst k):=by
 funext ρ
 unfold isE oG cst
 cases fa ρ with
 | none=>rfl
 | some r=>cases r with
  | ex c=>rfl
  | ok x=>
   rcases hk with rfl | ⟨c,rfl⟩
   ·show lft _=lft _;simp only [isG,Option.map_map];rfl
   ·show lft _=lft _;simp only [isG,if_pos,Option.map_map];rfl
theorem b2W (neg:Bool) (k:PyData) (hk:k=.none∨∃ c,k=.bool c):isT neg k fa=fH (isG neg k) fa (cst k):=by
 funext ρ
 unfold isT fH cst
 cases fa ρ with
 | none=>rfl
 | some r=>cases r with
  | ex c=>rfl
  | ok x=>
   rcases hk with rfl | ⟨c,rfl⟩
   ·rfl
   ·show lft _=lft _;simp only [isG,if_pos]
theorem b2Y {k x y:PyData} {t:Bool} (h:isG false k x y=some t):CmpD X .Is x y t:=by
 unfold isG at h
 split at h
 ·obtain ⟨t',e,rfl⟩:=Option.map_eq_some_iff.mp h
  have:=b0E (X:=X) e
  cases t'<;>exact this
 ·split at h
  ·rename_i hab
   subst hab
   obtain ⟨t',e,rfl⟩:=Option.map_eq_some_iff.mp h
   have:=b0D (X:=X) e
   cases t'<;>exact this
  ·cases h
 ·cases h
theorem b0e {k x y:PyData} {t:Bool} (h:isG true k x y=some t):CmpD X .IsNot x y t:=by
 unfold isG at h
 split at h
 ·obtain ⟨t',e,rfl⟩:=Option.map_eq_some_iff.mp h
  exact a8w (X:=X) e
 ·split at h
  ·rename_i hab
   subst hab
   obtain ⟨t',e,rfl⟩:=Option.map_eq_some_iff.mp h
   exact a8v (X:=X) e
  ·cases h
 ·cases h
theorem a2X {j} (ha:DE X a fa):DE X (.Compare a [.Is] [.Constant .none j p] pos) (isE false .none fa):=by rw [b2Z _ _ (.inl rfl)];exact lB (fun _ _ _ h=>b2Y h) ha aZ
theorem wD {j} (ha:DE X a fa):DT X (.Compare a [.IsNot] [.Constant .none j p] pos) (isT true .none fa):=by rw [b2W _ _ (.inl rfl)];exact cI (fun _ _ _ h=>b0e h) ha aZ
end
end L2.L3
namespace L2.L3
open PySem PySem.Spec PyProof.Rows
theorem Inv.turnNew {X:Cx} {pins:List (Addr×Obj)} {σ:St} {H:Hp} {s:Shared} {h':Heap} {t':Nat} {T:Addr} {xs:List V} (ch:List Addr) (I:Inv X pins σ H s) (hf:∀ b∈ch,sI X pins H b)
  (k:∀ b o,b∉ch→s.heap.get? b=some o→h'.get? b=some o) (hT:s.heap.objs.size≤T) (new:cM X.prog X.w (upd H T (.tup xs)) h' T (.tup xs)):Inv X pins σ (upd H T (.tup xs)) { s with heap:=h',toks:=t' }:=by
 have nT:H T=none:=I.hok.fresh hT
 have ne:∀ b o,s.heap.get? b=some o→b≠T:=fun b o e=>Nat.ne_of_lt (Nat.lt_of_lt_of_le (Heap.lt_size e) hT)
 have up:∀ b u,H b=some u→upd H T (.tup xs) b=some u:=fun b u e=>by rw [aL (bI e nT)];exact e
 refine I.step (g':=s.gens) (d':=s.drawn) (ch:=ch) (fun b hb=>?_) (fun b o _ _ hc e _=>k b o hc e) (fun b o _ _ hc e _=>⟨o.slots,k b o hc e⟩) (fun b o _ e n=>by rw [aL (ne b o e)];exact n)
  (fun b o hc e=>⟨o,k b o hc e⟩) (fun b u e=>up b _ e) (fun b o u e=>up b _ e) (fun b ps e=>⟨#[],by rw [up b _ e];simp⟩) (fun m hm=>?_) (fun b u e=>?_) I.bare
 ·obtain ⟨f0,f1,f2,f3,f4,f5⟩:=hf b hb
  exact ⟨f3,f1,f4,f5⟩
 ·obtain ⟨o,es,ep,ho,r⟩:=hm
  exact ⟨o,es,ep,k _ o (fun z=>(hf _ z).2.1 rfl) ho,r⟩
 ·by_cases hb:b=T
  ·subst hb
   rw [aN] at e
   cases e
   exact new
  ·rw [aL hb] at e
   refine (I.hok b u e).stay (fun c v hc q=>k c v (fun z=>?_) q) (fun q e'=>up _ _ e') fun c v q=>up _ _ q
   have f0:=(hf c z).1
   rcases hc with z' | z'
   ·rw [z',e] at f0;cases f0
   ·rw [z'] at f0;cases f0
theorem Inv.turnAll {X:Cx} {pins:List (Addr×Obj)} {σ:St} {H:Hp} {s:Shared} {h':Heap} {t':Nat} (ch:List Addr) (I:Inv X pins σ H s) (hf:∀ b∈ch,sI X pins H b)
  (k:∀ b o,b∉ch→s.heap.get? b=some o→h'.get? b=some o):Inv X pins σ H { s with heap:=h',toks:=t' }:=by
 refine I.step (g':=s.gens) (d':=s.drawn) (ch:=ch) (fun b hb=>?_) (fun b o _ _ hc e _=>k b o hc e) (fun b o _ _ hc e _=>⟨o.slots,k b o hc e⟩) (fun b o _ e n=>n)
  (fun b o hc e=>⟨o,k b o hc e⟩) (fun b u e=>e) (fun b o u e=>e) (fun b ps e=>⟨#[],by rw [e];simp⟩) (fun m hm=>?_) (fun b u e=>?_) I.bare
 ·obtain ⟨f0,f1,f2,f3,f4,f5⟩:=hf b hb
  exact ⟨f3,f1,f4,f5⟩
 ·obtain ⟨o,es,ep,ho,r⟩:=hm
  exact ⟨o,es,ep,k _ o (fun z=>(hf _ z).2.1 rfl) ho,r⟩
 ·refine (I.hok b u e).stay (fun c v hc q=>k c v (fun z=>?_) q) (fun q e'=>e') fun c v q=>q
  have f0:=(hf c z).1
  rcases hc with z' | z'
  ·rw [z',e] at f0;cases f0
  ·rw [z'] at f0;cases f0
def Itz (K:PySem.W.Frag) (l1 l2:Addr):It:=
 ⟨fun i H=>∃ xs ys x y,SqL K H l1 xs∧SqL K H l2 ys∧xs[i]?=some x∧ys[i]?=some y,
 fun i H v H'=>∃ T x y,H T=none∧v=.ref T∧H'=upd H T (.tup [x,y])∧(∀ xs,SqL K H l1 xs→xs[i]?=some x)∧∀ ys,SqL K H l2 ys→ys[i]?=some y,
 fun i H=>∃ xs ys,SqL K H l1 xs∧SqL K H l2 ys∧(xs.length≤i∨ys.length≤i)⟩
def b3U (z TI TO i1 i2 l1 l2:Addr) (i:Nat) (h:Heap):Prop:=IsZip h z TI TO .none∧IsPair h TI (.ref i1) (.ref i2)∧(∃ a b,IsPair h TO a b)∧h.IsListIter i1 l1 i∧h.IsListIter i2 l2 i
theorem a6a {P:Program} {w:World} {K:PySem.W.Frag} {elts:List Expr} {k0:Nat} {p0:Pos} {z TI TO i1 i2 l1 l2:Addr} (D:ZipApart z TI TO i1 i2 l1 l2):Turn P w K (.Tuple elts k0 p0) (Itz K l1 l2) [z,TI,TO,i1,i2] z (b3U z TI TO i1 i2 l1 l2) where
 mem:=by simp
 obj:=fun i h ⟨hz,hTI,⟨a,b,hTO⟩,⟨o1,g1,_,d1⟩,⟨o2,g2,_,d2⟩⟩ c hc=>by
  simp only [List.mem_cons,List.not_mem_nil,or_false] at hc
  rcases hc with rfl | rfl | rfl | rfl | rfl
  ·exact ⟨_,hz,fun v q=>by cases q⟩
  ·exact ⟨_,hTI,fun v q=>by cases q⟩
  ·exact ⟨_,hTO,fun v q=>by cases q⟩
  ·exact ⟨o1,g1,fun v q=>by rw [d1] at q;cases q⟩
  ·exact ⟨o2,g2,fun v q=>by rw [d2] at q;cases q⟩
 keep:=fun i h h' ⟨hz,hTI,⟨a,b,hTO⟩,h1,h2⟩ kp=>⟨kp z (by simp) _ hz,kp TI (by simp) _ hTI,⟨a,b,kp TO (by simp) _ hTO⟩,h1.at fun o e=>kp i1 (by simp) o e,h2.at fun o e=>kp i2 (by simp) o e⟩
 item:=by
  intro X hP hw hK hc i pins s σ H E I hf ⟨hz,hTI,⟨a,b,hTO⟩,h1,h2⟩ ⟨xs,ys,x,y,q1,q2,ex,ey⟩
  subst hP hw hK
  obtain ⟨its,r1,p1,_⟩:=I.list q1
  obtain ⟨its2,r2,p2,_⟩:=I.list q2
  obtain ⟨u,eu,ru⟩:=r1.get ex
  obtain ⟨v,ev,rv⟩:=r2.get ey
  refine wpAny_pyNext_zip_item D hz hTI hTO h1 h2 p1.isList p2.isList (x:=u) (y:=v) (by rw [List.getElem?_toArray];exact eu) (by rw [List.getElem?_toArray];exact ev) fun h' a1 a2 a3 a4 a5 a6 hk=>⟨_,rfl,?_⟩
  refine wpAny_letOwnedTupleGo_zip a1 fun h2' hz' hs'=>?_
  have hk2:∀ c o,c∉[z,TO,i1,i2]→s.heap.get? c=some o→h2'.get? c=some o:=fun c o hc e=>by
   simp only [List.mem_cons,List.not_mem_nil,or_false,not_or] at hc
   exact hs'.extBut c o hc.1 (hk c o hc.1 hc.2.1 hc.2.2.1 hc.2.2.2 e)
  have nT:s.heap.objs.size≠z:=Nat.ne_of_gt (Heap.lt_size hz)
  have new:cM X.prog X.w (upd H s.heap.objs.size (.tup [x,y])) h2' s.heap.objs.size (.tup [x,y]):=
   ⟨by show 2≤sizeLine;decide,[u,v],.cons ru (.cons rv .nil),⟨_,hs'.extBut _ _ nT a5,rfl,_,rfl⟩⟩
  have hfT:H s.heap.objs.size=none:=I.hok.fresh (Nat.le_refl _)
  refine ⟨.ref s.heap.objs.size,upd H s.heap.objs.size (.tup [x,y]),Inv.turnNew (s:=s) (h':=h2') (t':=s.toks) [z,TO,i1,i2] I (fun c hc=>hf c (by simp only [List.mem_cons,List.not_mem_nil,or_false] at hc ⊢;rcases hc with h | h | h | h<;>simp [h])) hk2 (Nat.le_refl _) new,rfl,
   ⟨_,x,y,hfT,rfl,rfl,fun xs' q=>by rw [I.list_inj q q1];exact ex,fun ys' q=>by rw [I.list_inj q q2];exact ey⟩,⟨hz',hs'.extBut _ _ D.TIz (hk _ _ D.TIz D.TITO D.TIi1 D.TIi2 hTI),⟨_,_,hs'.extBut _ _ D.TOz a2⟩,a3.extBut hs'.extBut D.i1z,a4.extBut hs'.extBut D.i2z⟩,fun c hc=>?_⟩
  obtain ⟨o,e,_⟩:∃ o,s.heap.get? c=some o∧True:=by
   simp only [List.mem_cons,List.not_mem_nil,or_false] at hc
   rcases hc with rfl | rfl | rfl | rfl | rfl
   ·exact ⟨_,hz,trivial⟩
   ·exact ⟨_,hTI,trivial⟩
   ·exact ⟨_,hTO,trivial⟩
   ·obtain ⟨o,g,_⟩:=h1;exact ⟨o,g,trivial⟩
   ·obtain ⟨o,g,_⟩:=h2;exact ⟨o,g,trivial⟩
  rw [aL (Nat.ne_of_lt (Heap.lt_size e))]
  exact (hf c hc).1
 done:=by
  intro X hP hw hK hc i pins s σ H E I hf ⟨hz,hTI,⟨a,b,hTO⟩,h1,h2⟩ ⟨xs,ys,q1,q2,hend⟩
  subst hP hw hK
  obtain ⟨its,r1,p1,_⟩:=I.list q1
  obtain ⟨its2,r2,p2,_⟩:=I.list q2
  have l1':=r1.length
  have l2':=r2.length
  refine wpAny_pyNext_zip_end (I.ok.hd hc) D hz hTI hTO h1 h2 p1.isList p2.isList ?_ fun h' hk=>⟨rfl,Inv.turnAll (t':=s.toks) [z,TO,i1,i2] I (fun c hc=>hf c (by simp only [List.mem_cons,List.not_mem_nil,or_false] at hc ⊢;rcases hc with h | h | h | h<;>simp [h])) fun c o hc e=>?_⟩
  ·rcases hend with he | he
   ·exact .inl (by rw [List.getElem?_toArray];exact List.getElem?_eq_none (by omega))
   ·exact .inr (by rw [List.getElem?_toArray];exact List.getElem?_eq_none (by omega))
  ·simp only [List.mem_cons,List.not_mem_nil,or_false,not_or] at hc
   exact hk c o hc.1 hc.2.1 hc.2.2.1 hc.2.2.2 e
 self:=fun A i s Q E st h=>wpAny_pyIter_zip st.1 h
theorem a5V {K:PySem.W.Frag} {G:Hp} {l1 l2:Addr} {xs ys:List V} {ds es:List PyData} (h1:SqL K G l1 xs) (r1:RepAll K G xs ds) (h2:SqL K G l2 ys) (r2:RepAll K G ys es):Walk K (Itz K l1 l2) G (a4g ds es):=by
 intro i G' H' s1 s2
 have a1:=(s1.trans s2).seq h1
 have a2:=(s1.trans s2).seq h2
 unfold a4g
 refine ⟨fun d e=>?_,fun hl=>⟨xs,ys,a1,a2,?_⟩⟩
 ·rw [List.getElem?_map] at e
  obtain ⟨⟨p,q⟩,e1,rfl⟩:=Option.map_eq_some_iff.mp e
  rw [List.getElem?_zip_eq_some] at e1
  obtain ⟨v,ev,rv⟩:=r1.get e1.1
  obtain ⟨u,eu,ru⟩:=r2.get e1.2
  refine ⟨⟨xs,ys,v,u,a1,a2,ev,eu⟩,fun x H2 ⟨T,x',y',hT,ex,eH,b1,b2⟩=>?_⟩
  subst ex eH
  have b3:=b1 xs a1
  have b4:=b2 ys a2
  rw [ev] at b3
  rw [eu] at b4
  cases b3
  cases b4
  have hG:G' T=none:=s2.free hT
  exact ⟨upd G' T (.tup [v,u]),.put s2 hT,.tuple (.of aN) (.cons ((rv.mono s1).mono (bC hG)) (.cons ((ru.mono s1).mono (bC hG)) .nil))⟩
 ·rw [List.length_map,List.length_zip] at hl
  have e1:=r1.length
  have e2:=r2.length
  omega
section
variable {X:Cx} {a b:Expr} {elts:List Expr} {k0:Nat} {p0 pos p:Pos} {fa fb:EF}
theorem b3u (hm:X.mg "zip" = none) (ha:DE X a fa) (hb:DE X b fb) (hv:bootBuiltins "zip" = some (.type "zip"):=by decide +kernel) (hs:starEach [a,b] X.env=(false,eval a X.env)::starEach [b] X.env:=by rfl) (hs2:starEach [b] X.env=(false,eval b X.env)::starEach [] X.env:=by rfl)
  (hpl:(backTo pos (starEach [b] X.env)).any (·.1)=false:=by rfl) (hg:Gl X "zip":=by rfl):DI X (.Tuple elts k0 p0) (.Call (.Name "zip" p) [a,b] [] pos) (b1u fa fb):=a3U fun ρ r e=>by
 unfold b1u at e
 split at e
 ·rename_i as bs e1 e3
  refine ⟨_,(Option.some.inj e).symm,⟨?_⟩⟩
  intro pins s σ H R I ⟨H0,G₀,G,S,q⟩
  have pa:=dQ (ha.pd e1) (dQ (hb.pd e3) gB hs2) hs
  refine wpAny_Call_Name_kw (hZ I hg hm hv ?_ (by decide) (by decide))
  refine PyProof.Rows.callWith_type1 (thn (pa.run H0 G₀ G pos pins s σ H (fun vs H'=>∃ G',Grow G H G' H'∧RepAll X.K G' vs [.list as,.list bs]) I S fun vs G' H' g r=>⟨G',g,r⟩) fun us s1 ⟨vs,H1,I1,r1,G1,g1,w1⟩=>?_) hs hpl
  cases w1 with
  | cons wa wn=>cases wn with
   | cons wb wn=>
    cases wn
    cases wa with
    | list hq ra=>cases wb with
     | list hq2 rb=>
      obtain ⟨u,v,rfl,ru,rv⟩:=vals2 r1
      cases ru;cases rv
      obtain ⟨its,r1',p1,_⟩:=I1.list (g1.sub.seq hq)
      obtain ⟨its2,r2',p2,_⟩:=I1.list (g1.sub.seq hq2)
      refine call_zip_2 p1.isList p2.isList fun h' z1 z2 z3 z4 z5 z6 hk=>?_
      refine wpAny_pyIter_zip z1 ?_
      obtain ⟨o1,g1',_⟩:=p1.isList
      obtain ⟨o2,g2',_⟩:=p2.isList
      refine ⟨s1.heap.objs.size+4,[s1.heap.objs.size+4,s1.heap.objs.size+2,s1.heap.objs.size+3,s1.heap.objs.size,s1.heap.objs.size+1],_,_,H1,rfl,I1.kept (h':=h') (t':=s1.toks) (fun b o e=>hk b o e),a6a (zipApart_new (Heap.lt_size g1') (Heap.lt_size g2')),⟨z1,z2,⟨_,_,z3⟩,z4,z5⟩,fun c hc=>?_,q _ G1 H1 g1 (a5V hq ra hq2 rb)⟩
      have ge:s1.heap.objs.size≤c:=by
       simp only [List.mem_cons,List.not_mem_nil,or_false] at hc
       rcases hc with h | h | h | h | h<;>rw [h]<;>first | exact Nat.le_add_right _ _ | exact Nat.le_refl _
      exact I1.fpOk ge (I1.hok.fresh ge)
 ·cases e
end
end L2.L3
namespace L2.SX
open PySem
def nG (xs:Array Nat):Prop:=xs.toList.Pairwise (·<·)
theorem nG.lt {xs:Array Nat} (h:nG xs) {i j:Nat} (hij:i<j) (hj:j<xs.size):xs[i]<xs[j]:=by
 have:=List.pairwise_iff_getElem.mp h i j (by simpa using Nat.lt_trans hij hj) (by simpa using hj) hij
 simpa using this
theorem a7M {xs:Array Nat} {j:Nat} (h:nG xs):∀ (fuel lo hi:Nat),hi - lo≤fuel→lo≤hi→hi≤xs.size→(∀ i (hi':i<xs.size),i<lo→xs[i]<j)→(∀ i (hi':i<xs.size),hi≤i→j≤xs[i]) →
  SetTable.below.go xs j fuel lo hi≤xs.size∧(∀ i (hi':i<xs.size),i<SetTable.below.go xs j fuel lo hi→xs[i]<j)∧∀ i (hi':i<xs.size),SetTable.below.go xs j fuel lo hi≤i→j≤xs[i]
 | 0,lo,hi,hf,hl,hs,h1,h2=>by
  have:lo=hi:=by omega
  subst this
  unfold SetTable.below.go
  exact ⟨hs,h1,h2⟩
 | fuel+1,lo,hi,hf,hl,hs,h1,h2=>by
  unfold SetTable.below.go
  by_cases hlt:lo<hi
  ·rw [if_pos hlt]
   dsimp only
   have hm:(lo+hi) / 2<xs.size:=by omega
   have hg:xs.getD ((lo+hi) / 2) j=xs[(lo+hi) / 2]:=by simp [Array.getD,hm]
   rw [hg]
   by_cases hc:xs[(lo+hi) / 2]<j
   ·rw [if_pos hc]
    refine a7M h fuel _ hi (by omega) (by omega) hs (fun i hi' hlt'=>?_) h2
    by_cases he:i=(lo+hi) / 2
    ·subst he;exact hc
    ·exact Nat.lt_trans (h.lt (by omega) hm) hc
   ·rw [if_neg hc]
    refine a7M h fuel lo _ (by omega) (by omega) (by omega) h1 (fun i hi' hge=>?_)
    by_cases he:i=(lo+hi) / 2
    ·subst he;omega
    ·have:=h.lt (i:=(lo+hi) / 2) (j:=i) (by omega) hi'
     omega
  ·rw [if_neg hlt]
   have:lo=hi:=by omega
   subst this
   exact ⟨hs,h1,h2⟩
theorem vN {xs:Array Nat} (h:nG xs) (j:Nat):SetTable.below xs j≤xs.size∧(∀ i (hi':i<xs.size),i<SetTable.below xs j→xs[i]<j)∧∀ i (hi':i<xs.size),SetTable.below xs j≤i→j≤xs[i]:=
 a7M h _ _ _ (by omega) (Nat.zero_le _) (Nat.le_refl _) (fun _ _ z=>absurd z (by omega)) (fun i hi' z=>absurd z (by omega))
theorem a3e {xs:Array Nat} (h:nG xs) {i:Nat} (hi:i<xs.size):SetTable.below xs (xs[i]+1)=i+1:=by
 obtain ⟨b1,b2,b3⟩:=vN h (xs[i]+1)
 have c1:¬SetTable.below xs (xs[i]+1)≤i:=fun z=>by have:=b3 i hi z;omega
 have c2:¬i+1<SetTable.below xs (xs[i]+1):=fun z=>by
  have lt:i+1<xs.size:=by omega
  have:=b2 (i+1) lt z
  have:=h.lt (i:=i) (j:=i+1) (by omega) lt
  omega
 omega
theorem a3d (xs:Array Nat) (h:nG xs):SetTable.below xs 0=0:=by
 obtain ⟨b1,b2,b3⟩:=vN h 0
 cases e:SetTable.below xs 0 with
 | zero=>rfl
 | succ n=>
  have:=b2 0 (by omega) (by omega)
  omega
theorem a6v {xs:Array Nat} (h:nG xs) {j:Nat} (hn:xs[SetTable.below xs j]?≠some j):nG (SetTable.insertAt xs (SetTable.below xs j) j):=by
 obtain ⟨b1,b2,b3⟩:=vN h j
 unfold nG
 rw [SetTable.toList_insertAt,List.pairwise_append]
 have ne:∀ i (hi':i<xs.size),SetTable.below xs j≤i→j<xs[i]:=fun i hi' hge=>by
  have a:=b3 i hi' hge
  by_cases e:xs[i]=j
  ·exfalso
   by_cases e2:i=SetTable.below xs j
   ·exact hn (by rw [←e2];simp [hi',e])
   ·have lt:SetTable.below xs j<i:=by omega
    have:=h.lt (i:=SetTable.below xs j) (j:=i) lt hi'
    have:=b3 (SetTable.below xs j) (by omega) (Nat.le_refl _)
    omega
  ·omega
 refine ⟨h.sublist (List.take_sublist _ _),?_,fun a ha b hb=>?_⟩
 ·rw [List.pairwise_cons]
  refine ⟨fun a ha=>?_,h.sublist (List.drop_sublist _ _)⟩
  obtain ⟨k,hk,e⟩:=List.mem_iff_getElem.mp ha
  rw [List.getElem_drop] at e
  subst e
  have:SetTable.below xs j+k<xs.size:=by simpa using (by rw [List.length_drop,Array.length_toList] at hk;omega:SetTable.below xs j+k<xs.size)
  have:=ne (SetTable.below xs j+k) this (by omega)
  simpa using this
 ·obtain ⟨k,hk,e⟩:=List.mem_iff_getElem.mp ha
  rw [List.getElem_take] at e
  subst e
  rw [List.length_take,Array.length_toList] at hk
  have k1:k<xs.size:=by omega
  have ak:=b2 k k1 (by omega)
  have ak':xs.toList[k]'(by simpa using k1)<j:=by simpa using ak
  rcases List.mem_cons.mp hb with rfl | hb
  ·exact ak'
  ·obtain ⟨k',hk',e'⟩:=List.mem_iff_getElem.mp hb
   rw [List.getElem_drop] at e'
   subst e'
   have k2:SetTable.below xs j+k'<xs.size:=by rw [List.length_drop,Array.length_toList] at hk';omega
   have:=ne (SetTable.below xs j+k') k2 (by omega)
   have:j<xs.toList[SetTable.below xs j+k']'(by simpa using k2):=by simpa using this
   omega
structure TOk (t:SetTable) (led:Bool):Prop where
 led:t.led=led
 rise:t.plain=true→nG t.place
theorem TOk.fresh (led:Bool):TOk (SetTable.fresh 0 0 led) led:=⟨rfl,fun _=>by simp [SetTable.fresh,nG]⟩
theorem TOk.standIn {t:SetTable} {led:Bool} (h:TOk t led) (n:Nat):TOk (t.standIn n) led:=⟨h.led,fun z=>by cases z⟩
theorem TOk.off {t:SetTable} {led:Bool} (h:TOk t led):TOk { t with plain:=false } led:=⟨h.led,fun z=>by cases z⟩
theorem TOk.orStandIn {t:SetTable} {led:Bool} (h:TOk t led) (n:Nat):TOk (t.orStandIn n) led:=by
 unfold SetTable.orStandIn
 split
 ·exact h
 ·exact h.standIn n
theorem a4x {t:SetTable} {j:Nat} (h:t.slot j=.empty∨t.slot j=.dummy):t.place[SetTable.below t.place j]?≠some j:=by
 intro z
 have:t.slot j=.live (SetTable.below t.place j):=by
  unfold SetTable.slot
  dsimp only
  rw [if_pos (by rw [z];simp)]
 rcases h with h | h<;>(rw [this] at h;cases h)
theorem oA {t:SetTable} {f:Nat→Int} {h:Int}:∀ (fuel:Nat) (p:SetTable.Probe) (j:Nat) (d:Option Nat),(∀ k,p.dummy=some k→t.slot k=.dummy)→SetTable.probe.go t f h fuel p=some (.empty j d) →
  (t.slot j=.empty)∧∀ k,d=some k→t.slot k=.dummy
 | 0,p,j,d,_,e=>by unfold SetTable.probe.go at e;cases e
 | fuel+1,p,j,d,hd,e=>by
  unfold SetTable.probe.go at e
  split at e
  ·rename_i es
   cases (Option.some.inj e)
   exact ⟨es,hd⟩
  ·rename_i es
   refine oA fuel _ j d (fun k hk=>?_) e
   have adv:∀ q:SetTable.Probe,(t.advance q).dummy=q.dummy:=fun q=>by unfold SetTable.advance;split<;>rfl
   rw [adv] at hk
   cases hk
   exact es
  ·split at e
   ·cases e
   ·refine oA fuel _ j d (fun k hk=>?_) e
    have adv:∀ q:SetTable.Probe,(t.advance q).dummy=q.dummy:=fun q=>by unfold SetTable.advance;split<;>rfl
    rw [adv] at hk
    exact hd k hk
theorem TOk.layNew {t:SetTable} {led:Bool} (h:TOk t led) (es:Array (Int×Value)) (hs:Int) (x:Value):TOk (layNew t es hs x).2.1 led:=by
 unfold PySem.layNew
 split
 ·rename_i slot wd e
  dsimp only
  have hput:TOk (t.put slot).1 led:=by
   refine ⟨h.led,fun hp=>?_⟩
   have hr:nG t.place:=h.rise hp
   refine a6v hr (a4x ?_)
   unfold SetTable.freeSlot SetTable.probe at e
   split at e
   ·rename_i j d em
    obtain ⟨a,b⟩:=oA _ _ j d (fun k hk=>by simp [SetTable.probeStart] at hk) em
    cases (Option.some.inj e)
    cases d with
    | none=>exact .inl a
    | some k=>exact .inr (b k rfl)
   ·cases e
  exact hput.orStandIn _
 ·exact h.standIn _
theorem TOk.relayAll {t:SetTable} {led:Bool} (h:TOk t led) (es:Array (Int×Value)) (wanted:Nat):TOk (relayAll t es wanted).2.1 led:=by
 unfold PySem.relayAll
 split
 ·rename_i t' order e
  dsimp only
  split
  ·unfold SetTable.relaid SetTable.laid at e
   cases ho:SetTable.layClean (SetTable.sizeAbove wanted - 1) (es.map (·.1)) with
   | none=>rw [ho] at e;cases e
   | some owner=>
    rw [ho] at e
    have e:=Option.some.inj e
    have e1:=(congrArg Prod.fst e).symm
    dsimp only at e1
    subst e1
    refine ⟨h.led,fun _=>?_⟩
    show List.Pairwise (·<·) _
    simp only [List.toList_toArray]
    rw [List.pairwise_map,List.pairwise_filterMap]
    refine List.pairwise_lt_range.imp ?_
    intro a b hab x hx y hy
    obtain ⟨u,_,rfl⟩:=Option.map_eq_some_iff.mp hx
    obtain ⟨v,_,rfl⟩:=Option.map_eq_some_iff.mp hy
    exact hab
  ·exact h.standIn _
 ·exact h.standIn _
end L2.SX
namespace L2.SX
open PySem PyProof.Rows
section
variable {prog:Program} {w:World} {K:Type} [DecidableEq K]
structure Good (knd:KeyKind prog w K) (h:Heap) (a:Addr) (ks:List K) (led:Bool):Prop where
 ex:∃ o es ep t,h.get? a=some o∧o.ExactSet∧o.data=.set es ep t∧ElemsOf knd es.toList∧(∀ k,k∈ks↔∃ e∈es.toList,knd.is k e.2=true)∧es.size=ks.length∧t.fits es.size=true∧TOk t led
 nd:ks.Nodup
 few:ks.length<scanBound
def addK (ks:List K) (k:K):List K:=if k∈ks then ks else ks++[k]
variable {knd:KeyKind prog w K} {A:Around} {E:Value→Shared→Prop} {s:Shared} {a:Addr} {ks:List K} {led:Bool}
theorem Good.keeps {h h':Heap} (g:Good knd h a ks led) (k:∀ o,h.get? a=some o→h'.get? a=some o):Good knd h' a ks led:=by
 obtain ⟨o,es,ep,t,ho,r⟩:=g.ex
 exact ⟨⟨o,es,ep,t,k o ho,r⟩,g.nd,g.few⟩
theorem stored {h:Heap} {o:Obj} {es es':Array (Int×Value)} {ep:Nat} {t t':SetTable} (ho:h.get? a=some o) (hd:o.data=.set es ep t):(h.update a (Obj.putSet es' t')).get? a=some { o with data:=.set es' (ep+1) t' }:=by
 have e:=putSet_of es' t' hd
 have q:=Heap.get?_update_self (Obj.putSet es' t') ho (by rw [e];rfl)
 rw [e] at q
 exact q
theorem bF {k:K} {x:Value} {Q:Bool→Shared→Prop} (hkey:knd.is k x=true) (hsc:x.scannable=true) (g:Good knd s.heap a ks led) (hroom:ks.length+1<scanBound)
  (h:∀ h' b,Heap.SameBut a s.heap h'→Good knd h' a (addK ks k) led→Q b { s with heap:=h' }):wpAny (model prog w) A (setAddHashed a x (knd.hash k)) Q E s:=by
 obtain ⟨o,es,ep,t,ho,hex,hd,hel,hmem,hn,hf,hT⟩:=g.ex
 have hb:es.size<scanBound:=by rw [hn];exact g.few
 unfold setAddHashed setAddHashedIn
 refine wpAny_holding (wpAny_bind (wpAny_setState_of ho hd hf ?_))
 dsimp only
 rw [byScan_of hsc hb hel]
 simp only [↓reduceIte]
 unfold setAddByScan
 refine wpAny_bind (wpAny_bind (wpAny_rule (wpAny_bind (wpAny_setScan_of hkey ho hd hf hel ?_))))
 cases hr:List.findIdx? (fun e=>knd.is k e.2) es.toList with
 | some j=>
  dsimp only
  obtain ⟨hj,hpj,_⟩:=List.findIdx?_eq_some_iff_getElem.mp hr
  have hk:k∈ks:=(hmem k).mpr ⟨es.toList[j],List.getElem_mem hj,hpj⟩
  refine wpAny_pure (wpAny_pure ?_)
  have q:=h s.heap false (Heap.SameBut.refl a s.heap) (by unfold addK;rw [if_pos hk];exact g)
  exact q
 | none=>
  dsimp only
  have hk:k∉ks:=fun z=>by
   obtain ⟨e,he,hp⟩:=(hmem k).mp z
   have:=List.findIdx?_eq_none_iff.mp hr e he
   rw [hp] at this
   cases this
  have gone:∀ (b:Bool) {s₁:Shared} {Q':Unit→Shared→Prop},Q' () s₁→wpAny (model prog w) A (match b with | true=>rule "set.scan.the-table-gave-way" | false=>pure ()) Q' E s₁:=by
   intro b s₁ Q' q
   cases b
   ·exact wpAny_pure q
   ·exact wpAny_rule q
  have hperm:=layNew_perm t es (knd.hash k) x
  have hfits:=layNew_fits t es (knd.hash k) x
  have hTL:=hT.layNew es (knd.hash k) x
  generalize layNew t es (knd.hash k) x=L at hperm hfits hTL ⊢
  obtain ⟨es1,t1,wd,gave⟩:=L
  dsimp only at hperm hfits hTL ⊢
  rw [Array.toList_push] at hperm
  have hel1:ElemsOf knd es1.toList:=(hel.push hkey hsc).perm hperm
  have hmem1:∀ k',k'∈addK ks k↔∃ e∈es1.toList,knd.is k' e.2=true:=by
   intro k'
   unfold addK
   rw [if_neg hk,List.mem_append,List.mem_singleton,hmem k']
   constructor
   ·rintro (⟨e,he,hp⟩ | rfl)
    ·exact ⟨e,hperm.mem_iff.mpr (List.mem_append_left _ he),hp⟩
    ·exact ⟨_,hperm.mem_iff.mpr (List.mem_append_right _ (List.mem_singleton.mpr rfl)),hkey⟩
   ·rintro ⟨e,he,hp⟩
    rcases List.mem_append.mp (hperm.mem_iff.mp he) with he | he
    ·exact .inl ⟨e,he,hp⟩
    ·rw [List.mem_singleton] at he
     subst he
     exact .inr (knd.inj x k' k hp hkey)
  have hlen:(addK ks k).length=ks.length+1:=by unfold addK;rw [if_neg hk];simp
  have hsz1:es1.size=(addK ks k).length:=by rw [hlen,←hn,←Array.length_toList,hperm.length_eq];simp
  have hb1:es1.size<scanBound:=by rw [hsz1,hlen];exact hroom
  have hnd:(addK ks k).Nodup:=by
   unfold addK
   rw [if_neg hk,List.nodup_append]
   exact ⟨g.nd,by simp,fun a ha b hb=>by rw [List.mem_singleton] at hb;subst hb;exact fun z=>hk (z▸ha)⟩
  have tail:∀ {gv:Bool→Sem Unit} (hgv:∀ (b:Bool) (s₁:Shared) (Q':Unit→Shared→Prop),Q' () s₁→wpAny (model prog w) A (gv b) Q' E s₁) {t2:SetTable},t2.fits es1.size=true→TOk t2 led→∀ {R:Option Bool→Shared→Prop},(∀ h',Heap.SameBut a s.heap h'→Good knd h' a (addK ks k) led→R (some true) { s with heap:=h' }) →
    wpAny (model prog w) A (do
     storeSet a es1 t2
     if (!wd&&t2.tooFull)=true then do
       gv (relayAll t2 es1 (SetTable.grown es1.size)).2.2
       storeSet a (relayAll t2 es1 (SetTable.grown es1.size)).1 (relayAll t2 es1 (SetTable.grown es1.size)).2.1
       pure (some true)
      else pure (some true)) R E s:=by
   intro gv hgv t2 hf2 hT2 R hR
   refine wpAny_bind (wpAny_storeSet_of ho hd ?_ (fits_of_scanBound hb1))
   have ho1:=stored (es':=es1) (t':=t2) ho hd
   have sb1:=Heap.SameBut.update s.heap a (Obj.putSet es1 t2)
   split
   ·have p2:=relayAll_perm t2 es1 (SetTable.grown es1.size)
    have f2:=relayAll_fits t2 es1 (SetTable.grown es1.size)
    have hT3:=hT2.relayAll es1 (SetTable.grown es1.size)
    generalize relayAll t2 es1 (SetTable.grown es1.size)=W at p2 f2 hT3 ⊢
    obtain ⟨es2,t3,gv2⟩:=W
    dsimp only at p2 f2 hT3 ⊢
    have sz2:es2.size=es1.size:=by rw [←Array.length_toList,p2.length_eq,Array.length_toList]
    refine wpAny_bind (hgv _ _ _ ?_)
    refine wpAny_bind (wpAny_storeSet_of ho1 rfl ?_ (fits_of_scanBound (by rw [sz2];exact hb1)))
    have ho2:=stored (a:=a) (es':=es2) (t':=t3) ho1 rfl
    refine wpAny_pure (hR _ (sb1.trans (Heap.SameBut.update _ a _)) ⟨⟨_,es2,_,t3,ho2,hex,rfl,hel1.perm p2,fun k'=>(hmem1 k').trans ⟨fun ⟨e,he,q⟩=>⟨e,p2.mem_iff.mpr he,q⟩,fun ⟨e,he,q⟩=>⟨e,p2.mem_iff.mp he,q⟩⟩,by rw [sz2];exact hsz1,f2,hT3⟩,hnd,by rw [hlen];exact hroom⟩)
   ·exact wpAny_pure (hR _ sb1 ⟨⟨_,es1,_,t2,ho1,hex,rfl,hel1,hmem1,hsz1,hf2,hT2⟩,hnd,by rw [hlen];exact hroom⟩)
  refine wpAny_bind (gone _ ?_)
  split
  ·refine wpAny_bind ?_
   rw [hashByValue_scannable 8 hsc]
   refine wpAny_pure ?_
   split
   ·refine tail (fun b s₁ Q' q=>by cases b<;>first | exact wpAny_pure q | exact wpAny_rule q) hfits hTL fun h' sb gg=>?_
    dsimp only
    exact wpAny_pure (h h' true sb gg)
   ·refine tail (fun b s₁ Q' q=>by cases b<;>first | exact wpAny_pure q | exact wpAny_rule q) (SetTable.fits_plain_off hfits) hTL.off fun h' sb gg=>?_
    dsimp only
    exact wpAny_pure (h h' true sb gg)
  ·refine wpAny_bind (wpAny_pure ?_)
   simp only [↓reduceIte]
   refine tail (fun b s₁ Q' q=>by cases b<;>first | exact wpAny_pure q | exact wpAny_rule q) hfits hTL fun h' sb gg=>?_
   dsimp only
   exact wpAny_pure (h h' true sb gg)
end
section
variable {prog:Program} {w:World} {K:Type} [DecidableEq K] {knd:KeyKind prog w K} {A:Around} {R:Result→Shared→Prop} {I:Addr} {fp wr:List Addr} {G:Array GenState→Array GenState→Prop} {n:Nat} {P:Nat→Value→Prop} {St:Nat→Shared→Prop} {led:Bool}
def metK (val:Nat→K) (i:Nat):List K:=((List.range i).map val).foldl addK []
theorem xG (val:Nat→K) (i:Nat):metK val (i+1)=addK (metK val i) (val i):=by unfold metK;rw [List.range_succ,List.map_append,List.foldl_append];rfl
theorem metK_len (val:Nat→K):∀ i,(metK val i).length≤i
 | 0=>by simp [metK]
 | i+1=>by
  have:=metK_len val i
  rw [xG];unfold addK;split
  ·omega
  ·simp;omega
theorem a9W (W:WalksS prog w A.in1 I fp wr G n P St) (S:Addr) (hSf:S∉fp) (val:Nat→K) (hval:∀ i v,P i v→knd.is (val i) v=true∧v.scannable=true)
  (hpy:∀ i v (A':Around) (E':Value→Shared→Prop) (s':Shared) (Q':Int→Shared→Prop),P i v→Q' (knd.hash (val i)) { s' with toks:=s'.toks+1 }→wpAny (model prog w) A' (pyHash v) Q' E' s') (hb:n+1<scanBound) :
  ∀ (m i:Nat) (s:Shared),n - i=m→i≤n→St i s→Good knd s.heap S (metK val i) led→(∀ s',Moved (S::wr) G s s'→Good knd s'.heap S (metK val n) led→R (.ok (.ret .none)) s') →
   codeAny (model prog w) A (.builtin "set.update.loop" ⟨[.ref S,.ref I],[]⟩) R s:=by
 have nw:S∉wr:=fun z=>hSf (W.sub _ z)
 have up:∀ b∈wr,b∈S::wr:=fun b hb=>List.mem_cons_of_mem _ hb
 intro m
 induction m with
 | zero=>
  intro i s hm hi st g hR
  obtain rfl:i=n:=by omega
  refine codeAny_builtin F.entry_set_update_loop ?_
  rw [Around.under_plainId F.plain_set_update_loop _]
  show wpAny _ A.in1 (pyNext (.ref I)>>=_) _ _ s
  refine wpAny_bind (W.done s _ _ st fun s' mv=>?_)
  exact wpAny_pure (hR s' (mv.mono up) (g.keeps fun o e=>mv.heap S o nw e))
 | succ m ih=>
  intro i s hm hi st g hR
  have lt:i<n:=by omega
  refine codeAny_builtin F.entry_set_update_loop ?_
  rw [Around.under_plainId F.plain_set_update_loop _]
  show wpAny _ A.in1 (pyNext (.ref I)>>=_) _ _ s
  refine wpAny_bind (W.item i s _ _ lt st fun v s' pv st' mv=>?_)
  have g':=g.keeps (h':=s'.heap) fun o e=>mv.heap S o nw e
  obtain ⟨hk,hsc⟩:=hval i v pv
  show wpAny _ A.in1 (holding [v] (setAdd S v)>>=_) _ _ s'
  refine wpAny_bind (wpAny_holding ?_)
  unfold setAdd
  refine wpAny_holding (wpAny_bind (hpy i v _ _ _ _ pv ?_))
  have room:(metK val i).length+1<scanBound:=by have:=metK_len val i;omega
  refine bF (knd:=knd) (s:={ s' with toks:=s'.toks+1 }) hk hsc g' room fun h' b sb g2=>?_
  rw [←xG] at g2
  refine wpAny_pure ⟨plainId_quiet F.plain_set_update_loop _,ih (i+1) _ (by omega) lt (W.frame _ s' _ _ st' (Nat.le_succ _) fun c hc o e=>?_) g2 fun s'' mv'' g''=>?_⟩
  ·rw [sb.2 c (fun z:c=S=>hSf (z▸hc))]
   exact e
  ·refine hR s'' (Moved.trans W.gtrans ((mv.mono up).then_heap (Nat.le_succ _) fun c o hc e=>?_) mv'') g''
   rw [sb.2 c (fun z:c=S=>hc (by rw [z];exact List.mem_cons_self))]
   exact e
end
end L2.SX
namespace L2.SX
open PySem PyProof.Rows
def ledOf (w:World):Bool:=!w.params.followText "set-order"
abbrev gC (w:World):Obj:={ cls:=.type "set", dict:=none,data:=.set #[] 0 (.fresh 0 0 (ledOf w)) }
section
variable {prog:Program} {w:World} {A:Around} {E:Value→Shared→Prop} {s:Shared} {K:Type} [DecidableEq K] {knd:KeyKind prog w K}
theorem a7K (h:Heap):Good knd (h.push (gC w)) h.objs.size [] (ledOf w):=
 ⟨⟨_,#[],0,_,Heap.get?_push_size _ rfl,⟨rfl,rfl,rfl⟩,rfl,fun e he=>by simp at he,fun k=>by simp,rfl,rfl,.fresh _⟩,List.nodup_nil,by show 0<scanBound;decide⟩
theorem new_one (v:Value) {Q1:Value→Shared→Prop} (h:Q1 (.ref s.heap.objs.size) { s with heap:=s.heap.push (gC w) }):codeAny (model prog w) A (.call (.builtin "set.__new__") ⟨[.type "set", v],[]⟩) (wants Q1 E) s:=by
 refine codeAny_of_tree ?_
 show wpAny _ A.in1 (checkBuiltinCall "set.__new__" ⟨[.type "set", v],[]⟩>>=fun _=>again (.builtin "set.__new__" ⟨[.type "set", v],[]⟩)) _ _ s
 refine wpAny_bind (wpAny_of_eq (F.newCall_set_1 v) (wpAny_pure ⟨plainId_quiet F.plain_set_new _,codeAny_builtin F.entry_set_new ?_⟩))
 rw [Around.under_plainId F.plain_set_new _]
 unfold Builtin.«set.__new__» Builtin.Frozenset.newClass
 have sub:=sub_set_self
 obtain ⟨hp,gs,dr,tk,os⟩:=s
 dsimp only
 wp_walk
 refine wpAny_askSetting (wpAny_pure ?_)
 dsimp only [newObj]
 exact wpAny_bind (wpAny_alloc (wpAny_pure (wpAny_pure h)))
theorem set_of {l:Addr} {items:Array Value} {val:Nat→K} {Q:Value→Shared→Prop} (hh:A.handled=none) (hl:s.heap.IsList l items) (hval:∀ i v,items[i]?=some v→knd.is (val i) v=true∧v.scannable=true)
  (hpy:∀ i v (A':Around) (E':Value→Shared→Prop) (s':Shared) (Q':Int→Shared→Prop),items[i]?=some v→Q' (knd.hash (val i)) { s' with toks:=s'.toks+1 }→wpAny (model prog w) A' (pyHash v) Q' E' s') (hb:items.size+1<scanBound)
  (h:∀ (h':Heap) (tk:Nat),Good knd h' s.heap.objs.size (metK val items.size) (ledOf w)→(∀ b o,b<s.heap.objs.size→s.heap.get? b=some o→h'.get? b=some o)→Q (.ref s.heap.objs.size) { s with heap:=h',toks:=tk }) :
  wpAny (model prog w) A (call (.type "set") [.ref l]) Q E s:=by
 obtain ⟨c,tl,hmro⟩:=F.called_set.mro
 have hmade:=F.called_set.made
 have hsub:=F.called_set.sub
 refine wpAny_call (codeAny_of_tree ?_)
 show wpAny _ _ (callAny (.type "set") ⟨[.ref l],[]⟩) _ _ _
 refine wpAny_pure ⟨Code.quiet_builtin _ (by decide +kernel),codeAny_builtin F.entry_type_call ?_⟩
 rw [Around.under_plain (weight_type_call_type "set" [.ref l] []) rfl]
 have n1:=F.called_set.notType
 have n2:=F.called_set.canCreate
 have n3:=F.typeCall_set_1 (.ref l)
 repeat (any_goals (first | assumption | wp_step))
 refine codeAny_mono (new_one (.ref l) (E:=E) (Q1:=fun ob s1=>ob=.ref s.heap.objs.size∧s1={ s with heap:=s.heap.push (gC w) }) ⟨rfl,rfl⟩) fun r s1 hr=>?_
 cases r with
 | error e=>exact hr
 | ok fl=>
  cases fl with
  | ret ob=>
   obtain ⟨rfl,rfl⟩:=hr
   have hS:(s.heap.push (gC w)).get? s.heap.objs.size=some (gC w):=Heap.get?_push_size _ rfl
   have hT:Shared.TypeIs { s with heap:=s.heap.push (gC w) } (.ref s.heap.objs.size) "set" := ⟨_,hS,rfl⟩
   have k1:=F.called_set.init.lookup
   have k2:=F.called_set.init.bind (.ref s.heap.objs.size)
   repeat (any_goals (first | assumption | wp_step))
   refine codeAny_mono (codeAny_call_builtin (R:=wants (fun r s2=>r=.none∧∃ h' tk,s2={ s with heap:=h',toks:=tk }∧Good knd h' s.heap.objs.size (metK val items.size) (ledOf w)∧∀ b o,b<s.heap.objs.size→s.heap.get? b=some o→h'.get? b=some o) E)
    F.called_set.init.plain F.entry_set_init (check_set_init_1 hT ?_)) fun r2 s2 hr2=>?_
   ·obtain ⟨ol,g0,c0,nl,d0⟩:=hl
    obtain ⟨ocl,odc,odt,osl⟩:=ol
    dsimp only at c0 d0
    subst c0 d0
    have g1:(s.heap.push (gC w)).get? l=some { cls:=.type "list", dict:=odc,data:=.seq items nl,slots:=osl }:=Heap.get?_push_of_some _ g0
    have s1:=F.sub_list_set
    have s2:=F.sub_list_frozenset
    have ne:(Value.type "list" == Value.type "dict")=false:=by decide
    have L1:(s.heap.push (gC w)).IsList l items:=⟨_,g1,rfl,nl,rfl⟩
    unfold Builtin.«set.__init__» noKeywords Builtin.Frozenset.updateFrom
    generalize hI:pyIter=PI
    wp_walk
    subst hI
    refine wpAny_pyIter_list L1 (wpAny_bind (wpAny_runValue ?_))
    have lt:l<s.heap.objs.size:=Heap.lt_size g0
    have h3:A.in1.in1.in1.handled=none:=by simp [hh]
    have nI:l≠(s.heap.push (gC w)).objs.size:=by
     rw [Heap.size_push];exact Nat.ne_of_lt (Nat.lt_succ_of_lt lt)
    have nf:s.heap.objs.size∉[(s.heap.push (gC w)).objs.size,l]:=by
     rw [Heap.size_push]
     intro z
     rcases List.mem_cons.mp z with z | z
     ·exact absurd z (Nat.ne_of_lt (Nat.lt_succ_self _))
     ·rw [List.mem_singleton] at z
      exact absurd z (Nat.ne_of_gt lt)
    refine a9W (knd:=knd) (led:=ledOf w) ((Walks.list h3 _ l nI items).toS) s.heap.objs.size nf val hval hpy hb (items.size - 0) 0 _ (by omega) (Nat.zero_le _) ⟨⟨_,Heap.get?_push_size _ rfl,rfl,rfl⟩,L1.push _⟩ ?g0 ?gR
    case g0=>exact (a7K (knd:=knd) s.heap).keeps fun o e=>Heap.get?_push_of_some _ e
    case gR=>
     intro s' mv g'
     obtain ⟨h',gs',dr',tk',os'⟩:=s'
     obtain rfl:gs'=s.gens:=mv.gens
     obtain rfl:dr'=s.drawn:=mv.drawn
     obtain rfl:os'=s.os:=mv.os
     show wpAny _ _ _ _ _ _
     refine wpAny_pure ?_
     show wpAny _ _ (ret Value.none) _ _ _
     refine wpAny_pure ⟨rfl,h',tk',rfl,g',fun b o hb' e=>?_⟩
     refine mv.heap b o (fun z=>?_) (Heap.get?_push_of_some _ (Heap.get?_push_of_some _ e))
     rcases List.mem_cons.mp z with z | z
     ·exact absurd z (Nat.ne_of_lt hb')
     ·rw [List.mem_singleton,Heap.size_push] at z
      exact absurd z (Nat.ne_of_lt (Nat.lt_succ_of_lt hb'))
   ·cases r2 with
    | error e=>exact hr2
    | ok fl2=>
     cases fl2 with
     | ret r=>
      obtain ⟨rfl,h',tk,rfl,g',kp⟩:=hr2
      repeat (any_goals (first | assumption | wp_step))
      exact h _ _ g' kp
     | _=>exact hr2.elim
  | _=>exact hr.elim
end
end L2.SX
namespace L2.SX
open PySem PyProof.Rows
theorem slot_next:Slot "set_iterator" "__next__" "set_iterator.__next__" :=
 .of (owner := "set_iterator") (n := "__next__") (by rw [typeLookup_type,builtinLookup_eq_fast];kernel_rfl) (by decide +kernel) (by decide +kernel) (by decide +kernel) (by first | exact .inl (by decide +kernel) | exact .inr (by decide +kernel)) (by rw [isSubtype_type];kernel_rfl)
theorem entry_next:entryFor table "set_iterator.__next__" = some Builtin.«set_iterator.__next__»:=entryFor_of_fast (by kernel_rfl)
theorem args_next (v:Value):argsOk "set_iterator.__next__" ⟨[v],[]⟩:=by unfold argsOk;kernel_rfl
theorem a2Q:entryFor table "set.__iter__" = some Builtin.«frozenset.__iter__»:=entryFor_alias (id' := "frozenset.__iter__") (by kernel_rfl) rfl (by decide +kernel) (by kernel_rfl)
abbrev itO (f0:Value) (i:Nat) (a:Addr) (n ep:Nat):Obj:={ cls:=.type "set_iterator", data:=.fields #[f0,rawInt i,.ref a,rawInt n,rawInt ep] }
structure SetAt (h:Heap) (a:Addr) (es:Array (Int×Value)) (ep:Nat) (t:SetTable):Prop where
 ex:∃ o,h.get? a=some o∧o.cls=.type "set" ∧ o.data=.set es ep t
 fits:t.fits es.size=true
section
variable {prog:Program} {w:World} {A:Around} {E:Value→Shared→Prop} {s:Shared} {a I:Addr} {es:Array (Int×Value)} {ep i:Nat} {t:SetTable}
theorem SetAt.keeps {h h':Heap} (g:SetAt h a es ep t) (k:∀ o,h.get? a=some o→h'.get? a=some o):SetAt h' a es ep t:=by
 obtain ⟨o,ho,r⟩:=g.ex
 exact ⟨⟨o,k o ho,r⟩,g.fits⟩
theorem SetAt.state {Q:(Array (Int×Value)×Nat×SetTable)→Shared→Prop} (g:SetAt s.heap a es ep t) (h:Q (es,ep,t) s):wpAny (model prog w) A (setState a) Q E s:=by
 obtain ⟨o,ho,_,hd⟩:=g.ex
 exact wpAny_setState_of ho hd g.fits h
theorem SetAt.entries {Q:Array (Int×Value)→Shared→Prop} (g:SetAt s.heap a es ep t) (h:Q es s):wpAny (model prog w) A (setEntries a) Q E s:=by
 unfold setEntries
 exact wpAny_bind (g.state (wpAny_pure h))
theorem next_item {f0:Nat} {x:Value} {nx:Nat} {Q:Option Value→Shared→Prop} (hI:s.heap.get? I=some (itO (rawInt f0) i a es.size ep)) (g:SetAt s.heap a es ep t)
  (hn:∀ (A':Around) (E':Value→Shared→Prop) (Q':Option (Value×Nat)→Shared→Prop),Q' (some (x,nx)) s→wpAny (model prog w) A' (setNext a f0 i ep) Q' E' s)
  (hQ:∀ h',h'.get? I=some (itO (rawInt nx) (i+1) a es.size ep)→Heap.SameBut I s.heap h'→Q (some x) { s with heap:=h' }):wpAny (model prog w) A (pyNext (.ref I)) Q E s:=by
 have hT:s.TypeIs (.ref I) "set_iterator" := ⟨_,hI,rfl⟩
 unfold pyNext
 refine wpAny_bind (wpAny_attempt (wpAny_callSpecial?_slot (name:=Str.ofString "__next__") hT slot_next (wpAny_call_entry slot_next hT entry_next ?_ (args_next _))))
 unfold Builtin.«set_iterator.__next__»
 generalize hSE:setEntries=SE
 generalize hSN:setNext=SN
 generalize hSF:setField=SF
 wp_walk
 subst hSE hSN hSF
 refine g.entries ?_
 dsimp only
 rw [if_neg (by simp)]
 show wpAny _ A.in1 (setNext a (f0:Int).toNat (i:Int).toNat (ep:Int).toNat>>=_) _ _ s
 rw [Int.toNat_natCast,Int.toNat_natCast,Int.toNat_natCast]
 refine wpAny_bind (hn _ _ _ ?_)
 dsimp only
 refine wpAny_bind (wpAny_setField_rec hI (by simp) fun h1 g1 s1=>?_)
 refine wpAny_bind (wpAny_setField_rec g1 (by simp) fun h2 g2 s2=>?_)
 refine wpAny_pure ⟨x,rfl,wpAny_pure (hQ h2 ?_ (s1.trans s2))⟩
 rw [g2]
 simp [itO,rawInt]
theorem next_end {f0:Nat} {Q:Option Value→Shared→Prop} (hh:A.handled=none) (hI:s.heap.get? I=some (itO (rawInt f0) i a es.size ep)) (g:SetAt s.heap a es ep t)
  (hn:∀ (A':Around) (E':Value→Shared→Prop) (Q':Option (Value×Nat)→Shared→Prop),Q' none s→wpAny (model prog w) A' (setNext a f0 i ep) Q' E' s)
  (hQ:∀ h',Heap.ExtBut I s.heap h'→Q none { s with heap:=h' }):wpAny (model prog w) A (pyNext (.ref I)) Q E s:=by
 have hT:s.TypeIs (.ref I) "set_iterator" := ⟨_,hI,rfl⟩
 unfold pyNext
 refine wpAny_bind (wpAny_attempt (wpAny_callSpecial?_slot (name:=Str.ofString "__next__") hT slot_next (wpAny_call_entry slot_next hT entry_next ?_ (args_next _))))
 unfold Builtin.«set_iterator.__next__»
 generalize hSE:setEntries=SE
 generalize hSN:setNext=SN
 generalize hSF:setField=SF
 generalize hNE:newExc=NE
 generalize hRN:@raiseNew=RN
 wp_walk
 subst hSE hSN hSF hNE hRN
 refine g.entries ?_
 dsimp only
 rw [if_neg (by simp)]
 show wpAny _ A.in1 (setNext a (f0:Int).toNat (i:Int).toNat (ep:Int).toNat>>=_) _ _ s
 rw [Int.toNat_natCast,Int.toNat_natCast,Int.toNat_natCast]
 refine wpAny_bind (hn _ _ _ ?_)
 dsimp only
 refine wpAny_bind (wpAny_setField_rec hI (by simp) fun h1 g1 s1=>?_)
 refine wpAny_bind ?_
 dsimp only [newExc,newTuple]
 refine wpAny_bind (wpAny_newObj_type ?_ (by size_fits))
 refine wpAny_bind (m:=firstArgMember _ _) (wpAny_of_eq (a:=Value.none) (by first | rfl | (simp only [firstArgMember];rfl)) ?_)
 refine wpAny_newObj_type ?_ (by size_fits)
 dsimp only [raiseNew]
 refine wpAny_bind (wpAny_handled ?_)
 rw [show A.in1.handled=none from hh]
 refine wpAny_bind (wpAny_pure (wpAny_throw ?_))
 refine wpAny_bind (wpAny_isInstance (T := "StopIteration") (b:=true) ⟨_,Heap.get?_push_size _ rfl,rfl⟩ isSubtype_stop ?_)
 exact wpAny_pure (hQ _ ((s1.extBut.push _).push _))
end
end L2.SX
namespace L2.SX
open PySem PyProof.Rows
section
variable {prog:Program} {w:World} {A:Around} {E:Value→Shared→Prop} {s:Shared} {a I T:Addr} {es:Array (Int×Value)} {ep i:Nat} {t:SetTable}
abbrev plO (pl:List Nat):Obj:={ cls:=.type "tuple", data:=.seq (pl.map fun (k:Nat)=>rawInt k).toArray }
theorem a2D {pl:List Nat} {p:Nat} {hx:Int} {x:Value} {Q:Option Value→Shared→Prop} (hI:s.heap.get? I=some (itO (.ref T) i a es.size ep)) (hT:s.heap.get? T=some (plO pl)) (g:SetAt s.heap a es ep t) (hp:pl[i]?=some p) (he:es[p]?=some (hx,x))
  (hQ:∀ h',h'.get? I=some (itO (.ref T) (i+1) a es.size ep)→Heap.SameBut I s.heap h'→Q (some x) { s with heap:=h' }):wpAny (model prog w) A (pyNext (.ref I)) Q E s:=by
 have hty:s.TypeIs (.ref I) "set_iterator" := ⟨_,hI,rfl⟩
 unfold pyNext
 refine wpAny_bind (wpAny_attempt (wpAny_callSpecial?_slot (name:=Str.ofString "__next__") hty slot_next (wpAny_call_entry slot_next hty entry_next ?_ (args_next _))))
 unfold Builtin.«set_iterator.__next__»
 generalize hSE:setEntries=SE
 generalize hSN:setNextDrawn=SN
 generalize hSF:setField=SF
 generalize hSI:seqItems?=SI
 wp_walk
 subst hSE hSN hSF hSI
 refine g.entries ?_
 dsimp only
 rw [if_neg (by simp)]
 show wpAny _ A.in1 (seqItems? (.ref T)>>=_) _ _ s
 refine wpAny_bind (wpAny_seqItems hT rfl ?_)
 dsimp only
 have e1:(pl.map fun (k:Nat)=>rawInt k).toArray[(i:Int).toNat]?=some (rawInt p):=by
  rw [Int.toNat_natCast,List.getElem?_toArray,List.getElem?_map,hp];rfl
 rw [e1]
 show wpAny _ A.in1 (setNextDrawn a (p:Int).toNat (ep:Int).toNat>>=_) _ _ s
 rw [Int.toNat_natCast,Int.toNat_natCast]
 unfold setNextDrawn
 refine wpAny_bind (wpAny_bind (g.state ?_))
 dsimp only
 rw [if_neg (by simp),he]
 refine wpAny_pure ?_
 refine wpAny_bind (wpAny_setField_rec hI (by simp) fun h1 g1 s1=>?_)
 refine wpAny_pure ⟨x,rfl,wpAny_pure (hQ h1 ?_ s1)⟩
 rw [g1]
 simp [itO,rawInt]
theorem a4L {pl:List Nat} {Q:Option Value→Shared→Prop} (hh:A.handled=none) (hI:s.heap.get? I=some (itO (.ref T) i a es.size ep)) (hT:s.heap.get? T=some (plO pl)) (g:SetAt s.heap a es ep t) (hp:pl[i]?=none)
  (hQ:∀ h',Heap.ExtBut I s.heap h'→Q none { s with heap:=h' }):wpAny (model prog w) A (pyNext (.ref I)) Q E s:=by
 have hty:s.TypeIs (.ref I) "set_iterator" := ⟨_,hI,rfl⟩
 unfold pyNext
 refine wpAny_bind (wpAny_attempt (wpAny_callSpecial?_slot (name:=Str.ofString "__next__") hty slot_next (wpAny_call_entry slot_next hty entry_next ?_ (args_next _))))
 unfold Builtin.«set_iterator.__next__»
 generalize hSE:setEntries=SE
 generalize hSF:setField=SF
 generalize hSI:seqItems?=SI
 generalize hNE:newExc=NE
 generalize hRN:@raiseNew=RN
 wp_walk
 subst hSE hSF hSI hNE hRN
 refine g.entries ?_
 dsimp only
 rw [if_neg (by simp)]
 show wpAny _ A.in1 (seqItems? (.ref T)>>=_) _ _ s
 refine wpAny_bind (wpAny_seqItems hT rfl ?_)
 dsimp only
 have e1:(pl.map fun (k:Nat)=>rawInt k).toArray[(i:Int).toNat]?=none:=by
  rw [Int.toNat_natCast,List.getElem?_toArray,List.getElem?_map,hp];rfl
 rw [e1]
 dsimp only
 refine wpAny_bind (wpAny_setField_rec hI (by simp) fun h0 g0 s0=>?_)
 refine wpAny_bind (wpAny_setField_rec g0 (by simp) fun h1 g1 s1=>?_)
 refine wpAny_bind ?_
 dsimp only [newExc,newTuple]
 refine wpAny_bind (wpAny_newObj_type ?_ (by size_fits))
 refine wpAny_bind (m:=firstArgMember _ _) (wpAny_of_eq (a:=Value.none) (by first | rfl | (simp only [firstArgMember];rfl)) ?_)
 refine wpAny_newObj_type ?_ (by size_fits)
 dsimp only [raiseNew]
 refine wpAny_bind (wpAny_handled ?_)
 rw [show A.in1.handled=none from hh]
 refine wpAny_bind (wpAny_pure (wpAny_throw ?_))
 refine wpAny_bind (wpAny_isInstance (T := "StopIteration") (b:=true) ⟨_,Heap.get?_push_size _ rfl,rfl⟩ isSubtype_stop ?_)
 exact wpAny_pure (hQ _ (((s0.trans s1).extBut.push _).push _))
theorem a3O {α:Type} (next:Nat→Nat):∀ (fuel k:Nat) (left:List α) (out:Array α),left.length=fuel→(pickOrder.go next fuel k left out).toList.Perm (out.toList++left)
 | 0,k,left,out,h=>by
  have:left=[]:=List.length_eq_zero_iff.mp h
  subst this
  simp [pickOrder.go]
 | fuel+1,k,left,out,h=>by
  unfold pickOrder.go
  have lt:next k % left.length<left.length:=Nat.mod_lt _ (by omega)
  rw [List.getElem?_eq_getElem lt]
  dsimp only
  refine (a3O next fuel (k+1) _ _ (by rw [List.length_eraseIdx,if_pos lt];omega)).trans ?_
  rw [Array.toList_push,List.append_assoc]
  refine List.Perm.append_left _ ?_
  show (left[next k % left.length]::left.eraseIdx (next k % left.length)).Perm left
  generalize next k % left.length=m at lt
  rw [List.eraseIdx_eq_take_drop_succ]
  have e:left=left.take m++left[m]::left.drop (m+1):=by rw [List.getElem_cons_drop,List.take_append_drop]
  refine List.Perm.trans ?_ (List.Perm.of_eq e.symm)
  exact List.perm_middle.symm
theorem qE {α:Type} (next:Nat→Nat) (xs:Array α):(pickOrder next xs).toList.Perm xs.toList:=by
 unfold pickOrder
 have:=a3O next xs.size 0 xs.toList #[] (by simp)
 simpa using this
theorem b3S (hb:w.params.followText "set-order" = true) {Q:Array (Int×Value)→Shared→Prop} (g:SetAt s.heap a es ep t) (h:Q (pickOrder (w.params.setOrder a ep) es) s):wpAny (model prog w) A (setWalk a) Q E s:=by
 unfold setWalk
 refine wpAny_bind (g.state ?_)
 dsimp only
 unfold setsByText
 refine wpAny_bind (wpAny_bind (wpAny_askSetting (wpAny_pure ?_)))
 show wpAny _ _ (if w.params.followText "set-order" = true then _ else _) _ _ s
 rw [if_pos hb]
 exact wpAny_bind (wpAny_askSetting (wpAny_pure h))
theorem nextT (hb:w.params.followText "set-order" = true) {f0:Nat} {Q:Option (Value×Nat)→Shared→Prop} (g:SetAt s.heap a es ep t) (h:Q (((pickOrder (w.params.setOrder a ep) es)[i]?).map fun e=>(e.2,f0)) s):wpAny (model prog w) A (setNext a f0 i ep) Q E s:=by
 unfold setNext
 refine wpAny_bind (g.state ?_)
 dsimp only
 refine wpAny_bind ?_
 unfold setsByText
 refine wpAny_bind (wpAny_askSetting (wpAny_pure ?_))
 show wpAny _ _ (if w.params.followText "set-order" = true then _ else _) _ _ s
 rw [if_pos hb,if_neg (by simp)]
 refine wpAny_bind ?_
 exact b3S hb g (wpAny_pure h)
theorem b1d (hb:w.params.followText "set-order" = false) (hnd:(!t.plain&&decide (es.size > 1))=false) (hl:t.led=true) {f0:Nat} {Q:Option (Value×Nat)→Shared→Prop} (g:SetAt s.heap a es ep t)
  (h:Q (match es[SetTable.below t.place f0]?,t.place[SetTable.below t.place f0]? with | some (_,x),some j=>some (x,j+1) | _,_=>none) s):wpAny (model prog w) A (setNext a f0 i ep) Q E s:=by
 unfold setNext
 refine wpAny_bind (g.state ?_)
 dsimp only
 refine wpAny_bind ?_
 unfold setsByText
 refine wpAny_bind (wpAny_askSetting (wpAny_pure ?_))
 show wpAny _ _ (if w.params.followText "set-order" = true then _ else (if (!t.plain&&decide (es.size > 1))=true then _ else _)) _ _ s
 rw [hb,if_neg (by decide),hnd,if_neg (by decide)]
 show wpAny _ _ ((if (!t.led&&!es.isEmpty)=true then unsupported "set:maker-not-led" else pure PUnit.unit)>>=fun _=>_) _ _ s
 rw [hl]
 rw [if_neg (by simp)]
 exact wpAny_bind (wpAny_pure (wpAny_pure h))
end
end L2.SX
namespace L2.SX
open PySem PyProof.Rows
theorem a5s {M:Model} {A:Around} {E:Value→Shared→Prop} {s:Shared} {src:Source} {n:Nat} {Q:Nat→Shared→Prop} (hn:n≠0) (h:∀ k,k<n→Q k { s with drawn:=s.drawn.bump src }):wpAny M A (choose src n) Q E s:=fun Γ p hΓ=>by
 unfold choose
 rw [Sem.wp_choose]
 exact ⟨hn,h _ (Nat.mod_lt _ (by omega))⟩
theorem a3R {α:Type} {M:Model} {A:Around} {E:Value→Shared→Prop}:∀ (n:Nat) (xs:List α) (s:Shared) (Q:List α→Shared→Prop),xs.length=n→(∀ ys d',ys.Perm xs→Q ys { s with drawn:=d' })→wpAny M A (drawOrder n xs) Q E s
 | 0,xs,s,Q,hn,h=>by
  have:xs=[]:=List.length_eq_zero_iff.mp hn
  subst this
  unfold drawOrder
  exact wpAny_pure (h [] s.drawn .nil)
 | n+1,[],s,Q,hn,h=>by cases hn
 | n+1,x::xs,s,Q,hn,h=>by
  unfold drawOrder
  refine wpAny_bind (a5s (by simp) fun k hk=>?_)
  rw [List.getElem?_eq_getElem hk]
  dsimp only
  refine wpAny_bind (a3R n _ _ _ (by rw [List.length_eraseIdx,if_pos hk];omega) fun ys d' hp=>wpAny_pure (h _ d' ?_))
  refine (hp.cons _).trans ?_
  generalize hL:x::xs=left at hk ⊢
  rw [List.eraseIdx_eq_take_drop_succ]
  have e:left=left.take k++left[k]::left.drop (k+1):=by rw [List.getElem_cons_drop,List.take_append_drop]
  exact List.perm_middle.symm.trans (List.Perm.of_eq e.symm)
theorem slot_self:Slot "set_iterator" "__iter__" "set_iterator.__iter__" :=
 .of (owner := "set_iterator") (n := "__iter__") (by rw [typeLookup_type,builtinLookup_eq_fast];kernel_rfl) (by decide +kernel) (by decide +kernel) (by decide +kernel) (by first | exact .inl (by decide +kernel) | exact .inr (by decide +kernel)) (by rw [isSubtype_type];kernel_rfl)
theorem entry_self:entryFor table "set_iterator.__iter__" = some Builtin.«dict_keyiterator.__iter__»:=entryFor_alias (id' := "dict_keyiterator.__iter__") (by kernel_rfl) rfl (by decide +kernel) (by kernel_rfl)
theorem args_self (v:Value):argsOk "set_iterator.__iter__" ⟨[v],[]⟩:=by unfold argsOk;kernel_rfl
theorem qA {prog:Program} {w:World} {A:Around} {E:Value→Shared→Prop} {s:Shared} {I:Addr} {Q:Value→Shared→Prop} (hty:s.TypeIs (.ref I) "set_iterator") (h:Q (.ref I) s):wpAny (model prog w) A (pyIter (.ref I)) Q E s:=by
 refine wpAny_pyIter_slot hty slot_self (wpAny_call_entry slot_self hty entry_self ?_ (args_self _))
 show wpAny _ _ (ret (.ref I)) _ _ s
 exact wpAny_pure ⟨_,rfl, "set_iterator", _,hty,slot_next.lookup,h⟩
section
variable {prog:Program} {w:World} {E:Value→Shared→Prop} {a I T:Addr} {es:Array (Int×Value)} {ep:Nat} {t:SetTable}
theorem b1x (hb:w.params.followText "set-order" = true) (hne:a≠I) {A:Around} (hh:A.handled=none):Walks prog w A I [I,a] [I] es.size (fun i v=>((pickOrder (w.params.setOrder a ep) es).toList.map (·.2))[i]?=some v)
  (fun i h=>h.get? I=some (itO (rawInt 0) i a es.size ep)∧SetAt h a es ep t) where
 sub:=fun b hb=>by simp at hb;simp [hb]
 frame:=fun i h h' st kp=>⟨kp I (by simp) _ st.1,st.2.keeps fun o e=>kp a (by simp) o e⟩
 item:=fun i s Q E hi st hQ=>by
  have hl:(pickOrder (w.params.setOrder a ep) es).size=es.size:=by rw [←Array.length_toList,(qE _ _).length_eq,Array.length_toList]
  have hi':i<(pickOrder (w.params.setOrder a ep) es).size:=by omega
  refine next_item st.1 st.2 (x:=(pickOrder (w.params.setOrder a ep) es)[i].2) (nx:=0) (fun A' E' Q' q=>nextT hb st.2 (by rw [Array.getElem?_eq_getElem hi'];exact q)) fun h' g1 s1=>?_
  refine hQ _ h' s.toks ?_ ⟨g1,st.2.keeps fun o e=>s1.extBut _ _ hne e⟩ fun b o hb e=>s1.extBut b o (by simpa using hb) e
  rw [List.getElem?_map,Array.getElem?_toList,Array.getElem?_eq_getElem hi']
  rfl
 done:=fun s Q E st hQ=>by
  have hl:(pickOrder (w.params.setOrder a ep) es).size=es.size:=by rw [←Array.length_toList,(qE _ _).length_eq,Array.length_toList]
  refine next_end hh st.1 st.2 (fun A' E' Q' q=>nextT hb st.2 (by rw [Array.getElem?_eq_none (by omega)];exact q)) fun h' x=>hQ h' s.toks fun b o hb e=>x b o (by simpa using hb) e
 self:=fun i s Q E st hQ=>by
  have hty:s.TypeIs (.ref I) "set_iterator" := ⟨_,st.1,rfl⟩
  exact qA hty hQ
def slotAt (t:SetTable):Nat→Nat
 | 0=>0
 | i+1=>t.place.getD i 0+1
theorem pS {n:Nat} (hr:nG t.place) (hn:t.place.size=n):∀ i,i≤n→SetTable.below t.place (slotAt t i)=i
 | 0,_=>a3d _ hr
 | i+1,h=>by
  have lt:i<t.place.size:=by omega
  show SetTable.below t.place (t.place.getD i 0+1)=i+1
  have:t.place.getD i 0=t.place[i]:=by simp [Array.getD,lt]
  rw [this]
  exact a3e hr lt
theorem b1z (hb:w.params.followText "set-order" = false) (hnd:(!t.plain&&decide (es.size > 1))=false) (hl:t.led=true) (hr:nG t.place) (hp:t.place.size=es.size) (hne:a≠I) {A:Around} (hh:A.handled=none) :
  Walks prog w A I [I,a] [I] es.size (fun i v=>(es.toList.map (·.2))[i]?=some v) (fun i h=>i≤es.size∧h.get? I=some (itO (rawInt (slotAt t i)) i a es.size ep)∧SetAt h a es ep t) where
 sub:=fun b hb=>by simp at hb;simp [hb]
 frame:=fun i h h' st kp=>⟨st.1,kp I (by simp) _ st.2.1,st.2.2.keeps fun o e=>kp a (by simp) o e⟩
 item:=fun i s Q E hi st hQ=>by
  have hi':i<t.place.size:=by omega
  have bl:=pS hr hp i (by omega)
  refine next_item st.2.1 st.2.2 (x:=es[i].2) (nx:=slotAt t (i+1)) (fun A' E' Q' q=>b1d hb hnd hl st.2.2 (by
   rw [bl,Array.getElem?_eq_getElem hi,Array.getElem?_eq_getElem hi']
   have:slotAt t (i+1)=t.place[i]+1:=by show t.place.getD i 0+1=_;simp [Array.getD,hi']
   rw [this] at q
   exact q)) fun h' g1 s1=>?_
  refine hQ _ h' s.toks ?_ ⟨hi,g1,st.2.2.keeps fun o e=>s1.extBut _ _ hne e⟩ fun b o hb e=>s1.extBut b o (by simpa using hb) e
  rw [List.getElem?_map,Array.getElem?_toList,Array.getElem?_eq_getElem hi]
  rfl
 done:=fun s Q E st hQ=>by
  have bl:=pS hr hp es.size (Nat.le_refl _)
  refine next_end hh st.2.1 st.2.2 (fun A' E' Q' q=>b1d hb hnd hl st.2.2 (by
   rw [bl,Array.getElem?_eq_none (Nat.le_refl _)]
   exact q)) fun h' x=>hQ h' s.toks fun b o hb e=>x b o (by simpa using hb) e
 self:=fun i s Q E st hQ=>qA ⟨_,st.2.1,rfl⟩ hQ
theorem b1y {pl:List Nat} (hpl:pl.Perm (List.range es.size)) (hne:a≠I) (hTI:T≠I) {A:Around} (hh:A.handled=none) :
  Walks prog w A I [I,a,T] [I] es.size (fun i v=>(pl.map fun k=>(es.toList.map (·.2)).getD k .none)[i]?=some v) (fun i h=>h.get? I=some (itO (.ref T) i a es.size ep)∧h.get? T=some (plO pl)∧SetAt h a es ep t) where
 sub:=fun b hb=>by simp at hb;simp [hb]
 frame:=fun i h h' st kp=>⟨kp I (by simp) _ st.1,kp T (by simp) _ st.2.1,st.2.2.keeps fun o e=>kp a (by simp) o e⟩
 item:=fun i s Q E hi st hQ=>by
  have hlen:pl.length=es.size:=by rw [hpl.length_eq,List.length_range]
  have hi':i<pl.length:=by omega
  have hm:pl[i]∈List.range es.size:=hpl.mem_iff.mp (List.getElem_mem hi')
  have hlt:pl[i]<es.size:=List.mem_range.mp hm
  refine a2D (p:=pl[i]) (hx:=es[pl[i]].1) (x:=es[pl[i]].2) st.1 st.2.1 st.2.2 (List.getElem?_eq_getElem hi') (Array.getElem?_eq_getElem hlt) fun h' g1 s1=>?_
  refine hQ _ h' s.toks ?_ ⟨g1,s1.extBut _ _ hTI st.2.1,st.2.2.keeps fun o e=>s1.extBut _ _ hne e⟩ fun b o hb e=>s1.extBut b o (by simpa using hb) e
  rw [List.getElem?_map,List.getElem?_eq_getElem hi']
  simp [List.getD,hlt]
 done:=fun s Q E st hQ=>by
  have hlen:pl.length=es.size:=by rw [hpl.length_eq,List.length_range]
  exact a4L hh st.1 st.2.1 st.2.2 (List.getElem?_eq_none (by omega)) fun h' x=>hQ h' s.toks fun b o hb e=>x b o (by simpa using hb) e
 self:=fun i s Q E st hQ=>qA ⟨_,st.1,rfl⟩ hQ
theorem a2y {α:Type} (xs:List α) (d:α) {pl:List Nat} (h:pl.Perm (List.range xs.length)):(pl.map fun k=>xs.getD k d).Perm xs:=by
 refine (h.map _).trans (List.Perm.of_eq ?_)
 apply List.ext_getElem?
 intro i
 rw [List.getElem?_map]
 by_cases hi:i<xs.length
 ·rw [List.getElem?_range hi,List.getElem?_eq_getElem hi];simp [List.getD,hi]
 ·rw [List.getElem?_eq_none (by simpa using hi),List.getElem?_eq_none (by omega)];rfl
theorem a7x {A:Around} {s:Shared} {Q:Value→Shared→Prop} (g:SetAt s.heap a es ep t) (hT:TOk t (ledOf w)) (few:es.size≤sizeLine)
  (h:∀ (h':Heap) (d':Drawn) (I:Addr) (vs:List Value) (fp:List Addr) (St:Nat→Heap→Prop),vs.Perm (es.toList.map (·.2))→(∀ b o,s.heap.get? b=some o→h'.get? b=some o)→s.heap.objs.size≤I→I∈fp→(∀ b∈fp,b=a∨s.heap.objs.size≤b) →
   (∀ A':Around,A'.handled=none→Walks prog w A' I fp [I] es.size (fun i v=>vs[i]?=some v) St)→St 0 h'→Q (.ref I) { s with heap:=h',drawn:=d' }) :
  wpAny (model prog w) A (pyIter (.ref a)) Q E s:=by
 obtain ⟨o,ho,hc,hd⟩:=g.ex
 have hty:s.TypeIs (.ref a) "set" := ⟨o,ho,hc⟩
 have lt:a<s.heap.objs.size:=Heap.lt_size ho
 have hpl:t.place.size=es.size:=by
  have:=g.fits
  simp only [SetTable.fits,Bool.and_eq_true,beq_iff_eq] at this
  exact this.1
 refine wpAny_pyIter_slot hty F.slot_set_iter (wpAny_call_entry F.slot_set_iter hty a2Q ?_ (F.args_set_iter_1 _))
 unfold Builtin.«frozenset.__iter__»
 generalize hSD:setDrawn=SD
 generalize hSE:setEpoch=SE
 generalize hSZ:Builtin.Frozenset.sizeOf=SZ
 wp_walk
 subst hSD hSE hSZ
 unfold Builtin.Frozenset.sizeOf
 refine wpAny_bind (g.entries (wpAny_pure ?_))
 have fin:∀ (f0:Value) (s2:Shared),SetAt s2.heap a es ep t→Q (.ref s2.heap.objs.size) { s2 with heap:=s2.heap.push (itO f0 0 a es.size ep) } →
   wpAny (model prog w) A.in1 (setEpoch a>>=fun e=>newFields "set_iterator" [f0,rawInt 0,Value.ref a,rawInt (es.size:Nat),rawInt (e:Nat)]>>=fun v=>ret v) (fun fin s'=>∃ v,fin=Fin.done (Flow.ret v)∧∃ T' r,s'.TypeIs v T'∧typeLookup (Value.type T') (Str.ofString "__next__")=pure (some r)∧Q v s') E s2:=by
  intro f0 s2 g2 q
  refine wpAny_bind ?_
  unfold setEpoch
  refine wpAny_bind (g2.state (wpAny_pure ?_))
  refine wpAny_bind ?_
  unfold newFields
  exact wpAny_newObj_type (wpAny_pure ⟨_,rfl, "set_iterator", _,⟨_,Heap.get?_push_size _ rfl,rfl⟩,slot_next.lookup,q⟩) (by size_fits)
 have plain:∀ (vs:List Value) (St:Nat→Heap→Prop),vs.Perm (es.toList.map (·.2))→(∀ A':Around,A'.handled=none→Walks prog w A' s.heap.objs.size [s.heap.objs.size,a] [s.heap.objs.size] es.size (fun i v=>vs[i]?=some v) St) →
   St 0 (s.heap.push (itO (rawInt 0) 0 a es.size ep))→Q (.ref s.heap.objs.size) { s with heap:=s.heap.push (itO (rawInt 0) 0 a es.size ep) }:=by
  intro vs St hp W st
  refine h _ s.drawn s.heap.objs.size vs [s.heap.objs.size,a] St hp (fun b o e=>Heap.get?_push_of_some _ e) (Nat.le_refl _) (by simp) (fun b hb=>?_) W st
  rcases List.mem_cons.mp hb with z | z
  ·exact .inr (by rw [z];exact Nat.le_refl _)
  ·exact .inl (List.mem_singleton.mp z)
 have hne:a≠s.heap.objs.size:=Nat.ne_of_lt lt
 have g1:SetAt (s.heap.push (itO (rawInt 0) 0 a es.size ep)) a es ep t:=g.keeps fun o e=>Heap.get?_push_of_some _ e
 refine wpAny_bind ?_
 unfold setDrawn
 refine wpAny_bind (g.state ?_)
 dsimp only
 unfold setsByText
 refine wpAny_bind (wpAny_bind (wpAny_askSetting (wpAny_pure (wpAny_pure ?_))))
 show wpAny _ _ (if (!w.params.followText "set-order" && (!t.plain&&decide (es.size > 1)))=true then _ else _) _ _ s
 cases hbt:w.params.followText "set-order" with
 | true=>
  rw [if_neg (by simp)]
  refine wpAny_bind (wpAny_pure ?_)
  exact fin (rawInt 0) s g (plain _ _ ((qE _ _).map _) (fun A' hA=>b1x hbt hne hA) ⟨Heap.get?_push_size _ rfl,g1⟩)
 | false=>
  have hled:t.led=true:=by rw [hT.led];unfold ledOf;rw [hbt];rfl
  cases hdr:(!t.plain&&decide (es.size > 1)) with
  | false=>
   rw [if_neg (by simp)]
   refine wpAny_bind (wpAny_pure ?_)
   have hr:nG t.place:=by
    cases hp:t.plain with
    | true=>exact hT.rise hp
    | false=>
     rw [hp] at hdr
     have:¬es.size > 1:=by simpa using hdr
     unfold nG
     have hl:t.place.toList.length≤1:=by rw [Array.length_toList];omega
     match t.place.toList,hl with
     | [],_=>exact .nil
     | [x],_=>exact List.pairwise_singleton _ _
   exact fin (rawInt 0) s g (plain _ _ (.refl _) (fun A' hA=>b1z hbt hdr hled hr hpl hne hA) ⟨Nat.zero_le _,Heap.get?_push_size _ rfl,g1⟩)
  | true=>
   rw [if_pos (by simp)]
   refine wpAny_bind (a3R es.size (List.range es.size) s _ (by simp) fun pl d' hpl'=>?_)
   refine wpAny_bind ?_
   unfold newTuple
   refine wpAny_newObj_type ?_ (by
    have h1:pl.length=es.size:=by rw [hpl'.length_eq,List.length_range]
    show (pl.map fun (k:Nat)=>rawInt k).toArray.size≤sizeLine
    rw [List.size_toArray,List.length_map,h1]
    exact few)
   have g2:SetAt (s.heap.push (plO pl)) a es ep t:=g.keeps fun o e=>Heap.get?_push_of_some _ e
   refine fin (.ref s.heap.objs.size) { s with heap:=s.heap.push (plO pl),drawn:=d' } g2 ?_
   have sz:(s.heap.push (plO pl)).objs.size=s.heap.objs.size+1:=Heap.size_push ..
   have hp2:(pl.map fun k=>(es.toList.map (·.2)).getD k Value.none).Perm (es.toList.map (·.2)):=a2y _ _ (by simpa using hpl')
   refine h _ d' (s.heap.push (plO pl)).objs.size _ [(s.heap.push (plO pl)).objs.size,a,s.heap.objs.size] _ hp2 (fun b o e=>Heap.get?_push_of_some _ (Heap.get?_push_of_some _ e)) (by rw [sz];exact Nat.le_succ _) (by simp) (fun b hb=>?_)
    (fun A' hA=>b1y (ep:=ep) (t:=t) hpl' (by rw [sz];exact Nat.ne_of_lt (Nat.lt_succ_of_lt lt)) (by rw [sz];exact Nat.ne_of_lt (Nat.lt_succ_self _)) hA) ⟨Heap.get?_push_size _ rfl,Heap.get?_push_of_some _ (Heap.get?_push_size _ rfl),g2.keeps fun o e=>Heap.get?_push_of_some _ e⟩
   rcases List.mem_cons.mp hb with z | z
   ·exact .inr (by rw [z,sz];exact Nat.le_succ _)
   ·rcases List.mem_cons.mp z with z | z
    ·exact .inl z
    ·rw [List.mem_singleton] at z;exact .inr (by rw [z];exact Nat.le_refl _)
end
end L2.SX
namespace L2.SX
open PySem PyProof.Rows
theorem a9d:typeLookup (.type "set") "__len__" = pure (some (.builtin "set.__len__")):=by rw [typeLookup_type,builtinLookup_eq_fast];kernel_rfl
section
variable {prog:Program} {w:World} {E:Value→Shared→Prop} {a:Addr} {es:Array (Int×Value)} {ep:Nat} {t:SetTable}
theorem a1E {A:Around} {s:Shared} {Q:List Value→Shared→Prop} (hh:A.handled=none) (g:SetAt s.heap a es ep t) (hT:TOk t (ledOf w)) (few:es.size≤sizeLine)
  (hQ:∀ (h':Heap) (d':Drawn) (tk:Nat) (vs:List Value),vs.Perm (es.toList.map (·.2))→(∀ b o,s.heap.get? b=some o→h'.get? b=some o)→s.heap.objs.size<h'.objs.size→Q vs { s with heap:=h',drawn:=d',toks:=tk }) :
  wpAny (model prog w) A (collect (.ref a)) Q E s:=by
 obtain ⟨o,ho,hc,_⟩:=g.ex
 have lt:a<s.heap.objs.size:=Heap.lt_size ho
 unfold collect
 refine wpAny_bind (wpAny_runValue (codeAny_builtin F.entry_proto_collect ?_))
 rw [Around.under_plainId F.plain_proto_collect _]
 show wpAny _ A.in1 (newList []>>=fun l=>again (.builtin "list.__iadd__" ⟨[l,.ref a],[]⟩)) _ _ s
 refine wpAny_bind (wpAny_newObj_type ?_)
 refine wpAny_pure ⟨plainId_quiet F.plain_list_iadd _,codeAny_builtin F.entry_list_iadd ?_⟩
 rw [Around.under_plainId F.plain_list_iadd _]
 have g1:SetAt (s.heap.push { cls:=.type "list", data:=.seq ([]:List Value).toArray }) a es ep t:=g.keeps fun o e=>Heap.get?_push_of_some _ e
 have hS1:(s.heap.push { cls:=.type "list", data:=.seq ([]:List Value).toArray }).get? s.heap.objs.size=some { cls:=.type "list", data:=.seq ([]:List Value).toArray }:=Heap.get?_push_size _ rfl
 have ty1:Shared.TypeIs { s with heap:=s.heap.push { cls:=.type "list", data:=.seq ([]:List Value).toArray } } (.ref a) "set" := ⟨o,Heap.get?_push_of_some _ ho,hc⟩
 show wpAny _ A.in1 (Builtin.List.listExtendWith (.ref s.heap.objs.size) (.ref a) (.ref s.heap.objs.size)) _ _ _
 unfold Builtin.List.listExtendWith
 refine wpAny_bind (wpAny_typeOf ty1 ?_)
 have e1:Builtin.List.listSameRef (.ref s.heap.objs.size) (.ref a)=false:=by simp [Builtin.List.listSameRef,Nat.ne_of_gt lt]
 have e2:(Value.type "set" == Value.type "list")=false:=by decide
 have e3:(Value.type "set" == Value.type "tuple")=false:=by decide
 simp only [e1,e2,e3,Bool.or_false,Bool.false_eq_true,if_false]
 refine wpAny_bind (a7x (w:=w) g1 hT few fun h' d' I vs fp St hp kp hI hIf hfp W st=>?_)
 have ty2:Shared.TypeIs { s with heap:=h',drawn:=d' } (.ref a) "set" := ⟨o,kp a o (Heap.get?_push_of_some _ ho),hc⟩
 refine wpAny_bind (wpAny_holding ?_)
 have hint:∀ Q':Bool→Shared→Prop,Q' false { s with heap:=h',drawn:=d' }→wpAny (model prog w) A.in1 (Builtin.List.listLengthHint (.ref a)) Q' E { s with heap:=h',drawn:=d' }:=by
  intro Q' q
  unfold Builtin.List.listLengthHint
  refine wpAny_bind (wpAny_specialOf ty2 a9d ?_)
  generalize hid:("set.__len__" : String)=i0
  wp_delta
  rw [show splitId i0=some ("set", "__len__") from by rw [←hid];decide +kernel]
  rw [←hid]
  refine wpAny_bind (wpAny_isInstance (T := "set") (b:=true) ty2 sub_set_self ?_)
  refine wpAny_ite_split (fun z=>absurd z (by decide)) fun _=>?_
  refine wpAny_ite_split (fun _=>?_) fun z=>absurd (by decide +kernel) z
  exact wpAny_bind (wpAny_typeOf ty2 (wpAny_pure q))
 refine hint _ ?_
 have hSf:s.heap.objs.size∉fp:=fun hm=>by
  rcases hfp _ hm with z | z
  ·exact absurd z (Nat.ne_of_gt lt)
  ·rw [Heap.size_push] at z;exact absurd z (Nat.not_succ_le_self _)
 refine wpAny_ite_split (fun _=>?_) fun z=>absurd (by decide +kernel) z
 have hS2:=kp _ _ hS1
 refine wpAny_bind (wpAny_rule ?_)
 refine wpAny_bind ?_
 show wpAny _ A.in1 (updateSeq s.heap.objs.size (·.push .none)>>=fun _=>updateSeq s.heap.objs.size (·.pop)) _ _ _
 refine wpAny_bind (wpAny_updateSeq hS2 rfl ?_)
 have hS3:=Heap.get?_update_self (Obj.mapSeq (·.push Value.none)) hS2 rfl
 refine wpAny_updateSeq hS3 rfl ?_
 have hS4:=Heap.get?_update_self (Obj.mapSeq (·.pop)) hS3 rfl
 have oth:∀ b o,b≠s.heap.objs.size→h'.get? b=some o→((h'.update s.heap.objs.size (Obj.mapSeq (·.push Value.none))).update s.heap.objs.size (Obj.mapSeq (·.pop))).get? b=some o:=
  fun b o hb e=>by rw [Heap.get?_update_other _ _ (Ne.symm hb),Heap.get?_update_other _ _ (Ne.symm hb)];exact e
 have W1:=W A.in1 hh
 refine wpAny_pure ⟨plainId_quiet F.plain_extend_loop _,codeAny_extend_loopS W1.toS few _ hSf _ es.size 0 _ _ _ rfl (Nat.zero_le _)
  (W1.frame 0 _ _ st fun b hb o e=>oth b o (fun z=>hSf (z▸hb)) e) hS4 (ItemsOf.nil _) fun s' acc' c' hm hS' hacc=>?_⟩
 show wpAny _ A (load s.heap.objs.size>>=_) _ _ s'
 refine wpAny_bind (wpAny_load hS' (wpAny_pure ?_))
 have hv:acc'.toList=vs:=by
  have hl:vs.length=es.size:=by rw [hp.length_eq];simp
  refine List.ext_getElem? fun i=>?_
  by_cases hi:i<es.size
  ·have h1:i<acc'.size:=by rw [hacc.1];exact hi
   have h2:=hacc.2 i _ (Array.getElem?_eq_getElem h1)
   rw [h2,Array.getElem?_toList,Array.getElem?_eq_getElem h1]
  ·rw [List.getElem?_eq_none (by rw [Array.length_toList,hacc.1];omega),List.getElem?_eq_none (by rw [hl];omega)]
 show Q acc'.toList s'
 rw [hv,Moved.eq_with hm]
 refine hQ s'.heap d' s'.toks vs hp (fun b o e=>?_) (Heap.lt_size hS')
 have hb:b≠s.heap.objs.size:=Nat.ne_of_lt (Heap.lt_size e)
 refine hm.heap b o (fun hmem=>?_) (oth b o hb (kp b o (Heap.get?_push_of_some _ e)))
 rcases List.mem_cons.mp hmem with z | z
 ·exact hb z
 ·rw [List.mem_singleton] at z
  rw [Heap.size_push] at hI
  have q:=Heap.lt_size e
  rw [z] at q
  exact Nat.lt_irrefl _ (Nat.lt_of_lt_of_le (Nat.lt_succ_of_lt q) hI)
end
end L2.SX
namespace L2.SX
open PySem PyProof.Rows
theorem a3u {α:Type} [DecidableEq α]:∀ (ks qs:List α),ks.Nodup→(∀ k∈ks,k∈qs)→qs.length=ks.length→qs.Perm ks
 | [],[],_,_,_=>.refl _
 | k::ks,qs,hn,hm,hl=>by
  have h1:=List.perm_cons_erase (hm k (by simp))
  have hn':=List.nodup_cons.mp hn
  refine h1.trans (.cons k (a3u ks _ hn'.2 (fun x hx=>?_) ?_))
  ·exact (List.mem_erase_of_ne (fun z=>by rw [z] at hx;exact hn'.1 hx)).mpr (hm x (by simp [hx]))
  ·have:=h1.length_eq;simp only [List.length_cons] at this hl;omega
section
variable {prog:Program} {w:World} {K:Type} [DecidableEq K] {knd:KeyKind prog w K}
inductive Keys (knd:KeyKind prog w K):List Value→List K→Prop
 | nil:Keys knd [] []
 | cons {v k vs ks}:knd.is k v=true→Keys knd vs ks→Keys knd (v::vs) (k::ks)
theorem Keys.len {vs ks} (h:Keys knd vs ks):ks.length=vs.length:=by induction h<;>simp [*]
theorem Keys.mem {vs ks} (h:Keys knd vs ks) {v:Value} {k:K} (hv:v∈vs) (e:knd.is k v=true):k∈ks:=by
 induction h with
 | nil=>cases hv
 | cons h1 _ ih=>
  rcases List.mem_cons.mp hv with z | z
  ·subst z;rw [knd.inj _ _ _ e h1];simp
  ·exact List.mem_cons_of_mem _ (ih z)
theorem a3J:∀ (es:List (Int×Value)),ElemsOf knd es→∃ qs,Keys knd (es.map (·.2)) qs
 | [],_=>⟨[],.nil⟩
 | e::es,h=>by
  obtain ⟨qs,hq⟩:=a3J es fun x hx=>h x (List.mem_cons_of_mem _ hx)
  obtain ⟨⟨k,hk,_⟩,_⟩:=h e (by simp)
  exact ⟨k::qs,.cons hk hq⟩
theorem Keys.perm {vs us:List Value} (hp:us.Perm vs):∀ {ks},Keys knd vs ks→∃ qs,Keys knd us qs∧qs.Perm ks:=by
 induction hp with
 | nil=>intro ks h;exact ⟨ks,h,.refl _⟩
 | cons v _ ih=>
  intro ks h
  cases h with
  | cons h1 h2=>obtain ⟨qs,a,b⟩:=ih h2;exact ⟨_::qs,.cons h1 a,.cons _ b⟩
 | swap x y l=>
  intro ks h
  cases h with
  | cons h1 h2=>cases h2 with
   | cons h3 h4=>exact ⟨_,.cons h3 (.cons h1 h4),.swap ..⟩
 | trans _ _ i1 i2=>
  intro ks h
  obtain ⟨q1,a1,b1⟩:=i2 h
  obtain ⟨q2,a2,b2⟩:=i1 a1
  exact ⟨q2,a2,b2.trans b1⟩
theorem Good.keys {h:Heap} {a:Addr} {ks:List K} {led:Bool} (g:Good knd h a ks led):∃ es ep t,SetAt h a es ep t∧TOk t led∧es.size=ks.length∧∀ vs,vs.Perm (es.toList.map (·.2))→∃ qs,Keys knd vs qs∧qs.Perm ks:=by
 obtain ⟨o,es,ep,t,ho,hx,hd,hE,hm,hl,hf,hT⟩:=g.ex
 refine ⟨es,ep,t,⟨⟨o,ho,hx.1,hd⟩,hf⟩,hT,hl,fun vs hp=>?_⟩
 obtain ⟨qs,hq⟩:=a3J es.toList hE
 have h1:qs.Perm ks:=a3u ks qs g.nd (fun k hk=>by
  obtain ⟨e,he,hi⟩:=(hm k).mp hk
  exact hq.mem (List.mem_map_of_mem he) hi) (by rw [hq.len,List.length_map,Array.length_toList,hl])
 obtain ⟨q2,a2,b2⟩:=Keys.perm hp.symm.symm hq
 exact ⟨q2,a2,b2.trans h1⟩
theorem a4Y {vs:List Value} {ks:List Int} (h:Keys (intKind prog w) vs ks):IntsAre vs ks:=by
 induction h with
 | nil=>exact .nil
 | cons h1 _ ih=>obtain ⟨t,rfl⟩:=Value.isInt_shape h1;exact .cons _ t ih
theorem keys_strs {vs:List Value} {ks:List Str} (h:Keys (PySem.strKind prog w) vs ks):StrsAre vs ks:=by
 induction h with
 | nil=>exact .nil
 | cons h1 _ ih=>obtain ⟨t,rfl⟩:=Value.isStrOf_shape h1;exact .cons _ t ih
variable {A:Around} {E:Value→Shared→Prop} {s:Shared} {a:Addr} {es:Array (Int×Value)} {ep:Nat} {t:SetTable}
theorem sorted_set {Out:Array Value→Prop} {Q:Value→Shared→Prop} (hh:A.handled=none) (g:SetAt s.heap a es ep t) (hT:TOk t (ledOf w)) (few:es.size<64)
  (hsort:∀ (A':Around) (E':Value→Shared→Prop) (s':Shared) (l:Addr) (vs:List Value) (n:Nat) (P:Fin→Shared→Prop),vs.Perm (es.toList.map (·.2))→s'.heap.get? l=some (seqObj "list" vs.toArray n) →
   (∀ out,Out out→P (.done (.ret .none)) { s' with heap:=sortedHeap s'.heap l vs out })→wpAny (model prog w) A' (Builtin.«list.sort» ⟨[.ref l],[]⟩) P E' s')
  (h:∀ (h':Heap) (d':Drawn) (tk:Nat) (D:Addr) (out:Array Value) (e:Nat),(∀ b o,s.heap.get? b=some o→h'.get? b=some o)→s.heap.objs.size≤D→h'.get? D=some (seqObj "list" out e)→Out out→Q (.ref D) { s with heap:=h',drawn:=d',toks:=tk }) :
  wpAny (model prog w) A (call (.builtin "sorted") [.ref a]) Q E s:=by
 have big:(64:Nat)≤sizeLine:=by decide
 refine Calls.call_function_entry kind_sorted plain_sorted entry_sorted (args_sorted1 _) ?_
 unfold Builtin.«sorted»
 refine wpAny_bind (m:=checkCount "sorted" 1 1 _) (wpAny_pure ?_)
 refine wpAny_bind (a1E hh g hT (Nat.le_trans (Nat.le_of_lt few) big) fun h1 d1 tk vs hp kp hlt=>?_)
 have hl:vs.length=es.size:=by rw [hp.length_eq];simp
 refine wpAny_bind (wpAny_newList ?_ (by rw [hl];exact Nat.le_trans (Nat.le_of_lt few) big))
 have hoL:(h1.push (seqObj "list" vs.toArray 0)).get? h1.objs.size=some (seqObj "list" vs.toArray 0):=Heap.get?_push_size _ rfl
 refine wpAny_bind (wpAny_holding (wpAny_call_entry slot_list_sort ⟨_,hoL,rfl⟩ entry_list_sort (hsort _ _ _ _ vs 0 _ hp hoL fun out ho=>⟨_,rfl,?_⟩) (args_list_sort _)))
 obtain ⟨e,he⟩:=sortedHeap_at (out:=out) hoL
 refine wpAny_pure ⟨_,rfl,h _ d1 tk h1.objs.size out e (fun b o g=>?_) (Nat.le_of_lt hlt) he ho⟩
 have hb:b<h1.objs.size:=Heap.lt_size (kp b o g)
 rw [sortedHeap_old (Nat.ne_of_lt hb) (by rw [Heap.size_push];exact Nat.lt_succ_of_lt hb),Heap.get?_push_of_some _ (kp b o g)]
theorem sorted_setI {ks:List Int} {Q:Value→Shared→Prop} (hh:A.handled=none) (g:Good (intKind prog w) s.heap a ks (ledOf w)) (few:ks.length<64)
  (h:∀ (h':Heap) (d':Drawn) (tk:Nat) (D:Addr) (out:Array Value) (e:Nat),(∀ b o,s.heap.get? b=some o→h'.get? b=some o)→s.heap.objs.size≤D→h'.get? D=some (seqObj "list" out e)→IntsAre out.toList (L3.sortI ks)→Q (.ref D) { s with heap:=h',drawn:=d',toks:=tk }) :
  wpAny (model prog w) A (call (.builtin "sorted") [.ref a]) Q E s:=by
 obtain ⟨es,ep,t,g1,hT,hl,hv⟩:=g.keys
 refine sorted_set (Out:=fun out=>IntsAre out.toList (L3.sortI ks)) hh g1 hT (by rw [hl];exact few) (fun A' E' s' l vs n P hp ho q=>?_) h
 obtain ⟨qs,hk,hq⟩:=hv vs hp
 refine list_sort_tree ho (a4Y hk) (by rw [hp.length_eq,List.length_map,Array.length_toList,hl];exact few) fun out ns' h1 h2 h3=>q out ?_
 rw [←L3.sortI_eq (h2.trans hq) h3]
 exact h1
end
end L2.SX
namespace L2.L3
open PySem PySem.Spec PyProof.Rows
def b6n (X:Cx) (H0 G₀ G:Hp) (ρ:List Ent) (H:Hp) (Q:Option Int→Hp→Prop):Re (Option Int)→Prop
 | .ok b=>∀ G' H',Grow G H G' H'→Q b H'
 | .ex c=>jY X H0 G₀ G ρ c
def rO (X:Cx) (f:OF):TO:=fun σ H Q=>∃ ρ r H0 G₀ G,f ρ=some r∧RepS X.K H0 G₀ G H σ ρ∧b6n X H0 G₀ G ρ H Q r
structure DO (X:Cx) (e:Option Expr) (f:OF):Prop where
 run:PO X e (rO X f)
section
variable {X:Cx} {H0 G₀ G G1 H H1:Hp} {ρ:List Ent} {σ:St} {a b c d e:Expr} {lo hi:Option Expr} {pos p p2 pos2:Pos} {fa fb fc fd:EF} {fl fh:OF}
theorem bO {fa:OF} {β:Type} {k:Option Int→Mm β} {r:Re β} (R:RepS X.K H0 G₀ G H σ ρ) (e:bnd (fa ρ) k=some r) {T:Option Int→Hp→Prop} (hx:∀ c,r=.ex c→jY X H0 G₀ G ρ c)
  (h:∀ x G1 H1,Grow G H G1 H1→RepS X.K H0 G₀ G1 H1 σ ρ→k x=some r→T x H1):rO X fa σ H T:=by
 rcases dE e with ⟨x,e1,e2⟩ | ⟨c,e1,e2⟩
 ·exact ⟨ρ,_,H0,G₀,G,e1,R,fun G1 H1 g1=>h x G1 H1 g1 (R.more g1) e2⟩
 ·exact ⟨ρ,_,H0,G₀,G,e1,R,hx c e2⟩
theorem gD:DO X none gI:=⟨fun pins s σ H Q I ⟨ρ,r,H0,G₀,G,e,R,q⟩=>by
 cases (Option.some.inj e)
 exact a9n pins s σ H Q I (q G H (.refl R.sub))⟩
theorem eW (ha:DE X a fa):DO X (some a) (fM fa):=⟨fun pins s σ H Q I ⟨ρ,r,H0,G₀,G,e,R,q⟩=>by
 refine a9m ha.run pins s σ H Q I (bE R e (fun c z=>by subst z;exact q) fun x v G1 H1 g1 R1 rv e1=>?_)
 obtain ⟨k,ek,rfl⟩:=aX e1
 cases x<;>simp only [intD,Option.map] at ek<;>cases ek
 cases rv
 exact ⟨_,rfl,q G1 H1 g1⟩⟩
theorem nO (ha:DE X a fa) (hl:DO X lo fl) (hh:DO X hi fh):DE X (.Subscript a (.Slice lo hi none p2) pos) (slE fa fl fh):=⟨fun pins s σ H Q I ⟨ρ,r,H0,G₀,G,e,R,q⟩=>
 a0V (a3m.or a6m) ha.run hl.run hh.run pins s σ H Q I (bE R e q.x fun x v G1 H1 g1 R1 rv e1=>bO R1 e1 (q.more g1).x fun l G2 H2 g2 R2 e2=>bO R2 e2 ((q.more g1).more g2).x fun h G3 H3 g3 R3 e3=>by
  obtain ⟨d,ed,rfl⟩:=aX e3
  have g23:=g2.trans g3
  unfold slD at ed
  split at ed
  ·cases (Option.some.inj ed)
   cases rv with
   | list hq r=>
    refine .inl ⟨_,_,rfl,(g23.gg.trans g23.sub).seq hq,fun l hl=>q _ _ _ ((g1.trans g23).trans (.put g23.sub hl)) ?_⟩
    exact .list (.of aN) (pK (r.mono (g23.gg.trans (bC (g23.sub.free hl)))) _ _)
  ·split at ed
   ·cases ed
   ·rename_i hw
    cases (Option.some.inj ed)
    cases rv with
    | tuple hq r=>
     refine .inr ⟨_,_,rfl,iO (g23.gg.trans g23.sub) hq,by rw [r.length];exact hw,fun l hl=>q _ _ _ ((g1.trans g23).trans (.put g23.sub hl)) ?_⟩
     exact .tuple (.of aN) (pK (r.mono (g23.gg.trans (bC (g23.sub.free hl)))) _ _)
  ·cases ed)⟩
theorem Inv.draws {pins:List (Addr×Obj)} {s:Shared} {d':Drawn} (I:Inv X pins σ H s):Inv X pins σ H { s with drawn:=d' }:=⟨I.ok,I.os,I.bare,I.base,I.loc,I.cell,I.free,I.freeC,I.pin,I.hok,I.len⟩
def b3W (K:PySem.W.Frag) (t:TA):TE:=fun σ H Q=>t σ H fun xs H1=>(∃ a ns,xs=[.ref a]∧SqL K H1 a (ns.map V.int)∧ns.length<64∧∀ l,H1 l=none→Q (.ref l) (upd H1 l (.lst ((sortI (qT ns)).map V.int)))) ∨
 ∃ a ns,xs=[.ref a]∧SqL K H1 a (ns.map V.str)∧ns.length<64∧∀ l,H1 l=none→Q (.ref l) (upd H1 l (.lst ((jD (gA ns)).map V.str)))
theorem vF {α:Type} [DecidableEq α] (d:α) (ns:List α):SX.metK (fun i=>ns.getD i d) ns.length=ns.foldl SX.addK []:=by
 unfold SX.metK
 have:(List.range ns.length).map (fun i=>ns.getD i d)=ns:=by
  refine List.ext_getElem? fun i=>?_
  rw [List.getElem?_map]
  by_cases h:i<ns.length
  ·rw [List.getElem?_range h,List.getElem?_eq_getElem h];simp [h]
  ·rw [List.getElem?_eq_none (by simp;omega),List.getElem?_eq_none (by omega)];rfl
 rw [this]
theorem qR (ns:List Int):SX.metK (fun i=>ns.getD i 0) ns.length=qT ns:=vF 0 ns
theorem oF (ns:List Str):SX.metK (fun i=>ns.getD i "") ns.length=gA ns:=vF ("" : Str) ns
theorem a3M {vs:List Value} {ns:List Int} (h:IntsAre vs ns):∀ (i:Nat) (v:Value),vs[i]?=some v→∃ t:Tok,v=Value.int (ns.getD i 0) t:=by
 induction h with
 | nil=>intro i v e;simp at e
 | cons n t _ ih=>
  intro i v e
  cases i with
  | zero=>simp at e;exact ⟨t,by simp [←e]⟩
  | succ i=>simpa using ih i v (by simpa using e)
theorem a3l {vs:List Value} {ns:List Str} (h:StrsAre vs ns):∀ (i:Nat) (v:Value),vs[i]?=some v→∃ t:Tok,v=Value.str (ns.getD i "") t:=by
 induction h with
 | nil=>intro i v e;simp at e
 | cons n t _ ih=>
  intro i v e
  cases i with
  | zero=>simp at e;exact ⟨t,by simp [←e]⟩
  | succ i=>simpa using ih i v (by simpa using e)
theorem a2l {ns:List Str}:∀ {us:List Value},aY (ns.map V.str) us→StrsAre us ns:=by
 induction ns with
 | nil=>intro us r;cases r;exact .nil
 | cons n ns ih=>intro us r;cases r with | cons r1 r2=>obtain ⟨t,rfl⟩:=r1;exact .cons n t (ih r2)
theorem wH:∀ {vs:List Value} {ns:List Str},StrsAre vs ns→aY (ns.map V.str) vs
 | _,_,.nil=>.nil
 | _,_,.cons n t h=>.cons ⟨t,rfl⟩ (wH h)
theorem kU {K:PySem.W.Frag} {G:Hp}:∀ ns:List Str,RepAll K G (ns.map V.str) (ns.map .str)
 | []=>.nil
 | _::r=>.cons (.str _) (kU r)
theorem a0D {vs:List Value} {ns:List Str} (h:StrsAre vs ns):vs.length=ns.length:=by induction h<;>simp [*]
theorem lZ {a b c:Str} (h1:bP a b=true) (h2:bP b c=true):bP a c=true:=by
 unfold bP at *
 simp only [Bool.not_eq_true',decide_eq_false_iff_not,List.not_lt] at *
 exact List.le_trans h1 h2
theorem jJ (a b:Str):(bP a b || bP b a)=true:=by
 unfold bP
 simp only [Bool.or_eq_true,Bool.not_eq_true',decide_eq_false_iff_not,List.not_lt]
 exact List.le_total _ _
theorem uI {a b:Str} (h1:bP a b=true) (h2:bP b a=true):a=b:=by
 unfold bP at *
 simp only [Bool.not_eq_true',decide_eq_false_iff_not,List.not_lt] at *
 have e:=List.le_antisymm h1 h2
 cases a;cases b
 congr 1
 exact Array.toList_inj.mp e
theorem kK (ns:List Str):(jD ns).Perm ns:=List.mergeSort_perm _ _
theorem kJ (ns:List Str):(jD ns).Pairwise (fun a b=>bP a b=true):=List.pairwise_mergeSort (le:=bP) (fun a b c h1 h2=>lZ h1 h2) jJ ns
theorem wS:∀ (l:List Str) (p:Str),risingS p l=true→(p::l).Pairwise (fun a b=>bP a b=true)
 | [],p,_=>List.pairwise_singleton _ _
 | x::r,p,h=>by
  have h':(!ltCps x.cps.toList p.cps.toList&&risingS x r)=true:=h
  rw [Bool.and_eq_true] at h'
  have h1:bP p x=true:=by unfold bP;rw [←ltCps_eq];exact h'.1
  have ih:=wS r x h'.2
  refine List.pairwise_cons.mpr ⟨fun y hy=>?_,ih⟩
  rcases List.mem_cons.mp hy with z | z
  ·rw [z];exact h1
  ·exact lZ h1 ((List.pairwise_cons.mp ih).1 y z)
theorem a4v (l:List Str) (h:sortedS l=true):l.Pairwise (fun a b=>bP a b=true):=by
 cases l with
 | nil=>exact .nil
 | cons x r=>exact wS r x h
theorem nY:∀ {a b:List Str},a.Perm b→a.Pairwise (fun a b=>bP a b=true)→b.Pairwise (fun a b=>bP a b=true)→a=b
 | [],b,hp,_,_=>by rw [List.nil_perm.mp hp]
 | x::a,b,hp,ha,hb=>by
  match b,hp,hb with
  | [],hp,_=>exact absurd hp.length_eq (by simp)
  | y::b,hp,hb=>
   have h1:=List.pairwise_cons.mp ha
   have h2:=List.pairwise_cons.mp hb
   have e:x=y:=by
    rcases List.mem_cons.mp (hp.mem_iff.mp (List.mem_cons_self (a:=x) (l:=a))) with z | z
    ·exact z
    ·rcases List.mem_cons.mp (hp.mem_iff.mpr (List.mem_cons_self (a:=y) (l:=b))) with q | q
     ·exact q.symm
     ·exact uI (h1.1 y q) (h2.1 x z)
   subst e
   rw [nY (List.Perm.cons_inv hp) h1.2 h2.2]
theorem a6k {ns ms:List Str} (hp:ms.Perm ns) (hs:sortedS ms=true):ms=jD ns:=nY (hp.trans (kK ns).symm) (a4v ms hs) (kJ ns)
theorem a0H {prog:Program} {w:World} {A:Around} {E:Value→Shared→Prop} {s:Shared} {a:Addr} {ks:List Str} {Q:Value→Shared→Prop} (hh:A.handled=none) (g:SX.Good (PySem.strKind prog w) s.heap a ks (SX.ledOf w)) (few:ks.length<64)
  (h:∀ (h':Heap) (d':Drawn) (tk:Nat) (D:Addr) (out:Array Value) (e:Nat),(∀ b o,s.heap.get? b=some o→h'.get? b=some o)→s.heap.objs.size≤D→h'.get? D=some (seqObj "list" out e)→StrsAre out.toList (jD ks)→Q (.ref D) { s with heap:=h',drawn:=d',toks:=tk }) :
  wpAny (model prog w) A (call (.builtin "sorted") [.ref a]) Q E s:=by
 obtain ⟨es,ep,t,g1,hT,hl,hv⟩:=g.keys
 refine SX.sorted_set (Out:=fun out=>StrsAre out.toList (jD ks)) hh g1 hT (by rw [hl];exact few) (fun A' E' s' l vs n P hp ho q=>?_) h
 obtain ⟨qs,hk,hq⟩:=hv vs hp
 have hS:=SX.keys_strs hk
 refine list_sort_treeK strKind_oneLt ho hS.keysOf (fun v₁ v₂ rest e=>keyKind_strs (by rw [←e];exact hS)) (by rw [hp.length_eq,List.length_map,Array.length_toList,hl];exact few) fun st' hp' hs'=>q _ ?_
 obtain ⟨ss',h1,h2,h3⟩:=sorted_out_str hS hp' hs'
 rw [←a6k (h2.trans hq) h3]
 exact h1
theorem a9t {t:TA} (hc:X.calm=true) (h1:Gl X "sorted") (m1:X.mg "sorted" = none) (h2:Gl X "set") (m2:X.mg "set" = none) (b2:bootBuiltins "set" = some (.type "set")) (ha:PA X [e] t) (he:starEach [e] X.env=(false,eval e X.env)::starEach [] X.env)
  (he2:starEach [.Call (.Name "set" p2) [e] [] pos2] X.env=(false,eval (.Call (.Name "set" p2) [e] [] pos2) X.env)::starEach [] X.env) (hpl:∀ q,(backTo q (starEach [] X.env)).any (·.1)=false) (hn:∀ q,backTo q (starEach [] X.env)=[]) :
  PE X (.Call (.Name "sorted" p) [.Call (.Name "set" p2) [e] [] pos2] [] pos) (b3W X.K t):=by
 intro pins s σ H Q I h
 refine wpAny_Call_Name_kw (hZ I h1 m1 boot_sorted ?_)
 refine callWith_builtin1 ?_ he2 (hpl _)
 rw [he2]
 show wpAny _ _ (spliced ((false,eval (.Call (.Name "set" p2) [e] [] pos2) X.env)::backTo pos (starEach [] X.env))) _ _ s
 rw [hn]
 refine Calls.spliced_cons (wpAny_Call_Name_kw (hZ I h2 m2 b2 ?_))
 refine callWith_type1 (thn (ha pos2 pins s σ H _ I h) fun us s1 ⟨vs,H1,I1,r1,qq⟩=>?_) he (hpl _)
 rcases qq with ⟨a,ns,e1,hq,h64,q⟩ | ⟨a,ns,e1,hq,h64,q⟩
 ·subst e1
  obtain ⟨u,rfl,rx⟩:=vals1 r1
  cases rx
  obtain ⟨its,rv,pl,hz⟩:=I1.list hq
  have hi:=intsAre_of rv
  have hd:=I1.ok.hd hc
  have hl:its.length=ns.length:=hi.length
  refine SX.set_of (knd:=intKind X.prog X.w) (val:=fun i=>ns.getD i 0) hd pl.isList (fun i v e=>?_) (fun i v A' E' s' Q' e q'=>?_) ?_ fun h' tk g kp=>?_
  ·obtain ⟨t,rfl⟩:=a3M hi i v (by simpa using e)
   exact ⟨by simp [intKind,Value.isInt],rfl⟩
  ·obtain ⟨t,rfl⟩:=a3M hi i v (by simpa using e)
   exact (intKind X.prog X.w).pyHash (k:=ns.getD i 0) (by simp [intKind,Value.isInt]) q'
  ·have hsz:its.toArray.size=ns.length:=by rw [List.size_toArray,hl]
   rw [hsz];exact Nat.lt_of_le_of_lt h64 (by decide)
  ·have hsz:its.toArray.size=ns.length:=by rw [List.size_toArray,hl]
   rw [hsz,qR] at g
   refine Calls.spliced_nil (SX.sorted_setI hd g ?_ fun h2 d2 tk2 D out ep k2 hs2 ho hout=>?_)
   ·rw [←qR];exact Nat.lt_of_le_of_lt (SX.metK_len _ _) h64
   ·have kk:∀ b o,s1.heap.get? b=some o→h2.get? b=some o:=fun b o z=>k2 b o (kp b o (Heap.lt_size z) z)
    obtain ⟨so,_,_,_,hso,_⟩:=g.ex
    have lt:s1.heap.objs.size≤D:=Nat.le_trans (Nat.le_of_lt (Heap.lt_size hso)) hs2
    have hf:H1 D=none:=I1.hok.fresh lt
    refine ⟨.ref D,_,Inv.draws (I1.laid (t':=tk2) (a:=D) (o:=.lst ((sortI (qT ns)).map V.int)) kk lt ⟨?_,out.toList,ep,kA hout,?_⟩),rfl,q _ hf⟩
    ·rw [List.length_map,(sortI_perm _).length_eq,←qR]
     exact Nat.le_trans (SX.metK_len _ _) (Nat.le_of_lt (fX (by omega)))
    ·rw [ho]
 ·subst e1
  obtain ⟨u,rfl,rx⟩:=vals1 r1
  cases rx
  obtain ⟨its,rv,pl,hz⟩:=I1.list hq
  have hi:=a2l rv
  have hd:=I1.ok.hd hc
  have hl:its.length=ns.length:=a0D hi
  refine SX.set_of (knd:=PySem.strKind X.prog X.w) (val:=fun i=>ns.getD i "") hd pl.isList (fun i v e=>?_) (fun i v A' E' s' Q' e q'=>?_) ?_ fun h' tk g kp=>?_
  ·obtain ⟨t,rfl⟩:=a3l hi i v (by simpa using e)
   exact ⟨by simp [PySem.strKind,Value.isStrOf],rfl⟩
  ·obtain ⟨t,rfl⟩:=a3l hi i v (by simpa using e)
   exact (PySem.strKind X.prog X.w).pyHash (k:=ns.getD i "") (by simp [PySem.strKind,Value.isStrOf]) q'
  ·have hsz:its.toArray.size=ns.length:=by rw [List.size_toArray,hl]
   rw [hsz];exact Nat.lt_of_le_of_lt h64 (by decide)
  ·have hsz:its.toArray.size=ns.length:=by rw [List.size_toArray,hl]
   rw [hsz,oF] at g
   refine Calls.spliced_nil (a0H hd g ?_ fun h2 d2 tk2 D out ep k2 hs2 ho hout=>?_)
   ·rw [←oF];exact Nat.lt_of_le_of_lt (SX.metK_len _ _) h64
   ·have kk:∀ b o,s1.heap.get? b=some o→h2.get? b=some o:=fun b o z=>k2 b o (kp b o (Heap.lt_size z) z)
    obtain ⟨so,_,_,_,hso,_⟩:=g.ex
    have lt:s1.heap.objs.size≤D:=Nat.le_trans (Nat.le_of_lt (Heap.lt_size hso)) hs2
    have hf:H1 D=none:=I1.hok.fresh lt
    refine ⟨.ref D,_,Inv.draws (I1.laid (t':=tk2) (a:=D) (o:=.lst ((jD (gA ns)).map V.str)) kk lt ⟨?_,out.toList,ep,wH hout,?_⟩),rfl,q _ hf⟩
    ·rw [List.length_map,(kK _).length_eq,←oF]
     exact Nat.le_trans (SX.metK_len _ _) (Nat.le_of_lt (fX (by omega)))
    ·rw [ho]
theorem b0v (hc:X.calm=true) (m1:X.mg "sorted" = none) (m2:X.mg "set" = none) (ha:DE X e fa) (h1:Gl X "sorted":=by rfl) (h2:Gl X "set":=by rfl) (he:starEach [e] X.env=(false,eval e X.env)::starEach [] X.env:=by rfl)
  (he2:starEach [.Call (.Name "set" p2) [e] [] pos2] X.env=(false,eval (.Call (.Name "set" p2) [e] [] pos2) X.env)::starEach [] X.env:=by rfl):DE X (.Call (.Name "sorted" p) [.Call (.Name "set" p2) [e] [] pos2] [] pos) (op1 rC fa):=
 ⟨fun pins s σ H Q I ⟨ρ,r,H0,G₀,G,ef,R,q⟩=>a9t hc h1 m1 h2 m2 boot_set (dY ha.run iR he) he he2 (fun _=>rfl) (fun _=>rfl) pins s σ H Q I (bE R ef q.x fun x v G1 H1 g1 R1 rv e1=>by
  obtain ⟨d,ed,rfl⟩:=aX e1
  unfold rC at ed
  split at ed
  ·split at ed
   ·rename_i xs ns e2
    split at ed
    ·rename_i h64
     cases (Option.some.inj ed)
     have:=dG (g:=.int) (fun d a q=>lA q) e2
     subst this
     cases rv with
     | list hq r=>
      have e3:=r.ints
      subst e3
      refine .inl ⟨_,ns,rfl,g1.sub.seq hq,h64,fun l hl=>q _ _ _ (g1.trans (.put g1.sub hl)) (.list (.of aN) (eP _))⟩
    ·cases ed
   ·split at ed
    ·rename_i xs _ ns e2
     split at ed
     ·rename_i h64
      cases (Option.some.inj ed)
      have:=dG (g:=.str) (fun d a q=>sK q) e2
      subst this
      cases rv with
      | list hq r=>
       have e3:=r.strs
       subst e3
       refine .inr ⟨_,ns,rfl,g1.sub.seq hq,h64,fun l hl=>q _ _ _ (g1.trans (.put g1.sub hl)) (.list (.of aN) (kU _))⟩
     ·cases ed
    ·cases ed
  ·cases ed)⟩
end
theorem a7z {K:PySem.W.Frag} {T:String} {x:PyData} {t:Bool} (h:b0d T x=some t):PySem.W.kitOne K (.type (tyD x)) (.type T)=some t:=by
 unfold b0d at h
 by_cases c:T = "int"
 ·rw [if_pos c] at h;subst c;cases x<;>first | (cases h;rfl) | cases h
 rw [if_neg c] at h
 by_cases c:T = "bool"
 ·rw [if_pos c] at h;subst c;cases x<;>first | (cases h;rfl) | cases h
 rw [if_neg c] at h
 by_cases c:T = "str"
 ·rw [if_pos c] at h;subst c;cases x<;>first | (cases h;rfl) | cases h
 rw [if_neg c] at h
 by_cases c:T = "tuple"
 ·rw [if_pos c] at h;subst c;cases x<;>first | (cases h;rfl) | cases h
 rw [if_neg c] at h;cases h
def b4H:PyData→Option (List PyData)
 | .str z=>some ((lettersOf z).map .str)
 | _=>none
def b4G (fa:EF):AF:=fun ρ=>bnd (fa ρ) fun x=>lft (b4H x)
def b4i (ds:List PyData) (y:PyData):Option PyData:=match y with
 | .int k=>if cG ds.length&&jK k&&cG (ds.length*k.toNat) then some (.list (List.replicate k.toNat ds).flatten) else none
 | _=>none
def yY (fa:AF) (fb:EF):EF:=fun ρ=>bnd (fa ρ) fun ds=>if cG ds.length then bnd (fb ρ) fun y=>lft (b4i ds y) else none
section
variable {X:Cx} {H0 G₀ G G1 H H1:Hp} {ρ:List Ent} {σ:St} {a b c d e iter:Expr} {es:List Expr} {pos p p2 pos2 px:Pos} {x:Str} {fa fb fc fd:EF}
theorem eF {T:String} (hm:X.mg "isinstance" = none) (hx:X.mg x=none) (hv:bootBuiltins x=some (.type T)) (ha:DE X a fa) (hn:x ≠ "__name__":=by decide) (hdb:(x==("__debug__" : Str))=false:=by decide)
  (he:starEach [a,.Name x p2] X.env=(false,eval a X.env)::starEach [.Name x p2] X.env:=by rfl) (he2:starEach [.Name x p2] X.env=(false,eval (.Name x p2) X.env)::starEach [] X.env:=by rfl)
  (hpl:(backTo pos (starEach [.Name x p2] X.env)).any (·.1)=false:=by rfl) (hg:Gl X "isinstance":=by rfl) (hgx:Gl X x:=by rfl):DE X (.Call (.Name "isinstance" p) [a,.Name x p2] [] pos) (op1 (isD T) fa):=by
 have hc:eM X (.builtin "isinstance") (fun xs H Q=>∃ v d t,xs=[v,.ty T]∧Rep X.K H v d∧b0d T d=some t∧Q (.bl t) H):=by
  intro pins s σ H xs us Q I r ⟨v,d,t,e1,rv,ht,q⟩
  subst e1
  obtain ⟨u,w',rfl,r1,r2⟩:=vals2 r
  cases r2
  exact a7y I rv r1 (a7z ht) fun tk=>⟨.bl t,H,I.tok tk,rfl,q⟩
 exact ⟨fun pins s σ H Q I ⟨ρ,r,H0,G₀,G,e,R,q⟩=>oS hc hg hm boot_isinstance (dY ha.run (dY (a3y (v:=.ty T) hgx hx hv rfl hn hdb) iR he2) he) (by decide) (by decide) he hpl pins s σ H Q I (bE R e q.x fun x v G1 H1 g1 R1 rv e1=>by
  obtain ⟨d,ed,rfl⟩:=aX e1
  obtain ⟨t,et,rfl⟩:=Option.map_eq_some_iff.mp ed
  exact ⟨v,x,t,rfl,rv.mono g1.sub,et,q _ _ _ g1 (.bool t)⟩)⟩
theorem a0S {K:PySem.W.Frag} {vs:List V} {ds:List PyData} (r:RepAll K G vs ds):∀ k:Nat,RepAll K G (List.replicate k vs).flatten (List.replicate k ds).flatten
 | 0=>.nil
 | k+1=>by rw [List.replicate_succ,List.replicate_succ,List.flatten_cons,List.flatten_cons];exact r.append (a0S r k)
theorem vG {f:AF} (ha:DA X es f) (hb:DE X b fb):DE X (.BinOp (.List es p) .Mult b pos) (yY f fb):=⟨fun pins s σ H Q I ⟨ρ,r,H0,G₀,G,e,R,q⟩=>b0Y b2l (a2z ha.run) hb.run pins s σ H Q I (bA R e q.x fun ds vs G1 H1 g1 R1 rv e1=>by
 split at e1
 ·rename_i hz
  refine ⟨by rw [rv.length];exact eS hz,fun l hl=>?_⟩
  have g1':=g1.trans (.put (o:=.lst vs) g1.sub hl)
  exact bE (R.more g1') e1 (q.more g1').x fun y u G2 H2 g2 R2 ru e2=>by
   obtain ⟨d,ed,rfl⟩:=aX e2
   unfold b4i at ed
   split at ed
   ·split at ed
    ·rename_i hk
     simp only [Bool.and_eq_true] at hk
     have hr:=fO hk.1.2
     cases (Option.some.inj ed)
     cases ru
     refine ⟨l,_,vs,rfl,rfl,g2.hh.lst aN,by omega,by omega,by rw [rv.length];exact eS hk.2,fun l2 hl2=>q _ _ _ ((g1'.trans g2).trans (.put g2.sub hl2)) (.list (.of aN) (a0S (rv.mono (((bC (g1.sub.free hl)).trans g2.gg).trans (bC (g2.sub.free hl2)))) _))⟩
    ·cases ed
   ·cases ed
 ·cases e1)⟩
theorem b2I (hc:X.calm=true) (h:DE X iter fa):DI X (.Name x px) iter (b4G fa):=⟨fun pins s σ H R I ⟨ρ,r,H0,G₀,G,e,S,q⟩=>by
 rcases dE e with ⟨x,e1,e2⟩ | ⟨c,e1,e2⟩
 ·obtain ⟨ds,e3,rfl⟩:=aX e2
  cases x<;>simp only [b4H] at e3<;>cases e3
  exact (a9p (h.pd e1) hc).run pins s σ H R I ⟨H0,G₀,G,S,q⟩
 ·subst e2
  exact yZ h.run pins s σ H R I ⟨ρ,_,H0,G₀,G,e1,S,q⟩⟩
end
def anyB (ds:List PyData):Option PyData:=match ds with
 | [.list xs]=>(eL kG xs).map fun ns=>.bool (ns.any id)
 | _=>none
theorem range_any (bs:List Bool):(List.range bs.length).any (fun i=>bs.getD i false)=bs.any id:=by
 have:(List.range bs.length).map (fun i=>bs.getD i false)=bs:=by
  refine List.ext_getElem? fun i=>?_
  rw [List.getElem?_map]
  by_cases h:i<bs.length
  ·rw [List.getElem?_range h,List.getElem?_eq_getElem h];simp [h]
  ·rw [List.getElem?_eq_none (by simp;omega),List.getElem?_eq_none (by omega)];rfl
 conv=>rhs;rw [←this]
 rw [List.any_map];rfl
section
variable {X:Cx} {H0 G₀ G G1 H H1:Hp} {ρ:List Ent} {σ:St} {a b c d e iter:Expr} {es:List Expr} {pos p p2 pos2 px:Pos} {x:Str} {fa fb fc fd:EF}
theorem a5B (hc:X.calm=true):eM X (.builtin "any") (fun xs H Q=>∃ (p:Addr) (bs:List Bool),xs=[.ref p]∧SqL X.K H p (bs.map V.bl)∧Q (.bl (bs.any id)) H):=by
 intro pins s σ H xs us Q I r ⟨p,bs,e,hq,q⟩
 subst e
 obtain ⟨u,rfl,rx⟩:=vals1 r
 cases rx
 obtain ⟨its,rv,pl,hz⟩:=I.list hq
 have ev:=yJ rv
 subst ev
 have hl:=pl.isList
 have lt:p<s.heap.objs.size:=by obtain ⟨o,g,_⟩:=hl;exact Heap.lt_size g
 refine call_any_walk (wpAny_pyIter_list hl ?_)
 refine ⟨s.heap.objs.size,_,_,_,_,_,fun i=>bs.getD i false,rfl,Walks.list (A:=X.A.in1) (I.ok.hd hc) _ p (Nat.ne_of_lt lt) (bs.map Value.bool).toArray,⟨⟨_,Heap.get?_push_size _ rfl,rfl,rfl⟩,hl.push _⟩,fun i v s' Q' E' hP hQ=>?_,fun h' tk kp=>?_⟩
 ·have hP:(bs.map Value.bool).toArray[i]?=some v:=hP
  rw [List.getElem?_toArray,List.getElem?_map] at hP
  cases eb:bs[i]? with
  | none=>rw [eb] at hP;cases hP
  | some b=>
   rw [eb] at hP
   cases hP
   refine wpAny_truthy_bool ?_
   have:bs.getD i false=b:=by rw [List.getD,eb];rfl
   rw [←this]
   exact hQ
 ·have sz:(bs.map Value.bool).toArray.size=bs.length:=by simp
  rw [sz,range_any]
  refine ⟨.bl _,H,I.kept (fun b o g=>kp b o ?_ (Heap.get?_push_of_some _ g)),rfl,q⟩
  intro hb
  have z:b=s.heap.objs.size:=by simpa using hb
  exact absurd (Heap.lt_size g) (by rw [z];exact Nat.lt_irrefl _)
theorem b3J (hc:X.calm=true) (ds:List PyData) (d:PyData) (h:anyB ds=some d):CallD X (.builtin "any") ds d:=by
 unfold anyB at h;split at h
 ·obtain ⟨ns,e,rfl⟩:=Option.map_eq_some_iff.mp h
  have:=dG (g:=.bool) (fun d a q=>pR q) e
  subst this
  exact ⟨_,a5B hc,fun vs G H Q s r q=>by
   cases r with | cons r rr=>cases rr;cases r with | list hq r=>
    have e:=r.bools
    subst e
    exact ⟨_,ns,rfl,s.seq hq,q _ G H (.refl s) (.bool _)⟩⟩
 ·cases h
def a3N (x:PyData) (ds:List PyData):Option Bool:=if SeqAt.shaped x&&ds.all SeqAt.shaped then some (ds.any fun d=>PyData.eqv d x) else none
def inX (x y:PyData):Option Bool:=match x with
 | .tuple _=>(match oN y with | some ds=>a3N x ds | none=>none)
 | .list _=>(match oN y with | some ds=>a3N x ds | none=>none)
 | _=>inD x y
def b2x (x y:PyData):Option Bool:=(inX x y).map (!·)
def b4m (K:PySem.W.Frag) (neg:Bool) (dx:PyData) (ds:List PyData):R2:=fun x y H Q=>∃ p xs,y=.ref p∧(SqL K H p xs∨SqT K H p xs)∧Rep K H x dx∧RepAll K H xs ds∧SeqAt.shaped dx=true∧ds.all SeqAt.shaped=true∧Q (.bl (if neg then !(ds.any fun d=>PyData.eqv d dx) else ds.any fun d=>PyData.eqv d dx)) H
open Classical in
theorem uT {pins:List (Addr×Obj)} {s:Shared} {A:Around} (I:Inv X pins σ H s) (hu:A.units+64<cLine) {v:Value} {dx:PyData} {bs:List Addr} (rx:Reads s.heap v dx bs) (hx:SeqAt.shaped dx=true) :
  ∀ {xs:List V} {ds:List PyData} {us:List Value},RepAll X.K H xs ds→aY xs us→ds.all SeqAt.shaped=true →
   (∀ u∈us,SeqAt.EqAt A s u v (decide (∃ d as,Reads s.heap u d as∧SeqAt.shaped d=true∧PyData.eqv d dx=true)))∧us.any (fun u=>decide (∃ d as,Reads s.heap u d as∧SeqAt.shaped d=true∧PyData.eqv d dx=true))=ds.any fun d=>PyData.eqv d dx
 | _,_,_,.nil,.nil,_=>⟨(fun u hm=>by cases hm),rfl⟩
 | _,_,_,.cons (d:=d) r rr,.cons t tt,hs=>by
  rw [List.all_cons,Bool.and_eq_true] at hs
  obtain ⟨h1,h2⟩:=uT I hu rx hx rr tt hs.2
  obtain ⟨as,ra⟩:=r.reads I t
  have key0:∀ u,Reads s.heap u d as→decide (∃ d as,Reads s.heap u d as∧SeqAt.shaped d=true∧PyData.eqv d dx=true)=PyData.eqv d dx:=by
   intro u ra
   cases e:PyData.eqv d dx with
   | true=>exact decide_eq_true ⟨d,as,ra,hs.1,e⟩
   | false=>
    refine decide_eq_false fun ⟨d',as',r',s',e'⟩=>?_
    rw [SeqAt.Reads.unique d d' _ _ _ (SeqAt.canLay_of_shaped hs.1) ra r'] at e
    rw [e] at e';cases e'
  have key:=key0 _ ra
  refine ⟨fun u hu'=>?_,by rw [List.any_cons,List.any_cons,key,h2]⟩
  rcases List.mem_cons.mp hu' with z | z
  ·subst z
   rw [key]
   exact SeqAt.eqAt_reads d dx A s _ v as bs ra rx (SeqAt.canLay_of_shaped hs.1) (SeqAt.canLay_of_shaped hx) (SeqAt.room_of_shaped hs.1 hu)
  ·exact h1 u z
open Classical in
theorem b2q (hu:X.A.in1.units+64<cLine) (dx:PyData) (ds:List PyData):OpR X (compareOp .In) (b4m X.K false dx ds):=by
 intro pins s σ H x y v u Q I rx ry h
 obtain ⟨p,xs,rfl,hq,r1,r2,h1,h2,q⟩:=h
 cases ry
 obtain ⟨bs,rb⟩:=r1.reads I rx
 rcases hq with hq | hq
 ·obtain ⟨its,r,pl,hz⟩:=I.list hq
  obtain ⟨e1,e2⟩:=uT (A:=X.A.in1) I hu rb h1 r2 r h2
  refine SeqAt.in_listAt _ pl.isList (fun w hw=>e1 w (by simpa using hw)) ⟨.bl _,H,I,rfl,?_⟩
  rw [←Array.any_toList,e2]
  exact q
 ·obtain ⟨its,r,pl,hz⟩:=I.tuple hq
  obtain ⟨e1,e2⟩:=uT (A:=X.A.in1) I hu rb h1 r2 r h2
  refine SeqAt.in_tupleAt _ pl (fun w hw=>e1 w (by simpa using hw)) ⟨.bl _,H,I,rfl,?_⟩
  rw [←Array.any_toList,e2]
  exact q
open Classical in
theorem a9z (hu:X.A.in1.units+64<cLine) (dx:PyData) (ds:List PyData):OpR X (compareOp .NotIn) (b4m X.K true dx ds):=by
 intro pins s σ H x y v u Q I rx ry h
 obtain ⟨p,xs,rfl,hq,r1,r2,h1,h2,q⟩:=h
 cases ry
 obtain ⟨bs,rb⟩:=r1.reads I rx
 rcases hq with hq | hq
 ·obtain ⟨its,r,pl,hz⟩:=I.list hq
  obtain ⟨e1,e2⟩:=uT (A:=X.A.in1) I hu rb h1 r2 r h2
  refine SeqAt.notIn_listAt _ pl.isList (fun w hw=>e1 w (by simpa using hw)) ⟨.bl _,H,I,rfl,?_⟩
  rw [←Array.any_toList,e2]
  exact q
 ·obtain ⟨its,r,pl,hz⟩:=I.tuple hq
  obtain ⟨e1,e2⟩:=uT (A:=X.A.in1) I hu rb h1 r2 r h2
  refine SeqAt.notIn_tupleAt _ pl (fun w hw=>e1 w (by simpa using hw)) ⟨.bl _,H,I,rfl,?_⟩
  rw [←Array.any_toList,e2]
  exact q
theorem a1t {hu:X.A.in1.units+64<cLine} {x y:PyData} {ds:List PyData} {t:Bool} (e:oN y=some ds) (h:a3N x ds=some t):CmpD X .In x y t∧CmpD X .NotIn x y (!t):=by
 unfold a3N at h
 split at h
 ·rename_i hz
  rw [Bool.and_eq_true] at hz
  cases (Option.some.inj h)
  refine ⟨⟨_,b2q hu x ds,fun v u G H Q s rv ru q=>?_⟩,⟨_,a9z hu x ds,fun v u G H Q s rv ru q=>?_⟩⟩
  ·obtain ⟨p,vs,rfl,hq,r⟩:=kM s e ru
   exact ⟨p,vs,rfl,hq,rv.mono s,r.mono s,hz.1,hz.2,q⟩
  ·obtain ⟨p,vs,rfl,hq,r⟩:=kM s e ru
   exact ⟨p,vs,rfl,hq,rv.mono s,r.mono s,hz.1,hz.2,q⟩
 ·cases h
theorem a9J (hu:X.A.in1.units+64<cLine) (x y:PyData) (t:Bool) (h:b2x x y=some t):CmpD X .NotIn x y t:=by
 unfold b2x at h
 obtain ⟨t',hq,rfl⟩:=Option.map_eq_some_iff.mp h
 unfold inX at hq
 split at hq
 ·split at hq
  ·rename_i ds e;exact (a1t (hu:=hu) e hq).2
  ·cases hq
 ·split at hq
  ·rename_i ds e;exact (a1t (hu:=hu) e hq).2
  ·cases hq
 ·exact b2w x y _ (by unfold b2y;rw [hq];rfl)
end
theorem _root_.L2.Room.units1 {k:Nat} {A:Around} (r:Room k A):A.in1.units+64<cLine:=by
 have:=r.un
 show A.units+1+64<cLine
 omega
theorem a1Z {lo:Int} {n:Nat} {acc:Array Value} (h:ItemsOf (fun i v=>∃ t,v=.int (lo+i*1) t) acc n):aY (((List.range n).map fun (k:Nat)=>lo+(k:Int)).map V.int) acc.toList:=by
 have key:∀ (m:Nat) (l:List Value) (o:Nat),l.length=m→(∀ (i:Nat) (v:Value),l[i]?=some v→∃ t:Tok,v=Value.int (lo+((o+i:Nat):Int)*1) t)→aY (((List.range' o m).map fun (k:Nat)=>lo+(k:Int)).map V.int) l:=by
  intro m
  induction m with
  | zero=>intro l o hl _;rw [List.length_eq_zero_iff.mp hl];exact .nil
  | succ m ih=>
   intro l o hl hv
   match l,hl with
   | v::l,hl=>
    rw [List.range'_succ]
    obtain ⟨t,e⟩:=hv 0 v rfl
    refine .cons ⟨t,?_⟩ (ih l (o+1) (by simpa using hl) fun i u hu=>?_)
    ·rw [e];simp
    ·obtain ⟨t',e'⟩:=hv (i+1) u (by simpa using hu)
     exact ⟨t',by rw [e',show o+(i+1)=o+1+i by omega]⟩
 have:=key n acc.toList 0 (by rw [Array.length_toList];exact h.1) fun i v e=>by
  rw [Array.getElem?_toList] at e
  simpa using h.2 i v e
 rw [List.range_eq_range']
 exact this
section
variable {X:Cx} {H0 G₀ G G1 H H1:Hp} {ρ:List Ent} {σ:St} {a b c d e iter:Expr} {es:List Expr} {pos p p2 pos2 px:Pos} {x:Str} {fa fb fc fd:EF}
def a6t (lo:Int) (n:Nat):List V:=((List.range n).map fun (k:Nat)=>lo+(k:Int)).map V.int
theorem a6s {K:PySem.W.Frag} {G:Hp} (lo:Int) (n:Nat):RepAll K G (a6t lo n) (eI lo n):=by
 have:=eP (K:=K) (G:=G) ((List.range n).map fun (k:Nat)=>lo+(k:Int))
 unfold a6t eI
 rw [List.map_map (g:=PyData.int)] at this
 exact this
def b4b (t:TA):TE:=fun σ H Q=>t σ H fun xs H1=>∃ m n:Int,(xs=[.int m,.int n])∧jK m=true∧jK n=true∧cG (n - m).toNat=true∧∀ l,H1 l=none→Q (.ref l) (upd H1 l (.lst (a6t m (n - m).toNat)))
theorem a6J {t:TA} (hc:X.calm=true) (h1:Gl X "list") (m1:X.mg "list" = none) (h2:Gl X "range") (m2:X.mg "range" = none) (ha:PA X [a,b] t) (he:starEach [a,b] X.env=(false,eval a X.env)::starEach [b] X.env)
  (hpl1:∀ q,(backTo q (starEach [b] X.env)).any (·.1)=false) (he2:starEach [.Call (.Name "range" p2) [a,b] [] pos2] X.env=(false,eval (.Call (.Name "range" p2) [a,b] [] pos2) X.env)::starEach [] X.env) (hpl:∀ q,(backTo q (starEach [] X.env)).any (·.1)=false) (hn:∀ q,backTo q (starEach [] X.env)=[]) :
  PE X (.Call (.Name "list" p) [.Call (.Name "range" p2) [a,b] [] pos2] [] pos) (b4b t):=by
 intro pins s σ H Q I h
 refine wpAny_Call_Name_kw (hZ I h1 m1 boot_list ?_)
 refine callWith_type1 ?_ he2 (hpl _)
 rw [he2]
 show wpAny _ _ (spliced ((false,eval (.Call (.Name "range" p2) [a,b] [] pos2) X.env)::backTo pos (starEach [] X.env))) _ _ s
 rw [hn]
 refine Calls.spliced_cons (wpAny_Call_Name_kw (hZ I h2 m2 boot_range ?_))
 refine callWith_type1 (thn (ha pos2 pins s σ H _ I h) fun us s1 ⟨vs,H1,I1,r1,m,n,e1,q1,q2,q3,q⟩=>?_) he (hpl1 _)
 subst e1
 obtain ⟨u,u',rfl,ru,ru'⟩:=vals2 r1
 obtain ⟨t,rfl⟩:=ru
 obtain ⟨t',rfl⟩:=ru'
 have b1:=fO q1
 have b2:=fO q2
 have hz:=of_decide_eq_true q3
 refine call_range_2 ?_
 refine Calls.spliced_nil (call_list_range (n:=(n - m).toNat) (I1.ok.hd hc) (IsRange.new ..) (small_one b1.1 b1.2 b2.1 b2.2) (by rw [rangeSize_one];split<;>omega) (Nat.le_trans hz (by decide)) fun h' tk acc c' kp ho hi=>?_)
 have sz:(s1.heap.push { cls:=.type "range", data:=.fields #[.int m t,.int n t',.int 1 s1.toks] }).objs.size=s1.heap.objs.size+1:=Heap.size_push ..
 have lt:s1.heap.objs.size≤(s1.heap.push { cls:=.type "range", data:=.fields #[.int m t,.int n t',.int 1 s1.toks] }).objs.size:=by rw [sz];exact Nat.le_succ _
 have hf:=I1.hok.fresh lt
 refine ⟨.ref _,_,I1.laid (t':=tk) (o:=.lst (a6t m (n - m).toNat)) (fun b o e=>kp b o (Heap.get?_push_of_some _ e)) lt ⟨?_,acc.toList,c',a1Z hi,?_⟩,rfl,q _ hf⟩
 ·unfold a6t;rw [List.length_map,List.length_map,List.length_range];exact eS q3
 ·rw [ho]
theorem a8p (m1:X.mg "list" = none) (m2:X.mg "range" = none) (ha:DE X a fa) (hb:DE X b fb) (hc:X.calm=true:=by rfl) (h1:Gl X "list":=by rfl) (h2:Gl X "range":=by rfl) (he:starEach [a,b] X.env=(false,eval a X.env)::starEach [b] X.env:=by rfl) (heb:starEach [b] X.env=(false,eval b X.env)::starEach [] X.env:=by rfl)
  (hpl1:∀ q,(backTo q (starEach [b] X.env)).any (·.1)=false:=by exact fun _=>rfl) (he2:starEach [.Call (.Name "range" p2) [a,b] [] pos2] X.env=(false,eval (.Call (.Name "range" p2) [a,b] [] pos2) X.env)::starEach [] X.env:=by rfl) :
  DE X (.Call (.Name "list" p) [.Call (.Name "range" p2) [a,b] [] pos2] [] pos) (a1d fa fb):=
 ⟨fun pins s σ H Q I ⟨ρ,r,H0,G₀,G,ef,R,q⟩=>by
  unfold a1d at ef
  split at ef
  ·rename_i m n ea eb
   split at ef
   ·rename_i hz
    simp only [Bool.and_eq_true] at hz
    cases (Option.some.inj ef)
    refine a6J hc h1 m1 h2 m2 (dY ha.run (dY hb.run iR heb) he) he hpl1 he2 (fun _=>rfl) (fun _=>rfl) pins s σ H Q I ⟨ρ,_,H0,G₀,G,ea,R,fun v G1 H1 g1 rv=>⟨ρ,_,H0,G₀,G1,eb,R.more g1,fun v2 G2 H2 g2 rv2=>?_⟩⟩
    cases rv
    cases rv2
    exact ⟨m,n,rfl,hz.1.1,hz.1.2,hz.2,fun l hl=>q _ _ _ ((g1.trans g2).trans (.put g2.sub hl)) (.list (.of aN) (a6s _ _))⟩
   ·cases ef
  ·cases ef⟩
end
section
variable {X:Cx} {a b e:Expr} {elts:List Expr} {k0:Nat} {p0 pos p:Pos} {fa fb:EF} {st:Stmt}
end
end L2.L3
namespace L2.ZT
open PySem PyProof.Rows
section
variable {prog:Program} {w:World} {A:Around} {E:Value→Shared→Prop} {s:Shared}
theorem sY {c t:Addr} {i:Nat} {xs:Array Value} {x:Value} {Q:Value→Shared→Prop} (hc:s.heap.IsTupleIter c t i) (ht:s.heap.IsTuple t xs) (hx:xs[i]?=some x)
  (q:∀ k,k.IsTupleIter c t (i+1)→Heap.SameBut c s.heap k→Q x { s with heap:=k }):wpAny (model prog w) A (Builtin.SmallTypes.nextOf (.ref c)) Q E s:=by
 obtain ⟨oc,gc,ec,dc⟩:=id hc
 obtain ⟨ot,gt,_,nt,dt⟩:=ht
 unfold Builtin.SmallTypes.nextOf
 refine wpAny_bind (wpAny_callSpecial?_slot (name:=Str.ofString "__next__") hc.typeIs F.slot_tuple_iterator_next (wpAny_call_entry F.slot_tuple_iterator_next hc.typeIs F.entry_tuple_iterator_next ?_ (F.args_tuple_iterator_next_1 _)))
 show wpAny _ _ (field (.ref c) 0>>=_) _ _ s
 refine wpAny_bind (wpAny_field gc dc (x:=.ref t) rfl ?_)
 show wpAny _ _ (if (Value.ref t==Value.none)=true then _ else _) _ _ s
 rw [if_neg (fun z=>by cases z)]
 show wpAny _ _ (field (.ref c) 1>>=_) _ _ s
 refine wpAny_bind (wpAny_field gc dc (x:=.int i 0) rfl ?_)
 show wpAny _ _ (seqItems? (.ref t)>>=_) _ _ s
 refine wpAny_bind (wpAny_seqItems gt dt ?_)
 simp only [Int.toNat_natCast,hx]
 refine wpAny_bind (wpAny_setField gc dc (by simp) (wpAny_pure ⟨x,rfl,wpAny_pure (q _ ?_ (Heap.SameBut.update ..))⟩))
 refine ⟨_,Heap.get?_update_self _ gc (Obj.isFreed_of_fields (Obj.data_mapFields dc _)),(Obj.cls_mapFields ..).trans ec,?_⟩
 rw [Obj.data_mapFields dc]
 simp [rawInt]
theorem a0z {c t:Addr} {i:Nat} {xs:Array Value} {Q:Value→Shared→Prop} (hh:A.handled=none) (hc:s.heap.IsTupleIter c t i) (ht:s.heap.IsTuple t xs) (hx:xs[i]?=none)
  (q:∀ k e,Heap.ExtBut c s.heap k→(∃ o,k.get? e=some o∧o.cls=.type "StopIteration")→E (.ref e) { s with heap:=k }):wpAny (model prog w) A (Builtin.SmallTypes.nextOf (.ref c)) Q E s:=by
 obtain ⟨oc,gc,ec,dc⟩:=id hc
 obtain ⟨ot,gt,_,nt,dt⟩:=ht
 unfold Builtin.SmallTypes.nextOf
 refine wpAny_bind (wpAny_callSpecial?_slot (name:=Str.ofString "__next__") hc.typeIs F.slot_tuple_iterator_next (wpAny_call_entry F.slot_tuple_iterator_next hc.typeIs F.entry_tuple_iterator_next ?_ (F.args_tuple_iterator_next_1 _)))
 show wpAny _ _ (field (.ref c) 0>>=_) _ _ s
 refine wpAny_bind (wpAny_field gc dc (x:=.ref t) rfl ?_)
 show wpAny _ _ (if (Value.ref t==Value.none)=true then _ else _) _ _ s
 rw [if_neg (fun z=>by cases z)]
 show wpAny _ _ (field (.ref c) 1>>=_) _ _ s
 refine wpAny_bind (wpAny_field gc dc (x:=.int i 0) rfl ?_)
 show wpAny _ _ (seqItems? (.ref t)>>=_) _ _ s
 refine wpAny_bind (wpAny_seqItems gt dt ?_)
 simp only [Int.toNat_natCast,hx]
 refine wpAny_bind (wpAny_rule (wpAny_bind (wpAny_setField gc dc (by simp) ?_)))
 unfold Builtin.SmallTypes.stopIteration
 refine wpAny_bind ?_
 simp only [newExc,newTuple]
 refine wpAny_bind (wpAny_newObj_type ?_ (by size_fits))
 refine wpAny_bind (m:=firstArgMember _ _) (wpAny_of_eq (a:=Value.none) (by simp only [firstArgMember];rfl) ?_)
 refine wpAny_newObj_type ?_ (by size_fits)
 simp only [raiseNew]
 refine wpAny_bind (wpAny_handled ?_)
 rw [show A.in1.handled=none from hh]
 refine wpAny_bind (wpAny_pure (wpAny_throw (q _ _ ?_ ⟨_,Heap.get?_push_size _ rfl,rfl⟩)))
 exact ((Heap.SameBut.update ..).extBut.push _).push _
variable {z TI TO c d t u:Addr} {i j:Nat} {xs ys:Array Value} {a b:Value}
theorem b0c {x y:Value} {Q:Value→Shared→Prop} (D:ZipApart z TI TO c d t u) (hz:IsZip s.heap z TI TO .none) (hI:IsPair s.heap TI (.ref c) (.ref d)) (hO:IsPair s.heap TO a b)
  (hc:s.heap.IsTupleIter c t i) (hd:s.heap.IsTupleIter d u j) (ht:s.heap.IsTuple t xs) (hu:s.heap.IsTuple u ys) (hx:xs[i]?=some x) (hy:ys[j]?=some y)
  (q:∀ k,IsZip k z TI TO (rawInt s.heap.objs.size)→IsPair k TO x y→k.IsTupleIter c t (i+1)→k.IsTupleIter d u (j+1)→IsPair k s.heap.objs.size x y→k.objs.size=s.heap.objs.size+1 →
   (∀ e o,e≠z→e≠TO→e≠c→e≠d→s.heap.get? e=some o→k.get? e=some o)→Q (.ref s.heap.objs.size) { s with heap:=k }) :
  wpAny (model prog w) A (Builtin.«zip.__next__» ⟨[.ref z],[]⟩) (fun fin s'=>∃ v,fin=.done (.ret v)∧Q v s') E s:=by
 show wpAny _ _ (field (.ref z) 2>>=_) _ _ s
 refine wpAny_bind (wpAny_field hz rfl (x:=Value.bool false) rfl ?_)
 show wpAny _ _ (field (.ref z) 3>>=_) _ _ s
 refine wpAny_bind (wpAny_field hz rfl (x:=Value.ref TI) rfl ?_)
 refine wpAny_bind (wpAny_seqItems hI rfl ?_)
 show wpAny _ _ (Builtin.SmallTypes.ownedTupleIsFree (.ref z)>>=_) _ _ s
 refine wpAny_bind ?_
 unfold Builtin.SmallTypes.ownedTupleIsFree
 refine wpAny_bind (wpAny_field hz rfl (x:=Value.none) rfl (wpAny_pure ?_))
 simp only [if_true]
 refine wpAny_bind (wpAny_rule (wpAny_bind (wpAny_field hz rfl (x:=Value.ref TO) rfl (wpAny_bind (wpAny_setField_rec hz (by simp) fun ka za sa=>?_)))))
 replace za:IsZip ka z TI TO .ellipsis:=za
 refine wpAny_bind ?_
 simp only [List.zipIdx_cons,List.zipIdx_nil,List.forIn_cons,List.forIn_nil]
 refine wpAny_bind (wpAny_bind (wpAny_onRaise ?_))
 show wpAny _ _ (Builtin.SmallTypes.nextOf (.ref c)>>=_) _ _ _
 refine wpAny_bind (sY (hc.extBut sa.extBut D.i1z) (ht.extBut sa.extBut D.l1z) hx fun kb cb sb=>wpAny_pure ?_)
 have ob:IsPair kb TO a b:=sb.extBut _ _ D.TOi1 (sa.extBut _ _ D.TOz hO)
 refine wpAny_bind (wpAny_seqItems ob rfl (wpAny_bind (wpAny_updateSeq_pair ob fun kc oc sc=>?_)))
 replace oc:IsPair kc TO x b:=oc
 refine wpAny_bind (wpAny_letGo (wpAny_pure (wpAny_bind (wpAny_bind (wpAny_onRaise ?_)))))
 show wpAny _ _ (Builtin.SmallTypes.nextOf (.ref d)>>=_) _ _ _
 have dc:kc.IsTupleIter d u j:=((hd.extBut sa.extBut D.i2z).extBut sb.extBut D.i12.symm).extBut sc.extBut D.TOi2.symm
 have uc:kc.IsTuple u ys:=((hu.extBut sa.extBut D.l2z).extBut sb.extBut D.l2i1).extBut sc.extBut D.l2TO
 refine wpAny_bind (sY dc uc hy fun kd dd sd=>wpAny_pure ?_)
 have od:IsPair kd TO x b:=sd.extBut _ _ D.TOi2 oc
 refine wpAny_bind (wpAny_seqItems od rfl (wpAny_bind (wpAny_updateSeq_pair od fun ke oe se=>?_)))
 replace oe:IsPair ke TO x y:=oe
 refine wpAny_bind (wpAny_letGo (wpAny_pure (wpAny_pure (wpAny_bind (wpAny_seqItems oe rfl (wpAny_bind (wpAny_newTuple ?_)))))))
 have sz:ke.objs.size=s.heap.objs.size:=by rw [se.1,sd.1,sc.1,sb.1,sa.1]
 have ze:IsZip ke z TI TO .ellipsis:=se.extBut _ _ D.TOz.symm (sd.extBut _ _ D.i2z.symm (sc.extBut _ _ D.TOz.symm (sb.extBut _ _ D.i1z.symm za)))
 have kp:∀ e o,e≠z→e≠TO→e≠c→e≠d→s.heap.get? e=some o→ke.get? e=some o:=fun e o n1 n2 n3 n4 g=>
  se.extBut _ _ n2 (sd.extBut _ _ n4 (sc.extBut _ _ n2 (sb.extBut _ _ n3 (sa.extBut _ _ n1 g))))
 have ce:ke.IsTupleIter c t (i+1):=((cb.extBut sc.extBut D.TOi1.symm).extBut sd.extBut D.i12).extBut se.extBut D.TOi1.symm
 have de:ke.IsTupleIter d u (j+1):=dd.extBut se.extBut D.TOi2.symm
 have zl:z<ke.objs.size:=Heap.lt_size ze
 show wpAny _ _ (Builtin.SmallTypes.ownedTupleHandOut (.ref z) (.ref ke.objs.size)>>=_) _ _ _
 refine wpAny_bind ?_
 unfold Builtin.SmallTypes.ownedTupleHandOut
 have zf:IsZip (ke.push { cls:=.type "tuple", data:=.seq #[x,y] }) z TI TO .ellipsis:=Heap.get?_push_of_some _ ze
 refine wpAny_bind (wpAny_setField_rec zf (by simp) fun kg zg sg=>?_)
 replace zg:IsZip kg z TI TO (rawInt ke.objs.size):=zg
 refine wpAny_setField_rec zg (by simp) fun kh zh sh=>?_
 replace zh:IsZip kh z TI TO (rawInt ke.objs.size):=zh
 have up:∀ e o,e≠z→ke.get? e=some o→kh.get? e=some o:=fun e o n g=>sh.extBut _ _ n (sg.extBut _ _ n (Heap.get?_push_of_some _ g))
 have th:IsPair kh ke.objs.size x y:=sh.extBut _ _ (Nat.ne_of_gt zl) (sg.extBut _ _ (Nat.ne_of_gt zl) (Heap.get?_push_size _ rfl))
 have lh:kh.objs.size=ke.objs.size+1:=by rw [sh.1,sg.1,Heap.size_push]
 rw [sz] at zh th lh
 refine wpAny_pure ⟨_,rfl,?_⟩
 show Q (.ref ke.objs.size) _
 rw [sz]
 exact q kh zh (up _ _ D.TOz oe) (ce.at fun o g=>up _ o D.i1z g) (de.at fun o g=>up _ o D.i2z g) th lh fun e o n1 n2 n3 n4 g=>up e o n1 (kp e o n1 n2 n3 n4 g)
theorem a8W {Q:Fin→Shared→Prop} (hh:A.handled=none) (D:ZipApart z TI TO c d t u) (hz:IsZip s.heap z TI TO .none) (hI:IsPair s.heap TI (.ref c) (.ref d)) (hO:IsPair s.heap TO a b)
  (hc:s.heap.IsTupleIter c t i) (hd:s.heap.IsTupleIter d u j) (ht:s.heap.IsTuple t xs) (hu:s.heap.IsTuple u ys) (hend:xs[i]?=none∨ys[j]?=none)
  (q:∀ k e,(∀ f o,f≠z→f≠TO→f≠c→f≠d→s.heap.get? f=some o→k.get? f=some o)→(∃ o,k.get? e=some o∧o.cls=.type "StopIteration")→E (.ref e) { s with heap:=k }) :
  wpAny (model prog w) A (Builtin.«zip.__next__» ⟨[.ref z],[]⟩) Q E s:=by
 show wpAny _ _ (field (.ref z) 2>>=_) _ _ s
 refine wpAny_bind (wpAny_field hz rfl (x:=Value.bool false) rfl ?_)
 show wpAny _ _ (field (.ref z) 3>>=_) _ _ s
 refine wpAny_bind (wpAny_field hz rfl (x:=Value.ref TI) rfl ?_)
 refine wpAny_bind (wpAny_seqItems hI rfl ?_)
 show wpAny _ _ (Builtin.SmallTypes.ownedTupleIsFree (.ref z)>>=_) _ _ s
 refine wpAny_bind ?_
 unfold Builtin.SmallTypes.ownedTupleIsFree
 refine wpAny_bind (wpAny_field hz rfl (x:=Value.none) rfl (wpAny_pure ?_))
 simp only [if_true]
 refine wpAny_bind (wpAny_rule (wpAny_bind (wpAny_field hz rfl (x:=Value.ref TO) rfl (wpAny_bind (wpAny_setField_rec hz (by simp) fun ka za sa=>?_)))))
 replace za:IsZip ka z TI TO .ellipsis:=za
 refine wpAny_bind ?_
 simp only [List.zipIdx_cons,List.zipIdx_nil,List.forIn_cons,List.forIn_nil]
 refine wpAny_bind (wpAny_bind (wpAny_onRaise ?_))
 show wpAny _ _ (Builtin.SmallTypes.nextOf (.ref c)>>=_) _ _ _
 cases hx:xs[i]? with
 | none=>
  refine wpAny_bind (a0z hh (hc.extBut sa.extBut D.i1z) (ht.extBut sa.extBut D.l1z) hx fun kb e sb he=>?_)
  obtain ⟨oe,ge,ee⟩:=he
  have zb:IsZip kb z TI TO .ellipsis:=sb _ _ D.i1z.symm za
  have ne:e≠z:=fun x=>by rw [x,zb] at ge;cases ge;simp at ee
  exact wpAny_setField_rec zb (by simp) fun kc _ sc=>q kc e (fun f o n1 _ n3 _ g=>sc.extBut _ _ n1 (sb _ _ n3 (sa.extBut _ _ n1 g))) ⟨oe,sc.extBut _ _ ne ge,ee⟩
 | some x=>
  have hy:ys[j]?=none:=by
   rcases hend with h | h
   ·rw [hx] at h;cases h
   ·exact h
  refine wpAny_bind (sY (hc.extBut sa.extBut D.i1z) (ht.extBut sa.extBut D.l1z) hx fun kb cb sb=>wpAny_pure ?_)
  have ob:IsPair kb TO a b:=sb.extBut _ _ D.TOi1 (sa.extBut _ _ D.TOz hO)
  refine wpAny_bind (wpAny_seqItems ob rfl (wpAny_bind (wpAny_updateSeq_pair ob fun kc oc sc=>?_)))
  refine wpAny_bind (wpAny_letGo (wpAny_pure (wpAny_bind (wpAny_bind (wpAny_onRaise ?_)))))
  show wpAny _ _ (Builtin.SmallTypes.nextOf (.ref d)>>=_) _ _ _
  have dc:kc.IsTupleIter d u j:=((hd.extBut sa.extBut D.i2z).extBut sb.extBut D.i12.symm).extBut sc.extBut D.TOi2.symm
  have uc:kc.IsTuple u ys:=((hu.extBut sa.extBut D.l2z).extBut sb.extBut D.l2i1).extBut sc.extBut D.l2TO
  refine wpAny_bind (a0z hh dc uc hy fun kd e sd he=>?_)
  obtain ⟨oe,ge,ee⟩:=he
  have zd:IsZip kd z TI TO .ellipsis:=sd _ _ D.i2z.symm (sc.extBut _ _ D.TOz.symm (sb.extBut _ _ D.i1z.symm za))
  have ne:e≠z:=fun x=>by rw [x,zd] at ge;cases ge;simp at ee
  exact wpAny_setField_rec zd (by simp) fun ke _ se=>q ke e (fun f o n1 n2 n3 n4 g=>se.extBut _ _ n1 (sd _ _ n4 (sc.extBut _ _ n2 (sb.extBut _ _ n3 (sa.extBut _ _ n1 g))))) ⟨oe,se.extBut _ _ ne ge,ee⟩
theorem next_tt {x y:Value} {Q:Option Value→Shared→Prop} (D:ZipApart z TI TO c d t u) (hz:IsZip s.heap z TI TO .none) (hI:IsPair s.heap TI (.ref c) (.ref d)) (hO:IsPair s.heap TO a b)
  (hc:s.heap.IsTupleIter c t i) (hd:s.heap.IsTupleIter d u j) (ht:s.heap.IsTuple t xs) (hu:s.heap.IsTuple u ys) (hx:xs[i]?=some x) (hy:ys[j]?=some y)
  (q:∀ k,IsZip k z TI TO (rawInt s.heap.objs.size)→IsPair k TO x y→k.IsTupleIter c t (i+1)→k.IsTupleIter d u (j+1)→IsPair k s.heap.objs.size x y→k.objs.size=s.heap.objs.size+1 →
   (∀ e o,e≠z→e≠TO→e≠c→e≠d→s.heap.get? e=some o→k.get? e=some o)→Q (some (.ref s.heap.objs.size)) { s with heap:=k }):wpAny (model prog w) A (pyNext (.ref z)) Q E s:=by
 have ty:s.TypeIs (.ref z) "zip" := ⟨_,hz,rfl⟩
 unfold pyNext
 exact wpAny_bind (wpAny_attempt (wpAny_callSpecial?_slot (name:=Str.ofString "__next__") ty F.slot_zip_next (wpAny_call_entry F.slot_zip_next ty F.entry_zip_next (b0c D hz hI hO hc hd ht hu hx hy fun k a1 a2 a3 a4 a5 a6 a7=>wpAny_pure (q k a1 a2 a3 a4 a5 a6 a7)) (F.args_zip_next_1 _))))
theorem last_tt {Q:Option Value→Shared→Prop} (hh:A.handled=none) (D:ZipApart z TI TO c d t u) (hz:IsZip s.heap z TI TO .none) (hI:IsPair s.heap TI (.ref c) (.ref d)) (hO:IsPair s.heap TO a b)
  (hc:s.heap.IsTupleIter c t i) (hd:s.heap.IsTupleIter d u j) (ht:s.heap.IsTuple t xs) (hu:s.heap.IsTuple u ys) (hend:xs[i]?=none∨ys[j]?=none)
  (q:∀ k,(∀ f o,f≠z→f≠TO→f≠c→f≠d→s.heap.get? f=some o→k.get? f=some o)→Q none { s with heap:=k }):wpAny (model prog w) A (pyNext (.ref z)) Q E s:=by
 have ty:s.TypeIs (.ref z) "zip" := ⟨_,hz,rfl⟩
 unfold pyNext
 refine wpAny_bind (wpAny_attempt (wpAny_callSpecial?_slot (name:=Str.ofString "__next__") ty F.slot_zip_next (wpAny_call_entry F.slot_zip_next ty F.entry_zip_next (a8W hh D hz hI hO hc hd ht hu hend fun k e hk he=>?_) (F.args_zip_next_1 _))))
 obtain ⟨oe,ge,ee⟩:=he
 exact wpAny_bind (wpAny_isInstance (T := "StopIteration") (b:=true) ⟨oe,ge,ee⟩ isSubtype_stop (wpAny_pure (q _ hk)))
end
abbrev itT (l:Addr):Obj:={ cls:=.type "tuple_iterator", data:=.fields #[.ref l,.int 0 0] }
abbrev zA (h:Heap) (l:Addr):Heap:=h.push (itT l)
abbrev zB (h:Heap) (l m:Addr):Heap:=(zA h l).push (itT m)
abbrev zC (h:Heap) (l m:Addr):Heap:=(zB h l m).push { cls:=.type "tuple", data:=.seq #[.ref h.objs.size,.ref (zA h l).objs.size] }
abbrev zD (h:Heap) (l m:Addr):Heap:=(zC h l m).push { cls:=.type "tuple", data:=.seq #[.none,.none] }
abbrev zE (h:Heap) (l m:Addr):Heap:=(zD h l m).push { cls:=.type "zip", data:=.fields #[.none,.bool false,.bool false,.ref (zB h l m).objs.size,.ref (zC h l m).objs.size] }
theorem b2z (l m:Addr) (xs ys:Array Value):Meets (Builtin.«zip.__new__» ⟨[.type "zip", .ref l,.ref m],[]⟩) (fun _ R s=>s.heap.IsTuple l xs∧s.heap.IsTuple m ys∧R (.ok (.ret (.ref (zD s.heap l m).objs.size))) { s with heap:=zE s.heap l m }):=
 .of_wp fun prog w A R s h=>by
  obtain ⟨hp,g,d,tk,os⟩:=s
  obtain ⟨ha,hb,h⟩:=h
  have sub:=sub_zip
  have tA:Heap.IsTuple (Shared.heap ⟨hp,g,d,tk,os⟩) l xs:=ha
  have tB:Heap.IsTuple (Shared.heap ⟨hp.push (itT l),g,d,tk,os⟩) m ys:=Heap.IsTuple.push hb _
  wp_walk using wpAny_pyIter_tuple tA,wpAny_pyIter_tuple tB
  exact ⟨_,rfl,h⟩
section
variable {prog:Program} {w:World} {A:Around} {E:Value→Shared→Prop} {s:Shared}
theorem call_tt {l m:Addr} {xs ys:Array Value} {Q:Value→Shared→Prop} (ha:s.heap.IsTuple l xs) (hb:s.heap.IsTuple m ys)
  (q:∀ k,IsZip k (s.heap.objs.size+4) (s.heap.objs.size+2) (s.heap.objs.size+3) .none→IsPair k (s.heap.objs.size+2) (.ref s.heap.objs.size) (.ref (s.heap.objs.size+1))→IsPair k (s.heap.objs.size+3) .none .none →
   k.IsTupleIter s.heap.objs.size l 0→k.IsTupleIter (s.heap.objs.size+1) m 0→(∀ c o,s.heap.get? c=some o→k.get? c=some o)→Q (.ref (s.heap.objs.size+4)) { s with heap:=k }) :
  wpAny (model prog w) A (call (.type "zip") [.ref l,.ref m]) Q E s:=by
 refine callType_new F.called_zip (by decide) (F.typeCall_zip_2 _ _) (F.newCall_zip_2 _ _) (fun obj=>F.args_object_init_3 obj _ _) F.entry_zip_new (b2z l m xs ys) ⟨ha,hb,?_⟩
 have n1:(zA s.heap l).objs.size=s.heap.objs.size+1:=Heap.size_push ..
 have n2:(zB s.heap l m).objs.size=s.heap.objs.size+2:=by rw [Heap.size_push,n1]
 have n3:(zC s.heap l m).objs.size=s.heap.objs.size+3:=by rw [Heap.size_push,n2]
 have n4:(zD s.heap l m).objs.size=s.heap.objs.size+4:=by rw [Heap.size_push,n3]
 have v5:(zE s.heap l m).get? (zD s.heap l m).objs.size=some _:=Heap.get?_push_size _ rfl
 have v4:(zE s.heap l m).get? (zC s.heap l m).objs.size=some _:=Heap.get?_push_of_some _ (Heap.get?_push_size _ rfl)
 have v3:(zE s.heap l m).get? (zB s.heap l m).objs.size=some _:=Heap.get?_push_of_some _ (Heap.get?_push_of_some _ (Heap.get?_push_size _ rfl))
 have v2:(zE s.heap l m).get? (zA s.heap l).objs.size=some _:=Heap.get?_push_of_some _ (Heap.get?_push_of_some _ (Heap.get?_push_of_some _ (Heap.get?_push_size _ rfl)))
 have v1:(zE s.heap l m).get? s.heap.objs.size=some _:=Heap.get?_push_of_some _ (Heap.get?_push_of_some _ (Heap.get?_push_of_some _ (Heap.get?_push_of_some _ (Heap.get?_push_size _ rfl))))
 show _∧_
 rw [n2,n3,n4] at v5
 rw [n1,n2] at v3
 rw [n3] at v4
 rw [n1] at v2
 rw [n4]
 exact ⟨⟨_,v5,rfl⟩,q _ v5 v3 v4 ⟨_,v1,rfl,rfl⟩ ⟨_,v2,rfl,rfl⟩ fun c o g=>Heap.get?_push_of_some _ (Heap.get?_push_of_some _ (Heap.get?_push_of_some _ (Heap.get?_push_of_some _ (Heap.get?_push_of_some _ g))))⟩
end
end L2.ZT
namespace L2.L3
open PySem PySem.Spec PyProof.Rows
def Itt (K:PySem.W.Frag) (l1 l2:Addr):It:=
 ⟨fun i H=>∃ xs ys x y,SqT K H l1 xs∧SqT K H l2 ys∧xs[i]?=some x∧ys[i]?=some y,
 fun i H v H'=>∃ T x y,H T=none∧v=.ref T∧H'=upd H T (.tup [x,y])∧(∀ xs,SqT K H l1 xs→xs[i]?=some x)∧∀ ys,SqT K H l2 ys→ys[i]?=some y,
 fun i H=>∃ xs ys,SqT K H l1 xs∧SqT K H l2 ys∧(xs.length≤i∨ys.length≤i)⟩
def b5k (z TI TO i1 i2 l1 l2:Addr) (i:Nat) (h:Heap):Prop:=IsZip h z TI TO .none∧IsPair h TI (.ref i1) (.ref i2)∧(∃ a b,IsPair h TO a b)∧h.IsTupleIter i1 l1 i∧h.IsTupleIter i2 l2 i
def b1t (fa fb:EF):AF:=fun ρ=>match fa ρ,fb ρ with
 | some (.ok (.tuple a)),some (.ok (.tuple b))=>some (.ok (a4g a b))
 | _,_=>none
theorem a8Q {P:Program} {w:World} {K:PySem.W.Frag} {elts:List Expr} {k0:Nat} {p0:Pos} {z TI TO i1 i2 l1 l2:Addr} (D:ZipApart z TI TO i1 i2 l1 l2):Turn P w K (.Tuple elts k0 p0) (Itt K l1 l2) [z,TI,TO,i1,i2] z (b5k z TI TO i1 i2 l1 l2) where
 mem:=by simp
 obj:=fun i h ⟨hz,hTI,⟨a,b,hTO⟩,⟨o1,g1,_,d1⟩,⟨o2,g2,_,d2⟩⟩ c hc=>by
  simp only [List.mem_cons,List.not_mem_nil,or_false] at hc
  rcases hc with rfl | rfl | rfl | rfl | rfl
  ·exact ⟨_,hz,fun v q=>by cases q⟩
  ·exact ⟨_,hTI,fun v q=>by cases q⟩
  ·exact ⟨_,hTO,fun v q=>by cases q⟩
  ·exact ⟨o1,g1,fun v q=>by rw [d1] at q;cases q⟩
  ·exact ⟨o2,g2,fun v q=>by rw [d2] at q;cases q⟩
 keep:=fun i h h' ⟨hz,hTI,⟨a,b,hTO⟩,h1,h2⟩ kp=>⟨kp z (by simp) _ hz,kp TI (by simp) _ hTI,⟨a,b,kp TO (by simp) _ hTO⟩,h1.at fun o e=>kp i1 (by simp) o e,h2.at fun o e=>kp i2 (by simp) o e⟩
 item:=by
  intro X hP hw hK hc i pins s σ H E I hf ⟨hz,hTI,⟨a,b,hTO⟩,h1,h2⟩ ⟨xs,ys,x,y,q1,q2,ex,ey⟩
  subst hP hw hK
  obtain ⟨its,r1,p1,_⟩:=I.tuple q1
  obtain ⟨its2,r2,p2,_⟩:=I.tuple q2
  obtain ⟨u,eu,ru⟩:=r1.get ex
  obtain ⟨v,ev,rv⟩:=r2.get ey
  refine ZT.next_tt D hz hTI hTO h1 h2 p1 p2 (x:=u) (y:=v) (by rw [List.getElem?_toArray];exact eu) (by rw [List.getElem?_toArray];exact ev) fun h' a1 a2 a3 a4 a5 a6 hk=>⟨_,rfl,?_⟩
  refine wpAny_letOwnedTupleGo_zip a1 fun h2' hz' hs'=>?_
  have hk2:∀ c o,c∉[z,TO,i1,i2]→s.heap.get? c=some o→h2'.get? c=some o:=fun c o hc e=>by
   simp only [List.mem_cons,List.not_mem_nil,or_false,not_or] at hc
   exact hs'.extBut c o hc.1 (hk c o hc.1 hc.2.1 hc.2.2.1 hc.2.2.2 e)
  have nT:s.heap.objs.size≠z:=Nat.ne_of_gt (Heap.lt_size hz)
  have new:cM X.prog X.w (upd H s.heap.objs.size (.tup [x,y])) h2' s.heap.objs.size (.tup [x,y]):=
   ⟨by show 2≤sizeLine;decide,[u,v],.cons ru (.cons rv .nil),⟨_,hs'.extBut _ _ nT a5,rfl,_,rfl⟩⟩
  have hfT:H s.heap.objs.size=none:=I.hok.fresh (Nat.le_refl _)
  refine ⟨.ref s.heap.objs.size,upd H s.heap.objs.size (.tup [x,y]),Inv.turnNew (s:=s) (h':=h2') (t':=s.toks) [z,TO,i1,i2] I (fun c hc=>hf c (by simp only [List.mem_cons,List.not_mem_nil,or_false] at hc ⊢;rcases hc with h | h | h | h<;>simp [h])) hk2 (Nat.le_refl _) new,rfl,
   ⟨_,x,y,hfT,rfl,rfl,fun xs' q=>by rw [I.tuple_inj q q1];exact ex,fun ys' q=>by rw [I.tuple_inj q q2];exact ey⟩,⟨hz',hs'.extBut _ _ D.TIz (hk _ _ D.TIz D.TITO D.TIi1 D.TIi2 hTI),⟨_,_,hs'.extBut _ _ D.TOz a2⟩,a3.extBut hs'.extBut D.i1z,a4.extBut hs'.extBut D.i2z⟩,fun c hc=>?_⟩
  obtain ⟨o,e,_⟩:∃ o,s.heap.get? c=some o∧True:=by
   simp only [List.mem_cons,List.not_mem_nil,or_false] at hc
   rcases hc with rfl | rfl | rfl | rfl | rfl
   ·exact ⟨_,hz,trivial⟩
   ·exact ⟨_,hTI,trivial⟩
   ·exact ⟨_,hTO,trivial⟩
   ·obtain ⟨o,g,_⟩:=h1;exact ⟨o,g,trivial⟩
   ·obtain ⟨o,g,_⟩:=h2;exact ⟨o,g,trivial⟩
  rw [aL (Nat.ne_of_lt (Heap.lt_size e))]
  exact (hf c hc).1
 done:=by
  intro X hP hw hK hc i pins s σ H E I hf ⟨hz,hTI,⟨a,b,hTO⟩,h1,h2⟩ ⟨xs,ys,q1,q2,hend⟩
  subst hP hw hK
  obtain ⟨its,r1,p1,_⟩:=I.tuple q1
  obtain ⟨its2,r2,p2,_⟩:=I.tuple q2
  have l1':=r1.length
  have l2':=r2.length
  refine ZT.last_tt (I.ok.hd hc) D hz hTI hTO h1 h2 p1 p2 ?_ fun h' hk=>⟨rfl,Inv.turnAll (t':=s.toks) [z,TO,i1,i2] I (fun c hc=>hf c (by simp only [List.mem_cons,List.not_mem_nil,or_false] at hc ⊢;rcases hc with h | h | h | h<;>simp [h])) fun c o hc e=>?_⟩
  ·rcases hend with he | he
   ·exact .inl (by rw [List.getElem?_toArray];exact List.getElem?_eq_none (by omega))
   ·exact .inr (by rw [List.getElem?_toArray];exact List.getElem?_eq_none (by omega))
  ·simp only [List.mem_cons,List.not_mem_nil,or_false,not_or] at hc
   exact hk c o hc.1 hc.2.1 hc.2.2.1 hc.2.2.2 e
 self:=fun A i s Q E st h=>wpAny_pyIter_zip st.1 h
theorem a8O {K:PySem.W.Frag} {G:Hp} {l1 l2:Addr} {xs ys:List V} {ds es:List PyData} (h1:SqT K G l1 xs) (r1:RepAll K G xs ds) (h2:SqT K G l2 ys) (r2:RepAll K G ys es):Walk K (Itt K l1 l2) G (a4g ds es):=by
 intro i G' H' s1 s2
 have a1:=iO (s1.trans s2) h1
 have a2:=iO (s1.trans s2) h2
 unfold a4g
 refine ⟨fun d e=>?_,fun hl=>⟨xs,ys,a1,a2,?_⟩⟩
 ·rw [List.getElem?_map] at e
  obtain ⟨⟨p,q⟩,e1,rfl⟩:=Option.map_eq_some_iff.mp e
  rw [List.getElem?_zip_eq_some] at e1
  obtain ⟨v,ev,rv⟩:=r1.get e1.1
  obtain ⟨u,eu,ru⟩:=r2.get e1.2
  refine ⟨⟨xs,ys,v,u,a1,a2,ev,eu⟩,fun x H2 ⟨T,x',y',hT,ex,eH,b1,b2⟩=>?_⟩
  subst ex eH
  have b3:=b1 xs a1
  have b4:=b2 ys a2
  rw [ev] at b3
  rw [eu] at b4
  cases b3
  cases b4
  have hG:G' T=none:=s2.free hT
  exact ⟨upd G' T (.tup [v,u]),.put s2 hT,.tuple (.of aN) (.cons ((rv.mono s1).mono (bC hG)) (.cons ((ru.mono s1).mono (bC hG)) .nil))⟩
 ·rw [List.length_map,List.length_zip] at hl
  have e1:=r1.length
  have e2:=r2.length
  omega
section
variable {X:Cx} {a b:Expr} {elts:List Expr} {k0:Nat} {p0 pos p:Pos} {fa fb:EF}
theorem b3t (hm:X.mg "zip" = none) (ha:DE X a fa) (hb:DE X b fb) (hv:bootBuiltins "zip" = some (.type "zip"):=by decide +kernel) (hs:starEach [a,b] X.env=(false,eval a X.env)::starEach [b] X.env:=by rfl) (hs2:starEach [b] X.env=(false,eval b X.env)::starEach [] X.env:=by rfl)
  (hpl:(backTo pos (starEach [b] X.env)).any (·.1)=false:=by rfl) (hg:Gl X "zip":=by rfl):DI X (.Tuple elts k0 p0) (.Call (.Name "zip" p) [a,b] [] pos) (b1t fa fb):=a3U fun ρ r e=>by
 unfold b1t at e
 split at e
 ·rename_i as bs e1 e3
  refine ⟨_,(Option.some.inj e).symm,⟨?_⟩⟩
  intro pins s σ H R I ⟨H0,G₀,G,S,q⟩
  have pa:=dQ (ha.pd e1) (dQ (hb.pd e3) gB hs2) hs
  refine wpAny_Call_Name_kw (hZ I hg hm hv ?_ (by decide) (by decide))
  refine PyProof.Rows.callWith_type1 (thn (pa.run H0 G₀ G pos pins s σ H (fun vs H'=>∃ G',Grow G H G' H'∧RepAll X.K G' vs [.tuple as,.tuple bs]) I S fun vs G' H' g r=>⟨G',g,r⟩) fun us s1 ⟨vs,H1,I1,r1,G1,g1,w1⟩=>?_) hs hpl
  cases w1 with
  | cons wa wn=>cases wn with
   | cons wb wn=>
    cases wn
    cases wa with
    | tuple hq ra=>cases wb with
     | tuple hq2 rb=>
      obtain ⟨u,v,rfl,ru,rv⟩:=vals2 r1
      cases ru;cases rv
      obtain ⟨its,r1',p1,_⟩:=I1.tuple (iO g1.sub hq)
      obtain ⟨its2,r2',p2,_⟩:=I1.tuple (iO g1.sub hq2)
      refine ZT.call_tt p1 p2 fun h' z1 z2 z3 z4 z5 hk=>?_
      refine wpAny_pyIter_zip z1 ?_
      obtain ⟨o1,g1',_⟩:=p1
      obtain ⟨o2,g2',_⟩:=p2
      refine ⟨s1.heap.objs.size+4,[s1.heap.objs.size+4,s1.heap.objs.size+2,s1.heap.objs.size+3,s1.heap.objs.size,s1.heap.objs.size+1],_,_,H1,rfl,I1.kept (h':=h') (t':=s1.toks) (fun b o e=>hk b o e),a8Q (zipApart_new (Heap.lt_size g1') (Heap.lt_size g2')),⟨z1,z2,⟨_,_,z3⟩,z4,z5⟩,fun c hc=>?_,q _ G1 H1 g1 (a8O hq ra hq2 rb)⟩
      have ge:s1.heap.objs.size≤c:=by
       simp only [List.mem_cons,List.not_mem_nil,or_false] at hc
       rcases hc with h | h | h | h | h<;>rw [h]<;>first | exact Nat.le_add_right _ _ | exact Nat.le_refl _
      exact I1.fpOk ge (I1.hok.fresh ge)
 ·cases e
def b1s (fa fb:EF):AF:=fun ρ=>match b1u fa fb ρ with
 | some r=>some r
 | none=>b1t fa fb ρ
theorem b0u (hm:X.mg "zip" = none) (ha:DE X a fa) (hb:DE X b fb) (hs:starEach [a,b] X.env=(false,eval a X.env)::starEach [b] X.env:=by rfl) (hs2:starEach [b] X.env=(false,eval b X.env)::starEach [] X.env:=by rfl)
  (hpl:(backTo pos (starEach [b] X.env)).any (·.1)=false:=by rfl) (hg:Gl X "zip":=by rfl):DI X (.Tuple elts k0 p0) (.Call (.Name "zip" p) [a,b] [] pos) (b1s fa fb):=⟨fun pins s σ H R I ⟨ρ,r,H0,G₀,G,e,S,q⟩=>by
 unfold b1s at e
 split at e
 ·rename_i r' e1
  cases (Option.some.inj e)
  exact (b3u hm ha hb (by decide +kernel) hs hs2 hpl hg).run pins s σ H R I ⟨ρ,_,H0,G₀,G,e1,S,q⟩
 ·exact (b3t hm ha hb (by decide +kernel) hs hs2 hpl hg).run pins s σ H R I ⟨ρ,_,H0,G₀,G,e,S,q⟩⟩
end
end L2.L3
namespace L2.ST
open PySem PySem.W PyProof.Rows
section
variable {α β:Type} {lt:Nat→Nat→Bool} {n:Nat}
def run (lt:Nat→Nat→Bool):KasT α→α
 | .ret a=>a
 | .ask i j k=>run lt (k (lt i j))
def asks (n:Nat) (lt:Nat→Nat→Bool):KasT α→Prop
 | .ret _=>True
 | .ask i j k=>i<n∧j<n∧asks n lt (k (lt i j))
def Hq (n:Nat) (lt:Nat→Nat→Bool) (t:KasT α) (Q:α→Prop):Prop:=asks n lt t∧Q (run lt t)
theorem iY {a:α} {Q:α→Prop} (h:Q a):Hq n lt (.ret a) Q:=⟨trivial,h⟩
theorem qJ {i j:Nat} {k:Bool→KasT α} {Q:α→Prop} (hi:i<n) (hj:j<n) (h:Hq n lt (k (lt i j)) Q):Hq n lt (.ask i j k) Q:=⟨⟨hi,hj,h.1⟩,h.2⟩
theorem mT {f:α→KasT β} {Q:β→Prop}:∀ {t:KasT α},Hq n lt t (fun a=>Hq n lt (f a) Q)→Hq n lt (t.bind f) Q
 | .ret _,h=>h.2
 | .ask i j k,h=>qJ h.1.1 h.1.2.1 (mT (t:=k (lt i j)) ⟨h.1.2.2,h.2⟩)
theorem iJ {t:KasT α} {Q Q':α→Prop} (h:Hq n lt t Q) (hq:∀ a,Q a→Q' a):Hq n lt t Q':=⟨h.1,hq _ h.2⟩
theorem wp_run {cmp:Nat→Nat→(Bool→Shared→Prop)→Shared→Prop} {s:Shared} (hc:∀ i j C,i<n→j<n→C (lt i j) s→cmp i j C s):∀ (t:KasT α) {Q:α→Shared→Prop},asks n lt t→Q (run lt t) s→t.kasWp cmp Q s
 | .ret _,_,_,h=>h
 | .ask i j k,Q,a,h=>hc i j _ a.1 a.2.1 (wp_run hc (k (lt i j)) a.2.2 h)
end
section
variable {r:Nat→Int} {n:Nat} {p:Array Nat}
def vl (r:Nat→Int) (p:Array Nat) (k:Nat):Int:=r (p.getD k 0)
def ltr (r:Nat→Int) (i j:Nat):Bool:=decide (r i<r j)
def Up (r:Nat→Int) (p:Array Nat) (k:Nat):Prop:=∀ i j,i≤j→j<k→vl r p i≤vl r p j
def oJ (r:Nat→Int) (p:Array Nat) (k:Nat):Prop:=∀ i j,i≤j→j<k→vl r p j≤vl r p i
structure Pm (n:Nat) (p:Array Nat):Prop where
 size:p.size=n
 perm:p.Perm (List.range n).toArray
theorem Pm.lt (h:Pm n p) (hn:0<n) (k:Nat):p.getD k 0<n:=by
 by_cases hk:k<p.size
 ·have e:p.getD k 0=p[k]:=by simp [Array.getD,hk]
  rw [e]
  have:p[k]∈(List.range n).toArray:=h.perm.mem_iff.mp (Array.getElem_mem hk)
  simpa using this
 ·have e:p.getD k 0=0:=by simp [Array.getD,hk]
  rw [e];exact hn
theorem Pm.rev (h:Pm n p) (i j:Nat):Pm n (kas_rev p i j):=⟨by unfold kas_rev;rw [mirror_size];exact h.size,(mirror_perm _ _ _ _).trans h.perm⟩
theorem Pm.bub (h:Pm n p) (i j:Nat):Pm n (bubble p i j):=⟨by rw [bubble_size];exact h.size,(bubble_perm _ _ _).trans h.perm⟩
theorem pF {p q:Array Nat} {i j:Nat} (h:p[i]?=q[j]?):p.getD i 0=q.getD j 0:=by
 rw [Array.getD_eq_getD_getElem?,Array.getD_eq_getD_getElem?,h]
theorem a1Y {i j:Nat} (hj:j≤p.size) (k:Nat):vl r (kas_rev p i j) k=if i≤k∧k<j then vl r p (i+j - 1 - k) else vl r p k:=by
 have e:=getElem?_mirror_all (i:=i) hj k
 unfold vl kas_rev
 by_cases h:i≤k∧k<j
 ·rw [if_pos h] at e ⊢;rw [pF e]
 ·rw [if_neg h] at e ⊢;rw [pF e]
theorem a5X {src d:Nat} (hs:src<p.size) (hd:d≤src) (k:Nat):vl r (bubble p src d) k=if k=src - d then vl r p src else if src - d<k∧k≤src then vl r p (k - 1) else vl r p k:=by
 have e:=getElem?_bubble hs d hd k
 unfold vl
 by_cases h:k=src - d
 ·rw [if_pos h] at e ⊢;rw [pF e]
 ·rw [if_neg h] at e ⊢
  by_cases h2:src - d<k∧k≤src
  ·rw [if_pos h2] at e ⊢;rw [pF e]
  ·rw [if_neg h2] at e ⊢;rw [pF e]
theorem Up.snoc {k:Nat} (h:Up r p k) (hk:0<k) (hl:vl r p (k - 1)≤vl r p k):Up r p (k+1):=fun i j hij hj=>by
 by_cases e:j=k
 ·subst e
  by_cases e2:i=j
  ·subst e2;exact Int.le_refl _
  ·exact Int.le_trans (h i (j - 1) (by omega) (by omega)) hl
 ·exact h i j hij (by omega)
theorem oJ.snoc {k:Nat} (h:oJ r p k) (hk:0<k) (hl:vl r p k≤vl r p (k - 1)):oJ r p (k+1):=fun i j hij hj=>by
 by_cases e:j=k
 ·subst e
  by_cases e2:i=j
  ·subst e2;exact Int.le_refl _
  ·exact Int.le_trans hl (h i (j - 1) (by omega) (by omega))
 ·exact h i j hij (by omega)
theorem a7I (P:Pm n p) (hn:0<n):∀ (f m:Nat),0<m→Up r p m→Hq n (ltr r) (kas_asc p f m) (fun k=>m≤k∧k≤m+f∧Up r p k∧(k<m+f→vl r p k<vl r p (k - 1)))
 | 0,m,hm,h=>iY ⟨Nat.le_refl _,Nat.le_refl _,h,fun z=>absurd z (by omega)⟩
 | f+1,m,hm,h=>by
  refine qJ (P.lt hn _) (P.lt hn _) ?_
  by_cases c:r (p.getD m 0)<r (p.getD (m - 1) 0)
  ·rw [show ltr r (p.getD m 0) (p.getD (m - 1) 0)=true from decide_eq_true c,if_pos rfl]
   exact iY ⟨Nat.le_refl _,by omega,h,fun _=>c⟩
  ·rw [show ltr r (p.getD m 0) (p.getD (m - 1) 0)=false from decide_eq_false c,if_neg (by simp)]
   exact iJ (a7I P hn f (m+1) (by omega) (h.snoc hm (Int.not_lt.mp c))) fun k ⟨a,b,c,d⟩=>⟨by omega,by omega,c,fun z=>d (by omega)⟩
theorem yI {i j:Nat} (hj:j≤p.size) (he:∀ k,i≤k→k<j→vl r p k=vl r p (j - 1)) (k:Nat):vl r (kas_rev p i j) k=vl r p k:=by
 rw [a1Y hj]
 by_cases h:i≤k∧k<j
 ·rw [if_pos h,he _ (by omega) (by omega),he k h.1 h.2]
 ·rw [if_neg h]
theorem oJ.cong {p':Array Nat} {k:Nat} (e:∀ k,vl r p' k=vl r p k) (h:oJ r p k):oJ r p' k:=fun i j a b=>by rw [e,e];exact h i j a b
theorem zW (hn:0<n):∀ (f:Nat) (p:Array Nat) (m q:Nat),Pm n p→q<m→m+f≤n→oJ r p m→(∀ k,m - (q+1)≤k→k<m→vl r p k=vl r p (m - 1)) →
  Hq n (ltr r) (kas_desc f p m q) (fun x=>Pm n x.1∧m≤x.2.1∧x.2.1≤m+f∧x.2.2<x.2.1∧oJ r x.1 x.2.1∧∀ k,x.2.1 - (x.2.2+1)≤k→k<x.2.1→vl r x.1 k=vl r x.1 (x.2.1 - 1))
 | 0,p,m,q,P,hq,hm,hd,he=>iY ⟨P,Nat.le_refl _,Nat.le_refl _,hq,hd,he⟩
 | f+1,p,m,q,P,hq,hm,hd,he=>by
  have one:∀ p':Array Nat,∀ k,m+1 - (0+1)≤k→k<m+1→vl r p' k=vl r p' (m+1 - 1):=fun p' k a b=>by rw [show k=m+1 - 1 by omega]
  refine qJ (P.lt hn _) (P.lt hn _) ?_
  by_cases c:r (p.getD m 0)<r (p.getD (m - 1) 0)
  ·rw [show ltr r (p.getD m 0) (p.getD (m - 1) 0)=true from decide_eq_true c,if_pos rfl]
   have hd':=hd.snoc (by omega) (Int.le_of_lt c)
   by_cases q0:q > 0
   ·rw [if_pos q0]
    have e:=yI (i:=m - (q+1)) (j:=m) (by rw [P.size];omega) he
    exact iJ (zW hn f _ (m+1) 0 (P.rev _ _) (by omega) (by omega) (hd'.cong e) (one _)) fun x ⟨a,b,c,d,e,g⟩=>⟨a,by omega,by omega,d,e,g⟩
   ·rw [if_neg q0]
    exact iJ (zW hn f _ (m+1) 0 P (by omega) (by omega) hd' (one _)) fun x ⟨a,b,c,d,e,g⟩=>⟨a,by omega,by omega,d,e,g⟩
  ·rw [show ltr r (p.getD m 0) (p.getD (m - 1) 0)=false from decide_eq_false c,if_neg (by simp)]
   refine qJ (P.lt hn _) (P.lt hn _) ?_
   by_cases c2:r (p.getD (m - 1) 0)<r (p.getD m 0)
   ·rw [show ltr r (p.getD (m - 1) 0) (p.getD m 0)=true from decide_eq_true c2,if_pos rfl]
    exact iY ⟨P,Nat.le_refl _,Nat.le_add_right _ _,hq,hd,he⟩
   ·rw [show ltr r (p.getD (m - 1) 0) (p.getD m 0)=false from decide_eq_false c2,if_neg (by simp)]
    have eq:vl r p m=vl r p (m - 1):=by unfold vl;omega
    refine iJ (zW hn f p (m+1) (q+1) P (by omega) (by omega) (hd.snoc (by omega) (by omega)) fun k a b=>?_) fun x ⟨a,b,c,d,e,g⟩=>⟨a,by omega,by omega,d,e,g⟩
    rw [show m+1 - 1=m by omega,eq]
    by_cases e2:k=m
    ·rw [e2,eq]
    ·exact he k (by omega) (by omega)
theorem oJ.rev {m:Nat} (P:Pm n p) (hm:m≤n) (h:oJ r p m):Up r (kas_rev p 0 m) m:=fun i j hij hj=>by
 rw [a1Y (by rw [P.size];omega),a1Y (by rw [P.size];omega),if_pos (by omega),if_pos (by omega)]
 exact h _ _ (by omega) (by omega)
abbrev b3O (r:Nat→Int) (n:Nat) (x:Nat×Array Nat):Prop:=Pm n x.2∧0<x.1∧x.1≤n∧Up r x.2 x.1
theorem a7H (hn:0<n) {m:Nat} (P:Pm n p) (h0:0<m) (hm:m≤n) (hd:oJ r p m):Hq n (ltr r) (kas_tail3 m n p) (b3O r n):=by
 unfold kas_tail3
 refine mT (iJ (a7I (P.rev 0 m) hn (n - m) m h0 (hd.rev P hm)) fun k ⟨a,b,c,d⟩=>iY ⟨P.rev 0 m,by show 0<k;omega,by show k≤n;omega,c⟩)
theorem uU (hn:0<n) {m:Nat} (P:Pm n p) (hm:m+1≤n) (hd:oJ r p (m+1)):Hq n (ltr r) (kas_descPart m n p) (b3O r n):=by
 unfold kas_descPart
 refine mT (iJ (zW hn (n - (m+1)) p (m+1) 0 P (by omega) (by omega) hd (fun k a b=>by rw [show k=m+1 - 1 by omega])) fun x ⟨a,b,c,d,e,g⟩=>?_)
 by_cases h:x.2.2 > 0
 ·rw [if_pos h]
  exact a7H hn (a.rev _ _) (by omega) (by omega) (e.cong (yI (by rw [a.size];omega) g))
 ·rw [if_neg h]
  exact a7H hn a (by omega) (by omega) e
theorem b0i (hn:0<n) (P:Pm n p):Hq n (ltr r) (kas_count n p) (b3O r n):=by
 unfold kas_count
 refine mT (iJ (a7I P hn (n - 1) 1 (by decide) (fun i j a b=>by rw [show i=j by omega];exact Int.le_refl _)) fun m ⟨a,b,c,d⟩=>?_)
 by_cases h:(m==n)=true
 ·rw [if_pos h]
  exact iY ⟨P,by show 0<m;omega,by show m≤n;omega,c⟩
 ·rw [if_neg h]
  have hmn:m<n:=by have:m≠n:=fun z=>h (by rw [z];simp);omega
  have dr:=d (by omega)
  by_cases h1:m > 1
  ·rw [if_pos h1]
   refine qJ (P.lt hn _) (P.lt hn _) ?_
   by_cases c2:r (p.getD 0 0)<r (p.getD (m - 1) 0)
   ·rw [show ltr r (p.getD 0 0) (p.getD (m - 1) 0)=true from decide_eq_true c2,if_pos rfl]
    exact iY ⟨P,by show 0<m;omega,by show m≤n;omega,c⟩
   ·rw [show ltr r (p.getD 0 0) (p.getD (m - 1) 0)=false from decide_eq_false c2,if_neg (by simp)]
    have eqs:∀ k,k<m→vl r p k=vl r p (m - 1):=fun k hk=>by
     have a1:=c 0 k (Nat.zero_le _) hk
     have a2:=c k (m - 1) (by omega) (by omega)
     have a3:vl r p (m - 1)≤vl r p 0:=Int.not_lt.mp c2
     omega
    have e:=yI (r:=r) (i:=0) (j:=m) (by rw [P.size];omega) (fun k _ hk=>eqs k hk)
    refine uU hn (P.rev 0 m) (by omega) (oJ.cong e ?_)
    refine oJ.snoc (fun i j hij hj=>?_) (by omega) (Int.le_of_lt dr)
    rw [eqs i (by omega),eqs j hj];exact Int.le_refl _
  ·rw [if_neg h1]
   refine uU hn P (by omega) (oJ.snoc (fun i j hij hj=>?_) (by omega) (Int.le_of_lt dr))
   rw [show i=j by omega];exact Int.le_refl _
theorem zV (hn:0<n) (P:Pm n p) {k:Nat} (hu:Up r p k):∀ (f l u:Nat),l≤u→u≤k→u - l≤f→(∀ i,i<l→vl r p i≤vl r p k)→(∀ i,u≤i→i<k→vl r p k<vl r p i) →
  Hq n (ltr r) (kas_place p k f l u) (fun x=>x≤k∧(∀ i,i<x→vl r p i≤vl r p k)∧∀ i,x≤i→i<k→vl r p k<vl r p i)
 | 0,l,u,h1,h2,h3,a,b=>iY ⟨by omega,a,fun i hi hk=>b i (by omega) hk⟩
 | f+1,l,u,h1,h2,h3,a,b=>by
  unfold kas_place
  by_cases h:l≥u
  ·rw [if_pos h];exact iY ⟨by omega,a,fun i hi hk=>b i (by omega) hk⟩
  ·rw [if_neg h]
   refine qJ (P.lt hn _) (P.lt hn _) ?_
   by_cases c:r (p.getD k 0)<r (p.getD ((l+u) / 2) 0)
   ·rw [show ltr r (p.getD k 0) (p.getD ((l+u) / 2) 0)=true from decide_eq_true c,if_pos rfl]
    refine zV hn P hu f l ((l+u) / 2) (by omega) (by omega) (by omega) a fun i hi hk=>?_
    have c':vl r p k<vl r p ((l+u) / 2):=c
    exact Int.lt_of_lt_of_le c' (hu _ _ hi hk)
   ·rw [show ltr r (p.getD k 0) (p.getD ((l+u) / 2) 0)=false from decide_eq_false c,if_neg (by simp)]
    refine zV hn P hu f ((l+u) / 2+1) u (by omega) (by omega) (by omega) (fun i hi=>?_) b
    have c':vl r p ((l+u) / 2)≤vl r p k:=Int.not_lt.mp c
    exact Int.le_trans (hu i ((l+u) / 2) (by omega) (by omega)) c'
theorem b1g (hn:0<n):∀ (f:Nat) (p:Array Nat) (k:Nat),Pm n p→0<k→k+f=n→Up r p k→Hq n (ltr r) (kas_bin f p k) (fun q=>Pm n q∧Up r q n)
 | 0,p,k,P,_,hk,hu=>iY ⟨P,by rw [show n=k by omega];exact hu⟩
 | f+1,p,k,P,h0,hk,hu=>by
  unfold kas_bin
  refine mT (iJ (zV hn P hu k 0 k (Nat.zero_le _) (Nat.le_refl _) (by omega) (fun i hi=>absurd hi (by omega)) (fun i hi hk=>absurd hi (by omega))) fun l ⟨a,b,c⟩=>?_)
  refine b1g hn f _ (k+1) (P.bub _ _) (by omega) (by omega) fun i j hij hj=>?_
  have hs:k<p.size:=by rw [P.size];omega
  have ei:=a5X (r:=r) hs (show k - l≤k by omega) i
  have ej:=a5X (r:=r) hs (show k - l≤k by omega) j
  rw [show k - (k - l)=l by omega] at ei ej
  rw [ei,ej]
  by_cases i1:i=l
  ·rw [if_pos i1]
   by_cases j1:j=l
   ·rw [if_pos j1];exact Int.le_refl _
   ·rw [if_neg j1,if_pos (by omega)];exact Int.le_of_lt (c (j - 1) (by omega) (by omega))
  ·rw [if_neg i1]
   by_cases i2:l<i∧i≤k
   ·rw [if_pos i2,if_neg (by omega),if_pos (by omega)];exact hu _ _ (by omega) (by omega)
   ·rw [if_neg i2]
    by_cases j1:j=l
    ·rw [if_pos j1];exact b i (by omega)
    ·rw [if_neg j1]
     by_cases j2:l<j∧j≤k
     ·rw [if_pos j2];exact hu _ _ (by omega) (by omega)
     ·rw [if_neg j2];exact hu _ _ hij (by omega)
theorem h_sort (hn:2≤n):Hq n (ltr r) (kas_sort n) (fun q=>Pm n q∧Up r q n):=by
 unfold kas_sort
 refine mT (iJ (b0i (by omega) ⟨by simp,Array.Perm.refl _⟩) fun x ⟨a,b,c,d⟩=>?_)
 by_cases h:x.1<n
 ·rw [if_pos h,show max x.1 1=x.1 by omega]
  exact b1g (by omega) _ _ _ a b (by omega) d
 ·rw [if_neg h]
  exact iY ⟨a,by rw [show n=x.1 by omega];exact d⟩
end
end L2.ST
namespace L2.L3
open PySem
def ltC:PyData→PyData→Bool
 | .int a,.int b=>decide (a<b)
 | .str a,.str b=>!bP b a
 | _,_=>false
def eqC:PyData→PyData→Bool
 | .int a,.int b=>a==b
 | .str a,.str b=>a==b
 | _,_=>false
def ltR:List PyData→List PyData→Bool
 | a::r,b::s=>if eqC a b then ltR r s else ltC a b
 | _,_=>false
def fC:List Bool→List PyData→Bool
 | [],[]=>true
 | true::g,.int _::r=>fC g r
 | false::g,.str _::r=>fC g r
 | _,_=>false
theorem iF {a:List PyData} (h:fC [] a=true):a=[]:=by
 cases a with
 | nil=>rfl
 | cons x r=>cases x<;>cases h
theorem sig_int {g:List Bool} {a:List PyData} (h:fC (true::g) a=true):∃ i r,a=.int i::r∧fC g r=true:=by
 cases a with
 | nil=>cases h
 | cons x r=>cases x<;>first | exact ⟨_,_,rfl,h⟩ | cases h
theorem sig_str {g:List Bool} {a:List PyData} (h:fC (false::g) a=true):∃ i r,a=.str i::r∧fC g r=true:=by
 cases a with
 | nil=>cases h
 | cons x r=>cases x<;>first | exact ⟨_,_,rfl,h⟩ | cases h
theorem a2F (a:Str):bP a a=true:=by have:=jJ a a;rwa [Bool.or_self] at this
theorem zN:∀ (g:List Bool) (a:List PyData),fC g a=true→ltR a a=false
 | [],a,h=>by rw [iF h];rfl
 | true::g,a,h=>by
  obtain ⟨i,r,rfl,h⟩:=sig_int h
  simp [ltR,eqC,zN g r h]
 | false::g,a,h=>by
  obtain ⟨i,r,rfl,h⟩:=sig_str h
  simp [ltR,eqC,zN g r h]
theorem zM:∀ (g:List Bool) (a b:List PyData),fC g a=true→fC g b=true→ltR a b=true∨a=b∨ltR b a=true
 | [],a,b,h,h'=>by rw [iF h,iF h'];exact .inr (.inl rfl)
 | true::g,a,b,h,h'=>by
  obtain ⟨i,r,rfl,h⟩:=sig_int h
  obtain ⟨j,q,rfl,h'⟩:=sig_int h'
  by_cases e:i=j
  ·subst e
   rcases zM g r q h h' with z | z | z
   ·exact .inl (by simp [ltR,eqC,z])
   ·exact .inr (.inl (by rw [z]))
   ·exact .inr (.inr (by simp [ltR,eqC,z]))
  ·by_cases l:i<j
   ·exact .inl (by simp [ltR,eqC,e,ltC,l])
   ·exact .inr (.inr (by have:¬j=i:=fun z=>e z.symm;simp [ltR,eqC,this,ltC];omega))
 | false::g,a,b,h,h'=>by
  obtain ⟨i,r,rfl,h⟩:=sig_str h
  obtain ⟨j,q,rfl,h'⟩:=sig_str h'
  by_cases e:i=j
  ·subst e
   rcases zM g r q h h' with z | z | z
   ·exact .inl (by simp [ltR,eqC,z])
   ·exact .inr (.inl (by rw [z]))
   ·exact .inr (.inr (by simp [ltR,eqC,z]))
  ·have e':¬j=i:=fun z=>e z.symm
   cases l:bP j i with
   | false=>exact .inl (by simp [ltR,eqC,e,ltC,l])
   | true=>
    cases l2:bP i j with
    | false=>exact .inr (.inr (by simp [ltR,eqC,e',ltC,l2]))
    | true=>exact absurd (uI l2 l) e
theorem a2E:∀ (g:List Bool) (a b c:List PyData),fC g a=true→fC g b=true→fC g c=true→ltR a b=true→ltR b c=true→ltR a c=true
 | [],a,b,c,h,_,_,z,_=>by rw [iF h] at z;cases z
 | true::g,a,b,c,h,h',h'',z,z'=>by
  obtain ⟨i,r,rfl,h⟩:=sig_int h
  obtain ⟨j,q,rfl,h'⟩:=sig_int h'
  obtain ⟨k,u,rfl,h''⟩:=sig_int h''
  simp only [ltR,eqC,ltC,beq_iff_eq] at z z' ⊢
  by_cases e:i=j
  ·subst e
   rw [if_pos rfl] at z
   by_cases e2:i=k
   ·subst e2;rw [if_pos rfl] at z' ⊢;exact a2E g r q u h h' h'' z z'
   ·rw [if_neg e2] at z' ⊢;exact z'
  ·rw [if_neg e] at z
   by_cases e2:j=k
   ·subst e2;rw [if_neg e];exact z
   ·rw [if_neg e2] at z'
    rw [decide_eq_true_eq] at z z'
    rw [if_neg (by omega)];exact decide_eq_true (by omega)
 | false::g,a,b,c,h,h',h'',z,z'=>by
  obtain ⟨i,r,rfl,h⟩:=sig_str h
  obtain ⟨j,q,rfl,h'⟩:=sig_str h'
  obtain ⟨k,u,rfl,h''⟩:=sig_str h''
  simp only [ltR,eqC,ltC,beq_iff_eq] at z z' ⊢
  by_cases e:i=j
  ·subst e
   rw [if_pos rfl] at z
   by_cases e2:i=k
   ·subst e2;rw [if_pos rfl] at z' ⊢;exact a2E g r q u h h' h'' z z'
   ·rw [if_neg e2] at z' ⊢;exact z'
  ·rw [if_neg e] at z
   by_cases e2:j=k
   ·subst e2;rw [if_neg e];exact z
   ·rw [if_neg e2] at z'
    have z1:bP j i=false:=by simpa using z
    have z2:bP k j=false:=by simpa using z'
    have y1:bP i j=true:=by have:=jJ i j;rw [z1,Bool.or_false] at this;exact this
    have y2:bP j k=true:=by have:=jJ j k;rw [z2,Bool.or_false] at this;exact this
    have z3:bP k i=false:=by
     cases q3:bP k i with
     | false=>rfl
     | true=>rw [lZ q3 y1] at z2;cases z2
    have e3:¬i=k:=fun w=>by subst w;rw [a2F] at z3;cases z3
    rw [if_neg e3,z3];rfl
def ltT:PyData→PyData→Bool
 | .tuple a,.tuple b=>ltR a b
 | _,_=>false
def cH (g:List Bool):PyData→Bool
 | .tuple a=>fC g a
 | _=>false
theorem fI {g:List Bool} {d:PyData} (h:cH g d=true):∃ a,d=.tuple a∧fC g a=true:=by
 cases d<;>first | exact ⟨_,rfl,h⟩ | cases h
section
variable {g:List Bool} {a b c:PyData}
theorem a3H (h:cH g a=true):ltT a a=false:=by obtain ⟨x,rfl,h⟩:=fI h;exact zN g x h
theorem zK (h:cH g a=true) (h':cH g b=true):ltT a b=true∨a=b∨ltT b a=true:=by
 obtain ⟨x,rfl,h⟩:=fI h
 obtain ⟨y,rfl,h'⟩:=fI h'
 exact (zM g x y h h').imp id (Or.imp (fun e=>by rw [e]) id)
theorem zL (h:cH g a=true) (h':cH g b=true) (h'':cH g c=true) (z:ltT a b=true) (z':ltT b c=true):ltT a c=true:=by
 obtain ⟨x,rfl,h⟩:=fI h
 obtain ⟨y,rfl,h'⟩:=fI h'
 obtain ⟨u,rfl,h''⟩:=fI h''
 exact a2E g x y u h h' h'' z z'
theorem b2J (h:cH g a=true) (h':cH g b=true) (h'':cH g c=true) (z:ltT b a=false) (z':ltT c b=false):ltT c a=false:=by
 cases e:ltT c a with
 | false=>rfl
 | true=>
  rcases zK h h' with q | q | q
  ·rw [zL h'' h h' e q] at z';cases z'
  ·subst q;rw [e] at z';cases z'
  ·rw [q] at z;cases z
end
def a2K (x:PyData):List PyData→List PyData
 | []=>[x]
 | y::l=>if ltT y x then y::a2K x l else x::y::l
def gX (l:List PyData):List PyData:=l.foldr a2K []
theorem qH (x:PyData):∀ l:List PyData,(a2K x l).Perm (x::l)
 | []=>.refl _
 | y::l=>by
  unfold a2K
  split
  ·exact ((qH x l).cons y).trans (.swap x y l)
  ·exact .refl _
theorem mL:∀ l:List PyData,(gX l).Perm l
 | []=>.refl _
 | x::l=>(qH x _).trans ((mL l).cons x)
abbrev a0w (l:List PyData):Prop:=l.Pairwise fun a b=>ltT b a=false
theorem rM {g:List Bool} {x:PyData} (hx:cH g x=true):∀ l:List PyData,(∀ d∈l,cH g d=true)→a0w l→a0w (a2K x l)
 | [],_,_=>by simp [a2K]
 | y::l,h,hp=>by
  have hp':=List.pairwise_cons.mp hp
  have hy:=h y (by simp)
  unfold a2K
  by_cases e:ltT y x=true
  ·rw [if_pos e,a0w,List.pairwise_cons]
   refine ⟨fun z hz=>?_,rM hx l (fun d hd=>h d (List.mem_cons_of_mem _ hd)) hp'.2⟩
   rcases List.mem_cons.mp ((qH x l).mem_iff.mp hz) with rfl | hz
   ·cases q:ltT z y with
    | false=>rfl
    | true=>have:=zL hx hy hx q e;rw [a3H hx] at this;cases this
   ·exact hp'.1 z hz
  ·rw [if_neg e,a0w,List.pairwise_cons]
   have e':ltT y x=false:=by simpa using e
   refine ⟨fun z hz=>?_,hp⟩
   rcases List.mem_cons.mp hz with rfl | hz
   ·exact e'
   ·exact b2J hx hy (h z (List.mem_cons_of_mem _ hz)) e' (hp'.1 z hz)
theorem lR {g:List Bool}:∀ l:List PyData,(∀ d∈l,cH g d=true)→a0w (gX l)
 | [],_=>.nil
 | x::l,h=>rM (h x (by simp)) _ (fun d hd=>h d (List.mem_cons_of_mem _ ((mL l).mem_iff.mp hd))) (lR l fun d hd=>h d (List.mem_cons_of_mem _ hd))
theorem a0E {g:List Bool}:∀ (l m:List PyData),l.Perm m→(∀ d∈l,cH g d=true)→a0w l→a0w m→l=m
 | [],m,hp,_,_,_=>by rw [List.nil_perm.mp hp]
 | x::l,[],hp,_,_,_=>by have:=hp.length_eq;simp at this
 | x::l,y::m,hp,h,h1,h2=>by
  have q1:=List.pairwise_cons.mp h1
  have q2:=List.pairwise_cons.mp h2
  have hy:y∈x::l:=hp.mem_iff.mpr (by simp)
  have hx:x∈y::m:=hp.mem_iff.mp (by simp)
  have e:x=y:=by
   rcases List.mem_cons.mp hy with z | z
   ·exact z.symm
   ·rcases List.mem_cons.mp hx with w | w
    ·exact w
    ·rcases zK (h x (by simp)) (h y hy) with u | u | u
     ·rw [q2.1 x w] at u;cases u
     ·exact u
     ·rw [q1.1 y z] at u;cases u
  subst e
  rw [a0E l m (List.Perm.cons_inv hp) (fun d hd=>h d (List.mem_cons_of_mem _ hd)) q1.2 q2.2]
theorem a8Y {g:List Bool} {l m:List PyData} (hp:l.Perm m) (h:∀ d∈m,cH g d=true) (hs:a0w l):l=gX m:=
 a0E (g:=g) l (gX m) (hp.trans (mL m).symm) (fun d hd=>h d (hp.mem_iff.mp hd)) hs (lR m h)
def rk (ds:List PyData) (i:Nat):Int:=((ds.filter fun x=>ltT x (ds.getD i .none)).length:Nat)
theorem sO {α:Type} {p q:α→Bool}:∀ l:List α,(∀ x∈l,p x=true→q x=true)→(l.filter p).length≤(l.filter q).length
 | [],_=>by simp
 | x::l,h=>by
  have ih:=sO l fun y hy=>h y (List.mem_cons_of_mem _ hy)
  cases e:p x with
  | false=>
   rw [List.filter_cons_of_neg (by simp [e])]
   cases e2:q x with
   | false=>rw [List.filter_cons_of_neg (by simp [e2])];exact ih
   | true=>rw [List.filter_cons_of_pos e2,List.length_cons];omega
  | true=>rw [List.filter_cons_of_pos e,List.filter_cons_of_pos (h x (by simp) e),List.length_cons,List.length_cons];omega
theorem a3P {α:Type} {p q:α→Bool}:∀ l:List α,(∀ x∈l,p x=true→q x=true)→(∃ x∈l,p x=false∧q x=true)→(l.filter p).length<(l.filter q).length
 | [],_,⟨x,hx,_⟩=>by cases hx
 | x::l,h,⟨y,hy,h1,h2⟩=>by
  have ih:=sO l fun y hy=>h y (List.mem_cons_of_mem _ hy)
  rcases List.mem_cons.mp hy with rfl | hy
  ·rw [List.filter_cons_of_neg (by simp [h1]),List.filter_cons_of_pos h2,List.length_cons];omega
  ·have ih2:=a3P l (fun y hy=>h y (List.mem_cons_of_mem _ hy)) ⟨y,hy,h1,h2⟩
   cases e:p x with
   | false=>
    rw [List.filter_cons_of_neg (by simp [e])]
    cases e2:q x with
    | false=>rw [List.filter_cons_of_neg (by simp [e2])];exact ih2
    | true=>rw [List.filter_cons_of_pos e2,List.length_cons];omega
   | true=>rw [List.filter_cons_of_pos e,List.filter_cons_of_pos (h x (by simp) e),List.length_cons,List.length_cons];omega
theorem a6u {g:List Bool} {ds:List PyData} (h:∀ d∈ds,cH g d=true) {i j:Nat} (hi:i<ds.length) (hj:j<ds.length):ltT (ds.getD i .none) (ds.getD j .none)=ST.ltr (rk ds) i j:=by
 have mi:ds.getD i .none∈ds:=by rw [List.getD_eq_getElem?_getD,List.getElem?_eq_getElem hi];exact List.getElem_mem hi
 have mj:ds.getD j .none∈ds:=by rw [List.getD_eq_getElem?_getD,List.getElem?_eq_getElem hj];exact List.getElem_mem hj
 unfold ST.ltr rk
 generalize ds.getD i PyData.none=a at *
 generalize ds.getD j PyData.none=b at *
 have ha:=h a mi
 have hb:=h b mj
 cases e:ltT a b with
 | true=>
  refine (decide_eq_true ?_).symm
  have:=a3P (p:=fun x=>ltT x a) (q:=fun x=>ltT x b) ds (fun x hx z=>zL (h x hx) ha hb z e) ⟨a,mi,a3H ha,e⟩
  omega
 | false=>
  refine (decide_eq_false ?_).symm
  have:=sO (p:=fun x=>ltT x b) (q:=fun x=>ltT x a) ds (fun x hx z=>by
   rcases zK ha hb with q | q | q
   ·rw [e] at q;cases q
   ·subst q;exact z
   ·exact zL (h x hx) hb ha z q)
  omega
theorem kX {g:List Bool} {ds:List PyData} (h:∀ d∈ds,cH g d=true) {p:Array Nat} (P:ST.Pm ds.length p) (U:ST.Up (rk ds) p ds.length):(p.toList.map fun i=>ds.getD i .none)=gX ds:=by
 have hl:p.toList.length=ds.length:=by rw [Array.length_toList];exact P.size
 have hr:(List.range ds.length).map (fun i=>ds.getD i .none)=ds:=by
  refine List.ext_getElem (by simp) fun i h1 h2=>?_
  simp [List.getD_eq_getElem?_getD,h2]
 have hp:(p.toList.map fun i=>ds.getD i .none).Perm ds:=by
  have:=(Array.perm_iff_toList_perm.mp P.perm).map fun i=>ds.getD i PyData.none
  simp only [List.toList_toArray] at this
  rw [hr] at this
  exact this
 refine a8Y hp h ?_
 unfold a0w
 rw [List.pairwise_map,List.pairwise_iff_getElem]
 intro i j hi hj hij
 have hi':i<p.size:=by simpa using hi
 have hj':j<p.size:=by simpa using hj
 have u:=U i j (Nat.le_of_lt hij) (by rw [P.size] at hj';exact hj')
 unfold ST.vl at u
 have ei:p.toList[i]=p.getD i 0:=by simp [Array.getD,hi']
 have ej:p.toList[j]=p.getD j 0:=by simp [Array.getD,hj']
 rw [ei,ej]
 by_cases hn:0<ds.length
 ·rw [a6u h (P.lt hn j) (P.lt hn i)]
  exact decide_eq_false (by omega)
 ·rw [P.size] at hi';omega
end L2.L3
namespace L2.L3
open PySem PySem.W PyProof.Rows PySem.Calls
section
variable {prog:Program} {w:World} {A:Around} {E:Value→Shared→Prop} {s:Shared}
theorem a9G {Q:Bool→Shared→Prop} (b:Bool) (m n:Int) (t u:Tok) (h:Q (decide (m<n)) s):wpAny (model prog w) A (oneLt' b (.int m t) (.int n u)) Q E s:=by
 cases b with
 | true=>exact oneLt_int h
 | false=>exact kat_one _ _ (lt_int h)
theorem a9F {Q:Bool→Shared→Prop} (b:Bool) (m n:Str) (t u:Tok) (h:Q (decide (m.cps.toList<n.cps.toList)) s):wpAny (model prog w) A (oneLt' b (.str m t) (.str n u)) Q E s:=by
 cases b with
 | true=>exact oneLt_str h
 | false=>exact kat_one _ _ (lt_str h)
theorem vK {Q:Bool→Shared→Prop}:∀ (g:List Bool) (xs ys:List Value) (ds es:List PyData) (as bs:List Addr) (i:Nat),ReadsAll s.heap xs ds as→ReadsAll s.heap ys es bs→fC g ds=true→fC g es=true→Q (ltR ds es) s →
  KatLex prog w A true false Q (xs.zip ys) i s
 | [],xs,ys,ds,es,as,bs,i,r,r',h,h',q=>by
  have e1:=iF h
  have e2:=iF h'
  subst e1;subst e2
  cases r;cases r'
  exact kat_nil q
 | true::g,xs,ys,ds,es,as,bs,i,r,r',h,h',q=>by
  obtain ⟨m,r1,rfl,h⟩:=sig_int h
  obtain ⟨n,r2,rfl,h'⟩:=sig_int h'
  cases r with | cons v rr=>
  cases r' with | cons v' rr'=>
  cases v;cases v'
  refine kat_cons (SeqAt.EqAt.int_int _ _ _ _ _ _ _ _ ?_)
  by_cases e:m=n
  ·subst e
   rw [beq_self_eq_true]
   refine kat_yes (vK g _ _ _ _ _ _ _ rr rr' h h' ?_)
   simpa [ltR,eqC] using q
  ·rw [beq_eq_false_iff_ne.mpr e]
   refine kat_no (a9G _ _ _ _ _ ?_)
   simpa [ltR,eqC,e,ltC] using q
 | false::g,xs,ys,ds,es,as,bs,i,r,r',h,h',q=>by
  obtain ⟨m,r1,rfl,h⟩:=sig_str h
  obtain ⟨n,r2,rfl,h'⟩:=sig_str h'
  cases r with | cons v rr=>
  cases r' with | cons v' rr'=>
  cases v;cases v'
  refine kat_cons (SeqAt.EqAt.str_str _ _ _ _ _ _ _ _ ?_)
  by_cases e:m=n
  ·subst e
   rw [beq_self_eq_true]
   refine kat_yes (vK g _ _ _ _ _ _ _ rr rr' h h' ?_)
   simpa [ltR,eqC] using q
  ·rw [beq_eq_false_iff_ne.mpr e]
   refine kat_no (a9F _ _ _ _ _ ?_)
   have:ltR (.str m::r1) (.str n::r2)=decide (m.cps.toList<n.cps.toList):=by
    simp [ltR,eqC,e,ltC,bP]
   rw [←this];exact q
theorem a6r {Q:Bool→Shared→Prop} {g:List Bool} {v u:Value} {d e:PyData} {as bs:List Addr} (r:Reads s.heap v d as) (r':Reads s.heap u e bs) (h:cH g d=true) (h':cH g e=true) (q:Q (ltT d e) s) :
  wpAny (model prog w) A (keyLt' (tuples' true) v u) Q E s:=by
 obtain ⟨x,rfl,h⟩:=fI h
 obtain ⟨y,rfl,h'⟩:=fI h'
 cases r with
 | tuple hg hc hd rr=>
  cases r' with
  | tuple hg' hc' hd' rr'=>
   refine kat_lt hg hd hg' hd' ?_
   have sz:∀ (g:List Bool) (x y:List PyData),fC g x=true→fC g y=true→x.length=y.length:=by
    intro g
    induction g with
    | nil=>intro x y h h';rw [iF h,iF h']
    | cons b g ih=>
     intro x y h h'
     cases b with
     | true=>obtain ⟨_,_,rfl,h⟩:=sig_int h;obtain ⟨_,_,rfl,h'⟩:=sig_int h';simp [ih _ _ h h']
     | false=>obtain ⟨_,_,rfl,h⟩:=sig_str h;obtain ⟨_,_,rfl,h'⟩:=sig_str h';simp [ih _ _ h h']
   have ln:∀ {vs:List Value} {ds:List PyData} {as:List Addr},ReadsAll s.heap vs ds as→vs.length=ds.length:=by
    intro vs
    induction vs with
    | nil=>intro ds as r;cases r;rfl
    | cons v vs ih=>intro ds as r;cases r with | cons _ r=>simp [ih r]
   have e1:=ln rr
   have e2:=ln rr'
   have e3:=sz _ _ _ h h'
   rw [decide_eq_false (by rw [←Array.length_toList,←Array.length_toList];omega)]
   exact vK g _ _ _ _ _ _ 0 rr rr' h h' q
inductive Rows (h:Heap):List Value→List PyData→Prop
 | nil:Rows h [] []
 | cons {v:Value} {vs:List Value} {d:PyData} {ds:List PyData} {as:List Addr}:Reads h v d as→Rows h vs ds→Rows h (v::vs) (d::ds)
theorem Rows.len {h:Heap} {vs:List Value} {ds:List PyData} (r:Rows h vs ds):vs.length=ds.length:=by
 induction r with
 | nil=>rfl
 | cons _ _ ih=>simp [ih]
theorem Rows.keeps {h h':Heap} (k:∀ b o,h.get? b=some o→h'.get? b=some o) {vs:List Value} {ds:List PyData} (r:Rows h vs ds):Rows h' vs ds:=by
 induction r with
 | nil=>exact .nil
 | cons r _ ih=>exact .cons (Reads.keeps k r) ih
theorem Rows.at {h:Heap} {vs:List Value} {ds:List PyData} (r:Rows h vs ds):∀ i,i<vs.length→∃ as,Reads h (vs.getD i .none) (ds.getD i .none) as:=by
 induction r with
 | nil=>intro i hi;simp at hi
 | cons r _ ih=>
  intro i hi
  cases i with
  | zero=>exact ⟨_,r⟩
  | succ i=>exact ih i (by simpa using hi)
theorem Rows.firsts {h:Heap} {g:List Bool} {k:Bool} {vs:List Value} {ds:List PyData} (r:Rows h vs ds) (hs:∀ d∈ds,cH (k::g) d=true) :
  ∃ fs:List Value,KatTups h vs fs∧fs.length=vs.length∧∀ v∈fs,(k=true∧∃ i t,v=.int i t)∨(k=false∧∃ i t,v=.str i t):=by
 induction r with
 | nil=>exact ⟨[],.nil,rfl,fun v hv=>by cases hv⟩
 | @cons v vs d ds as r _ ih=>
  obtain ⟨fs,t,l,a⟩:=ih fun d hd=>hs d (List.mem_cons_of_mem _ hd)
  obtain ⟨x,rfl,hx⟩:=fI (hs d (by simp))
  cases r with
  | tuple hg hc hd rr=>
   cases k with
   | true=>
    obtain ⟨i,y,rfl,hy⟩:=sig_int hx
    generalize hv:Array.toList _=vl at rr
    cases rr with | cons z rr=>
    cases z with | int _ tk=>
    refine ⟨.int i tk::fs,KatTups.cons hg hc hd (by rw [←Array.getElem?_toList,hv];rfl) t,by simp [l],fun v hv=>?_⟩
    ·rcases List.mem_cons.mp hv with rfl | hv
     ·exact .inl ⟨rfl,_,_,rfl⟩
     ·exact a v hv
   | false=>
    obtain ⟨i,y,rfl,hy⟩:=sig_str hx
    generalize hv:Array.toList _=vl at rr
    cases rr with | cons z rr=>
    cases z with | str _ tk=>
    refine ⟨.str i tk::fs,KatTups.cons hg hc hd (by rw [←Array.getElem?_toList,hv];rfl) t,by simp [l],fun v hv=>?_⟩
    ·rcases List.mem_cons.mp hv with rfl | hv
     ·exact .inr ⟨rfl,_,_,rfl⟩
     ·exact a v hv
theorem wR {g:List Bool} {k:Bool} {vs:List Value} {ds:List PyData} (r:Rows s.heap vs ds) (hs:∀ d∈ds,cH (k::g) d=true) (hne:0<vs.length) {Q:SortKind→Shared→Prop} (h:Q (tuples' true) s) :
  wpAny (model prog w) A (keyKind' vs.toArray) Q E s:=by
 obtain ⟨fs,t,l,a⟩:=r.firsts hs
 cases k with
 | true=>
  refine kat_kind (T:=.type "int") t (by omega) (fun v hv=>?_) (by decide) h
  rcases a v hv with ⟨_,i,t,rfl⟩ | ⟨z,_⟩
  ·exact Looks.of_pure rfl
  ·cases z
 | false=>
  refine kat_kind (T:=.type "str") t (by omega) (fun v hv=>?_) (by decide) h
  rcases a v hv with ⟨z,_⟩ | ⟨_,i,t,rfl⟩
  ·cases z
  ·exact Looks.of_pure rfl
theorem uG {a:Addr} {vs:List Value} {ds:List PyData} {g:List Bool} {k:Bool} {n:Nat} {h0:Heap} {P:Fin→Shared→Prop} (ho:s.heap.get? a=some (seqObj "list" vs.toArray n))
  (rd:Rows h0 vs ds) (hk:∀ b o,h0.get? b=some o→b≠a∧s.heap.get? b=some o) (hs:∀ d∈ds,cH (k::g) d=true) (h64:vs.length<64)
  (h:∀ p:Array Nat,ST.Pm ds.length p→(p.toList.map fun i=>ds.getD i .none)=gX ds→P (.done (.ret .none)) { s with heap:=sortedHeap s.heap a vs (p.toList.map fun i=>vs.getD i .none).toArray }) :
  wpAny (model prog w) A (Builtin.«list.sort» ⟨[.ref a],[]⟩) P E s:=by
 have ln:=rd.len
 rw [list_sort_plain]
 have ha:a<s.heap.objs.size:=Heap.lt_size ho
 refine wpAny_bind (listItems_at ho rfl ?_)
 refine wpAny_bind (listUpdate_at ho rfl ?_)
 obtain ⟨e1,ho1⟩:∃ e1,(s.heap.update a (Obj.mapSeq fun _=>#[])).get? a=some (seqObj "list" #[] e1):=⟨_,get?_update_seq ho (fun _=>#[])⟩
 refine wpAny_bind (seqEpoch_at ho1 rfl ?_)
 refine wpAny_bind (wpAny_newTuple ?_)
 refine wpAny_bind (wpAny_newList ?_)
 refine wpAny_holding ?_
 have ho6:(((s.heap.update a (Obj.mapSeq fun _=>#[])).push (seqObj "tuple" vs.toArray 0)).push (seqObj "list" #[] 0)).get? a=some (seqObj "list" #[] e1):=by
  rw [Heap.get?_push_ne _ _ _ (by rw [size_push',Heap.size_update];exact Nat.ne_of_lt (Nat.lt_succ_of_lt ha)),Heap.get?_push_ne _ _ _ (by rw [Heap.size_update];exact Nat.ne_of_lt ha)]
  exact ho1
 have rd6:Rows (((s.heap.update a (Obj.mapSeq fun _=>#[])).push (seqObj "tuple" vs.toArray 0)).push (seqObj "list" #[] 0)) vs ds:=rd.keeps fun b o q=>by
  obtain ⟨h1,h2⟩:=hk b o q
  refine Heap.get?_push_of_some _ (Heap.get?_push_of_some _ ?_)
  rw [Heap.get?_update_ne _ _ _ _ h1];exact h2
 show wpAny (model prog w) A _ P E { s with heap:=((s.heap.update a (Obj.mapSeq fun _=>#[])).push (seqObj "tuple" vs.toArray 0)).push (seqObj "list" #[] 0) }
 dsimp only
 have hsz:vs.toArray.size=vs.length:=by simp
 by_cases h2:vs.toArray.size<2
 ·rw [if_pos h2,if_pos h2]
  refine wpAny_bind (wpAny_pure ?_)
  rw [StateT.run_pure]
  refine wpAny_bind (wpAny_pure ?_)
  dsimp only
  refine wpAny_bind (seqEpoch_at ho6 rfl ?_)
  refine wpAny_bind (listUpdate_at ho6 rfl ?_ (hsz2:=by rw [Array.size_map];show (pairsOf vs).size≤_;rw [pairsOf_size,sizeLine_eq];omega))
  simp only [bne_self_eq_false,Bool.false_eq_true,if_false]
  refine wpAny_pure ?_
  have hpm:ST.Pm ds.length (List.range vs.length).toArray:=by rw [ln];exact ⟨by simp,Array.Perm.refl _⟩
  have hp:=h (List.range vs.length).toArray hpm (kX hs hpm (fun i j hij hj=>by rw [show i=j by omega];exact Int.le_refl _))
  have e:(List.range vs.length).map (fun i=>vs.getD i Value.none)=vs:=by
   refine List.ext_getElem (by simp) fun i h1 h2=>?_
   simp [List.getD_eq_getElem?_getD,h2]
  have e2:((vs.toArray.zip vs.toArray).map (·.2))=vs.toArray:=by
   apply Array.toList_inj.mp
   simp [Array.toList_zip,List.map_snd_zip]
  simp only [List.toList_toArray,e] at hp
  rw [←e2] at hp
  exact hp
 ·rw [if_neg h2,if_neg h2]
  refine wpAny_bind (wR (s:={ s with heap:=_ }) rd6 hs (by omega) ?_)
  have hq:=ST.h_sort (r:=rk ds) (n:=vs.length) (by omega)
  refine wpAny_bind (wpAny_mono (kat_run (κ:=tuples' true) (ks:=vs) (vs:=vs) (s:={ s with heap:=_ }) (G:=fun p s'=>s'={ s with heap:=((s.heap.update a (Obj.mapSeq fun _=>#[])).push (seqObj "tuple" vs.toArray 0)).push (seqObj "list" #[] 0) }∧ST.Pm vs.length p∧ST.Up (rk ds) p vs.length)
   (Q:=fun st' s'=>∃ p:Array Nat,arrOf st'=p.map (kas_item (vs.toArray.zip vs.toArray))∧failedOf st'=none∧s'={ s with heap:=((s.heap.update a (Obj.mapSeq fun _=>#[])).push (seqObj "tuple" vs.toArray 0)).push (seqObj "list" #[] 0) }∧ST.Pm vs.length p∧ST.Up (rk ds) p vs.length)
   rfl (by omega) h64 (fun p' st' s' a1 a2 a3 a4=>⟨p',a2,a3,a4⟩)
   (ST.wp_run (n:=vs.length) (lt:=ST.ltr (rk ds)) (fun i j C hi hj hC=>?_) _ hq.1 ⟨rfl,hq.2⟩)) ?_ fun _ _ e=>e)
  ·obtain ⟨as,ri⟩:=rd6.at i hi
   obtain ⟨bs,rj⟩:=rd6.at j hj
   have mi:ds.getD i .none∈ds:=by rw [List.getD_eq_getElem?_getD,List.getElem?_eq_getElem (by omega)];exact List.getElem_mem (by omega)
   have mj:ds.getD j .none∈ds:=by rw [List.getD_eq_getElem?_getD,List.getElem?_eq_getElem (by omega)];exact List.getElem_mem (by omega)
   refine a6r ri rj (hs _ mi) (hs _ mj) ?_
   rw [a6u hs (by omega) (by omega)]
   exact hC
  ·rintro ⟨⟨⟩,st'⟩ s' ⟨p,har,hf,rfl,hP,hU⟩
   dsimp only
   have hout:=kat_snds rfl har
   refine wpAny_bind (seqEpoch_at ho6 rfl ?_)
   rw [hout]
   refine wpAny_bind (listUpdate_at ho6 rfl ?_ (hsz2:=by rw [List.size_toArray,List.length_map,Array.length_toList,hP.size,sizeLine_eq];omega))
   rw [hf]
   simp only [bne_self_eq_false,Bool.false_eq_true,if_false]
   rw [ln] at hP hU
   exact wpAny_pure (h p hP (kX hs hP hU))
theorem nQ {l:Addr} {T:String} {o:Obj} {vs:List Value} {n:Nat} {Q:List Value→Shared→Prop} (hT:T = "list" ∨ T = "tuple") (ho:s.heap.get? l=some o) (hc:o.cls=.type T) (hd:o.data=.seq vs.toArray n) (few:vs.length≤sizeLine)
  (hQ:∀ h',(∀ b o,s.heap.get? b=some o→h'.get? b=some o)→s.heap.objs.size≤h'.objs.size→Q vs { s with heap:=h' }):wpAny (model prog w) A (collect (.ref l)) Q E s:=by
 unfold collect
 refine wpAny_bind (wpAny_runValue (codeAny_builtin F.entry_proto_collect ?_))
 rw [Around.under_plainId F.plain_proto_collect _]
 show wpAny _ A.in1 (newList []>>=fun l'=>again (.builtin "list.__iadd__" ⟨[l',.ref l],[]⟩)) _ _ s
 refine wpAny_bind (wpAny_newObj_type ?_)
 refine wpAny_pure ⟨plainId_quiet F.plain_list_iadd _,codeAny_builtin F.entry_list_iadd ?_⟩
 rw [Around.under_plainId F.plain_list_iadd _]
 have hS1:(s.heap.push { cls:=.type "list", data:=.seq ([]:List Value).toArray }).get? s.heap.objs.size=some { cls:=.type "list", data:=.seq ([]:List Value).toArray }:=Heap.get?_push_size _ rfl
 have ty1:Shared.TypeIs { s with heap:=s.heap.push { cls:=.type "list", data:=.seq ([]:List Value).toArray } } (.ref l) T:=⟨o,Heap.get?_push_of_some _ ho,hc⟩
 show wpAny _ A.in1 (Builtin.List.listExtendWith (.ref s.heap.objs.size) (.ref l) (.ref s.heap.objs.size)) _ _ _
 unfold Builtin.List.listExtendWith
 refine wpAny_bind (wpAny_typeOf ty1 ?_)
 rw [if_pos (by rcases hT with rfl | rfl<;>simp)]
 refine wpAny_bind (listItems_at (Heap.get?_push_of_some _ ho) hd ?_)
 refine wpAny_bind (listItems_at hS1 rfl ?_)
 rw [if_neg (by simp)]
 refine wpAny_bind (listUpdate_at hS1 rfl ?_ (Nat.zero_le _) (by rw [Array.size_append,List.size_toArray,List.size_toArray,List.length_nil];omega))
 have hS₂:=Heap.get?_update_self (Obj.mapSeq (·++vs.toArray)) hS1 rfl
 refine wpAny_pure ?_
 show wpAny _ A (load s.heap.objs.size>>=_) _ _ _
 refine wpAny_bind (wpAny_load hS₂ (wpAny_pure ?_))
 have e:(([]:List Value).toArray++vs.toArray).toList=vs:=by simp
 show Q (([]:List Value).toArray++vs.toArray).toList _
 rw [e]
 refine hQ _ (fun b o' hb=>?_) (by rw [Heap.size_update,size_push'];omega)
 rw [Heap.get?_update_ne _ _ _ _ (Nat.ne_of_lt (Heap.lt_size hb))]
 exact Heap.get?_push_of_some _ hb
theorem tI {l:Addr} {T:String} {o:Obj} {vs:List Value} {n:Nat} {Q:Value→Shared→Prop} {R:Array Value→Prop} (hT:T = "list" ∨ T = "tuple") (ho:s.heap.get? l=some o) (hc:o.cls=.type T) (hd:o.data=.seq vs.toArray n) (h64:vs.length<64)
  (sort:∀ (A':Around) (E':Value→Shared→Prop) (s':Shared) (a:Addr) (k:Nat) (P:Fin→Shared→Prop),s'.heap.get? a=some (seqObj "list" vs.toArray k)→(∀ b o,s.heap.get? b=some o→b≠a∧s'.heap.get? b=some o) →
   (∀ out,R out→P (.done (.ret .none)) { s' with heap:=sortedHeap s'.heap a vs out })→wpAny (model prog w) A' (Builtin.«list.sort» ⟨[.ref a],[]⟩) P E' s')
  (h:∀ (a:Addr) (h2:Heap) (ep:Nat) (out:Array Value),R out→(∀ b o,s.heap.get? b=some o→h2.get? b=some o)→s.heap.objs.size≤a→h2.get? a=some (seqObj "list" out ep)→Q (.ref a) { s with heap:=h2 }) :
  wpAny (model prog w) A (call (.builtin "sorted") [.ref l]) Q E s:=by
 refine Calls.call_function_entry kind_sorted plain_sorted entry_sorted (args_sorted1 _) ?_
 unfold Builtin.«sorted»
 refine wpAny_bind (m:=checkCount "sorted" 1 1 _) (wpAny_pure ?_)
 refine wpAny_bind (nQ hT ho hc hd (by rw [sizeLine_eq];omega) fun h1 kp up=>?_)
 refine wpAny_bind (wpAny_newList ?_ (by rw [sizeLine_eq];omega))
 have hoL:(h1.push (seqObj "list" vs.toArray 0)).get? h1.objs.size=some (seqObj "list" vs.toArray 0):=Heap.get?_push_size _ rfl
 have keep:∀ b o,s.heap.get? b=some o→b≠h1.objs.size∧(h1.push (seqObj "list" vs.toArray 0)).get? b=some o:=fun b o q=>⟨Nat.ne_of_lt (Heap.lt_size (kp _ _ q)),Heap.get?_push_of_some _ (kp _ _ q)⟩
 show wpAny _ _ _ _ _ { s with heap:=h1.push (seqObj "list" vs.toArray 0) }
 refine wpAny_bind (wpAny_holding (wpAny_call_entry slot_list_sort ⟨_,hoL,rfl⟩ entry_list_sort (sort _ _ { s with heap:=h1.push (seqObj "list" vs.toArray 0) } _ 0 _ hoL keep fun out hR=>⟨_,rfl,?_⟩) (args_list_sort _)))
 obtain ⟨e1,ho1⟩:∃ e1,((h1.push (seqObj "list" vs.toArray 0)).update h1.objs.size (Obj.mapSeq fun _=>#[])).get? h1.objs.size=some (seqObj "list" #[] e1):=⟨_,get?_update_seq hoL (fun _=>#[])⟩
 have hz:h1.objs.size<((h1.push (seqObj "list" vs.toArray 0)).update h1.objs.size (Obj.mapSeq fun _=>#[])).objs.size:=Heap.lt_size ho1
 have ho6:=Heap.get?_push_of_some (seqObj "list" #[] 0) (Heap.get?_push_of_some (seqObj "tuple" vs.toArray 0) ho1)
 obtain ⟨e2,ho2⟩:∃ e2,(sortedHeap (h1.push (seqObj "list" vs.toArray 0)) h1.objs.size vs out).get? h1.objs.size=some (seqObj "list" out e2):=⟨_,get?_update_seq ho6 (fun _=>out)⟩
 refine wpAny_pure ⟨_,rfl,h _ _ e2 out hR (fun b o q=>?_) up ho2⟩
 obtain ⟨hb,hq⟩:=keep b o q
 unfold sortedHeap
 rw [Heap.get?_update_ne _ _ _ _ hb]
 refine Heap.get?_push_of_some _ (Heap.get?_push_of_some _ ?_)
 rw [Heap.get?_update_ne _ _ _ _ hb]
 exact hq
end
end L2.L3
namespace L2.L3
open PySem PySem.W PyProof.Rows
def wM:List PyData→Option (List Bool)
 | []=>some []
 | .int _::r=>(wM r).map (true::·)
 | .str _::r=>(wM r).map (false::·)
 | _=>none
def a9b:PyData→Option (List Bool)
 | .tuple a=>wM a
 | _=>none
def a4s (ds:List PyData):Option PyData:=match ds with
 | x::xs=>(match a9b x with
  | some (k::g)=>if (x::xs).all (cH (k::g))&&decide ((x::xs).length<64) then some (.list (gX (x::xs))) else none
  | _=>none)
 | _=>none
def a6i (ds:List PyData):Option PyData:=match a4u ds with
 | some d=>some d
 | none=>(match ds with
  | [.list xs]=>a4s xs
  | [.tuple xs]=>(match eL intD xs with
   | some ns=>if ns.length<64 then some (.list ((sortI ns).map .int)) else none
   | none=>a4s xs)
  | _=>none)
section
variable {X:Cx} {pins:List (Addr×Obj)} {σ:List (Option V)} {H:Hp} {s:Shared}
theorem yX (I:Inv X pins σ H s):∀ {xs:List V} {ds:List PyData} {us:List Value},RepAll X.K H xs ds→aY xs us→Rows s.heap us ds
 | _,_,_,.nil,.nil=>.nil
 | _,_,_,.cons r rr,.cons t tt=>by
  obtain ⟨as,ra⟩:=r.reads I t
  exact .cons ra (yX I rr tt)
theorem RepAll.at {K:PySem.W.Frag} {G:Hp}:∀ {vs:List V} {ds:List PyData},RepAll K G vs ds→∀ i,i<vs.length→Rep K G (vs.getD i .non) (ds.getD i .none)
 | _,_,.nil,i,h=>by simp at h
 | _,_,.cons r rr,0,_=>r
 | _,_,.cons r rr,i+1,h=>RepAll.at rr i (by simpa using h)
theorem RepAll.len {K:PySem.W.Frag} {G:Hp}:∀ {vs:List V} {ds:List PyData},RepAll K G vs ds→vs.length=ds.length
 | _,_,.nil=>rfl
 | _,_,.cons _ rr=>by simp [RepAll.len rr]
theorem RepAll.pick {K:PySem.W.Frag} {G:Hp} {vs:List V} {ds:List PyData} (r:RepAll K G vs ds):∀ p:List Nat,(∀ i∈p,i<vs.length)→RepAll K G (p.map fun i=>vs.getD i .non) (p.map fun i=>ds.getD i .none)
 | [],_=>.nil
 | i::p,h=>.cons (r.at i (h i (by simp))) (RepAll.pick r p fun j hj=>h j (List.mem_cons_of_mem _ hj))
theorem aY.at':∀ {vs:List V} {us:List Value},aY vs us→∀ i,i<vs.length→RelV (vs.getD i .non) (us.getD i .none)
 | _,_,.nil,i,h=>by simp at h
 | _,_,.cons r rr,0,_=>r
 | _,_,.cons r rr,i+1,h=>aY.at' rr i (by simpa using h)
theorem aY.pick {vs:List V} {us:List Value} (r:aY vs us):∀ p:List Nat,(∀ i∈p,i<vs.length)→aY (p.map fun i=>vs.getD i .non) (p.map fun i=>us.getD i .none)
 | [],_=>.nil
 | i::p,h=>.cons (aY.at' r i (h i (by simp))) (aY.pick r p fun j hj=>h j (List.mem_cons_of_mem _ hj))
theorem mM (I:Inv X pins σ H s) {p:Addr} {vs:List V} (h:SqL X.K H p vs∨SqT X.K H p vs):∃ (its:List Value) (T:String) (o:Obj) (n:Nat),(T = "list" ∨ T = "tuple")∧s.heap.get? p=some o∧o.cls=.type T∧o.data=.seq its.toArray n∧aY vs its:=by
 rcases h with h | h
 ·obtain ⟨its,rv,pl,hz⟩:=I.list h
  obtain ⟨o,ho,hc,n,hd⟩:=pl.isList
  exact ⟨its, "list", o,n,.inl rfl,ho,hc,hd,rv⟩
 ·obtain ⟨its,rv,⟨o,ho,hc,n,hd⟩,hz⟩:=I.tuple h
  exact ⟨its, "tuple", o,n,.inr rfl,ho,hc,hd,rv⟩
theorem a0i:eM X (.builtin "sorted") (fun xs H Q=>∃ (p:Addr) (vs:List V) (ds:List PyData) (k:Bool) (g:List Bool),xs=[.ref p]∧(SqL X.K H p vs∨SqT X.K H p vs)∧RepAll X.K H vs ds∧(∀ d∈ds,cH (k::g) d=true)∧ds.length<64 ∧
  ∀ (l:Addr) (ix:List Nat),H l=none→(∀ i∈ix,i<vs.length)→(ix.map fun i=>ds.getD i .none)=gX ds→Q (.ref l) (upd H l (.lst (ix.map fun i=>vs.getD i .non)))):=by
 intro pins s σ H xs us Q I r ⟨p,vs,ds,k,g,e,hq,r2,hs,h64,q⟩
 subst e
 obtain ⟨u,rfl,rx⟩:=vals1 r
 cases rx
 obtain ⟨its,T,o,n,hT,ho,hc,hd,rv⟩:=mM I hq
 have l1:=r2.len
 have l2:=rv.length
 have rd:=yX I r2 rv
 refine tI (R:=fun out=>∃ ix:List Nat,(∀ i∈ix,i<vs.length)∧ix.length=ds.length∧(ix.map fun i=>ds.getD i PyData.none)=gX ds∧out=(ix.map fun i=>its.getD i Value.none).toArray) hT ho hc hd (by omega) (fun A' E' s' a k' P ha keep hP=>uG ha rd keep hs (by omega) fun ix hI he=>hP _ ⟨ix.toList,fun i hi=>?_,by rw [Array.length_toList];exact hI.size,he,rfl⟩) (fun a h2 ep out ⟨ix,hr,hn,he,ho'⟩ kp hz g=>?_)
 ·have:=(Array.perm_iff_toList_perm.mp hI.perm).mem_iff.mp hi
  simp at this
  omega
 ·subst ho'
  have hf:H a=none:=I.hok.fresh hz
  refine ⟨.ref a,_,I.laid (t':=s.toks) kp hz ?_,rfl,q _ ix hf hr he⟩
  refine ⟨?_,ix.map fun i=>its.getD i Value.none,ep,aY.pick rv _ hr,?_⟩
  ·rw [List.length_map,hn]
   exact Nat.le_of_lt (fX (by omega))
  ·rw [g]
theorem a0j:eM X (.builtin "sorted") (fun xs H Q=>∃ (p:Addr) (ns:List Int),xs=[.ref p]∧SqT X.K H p (ns.map V.int)∧ns.length<64∧∀ l,H l=none→Q (.ref l) (upd H l (.lst ((sortI ns).map V.int)))):=by
 intro pins s σ H xs us Q I r ⟨p,ns,e,hq,h64,q⟩
 subst e
 obtain ⟨u,rfl,rx⟩:=vals1 r
 cases rx
 obtain ⟨its,T,o,n,hT,ho,hc,hd,rv⟩:=mM I (.inr hq)
 have hi:=intsAre_of rv
 have hl:=hi.length
 refine tI (R:=fun out=>IntsAre out.toList (sortI ns)) hT ho hc hd (by omega) (fun A' E' s' a k' P ha keep hP=>list_sort_tree ha hi (by omega) fun out ns' h1 h2 h3=>?_) (fun a h2 ep out hR kp hz g=>?_)
 ·have e:=sortI_eq h2 h3
  subst e
  exact hP _ h1
 ·have hf:H a=none:=I.hok.fresh hz
  refine ⟨.ref a,_,I.laid (t':=s.toks) kp hz ?_,rfl,q _ hf⟩
  refine ⟨?_,out.toList,ep,kA hR,?_⟩
  ·rw [List.length_map,(sortI_perm ns).length_eq]
   exact Nat.le_of_lt (fX (by omega))
  ·rw [g]
end
section
variable {X:Cx}
theorem a8X (ds:List PyData) (d:PyData) (h:a6i ds=some d):CallD X (.builtin "sorted") ds d:=by
 unfold a6i at h;split at h
 ·rename_i e
  cases (Option.some.inj h)
  exact b1N ds _ e
 ·have key:∀ (y:PyData) (xs:List PyData),oN y=some xs→∀ d,a4s xs=some d→CallD X (.builtin "sorted") [y] d:=fun y xs hy d h=>by
   unfold a4s at h;split at h
   ·rename_i x xs
    split at h
    ·rename_i k g e
     split at h
     ·rename_i hc
      rw [Bool.and_eq_true] at hc
      cases (Option.some.inj h)
      have hs:∀ d∈x::xs,cH (k::g) d=true:=fun d hd=>List.all_eq_true.mp hc.1 d hd
      exact ⟨_,a0i,fun vs G H Q s r q=>by
       obtain ⟨v,rfl,r0⟩:∃ v,vs=[v]∧Rep X.K G v y:=by
        cases r with
        | cons r rr=>cases rr;exact ⟨_,rfl,r⟩
       obtain ⟨p,us,rfl,hq,r⟩:=kM s hy r0
       exact ⟨_,_,x::xs,k,g,rfl,hq,r.mono s,hs,of_decide_eq_true hc.2,fun l ix hn hi he=>q _ _ _ (.put s hn) (.list (.of aN) (by
        rw [←he]
        exact (r.pick ix hi).mono (Grow.put s hn).gg))⟩⟩
     ·cases h
    ·cases h
   ·cases h
  split at h
  ·exact key _ _ rfl d h
  ·rename_i xs
   split at h
   ·rename_i ns e
    split at h
    ·rename_i hl
     cases (Option.some.inj h)
     have:=dG (g:=.int) (fun d a q=>lA q) e
     subst this
     exact ⟨_,a0j,fun vs G H Q s r q=>by
      cases r with | cons r rr=>cases rr;cases r with | tuple hq r=>
       have e:=r.ints
       subst e
       exact ⟨_,ns,rfl,iO s hq,hl,fun l hn=>q _ _ _ (.put s hn) (.list (.of aN) (eP _))⟩⟩
    ·cases h
   ·exact key _ _ rfl d h
  ·cases h
end
theorem a4r {g:List Bool} {k:Bool} {x:PyData} {xs:List PyData} (hs:∀ d∈x::xs,cH (k::g) d=true) (h64:(x::xs).length<64):a4s (x::xs)=some (.list (gX (x::xs))):=by
 have so:∀ (g:List Bool) (a:List PyData),fC g a=true→wM a=some g:=by
  intro g
  induction g with
  | nil=>intro a h;rw [iF h];rfl
  | cons b g ih=>
   intro a h
   cases b with
   | true=>obtain ⟨i,r,rfl,h⟩:=sig_int h;simp [wM,ih r h]
   | false=>obtain ⟨i,r,rfl,h⟩:=sig_str h;simp [wM,ih r h]
 obtain ⟨a,e,ha⟩:=fI (hs x (by simp))
 have e2:a9b x=some (k::g):=by subst e;exact so _ _ ha
 have e3:((x::xs).all (cH (k::g))&&decide ((x::xs).length<64))=true:=by
  rw [Bool.and_eq_true]
  exact ⟨List.all_eq_true.mpr hs,decide_eq_true h64⟩
 show (match a9b x with | some (k::g)=>if (x::xs).all (cH (k::g))&&decide ((x::xs).length<64) then some (PyData.list (gX (x::xs))) else none | _=>none)=_
 rw [e2]
 exact if_pos e3
theorem a5M {g:List Bool} {k:Bool} {x:PyData} {xs:List PyData} (hs:∀ d∈x::xs,cH (k::g) d=true):eL intD (x::xs)=none:=by
 obtain ⟨a,e,ha⟩:=fI (hs x (by simp))
 subst e;rfl
theorem a4q {g:List Bool} {k:Bool} {ds:List PyData} (hs:∀ d∈ds,cH (k::g) d=true) (h64:ds.length<64):a6i [.list ds]=some (.list (gX ds)):=by
 cases ds with
 | nil=>simp [a6i,a4u,eL,sortI,gX]
 | cons x xs=>
  have e1:a4u [.list (x::xs)]=none:=by
   show (match eL intD (x::xs) with | some ns=>_ | none=>none)=_
   rw [a5M hs]
  show (match a4u [.list (x::xs)] with | some d=>some d | none=>a4s (x::xs))=_
  rw [e1]
  exact a4r hs h64
end L2.L3
namespace L2.L3
open PySem
theorem b3E {α β:Type} {m:Mm α} {a:α} {k:α→Mm β} (h:m=some (.ok a)):bnd m k=k a:=by rw [h];rfl
theorem a8J {α:Type} {m:Mm α} {ρ:List Ent} {a:α} {k:α→Option So} (h:m=some (.ok a)):bns m ρ k=k a:=by rw [h];rfl
theorem xI {α:Type} {t:Tg} {ρb:List Ent} {ft:TF} {fe:EF} (φ:α→PyData) (ρx:α→List Ent) (c:α→Bool) (v:α→PyData):∀ (xs:List α),(∀ x∈xs,tgD t ρb (φ x)=some (ρx x))→(∀ x∈xs,ft (ρx x)=some (.ok (c x)))→(∀ x∈xs,c x=true→fe (ρx x)=some (.ok (v x))) →
  uD t ρb ft fe (xs.map φ)=some ((xs.filter c).map v)
 | [],_,_,_=>rfl
 | x::xs,h1,h2,h3=>by
  have ih:=xI φ ρx c v xs (fun y hy=>h1 y (List.mem_cons_of_mem _ hy)) (fun y hy=>h2 y (List.mem_cons_of_mem _ hy)) (fun y hy=>h3 y (List.mem_cons_of_mem _ hy))
  have e1:=h1 x List.mem_cons_self
  have e2:=h2 x List.mem_cons_self
  rw [List.map_cons,uD,e1]
  dsimp only
  rw [e2]
  cases hc:c x with
  | true=>
   have e3:=h3 x List.mem_cons_self hc
   dsimp only
   rw [e3]
   dsimp only
   rw [ih,List.filter_cons_of_pos hc]
   rfl
  | false=>
   dsimp only
   rw [ih,List.filter_cons_of_neg (by rw [hc];decide)]
theorem mW {α:Type} {t:Tg} {cap:List (Option Nat)} {fi:AF} {ft:TF} {fe:EF} {ρ:List Ent} (φ:α→PyData) (ρx:α→List Ent) (c:α→Bool) (v:α→PyData) (xs:List α) (hi:fi ρ=some (.ok (xs.map φ))) (hz:xs.length≤100000)
  (h1:∀ x∈xs,tgD t (dD cap ρ) (φ x)=some (ρx x)) (h2:∀ x∈xs,ft (ρx x)=some (.ok (c x))) (h3:∀ x∈xs,c x=true→fe (ρx x)=some (.ok (v x))) :
  cF t cap fi ft fe ρ=some (.ok (.list ((xs.filter c).map v))):=by
 unfold cF
 rw [b3E hi,List.length_map,if_pos (by unfold cG;exact decide_eq_true hz),xI φ ρx c v xs h1 h2 h3]
 rfl
theorem filter_all {α:Type} {c:α→Bool} {xs:List α} (h:∀ x∈xs,c x=true):xs.filter c=xs:=List.filter_eq_self.mpr h
theorem cW {α:Type} {t:Tg} {cap:List (Option Nat)} {fi:AF} {fe:EF} {ρ:List Ent} (φ:α→PyData) (ρx:α→List Ent) (v:α→PyData) (xs:List α) (hi:fi ρ=some (.ok (xs.map φ))) (hz:xs.length≤100000)
  (h1:∀ x∈xs,tgD t (dD cap ρ) (φ x)=some (ρx x)) (h3:∀ x∈xs,fe (ρx x)=some (.ok (v x))) :
  cF t cap fi ttT fe ρ=some (.ok (.list (xs.map v))):=by
 rw [mW φ ρx (fun _=>true) v xs hi hz h1 (fun _ _=>rfl) (fun x hx _=>h3 x hx),filter_all (fun _ _=>rfl)]
section
variable {α β:Type} {ρ:List Ent} {fa fb fc fd:EF} {ft fu:TF} {aa:AF} {d e:PyData} {i j k:Int}
@[simp] theorem dU (a:α) (k:α→Mm β):bnd (some (.ok a)) k=k a:=rfl
@[simp] theorem b6L (c:Str) (k:α→Mm β):bnd (some (.ex c)) k=some (.ex c):=rfl
@[simp] theorem yA (a:α) (k:α→Option So):bns (some (.ok a)) ρ k=k a:=rfl
@[simp] theorem b6K (c:Str) (k:α→Option So):bns (some (.ex c)) ρ k=some (.xc c ρ):=rfl
@[simp] theorem a3I (a:α):lft (some a)=some (.ok a):=rfl
@[simp] theorem b4V:cst d ρ=some (.ok d):=rfl
@[simp] theorem a5Y (d:PyData) (r:List Ent):var 0 (.val d::r)=some (.ok d):=rfl
@[simp] theorem b0P (n:Nat) (x:Ent) (r:List Ent):var (n+1) (x::r)=var n r:=rfl
@[simp] theorem a0X (g:PyData→PyData→Option PyData):op2 g fa fb ρ=bnd (fa ρ) fun x=>bnd (fb ρ) fun y=>lft (g x y):=rfl
@[simp] theorem b4A (g:PyData→Option PyData):op1 g fa ρ=bnd (fa ρ) fun x=>lft (g x):=rfl
@[simp] theorem a0v:aF ρ=some (.ok []):=rfl
@[simp] theorem dL:aB fa aa ρ=bnd (fa ρ) fun x=>bnd (aa ρ) fun xs=>some (.ok (x::xs)):=rfl
@[simp] theorem b1F:aK aa ρ=bnd (aa ρ) fun xs=>lft (xE xs):=rfl
@[simp] theorem b5L:eY aa ρ=bnd (aa ρ) fun xs=>lft (xF xs):=rfl
@[simp] theorem b5x (n:Nat):cG n=decide (n≤100000):=rfl
@[simp] theorem b5b (ds:List PyData):xE ds=if ds.length≤100000 then some (.tuple ds) else none:=by unfold xE cG;by_cases h:ds.length≤100000<;>simp [h]
@[simp] theorem b5c (ds:List PyData):xF ds=if ds.length≤100000 then some (.list ds) else none:=by unfold xF cG;by_cases h:ds.length≤100000<;>simp [h]
@[simp] theorem a8y (g:PyData→PyData→Option Bool):oG g fa fb ρ=bnd (fa ρ) fun x=>bnd (fb ρ) fun y=>lft ((g x y).map .bool):=rfl
@[simp] theorem a8x (g:PyData→PyData→Option Bool):fH g fa fb ρ=bnd (fa ρ) fun x=>bnd (fb ρ) fun y=>lft (g x y):=rfl
@[simp] theorem b6d (g g':PyData→PyData→Option Bool):a5t g g' fa fb fc ρ=bnd (fa ρ) fun x=>bnd (fb ρ) fun y=>bnd (lft (g x y)) fun t=>if t then bnd (fc ρ) fun z=>lft ((g' y z).map .bool) else some (.ok (.bool false)):=rfl
@[simp] theorem b6c (g g':PyData→PyData→Option Bool):a8A g g' fa fb fc ρ=bnd (fa ρ) fun x=>bnd (fb ρ) fun y=>bnd (lft (g x y)) fun t=>if t then bnd (fc ρ) fun z=>lft (g' y z) else some (.ok false):=rfl
@[simp] theorem a2e:gG fa ρ=bnd (fa ρ) fun x=>lft (a0A x):=rfl
@[simp] theorem a2f (b:Bool):a0A (.bool b)=some b:=rfl
@[simp] theorem b5i (ds:List PyData):a0A (.list ds)=some (!ds.isEmpty):=rfl
@[simp] theorem b5g (ds:List PyData):a0A (.tuple ds)=some (!ds.isEmpty):=rfl
@[simp] theorem b5j (i:Int):a0A (.int i)=some (i != 0):=rfl
@[simp] theorem b5h:a0A .none=some false:=rfl
@[simp] theorem a6X:hV ft ρ=bnd (ft ρ) fun t=>some (.ok (!t)):=rfl
@[simp] theorem b5G:b2v fa ρ=bnd (fa ρ) fun x=>lft ((kG x).map fun t=>.bool (!t)):=rfl
@[simp] theorem b5f (b:Bool):kG (.bool b)=some b:=rfl
@[simp] theorem b5X (i:Int):intD (.int i)=some i:=rfl
@[simp] theorem b5z (i:Str):yQ (.str i)=some i:=rfl
@[simp] theorem b6f:b6g ft fu ρ=bnd (ft ρ) fun t=>if t then fu ρ else some (.ok false):=rfl
@[simp] theorem b1b:orT ft fu ρ=bnd (ft ρ) fun t=>if t then some (.ok true) else fu ρ:=rfl
@[simp] theorem b3K:qZ fa fb ρ=bnd (fa ρ) fun x=>bnd (lft (kG x)) fun t=>if t then fb ρ else some (.ok (.bool false)):=rfl
@[simp] theorem b6s:orE fa fb ρ=bnd (fa ρ) fun x=>bnd (lft (kG x)) fun t=>if t then some (.ok (.bool true)) else fb ρ:=rfl
@[simp] theorem b6E:ifE ft fa fb ρ=bnd (ft ρ) fun t=>if t then fa ρ else fb ρ:=rfl
@[simp] theorem a0q (g:List PyData→Option PyData):dF g aa ρ=bnd (aa ρ) fun xs=>lft (g xs):=rfl
@[simp] theorem a0m (F:List PyData→Mm PyData):aU F aa ρ=bnd (aa ρ) fun ds=>(match F ds with | some (.ok d)=>some (.ok d) | _=>none):=rfl
@[simp] theorem b3M:cZ (.int i) (.int j)=some (.int (i+j)):=rfl
@[simp] theorem b5y:sC (.int i) (.int j)=some (.int (i - j)):=rfl
@[simp] theorem b6t:nA (.int i)=some (.int (-i)):=rfl
@[simp] theorem b6h (a b:List PyData):cZ (.tuple a) (.tuple b)=if a.length+b.length≤100000 then some (.tuple (a++b)) else none:=by
 show (if cG (a.length+b.length)=true then _ else _)=_
 by_cases h:a.length+b.length≤100000<;>simp [h]
@[simp] theorem b3L (a b:List PyData):cZ (.list a) (.list b)=if a.length+b.length≤100000 then some (.list (a++b)) else none:=by
 show (if cG (a.length+b.length)=true then _ else _)=_
 by_cases h:a.length+b.length≤100000<;>simp [h]
@[simp] theorem b6v:ltD (.int i) (.int j)=some (decide (i<j)):=rfl
@[simp] theorem b6z:leD (.int i) (.int j)=some (decide (i≤j)):=rfl
@[simp] theorem b6F:gtD (.int i) (.int j)=some (decide (j<i)):=rfl
@[simp] theorem b6G:geD (.int i) (.int j)=some (decide (j≤i)):=rfl
@[simp] theorem b6I:eqD (.int i) (.int j)=some (decide (i=j)):=rfl
@[simp] theorem b4D:neD (.int i) (.int j)=some (!decide (i=j)):=rfl
@[simp] theorem b6H (a b:Str):eqD (.str a) (.str b)=some (decide (a=b)):=rfl
@[simp] theorem b4C (a b:Str):neD (.str a) (.str b)=some (!decide (a=b)):=rfl
@[simp] theorem b6J (a b:Bool):eqD (.bool a) (.bool b)=some (decide (a=b)):=rfl
@[simp] theorem b6u (a b:Bool):neD (.bool a) (.bool b)=some (!decide (a=b)):=rfl
@[simp] theorem b2E:a1c (.int i) (.int j)=if 0<j then some (.int (i % j)) else none:=rfl
@[simp] theorem b6b:a7V (.int i) (.int j)=if 0<j∧j<1073741824 then some (.int (i / j)) else none:=rfl
theorem zI (h1:-(2 ^ 64)<j) (h2:j<2 ^ 64):jC (.int i) (.int j)=some (.int (i*j)):=by
 show (if (dX i || dX j)=true then _ else _)=_
 rw [if_pos];simp [dX];right;omega
theorem a3E (h1:-(2 ^ 64)<i) (h2:i<2 ^ 64):jC (.int i) (.int j)=some (.int (i*j)):=by
 show (if (dX i || dX j)=true then _ else _)=_
 rw [if_pos];simp [dX];left;omega
@[simp] theorem b1e (xs:List PyData):nB [.list xs]=some (.int xs.length):=rfl
@[simp] theorem b6y (xs:List PyData):nB [.tuple xs]=some (.int xs.length):=rfl
@[simp] theorem b5K:a7i [.int i,.int j]=some (.int (max i j)):=rfl
@[simp] theorem b5I:a9S [.int i,.int j]=some (.int (min i j)):=rfl
@[simp] theorem b0Q (xs:List PyData):yL [.list xs]=some (.tuple xs):=rfl
@[simp] theorem b6q (xs:List PyData):yL [.tuple xs]=some (.tuple xs):=rfl
@[simp] theorem b6x (xs:List PyData):a4S [.list xs]=some (.list xs):=rfl
@[simp] theorem b6w (xs:List PyData):a4S [.tuple xs]=some (.list xs):=rfl
@[simp] theorem b6D (b:Bool):b0g [.bool b]=some (.int (if b then 1 else 0)):=rfl
@[simp] theorem b1Q:fF fa ρ=bnd (fa ρ) fun x=>lft (oN x):=rfl
@[simp] theorem b5C (ds:List PyData):oN (.list ds)=some ds:=rfl
@[simp] theorem b5B (ds:List PyData):oN (.tuple ds)=some ds:=rfl
@[simp] theorem b6A (ds:List PyData):ixD (.tuple ds) (.int i)=atI ds i:=rfl
@[simp] theorem b6B (ds:List PyData):ixD (.list ds) (.int i)=atI ds i:=rfl
theorem b3I {xs:List α} (n:Nat):atI xs (n:Int)=xs[n]?:=by
 unfold atI ixN
 rw [if_pos (by omega)]
 by_cases h:n<xs.length
 ·rw [if_pos (by omega)];simp
 ·rw [if_neg (by omega)];rw [List.getElem?_eq_none (by omega)];rfl
@[simp] theorem b6R (a:α) (r:List α):atI (a::r) 0=some a:=by
 unfold atI ixN
 rw [if_pos (by decide),if_pos (by simp<;>omega)];rfl
@[simp] theorem b6Q (a b:α) (r:List α):atI (a::b::r) 1=some b:=by
 unfold atI ixN
 rw [if_pos (by decide),if_pos (by simp<;>omega)];rfl
@[simp] theorem b6P (a b c:α) (r:List α):atI (a::b::c::r) 2=some c:=by
 unfold atI ixN
 rw [if_pos (by decide),if_pos (by simp<;>omega)];rfl
@[simp] theorem b6O (a b c d:α) (r:List α):atI (a::b::c::d::r) 3=some d:=by
 unfold atI ixN
 rw [if_pos (by decide),if_pos (by simp<;>omega)];rfl
@[simp] theorem b5H:fG ρ=some (.nx ρ):=rfl
@[simp] theorem fL:retS fa ρ=bns (fa ρ) ρ fun d=>some (.rt d):=rfl
@[simp] theorem b5d:b4Q fa ρ=bns (fa ρ) ρ fun _=>some (.nx ρ):=rfl
@[simp] theorem eG (i:Nat):dO i fa ρ=bns (fa ρ) ρ fun d=>some (.nx (ρ.set i (.val d))):=rfl
@[simp] theorem b1B (t:Tg):b1C t fa ρ=bns (fa ρ) ρ fun d=>(tgD t ρ d).map So.nx:=rfl
@[simp] theorem gO (f g:SF):ifS ft f g ρ=bns (ft ρ) ρ fun t=>if t then f ρ else g ρ:=rfl
@[simp] theorem b3g (t:Tg) (fb:SF):a5f t aa fb ρ=bns (aa ρ) ρ fun ds=>oX t fb ds ρ:=rfl
@[simp] theorem b2A (i:Nat):vW i aa ρ=bns (aa ρ) ρ fun ds=>if ds.length≤100000 then some (.nx (ρ.set i (.lst ds))) else none:=by
 unfold vW cG;cases aa ρ with
 | none=>rfl
 | some r=>cases r with
  | ok ds=>by_cases h:ds.length≤100000<;>simp [bns,h]
  | ex c=>rfl
theorem aO {f g:SF} {ρ':List Ent} (h:f ρ=some (.nx ρ')):aW f g ρ=g ρ':=by unfold aW;rw [h]
theorem kN {f g:SF} (h:f ρ=some (.rt d)):aW f g ρ=some (.rt d):=by unfold aW;rw [h]
@[simp] theorem b6r (i:Nat):tgD (.nm i) ρ d=some (ρ.set i (.val d)):=rfl
@[simp] theorem b5n (i j:Nat) (a b:PyData):tgD (.tp [i,j]) ρ (.tuple [a,b])=some ((ρ.set i (.val a)).set j (.val b)):=rfl
@[simp] theorem b5m (i j k:Nat) (a b c:PyData):tgD (.tp [i,j,k]) ρ (.tuple [a,b,c])=some (((ρ.set i (.val a)).set j (.val b)).set k (.val c)):=rfl
@[simp] theorem b5l (i j k l:Nat) (a b c d:PyData):tgD (.tp [i,j,k,l]) ρ (.tuple [a,b,c,d])=some ((((ρ.set i (.val a)).set j (.val b)).set k (.val c)).set l (.val d)):=rfl
end
end L2.L3
namespace L2.L3
open PySem
theorem xH {α:Type} {t:Tg} {fb:SF} (φ:α→PyData) (P:Nat→List Ent→Prop):∀ (xs:List α) (i:Nat) (ρ:List Ent),P i ρ →
  (∀ (j:Nat) (x:α) (ρ:List Ent),xs[j]?=some x→P (i+j) ρ→∃ ρ1 ρ2,tgD t ρ (φ x)=some ρ1∧(fb ρ1=some (.nx ρ2)∨fb ρ1=some (.ct ρ2))∧P (i+j+1) ρ2) →
  ∃ ρ',oX t fb (xs.map φ) ρ=some (.nx ρ')∧P (i+xs.length) ρ'
 | [],i,ρ,h,_=>⟨ρ,rfl,by simpa using h⟩
 | x::xs,i,ρ,h,turn=>by
  obtain ⟨ρ1,ρ2,e1,e2,h2⟩:=turn 0 x ρ rfl (by simpa using h)
  obtain ⟨ρ',e3,h3⟩:=xH φ P xs (i+1) ρ2 (by simpa using h2) (fun j y ρ hy hp=>by
   have e:i+1+j=i+(j+1):=by omega
   rw [e] at hp ⊢
   exact turn (j+1) y ρ (by simpa using hy) hp)
  refine ⟨ρ',?_,by rw [List.length_cons,show i+(xs.length+1)=i+1+xs.length by omega];exact h3⟩
  rw [List.map_cons,oX,e1]
  dsimp only
  rcases e2 with e2 | e2<;>(rw [e2];exact e3)
theorem a9i {fa:EF} {ρ:List Ent} {n:Int} (h:fa ρ=some (.ok (.int n))) (h1:-1000000000≤n) (h2:n≤1000000000):a0Q fa ρ=some (.ok (eI 0 n.toNat)):=by
 unfold a0Q
 rw [h]
 dsimp only
 rw [if_pos]
 simp [jK];omega
end L2.L3
namespace L2.L3
open PySem PySem.W PyProof.Rows
section
variable {X:Cx} {e:Expr} {fa:EF} {x:Str} {pos:Pos}
def dfE (g:PyData→PyData→Option PyData) (fa fb:EF):EF:=fun ρ=>match fa ρ,fb ρ with
 | some (.ok x),some (.ok y)=>lft (g x y)
 | _,_=>none
def mD (i:Nat) (fa:EF):SF:=fun ρ=>match ρ[i]? with
 | some (.lst ds)=>bns (fa ρ) ρ fun d=>(match oN d with
  | some es=>if cG (ds.length+es.length) then some (.nx (ρ.set i (.lst (ds++es)))) else none
  | none=>none)
 | _=>none
def b4n (K:PySem.W.Frag):V→List V→Hp→VK→Prop:=fun x vs H Q=>∃ l b xs zs,x=.ref l∧vs=[.ref b]∧H l=some (.lst xs)∧(SqL K H b zs∨SqT K H b zs)∧xs.length+zs.length≤sizeLine∧Q .non (upd H l (.lst (xs++zs)))
theorem a9O:MtM X "list.extend" (b4n X.K):=by
 intro pins s σ H x vs v us Q I rx rv h
 obtain ⟨l,b,xs,zs,rfl,rfl,hH,hB,hz,q⟩:=h
 cases rx
 obtain ⟨u,rfl,ru⟩:=rv.one
 cases ru
 obtain ⟨z,its,n,r,hl,e⟩:=I.lstM hH
 obtain ⟨its2,T,o,n2,hT,ho,hc,hd,r2⟩:=mM I hB
 have hl2:=r2.length
 have hl1:=r.length
 have hsz:its.toArray.size+its2.toArray.size≤sizeLine:=by rw [List.size_toArray,List.size_toArray];omega
 have hlong:¬(!its.toArray.isEmpty&&Builtin.List.listTooLong (its.toArray.size+its2.toArray.size))=true:=by
  rw [a0Z hsz,Bool.and_false]
  exact Bool.false_ne_true
 refine wpAny_call_entry F.slot_list_extend ⟨_,e,rfl⟩ F.entry_list_extend ?_ (F.args_list_extend_2 _ _)
 show wpAny _ _ (Builtin.List.listExtendWith (.ref l) (.ref b) .none) _ _ s
 unfold Builtin.List.listExtendWith
 refine wpAny_bind (wpAny_typeOf (T:=T) ⟨o,ho,hc⟩ ?_)
 rw [if_pos (by rcases hT with rfl | rfl<;>simp)]
 refine wpAny_bind (listItems_at ho hd ?_)
 refine wpAny_bind (listItems_at e rfl ?_)
 rw [if_neg hlong]
 refine wpAny_bind (listUpdate_at e rfl ?_ (by rw [List.size_toArray];omega) (by rw [Array.size_append];omega))
 refine wpAny_pure ⟨_,rfl,.non,_,I.lset (its':=its++its2) (t':=s.toks) hH e (by simp) (r.append r2) ?_,rfl,q⟩
 rw [List.length_append]
 omega
theorem fQ (i:Nat) {p ap cp:Pos} (h:DE X e fa) (hN:X.N[i]?=some x:=by rfl)
  (hv:Vis X.env.scope x:=by first | exact Or.inl rfl | exact Or.inr (Or.inl rfl) | exact Or.inr (Or.inr rfl)) (hd:(x==("__debug__" : Str))=false:=by decide) (hcd:(x==("__classdict__" : Str))=false:=by decide)
  (hbase:attributeBase (.Name x p) "extend" X.env (eval (.Name x p) X.env)=eval (.Name x p) X.env:=by rfl)
  (hfew:((backTo cp (starEach (e::[]) X.env)).all (fun x=>!x.1)&&(backToKw cp (keywordEach [] X.env)).all (fun x=>x.1.isSome)&&decide ((e::[]).length+([]:List Keyword).length+(if ([]:List Keyword).isEmpty then 0 else 1)<30))=true:=by rfl)
  (hline:(ap.endLine==cp.line)=true:=by rfl) (hst:starEach (e::[]) X.env=(false,eval e X.env)::starEach [] X.env:=by rfl) (hplain:(backTo cp (starEach [] X.env)).any (·.1)=false:=by rfl)
  (hsw:swapsWith (.Call (.Attribute (.Name x p) "extend" ap) [e] [] cp) none pos.line X.env=pure false:=by rfl) :
  DS X (.Expr (.Call (.Attribute (.Name x p) "extend" ap) [e] [] cp) pos) (mD i fa):=⟨fun pins s σ H D I ⟨ρ,o,H0,G₀,G,ef,R,q⟩=>
 a3t (a6O PySem.F.plainAttrs_list PySem.F.slot_list_extend PySem.F.type_list_extend a9O (jP hN hv hd hcd) (dY h.run iR hst) hbase hfew hline hst hplain) hsw pins s σ H D I (by
  unfold mD at ef
  split at ef
  ·rename_i ds hi
   obtain ⟨a,xs,e1,h1,h2,h3,r⟩:=R.own hi
   refine ⟨.ref a,e1,.inl ⟨rfl,xs,.of h1⟩,sE R ef q fun d v G1 H1 g1 R1 rv e2 q1=>?_⟩
   split at e2
   ·rename_i es he
    split at e2
    ·rename_i hz
     cases (Option.some.inj e2)
     obtain ⟨b,zs,rfl,hq,r'⟩:=kM g1.sub he rv
     exact ⟨a,_,xs,_,rfl,rfl,g1.hh.lst h1,hq,by rw [r.length,r'.length];exact eS hz,q1 G1 _ σ (.refl _) (R1.wrote hi e1 ((r.mono g1.gg).append r'))⟩
    ·cases e2
   ·cases e2
  ·cases ef)⟩
end
theorem b0m {i:Nat} {fa:EF} {ρ:List Ent} {ds es:List PyData} {d:PyData} (h:ρ[i]?=some (.lst ds)) (ha:fa ρ=some (.ok d)) (hd:oN d=some es) (hz:ds.length+es.length≤100000):mD i fa ρ=some (.nx (ρ.set i (.lst (ds++es)))):=by
 unfold mD
 rw [h]
 dsimp only
 rw [a8J ha,hd]
 dsimp only
 rw [if_pos (by unfold cG;exact decide_eq_true hz)]
end L2.L3
namespace L2.L3
open PySem PySem.Spec PyProof.Rows
theorem sS:∀ {ns:List Str} {us:List Value},aY (ns.map V.str) us→∃ l:List (Str×Tok),us=strValues l∧l.map (·.1)=ns
 | [],_,.nil=>⟨[],rfl,rfl⟩
 | n::ns,_,.cons ⟨t,e⟩ r=>by
  subst e
  obtain ⟨l,rfl,e2⟩:=sS r
  exact ⟨(n,t)::l,rfl,by rw [List.map_cons,e2]⟩
theorem tE:∀ l:List (Str×Tok),aY ((l.map (·.1)).map V.str) (strValues l)
 | []=>.nil
 | p::l=>.cons ⟨p.2,rfl⟩ (tE l)
section
variable {X:Cx} {o e:Expr} {fo fa:EF} {apos cpos:Pos}
theorem a7c:MtM X "str.split" (fun x vs H Q=>∃ (z y:Str),x=.str z∧vs=[.str y]∧(y.length==0)=false∧z.length≤sizeLine∧(Txt.split z y).length≤sizeLine∧∀ l,H l=none→Q (.ref l) (upd H l (.lst ((Txt.split z y).map V.str)))):=by
 intro pins s σ H x vs v us Q I rx rv ⟨z,y,e1,e2,hy,hz,hn,q⟩
 subst e1 e2
 obtain ⟨t,rfl⟩:=rx
 obtain ⟨u,rfl,t',rfl⟩:=rv.one
 have fin:∀ (l:List (Str×Tok)) (tk:Nat),l.map (·.1)=Txt.split z y→EP X pins σ Q (.ref s.heap.objs.size) { s with heap:=s.heap.push { cls:=.type "list", data:=.seq (strValues l).toArray },toks:=tk }:=fun l tk e=>by
  refine ⟨.ref s.heap.objs.size,_,I.laid (t':=tk) (fun b o e=>Heap.get?_push_of_some _ e) (Nat.le_refl _) (show cM X.prog X.w _ _ _ (.lst ((Txt.split z y).map V.str)) from ⟨by rw [List.length_map];exact hn,strValues l,0,?_,Heap.get?_push_size _ rfl⟩),rfl,q _ (I.hok.fresh (Nat.le_refl _))⟩
  rw [←e];exact tE l
 cases h1:(decide (z.length<y.length) || decide (Builtin.Str.strKind z<Builtin.Str.strKind y))
 ·cases hf:(Builtin.Str.occurrences z y 0 z.length (z.length+1)).isEmpty
  ·have es:Txt.split z y=Builtin.Str.partsBetween z (Builtin.Str.occurrences z y 0 z.length (z.length+1)) y.length:=by
    unfold Txt.split;rw [if_neg (by rw [h1];decide),if_neg (by rw [hf];decide)]
   refine call_meets F.slot_str_split (typeIs_str _ _ _) F.entry_str_split (F.args_str_split_2 _ _) (meets_str_split_sep z y t t' h1 hy hf hz (by rw [←es];exact hn)) ?_
   show EP X pins σ Q (.ref s.heap.objs.size) _
   rw [strsFrom_eq]
   exact fin (numbered s.toks _) _ ((numbered_texts _ _).trans es.symm)
  ·have es:Txt.split z y=[z]:=by unfold Txt.split;rw [if_neg (by rw [h1];decide),if_pos hf]
   refine call_meets F.slot_str_split (typeIs_str _ _ _) F.entry_str_split (F.args_str_split_2 _ _) (meets_str_split_not_found z y t t' h1 hy hf) ?_
   exact fin [(z,t)] s.toks es.symm
 ·have es:Txt.split z y=[z]:=by unfold Txt.split;rw [if_pos h1]
  refine call_meets F.slot_str_split (typeIs_str _ _ _) F.entry_str_split (F.args_str_split_2 _ _) (meets_str_split_cannot_occur z y t t' h1) ?_
  exact fin [(z,t)] s.toks es.symm
theorem a9N:MtM X "str.join" (fun x vs H Q=>∃ (z:Str) (p:Addr) (ns:List Str),x=.str z∧vs=[.ref p]∧SqL X.K H p (ns.map V.str)∧JoinOk z ns=true∧Q (.str (Txt.join z ns)) H):=by
 intro pins s σ H x vs v us Q I rx rv ⟨z,p,ns,e1,e2,hq,hok,q⟩
 subst e1 e2
 obtain ⟨t,rfl⟩:=rx
 obtain ⟨u,rfl,e⟩:=rv.one
 cases e
 obtain ⟨its,r1,p1,_⟩:=I.list hq
 obtain ⟨l,rfl,el⟩:=sS r1
 subst el
 unfold JoinOk at hok
 rw [Bool.not_eq_true'] at hok
 refine call_meets F.slot_str_join (typeIs_str _ _ _) F.entry_str_join (F.args_str_join_2 _ _) (meets_str_join_list z t p l hok) ⟨p1.isList,post_join (Q:=fun v s'=>wants (EP X pins σ Q) X.xe (.ok (.ret v)) s') l ⟨joinFit_length hok,fun t' k=>?_⟩⟩
 exact ⟨.str _,H,I.tok _,⟨_,rfl⟩,q⟩
def a0G (x y:PyData):Option PyData:=match x,y with
 | .str z,.str y=>if (y.length != 0)&&cG z.length&&cG (Txt.split z y).length then some (.list ((Txt.split z y).map .str)) else none
 | _,_=>none
def a5c (x y:PyData):Option PyData:=match x,y with
 | .str z,.list xs=>(match eL yQ xs with | some ns=>if JoinOk z ns then some (.str (Txt.join z ns)) else none | none=>none)
 | _,_=>none
theorem a1z (ho:DE X o fo) (ha:DE X e fa)
  (hbase:attributeBase o "split" X.env (eval o X.env)=eval o X.env:=by rfl)
  (hfew:((backTo cpos (starEach (e::[]) X.env)).all (fun x=>!x.1)&&(backToKw cpos (keywordEach [] X.env)).all (fun x=>x.1.isSome)&&decide ((e::[]).length+([]:List Keyword).length+(if ([]:List Keyword).isEmpty then 0 else 1)<30))=true:=by rfl)
  (hline:(apos.endLine==cpos.line)=true:=by rfl) (hst:starEach (e::[]) X.env=(false,eval e X.env)::starEach [] X.env:=by rfl) (hplain:(backTo cpos (starEach [] X.env)).any (·.1)=false:=by rfl) :
  DE X (.Call (.Attribute o "split" apos) [e] [] cpos) (dfE a0G fo fa):=lI fun ρ r h=>by
 unfold dfE at h
 split at h
 ·rename_i x y ea eb
  obtain ⟨d,ed,rfl⟩:=aX h
  refine ⟨d,rfl,?_⟩
  unfold a0G at ed
  split at ed
  ·rename_i z y
   split at ed
   ·rename_i hz
    cases (Option.some.inj ed)
    rw [Bool.and_eq_true,Bool.and_eq_true] at hz
    exact a0W F.plainAttrs_str F.slot_str_split F.type_str_split a7c (ho.pd ea) (dQ (ha.pd eb) gB hst) (fun x G H s r=>by cases r;rfl) (fun x vs G H Q s r rs q=>by
     cases r
     cases rs with
     | cons r1 r2=>
      cases r1;cases r2
      exact ⟨z,y,rfl,rfl,by simpa using hz.1.1,eS hz.1.2,eS hz.2,fun l hl=>q _ _ _ (.put s hl) (.list (.of aN) (kU _))⟩) hbase hfew hline hst hplain
   ·cases ed
  ·cases ed
 ·cases h
theorem b0w (ho:DE X o fo) (ha:DE X e fa)
  (hbase:attributeBase o "join" X.env (eval o X.env)=eval o X.env:=by rfl)
  (hfew:((backTo cpos (starEach (e::[]) X.env)).all (fun x=>!x.1)&&(backToKw cpos (keywordEach [] X.env)).all (fun x=>x.1.isSome)&&decide ((e::[]).length+([]:List Keyword).length+(if ([]:List Keyword).isEmpty then 0 else 1)<30))=true:=by rfl)
  (hline:(apos.endLine==cpos.line)=true:=by rfl) (hst:starEach (e::[]) X.env=(false,eval e X.env)::starEach [] X.env:=by rfl) (hplain:(backTo cpos (starEach [] X.env)).any (·.1)=false:=by rfl) :
  DE X (.Call (.Attribute o "join" apos) [e] [] cpos) (dfE a5c fo fa):=lI fun ρ r h=>by
 unfold dfE at h
 split at h
 ·rename_i x y ea eb
  obtain ⟨d,ed,rfl⟩:=aX h
  refine ⟨d,rfl,?_⟩
  unfold a5c at ed
  split at ed
  ·rename_i z xs
   split at ed
   ·rename_i ns ei
    split at ed
    ·rename_i hz
     have hx:=dG (g:=PyData.str) (fun d a q=>sK q) ei
     subst hx
     cases (Option.some.inj ed)
     exact a0W F.plainAttrs_str F.slot_str_join F.type_str_join a9N (ho.pd ea) (dQ (ha.pd eb) gB hst) (fun x G H s r=>by cases r;rfl) (fun x vs G H Q s r rs q=>by
      cases r
      cases rs with
      | cons r1 r2=>
       cases r2
       cases r1 with
       | list hq ra=>
        have e:=ra.strs
        subst e
        exact ⟨z,_,ns,rfl,rfl,s.seq hq,hz,q _ G H (.refl s) (.str _)⟩) hbase hfew hline hst hplain
    ·cases ed
   ·cases ed
  ·cases ed
 ·cases h
def mC (x:PyData):Option PyData:=match x with
 | .str z=>if cG z.length then some (.str z) else none
 | .int i=>if dX i then some (.str (toString i:String)) else none
 | _=>none
theorem a4w {i:Int} (h:dX i=true):i.natAbs.log2<1920:=by
 unfold dX at h
 rw [Bool.and_eq_true,decide_eq_true_eq,decide_eq_true_eq] at h
 have:i.natAbs<2 ^ 64:=by omega
 by_cases z:i.natAbs=0
 ·rw [z];decide
 ·exact Nat.lt_trans ((Nat.log2_lt z).mpr this) (by decide)
theorem vH {pos:Pos} (ha:DE X e fa):DE X (.FormattedValue e (-1) none pos) (op1 mC fa):=⟨fun pins s σ H Q I ⟨ρ,r,H0,G₀,G,ef,R,q⟩=>by
 refine wpAny_FormattedValue_plain (wpAny_mono (ha.run pins s σ H (fun v H1=>∃ G1 d,Grow G H G1 H1∧Rep X.K G1 v d∧lft (mC d)=some r) I ?_) (fun u s1 ⟨v,H1,I1,rv,G1,d,g1,rd,ed⟩=>?_) fun _ _ x=>x)
 ·exact bE R ef q.x fun d v G1 H1 g1 R1 rd ed=>⟨G1,d,g1,rd,ed⟩
 ·obtain ⟨d',ed',rfl⟩:=aX ed
  unfold mC at ed'
  split at ed'
  ·rename_i z
   split at ed'
   ·rename_i hz
    cases (Option.some.inj ed')
    cases rd
    obtain ⟨t,rfl⟩:=rv
    have Qs:=q (.str z) G1 H1 g1 (.str z)
    exact wpAny_formatField_str ⟨.str z,H1,I1,⟨_,rfl⟩,Qs⟩ ⟨.str z,H1,I1.tok _,⟨_,rfl⟩,Qs⟩ (eS hz)
   ·cases ed'
  ·rename_i i
   split at ed'
   ·rename_i hz
    cases (Option.some.inj ed')
    cases rd
    obtain ⟨t,rfl⟩:=rv
    exact wpAny_formatField_int (a4w hz) ⟨.str _,H1,I1.tok _,⟨_,rfl⟩,q (.str _) G1 H1 g1 (.str _)⟩
   ·cases ed'
  ·cases ed'⟩
def lL (acc:Str) (ns:List Str):Str:=ns.foldl (·++·) acc
theorem a4d:∀ (ns:List Str) (acc:Str),acc.length≤(lL acc ns).length
 | [],_=>Nat.le_refl _
 | n::ns,acc=>by
  refine Nat.le_trans ?_ (a4d ns (acc++n))
  rw [strLen_append];omega
structure DJ (X:Cx) (es:List Expr) (f:AF):Prop where
 run:∀ (pins:List (Addr×Obj)) (s:Shared) (σ:St) (H:Hp) (acc:Str) (Q:Str→Hp→Prop) (ρ:List Ent) (ds:List PyData) (ns:List Str) (H0 G₀ G:Hp),Inv X pins σ H s→f ρ=some (.ok ds)→eL yQ ds=some ns→RepS X.K H0 G₀ G H σ ρ→(lL acc ns).length≤sizeLine →
  (∀ G' H',Grow G H G' H'→Q (lL acc ns) H')→Joins (model X.prog X.w) X.A X.xe (evalEach es X.env) acc (fun out s1=>∃ H',Inv X pins σ H' s1∧Q out H') s
theorem a8m:DJ X [] aF:=⟨fun pins s σ H acc Q ρ ds ns H0 G₀ G I ef ea R hz q=>by
 cases (Option.some.inj ef)
 cases (Option.some.inj ea)
 exact ⟨H,I,q G H (.refl R.sub)⟩⟩
theorem iL {es:List Expr} {fe:EF} {fs:AF} (h:DE X e fe) (hs:DJ X es fs):DJ X (e::es) (aB fe fs):=⟨fun pins s σ H acc Q ρ ds ns H0 G₀ G I ef ea R hz q=>by
 rw [dL] at ef
 cases hfe:fe ρ with
 | none=>rw [hfe] at ef;cases ef
 | some r=>
  cases r with
  | ex c=>rw [hfe] at ef;cases ef
  | ok d=>
   rw [hfe,dU] at ef
   cases hfs:fs ρ with
   | none=>rw [hfs] at ef;cases ef
   | some r2=>
    cases r2 with
    | ex c=>rw [hfs] at ef;cases ef
    | ok ds'=>
     rw [hfs,dU] at ef
     cases (Option.some.inj ef)
     have hx:=dG (g:=PyData.str) (fun d a q=>sK q) ea
     cases ns with
     | nil=>cases hx
     | cons n ns=>
      rw [List.map_cons,List.cons.injEq] at hx
      obtain ⟨hd,ht⟩:=hx
      subst hd ht
      show wpAny _ _ (eval e X.env) _ _ s
      refine wpAny_mono ((h.pd hfe).run H0 G₀ G pins s σ H (fun v H1=>∃ G1,Grow G H G1 H1∧v=.str n) I R (fun v G1 H1 g1 rv=>⟨G1,g1,by cases rv;rfl⟩)) (fun u s1 ⟨v,H1,I1,ru,G1,g1,ev⟩=>?_) fun _ _ x=>x
      subst ev
      obtain ⟨t,rfl⟩:=ru
      refine ⟨n,t,rfl,Nat.le_trans (a4d ns (acc++n)) hz,?_⟩
      exact hs.run pins s1 σ H1 (acc++n) Q ρ _ ns H0 G₀ G1 I1 hfs (gS (g:=.str) (fun _=>rfl) ns) (R.more g1) hz fun G' H' g=>q G' H' (g1.trans g)⟩
def jnE (fa:AF):EF:=fun ρ=>match fa ρ with
 | some (.ok ds)=>(match eL yQ ds with
  | some ns=>if cG (lL Str.empty ns).length then some (.ok (.str (lL Str.empty ns))) else none
  | none=>none)
 | _=>none
theorem xW {a b:Expr} {es:List Expr} {f:AF} {pos:Pos} (h:DJ X (a::b::es) f):DE X (.JoinedStr (a::b::es) pos) (jnE f):=lI fun ρ r ef=>by
 unfold jnE at ef
 split at ef
 ·rename_i ds hds
  split at ef
  ·rename_i ns hns
   split at ef
   ·rename_i hz
    cases (Option.some.inj ef)
    refine ⟨_,rfl,⟨fun H0 G₀ G pins s σ H Q I R k=>?_⟩⟩
    refine wpAny_JoinedStr ?_
    have J:=h.run pins s σ H Str.empty (fun out H'=>out=lL Str.empty ns∧Q (.str out) H') ρ ds ns H0 G₀ G I hds hns R (eS hz) fun G' H' g=>⟨rfl,k _ G' H' g (.str _)⟩
    have mono:∀ (parts:List (Sem Value)) (acc:Str) (s:Shared) (P P':Str→Shared→Prop),(∀ o s,P o s→P' o s)→Joins (model X.prog X.w) X.A X.xe parts acc P s→Joins (model X.prog X.w) X.A X.xe parts acc P' s:=by
     intro parts
     induction parts with
     | nil=>intro acc s P P' hp j;exact hp _ _ j
     | cons x rest ih=>
      intro acc s P P' hp j
      exact wpAny_mono j (fun v s1 ⟨y,t,e1,e2,e3⟩=>⟨y,t,e1,e2,ih _ _ _ _ hp e3⟩) fun _ _ x=>x
    refine mono _ _ _ _ _ (fun out s1 ⟨H',I',eo,qo⟩=>?_) J
    subst eo
    exact ⟨eS hz,.str _,H',I'.tok _,⟨_,rfl⟩,qo⟩
   ·cases ef
  ·cases ef
 ·cases ef
end
end L2.L3
namespace L2.L3
open PySem PySem.Spec PyProof.Rows
def qW (x:Str) (lo hi:Option Int):Str:=
 if ((Builtin.Str.strSliceIndices lo hi 1 x.length).length==x.length)=true then x else ⟨((Builtin.Str.strSliceIndices lo hi 1 x.length).filterMap (x.cps[·]?)).toArray⟩
theorem a3z {v:Value} {o:Option Int} (p:IsPart v o):∃ l:Option (Int×Tok),v=partValue l∧l.map (·.1)=o:=by
 cases p with
 | none=>exact ⟨none,rfl,rfl⟩
 | int i t=>exact ⟨some (i,t),rfl,rfl⟩
section
variable {X:Cx} {a:Expr} {lo hi:Option Expr} {fa:EF} {fl fh:OF} {pos p2:Pos}
theorem b1P:SlR X (fun x lo hi H Q=>∃ z:Str,x=.str z∧(qW z lo hi).length≤sizeLine∧Q (.str (qW z lo hi)) H):=by
 intro pins s σ H x v vl vu lo hi sl Q I rx hs pl pu h
 obtain ⟨z,rfl,hz,q⟩:=h
 obtain ⟨t,rfl⟩:=rx
 obtain ⟨l,rfl,el⟩:=a3z pl
 obtain ⟨u,rfl,eu⟩:=a3z pu
 refine ⟨"str", _,F.slot_str_getitem.lookup,typeIs_str _ _ _,?_⟩
 refine wpAny_getItem_str_slice (l:=l) (u:=u) (st:=none) hs (by decide) ?_
 unfold sliceMade slicePicked
 show Made.post (if ((1:Int)==1&&(Builtin.Str.strSliceIndices (l.map (·.1)) (u.map (·.1)) 1 z.length).length==z.length)=true then _ else _) _ s
 rw [el,eu]
 unfold qW at hz q
 by_cases c:((Builtin.Str.strSliceIndices lo hi 1 z.length).length==z.length)=true
 ·rw [if_pos c] at hz q
  rw [if_pos (by rw [c];rfl)]
  exact ⟨.str z,H,I,⟨t,rfl⟩,q⟩
 ·rw [if_neg c] at hz q
  rw [if_neg (by simpa using c)]
  exact ⟨hz,.str _,H,I.tok _,⟨_,rfl⟩,q⟩
def slY (x:PyData) (lo hi:Option Int):Option PyData:=match x with
 | .str z=>if cG (qW z lo hi).length then some (.str (qW z lo hi)) else none
 | x=>slD x lo hi
def a9a (fa:EF) (lo hi:OF):EF:=fun ρ=>bnd (fa ρ) fun x=>bnd (lo ρ) fun l=>bnd (hi ρ) fun h=>lft (slY x l h)
theorem b3v (ha:DE X a fa) (hl:DO X lo fl) (hh:DO X hi fh):DE X (.Subscript a (.Slice lo hi none p2) pos) (a9a fa fl fh):=⟨fun pins s σ H Q I ⟨ρ,r,H0,G₀,G,e,R,q⟩=>
 a0V (b1P.or (a3m.or a6m)) ha.run hl.run hh.run pins s σ H Q I (bE R e q.x fun x v G1 H1 g1 R1 rv e1=>bO R1 e1 (q.more g1).x fun l G2 H2 g2 R2 e2=>bO R2 e2 ((q.more g1).more g2).x fun h G3 H3 g3 R3 e3=>by
  obtain ⟨d,ed,rfl⟩:=aX e3
  have g23:=g2.trans g3
  unfold slY at ed
  split at ed
  ·split at ed
   ·rename_i hz
    cases (Option.some.inj ed)
    cases rv
    exact .inl ⟨_,rfl,eS hz,q _ _ _ (g1.trans g23) (.str _)⟩
   ·cases ed
  ·unfold slD at ed
   split at ed
   ·cases (Option.some.inj ed)
    cases rv with
    | list hq r=>
     refine .inr (.inl ⟨_,_,rfl,(g23.gg.trans g23.sub).seq hq,fun l hl=>q _ _ _ ((g1.trans g23).trans (.put g23.sub hl)) ?_⟩)
     exact .list (.of aN) (pK (r.mono (g23.gg.trans (bC (g23.sub.free hl)))) _ _)
   ·split at ed
    ·cases ed
    ·rename_i hw
     cases (Option.some.inj ed)
     cases rv with
     | tuple hq r=>
      refine .inr (.inr ⟨_,_,rfl,iO (g23.gg.trans g23.sub) hq,by rw [r.length];exact hw,fun l hl=>q _ _ _ ((g1.trans g23).trans (.put g23.sub hl)) ?_⟩)
      exact .tuple (.of aN) (pK (r.mono (g23.gg.trans (bC (g23.sub.free hl)))) _ _)
   ·cases ed)⟩
theorem boot_str:bootBuiltins "str" = some (.type "str"):=by kernel_rfl
end
end L2.L3
namespace L2.L3
open PySem PySem.Spec PySem.Calls PyProof.Rows
abbrev a7s (qual:Str) (params:Arguments) (body:Expr) (scope:Scope) (pm:Value) (c:Addr) (ct:Value):Obj:=PySem.W.kla_obj "<lambda>" qual params body scope [] pm c ct
section
variable {P:Program} {w:World} {K:PySem.W.Frag} {mg:Str→Option Value} {base:Heap}
theorem a7r {k:Nat} {f c:Addr} {qual x:Str} {params:Arguments} {body:Expr} {scope:Scope} {pm ct u:Value} {fe:EF} {A:Around} {outer:List Env} {s:Shared} {H G:Hp} {v:V} {d kd:PyData}
  (hr:Room (k+1) A) (e0:Env0 P w K mg base A outer s H) (ho:s.heap.get? f=some (a7s qual params body scope pm c ct)) (hcd:s.heap.CodeRec (.ref c) qual) (S:FnScope [x] [x] scope)
  (hb:bindArgs (PySem.W.kla_fn "<lambda>" qual params body scope [] pm (.ref c) ct) ⟨[u],[]⟩=pure [(x,u)])
  (hbody:DE (fcx P w K mg base [x] qual scope f (.ref c) A outer s H E0) body fe)
  (sm:bR G H∧nF K G H) (rep:Rep K G v d) (rel:RelV v u) (hf:fe [.val d]=some (.ok kd)) :
  codeAny (model P w) A (.call (.ref f) ⟨[u],[]⟩) (CR CX0 outer P w H s (fun v' H'=>∃ G',Grow G H G' H'∧Rep K G' v' kd) E0) s:=by
 have lim:s.heap.NoLimit:=e0.mod.nolimit.keeps fun b o e=>(e0.bs b o e).1
 refine PySem.W.kla_callFunE hr.depth ho rfl S.co S.gen rfl hcd ?_
 rw [hb]
 have hkind:∀ y∈[(x,u)],scope.names.lookup y.1=some .local∨(scope.names.lookup y.1=some .cell∧((cellsFrom (s.heap.objs.size+1) scope.names []).lookup y.1).isSome=true):=fun y hy=>by
  obtain rfl:=List.mem_singleton.mp hy
  rcases S.par x (by simp) with q | q
  ·exact .inl q
  ·exact .inr ⟨q,PySem.W.cellsFrom_some _ _ _ (.inl q)⟩
 refine wpAny_pure (wpAny_newFunctionEnv_cells S.kind hkind fun env he s1 xx=>?_)
 subst he
 refine ⟨lim.keeps xx.toInCall.keep,PySem.W.kla_codeExpr ?_⟩
 have I:Inv (fcx P w K mg base [x] qual scope f (.ref c) A outer s H E0) [] (start [x] [v]) H s1:=(xR (CX:=CX0) (E:=E0) (us:=[u]) S hr.hd e0 rfl (.cons rel .nil) xx).wish _
 have R:RepS K H G G H (start [x] [v]) [.val d]:=fA (N:=[x]) (ds:=[d]) sm (.cons rep .nil)
 refine wpAny_mono (hbody.run [] s1 _ H (fun v' H'=>∃ G',Grow G H G' H'∧Rep K G' v' kd) I ⟨_,_,H,G,G,hf,R,fun v' G' H' g rv=>⟨G',g,rv⟩⟩) (fun u' s' hs=>?_) fun e s' hs=>hs.elim
 obtain ⟨v',H',J,rv,q⟩:=hs
 exact ⟨v',H',J.os,J.bare,J.base,J.hok,rv,q⟩
end
end L2.L3
namespace L2.L3
open PySem PySem.Spec PySem.Calls PyProof.Rows
structure BM (mg:Str→Option Value) (base:Heap):Prop where
 ex:∃ bm ob,mg "__builtins__" = some (.ref bm)∧bm≠builtinsNs∧bm≠mainGlobals∧base.get? bm=some ob∧ob.cls=.type "module" ∧ ob.dict=some builtinsNs∧ob.data=.plain
theorem sZ (i j:Int) (t u:Tok) (v:Value):∀ (n:Nat) (l:List Value),l.length≤n→TriplesOk l→TriplesOk (l++[.int i t,.int j u,v]):=by
 intro n
 induction n with
 | zero=>
  intro l hl _
  cases l with
  | nil=>trivial
  | cons a l=>cases hl
 | succ n ih=>
  intro l hl h
  unfold TriplesOk at h
  split at h
  ·trivial
  ·rename_i rest
   have hr:rest.length≤n:=by simp only [List.length_cons] at hl;omega
   exact ih rest hr h
  ·cases h
theorem yM (l:List Value) (i j:Int) (t u:Tok) (v:Value) (h:TriplesOk l):TriplesOk (l++[.int i t,.int j u,v]):=sZ i j t u v l.length l (Nat.le_refl _) h
theorem vO {p:Pos} {c cv:Value} (i j:Int) (t u:Tok):∀ (l:List Value),TriplesOk l→codeAmong p (l++[.int i t,.int j u,c])=some cv→codeAmong p l=some cv∨cv=c
 | [],_,h=>by
  have h:(if (i==(p.line:Int)&&j==(p.col:Int))=true then some c else none)=some cv:=h
  split at h
  ·exact .inr (Option.some.inj h).symm
  ·cases h
 | .int a _::.int b _::d::r,ht,h=>by
  have h:(if (a==(p.line:Int)&&b==(p.col:Int))=true then some d else codeAmong p (r++[.int i t,.int j u,c]))=some cv:=h
  show (if (a==(p.line:Int)&&b==(p.col:Int))=true then some d else codeAmong p r)=some cv∨_
  split at h
  ·rename_i hc;rw [if_pos hc];exact .inl h
  ·rename_i hc;rw [if_neg hc];exact vO i j t u r ht h
section
variable {X:Cx} {pins:List (Addr×Obj)} {σ:St} {H H0 G₀ G:Hp} {s:Shared} {ρ:List Ent}
theorem a7q {x:Str} {c P:Addr} {params:Arguments} {body:Expr} {scope:Scope} {pos:Pos} {E:Value→Shared→Prop} {Q:Value→Shared→Prop} (hx:x∈gK) (ht:PySem.W.tabIn X.K x=some (c,P)) (hc:X.env.code=.ref c)
  (hq:X.env.qual ++ "<lambda>" = lamQ x) (C:PySem.W.codeHdIn X.K c P=true) (M:BM X.mg X.base) (hdef:defaultsOf params X.env=([],[])) (hcl:closureFor scope X.env=pure []) (I:Inv X pins σ H s) (R:RepS X.K H0 G₀ G H σ ρ)
  (h:∀ f c' ct pm H' s',Inv X pins σ H' s'→Grow G H G H'→s'.heap.get? f=some (a7s (lamQ x) params body scope pm c' ct)→H' f=none→s.heap.objs.size≤f→H' c'=some (cdO c' (lamQ x))→Q (.ref f) s') :
  wpAny (model X.prog X.w) X.A (eval (.Lambda params body scope pos) X.env) Q E s:=by
 refine PySem.W.kla_eval hdef ?_
 rw [hq]
 have hTab:=R.tab.1 x hx c P ht
 generalize lamQ x=q at hTab h ⊢
 obtain ⟨ps,hP,hT,hA⟩:=hTab
 have hPo:s.heap.get? P=some (PySem.W.tabObj ps):=I.hok P _ hP
 have C0:PySem.W.CodeHd s.heap c P:=PySem.W.codeHd_of_K I.kIn C
 have hg:s.heap.Ns mainGlobals X.mg:=I.mod.glob.keeps I.bk
 have hgP:mainGlobals≠P:=fun z=>by
  obtain ⟨o,es,ep,e,hd,_⟩:=hg
  rw [z,hPo] at e;cases e;cases hd
 have hB:s.heap.BuiltinsAt X.mg P:=by
  obtain ⟨bm,ob,b1,b2,b3,b4,b5,b6,b7⟩:=M.ex
  refine ⟨bm,ob,b1,b2,b3,fun z=>?_,I.bk _ _ b4,b5,b6,b7⟩
  have e:=I.bk _ _ b4
  rw [z,hPo] at e;cases e;cases b5
 cases hm:codeAmong pos ps.toList with
 | some cv=>
  obtain ⟨c',rfl,hc'⟩:=hA pos cv hm
  refine PySem.W.kla_makeFunctionHit hcl I.ok.glob hg hc C0 hPo hT hm hB fun ct h' tk kp sz=>?_
  exact h _ c' ct _ H _ (I.kept fun b o e=>Heap.get?_push_of_some _ (kp b o e)) (.refl R.sub) (Heap.get?_push_size _ rfl) (I.hok.fresh sz) sz hc'
 | none=>
  refine PySem.W.kla_makeFunction hcl I.ok.glob hg hc C0 hPo hT hm hgP hB fun c' ct h' tk ex ge lt rc tb=>?_
  have hf:H c'=none:=I.hok.fresh ge
  have cP:c'≠P:=fun z=>by rw [z,hP] at hf;cases hf
  have lP:P≠X.env.locals:=fun z=>by have:=I.free;rw [←z,hP] at this;cases this
  -- the heap beside the table
  have kp:∀ b o,b≠P→s.heap.get? b=some o→(h'.push (a7s (q) params body scope ((X.mg "__name__").getD .none) c' ct)).get? b=some o:=fun b o n e=>Heap.get?_push_of_some _ (ex b o n e)
  have hsz:s.heap.objs.size≤h'.objs.size:=Nat.le_trans ge (Nat.le_of_lt lt)
  have H1:∀ b,b≠P→b≠c'→upd (upd H P (.tbl (q,ps++#[rawInt pos.line,rawInt pos.col,.ref c']))) c' (cdO c' (q)) b=H b:=fun b n1 n2=>by rw [aL n2,aL n1]
  have HP:upd (upd H P (.tbl (q,ps++#[rawInt pos.line,rawInt pos.col,.ref c']))) c' (cdO c' (q)) P=some (.tbl (q,ps++#[rawInt pos.line,rawInt pos.col,.ref c'])):=by rw [aL (Ne.symm cP),aN]
  have nb:∀ b o,s.heap.get? b=some o→b≠c':=fun b o e=>Nat.ne_of_lt (Nat.lt_of_lt_of_le (Heap.lt_size e) ge)
  have nH:∀ b o,H b=some o→b≠c':=fun b o e z=>by rw [z,hf] at e;cases e
  have nP:∀ b,H b=none→b≠P:=fun b e z=>by rw [z,hP] at e;cases e
  have hsm:Sm H (upd (upd H P (.tbl (q,ps++#[rawInt pos.line,rawInt pos.col,.ref c']))) c' (cdO c' (q))):=by
   refine ⟨fun b o e n=>?_,fun b p e=>?_,fun P' q' t=>?_⟩
   ·rw [H1 b (fun z=>by rw [z,hP] at e;cases e;exact n _ rfl) (nH b o e)];exact e
   ·by_cases z:b=P
    ·rw [z];exact ⟨_,HP⟩
    ·exact ⟨p,by rw [H1 b z (nH b _ e)];exact e⟩
   ·obtain ⟨ps',g1,g2,g3⟩:=t
    have old:∀ d o,H d=some (cdO d o)→upd (upd H P (.tbl (q,ps++#[rawInt pos.line,rawInt pos.col,.ref c']))) c' (cdO c' (q)) d=some (cdO d o):=fun d o e=>by
     rw [H1 d (fun z=>by rw [z,hP] at e;unfold cdO at e;cases e) (nH d _ e)];exact e
    by_cases z:P'=P
    ·subst z
     rw [hP] at g1
     cases g1
     refine ⟨_,HP,?_,fun p cv e=>?_⟩
     ·rw [Array.toList_append];exact yM _ _ _ _ _ _ g2
     ·rw [Array.toList_append] at e
      rcases vO _ _ _ _ _ g2 e with e | rfl
      ·obtain ⟨d,e1,e2⟩:=g3 p cv e
       exact ⟨d,e1,old d _ e2⟩
      ·exact ⟨c',rfl,aN⟩
    ·refine ⟨ps',by rw [H1 P' z (nH P' _ g1)];exact g1,g2,fun p cv e=>?_⟩
     obtain ⟨d,e1,e2⟩:=g3 p cv e
     exact ⟨d,e1,old d _ e2⟩
  have gw:Grow G H G (upd (upd H P (.tbl (q,ps++#[rawInt pos.line,rawInt pos.col,.ref c']))) c' (cdO c' (q))):=by
   refine ⟨.refl _,hsm,fun b o e=>?_,fun _ e _=>e,id⟩
   rw [H1 b (fun z=>by have:=R.sub b o e;rw [z,hP] at this;cases this;exact R.tab.2 _ _ e) (nH b o (R.sub b o e))]
   exact R.sub b o e
  refine h h'.objs.size c' ct _ _ _ (I.step (ch:=[]) (g':=s.gens) (d':=s.drawn) (t':=tk) (h':=h'.push (a7s (q) params body scope ((X.mg "__name__").getD .none) c' ct)) (fun _ z=>nomatch z) (fun b o _ _ _ e n=>kp b o (nP b n) e) (fun b o _ _ _ e n=>⟨o.slots,kp b o (nP b n) e⟩)
   (fun b o _ e n=>by rw [H1 b (nP b n) (nb b o e)];exact n) (fun b o _ e=>?_) (fun b xs e=>by rw [H1 b (kC e hP (by nofun)) (nH b _ e)];exact e) (fun b o u e=>by rw [H1 b (kC e hP (by nofun)) (nH b _ e)];exact e) (fun b p e=>?_) (fun m hn=>(hn.extBut ex (Ne.symm lP)).push _) (fun b u e=>?_) I.bare) gw (Heap.get?_push_size _ rfl) ?_ hsz aN
  ·by_cases z:b=P
   ·rw [z];exact ⟨_,Heap.get?_push_of_some _ tb⟩
   ·exact ⟨o,kp b o z e⟩
  ·by_cases z:b=P
   ·subst z
    rw [hP] at e;cases e
    exact ⟨#[rawInt pos.line,rawInt pos.col,.ref c'],HP⟩
   ·exact ⟨#[],by rw [H1 b z (nH b _ e),e];simp⟩
  ·by_cases z:b=c'
   ·subst z
    rw [aN] at e;cases e
    obtain ⟨c2,o2,vs,t,e1,e2,e3,e4⟩:=rc
    cases e1
    exact ⟨⟨_,o2,vs,t,rfl,Heap.get?_push_of_some _ e2,e3,e4⟩,⟨o2,Heap.get?_push_of_some _ e2⟩,fun h1 h2 ⟨c3,o3,vs3,t3,g1,g2,g3,g4⟩ k=>by cases g1;exact ⟨_,o3,vs3,t3,rfl,k _ g2,g3,g4⟩⟩
   ·by_cases z2:b=P
    ·subst z2
     rw [HP] at e;cases e
     exact Heap.get?_push_of_some _ tb
    ·rw [H1 b z2 z] at e
     refine (I.hok b u e).stay (fun b' u' hb' e'=>kp b' u' (fun y=>?_) e') (fun b' e'=>by rw [H1 b' (kC e' hP (by nofun)) (nH b' _ e')];exact e') fun b' xs e'=>by rw [H1 b' (kC e' hP (by nofun)) (nH b' _ e')];exact e'
     rcases hb' with y' | y'
     ·exact z2 (y'.symm.trans y)
     ·rw [y,hP] at y';cases y'
  ·have:=Nat.ne_of_gt lt
   rw [H1 _ (fun z=>absurd (Heap.lt_size hPo) (by rw [←z];exact Nat.not_lt_of_le hsz)) this]
   exact I.hok.fresh hsz
end
end L2.L3
namespace L2.L3
open PySem PySem.W PyProof.Rows PySem.Calls
section
variable {prog:Program} {w:World} {A:Around} {E:Value→Shared→Prop} {s:Shared}
theorem a1l {kS a:Addr} {oa:Obj} {vs:List Value} {J:List Value→Shared→Prop} {body:Value→PUnit→Sem (ForInStep PUnit)} (h64:vs.length<64)
  (hb:∀ x ks e (s:Shared),ks.length<64→vs[ks.length]?=some x→s.heap.get? kS=some (seqObj "list" (List.toArray ks) e)→s.heap.get? a=some oa→J ks s →
   wpAny (model prog w) A (body x ⟨⟩) (fun r s'=>r=.yield ⟨⟩∧∃ k c,s'.heap.get? kS=some (seqObj "list" (List.toArray (ks++[k])) c)∧s'.heap.get? a=some oa∧J (ks++[k]) s') E s) :
  ∀ (r ks:List Value) (e:Nat) (s:Shared),vs=(vs.take ks.length)++r→ks.length+r.length=vs.length→s.heap.get? kS=some (seqObj "list" (List.toArray ks) e)→s.heap.get? a=some oa→J ks s →
   wpAny (model prog w) A (forIn r PUnit.unit body) (fun _ s'=>∃ ks e,s'.heap.get? kS=some (seqObj "list" (List.toArray ks) e)∧s'.heap.get? a=some oa∧ks.length=vs.length∧J ks s') E s
 | [],ks,e,s,hv,hl,hk,ha,hJ=>by
  rw [List.forIn_nil]
  exact wpAny_pure ⟨ks,e,hk,ha,by simpa using hl,hJ⟩
 | x::r,ks,e,s,hv,hl,hk,ha,hJ=>by
  rw [List.length_cons] at hl
  rw [List.forIn_cons]
  have hx:vs[ks.length]?=some x:=by
   rw [hv,List.getElem?_append_right (by rw [List.length_take];omega),List.length_take]
   rw [show ks.length - min ks.length vs.length=0 by omega];rfl
  refine wpAny_bind (wpAny_mono (hb x ks e s (by omega) hx hk ha hJ) (fun q s' hq=>?_) fun _ _ x=>x)
  obtain ⟨rfl,k,c,hk',ha',h2⟩:=hq
  show wpAny (model prog w) A (forIn r PUnit.unit body) _ E s'
  refine a1l h64 hb r (ks++[k]) c s' ?_ (by rw [List.length_append,List.length_singleton];omega) hk' ha' h2
  rw [List.length_append,List.length_singleton]
  have e1:vs.take (ks.length+1)=vs.take ks.length++[x]:=by rw [List.take_succ,hx];rfl
  rw [e1,List.append_assoc];exact hv
theorem a7t {kS a:Addr} {f:Value} {e1:Nat} {vs:List Value} {kds:List PyData} {k:Bool} {g:List Bool} {J:List Value→Shared→Prop} {P:PySem.Fin→Shared→Prop} (hka:kS≠a) (hk:s.heap.get? kS=some (seqObj "list" #[] 0)) (ha:s.heap.get? a=some (seqObj "list" #[] e1)) (h64:vs.length<64)
  (hs:∀ d∈kds,cH (k::g) d=true) (hlen:kds.length=vs.length) (hJ:J [] s)
  (mono:∀ ks s h',J ks s→(∀ b,b≠kS→h'.get? b=s.heap.get? b)→h'.objs.size=s.heap.objs.size→(∃ o,h'.get? kS=some o)→J ks { s with heap:=h' })
  (step:∀ ks s x,vs[ks.length]?=some x→J ks s→wpAny (model prog w) A (call f [x]) (fun k s'=>J (ks++[k]) s'∧s'.heap.get? a=s.heap.get? a∧s'.heap.get? kS=s.heap.get? kS) (fun _ _=>False) s)
  (fin:∀ ks s,ks.length=vs.length→J ks s→Rows s.heap ks kds)
  (h:∀ (p:Array Nat) ks s' h',ST.Pm kds.length p→(p.toList.map fun i=>kds.getD i .none)=gX kds→J ks s'→(∀ b,b≠kS→b≠a→h'.get? b=s'.heap.get? b)→h'.objs.size=s'.heap.objs.size →
   (∃ c,h'.get? a=some (seqObj "list" (p.toList.map fun i=>vs.getD i .none).toArray c))→P (.done (.ret .none)) { s' with heap:=h' }) :
  wpAny (model prog w) A (ksk_rest a f false vs.toArray e1 (.ref kS)) P E s:=by
 unfold ksk_rest
 refine wpAny_bind (wpAny_rule ?_)
 first
  | rw [List.forIn_toArray]
  | (rw [←Array.forIn_toList];simp only [List.toList_toArray])
  | rw [←Array.forIn_toList]
 refine wpAny_bind (wpAny_mono (a1l (J:=J) (oa:=seqObj "list" #[] e1) (a:=a) (kS:=kS) h64 (fun x ks e s' hz hx hk' ha' hj=>?_) vs [] 0 s (by simp) (by simp) hk ha hJ) (fun _ s' hd=>?_) fun _ _ x=>x)
 ·refine wpAny_bind (wpAny_attempt (wpAny_mono (step ks s' x hx hj) (fun kv s'' hq=>?_) fun _ _ hF=>hF.elim))
  obtain ⟨j2,a2,k2⟩:=hq
  rw [hk'] at k2
  rw [ha'] at a2
  have s1:=Heap.SameBut.update s''.heap kS (Obj.mapSeq (·.push kv))
  have ea:(List.toArray ks).push kv=List.toArray (ks++[kv]):=by simp
  obtain ⟨c2,hc2⟩:∃ c2,(s''.heap.update kS (Obj.mapSeq (·.push kv))).get? kS=some (seqObj "list" (List.toArray (ks++[kv])) c2):=⟨_,by rw [←ea];exact get?_update_seq k2 (·.push kv)⟩
  try dsimp only
  refine wpAny_bind (listUpdate_at k2 rfl ?_ (by rw [List.size_toArray,sizeLine_eq];omega) (Nat.le_trans (Nat.le_of_eq (Array.size_push ..)) (by rw [List.size_toArray,sizeLine_eq];omega)))
  exact wpAny_pure ⟨rfl,kv,c2,hc2,(s1.2 a hka.symm).trans a2,mono _ _ _ j2 (fun b hb=>s1.2 b hb) s1.1 ⟨_,hc2⟩⟩
 ·obtain ⟨ks,e,hk',ha',hl,hj⟩:=hd
  try dsimp only
  refine wpAny_bind (listItems_at hk' rfl ?_)
  have rd:=fin ks s' hl hj
  -- the end: the keys' list is emptied,the list is filled
  have tail:∀ (st:SortSt) (p:Array Nat),(arrOf st).map (·.2)=(p.toList.map fun i=>vs.getD i .none).toArray→failedOf st=none→ST.Pm kds.length p→(p.toList.map fun i=>kds.getD i .none)=gX kds →
    wpAny (model prog w) A (ksk_tail a false e1 (.ref kS) st) P E s':=by
   intro st p hout hf hP hS
   have s1:=Heap.SameBut.update s'.heap kS (Obj.mapSeq fun _=>(#[]:Array Value))
   have na:(s'.heap.update kS (Obj.mapSeq fun _=>(#[]:Array Value))).get? a=some (seqObj "list" #[] e1):=(s1.2 a hka.symm).trans ha'
   have s2:=Heap.SameBut.update (s'.heap.update kS (Obj.mapSeq fun _=>(#[]:Array Value))) a (Obj.mapSeq fun _=>(p.toList.map fun i=>vs.getD i Value.none).toArray)
   unfold ksk_tail
   try dsimp only
   rw [hout]
   refine wpAny_bind (listUpdate_at hk' rfl ?_ (by rw [List.size_toArray,sizeLine_eq];omega) (Nat.zero_le _))
   refine wpAny_bind (wpAny_letGo ?_)
   refine wpAny_bind (seqEpoch_at na rfl ?_)
   refine wpAny_bind (listUpdate_at na rfl ?_ (Nat.zero_le _) (by rw [if_neg (by decide),List.size_toArray,List.length_map,Array.length_toList,hP.size,sizeLine_eq];omega))
   rw [hf]
   simp only [bne_self_eq_false,Bool.false_eq_true,if_false]
   refine wpAny_pure (h p ks s' _ hP hS hj (fun b h1 h2=>(s2.2 b h2).trans (s1.2 b h1)) (s2.1.trans s1.1) ⟨_,get?_update_seq na fun _=>(p.toList.map fun i=>vs.getD i Value.none).toArray⟩)
  unfold ksk_end
  try dsimp only
  simp only [Bool.false_eq_true,if_false]
  by_cases h2:vs.toArray.size<2
  ·rw [if_pos h2,if_pos h2]
   refine wpAny_bind (wpAny_pure ?_)
   rw [StateT.run_pure]
   refine wpAny_bind (wpAny_pure ?_)
   have hsz:vs.toArray.size=vs.length:=by simp
   have hpm:ST.Pm kds.length (List.range vs.length).toArray:=by rw [hlen];exact ⟨by simp,Array.Perm.refl _⟩
   refine tail _ (List.range vs.length).toArray ?_ rfl hpm (kX hs hpm (fun i j hij hj=>by rw [show i=j by omega];exact Int.le_refl _))
   show (ks.toArray.zip vs.toArray).map (·.2)=_
   apply Array.toList_inj.mp
   have e:(List.range vs.length).map (fun i=>vs.getD i Value.none)=vs:=by
    refine List.ext_getElem (by simp) fun i h1 h2=>?_
    simp [List.getD_eq_getElem?_getD,h2]
   simp only [List.toList_toArray,e,Array.toList_map,Array.toList_zip]
   rw [List.map_snd_zip (by omega)]
  ·rw [if_neg h2,if_neg h2]
   have hsz:vs.toArray.size=vs.length:=by simp
   refine wpAny_bind (wR (s:=s') rd hs (by omega) ?_)
   have hq:=ST.h_sort (r:=rk kds) (n:=vs.length) (by omega)
   refine wpAny_bind (wpAny_mono (kat_run (κ:=tuples' true) (ks:=ks) (vs:=vs) (s:=s') (G:=fun p s2=>s2=s'∧ST.Pm vs.length p∧ST.Up (rk kds) p vs.length)
    (Q:=fun st' s2=>∃ p:Array Nat,arrOf st'=p.map (kas_item (ks.toArray.zip vs.toArray))∧failedOf st'=none∧s2=s'∧ST.Pm vs.length p∧ST.Up (rk kds) p vs.length)
    hl (by omega) h64 (fun p' st' s2 a1 a2 a3 a4=>⟨p',a2,a3,a4⟩)
    (ST.wp_run (n:=vs.length) (lt:=ST.ltr (rk kds)) (fun i j C hi hj hC=>?_) _ hq.1 ⟨rfl,hq.2⟩)) ?_ fun _ _ e=>e)
   ·obtain ⟨as,ri⟩:=rd.at i (by omega)
    obtain ⟨bs,rj⟩:=rd.at j (by omega)
    have mi:kds.getD i .none∈kds:=by rw [List.getD_eq_getElem?_getD,List.getElem?_eq_getElem (by omega)];exact List.getElem_mem (by omega)
    have mj:kds.getD j .none∈kds:=by rw [List.getD_eq_getElem?_getD,List.getElem?_eq_getElem (by omega)];exact List.getElem_mem (by omega)
    refine a6r ri rj (hs _ mi) (hs _ mj) ?_
    rw [a6u hs (by omega) (by omega)]
    exact hC
   ·rintro ⟨⟨⟩,st'⟩ s2 ⟨p,har,hf,rfl,hP,hU⟩
    dsimp only
    rw [←hlen] at hP hU
    exact tail st' p (kat_snds hl har) hf hP (kX hs hP hU)
end
end L2.L3
namespace L2.L3
open PySem PySem.W PyProof.Rows PySem.Calls
section
variable {prog:Program} {w:World} {A:Around} {E:Value→Shared→Prop} {s:Shared}
theorem a2m {l q:Addr} {T:String} {o:Obj} {vs:List Value} {n:Nat} {Q:Value→Shared→Prop} (hT:T = "list" ∨ T = "tuple") (ho:s.heap.get? l=some o) (hc:o.cls=.type T) (hd:o.data=.seq vs.toArray n) (h64:vs.length<64)
  (h:∀ (a kS:Addr) (e1:Nat) (h':Heap) (P:PySem.Fin→Shared→Prop) (E':Value→Shared→Prop),(∀ s',Q (.ref a) s'→P (.done (.ret .none)) s')→s.heap.objs.size≤a→a<kS→(∀ b o,s.heap.get? b=some o→h'.get? b=some o) →
   h'.get? kS=some (seqObj "list" #[] 0)→h'.get? a=some (seqObj "list" #[] e1)→wpAny (model prog w) A.in1.in1 (ksk_rest a (.ref q) false vs.toArray e1 (.ref kS)) P E' { s with heap:=h' }) :
  wpAny (model prog w) A (call (.builtin "sorted") [.ref l] [(Str.ofString "key", .ref q)]) Q E s:=by
 refine call_function_entry_kw kind_sorted plain_sorted entry_sorted (ksk_s1 _ _) ?_
 unfold Builtin.«sorted»
 refine wpAny_bind (m:=checkCount "sorted" 1 1 _) (wpAny_pure ?_)
 refine wpAny_bind (nQ hT ho hc hd (by rw [sizeLine_eq];omega) fun h1 kp up=>?_)
 refine wpAny_bind (wpAny_newList ?_ (by rw [sizeLine_eq];omega))
 have hoL:(h1.push (seqObj "list" vs.toArray 0)).get? h1.objs.size=some (seqObj "list" vs.toArray 0):=Heap.get?_push_size _ rfl
 have keep:∀ b o,s.heap.get? b=some o→b≠h1.objs.size∧(h1.push (seqObj "list" vs.toArray 0)).get? b=some o:=fun b o q=>⟨Nat.ne_of_lt (Heap.lt_size (kp _ _ q)),Heap.get?_push_of_some _ (kp _ _ q)⟩
 show wpAny _ _ _ _ _ { s with heap:=h1.push (seqObj "list" vs.toArray 0) }
 refine wpAny_bind (wpAny_holding (wpAny_call_entry_kw slot_list_sort ⟨_,hoL,rfl⟩ entry_list_sort ?body (ksk_l1 _ _)))
 case body=>
  show wpAny (model prog w) A.in1.in1 (Builtin.«list.sort» ⟨[.ref h1.objs.size],[(Str.ofString "key", .ref q)]⟩) _ _ _
  rw [ksk_t1]
  unfold ksk_tree
  obtain ⟨e1,ho1⟩:∃ e1,((h1.push (seqObj "list" vs.toArray 0)).update h1.objs.size (Obj.mapSeq fun _=>(#[]:Array Value))).get? h1.objs.size=some (seqObj "list" #[] e1):=⟨_,get?_update_seq hoL fun _=>#[]⟩
  refine wpAny_bind (listItems_at hoL rfl ?_)
  refine wpAny_bind (listUpdate_at hoL rfl ?_ (by rw [List.size_toArray,sizeLine_eq];omega) (Nat.zero_le _))
  refine wpAny_bind (seqEpoch_at ho1 rfl ?_)
  refine wpAny_bind (wpAny_newTuple ?_ (by show vs.length≤_;rw [sizeLine_eq];omega))
  refine wpAny_bind (wpAny_newList ?_ (Nat.zero_le _))
  refine wpAny_holding ?_
  refine h h1.objs.size (((h1.push (seqObj "list" vs.toArray 0)).update h1.objs.size (Obj.mapSeq fun _=>(#[]:Array Value))).push (seqObj "tuple" vs.toArray 0)).objs.size e1 ((((h1.push (seqObj "list" vs.toArray 0)).update h1.objs.size (Obj.mapSeq fun _=>(#[]:Array Value))).push (seqObj "tuple" vs.toArray 0)).push (seqObj "list" #[] 0)) _ _ (fun s' hq=>⟨_,rfl,wpAny_pure ⟨_,rfl,hq⟩⟩) up ?_ (fun b o e=>?_) (Heap.get?_push_size _ rfl) (Heap.get?_push_of_some _ (Heap.get?_push_of_some _ ho1))
  ·rw [size_push',Heap.size_update,size_push'];exact Nat.lt_succ_of_lt (Nat.lt_succ_self _)
  ·obtain ⟨hb,hq⟩:=keep b o e
   refine Heap.get?_push_of_some _ (Heap.get?_push_of_some _ ?_)
   rw [Heap.get?_update_ne _ _ _ _ hb]
   exact hq
end
end L2.L3
namespace L2.L3
open PySem PySem.Spec PySem.Calls PyProof.Rows
def xM (fe:EF):List PyData→Option (List PyData)
 | []=>some []
 | d::r=>match fe [.val d] with
  | some (.ok k)=>(xM fe r).map (k::·)
  | _=>none
def keyOk (ks:List PyData):Bool:=match ks with
 | []=>true
 | x::xs=>(match a9b x with
  | some (k::g)=>(x::xs).all (cH (k::g))
  | _=>false)
def ixK (k:PyData) (ks:List PyData):Nat:=ks.findIdx fun k'=>!ltT k k'&&!ltT k' k
def b1O (ds ks:List PyData):Option (List PyData):=
 if (List.range ks.length).all (fun i=>ixK (ks.getD i .none) ks==i) then some ((gX ks).map fun k=>ds.getD (ixK k ks) .none) else none
def a6l (fe:EF) (ds:List PyData):Option PyData:=match xM fe ds with
 | some ks=>if keyOk ks&&decide (ks.length<64) then (b1O ds ks).map .list else none
 | none=>none
def a2n (fa fe:EF):EF:=fun ρ=>match fa ρ with
 | some (.ok x)=>lft ((oN x).bind (a6l fe))
 | _=>none
theorem xL {fe:EF}:∀ {ds ks:List PyData},xM fe ds=some ks→ks.length=ds.length
 | [],ks,h=>by cases h;rfl
 | d::r,ks,h=>by
  unfold xM at h
  split at h
  ·obtain ⟨l,e1,rfl⟩:=Option.map_eq_some_iff.mp h
   simp [xL e1]
  ·cases h
theorem a1k {fe:EF}:∀ {ds ks:List PyData} {i:Nat} {d:PyData},xM fe ds=some ks→ds[i]?=some d→∃ k,ks[i]?=some k∧fe [.val d]=some (.ok k)
 | [],ks,i,d,h,e=>by simp at e
 | d'::r,ks,i,d,h,e=>by
  unfold xM at h
  split at h
  ·rename_i k ek
   obtain ⟨l,e1,rfl⟩:=Option.map_eq_some_iff.mp h
   cases i with
   | zero=>simp at e;subst e;exact ⟨k,rfl,ek⟩
   | succ i=>
    have e':r[i]?=some d:=by simpa using e
    exact a1k (ks:=l) e1 e'
  ·cases h
theorem a4Z {ks:List PyData} (h:keyOk ks=true):∃ k g,∀ d∈ks,cH (k::g) d=true:=by
 unfold keyOk at h
 split at h
 ·exact ⟨true,[],fun d hd=>by cases hd⟩
 ·split at h
  ·rename_i k g _;exact ⟨k,g,fun d hd=>List.all_eq_true.mp h d hd⟩
  ·cases h
theorem a4t {ds ks out:List PyData} {p:List Nat} (h:b1O ds ks=some out) (hp:∀ i∈p,i<ks.length) (e:(p.map fun i=>ks.getD i .none)=gX ks):out=p.map fun i=>ds.getD i .none:=by
 unfold b1O at h
 split at h
 ·rename_i hc
  cases (Option.some.inj h)
  rw [←e,List.map_map]
  refine List.map_congr_left fun i hi=>?_
  have:=List.all_eq_true.mp hc i (List.mem_range.mpr (hp i hi))
  show ds.getD (ixK (ks.getD i .none) ks) .none=_
  rw [beq_iff_eq.mp this]
 ·cases h
section
variable {X:Cx} {pins:List (Addr×Obj)} {σ:St} {H H0 G₀ G:Hp} {s:Shared} {ρ:List Ent}
structure KJ (X:Cx) (pins:List (Addr×Obj)) (σ:St) (G H:Hp) (N:Nat) (f c a kS:Addr) (qual:Str) (params:Arguments) (body:Expr) (scope:Scope) (pm ct:Value) (kds:List PyData) (ks:List Value) (s:Shared):Prop where
 ex:∃ G' H' kvs,Inv X pins σ H' s∧Grow G H G' H'∧nF X.K G' H'∧RepAll X.K G' kvs (kds.take ks.length)∧aY kvs ks∧H' f=none∧H' a=none∧H' kS=none
 fo:s.heap.get? f=some (a7s qual params body scope pm c ct)
 oa:∃ o,s.heap.get? a=some o
 okk:∃ o,s.heap.get? kS=some o
theorem uS {N:Nat} {h':Heap} {ch:List Addr} {s0:Shared} {H0:Hp} (I0:Inv X pins σ H0 s0) (I:Inv X pins σ H s) (hch:∀ b∈ch,s0.heap.objs.size≤b∧H b=none) (same:∀ b,b∉ch→h'.get? b=s.heap.get? b) :
  Inv X pins σ H { s with heap:=h' }:=by
 have nt:∀ b u,H b=some u→b∉ch:=fun b u e z=>by rw [(hch b z).2] at e;cases e
 have lt:∀ b∈ch,∀ d,d<s0.heap.objs.size→d≠b:=fun b hb d hd z=>absurd (hch b hb).1 (by rw [←z];exact Nat.not_le_of_lt hd)
 refine I.step (ch:=ch) (g':=s.gens) (d':=s.drawn) (t':=s.toks) (h':=h') (fun b hb=>⟨.inr (Nat.le_trans I0.sz (hch b hb).1),fun z=>lt b hb _ I0.lt z.symm,fun x c e=>lt b hb c (by obtain ⟨v,q⟩:=I0.cell x c e;exact q.lt),fun p hp=>lt b hb p.1 (Heap.lt_size (I0.pin p hp).1)⟩)
  (fun b o _ _ hc e n=>(same b hc).trans e) (fun b o _ _ hc e n=>⟨o.slots,(same b hc).trans e⟩) (fun b o _ _ n=>n) (fun b o hc e=>⟨o,(same b hc).trans e⟩) (fun _ _ e=>e) (fun _ _ _ e=>e) (fun b ps e=>⟨#[],by rw [e];simp⟩) (fun m ⟨o,es,ep,e,r⟩=>⟨o,es,ep,(same _ fun z=>lt _ z _ I0.lt rfl).trans e,r⟩)
  (fun b u e=>(I.hok b u e).stay (fun b' u' hb' e'=>(same b' ?_).trans e') (fun _ z=>z) fun _ _ z=>z) I.bare
 rcases hb' with rfl | z
 ·exact nt _ _ e
 ·exact nt _ _ z
theorem a5d {a:Addr} {o:HO} {s0:Shared} {H0:Hp} (I0:Inv X pins σ H0 s0) (I:Inv X pins σ H s) (ha:s0.heap.objs.size≤a) (hn:H a=none) (new:cM X.prog X.w (upd H a o) s.heap a o):Inv X pins σ (upd H a o) s:=by
 have lt:∀ d,d<s0.heap.objs.size→d≠a:=fun d hd z=>absurd ha (by rw [←z];exact Nat.not_le_of_lt hd)
 have nt:∀ b u,H b=some u→b≠a:=fun b u e z=>by rw [z,hn] at e;cases e
 refine I.step (ch:=[a]) (g':=s.gens) (d':=s.drawn) (t':=s.toks) (h':=s.heap) (fun b hb=>?_) (fun b o _ _ hc e n=>e) (fun b o _ _ hc e n=>⟨o.slots,e⟩) (fun b o hc e n=>by rw [aL (by simpa using hc)];exact n) (fun b o hc e=>⟨o,e⟩)
  (fun b xs e=>by rw [aL (nt b _ e)];exact e) (fun b o u e=>by rw [aL (nt b _ e)];exact e) (fun b ps e=>⟨#[],by rw [aL (nt b _ e),e];simp⟩) (fun m h=>h) (fun b u e=>?_) I.bare
 ·obtain rfl:=List.mem_singleton.mp hb
  exact ⟨.inr (Nat.le_trans I0.sz ha),fun z=>lt _ I0.lt z.symm,fun x c e=>lt c (by obtain ⟨v,q⟩:=I0.cell x c e;exact q.lt),fun p hp=>lt p.1 (Heap.lt_size (I0.pin p hp).1)⟩
 ·by_cases z:b=a
  ·subst z;rw [aN] at e;cases e;exact new
  ·rw [aL z] at e
   exact (I.hok b u e).stay (fun _ _ _ e'=>e') (fun b' e'=>by rw [aL (nt b' _ e')];exact e') fun b' xs e'=>by rw [aL (nt b' _ e')];exact e'
theorem zG (I:Inv X pins σ H s) {b:Addr} (h:s.heap.objs.size≤b):b∉frs X.stack:=fun z=>by
 rcases List.mem_cons.mp (I.stkSub b z) with e | e
 ·exact absurd I.lt (by rw [←e];exact Nat.not_lt_of_le h)
 ·exact I.nofs h e
theorem a8o {k:Nat} {x y:Str} {c P:Addr} {params:Arguments} {body a:Expr} {scope:Scope} {lp kp p pos:Pos} {fa fe:EF} (hx:x∈gK) (ht:PySem.W.tabIn X.K x=some (c,P)) (hcode:X.env.code=.ref c)
  (hq:X.env.qual ++ "<lambda>" = lamQ x) (C:PySem.W.codeHdIn X.K c P=true) (M:BM X.mg X.base) (hr:Room (k+3) X.A) (hm:X.mg "sorted" = none) (ha:DE X a fa) (S:FnScope [y] [y] scope)
  (hbody:∀ (f c:Addr) (A:Around) (outer:List Env) (s:Shared) (H:Hp),Room k (A.deeper (envOfC (lamQ x) scope s.heap.objs.size f (.ref c)))→DE (fcx X.prog X.w X.K X.mg X.base [y] (lamQ x) scope f (.ref c) A outer s H E0) body fe)
  (hbind:∀ (pm ct u:Value) (c:Addr),bindArgs (PySem.W.kla_fn "<lambda>" (lamQ x) params body scope [] pm (.ref c) ct) ⟨[u],[]⟩=pure [(y,u)]:=by intros;rfl)
  (hdef:defaultsOf params X.env=([],[]):=by rfl) (hcl:closureFor scope X.env=pure []:=by rfl)
  (he:starEach [a] X.env=(false,eval a X.env)::starEach [] X.env:=by rfl)
  (he':backTo pos (starEach [a] X.env)=(false,eval a X.env)::backTo pos (starEach [] X.env):=by rfl) (hpl:(backTo pos (starEach [a] X.env)).any (·.1)=false:=by rfl)
  (hk1:(backToKw pos (keywordEach [⟨some "key", .Lambda params body scope lp,kp⟩] X.env)).filterMap (·.1)=[Str.ofString "key"]:=by rfl) (hg:Gl X "sorted":=by rfl) :
  DE X (.Call (.Name "sorted" p) [a] [⟨some "key", .Lambda params body scope lp,kp⟩] pos) (a2n fa fe):=⟨fun pins s σ H Q I ⟨ρ,r,H0,G₀,G,ef,R,q⟩=>by
 unfold a2n at ef
 refine wpAny_Call_Name_kw (hZ I hg hm (by rfl:bootBuiltins "sorted" = some (.builtin "sorted")) ?_ (by decide) (by decide))
 split at ef
 ·rename_i d e1
  obtain ⟨out0,e3,rfl⟩:=aX ef
  obtain ⟨ds,e4,e5⟩:=Option.bind_eq_some_iff.mp e3
  unfold a6l at e5
  split at e5
  ·rename_i kds ek
   split at e5
   ·rename_i hok
    rw [Bool.and_eq_true] at hok
    obtain ⟨out,e6,rfl⟩:=Option.map_eq_some_iff.mp e5
    obtain ⟨kk,gg,hs⟩:=a4Z hok.1
    have k64:=of_decide_eq_true hok.2
    have kl:=xL ek
    refine callWith_kw (thn ((dQ (ha.pd e1) gB he).run H0 G₀ G pos pins s σ H (fun vs H'=>∃ G',Grow G H G' H'∧RepAll X.K G' vs [d]) I R fun vs G' H' g r=>⟨G',g,r⟩) fun us s1 ⟨vs,H1,I1,r1,G1,g1,w1⟩=>?_) he' hpl
    show wpAny _ _ (evalAll ((do let v ←eval (.Lambda params body scope lp) X.env;standAt pos;pure v)::[])) _ _ s1
    refine wpAny_evalAll_cons (wpAny_bind (a7q hx ht hcode hq C M hdef hcl I1 (R.more g1) fun f c' ct pm H2 s2 I2 g2 fo Hf sf hc'=>wpAny_bind (wpAny_standAt (wpAny_pure (wpAny_pure ?_)))))
    rw [hk1]
    cases w1 with | cons wa wn=>
    cases wn
    obtain ⟨u,rfl,ru⟩:=vals1 r1
    obtain ⟨l,ivs,rfl,hsq,ri⟩:=kM g2.sub e4 wa
    cases ru
    obtain ⟨its,T,o,n,hT,ho,hc,hd,rv⟩:=mM I2 hsq
    have l1:=ri.len
    have l2:=rv.length
    have tb2:nF X.K G1 H2:=((R.more g1).more g2).tab
    have nf:f∉frs X.stack:=zG I1 sf
    refine a2m hT ho hc hd (by omega) fun a kS e1' h' Pn E' hP ga gk kp' hk0 ha0=>?_
    have gk':s2.heap.objs.size≤kS:=Nat.le_trans ga (Nat.le_of_lt gk)
    have na:a∉frs X.stack:=zG I2 ga
    have nk:kS∉frs X.stack:=zG I2 gk'
    refine a7t (J:=KJ X pins σ G1 H2 0 f c' a kS (lamQ x) params body scope pm ct kds) (kds:=kds) (Nat.ne_of_gt gk) hk0 ha0 (by omega) hs (by omega) ?start ?mono ?step ?fin ?done
    case start=>exact ⟨⟨G1,H2,[],I2.kept (t':=s2.toks) kp',.refl g2.sub,tb2,.nil,.nil,Hf,I2.hok.fresh ga,I2.hok.fresh gk'⟩,kp' _ _ fo,⟨_,ha0⟩,⟨_,hk0⟩⟩
    case mono=>
     intro ks s3 h3 ⟨⟨G3,H3,kvs,I3,g3,t3,w3,v3,f3,a3,k3⟩,fo3,oa3,ok3⟩ same sz ok
     have fk:f≠kS:=fun z=>absurd (Heap.lt_size fo) (by rw [z];exact Nat.not_lt_of_le gk')
     refine ⟨⟨G3,H3,kvs,uS (N:=0) (ch:=[kS]) I2 I3 (fun b hb=>?_) (fun b hb=>same b (by simpa using hb)),g3,t3,w3,v3,f3,a3,k3⟩,(same f fk).trans fo3,?_,ok⟩
     ·obtain rfl:=List.mem_singleton.mp hb
      exact ⟨gk',k3⟩
     ·obtain ⟨oo,e⟩:=oa3
      exact ⟨oo,(same a (Nat.ne_of_lt gk)).trans e⟩
    case step=>
     intro ks s3 xv hxv ⟨⟨G3,H3,kvs,I3,g3,t3,w3,v3,f3,a3,k3⟩,fo3,oa3,ok3⟩
     have hi:ks.length<its.length:=(List.getElem?_eq_some_iff.mp hxv).1
     have hdi:ds[ks.length]?=some (ds[ks.length]'(by omega)):=List.getElem?_eq_getElem (by omega)
     obtain ⟨kd,ekd,efe⟩:=a1k ek hdi
     obtain ⟨iv,eiv,riv⟩:=ri.get hdi
     obtain ⟨xv',exv,rxv⟩:=rv.get eiv
     rw [hxv] at exv;cases exv
     have cr:s3.heap.CodeRec (.ref c') (lamQ x):=(I3.hok c' _ (g3.hh.keep c' _ hc' (by unfold cdO;nofun))).1
     have r3:Room (k+1) X.A.in1.in1:=hr.in1.in1
     refine wpAny_call (codeAny_mono (a7r r3 I3.env0.in1.in1 fo3 cr S (hbind pm ct xv c') (hbody f c' _ _ _ _ (r3.deeper _)) ⟨g3.sub,t3⟩ (riv.mono g3.gg) rxv efe) fun r s4 h4=>?_)
     cases r with
     | error e=>exact False.elim h4
     | ok fl=>
      cases fl with
      | next=>exact False.elim h4
      | brk=>exact False.elim h4
      | cont=>exact False.elim h4
      | ret u4=>
       obtain ⟨v4,H4,os4,bare4,un4,hok4,rv4,G4,g4,w4⟩:=h4
       obtain ⟨_,_,I4,_,rfl,rfl⟩:=I3.after (Q:=fun v H=>v=v4∧H=H4) (u:=u4) (s':=s4) ⟨v4,H4,os4,bare4,un4,hok4,rv4,rfl,rfl⟩
       obtain ⟨oo,eoa⟩:=oa3
       obtain ⟨ok',eok⟩:=ok3
       have keepA:=un4.keep a oo eoa a3 na (by simp)
       have keepK:=un4.keep kS ok' eok k3 nk (by simp)
       refine ⟨⟨⟨G4,_,kvs++[_],I4,g3.trans g4,t3.more g4,?_,Paired.snoc v3 rv4,un4.free f _ fo3 f3 (by simp),un4.free a _ eoa a3 (by simp),un4.free kS _ eok k3 (by simp)⟩,un4.keep f _ fo3 f3 nf (by simp),⟨oo,keepA⟩,⟨ok',keepK⟩⟩,keepA.trans eoa.symm,keepK.trans eok.symm⟩
       rw [List.length_append,List.length_singleton,List.take_succ,ekd]
       exact (w3.mono g4.gg).append (.cons w4 .nil)
    case fin=>
     intro ks s3 hl ⟨⟨G3,H3,kvs,I3,g3,t3,w3,v3,f3,a3,k3⟩,fo3,oa3,ok3⟩
     rw [List.take_of_length_le (by omega)] at w3
     exact yX I3 (w3.mono g3.sub) v3
    case done=>
     intro pp ks s3 h3 hPm hS ⟨⟨G3,H3,kvs,I3,g3,t3,w3,v3,f3,a3,k3⟩,fo3,oa3,ok3⟩ same sz ⟨cc,hca⟩
     refine hP _ ?_
     have pl:∀ i∈pp.toList,i<ivs.length:=fun i hi=>by
      have:=(Array.perm_iff_toList_perm.mp hPm.perm).mem_iff.mp hi
      simp at this
      omega
     have I5:Inv X pins σ H3 { s3 with heap:=h3 }:=uS (N:=0) (ch:=[kS,a]) I2 I3 (fun b hb=>by
      rcases List.mem_cons.mp hb with rfl | hb
      ·exact ⟨gk',k3⟩
      ·obtain rfl:=List.mem_singleton.mp hb
       exact ⟨ga,a3⟩) (fun b hb=>same b (fun z=>hb (by simp [z])) fun z=>hb (by simp [z]))
     refine ⟨.ref a,_,a5d (o:=.lst (pp.toList.map fun i=>ivs.getD i .non)) I2 I5 ga a3 ⟨?_,pp.toList.map fun i=>its.getD i Value.none,cc,aY.pick rv _ pl,hca⟩,rfl,?_⟩
     ·rw [List.length_map,Array.length_toList,hPm.size]
      exact Nat.le_of_lt (fX (by omega))
     ·refine q (.ref a) _ _ ((g1.trans g2).trans (g3.trans (.put g3.sub a3))) (.list (.of aN) ?_)
      rw [a4t (p:=pp.toList) e6 (fun i hi=>by have:=pl i hi;omega) hS]
      exact (ri.pick _ pl).mono (g3.gg.trans (Grow.put g3.sub a3).gg)
   ·cases e5
  ·cases e5
 ·cases ef⟩
end
end L2.L3
namespace L2.L3
open PySem PySem.Spec PySem.Calls PyProof.Rows
section
variable {P:Program} {w:World} {K:PySem.W.Frag} {mg:Str→Option Value} {base:Heap} {x:Str} {k:Nat} {ps N:List Str}
theorem b0j {st:Stmt} {f:SF} {fa c T:Addr} {fd:FuncData} (m n:Nat) (Fu:Fun K x x st fa fd) (S:FnScope N ps (aG st)) (hm:N.length=m) (hn:ps.length=n) (kb:K.In base) (nb:base.Ns mainGlobals mg) (hmg:mg x=some (.ref fa)) (ht:PySem.W.tabIn K x=some (c,T))
  (body:∀ (A:Around) (outer:List Env) (s:Shared) (H:Hp) (E:XK),Room k (A.deeper (envOfC x (aG st) s.heap.objs.size fa (.ref c)))→DB (fcx P w K mg base N x (aG st) fa (.ref c) A outer s H E) (cN st) f) :
  FnOk P w K mg base CX0 (k+1) fa fd ps (spD K fun ds d=>cU m n f ds=some (.ok d)):=by
 obtain ⟨oc,od,kV,doc,pm,an,cdv,ct,osl,rfl,lk,hcd⟩:=Fu.ex
 have hc:cdv=.ref c:=PySem.W.law_code kb nb ht hmg (kb _ _ lk) rfl
 subst hc
 refine a7S lk hcd S (fun vs H Q E ⟨G,ds,d,s,r,hF,_⟩=>?_) (fun A outer s H vs Q E hr ⟨G,ds,d,sm,r,hF,q⟩=>?_)
 ·have hF:cU m n f ds=some (.ok d):=hF
  unfold cU at hF
  split at hF
  ·rename_i hl;rw [r.length,hl,hn]
  ·cases hF
 ·have hF:cU m n f ds=some (.ok d):=hF
  unfold cU at hF
  split at hF
  ·rw [←hm,←pY] at hF
   split at hF
   ·rename_i d' e
    cases (Option.some.inj hF)
    exact ⟨_,(body A outer s H E hr).run.nox,gW N ds,_,H,G,G,e,fA sm r,fun v G' H' _ g rv=>q v G' H' g rv⟩
   ·rename_i ρ' e
    cases (Option.some.inj hF)
    exact ⟨_,(body A outer s H E hr).run.nox,gW N ds,_,H,G,G,e,fA sm r,fun G' H' σ' _ R'=>q .non G' H' R'.grow .none⟩
   ·cases hF
  ·cases hF
theorem a1K {st:Stmt} {f:SF} {c T:Addr} (m n:Nat) (D:Def K mg x st) (S:FnScope N ps (aG st)) (hm:N.length=m) (hn:ps.length=n) (kb:K.In base) (nb:base.Ns mainGlobals mg) (ht:PySem.W.tabIn K x=some (c,T))
  (hb:∀ (kV doc pm:Value) (an:Option Addr) (cdv ct:Value) (us:List Value),us.length=ps.length→bindArgs (PySem.W.fnOf x x (fR st) (cN st) (aG st) .none kV doc pm an cdv ct) ⟨us,[]⟩=pure (ps.zip us))
  (body:∀ (fa:Addr) (A:Around) (outer:List Env) (s:Shared) (H:Hp) (E:XK),Room k (A.deeper (envOfC x (aG st) s.heap.objs.size fa (.ref c)))→DB (fcx P w K mg base N x (aG st) fa (.ref c) A outer s H E) (cN st) f) :
  aJ P w K mg base x (k+1) ps (cU m n f):=by
 obtain ⟨fa,fd,Fu,hmg⟩:=D.ex
 exact ⟨fa,fd,hmg,Fu.kp,Fu.binds hb,b0j m n Fu S hm hn kb nb hmg ht fun A outer s H E hr=>body fa A outer s H E hr⟩
end
theorem a1f {β:Type}:∀ {l:List (Addr×β)} {a:Addr} {b:β},l.lookup a=some b→(a,b)∈l
 | [],_,_,e=>by cases e
 | (c,y)::r,a,b,e=>by
  rw [List.lookup_cons] at e
  cases hb:a==c with
  | true=>rw [hb] at e;cases e;rw [eq_of_beq hb];exact .head _
  | false=>rw [hb] at e;exact .tail _ (a1f e)
theorem a4W {P:Program} {w:World} {K:PySem.W.Frag} {mg mb:Str→Option Value} {k:Nat} {fa a:Addr} {fd:FuncData} {x:Str} {F:List PyData→Mm PyData} {s₁:Shared} {vs:List Value} {ns:List Int} {ts:List (Addr×Str)}
  (KX:K.In s₁.heap) (hns:s₁.heap.Ns mainGlobals mg) (hb:s₁.heap.Ns builtinsNs mb) (hbb:∀ x:Str,x ≠ "__name__" → mb x=bootBuiltins x) (hlim:s₁.heap.NoLimit) (hg:s₁.gens=#[])
  (ha:s₁.heap.get? a=some { cls:=.type "list", data:=.seq vs.toArray }) (hi:IntsAre vs ns) (hl:ns.length≤sizeLine) (hr:Room k callerA) (hbm:BM mg s₁.heap)
  (htab:∀ T q,ts.lookup T=some q→s₁.heap.get? T=some (PySem.W.tabObj #[])∧isCodeTable s₁.heap T∧K.lookup T=none) (hts:∀ x∈gK,∀ c T,PySem.W.tabIn K x=some (c,T)→ts.lookup T=some (lamQ x))
  (Fn:∀ base:Heap,K.In base→base.Ns mainGlobals mg→BM mg base→FnOk P w K mg base CX0 k fa fd [x] (spD K fun ds d=>F ds=some (.ok d))) (hbind:∀ (s:Shared) (u:Value),BindsTo s fd ⟨[u],[]⟩ [(x,u)]) (hF:F [.list (ns.map .int)]=some (.ok (.bool true))) :
  codeAny (model P w) callerA (.call (.ref fa) ⟨[.ref a],[]⟩) (fun r s'=>r=.ok (.ret (.bool true))∧OldK s₁.heap s'.heap∧s'.os=s₁.os∧AllBare s'.gens) s₁:=by
 have rv:=kA hi
 have lenV:=hi.length
 have core:∀ S:Hp,b6k S→SqL K S a (ns.map V.int)→HOk P w S s₁.heap→(∀ b,S b≠none→b=a)→(S a≠none→K.lookup a=none) →
   codeAny (model P w) callerA (.call (.ref fa) ⟨[.ref a],[]⟩) (fun r s'=>r=.ok (.ret (.bool true))∧OldK s₁.heap s'.heap∧s'.os=s₁.os∧AllBare s'.gens) s₁:=by
  intro S hO hS hok hA hK
  generalize hH:(fun b=>match ts.lookup b with | some q=>some (HO.tbl (q,#[])) | none=>S b:Hp)=H
  have H1:∀ b q,ts.lookup b=some q→H b=some (.tbl (q,#[])):=fun b q e=>by rw [←hH];simp [e]
  have H2:∀ b,ts.lookup b=none→H b=S b:=fun b e=>by rw [←hH];simp [e]
  have ta:∀ b,S b≠none→ts.lookup b=none:=fun b e=>by
   cases q:ts.lookup b with
   | none=>rfl
   | some q'=>
    have z:=hA b e
    subst z
    have:=(htab _ _ q).1
    rw [ha] at this;cases this
  have SH:bR S H:=fun b o e=>by rw [H2 b (ta b (by rw [e];simp))];exact e
  have hokH:HOk P w H s₁.heap:=fun b u e=>by
   cases q:ts.lookup b with
   | some q'=>
    rw [H1 b q' q] at e;cases e
    exact (htab _ _ q).1
   | none=>
    rw [H2 b q] at e
    exact (hok b u e).stay (fun _ _ _ z=>z) (fun b' z=>SH b' _ z) fun b' xs z=>SH b' _ z
  have free:∀ {b:Addr} {o:Obj},s₁.heap.get? b=some o→o≠PySem.W.tabObj #[]→o≠{ cls:=.type "list", data:=.seq vs.toArray }→H b=none:=fun {b o} e n1 n2=>by
   cases q:ts.lookup b with
   | some q'=>exact absurd (Option.some.inj (e.symm.trans (htab _ _ q).1)) n1
   | none=>
    rw [H2 b q]
    cases z:S b with
    | none=>rfl
    | some u=>
     have y:=hA b (by rw [z];simp)
     subst y
     exact absurd (Option.some.inj (e.symm.trans ha)) n2
  have base_of:∀ {b:Addr} {o:Obj},s₁.heap.get? b=some o→H b=none→(wA s₁.heap H).get? b=some o:=fun e n=>a7F e n
  have nsK:∀ {b:Addr} {m:Str→Option Value},s₁.heap.Ns b m→(wA s₁.heap H).Ns b m:=fun {b m} ⟨o,es,ep,e,d,r⟩=>⟨o,es,ep,base_of e (free e (fun z=>by rw [z] at d;cases d) fun z=>by rw [z] at d;cases d),d,r⟩
  have hKb:K.In (wA s₁.heap H):=fun b o e=>base_of (KX b o e) (by
   cases q:ts.lookup b with
   | some q'=>rw [(htab _ _ q).2.2] at e;cases e
   | none=>
    rw [H2 b q]
    cases z:S b with
    | none=>rfl
    | some u=>
     have y:=hA b (by rw [z];simp)
     subst y
     rw [hK (by rw [z];simp)] at e;cases e)
  have hM:Mod K mg (wA s₁.heap H):=⟨hKb,nsK hns,⟨mb,nsK hb,hbb⟩,let ⟨mc,h1,h2⟩:=hlim;⟨mc,nsK h1,h2⟩⟩
  have hB:BM mg (wA s₁.heap H):=by
   obtain ⟨bm,ob,b1,b2,b3,b4,b5,b6,b7⟩:=hbm.ex
   exact ⟨bm,ob,b1,b2,b3,base_of b4 (free b4 (fun z=>by rw [z] at b5;cases b5) fun z=>by rw [z] at b5;injection b5 with b5;exact absurd b5 (by decide)),b5,b6,b7⟩
  have e0:Env0 P w K mg (wA s₁.heap H) callerA [] s₁ H:=⟨rfl,hM,fun b o e=>a9H e,Nat.le_of_eq (a5e _ _),trivial,fun b hb=>absurd (show b∈([]:List Addr) from hb) (by simp),hokH,.of_eq hg⟩
  have tabs:nF K S H:=⟨fun x hx c T e=>⟨#[],H1 _ _ (hts x hx c T e),trivial,fun pos cv e=>by cases e⟩,fun b ps e=>by
   rcases hO b with z | ⟨o,xs,z⟩<;>rw [z] at e<;>cases e⟩
  refine codeAny_mono ((Fn _ hKb (nsK hns) hB).run callerA [] s₁ H ⟨[.ref a],[]⟩ [.ref a] [.ref a] (fun v _=>v=.bl true) E0 hr e0 (hbind s₁ (.ref a)) (.cons rfl .nil) ⟨S,[.list (ns.map .int)],.bool true,⟨SH,tabs⟩,.cons (.list hS (eP ns)) .nil,hF,fun v G' H' _ r=>by cases r;rfl⟩) fun r s' h=>?_
  cases r with
  | error e=>exact False.elim h
  | ok fl=>
   cases fl with
   | next=>exact False.elim h
   | brk=>exact False.elim h
   | cont=>exact False.elim h
   | ret u=>
    obtain ⟨v,H',os,bare,un,hok',r',q⟩:=h
    have q':v=.bl true:=q
    subst q'
    obtain rfl:u=Value.bool true:=r'
    refine ⟨rfl,⟨fun b o e=>?_,fun b o e=>un.there b o e (by simp)⟩,os,bare⟩
    cases y:ts.lookup b with
    | some q2=>
     obtain ⟨t1,t2,t3⟩:=htab _ _ y
     rw [e] at t1;cases t1
     obtain ⟨more,em⟩:=un.tbls b _ (H1 b q2 y)
     exact .inr (.inl ⟨t2,rfl,#[],more,rfl,hok' b _ em⟩)
    | none=>
     cases q:S b with
     | none=>exact .inl (un.keep b o e (by rw [H2 b y];exact q) (by intro z;exact absurd (show b∈([]:List Addr) from z) (by simp)) (by simp))
     | some u=>
      rcases hO b with z | ⟨ob,xs,z⟩
      ·rw [q] at z;cases z
      ·have z2:=un.frzs b ob _ (SH b _ z)
       obtain ⟨e1,_⟩:=hok b _ z
       obtain ⟨e2,_⟩:=hok' b _ z2
       rw [e] at e1;cases e1
       exact .inl e2
 cases hk:K.lookup a with
 | some o=>
  have e:=KX a o hk
  rw [ha] at e
  cases e
  refine core (fun _=>none) (fun _=>.inl rfl) (.inr ⟨_,vs.toArray,_,hk,rfl,rfl,rfl,by rw [List.size_toArray,lenV];exact hl,by simpa using rv⟩) (fun b u z=>by have z':(none:Option HO)=some u:=z;cases z') (fun b z=>absurd rfl z) fun z=>absurd rfl z
 | none=>
  refine core (fun b=>if b=a then some (.frz { cls:=.type "list", data:=.seq vs.toArray } (.lst (ns.map V.int))) else none) (fun b=>?_) (.inl (.inr ⟨{ cls:=.type "list", data:=.seq vs.toArray },if_pos rfl⟩)) (fun b u z=>?_) (fun b z=>?_) fun _=>hk
  ·by_cases hb:b=a
   ·exact .inr ⟨_,_,if_pos hb⟩
   ·exact .inl (if_neg hb)
  ·by_cases hb:b=a
   ·have z':=(if_pos hb).symm.trans z
    cases z'
    subst hb
    exact ⟨ha,by rw [List.length_map];exact hl,vs,_,rv,ha⟩
   ·have z':=(if_neg hb).symm.trans z
    cases z'
  ·by_cases hb:b=a
   ·exact hb
   ·exact absurd (if_neg hb) z
theorem walkL {l:PySem.W.OpenLaw} {k:Nat} {q:Program} {loose:List Str} {XP:(Str→Option Value)→Heap→Prop} {YP:World→Heap→Prop} {d:DefRec} {K:Params→PySem.W.Frag} {F:List PyData→Mm PyData} {x:Str} (ts:List (Addr×Str)) (hn:l.most=some 63) (hdf:d.params.defaults=[]) (hr:Room k callerA)
  (hY:∀ (w:World) (h:Heap),YP w h→(K w.params).In h) (hT:∀ (w:World) (h:Heap),YP w h→∀ p∈ts.map (·.1),h.get? p=some (PySem.W.tabObj #[])) (hcd:∀ w:World,∀ p∈ts,(∃ c,PySem.W.codeHdIn (K w.params) c p.1=true)∧(K w.params).lookup p.1=none)
  (hts:∀ w:World,∀ x∈gK,∀ c T,PySem.W.tabIn (K w.params) x=some (c,T)→ts.lookup T=some (lamQ x))
  (Fn:∀ (w:World) (mg:Str→Option Value) (fa:Addr) (h:Heap),(K w.params).In h→h.Ns mainGlobals mg→mg d.name=some (.ref fa) →
   ∃ fd:FuncData,(∀ (s:Shared) (u:Value),BindsTo s fd ⟨[u],[]⟩ [(x,u)])∧∀ base:Heap,(K w.params).In base→base.Ns mainGlobals mg→BM mg base→FnOk l.prog w (K w.params) mg base CX0 k fa fd [x] (spD (K w.params) fun ds d=>F ds=some (.ok d)))
  (hF:∀ ns:List Int,ns.length≤63→F [.list (ns.map .int)]=some (.ok (.bool true))) :
  PySem.W.WalkO q loose XP YP l.row.toRowW d [] (fun f vs=>PySem.call f vs):=by
 refine Att.attach_call hn hdf fun w s₀ s₁ mg mb fa o pm cd doc a vs ns G Y ho hd hcd' hmg hobj hints hlen hg=>?_
 have KX:=hY w _ Y
 obtain ⟨fd,hb,hFn⟩:=Fn w mg fa _ KX G.T.g hmg
 have hbm:BM mg s₁.heap:=by
  obtain ⟨bm,ob,b1,b2,b3,b4,b5,b6⟩:=G.T.bmain
  refine ⟨bm,ob,b1,b2,fun z=>?_,b3,b4,b5,b6⟩
  obtain ⟨o,es,ep,e,hd,_⟩:=G.T.g
  rw [z,e] at b3;cases b3;rw [hd] at b6;cases b6
 refine a4W (ts:=ts) KX G.T.g G.T.b G.T.builtins G.T.nolimit hg hobj hints (Nat.le_trans hlen (by decide)) hr hbm (fun T q e=>?_) (hts w) hFn hb (hF ns hlen)
 have m:=a1f e
 have e1:=hT w _ Y T (List.mem_map_of_mem (f:=(·.1)) m)
 obtain ⟨⟨c,hc⟩,hn'⟩:=hcd w _ m
 exact ⟨e1,((PySem.W.codeHd_of_K KX hc).tab e1).isCodeTable,hn'⟩
theorem lam_all {K:PySem.W.Frag} {ts:List (Addr×Str)} (h1:PySem.W.tabIn K "in_ending_order" = none∨∃ c T,PySem.W.tabIn K "in_ending_order" = some (c,T)∧ts.lookup T=some (lamQ "in_ending_order"))
  (h2:PySem.W.tabIn K "in_laying_order" = none∨∃ c T,PySem.W.tabIn K "in_laying_order" = some (c,T)∧ts.lookup T=some (lamQ "in_laying_order")):∀ x∈gK,∀ c T,PySem.W.tabIn K x=some (c,T)→ts.lookup T=some (lamQ x):=fun x hx c T e=>by
 unfold gK at hx
 rcases List.mem_cons.mp hx with rfl | hx
 ·rcases h1 with h | ⟨c',T',h,h'⟩
  ·rw [h] at e;cases e
  ·rw [h] at e;cases e;exact h'
 ·obtain rfl:=List.mem_singleton.mp hx
  rcases h2 with h | ⟨c',T',h,h'⟩
  ·rw [h] at e;cases e
  ·rw [h] at e;cases e;exact h'
theorem all_cons {α:Type} {p:α→Prop} {a:α} {l:List α} (h:p a) (t:∀ x∈l,p x):∀ x∈a::l,p x:=List.forall_mem_cons.mpr ⟨h,t⟩
end L2.L3
namespace L2.L3
open PySem
theorem a8M {α:Type} {xs:List α} {p:Int} (h0:0≤p) (h1:p<xs.length) (dflt:α):atI xs p=some (xs.getD p.toNat dflt):=by
 have e:((p.toNat:Nat):Int)=p:=by omega
 have lt:p.toNat<xs.length:=by omega
 have q:=b3I (xs:=xs) p.toNat
 rw [e] at q
 rw [q]
 simp [List.getD,List.getElem?_eq_getElem lt]
theorem a7O {α β:Type} (f:α→β) (xs:List α) (i:Nat) (d:α):(xs.map f).getD i (f d)=f (xs.getD i d):=by
 simp only [List.getD,List.getElem?_map]
 cases xs[i]?<;>rfl
theorem a4e {α β:Type} (f:α→β) {xs:List α} {p:Int} (h0:0≤p) (h1:p<xs.length) (dflt:α):atI (xs.map f) p=some (f (xs.getD p.toNat dflt)):=by
 rw [a8M h0 (by rw [List.length_map];exact h1) (f dflt),a7O]
def cellOf (ns:List Int) (k:Int):Int:=
 if k<ns.length then ns.getD k.toNat 0 else if ns=[] then 0 else ns.getD (k % (ns.length:Int)).toNat 0*31+k
def drawnOf (ns:List Int) (k:Int):Int:=(cellOf ns k+6151*(k+1))*40692 % 2147483399
def pickOf (ns:List Int) (k many:Int):Int:=(drawnOf ns k*drawnOf ns k+drawnOf ns k / 31) % 2147483629 % many
theorem sM (ns:List Int) (k:Int) {many:Int} (h:0<many):0≤pickOf ns k many:=Int.emod_nonneg _ (by omega)
theorem sN (ns:List Int) (k:Int) {many:Int} (h:0<many):pickOf ns k many<many:=Int.emod_lt_of_pos _ h
abbrev dN (ns:List Int):PyData:=.list (ns.map .int)
theorem yT {ds:List PyData} {n:Nat} (h1:∀ d∈ds,PyData.canLay0 d=true) (h2:∀ d∈ds,PyData.depth d≤n) (h3:n<64):SeqAt.shaped (.list ds)=true:=by
 refine wN (n:=n+1) ?_ ?_ h3
 ·rw [PyData.canLay0];exact pN h1
 ·rw [PyData.depth];have:=mE h2;omega
theorem tL {ds:List PyData} {n:Nat} (h1:∀ d∈ds,PyData.canLay0 d=true) (h2:∀ d∈ds,PyData.depth d≤n) (h3:n<64):SeqAt.shaped (.tuple ds)=true:=by
 refine wN (n:=n+1) ?_ ?_ h3
 ·rw [PyData.canLay0];exact pN h1
 ·rw [PyData.depth];have:=mE h2;omega
theorem a9c (ns:List Int):SeqAt.shaped (.list (ns.map .int))=true:=yT (n:=1) (fun d hd=>by obtain ⟨i,_,rfl⟩:=List.mem_map.mp hd;simp [PyData.canLay0]) (fun d hd=>by obtain ⟨i,_,rfl⟩:=List.mem_map.mp hd;simp [PyData.depth]) (by decide)
theorem a1w {a b:List PyData} (h1:SeqAt.shaped (.list a)=true) (h2:SeqAt.shaped (.list b)=true):eqD (.list a) (.list b)=some (PyData.eqvAll a b):=by
 show (if (SeqAt.shaped (.list a)&&SeqAt.shaped (.list b))=true then some (PyData.eqv (.list a) (.list b)) else none)=_
 rw [h1,h2,if_pos (by rfl),a8a]
theorem wX {a b:List PyData} (h1:SeqAt.shaped (.tuple a)=true) (h2:SeqAt.shaped (.tuple b)=true):neD (.tuple a) (.tuple b)=some (!PyData.eqvAll a b):=by
 show (if (SeqAt.shaped (.tuple a)&&SeqAt.shaped (.tuple b))=true then some (!PyData.eqv (.tuple a) (.tuple b)) else none)=_
 rw [h1,h2,if_pos (by rfl),a5j]
theorem a6o:SeqAt.shaped (.list [])=true:=by decide +kernel
theorem b0o (ds:List PyData):PyData.eqvAll ds []=ds.isEmpty:=by cases ds<;>simp [PyData.eqvAll]
theorem a8b {ds:List PyData} (h:SeqAt.shaped (.list ds)=true):eqD (.list ds) (.list [])=some ds.isEmpty:=by rw [a1w h a6o,b0o]
abbrev a4m:TF:=fH ltD (var 1) (dF nB (aB (var 0) aF))
abbrev a4k:TF:=fH eqD (var 0) (eY aF)
def vA:SF:=(aW (ifS a4m (retS (op2 ixD (var 0) (var 1))) fG) (aW (ifS a4k (retS (cst (.int 0))) fG) (retS (op2 cZ (op2 jC (op2 ixD (var 0) (op2 a1c (var 1) (dF nB (aB (var 0) aF)))) (cst (.int 31))) (var 1)))))
def pU:List PyData→Mm PyData:=cU 2 2 vA
def uY:SF:=(aW (dO 3 (op2 a1c (op2 jC (op2 cZ (aU pU (aB (var 0) (aB (var 1) aF))) (op2 jC (cst (.int 6151)) (op2 cZ (var 1) (cst (.int 1))))) (cst (.int 40692))) (cst (.int 2147483399)))) (retS (op2 a1c (op2 a1c (op2 cZ (op2 jC (var 3) (var 3)) (op2 a7V (var 3) (cst (.int 31)))) (cst (.int 2147483629))) (var 2))))
def eO:List PyData→Mm PyData:=cU 4 3 uY
theorem bL {m n:Nat} {f:SF} {ds:List PyData} {d:PyData} (hl:ds.length=n) (h:f (pX m ds)=some (.rt d)):cU m n f ds=some (.ok d):=by
 unfold cU;rw [if_pos hl,h]
theorem a9Z {ns:List Int} {p:Int} (h0:0≤p) (h1:p<ns.length):ixD (.list (ns.map .int)) (.int p)=some (.int (ns.getD p.toNat 0)):=by
 show atI (ns.map PyData.int) p=_
 rw [a4e PyData.int h0 h1 0]
theorem b3n (ns:List Int) (k:Int) (h0:0≤k):pU [dN ns,.int k]=some (.ok (.int (cellOf ns k))):=by
 refine bL rfl ?_
 show vA [.val (dN ns),.val (.int k)]=_
 unfold vA cellOf
 by_cases h1:k<ns.length
 ·rw [kN (d:=.int (ns.getD k.toNat 0)),if_pos h1]
  simp [h1]
  rw [a4e PyData.int h0 h1 0]
  simp
 ·rw [aO (ρ':=[.val (dN ns),.val (.int k)]) (by simp [h1]),if_neg h1]
  by_cases h2:ns=[]
  ·subst h2
   rw [kN (d:=.int 0),if_pos rfl]
   have h:eqD (dN []) (.list [])=some true:=a8b a6o
   simp [h]
  ·have he:(ns.map PyData.int).isEmpty=false:=by cases ns with
    | nil=>exact absurd rfl h2
    | cons a r=>rfl
   have h:eqD (dN ns) (.list [])=some false:=by rw [a8b (a9c ns),he]
   rw [aO (ρ':=[.val (dN ns),.val (.int k)]) (by simp [h]),if_neg h2]
   have lp:(0:Int)<(ns.length:Nat):=by cases ns with
    | nil=>exact absurd rfl h2
    | cons a r=>simp<;>omega
   have a1:=Int.emod_nonneg k (b:=(ns.length:Int)) (by omega)
   have a2:=Int.emod_lt_of_pos k lp
   have lp':0<ns.length:=by omega
   have ix:ixD (dN ns) (.int (k % (ns.length:Int)))=some (.int (ns.getD (k % (ns.length:Int)).toNat 0)):=a9Z a1 a2
   have ml:jC (.int (ns.getD (k % (ns.length:Int)).toNat 0)) (.int 31)=some (.int (ns.getD (k % (ns.length:Int)).toNat 0*31)):=zI (by decide) (by decide)
   simp only [fL,a0X,b0P,a5Y,dU,a0q,dL,a0v,b1e,a3I,b2E,List.length_map,if_pos lp,ix,b4V,ml,b3M,yA]
theorem a8k (ns:List Int) (k:Int):0≤drawnOf ns k∧drawnOf ns k<2147483399:=⟨Int.emod_nonneg _ (by decide),Int.emod_lt_of_pos _ (by decide)⟩
theorem a0b (ns:List Int) (k many:Int) (h0:0≤k) (hm:0<many):eO [dN ns,.int k,.int many]=some (.ok (.int (pickOf ns k many))):=by
 refine bL rfl ?_
 show uY [.val (dN ns),.val (.int k),.val (.int many),.no]=_
 have db:=a8k ns k
 unfold uY
 rw [aO (ρ':=[.val (dN ns),.val (.int k),.val (.int many),.val (.int (drawnOf ns k))])]
 ·have hsq:jC (.int (drawnOf ns k)) (.int (drawnOf ns k))=some (.int (drawnOf ns k*drawnOf ns k)):=zI (by omega) (by omega)
  simp [hsq,hm,pickOf]
 ·have h2:jC (.int 6151) (.int (k+1))=some (.int (6151*(k+1))):=a3E (by decide) (by decide)
  have h3:jC (.int (cellOf ns k+6151*(k+1))) (.int 40692)=some (.int ((cellOf ns k+6151*(k+1))*40692)):=zI (by decide) (by decide)
  simp [b3n ns k h0,h2,h3,drawnOf]
end L2.L3
namespace L2.L3
open PySem
abbrev rK:EF:=cF (.nm 0) [none] (fF (var 0)) ttT (op2 ixD (var 0) (cst (.int 0)))
def oD:SF:=(retS rK)
def lE:List PyData→Mm PyData:=cU 1 1 oD
abbrev nV:TF:=orT (hV (gG (op1 (isD "str") (var 0)))) (hV (a8A leD leD (cst (.int 1)) (dF nB (aB (var 0) aF)) (cst (.int 4))))
abbrev uN:EF:=cF (.nm 0) [none] (b4G (var 0)) ttT (a5t leD leD (cst (.str "a")) (var 0) (cst (.str "z")))
def qM:SF:=(aW (ifS nV (retS (cst (.bool false))) fG) (retS (dF allB (aB uN aF))))
def eQ:List PyData→Mm PyData:=cU 1 1 qM
def a2P:SF:=(retS (qZ (op1 (isD "int") (var 0)) (b2v (op1 (isD "bool") (var 0)))))
def bV:List PyData→Mm PyData:=cU 1 1 a2P
def gQ:SF:=(retS (qZ (aU bV (aB (var 0) aF)) (qZ (aU bV (aB (var 1) aF)) (a8B leD ltD leD (cst (.int 0)) (var 0) (var 1) (cst (.int 480))))))
def dW:List PyData→Mm PyData:=cU 2 2 gQ
abbrev jM:TF:=orT (hV (gG (op1 (isD "tuple") (var 0)))) (fH neD (dF nB (aB (var 0) aF)) (cst (.int 3)))
def fP:SF:=(aW (ifS jM (retS (cst (.bool false))) fG) (retS (qZ (aU eQ (aB (op2 ixD (var 0) (cst (.int 0))) aF)) (aU dW (aB (op2 ixD (var 0) (cst (.int 1))) (aB (op2 ixD (var 0) (cst (.int 2))) aF))))))
def fU:List PyData→Mm PyData:=cU 1 1 fP
abbrev lO:TF:=orT (hV (gG (op1 (isD "tuple") (var 0)))) (fH gtD (dF nB (aB (var 0) aF)) (cst (.int 16)))
abbrev gN:EF:=cF (.nm 0) [none] (fF (var 0)) ttT (aU fU (aB (var 0) aF))
abbrev lN:TF:=hV (gG (dF allB (aB gN aF)))
def jL:SF:=(retS (oG eqD (var 0) (op1 rC (var 0))))
def cQ:List PyData→Mm PyData:=cU 1 1 jL
def eZ:SF:=(aW (ifS lO (retS (cst (.bool false))) fG) (aW (ifS lN (retS (cst (.bool false))) fG) (retS (aU cQ (aB (aU lE (aB (var 0) aF)) aF)))))
def cA:List PyData→Mm PyData:=cU 1 1 eZ
@[simp] theorem b6C (neg:Bool) (k:PyData) (fa:EF) (ρ:List Ent):isE neg k fa ρ=bnd (fa ρ) fun x=>lft ((isB k x).map fun t=>.bool (neg != t)):=rfl
@[simp] theorem b4I (neg:Bool) (k:PyData) (fa:EF) (ρ:List Ent):isT neg k fa ρ=bnd (fa ρ) fun x=>lft ((isB k x).map fun t=>neg != t):=rfl
@[simp] theorem b5V:isB (.bool true) (.bool true)=some true:=rfl
@[simp] theorem b5W:isB (.bool false) (.bool false)=some true:=rfl
@[simp] theorem b5R (ds:List PyData):isD "tuple" (.tuple ds)=some (.bool true):=rfl
@[simp] theorem b5T (i:Int):isD "int" (.int i)=some (.bool true):=rfl
@[simp] theorem b5U (i:Int):isD "bool" (.int i)=some (.bool false):=rfl
@[simp] theorem b5S (i:Str):isD "str" (.str i)=some (.bool true):=rfl
@[simp] theorem b5e (g1 g2 g3:PyData→PyData→Option Bool) (fa fb fc fd:EF) (ρ:List Ent):a8B g1 g2 g3 fa fb fc fd ρ=bnd (fa ρ) fun x=>bnd (fb ρ) fun y=>bnd (lft (g1 x y)) fun t=>if t then bnd (fc ρ) fun z=>bnd (lft (g2 y z)) fun u=>if u then bnd (fd ρ) fun w=>lft ((g3 z w).map .bool) else some (.ok (.bool false)) else some (.ok (.bool false)):=rfl
theorem all_bools (bs:List Bool):allB [.list (bs.map .bool)]=some (.bool (bs.all id)):=by
 show (eL kG (bs.map .bool)).map _=_
 rw [gS (g:=.bool) (fun _=>rfl) bs];rfl
theorem b0p {b e:Int} (h:0≤b∧b<e∧e≤480):dW [.int b,.int e]=some (.ok (.bool true)):=by
 have w:∀ i:Int,bV [.int i]=some (.ok (.bool true)):=fun i=>by kernel_rfl
 refine bL rfl ?_
 show gQ [.val (.int b),.val (.int e)]=_
 simp [gQ,w,h.1,h.2.1,h.2.2]
structure MtOk (m:Mt):Prop where
 name:eQ [.str m.1]=some (.ok (.bool true))
 ok:PyData.strOk m.1=true
 times:0≤m.2.1∧m.2.1<m.2.2∧m.2.2≤480
theorem a5l {m:Mt} (h:MtOk m):fU [dM m]=some (.ok (.bool true)):=by
 refine bL rfl ?_
 show fP [.val (dM m)]=_
 unfold fP
 rw [aO (ρ':=[.val (dM m)]) (by simp)]
 simp [h.name,b0p h.times]
theorem b0r (s:List Mt) (hz:s.length≤100000):lE [dS s]=some (.ok (.list ((s.map (·.1)).map .str))):=by
 refine bL rfl ?_
 show oD [.val (dS s)]=_
 have k1:rK [.val (dS s)]=some (.ok (.list (s.map fun m=>.str m.1))):=cW dM (fun m=>[.val (dM m)]) (fun m=>.str m.1) s (by simp) hz (fun m _=>by simp [dD]) (fun m _=>by simp)
 unfold oD
 rw [fL,k1,List.map_map]
 rfl
theorem a5L (ns:List Str) (h:ns≠[]):eL intD (ns.map .str)=none:=by
 cases ns with
 | nil=>exact absurd rfl h
 | cons a r=>rfl
theorem a4p (ns:List Str) (h:ns.length<64):rC (.list (ns.map .str))=some (.list ((jD (gA ns)).map .str)):=by
 by_cases e:ns=[]
 ·subst e;simp [rC,eL,qT,gA,sortI,jD]
 ·simp only [rC,a5L ns e,a4o,if_pos h]
theorem a1y:∀ (ns acc:List Str),(∀ x∈ns,x∉acc)→ns.Nodup→ns.foldl (fun a n=>if n∈a then a else a++[n]) acc=acc++ns
 | [],acc,_,_=>by simp
 | n::ns,acc,h,hn=>by
  have h':=List.nodup_cons.mp hn
  rw [List.foldl_cons,if_neg (h n (by simp)),a1y ns (acc++[n]) (fun x hx=>?_) h'.2,List.append_assoc]
  ·rfl
  ·simp only [List.mem_append,List.mem_singleton,not_or]
   exact ⟨h x (by simp [hx]),fun z=>h'.1 (z▸hx)⟩
theorem a2W {ns:List Str} (h:ns.Nodup):gA ns=ns:=by unfold gA;rw [a1y ns [] (by simp) h];rfl
theorem qS:∀ (ns acc:List Str),acc.Nodup→(ns.foldl (fun a n=>if n∈a then a else a++[n]) acc).Nodup∧∀ x∈ns.foldl (fun a n=>if n∈a then a else a++[n]) acc,x∈acc∨x∈ns
 | [],acc,h=>⟨h,fun x hx=>.inl hx⟩
 | n::ns,acc,h=>by
  rw [List.foldl_cons]
  split
  ·obtain ⟨a,b⟩:=qS ns acc h
   exact ⟨a,fun x hx=>(b x hx).imp id fun z=>List.mem_cons_of_mem _ z⟩
  ·rename_i hn
   obtain ⟨a,b⟩:=qS ns (acc++[n]) (by
    rw [List.nodup_append]
    exact ⟨h,by simp,fun x hx y hy=>by rw [List.mem_singleton] at hy;subst hy;exact fun z=>hn (z▸hx)⟩)
   refine ⟨a,fun x hx=>?_⟩
   rcases b x hx with z | z
   ·rcases List.mem_append.mp z with z | z
    ·exact .inl z
    ·exact .inr (by rw [List.mem_singleton] at z;rw [z];simp)
   ·exact .inr (List.mem_cons_of_mem _ z)
theorem a5n {ns:List Str} {x:Str} (h:x∈gA ns):x∈ns:=((qS ns [] .nil).2 x h).elim (fun z=>by cases z) id
theorem a3n {ns:List Str} (h:∀ x∈ns,PyData.strOk x=true):SeqAt.shaped (.list (ns.map .str))=true:=yT (n:=1) (fun d hd=>by obtain ⟨i,hi,rfl⟩:=List.mem_map.mp hd;simpa [PyData.canLay0] using h i hi) (fun d hd=>by obtain ⟨i,_,rfl⟩:=List.mem_map.mp hd;simp [PyData.depth]) (by decide)
theorem a3Q {a b:List Str} (h1:∀ x∈a,PyData.strOk x=true) (h2:∀ x∈b,PyData.strOk x=true):eqD (.list (a.map .str)) (.list (b.map .str))=some (decide (a=b)):=by rw [a1w (a3n h1) (a3n h2),rQ]
theorem oE (s:List Mt) (hz:s.length≤16) (h:∀ m∈s,MtOk m):cA [dS s]=some (.ok (.bool (decide (s.map (·.1)=jD (gA (s.map (·.1))))))):=by
 refine bL rfl ?_
 show eZ [.val (dS s)]=_
 have hz':¬(16:Int)<(s.length:Nat):=by omega
 have k1:gN [.val (dS s)]=some (.ok (.list ((s.map fun _=>true).map .bool))):=by
  rw [show (s.map fun _=>true).map PyData.bool=s.map fun _=>PyData.bool true by simp [Function.comp_def]]
  exact cW dM (fun m=>[.val (dM m)]) (fun _=>.bool true) s (by simp) (by omega) (fun m _=>by simp [dD]) (fun m hm=>by simp [a5l (h m hm)])
 have ha:(s.map fun _=>true).all id=true:=by simp
 have t2:lN [.val (dS s)]=some (.ok false):=by
  show hV (gG (dF allB (aB gN aF))) _=_
  rw [a6X,a2e,a0q,dL,k1]
  simp only [dU,a0v,a3I,all_bools,ha,a2f,Bool.not_true]
 have ok1:∀ x∈s.map (·.1),PyData.strOk x=true:=fun x hx=>by obtain ⟨m,hm,rfl⟩:=List.mem_map.mp hx;exact (h m hm).ok
 unfold eZ
 rw [aO (ρ':=[.val (dS s)]) (by simp [hz']),aO (ρ':=[.val (dS s)]) (by rw [gO,t2];simp)]
 have hss:=a4p (s.map (·.1)) (by rw [List.length_map];omega)
 have he:=a3Q (a:=s.map (·.1)) (b:=jD (gA (s.map (·.1)))) ok1 (fun x hx=>ok1 x (a5n ((kK _).mem_iff.mp hx)))
 have er:cQ [.list ((s.map (·.1)).map .str)]=some (.ok (.bool (decide (s.map (·.1)=jD (gA (s.map (·.1))))))):=by
  refine bL rfl ?_
  show jL [.val (.list ((s.map (·.1)).map .str))]=_
  unfold jL
  rw [fL,a8y]
  simp only [b0P,a5Y,dU,b4A,hss,a3I,he,Option.map_some,yA]
 rw [fL,a0m,dL,a0m,dL]
 simp only [a5Y,dU,a0v,b0r s (by omega),er,yA]
theorem rW (s:List Mt) (hz:s.length≤16) (h:∀ m∈s,MtOk m) (hn:(s.map (·.1)).Nodup) (hp:(s.map (·.1)).Pairwise (fun a b=>bP a b=true)):cA [dS s]=some (.ok (.bool true)):=by
 rw [oE s hz h,a2W hn,decide_eq_true (nY (kK _).symm hp (kJ _))]
theorem wC (s:List Mt) (hz:s.length≤16) (h:∀ m∈s,MtOk m) (hn:¬(s.map (·.1)).Pairwise (fun a b=>bP a b=true)):cA [dS s]=some (.ok (.bool false)):=by
 rw [oE s hz h,decide_eq_false fun e=>hn (by rw [e];exact kJ _)]
end L2.L3
namespace L2.L3
open PySem
@[simp] theorem b6N (a b c d e:α) (r:List α):atI (a::b::c::d::e::r) 4=some e:=by
 unfold atI ixN
 rw [if_pos (by decide),if_pos (by simp<;>omega)];rfl
@[simp] theorem b6M (a b c d e f:α) (r:List α):atI (a::b::c::d::e::f::r) 5=some f:=by
 unfold atI ixN
 rw [if_pos (by decide),if_pos (by simp<;>omega)];rfl
theorem bH {F:List PyData→Mm PyData} {aa:AF} {ρ:List Ent} {ds:List PyData} {d:PyData} (ha:aa ρ=some (.ok ds)) (h:F ds=some (.ok d)):aU F aa ρ=some (.ok d):=by
 rw [a0m,ha,dU,h]
theorem b1a {ft fu:TF} {ρ:List Ent} (h1:ft ρ=some (.ok false)) (h2:fu ρ=some (.ok false)):orT ft fu ρ=some (.ok false):=by
 rw [b1b,h1,dU,if_neg (by decide),h2]
theorem wY {fa fb:EF} {ρ:List Ent} {x y:PyData} {r:Bool} (ha:fa ρ=some (.ok x)) (hb:fb ρ=some (.ok y)) (h:neD x y=some r):fH neD fa fb ρ=some (.ok r):=by
 rw [a8x,ha,dU,hb,dU,h];rfl
theorem jX {g:List PyData→Option PyData} {aa:AF} {ρ:List Ent} {ds:List PyData} {d:PyData} (ha:aa ρ=some (.ok ds)) (h:g ds=some d):dF g aa ρ=some (.ok d):=by
 rw [a0q,ha,dU,h];rfl
theorem sL {fa:EF} {ρ:List Ent} {d:PyData} {ds:List PyData} (ha:fa ρ=some (.ok d)) (hd:oN d=some ds):fF fa ρ=some (.ok ds):=by
 rw [b1Q,ha,dU,hd];rfl
theorem rR:∀ (l:List PyData),(∀ d∈l,PyData.eqv d d=true)→PyData.eqvAll l l=true
 | [],_=>by simp [PyData.eqvAll]
 | d::l,h=>by simp [PyData.eqvAll,h d (by simp),rR l fun x hx=>h x (List.mem_cons_of_mem _ hx)]
end L2.L3
namespace L2.L3
open PySem
def prs {α:Type}:List α→List (α×α)
 | a::b::r=>(a,b)::prs (b::r)
 | _=>[]
end L2.L3
namespace L2.L3
open PySem
end L2.L3
namespace L2.L3
open PySem
def b3f (m:Int) (x:Mt):Bool:=decide (x.2.1≤m)&&decide (m<x.2.2)
def a9K (s:List Mt) (m:Int):List Str:=(s.filter (b3f m)).map (·.1)
def b2K (s:List Mt) (m:Int):Int:=((a9K s m).length:Nat)
abbrev dP (p:Int×Int):PyData:=.tuple [.int p.1,.int p.2]
section
variable {s:List Mt} {lo hi:Int} {r:List Int}
end
end L2.L3
namespace L2.L3
open PySem
def gr:List Mt→Option Int→List Mt
 | [],_=>[]
 | m::r,none=>m::gr r (some m.2.2)
 | m::r,some e=>if e≤m.2.1 then m::gr r (some m.2.2) else gr r (some e)
end L2.L3
namespace L2.L3
open PySem PySem.Spec PyProof.Rows
def b4J (kf:Mt→PyData) (x:Mt):List Mt→List Mt
 | []=>[x]
 | y::l=>if ltT (kf y) (kf x) then y::b4J kf x l else x::y::l
def b5A (kf:Mt→PyData) (s:List Mt):List Mt:=s.foldr (b4J kf) []
section
variable {kf:Mt→PyData}
end
end L2.L3
namespace L2.L3
open PySem PySem.Spec PyProof.Rows
end L2.L3
namespace L2.L3
open PySem
def a5i:SF:=(aW (dO 2 (op2 cZ (op2 ixD (var 0) (cst (.int 1))) (op2 jC (op2 ixD (var 0) (cst (.int 3))) (var 1)))) (retS (aK (aB (var 2) (aB (op2 cZ (var 2) (op2 ixD (var 0) (cst (.int 2)))) aF)))))
def rB:List PyData→Mm PyData:=cU 3 2 a5i
abbrev vY:EF:=cF (.nm 0) [none,some 0] (a0Q (op2 ixD (var 0) (cst (.int 4)))) (fH b2x (var 0) (op2 ixD (var 1) (cst (.int 5)))) (var 0)
def zX:SF:=(retS vY)
def lD:List PyData→Mm PyData:=cU 1 1 zX
abbrev a1m:EF:=cF (.nm 0) [none,some 0] (fF (aU lD (aB (var 0) aF))) ttT (aU rB (aB (var 1) (aB (var 0) aF)))
def a2O:SF:=(retS a1m)
def lC:List PyData→Mm PyData:=cU 1 1 a2O
section
variable {nm:Str} {b z v:Int} {n:Nat} {o:List Int}
end
section
variable {nm nm':Str} {b z v b' z' v':Int} {n n':Nat} {o o':List Int}
end
abbrev ov (x y:Mt):Prop:=max x.2.1 y.2.1<min x.2.2 y.2.2
end L2.L3
namespace L2.L3
open PySem PySem.Spec PyProof.Rows
section
variable {P:Program} {w:World} {K:PySem.W.Frag} {mg:Str→Option Value} {base:Heap} {x:Str} {k:Nat} {ps N:List Str}
end
section
variable {X:Cx} {e:Expr} {fa:EF} {pos p pos2 p2:Pos}
end
section
variable {X:Cx} {a b:Expr} {pos p p2 pos2:Pos} {fa:EF}
end
end L2.L3
namespace L2.SX
open PySem PyProof.Rows
section
variable {prog:Program} {w:World} {K:Type} [DecidableEq K] {knd:KeyKind prog w K} {A:Around} {E:Value→Shared→Prop} {s:Shared} {a:Addr}
theorem rV:entryFor table "dict.update.loop" = some Builtin.«dict.update.loop»:=entryFor_of_tree (by kernel_rfl)
theorem jG:plainId "dict.update.loop" = true:=by decide +kernel
theorem zO:typeLookup (.type "list") "keys" = pure none:=am_miss_of_fast (by kernel_rfl)
theorem a4X {xs:Array Value} {n:Nat} {sl:Array (Option Value)} {Q:Option Value→Shared→Prop} (hx:s.heap.get? a=some { cls:=.type "list", dict:=none,data:=.seq xs n,slots:=sl }) (hA:A.handled=none)
  (h:∀ h' tk,(∀ b ob,s.heap.get? b=some ob→h'.get? b=some ob)→Q none { s with heap:=h',toks:=tk }):wpAny (model prog w) A (getAttr? (.ref a) "keys") Q E s:=by
 obtain ⟨hp,g,d,tk,os⟩:=s
 have hT:∀ tk',(⟨hp,g,d,tk',os⟩:Shared).TypeIs (.ref a) "list" := fun _=>⟨_,hx,rfl⟩
 have f1:=sub_AttributeError
 have f3:=F.slot_list_getattribute.lookup
 have f4:=F.slot_list_getattribute.bind (.ref a)
 have f5:=am_list_getattr_none
 have hmiss:=zO
 have hname:(["__module__", "__name__", "__qualname__", "__doc__", "__annotations__"]:List Str).contains "keys" = false:=by decide +kernel
 have hsz:("keys" : Str).length+100≤sizeLine:=by size_fits
 generalize ("keys" : Str)=name at hmiss hname hsz ⊢
 unfold getAttr? getAttrBy? getAttrBy
 repeat (any_goals (first | assumption | exact hT _ | ((with_reducible show wpAny _ _ (call (Value.builtin "list.__getattribute__") _ _) _ _ _);refine call_meets F.slot_list_getattribute (hT _) am_entry_list_getattribute (F.args_list_getattribute_2 _ _) (meets_getattribute_miss_list a xs n sl name _ hmiss hname hsz) ⟨hx,hA,fun h' tk' e hx'=>?_⟩) | wp_step))
 obtain ⟨t',u',he⟩:=hx'.there
 show wpAny _ _ (getattributeRaised _ _ _ _ _ _ _) _ _ _
 unfold getattributeRaised
 repeat (any_goals (first | assumption | wp_step))
 exact h _ _ hx'.keeps
end
section
variable {prog:Program} {w:World} {K:Type} [DecidableEq K] {knd:KeyKind prog w K} {A:Around} {R:Result→Shared→Prop} {I:Addr} {fp wr:List Addr} {G:Array GenState→Array GenState→Prop} {n:Nat} {P:Nat→Value→Prop} {St:Nat→Shared→Prop}
theorem a8l (W:WalksS prog w A.in1 I fp wr G n P St) (D:Addr) (hDf:D∉fp) {h₀:Heap} (hwr:∀ b∈wr,h₀.get? b=none) (hD:h₀.get? D=none) (prs:List (K×Value)) (hn:prs.length=n)
  (hval:∀ i v,P i v→∃ t o x kv,v=.ref t∧h₀.get? t=some o∧o.cls=.type "tuple" ∧ (∃ m,o.data=.seq #[x,kv.2] m)∧knd.is kv.1 x=true∧prs[i]?=some kv) (hsz:n≤sizeLine) :
  ∀ (m i:Nat) (s:Shared),n - i=m→i≤n→St i s→(∀ b o,h₀.get? b=some o→s.heap.get? b=some o)→s.heap.DictOf knd D (merged [] (prs.take i)) →
   (∀ s',Moved (D::wr) G s s'→(∀ b o,h₀.get? b=some o→s'.heap.get? b=some o)→s'.heap.DictOf knd D (merged [] prs)→R (.ok (.ret .none)) s') →
   codeAny (model prog w) A (.builtin "dict.update.loop" ⟨[.ref D,.ref I,rawInt (i:Int),.none],[]⟩) R s:=by
 have nw:D∉wr:=fun z=>hDf (W.sub _ z)
 have up:∀ b∈wr,b∈D::wr:=fun b hb=>List.mem_cons_of_mem _ hb
 have keep:∀ {s s':Shared},Moved wr G s s'→(∀ b o,h₀.get? b=some o→s.heap.get? b=some o)→∀ b o,h₀.get? b=some o→s'.heap.get? b=some o:=fun mv k b o e=>mv.heap b o (fun z=>by rw [hwr b z] at e;cases e) (k b o e)
 intro m
 induction m with
 | zero=>
  intro i s hm hi st kp g hR
  obtain rfl:i=n:=by omega
  refine codeAny_builtin rV ?_
  rw [Around.under_plainId jG _]
  show wpAny _ A.in1 (pyNext (.ref I)>>=_) _ _ s
  refine wpAny_bind (W.done s _ _ st fun s' mv=>?_)
  show wpAny _ _ (Builtin.Dict.addKeywords D []>>=_) _ _ _
  refine wpAny_bind (wpAny_pure (wpAny_pure (hR s' (mv.mono up) (keep mv kp) ?_)))
  rw [←hn,List.take_length] at g
  obtain ⟨o',es,ep,h1,h2⟩:=g
  exact ⟨o',es,ep,mv.heap D o' nw h1,h2⟩
 | succ m ih=>
  intro i s hm hi st kp g hR
  have lt:i<n:=by omega
  refine codeAny_builtin rV ?_
  rw [Around.under_plainId jG _]
  show wpAny _ A.in1 (pyNext (.ref I)>>=_) _ _ s
  refine wpAny_bind (W.item i s _ _ lt st fun v s' pv st' mv=>?_)
  obtain ⟨t,o,x,kv,rfl,ho,hc,⟨mm,hd⟩,hk,hp⟩:=hval i v pv
  have kp':=keep mv kp
  have g':s'.heap.DictOf knd D (merged [] (prs.take i)):=by
   obtain ⟨o',es,ep,h1,h2⟩:=g
   exact ⟨o',es,ep,mv.heap D o' nw h1,h2⟩
  have hT:s'.TypeIs (.ref t) "tuple" := ⟨o,kp' t o ho,hc⟩
  refine wpAny_bind (wpAny_holding (wpAny_bind (wpAny_tryCatch ?_)))
  unfold Builtin.Dict.pairItems
  refine wpAny_bind (wpAny_typeOf hT ?_)
  rw [if_pos (by decide)]
  refine wpAny_bind (wpAny_seqItems (kp' t o ho) hd (wpAny_pure ?_))
  show wpAny _ _ (holding [x,kv.2] (dictSet D x kv.2)) _ _ _
  have hlen:(merged [] (prs.take i)).length≤sizeLine:=by
   have:=merged_length_le ([]:List (K×Value)) (prs.take i)
   rw [List.length_take] at this
   simp at this
   omega
  refine wpAny_holding (wpAny_dictSet_pairs hk g' (fun h' g2 sb=>?_) hlen)
  rw [←merged_take_succ _ _ _ _ hp] at g2
  refine wpAny_pure ⟨plainId_quiet jG _,ih (i+1) _ (by omega) lt (W.frame _ s' _ _ st' (Nat.le_succ _) fun c hc' o' e=>?_) (fun b o' e=>?_) g2 fun s'' mv'' kp'' g''=>?_⟩
  ·show h'.get? c=_
   rw [sb.2 c (fun z:c=D=>hDf (z▸hc'))]
   exact e
  ·show h'.get? b=_
   rw [sb.2 b (fun z:b=D=>by rw [z,hD] at e;cases e)]
   exact kp' b o' e
  ·refine hR s'' (Moved.trans W.gtrans ((mv.mono up).then_heap (Nat.le_succ _) fun c o' hc' e=>?_) mv'') kp'' g''
   show h'.get? c=_
   rw [sb.2 c (fun z:c=D=>hc' (by rw [z];exact List.mem_cons_self))]
   exact e
end
section
variable {prog:Program} {w:World} {K:Type} [DecidableEq K] {knd:KeyKind prog w K} {A:Around} {E:Value→Shared→Prop} {s:Shared}
theorem dict_of {l:Addr} {items:Array Value} {n:Nat} {sl:Array (Option Value)} {prs:List (K×Value)} {Q:Value→Shared→Prop} (hh:A.handled=none) (hl:s.heap.get? l=some { cls:=.type "list", dict:=none,data:=.seq items n,slots:=sl })
  (hn:prs.length=items.size) (hval:∀ (i:Nat) (v:Value),items[i]?=some v→∃ (t:Addr) (o:Obj) (x:Value) (kv:K×Value),v=.ref t∧s.heap.get? t=some o∧o.cls=.type "tuple" ∧ (∃ m,o.data=.seq #[x,kv.2] m)∧knd.is kv.1 x=true∧prs[i]?=some kv) (hsz:prs.length≤sizeLine)
  (h:∀ (h':Heap) (tk:Nat),h'.DictOf knd s.heap.objs.size (merged [] prs)→(∀ b o,s.heap.get? b=some o→h'.get? b=some o)→Q (.ref s.heap.objs.size) { s with heap:=h',toks:=tk }) :
  wpAny (model prog w) A (call (.type "dict") [.ref l]) Q E s:=by
 refine callType_codes (Q₁:=fun obj s₁=>obj=.ref s.heap.objs.size∧s₁={ s with heap:=s.heap.push { cls:=.type "dict", data:=.dict #[] } }) F.kt_called_dict (F.kt_typeCall_dict_1 _) F.entry_dict_init (kt_code_dict_new _ ⟨rfl,rfl⟩) ?_
 rintro obj s₁ ⟨rfl,rfl⟩
 have hnew:(s.heap.push { cls:=.type "dict", data:=.dict #[] }).DictOf knd s.heap.objs.size []:=Heap.DictOf.new s.heap
 have hl1:(s.heap.push { cls:=.type "dict", data:=.dict #[] }).get? l=some { cls:=.type "list", dict:=none,data:=.seq items n,slots:=sl }:=Heap.get?_push_of_some _ hl
 have hT:Shared.TypeIs { s with heap:=s.heap.push { cls:=.type "dict", data:=.dict #[] } } (.ref l) "list" := ⟨_,hl1,rfl⟩
 have lt:l<s.heap.objs.size:=Heap.lt_size hl
 refine ⟨hnew.typeIs,F.args_dict_init_2 _ _,?_⟩
 unfold Builtin.«dict.__init__»
 refine wpAny_bind ?_
 unfold Builtin.Dict.selfAndRest
 refine wpAny_bind (wpAny_notOrdered_dict hnew.typeIs ?_)
 show wpAny _ _ (pure (s.heap.objs.size,[Value.ref l])) _ _ _
 refine wpAny_pure ?_
 show wpAny _ _ (Builtin.Dict.updateFrom "dict.__init__" s.heap.objs.size (.ref l) [] .none) _ _ _
 unfold Builtin.Dict.updateFrom
 refine wpAny_bind (wpAny_typeOf hT ?_)
 rw [if_pos (by decide)]
 refine wpAny_bind (a4X (A:=A.in1.in1) hl1 hh fun h1 tk1 k1=>?_)
 rw [if_pos (by rfl)]
 refine wpAny_bind (wpAny_rule ?_)
 have L1:h1.IsList l items:=⟨_,k1 _ _ hl1,rfl,n,rfl⟩
 refine wpAny_bind (wpAny_pyIter_list L1 ?_)
 have ltD:s.heap.objs.size<h1.objs.size:=Heap.lt_size (k1 _ _ (Heap.get?_push_size _ rfl))
 have nI:l≠h1.objs.size:=Nat.ne_of_lt (Nat.lt_trans lt ltD)
 have kp0:∀ b o,s.heap.get? b=some o→(h1.push { cls:=.type "list_iterator", data:=.fields #[.ref l,.int 0 0] }).get? b=some o:=fun b o e=>Heap.get?_push_of_some _ (k1 b o (Heap.get?_push_of_some _ e))
 refine wpAny_pure ⟨plainId_quiet jG _,?_⟩
 refine a8l (knd:=knd) (A:=A.in1) ((Walks.list (A:=A.in1.in1) hh h1.objs.size l nI items).toS) s.heap.objs.size ?_ (h₀:=s.heap) ?_ (Heap.get?_none_of_le (Nat.le_refl _)) prs hn hval (by omega) (items.size - 0) 0 _ (by omega) (Nat.zero_le _) ⟨⟨_,Heap.get?_push_size _ rfl,rfl,rfl⟩,L1.push _⟩ kp0 ?_ ?_
 ·intro z
  rcases List.mem_cons.mp z with z | z
  ·exact absurd z (Nat.ne_of_lt ltD)
  ·rw [List.mem_singleton] at z
   exact absurd z (Nat.ne_of_gt lt)
 ·intro b hb
  rw [List.mem_singleton] at hb
  subst hb
  exact Heap.get?_none_of_le (Nat.le_of_lt ltD)
 ·obtain ⟨o',es,ep,h2,h3⟩:=hnew
  exact ⟨o',es,ep,Heap.get?_push_of_some _ (k1 _ _ h2),h3⟩
 ·intro s' mv kp g'
  obtain ⟨h',gs',dr',tk',os'⟩:=s'
  obtain rfl:gs'=s.gens:=mv.gens
  obtain rfl:dr'=s.drawn:=mv.drawn
  obtain rfl:os'=s.os:=mv.os
  exact ⟨rfl,h h' tk' g' kp⟩
end
end L2.SX
namespace L2.L3
open PySem PySem.Spec PyProof.Rows
def a0f:PyData→Option Key
 | .int i=>some (.inl i)
 | .str x=>some (.inr x)
 | _=>none
theorem qV (k:Key):a0f (kD k)=some k:=by cases k<;>rfl
theorem a3Z {d:PyData} {k:Key} (h:a0f d=some k):d=kD k:=by
 unfold a0f at h;split at h
 ·cases h;rfl
 ·cases h;rfl
 ·cases h
def wW:PyData→Option (Key×PyData)
 | .tuple [k,v]=>(a0f k).map (·,v)
 | _=>none
theorem a6S {d:PyData} {p:Key×PyData} (h:wW d=some p):d=.tuple [kD p.1,p.2]:=by
 unfold wW at h;split at h
 ·obtain ⟨k,hk,rfl⟩:=Option.map_eq_some_iff.mp h
  rw [a3Z hk]
 ·cases h
def a7g (kvs:List (Key×PyData)):PyData:=.dict (kvs.map fun p=>(kD p.1,p.2))
def rY (ds:List PyData):Option PyData:=match ds with
 | [.list xs]=>match eL wW xs with
  | some kvs=>if decide (kvs.map (·.1)).Nodup&&decide (kvs.length≤1000) then some (a7g kvs) else none
  | none=>none
 | _=>none
def fN (k:Key):List (PyData×PyData)→Option PyData
 | []=>none
 | p::r=>if a0f p.1=some k then some p.2 else fN k r
def uE (k:Key):List (Key×V)→Option V
 | []=>none
 | p::r=>if p.1=k then some p.2 else uE k r
section
variable {K:PySem.W.Frag} {G:Hp}
theorem xJ {k:Key} {d:PyData}:∀ {kvs:List (Key×V)} {D:List (PyData×PyData)},D.map (·.1)=kvs.map (fun p=>kD p.1)→RepAll K G (kvs.map (·.2)) (D.map (·.2))→fN k D=some d→∃ v,uE k kvs=some v∧Rep K G v d
 | [],[],_,_,h=>by cases h
 | [],_::_,e,_,_=>by simp at e
 | _::_,[],e,_,_=>by simp at e
 | q::kvs,p::D,e,.cons r t,h=>by
  rw [List.map_cons,List.map_cons,List.cons.injEq] at e
  unfold fN at h
  unfold uE
  rw [e.1,qV] at h
  by_cases c:q.1=k
  ·rw [if_pos (by rw [c])] at h
   rw [if_pos c]
   cases (Option.some.inj h)
   exact ⟨_,rfl,r⟩
  ·rw [if_neg (fun z=>c (Option.some.inj z))] at h
   rw [if_neg c]
   exact xJ e.2 t h
theorem a3o {k:Key} {v:V} (r:Rep K G v (kD k)):v=kV k:=by
 cases k<;>(cases r;rfl)
end
section
variable {X:Cx} {e a b:Expr} {fa fb:EF} {pos p:Pos}
theorem b0f {pins:List (Addr×Obj)} {σ:St} {H:Hp} {s:Shared} (I:Inv X pins σ H s):sysModules<s.heap.objs.size:=by
 have h:mainGlobals<s.heap.objs.size:=(I.mod.glob.keeps I.bk).lt
 exact Nat.lt_trans (by decide) h
theorem a9Y {P:Program} {w:World} {k:Key} {u:Value} (r:RelV (kV k) u):(dB P w).is k u=true:=by
 cases k with
 | inl i=>obtain ⟨t,rfl⟩:=r;exact rJ P w i t
 | inr x=>obtain ⟨t,rfl⟩:=r;exact rH P w x t
theorem a6C {pins:List (Addr×Obj)} {σ:St} {H:Hp} {s:Shared} (I:Inv X pins σ H s):∀ {ts:List V} {kvs:List (Key×V)} {its:List Value},Paired (fun t (kv:Key×V)=>∃ a,t=V.ref a∧SqT X.K H a [kV kv.1,kv.2]) ts kvs→aY ts its →
  ∃ prs:List (Key×Value),KV kvs prs∧∀ (i:Nat) (v:Value),its[i]?=some v→∃ (t:Addr) (o:Obj) (x:Value) (kv:Key×Value),v=.ref t∧s.heap.get? t=some o∧o.cls=.type "tuple" ∧ (∃ m,o.data=.seq #[x,kv.2] m)∧(dB X.prog X.w).is kv.1 x=true∧prs[i]?=some kv
 | _,_,_,.nil,.nil=>⟨[],.nil,fun i v e=>by simp at e⟩
 | _,_,_,.cons ⟨a,e,hq⟩ t,.cons r rs=>by
  obtain ⟨prs,h1,h2⟩:=a6C I t rs
  subst e
  cases r
  obtain ⟨its,rv,⟨o,ho,hc,n,hd⟩,hz⟩:=I.tuple hq
  obtain ⟨u,w,rfl,r1,r2⟩:=vals2 rv
  rename_i kv _ _ _
  refine ⟨(kv.1,w)::prs,.cons ⟨rfl,r2⟩ h1,fun i v e=>?_⟩
  cases i with
  | zero=>
   simp at e
   exact ⟨a,o,u,(kv.1,w),e.symm,ho,hc,⟨n,hd⟩,a9Y r1,rfl⟩
  | succ i=>exact h2 i v (by simpa using e)
theorem b2N {kvs:List (Key×V)} {vs:List (Key×Value)} (h:KV kvs vs):kvs.length=vs.length:=by
 have:=congrArg List.length (pA h).1
 simpa using this
theorem tY {α β:Type} {F:α→β→Prop}:∀ {l:List α} {m:List β},Paired F l m→l.length=m.length
 | _,_,.nil=>rfl
 | _,_,.cons _ t=>by simp [tY t]
theorem a5A (hc:X.calm=true):eM X (.type "dict") (fun xs H Q=>∃ (p:Addr) (ts:List V) (kvs:List (Key×V)),xs=[.ref p]∧SqL X.K H p ts∧Paired (fun t (kv:Key×V)=>∃ a,t=V.ref a∧SqT X.K H a [kV kv.1,kv.2]) ts kvs∧(kvs.map (·.1)).Nodup∧kvs.length≤1000 ∧
  ∀ l,H l=none→Q (.ref l) (upd H l (.dK kvs))):=by
 intro pins s σ H xs us Q I r ⟨p,ts,kvs,e,hq,hp,nd,hz,q⟩
 subst e
 obtain ⟨u,rfl,rx⟩:=vals1 r
 cases rx
 obtain ⟨its,rv,⟨o,n,ho,hcl,hdc,hda⟩,_⟩:=I.list hq
 obtain ⟨prs,kv,hv⟩:=a6C I hp rv
 obtain ⟨oc,od,odt,osl⟩:=o
 dsimp only at hcl hdc hda
 subst hcl hdc hda
 have hd:=I.ok.hd hc
 have l1:=b2N kv
 have l2:=tY hp
 have l3:=rv.length
 have hline:kvs.length≤sizeLine:=Nat.le_of_lt (fX (by omega))
 refine SX.dict_of (knd:=dB X.prog X.w) (prs:=prs) hd ho (by rw [List.size_toArray];omega) (fun i v e=>hv i v (by simpa using e)) (by omega) fun h' tk dd kp=>?_
 have nd':(prs.map (·.1)).Nodup:=by rw [←(pA kv).1];exact nd
 rw [merged_nil_of_nodup prs nd'] at dd
 have big:=b0f I
 have ne:(s.heap.objs.size==sysModules)=false:=beq_eq_false_iff_ne.mpr (Nat.ne_of_gt big)
 exact ⟨.ref s.heap.objs.size,_,I.laid (t':=tk) (a:=s.heap.objs.size) (o:=.dK kvs) kp (Nat.le_refl _) ⟨hline,ne,prs,kv,dd⟩,rfl,q _ I.fresh⟩
theorem wU {K:PySem.W.Frag} {G:Hp}:∀ {ts:List V} {xs:List PyData} {ks:List (Key×PyData)},RepAll K G ts xs→eL wW xs=some ks→∃ kvs:List (Key×V),Paired (fun t (kv:Key×V)=>∃ a,t=V.ref a∧SqT K G a [kV kv.1,kv.2]) ts kvs∧kvs.map (·.1)=ks.map (·.1)∧RepAll K G (kvs.map (·.2)) (ks.map (·.2))
 | _,_,_,.nil,h=>by cases (Option.some.inj h);exact ⟨[],.nil,rfl,.nil⟩
 | _,d::ds,ks,.cons r t,h=>by
  unfold eL at h
  split at h
  ·cases h
  ·rename_i q hq
   obtain ⟨ks',h1,rfl⟩:=Option.map_eq_some_iff.mp h
   obtain ⟨kvs,p1,p2,p3⟩:=wU t h1
   rw [a6S hq] at r
   cases r with
   | tuple hs rr=>
    cases rr with | cons ra rr=>
    cases rr with | cons rb rr=>
    cases rr
    cases a3o ra
    exact ⟨(q.1,_)::kvs,.cons ⟨_,rfl,hs⟩ p1,by rw [List.map_cons,List.map_cons,p2],.cons rb p3⟩
theorem a3S (hc:X.calm=true) (ds:List PyData) (d:PyData) (h:rY ds=some d):CallD X (.type "dict") ds d:=by
 unfold rY at h
 split at h
 ·split at h
  ·rename_i xs ks e
   split at h
   ·rename_i hh
    rw [Bool.and_eq_true,decide_eq_true_eq,decide_eq_true_eq] at hh
    cases (Option.some.inj h)
    exact ⟨_,a5A hc,fun vs G H Q s r q=>by
     cases r with | cons r rr=>cases rr;cases r with | list hq r=>
      obtain ⟨kvs,p1,p2,p3⟩:=wU r e
      have hl:kvs.length=ks.length:=by have:=congrArg List.length p2;simpa using this
      refine ⟨_,_,kvs,rfl,s.seq hq,Paired.mapP p1 (fun a b ⟨t,e1,e2⟩=>⟨t,e1,iO s e2⟩),by rw [p2];exact hh.1,by omega,fun l hl=>?_⟩
      refine q _ _ _ (.put s hl) (.dict aN ?_ ?_)
      ·rw [List.map_map]
       have:ks.map ((fun x=>x.1)∘fun p:Key×PyData=>(kD p.1,p.2))=(ks.map (·.1)).map kD:=by rw [List.map_map];rfl
       rw [this,←p2,List.map_map];rfl
      ·rw [List.map_map]
       exact p3.mono (bC (s.free hl))⟩
   ·cases h
  ·cases h
 ·cases h
theorem boot_dict:bootBuiltins "dict" = some (.type "dict"):=by kernel_rfl
end
section
variable {X:Cx} {elt iter tg:Expr} {ifs:List Expr} {scope:Scope} {pos spos p:Pos} {N':List Str} {cap:List (Option Nat)} {t:Tg} {fi:AF} {ft:TF} {fe:EF}
end
abbrev oC:EF:=aK (aB (op2 ixD (var 0) (cst (.int 1))) (aB (op1 nA (op2 ixD (var 0) (cst (.int 2)))) (aB (op2 ixD (var 0) (cst (.int 0))) aF)))
def pI:SF:=(retS (a2n (var 0) oC))
def fV:List PyData→Mm PyData:=cU 1 1 pI
abbrev kL (m:Mt):PyData:=.tuple [.int m.2.1,.int (-m.2.2),.str m.1]
def b5N (s:List Mt):List Mt:=b5A kL s
abbrev Ly:=Mt×Nat
def taken (P:List Ly) (m:Mt):List Int:=(P.filter fun p=>decide (ov m p.1)).map fun p=>(p.2:Int)
def b1o:List Ly→Str→Nat
 | [],_=>0
 | p::P,x=>if p.1.1=x then p.2 else b1o P x
section
variable {L:List Mt} {P:List Ly}
end
def b2D (L:List Mt):Int:=if L=[] then 0 else b2H (L.map fun x=>b2K L x.2.1)
end L2.L3
namespace L2.L3
open PySem
def a7J:List Mt→List Mt→Int→List (List Mt)
 | [],cur,_=>[cur]
 | m::l,cur,reach=>if m.2.1<reach then a7J l (cur++[m]) (max reach m.2.2) else cur::a7J l [m] m.2.2
def b4N:List Mt→List (List Mt)
 | []=>[]
 | m::l=>a7J l [m] m.2.2
end L2.L3
namespace L2.L3
open PySem PySem.Spec PyProof.Rows
section
variable {K:PySem.W.Frag} {H0 G₀ G H:Hp} {σ:St} {ρ:List Ent}
end
end L2.L3
namespace L2.L3
open PySem PySem.Spec PyProof.Rows
section
variable {X:Cx} {rest:List Stmt} {f:SF} {fa:EF} {e:Expr} {es:List Expr} {pos:Pos}
end
end L2.L3
namespace L2.L3
open PySem PySem.Spec PyProof.Rows
section
variable {X:Cx}
end
end L2.L3
namespace L2.L3
open PySem PySem.Spec PyProof.Rows
end L2.L3
namespace L2.ZT
open PySem PyProof.Rows
section
variable {prog:Program} {w:World} {A:Around} {E:Value→Shared→Prop} {s:Shared}
variable {z TI TO c d t u:Addr} {i j:Nat} {xs ys:Array Value} {a b:Value}
end
section
variable {prog:Program} {w:World} {A:Around} {E:Value→Shared→Prop} {s:Shared}
end
end L2.ZT
namespace L2.L3
open PySem PySem.Spec PyProof.Rows
def Itl (K:PySem.W.Frag) (l1 l2:Addr):It:=
 ⟨fun i H=>∃ xs ys x y,SqT K H l1 xs∧SqL K H l2 ys∧xs[i]?=some x∧ys[i]?=some y,
 fun i H v H'=>∃ T x y,H T=none∧v=.ref T∧H'=upd H T (.tup [x,y])∧(∀ xs,SqT K H l1 xs→xs[i]?=some x)∧∀ ys,SqL K H l2 ys→ys[i]?=some y,
 fun i H=>∃ xs ys,SqT K H l1 xs∧SqL K H l2 ys∧(xs.length≤i∨ys.length≤i)⟩
section
variable {X:Cx} {a b:Expr} {elts:List Expr} {k0:Nat} {p0 pos p:Pos} {fa fb:EF}
end
theorem b0I {g:PyData→PyData→Option Bool} {fa fb:EF} {ρ:List Ent} {x y:PyData} {r:Bool} (ha:fa ρ=some (.ok x)) (hb:fb ρ=some (.ok y)) (h:g x y=some r):fH g fa fb ρ=some (.ok r):=by
 rw [a8x,ha,dU,hb,dU,h];rfl
theorem bB {fa:EF} {aa:AF} {ρ:List Ent} {x:PyData} {xs:List PyData} (ha:fa ρ=some (.ok x)) (hb:aa ρ=some (.ok xs)):aB fa aa ρ=some (.ok (x::xs)):=by
 rw [dL,ha,dU,hb,dU]
def prt (s:List Mt) (m:Mt):List Mt:=s.filter fun o=>!decide (o.1=m.1)&&decide (ov m o)
def gof (s:List Mt) (m:Mt):List Mt:=((b4N (b5N s)).find? fun A=>decide (m∈A)).getD []
def grp (s:List Mt) (m:Mt):List Mt:=s.filter fun a=>decide (a∈gof s m)
def wid (s:List Mt) (m:Mt):Int:=b2D (grp s m)
section
variable {s:List Mt}
variable (hp:∀ m∈s,m.2.1<m.2.2)
include hp
omit hp
abbrev cl (P:List Ly) (m:Mt):Int:=(b1o P m.1:Nat)
variable {P:List Ly}
def lst (s:List Mt) (P:List Ly) (m:Mt):Int:=b2G ((wid s m::(prt s m).map (cl P)).filter fun c=>decide (cl P m<c))
end
end L2.L3
namespace L2.L3
open PySem
def vB:SF:=(retS (op2 a7V (var 0) (cst (.int 48))))
def pV:List PyData→Mm PyData:=cU 1 1 vB
variable {m:Mt}
theorem a8g (i:Int):pV [.int i]=some (.ok (.int (i / 48))):=by
 refine bL rfl ?_
 show vB [.val (.int i)]=_
 simp [vB]
theorem a7l {fa fb:EF} {ρ:List Ent} {m n:Int} (h:fa ρ=some (.ok (.int m))) (h':fb ρ=some (.ok (.int n))) (h1:0≤m) (h2:m≤1000) (h3:0≤n) (h4:n≤1000):a1d fa fb ρ=some (.ok (.list (eI m (n - m).toNat))):=by
 unfold a1d
 rw [h,h']
 have e:(jK m&&jK n&&cG (n - m).toNat)=true:=by
  simp only [jK,cG,Bool.and_eq_true,decide_eq_true_eq];omega
 simp only [e,if_true]
theorem any_bools (bs:List Bool):anyB [.list (bs.map .bool)]=some (.bool (bs.any id)):=by
 show (eL kG (bs.map .bool)).map _=_
 rw [gS (g:=.bool) (fun _=>rfl) bs];rfl
theorem b4g {m:Mt} (h:PyData.strOk m.1=true):SeqAt.shaped (dM m)=true:=tL (n:=1) (fun d hd=>by
 have:d=.str m.1∨d=.int m.2.1∨d=.int m.2.2:=by simpa using hd
 rcases this with rfl | rfl | rfl<;>simp [PyData.canLay0,h]) (fun d hd=>by
 have:d=.str m.1∨d=.int m.2.1∨d=.int m.2.2:=by simpa using hd
 rcases this with rfl | rfl | rfl<;>simp [PyData.depth]) (by decide)
theorem b0V {s:List Mt} (h:∀ m∈s,PyData.strOk m.1=true):SeqAt.shaped (dS s)=true:=tL (n:=2) (fun d hd=>by
 obtain ⟨m,hm,rfl⟩:=List.mem_map.mp hd
 exact SeqAt.canLay_of_shaped (b4g (h m hm))) (fun d hd=>by
 obtain ⟨m,hm,rfl⟩:=List.mem_map.mp hd
 rw [PyData.depth]
 have:PyData.depthAll [PyData.str m.1,.int m.2.1,.int m.2.2]≤1:=mE fun d hd=>by
  have:d=.str m.1∨d=.int m.2.1∨d=.int m.2.2:=by simpa using hd
  rcases this with rfl | rfl | rfl<;>simp [PyData.depth]
 omega) (by decide)
theorem b4E {a b:List Mt} (h1:∀ m∈a,PyData.strOk m.1=true) (h2:∀ m∈b,PyData.strOk m.1=true):neD (dS a) (dS b)=some (!decide (a=b)):=by
 rw [wX (b0V h1) (b0V h2),xU]
end L2.L3
namespace L2.L3
open PySem PySem.Spec PyProof.Rows PySem.W PySem.Builtin PySem.Builtin.ObjectAttr PySem.Builtin.Getset_descriptor
abbrev b3F:List Value:=[.type "ValueError", .type "Exception", .type "BaseException", .type "object"]
structure XCls (K:Frag) (C:Addr):Prop where
 ex:excIn K C b3F "ValueError.__new__" = true
 ga:findIn K (.ref C) "__getattribute__" = some (some (.builtin "BaseException.__getattribute__"))
 nga:findIn K (.ref C) "__getattr__" = some none
 cl:findIn K (.ref C) "__class__" = some (some (.builtin "object.__class__"))
 ob:mroIn K C (.type "object")=some true
theorem XCls.obj {K:Frag} {C:Addr} {h:Heap} (x:XCls K C) (X:K.In h):∃ bm N nm q bs hdct sn sub ab col dd k0 k1 k2 k3 k5 mN,h.get? C=some (excClassObj nm q C N bs bm hdct sn sub ab col dd k0 k1 k2 k3 k5 "ValueError.__new__")∧h.Ns N mN∧mN "__init__" = none∧OwnTail h b3F bm:=by
 have q:=x.ex
 unfold excIn at q
 split at q
 ·rename_i dd cd sl ho
  split at q
  ·rename_i C' bm k0 k1 k2 k3 n k5 hm hs
   simp only [Bool.and_eq_true,beq_iff_eq,Bool.not_eq_true'] at q
   obtain ⟨⟨⟨⟨⟨rfl,rfl⟩,hdel⟩,ht⟩,hok⟩,hni⟩:=q
   obtain ⟨nm,bs,mro,ns,qn,hd,sn,sub,ab,col,del⟩:=cd
   dsimp only at hm hdel hok hni
   subst hm hdel
   have hsl:sl=#[k0,k1,k2,k3,some (.builtin "ValueError.__new__"),k5]:=by
    obtain ⟨l⟩:=sl
    simp only at hs
    rw [hs]
   subst hsl
   exact ⟨bm,ns,nm,qn,bs,hd,sn,sub,ab,col,dd,k0,k1,k2,k3,k5,_,X _ _ ho,.of_isNs (isNs_of_in X hok),nsMap_none_of_in X hok hni,tail_of_in X ht⟩
  ·cases q
 ·cases q
section
variable {prog:Program} {w:World} {A:Around} {E:Value→Shared→Prop} {s:Shared} {K:Frag} {C D a:Addr} {ox:Obj}
theorem b1w {R:Result→Shared→Prop} {tp:Value} (x:XCls K C) (X:K.In s.heap) (I:ExO s.heap a C ox) (h:R (.ok (.ret (.ref C))) s) :
  codeAny (model prog w) A (.call (.builtin "getset_descriptor.__get__") ⟨[.builtin "object.__class__", .ref a,tp],[]⟩) R s:=by
 obtain ⟨hh,g,dr,t,os⟩:=s
 have L0:=I.type (M:=model prog w)
 have L1:=looks_mroIn (M:=model prog w) X x.ob
 refine codeAny_call_builtin KF.slot_gs.plain KF.entry_gs (KF.slot_gs.check _ _ _ _ _ _ _ _ KF.type_class (KF.args_gs _ _ _) ?_)
 unfold Builtin.«getset_descriptor.__get__» descrGet
 rw [dga_obj]
 refine wpAny_bind (wpAny_pure ?_)
 unfold descrGetter descrCheckInstance descrNameAndClass isInstance
 simp only [KF.owner_class]
 repeat lk
 refine ⟨Code.quiet_builtin _ (by decide +kernel),codeAny_builtin KF.entry_class ?_⟩
 unfold Builtin.«object.__class__» shownTypeOf
 repeat lk
 exact h
theorem a5R {tk:Tok} {Q:Fin→Shared→Prop} (x:XCls K C) (X:K.In s.heap) (I:ExO s.heap a C ox) (hq:Q (.done (.ret (.ref C))) s) :
  wpAny (model prog w) A (Builtin.«object.__getattribute__» ⟨[.ref a,.str "__class__" tk],[]⟩) Q E s:=by
 obtain ⟨hh,g,d,t,os⟩:=s
 have L0:=I.type (M:=model prog w)
 have L3:=looks_findIn (M:=model prog w) X x.cl
 have hT5:(⟨hh,g,d,t,os⟩:Shared).TypeIs (.builtin "object.__class__") "getset_descriptor" := PySem.F.typeOf_object_class
 have f5:=PySem.F.typeOf_object_class
 have f6:=PySem.F.slot_gs_get.lookup
 have f7:=PySem.F.slot_gs_set.lookup
 repeat (any_goals (first | assumption | with_reducible refine L0.at ?_ | with_reducible refine L3.at ?_ | wp_step))
 refine b1w x X I ?_
 repeat (any_goals (first | assumption | wp_step))
theorem a5T {M:Model} {nameV:Value} {Q:Unit→Shared→Prop} (x:XCls K C) (X:K.In s.heap) (I:ExO s.heap a C ox) (hq:Q () s) :
  wpAny M A (checkBuiltinCall "BaseException.__getattribute__" ⟨[.ref a,nameV],[]⟩) Q E s:=by
 obtain ⟨bm,N,nm,q,bs,hdct,sn,sub,ab,col,dd,k0,k1,k2,k3,k5,mN,hC,hN,hni,T⟩:=x.obj X
 obtain ⟨hh,g,d,t,os⟩:=s
 have hk:builtinKind "BaseException.__getattribute__" = some .slot:=by decide +kernel
 have hsplit:splitId "BaseException.__getattribute__" = some ("BaseException", "__getattribute__"):=by decide +kernel
 have hcB:(Value.ref C::bm).contains (.type "BaseException")=true:=by rw [List.contains_cons,T.hasType (X := "BaseException") (b:=true) rfl];rfl
 have ha:=PySem.F.args_bexc_ga (.ref a) nameV
 simp only [checkBuiltinCall,hk,hsplit]
 refine wpAny_bind ?_
 ·unfold isInstance
  repeat (first | (with_reducible refine wpAny_loadPart_at I.at_ ?_;rw [I.cls]) | (with_reducible refine wpAny_isSubtype_exc hC ?_;rw [hcB]) | wp_step)
  exact hq
theorem a8N {tk:Tok} {R:Result→Shared→Prop} (x:XCls K C) (X:K.In s.heap) (I:ExO s.heap a C ox) (hq:R (.ok (.ret (.ref C))) s) :
  codeAny (model prog w) A (.call (.builtin "BaseException.__getattribute__") ⟨[.ref a,.str "__class__" tk],[]⟩) R s:=
 codeAny_call_builtin PySem.F.attrBase_ValueError.ga.plain PySem.F.entry_bexc_ga (a5T x X I (a5R x X I hq))
theorem b3R {tk:Tok} {Q:Value→Shared→Prop} (x:XCls K C) (X:K.In s.heap) (I:ExO s.heap a C ox) (hq:Q (.ref C) s) :
  wpAny (model prog w) A (getAttrBy (.ref a) (.str "__class__" tk) false) Q E s:=by
 obtain ⟨hh,g,d,t,os⟩:=s
 have L0:=I.type (M:=model prog w)
 have L1:=looks_findIn (M:=model prog w) X x.ga
 have L2:=looks_findIn (M:=model prog w) X x.nga
 have f3:=PySem.F.attrBase_ValueError.ga.bind (.ref a)
 have hx2:(Value.builtin "BaseException.__getattribute__" == Value.builtin "object.__getattribute__")=false:=by decide +kernel
 have hx1:(onTheHeap (Value.ref C)&&Value.builtin "BaseException.__getattribute__" == Value.builtin "object.__getattribute__")=false:=by rw [hx2];rfl
 repeat (any_goals (first | assumption | with_reducible refine L0.at ?_ | with_reducible refine L1.at ?_ | with_reducible refine L2.at ?_ | wp_step))
 refine a8N x X I ?_
 repeat (any_goals (first | assumption | wp_step))
theorem a5S {Q:Option Value→Shared→Prop} (x:XCls K C) (X:K.In s.heap) (I:ExO s.heap a C ox) (hq:Q (some (.ref C)) { s with toks:=s.toks+1 }) :
  wpAny (model prog w) A (getAttr? (.ref a) "__class__") Q E s:=by
 obtain ⟨hh,g,d,t,os⟩:=s
 unfold getAttr? getAttrBy?
 exact wpAny_bind (wpAny_mkText (wpAny_bind (wpAny_attempt (b3R (s:=⟨hh,g,d,t+1,os⟩) x X I (wpAny_pure hq)))))
theorem yH {c:Value} {dep:Int} {tk:Tok} {Q:Fin→Shared→Prop} (x:XCls K C) (X:K.In s.heap) (I:ExO s.heap a C ox) (hty:Looks (model prog w) s.heap (typeOf c) (.type "type")) (his:Looks (model prog w) s.heap (isType c) true)
  (hne:(Value.ref C==c)=false) (hsub:Looks (model prog w) s.heap (isSubtype (.ref C) c) false) (h:Q (.done (.ret (.bool false))) { s with toks:=s.toks+1 }) :
  wpAny (model prog w) A (Builtin.«isinstance.nested» ⟨[.ref a,c,.int dep tk],[]⟩) Q E s:=by
 obtain ⟨bm,N,nm,q,bs,hdct,sn,sub,ab,col,dd,k0,k1,k2,k3,k5,mN,hC,hN,hni,T⟩:=x.obj X
 have hisD:Looks (model prog w) s.heap (isType (.ref C)) true:=by
  intro A' Q' E' s' k q
  unfold isType loadHead
  exact wpAny_bind (wpAny_loadPart (k _ _ hC) (wpAny_pure q))
 obtain ⟨h0,g,d,tt,os⟩:=s
 have L0:=I.type (M:=model prog w)
 have LI:Looks (model prog w) h0 (isInstance (.ref a) c) false:=L0.andThen hsub
 unfold Builtin.«isinstance.nested»
 refine wpAny_bind (L0.at ?_)
 rw [if_neg (fun q=>by rw [hne] at q;exact Bool.noConfusion q)]
 refine wpAny_bind (hty.at ?_)
 rw [if_pos (by decide)]
 k_delta "plainIsInstance"
 refine wpAny_bind (wpAny_bind (his.at ?_))
 simp only [Bool.not_true,Bool.false_eq_true,if_false]
 refine wpAny_bind (LI.at ?_)
 simp only [Bool.false_eq_true,if_false]
 refine wpAny_bind (a5S x X I ?_)
 refine wpAny_bind (hisD.at ?_)
 simp only [Bool.not_true,Bool.false_eq_true,if_false]
 refine wpAny_bind (wpAny_rule ?_)
 refine hsub.at ?_
 first
  | exact wpAny_pure h
  | exact wpAny_pure (wpAny_pure h)
  | exact wpAny_bind (wpAny_pure (wpAny_pure h))
theorem a5Q {Q:Value→Shared→Prop} (x:XCls K C) (y:XCls K D) (X:K.In s.heap) (I:ExO s.heap a C ox) (hne:C≠D) (hty:typeIn K (.ref D)=some (.type "type")) (hs:subIn K (.ref C) (.ref D)=some false) (h:Q (.bool false) { s with toks:=s.toks+1 }) :
  wpAny (model prog w) A (call (.builtin "isinstance") [.ref a,.ref D]) Q E s:=
 call_isinstance (S:=fun _ R s=>(K.In s.heap∧ExO s.heap a C ox)∧R (.ok (.ret (.bool false))) { s with toks:=s.toks+1 })
  (fun _ _ _ _ _ hs'=>isinstance_outer (yH x hs'.1.1 hs'.1.2 (looks_typeIn hs'.1.1 hty) (by
   obtain ⟨bm,N,nm,q,bs,hdct,sn,sub,ab,col,dd,k0,k1,k2,k3,k5,mN,hC,_⟩:=y.obj hs'.1.1
   intro A' Q' E' s' k q
   unfold isType loadHead
   exact wpAny_bind (wpAny_loadPart (k _ _ hC) (wpAny_pure q))) (Bool.eq_false_iff.mpr fun q=>hne (Value.ref.inj (beq_iff_eq.mp q))) (looks_subIn hs'.1.1 hs) hs'.2) (by intro q;cases q)) ⟨⟨X,I⟩,h⟩
theorem b3Q {Q:Value→Shared→Prop} (X:K.In s.heap) (I:ExO s.heap a C ox) (e:isIn K (.ref C) D=true) (h:Q (.bool true) s) :
  wpAny (model prog w) A (call (.builtin "isinstance") [.ref a,.ref D]) Q E s:=isi_call X (fun _=>I.type) e (by intro q;cases q) h
theorem b1v {T:String} {Q:Value→Shared→Prop} (X:K.In s.heap) (I:ExO s.heap a C ox) (hty:typeOf (.type T)=pure (.type "type")) (e:subIn K (.ref C) (.type T)=some true) (h:Q (.bool true) s) :
  wpAny (model prog w) A (call (.builtin "isinstance") [.ref a,.type T]) Q E s:=by
 refine PyProof.Rows.call_isinstance_of ?_ (by intro q;cases q)
 obtain ⟨hh,g,d,t,os⟩:=s
 have L0:=I.type (M:=model prog w)
 have L1:=looks_subIn (M:=model prog w) X e
 unfold Builtin.«isinstance.nested»
 refine wpAny_bind (L0.at ?_)
 rw [if_neg (fun q=>by cases beq_iff_eq.mp q)]
 refine wpAny_bind (m:=typeOf (.type T)) (wpAny_of_eq hty ?_)
 rw [if_pos (by decide)]
 refine wpAny_bind (wpAny_bind (m:=isType (.type T)) (wpAny_pure (a:=true) ?_))
 refine wpAny_bind (m:=isInstance (.ref a) (.type T)) ((L0.andThen L1).at ?_)
 exact wpAny_pure (a:=true) (wpAny_pure h)
theorem a5P {M:Model} {Q:Bool→Shared→Prop} (x:XCls K C) (y:XCls K D) (X:K.In s.heap) (I:ExO s.heap a C ox) (hs:subIn K (.ref C) (.ref D)=some true) (hq:Q true s):wpAny M A (excMatches (.ref a) (.ref D)) Q E s:=by
 obtain ⟨bm,N,nm,q,bs,hdct,sn,sub,ab,col,dd,k0,k1,k2,k3,k5,mN,hC,hN,hni,T⟩:=y.obj X
 obtain ⟨hh,g,d,t,os⟩:=s
 have L1:=looks_subIn (M:=M) X hs
 have hcB:(Value.ref D::bm).contains (.type "BaseException")=true:=by rw [List.contains_cons,T.hasType (X := "BaseException") (b:=true) rfl];rfl
 have f:=tc_notTuple
 unfold excMatches
 repeat (first | (with_reducible refine wpAny_loadPart_at I.at_ ?_;rw [I.cls]) | with_reducible refine wpAny_loadPart_at hC ?_ | with_reducible refine L1.at ?_ | (with_reducible refine wpAny_isSubtype_exc hC ?_;rw [hcB]) | wp_step)
 exact hq
end
end L2.L3
namespace L2.L3
open PySem PySem.Spec PyProof.Rows
section
variable {X:Cx} {pins:List (Addr×Obj)} {σ:St} {H:Hp} {s:Shared}
theorem zU (I:Inv X pins σ H s) {b:Addr} (h:s.heap.get? b=none):yF X b:=by
 refine ⟨?_,fun p hp z=>?_⟩
 ·cases q:X.s₀.heap.get? b with
  | none=>exact .inr rfl
  | some o=>
   refine .inl (Classical.byContradiction fun n=>?_)
   obtain ⟨o',e⟩:=I.base.there b o q n
   rw [h] at e;cases e
 ·obtain ⟨e,_⟩:=I.pin p (List.mem_append_left _ hp)
  rw [z,h] at e;cases e
end
section
variable {X:Cx} {st:Stmt} {f:SF}
def tW (c:Str):SF:=fun ρ=>some (.xc c ρ)
theorem a8j {x m:Str} {C:Addr} {np sp cpos pos:Pos} {j} (hc:X.calm=true) (hE:iK X.K x=some C) (hX:XCls X.K C) (hg:Gl X x:=by rfl) (hdb:(x==("__debug__" : Str))=false:=by decide)
  (he:starEach [.Constant (.str m) j sp] X.env=(false,eval (.Constant (.str m) j sp) X.env)::starEach [] X.env:=by rfl) (hpl:(backTo cpos (starEach [] X.env)).any (·.1)=false:=by rfl) :
  DS X (.Raise (some (.Call (.Name x np) [.Constant (.str m) j sp] [] cpos)) none pos) (tW x):=⟨fun pins s σ H D I ⟨ρ,o,H0,G₀,G,e,R,q⟩=>by
 cases (Option.some.inj e)
 obtain ⟨bm,N,nm,qn,bs,hdct,sn,sub,ab,col,dd,k0,k1,k2,k3,k5,mN,hC,hN,hni,T⟩:=hX.obj I.mod.kin
 have hm:X.mg x=some (.ref C):=PySem.W.mg_of I.mod.kin I.mod.glob (zZ hE)
 refine wpAny_Raise_call_subT (C:=C) (nm:=nm) (q:=qn) (N:=N) (bs:=bs) (bm:=bm) (hdct:=hdct) (sn:=sn) (sub:=sub) (ab:=ab) (col:=col) (dd:=dd) (k0:=k0) (k1:=k1) (k2:=k2) (k3:=k3) (k5:=k5)
  PySem.F.excBase_ValueError (mN:=mN) (T.hasType PySem.F.excBase_ValueError.hasBase) (I.ok.hd hc) (by rw [he];show (false || (backTo cpos (starEach [] X.env)).any (·.1))=false;rw [hpl];rfl) hni (mS I hg hm ⟨rfl,?_⟩ hdb)
 have h:=dY (X:=X) (a6H:PE X (.Constant (.str m) j sp) (tC (.str m))) iR he cpos pins s σ H (fun vs H'=>vs=[.str m]∧H'=H) I ⟨rfl,rfl⟩
 rw [he] at h ⊢
 refine Calls.evalArgs_plain (thn h fun us s2 ⟨vs,H',I2,rv,e1,e2⟩=>?_)
 subst e1 e2
 refine ⟨rfl,by rw [←rv.length];show 1≤sizeLine;decide,I2.bk _ _ hC,hN.keeps I2.bk,T.keeps I2.bk,fun h' a hm'=>?_⟩
 obtain ⟨t,ht,_,_⟩:=hm'.there
 exact q pins { s2 with heap:=h' } σ H' G _ (I2.kept (t':=s2.toks) hm'.keeps) R (.refl _) ⟨a,C,rfl,hE,.inl ⟨zU I2 hm'.new,a7E I2.hok hm'.new,_,_,.ref t,ht,rfl,rfl,rfl,rfl⟩⟩⟩
end
end L2.L3
namespace L2.L3
open PySem PySem.Spec PyProof.Rows
def vU (m n:Nat) (f:SF) (ds:List PyData):Mm PyData:=if ds.length=n then (match f (pX m ds) with
 | some (.rt d)=>some (.ok d)
 | some (.nx _)=>some (.ok .none)
 | some (.xc c _)=>some (.ex c)
 | _=>none) else none
def CX1 (P:Program) (w:World):CXT:=fun outer H s E e s'=>∃ a C H',e=.ref a∧E (.ref C) none H'∧s'.os=s.os∧AllBare s'.gens∧Un (frs outer) [] H H' s.heap s'.heap∧HOk P w H' s'.heap∧ExcAt (fun b=>s.heap.get? b=none) H' a C s'.heap
def b6m (K:PySem.W.Frag) (G H:Hp) (Q:VK) (E:XK):Re PyData→Prop
 | .ok d=>∀ v G' H',Grow G H G' H'→Rep K G' v d→Q v H'
 | .ex c=>∀ C G' H',iK K c=some C→Grow G H G' H'→E (.ref C) none H'
def spX (K:PySem.W.Frag) (F:List PyData→Mm PyData):Sp:=fun vs H Q E=>∃ G ds r,(bR G H∧nF K G H)∧RepAll K G vs ds∧F ds=some r∧b6m K G H Q E r
structure CalleeX (P:Program) (w:World) (K:PySem.W.Frag) (mg:Str→Option Value) (base:Heap) (x:Str) (k:Nat) (ps:List Str) (F:List PyData→Mm PyData):Prop where
 ex:∃ f fd,mg x=some (.ref f)∧PySem.W.keepIn K (.ref f)=true∧Binds K fd ps []∧FnOk P w K mg base (CX1 P w) k f fd ps (spX K F)
section
variable {X:Cx} {pins:List (Addr×Obj)} {σ:St} {H:Hp} {s:Shared}
theorem a5Z {ch:List Addr} {h':Heap} (I:Inv X pins σ H s) (hex:X.ex=[]) (un:Un (frs X.stack) ch H H s.heap h') (hch:∀ b∈ch,X.s₀.heap.get? b=none):Un X.fs [] X.H₀ H X.s₀.heap h':=by
 have nx:∀ b:Addr,b∉X.ex:=fun b z=>by rw [hex] at z;cases z
 have neL:∀ b o,X.s₀.heap.get? b=some o→b≠X.env.locals:=fun b o e=>Nat.ne_of_lt (Nat.lt_of_lt_of_le (Heap.lt_size e) I.ok.above)
 have nc:∀ b o,X.s₀.heap.get? b=some o→b∉ch:=fun b o e z=>by rw [hch b z] at e;cases e
 refine ⟨fun b o e n hb _=>?_,fun b o e n hb _=>?_,fun b o e n _=>I.base.free b o e n (nx b),fun b o e _=>?_,I.base.tups,I.base.frzs,I.base.tbls⟩
 ·exact un.keep b o (I.base.keep b o e n hb (nx b)) (I.base.free b o e n (nx b)) (fun z=>(List.mem_cons.mp (I.stkSub b z)).elim (neL b o e) hb) (nc b o e)
 ·obtain ⟨sl,e1⟩:=I.base.slot b o e n hb (nx b)
  obtain ⟨sl',e2⟩:=un.any e1 (I.base.free b o e n (nx b)) (nc b o e)
  exact ⟨sl',e2⟩
 ·obtain ⟨o',e1⟩:=I.base.there b o e (nx b)
  exact un.there b o' e1 (nc b o e)
end
section
variable {P:Program} {w:World} {K:PySem.W.Frag} {mg:Str→Option Value} {base:Heap} {X:Cx} {e:Expr} {es:List Expr} {pos p:Pos} {x:Str} {k:Nat} {ps N:List Str} {F:List PyData→Mm PyData}
abbrev fcX (P:Program) (w:World) (K:PySem.W.Frag) (mg:Str→Option Value) (base:Heap) (N:List Str) (qual:Str) (scope:Scope) (f:Addr) (cd:Value) (A:Around) (outer:List Env) (s:Shared) (H:Hp) (E:XK):Cx:=a1B (CX1 P w) P w K mg base N qual scope f cd A outer s H E
theorem b0k {st:Stmt} {f:SF} {fa:Addr} {fd:FuncData} (m n:Nat) (Fu:Fun K x x st fa fd) (S:FnScope N ps (aG st)) (hm:N.length=m) (hn:ps.length=n)
  (body:∀ (cdv:Value) (A:Around) (outer:List Env) (s:Shared) (H:Hp) (E:XK),Room k (A.deeper (envOfC x (aG st) s.heap.objs.size fa cdv))→DB (fcX P w K mg base N x (aG st) fa cdv A outer s H E) (cN st) f) :
  FnOk P w K mg base (CX1 P w) (k+1) fa fd ps (spX K (vU m n f)):=by
 obtain ⟨oc,od,kV,doc,pm,an,cdv,ct,osl,rfl,lk,hcd⟩:=Fu.ex
 refine a7S lk hcd S (fun vs H Q E ⟨G,ds,r,s,rv,hF,_⟩=>?_) fun A outer s H vs Q E hr ⟨G,ds,r,sm,rv,hF,q⟩=>?_
 ·unfold vU at hF
  split at hF
  ·rename_i hl;rw [rv.length,hl,hn]
  ·cases hF
 ·unfold vU at hF
  split at hF
  ·rw [←hm,←pY] at hF
   split at hF
   ·rename_i d e
    cases (Option.some.inj hF)
    exact ⟨_,(body cdv A outer s H E hr).run,gW N ds,_,H,G,G,e,fA sm rv,fun v G' H' _ g rv=>q v G' H' g rv⟩
   ·rename_i ρ' e
    cases (Option.some.inj hF)
    exact ⟨_,(body cdv A outer s H E hr).run,gW N ds,_,H,G,G,e,fA sm rv,fun G' H' σ' _ R'=>q .non G' H' R'.grow .none⟩
   ·rename_i c ρ' e
    cases (Option.some.inj hF)
    refine ⟨_,(body cdv A outer s H E hr).run,gW N ds,_,H,G,G,e,fA sm rv,fun pins s' σ H' G' e' I R _ ⟨a,C,e1,hE,xa⟩=>?_⟩
    subst e1
    refine a7p (X:=fcX P w K mg base N x (aG st) fa cdv A outer s H E) (fr:=fun b=>s.heap.get? b=none) I.ok.frames rfl rfl I (xa.mono fun b hb=>?_) (fun b hb=>?_) fun h' ch un hch hok x'=>?_
    ·rcases hb.1 with z | z
     ·cases z
     ·exact z
    ·cases z:s.heap.get? b with
     | none=>rfl
     | some o=>
      obtain ⟨o',z'⟩:=I.base.there b o z (by intro w;cases w)
      rw [hb] at z';cases z'
    ·exact ⟨a,C,H',rfl,q C G' H' hE R.grow,I.os,I.bare,a5Z I rfl un hch,hok,x'⟩
   ·cases hF
  ·cases hF
theorem a1L {st:Stmt} {f:SF} (m n:Nat) (D:Def K mg x st) (S:FnScope N ps (aG st)) (hm:N.length=m) (hn:ps.length=n)
  (hb:∀ (kV doc pm:Value) (an:Option Addr) (cdv ct:Value) (us:List Value),us.length=ps.length→bindArgs (PySem.W.fnOf x x (fR st) (cN st) (aG st) .none kV doc pm an cdv ct) ⟨us,[]⟩=pure (ps.zip us))
  (body:∀ (fa:Addr) (cdv:Value) (A:Around) (outer:List Env) (s:Shared) (H:Hp) (E:XK),Room k (A.deeper (envOfC x (aG st) s.heap.objs.size fa cdv))→DB (fcX P w K mg base N x (aG st) fa cdv A outer s H E) (cN st) f) :
  CalleeX P w K mg base x (k+1) ps (vU m n f):=by
 obtain ⟨fa,fd,Fu,hmg⟩:=D.ex
 exact ⟨fa,fd,hmg,Fu.kp,Fu.binds hb,b0k m n Fu S hm hn fun cdv A outer s H E hr=>body fa cdv A outer s H E hr⟩
def sB (F:List PyData→Mm PyData) (fa:AF):EF:=fun ρ=>bnd (fa ρ) F
theorem a8r {fa:AF} (C:CalleeX X.prog X.w X.K X.mg X.base x k ps F) (hr:Room k X.A) (ha:DA X (e::es) fa) (hg:Gl X x:=by rfl) (hdb:(x==("__debug__" : Str))=false:=by decide)
  (he:starEach (e::es) X.env=(false,eval e X.env)::starEach es X.env:=by rfl) (hpl:(backTo pos (starEach es X.env)).any (·.1)=false:=by rfl):DE X (.Call (.Name x p) (e::es) [] pos) (sB F fa):=⟨fun pins s σ H Q I ⟨ρ,r,H0,G₀,G,e',R,q⟩=>by
 obtain ⟨f,fd,a,b,c,Fk⟩:=C.ex
 refine wpAny_Call_Name_kw (mS I hg a ?_ hdb)
 refine PySem.W.callWith_K (h₀:=X.base) I.ok.mod.kin b (thn (ha.run pos pins s σ H (fun vs H1=>∃ G1 ds,Grow G H G1 H1∧RepS X.K H0 G₀ G1 H1 σ ρ∧RepAll X.K G1 vs ds∧F ds=some r) I (bA R e' q.x fun ds vs G1 H1 g1 R1 rv e1=>⟨G1,ds,g1,R1,rv,e1⟩))
  fun us s1 ⟨vs,H1,I1,rv,G1,ds,g1,R1,rd,hF⟩=>⟨I1.kIn,?_⟩) he hpl
 have sp:spX X.K F vs H1 Q (fun cv _ H'=>∃ G' C c,cv=.ref C∧r=.ex c∧iK X.K c=some C∧Grow G1 H1 G' H'):=by
  refine ⟨G1,ds,r,⟨g1.sub,R1.tab⟩,rd,hF,?_⟩
  cases r with
  | ok d=>exact fun v G' H' g rv=>q v G' H' (g1.trans g) rv
  | ex c=>exact fun C G' H' hC g=>⟨G',C,c,rfl,rfl,hC,g⟩
 have hl:us.length=ps.length:=by rw [←rv.length];exact Fk.len _ _ _ _ sp
 refine wpAny_call (codeAny_mono (Fk.run X.A X.stack s1 H1 ⟨us,[]⟩ us vs Q _ hr I1.env0 (by simpa using c s1 us I1.kIn (by simpa using hl)) rv sp) fun res s' hq=>?_)
 cases res with
 | error e2=>
  obtain ⟨a2,C2,H2,rfl,⟨G2,C3,c3,e3,rfl,hC,g2⟩,os,bare,un,hok,xa⟩:=hq
  cases e3
  exact q pins s' σ H2 G2 _ (I1.call' (ch:=[]) os un hok bare (fun b z=>nomatch z)) (R1.more g2) (g1.gg.trans g2.gg) ⟨a2,C2,rfl,hC,xa.mono fun b hb=>zU I1 hb⟩
 | ok fl=>
  cases fl with
  | ret u=>exact I1.after hq
  | next=>exact False.elim hq
  | brk=>exact False.elim hq
  | cont=>exact False.elim hq⟩
end
end L2.L3
namespace L2.L3
open PySem PySem.Spec PyProof.Rows
section
variable {K:PySem.W.Frag} {H0 G₀ G H:Hp} {σ:St} {ρ:List Ent}
theorem RepS.setNo (R:RepS K H0 G₀ G H σ ρ) (j:Nat) (o:Option V):RepS K H0 G₀ G H (σ.set j o) (ρ.set j .no):=by
 refine ⟨R.grow,by simp [R.len],fun i o' e h1 h2=>?_,R.inj.sub fun i e h1 h2=>?_,R.tab⟩
 ·rcases aV h2 with ⟨_,rfl,_⟩ | ⟨n,h2⟩
  ·trivial
  ·rw [List.getElem?_set_ne (Ne.symm n)] at h1
   exact R.ent i o' e h1 h2
 ·rcases aV h1 with ⟨_,rfl,_⟩ | ⟨n,h1⟩
  ·cases h2
  ·exact ⟨h1,List.getElem?_set_ne (Ne.symm n)⟩
theorem RepS.setExc {c:Str} {a C:Addr} (R:RepS K H0 G₀ G H σ ρ) (i:Nat) (hC:iK K c=some C) (ha:H a=some (xcO a C)):RepS K H0 G₀ G H (σ.set i (some (.ref a))) (ρ.set i (.exc c)):=by
 refine ⟨R.grow,by simp [R.len],fun j o' e h1 h2=>?_,R.inj.sub fun j e h1 h2=>?_,R.tab⟩
 ·rcases aV h2 with ⟨rfl,rfl,_⟩ | ⟨n,h2⟩
  ·rcases aV h1 with ⟨_,rfl,_⟩ | ⟨n,_⟩
   ·exact ⟨a,C,rfl,hC,ha⟩
   ·exact absurd rfl n
  ·rw [List.getElem?_set_ne (Ne.symm n)] at h1
   exact R.ent j o' e h1 h2
 ·rcases aV h1 with ⟨_,rfl,_⟩ | ⟨n,h1⟩
  ·cases h2
  ·exact ⟨h1,List.getElem?_set_ne (Ne.symm n)⟩
end
section
variable {X:Cx} {pins:List (Addr×Obj)} {σ:St} {H:Hp} {s:Shared}
theorem name_goes {M:Model} {A:Around} {E:Value→Shared→Prop} {Q:Unit→Shared→Prop} {j:Nat} {n:Str} {pos:Pos} (I:Inv X pins σ H s) (hN:X.N.Nodup) (hj:X.N[j]?=some n) (hk:X.env.scope.names.lookup n=some .local)
  (h:∀ s',Inv X pins (σ.set j none) H s'→Q () s'):wpAny M A (do bindName X.env n .none;unbindBehindTheSuite X.env n pos) Q E s:=by
 obtain ⟨m,hn,hl⟩:=id I.loc
 obtain ⟨oL,_,_,hoL,_⟩:=id hn
 have hcls:(X.env.scope.kind==.class || (X.env.scope.kind==.module&&X.env.locals != X.env.globals))=false:=by rw [I.ok.kind];rfl
 have hjσ:j<σ.length:=by rw [I.len];exact (List.getElem?_eq_some_iff.mp hj).1
 refine wpAny_nameGoes_keeps hk hn hcls fun h' v hn' hs=>?_
 have ne0:∀ b o,X.s₀.heap.get? b=some o→b≠X.env.locals:=fun b o e=>Nat.ne_of_lt (Nat.lt_of_lt_of_le (Heap.lt_size e) I.ok.above)
 refine h _ ⟨I.ok,I.os,I.bare,⟨fun b o e n hb hx=>?_,fun b o e n hb hx=>?_,I.base.free,fun b o e hx=>?_,I.base.tups,I.base.frzs,I.base.tbls⟩,⟨_,hn',fun i y v' e1 e2 e3=>?_⟩,fun y c e=>?_,I.free,I.freeC,fun p hp=>?_,fun b ob e=>?_,by simpa using I.len⟩
 ·exact (hs.2 b (ne0 b o e)).trans (I.base.keep b o e n hb hx)
 ·obtain ⟨sl,e1⟩:=I.base.slot b o e n hb hx
  exact ⟨sl,(hs.2 b (ne0 b o e)).trans e1⟩
 ·obtain ⟨o',e1⟩:=I.base.there b o e hx
  exact ⟨o',(hs.2 b (ne0 b o e)).trans e1⟩
 ·by_cases hi:i=j
  ·subst hi
   rw [List.getElem?_set_self hjσ] at e2
   cases e2
  ·rw [List.getElem?_set_ne (Ne.symm hi)] at e2
   obtain ⟨u',r',q⟩:=hl i y v' e1 e2 e3
   refine ⟨u',r',?_⟩
   rcases q with ⟨k,e⟩ | ⟨k,c,e,z⟩
   ·refine .inl ⟨k,?_⟩
    have:y≠n:=fun e=>hi (tZ hN e1 (e▸hj))
    simp [this,e]
   ·exact .inr ⟨k,c,e,z.sameBut hs (I.cne y c e)⟩
 ·obtain ⟨w',z⟩:=I.cell y c e
  exact ⟨w',z.sameBut hs (I.cne y c e)⟩
 ·obtain ⟨e,n,ne,nf,d⟩:=I.pin p hp
  exact ⟨(hs.2 p.1 ne).trans e,n,ne,nf,d⟩
 ·refine (I.hok b ob e).stay (fun c w' hc q=>(hs.2 c ?_).trans q) (fun _ q=>q) fun _ _ q=>q
  rintro rfl
  rcases hc with rfl | hc
  ·rw [I.free] at e;cases e
  ·rw [I.free] at hc;cases hc
abbrev Cx.tryc (X:Cx) (E:Value→Shared→Prop) (pn:List (Addr×Obj)):Cx:={ X with xe:=E,pn:=pn }
abbrev Cx.suite (X:Cx) (a:Addr):Cx:={ X with A:=X.A.mark (some (.ref a)),calm:=false,xe:=fun _ _=>False }
theorem a7B (I:Inv X pins σ H s) (E:Value→Shared→Prop):Inv (Cx.tryc X E (X.pn++pins)) [] σ H s:=
 ⟨⟨I.ok.mod,I.ok.kind,I.ok.glob,I.ok.blt,I.ok.above,I.ok.inj,I.ok.has,I.ok.cab,I.ok.hd,I.ok.frames,I.ok.stk,I.ok.exf,I.ok.bs,I.ok.bsz,I.ok.noex,I.ok.exfs,I.ok.funs,I.ok.frf⟩,I.os,I.bare,I.base,I.loc,I.cell,I.free,I.freeC,
  fun p hp=>I.pin p (by simpa using hp),I.hok,I.len⟩
theorem iX {E:Value→Shared→Prop} {pins':List (Addr×Obj)} (I:Inv (Cx.tryc X E (X.pn++pins)) pins' σ H s):Inv X pins σ H s:=
 ⟨⟨I.ok.mod,I.ok.kind,I.ok.glob,I.ok.blt,I.ok.above,I.ok.inj,I.ok.has,I.ok.cab,I.ok.hd,I.ok.frames,I.ok.stk,I.ok.exf,I.ok.bs,I.ok.bsz,I.ok.noex,I.ok.exfs,I.ok.funs,I.ok.frf⟩,I.os,I.bare,I.base,I.loc,I.cell,I.free,I.freeC,
  fun p hp=>I.pin p (List.mem_append_left _ hp),I.hok,I.len⟩
theorem xQ (I:Inv X pins σ H s) (a:Addr):Inv (Cx.suite X a) pins σ H s:=
 ⟨⟨I.ok.mod,I.ok.kind,I.ok.glob,I.ok.blt,I.ok.above,I.ok.inj,I.ok.has,I.ok.cab,(fun z=>nomatch z),I.ok.frames,I.ok.stk,I.ok.exf,I.ok.bs,I.ok.bsz,I.ok.noex,I.ok.exfs,I.ok.funs,I.ok.frf⟩,I.os,I.bare,I.base,I.loc,I.cell,I.free,I.freeC,I.pin,I.hok,I.len⟩
theorem a1s {a:Addr} (I:Inv (Cx.suite X a) pins σ H s) (ok:X.Ok):Inv X pins σ H s:=⟨ok,I.os,I.bare,I.base,I.loc,I.cell,I.free,I.freeC,I.pin,I.hok,I.len⟩
end
def vQ (i j:Nat) (cs:List Str) (f:SF):SF:=fun ρ=>match f ρ with
 | some (.xc c ρ')=>if cs.contains c then some (.nx (((ρ'.set j .no).set i (.exc c)).set j .no)) else none
 | r=>r
section
variable {X:Cx} {body:List Stmt} {f:SF}
theorem b3p (i j:Nat) {cs:List Str} {x n d:Str} {D:Addr} {np xp ep hpos apos pos:Pos} (hN:X.N.Nodup) (hst:X.stack=X.env::X.outer) (hf:X.env.frame=some X.env.locals)
  (hD:iK X.K d=some D) (hXD:XCls X.K D) (hcs:∀ c∈cs,∃ C,iK X.K c=some C∧XCls X.K C∧PySem.W.subIn X.K (.ref C) (.ref D)=some true)
  (hb:∀ E pn,DB (Cx.tryc X E pn) body f)
  (hi:X.N[i]?=some x:=by rfl) (hj:X.N[j]?=some n:=by rfl) (hg:Gl X d:=by rfl) (hk:X.env.scope.names.lookup n=some .local:=by rfl) (hx:X.env.scope.names.lookup x=some .local:=by rfl)
  (hdb:(d==("__debug__" : Str))=false:=by decide) (hnd:(n==("__debug__" : Str))=false:=by decide) (hncd:(n==("__classdict__" : Str))=false:=by decide)
  (hs:swapsWith (.Name n ep) (some (.Name x xp)) apos.line X.env=pure false:=by rfl) :
  DS X (.Try body [.ExceptHandler (some (.Name d np)) (some n) [.Assign [.Name x xp] (.Name n ep) apos] hpos] [] [] pos) (vQ i j cs f):=⟨fun pins s σ H DD I ⟨ρ,o,H0,G₀,G,e,R,q⟩=>by
 refine wpAny_Try_except ?_
 have go:∀ o',f ρ=some o'→sJ (Cx.tryc X (fun e s₁=>wpAny (model X.prog X.w) X.A (noteFrame e X.env) (fun _ s₂=>wpAny (model X.prog X.w) X.A (setFlight e none) (fun _ s₃=>wpAny (model X.prog X.w) X.A (handleBy e X.env [.ExceptHandler (some (.Name d np)) (some n) [.Assign [.Name x xp] (.Name n ep) apos] hpos]) (SP X pins DD) X.xe s₃) X.xe s₂) X.xe s₁) (X.pn++pins)) H0 G₀ G DD o' →
   wpAny (model X.prog X.w) X.A (execs body X.env) (fun f s₁=>match f with | .next=>wpAny (model X.prog X.w) X.A (execs [] X.env) (SP X pins DD) X.xe s₁ | f=>SP X pins DD f s₁)
   (fun e s₁=>wpAny (model X.prog X.w) X.A (noteFrame e X.env) (fun _ s₂=>wpAny (model X.prog X.w) X.A (setFlight e none) (fun _ s₃=>wpAny (model X.prog X.w) X.A (handleBy e X.env [.ExceptHandler (some (.Name d np)) (some n) [.Assign [.Name x xp] (.Name n ep) apos] hpos]) (SP X pins DD) X.xe s₃) X.xe s₂) X.xe s₁) s:=fun o' e' q'=>by
  refine thn ((hb _ _).run [] s σ H DD (a7B I _) ⟨ρ,o',H0,G₀,G,e',R,q'⟩) fun fl s1 z=>?_
  cases fl with
  | next=>obtain ⟨σ',H',I',z⟩:=z;exact a3r pins s1 σ' H' DD (iX I') z
  | ret v=>obtain ⟨v',σ',H',I',z⟩:=z;exact ⟨v',σ',H',iX I',z⟩
  | brk=>obtain ⟨σ',H',I',z⟩:=z;exact ⟨σ',H',iX I',z⟩
  | cont=>obtain ⟨σ',H',I',z⟩:=z;exact ⟨σ',H',iX I',z⟩
 unfold vQ at e
 split at e
 ·rename_i c ρ' e'
  split at e
  ·rename_i hc
   cases (Option.some.inj e)
   refine go _ e' fun pins' s' σ' H' G' ev I' R' sg ⟨a,C,hev,hE,xa⟩=>?_
   subst hev
   have I1:Inv X pins σ' H' s':=iX I'
   obtain ⟨C',hE',hXC,hsub⟩:=hcs c (by simpa using hc)
   have hE:iK X.K c=some C:=hE
   rw [hE] at hE';cases hE'
   have xa1:ExcAt (fun b=>yF X b∧∀ p∈pins,p.1≠b) H' a C s'.heap:=xa.mono fun b hb=>⟨⟨hb.1,fun p hp=>hb.2 p (List.mem_append_left _ hp)⟩,fun p hp=>hb.2 p (List.mem_append_right _ hp)⟩
   have nw:∀ b,s'.heap.get? b=none→yF X b∧∀ p∈pins,p.1≠b:=fun b hb=>⟨zU I1 hb,fun p hp z=>by
    obtain ⟨e,_⟩:=I1.pin p (List.mem_append_right _ hp)
    rw [z,hb] at e;cases e⟩
   refine a3A (X:=X) I1.ok.frames hst hf I1 xa1 nw fun h1 ch1 c1 x1=>?_
   have I2:=Inv.chg I1 c1
   refine a2N (X:=X) (s:={ s' with heap:=h1 }) c1.hok x1 fun h2 ch2 c2 x2=>?_
   have I3:Inv X pins σ' H' { s' with heap:=h2 }:=Inv.chg (s:={ s' with heap:=h1 }) I2 c2
   obtain ⟨_,_,oe,vs,xo,_⟩:=(show ExcAt _ H' a C h2 from .inr x2).ob
   have hm:X.mg d=some (.ref D):=PySem.W.mg_of I.mod.kin I.mod.glob (zZ hD)
   refine wpAny_handleBy_cons (codeAny_handlers_test (mS (X:=Cx.suite X a) (xQ I3 a) hg hm (a5P hXC hXD I3.kIn xo hsub ?_) hdb)) (by intro z;cases z)
   refine codeAny_handlers_suite_as ?_
   refine a2N (X:=X) (s:={ s' with heap:=h2 }) c2.hok x2 fun h3 ch3 c3 x3=>?_
   have I4:Inv X pins σ' H' { s' with heap:=h3 }:=Inv.chg (s:={ s' with heap:=h2 }) I3 c3
   obtain ⟨fa,na,oe3,vs3,xo3,hv3⟩:=(show ExcAt _ H' a C h3 from .inr x3).ob
   have I5:Inv X pins σ' (upd H' a (xcO a C)) { s' with heap:=h3 }:=Inv.track I4 fa na ⟨oe3,vs3,xo3.at_,hv3⟩ ⟨⟨oe3,xo3⟩,⟨oe3,xo3.at_⟩,fun g1 g2 ⟨o1,y⟩ k=>⟨o1,k _ y.at_,y.cls⟩⟩
   have hjσ:j<σ'.length:=by rw [I5.len];exact (List.getElem?_eq_some_iff.mp hj).1
   refine oK (i:=j) (v:=.ref a) I5 hN hj (.inl hk) rfl (fun s4 I6=>?_) (.inr hk)
   have run:=a3q (a2u (X:=Cx.suite X a) (pos:=apos) (pos':=xp) hN hi (.inl hx) (jP (i:=j) (pos:=ep) hj (.inl hk) hnd hncd) hs (.inr hx)) pins s4 _ _ { nx:=fun σ'' H''=>σ''=(σ'.set j (some (.ref a))).set i (some (.ref a))∧H''=upd H' a (xcO a C),rt:=fun _ _=>False } (xQ I6 a) ⟨.ref a,by rw [List.getElem?_set_self hjσ],rfl,rfl⟩
   refine wpAny_mono run (fun fl s5 z=>?_) fun _ _ z=>False.elim z
   cases fl with
   | next=>
    obtain ⟨σ5,H5,I7,e5,e6⟩:=z
    subst e5 e6
    have I8:=a1s I7 I.ok
    refine name_goes I8 hN hj hk fun s6 I9=>⟨_,_,I9,q G' _ _ sg ?_⟩
    have R1:RepS X.K H0 G₀ G' (upd H' a (xcO a C)) σ' ρ':=R'.more (Grow.side R'.sub na)
    exact (((R1.setNo j _).setExc i hE aN).setNo j none)
   | ret v=>obtain ⟨_,_,_,_,_,z⟩:=z;exact z.elim
   | brk=>obtain ⟨_,_,_,z⟩:=z;exact z.elim
   | cont=>obtain ⟨_,_,_,z⟩:=z;exact z.elim
  ·cases e
 ·rename_i z
  have n:∀ c ρ',o≠.xc c ρ':=fun c ρ' w=>z c ρ' (by rw [e,w])
  refine go o e ?_
  cases o with
  | nx ρ'=>exact q
  | rt d=>exact q
  | bk ρ'=>exact q
  | ct ρ'=>exact q
  | xc c ρ'=>exact absurd rfl (n c ρ')⟩
end
end L2.L3
namespace L2.L3
open PySem PySem.Spec PyProof.Rows
def cB:List Str:=["NoMeeting", "NoText", "NoTime", "NoZone", "Taken", "TooMany"]
def a3h (K:PySem.W.Frag) (C:Addr):Bool:=PySem.W.excIn K C b3F "ValueError.__new__" && (PySem.W.findIn K (.ref C) "__getattribute__" == some (some (.builtin "BaseException.__getattribute__")))&&(PySem.W.findIn K (.ref C) "__getattr__" == some none)
 && (PySem.W.findIn K (.ref C) "__class__" == some (some (.builtin "object.__class__")))&&(PySem.W.mroIn K C (.type "object")==some true)
def a7Z (K:PySem.W.Frag) (S:Addr) (c:Str):Bool:=match iK K c with
 | some C=>a3h K C&&(PySem.W.typeIn K (.ref C)==some (.type "type"))&&(PySem.W.subIn K (.ref C) (.type "ValueError")==some true)&&(PySem.W.subIn K (.ref C) (.ref S)==some true)
 | none=>false
def b1i (K:PySem.W.Frag) (c d:Str):Bool:=c==d || match iK K c,iK K d with
 | some C,some D=>(C != D)&&(PySem.W.subIn K (.ref C) (.ref D)==some false)
 | _,_=>false
def b0n (K:PySem.W.Frag):Bool:=match iK K "SheetError" with
 | some S=>a3h K S&&cB.all (a7Z K S)&&(cB.all fun c=>cB.all fun d=>b1i K c d)
 | none=>false
theorem yG {K:PySem.W.Frag} {C:Addr} (h:a3h K C=true):XCls K C:=by
 simp only [a3h,Bool.and_eq_true,beq_iff_eq] at h
 exact ⟨h.1.1.1.1,h.1.1.1.2,h.1.1.2,h.1.2,h.2⟩
structure ExF (K:PySem.W.Frag):Prop where
 ok:b0n K=true
theorem ExF.she {K:PySem.W.Frag} (F:ExF K):∃ S,iK K "SheetError" = some S∧XCls K S∧∀ c∈cB,∃ C,iK K c=some C∧XCls K C∧PySem.W.subIn K (.ref C) (.ref S)=some true:=by
 have h:=F.ok
 unfold b0n at h
 split at h
 ·rename_i S hS
  rw [Bool.and_eq_true,Bool.and_eq_true] at h
  refine ⟨S,hS,yG h.1.1,fun c hc=>?_⟩
  have h2:=List.all_eq_true.mp h.1.2 c hc
  unfold a7Z at h2
  split at h2
  ·rename_i C hC
   simp only [Bool.and_eq_true,beq_iff_eq] at h2
   exact ⟨C,hC,yG h2.1.1.1,h2.2⟩
  ·cases h2
 ·cases h
theorem ExF.one {K:PySem.W.Frag} (F:ExF K) {c:Str} (hc:c∈cB):∃ C,iK K c=some C∧XCls K C∧PySem.W.typeIn K (.ref C)=some (.type "type")∧PySem.W.subIn K (.ref C) (.type "ValueError")=some true:=by
 have h:=F.ok
 unfold b0n at h
 split at h
 ·rename_i S hS
  rw [Bool.and_eq_true,Bool.and_eq_true] at h
  have h2:=List.all_eq_true.mp h.1.2 c hc
  unfold a7Z at h2
  split at h2
  ·rename_i C hC
   simp only [Bool.and_eq_true,beq_iff_eq] at h2
   exact ⟨C,hC,yG h2.1.1.1,h2.1.1.2,h2.1.2⟩
  ·cases h2
 ·cases h
theorem ExF.two {K:PySem.W.Frag} (F:ExF K) {c d:Str} (hc:c∈cB) (hd:d∈cB) (n:c≠d) {C D:Addr} (eC:iK K c=some C) (eD:iK K d=some D):C≠D∧PySem.W.subIn K (.ref C) (.ref D)=some false:=by
 have h:=F.ok
 unfold b0n at h
 split at h
 ·rw [Bool.and_eq_true,Bool.and_eq_true] at h
  have h2:=List.all_eq_true.mp (List.all_eq_true.mp h.2 c hc) d hd
  unfold b1i at h2
  rw [eC,eD] at h2
  rcases Bool.or_eq_true_iff.mp h2 with z | z
  ·exact absurd (beq_iff_eq.mp z) n
  ·simp only [Bool.and_eq_true,beq_iff_eq,bne_iff_ne] at z
   exact z
 ·cases h
section
variable {X:Cx} {pos p p2:Pos} {x:Str}
def b2X (i:Nat):TF:=fun ρ=>match ρ[i]? with
 | some (.exc _)=>some (.ok false)
 | some (.val .none)=>some (.ok true)
 | _=>none
theorem b0s (i:Nat) {j} (hN:X.N[i]?=some x:=by rfl) (hv:Vis X.env.scope x:=by first | exact Or.inl rfl | exact Or.inr (Or.inl rfl) | exact Or.inr (Or.inr rfl)) (hd:(x==("__debug__" : Str))=false:=by decide)
  (hcd:(x==("__classdict__" : Str))=false:=by decide):DT X (.Compare (.Name x p) [.Is] [.Constant .none j p2] pos) (b2X i):=⟨fun pins s σ H Q I ⟨ρ,r,H0,G₀,G,e,R,q⟩=>by
 refine a3p a6U (jP hN hv hd hcd) a6I (a2C _) pins s σ H Q I ?_
 unfold b2X at e
 split at e
 ·rename_i c hi
  cases (Option.some.inj e)
  obtain ⟨o,eo,a,C,rfl,_⟩:=R.at hi
  exact ⟨_,eo,rfl,_,rfl,q G H (.refl R.sub)⟩
 ·rename_i hi
  cases (Option.some.inj e)
  obtain ⟨v,ev,rv⟩:=R.val hi
  cases rv
  exact ⟨_,ev,rfl,_,rfl,q G H (.refl R.sub)⟩
 ·cases e⟩
def a1q (i:Nat) (d:Str):EF:=fun ρ=>match ρ[i]? with
 | some (.exc c)=>if cB.contains c then some (.ok (.bool (c==d))) else none
 | _=>none
theorem qU (i:Nat) {d:Str} (F:ExF X.K) (hm:X.mg "isinstance" = none) (hd':d∈cB:=by decide) (hN:X.N[i]?=some x:=by rfl) (hv:Vis X.env.scope x:=by first | exact Or.inl rfl | exact Or.inr (Or.inl rfl) | exact Or.inr (Or.inr rfl)) (hd:(x==("__debug__" : Str))=false:=by decide)
  (hcd:(x==("__classdict__" : Str))=false:=by decide) (hdd:(d==("__debug__" : Str))=false:=by decide)
  (he:starEach [.Name x p,.Name d p2] X.env=(false,eval (.Name x p) X.env)::starEach [.Name d p2] X.env:=by rfl) (he2:starEach [.Name d p2] X.env=(false,eval (.Name d p2) X.env)::starEach [] X.env:=by rfl)
  (hpl:(backTo pos (starEach [.Name d p2] X.env)).any (·.1)=false:=by rfl) (hg:Gl X "isinstance":=by rfl) (hgd:Gl X d:=by rfl) {pi:Pos}:DE X (.Call (.Name "isinstance" pi) [.Name x p,.Name d p2] [] pos) (a1q i d):=⟨fun pins s σ H Q I ⟨ρ,r,H0,G₀,G,e,R,q⟩=>by
 obtain ⟨D,hD,xD,tD',_⟩:=F.one hd'
 have hmd:X.mg d=some (.ref D):=PySem.W.mg_of I.mod.kin I.mod.glob (zZ hD)
 have hc:eM X (.builtin "isinstance") (fun xs H Q=>∃ a C c,xs=[.ref a,.ref D]∧c∈cB∧iK X.K c=some C∧H a=some (xcO a C)∧Q (.bl (c==d)) H):=by
  intro pins s σ H xs us Q I r ⟨a,C,c,e1,hcn,hC,hH,q⟩
  subst e1
  obtain ⟨u,w',rfl,r1,r2⟩:=vals2 r
  cases r1;cases r2
  obtain ⟨⟨ox,xo⟩,_⟩:=I.hok a _ hH
  obtain ⟨C',hC',xC,_⟩:=F.one hcn
  rw [hC] at hC';cases hC'
  by_cases h:c=d
  ·subst h
   rw [hC] at hD;cases hD
   refine b3Q I.kIn xo (by unfold PySem.W.isIn;simp) ⟨.bl (c==c),H,I,by show Value.bool true=Value.bool (c==c);simp,q⟩
  ·obtain ⟨n1,n2⟩:=F.two hcn hd' h hC hD
   exact a5Q xC xD I.kIn xo n1 tD' n2 ⟨.bl (c==d),H,I.tok _,by show Value.bool false=Value.bool (c==d);simp [h],q⟩
 refine oS hc hg hm boot_isinstance (dY (jP hN hv hd hcd) (dY (a3v (v:=.ref D) hgd hmd rfl hdd) iR he2) he) (by decide) (by decide) he hpl pins s σ H Q I ?_
 unfold a1q at e
 split at e
 ·rename_i c hi
  split at e
  ·rename_i hcn
   cases (Option.some.inj e)
   obtain ⟨o,eo,a,C,rfl,hC,hH⟩:=R.at hi
   exact ⟨_,eo,a,C,c,rfl,by simpa using hcn,hC,hH,q _ G H (.refl R.sub) (.bool _)⟩
  ·cases e
 ·cases e⟩
def b2V (i:Nat):EF:=fun ρ=>match ρ[i]? with
 | some (.exc c)=>if cB.contains c then some (.ok (.bool true)) else none
 | _=>none
theorem b3T:typeOf (.type "ValueError")=pure (.type "type"):=by kernel_rfl
theorem b0x (i:Nat) (F:ExF X.K) (hm:X.mg "isinstance" = none) (hmV:X.mg "ValueError" = none) (hN:X.N[i]?=some x:=by rfl) (hv:Vis X.env.scope x:=by first | exact Or.inl rfl | exact Or.inr (Or.inl rfl) | exact Or.inr (Or.inr rfl)) (hd:(x==("__debug__" : Str))=false:=by decide)
  (hcd:(x==("__classdict__" : Str))=false:=by decide)
  (he:starEach [.Name x p,.Name "ValueError" p2] X.env=(false,eval (.Name x p) X.env)::starEach [.Name "ValueError" p2] X.env:=by rfl) (he2:starEach [.Name "ValueError" p2] X.env=(false,eval (.Name "ValueError" p2) X.env)::starEach [] X.env:=by rfl)
  (hpl:(backTo pos (starEach [.Name "ValueError" p2] X.env)).any (·.1)=false:=by rfl) (hg:Gl X "isinstance":=by rfl) (hgd:Gl X "ValueError":=by rfl) {pi:Pos}:DE X (.Call (.Name "isinstance" pi) [.Name x p,.Name "ValueError" p2] [] pos) (b2V i):=⟨fun pins s σ H Q I ⟨ρ,r,H0,G₀,G,e,R,q⟩=>by
 have hc:eM X (.builtin "isinstance") (fun xs H Q=>∃ a C c,xs=[.ref a,.ty "ValueError"]∧c∈cB∧iK X.K c=some C∧H a=some (xcO a C)∧Q (.bl true) H):=by
  intro pins s σ H xs us Q I r ⟨a,C,c,e1,hcn,hC,hH,q⟩
  subst e1
  obtain ⟨u,w',rfl,r1,r2⟩:=vals2 r
  cases r1;cases r2
  obtain ⟨⟨ox,xo⟩,_⟩:=I.hok a _ hH
  obtain ⟨C',hC',xC,_,sV⟩:=F.one hcn
  rw [hC] at hC';cases hC'
  exact b1v I.kIn xo b3T sV ⟨.bl true,H,I,rfl,q⟩
 refine oS hc hg hm boot_isinstance (dY (jP hN hv hd hcd) (dY (a3y (v:=.ty "ValueError") hgd hmV (by decide +kernel) rfl (by decide) (by decide)) iR he2) he) (by decide) (by decide) he hpl pins s σ H Q I ?_
 unfold b2V at e
 split at e
 ·rename_i c hi
  split at e
  ·rename_i hcn
   cases (Option.some.inj e)
   obtain ⟨o,eo,a,C,rfl,hC,hH⟩:=R.at hi
   exact ⟨_,eo,a,C,c,rfl,by simpa using hcn,hC,hH,q _ G H (.refl R.sub) (.bool _)⟩
  ·cases e
 ·cases e⟩
end
def b1T (m:Nat) (f:SF) (c:Str):Mm PyData:=match f (.exc c::List.replicate (m - 1) .no) with
 | some (.rt d)=>some (.ok d)
 | some (.nx _)=>some (.ok .none)
 | _=>none
def spE (K:PySem.W.Frag) (F:Str→Mm PyData):Sp:=fun vs H Q _=>∃ G c d a C,(bR G H∧nF K G H)∧vs=[.ref a]∧iK K c=some C∧H a=some (xcO a C)∧F c=some (.ok d)∧∀ v G' H',Grow G H G' H'→Rep K G' v d→Q v H'
structure CalleeE (P:Program) (w:World) (K:PySem.W.Frag) (mg:Str→Option Value) (base:Heap) (x:Str) (k:Nat) (ps:List Str) (F:Str→Mm PyData):Prop where
 ex:∃ f fd,mg x=some (.ref f)∧PySem.W.keepIn K (.ref f)=true∧Binds K fd ps []∧FnOk P w K mg base CX0 k f fd ps (spE K F)
theorem wK {K:PySem.W.Frag} {G H:Hp} {N:List Str} {a C:Addr} {c:Str} (s:bR G H∧nF K G H) (hC:iK K c=some C) (hH:H a=some (xcO a C)):RepS K H G G H (start N [.ref a]) (.exc c::List.replicate (N.length - 1) .no):=by
 refine ⟨.refl s.1,by simp [start,Nat.add_comm],fun i o e h1 h2=>?_,Inj.free (fun i e h2=>?_),s.2⟩
 ·cases i with
  | zero=>
   have h1:some (some (V.ref a))=some o:=by simpa [start] using h1
   cases h1
   cases (Option.some.inj h2)
   exact ⟨a,C,rfl,hC,hH⟩
  | succ i=>
   rw [List.getElem?_cons_succ,List.getElem?_replicate] at h2
   split at h2
   ·cases h2;trivial
   ·cases h2
 ·cases i with
  | zero=>cases (Option.some.inj h2);rfl
  | succ i=>
   rw [List.getElem?_cons_succ,List.getElem?_replicate] at h2
   split at h2
   ·cases h2;rfl
   ·cases h2
section
variable {P:Program} {w:World} {K:PySem.W.Frag} {mg:Str→Option Value} {base:Heap} {X:Cx} {pos p p2:Pos} {x y:Str} {k:Nat} {ps N:List Str} {F:Str→Mm PyData}
theorem a1M {st:Stmt} {f:SF} (m:Nat) (D:Def K mg x st) (S:FnScope N ps (aG st)) (hm:N.length=m) (hn:ps.length=1)
  (hb:∀ (kV doc pm:Value) (an:Option Addr) (cdv ct:Value) (us:List Value),us.length=ps.length→bindArgs (PySem.W.fnOf x x (fR st) (cN st) (aG st) .none kV doc pm an cdv ct) ⟨us,[]⟩=pure (ps.zip us))
  (body:∀ (fa:Addr) (cdv:Value) (A:Around) (outer:List Env) (s:Shared) (H:Hp) (E:XK),Room k (A.deeper (envOfC x (aG st) s.heap.objs.size fa cdv))→DB (fcx P w K mg base N x (aG st) fa cdv A outer s H E) (cN st) f) :
  CalleeE P w K mg base x (k+1) ps (b1T m f):=by
 obtain ⟨fa,fd,Fu,hmg⟩:=D.ex
 refine ⟨fa,fd,hmg,Fu.kp,Fu.binds hb,Fu.ok S (fun vs H Q E ⟨G,c,d,a,C,s,e,_⟩=>by rw [e,hn];rfl) (fun cdv A outer s H vs Q E hr ⟨G,c,d,a,C,sm,e,hC,hH,hF,q⟩=>?_)⟩
 subst e
 unfold b1T at hF
 rw [←hm] at hF
 split at hF
 ·rename_i d' e
  cases (Option.some.inj hF)
  exact ⟨_,(body fa cdv A outer s H E hr).run,_,_,H,G,G,e,wK sm hC hH,fun v G' H' _ g rv=>q v G' H' g rv⟩
 ·rename_i ρ' e
  cases (Option.some.inj hF)
  exact ⟨_,(body fa cdv A outer s H E hr).run,_,_,H,G,G,e,wK sm hC hH,fun G' H' σ' _ R'=>q .non G' H' R'.grow .none⟩
 ·cases hF
def qY (F:Str→Mm PyData) (i:Nat):EF:=fun ρ=>match ρ[i]? with
 | some (.exc c)=>(match F c with | some (.ok d)=>some (.ok d) | _=>none)
 | _=>none
theorem a5p (i:Nat) (C:CalleeE X.prog X.w X.K X.mg X.base x k ps F) (hr:Room k X.A) (hN:X.N[i]?=some y:=by rfl) (hv:Vis X.env.scope y:=by first | exact Or.inl rfl | exact Or.inr (Or.inl rfl) | exact Or.inr (Or.inr rfl)) (hd:(y==("__debug__" : Str))=false:=by decide)
  (hcd:(y==("__classdict__" : Str))=false:=by decide) (hg:Gl X x:=by rfl) (hdb:(x==("__debug__" : Str))=false:=by decide)
  (he:starEach [.Name y p2] X.env=(false,eval (.Name y p2) X.env)::starEach [] X.env:=by rfl) (hpl:(backTo pos (starEach [] X.env)).any (·.1)=false:=by rfl):DE X (.Call (.Name x p) [.Name y p2] [] pos) (qY F i):=⟨fun pins s σ H Q I ⟨ρ,r,H0,G₀,G,e,R,q⟩=>by
 obtain ⟨f,fd,a,b,c,Fk⟩:=C.ex
 refine a3x Fk hr hg a b c .nil (a6R (X:=X)) (dY (jP hN hv hd hcd) iR he) hdb he hpl pins s σ H Q I ?_
 unfold qY at e
 split at e
 ·rename_i c' hi
  split at e
  ·rename_i d hF
   cases (Option.some.inj e)
   obtain ⟨o,eo,a',C',rfl,hC,hH⟩:=R.at hi
   exact ⟨_,eo,G,c',d,a',C',⟨R.sub,R.tab⟩,rfl,hC,hH,hF,fun v G' H' g rv=>q v G' H' g rv⟩
  ·cases e
 ·cases e⟩
end
end L2.L3
namespace L2.L3
open PySem PySem.Spec PyProof.Rows
section
variable {X:Cx} {body:List Stmt} {f:SF}
theorem xV {x m:Str} {np sp cpos pos:Pos} {j} (F:ExF X.K) (hc:X.calm=true) (hx:x∈cB:=by decide) (hg:Gl X x:=by rfl) (hdb:(x==("__debug__" : Str))=false:=by decide)
  (he:starEach [.Constant (.str m) j sp] X.env=(false,eval (.Constant (.str m) j sp) X.env)::starEach [] X.env:=by rfl) (hpl:(backTo cpos (starEach [] X.env)).any (·.1)=false:=by rfl) :
  DS X (.Raise (some (.Call (.Name x np) [.Constant (.str m) j sp] [] cpos)) none pos) (tW x):=by
 obtain ⟨C,h1,h2,_⟩:=F.one hx
 exact a8j hc h1 h2 hg hdb he hpl
theorem b0t (i j:Nat) {x n:Str} {np xp ep hpos apos pos:Pos} (F:ExF X.K) (hN:X.N.Nodup) (hst:X.stack=X.env::X.outer) (hf:X.env.frame=some X.env.locals)
  (hb:∀ E pn,DB (Cx.tryc X E pn) body f)
  (hi:X.N[i]?=some x:=by rfl) (hj:X.N[j]?=some n:=by rfl) (hg:Gl X "SheetError":=by rfl) (hk:X.env.scope.names.lookup n=some .local:=by rfl) (hx:X.env.scope.names.lookup x=some .local:=by rfl)
  (hnd:(n==("__debug__" : Str))=false:=by decide) (hncd:(n==("__classdict__" : Str))=false:=by decide)
  (hs:swapsWith (.Name n ep) (some (.Name x xp)) apos.line X.env=pure false:=by rfl) :
  DS X (.Try body [.ExceptHandler (some (.Name "SheetError" np)) (some n) [.Assign [.Name x xp] (.Name n ep) apos] hpos] [] [] pos) (vQ i j cB f):=by
 obtain ⟨S,h1,h2,h3⟩:=F.she
 exact b3p i j hN hst hf h1 h2 h3 hb hi hj hg hk hx (by decide) hnd hncd hs
end
end L2.L3
namespace L2.L3
open PySem PySem.Spec PyProof.Rows
section
variable {X:Cx} {body:List Stmt} {f:SF}
end
end L2.L3
namespace L2.L3
open PySem PySem.Spec PyProof.Rows
theorem a9f {m n:Nat} {f:SF} {ds:List PyData} {d:PyData} (hl:ds.length=n) (h:f (pX m ds)=some (.rt d)):vU m n f ds=some (.ok d):=by
 unfold vU;rw [if_pos hl,h]
theorem a9g {m n:Nat} {f:SF} {ds:List PyData} {c:Str} {ρ:List Ent} (hl:ds.length=n) (h:f (pX m ds)=some (.xc c ρ)):vU m n f ds=some (.ex c):=by
 unfold vU;rw [if_pos hl,h]
theorem a9e {f g:SF} {ρ ρ':List Ent} {c:Str} (h:f ρ=some (.xc c ρ')):aW f g ρ=some (.xc c ρ'):=by unfold aW;rw [h]
theorem b0J (F:List PyData→Mm PyData) (fa:AF) (ρ:List Ent):sB F fa ρ=bnd (fa ρ) F:=rfl
theorem a1N {F:List PyData→Mm PyData} {fa:AF} {ρ:List Ent} {ds:List PyData} {r:Re PyData} (ha:fa ρ=some (.ok ds)) (h:F ds=some r):sB F fa ρ=some r:=by rw [b0J,ha,dU,h]
def tmB (b e:Int):Bool:=decide (0≤b)&&(decide (b<e)&&decide (e≤480))
theorem a8U {b e:Int}:tmB b e=true↔0≤b∧b<e∧e≤480:=by unfold tmB;simp
theorem a8e (b e:Int):dW [.int b,.int e]=some (.ok (.bool (tmB b e))):=by
 have w:∀ i:Int,bV [.int i]=some (.ok (.bool true)):=fun i=>by kernel_rfl
 refine bL rfl ?_
 show gQ [.val (.int b),.val (.int e)]=_
 unfold tmB
 by_cases h1:0≤b<;>by_cases h2:b<e<;>by_cases h3:e≤480<;>simp [gQ,w,h1,h2,h3]
end L2.L3
namespace L2
open PySem PySem.Spec PyProof.Rows
section
variable (P:Program) (w:World)
end
section
variable {P:Program} {w:World} {H H':Hp} {h h':Heap} {a:Addr} {o:HO}
end
section
variable {P:Program} {w:World} {H:Hp} {h h':Heap} {x e:Addr} {o':HO}
end
section
variable {fs fs' ex ex':List Addr} {H H1 H2:Hp} {h h1 h2 h':Heap} {a x e:Addr} {o:HO}
end
section
variable {X:Cx} {pins:List (Addr×Obj)} {σ:List (Option V)} {H H':Hp} {s:Shared} {h':Heap}
end
section
variable {X:Cx}
variable {a b:Expr} {ta tb:TE} {pos:Pos}
variable {tA tB':TT} {rest:List Expr}
end
section
variable {X:Cx} {pins:List (Addr×Obj)} {σ:St} {H:Hp} {s:Shared} {a:Addr} {xs ys:List V}
end
section
variable {X:Cx} {pins:List (Addr×Obj)} {σ:St} {H:Hp} {s:Shared} {E:Value→Shared→Prop}
end
section
variable {X:Cx} {st:Stmt} {rest:List Stmt} {t u:TS} {e:Expr} {te:TE} {pos:Pos}
end
section
variable {X:Cx} {pos:Pos}
end
section
variable {X:Cx} {pos:Pos}
end
section
variable {X:Cx} {tg:Expr}
end
section
variable {X:Cx} {a b c:Expr} {ta tb tc:TE} {pos:Pos}
end
section
variable {X:Cx} {a b c:Expr} {ta tb tc:TE} {pos:Pos}
end
section
variable {prog:Program} {w:World} {A:Around} {E:Value→Shared→Prop} {s:Shared} {K:PySem.W.Frag} {x dx C f:Addr} {mA:Str→Option Value} {name:Str} {v:Value}
end
section
variable {P:Program} {w:World} {H H':Hp} {h h':Heap} {a C dx:Addr} {fs fs':List (Str×V)}
end
section
variable {X:Cx} {pins:List (Addr×Obj)} {σ:St} {H:Hp} {s:Shared} {a C dx:Addr} {fs:List (Str×V)} {f:Str} {v:V} {A:Around} {E:Value→Shared→Prop}
end
section
variable {X:Cx} {o e value:Expr} {f:Str} {pos pos' tpos:Pos} {ta tv:TE}
end
section
variable {X:Cx} {pins:List (Addr×Obj)} {σ:St} {H:Hp} {s:Shared} {A:Around} {E:Value→Shared→Prop} {Q:Value→Shared→Prop} {c:Value} {b:Bool}
end
section
variable {X:Cx} {e:Expr} {es:List Expr} {te:TE} {t:TA} {pos:Pos}
end
section
variable {X:Cx} {pins:List (Addr×Obj)} {σ:St} {H:Hp} {s s':Shared}
end
section
variable {X:Cx} {CX:CXT} {k:Nat} {f C:Addr} {fd:FuncData} {ps:List Str} {sp:Sp} {dvs:List V} {ds:List Value} {E:XK} {x m:Str} {p pos apos:Pos} {e o:Expr} {es:List Expr} {ta:TE} {t:TA}
end
section
variable {X:Cx} {CX:CXT} {k:Nat} {f C:Addr} {fd:FuncData} {ps ks:List Str} {sp:Sp} {E:XK} {x m:Str} {p pos apos kpos:Pos} {e o:Expr} {es:List Expr} {kws:List Keyword} {te ta:TE} {t tk:TA} {nm:Option Str}
variable {g:List Value→List Value→List Value} {gV:List V→List V→List V}
end
section
variable {X:Cx} {x:Str} {p pos:Pos} {e:Expr} {es:List Expr} {t:TA} {id T:String} {r:List V→Hp→VK→Prop}
end
section
variable {κ:Type} [DecidableEq κ]
def sX (kvs:List (κ×V)) (k:κ):Option V:=(kvs.find? fun kv=>decide (kv.1=k)).map (·.2)
theorem sU {p:κ×V} {r:List (κ×V)} {k:κ} (e:p.1=k):sX (p::r) k=some p.2:=by simp [sX,List.find?_cons,e]
theorem sW {p:κ×V} {r:List (κ×V)} {k:κ} (e:¬p.1=k):sX (p::r) k=sX r k:=by simp [sX,List.find?_cons,e]
theorem a3g.getD {o:Option V} {u:Option Value} {d:V} {d':Value} (r:a3g o u) (rd:RelV d d'):RelV (o.getD d) (u.getD d'):=by
 cases o with
 | none=>cases u with
  | none=>exact rd
  | some _=>exact (show False from r).elim
 | some _=>cases u with
  | none=>exact (show False from r).elim
  | some _=>exact r
theorem KV.val {kvs:List (κ×V)} {vs:List (κ×Value)} (r:KV kvs vs) (k:κ):a3g (sX kvs k) (valueAt vs k):=by
 unfold KV at r
 induction r with
 | nil=>exact True.intro
 | @cons p q ps qs h t ih=>
  obtain ⟨h1,h2⟩:=h
  by_cases e:p.1=k
  ·have e':q.1=k:=h1.symm.trans e
   have b:valueAt (q::qs) k=some q.2:=by simp [valueAt,List.find?_cons,e']
   rw [sU e,b];exact h2
  ·have e':¬q.1=k:=fun z=>e (h1.trans z)
   have b:valueAt (q::qs) k=valueAt qs k:=by simp [valueAt,List.find?_cons,e']
   rw [sW e,b];exact ih
end
theorem b1f {P:Program} {w:World} {k:Key} {u:Value} (r:RelV (kV k) u):(dB P w).is k u=true:=by
 cases k with
 | inl i=>obtain ⟨t,e⟩:=(show ∃ t,u=Value.int i t from r);subst e;exact rJ P w i t
 | inr x=>obtain ⟨t,e⟩:=(show ∃ t,u=Value.str x t from r);subst e;exact rH P w x t
theorem xP {P:Program} {w:World}:∀ {ks:List Key} {us:List Value},aY (ks.map kV) us→ItemsAre (dB P w) ks us
 | [],_,r=>by rw [List.map_nil] at r;cases r;exact .nil
 | k::ks,_,r=>by
  rw [List.map_cons] at r
  cases r with
  | cons h t=>exact .cons (b1f h) (xP t)
abbrev KT (H:Hp):List (List Key×V)→List (List Key×Addr×Value)→Prop:=Paired fun p q=>p.1=q.1∧H q.2.1=some (.tup (p.1.map kV))∧RelV p.2 q.2.2
theorem KT.val {H:Hp} {kvs:List (List Key×V)} {xs:List (List Key×Addr×Value)} (r:KT H kvs xs) (k:List Key):a3g (sX kvs k) ((atKey xs k).map (·.2)):=by
 induction r with
 | nil=>exact True.intro
 | @cons p q ps qs h t ih=>
  obtain ⟨h1,_,h2⟩:=h
  by_cases e:p.1=k
  ·have e':q.1=k:=h1.symm.trans e
   have b:atKey (q::qs) k=some q.2:=by simp [atKey,List.find?_cons,e']
   rw [sU e,b];exact h2
  ·have e':¬q.1=k:=fun z=>e (h1.trans z)
   have b:atKey (q::qs) k=atKey qs k:=by simp [atKey,List.find?_cons,e']
   rw [sW e,b];exact ih
section
variable {P:Program} {w:World} {H:Hp} {h:Heap} {a:Addr}
theorem b0X {u:HO} (ok:HOk P w H h) (e:Rd H a u):cM P w H h a u:=e.ok ok
theorem b1n {kvs:List (Key×V)} (ok:HOk P w H h) (e:Rd H a (.dK kvs)):kvs.length≤sizeLine∧(a==sysModules)=false∧∃ vs,KV kvs vs∧h.DictOf (dB P w) a vs:=
 show cM P w H h a (.dK kvs) from b0X ok e
theorem a7u {ks:List Key} (ok:HOk P w H h) (e:H a=some (.tup (ks.map kV))):(tupleKind (dB P w)).is h ks a:=by
 obtain ⟨_,its,r,o,h1,h2,n,h3⟩:=(show cM P w H h a (.tup (ks.map kV)) from ok a _ e)
 exact ⟨o,its.toArray,n,h1,h2,h3,by simpa using xP r⟩
theorem b1k {kvs:List (List Key×V)} (ok:HOk P w H h) (e:Rd H a (.dT kvs)):kvs.length≤sizeLine∧(a==sysModules)=false ∧
  ∃ xs,KT H kvs xs∧h.DictOfH (tupleKind (dB P w)) a xs:=by
 obtain ⟨z,y,xs,r,o,es,ep,h1,h2,h3,h4,h5⟩:=(show cM P w H h a (.dT kvs) from b0X ok e)
 refine ⟨z,y,xs,r,o,es,ep,h1,h2,h3,h4,fun x hx=>?_,h5⟩
 have all:∀ {l:List (List Key×V)} {m:List (List Key×Addr×Value)},KT H l m→∀ x∈m,(tupleKind (dB P w)).is h x.1 x.2.1:=by
  intro l m q
  induction q with
  | nil=>intro x hx;exact nomatch hx
  | @cons p q ps qs hq t ih=>
   intro x hx
   rcases List.mem_cons.mp hx with e | hx
   ·subst e
    exact a7u ok (by rw [←hq.1];exact hq.2.1)
   ·exact ih x hx
 exact all r x hx
end
def b4Z (H:Hp) (a:Addr) (y:V) (r:Option V):Prop:=
 (∃ kvs k,Rd H a (.dK kvs)∧y=kV k∧r=sX kvs k)∨∃ kvs k b,Rd H a (.dT kvs)∧y=.ref b∧H b=some (.tup (k.map kV))∧r=sX kvs k
section
variable {X:Cx} {pins:List (Addr×Obj)} {σ:St} {H:Hp} {s:Shared} {a:Addr} {y v:V} {u r:Value} {o:Option V} {A:Around} {E:Value→Shared→Prop}
end
section
variable {X:Cx} {pins:List (Addr×Obj)} {σ:St} {H:Hp} {s:Shared} {a:Addr} {kvs:List (Key×V)} {k:Key} {u:Value} {A:Around} {E:Value→Shared→Prop}
end
section
variable {X:Cx} {o i e value:Expr} {pos pos' tpos:Pos} {td ty tv:TE}
end
section
variable {X:Cx} {pos:Pos}
end
structure M1 (X:Cx) (o:Expr) (m:Str) (apos:Pos) (e:Expr) (cpos:Pos):Prop where
 base:attributeBase o m X.env (eval o X.env)=eval o X.env
 few:((backTo cpos (starEach [e] X.env)).all (fun x=>!x.1)&&(backToKw cpos (keywordEach [] X.env)).all (fun x=>x.1.isSome)
  && decide (([e]:List Expr).length+([]:List Keyword).length+(if ([]:List Keyword).isEmpty then 0 else 1)<30))=true
 line:(apos.endLine==cpos.line)=true
 trees:backTo cpos (starEach [e] X.env)=[(false,eval e X.env)]
def IsD (H:Hp) (a:Addr):Prop:=(∃ kvs,Rd H a (.dK kvs))∨∃ kvs,Rd H a (.dT kvs)
theorem b3a {X:Cx} {pins:List (Addr×Obj)} {σ:St} {H:Hp} {s:Shared} {a:Addr} (I:Inv X pins σ H s) (d:IsD H a) :
  s.TypeIs (.ref a) "dict" ∧ (∀ b,Value.ref a=.ref b→∃ ob,s.heap.get? b=some ob∧ob.dict=none)∧(a==sysModules)=false:=by
 rcases d with ⟨kvs,e⟩ | ⟨kvs,e⟩
 ·obtain ⟨_,hd,vs,_,dd⟩:=b1n I.hok e
  refine ⟨dd.typeIs,fun b q=>?_,hd⟩
  cases q
  obtain ⟨ob,_,_,h1,h2,_⟩:=dd
  exact ⟨ob,h1,h2.2.1⟩
 ·obtain ⟨_,hd,xs,_,dd⟩:=b1k I.hok e
  refine ⟨dd.typeIs,fun b q=>?_,hd⟩
  cases q
  obtain ⟨ob,_,_,h1,h2,_⟩:=dd
  exact ⟨ob,h1,h2.2.1⟩
section
variable {X:Cx} {pins:List (Addr×Obj)} {σ:St} {H:Hp} {s:Shared} {a:Addr} {y d:V} {u r:Value} {o:Option V} {A:Around} {E:Value→Shared→Prop}
theorem b3x {Q:Value→Shared→Prop} (hu:A.units+1<cLine) (I:Inv X pins σ H s) (g:b4Z H a y o) (ry:RelV y u) (h:∀ w' s',Inv X pins σ H s'→RelV (o.getD .non) w'→Q w' s') :
  wpAny (model X.prog X.w) A (call (.builtin "dict.get") [.ref a,u]) Q E s:=by
 rcases g with ⟨kvs,k,e,ey,l⟩ | ⟨kvs,k,b,e,ey,eb,l⟩
 ·subst ey
  obtain ⟨z,hd,vs,rel,dd⟩:=b1n I.hok e
  refine call_meetsIn PySem.F.slot_dict_get dd.typeIs PySem.F.entry_dict_get (PySem.F.args_dict_get_2 _ _) (meets_dict_get (dB X.prog X.w) a (b1f ry) hd) ⟨_,dd.mapOf,h _ _ (I.tok _) ?_⟩
  rw [l]
  exact (rel.val k).getD rfl
 ·subst ey
  cases (show u=Value.ref b from ry)
  obtain ⟨z,hd,xs,rel,dd⟩:=b1k I.hok e
  refine call_meetsIn PySem.F.slot_dict_get dd.typeIs PySem.F.entry_dict_get (PySem.F.args_dict_get_2 _ _) (meetsH_dict_get (tupleKind (dB X.prog X.w)) a b hd) ⟨tupleKind_room_in1 hu,k,xs,a7u I.hok eb,dd,h _ _ (I.tok _) ?_⟩
  rw [l]
  exact (rel.val k).getD rfl
end
def b1K (td ty:TE):TE:=fun σ H Q=>td σ H fun x H1=>∃ a,x=.ref a∧IsD H1 a∧ty σ H1 fun y H2=>∃ o,b4Z H2 a y o∧Q (o.getD .non) H2
section
variable {X:Cx} {o e f:Expr} {apos cpos:Pos} {td ty tx:TE}
theorem a6L (hu:X.A.units+1<cLine) (ho:PE X o td) (he:PE X e ty) (m:M1 X o "get" apos e cpos):PE X (.Call (.Attribute o "get" apos) [e] [] cpos) (b1K td ty):=by
 intro pins s σ H Q I h
 refine wpAny_Call_method m.base m.few m.line PySem.F.plainAttrs_dict PySem.F.slot_dict_get PySem.F.type_dict_get (thn (ho pins s σ H _ I h) fun u s1 ⟨x,H1,I1,rx,a,ex,d,q1⟩=>?_)
 subst ex
 obtain rfl:u=Value.ref a:=rx
 obtain ⟨t1,t2,_⟩:=b3a I1 d
 refine ⟨t1,t2,?_⟩
 rw [m.trees]
 refine Calls.callWith_builtin rfl (Calls.evalArgs_plain (Calls.spliced_cons (thn (he pins s1 σ H1 _ I1 q1) fun iv s2 ⟨y,H2,I2,ry,ov,g,q2⟩=>Calls.spliced_nil ?_)))
 exact b3x hu I2 g ry fun w' s3 I3 rw'=>⟨_,H2,I3,rw',q2⟩
end
section
variable {X:Cx} {pins:List (Addr×Obj)} {σ:St} {H:Hp} {s:Shared} {a:Addr} {kvs:List (Key×V)} {A:Around} {E:Value→Shared→Prop}
end
section
variable {X:Cx} {pins:List (Addr×Obj)} {σ:St} {H:Hp} {s:Shared} {a:Addr} {y:V} {u:Value} {A:Around} {E:Value→Shared→Prop}
end
end L2
namespace Att
open PySem PySem.W PySem.Calls PyProof.Rows
section
variable {prog:Program} {w:World} {A:Around} {E:Value→Shared→Prop} {s:Shared} {K:Frag}
end
end Att
namespace L2
open PySem PySem.Spec PyProof.Rows
section
variable {P:Program} {w:World} {K:PySem.W.Frag} {mg:Str→Option Value} {base:Heap}
end
section
variable {X:Cx}
end
section
variable {κ:Type} [DecidableEq κ]
end
end L2
namespace L2.L3
open PySem PySem.Spec PyProof.Rows
section
variable {X:Cx} {e a b:Expr} {fa fb:EF} {pos p p2 p3:Pos}
end
section
variable {X:Cx} {a e kx o f:Expr} {fa fk fv fd fx:EF} {pos p p2:Pos}
end
def b4O (D:List (PyData×PyData)) (k z:PyData):Option PyData:=match a0f k with
 | some k=>some ((fN k D).getD z)
 | none=>none
def a7N (fd fk:EF):EF:=fun ρ=>bnd (fd ρ) fun x=>match x with
 | .dict D=>bnd (fk ρ) fun k=>lft (b4O D k .none)
 | _=>none
theorem wI {k:Key}:∀ kvs:List (Key×V),sX kvs k=uE k kvs
 | []=>rfl
 | p::r=>by
  unfold uE
  by_cases c:p.1=k
  ·rw [if_pos c,sU c]
  ·rw [if_neg c,sW c,wI r]
theorem uF {k:Key}:∀ {kvs:List (Key×V)} {D:List (PyData×PyData)},D.map (·.1)=kvs.map (fun p=>kD p.1)→fN k D=none→uE k kvs=none
 | [],_,_,_=>rfl
 | p::r,[],h,_=>by simp at h
 | p::r,q::D,h,e=>by
  rw [List.map_cons,List.map_cons,List.cons.injEq] at h
  unfold fN at e
  unfold uE
  split at e
  ·cases e
  ·rename_i c
   rw [h.1,qV] at c
   rw [if_neg fun z=>c (by rw [z])]
   exact uF h.2 e
theorem a7n {K:PySem.W.Frag} {G:Hp} {k:Key} {kvs:List (Key×V)} {D:List (PyData×PyData)} {z:PyData} {zv:V} (h:D.map (·.1)=kvs.map (fun p=>kD p.1)) (r:RepAll K G (kvs.map (·.2)) (D.map (·.2))) (rz:Rep K G zv z):Rep K G ((sX kvs k).getD zv) ((fN k D).getD z):=by
 rw [wI]
 cases e:fN k D with
 | none=>rw [uF h e];exact rz
 | some d=>
  obtain ⟨v,ev,rv⟩:=xJ h r e
  rw [ev];exact rv
section
variable {X:Cx} {o e f:Expr} {fd fk fx:EF} {ap cp:Pos}
theorem a3Y (hu:X.A.units+64<cLine) (ho:DE X o fd) (hk:DE X e fk) (m:M1 X o "get" ap e cp:=by exact ⟨rfl,rfl,rfl,rfl⟩):DE X (.Call (.Attribute o "get" ap) [e] [] cp) (a7N fd fk):=⟨fun pins s σ H Q I ⟨ρ,r,H0,G₀,G,ef,R,q⟩=>
 a6L (by omega) ho.run hk.run m pins s σ H Q I (bE R ef q.x fun x v G1 H1 g1 R1 rv e1=>by
  split at e1
  ·rename_i D
   cases rv with
   | dict h e0 rr=>
    rename_i a kvs
    refine ⟨a,rfl,.inl ⟨kvs,.inl (g1.sub _ _ h)⟩,bE R1 e1 (q.more g1).x fun k u G2 H2 g2 R2 ru e2=>?_⟩
    obtain ⟨d,ed,rfl⟩:=aX e2
    unfold b4O at ed
    split at ed
    ·rename_i key hk'
     cases (Option.some.inj ed)
     rw [a3Z hk'] at ru
     cases a3o ru
     have h3:=g2.sub _ _ (g2.gg _ _ h)
     exact ⟨_,.inl ⟨kvs,key,.inl h3,rfl,rfl⟩,q _ _ _ (g1.trans g2) (a7n e0 (rr.mono g2.gg) .none)⟩
    ·cases ed
  ·cases e1)⟩
end
abbrev qG:EF:=cF (.nm 0) [none,some 1] (fF (slE (var 2) (fM (cst (.int 1))) gI)) ttT (a7N (var 1) (var 0))
def uW:SF:=(aW (dO 2 (dfE a0G (var 0) (cst (.str " ")))) (retS (dF yL (aB (op2 cZ (slE (var 2) gI (fM (cst (.int 1)))) qG) aF))))
def pT:List PyData→Mm PyData:=cU 3 2 uW
def jT:SF:=(aW (dO 1 (aU pV (aB (var 0) aF))) (aW (dO 2 (op2 a1c (var 0) (cst (.int 48)))) (retS (jnE (aB (op1 mC (var 1)) (aB (cst (.str ":")) (aB (op1 mC (var 2)) aF)))))))
def dH:List PyData→Mm PyData:=cU 3 1 jT
abbrev a0C:TF:=hV (gG (op1 (isD "str") (var 0)))
abbrev pD:EF:=cF (.nm 0) [none] (a0Q (op2 cZ (cst (.int 480)) (cst (.int 1)))) ttT (aK (aB (aU dH (aB (var 0) aF)) (aB (var 0) aF)))
abbrev uK:EF:=cF (.nm 0) [none,some 1] (fF (slE (var 2) gI (fM (op1 nA (cst (.int 1)))))) ttT (aU pT (aB (var 0) (aB (var 1) aF)))
abbrev tF:TF:=orT (fH neD (op2 ixD (var 2) (op1 nA (cst (.int 1)))) (cst (.str ""))) (hV (gG (aU cA (aB (var 3) aF))))
def mU:SF:=(aW (ifS a0C (tW "NoText") fG) (aW (dO 1 (dF rY (aB pD aF))) (aW (dO 2 (dfE a0G (var 0) (cst (.str "\n")))) (aW (dO 3 (dF yL (aB uK aF))) (aW (ifS tF (tW "NoText") fG) (retS (var 3)))))))
def gE:List PyData→Mm PyData:=vU 4 1 mU
def qL:SF:=(aW (dO 1 (op2 ixD (var 0) (cst (.int 0)))) (aW (dO 2 (aU dH (aB (op2 ixD (var 0) (cst (.int 1))) aF))) (aW (dO 3 (aU dH (aB (op2 ixD (var 0) (cst (.int 2))) aF))) (retS (jnE (aB (op1 mC (var 1)) (aB (cst (.str " ")) (aB (op1 mC (var 2)) (aB (cst (.str " ")) (aB (op1 mC (var 3)) (aB (cst (.str "\n")) aF)))))))))))
def mY:List PyData→Mm PyData:=cU 4 1 qL
abbrev uM:EF:=cF (.nm 0) [none] (fF (var 0)) ttT (aU mY (aB (var 0) aF))
def qK:SF:=(retS (dfE a5c (cst (.str "")) uM))
def kH:List PyData→Mm PyData:=cU 1 1 qK
def mtx (m:Int):Str:=lL Str.empty [Str.ofString (toString (m / 48)), ":", Str.ofString (toString (m % 48))]
def a8P:List Nat→Nat→Nat→Bool→Nat
 | [],a,b,_=>a*48+b
 | c::l,a,b,k=>if c=58 then a8P l a b true else if k then a8P l a (b*10+(c - 48)) true else a8P l (a*10+(c - 48)) b false
def pW (t:Str):Nat:=a8P t.cps.toList 0 0 false
theorem a9M:(List.range 481).all (fun m=>decide ((mtx (m:Int)).length≤5)&&decide (pW (mtx (m:Int))=m)&&(mtx (m:Int)).cps.toList.all (fun c=>decide (c≠32)&&decide (c≠10)&&decide (c<128)))=true:=by decide +kernel
theorem zJ {m:Nat} (h:m<481):(mtx (m:Int)).length≤5∧pW (mtx (m:Int))=m∧∀ c∈(mtx (m:Int)).cps.toList,c≠32∧c≠10∧c<128:=by
 have:=List.all_eq_true.mp a9M m (List.mem_range.mpr h)
 rw [Bool.and_eq_true,Bool.and_eq_true,decide_eq_true_eq,decide_eq_true_eq] at this
 refine ⟨this.1.1,this.1.2,fun c hc=>?_⟩
 have:=List.all_eq_true.mp this.2 c hc
 simp only [Bool.and_eq_true,decide_eq_true_eq] at this
 exact ⟨this.1.1,this.1.2,this.2⟩
theorem rF {m:Int} (h0:0≤m) (h1:m≤480):(mtx m).length≤5∧((pW (mtx m):Nat):Int)=m∧∀ c∈(mtx m).cps.toList,c≠32∧c≠10∧c<128:=by
 have h:=zJ (m:=m.toNat) (by omega)
 rw [show ((m.toNat:Nat):Int)=m by omega] at h
 exact ⟨h.1,by have:=h.2.1;omega,h.2.2⟩
theorem a8f {m:Int} (h0:0≤m) (h1:m≤480):dH [.int m]=some (.ok (.str (mtx m))):=by
 have hl:=(rF h0 h1).1
 have s1:dX (m / 48)=true:=by unfold dX;simp only [Bool.and_eq_true,decide_eq_true_eq];omega
 have s2:dX (m % 48)=true:=by unfold dX;simp only [Bool.and_eq_true,decide_eq_true_eq];omega
 refine bL rfl ?_
 show jT [.val (.int m),.no,.no]=_
 unfold jT
 rw [aO (ρ':=[.val (.int m),.val (.int (m / 48)),.no]) (by rw [eG,bH (ds:=[.int m]) rfl (a8g m)];rfl)]
 rw [aO (ρ':=[.val (.int m),.val (.int (m / 48)),.val (.int (m % 48))]) (by simp)]
 have a1:op1 mC (var 1) [.val (.int m),.val (.int (m / 48)),.val (.int (m % 48))]=some (.ok (.str (Str.ofString (toString (m / 48))))):=by
  show lft (if dX (m / 48)=true then _ else none)=_
  rw [if_pos s1];rfl
 have a2:op1 mC (var 2) [.val (.int m),.val (.int (m / 48)),.val (.int (m % 48))]=some (.ok (.str (Str.ofString (toString (m % 48))))):=by
  show lft (if dX (m % 48)=true then _ else none)=_
  rw [if_pos s2];rfl
 rw [fL]
 unfold jnE
 rw [bB a1 (bB rfl (bB a2 rfl))]
 show bns (if cG (mtx m).length=true then some (Re.ok (PyData.str (mtx m))) else none) _ _=_
 rw [if_pos (by unfold cG;exact decide_eq_true (by omega))];rfl
def gJ:List (PyData×PyData):=(List.range 481).map fun (m:Nat)=>(.str (mtx (m:Int)),.int (m:Int))
def mom (t:Str):Option Int:=if pW t<481∧mtx (pW t:Nat)=t then some (pW t:Nat) else none
theorem a1g (k:Key):∀ (a b:List (PyData×PyData)),fN k (a++b)=(fN k a).or (fN k b)
 | [],b=>by simp [fN]
 | p::a,b=>by
  show (if a0f p.1=some k then some p.2 else fN k (a++b))=Option.or (if a0f p.1=some k then some p.2 else fN k a) (fN k b)
  split
  ·rfl
  ·exact a1g k a b
theorem a1e (t:Str):∀ n,n≤481→fN (.inr t) ((List.range n).map fun (m:Nat)=>((.str (mtx (m:Int)),.int (m:Int)):PyData×PyData))=if pW t<n∧mtx (pW t:Nat)=t then some (.int (pW t:Nat)) else none
 | 0,_=>by simp [fN]
 | n+1,h=>by
  rw [List.range_succ,List.map_append,a1g,a1e t n (by omega)]
  show Option.or _ (if some (Sum.inr (mtx (n:Int)):Key)=some (.inr t) then some (PyData.int (n:Int)) else none)=_
  by_cases c:mtx (n:Int)=t
  ·have v:pW t=n:=by rw [←c];exact (zJ (by omega)).2.1
   rw [if_neg (fun z=>by have:=z.1;omega),if_pos (by rw [c]),v,if_pos ⟨by omega,c⟩];rfl
  ·rw [if_neg (fun z=>c (Sum.inr.inj (Option.some.inj z)))]
   by_cases d:pW t<n∧mtx (pW t:Nat)=t
   ·rw [if_pos d,if_pos ⟨by omega,d.2⟩];rfl
   ·rw [if_neg d,if_neg]
    ·rfl
    ·rintro ⟨d1,d2⟩
     by_cases z:pW t=n
     ·rw [z] at d2;exact c d2
     ·exact d ⟨by omega,d2⟩
theorem a7m (t:Str):fN (.inr t) gJ=(mom t).map .int:=by
 unfold gJ mom
 rw [a1e t 481 (Nat.le_refl _)]
 split<;>rfl
theorem a7d {t:Str} {m:Int} (h:mom t=some m):0≤m∧m≤480∧mtx m=t:=by
 unfold mom at h
 split at h
 ·rename_i c
  cases h
  exact ⟨by omega,by omega,c.2⟩
 ·cases h
theorem a3F {m:Int} (h0:0≤m) (h1:m≤480):mom (mtx m)=some m:=by
 have h:=rF h0 h1
 unfold mom
 rw [if_pos ⟨by have:=h.2.1;omega,by rw [h.2.1]⟩,h.2.1]
theorem b3l {x1 x2 x3 x0:Ent}:dF rY (aB pD aF) [x0,x1,x2,x3]=some (.ok (.dict gJ)):=by
 have k1:pD [x0,x1,x2,x3]=some (.ok (.list ((List.range 481).map fun (m:Nat)=>.tuple [.str (mtx (m:Int)),.int (m:Int)]))):=
  cW (fun (k:Nat)=>PyData.int (0+(k:Int))) (fun k=>[.val (.int (k:Int))]) (fun m=>.tuple [.str (mtx (m:Int)),.int (m:Int)]) (List.range 481) (a9i (n:=481) rfl (by decide) (by decide)) (by decide) (fun k _=>by simp [dD]) (fun k hk=>by
   have hk:=List.mem_range.mp hk
   unfold aK
   rw [bB (bH (ds:=[.int (k:Int)]) rfl (a8f (by omega) (by omega))) (bB rfl rfl)];rfl)
 have al:eL wW ((List.range 481).map fun (m:Nat)=>.tuple [.str (mtx (m:Int)),.int (m:Int)])=some ((List.range 481).map fun (m:Nat)=>((.inr (mtx (m:Int)):Key),PyData.int (m:Int))):=by
  have:=gS (f:=wW) (g:=fun p:Key×PyData=>.tuple [kD p.1,p.2]) (fun p=>by
   show (a0f (kD p.1)).map (fun k=>(k,p.2))=_
   rw [qV];rfl) ((List.range 481).map fun (m:Nat)=>((.inr (mtx (m:Int)):Key),PyData.int (m:Int)))
  rw [List.map_map] at this
  exact this
 have nd:(((List.range 481).map fun (m:Nat)=>((.inr (mtx (m:Int)):Key),PyData.int (m:Int))).map (·.1)).Nodup:=by
  rw [List.map_map,List.nodup_iff_pairwise_ne,List.pairwise_map]
  refine (List.nodup_iff_pairwise_ne.mp List.nodup_range).imp_of_mem fun {a b} ha hb h z=>h ?_
  have e:mtx (a:Int)=mtx (b:Int):=Sum.inr.inj z
  have h1:=(zJ (List.mem_range.mp ha)).2.1
  have h2:=(zJ (List.mem_range.mp hb)).2.1
  rw [←h1,←h2,e]
 refine jX (ds:=[.list ((List.range 481).map fun (m:Nat)=>.tuple [.str (mtx (m:Int)),.int (m:Int)])]) (by rw [dL,k1];rfl) ?_
 unfold rY
 dsimp only
 rw [al]
 dsimp only
 rw [if_pos (by rw [Bool.and_eq_true,decide_eq_true_eq,decide_eq_true_eq];exact ⟨nd,by rw [List.length_map,List.length_range];omega⟩)]
 unfold a7g gJ
 rw [List.map_map];rfl
theorem join_one (c x:Str):Str.join c [x]=x:=rfl
theorem eA (c x y:Str) (r:List Str):Str.join c (x::y::r)=x++c++Str.join c (y::r):=rfl
theorem dC (a b:Str):(a++b).cps.toList=a.cps.toList++b.cps.toList:=by
 rw [show (a++b).cps=a.cps++b.cps from rfl,Array.toList_append]
theorem mK {a b:Str} (h:a.cps.toList=b.cps.toList):a=b:=by
 cases a;cases b;congr;exact Array.toList_inj.mp h
theorem a1v {c:Nat}:∀ {p q a b:List Nat},c∉p→c∉q→p++c::a=q++c::b→p=q∧a=b
 | [],[],_,_,_,_,h=>⟨rfl,(List.cons.inj h).2⟩
 | [],y::q,_,_,_,hq,h=>absurd (by rw [(List.cons.inj h).1];simp) hq
 | x::p,[],_,_,hp,_,h=>absurd (by rw [←(List.cons.inj h).1];simp) hp
 | x::p,y::q,a,b,hp,hq,h=>by
  obtain ⟨e1,e2⟩:=List.cons.inj h
  obtain ⟨e3,e4⟩:=a1v (fun z=>hp (List.mem_cons_of_mem _ z)) (fun z=>hq (List.mem_cons_of_mem _ z)) e2
  exact ⟨by rw [e1,e3],e4⟩
theorem zT (c:Nat) (x y:Str) (r:List Str):(Str.join ⟨#[c]⟩ (x::y::r)).cps.toList=x.cps.toList++c::(Str.join ⟨#[c]⟩ (y::r)).cps.toList:=by
 rw [eA,dC,dC,List.append_assoc];rfl
theorem a1n (c:Nat):∀ (ps qs:List Str),ps≠[]→qs≠[]→(∀ p∈ps,c∉p.cps.toList)→(∀ p∈qs,c∉p.cps.toList)→Str.join ⟨#[c]⟩ ps=Str.join ⟨#[c]⟩ qs→ps=qs
 | [],_,h,_,_,_,_=>absurd rfl h
 | _,[],_,h,_,_,_=>absurd rfl h
 | [p],[q],_,_,_,_,h=>by rw [join_one,join_one] at h;rw [h]
 | [p],q::q2::r,_,_,hp,_,h=>by
  rw [join_one] at h
  exact absurd (by rw [h,zT];simp) (hp p (by simp))
 | p::p2::r,[q],_,_,_,hq,h=>by
  rw [join_one] at h
  exact absurd (by rw [←h,zT];simp) (hq q (by simp))
 | p::p2::r,q::q2::r',_,_,hp,hq,h=>by
  have e:=congrArg (fun z:Str=>z.cps.toList) h
  rw [zT,zT] at e
  obtain ⟨e1,e2⟩:=a1v (hp p (by simp)) (hq q (by simp)) e
  rw [mK e1,a1n c (p2::r) (q2::r') (by simp) (by simp) (fun x hx=>hp x (List.mem_cons_of_mem _ hx)) (fun x hx=>hq x (List.mem_cons_of_mem _ hx)) (mK e2)]
theorem lT (x y:Str):Txt.split x y≠[]:=by
 unfold Txt.split
 split
 ·simp
 ·split
  ·simp
  ·rw [StrLaws.partsBetween_eq]
   obtain ⟨p,r,e⟩:=StrLaws.partsFrom_ne x y.length 0 (Builtin.Str.occurrences x y 0 x.length (x.length+1))
   rw [e];simp
theorem a0F {c:Nat} {x:Str} {ps:List Str} (h:Str.join ⟨#[c]⟩ ps=x) (ne:ps≠[]) (hf:∀ p∈ps,c∉p.cps.toList):Txt.split x ⟨#[c]⟩=ps:=
 a1n c _ _ (lT _ _) ne (StrLaws.split_free x c) hf (by rw [StrLaws.join_split,h])
theorem xN (c:Str):∀ (ps:List Str),∀ p∈ps,p.length≤(Str.join c ps).length
 | [],_,h=>nomatch h
 | [x],p,h=>by rw [List.mem_singleton.mp h];exact Nat.le_refl _
 | x::y::r,p,h=>by
  rw [eA,strLen_append,strLen_append]
  rcases List.mem_cons.mp h with rfl | h
  ·omega
  ·have:=xN c (y::r) p h;omega
theorem xO (c:Nat):∀ (ps:List Str),ps.length≤(Str.join ⟨#[c]⟩ ps).length+1
 | []=>Nat.zero_le _
 | [x]=>by simp
 | x::y::r=>by
  have:=xO c (y::r)
  have e:(⟨#[c]⟩:Str).length=1:=rfl
  rw [eA,strLen_append,strLen_append,e,List.length_cons]
  omega
theorem split_len (x:Str) (c:Nat):(Txt.split x ⟨#[c]⟩).length≤x.length+1:=by
 have:=xO c (Txt.split x ⟨#[c]⟩)
 rwa [StrLaws.join_split] at this
theorem nW {x y p:Str} (h:p∈Txt.split x y):p.length≤x.length:=by
 have:=xN y _ p h
 rwa [StrLaws.join_split] at this
theorem b0U:Str.ofString " " = ⟨#[32]⟩:=by decide +kernel
theorem b1c:Str.ofString "\n" = ⟨#[10]⟩:=by decide +kernel
theorem a6j {x:Str} {c:Nat} (h:x.length≤10000):a0G (.str x) (.str ⟨#[c]⟩)=some (.list ((Txt.split x ⟨#[c]⟩).map .str)):=by
 have l:=split_len x c
 show (if ((⟨#[c]⟩:Str).length != 0&&cG x.length&&cG (Txt.split x ⟨#[c]⟩).length)=true then _ else none)=_
 rw [if_pos]
 rw [Bool.and_eq_true,Bool.and_eq_true]
 exact ⟨⟨rfl,by unfold cG;exact decide_eq_true (by omega)⟩,by unfold cG;exact decide_eq_true (by omega)⟩
abbrev sp:Str:=⟨#[32]⟩
abbrev nl:Str:=⟨#[10]⟩
def lK (t:Str):PyData:=((mom t).map PyData.int).getD .none
def fY (ps:List Str):PyData:=.tuple ((ps.take 1).map .str++(ps.drop 1).map lK)
theorem b3k {l:Str} (hl:l.length≤10000):pT [.str l,.dict gJ]=some (.ok (fY (Txt.split l sp))):=by
 have ln:=split_len l 32
 refine bL rfl ?_
 show uW [.val (.str l),.val (.dict gJ),.no]=_
 unfold uW
 rw [aO (ρ':=[.val (.str l),.val (.dict gJ),.val (.list ((Txt.split l sp).map .str))]) (by
  rw [eG]
  unfold dfE
  show bns (lft (a0G (.str l) (.str (Str.ofString " ")))) _ _=_
  rw [b0U,a6j hl];rfl)]
 generalize Txt.split l sp=ps at ln
 have d1:slE (var 2) (fM (cst (.int 1))) gI [.val (.str l),.val (.dict gJ),.val (.list (ps.map .str))]=some (.ok (.list ((ps.drop 1).map .str))):=by
  show lft (some (PyData.list (cutD (ps.map .str) (some 1) none)))=_
  rw [a5r _ (by decide),List.map_drop];rfl
 have d2:slE (var 2) gI (fM (cst (.int 1))) [.val (.str l),.val (.dict gJ),.val (.list (ps.map .str))]=some (.ok (.list ((ps.take 1).map .str))):=by
  show lft (some (PyData.list (cutD (ps.map .str) none (some 1))))=_
  rw [a5q _ (by decide),List.map_take];rfl
 have k1:qG [.val (.str l),.val (.dict gJ),.val (.list (ps.map .str))]=some (.ok (.list ((ps.drop 1).map lK))):=
  cW PyData.str (fun t=>[.val (.str t),.val (.dict gJ)]) lK (ps.drop 1) (sL d1 rfl) (by rw [List.length_drop];omega) (fun t _=>by simp [dD]) (fun t _=>by
   show lft (some ((fN (.inr t) gJ).getD .none))=_
   rw [a7m];rfl)
 have ad:op2 cZ (slE (var 2) gI (fM (cst (.int 1)))) qG [.val (.str l),.val (.dict gJ),.val (.list (ps.map .str))]=some (.ok (.list ((ps.take 1).map .str++(ps.drop 1).map lK))):=by
  rw [a0X,d2,dU,k1,dU,b3L,if_pos (by rw [List.length_map,List.length_map,List.length_take,List.length_drop];omega)];rfl
 rw [fL,jX (ds:=[.list ((ps.take 1).map .str++(ps.drop 1).map lK)]) (by rw [dL,ad];rfl) (b0Q _)];rfl
def jF (t:Str):List PyData:=(Txt.split t nl).dropLast.map fun l=>fY (Txt.split l sp)
theorem a8s (ds:List PyData):cutD ds none (some (-1))=ds.dropLast:=by
 unfold cutD
 rw [List.dropLast_eq_take]
 show ((ds.drop 0).take ((-1+(ds.length:Int)).toNat - 0))=_
 rw [List.drop_zero,Nat.sub_zero,show (-1+(ds.length:Int)).toNat=ds.length - 1 by omega]
theorem a9X {ds:List PyData} (h:ds≠[]):atI ds (-1)=some (ds.getLast h):=by
 conv=>lhs;rw [←List.dropLast_concat_getLast h]
 exact a8L _ _
theorem a2R {t:Str} (ht:t.length≤10000) {b:Bool} (hb:cA [.tuple (jF t)]=some (.ok (.bool b))):gE [.str t] =
  if (Txt.split t nl).getLast (lT _ _)=Str.empty∧b=true then some (.ok (.tuple (jF t))) else some (.ex "NoText"):=by
 have ln:(Txt.split t nl).length≤t.length+1:=split_len t 10
 have ne:=lT t nl
 have s1:ifS a0C (tW "NoText") fG [.val (.str t),.no,.no,.no]=some (.nx [.val (.str t),.no,.no,.no]):=rfl
 have s2:dO 1 (dF rY (aB pD aF)) [.val (.str t),.no,.no,.no]=some (.nx [.val (.str t),.val (.dict gJ),.no,.no]):=by rw [eG,b3l];rfl
 have s3:dO 2 (dfE a0G (var 0) (cst (.str "\n"))) [.val (.str t),.val (.dict gJ),.no,.no]=some (.nx [.val (.str t),.val (.dict gJ),.val (.list ((Txt.split t nl).map .str)),.no]):=by
  rw [eG]
  unfold dfE
  show bns (lft (a0G (.str t) (.str (Str.ofString "\n")))) _ _=_
  rw [b1c,a6j ht];rfl
 have d1:slE (var 2) gI (fM (op1 nA (cst (.int 1)))) [.val (.str t),.val (.dict gJ),.val (.list ((Txt.split t nl).map .str)),.no]=some (.ok (.list ((Txt.split t nl).dropLast.map .str))):=by
  show lft (some (PyData.list (cutD ((Txt.split t nl).map .str) none (some (-1)))))=_
  rw [a8s,←List.map_dropLast];rfl
 have k2:uK [.val (.str t),.val (.dict gJ),.val (.list ((Txt.split t nl).map .str)),.no]=some (.ok (.list (jF t))):=
  cW PyData.str (fun l=>[.val (.str l),.val (.dict gJ)]) (fun l=>fY (Txt.split l sp)) (Txt.split t nl).dropLast (sL d1 rfl) (by rw [List.length_dropLast];omega) (fun l _=>by simp [dD]) (fun l hl=>by
   have:=nW (List.dropLast_subset _ hl)
   exact bH (ds:=[.str l,.dict gJ]) rfl (b3k (by omega)))
 have s4:dO 3 (dF yL (aB uK aF)) [.val (.str t),.val (.dict gJ),.val (.list ((Txt.split t nl).map .str)),.no]=some (.nx [.val (.str t),.val (.dict gJ),.val (.list ((Txt.split t nl).map .str)),.val (.tuple (jF t))]):=by
  rw [eG,jX (ds:=[.list (jF t)]) (by rw [dL,k2];rfl) (b0Q _)];rfl
 have l1:op2 ixD (var 2) (op1 nA (cst (.int 1))) [.val (.str t),.val (.dict gJ),.val (.list ((Txt.split t nl).map .str)),.val (.tuple (jF t))]=some (.ok (.str ((Txt.split t nl).getLast ne))):=by
  show lft (atI ((Txt.split t nl).map PyData.str) (-1))=_
  rw [a9X (by simpa using ne),List.getLast_map];rfl
 have t2:tF [.val (.str t),.val (.dict gJ),.val (.list ((Txt.split t nl).map .str)),.val (.tuple (jF t))]=some (.ok (!(decide ((Txt.split t nl).getLast ne=Str.empty)&&b))):=by
  rw [show tF=orT _ _ from rfl,b1b,b0I (x:=.str ((Txt.split t nl).getLast ne)) (y:=.str "") l1 rfl (b4C _ _),dU]
  have z:hV (gG (aU cA (aB (var 3) aF))) [.val (.str t),.val (.dict gJ),.val (.list ((Txt.split t nl).map .str)),.val (.tuple (jF t))]=some (.ok (!b)):=by
   show bnd (bnd (aU cA (aB (var 3) aF) _) _) _=_
   rw [bH (ds:=[.tuple (jF t)]) rfl hb];rfl
  rw [z]
  rw [show (Str.ofString "")=Str.empty from by decide +kernel]
  by_cases c:(Txt.split t nl).getLast ne=Str.empty
  ·rw [decide_eq_true c];rfl
  ·rw [decide_eq_false c];rfl
 have fin:gE [.str t]=vU 4 1 mU [.str t]:=rfl
 by_cases c:(Txt.split t nl).getLast ne=Str.empty∧b=true
 ·rw [if_pos c]
  refine a9f rfl ?_
  show mU [.val (.str t),.no,.no,.no]=_
  unfold mU
  rw [aO s1,aO s2,aO s3,aO s4,aO (by rw [gO,t2,decide_eq_true c.1,c.2];rfl)];rfl
 ·rw [if_neg c]
  refine a9g (ρ:=[.val (.str t),.val (.dict gJ),.val (.list ((Txt.split t nl).map .str)),.val (.tuple (jF t))]) rfl ?_
  show mU [.val (.str t),.no,.no,.no]=_
  unfold mU
  rw [aO s1,aO s2,aO s3,aO s4]
  have c':(!(decide ((Txt.split t nl).getLast ne=Str.empty)&&b))=true:=by
   cases b with
   | false=>simp
   | true=>simpa using fun z=>c ⟨z,rfl⟩
  exact a9e (by rw [gO,t2,c'];rfl)
def nmB (z:Str):Bool:=decide (1≤z.length)&&decide (z.length≤4)&&(lettersOf z).all fun l=>bP "a" l&&bP l "z"
theorem a0c {z:Str} (hz:z.length≤100000):eQ [.str z]=some (.ok (.bool (nmB z))):=by
 have t1:nV [.val (.str z)]=some (.ok (!(decide (1≤z.length)&&decide (z.length≤4)))):=by
  have e:nV [.val (.str z)]=bnd (bnd (some (.ok (decide ((1:Int)≤(z.length:Nat))))) fun t=>if t then some (.ok (decide (((z.length:Nat):Int)≤4))) else some (.ok false)) fun t=>some (.ok (!t)):=by
   have q:dF nB (aB (var 0) aF) [.val (.str z)]=some (.ok (.int (z.length:Nat))):=by
    show lft (if cG z.length=true then some (PyData.int (z.length:Nat)) else none)=_
    rw [if_pos (by unfold cG;exact decide_eq_true hz)];rfl
   show bnd (bnd (dF nB (aB (var 0) aF) [.val (.str z)]) _) _=_
   rw [q];rfl
  rw [e]
  have q1:decide ((1:Int)≤(z.length:Nat))=decide (1≤z.length):=by by_cases c:1≤z.length<;>simp [c]<;>omega
  have q2:decide (((z.length:Nat):Int)≤4)=decide (z.length≤4):=by by_cases c:z.length≤4<;>simp [c]<;>omega
  rw [q1,q2]
  by_cases c:1≤z.length<;>simp [c]
 refine bL rfl ?_
 show qM [.val (.str z)]=_
 unfold qM nmB
 cases hc:(decide (1≤z.length)&&decide (z.length≤4)) with
 | false=>
  rw [hc] at t1
  refine (kN (d:=.bool false) (by rw [gO,t1];rfl)).trans ?_
  rfl
 | true=>
  rw [hc] at t1
  rw [aO (ρ':=[.val (.str z)]) (by rw [gO,t1];rfl)]
  have hl:z.length≤4:=by rw [Bool.and_eq_true,decide_eq_true_eq,decide_eq_true_eq] at hc;exact hc.2
  have k1:uN [.val (.str z)]=some (.ok (.list (((lettersOf z).map fun l=>bP "a" l&&bP l "z").map .bool))):=by
   rw [List.map_map]
   refine cW PyData.str (fun l=>[.val (.str l)]) _ (lettersOf z) rfl (by unfold lettersOf;rw [List.length_map,Array.length_toList];exact Nat.le_trans hl (by decide)) (fun l _=>by simp [dD]) (fun l _=>?_)
   have e:a5t leD leD (cst (.str "a")) (var 0) (cst (.str "z")) [.val (.str l)]=bnd (some (.ok (bP "a" l))) fun t=>if t then some (.ok (.bool (bP l "z"))) else some (.ok (.bool false)):=rfl
   rw [e,dU]
   show _=some (Re.ok (PyData.bool (bP "a" l&&bP l "z")))
   cases bP "a" l<;>rfl
  rw [fL,jX (ds:=[.list (((lettersOf z).map fun l=>bP "a" l&&bP l "z").map .bool)]) (by rw [dL,k1];rfl) (all_bools _),yA,List.all_map]
  rfl
theorem iS {z:Str} (h:nmB z=true):z.length≤4∧∀ c∈z.cps.toList,97≤c∧c≤122:=by
 unfold nmB at h
 rw [Bool.and_eq_true,Bool.and_eq_true,decide_eq_true_eq,decide_eq_true_eq] at h
 refine ⟨h.1.2,fun c hc=>?_⟩
 have:=List.all_eq_true.mp h.2 ⟨#[c]⟩ (List.mem_map.mpr ⟨c,hc,rfl⟩)
 rw [Bool.and_eq_true] at this
 obtain ⟨h1,h2⟩:=this
 have e1:(Str.ofString "a").cps.toList=[97]:=by decide +kernel
 have e2:(Str.ofString "z").cps.toList=[122]:=by decide +kernel
 unfold bP at h1 h2
 rw [e1] at h1
 rw [e2] at h2
 have h1:¬([c]<[97]):=by simpa using h1
 have h2:¬([122]<[c]):=by simpa using h2
 constructor
 ·refine Nat.le_of_not_lt fun z=>h1 ?_
  exact List.Lex.rel z
 ·refine Nat.le_of_not_lt fun z=>h2 ?_
  exact List.Lex.rel z
theorem a3B {z:Str} (h:nmB z=true):PyData.strOk z=true:=by
 have h2:=(iS h).2
 unfold PyData.strOk
 rw [←Array.all_toList]
 rw [List.all_eq_true]
 intro c hc
 have:=h2 c hc
 exact decide_eq_true (by omega)
def mtP (ps:List Str):Option Mt:=match ps with
 | [a,b,c]=>if nmB a then (match mom b,mom c with | some x,some y=>if tmB x y then some (a,x,y) else none | _,_=>none) else none
 | _=>none
theorem a8d (b c:Str):dW [lK b,lK c]=some (.ok (.bool (match mom b,mom c with | some x,some y=>tmB x y | _,_=>false))):=by
 unfold lK
 cases mom b with
 | none=>
  cases mom c with
  | none=>kernel_rfl
  | some y=>exact bL rfl rfl
 | some x=>
  cases mom c with
  | none=>exact bL rfl rfl
  | some y=>exact a8e x y
theorem a2S {ps:List Str} (ne:ps≠[]) (hp:∀ p∈ps,p.length≤10000):fU [fY ps]=some (.ok (.bool (mtP ps).isSome)):=by
 have ln:((ps.take 1).map PyData.str++(ps.drop 1).map lK).length=ps.length:=by rw [List.length_append,List.length_map,List.length_map,List.length_take,List.length_drop];omega
 have t1:jM [.val (fY ps)]=some (.ok (decide (ps.length≠3))):=by
  have e:jM [.val (fY ps)]=some (.ok (!decide (((((ps.take 1).map PyData.str++(ps.drop 1).map lK).length:Nat):Int)=3))):=rfl
  rw [e,ln]
  by_cases c:ps.length=3<;>simp [c]<;>omega
 refine bL rfl ?_
 show fP [.val (fY ps)]=_
 unfold fP
 by_cases c:ps.length=3
 ·rw [aO (ρ':=[.val (fY ps)]) (by rw [gO,t1,decide_eq_false (by simpa using c)];rfl)]
  match ps,c with
  | [a,b,c],_=>
   have n:=bH (F:=eQ) (aa:=aB (op2 ixD (var 0) (cst (.int 0))) aF) (ρ:=[.val (fY [a,b,c])]) (ds:=[.str a]) rfl (a0c (Nat.le_trans (hp a (by simp)) (by decide)))
   have w:=bH (F:=dW) (aa:=aB (op2 ixD (var 0) (cst (.int 1))) (aB (op2 ixD (var 0) (cst (.int 2))) aF)) (ρ:=[.val (fY [a,b,c])]) (ds:=[lK b,lK c]) rfl (a8d b c)
   rw [fL]
   have an:qZ (aU eQ (aB (op2 ixD (var 0) (cst (.int 0))) aF)) (aU dW (aB (op2 ixD (var 0) (cst (.int 1))) (aB (op2 ixD (var 0) (cst (.int 2))) aF))) [.val (fY [a,b,c])]=some (.ok (.bool (mtP [a,b,c]).isSome)):=by
    have em:mtP [a,b,c]=if nmB a then (match mom b,mom c with | some x,some y=>if tmB x y then some (a,x,y) else none | _,_=>none) else none:=rfl
    rw [b3K,n,dU,em]
    cases nmB a with
    | false=>rfl
    | true=>
     rw [show lft (kG (.bool true))=some (.ok true) from rfl,dU,if_pos rfl,w]
     cases mom b with
     | none=>rfl
     | some x=>
      cases mom c with
      | none=>rfl
      | some y=>
       dsimp only
       cases tmB x y<;>rfl
   rw [an];rfl
 ·refine (kN (d:=.bool false) (by rw [gO,t1,decide_eq_true c];rfl)).trans ?_
  have:mtP ps=none:=by
   unfold mtP
   split
   ·exact absurd rfl c
   ·rfl
  rw [this];rfl
def lineOf (m:Mt):Str:=Str.join sp [m.1,mtx m.2.1,mtx m.2.2]
theorem b2C {ps:List Str} {m:Mt} (h:mtP ps=some m):fY ps=dM m∧MtOk m∧nmB m.1=true∧Str.join sp ps=lineOf m:=by
 unfold mtP at h
 split at h
 ·rename_i a b c
  split at h
  ·rename_i ha
   split at h
   ·rename_i x y hx hy
    split at h
    ·rename_i ht
     cases h
     obtain ⟨x1,x2,x3⟩:=a7d hx
     obtain ⟨y1,y2,y3⟩:=a7d hy
     have tt:=a8U.mp ht
     refine ⟨?_,⟨by rw [a0c (Nat.le_trans (iS ha).1 (by decide)),ha],a3B ha,tt⟩,ha,?_⟩
     ·show PyData.tuple [.str a,lK b,lK c]=.tuple [.str a,.int x,.int y]
      unfold lK
      rw [hx,hy];rfl
     ·unfold lineOf
      rw [x3,y3]
    ·cases h
   ·cases h
  ·cases h
 ·cases h
theorem a0P:∀ (L:List (List Str)),(∀ ps∈L,(mtP ps).isSome=true)→∃ s:List Mt,L.map mtP=s.map some
 | [],_=>⟨[],rfl⟩
 | ps::L,h=>by
  obtain ⟨s,e⟩:=a0P L fun x hx=>h x (List.mem_cons_of_mem _ hx)
  obtain ⟨m,hm⟩:=Option.isSome_iff_exists.mp (h ps (by simp))
  exact ⟨m::s,by rw [List.map_cons,List.map_cons,e,hm]⟩
theorem a1b:∀ {L:List (List Str)} {s:List Mt},L.map mtP=s.map some→L.map fY=s.map dM∧(∀ m∈s,MtOk m∧nmB m.1=true)∧L.map (Str.join sp)=s.map lineOf
 | [],[],_=>⟨rfl,(fun _ h=>nomatch h),rfl⟩
 | [],_::_,h=>by simp at h
 | _::_,[],h=>by simp at h
 | ps::L,m::s,h=>by
  rw [List.map_cons,List.map_cons,List.cons.injEq] at h
  obtain ⟨a,b,c⟩:=a1b h.2
  obtain ⟨d,e,f,g⟩:=b2C h.1
  refine ⟨by rw [List.map_cons,List.map_cons,a,d],fun x hx=>?_,by rw [List.map_cons,List.map_cons,c,g]⟩
  rcases List.mem_cons.mp hx with rfl | hx
  ·exact ⟨e,f⟩
  ·exact b x hx
theorem a0a (L:List (List Str)) (hz:L.length≤10001) (hne:∀ ps∈L,ps≠[]) (hp:∀ ps∈L,∀ p∈ps,p.length≤10000):∃ b,cA [.tuple (L.map fY)]=some (.ok (.bool b))∧(b=true→∃ s:List Mt,s.length≤16∧L.map mtP=s.map some):=by
 have t1:lO [.val (.tuple (L.map fY))]=some (.ok (decide (16<L.length))):=by
  have e:lO [.val (.tuple (L.map fY))]=some (.ok (decide ((16:Int)<((L.map fY).length:Nat)))):=rfl
  rw [e,List.length_map]
  by_cases c:16<L.length<;>simp [c]<;>omega
 by_cases c:16<L.length
 ·refine ⟨false,bL rfl ?_,fun z=>by cases z⟩
  show eZ [.val (.tuple (L.map fY))]=_
  unfold eZ
  exact kN (by rw [gO,t1,decide_eq_true c];rfl)
 ·by_cases a:∀ ps∈L,(mtP ps).isSome=true
  ·obtain ⟨s,e⟩:=a0P L a
   obtain ⟨r1,r2,r3⟩:=a1b e
   have hl:L.length=s.length:=by have:=congrArg List.length e;simpa using this
   refine ⟨_,by rw [r1];exact oE s (by omega) fun m hm=>(r2 m hm).1,fun _=>⟨s,by omega,e⟩⟩
  ·refine ⟨false,bL rfl ?_,fun z=>by cases z⟩
   show eZ [.val (.tuple (L.map fY))]=_
   unfold eZ
   rw [aO (ρ':=[.val (.tuple (L.map fY))]) (by rw [gO,t1,decide_eq_false c];rfl)]
   have k1:gN [.val (.tuple (L.map fY))]=some (.ok (.list ((L.map fun ps=>(mtP ps).isSome).map .bool))):=by
    rw [List.map_map]
    exact cW fY (fun ps=>[.val (fY ps)]) _ L rfl (by omega) (fun ps _=>by simp [dD]) (fun ps hq=>bH (ds:=[fY ps]) rfl (a2S (hne ps hq) (hp ps hq)))
   have ha:(L.map fun ps=>(mtP ps).isSome).all id=false:=by
    rw [Bool.eq_false_iff]
    intro z
    rw [List.all_map,List.all_eq_true] at z
    exact a fun ps hp=>z ps hp
   have t2:lN [.val (.tuple (L.map fY))]=some (.ok true):=by
    show hV (gG (dF allB (aB gN aF))) _=_
    rw [a6X,a2e,a0q,dL,k1]
    simp only [dU,a0v,a3I,all_bools,ha,a2f,Bool.not_false]
   exact kN (by rw [gO,t2];rfl)
theorem a5u:∀ (xs:List Str) (a:Str),(lL a xs).cps.toList=a.cps.toList++(xs.map fun x=>x.cps.toList).flatten
 | [],a=>by simp [lL]
 | x::xs,a=>by
  show (lL (a++x) xs).cps.toList=_
  rw [a5u xs (a++x),dC,List.map_cons,List.flatten_cons,List.append_assoc]
def jI (m:Mt):Str:=lineOf m++nl
def txO (s:List Mt):Str:=lL Str.empty (s.map jI)
theorem a3j:∀ s:List Mt,txO s=Str.join nl (s.map lineOf++[Str.empty])
 | []=>rfl
 | m::s=>by
  refine mK ?_
  have ih:=congrArg (fun z:Str=>z.cps.toList) (a3j s)
  unfold txO at ih ⊢
  rw [a5u] at ih ⊢
  rw [List.map_cons,List.map_cons,List.flatten_cons,List.map_cons,List.cons_append]
  cases s with
  | nil=>
   show Str.empty.cps.toList++((jI m).cps.toList++[])=(Str.join nl (lineOf m::Str.empty::[])).cps.toList
   rw [eA,dC,dC,join_one]
   unfold jI
   rw [dC]
   simp [Str.empty]
  | cons m2 s=>
   have e:(m2::s).map lineOf++[Str.empty]=lineOf m2::(s.map lineOf++[Str.empty]):=rfl
   rw [e] at ih ⊢
   rw [eA,dC,dC,←ih]
   show Str.empty.cps.toList++((lineOf m++nl).cps.toList++_)=_
   rw [dC]
   rfl
structure WOk (m:Mt):Prop where
 nm:m.1.length≤4
 t1:0≤m.2.1∧m.2.1≤480
 t2:0≤m.2.2∧m.2.2≤480
theorem uH {m:Mt} (h:WOk m):(jI m).length≤17:=by
 have a:=(rF h.t1.1 h.t1.2).1
 have b:=(rF h.t2.1 h.t2.2).1
 have c:=h.nm
 have e1:(sp:Str).length=1:=rfl
 have e2:(nl:Str).length=1:=rfl
 unfold jI lineOf
 rw [strLen_append,eA,eA,join_one,strLen_append,strLen_append,strLen_append,strLen_append,e1,e2]
 omega
theorem a1J (B:Nat):∀ (xs:List Str) (a:Str),(∀ x∈xs,x.length≤B)→(lL a xs).length≤a.length+B*xs.length
 | [],a,_=>by simp [lL]
 | x::xs,a,h=>by
  have:=a1J B xs (a++x) fun y hy=>h y (List.mem_cons_of_mem _ hy)
  rw [strLen_append] at this
  have hx:=h x (by simp)
  show (lL (a++x) xs).length≤_
  rw [List.length_cons,Nat.mul_succ]
  omega
theorem a2a {s:List Mt} (h:∀ m∈s,WOk m):(txO s).length≤17*s.length:=by
 have:=a1J 17 (s.map jI) Str.empty fun x hx=>by obtain ⟨m,hm,rfl⟩:=List.mem_map.mp hx;exact uH (h m hm)
 have e:Str.empty.length=0:=rfl
 rw [e,List.length_map] at this
 unfold txO;omega
theorem b3m {m:Mt} (h:WOk m):mY [dM m]=some (.ok (.str (jI m))):=by
 have a:=(rF h.t1.1 h.t1.2).1
 have b:=(rF h.t2.1 h.t2.2).1
 have c:=h.nm
 have ll:=uH h
 have fm:∀ (z:Str),z.length≤100→mC (.str z)=some (.str z):=fun z hz=>by
  show (if cG z.length=true then some (PyData.str z) else none)=_
  rw [if_pos (by unfold cG;exact decide_eq_true (by omega))]
 refine bL rfl ?_
 show qL [.val (dM m),.no,.no,.no]=_
 unfold qL
 rw [aO (ρ':=[.val (dM m),.val (.str m.1),.no,.no]) rfl]
 rw [aO (ρ':=[.val (dM m),.val (.str m.1),.val (.str (mtx m.2.1)),.no]) (by rw [eG,bH (ds:=[.int m.2.1]) rfl (a8f h.t1.1 h.t1.2)];rfl)]
 rw [aO (ρ':=[.val (dM m),.val (.str m.1),.val (.str (mtx m.2.1)),.val (.str (mtx m.2.2))]) (by rw [eG,bH (ds:=[.int m.2.2]) rfl (a8f h.t2.1 h.t2.2)];rfl)]
 have a1:op1 mC (var 1) [.val (dM m),.val (.str m.1),.val (.str (mtx m.2.1)),.val (.str (mtx m.2.2))]=some (.ok (.str m.1)):=by
  show lft (mC (.str m.1))=_;rw [fm _ (by omega)];rfl
 have a2:op1 mC (var 2) [.val (dM m),.val (.str m.1),.val (.str (mtx m.2.1)),.val (.str (mtx m.2.2))]=some (.ok (.str (mtx m.2.1))):=by
  show lft (mC (.str (mtx m.2.1)))=_;rw [fm _ (by omega)];rfl
 have a3:op1 mC (var 3) [.val (dM m),.val (.str m.1),.val (.str (mtx m.2.1)),.val (.str (mtx m.2.2))]=some (.ok (.str (mtx m.2.2))):=by
  show lft (mC (.str (mtx m.2.2)))=_;rw [fm _ (by omega)];rfl
 have ec:lL Str.empty [m.1,Str.ofString " ", mtx m.2.1,Str.ofString " ", mtx m.2.2,Str.ofString "\n"]=jI m:=by
  refine mK ?_
  unfold jI lineOf
  rw [a5u,b0U,b1c,dC,eA,eA,join_one]
  simp only [dC,List.map_cons,List.map_nil,List.flatten_cons,List.flatten_nil,List.append_nil,List.append_assoc]
  rfl
 rw [fL]
 unfold jnE
 rw [bB a1 (bB rfl (bB a2 (bB rfl (bB a3 (bB rfl rfl)))))]
 show bns (if cG (lL Str.empty [m.1,Str.ofString " ", mtx m.2.1,Str.ofString " ", mtx m.2.2,Str.ofString "\n"]).length=true then some (Re.ok (PyData.str (lL Str.empty [m.1,Str.ofString " ", mtx m.2.1,Str.ofString " ", mtx m.2.2,Str.ofString "\n"]))) else none) _ _=_
 rw [ec,if_pos (by unfold cG;exact decide_eq_true (by omega))];rfl
theorem a1o:∀ (xs:List Str),Str.join Str.empty xs=lL Str.empty xs
 | []=>rfl
 | [x]=>by refine mK ?_;rw [a5u,join_one];simp;rfl
 | x::y::r=>by
  have ih:=congrArg (fun z:Str=>z.cps.toList) (a1o (y::r))
  refine mK ?_
  rw [a5u] at ih
  rw [eA,dC,dC,ih,a5u]
  simp [List.append_assoc]
  rfl
theorem a5k {s:List Mt} (h:∀ m∈s,WOk m) (hz:s.length≤100):kH [dS s]=some (.ok (.str (txO s))):=by
 refine bL rfl ?_
 show qK [.val (dS s)]=_
 have k1:uM [.val (dS s)]=some (.ok (.list ((s.map jI).map .str))):=by
  rw [List.map_map]
  exact cW dM (fun m=>[.val (dM m)]) _ s (by simp) (by omega) (fun m _=>by simp [dD]) (fun m hm=>bH (ds:=[dM m]) rfl (b3m (h m hm)))
 have jo:JoinOk Str.empty (s.map jI)=true:=by
  unfold JoinOk
  rw [StrLaws.joinFits (B:=17) (fun y hy=>by obtain ⟨m,hm,rfl⟩:=List.mem_map.mp hy;exact uH (h m hm)) (by
   have e:Str.empty.length=0:=rfl
   rw [List.length_map,e];omega)];rfl
 unfold qK
 rw [fL]
 unfold dfE
 rw [k1]
 show bns (lft (a5c (.str (Str.ofString "")) (.list ((s.map jI).map .str)))) _ _=_
 have ej:a5c (.str (Str.ofString "")) (.list ((s.map jI).map .str))=some (.str (txO s)):=by
  unfold a5c
  dsimp only
  rw [gS (g:=.str) (fun _=>rfl) (s.map jI)]
  dsimp only
  rw [show Str.ofString "" = Str.empty from by decide +kernel,if_pos jo]
  unfold Txt.join
  rw [StrLaws.glued_eq_join,a1o];rfl
 rw [ej];rfl
theorem xK {m:Mt} (hn:nmB m.1=true) (h:WOk m):(∀ p∈[m.1,mtx m.2.1,mtx m.2.2],32∉p.cps.toList)∧10∉(lineOf m).cps.toList:=by
 have n:=(iS hn).2
 have a:=(rF h.t1.1 h.t1.2).2.2
 have b:=(rF h.t2.1 h.t2.2).2.2
 refine ⟨fun p hp z=>?_,fun z=>?_⟩
 ·have:p=m.1∨p=mtx m.2.1∨p=mtx m.2.2:=by simpa using hp
  rcases this with rfl | rfl | rfl
  ·have:=n _ z;omega
  ·exact (a _ z).1 rfl
  ·exact (b _ z).1 rfl
 ·unfold lineOf at z
  rw [eA,eA,join_one,dC,dC,dC,dC] at z
  simp only [List.mem_append] at z
  rcases z with (z | z) | (z | z) | z
  ·have:=n _ z;omega
  ·have:(10:Nat)∈[32]:=z
   simp at this
  ·exact (a _ z).2.1 rfl
  ·have:(10:Nat)∈[32]:=z
   simp at this
  ·exact (b _ z).2.1 rfl
theorem tH {s:List Mt} (hn:∀ m∈s,nmB m.1=true) (h:∀ m∈s,WOk m):Txt.split (txO s) nl=s.map lineOf++[Str.empty]:=by
 refine a0F (a3j s).symm (by simp) fun p hp=>?_
 rcases List.mem_append.mp hp with hp | hp
 ·obtain ⟨m,hm,rfl⟩:=List.mem_map.mp hp
  exact (xK (hn m hm) (h m hm)).2
 ·rw [List.mem_singleton.mp hp];simp [Str.empty]
theorem qD {s:List Mt} (hn:∀ m∈s,nmB m.1=true) (h:∀ m∈s,WOk m):jF (txO s)=s.map dM:=by
 unfold jF
 rw [tH hn h,List.dropLast_concat,List.map_map]
 refine List.map_congr_left fun m hm=>?_
 show fY (Txt.split (lineOf m) sp)=dM m
 rw [show Txt.split (lineOf m) sp=[m.1,mtx m.2.1,mtx m.2.2] from a0F (c:=32) rfl (by simp) (xK (hn m hm) (h m hm)).1]
 show PyData.tuple [.str m.1,lK (mtx m.2.1),lK (mtx m.2.2)]=_
 unfold lK
 rw [a3F (h m hm).t1.1 (h m hm).t1.2,a3F (h m hm).t2.1 (h m hm).t2.2];rfl
theorem rX {s:List Mt} (hn:∀ m∈s,nmB m.1=true) (h:∀ m∈s,WOk m) (hz:s.length≤100) (hs:cA [dS s]=some (.ok (.bool true))):gE [.str (txO s)]=some (.ok (dS s)):=by
 have l:=a2a h
 have e:=a2R (t:=txO s) (by omega) (b:=true) (by rw [qD hn h];exact hs)
 rw [e,if_pos,qD hn h]
 refine ⟨?_,rfl⟩
 have g:∀ (L:List Str) (hL:L≠[]),L=s.map lineOf++[Str.empty]→L.getLast hL=Str.empty:=fun L hL e=>by subst e;simp
 exact g _ _ (tH hn h)
theorem a8t (x:Str) (lo hi:Option Int):(qW x lo hi).length≤x.length:=by
 unfold qW
 split
 ·exact Nat.le_refl _
 ·show ((Builtin.Str.strSliceIndices lo hi 1 x.length).filterMap (x.cps[·]?)).toArray.size≤_
  rw [List.size_toArray]
  refine Nat.le_trans (List.length_filterMap_le _ _) ?_
  unfold Builtin.Str.strSliceIndices sliceRange
  rw [List.length_map,List.length_range]
  dsimp only
  cases lo with
  | none=>
   cases hi with
   | none=>simp;split<;>omega
   | some j=>simp;split<;>split<;>omega
  | some i=>
   cases hi with
   | none=>simp;split<;>split<;>omega
   | some j=>simp;split<;>split<;>split<;>omega
end L2.L3
namespace L2.L3
open PySem
theorem a6n (l:List (Int×Int)):∀ d∈l.map dP,cH [true,true] d=true:=fun d hd=>by
 obtain ⟨q,_,rfl⟩:=List.mem_map.mp hd
 rfl
end L2.L3
namespace L2.L3
open PySem
end L2.L3
namespace L2.L3
open PySem
abbrev lJ:SF:=mD 1 (var 2)
def jA:SF:=(aW (vW 1 aF) (aW (a5f (.nm 2) (fF (var 0)) lJ) (a1u 1 (retS (dF yL (aB (var 1) aF))))))
def fW:List PyData→Mm PyData:=cU 3 1 jA
abbrev uO:EF:=cF (.tp [0,1,2]) [none,none,none,some 1,some 2] (fF (var 0)) ttT (oG ltD (dF a7i (aB (var 1) (aB (var 3) aF))) (dF a9S (aB (var 2) (aB (var 4) aF))))
def qN:SF:=(retS (dF anyB (aB uO aF)))
def kI:List PyData→Mm PyData:=cU 3 3 qN
abbrev uP:EF:=cF (.nm 0) [none,some 1,some 2] (fF (var 0)) (gG (aU kI (aB (var 0) (aB (var 1) (aB (op2 cZ (var 1) (var 2)) aF))))) (var 0)
def qO:SF:=(retS (dF nB (aB uP aF)))
def fE:List PyData→Mm PyData:=cU 3 3 qO
abbrev pE:EF:=cF (.tp [0,1,2]) [none,none,none,some 1] (fF (aU fW (aB (var 0) aF))) (fH gtD (var 2) (var 3)) (var 2)
abbrev pC:EF:=cF (.nm 0) [none,some 2,some 3] (fF (op2 cZ (eY (aB (var 1) aF)) (var 4))) (fH leD (op2 cZ (var 0) (var 2)) (var 1)) (var 0)
abbrev pB:EF:=cF (.nm 0) [none,some 0,some 3] (fF (var 5)) ttT (aK (aB (aU fE (aB (var 1) (aB (var 0) (aB (var 2) aF)))) (aB (var 0) aF)))
def gP:SF:=(aW (dO 4 pE) (aW (dO 5 pC) (aW (dO 6 (dF a6i (aB pB aF))) (retS (ifE (gG (var 6)) (aK (aB (op2 ixD (op2 ixD (var 6) (cst (.int 0))) (cst (.int 1))) (aB (op2 ixD (op2 ixD (var 6) (cst (.int 0))) (cst (.int 0))) aF))) (cst .none))))))
def cR:List PyData→Mm PyData:=cU 7 4 gP
abbrev dSs (Ss:List (List Mt)):PyData:=.list (Ss.map dS)
structure ShsOk (Ss:List (List Mt)):Prop where
 few:Ss.length≤4
 each:∀ s∈Ss,s.length≤5
 str:∀ s∈Ss,∀ m∈s,PyData.strOk m.1=true
theorem uV:∀ (Ss:List (List Mt)),(∀ s∈Ss,s.length≤5)→Ss.flatten.length≤5*Ss.length
 | [],_=>by simp
 | s::Ss,h=>by
  have:=uV Ss fun x hx=>h x (List.mem_cons_of_mem _ hx)
  have:=h s (by simp)
  rw [List.flatten_cons,List.length_append,List.length_cons]
  omega
theorem ShsOk.flat {Ss:List (List Mt)} (O:ShsOk Ss):Ss.flatten.length≤20:=by
 have:=uV Ss O.each
 have:=O.few
 omega
theorem b4R {Ss:List (List Mt)} (O:ShsOk Ss):fW [dSs Ss]=some (.ok (dS Ss.flatten)):=by
 refine bL rfl ?_
 show jA [.val (dSs Ss),.no,.no]=_
 unfold jA
 rw [aO (ρ':=[.val (dSs Ss),.lst [],.no]) (by simp)]
 have fl:=O.flat
 obtain ⟨ρ',e1,x,e2⟩:=xH (t:=.nm 2) (fb:=lJ) dS (fun i ρ=>∃ x,ρ=[.val (dSs Ss),.lst ((Ss.take i).flatten.map dM),x]) Ss 0 [.val (dSs Ss),.lst [],.no] ⟨_,rfl⟩ (fun j s ρ hj ⟨x,ez⟩=>by
  subst ez
  have tk:Ss.take (0+j+1)=Ss.take (0+j)++[s]:=by rw [Nat.zero_add,List.take_add_one,hj];rfl
  have hs:=O.each s (List.mem_of_getElem? hj)
  have hl:(Ss.take (0+j)).flatten.length≤20:=by
   have:=uV (Ss.take (0+j)) fun s hs=>O.each s (List.mem_of_mem_take hs)
   have:=O.few
   have h2:(Ss.take (0+j)).length≤4:=by rw [List.length_take];omega
   omega
  rw [tk,List.flatten_append]
  generalize (Ss.take (0+j)).flatten=A at hl
  refine ⟨[.val (dSs Ss),.lst (A.map dM),.val (dS s)],[.val (dSs Ss),.lst ((A++[s].flatten).map dM),.val (dS s)],rfl,.inl ?_,_,rfl⟩
  show mD 1 (var 2) _=_
  rw [b0m (ds:=A.map dM) (es:=s.map dM) (d:=dS s) rfl rfl rfl (by rw [List.length_map,List.length_map];omega)]
  simp)
 rw [Nat.zero_add,List.take_length] at e2
 subst e2
 rw [aO (ρ':=[.val (dSs Ss),.lst (Ss.flatten.map dM),x]) (by rw [b3g,a8J (a:=Ss.map dS) (by simp)];exact e1)]
 rfl
def bz (s:List Mt) (m e:Int):Bool:=s.any fun x=>decide (max x.2.1 m<min x.2.2 e)
theorem a5m {s:List Mt} (hz:s.length≤100) (m e:Int):kI [dS s,.int m,.int e]=some (.ok (.bool (bz s m e))):=by
 refine bL rfl ?_
 show qN [.val (dS s),.val (.int m),.val (.int e)]=_
 have k1:uO [.val (dS s),.val (.int m),.val (.int e)]=some (.ok (.list ((s.map fun x=>decide (max x.2.1 m<min x.2.2 e)).map .bool))):=by
  rw [List.map_map]
  exact cW dM (fun x=>[.val (.str x.1),.val (.int x.2.1),.val (.int x.2.2),.val (.int m),.val (.int e)]) (fun x=>.bool (decide (max x.2.1 m<min x.2.2 e))) s (by simp) (by omega) (fun x _=>by simp [dD]) (fun x _=>by simp)
 unfold qN
 rw [fL,jX (ds:=[.list ((s.map fun x=>decide (max x.2.1 m<min x.2.2 e)).map .bool)]) (by rw [dL,k1];rfl) (any_bools _),yA]
 unfold bz
 rw [List.any_map]
 rfl
def cnt (Ss:List (List Mt)) (m z:Int):Int:=((Ss.filter fun s=>bz s m (m+z)).length:Nat)
theorem qP {Ss:List (List Mt)} (O:ShsOk Ss) (m z:Int):fE [dSs Ss,.int m,.int z]=some (.ok (.int (cnt Ss m z))):=by
 refine bL rfl ?_
 show qO [.val (dSs Ss),.val (.int m),.val (.int z)]=_
 have few:=O.few
 have k1:uP [.val (dSs Ss),.val (.int m),.val (.int z)]=some (.ok (.list ((Ss.filter fun s=>bz s m (m+z)).map dS))):=
  mW dS (fun s=>[.val (dS s),.val (.int m),.val (.int z)]) (fun s=>bz s m (m+z)) dS Ss (by simp) (by omega) (fun s _=>by simp [dD]) (fun s hs=>by
   show gG (aU kI _) _=_
   rw [a2e,bH (ds:=[dS s,.int m,.int (m+z)]) (by simp) (a5m (by have:=O.each s hs;omega) m (m+z)),dU,a2f];rfl) (fun s _ _=>by simp)
 unfold qO
 rw [fL,jX (ds:=[.list ((Ss.filter fun s=>bz s m (m+z)).map dS)]) (by rw [dL,k1];rfl) (b1e _),yA,List.length_map]
 rfl
theorem a8u {Ss:List (List Mt)} {m z:Int} (hz:0<z) (h:cnt Ss m z<cnt Ss (m - 1) z):∃ x∈Ss.flatten,x.2.2=m:=by
 apply Classical.byContradiction
 intro hn
 have hle:cnt Ss (m - 1) z≤cnt Ss m z:=by
  unfold cnt
  have:=sO (p:=fun s=>bz s (m - 1) (m - 1+z)) (q:=fun s=>bz s m (m+z)) Ss fun s hs hb=>by
   unfold bz at hb ⊢
   rw [List.any_eq_true] at hb ⊢
   obtain ⟨x,hx,hd⟩:=hb
   have hd:=of_decide_eq_true hd
   have hne:x.2.2≠m:=fun e=>hn ⟨x,List.mem_flatten.mpr ⟨s,hs,hx⟩,e⟩
   exact ⟨x,hx,decide_eq_true (by omega)⟩
  omega
 omega
end L2.L3
namespace L2.L3
open PySem
def eK (Ss:List (List Mt)) (b e z:Int):List Int:=([b]++(Ss.flatten.filter fun x=>decide (b<x.2.2)).map (·.2.2)).filter fun t=>decide (t+z≤e)
theorem a8C {Ss:List (List Mt)} (O:ShsOk Ss) (b e z:Int):(eK Ss b e z).length≤21:=by
 unfold eK
 refine Nat.le_trans (List.length_filter_le _ _) ?_
 rw [List.length_append,List.length_map]
 have:=List.length_filter_le (fun x:Mt=>decide (b<x.2.2)) Ss.flatten
 have:=O.flat
 simp only [List.length_cons,List.length_nil]
 omega
abbrev vV (Ss:List (List Mt)) (z:Int) (t:Int):Int×Int:=(cnt Ss t z,t)
theorem vD {Ss:List (List Mt)} (O:ShsOk Ss) (b e z:Int):cR [dSs Ss,.int b,.int e,.int z]=some (.ok (match gX (((eK Ss b e z).map (vV Ss z)).map dP) with
  | .tuple [c,t]::_=>.tuple [t,c]
  | _=>.none))∨∃ d l,gX (((eK Ss b e z).map (vV Ss z)).map dP)=d::l∧∀ c t,d≠.tuple [c,t]:=by
 have fl:=O.flat
 have cl:=a8C O b e z
 have h1:gP [.val (dSs Ss),.val (.int b),.val (.int e),.val (.int z),.no,.no,.no]=(retS (ifE (gG (var 6)) (aK (aB (op2 ixD (op2 ixD (var 6) (cst (.int 0))) (cst (.int 1))) (aB (op2 ixD (op2 ixD (var 6) (cst (.int 0))) (cst (.int 0))) aF))) (cst .none))) [.val (dSs Ss),.val (.int b),.val (.int e),.val (.int z),.val (.list (((Ss.flatten.filter fun x=>decide (b<x.2.2)).map (·.2.2)).map .int)),.val (.list ((eK Ss b e z).map .int)),.val (.list (gX (((eK Ss b e z).map (vV Ss z)).map dP)))]:=by
  unfold gP
  have k1:pE [.val (dSs Ss),.val (.int b),.val (.int e),.val (.int z),.no,.no,.no]=some (.ok (.list (((Ss.flatten.filter fun x=>decide (b<x.2.2)).map (·.2.2)).map .int))):=by
   rw [List.map_map]
   exact mW dM (fun x=>[.val (.str x.1),.val (.int x.2.1),.val (.int x.2.2),.val (.int b)]) (fun x=>decide (b<x.2.2)) (fun x=>.int x.2.2) Ss.flatten (sL (bH (ds:=[dSs Ss]) rfl (b4R O)) rfl) (by omega) (fun x _=>by simp [dD]) (fun x _=>by simp) (fun x _ _=>by simp)
  rw [aO (ρ':=[.val (dSs Ss),.val (.int b),.val (.int e),.val (.int z),.val (.list (((Ss.flatten.filter fun x=>decide (b<x.2.2)).map (·.2.2)).map .int)),.no,.no]) (by rw [eG,k1];rfl)]
  have fz:=List.length_filter_le (fun x:Mt=>decide (b<x.2.2)) Ss.flatten
  unfold eK at cl ⊢
  have hE:((Ss.flatten.filter fun x=>decide (b<x.2.2)).map (·.2.2)).length≤20:=by rw [List.length_map];omega
  generalize (Ss.flatten.filter fun x=>decide (b<x.2.2)).map (·.2.2)=E at hE cl
  have it:fF (op2 cZ (eY (aB (var 1) aF)) (var 4)) [.val (dSs Ss),.val (.int b),.val (.int e),.val (.int z),.val (.list (E.map .int)),.no,.no]=some (.ok (([b]++E).map .int)):=by
   refine sL (d:=.list (([b]++E).map .int)) ?_ rfl
   have q:1+E.length≤100000:=by omega
   simp [q]
  have k2:pC [.val (dSs Ss),.val (.int b),.val (.int e),.val (.int z),.val (.list (E.map .int)),.no,.no]=some (.ok (.list ((([b]++E).filter fun t=>decide (t+z≤e)).map .int))):=
   mW PyData.int (fun t=>[.val (.int t),.val (.int e),.val (.int z)]) (fun t=>decide (t+z≤e)) PyData.int ([b]++E) it (by simp;omega) (fun x _=>by simp [dD]) (fun x _=>by simp) (fun x _ _=>by simp)
  rw [aO (ρ':=[.val (dSs Ss),.val (.int b),.val (.int e),.val (.int z),.val (.list (E.map .int)),.val (.list ((([b]++E).filter fun t=>decide (t+z≤e)).map .int)),.no]) (by rw [eG,k2];rfl)]
  generalize ([b]++E).filter (fun t=>decide (t+z≤e))=C at cl
  have k3:pB [.val (dSs Ss),.val (.int b),.val (.int e),.val (.int z),.val (.list (E.map .int)),.val (.list (C.map .int)),.no]=some (.ok (.list ((C.map (vV Ss z)).map dP))):=by
   rw [List.map_map]
   exact cW PyData.int (fun t=>[.val (.int t),.val (dSs Ss),.val (.int z)]) (fun t=>dP (vV Ss z t)) C (by simp) (by omega) (fun x _=>by simp [dD]) (fun t _=>by
    have c1:aU fE (aB (var 1) (aB (var 0) (aB (var 2) aF))) [.val (.int t),.val (dSs Ss),.val (.int z)]=some (.ok (.int (cnt Ss t z))):=bH (ds:=[dSs Ss,.int t,.int z]) rfl (qP O t z)
    rw [b1F,dL,c1]
    simp)
  rw [aO (ρ':=[.val (dSs Ss),.val (.int b),.val (.int e),.val (.int z),.val (.list (E.map .int)),.val (.list (C.map .int)),.val (.list (gX ((C.map (vV Ss z)).map dP)))]) (by
   rw [eG,jX (ds:=[.list ((C.map (vV Ss z)).map dP)]) (by rw [dL,k3];rfl) (a4q (a6n _) (by rw [List.length_map,List.length_map];omega))]
   rfl)]
 generalize gX (((eK Ss b e z).map (vV Ss z)).map dP)=R at *
 generalize (PyData.list (((Ss.flatten.filter fun x=>decide (b<x.2.2)).map (·.2.2)).map .int))=V4 at *
 generalize (PyData.list ((eK Ss b e z).map .int))=V5 at *
 cases R with
 | nil=>
  left
  refine bL rfl ?_
  show gP [.val (dSs Ss),.val (.int b),.val (.int e),.val (.int z),.no,.no,.no]=_
  rw [h1]
  simp
 | cons d R=>
  by_cases hd:∃ c t,d=.tuple [c,t]
  ·obtain ⟨c,t,rfl⟩:=hd
   left
   refine bL rfl ?_
   show gP [.val (dSs Ss),.val (.int b),.val (.int e),.val (.int z),.no,.no,.no]=_
   rw [h1]
   simp
  ·exact .inr ⟨d,R,rfl,fun c t e=>hd ⟨c,t,e⟩⟩
theorem a7j {p q:Int×Int} (h:p.1<q.1∨(p.1=q.1∧p.2<q.2)):ltT (dP p) (dP q)=true:=by
 show ltR [.int p.1,.int p.2] [.int q.1,.int q.2]=true
 rcases h with h | ⟨h,h'⟩
 ·have:¬p.1=q.1:=by omega
  simp [ltR,eqC,this,ltC,h]
 ·have:¬p.2=q.2:=by omega
  simp [ltR,eqC,h,this,ltC,h']
theorem a7G {l:List (Int×Int)} {p:Int×Int} (hp:p∈l) (hm:∀ q∈l,q≠p→p.1<q.1∨(p.1=q.1∧p.2<q.2)):∃ r,gX (l.map dP)=dP p::r:=by
 have so:=lR (g:=[true,true]) (l.map dP) (a6n l)
 have pm:=mL (l.map dP)
 have mp:dP p∈gX (l.map dP):=pm.mem_iff.mpr (List.mem_map.mpr ⟨p,hp,rfl⟩)
 cases hR:gX (l.map dP) with
 | nil=>rw [hR] at mp;cases mp
 | cons d r=>
  rw [hR] at so mp
  have md:d∈l.map dP:=pm.mem_iff.mp (by rw [hR];simp)
  obtain ⟨q,hq,rfl⟩:=List.mem_map.mp md
  by_cases e:q=p
  ·subst e;exact ⟨r,rfl⟩
  ·rcases List.mem_cons.mp mp with z | z
   ·exact ⟨r,by rw [z]⟩
   ·have:=(List.pairwise_cons.mp so).1 _ z
    rw [a7j (hm q hq e)] at this
    cases this
theorem a8i {Ss:List (List Mt)} (O:ShsOk Ss) {b e z t0:Int} (h1:t0∈eK Ss b e z) (h2:∀ t∈eK Ss b e z,t≠t0→cnt Ss t0 z<cnt Ss t z∨(cnt Ss t0 z=cnt Ss t z∧t0<t)) :
  cR [dSs Ss,.int b,.int e,.int z]=some (.ok (.tuple [.int t0,.int (cnt Ss t0 z)])):=by
 obtain ⟨r,hr⟩:=a7G (l:=(eK Ss b e z).map (vV Ss z)) (p:=vV Ss z t0) (List.mem_map.mpr ⟨t0,h1,rfl⟩) (fun q hq hne=>by
  obtain ⟨t,ht,rfl⟩:=List.mem_map.mp hq
  exact h2 t ht fun e=>hne (by rw [e]))
 rcases vD O b e z with h | ⟨d,l,hd,hn⟩
 ·rw [hr] at h;exact h
 ·rw [hr] at hd;cases hd;exact absurd rfl (hn _ _)
theorem a1x {Ss:List (List Mt)} (O:ShsOk Ss) {b e z:Int} (h:e<b+z):cR [dSs Ss,.int b,.int e,.int z]=some (.ok .none):=by
 have hc:eK Ss b e z=[]:=by
  unfold eK
  rw [List.filter_eq_nil_iff]
  intro t ht
  simp only [decide_eq_true_eq]
  rcases List.mem_append.mp ht with z' | z'
  ·rw [List.mem_singleton] at z';omega
  ·obtain ⟨x,hx,rfl⟩:=List.mem_map.mp z'
   have:=of_decide_eq_true (List.mem_filter.mp hx).2
   omega
 rcases vD O b e z with h | ⟨d,l,hd,hn⟩
 ·rw [hc] at h;exact h
 ·rw [hc] at hd;cases hd
structure First (Ss:List (List Mt)) (b e z t0:Int):Prop where
 lo:b≤t0
 hi:t0+z≤e
 least:∀ m,b≤m→m+z≤e→cnt Ss t0 z≤cnt Ss m z
 first:∀ m,b≤m→m<t0→cnt Ss t0 z<cnt Ss m z
theorem First.cand {Ss:List (List Mt)} {b e z t0:Int} (hz:0<z) (F:First Ss b e z t0):t0∈eK Ss b e z∧∀ t∈eK Ss b e z,t≠t0→cnt Ss t0 z<cnt Ss t z∨(cnt Ss t0 z=cnt Ss t z∧t0<t):=by
 have lo:=F.lo;have hi:=F.hi
 constructor
 ·unfold eK
  refine List.mem_filter.mpr ⟨?_,decide_eq_true hi⟩
  by_cases c:t0=b
  ·rw [c];simp
  ·obtain ⟨x,hx,he⟩:=a8u (m:=t0) hz (F.first (t0 - 1) (by omega) (by omega))
   exact List.mem_append_right _ (List.mem_map.mpr ⟨x,List.mem_filter.mpr ⟨hx,decide_eq_true (by omega)⟩,he⟩)
 ·intro t ht hne
  unfold eK at ht
  obtain ⟨h1,h2⟩:=List.mem_filter.mp ht
  have h2:=of_decide_eq_true h2
  have hb:b≤t:=by
   rcases List.mem_append.mp h1 with z' | z'
   ·rw [List.mem_singleton] at z';omega
   ·obtain ⟨x,hx,rfl⟩:=List.mem_map.mp z'
    have:=of_decide_eq_true (List.mem_filter.mp hx).2
    omega
  have:=F.least t hb h2
  by_cases c:t<t0
  ·exact .inl (F.first t hb c)
  ·by_cases d:cnt Ss t0 z=cnt Ss t z
   ·exact .inr ⟨d,by omega⟩
   ·exact .inl (by omega)
end L2.L3
namespace L2.L3
open PySem
abbrev a4n:TF:=orT (hV (gG (op1 (isD "tuple") (var 0)))) (fH neD (dF nB (aB (var 0) aF)) (cst (.int 2)))
def a7Y:SF:=(aW (ifS a4n (retS (cst (.bool false))) fG) (retS (qZ (aU bV (aB (op2 ixD (var 0) (cst (.int 1))) aF)) (a5t leD leD (op1 nA (cst (.int 24))) (op2 ixD (var 0) (cst (.int 1))) (cst (.int 24))))))
def vP:List PyData→Mm PyData:=cU 1 1 a7Y
abbrev a2k:TF:=orT (hV (gG (op1 (isD "tuple") (var 0)))) (hV (a8A leD leD (cst (.int 1)) (dF nB (aB (var 0) aF)) (cst (.int 5))))
abbrev a2I:EF:=cF (.nm 0) [none] (fF (var 0)) ttT (aU vP (aB (var 0) aF))
abbrev a2j:TF:=hV (gG (dF allB (aB a2I aF)))
abbrev a2H:EF:=cF (.tp [0,1]) [none,none] (fF (slE (var 0) (fM (cst (.int 1))) gI)) ttT (var 0)
abbrev a2G:EF:=cF (.nm 0) [none] (fF (var 1)) ttT (aU bV (aB (var 0) aF))
def xT:SF:=(aW (ifS a2k (retS (cst (.bool false))) fG) (aW (ifS a2j (retS (cst (.bool false))) fG) (aW (dO 1 a2H) (retS (qZ (isE false (.none) (op2 ixD (op2 ixD (var 0) (cst (.int 0))) (cst (.int 0)))) (qZ (dF allB (aB a2G aF)) (aU cQ (aB (var 1) aF))))))))
def mZ:List PyData→Mm PyData:=cU 2 1 xT
abbrev fz (m:Int) (a:Int) (rs:List (Int×Int)):Int:=rs.foldl (fun a r=>if r.1≤m then r.2 else a) a
end L2.L3
namespace L2.L3
open PySem PySem.Spec PyProof.Rows PySem.Calls
def eJ (a b:Int×Int):Bool:=decide (a.1<b.1) || (decide (a.1=b.1)&&decide (a.2<b.2))
section
variable {prog:Program} {w:World} {A:Around} {E:Value→Shared→Prop} {s:Shared}
theorem a9U {a b:Addr} {i j k l:Int} {t u v x:Tok} {P:Fin→Shared→Prop} (ha:IsTup s.heap a #[.int i t,.int j u]) (hb:IsTup s.heap b #[.int k v,.int l x]) (h:P (.done (.ret (.bool (eJ (i,j) (k,l))))) s) :
  wpAny (model prog w) A (Builtin.«tuple.__lt__» ⟨[.ref a,.ref b],[]⟩) P E s:=by
 have hTb:s.TypeIs (.ref b) "tuple" := hb.typeIs
 obtain ⟨oa,hoa,_,na,hda⟩:=ha
 obtain ⟨ob,hob,_,nb,hdb⟩:=hb
 show wpAny _ _ (isInstance (.ref b) (.type "tuple")>>=_) _ _ s
 refine wpAny_bind (wpAny_isInstance hTb isSubtype_tuple_tuple ?_)
 simp only [Bool.not_true,Bool.false_eq_true,if_false]
 refine wpAny_bind (wpAny_tupleItemsOf hoa hda ?_)
 refine wpAny_bind (wpAny_tupleItemsOf hob hdb ?_)
 refine wpAny_bind ?_
 show wpAny _ _ (forIn [(Value.int i t,Value.int k v),(Value.int j u,Value.int l x)] _ _) _ _ s
 rw [List.forIn_cons]
 refine wpAny_bind ?_
 by_cases c1:i=k
 ·subst c1
  refine wpAny_bind (wpAny_eqBool_int ?_)
  rw [beq_self_eq_true]
  simp only [Bool.not_true,Bool.false_eq_true,if_false]
  refine wpAny_pure ?_
  dsimp only
  rw [List.forIn_cons]
  refine wpAny_bind ?_
  by_cases c2:j=l
  ·subst c2
   refine wpAny_bind (wpAny_eqBool_int ?_)
   rw [beq_self_eq_true]
   simp only [Bool.not_true,Bool.false_eq_true,if_false]
   refine wpAny_pure ?_
   dsimp only
   rw [List.forIn_nil]
   refine wpAny_pure ?_
   have e:eJ (i,j) (i,j)=false:=by simp [eJ]
   rw [e] at h
   exact wpAny_pure h
  ·refine wpAny_bind (wpAny_eqBool_int ?_)
   rw [beq_eq_false_iff_ne.mpr c2]
   simp only [Bool.not_false,if_true]
   refine wpAny_bind (wpAny_rule (wpAny_bind ?_))
   refine lt_int ?_
   have e:eJ (i,j) (i,l)=decide (j<l):=by simp [eJ]
   rw [e] at h
   exact wpAny_bind (wpAny_pure (wpAny_pure (wpAny_pure (wpAny_pure h))))
 ·refine wpAny_bind (wpAny_eqBool_int ?_)
  rw [beq_eq_false_iff_ne.mpr c1]
  simp only [Bool.not_false,if_true]
  refine wpAny_bind (wpAny_rule (wpAny_bind ?_))
  refine lt_int ?_
  have e:eJ (i,j) (k,l)=decide (i<k):=by simp [eJ,c1]
  rw [e] at h
  exact wpAny_bind (wpAny_pure (wpAny_pure (wpAny_pure (wpAny_pure h))))
theorem a9V {a b:Addr} {i j k l:Int} {t u v x:Tok} {Q:Value→Shared→Prop} (hu:A.units<cLine) (ha:IsTup s.heap a #[.int i t,.int j u]) (hb:IsTup s.heap b #[.int k v,.int l x]) (h:Q (.bool (eJ (i,j) (k,l))) s) :
  wpAny (model prog w) A (richCompare .Lt (.ref a) (.ref b)) Q E s:=
 wpAny_richCompare_same_room (op:=.Lt) ha.typeIs hb.typeIs F.slot_tuple_lt (wpAny_call_entry F.slot_tuple_lt ha.typeIs F.entry_tuple_lt (a9U ha hb ⟨_,rfl,(fun e=>nomatch e),h⟩) (F.args_tuple_lt_2 _ _)) hu
end
def b5a (prog:Program) (w:World) (A:Around) (h₀:Heap) (off:List Addr) (P:Nat→Value→Prop) (bt:Nat→Nat→Bool):Prop:=
 ∀ i j vi vj (s:Shared) (Q E:Value→Shared→Prop),(∀ b o,b∉off→h₀.get? b=some o→s.heap.get? b=some o)→P i vi→P j vj→Q (.bool (bt i j)) s→wpAny (model prog w) A (richCompare .Lt vi vj) Q E s
section
variable {prog:Program} {w:World} {A:Around} {R:Result→Shared→Prop} {I:Addr} {fp wr:List Addr} {n:Nat} {P:Nat→Value→Prop} {St:Nat→Heap→Prop}
abbrev b4X (vs:Array Value) (c:Nat):Obj:={ cls:=.type "list", dict:=none,data:=.seq vs c,slots:=#[] }
theorem a4R (W:Walks prog w A.in1 I fp wr n P St) {bt:Nat→Nat→Bool} {h₀:Heap} {S:Addr} (hcmp:b5a prog w A.in1 h₀ (S::wr) P bt) (hSf:S∉fp) :
  ∀ (k j:Nat) (s:Shared) (vb:Value) (c:Nat),n=j+1+k→St (j+1) s.heap→P (argBest bt j) vb→(∀ b o,b∉S::wr→h₀.get? b=some o→s.heap.get? b=some o)→s.heap.get? S=some (b4X #[vb,vb] c) →
  (∀ v h' tk,P (argBest bt (n - 1)) v→(∀ b o,b∉S::wr→h₀.get? b=some o→h'.get? b=some o)→R (.ok (.ret v)) { s with heap:=h',toks:=tk }) →
  codeAny (model prog w) A (.builtin "min.loop" ⟨[.ref I,.none,.ref S],[]⟩) R s:=by
 have hSw:S∉wr:=fun h=>hSf (W.sub _ h)
 have nm:(toString "min" ++ toString ".loop" : String) = "min.loop":=by decide
 have nS:∀ {b:Addr},b∉S::wr→b≠S∧b∉wr:=fun {b} hb=>⟨fun z=>hb (by rw [z];exact List.mem_cons_self),fun z=>hb (List.mem_cons_of_mem _ z)⟩
 intro k
 induction k with
 | zero=>
  intro j s vb c hk hst hP hkeep hS hR
  have hn:j+1=n:=by omega
  subst hn
  refine codeAny_builtin F.entry_min_loop ?_
  rw [Around.under_plainId F.plain_min_loop _]
  show wpAny _ A.in1 (seqItems? (.ref S)>>=_) _ _ s
  refine wpAny_bind (wpAny_seqItems hS rfl ?_)
  show wpAny _ A.in1 (tryCatch (pyNext (.ref I)) _>>=_) _ _ s
  refine wpAny_bind (wpAny_tryCatch (W.done s _ _ hst fun h' tk kp=>?_))
  show wpAny _ A.in1 (updateSeq S (fun _=>#[])>>=_) _ _ _
  refine wpAny_bind (wpAny_updateSeq (kp S _ hSw hS) rfl (wpAny_bind (wpAny_letGo (wpAny_pure ?_))))
  exact hR vb _ tk hP fun b o hb e=>(Heap.get?_update_other _ _ (Ne.symm (nS hb).1)).trans (kp b o (nS hb).2 (hkeep b o hb e))
 | succ k ih=>
  intro j s vb c hk hst hP hkeep hS hR
  refine codeAny_builtin F.entry_min_loop ?_
  rw [Around.under_plainId F.plain_min_loop _]
  show wpAny _ A.in1 (seqItems? (.ref S)>>=_) _ _ s
  refine wpAny_bind (wpAny_seqItems hS rfl ?_)
  show wpAny _ A.in1 (tryCatch (pyNext (.ref I)) _>>=_) _ _ s
  refine wpAny_bind (wpAny_tryCatch (W.item (j+1) s _ _ (by omega) hst fun v h' tk hv hst' kp=>?_))
  have hS1:=kp S _ hSw hS
  have keep1:∀ b o,b∉S::wr→h₀.get? b=some o→h'.get? b=some o:=fun b o hb e=>kp b o (nS hb).2 (hkeep b o hb e)
  show wpAny _ A.in1 (tryCatch (holding [v,v] (richCompare .Lt v vb>>=_)) _>>=_) _ _ _
  refine wpAny_bind (wpAny_tryCatch (wpAny_holding (wpAny_bind (hcmp (j+1) (argBest bt j) v vb _ _ _ keep1 hv hP ?_))))
  refine wpAny_bind (wpAny_holding (wpAny_truthy_bool ?_))
  refine wpAny_bind (wpAny_letGo (wpAny_pure ?_))
  cases hb:bt (j+1) (argBest bt j) with
  | true=>
   simp only [if_true]
   refine wpAny_bind (wpAny_updateSeq hS1 rfl (wpAny_bind (wpAny_letGo ?_)))
   rw [nm]
   refine wpAny_pure ⟨plainId_quiet F.plain_min_loop _,ih (j+1) _ v _ (by omega) (W.frame _ _ _ hst' fun b hbf o e=>(Heap.get?_update_other _ _ (fun z:S=b=>hSf (z▸hbf))).trans e) (by simp only [argBest,hb,if_true];exact hv)
    (fun b o q e=>(Heap.get?_update_other _ _ (Ne.symm (nS q).1)).trans (keep1 b o q e)) (Heap.get?_update_self _ hS1 rfl) hR⟩
  | false=>
   simp only [Bool.false_eq_true,if_false]
   refine wpAny_bind (wpAny_letGo ?_)
   rw [nm]
   exact wpAny_pure ⟨plainId_quiet F.plain_min_loop _,ih (j+1) _ vb c (by omega) hst' (by simp only [argBest,hb,Bool.false_eq_true,if_false];exact hP) keep1 hS1 hR⟩
end
section
variable {prog:Program} {w:World} {A:Around} {E:Value→Shared→Prop} {s:Shared} {l:Addr} {items:Array Value}
theorem b5J {bt:Nat→Nat→Bool} {Q:Value→Shared→Prop} (hh:A.handled=none) (hl:s.heap.IsList l items) (hne:0<items.size)
  (hcmp:∀ S I,s.heap.objs.size≤S→s.heap.objs.size≤I→b5a prog w A.in1 s.heap [S,I] (fun i v=>items[i]?=some v) bt)
  (h:∀ v h' tk,items[argBest bt (items.size - 1)]?=some v→(∀ b o,s.heap.get? b=some o→h'.get? b=some o)→Q v { s with heap:=h',toks:=tk }) :
  wpAny (model prog w) A (call (.builtin "min") [.ref l]) Q E s:=by
 have nm:(toString "min" ++ toString ".loop" : String) = "min.loop":=by decide
 have hlt:l<s.heap.objs.size:=by obtain ⟨_,e,_⟩:=hl;exact Heap.lt_size e
 refine call_function_tree F.kind_min F.plain_min F.entry_min (F.args_min1 _) ?_
 show wpAny _ A.in1 (Builtin.Builtins.bindParams "min" ["key", "default"] 0 ⟨[],[]⟩>>=_) _ _ s
 refine wpAny_bind (wpAny_of_eq (show Builtin.Builtins.bindParams "min" ["key", "default"] 0 ⟨[],[]⟩=pure [none,none] from rfl) ?_)
 refine wpAny_bind (wpAny_pure ?_)
 refine wpAny_bind (wpAny_pyIter_list hl ?_)
 have W:=Walks.list (prog:=prog) (w:=w) (A:=A.in1) hh s.heap.objs.size l (Nat.ne_of_lt hlt) items
 have s2:(s.heap.push { cls:=.type "list_iterator", data:=.fields #[.ref l,.int 0 0] }).objs.size=s.heap.objs.size+1:=Heap.size_push ..
 refine wpAny_bind (wpAny_newObj_type ?_)
 rw [nm]
 show wpAny _ A.in1 (pure (Fin.again (.builtin "min.loop" ⟨[.ref s.heap.objs.size,.none,.ref (s.heap.push { cls:=.type "list_iterator", data:=.fields #[.ref l,.int 0 0] }).objs.size],[]⟩))) _ _ _
 refine wpAny_pure ⟨plainId_quiet F.plain_min_loop _,?_⟩
 rw [s2]
 have hS0:((s.heap.push { cls:=.type "list_iterator", data:=.fields #[.ref l,.int 0 0] }).push { cls:=.type "list", data:=.seq #[] }).get? (s.heap.objs.size+1)=some (b4X #[] 0):=by
  rw [←s2];exact Heap.get?_push_size _ rfl
 have old:∀ b o,s.heap.get? b=some o→((s.heap.push { cls:=.type "list_iterator", data:=.fields #[.ref l,.int 0 0] }).push { cls:=.type "list", data:=.seq #[] }).get? b=some o:=fun b o e=>Heap.get?_push_of_some _ (Heap.get?_push_of_some _ e)
 have lS:s.heap.objs.size+1∉[s.heap.objs.size,l]:=by
  intro z
  rcases List.mem_cons.mp z with z | z
  ·exact absurd z (Nat.succ_ne_self _)
  ·exact absurd hlt (by rw [←List.mem_singleton.mp z];exact Nat.not_lt.mpr (Nat.le_succ _))
 have lw:s.heap.objs.size+1∉[s.heap.objs.size]:=by
  intro z
  have:=List.mem_singleton.mp z;omega
 have hst0:((s.heap.push { cls:=.type "list_iterator", data:=.fields #[.ref l,.int 0 0] }).push { cls:=.type "list", data:=.seq #[] }).IsListIter s.heap.objs.size l 0∧((s.heap.push { cls:=.type "list_iterator", data:=.fields #[.ref l,.int 0 0] }).push { cls:=.type "list", data:=.seq #[] }).IsList l items:=
  ⟨⟨_,Heap.get?_push_of_some _ (Heap.get?_push_size _ rfl),rfl,rfl⟩,(hl.push _).push _⟩
 refine codeAny_builtin F.entry_min_loop ?_
 rw [Around.under_plainId F.plain_min_loop _]
 show wpAny _ A.in1 (seqItems? (.ref (s.heap.objs.size+1))>>=_) _ _ _
 refine wpAny_bind (wpAny_seqItems hS0 rfl ?_)
 show wpAny _ A.in1 (tryCatch (pyNext (.ref s.heap.objs.size)) _>>=_) _ _ _
 refine wpAny_bind (wpAny_tryCatch (W.item 0 _ _ _ hne hst0 fun v h' tk hv hst' kp=>?_))
 have hS1:=kp _ _ lw hS0
 show wpAny _ A.in1 (updateSeq (s.heap.objs.size+1) (fun _=>#[v,v])>>=_) _ _ _
 refine wpAny_bind (wpAny_updateSeq hS1 rfl ?_)
 rw [nm]
 have nS:∀ {b:Addr} {o:Obj},s.heap.get? b=some o→b≠s.heap.objs.size+1∧b∉[s.heap.objs.size]:=fun {b o} e=>by
  have:=Heap.lt_size e
  exact ⟨Nat.ne_of_lt (Nat.lt_succ_of_lt this),fun z=>absurd this (by rw [List.mem_singleton.mp z];exact Nat.lt_irrefl _)⟩
 refine wpAny_pure ⟨plainId_quiet F.plain_min_loop _,a4R W (bt:=bt) (h₀:=s.heap) (S:=s.heap.objs.size+1) (hcmp _ _ (Nat.le_succ _) (Nat.le_refl _)) lS (items.size - 1) 0 _ v _ (by omega) (W.frame _ _ _ hst' fun b hbf o e=>(Heap.get?_update_other _ _ (fun z:s.heap.objs.size+1=b=>lS (z▸hbf))).trans e) hv
  (fun b o _ e=>(Heap.get?_update_other _ _ (Ne.symm (nS e).1)).trans (kp b o (nS e).2 (old b o e))) (Heap.get?_update_self _ hS1 rfl) fun v' h'' tk'' hP' kp''=>?_⟩
 exact h v' h'' tk'' hP' fun b o e=>kp'' b o (fun z=>by
  rcases List.mem_cons.mp z with z | z
  ·exact (nS e).1 z
  ·exact (nS e).2 z) e
end
theorem zP (a:Int×Int):eJ a a=false:=by simp [eJ]
theorem zQ {a b:Int×Int}:eJ a b=true↔a.1<b.1∨(a.1=b.1∧a.2<b.2):=by simp [eJ]
theorem oZ {a b:Int×Int}:eJ a b=false↔¬(a.1<b.1∨(a.1=b.1∧a.2<b.2)):=by rw [←zQ];simp
theorem b2L {a b:Int×Int} (h1:eJ a b=false) (h2:eJ b a=false):a=b:=by
 rw [oZ] at h1 h2
 exact Prod.ext (by omega) (by omega)
theorem a1S (f:Nat→Int×Int):∀ k,argBest (fun i j=>eJ (f i) (f j)) k≤k∧∀ j,j≤k→eJ (f j) (f (argBest (fun i j=>eJ (f i) (f j)) k))=false
 | 0=>⟨Nat.le_refl _,fun j hj=>by rw [Nat.le_zero.mp hj];exact zP _⟩
 | k+1=>by
  obtain ⟨h1,h2⟩:=a1S f k
  show (if eJ (f (k+1)) (f (argBest (fun i j=>eJ (f i) (f j)) k))=true then k+1 else argBest (fun i j=>eJ (f i) (f j)) k)≤k+1∧∀ j,j≤k+1→eJ (f j) (f (if eJ (f (k+1)) (f (argBest (fun i j=>eJ (f i) (f j)) k))=true then k+1 else argBest (fun i j=>eJ (f i) (f j)) k))=false
  generalize argBest (fun i j=>eJ (f i) (f j)) k=b at h1 h2
  cases c:eJ (f (k+1)) (f b) with
  | true=>
   rw [if_pos rfl]
   refine ⟨Nat.le_refl _,fun j hj=>?_⟩
   by_cases e:j=k+1
   ·rw [e];exact zP _
   ·have:=h2 j (by omega)
    rw [oZ] at this ⊢
    rw [zQ] at c
    omega
  | false=>
   rw [if_neg (by decide)]
   refine ⟨by omega,fun j hj=>?_⟩
   by_cases e:j=k+1
   ·rw [e];exact c
   ·exact h2 j (by omega)
def jR (p:Int×Int) (ps:List (Int×Int)):Int×Int:=ps.foldl (fun m q=>if eJ q m then q else m) p
theorem a1h:∀ (ps:List (Int×Int)) (p:Int×Int),jR p ps∈p::ps∧∀ q∈p::ps,eJ q (jR p ps)=false
 | [],p=>⟨by simp [jR],fun q hq=>by rw [List.mem_singleton.mp hq];exact zP _⟩
 | a::ps,p=>by
  obtain ⟨h1,h2⟩:=a1h ps (if eJ a p then a else p)
  have e:jR p (a::ps)=jR (if eJ a p then a else p) ps:=rfl
  rw [e]
  generalize jR (if eJ a p then a else p) ps=m at h1 h2
  cases c:eJ a p with
  | true=>
   rw [c,if_pos rfl] at h1 h2
   refine ⟨List.mem_cons_of_mem _ h1,fun q hq=>?_⟩
   rcases List.mem_cons.mp hq with rfl | hq
   ·have:=h2 a (by simp)
    rw [oZ] at this ⊢
    rw [zQ] at c
    omega
   ·exact h2 q hq
  | false=>
   rw [c,if_neg (by decide)] at h1 h2
   refine ⟨?_,fun q hq=>?_⟩
   ·rcases List.mem_cons.mp h1 with h | h
    ·rw [h];simp
    ·exact List.mem_cons_of_mem _ (List.mem_cons_of_mem _ h)
   ·rcases List.mem_cons.mp hq with rfl | hq
    ·exact h2 q (by simp)
    ·rcases List.mem_cons.mp hq with rfl | hq
     ·have:=h2 p (by simp)
      rw [oZ] at this c ⊢
      omega
     ·exact h2 q (List.mem_cons_of_mem _ hq)
theorem a1j {p m:Int×Int} {ps:List (Int×Int)} (h:m∈p::ps) (hm:∀ q∈p::ps,eJ q m=false):m=jR p ps:=by
 obtain ⟨h1,h2⟩:=a1h ps p
 exact b2L (h2 m h) (hm _ h1)
abbrev dPr (p:Int×Int):PyData:=.tuple [.int p.1,.int p.2]
def prI:PyData→Option (Int×Int)
 | .tuple [.int i,.int j]=>some (i,j)
 | _=>none
theorem b1Z {d:PyData} {p:Int×Int} (h:prI d=some p):d=dPr p:=by
 unfold prI at h
 split at h
 ·cases h;rfl
 ·cases h
section
variable {X:Cx}
theorem a5v (hc:X.calm=true) (hu:X.A.units+64<cLine):eM X (.builtin "min") (fun xs H Q=>∃ (p:Addr) (vs:List V) (f:Nat→Int×Int),xs=[.ref p]∧SqL X.K H p vs∧0<vs.length∧(∀ i v,vs[i]?=some v→∃ a,v=.ref a∧SqT X.K H a [.int (f i).1,.int (f i).2]) ∧
  ∀ i v,vs[i]?=some v→(∀ j,j<vs.length→eJ (f j) (f i)=false)→Q v H):=by
 intro pins s σ H xs us Q I r ⟨p,vs,f,e,hq,hne,hel,q⟩
 subst e
 obtain ⟨u,rfl,rx⟩:=vals1 r
 cases rx
 obtain ⟨its,rv,pl,hz⟩:=I.list hq
 have hlen:=rv.length
 have at':∀ i v,its.toArray[i]?=some v→∃ a its2 t u,v=.ref a∧vs[i]?=some (.ref a)∧its2=#[Value.int (f i).1 t,Value.int (f i).2 u]∧IsTup s.heap a its2:=fun i v e=>by
  rw [List.getElem?_toArray] at e
  have hi:i<vs.length:=by rw [hlen];exact (List.getElem?_eq_some_iff.mp e).1
  obtain ⟨u',eu,ru⟩:=rv.get (List.getElem?_eq_getElem hi)
  rw [e] at eu;cases eu
  obtain ⟨a,ea,hT⟩:=hel i _ (List.getElem?_eq_getElem hi)
  rw [ea] at ru
  cases ru
  obtain ⟨its2,r2,ht,_⟩:=I.tuple hT
  obtain ⟨x,y,rfl,⟨t,rfl⟩,⟨t',rfl⟩⟩:=vals2 r2
  exact ⟨a,_,t,t',rfl,by rw [List.getElem?_eq_getElem hi,ea],rfl,ht⟩
 refine b5J (bt:=fun i j=>eJ (f i) (f j)) (I.ok.hd hc) pl.isList (by rw [List.size_toArray,←hlen];exact hne) (fun S J hS hJ i j vi vj s' Q' E' kp hi hj qq=>?_) fun v h' tk hv kp=>?_
 ·obtain ⟨a,_,t,u,rfl,_,rfl,⟨oa,ha,ca,na,da⟩⟩:=at' i vi hi
  obtain ⟨b,_,t',u',rfl,_,rfl,⟨ob,hb,cb,nb,db⟩⟩:=at' j vj hj
  have off:∀ {c:Addr} {o:Obj},s.heap.get? c=some o→c∉[S,J]:=fun {c o} e z=>by
   have lt:=Heap.lt_size e
   rcases List.mem_cons.mp z with z | z
   ·exact absurd (Nat.lt_of_lt_of_le lt hS) (by rw [z];exact Nat.lt_irrefl _)
   ·exact absurd (Nat.lt_of_lt_of_le lt hJ) (by rw [List.mem_singleton.mp z];exact Nat.lt_irrefl _)
  exact a9V (show X.A.units+1<cLine by omega) ⟨oa,kp _ _ (off ha) ha,ca,na,da⟩ ⟨ob,kp _ _ (off hb) hb,cb,nb,db⟩ qq
 ·obtain ⟨a,_,t,u,rfl,ev,_,_⟩:=at' _ v hv
  rw [List.size_toArray,←hlen] at ev hv
  have best:=a1S f (vs.length - 1)
  exact ⟨.ref a,H,I.kept kp,rfl,q _ _ ev fun j hj=>best.2 j (by omega)⟩
def a3G (ds:List PyData):Option PyData:=match ds with
 | [.list xs]=>(match eL prI xs with | some (p::ps)=>some (dPr (jR p ps)) | _=>none)
 | _=>none
theorem a9Q (hc:X.calm=true) (hu:X.A.units+64<cLine) (ds:List PyData) (d:PyData) (h:a3G ds=some d):CallD X (.builtin "min") ds d:=by
 unfold a3G at h;split at h
 ·split at h
  ·rename_i xs p ps e
   cases (Option.some.inj h)
   have:=dG (g:=dPr) (fun d a q=>b1Z q) e
   subst this
   exact ⟨_,a5v hc hu,fun vs G H Q s r q=>by
    cases r with | cons r rr=>cases rr;cases r with | list hq r=>
     rename_i vs'
     have ln:=r.length
     have el:∀ i v,vs'[i]?=some v→Rep X.K G v (dPr ((p::ps).getD i (0,0)))∧i<(p::ps).length:=fun i v e=>by
      have hi:i<vs'.length:=(List.getElem?_eq_some_iff.mp e).1
      rw [ln,List.length_map] at hi
      have g:((p::ps).map dPr)[i]?=some (dPr ((p::ps).getD i (0,0))):=by
       rw [List.getElem?_map,List.getElem?_eq_getElem hi,List.getD_eq_getElem?_getD,List.getElem?_eq_getElem hi];rfl
      obtain ⟨v',e',r'⟩:=r.get g
      rw [e] at e';cases e'
      exact ⟨r',hi⟩
     refine ⟨_,vs',fun i=>(p::ps).getD i (0,0),rfl,s.seq hq,by rw [ln];simp,fun i v e=>?_,fun i v e hb=>?_⟩
     ·obtain ⟨r',_⟩:=el i v e
      cases r' with
      | tuple hT ra=>
       have e2:∀ {l:List V},RepAll X.K G l [.int ((p::ps).getD i (0,0)).1,.int ((p::ps).getD i (0,0)).2]→l=[.int ((p::ps).getD i (0,0)).1,.int ((p::ps).getD i (0,0)).2]:=fun {l} ra=>by
        cases ra with | cons r1 rr=>cases rr with | cons r2 rr=>cases rr;cases r1;cases r2;rfl
       rw [e2 ra] at hT
       exact ⟨_,rfl,iO s hT⟩
     ·obtain ⟨r',hi⟩:=el i v e
      have mem:∀ j,j<(p::ps).length→(p::ps).getD j (0,0)∈p::ps:=fun j hj=>by
       rw [List.getD_eq_getElem?_getD,List.getElem?_eq_getElem hj];exact List.getElem_mem hj
      have le:=a1j (mem i hi) fun x hx=>by
       obtain ⟨j,hj,rfl⟩:=List.getElem_of_mem hx
       have:=hb j (by rw [ln,List.length_map];exact hj)
       dsimp only at this
       rwa [show (p::ps).getD j (0,0)=(p::ps)[j] from by rw [List.getD_eq_getElem?_getD,List.getElem?_eq_getElem hj];rfl] at this
      exact q v G H (.refl s) (le▸r')⟩
  ·cases h
 ·cases h
end
end L2.L3
namespace L2.L3
open PySem PySem.Spec PyProof.Rows
def blD:PyData→Option Bool
 | .bool b=>some b
 | _=>none
theorem a8K {d:PyData} {b:Bool} (h:blD d=some b):d=.bool b:=by
 unfold blD at h
 split at h
 ·cases h;rfl
 ·cases h
def b3y (x y:PyData):Option PyData:=match x,y with
 | .list xs,.int k=>(match eL intD xs with | some ns=>some (.int (ns.count k:Nat)) | none=>none)
 | .list xs,.bool c=>(match eL blD xs with | some bs=>some (.int (bs.count c:Nat)) | none=>none)
 | _,_=>none
def b3e (x y:PyData):Option PyData:=match x,y with
 | .list xs,.bool c=>(match eL blD xs with | some bs=>if c∈bs then some (.int (bs.idxOf c:Nat)) else none | none=>none)
 | _,_=>none
theorem nU:∀ {bs:List Bool} {us:List Value},aY (bs.map V.bl) us→us=bs.map Value.bool
 | [],_,.nil=>rfl
 | b::bs,_,.cons r t=>by cases r;rw [List.map_cons,nU t]
theorem vJ (k:Int):∀ {us:List Value} {ns:List Int},aY (ns.map V.int) us→us.countP (isInt k)=ns.count k
 | _,[],.nil=>rfl
 | _,n::ns,.cons ⟨t,e⟩ r=>by
  subst e
  rw [List.countP_cons,List.count_cons,vJ k r]
  rfl
section
variable {X:Cx} {o e:Expr} {fo fa:EF} {apos cpos:Pos}
theorem a4P:MtM X "list.count" (fun x vs H Q=>∃ (p:Addr) (ns:List Int) (k:Int),x=.ref p∧vs=[.int k]∧SqL X.K H p (ns.map V.int)∧Q (.int (ns.count k:Nat)) H):=by
 intro pins s σ H x vs v us Q I rx rv ⟨p,ns,k,e1,e2,hq,q⟩
 subst e1 e2
 cases rx
 obtain ⟨u,rfl,t,rfl⟩:=rv.one
 obtain ⟨its,r1,p1,hz⟩:=I.list hq
 obtain ⟨⟨c1,d1,t1,sl1⟩,n1,g1,k1,_,m1⟩:=p1
 dsimp only at k1 m1
 subst k1 m1
 have hi:=intsAre_of r1
 refine call_meets F.slot_list_count ⟨_,g1,rfl⟩ F.entry_list_count (F.args_list_count_2 _ _)
  (SeqAt.list_countAt p its.toArray n1 d1 sl1 (.int k t) (isInt k)) ⟨g1,fun y hy=>(eq_isInt k t hi y (by simpa using hy)).at _ _,⟨.int _,H,I.tok _,⟨_,rfl⟩,?_⟩⟩
 have:(its.toArray.toList.countP (isInt k):Nat)=ns.count k:=by simpa using vJ k r1
 rw [this];exact q
def a7A (c:Bool):Value→Bool
 | .bool b=>b==c
 | _=>false
theorem a4Q:MtM X "list.count" (fun x vs H Q=>∃ (p:Addr) (bs:List Bool) (c:Bool),x=.ref p∧vs=[.bl c]∧SqL X.K H p (bs.map V.bl)∧Q (.int (bs.count c:Nat)) H):=by
 intro pins s σ H x vs v us Q I rx rv ⟨p,bs,c,e1,e2,hq,q⟩
 subst e1 e2
 cases rx
 obtain ⟨u,rfl,rfl⟩:=rv.one
 obtain ⟨its,r1,p1,hz⟩:=I.list hq
 obtain ⟨⟨c1,d1,t1,sl1⟩,n1,g1,k1,_,m1⟩:=p1
 dsimp only at k1 m1
 subst k1 m1
 have hi:=nU r1
 subst hi
 refine call_meets F.slot_list_count ⟨_,g1,rfl⟩ F.entry_list_count (F.args_list_count_2 _ _)
  (SeqAt.list_countAt p (bs.map Value.bool).toArray n1 d1 sl1 (.bool c) (a7A c)) ⟨g1,fun y hy=>?_,⟨.int _,H,I.tok _,⟨_,rfl⟩,?_⟩⟩
 ·obtain ⟨b,_,rfl⟩:=List.mem_map.mp (show y∈bs.map Value.bool by simpa using hy)
  exact SeqAt.EqAt.bool_bool b c
 ·have:((bs.map Value.bool).toArray.toList.countP (a7A c):Nat)=bs.count c:=by
   rw [List.countP_map]
   rfl
  rw [this];exact q
theorem a4O:MtM X "list.index" (fun x vs H Q=>∃ (p:Addr) (bs:List Bool) (c:Bool),x=.ref p∧vs=[.bl c]∧SqL X.K H p (bs.map V.bl)∧c∈bs∧Q (.int (bs.idxOf c:Nat)) H):=by
 intro pins s σ H x vs v us Q I rx rv ⟨p,bs,c,e1,e2,hq,hc,q⟩
 subst e1 e2
 cases rx
 obtain ⟨u,rfl,rfl⟩:=rv.one
 obtain ⟨its,r1,p1,hz⟩:=I.list hq
 obtain ⟨⟨c1,d1,t1,sl1⟩,n1,g1,k1,_,m1⟩:=p1
 dsimp only at k1 m1
 subst k1 m1
 have hi:=nU r1
 subst hi
 have lt:bs.idxOf c<bs.length:=List.idxOf_lt_length_iff.mpr hc
 rw [List.length_map] at hz
 have hz2:(sizeLine:Nat)<2 ^ 62:=by rw [sizeLine_eq];decide
 refine call_meets F.slot_list_index ⟨_,g1,rfl⟩ F.entry_list_index (F.args_list_index_2 _ _)
  (SeqAt.list_indexAt p (bs.map Value.bool).toArray n1 d1 sl1 (.bool c) (a7A c) (bs.idxOf c) (by simpa using lt) (by omega) ?_ ?_) ⟨g1,fun y hy=>?_,⟨.int _,H,I.tok _,⟨_,rfl⟩,q⟩⟩
 ·have:=List.getElem_idxOf lt
  simpa [a7A] using this
 ·intro j hjs hlt
  have h1:j<bs.length:=by simpa using hjs
  have:=List.not_of_lt_findIdx (p:=(·==c)) (xs:=bs) hlt
  simpa [a7A] using this
 ·obtain ⟨b,_,rfl⟩:=List.mem_map.mp (show y∈bs.map Value.bool by simpa using hy)
  exact SeqAt.EqAt.bool_bool b c
theorem a8q (ho:DE X o fo) (ha:DE X e fa)
  (hbase:attributeBase o "count" X.env (eval o X.env)=eval o X.env:=by rfl)
  (hfew:((backTo cpos (starEach (e::[]) X.env)).all (fun x=>!x.1)&&(backToKw cpos (keywordEach [] X.env)).all (fun x=>x.1.isSome)&&decide ((e::[]).length+([]:List Keyword).length+(if ([]:List Keyword).isEmpty then 0 else 1)<30))=true:=by rfl)
  (hline:(apos.endLine==cpos.line)=true:=by rfl) (hst:starEach (e::[]) X.env=(false,eval e X.env)::starEach [] X.env:=by rfl) (hplain:(backTo cpos (starEach [] X.env)).any (·.1)=false:=by rfl) :
  DE X (.Call (.Attribute o "count" apos) [e] [] cpos) (dfE b3y fo fa):=lI fun ρ r h=>by
 unfold dfE at h
 split at h
 ·rename_i x y ea eb
  obtain ⟨d,ed,rfl⟩:=aX h
  refine ⟨d,rfl,?_⟩
  unfold b3y at ed
  split at ed
  ·rename_i xs k
   split at ed
   ·rename_i ns ei
    have hx:=dG (g:=PyData.int) (fun d a q=>lA q) ei
    subst hx
    cases (Option.some.inj ed)
    exact a0W F.plainAttrs_list F.slot_list_count F.type_list_count a4P (ho.pd ea) (dQ (ha.pd eb) gB hst) (fun x G H s r=>by cases r with | list hq _=>exact .inl ⟨rfl,_,s.seq hq⟩) (fun x vs G H Q s r rs q=>by
     cases r with
     | list hq ra=>
      have e:=ra.ints
      subst e
      cases rs with
      | cons r1 r2=>cases r1;cases r2;exact ⟨_,ns,k,rfl,rfl,s.seq hq,q _ G H (.refl s) (.int _)⟩) hbase hfew hline hst hplain
   ·cases ed
  ·rename_i xs c
   split at ed
   ·rename_i bs ei
    have hx:=dG (g:=PyData.bool) (fun d a q=>a8K q) ei
    subst hx
    cases (Option.some.inj ed)
    exact a0W F.plainAttrs_list F.slot_list_count F.type_list_count a4Q (ho.pd ea) (dQ (ha.pd eb) gB hst) (fun x G H s r=>by cases r with | list hq _=>exact .inl ⟨rfl,_,s.seq hq⟩) (fun x vs G H Q s r rs q=>by
     cases r with
     | list hq ra=>
      have e:=ra.bools
      subst e
      cases rs with
      | cons r1 r2=>cases r1;cases r2;exact ⟨_,bs,c,rfl,rfl,s.seq hq,q _ G H (.refl s) (.int _)⟩) hbase hfew hline hst hplain
   ·cases ed
  ·cases ed
 ·cases h
theorem a5o (ho:DE X o fo) (ha:DE X e fa)
  (hbase:attributeBase o "index" X.env (eval o X.env)=eval o X.env:=by rfl)
  (hfew:((backTo cpos (starEach (e::[]) X.env)).all (fun x=>!x.1)&&(backToKw cpos (keywordEach [] X.env)).all (fun x=>x.1.isSome)&&decide ((e::[]).length+([]:List Keyword).length+(if ([]:List Keyword).isEmpty then 0 else 1)<30))=true:=by rfl)
  (hline:(apos.endLine==cpos.line)=true:=by rfl) (hst:starEach (e::[]) X.env=(false,eval e X.env)::starEach [] X.env:=by rfl) (hplain:(backTo cpos (starEach [] X.env)).any (·.1)=false:=by rfl) :
  DE X (.Call (.Attribute o "index" apos) [e] [] cpos) (dfE b3e fo fa):=lI fun ρ r h=>by
 unfold dfE at h
 split at h
 ·rename_i x y ea eb
  obtain ⟨d,ed,rfl⟩:=aX h
  refine ⟨d,rfl,?_⟩
  unfold b3e at ed
  split at ed
  ·rename_i xs c
   split at ed
   ·rename_i bs ei
    split at ed
    ·rename_i hk
     have hx:=dG (g:=PyData.bool) (fun d a q=>a8K q) ei
     subst hx
     cases (Option.some.inj ed)
     exact a0W F.plainAttrs_list F.slot_list_index F.type_list_index a4O (ho.pd ea) (dQ (ha.pd eb) gB hst) (fun x G H s r=>by cases r with | list hq _=>exact .inl ⟨rfl,_,s.seq hq⟩) (fun x vs G H Q s r rs q=>by
      cases r with
      | list hq ra=>
       have e:=ra.bools
       subst e
       cases rs with
       | cons r1 r2=>cases r1;cases r2;exact ⟨_,bs,c,rfl,rfl,s.seq hq,hk,q _ G H (.refl s) (.int _)⟩) hbase hfew hline hst hplain
    ·cases ed
   ·cases ed
  ·cases ed
 ·cases h
end
end L2.L3
namespace L2.L3
open PySem PySem.Spec PyProof.Rows
section
variable {X:Cx} {b:Expr} {fb:EF} {p pos:Pos}
def oB (i:Nat) (fb:EF):EF:=fun ρ=>match ρ[i]?,fb ρ with
 | some (.lst ds),some (.ok (.int k))=>lft (atI ds k)
 | _,_=>none
theorem mF (i:Nat) {x:Str} (hb:DE X b fb) (hs:sQ b:=by exact fun _ _=>rfl) (hN:X.N[i]?=some x:=by rfl)
  (hv:Vis X.env.scope x:=by first | exact Or.inl rfl | exact Or.inr (Or.inl rfl) | exact Or.inr (Or.inr rfl)) (hd:(x==("__debug__" : Str))=false:=by decide) (hcd:(x==("__classdict__" : Str))=false:=by decide) :
  DE X (.Subscript (.Name x p) b pos) (oB i fb):=lI fun ρ r e=>by
 unfold oB at e
 split at e
 ·rename_i ds k h1 h2
  obtain ⟨d,ed,rfl⟩:=aX e
  exact ⟨d,rfl,a6P i h1 (hb.pd h2) ed hs hN hv hd hcd⟩
 ·cases e
end
end L2.L3
namespace L2.L3
open PySem PySem.Spec PyProof.Rows
abbrev uQ:EF:=cF (.nm 0) [none] (fF (var 0)) ttT (aU bV (aB (var 0) aF))
abbrev tG:TF:=orT (hV (gG (op1 (isD "tuple") (var 0)))) (hV (gG (dF allB (aB uQ aF))))
abbrev uL:EF:=cF (.nm 0) [none,some 1] (fF (var 0)) ttT (a5t leD ltD (cst (.int 0)) (var 0) (var 1))
def nN:SF:=(aW (ifS tG (retS (cst (.bool false))) fG) (retS (qZ (aU cQ (aB (dF a4S (aB (var 0) aF)) aF)) (dF allB (aB uL aF)))))
def gF:List PyData→Mm PyData:=cU 2 2 nN
def wB:SF:=(retS (op2 cZ (op2 cZ (op2 ixD (var 0) (cst (.int 1))) (op2 jC (op2 ixD (var 0) (cst (.int 3))) (op2 sC (op2 ixD (var 0) (cst (.int 4))) (cst (.int 1))))) (op2 ixD (var 0) (cst (.int 2)))))
def jZ:List PyData→Mm PyData:=cU 1 1 wB
abbrev yP:TF:=orT (hV (gG (op1 (isD "tuple") (var 0)))) (orT (fH neD (dF nB (aB (var 0) aF)) (cst (.int 6))) (hV (gG (aU eQ (aB (op2 ixD (var 0) (cst (.int 0))) aF)))))
abbrev zS:EF:=cF (.nm 0) [none] (fF (slE (var 0) (fM (cst (.int 1))) (fM (cst (.int 5))))) ttT (aU bV (aB (var 0) aF))
abbrev yO:TF:=hV (gG (dF allB (aB zS aF)))
abbrev yN:TF:=orT (fH ltD (op2 ixD (var 0) (cst (.int 1))) (cst (.int 0))) (orT (fH ltD (op2 ixD (var 0) (cst (.int 2))) (cst (.int 1))) (orT (fH ltD (op2 ixD (var 0) (cst (.int 3))) (cst (.int 1))) (hV (a8A leD leD (cst (.int 1)) (op2 ixD (var 0) (cst (.int 4))) (cst (.int 10))))))
def rP:SF:=(aW (ifS yP (retS (cst (.bool false))) fG) (aW (ifS yO (retS (cst (.bool false))) fG) (aW (ifS yN (retS (cst (.bool false))) fG) (retS (qZ (aU gF (aB (op2 ixD (var 0) (cst (.int 5))) (aB (op2 ixD (var 0) (cst (.int 4))) aF))) (oG leD (aU jZ (aB (var 0) aF)) (cst (.int 480))))))))
def gT:List PyData→Mm PyData:=cU 1 1 rP
abbrev mJ:SF:=a5K 1 (op2 cZ (op2 cZ (slE (oB 0 (cst (.int 0))) gI (fM (var 2))) (aK (aB (var 3) aF))) (slE (oB 0 (cst (.int 0))) (fM (op2 cZ (var 2) (cst (.int 1)))) gI))
abbrev mI:SF:=a5f (.nm 3) (fF (aK (aB (cst .none) (aB (cst (.bool true)) (aB (cst (.str "1")) (aB (aK (aB (cst (.int 1)) aF)) aF)))))) mJ
abbrev gM:EF:=cF (.nm 0) [none] (fF (var 0)) ttT (aU gT (aB (var 0) aF))
abbrev gL:EF:=cF (.nm 0) [none] (fF (var 1)) ttT (aU gT (aB (var 0) aF))
abbrev gH:TF:=thT (orT (fH neD gM (yY (aB (cst (.bool true)) aF) (cst (.int 6)))) (fH neD gL (yY (aB (cst (.bool false)) aF) (cst (.int 37)))))
abbrev mB:EF:=cF (.nm 0) [none] (a9h (cst (.int 1)) (cst (.int 9))) ttT (aK (aB (op2 jC (cst (.int 50)) (var 0)) (aB (op2 cZ (op2 jC (cst (.int 50)) (var 0)) (cst (.int 30))) aF)))
def iD:SF:=(aW (vW 0 (aB (aK (aB (cst (.str "a")) (aB (cst (.int 0)) (aB (cst (.int 1)) (aB (cst (.int 1)) (aB (cst (.int 1)) (aB (aK aF) aF))))))) (aB (aK (aB (cst (.str "abcd")) (aB (cst (.int 0)) (aB (cst (.int 480)) (aB (cst (.int 1)) (aB (cst (.int 1)) (aB (aK aF) aF))))))) (aB (aK (aB (cst (.str "a")) (aB (cst (.int 479)) (aB (cst (.int 1)) (aB (cst (.int 999)) (aB (cst (.int 1)) (aB (aK (aB (cst (.int 0)) aF)) aF))))))) aF)))) (aW (mD 0 (eY (aB (aK (aB (cst (.str "a")) (aB (cst (.int 0)) (aB (cst (.int 30)) (aB (cst (.int 50)) (aB (cst (.int 10)) (aB (aK (aB (cst (.int 0)) (aB (cst (.int 9)) aF))) aF))))))) (aB (aK (aB (cst (.str "a")) (aB (cst (.int 5)) (aB (cst (.int 2)) (aB (cst (.int 1)) (aB (cst (.int 3)) (aB (aK (aB (cst (.int 0)) (aB (cst (.int 1)) (aB (cst (.int 2)) aF)))) aF))))))) (aB (aK (aB (cst (.str "a")) (aB (cst (.int 30)) (aB (cst (.int 9)) (aB (cst (.int 49)) (aB (cst (.int 10)) (aB (aK aF) aF))))))) aF))))) (aW (vW 1 (aB (aK (aB (cst (.str "a")) (aB (cst (.int 0)) (aB (cst (.int 481)) (aB (cst (.int 1)) (aB (cst (.int 1)) (aB (aK aF) aF))))))) (aB (aK (aB (cst (.str "a")) (aB (cst (.int 480)) (aB (cst (.int 1)) (aB (cst (.int 1)) (aB (cst (.int 1)) (aB (aK aF) aF))))))) (aB (aK (aB (cst (.str "a")) (aB (cst (.int 31)) (aB (cst (.int 9)) (aB (cst (.int 49)) (aB (cst (.int 10)) (aB (aK aF) aF))))))) (aB (aK (aB (cst (.str "a")) (aB (cst (.int 30)) (aB (cst (.int 10)) (aB (cst (.int 49)) (aB (cst (.int 10)) (aB (aK aF) aF))))))) aF))))) (aW (mD 1 (eY (aB (aK (aB (cst (.str "a")) (aB (cst (.int 30)) (aB (cst (.int 9)) (aB (cst (.int 50)) (aB (cst (.int 10)) (aB (aK aF) aF))))))) (aB (aK (aB (cst (.str "a")) (aB (cst (.int 0)) (aB (cst (.int 1)) (aB (cst (.int 1)) (aB (cst (.int 11)) (aB (aK aF) aF))))))) (aB (aK (aB (cst (.str "a")) (aB (cst (.int 0)) (aB (cst (.int 1)) (aB (cst (.int 1)) (aB (cst (.int 0)) (aB (aK aF) aF))))))) (aB (aK (aB (cst (.str "a")) (aB (op1 nA (cst (.int 1))) (aB (cst (.int 2)) (aB (cst (.int 3)) (aB (cst (.int 2)) (aB (aK aF) aF))))))) aF)))))) (aW (mD 1 (eY (aB (aK (aB (cst (.str "a")) (aB (cst (.int 0)) (aB (cst (.int 0)) (aB (cst (.int 3)) (aB (cst (.int 2)) (aB (aK aF) aF))))))) (aB (aK (aB (cst (.str "a")) (aB (cst (.int 0)) (aB (cst (.int 1)) (aB (cst (.int 0)) (aB (cst (.int 2)) (aB (aK aF) aF))))))) (aB (aK (aB (cst (.str "a")) (aB (cst (.int 0)) (aB (cst (.int 1)) (aB (cst (.int 1)) (aB (cst (.int 2)) (aB (aK (aB (cst (.int 2)) aF)) aF))))))) (aB (aK (aB (cst (.str "a")) (aB (cst (.int 0)) (aB (cst (.int 1)) (aB (cst (.int 1)) (aB (cst (.int 2)) (aB (aK (aB (op1 nA (cst (.int 1))) aF)) aF))))))) aF)))))) (aW (mD 1 (eY (aB (aK (aB (cst (.str "a")) (aB (cst (.int 0)) (aB (cst (.int 1)) (aB (cst (.int 1)) (aB (cst (.int 3)) (aB (aK (aB (cst (.int 1)) (aB (cst (.int 0)) aF))) aF))))))) (aB (aK (aB (cst (.str "a")) (aB (cst (.int 0)) (aB (cst (.int 1)) (aB (cst (.int 1)) (aB (cst (.int 3)) (aB (aK (aB (cst (.int 1)) (aB (cst (.int 1)) aF))) aF))))))) (aB (aK (aB (cst (.str "a")) (aB (cst (.int 0)) (aB (cst (.int 1)) (aB (cst (.int 1)) (aB (cst (.int 3)) (aB (eY (aB (cst (.int 0)) aF)) aF))))))) aF))))) (aW (a5K 1 (aK (aB (cst (.str "abcde")) (aB (cst (.int 0)) (aB (cst (.int 1)) (aB (cst (.int 1)) (aB (cst (.int 1)) (aB (aK aF) aF)))))))) (aW (a5f (.nm 2) (a9h (cst (.int 1)) (cst (.int 5))) mI) (aW (mD 1 (eY (aB (aK (aB (cst (.str "a")) (aB (cst (.int 0)) (aB (cst (.int 1)) (aB (cst (.int 1)) (aB (cst (.int 2)) (aB (aK (aB (cst .none) aF)) aF))))))) (aB (aK (aB (cst (.str "a")) (aB (cst (.int 0)) (aB (cst (.int 1)) (aB (cst (.int 1)) (aB (cst (.int 2)) (aB (aK (aB (cst (.bool true)) aF)) aF))))))) (aB (slE (oB 0 (cst (.int 0))) gI (fM (cst (.int 5)))) (aB (op2 cZ (oB 0 (cst (.int 0))) (aK (aB (aK aF) aF))) (aB (dF a4S (aB (oB 0 (cst (.int 0))) aF)) aF))))))) (aW (ifS gH (retS (cst (.bool false))) fG) (a1u 0 (retS (qZ (oG eqD (aU lC (aB (op2 ixD (var 0) (cst (.int 3))) aF)) mB) (oG eqD (aU lC (aB (op2 ixD (var 0) (cst (.int 4))) aF)) (eY aF)))))))))))))))
def bX:List PyData→Mm PyData:=cU 4 0 iD
abbrev nD:EF:=cF (.nm 0) [none] (a0Q (cst (.int 4))) ttT (aK (aB (op2 sC (op2 jC (var 0) (cst (.int 3))) (cst (.int 4))) (aB (op2 sC (cst (.int 24)) (op2 jC (cst (.int 12)) (var 0))) aF)))
abbrev iC:EF:=cF (.nm 0) [none] (fF (op2 cZ (var 1) (var 2))) ttT (aU mZ (aB (var 0) aF))
def iZ:SF:=(aW (dO 0 (dF yL (aB nD aF))) (aW (dO 1 (eY (aB (aK (aB (aK (aB (cst .none) (aB (cst (.int 24)) aF))) aF)) (aB (aK (aB (aK (aB (cst .none) (aB (op1 nA (cst (.int 24))) aF))) aF)) (aB (op2 cZ (aK (aB (aK (aB (cst .none) (aB (cst (.int 0)) aF))) aF)) (var 0)) (aB (op2 cZ (aK (aB (aK (aB (cst .none) (aB (cst (.int 0)) aF))) aF)) (slE (var 0) gI (fM (cst (.int 1))))) (aB (aK (aB (aK (aB (cst .none) (aB (cst (.int 1)) aF))) (aB (aK (aB (cst (.int 0)) (aB (cst (.int 1)) aF))) aF))) aF))))))) (aW (vW 2 (aB (aK aF) (aB (aK (aB (aK (aB (cst .none) (aB (cst (.int 25)) aF))) aF)) (aB (aK (aB (aK (aB (cst .none) (aB (op1 nA (cst (.int 25))) aF))) aF)) (aB (op2 cZ (op2 cZ (aK (aB (aK (aB (cst .none) (aB (cst (.int 0)) aF))) aF)) (var 0)) (aK (aB (aK (aB (cst (.int 99)) (aB (cst (.int 0)) aF))) aF))) (aB (aK (aB (aK (aB (cst (.int 0)) (aB (cst (.int 0)) aF))) aF)) (aB (aK (aB (aK (aB (cst .none) (aB (cst (.int 0)) aF))) (aB (aK (aB (cst .none) (aB (cst (.int 1)) aF))) aF))) aF))))))) (aW (mD 2 (eY (aB (aK (aB (aK (aB (cst .none) (aB (cst (.int 0)) aF))) (aB (aK (aB (cst (.int 3)) (aB (cst (.int 0)) aF))) (aB (aK (aB (cst (.int 3)) (aB (cst (.int 1)) aF))) aF)))) (aB (aK (aB (aK (aB (cst .none) (aB (cst (.int 0)) aF))) (aB (aK (aB (cst (.int 3)) (aB (cst (.int 0)) aF))) (aB (aK (aB (cst (.int 2)) (aB (cst (.int 1)) aF))) aF)))) (aB (aK (aB (aK (aB (cst .none) (aB (cst (.bool true)) aF))) aF)) (aB (aK (aB (aK (aB (cst .none) (aB (cst (.int 0)) aF))) (aB (aK (aB (cst (.bool true)) (aB (cst (.int 1)) aF))) aF))) aF)))))) (aW (mD 2 (eY (aB (aK (aB (aK (aB (cst .none) (aB (cst .none) aF))) aF)) (aB (aK (aB (aK (aB (cst .none) (aB (cst (.int 0)) (aB (cst (.int 0)) aF)))) aF)) (aB (aK (aB (aK (aB (cst .none) (aB (cst (.int 0)) aF))) (aB (aK (aB (cst (.int 1)) (aB (cst (.int 25)) aF))) aF))) (aB (aK (aB (aK (aB (cst .none) (aB (cst (.int 0)) aF))) (aB (aK (aB (cst (.int 1)) (aB (op1 nA (cst (.int 25))) aF))) aF))) (aB (aK (aB (aK (aB (cst .none) (aB (cst (.int 0)) aF))) (aB (aK (aB (aK (aB (cst (.int 1)) aF)) (aB (cst (.int 1)) aF))) aF))) aF))))))) (aW (mD 2 (eY (aB (eY (aB (aK (aB (cst .none) (aB (cst (.int 0)) aF))) aF)) (aB (aK (aB (aK (aB (cst .none) (aB (cst (.int 0)) aF))) (aB (eY (aB (cst (.int 1)) (aB (cst (.int 1)) aF))) aF))) (aB (cst .none) (aB (aK (aB (aK (aB (cst .none) aF)) aF)) (aB (aK (aB (aK (aB (cst .none) (aB (cst (.int 0)) aF))) (aB (aK (aB (cst (.str "1")) (aB (cst (.int 1)) aF))) aF))) aF))))))) (a1u 2 (retS (oG eqD iC (op2 cZ (yY (aB (cst (.bool true)) aF) (cst (.int 5))) (yY (aB (cst (.bool false)) aF) (cst (.int 20)))))))))))))
def bZ:List PyData→Mm PyData:=cU 3 0 iZ
abbrev vZ:EF:=cF (.tp [0,1]) [none,none] (b1s (var 1) (slE (var 1) (fM (cst (.int 1))) gI)) (fH ltD (op2 ixD (var 0) (cst (.int 2))) (op2 ixD (var 1) (cst (.int 1)))) (var 0)
def zY:SF:=(aW (dO 1 (aU fV (aB (var 0) aF))) (retS (dF nB (aB vZ aF))))
def lF:List PyData→Mm PyData:=cU 2 1 zY
abbrev sF:EF:=cF (.nm 0) [none,some 1,some 4] (fF (var 0)) (fH eqD (a7N (var 1) (op2 ixD (var 0) (cst (.int 0)))) (var 2)) (var 0)
abbrev sH:SF:=b0N 3 .Add (aU lF (aB sF aF))
def uX:SF:=(aW (dO 3 (cst (.int 0))) (aW (a5f (.nm 4) (a0Q (var 2)) sH) (retS (var 3))))
def bQ:List PyData→Mm PyData:=cU 5 3 uX
abbrev a4l:TF:=thT (orT (fH neD (dfE b3y (var 1) (cst (.bool true))) (cst (.int 1))) (hV (gG (b2V 0))))
def a7X:SF:=(aW (vW 1 (aB (a1q 0 "NoMeeting") (aB (a1q 0 "NoText") (aB (a1q 0 "NoTime") (aB (a1q 0 "NoZone") aF))))) (aW (mD 1 (eY (aB (a1q 0 "Taken") (aB (a1q 0 "TooMany") aF)))) (aW (ifS a4l (retS (cst (.str "wrong"))) fG) (a1u 1 (retS (op2 ixD (eY (aB (cst (.str "no meeting")) (aB (cst (.str "no text")) (aB (cst (.str "no time")) (aB (cst (.str "no zone")) (aB (cst (.str "taken")) (aB (cst (.str "too many")) aF))))))) (dfE b3e (var 1) (cst (.bool true)))))))))
def jB:Str→Mm PyData:=b1T 2 a7X
abbrev a0r:SF:=dO 2 (sB gE (aB (var 0) aF))
abbrev a3k:TF:=b2X 1
def uZ:SF:=(aW (dO 1 (cst .none)) (aW (dO 2 (cst .none)) (aW (vQ 1 3 cB a0r) (aW (ifS a3k (retS (var 2)) fG) (retS (qY jB 1))))))
def iA:List PyData→Mm PyData:=cU 4 1 uZ
abbrev a6g:TF:=orT (hV (gG (aU bX aF))) (hV (gG (aU bZ aF)))
abbrev a6f:TF:=fH neD (aU fE (aB (eY (aB (var 4) aF)) (aB (op2 sC (var 3) (var 1)) (aB (var 1) aF)))) (dF b0g (aB (oG ltD (op2 sC (var 3) (var 1)) (op2 ixD (op2 ixD (var 4) (cst (.int 0))) (cst (.int 2)))) aF))
abbrev a7w:EF:=cF (.nm 0) [none,some 4,some 1] (fF (var 5)) ttT (aK (aB (aU fE (aB (eY (aB (var 1) aF)) (aB (var 0) (aB (var 2) aF)))) (aB (var 0) aF)))
abbrev a6e:TF:=fH neD (aU cR (aB (eY (aB (var 4) aF)) (aB (var 2) (aB (var 3) (aB (var 1) aF))))) (aK (aB (op2 ixD (var 6) (cst (.int 1))) (aB (op2 ixD (var 6) (cst (.int 0))) aF)))
abbrev a2i:TF:=isT true (.none) (aU cR (aB (eY (aB (var 4) aF)) (aB (var 2) (aB (op2 sC (op2 cZ (var 2) (var 1)) (cst (.int 1))) (aB (var 1) aF)))))
abbrev a6d:TF:=fH neD (aU cR (aB (eY (aB (var 4) aF)) (aB (var 2) (aB (op2 cZ (var 2) (var 1)) (aB (var 1) aF))))) (aK (aB (var 2) (aB (cst (.int 1)) aF)))
abbrev a7v:EF:=cF (.nm 0) [none,some 8,some 9] (fF (aK (aB (cst (.int 0)) (aB (cst (.int 1)) (aB (cst (.int 2)) aF))))) ttT (aU bQ (aB (var 1) (aB (var 2) (aB (var 0) aF))))
abbrev a6c:TF:=fH neD a7v (eY (aB (cst (.int 0)) (aB (var 7) (aB (op2 jC (cst (.int 2)) (var 7)) aF))))
abbrev a2h:TF:=orT (fH neD (aU iA (aB (var 10) aF)) (aK (aB (aK (aB (cst (.str "a")) (aB (cst (.int 0)) (aB (cst (.int 1)) aF)))) (aB (aK (aB (cst (.str "b")) (aB (cst (.int 47)) (aB (cst (.int 480)) aF)))) aF)))) (fH neD (aU iA (aB (cst (.str "")) aF)) (aK aF))
abbrev zR:EF:=cF (.nm 0) [none] (fF (var 11)) ttT (aU iA (aB (var 0) aF))
def a7W:SF:=(aW (ifS a6g (retS (cst (.bool false))) fG) (aW (b1C (.tp [1,2]) (aK (aB (op2 cZ (cst (.int 1)) (aU eO (aB (var 0) (aB (cst (.int 0)) (aB (cst (.int 5)) aF))))) (aB (aU eO (aB (var 0) (aB (cst (.int 1)) (aB (cst (.int 20)) aF)))) aF)))) (aW (dO 3 (op2 cZ (op2 cZ (var 2) (var 1)) (aU eO (aB (var 0) (aB (cst (.int 2)) (aB (cst (.int 12)) aF)))))) (aW (dO 4 (aK (aB (aK (aB (cst (.str "a")) (aB (var 2) (aB (dF a7i (aB (op2 cZ (var 2) (cst (.int 1))) (aB (op2 sC (var 3) (var 1)) aF))) aF)))) aF))) (aW (ifS a6f (retS (cst (.bool false))) fG) (aW (dO 5 (a1d (var 2) (op2 cZ (op2 sC (var 3) (var 1)) (cst (.int 1))))) (aW (dO 6 (dF a3G (aB a7w aF))) (aW (ifS a6e (retS (cst (.bool false))) fG) (aW (ifS a2i (retS (cst (.bool false))) fG) (aW (ifS a6d (retS (cst (.bool false))) fG) (aW (dO 7 (aU eO (aB (var 0) (aB (cst (.int 3)) (aB (cst (.int 2)) aF))))) (aW (dO 8 (aK (aB (aK (aB (cst (.str "a")) (aB (cst (.int 3)) (aB (cst (.int 5)) aF)))) (aB (aK (aB (cst (.str "b")) (aB (op2 cZ (cst (.int 5)) (var 7)) (aB (cst (.int 9)) aF)))) (aB (aK (aB (cst (.str "c")) (aB (op2 cZ (cst (.int 9)) (var 7)) (aB (cst (.int 12)) aF)))) (aB (aK (aB (cst (.str "d")) (aB (op2 cZ (cst (.int 12)) (var 7)) (aB (cst (.int 14)) aF)))) aF)))))) (aW (dO 9 (dF rY (aB (eY (aB (aK (aB (cst (.str "a")) (aB (cst (.int 0)) aF))) (aB (aK (aB (cst (.str "b")) (aB (cst (.int 0)) aF))) (aB (aK (aB (cst (.str "c")) (aB (cst (.int 1)) aF))) (aB (aK (aB (cst (.str "d")) (aB (cst (.int 1)) aF))) aF))))) aF))) (aW (ifS a6c (retS (cst (.bool false))) fG) (aW (dO 10 (aU kH (aB (aK (aB (aK (aB (cst (.str "a")) (aB (cst (.int 0)) (aB (cst (.int 1)) aF)))) (aB (aK (aB (cst (.str "b")) (aB (cst (.int 47)) (aB (cst (.int 480)) aF)))) aF))) aF))) (aW (ifS a2h (retS (cst (.bool false))) fG) (aW (vW 11 (aB (a9a (var 10) gI (fM (op1 nA (cst (.int 1))))) (aB (op2 cZ (var 10) (cst (.str "\n"))) (aB (cst (.str "a\n")) (aB (cst (.str "a 0\n")) (aB (cst (.str "a 0 1\n")) (aB (cst (.str "a 0: 0:1\n")) (aB (cst (.str "a 0:0001 0:0002\n")) (aB (cst (.str "a :0 0:1\n")) aF))))))))) (aW (a5K 11 (cst (.str "a 0:1 0:0\n"))) (aW (mD 11 (eY (aB (cst (.str "a 0:0 10:1\n")) (aB (cst (.str "b 0:0 0:1\na 0:0 0:1\n")) (aB (cst (.str "a 0:48 1:1\n")) (aB (cst (.str "a 0:0 0:0\n")) (aB (cst (.str "A 0:0 0:1\n")) (aB (cst (.str "a  0:0 0:1\n")) aF)))))))) (a1u 11 (retS (oG eqD zR (yY (aB (cst (.str "no text")) aF) (cst (.int 15)))))))))))))))))))))))))
def F_law:List PyData→Mm PyData:=cU 12 1 a7W
end L2.L3
namespace L2.L3
open PySem PySem.Spec PyProof.Rows
def a2L (x:Int):List Int→List Int
 | []=>[x]
 | y::l=>if x≤y then x::y::l else y::a2L x l
def a0I:List Int→List Int
 | []=>[]
 | x::l=>a2L x (a0I l)
theorem qI (x:Int):∀ l,(a2L x l).Perm (x::l)
 | []=>.refl _
 | y::l=>by
  unfold a2L
  split
  ·exact .refl _
  ·exact ((qI x l).cons y).trans (.swap x y l)
theorem rN (x:Int):∀ l:List Int,l.Pairwise (·≤·)→(a2L x l).Pairwise (·≤·)
 | [],_=>by simp [a2L]
 | y::l,h=>by
  unfold a2L
  rw [List.pairwise_cons] at h
  split
  ·rename_i c
   rw [List.pairwise_cons]
   refine ⟨fun z hz=>?_,List.pairwise_cons.mpr h⟩
   rcases List.mem_cons.mp hz with rfl | hz
   ·exact c
   ·have:=h.1 z hz;omega
  ·rename_i c
   rw [List.pairwise_cons]
   refine ⟨fun z hz=>?_,rN x l h.2⟩
   rcases List.mem_cons.mp ((qI x l).mem_iff.mp hz) with rfl | hz
   ·omega
   ·exact h.1 z hz
theorem tJ:∀ l:List Int,(a0I l).Perm l
 | []=>.refl _
 | x::l=>(qI x _).trans ((tJ l).cons x)
theorem oM:∀ l:List Int,(a0I l).Pairwise (·≤·)
 | []=>.nil
 | x::l=>rN x _ (oM l)
theorem a8Z:sortI=a0I:=funext fun l=>(sortI_eq (tJ l) (oM l)).symm
def a6h (x:PyData):Option PyData:=match x with
 | .list xs=>(match eL intD xs with
  | some ns=>if ns.length<64 then some (.list ((a0I (qT ns)).map .int)) else none
  | none=>(match eL yQ xs with
   | some ns=>if ns.length<64 then some (.list ((jD (gA ns)).map .str)) else none
   | none=>none))
 | _=>none
theorem b1M:rC=a6h:=funext fun x=>by unfold rC a6h;rw [a8Z];try (cases x<;>rfl)
theorem a0R:cQ=cU 1 1 (retS (oG eqD (var 0) (op1 a6h (var 0)))):=by
 unfold cQ jL;rw [b1M]
theorem a0J:bX []=some (.ok (.bool true)):=by
 delta bX iD gH gM gL gT rP gF nN
 rw [a0R]
 kernel_rfl
theorem a1X:bZ []=some (.ok (.bool true)):=by
 delta bZ iZ iC mZ xT
 rw [a0R]
 kernel_rfl
end L2.L3
namespace L2.L3
open PySem PySem.Spec PyProof.Rows
def lX (b s2:Int):List (List Mt):=[[("a", b,s2)]]
theorem a2B (b s2:Int):ShsOk (lX b s2):=⟨by simp [lX],fun s hs=>by
 rw [List.mem_singleton.mp hs];simp,fun s hs m hm=>by
 rw [List.mem_singleton.mp hs] at hm
 rw [List.mem_singleton.mp hm]
 show PyData.strOk (Str.ofString "a")=true
 decide +kernel⟩
theorem mX {b s2 t z:Int} (h:b≤t) (hz:0<z):cnt (lX b s2) t z=if t<s2 then 1 else 0:=by
 have e:bz [("a", b,s2)] t (t+z)=decide (t<s2):=by
  unfold bz
  rw [List.any_cons,List.any_nil,Bool.or_false]
  by_cases c:t<s2
  ·rw [decide_eq_true c];exact decide_eq_true (by show max b t<min s2 (t+z);omega)
  ·rw [decide_eq_false c];exact decide_eq_false (by show ¬max b t<min s2 (t+z);omega)
 unfold cnt lX
 by_cases c:t<s2
 ·rw [if_pos c,List.filter_cons_of_pos (by rw [e];exact decide_eq_true c)];rfl
 ·rw [if_neg c,List.filter_cons_of_neg (by rw [e];simpa using c)];rfl
theorem xS {b z p:Int} (hz:0<z) (hp:0≤p):First (lX b (max (b+1) (b+p))) b (b+z+p) z (b+p):=by
 refine ⟨by omega,by omega,fun m h1 h2=>?_,fun m h1 h2=>?_⟩
 ·rw [mX (by omega) hz,mX h1 hz]
  split<;>split<;>omega
 ·rw [mX (by omega) hz,mX h1 hz,if_neg (by omega),if_pos (by omega)];decide
theorem b0l {b z s2:Int} (hz:0<z):First (lX b s2) b (b+z) z b:=by
 refine ⟨by omega,by omega,fun m h1 h2=>?_,fun m h1 h2=>by omega⟩
 rw [show m=b by omega];exact Int.le_refl _
theorem a2T {b z p:Int} (hz:0<z) (hp:0≤p):cR [dSs (lX b (max (b+1) (b+p))),.int b,.int (b+z+p),.int z]=some (.ok (.tuple [.int (b+p),.int (cnt (lX b (max (b+1) (b+p))) (b+p) z)])):=by
 obtain ⟨h1,h2⟩:=(xS (b:=b) hz hp).cand hz
 exact a8i (a2B _ _) h1 h2
theorem a8h {b z s2:Int} (hz:0<z) (h:b<s2):cR [dSs (lX b s2),.int b,.int (b+z),.int z]=some (.ok (.tuple [.int b,.int 1])):=by
 obtain ⟨h1,h2⟩:=(b0l (b:=b) (s2:=s2) hz).cand hz
 have:=a8i (a2B _ _) h1 h2
 rwa [mX (Int.le_refl _) hz,if_pos h] at this
theorem a1i {Ss:List (List Mt)} {b e z t0:Int} (F:First Ss b e z t0) (N:Nat) (hN:(N:Int)=e - z+1 - b):∃ p ps,((List.range N).map fun (k:Nat)=>(cnt Ss (b+(k:Int)) z,b+(k:Int)))=p::ps∧jR p ps=(cnt Ss t0 z,t0):=by
 have l:=F.lo
 have h:=F.hi
 generalize hL:((List.range N).map fun (k:Nat)=>(cnt Ss (b+(k:Int)) z,b+(k:Int)))=L
 have mem:(cnt Ss t0 z,t0)∈L:=by
  rw [←hL]
  exact List.mem_map.mpr ⟨(t0 - b).toNat,List.mem_range.mpr (by omega),by rw [show b+(((t0 - b).toNat:Nat):Int)=t0 by omega]⟩
 have all:∀ q∈L,eJ q (cnt Ss t0 z,t0)=false:=fun q hq=>by
  rw [←hL] at hq
  obtain ⟨k,hk,rfl⟩:=List.mem_map.mp hq
  have hk:=List.mem_range.mp hk
  have a:=F.least (b+(k:Int)) (by omega) (by omega)
  rw [oZ]
  rintro (z' | ⟨z1,z2⟩)
  ·have z':cnt Ss (b+(k:Int)) z<cnt Ss t0 z:=z'
   omega
  ·have z1:cnt Ss (b+(k:Int)) z=cnt Ss t0 z:=z1
   have z2:b+(k:Int)<t0:=z2
   have:=F.first (b+(k:Int)) (by omega) z2
   omega
 cases L with
 | nil=>cases mem
 | cons p ps=>exact ⟨p,ps,rfl,(a1j mem all).symm⟩
theorem w_text:jB "NoText" = some (.ok (.str "no text")):=by kernel_rfl
theorem b4B:cB.contains "NoText" = true:=by decide +kernel
theorem a8R {F:List PyData→Mm PyData} {t:Str} {d:PyData} (er:F [.str t]=some (.ok d)):vQ 1 3 cB (dO 2 (sB F (aB (var 0) aF))) [.val (.str t),.val .none,.val .none,.no]=some (.nx [.val (.str t),.val .none,.val d,.no]):=by
 have e:dO 2 (sB F (aB (var 0) aF)) [.val (.str t),.val .none,.val .none,.no]=some (.nx [.val (.str t),.val .none,.val d,.no]):=by
  rw [eG,a1N (ds:=[.str t]) rfl er];rfl
 unfold vQ
 rw [e]
theorem a8S {F:List PyData→Mm PyData} {t:Str} (er:F [.str t]=some (.ex "NoText")):vQ 1 3 cB (dO 2 (sB F (aB (var 0) aF))) [.val (.str t),.val .none,.val .none,.no]=some (.nx [.val (.str t),.exc "NoText", .val .none,.no]):=by
 have e:dO 2 (sB F (aB (var 0) aF)) [.val (.str t),.val .none,.val .none,.no]=some (.xc "NoText" [.val (.str t),.val .none,.val .none,.no]):=by
  rw [eG,a1N (ds:=[.str t]) rfl er];rfl
 unfold vQ
 rw [e]
 generalize hN:Str.ofString "NoText" = N
 show (if cB.contains N=true then _ else _)=_
 rw [if_pos (by rw [←hN];exact b4B)];rfl
theorem b1G {t:Str} {d:PyData} (er:gE [.str t]=some (.ok d)):vQ 1 3 cB a0r [.val (.str t),.val .none,.val .none,.no]=some (.nx [.val (.str t),.val .none,.val d,.no]):=a8R er
theorem b1H {t:Str} (er:gE [.str t]=some (.ex "NoText")):vQ 1 3 cB a0r [.val (.str t),.val .none,.val .none,.no]=some (.nx [.val (.str t),.exc "NoText", .val .none,.no]):=a8S er
theorem b3j {t:Str}:aW (ifS a3k (retS (var 2)) fG) (retS (qY jB 1)) [.val (.str t),.exc "NoText", .val .none,.no]=some (.rt (.str "no text")):=by
 have w:jB "NoText" = some (.ok (.str "no text")):=w_text
 generalize Str.ofString "NoText" = N at w ⊢
 generalize Str.ofString "no text" = M at w ⊢
 rw [aO (ρ':=[.val (.str t),.exc N,.val .none,.no]) rfl,fL,
  show qY jB 1 [.val (.str t),.exc N,.val .none,.no]=some (.ok (.str M)) from by unfold qY;dsimp only [List.getElem?_cons_succ,List.getElem?_cons_zero];rw [w]]
 rfl
theorem b1l {t:Str} {d:PyData} (er:gE [.str t]=some (.ok d)):iA [.str t]=some (.ok d):=by
 refine bL rfl ?_
 show uZ [.val (.str t),.no,.no,.no]=_
 unfold uZ
 rw [aO (ρ':=[.val (.str t),.val .none,.no,.no]) rfl,aO (ρ':=[.val (.str t),.val .none,.val .none,.no]) rfl,aO (b1G er)]
 exact kN rfl
theorem b1m {t:Str} (er:gE [.str t]=some (.ex "NoText")):iA [.str t]=some (.ok (.str "no text")):=by
 refine bL rfl ?_
 show uZ [.val (.str t),.no,.no,.no]=_
 unfold uZ
 rw [aO (ρ':=[.val (.str t),.val .none,.no,.no]) rfl,aO (ρ':=[.val (.str t),.val .none,.val .none,.no]) rfl,aO (b1H er)]
 exact b3j
def b3H (t:Str):Bool:=decide (t.length≤10000)&&(decide ((Txt.split t nl).getLast?≠some Str.empty) || (Txt.split t nl).dropLast.any fun l=>(mtP (Txt.split l sp)).isNone)
theorem b3s {t:Str} (h:b3H t=true):iA [.str t]=some (.ok (.str "no text")):=by
 unfold b3H at h
 rw [Bool.and_eq_true,decide_eq_true_eq,Bool.or_eq_true,decide_eq_true_eq] at h
 obtain ⟨ht,h⟩:=h
 have ln:(Txt.split t nl).length≤t.length+1:=split_len t 10
 have eR:jF t=((Txt.split t nl).dropLast.map fun l=>Txt.split l sp).map fY:=by unfold jF;rw [List.map_map];rfl
 obtain ⟨b,hb,hs⟩:=a0a ((Txt.split t nl).dropLast.map fun l=>Txt.split l sp) (by rw [List.length_map,List.length_dropLast];omega) (fun ps hp=>by
  obtain ⟨l,_,rfl⟩:=List.mem_map.mp hp;exact lT _ _) (fun ps hp p hq=>by
  obtain ⟨l,hl,rfl⟩:=List.mem_map.mp hp
  have h1:=nW (List.dropLast_subset _ hl)
  have h2:=nW hq
  omega)
 rw [←eR] at hb
 have er:=a2R ht hb
 rw [if_neg] at er
 ·exact b1m er
 ·rintro ⟨c1,c2⟩
  rcases h with h | h
  ·exact h (by rw [List.getLast?_eq_some_getLast (lT _ _),c1])
  ·obtain ⟨s,_,em⟩:=hs c2
   obtain ⟨l,hl,hn⟩:=List.any_eq_true.mp h
   have:mtP (Txt.split l sp)∈((Txt.split t nl).dropLast.map fun l=>Txt.split l sp).map mtP:=List.mem_map.mpr ⟨_,List.mem_map.mpr ⟨l,hl,rfl⟩,rfl⟩
   rw [em] at this
   obtain ⟨m,_,e⟩:=List.mem_map.mp this
   rw [←e] at hn
   cases hn
def s0:List Mt:=[("a", 0,1),("b", 47,480)]
def sBA:List Mt:=[("b", 0,1),("a", 0,1)]
theorem a0O:∀ m∈s0,nmB m.1=true:=by decide +kernel
theorem a2t:∀ m∈sBA,nmB m.1=true:=by decide +kernel
theorem a5U {m:Mt} (h:nmB m.1=true) (h1:0≤m.2.1∧m.2.1≤480∧0≤m.2.2∧m.2.2≤480):WOk m:=⟨(iS h).1,⟨h1.1,h1.2.1⟩,h1.2.2⟩
theorem b1S:∀ m∈s0,WOk m:=fun m hm=>a5U (a0O m hm) ((by decide +kernel:∀ m∈s0,0≤m.2.1∧m.2.1≤480∧0≤m.2.2∧m.2.2≤480) m hm)
theorem b0W:∀ m∈sBA,WOk m:=fun m hm=>a5U (a2t m hm) ((by decide +kernel:∀ m∈sBA,0≤m.2.1∧m.2.1≤480∧0≤m.2.2∧m.2.2≤480) m hm)
theorem b4F {m:Mt} (h:nmB m.1=true) (t:0≤m.2.1∧m.2.1<m.2.2∧m.2.2≤480):MtOk m:=⟨by rw [a0c (Nat.le_trans (iS h).1 (by decide)),h],a3B h,t⟩
theorem a6p:cA [dS s0]=some (.ok (.bool true)):=rW s0 (by decide) (fun m hm=>b4F (a0O m hm) ((by decide +kernel:∀ m∈s0,0≤m.2.1∧m.2.1<m.2.2∧m.2.2≤480) m hm)) (by decide +kernel) (by decide +kernel)
theorem a4D:cA [dS sBA]=some (.ok (.bool false)):=wC sBA (by decide) (fun m hm=>b4F (a2t m hm) ((by decide +kernel:∀ m∈sBA,0≤m.2.1∧m.2.1<m.2.2∧m.2.2≤480) m hm)) (by decide +kernel)
theorem b4S:iA [.str (txO s0)]=some (.ok (dS s0)):=b1l (rX a0O b1S (by decide) a6p)
theorem b3r:iA [.str ""]=some (.ok (.tuple [])):=by
 have h:=b1l (rX (s:=[]) (fun _ h=>nomatch h) (fun _ h=>nomatch h) (by decide) (rW [] (by decide) (fun _ h=>nomatch h) .nil .nil))
 rwa [show (Str.ofString "")=txO [] from by decide +kernel]
theorem b4T:iA [.str (txO sBA)]=some (.ok (.str "no text")):=by
 have l:=a2a b0W
 have e:=a2R (t:=txO sBA) (by have:sBA.length=2:=rfl;omega) (b:=false) (by rw [qD a2t b0W];exact a4D)
 rw [if_neg (fun z=>by cases z.2)] at e
 exact b1m e
def a4K:List Str:=[qW (txO s0) none (some (-1)),txO s0++Str.ofString "\n", "a\n", "a 0\n", "a 0 1\n", "a 0: 0:1\n", "a 0:0001 0:0002\n", "a :0 0:1\n", "a 0:1 0:0\n", "a 0:0 10:1\n", "b 0:0 0:1\na 0:0 0:1\n", "a 0:48 1:1\n", "a 0:0 0:0\n", "A 0:0 0:1\n", "a  0:0 0:1\n"]
theorem a9I:a4K.all (fun t=>b3H t || decide (t=txO sBA))=true:=by decide +kernel
theorem b2u:∀ t∈a4K,iA [.str t]=some (.ok (.str "no text")):=fun t ht=>by
 have:=List.all_eq_true.mp a9I t ht
 rw [Bool.or_eq_true,decide_eq_true_eq] at this
 rcases this with h | h
 ·exact b3s h
 ·rw [h];exact b4T
abbrev oth (ap:Int):PyData:=.tuple [.tuple [.str "a", .int 3,.int 5],.tuple [.str "b", .int (5+ap),.int 9],.tuple [.str "c", .int (9+ap),.int 12],.tuple [.str "d", .int (12+ap),.int 14]]
abbrev pln:PyData:=.dict [(.str "a", .int 0),(.str "b", .int 0),(.str "c", .int 1),(.str "d", .int 1)]
theorem rc0:bQ [oth 0,pln,.int 0]=some (.ok (.int 0)):=by kernel_rfl
theorem rc1:bQ [oth 0,pln,.int 1]=some (.ok (.int 0)):=by kernel_rfl
theorem rc2:bQ [oth 0,pln,.int 2]=some (.ok (.int 0)):=by kernel_rfl
theorem rd0:bQ [oth 1,pln,.int 0]=some (.ok (.int 0)):=by kernel_rfl
theorem rd1:bQ [oth 1,pln,.int 1]=some (.ok (.int 1)):=by kernel_rfl
theorem rd2:bQ [oth 1,pln,.int 2]=some (.ok (.int 2)):=by kernel_rfl
theorem b0q {ap:Int} (h0:0≤ap) (h1:ap<2) (k:Nat) (hk:k<3):bQ [oth ap,pln,.int (k:Int)]=some (.ok (.int ((k:Int)*ap))):=by
 have:ap=0∨ap=1:=by omega
 have hk:k=0∨k=1∨k=2:=by omega
 rcases this with rfl | rfl<;>rcases hk with rfl | rfl | rfl
 ·exact rc0
 ·exact rc1
 ·exact rc2
 ·exact rd0
 ·exact rd1
 ·exact rd2
end L2.L3
namespace L2.L3
open PySem PySem.Spec PyProof.Rows
abbrev st9 (ns:List Int) (x1 x2 x3 x4 x5 x6 x7 x8 x9 x10 x11:Ent):List Ent:=[.val (dN ns),x1,x2,x3,x4,x5,x6,x7,x8,x9,x10,x11]
theorem a3C (a b:Int):neD (.tuple [.int a,.int b]) (.tuple [.int a,.int b])=some false:=by
 have sh:SeqAt.shaped (.tuple [.int a,.int b])=true:=tL (n:=1) (fun d hd=>by
  have:d=.int a∨d=.int b:=by simpa using hd
  rcases this with rfl | rfl<;>simp [PyData.canLay0]) (fun d hd=>by
  have:d=.int a∨d=.int b:=by simpa using hd
  rcases this with rfl | rfl<;>simp [PyData.depth]) (by decide)
 rw [wX sh sh,rR _ (fun d hd=>by
  have:d=.int a∨d=.int b:=by simpa using hd
  rcases this with rfl | rfl<;>simp [PyData.eqv])];rfl
theorem a6Y (a b c:Int):neD (.list [.int a,.int b,.int c]) (.list [.int a,.int b,.int c])=some false:=by
 have sh:SeqAt.shaped (.list [.int a,.int b,.int c])=true:=yT (n:=1) (fun d hd=>by
  have:d=.int a∨d=.int b∨d=.int c:=by simpa using hd
  rcases this with rfl | rfl | rfl<;>simp [PyData.canLay0]) (fun d hd=>by
  have:d=.int a∨d=.int b∨d=.int c:=by simpa using hd
  rcases this with rfl | rfl | rfl<;>simp [PyData.depth]) (by decide)
 show (if SeqAt.shaped (.list [.int a,.int b,.int c])&&SeqAt.shaped (.list [.int a,.int b,.int c]) then some (!PyData.eqv (.list [.int a,.int b,.int c]) (.list [.int a,.int b,.int c])) else none)=_
 rw [sh]
 simp [PyData.eqv,PyData.eqvAll]
theorem a4V {ns:List Int} {x1 x2 x3 x4 x5 x6 x7 x8 x9:Ent} :
  (aW (dO 10 (aU kH (aB (aK (aB (aK (aB (cst (.str "a")) (aB (cst (.int 0)) (aB (cst (.int 1)) aF)))) (aB (aK (aB (cst (.str "b")) (aB (cst (.int 47)) (aB (cst (.int 480)) aF)))) aF))) aF))) (aW (ifS a2h (retS (cst (.bool false))) fG) (aW (vW 11 (aB (a9a (var 10) gI (fM (op1 nA (cst (.int 1))))) (aB (op2 cZ (var 10) (cst (.str "\n"))) (aB (cst (.str "a\n")) (aB (cst (.str "a 0\n")) (aB (cst (.str "a 0 1\n")) (aB (cst (.str "a 0: 0:1\n")) (aB (cst (.str "a 0:0001 0:0002\n")) (aB (cst (.str "a :0 0:1\n")) aF))))))))) (aW (a5K 11 (cst (.str "a 0:1 0:0\n"))) (aW (mD 11 (eY (aB (cst (.str "a 0:0 10:1\n")) (aB (cst (.str "b 0:0 0:1\na 0:0 0:1\n")) (aB (cst (.str "a 0:48 1:1\n")) (aB (cst (.str "a 0:0 0:0\n")) (aB (cst (.str "A 0:0 0:1\n")) (aB (cst (.str "a  0:0 0:1\n")) aF)))))))) (a1u 11 (retS (oG eqD zR (yY (aB (cst (.str "no text")) aF) (cst (.int 15))))))))))) (st9 ns x1 x2 x3 x4 x5 x6 x7 x8 x9 .no .no)=some (.rt (.bool true)):=by
 have hl:=a2a b1S
 have hs:s0.length=2:=rfl
 have l1:(Str.ofString "\n").length=1:=by decide +kernel
 have ew:=a5k b1S (by decide)
 have d0:=b4S
 have od:=b2u
 have cl:=a8t (txO s0) none (some (-1))
 have oe:a4K=[qW (txO s0) none (some (-1)),txO s0++Str.ofString "\n", "a\n", "a 0\n", "a 0 1\n", "a 0: 0:1\n", "a 0:0001 0:0002\n", "a :0 0:1\n", "a 0:1 0:0\n", "a 0:0 10:1\n", "b 0:0 0:1\na 0:0 0:1\n", "a 0:48 1:1\n", "a 0:0 0:0\n", "A 0:0 0:1\n", "a  0:0 0:1\n"]:=rfl
 generalize txO s0=T at hl ew d0 oe cl
 rw [aO (ρ':=st9 ns x1 x2 x3 x4 x5 x6 x7 x8 x9 (.val (.str T)) .no) (by rw [eG,bH (ds:=[dS s0]) rfl ew];rfl)]
 have n0:neD (.tuple []) (.tuple [])=some false:=by kernel_rfl
 have n1:neD (dS s0) (dS s0)=some false:=by
  rw [b4E (fun m hm=>a3B (a0O m hm)) (fun m hm=>a3B (a0O m hm)),decide_eq_true rfl];rfl
 have t7:a2h (st9 ns x1 x2 x3 x4 x5 x6 x7 x8 x9 (.val (.str T)) .no)=some (.ok false):=b1a (wY (x:=dS s0) (y:=dS s0) (bH (ds:=[.str T]) rfl d0) rfl n1) (wY (x:=.tuple []) (y:=.tuple []) (bH (ds:=[.str ""]) rfl b3r) rfl n0)
 rw [aO (by rw [gO,t7];rfl)]
 have e1:a9a (var 10) gI (fM (op1 nA (cst (.int 1)))) (st9 ns x1 x2 x3 x4 x5 x6 x7 x8 x9 (.val (.str T)) .no)=some (.ok (.str (qW T none (some (-1))))):=by
  show lft (if cG (qW T none (some (-1))).length=true then some (PyData.str (qW T none (some (-1)))) else none)=_
  rw [if_pos (by unfold cG;exact decide_eq_true (by omega))];rfl
 have e2:op2 cZ (var 10) (cst (.str "\n")) (st9 ns x1 x2 x3 x4 x5 x6 x7 x8 x9 (.val (.str T)) .no)=some (.ok (.str (T++Str.ofString "\n"))):=by
  show lft (if cG (T.length+(Str.ofString "\n").length)=true then some (PyData.str (T++Str.ofString "\n")) else none)=_
  rw [if_pos (by unfold cG;exact decide_eq_true (by omega))];rfl
 generalize qW T none (some (-1))=T1 at oe cl e1
 generalize T++Str.ofString "\n" = T2 at oe e2
 rw [aO (ρ':=st9 ns x1 x2 x3 x4 x5 x6 x7 x8 x9 (.val (.str T)) (.lst [.str T1,.str T2,.str "a\n", .str "a 0\n", .str "a 0 1\n", .str "a 0: 0:1\n", .str "a 0:0001 0:0002\n", .str "a :0 0:1\n"])) (by
  rw [b2A,bB e1 (bB e2 (bB rfl (bB rfl (bB rfl (bB rfl (bB rfl (bB rfl rfl)))))))];rfl)]
 rw [aO (ρ':=st9 ns x1 x2 x3 x4 x5 x6 x7 x8 x9 (.val (.str T)) (.lst [.str T1,.str T2,.str "a\n", .str "a 0\n", .str "a 0 1\n", .str "a 0: 0:1\n", .str "a 0:0001 0:0002\n", .str "a :0 0:1\n", .str "a 0:1 0:0\n"])) rfl]
 rw [aO (ρ':=st9 ns x1 x2 x3 x4 x5 x6 x7 x8 x9 (.val (.str T)) (.lst [.str T1,.str T2,.str "a\n", .str "a 0\n", .str "a 0 1\n", .str "a 0: 0:1\n", .str "a 0:0001 0:0002\n", .str "a :0 0:1\n", .str "a 0:1 0:0\n", .str "a 0:0 10:1\n", .str "b 0:0 0:1\na 0:0 0:1\n", .str "a 0:48 1:1\n", .str "a 0:0 0:0\n", .str "A 0:0 0:1\n", .str "a  0:0 0:1\n"])) rfl]
 show retS (oG eqD zR (yY (aB (cst (.str "no text")) aF) (cst (.int 15)))) (st9 ns x1 x2 x3 x4 x5 x6 x7 x8 x9 (.val (.str T)) (.val (.list [.str T1,.str T2,.str "a\n", .str "a 0\n", .str "a 0 1\n", .str "a 0: 0:1\n", .str "a 0:0001 0:0002\n", .str "a :0 0:1\n", .str "a 0:1 0:0\n", .str "a 0:0 10:1\n", .str "b 0:0 0:1\na 0:0 0:1\n", .str "a 0:48 1:1\n", .str "a 0:0 0:0\n", .str "A 0:0 0:1\n", .str "a  0:0 0:1\n"])))=_
 have ol:a4K.length=15:=by rw [oe];rfl
 have em:[PyData.str T1,.str T2,.str "a\n", .str "a 0\n", .str "a 0 1\n", .str "a 0: 0:1\n", .str "a 0:0001 0:0002\n", .str "a :0 0:1\n", .str "a 0:1 0:0\n", .str "a 0:0 10:1\n", .str "b 0:0 0:1\na 0:0 0:1\n", .str "a 0:48 1:1\n", .str "a 0:0 0:0\n", .str "A 0:0 0:1\n", .str "a  0:0 0:1\n"]=a4K.map .str:=by rw [oe];rfl
 rw [em]
 generalize a4K=O at od ol
 have k3:zR (st9 ns x1 x2 x3 x4 x5 x6 x7 x8 x9 (.val (.str T)) (.val (.list (O.map .str))))=some (.ok (.list ((O.map fun _=>Str.ofString "no text").map .str))):=by
  rw [List.map_map]
  exact cW PyData.str (fun t=>[.val (.str t)]) _ O rfl (by omega) (fun t _=>by simp [dD]) (fun t ht=>bH (ds:=[.str t]) rfl (od t ht))
 have rp:yY (aB (cst (.str "no text")) aF) (cst (.int 15)) (st9 ns x1 x2 x3 x4 x5 x6 x7 x8 x9 (.val (.str T)) (.val (.list (O.map .str))))=some (.ok (.list ((List.replicate 15 (Str.ofString "no text")).map .str))):=rfl
 have mr:(O.map fun _=>Str.ofString "no text")=List.replicate 15 (Str.ofString "no text"):=by rw [←ol];exact List.map_const' ..
 have so:PyData.strOk (Str.ofString "no text")=true:=by decide +kernel
 rw [fL,a8y,k3,dU,rp,dU,mr,a3Q (fun x hx=>by rw [List.eq_of_mem_replicate hx];exact so) (fun x hx=>by rw [List.eq_of_mem_replicate hx];exact so),decide_eq_true rfl];rfl
end L2.L3
namespace L2.L3
open PySem PySem.Spec PyProof.Rows
theorem e_law (ns:List Int) (hl:ns.length≤63):F_law [dN ns]=some (.ok (.bool true)):=by
 have q0:=a0b ns 0 5 (by decide) (by decide)
 have q1:=a0b ns 1 20 (by decide) (by decide)
 have q2:=a0b ns 2 12 (by decide) (by decide)
 have q3:=a0b ns 3 2 (by decide) (by decide)
 have a0:=sM ns 0 (many:=5) (by decide)
 have b0:=sN ns 0 (many:=5) (by decide)
 have a1:=sM ns 1 (many:=20) (by decide)
 have b1:=sN ns 1 (many:=20) (by decide)
 have a2:=sM ns 2 (many:=12) (by decide)
 have b2:=sN ns 2 (many:=12) (by decide)
 have a3:=sM ns 3 (many:=2) (by decide)
 have b3:=sN ns 3 (many:=2) (by decide)
 generalize pickOf ns 0 5=p0 at *
 generalize pickOf ns 1 20=b at *
 generalize pickOf ns 2 12=p at *
 generalize pickOf ns 3 2=ap at *
 have hz:0<1+p0:=by omega
 generalize hzz:1+p0=z at hz
 have zb:z≤5:=by omega
 refine bL rfl ?_
 show a7W (st9 ns .no .no .no .no .no .no .no .no .no .no .no)=_
 unfold a7W
 have t1:a6g (st9 ns .no .no .no .no .no .no .no .no .no .no .no)=some (.ok false):=by
  refine b1a ?_ ?_
  ·show bnd (bnd (aU bX aF _) _) _=_
   rw [bH (ds:=[]) rfl a0J];rfl
  ·show bnd (bnd (aU bZ aF _) _) _=_
   rw [bH (ds:=[]) rfl a1X];rfl
 rw [aO (ρ':=st9 ns .no .no .no .no .no .no .no .no .no .no .no) (by rw [gO,t1];rfl)]
 rw [aO (ρ':=st9 ns (.val (.int z)) (.val (.int b)) .no .no .no .no .no .no .no .no .no) (by
  have c0:aU eO (aB (var 0) (aB (cst (.int 0)) (aB (cst (.int 5)) aF))) (st9 ns .no .no .no .no .no .no .no .no .no .no .no)=some (.ok (.int p0)):=bH (ds:=[dN ns,.int 0,.int 5]) rfl q0
  have c1:aU eO (aB (var 0) (aB (cst (.int 1)) (aB (cst (.int 20)) aF))) (st9 ns .no .no .no .no .no .no .no .no .no .no .no)=some (.ok (.int b)):=bH (ds:=[dN ns,.int 1,.int 20]) rfl q1
  have c2:op2 cZ (cst (.int 1)) (aU eO (aB (var 0) (aB (cst (.int 0)) (aB (cst (.int 5)) aF)))) (st9 ns .no .no .no .no .no .no .no .no .no .no .no)=some (.ok (.int z)):=by rw [a0X,c0,←hzz];rfl
  rw [b1B]
  unfold aK
  rw [bB c2 (bB c1 rfl)];rfl)]
 rw [aO (ρ':=st9 ns (.val (.int z)) (.val (.int b)) (.val (.int (b+z+p))) .no .no .no .no .no .no .no .no) (by
  have c0:aU eO (aB (var 0) (aB (cst (.int 2)) (aB (cst (.int 12)) aF))) (st9 ns (.val (.int z)) (.val (.int b)) .no .no .no .no .no .no .no .no .no)=some (.ok (.int p)):=bH (ds:=[dN ns,.int 2,.int 12]) rfl q2
  rw [eG,a0X,a0X,c0];rfl)]
 rw [aO (ρ':=st9 ns (.val (.int z)) (.val (.int b)) (.val (.int (b+z+p))) (.val (.tuple [.tuple [.str "a", .int b,.int (max (b+1) (b+z+p - z))]])) .no .no .no .no .no .no .no) rfl]
 have et:b+z+p - z=b+p:=by omega
 rw [et]
 have O:=a2B b (max (b+1) (b+p))
 have c0:=mX (b:=b) (s2:=max (b+1) (b+p)) (t:=b+p) (z:=z) (by omega) hz
 have t2:a6f (st9 ns (.val (.int z)) (.val (.int b)) (.val (.int (b+z+p))) (.val (.tuple [.tuple [.str "a", .int b,.int (max (b+1) (b+p))]])) .no .no .no .no .no .no .no)=some (.ok false):=by
  refine wY (x:=.int (cnt (lX b (max (b+1) (b+p))) (b+p) z)) (y:=.int (if b+p<max (b+1) (b+p) then 1 else 0)) (bH (ds:=[dSs (lX b (max (b+1) (b+p))),.int (b+z+p - z),.int z]) rfl (by rw [et];exact qP O _ _)) (jX (ds:=[.bool (decide (b+z+p - z<max (b+1) (b+p)))]) rfl ?_) ?_
  ·rw [et]
   show some (PyData.int (if decide (b+p<max (b+1) (b+p))=true then 1 else 0))=_
   simp only [decide_eq_true_eq]
  ·rw [c0,b4D,decide_eq_true rfl];rfl
 rw [aO (by rw [gO,t2];rfl)]
 have r5:=a7l (fa:=var 2) (fb:=op2 cZ (op2 sC (var 3) (var 1)) (cst (.int 1))) (ρ:=st9 ns (.val (.int z)) (.val (.int b)) (.val (.int (b+z+p))) (.val (.tuple [.tuple [.str "a", .int b,.int (max (b+1) (b+p))]])) .no .no .no .no .no .no .no) (m:=b) (n:=b+p+1) rfl (by rw [←et];rfl) (by omega) (by omega) (by omega) (by omega)
 have hN:(((b+p+1 - b).toNat:Nat):Int)=p+1:=by omega
 generalize (b+p+1 - b).toNat=N at r5 hN
 rw [aO (ρ':=st9 ns (.val (.int z)) (.val (.int b)) (.val (.int (b+z+p))) (.val (.tuple [.tuple [.str "a", .int b,.int (max (b+1) (b+p))]])) (.val (.list (eI b N))) .no .no .no .no .no .no) (by rw [eG,r5];rfl)]
 obtain ⟨f,fs,ef,el⟩:=a1i (xS (b:=b) hz a2) N (by omega)
 have k1:a7w (st9 ns (.val (.int z)) (.val (.int b)) (.val (.int (b+z+p))) (.val (.tuple [.tuple [.str "a", .int b,.int (max (b+1) (b+p))]])) (.val (.list (eI b N))) .no .no .no .no .no .no)=some (.ok (.list ((f::fs).map dPr))):=by
  rw [←ef,List.map_map]
  refine cW (fun (k:Nat)=>PyData.int (b+(k:Int))) (fun k=>[.val (.int (b+(k:Int))),.val (.tuple [.tuple [.str "a", .int b,.int (max (b+1) (b+p))]]),.val (.int z)]) _ (List.range N) rfl (by rw [List.length_range];omega) (fun k _=>by simp [dD]) (fun k _=>?_)
  unfold aK
  rw [bB (bH (ds:=[dSs (lX b (max (b+1) (b+p))),.int (b+(k:Int)),.int z]) rfl (qP O _ _)) (bB rfl rfl)];rfl
 rw [aO (ρ':=st9 ns (.val (.int z)) (.val (.int b)) (.val (.int (b+z+p))) (.val (.tuple [.tuple [.str "a", .int b,.int (max (b+1) (b+p))]])) (.val (.list (eI b N))) (.val (dPr (cnt (lX b (max (b+1) (b+p))) (b+p) z,b+p))) .no .no .no .no .no) (by
  rw [eG,jX (ds:=[.list ((f::fs).map dPr)]) (d:=dPr (jR f fs)) (by rw [dL,k1];rfl) (by
   unfold a3G
   dsimp only
   rw [gS (g:=dPr) (fun _=>rfl) (f::fs)]),el];rfl)]
 generalize hc:cnt (lX b (max (b+1) (b+p))) (b+p) z=C
 have eb:=a2T (b:=b) hz a2
 rw [hc] at eb
 have t3:a6e (st9 ns (.val (.int z)) (.val (.int b)) (.val (.int (b+z+p))) (.val (.tuple [.tuple [.str "a", .int b,.int (max (b+1) (b+p))]])) (.val (.list (eI b N))) (.val (dPr (C,b+p))) .no .no .no .no .no)=some (.ok false):=
  wY (x:=.tuple [.int (b+p),.int C]) (y:=.tuple [.int (b+p),.int C]) (bH (ds:=[dSs (lX b (max (b+1) (b+p))),.int b,.int (b+z+p),.int z]) rfl eb) rfl (a3C _ _)
 rw [aO (by rw [gO,t3];rfl)]
 have t4:a2i (st9 ns (.val (.int z)) (.val (.int b)) (.val (.int (b+z+p))) (.val (.tuple [.tuple [.str "a", .int b,.int (max (b+1) (b+p))]])) (.val (.list (eI b N))) (.val (dPr (C,b+p))) .no .no .no .no .no)=some (.ok false):=by
  rw [show a2i=isT true .none _ from rfl,b4I,bH (ds:=[dSs (lX b (max (b+1) (b+p))),.int b,.int (b+z - 1),.int z]) rfl (a1x O (by omega))];rfl
 rw [aO (by rw [gO,t4];rfl)]
 have t5:a6d (st9 ns (.val (.int z)) (.val (.int b)) (.val (.int (b+z+p))) (.val (.tuple [.tuple [.str "a", .int b,.int (max (b+1) (b+p))]])) (.val (.list (eI b N))) (.val (dPr (C,b+p))) .no .no .no .no .no)=some (.ok false):=
  wY (x:=.tuple [.int b,.int 1]) (y:=.tuple [.int b,.int 1]) (bH (ds:=[dSs (lX b (max (b+1) (b+p))),.int b,.int (b+z),.int z]) rfl (a8h hz (by omega))) rfl (a3C _ _)
 rw [aO (by rw [gO,t5];rfl)]
 generalize (.val (dPr (C,b+p)):Ent)=X6
 generalize (.val (.list (eI b N)):Ent)=X5
 generalize (.val (.tuple [.tuple [.str "a", .int b,.int (max (b+1) (b+p))]]):Ent)=X4
 generalize (.val (.int (b+z+p)):Ent)=X3
 rw [aO (ρ':=st9 ns (.val (.int z)) (.val (.int b)) X3 X4 X5 X6 (.val (.int ap)) .no .no .no .no) (by rw [eG,bH (ds:=[dN ns,.int 3,.int 2]) rfl q3];rfl)]
 rw [aO (ρ':=st9 ns (.val (.int z)) (.val (.int b)) X3 X4 X5 X6 (.val (.int ap)) (.val (oth ap)) .no .no .no) rfl]
 have ed:dF rY (aB (eY (aB (aK (aB (cst (.str "a")) (aB (cst (.int 0)) aF))) (aB (aK (aB (cst (.str "b")) (aB (cst (.int 0)) aF))) (aB (aK (aB (cst (.str "c")) (aB (cst (.int 1)) aF))) (aB (aK (aB (cst (.str "d")) (aB (cst (.int 1)) aF))) aF))))) aF) (st9 ns (.val (.int z)) (.val (.int b)) X3 X4 X5 X6 (.val (.int ap)) (.val (oth ap)) .no .no .no)=some (.ok pln):=by
  refine jX (ds:=[.list [.tuple [.str "a", .int 0],.tuple [.str "b", .int 0],.tuple [.str "c", .int 1],.tuple [.str "d", .int 1]]]) rfl ?_
  kernel_rfl
 rw [aO (ρ':=st9 ns (.val (.int z)) (.val (.int b)) X3 X4 X5 X6 (.val (.int ap)) (.val (oth ap)) (.val pln) .no .no) (by rw [eG,ed];rfl)]
 have k2:a7v (st9 ns (.val (.int z)) (.val (.int b)) X3 X4 X5 X6 (.val (.int ap)) (.val (oth ap)) (.val pln) .no .no)=some (.ok (.list ((List.range 3).map fun (k:Nat)=>PyData.int ((k:Int)*ap)))):=
  cW (fun (k:Nat)=>PyData.int (k:Int)) (fun k=>[.val (.int (k:Int)),.val (oth ap),.val pln]) _ (List.range 3) rfl (by decide) (fun k _=>by simp [dD]) (fun k hk=>bH (ds:=[oth ap,pln,.int (k:Int)]) rfl (b0q a3 b3 k (List.mem_range.mp hk)))
 have m2:jC (.int 2) (.int ap)=some (.int (2*ap)):=a3E (by decide) (by decide)
 have t6:a6c (st9 ns (.val (.int z)) (.val (.int b)) X3 X4 X5 X6 (.val (.int ap)) (.val (oth ap)) (.val pln) .no .no)=some (.ok false):=by
  refine wY (x:=.list [.int 0,.int ap,.int (2*ap)]) (y:=.list [.int 0,.int ap,.int (2*ap)]) (k2.trans ?_) ?_ (a6Y _ _ _)
  ·show some (Re.ok (PyData.list [.int ((0:Int)*ap),.int ((1:Int)*ap),.int ((2:Int)*ap)]))=_
   rw [Int.zero_mul,Int.one_mul]
  ·have o:op2 jC (cst (.int 2)) (var 7) (st9 ns (.val (.int z)) (.val (.int b)) X3 X4 X5 X6 (.val (.int ap)) (.val (oth ap)) (.val pln) .no .no)=some (.ok (.int (2*ap))):=by
    show lft (jC (.int 2) (.int ap))=_
    rw [m2];rfl
   unfold eY
   rw [bB rfl (bB rfl (bB o rfl))];rfl
 rw [aO (by rw [gO,t6];rfl)]
 exact a4V
end L2.L3
namespace L2.L3
theorem iV {α:Type} {l:List α} (h:l.length=1):∃ a,l=[a]:=by
 cases l with
 | nil=>cases h
 | cons a l=>cases l with
  | nil=>exact ⟨a,rfl⟩
  | cons b l=>simp at h
theorem b2M {α:Type} {l:List α} {n:Nat} (h:l.length=n+1):∃ a r,l=a::r∧r.length=n:=by
 cases l with
 | nil=>cases h
 | cons a r=>exact ⟨a,r,rfl,by simpa using h⟩
theorem a4U {α:Type} {l:List α} (h:l.length=2):∃ a b,l=[a,b]:=by
 obtain ⟨a,r,rfl,k⟩:=b2M h;obtain ⟨b,rfl⟩:=iV k;exact ⟨a,b,rfl⟩
theorem a7o {α:Type} {l:List α} (h:l.length=3):∃ a b c,l=[a,b,c]:=by
 obtain ⟨a,r,rfl,k⟩:=b2M h;obtain ⟨b,c,rfl⟩:=a4U k;exact ⟨a,b,c,rfl⟩
theorem b5M {α:Type} {l:List α} (h:l.length=4):∃ a b c d,l=[a,b,c,d]:=by
 obtain ⟨a,r,rfl,k⟩:=b2M h;obtain ⟨b,c,d,rfl⟩:=a7o k;exact ⟨a,b,c,d,rfl⟩
end L2.L3
namespace L2.L3
open PySem PySem.Spec PyProof.Rows
section
variable {X:Cx} {a b e kx o f:Expr} {fa fk fv fd fx:EF} {pos p p2 p3 ap cp:Pos}
end
end L2.L3
namespace L2.L3
open PySem PySem.Spec PyProof.Rows
section
variable {X:Cx}
end
end L2.L3
namespace L2.L3
open PySem PySem.Spec PyProof.Rows
theorem a1A {X:Cx} {x:Str} {k:Nat} {ps:List Str} {F:List PyData→Mm PyData} {p pos:Pos} (C:aJ X.prog X.w X.K X.mg X.base x k ps F) (hr:Room k X.A) (hg:Gl X x:=by rfl) (hdb:(x==("__debug__" : Str))=false:=by decide):DE X (.Call (.Name x p) [] [] pos) (aU F aF):=⟨fun pins s σ H Q I ⟨ρ,r,H0,G₀,G,e',R,q⟩=>by
 obtain ⟨f,fd,a,b,c,Fk⟩:=C.ex
 refine a6N Fk hr hg a b c .nil (a6R (X:=X)) hdb pins s σ H Q I ?_
 have e1:(match F [] with | some (.ok d)=>some (.ok d) | _=>none)=some r:=e'
 split at e1
 ·rename_i d ed
  cases (Option.some.inj e1)
  exact ⟨G,[],d,⟨R.sub,R.tab⟩,.nil,ed,fun v G2 H2 g2 r2=>q v G2 H2 g2 r2⟩
 ·cases e1⟩
end L2.L3
namespace L2.L3
open PySem PySem.Spec PyProof.Rows
section
variable {X:Cx} {e b:Expr} {es:List Expr} {pos p p0 p1 lp sp:Pos} {x y:Str} {k k':Nat} {ps ps':List Str} {F F':List PyData→Mm PyData} {fa:AF} {fb:EF}
end
end L2.L3
namespace HT
open PySem PySem.Spec PyProof.Rows
section
variable {prog:Program} {w:World} {A:Around} {E:Value→Shared→Prop} {s:Shared}
end
end HT
namespace L2
open PySem PySem.Spec PyProof.Rows
end L2
namespace L2.L3
open PySem PySem.Spec PyProof.Rows
section
variable {X:Cx} {a:Expr} {lo hi:Option Expr} {fa:EF} {fl fh:OF} {pos p2:Pos}
end
def top (i:Nat):Stmt:=PySem.Challenge.pw_daysheet_k96_whole_edges.main.body.getD i (.Pass ⟨0,0,0,0⟩)
structure Blt (mg:Str→Option Value):Prop where
 b_ValueError:mg "ValueError" = none
 b_all:mg "all" = none
 b_any:mg "any" = none
 b_bool:mg "bool" = none
 b_dict:mg "dict" = none
 b_int:mg "int" = none
 b_isinstance:mg "isinstance" = none
 b_len:mg "len" = none
 b_list:mg "list" = none
 b_max:mg "max" = none
 b_min:mg "min" = none
 b_range:mg "range" = none
 b_set:mg "set" = none
 b_sorted:mg "sorted" = none
 b_str:mg "str" = none
 b_tuple:mg "tuple" = none
 b_zip:mg "zip" = none
 k_DAY:∃ t:Tok,mg "DAY" = some (.int 48 t)
 k_LAST_END:∃ t:Tok,mg "LAST_END" = some (.int 480 t)
 k_LONGEST_NAME:∃ t:Tok,mg "LONGEST_NAME" = some (.int 4 t)
 k_MOST_MEETINGS:∃ t:Tok,mg "MOST_MEETINGS" = some (.int 16 t)
 k_MOST_MORE:∃ t:Tok,mg "MOST_MORE" = some (.int 24 t)
 k_MOST_ROWS:∃ t:Tok,mg "MOST_ROWS" = some (.int 5 t)
 k_MOST_TIMES:∃ t:Tok,mg "MOST_TIMES" = some (.int 10 t)
section
variable {P:Program} {w:World} {K:PySem.W.Frag} {mg:Str→Option Value} {base:Heap}
theorem fS {N P:List Str} {sc:Scope} (a:sc.kind=.function:=by rfl) (b:sc.isCoroutine=false:=by rfl) (c:sc.isGenerator=false:=by rfl) (d:N.Nodup:=by decide +kernel) (e:N.take P.length=P:=by rfl) (f:∀ x∈P,sc.names.lookup x=some .local∨sc.names.lookup x=some .cell:=by decide +kernel) (g:∀ y∈sc.names,y.2≠.free:=by decide +kernel):FnScope N P sc:=⟨a,b,c,d,e,f,g⟩
theorem hM {k j:Nat} {A:Around} (r:Room k A) (h:j≤k:=by decide):Room j A:=r.mono h
abbrev tS:Stmt:=top 52
noncomputable abbrev a7b:List Str:=["_law_script", "_law_k"]
theorem a4z:FnScope a7b ["_law_script", "_law_k"] (aG tS):=fS
theorem a8G (D:Def K mg "_law_cell" tS) (B:Blt mg) (XF:ExF K)  : aJ P w K mg base "_law_cell" 1 ["_law_script", "_law_k"] pU:=by
 refine aR 2 2 D a4z rfl rfl (fun _ _ _ _ _ _ us hl=>by obtain ⟨_,_,rfl⟩:=a4U hl;rfl) (fun fa cdv A outer s H E hr=>?_)
 exact (aI (eB (cI oW (aE 1) (bK jQ B.b_len boot_len (aA (aE 0) aD))) (aP (aT (bJ (aE 0) (aE 1)))) cK) (aI (eB (cI (vC hr.units) (aE 0) (cJ aD)) (aP (aT aC)) cK) (aP (aT (aS bF (aS iT (bJ (aE 0) (aS uB (aE 1) (bK jQ B.b_len boot_len (aA (aE 0) aD)))) aC) (aE 1))))))
abbrev tR:Stmt:=top 53
noncomputable abbrev a7a:List Str:=["_law_script", "_law_k", "_law_many", "_law_drawn"]
theorem wQ:FnScope a7a ["_law_script", "_law_k", "_law_many"] (aG tR):=fS
theorem a8F (D:Def K mg "_law_pick" tR) (B:Blt mg) (XF:ExF K) (C_l_cell:aJ P w K mg base "_law_cell" 1 ["_law_script", "_law_k"] pU):aJ P w K mg base "_law_pick" 2 ["_law_script", "_law_k", "_law_many"] eO:=by
 refine aR 4 3 D wQ rfl rfl (fun _ _ _ _ _ _ us hl=>by obtain ⟨_,_,_,rfl⟩:=a7o hl;rfl) (fun fa cdv A outer s H E hr=>?_)
 exact (aI (bY 3 wQ.nd (aS uB (aS iT (aS bF (aQ C_l_cell (hM hr) (aA (aE 0) (aA (aE 1) aD))) (aS iT aC (aS bF (aE 1) aC))) aC) aC)) (aP (aT (aS uB (aS uB (aS bF (aS iT (aE 3) (aE 3)) (aS a7U (aE 3) aC)) aC) (aE 2)))))
abbrev tV:Stmt:=top 39
theorem a4B:FnScope ["moment"] ["moment"] (aG tV):=fS
theorem a8I (D:Def K mg "day_of" tV) (B:Blt mg) (XF:ExF K)  : aJ P w K mg base "day_of" 1 ["moment"] pV:=by
 refine aR 1 1 D a4B rfl rfl (fun _ _ _ _ _ _ us hl=>by obtain ⟨_,rfl⟩:=iV hl;rfl) (fun fa cdv A outer s H E hr=>?_)
 exact (aP (aT (aS a7U (aE 0) (eN rfl (B.k_DAY)))))
abbrev jN:Stmt:=top 41
noncomputable abbrev vX:List Str:=["moment", "day", "place"]
theorem iP:FnScope vX ["moment"] (aG jN):=fS
theorem wE (D:Def K mg "moment_text" jN) (B:Blt mg) (XF:ExF K) (C_day_of:aJ P w K mg base "day_of" 1 ["moment"] pV):aJ P w K mg base "moment_text" 2 ["moment"] dH:=by
 refine aR 3 1 D iP rfl rfl (fun _ _ _ _ _ _ us hl=>by obtain ⟨_,rfl⟩:=iV hl;rfl) (fun fa cdv A outer s H E hr=>?_)
 exact (aI (bY 1 iP.nd (aQ C_day_of (hM hr) (aA (aE 0) aD))) (aI (bY 2 iP.nd (aS uB (aE 0) (eN rfl (B.k_DAY)))) (aP (aT (xW (iL (vH (aE 1)) (iL aM (iL (vH (aE 2)) a8m))))))))
abbrev qC:Stmt:=top 42
noncomputable abbrev a4N:List Str:=["meeting", "name", "begin", "end"]
theorem kO:FnScope a4N ["meeting"] (aG qC):=fS
theorem a5F (D:Def K mg "line_of" qC) (B:Blt mg) (XF:ExF K) (C_moment_text:aJ P w K mg base "moment_text" 2 ["moment"] dH):aJ P w K mg base "line_of" 3 ["meeting"] mY:=by
 refine aR 4 1 D kO rfl rfl (fun _ _ _ _ _ _ us hl=>by obtain ⟨_,rfl⟩:=iV hl;rfl) (fun fa cdv A outer s H E hr=>?_)
 exact (aI (bY 1 kO.nd (bJ (aE 0) aC)) (aI (bY 2 kO.nd (aQ C_moment_text (hM hr) (aA (bJ (aE 0) aC) aD))) (aI (bY 3 kO.nd (aQ C_moment_text (hM hr) (aA (bJ (aE 0) aC) aD))) (aP (aT (xW (iL (vH (aE 1)) (iL aM (iL (vH (aE 2)) (iL aM (iL (vH (aE 3)) (iL aM a8m))))))))))))
abbrev mO:Stmt:=top 43
theorem a2o:FnScope ["sheet"] ["sheet"] (aG mO):=fS
theorem a5D (D:Def K mg "written" mO) (B:Blt mg) (XF:ExF K) (C_line_of:aJ P w K mg base "line_of" 3 ["meeting"] mY):aJ P w K mg base "written" 4 ["sheet"] kH:=by
 refine aR 1 1 D a2o rfl rfl (fun _ _ _ _ _ _ us hl=>by obtain ⟨_,rfl⟩:=iV hl;rfl) (fun fa cdv A outer s H E hr=>?_)
 have nd1:(["meeting"]:List Str).Nodup:=by decide +kernel
 exact (aP (aT (b0w aM (bN (N':=["meeting"]) (cap:=[none]) rfl (bU (so:=aG mO) (NN:=["sheet"]) rfl rfl (by decide +kernel)) (cE (aE 0)) rfl (fun _ _ _ _=>bD 0 nd1) (fun _ _ _ _=>bS) (fun _ _ _ _=>(aQ C_line_of (hM hr) (aA (aE 0) aD)))))))
abbrev mQ:Stmt:=top 31
noncomputable abbrev wZ:List Str:=["sheet", "begin", "end"]
theorem a2q:FnScope wZ ["sheet", "begin", "end"] (aG mQ):=fS
theorem a5I (D:Def K mg "is_busy" mQ) (B:Blt mg) (XF:ExF K)  : aJ P w K mg base "is_busy" 1 ["sheet", "begin", "end"] kI:=by
 refine aR 3 3 D a2q rfl rfl (fun _ _ _ _ _ _ us hl=>by obtain ⟨_,_,_,rfl⟩:=a7o hl;rfl) (fun fa cdv A outer s H E hr=>?_)
 have nd1:(["name", "first", "last", "begin", "end"]:List Str).Nodup:=by decide +kernel
 exact (aP (aT (bK (b3J rfl) B.b_any boot_any (aA (bN (N':=["name", "first", "last", "begin", "end"]) (cap:=[none,none,none,some 1,some 2]) rfl (bU (so:=aG mQ) (NN:=wZ) rfl rfl (by decide +kernel)) (cE (aE 0)) rfl (fun _ _ _ _=>(vE rfl (eE 0 nd1 (eE 1 nd1 (eE 2 nd1 pJ))))) (fun _ _ _ _=>bS) (fun _ _ _ _=>(lB oW (bK (a7h rfl) B.b_max boot_max (aA (aE 1) (aA (aE 3) aD))) (bK (b2F rfl) B.b_min boot_min (aA (aE 2) (aA (aE 4) aD)))))) aD))))
abbrev mR:Stmt:=top 32
noncomputable abbrev xA:List Str:=["sheets", "begin", "size"]
theorem a2r:FnScope xA ["sheets", "begin", "size"] (aG mR):=fS
theorem a5J (D:Def K mg "busy_at" mR) (B:Blt mg) (XF:ExF K) (C_is_busy:aJ P w K mg base "is_busy" 1 ["sheet", "begin", "end"] kI):aJ P w K mg base "busy_at" 2 ["sheets", "begin", "size"] fE:=by
 refine aR 3 3 D a2r rfl rfl (fun _ _ _ _ _ _ us hl=>by obtain ⟨_,_,_,rfl⟩:=a7o hl;rfl) (fun fa cdv A outer s H E hr=>?_)
 have nd1:(["sheet", "begin", "size"]:List Str).Nodup:=by decide +kernel
 exact (aP (aT (bK jQ B.b_len boot_len (aA (bN (N':=["sheet", "begin", "size"]) (cap:=[none,some 1,some 2]) rfl (bU (so:=aG mR) (NN:=xA) rfl rfl (by decide +kernel)) (cE (aE 0)) rfl (fun _ _ _ _=>bD 0 nd1) (fun _ _ _ _=>(mV (dZ (aQ C_is_busy (hM hr) (aA (aE 0) (aA (aE 1) (aA (aS bF (aE 1) (aE 2)) aD))))))) (fun _ _ _ _=>aE 0)) aD))))
abbrev iQ:Stmt:=top 30
noncomputable abbrev uA:List Str:=["sheets", "together", "sheet"]
theorem gZ:FnScope uA ["sheets"] (aG iQ):=fS
theorem vM (D:Def K mg "all_meetings" iQ) (B:Blt mg) (XF:ExF K)  : aJ P w K mg base "all_meetings" 1 ["sheets"] fW:=by
 refine aR 3 1 D gZ rfl rfl (fun _ _ _ _ _ _ us hl=>by obtain ⟨_,rfl⟩:=iV hl;rfl) (fun fa cdv A outer s H E hr=>?_)
 exact (aI (qQ 1 gZ.nd aD) (aI (a0e PassesOwn.never rfl (cE (aE 0)) (bD 2 gZ.nd) (aP (fQ 1 (aE 2)))) (vI 1 (aP (aT (fT yK B.b_tuple boot_tuple (aA (aE 1) aD)))))))
abbrev fB:Stmt:=top 33
noncomputable abbrev jH:List Str:=["sheets", "begin", "end", "size", "ends", "fitting", "told"]
theorem iG:FnScope jH ["sheets", "begin", "end", "size"] (aG fB):=fS
theorem a1Q (D:Def K mg "best_time" fB) (B:Blt mg) (XF:ExF K) (C_all_meetings:aJ P w K mg base "all_meetings" 1 ["sheets"] fW) (C_busy_at:aJ P w K mg base "busy_at" 2 ["sheets", "begin", "size"] fE):aJ P w K mg base "best_time" 3 ["sheets", "begin", "end", "size"] cR:=by
 refine aR 7 4 D iG rfl rfl (fun _ _ _ _ _ _ us hl=>by obtain ⟨_,_,_,_,rfl⟩:=b5M hl;rfl) (fun fa cdv A outer s H E hr=>?_)
 have nd1:(["name", "first", "last", "begin"]:List Str).Nodup:=by decide +kernel
 have nd2:(["moment", "end", "size"]:List Str).Nodup:=by decide +kernel
 have nd3:(["moment", "sheets", "size"]:List Str).Nodup:=by decide +kernel
 exact (aI (a0d 4 iG.nd (N':=["name", "first", "last", "begin"]) (cap:=[none,none,none,some 1]) rfl (bU (so:=aG fB) (NN:=jH) rfl rfl (by decide +kernel)) (cE (aQ C_all_meetings (hM hr) (aA (aE 0) aD))) rfl (fun _ _ _ _=>(vE rfl (eE 0 nd1 (eE 1 nd1 (eE 2 nd1 pJ))))) (fun _ _ _ _=>(mV (cI b1h (aE 2) (aE 3)))) (fun _ _ _ _=>aE 2)) (aI (a0d 5 iG.nd (N':=["moment", "end", "size"]) (cap:=[none,some 2,some 3]) rfl (bU (so:=aG fB) (NN:=jH) rfl rfl (by decide +kernel)) (cE (aS bF (cJ (aA (aE 1) aD)) (aE 4))) rfl (fun _ _ _ _=>bD 0 nd2) (fun _ _ _ _=>(mV (cI iW (aS bF (aE 0) (aE 2)) (aE 1)))) (fun _ _ _ _=>aE 0)) (aI (bY 6 iG.nd (bK a8X B.b_sorted boot_sorted (aA (bN (N':=["moment", "sheets", "size"]) (cap:=[none,some 0,some 3]) rfl (bU (so:=aG fB) (NN:=jH) rfl rfl (by decide +kernel)) (cE (aE 5)) rfl (fun _ _ _ _=>bD 0 nd3) (fun _ _ _ _=>bS) (fun _ _ _ _=>(aH (aA (aQ C_busy_at (hM hr) (aA (aE 1) (aA (aE 0) (aA (aE 2) aD)))) (aA (aE 0) aD))))) aD))) (aP (aT (b4U (dZ (aE 6)) (aH (aA (bJ (bJ (aE 6) aC) aC) (aA (bJ (bJ (aE 6) aC) aC) aD))) aZ))))))
abbrev qB:Stmt:=top 27
noncomputable abbrev a4M:List Str:=["series", "number", "begin"]
theorem tM:FnScope a4M ["series", "number"] (aG qB):=fS
theorem a5E (D:Def K mg "time_of" qB) (B:Blt mg) (XF:ExF K)  : aJ P w K mg base "time_of" 1 ["series", "number"] rB:=by
 refine aR 3 2 D tM rfl rfl (fun _ _ _ _ _ _ us hl=>by obtain ⟨_,_,rfl⟩:=a4U hl;rfl) (fun fa cdv A outer s H E hr=>?_)
 exact (aI (bY 2 tM.nd (aS bF (bJ (aE 0) aC) (aS iT (bJ (aE 0) aC) (aE 1)))) (aP (aT (aH (aA (aE 2) (aA (aS bF (aE 2) (bJ (aE 0) aC)) aD))))))
abbrev iH:Stmt:=top 26
theorem vS:FnScope ["series"] ["series"] (aG iH):=fS
theorem a0n (D:Def K mg "numbers_of" iH) (B:Blt mg) (XF:ExF K)  : aJ P w K mg base "numbers_of" 1 ["series"] lD:=by
 refine aR 1 1 D vS rfl rfl (fun _ _ _ _ _ _ us hl=>by obtain ⟨_,rfl⟩:=iV hl;rfl) (fun fa cdv A outer s H E hr=>?_)
 have nd1:(["number", "series"]:List Str).Nodup:=by decide +kernel
 exact (aP (aT (bN (N':=["number", "series"]) (cap:=[none,some 0]) rfl (bU (so:=aG iH) (NN:=["series"]) rfl rfl (by decide +kernel)) (sP B.b_range (bJ (aE 0) aC)) rfl (fun _ _ _ _=>bD 0 nd1) (fun _ _ _ _=>(mV (cI (a9J hr.units1) (aE 0) (bJ (aE 1) aC)))) (fun _ _ _ _=>aE 0))))
abbrev kP:Stmt:=top 28
theorem a0K:FnScope ["series"] ["series"] (aG kP):=fS
theorem a2Z (D:Def K mg "times_of" kP) (B:Blt mg) (XF:ExF K) (C_numbers_of:aJ P w K mg base "numbers_of" 1 ["series"] lD) (C_time_of:aJ P w K mg base "time_of" 1 ["series", "number"] rB):aJ P w K mg base "times_of" 2 ["series"] lC:=by
 refine aR 1 1 D a0K rfl rfl (fun _ _ _ _ _ _ us hl=>by obtain ⟨_,rfl⟩:=iV hl;rfl) (fun fa cdv A outer s H E hr=>?_)
 have nd1:(["number", "series"]:List Str).Nodup:=by decide +kernel
 exact (aP (aT (bN (N':=["number", "series"]) (cap:=[none,some 0]) rfl (bU (so:=aG kP) (NN:=["series"]) rfl rfl (by decide +kernel)) (cE (aQ C_numbers_of (hM hr) (aA (aE 0) aD))) rfl (fun _ _ _ _=>bD 0 nd1) (fun _ _ _ _=>bS) (fun _ _ _ _=>(aQ C_time_of (hM hr) (aA (aE 1) (aA (aE 0) aD)))))))
abbrev lV:Stmt:=top 14
theorem yV:FnScope ["row"] ["row"] (aG lV):=fS
theorem a1P (D:Def K mg "is_rising" lV) (B:Blt mg) (XF:ExF K)  : aJ P w K mg base "is_rising" 1 ["row"] cQ:=by
 refine aR 1 1 D yV rfl rfl (fun _ _ _ _ _ _ us hl=>by obtain ⟨_,rfl⟩:=iV hl;rfl) (fun fa cdv A outer s H E hr=>?_)
 exact (aP (aT (lB (vC hr.units) (aE 0) (b0v rfl B.b_sorted B.b_set (aE 0)))))
abbrev nZ:Stmt:=top 12
theorem a0M:FnScope ["thing"] ["thing"] (aG nZ):=fS
theorem a3b (D:Def K mg "is_whole" nZ) (B:Blt mg) (XF:ExF K)  : aJ P w K mg base "is_whole" 1 ["thing"] bV:=by
 refine aR 1 1 D a0M rfl rfl (fun _ _ _ _ _ _ us hl=>by obtain ⟨_,rfl⟩:=iV hl;rfl) (fun fa cdv A outer s H E hr=>?_)
 exact (aP (aT (jV (eF B.b_isinstance B.b_int boot_int (aE 0)) (mG (b3w (eF B.b_isinstance B.b_bool boot_bool (aE 0)))))))
abbrev eT:Stmt:=top 23
theorem tP:FnScope ["thing", "many"] ["thing", "many"] (aG eT):=fS
theorem wG (D:Def K mg "are_numbers" eT) (B:Blt mg) (XF:ExF K) (C_is_whole:aJ P w K mg base "is_whole" 1 ["thing"] bV) (C_is_rising:aJ P w K mg base "is_rising" 1 ["row"] cQ):aJ P w K mg base "are_numbers" 2 ["thing", "many"] gF:=by
 refine aR 2 2 D tP rfl rfl (fun _ _ _ _ _ _ us hl=>by obtain ⟨_,_,rfl⟩:=a4U hl;rfl) (fun fa cdv A outer s H E hr=>?_)
 have nd1:(["number"]:List Str).Nodup:=by decide +kernel
 have nd2:(["number", "many"]:List Str).Nodup:=by decide +kernel
 exact (aI (eB (DW.dt (iE (dR (dZ (eF B.b_isinstance B.b_tuple boot_tuple (aE 0)))) (fZ (dR (dZ (bK (oI rfl) B.b_all boot_all (aA (bN (N':=["number"]) (cap:=[none]) rfl (bU (so:=aG eT) (NN:=["thing", "many"]) rfl rfl (by decide +kernel)) (cE (aE 0)) rfl (fun _ _ _ _=>bD 0 nd1) (fun _ _ _ _=>bS) (fun _ _ _ _=>(aQ C_is_whole (hM hr) (aA (aE 0) aD)))) aD))))))) (aP (aT bG)) cK) (aP (aT (jV (aQ C_is_rising (hM hr) (aA (fT a7k B.b_list boot_list (aA (aE 0) aD)) aD)) (mG (bK (oI rfl) B.b_all boot_all (aA (bN (N':=["number", "many"]) (cap:=[none,some 1]) rfl (bU (so:=aG eT) (NN:=["thing", "many"]) rfl rfl (by decide +kernel)) (cE (aE 0)) rfl (fun _ _ _ _=>bD 0 nd2) (fun _ _ _ _=>bS) (fun _ _ _ _=>(a2Y iW oW aC (aE 0) (aE 1)))) aD)))))))
abbrev mP:Stmt:=top 13
theorem a2p:FnScope ["thing"] ["thing"] (aG mP):=fS
theorem a5H (D:Def K mg "is_name" mP) (B:Blt mg) (XF:ExF K)  : aJ P w K mg base "is_name" 1 ["thing"] eQ:=by
 refine aR 1 1 D a2p rfl rfl (fun _ _ _ _ _ _ us hl=>by obtain ⟨_,rfl⟩:=iV hl;rfl) (fun fa cdv A outer s H E hr=>?_)
 have nd1:(["letter"]:List Str).Nodup:=by decide +kernel
 exact (aI (eB (DW.dt (iE (dR (dZ (eF B.b_isinstance B.b_str boot_str (aE 0)))) (fZ (dR (a2U iW iW aC (bK jQ B.b_len boot_len (aA (aE 0) aD)) (eN rfl (B.k_LONGEST_NAME))))))) (aP (aT bG)) cK) (aP (aT (bK (oI rfl) B.b_all boot_all (aA (bN (N':=["letter"]) (cap:=[none]) rfl (bU (so:=aG mP) (NN:=["thing"]) rfl rfl (by decide +kernel)) (b2I rfl (aE 0)) rfl (fun _ _ _ _=>bD 0 nd1) (fun _ _ _ _=>bS) (fun _ _ _ _=>(a2Y iW iW aM (aE 0) aM))) aD)))))
abbrev jO:Stmt:=top 24
theorem tO:FnScope ["series"] ["series"] (aG jO):=fS
theorem wF (D:Def K mg "end_of_last" jO) (B:Blt mg) (XF:ExF K)  : aJ P w K mg base "end_of_last" 1 ["series"] jZ:=by
 refine aR 1 1 D tO rfl rfl (fun _ _ _ _ _ _ us hl=>by obtain ⟨_,rfl⟩:=iV hl;rfl) (fun fa cdv A outer s H E hr=>?_)
 exact (aP (aT (aS bF (aS bF (bJ (aE 0) aC) (aS iT (bJ (aE 0) aC) (aS lQ (bJ (aE 0) aC) aC))) (bJ (aE 0) aC))))
abbrev jE:Stmt:=top 25
theorem yU:FnScope ["thing"] ["thing"] (aG jE):=fS
theorem a1O (D:Def K mg "is_series" jE) (B:Blt mg) (XF:ExF K) (C_is_name:aJ P w K mg base "is_name" 1 ["thing"] eQ) (C_is_whole:aJ P w K mg base "is_whole" 1 ["thing"] bV) (C_are_numbers:aJ P w K mg base "are_numbers" 2 ["thing", "many"] gF) (C_end_of_last:aJ P w K mg base "end_of_last" 1 ["series"] jZ):aJ P w K mg base "is_series" 3 ["thing"] gT:=by
 refine aR 1 1 D yU rfl rfl (fun _ _ _ _ _ _ us hl=>by obtain ⟨_,rfl⟩:=iV hl;rfl) (fun fa cdv A outer s H E hr=>?_)
 have nd1:(["number"]:List Str).Nodup:=by decide +kernel
 exact (aI (eB (DW.dt (iE (dR (dZ (eF B.b_isinstance B.b_tuple boot_tuple (aE 0)))) (iE (cI (kB hr.units) (bK jQ B.b_len boot_len (aA (aE 0) aD)) aC) (fZ (dR (dZ (aQ C_is_name (hM hr) (aA (bJ (aE 0) aC) aD)))))))) (aP (aT bG)) cK) (aI (eB (dR (dZ (bK (oI rfl) B.b_all boot_all (aA (bN (N':=["number"]) (cap:=[none]) rfl (bU (so:=aG jE) (NN:=["thing"]) rfl rfl (by decide +kernel)) (cE (nO (aE 0) (eW aC) (eW aC))) rfl (fun _ _ _ _=>bD 0 nd1) (fun _ _ _ _=>bS) (fun _ _ _ _=>(aQ C_is_whole (hM hr) (aA (aE 0) aD)))) aD)))) (aP (aT bG)) cK) (aI (eB (DW.dt (iE (cI oW (bJ (aE 0) aC) aC) (iE (cI oW (bJ (aE 0) aC) aC) (iE (cI oW (bJ (aE 0) aC) aC) (fZ (dR (a2U iW iW aC (bJ (aE 0) aC) (eN rfl (B.k_MOST_TIMES))))))))) (aP (aT bG)) cK) (aP (aT (jV (aQ C_are_numbers (hM hr) (aA (bJ (aE 0) aC) (aA (bJ (aE 0) aC) aD))) (mG (lB iW (aQ C_end_of_last (hM hr) (aA (aE 0) aD)) (eN rfl (B.k_LAST_END))))))))))
abbrev bW:Stmt:=top 56
noncomputable abbrev dJ:List Str:=["_law_good", "_law_odd", "_law_place", "_law_thing"]
theorem cD:FnScope dJ [] (aG bW):=fS
theorem nE (D:Def K mg "_law_are_series_told" bW) (B:Blt mg) (XF:ExF K) (C_is_series:aJ P w K mg base "is_series" 3 ["thing"] gT) (C_times_of:aJ P w K mg base "times_of" 2 ["series"] lC):aJ P w K mg base "_law_are_series_told" 4 [] bX:=by
 refine aR 4 0 D cD rfl rfl (fun _ _ _ _ _ _ us hl=>match us,hl with | [],_=>rfl) (fun fa cdv A outer s H E hr=>?_)
 have nd1:(["_law_thing"]:List Str).Nodup:=by decide +kernel
 have nd2:(["_law_thing"]:List Str).Nodup:=by decide +kernel
 have nd3:(["_law_k"]:List Str).Nodup:=by decide +kernel
 exact (aI (qQ 0 cD.nd (aA (aH (aA aM (aA aC (aA aC (aA aC (aA aC (aA (aH aD) aD))))))) (aA (aH (aA aM (aA aC (aA aC (aA aC (aA aC (aA (aH aD) aD))))))) (aA (aH (aA aM (aA aC (aA aC (aA aC (aA aC (aA (aH (aA aC aD)) aD))))))) aD)))) (aI (fQ 0 (cJ (aA (aH (aA aM (aA aC (aA aC (aA aC (aA aC (aA (aH (aA aC (aA aC aD))) aD))))))) (aA (aH (aA aM (aA aC (aA aC (aA aC (aA aC (aA (aH (aA aC (aA aC (aA aC aD)))) aD))))))) (aA (aH (aA aM (aA aC (aA aC (aA aC (aA aC (aA (aH aD) aD))))))) aD))))) (aI (qQ 1 cD.nd (aA (aH (aA aM (aA aC (aA aC (aA aC (aA aC (aA (aH aD) aD))))))) (aA (aH (aA aM (aA aC (aA aC (aA aC (aA aC (aA (aH aD) aD))))))) (aA (aH (aA aM (aA aC (aA aC (aA aC (aA aC (aA (aH aD) aD))))))) (aA (aH (aA aM (aA aC (aA aC (aA aC (aA aC (aA (aH aD) aD))))))) aD))))) (aI (fQ 1 (cJ (aA (aH (aA aM (aA aC (aA aC (aA aC (aA aC (aA (aH aD) aD))))))) (aA (aH (aA aM (aA aC (aA aC (aA aC (aA aC (aA (aH aD) aD))))))) (aA (aH (aA aM (aA aC (aA aC (aA aC (aA aC (aA (aH aD) aD))))))) (aA (aH (aA aM (aA (jU aC) (aA aC (aA aC (aA aC (aA (aH aD) aD))))))) aD)))))) (aI (fQ 1 (cJ (aA (aH (aA aM (aA aC (aA aC (aA aC (aA aC (aA (aH aD) aD))))))) (aA (aH (aA aM (aA aC (aA aC (aA aC (aA aC (aA (aH aD) aD))))))) (aA (aH (aA aM (aA aC (aA aC (aA aC (aA aC (aA (aH (aA aC aD)) aD))))))) (aA (aH (aA aM (aA aC (aA aC (aA aC (aA aC (aA (aH (aA (jU aC) aD)) aD))))))) aD)))))) (aI (fQ 1 (cJ (aA (aH (aA aM (aA aC (aA aC (aA aC (aA aC (aA (aH (aA aC (aA aC aD))) aD))))))) (aA (aH (aA aM (aA aC (aA aC (aA aC (aA aC (aA (aH (aA aC (aA aC aD))) aD))))))) (aA (aH (aA aM (aA aC (aA aC (aA aC (aA aC (aA (cJ (aA aC aD)) aD))))))) aD))))) (aI (a2V 1 (aH (aA aM (aA aC (aA aC (aA aC (aA aC (aA (aH aD) aD)))))))) (aI (a0e PassesOwn.never rfl (a3T B.b_range aC aC) (bD 2 cD.nd) (aP (a0e PassesOwn.never rfl (cE (aH (aA aZ (aA bG (aA aM (aA (aH (aA aC aD)) aD)))))) (bD 3 cD.nd) (aP (a2V 1 (aS bF (aS bF (nO (mF 0 aC) gD (eW (aE 2))) (aH (aA (aE 3) aD))) (nO (mF 0 aC) (eW (aS bF (aE 2) aC)) gD))))))) (aI (fQ 1 (cJ (aA (aH (aA aM (aA aC (aA aC (aA aC (aA aC (aA (aH (aA aZ aD)) aD))))))) (aA (aH (aA aM (aA aC (aA aC (aA aC (aA aC (aA (aH (aA bG aD)) aD))))))) (aA (nO (mF 0 aC) gD (eW aC)) (aA (aS bF (mF 0 aC) (aH (aA (aH aD) aD))) (aA (fT a7k B.b_list boot_list (aA (mF 0 aC) aD)) aD))))))) (aI (eB (b1j (DW.dt (iE (cI (kB hr.units) (bN (N':=["_law_thing"]) (cap:=[none]) rfl (bU (so:=aG bW) (NN:=dJ) rfl rfl (by decide +kernel)) (cE (aE 0)) rfl (fun _ _ _ _=>bD 0 nd1) (fun _ _ _ _=>bS) (fun _ _ _ _=>(aQ C_is_series (hM hr) (aA (aE 0) aD)))) (vG (aA bG aD) aC)) (fZ (cI (kB hr.units) (bN (N':=["_law_thing"]) (cap:=[none]) rfl (bU (so:=aG bW) (NN:=dJ) rfl rfl (by decide +kernel)) (cE (aE 1)) rfl (fun _ _ _ _=>bD 0 nd2) (fun _ _ _ _=>bS) (fun _ _ _ _=>(aQ C_is_series (hM hr) (aA (aE 0) aD)))) (vG (aA bG aD) aC)))))) (aP (aT bG)) cK) (vI 0 (aP (aT (jV (lB (vC hr.units) (aQ C_times_of (hM hr) (aA (bJ (aE 0) aC) aD)) (bN (N':=["_law_k"]) (cap:=[none]) rfl (bU (so:=aG bW) (NN:=dJ) rfl rfl (by decide +kernel)) (a3T B.b_range aC aC) rfl (fun _ _ _ _=>bD 0 nd3) (fun _ _ _ _=>bS) (fun _ _ _ _=>(aH (aA (aS iT aC (aE 0)) (aA (aS bF (aS iT aC (aE 0)) aC) aD)))))) (mG (lB (vC hr.units) (aQ C_times_of (hM hr) (aA (bJ (aE 0) aC) aD)) (cJ aD)))))))))))))))))
abbrev tT:Stmt:=top 49
theorem a4A:FnScope ["thing"] ["thing"] (aG tT):=fS
theorem a8H (D:Def K mg "is_row" tT) (B:Blt mg) (XF:ExF K) (C_is_whole:aJ P w K mg base "is_whole" 1 ["thing"] bV):aJ P w K mg base "is_row" 2 ["thing"] vP:=by
 refine aR 1 1 D a4A rfl rfl (fun _ _ _ _ _ _ us hl=>by obtain ⟨_,rfl⟩:=iV hl;rfl) (fun fa cdv A outer s H E hr=>?_)
 exact (aI (eB (DW.dt (iE (dR (dZ (eF B.b_isinstance B.b_tuple boot_tuple (aE 0)))) (fZ (cI (kB hr.units) (bK jQ B.b_len boot_len (aA (aE 0) aD)) aC)))) (aP (aT bG)) cK) (aP (aT (jV (aQ C_is_whole (hM hr) (aA (bJ (aE 0) aC) aD)) (mG (a2Y iW iW (jU (eN rfl (B.k_MOST_MORE))) (bJ (aE 0) aC) (eN rfl (B.k_MOST_MORE))))))))
abbrev iM:Stmt:=top 50
theorem tN:FnScope ["thing", "moments"] ["thing"] (aG iM):=fS
theorem a5G (D:Def K mg "is_zone" iM) (B:Blt mg) (XF:ExF K) (C_is_row:aJ P w K mg base "is_row" 2 ["thing"] vP) (C_is_whole:aJ P w K mg base "is_whole" 1 ["thing"] bV) (C_is_rising:aJ P w K mg base "is_rising" 1 ["row"] cQ):aJ P w K mg base "is_zone" 3 ["thing"] mZ:=by
 refine aR 2 1 D tN rfl rfl (fun _ _ _ _ _ _ us hl=>by obtain ⟨_,rfl⟩:=iV hl;rfl) (fun fa cdv A outer s H E hr=>?_)
 have nd1:(["part"]:List Str).Nodup:=by decide +kernel
 have nd2:(["moment", "more"]:List Str).Nodup:=by decide +kernel
 have nd3:(["moment"]:List Str).Nodup:=by decide +kernel
 exact (aI (eB (DW.dt (iE (dR (dZ (eF B.b_isinstance B.b_tuple boot_tuple (aE 0)))) (fZ (dR (a2U iW iW aC (bK jQ B.b_len boot_len (aA (aE 0) aD)) (eN rfl (B.k_MOST_ROWS))))))) (aP (aT bG)) cK) (aI (eB (dR (dZ (bK (oI rfl) B.b_all boot_all (aA (bN (N':=["part"]) (cap:=[none]) rfl (bU (so:=aG iM) (NN:=["thing", "moments"]) rfl rfl (by decide +kernel)) (cE (aE 0)) rfl (fun _ _ _ _=>bD 0 nd1) (fun _ _ _ _=>bS) (fun _ _ _ _=>(aQ C_is_row (hM hr) (aA (aE 0) aD)))) aD)))) (aP (aT bG)) cK) (aI (a0d 1 tN.nd (N':=["moment", "more"]) (cap:=[none,none]) rfl (bU (so:=aG iM) (NN:=["thing", "moments"]) rfl rfl (by decide +kernel)) (cE (nO (aE 0) (eW aC) gD)) rfl (fun _ _ _ _=>(vE rfl (eE 0 nd2 (eE 1 nd2 pJ)))) (fun _ _ _ _=>bS) (fun _ _ _ _=>aE 0)) (aP (aT (jV (a2X (bJ (bJ (aE 0) aC) aC)) (jV (bK (oI rfl) B.b_all boot_all (aA (bN (N':=["moment"]) (cap:=[none]) rfl (bU (so:=aG iM) (NN:=["thing", "moments"]) rfl rfl (by decide +kernel)) (cE (aE 1)) rfl (fun _ _ _ _=>bD 0 nd3) (fun _ _ _ _=>bS) (fun _ _ _ _=>(aQ C_is_whole (hM hr) (aA (aE 0) aD)))) aD)) (mG (aQ C_is_rising (hM hr) (aA (aE 1) aD))))))))))
abbrev cY:Stmt:=top 57
noncomputable abbrev eX:List Str:=["_law_rows", "_law_good", "_law_odd"]
theorem dI:FnScope eX [] (aG cY):=fS
theorem oH (D:Def K mg "_law_are_zones_told" cY) (B:Blt mg) (XF:ExF K) (C_is_zone:aJ P w K mg base "is_zone" 3 ["thing"] mZ):aJ P w K mg base "_law_are_zones_told" 4 [] bZ:=by
 refine aR 3 0 D dI rfl rfl (fun _ _ _ _ _ _ us hl=>match us,hl with | [],_=>rfl) (fun fa cdv A outer s H E hr=>?_)
 have nd1:(["_law_k"]:List Str).Nodup:=by decide +kernel
 have nd2:(["_law_thing"]:List Str).Nodup:=by decide +kernel
 exact (aI (bY 0 dI.nd (fT yK B.b_tuple boot_tuple (aA (bN (N':=["_law_k"]) (cap:=[none]) rfl (bU (so:=aG cY) (NN:=eX) rfl rfl (by decide +kernel)) (sP B.b_range aC) rfl (fun _ _ _ _=>bD 0 nd1) (fun _ _ _ _=>bS) (fun _ _ _ _=>(aH (aA (aS lQ (aS iT (aE 0) aC) aC) (aA (aS lQ aC (aS iT aC (aE 0))) aD))))) aD))) (aI (bY 1 dI.nd (cJ (aA (aH (aA (aH (aA aZ (aA aC aD))) aD)) (aA (aH (aA (aH (aA aZ (aA (jU aC) aD))) aD)) (aA (aS bF (aH (aA (aH (aA aZ (aA aC aD))) aD)) (aE 0)) (aA (aS bF (aH (aA (aH (aA aZ (aA aC aD))) aD)) (nO (aE 0) gD (eW aC))) (aA (aH (aA (aH (aA aZ (aA aC aD))) (aA (aH (aA aC (aA aC aD))) aD))) aD))))))) (aI (qQ 2 dI.nd (aA (aH aD) (aA (aH (aA (aH (aA aZ (aA aC aD))) aD)) (aA (aH (aA (aH (aA aZ (aA (jU aC) aD))) aD)) (aA (aS bF (aS bF (aH (aA (aH (aA aZ (aA aC aD))) aD)) (aE 0)) (aH (aA (aH (aA aC (aA aC aD))) aD))) (aA (aH (aA (aH (aA aC (aA aC aD))) aD)) (aA (aH (aA (aH (aA aZ (aA aC aD))) (aA (aH (aA aZ (aA aC aD))) aD))) aD))))))) (aI (fQ 2 (cJ (aA (aH (aA (aH (aA aZ (aA aC aD))) (aA (aH (aA aC (aA aC aD))) (aA (aH (aA aC (aA aC aD))) aD)))) (aA (aH (aA (aH (aA aZ (aA aC aD))) (aA (aH (aA aC (aA aC aD))) (aA (aH (aA aC (aA aC aD))) aD)))) (aA (aH (aA (aH (aA aZ (aA bG aD))) aD)) (aA (aH (aA (aH (aA aZ (aA aC aD))) (aA (aH (aA bG (aA aC aD))) aD))) aD)))))) (aI (fQ 2 (cJ (aA (aH (aA (aH (aA aZ (aA aZ aD))) aD)) (aA (aH (aA (aH (aA aZ (aA aC (aA aC aD)))) aD)) (aA (aH (aA (aH (aA aZ (aA aC aD))) (aA (aH (aA aC (aA aC aD))) aD))) (aA (aH (aA (aH (aA aZ (aA aC aD))) (aA (aH (aA aC (aA (jU aC) aD))) aD))) (aA (aH (aA (aH (aA aZ (aA aC aD))) (aA (aH (aA (aH (aA aC aD)) (aA aC aD))) aD))) aD))))))) (aI (fQ 2 (cJ (aA (cJ (aA (aH (aA aZ (aA aC aD))) aD)) (aA (aH (aA (aH (aA aZ (aA aC aD))) (aA (cJ (aA aC (aA aC aD))) aD))) (aA aZ (aA (aH (aA (aH (aA aZ aD)) aD)) (aA (aH (aA (aH (aA aZ (aA aC aD))) (aA (aH (aA aM (aA aC aD))) aD))) aD))))))) (vI 2 (aP (aT (lB (vC hr.units) (bN (N':=["_law_thing"]) (cap:=[none]) rfl (bU (so:=aG cY) (NN:=eX) rfl rfl (by decide +kernel)) (cE (aS bF (aE 1) (aE 2))) rfl (fun _ _ _ _=>bD 0 nd2) (fun _ _ _ _=>bS) (fun _ _ _ _=>(aQ C_is_zone (hM hr) (aA (aE 0) aD)))) (aS bF (vG (aA bG aD) aC) (vG (aA bG aD) aC))))))))))))
abbrev fK:Stmt:=top 20
theorem nX:FnScope ["sheet"] ["sheet"] (aG fK):=fS
theorem pQ {c T:Addr} (D:Def K mg "in_laying_order" fK) (B:Blt mg) (kb:K.In base) (nb:base.Ns mainGlobals mg) (M:BM mg base) (ht:PySem.W.tabIn K "in_laying_order" = some (c,T)) (hC:PySem.W.codeHdIn K c T=true) (XF:ExF K)  : aJ P w K mg base "in_laying_order" 5 ["sheet"] fV:=by
 refine a1K 1 1 D nX rfl rfl kb nb ht (fun _ _ _ _ _ _ us hl=>by obtain ⟨_,rfl⟩:=iV hl;rfl) (fun fa A outer s H E hr=>?_)
 exact (aP (aT (a8o (k:=1) (y := "meeting") (by unfold gK;simp) ht rfl rfl hC M (hM hr) B.b_sorted (aE 0) (by exact fS) (fun f c A outer s H hr=>(aH (aA (bJ (aE 0) aC) (aA (jU (bJ (aE 0) aC)) (aA (bJ (aE 0) aC) aD))))))))
abbrev iI:Stmt:=top 35
noncomputable abbrev oV:List Str:=["meetings", "ordered"]
theorem nJ:FnScope oV ["meetings"] (aG iI):=fS
theorem a0p (D:Def K mg "changes_in" iI) (B:Blt mg) (XF:ExF K) (C_in_laying_order:aJ P w K mg base "in_laying_order" 5 ["sheet"] fV):aJ P w K mg base "changes_in" 6 ["meetings"] lF:=by
 refine aR 2 1 D nJ rfl rfl (fun _ _ _ _ _ _ us hl=>by obtain ⟨_,rfl⟩:=iV hl;rfl) (fun fa cdv A outer s H E hr=>?_)
 have nd1:(["one", "other"]:List Str).Nodup:=by decide +kernel
 exact (aI (bY 1 nJ.nd (aQ C_in_laying_order (hM hr) (aA (aE 0) aD))) (aP (aT (bK jQ B.b_len boot_len (aA (bN (N':=["one", "other"]) (cap:=[none,none]) rfl (bU (so:=aG iI) (NN:=oV) rfl rfl (by decide +kernel)) (b0u B.b_zip (aE 1) (nO (aE 1) (eW aC) gD)) rfl (fun _ _ _ _=>(vE rfl (eE 0 nd1 (eE 1 nd1 pJ)))) (fun _ _ _ _=>(mV (cI oW (bJ (aE 0) aC) (bJ (aE 1) aC)))) (fun _ _ _ _=>aE 0)) aD)))))
abbrev fJ:Stmt:=top 36
noncomputable abbrev lY:List Str:=["sheet", "plan", "rooms", "told", "room"]
theorem eV:FnScope lY ["sheet", "plan", "rooms"] (aG fJ):=fS
theorem vL (D:Def K mg "room_changes" fJ) (B:Blt mg) (XF:ExF K) (C_changes_in:aJ P w K mg base "changes_in" 6 ["meetings"] lF):aJ P w K mg base "room_changes" 7 ["sheet", "plan", "rooms"] bQ:=by
 refine aR 5 3 D eV rfl rfl (fun _ _ _ _ _ _ us hl=>by obtain ⟨_,_,_,rfl⟩:=a7o hl;rfl) (fun fa cdv A outer s H E hr=>?_)
 have nd1:(["meeting", "plan", "room"]:List Str).Nodup:=by decide +kernel
 exact (aI (bY 3 eV.nd aC) (aI (a0e PassesOwn.never rfl (sP B.b_range (aE 2)) (bD 4 eV.nd) (aP (b3q 3 eV.nd (aQ C_changes_in (hM hr) (aA (bN (N':=["meeting", "plan", "room"]) (cap:=[none,some 1,some 4]) rfl (bU (so:=aG fJ) (NN:=lY) rfl rfl (by decide +kernel)) (cE (aE 0)) rfl (fun _ _ _ _=>bD 0 nd1) (fun _ _ _ _=>(mV (cI (vC hr.units) (a3Y hr.units (aE 1) (bJ (aE 0) aC)) (aE 2)))) (fun _ _ _ _=>aE 0)) aD))))) (aP (aT (aE 3)))))
abbrev tQ:Stmt:=top 54
noncomputable abbrev a6Z:List Str:=["_law_kept", "_law_kinds"]
theorem wP:FnScope a6Z ["_law_kept"] (aG tQ):=fS
theorem a8E (D:Def K mg "_law_word" tQ) (B:Blt mg) (XF:ExF K)  : CalleeE P w K mg base "_law_word" 1 ["_law_kept"] jB:=by
 refine a1M 2 D wP rfl rfl (fun _ _ _ _ _ _ us hl=>by obtain ⟨_,rfl⟩:=iV hl;rfl) (fun fa cdv A outer s H E hr=>?_)
 exact (aI (qQ 1 wP.nd (aA (qU 0 XF B.b_isinstance) (aA (qU 0 XF B.b_isinstance) (aA (qU 0 XF B.b_isinstance) (aA (qU 0 XF B.b_isinstance) aD))))) (aI (fQ 1 (cJ (aA (qU 0 XF B.b_isinstance) (aA (qU 0 XF B.b_isinstance) aD)))) (aI (eB (b1j (DW.dt (iE (cI (kB hr.units) (a8q (aE 1) bG) aC) (fZ (dR (dZ (b0x 0 XF B.b_isinstance B.b_ValueError))))))) (aP (aT aM)) cK) (vI 1 (aP (aT (bJ (cJ (aA aM (aA aM (aA aM (aA aM (aA aM (aA aM aD))))))) (a5o (aE 1) bG))))))))
abbrev oQ:Stmt:=top 44
noncomputable abbrev a1a:List Str:=["line", "moments", "parts"]
theorem wO:FnScope a1a ["line", "moments"] (aG oQ):=fS
theorem a8D (D:Def K mg "row_of" oQ) (B:Blt mg) (XF:ExF K)  : aJ P w K mg base "row_of" 1 ["line", "moments"] pT:=by
 refine aR 3 2 D wO rfl rfl (fun _ _ _ _ _ _ us hl=>by obtain ⟨_,_,rfl⟩:=a4U hl;rfl) (fun fa cdv A outer s H E hr=>?_)
 have nd1:(["part", "moments"]:List Str).Nodup:=by decide +kernel
 exact (aI (bY 2 wO.nd (a1z (aE 0) aM)) (aP (aT (fT yK B.b_tuple boot_tuple (aA (aS bF (nO (aE 2) gD (eW aC)) (bN (N':=["part", "moments"]) (cap:=[none,some 1]) rfl (bU (so:=aG oQ) (NN:=a1a) rfl rfl (by decide +kernel)) (cE (nO (aE 2) (eW aC) gD)) rfl (fun _ _ _ _=>bD 0 nd1) (fun _ _ _ _=>bS) (fun _ _ _ _=>(a3Y hr.units (aE 1) (aE 0))))) aD)))))
abbrev kQ:Stmt:=top 18
theorem a0L:FnScope ["sheet"] ["sheet"] (aG kQ):=fS
theorem a3a (D:Def K mg "names_of" kQ) (B:Blt mg) (XF:ExF K)  : aJ P w K mg base "names_of" 1 ["sheet"] lE:=by
 refine aR 1 1 D a0L rfl rfl (fun _ _ _ _ _ _ us hl=>by obtain ⟨_,rfl⟩:=iV hl;rfl) (fun fa cdv A outer s H E hr=>?_)
 have nd1:(["meeting"]:List Str).Nodup:=by decide +kernel
 exact (aP (aT (bN (N':=["meeting"]) (cap:=[none]) rfl (bU (so:=aG kQ) (NN:=["sheet"]) rfl rfl (by decide +kernel)) (cE (aE 0)) rfl (fun _ _ _ _=>bD 0 nd1) (fun _ _ _ _=>bS) (fun _ _ _ _=>(bJ (aE 0) aC)))))
abbrev lW:Stmt:=top 15
theorem yW:FnScope ["begin", "end"] ["begin", "end"] (aG lW):=fS
theorem a1R (D:Def K mg "are_times" lW) (B:Blt mg) (XF:ExF K) (C_is_whole:aJ P w K mg base "is_whole" 1 ["thing"] bV):aJ P w K mg base "are_times" 2 ["begin", "end"] dW:=by
 refine aR 2 2 D yW rfl rfl (fun _ _ _ _ _ _ us hl=>by obtain ⟨_,_,rfl⟩:=a4U hl;rfl) (fun fa cdv A outer s H E hr=>?_)
 exact (aP (aT (jV (aQ C_is_whole (hM hr) (aA (aE 0) aD)) (jV (aQ C_is_whole (hM hr) (aA (aE 1) aD)) (mG (b0y iW oW iW aC (aE 0) (aE 1) (eN rfl (B.k_LAST_END))))))))
abbrev kT:Stmt:=top 16
theorem vT:FnScope ["thing"] ["thing"] (aG kT):=fS
theorem a0o (D:Def K mg "is_meeting" kT) (B:Blt mg) (XF:ExF K) (C_is_name:aJ P w K mg base "is_name" 1 ["thing"] eQ) (C_are_times:aJ P w K mg base "are_times" 2 ["begin", "end"] dW):aJ P w K mg base "is_meeting" 3 ["thing"] fU:=by
 refine aR 1 1 D vT rfl rfl (fun _ _ _ _ _ _ us hl=>by obtain ⟨_,rfl⟩:=iV hl;rfl) (fun fa cdv A outer s H E hr=>?_)
 exact (aI (eB (DW.dt (iE (dR (dZ (eF B.b_isinstance B.b_tuple boot_tuple (aE 0)))) (fZ (cI (kB hr.units) (bK jQ B.b_len boot_len (aA (aE 0) aD)) aC)))) (aP (aT bG)) cK) (aP (aT (jV (aQ C_is_name (hM hr) (aA (bJ (aE 0) aC) aD)) (mG (aQ C_are_times (hM hr) (aA (bJ (aE 0) aC) (aA (bJ (aE 0) aC) aD))))))))
abbrev kR:Stmt:=top 17
theorem a0N:FnScope ["thing"] ["thing"] (aG kR):=fS
theorem a3c (D:Def K mg "is_sheet" kR) (B:Blt mg) (XF:ExF K) (C_is_meeting:aJ P w K mg base "is_meeting" 3 ["thing"] fU) (C_names_of:aJ P w K mg base "names_of" 1 ["sheet"] lE) (C_is_rising:aJ P w K mg base "is_rising" 1 ["row"] cQ):aJ P w K mg base "is_sheet" 4 ["thing"] cA:=by
 refine aR 1 1 D a0N rfl rfl (fun _ _ _ _ _ _ us hl=>by obtain ⟨_,rfl⟩:=iV hl;rfl) (fun fa cdv A outer s H E hr=>?_)
 have nd1:(["part"]:List Str).Nodup:=by decide +kernel
 exact (aI (eB (DW.dt (iE (dR (dZ (eF B.b_isinstance B.b_tuple boot_tuple (aE 0)))) (fZ (cI b1h (bK jQ B.b_len boot_len (aA (aE 0) aD)) (eN rfl (B.k_MOST_MEETINGS)))))) (aP (aT bG)) cK) (aI (eB (dR (dZ (bK (oI rfl) B.b_all boot_all (aA (bN (N':=["part"]) (cap:=[none]) rfl (bU (so:=aG kR) (NN:=["thing"]) rfl rfl (by decide +kernel)) (cE (aE 0)) rfl (fun _ _ _ _=>bD 0 nd1) (fun _ _ _ _=>bS) (fun _ _ _ _=>(aQ C_is_meeting (hM hr) (aA (aE 0) aD)))) aD)))) (aP (aT bG)) cK) (aP (aT (aQ C_is_rising (hM hr) (aA (aQ C_names_of (hM hr) (aA (aE 0) aD)) aD))))))
abbrev oR:Stmt:=top 45
noncomputable abbrev zH:List Str:=["text", "moments", "lines", "sheet"]
theorem oO:FnScope zH ["text"] (aG oR):=fS
theorem b0K (D:Def K mg "read" oR) (B:Blt mg) (XF:ExF K) (C_moment_text:aJ P w K mg base "moment_text" 2 ["moment"] dH) (C_row_of:aJ P w K mg base "row_of" 1 ["line", "moments"] pT) (C_is_sheet:aJ P w K mg base "is_sheet" 4 ["thing"] cA):CalleeX P w K mg base "read" 5 ["text"] gE:=by
 refine a1L 4 1 D oO rfl rfl (fun _ _ _ _ _ _ us hl=>by obtain ⟨_,rfl⟩:=iV hl;rfl) (fun fa cdv A outer s H E hr=>?_)
 have nd1:(["moment"]:List Str).Nodup:=by decide +kernel
 have nd2:(["line", "moments"]:List Str).Nodup:=by decide +kernel
 exact (aI (eB (dR (dZ (eF B.b_isinstance B.b_str boot_str (aE 0)))) (aP (xV XF rfl)) cK) (aI (bY 1 oO.nd (fT (a3S rfl) B.b_dict boot_dict (aA (bN (N':=["moment"]) (cap:=[none]) rfl (bU (so:=aG oR) (NN:=zH) rfl rfl (by decide +kernel)) (sP B.b_range (aS bF (eN rfl (B.k_LAST_END)) aC)) rfl (fun _ _ _ _=>bD 0 nd1) (fun _ _ _ _=>bS) (fun _ _ _ _=>(aH (aA (aQ C_moment_text (hM hr) (aA (aE 0) aD)) (aA (aE 0) aD))))) aD))) (aI (bY 2 oO.nd (a1z (aE 0) aM)) (aI (bY 3 oO.nd (fT yK B.b_tuple boot_tuple (aA (bN (N':=["line", "moments"]) (cap:=[none,some 1]) rfl (bU (so:=aG oR) (NN:=zH) rfl rfl (by decide +kernel)) (cE (nO (aE 2) gD (eW (jU aC)))) rfl (fun _ _ _ _=>bD 0 nd2) (fun _ _ _ _=>bS) (fun _ _ _ _=>(aQ C_row_of (hM hr) (aA (aE 0) (aA (aE 1) aD))))) aD))) (aI (eB (DW.dt (iE (cI (kB hr.units) (bJ (aE 2) (jU aC)) aM) (fZ (dR (dZ (aQ C_is_sheet (hM hr) (aA (aE 3) aD))))))) (aP (xV XF rfl)) cK) (aP (aT (aE 3))))))))
abbrev a2s:Stmt:=top 55
noncomputable abbrev b2B:List Str:=["_law_text", "_law_kept", "_law_answer", "e"]
theorem oP:FnScope b2B ["_law_text"] (aG a2s):=fS
theorem b3D (D:Def K mg "_law_do" a2s) (B:Blt mg) (XF:ExF K) (C_readX:CalleeX P w K mg base "read" 5 ["text"] gE) (C_l_word:CalleeE P w K mg base "_law_word" 1 ["_law_kept"] jB):aJ P w K mg base "_law_do" 6 ["_law_text"] iA:=by
 refine aR 4 1 D oP rfl rfl (fun _ _ _ _ _ _ us hl=>by obtain ⟨_,rfl⟩:=iV hl;rfl) (fun fa cdv A outer s H E hr=>?_)
 exact (aI (bY 1 oP.nd aZ) (aI (bY 2 oP.nd aZ) (aI (b0t 1 3 XF oP.nd rfl rfl (fun _ _=>(aP (bY 2 oP.nd (a8r C_readX (hM hr) (aA (aE 0) aD)))))) (aI (eB (b0s 1) (aP (aT (aE 2))) cK) (aP (aT (a5p 1 C_l_word (hM hr))))))))
abbrev lG:Stmt:=top 58
noncomputable abbrev a3D:List Str:=["_law_script", "_law_size", "_law_begin", "_law_end", "_law_sheet", "_law_moments", "_law_due", "_law_apart", "_law_other", "_law_plan", "_law_text", "_law_odd"]
theorem gY:FnScope a3D ["_law_script"] (aG lG):=fS
theorem b4W {fa:Addr} {fd:FuncData} (Fu:Fun K "law" "law" lG fa fd) (B:Blt mg) (XF:ExF K) (C_l_are_series_told:aJ P w K mg base "_law_are_series_told" 4 [] bX) (C_l_are_zones_told:aJ P w K mg base "_law_are_zones_told" 4 [] bZ) (C_l_pick:aJ P w K mg base "_law_pick" 2 ["_law_script", "_law_k", "_law_many"] eO) (C_busy_at:aJ P w K mg base "busy_at" 2 ["sheets", "begin", "size"] fE) (C_best_time:aJ P w K mg base "best_time" 3 ["sheets", "begin", "end", "size"] cR) (C_room_changes:aJ P w K mg base "room_changes" 7 ["sheet", "plan", "rooms"] bQ) (C_written:aJ P w K mg base "written" 4 ["sheet"] kH) (C_l_do:aJ P w K mg base "_law_do" 6 ["_law_text"] iA):FnOk P w K mg base CX0 8 fa fd ["_law_script"] (spD K fun ds d=>F_law ds=some (.ok d)):=by
 refine a7T 12 1 Fu gY rfl rfl (fun cdv A outer s H E hr=>?_)
 have nd1:(["_law_moment", "_law_sheet", "_law_size"]:List Str).Nodup:=by decide +kernel
 have nd2:(["_law_rooms", "_law_other", "_law_plan"]:List Str).Nodup:=by decide +kernel
 have nd3:(["_law_one"]:List Str).Nodup:=by decide +kernel
 exact (aI (eB (DW.dt (iE (dR (dZ (a1A C_l_are_series_told (hM hr)))) (fZ (dR (dZ (a1A C_l_are_zones_told (hM hr))))))) (aP (aT bG)) cK) (aI (b3o (aH (aA (aS bF aC (aQ C_l_pick (hM hr) (aA (aE 0) (aA aC (aA aC aD))))) (aA (aQ C_l_pick (hM hr) (aA (aE 0) (aA aC (aA aC aD)))) aD))) (vE rfl (eE 1 gY.nd (eE 2 gY.nd pJ)))) (aI (bY 3 gY.nd (aS bF (aS bF (aE 2) (aE 1)) (aQ C_l_pick (hM hr) (aA (aE 0) (aA aC (aA aC aD)))))) (aI (bY 4 gY.nd (aH (aA (aH (aA aM (aA (aE 2) (aA (bK (a7h rfl) B.b_max boot_max (aA (aS bF (aE 2) aC) (aA (aS lQ (aE 3) (aE 1)) aD))) aD)))) aD))) (aI (eB (cI (kB hr.units) (aQ C_busy_at (hM hr) (aA (cJ (aA (aE 4) aD)) (aA (aS lQ (aE 3) (aE 1)) (aA (aE 1) aD)))) (fT b3d B.b_int boot_int (aA (lB oW (aS lQ (aE 3) (aE 1)) (bJ (bJ (aE 4) aC) aC)) aD))) (aP (aT bG)) cK) (aI (bY 5 gY.nd (a8p B.b_list B.b_range (aE 2) (aS bF (aS lQ (aE 3) (aE 1)) aC))) (aI (bY 6 gY.nd (bK (a9Q rfl hr.units) B.b_min boot_min (aA (bN (N':=["_law_moment", "_law_sheet", "_law_size"]) (cap:=[none,some 4,some 1]) rfl (bU (so:=aG lG) (NN:=a3D) rfl rfl (by decide +kernel)) (cE (aE 5)) rfl (fun _ _ _ _=>bD 0 nd1) (fun _ _ _ _=>bS) (fun _ _ _ _=>(aH (aA (aQ C_busy_at (hM hr) (aA (cJ (aA (aE 1) aD)) (aA (aE 0) (aA (aE 2) aD)))) (aA (aE 0) aD))))) aD))) (aI (eB (cI (kB hr.units) (aQ C_best_time (hM hr) (aA (cJ (aA (aE 4) aD)) (aA (aE 2) (aA (aE 3) (aA (aE 1) aD))))) (aH (aA (bJ (aE 6) aC) (aA (bJ (aE 6) aC) aD)))) (aP (aT bG)) cK) (aI (eB (wD (aQ C_best_time (hM hr) (aA (cJ (aA (aE 4) aD)) (aA (aE 2) (aA (aS lQ (aS bF (aE 2) (aE 1)) aC) (aA (aE 1) aD)))))) (aP (aT bG)) cK) (aI (eB (cI (kB hr.units) (aQ C_best_time (hM hr) (aA (cJ (aA (aE 4) aD)) (aA (aE 2) (aA (aS bF (aE 2) (aE 1)) (aA (aE 1) aD))))) (aH (aA (aE 2) (aA aC aD)))) (aP (aT bG)) cK) (aI (bY 7 gY.nd (aQ C_l_pick (hM hr) (aA (aE 0) (aA aC (aA aC aD))))) (aI (bY 8 gY.nd (aH (aA (aH (aA aM (aA aC (aA aC aD)))) (aA (aH (aA aM (aA (aS bF aC (aE 7)) (aA aC aD)))) (aA (aH (aA aM (aA (aS bF aC (aE 7)) (aA aC aD)))) (aA (aH (aA aM (aA (aS bF aC (aE 7)) (aA aC aD)))) aD)))))) (aI (bY 9 gY.nd (fT (a3S rfl) B.b_dict boot_dict (aA (cJ (aA (aH (aA aM (aA aC aD))) (aA (aH (aA aM (aA aC aD))) (aA (aH (aA aM (aA aC aD))) (aA (aH (aA aM (aA aC aD))) aD))))) aD))) (aI (eB (cI (kB hr.units) (bN (N':=["_law_rooms", "_law_other", "_law_plan"]) (cap:=[none,some 8,some 9]) rfl (bU (so:=aG lG) (NN:=a3D) rfl rfl (by decide +kernel)) (cE (aH (aA aC (aA aC (aA aC aD))))) rfl (fun _ _ _ _=>bD 0 nd2) (fun _ _ _ _=>bS) (fun _ _ _ _=>(aQ C_room_changes (hM hr) (aA (aE 1) (aA (aE 2) (aA (aE 0) aD)))))) (cJ (aA aC (aA (aE 7) (aA (aS iT aC (aE 7)) aD))))) (aP (aT bG)) cK) (aI (bY 10 gY.nd (aQ C_written (hM hr) (aA (aH (aA (aH (aA aM (aA aC (aA aC aD)))) (aA (aH (aA aM (aA aC (aA aC aD)))) aD))) aD))) (aI (eB (DW.dt (iE (cI (kB hr.units) (aQ C_l_do (hM hr) (aA (aE 10) aD)) (aH (aA (aH (aA aM (aA aC (aA aC aD)))) (aA (aH (aA aM (aA aC (aA aC aD)))) aD)))) (fZ (cI (kB hr.units) (aQ C_l_do (hM hr) (aA aM aD)) (aH aD))))) (aP (aT bG)) cK) (aI (qQ 11 gY.nd (aA (b3v (aE 10) gD (eW (jU aC))) (aA (aS bF (aE 10) aM) (aA aM (aA aM (aA aM (aA aM (aA aM (aA aM aD))))))))) (aI (a2V 11 aM) (aI (fQ 11 (cJ (aA aM (aA aM (aA aM (aA aM (aA aM (aA aM aD)))))))) (vI 11 (aP (aT (lB (vC hr.units) (bN (N':=["_law_one"]) (cap:=[none]) rfl (bU (so:=aG lG) (NN:=a3D) rfl rfl (by decide +kernel)) (cE (aE 11)) rfl (fun _ _ _ _=>bD 0 nd3) (fun _ _ _ _=>bS) (fun _ _ _ _=>(aQ C_l_do (hM hr) (aA (aE 0) aD)))) (vG (aA aM aD) aC))))))))))))))))))))))))
end
theorem blt_mk {K:PySem.W.Frag} {h:Heap} {mg:Str→Option Value} {t0:Tok} {t1:Tok} {t2:Tok} {t3:Tok} {t4:Tok} {t5:Tok} {t6:Tok} (X:K.In h) (G:h.Ns mainGlobals mg) (z0:PySem.W.nsIn K mainGlobals "ValueError" = some none) (z1:PySem.W.nsIn K mainGlobals "all" = some none) (z2:PySem.W.nsIn K mainGlobals "any" = some none) (z3:PySem.W.nsIn K mainGlobals "bool" = some none) (z4:PySem.W.nsIn K mainGlobals "dict" = some none) (z5:PySem.W.nsIn K mainGlobals "int" = some none) (z6:PySem.W.nsIn K mainGlobals "isinstance" = some none) (z7:PySem.W.nsIn K mainGlobals "len" = some none) (z8:PySem.W.nsIn K mainGlobals "list" = some none) (z9:PySem.W.nsIn K mainGlobals "max" = some none) (z10:PySem.W.nsIn K mainGlobals "min" = some none) (z11:PySem.W.nsIn K mainGlobals "range" = some none) (z12:PySem.W.nsIn K mainGlobals "set" = some none) (z13:PySem.W.nsIn K mainGlobals "sorted" = some none) (z14:PySem.W.nsIn K mainGlobals "str" = some none) (z15:PySem.W.nsIn K mainGlobals "tuple" = some none) (z16:PySem.W.nsIn K mainGlobals "zip" = some none) (y0:PySem.W.nsIn K mainGlobals "DAY" = some (some (.int 48 t0))) (y1:PySem.W.nsIn K mainGlobals "LAST_END" = some (some (.int 480 t1))) (y2:PySem.W.nsIn K mainGlobals "LONGEST_NAME" = some (some (.int 4 t2))) (y3:PySem.W.nsIn K mainGlobals "MOST_MEETINGS" = some (some (.int 16 t3))) (y4:PySem.W.nsIn K mainGlobals "MOST_MORE" = some (some (.int 24 t4))) (y5:PySem.W.nsIn K mainGlobals "MOST_ROWS" = some (some (.int 5 t5))) (y6:PySem.W.nsIn K mainGlobals "MOST_TIMES" = some (some (.int 10 t6))):Blt mg:=
 ⟨PySem.W.mg_none_of X G z0,PySem.W.mg_none_of X G z1,PySem.W.mg_none_of X G z2,PySem.W.mg_none_of X G z3,PySem.W.mg_none_of X G z4,PySem.W.mg_none_of X G z5,PySem.W.mg_none_of X G z6,PySem.W.mg_none_of X G z7,PySem.W.mg_none_of X G z8,PySem.W.mg_none_of X G z9,PySem.W.mg_none_of X G z10,PySem.W.mg_none_of X G z11,PySem.W.mg_none_of X G z12,PySem.W.mg_none_of X G z13,PySem.W.mg_none_of X G z14,PySem.W.mg_none_of X G z15,PySem.W.mg_none_of X G z16,⟨_,PySem.W.mg_of X G y0⟩,⟨_,PySem.W.mg_of X G y1⟩,⟨_,PySem.W.mg_of X G y2⟩,⟨_,PySem.W.mg_of X G y3⟩,⟨_,PySem.W.mg_of X G y4⟩,⟨_,PySem.W.mg_of X G y5⟩,⟨_,PySem.W.mg_of X G y6⟩⟩
theorem law_mk {l:PySem.W.OpenLaw} {w:World} {K:PySem.W.Frag} {h:Heap} {mg:Str→Option Value} {fa f4:Addr} (X:K.In h) (G:h.Ns mainGlobals mg) (hfa:mg "law" = some (.ref fa)) {od4 an4:Option Addr} {sl4:Array (Option Value)} {oc4 kV4 dc4 pm4 cd4 ct4:Value}
  (B:Blt mg) (XF:ExF K) (D0:Def K mg "_law_cell" tS) (D1:Def K mg "_law_pick" tR) (D2:Def K mg "day_of" tV) (D3:Def K mg "moment_text" jN) (D4:Def K mg "line_of" qC) (D5:Def K mg "written" mO) (D6:Def K mg "is_busy" mQ) (D7:Def K mg "busy_at" mR) (D8:Def K mg "all_meetings" iQ) (D9:Def K mg "best_time" fB) (D10:Def K mg "time_of" qB) (D11:Def K mg "numbers_of" iH) (D12:Def K mg "times_of" kP) (D13:Def K mg "is_rising" lV) (D14:Def K mg "is_whole" nZ) (D15:Def K mg "are_numbers" eT) (D16:Def K mg "is_name" mP) (D17:Def K mg "end_of_last" jO) (D18:Def K mg "is_series" jE) (D19:Def K mg "_law_are_series_told" bW) (D20:Def K mg "is_row" tT) (D21:Def K mg "is_zone" iM) (D22:Def K mg "_law_are_zones_told" cY) (D23:Def K mg "in_laying_order" fK) (D24:Def K mg "changes_in" iI) (D25:Def K mg "room_changes" fJ) (D26:Def K mg "_law_word" tQ) (D27:Def K mg "row_of" oQ) (D28:Def K mg "names_of" kQ) (D29:Def K mg "are_times" lW) (D30:Def K mg "is_meeting" kT) (D31:Def K mg "is_sheet" kR) (D32:Def K mg "read" oR) (D33:Def K mg "_law_do" a2s) (tb0:PySem.W.tabIn K "in_laying_order" = some (148,144)) (hC0:PySem.W.codeHdIn K 148 144=true)
  (a4:PySem.W.nsIn K mainGlobals "law" = some (some (.ref f4))) (l4:K.lookup f4=some ⟨oc4,od4,.func (PySem.W.fnOf "law" "law" (fR lG) (cN lG) (aG lG) .none kV4 dc4 pm4 an4 cd4 ct4),sl4⟩) (c4:PySem.W.codeIn K cd4 "law" = true) (k4:PySem.W.keepIn K (.ref f4)=true) :
  ∃ fd:FuncData,(∀ (s:Shared) (v:Value),BindsTo s fd ⟨[v],[]⟩ [("_law_script", v)])∧∀ base:Heap,K.In base→base.Ns mainGlobals mg→BM mg base→FnOk l.prog w K mg base CX0 8 fa fd ["_law_script"] (spD K fun ds d=>F_law ds=some (.ok d)):=by
 have e:=hfa.symm.trans (PySem.W.mg_of X G a4)
 cases e
 refine ⟨PySem.W.fnOf "law" "law" (fR lG) (cN lG) (aG lG) .none kV4 dc4 pm4 an4 cd4 ct4,fun s v=>.of_eq rfl,fun base kb nb M=>?_⟩
 have C_l_cell:=a8G (P:=l.prog) (w:=w) (base:=base) D0 B XF
 have C_l_pick:=a8F (P:=l.prog) (w:=w) (base:=base) D1 B XF C_l_cell
 have C_day_of:=a8I (P:=l.prog) (w:=w) (base:=base) D2 B XF
 have C_moment_text:=wE (P:=l.prog) (w:=w) (base:=base) D3 B XF C_day_of
 have C_line_of:=a5F (P:=l.prog) (w:=w) (base:=base) D4 B XF C_moment_text
 have C_written:=a5D (P:=l.prog) (w:=w) (base:=base) D5 B XF C_line_of
 have C_is_busy:=a5I (P:=l.prog) (w:=w) (base:=base) D6 B XF
 have C_busy_at:=a5J (P:=l.prog) (w:=w) (base:=base) D7 B XF C_is_busy
 have C_all_meetings:=vM (P:=l.prog) (w:=w) (base:=base) D8 B XF
 have C_best_time:=a1Q (P:=l.prog) (w:=w) (base:=base) D9 B XF C_all_meetings C_busy_at
 have C_time_of:=a5E (P:=l.prog) (w:=w) (base:=base) D10 B XF
 have C_numbers_of:=a0n (P:=l.prog) (w:=w) (base:=base) D11 B XF
 have C_times_of:=a2Z (P:=l.prog) (w:=w) (base:=base) D12 B XF C_numbers_of C_time_of
 have C_is_rising:=a1P (P:=l.prog) (w:=w) (base:=base) D13 B XF
 have C_is_whole:=a3b (P:=l.prog) (w:=w) (base:=base) D14 B XF
 have C_are_numbers:=wG (P:=l.prog) (w:=w) (base:=base) D15 B XF C_is_whole C_is_rising
 have C_is_name:=a5H (P:=l.prog) (w:=w) (base:=base) D16 B XF
 have C_end_of_last:=wF (P:=l.prog) (w:=w) (base:=base) D17 B XF
 have C_is_series:=a1O (P:=l.prog) (w:=w) (base:=base) D18 B XF C_is_name C_is_whole C_are_numbers C_end_of_last
 have C_l_are_series_told:=nE (P:=l.prog) (w:=w) (base:=base) D19 B XF C_is_series C_times_of
 have C_is_row:=a8H (P:=l.prog) (w:=w) (base:=base) D20 B XF C_is_whole
 have C_is_zone:=a5G (P:=l.prog) (w:=w) (base:=base) D21 B XF C_is_row C_is_whole C_is_rising
 have C_l_are_zones_told:=oH (P:=l.prog) (w:=w) (base:=base) D22 B XF C_is_zone
 have C_in_laying_order:=pQ (P:=l.prog) (w:=w) (base:=base) D23 B kb nb M tb0 hC0 XF
 have C_changes_in:=a0p (P:=l.prog) (w:=w) (base:=base) D24 B XF C_in_laying_order
 have C_room_changes:=vL (P:=l.prog) (w:=w) (base:=base) D25 B XF C_changes_in
 have C_l_word:=a8E (P:=l.prog) (w:=w) (base:=base) D26 B XF
 have C_row_of:=a8D (P:=l.prog) (w:=w) (base:=base) D27 B XF
 have C_names_of:=a3a (P:=l.prog) (w:=w) (base:=base) D28 B XF
 have C_are_times:=a1R (P:=l.prog) (w:=w) (base:=base) D29 B XF C_is_whole
 have C_is_meeting:=a0o (P:=l.prog) (w:=w) (base:=base) D30 B XF C_is_name C_are_times
 have C_is_sheet:=a3c (P:=l.prog) (w:=w) (base:=base) D31 B XF C_is_meeting C_names_of C_is_rising
 have C_readX:=b0K (P:=l.prog) (w:=w) (base:=base) D32 B XF C_moment_text C_row_of C_is_sheet
 have C_l_do:=b3D (P:=l.prog) (w:=w) (base:=base) D33 B XF C_readX C_l_word
 exact b4W (a7Q (st:=lG) l4 c4 k4) B XF C_l_are_series_told C_l_are_zones_told C_l_pick C_busy_at C_best_time C_room_changes C_written C_l_do
end L2.L3
open PySem PySem.W PyProof.Rows
namespace PySem.W.Fast
theorem tw2291585113934266967:True:=⟨⟩
theorem tw14680609100023138425:True:=⟨⟩
theorem tw3672990433966822866:True:=⟨⟩
theorem tw17194956722974889868:True:=⟨⟩
theorem tw12320403170169943455:True:=⟨⟩
theorem tw13500237419000661264:True:=⟨⟩
theorem tw17975522808133062012:True:=⟨⟩
theorem tw16769642342799748850:True:=⟨⟩
theorem tw17069517859301626964:True:=⟨⟩
theorem tw9077319733102419880:True:=⟨⟩
theorem tw5175328169730644288:True:=⟨⟩
theorem tw1512717248335704044:True:=⟨⟩
theorem tw8103230825641293263:True:=⟨⟩
theorem tw14953008827356470537:True:=⟨⟩
theorem tw4530423831926756137:True:=⟨⟩
theorem tw11840767664681834449:True:=⟨⟩
theorem tw7861468406765409234:True:=⟨⟩
theorem tw9966568258957619184:True:=⟨⟩
theorem tw9212176140867719510:True:=⟨⟩
theorem tw5667996426358431292:True:=⟨⟩
theorem tw7745905336950953875:True:=⟨⟩
theorem tw12536085515545330114:True:=⟨⟩
theorem tw1521874109185125523:True:=⟨⟩
theorem tw9839358121908563014:True:=⟨⟩
theorem tw6556066902457254111:True:=⟨⟩
theorem tw15710656858664785308:True:=⟨⟩
theorem tw16161728229928741026:True:=⟨⟩
theorem tw15528515726855657929:True:=⟨⟩
theorem tw7390002636074769344:True:=⟨⟩
theorem tw2288579022904340133:True:=⟨⟩
theorem tw16979522147313007403:True:=⟨⟩
theorem tw10295019302033874490:True:=⟨⟩
theorem tw18133584782067832595:True:=⟨⟩
theorem tw1422760882113090853:True:=⟨⟩
theorem tw17612087225950536672:True:=⟨⟩
theorem tw15535520251890529916:True:=⟨⟩
theorem tw13454305979400669882:True:=⟨⟩
theorem tw1914590650081567364:True:=⟨⟩
theorem tw13413910081791684964:True:=⟨⟩
theorem tw684478026500143395:True:=⟨⟩
theorem tw2142367453630903955:True:=⟨⟩
theorem tw2021024947297919425:True:=⟨⟩
theorem tw5612162928646967863:True:=⟨⟩
theorem tw8503987047505471805:True:=⟨⟩
theorem tw16908910710206989053:True:=⟨⟩
theorem tw14972494900408539377:True:=⟨⟩
theorem tw13090518738362010205:True:=⟨⟩
theorem tw12073097148007869625:True:=⟨⟩
theorem tw17421672585740166090:True:=⟨⟩
theorem tw16854920762524709145:True:=⟨⟩
theorem tw485107903737456800:True:=⟨⟩
theorem tw262467733720671676:True:=⟨⟩
theorem tw15144411993666491687:True:=⟨⟩
theorem tw5233518219379744860:True:=⟨⟩
theorem tw7166460535823133270:True:=⟨⟩
theorem tw7011814093038267802:True:=⟨⟩
theorem tw12482629848157675874:True:=⟨⟩
theorem tw2376800935030160655:True:=⟨⟩
theorem tw6003929601670531300:True:=⟨⟩
theorem tw792559487589624301:True:=⟨⟩
theorem tw17382067184794008028:True:=⟨⟩
theorem tw18319780933979750782:True:=⟨⟩
theorem tw18399258924128839451:True:=⟨⟩
theorem tw2508216626381731164:True:=⟨⟩
theorem tw8649813543654580340:True:=⟨⟩
end PySem.W.Fast
set_option maxRecDepth 100000 in
set_option maxHeartbeats 0 in
theorem PySem.Challenge.cw_daysheet_k96_whole_edges_holds : PySem.Challenge.rw_daysheet_k96_whole_edges.Holds := by
 w_on;o_law;k_head;(case hw=>w_witness2)
 k_fill
 refine L2.L3.walkL (l:=PySem.Challenge.rw_daysheet_k96_whole_edges) (k:=8) (F:=L2.L3.F_law) (x := "_law_script") [(144,L2.L3.lamQ "in_laying_order")] rfl rfl ⟨rfl,by decide,by decide⟩ (fun w h Y=>PySem.W.km_in_of Y) (fun w h Y=>PySem.W.km_tabs_of Y) ?cd ?ts ?F (fun ns hl=>L2.L3.e_law ns hl)
 case cd=>exact fun w=>L2.L3.all_cons ⟨⟨148,by kernel_rfl⟩,by kernel_rfl⟩ (fun _ h=>nomatch h)
 case ts=>exact fun w=>L2.L3.lam_all (.inl (by kernel_rfl)) (.inr ⟨148,144,by kernel_rfl,by decide⟩)
 case F=>
  intro w mg fa h KX G hmg
  refine' L2.L3.law_mk KX G hmg ?B ?XF ?D0 ?D1 ?D2 ?D3 ?D4 ?D5 ?D6 ?D7 ?D8 ?D9 ?D10 ?D11 ?D12 ?D13 ?D14 ?D15 ?D16 ?D17 ?D18 ?D19 ?D20 ?D21 ?D22 ?D23 ?D24 ?D25 ?D26 ?D27 ?D28 ?D29 ?D30 ?D31 ?D32 ?D33 ?tb0 ?hC0 ?a4 ?l4 ?c4 ?k4
  (case XF=>exact ⟨by kernel_rfl⟩)
  (case tb0=>kernel_rfl);(case hC0=>kernel_rfl)
  (case a4=>k_is);(case l4=>k_is);(case c4=>k_is);(case k4=>k_is)
  (case B=>(refine' L2.L3.blt_mk KX G ?z0 ?z1 ?z2 ?z3 ?z4 ?z5 ?z6 ?z7 ?z8 ?z9 ?z10 ?z11 ?z12 ?z13 ?z14 ?z15 ?z16 ?y0 ?y1 ?y2 ?y3 ?y4 ?y5 ?y6;(case z0=>k_is);(case z1=>k_is);(case z2=>k_is);(case z3=>k_is);(case z4=>k_is);(case z5=>k_is);(case z6=>k_is);(case z7=>k_is);(case z8=>k_is);(case z9=>k_is);(case z10=>k_is);(case z11=>k_is);(case z12=>k_is);(case z13=>k_is);(case z14=>k_is);(case z15=>k_is);(case z16=>k_is);(case y0=>k_is);(case y1=>k_is);(case y2=>k_is);(case y3=>k_is);(case y4=>k_is);(case y5=>k_is);(case y6=>k_is)))
  (case D0 | D1 | D2 | D3 | D4 | D5 | D6 | D7 | D8 | D9 | D10 | D11 | D12 | D13 | D14 | D15 | D16 | D17 | D18 | D19 | D20 | D21 | D22 | D23 | D24 | D25 | D26 | D27 | D28 | D29 | D30 | D31 | D32 | D33=>(refine' L2.L3.def_mk KX G ?a ?l ?c ?k;(case a=>k_is);(case l=>k_is);(case c=>k_is);(case k=>k_is)))

