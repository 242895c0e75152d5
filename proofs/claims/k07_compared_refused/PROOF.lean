import PyProof.Rows.All
import Wide.All
import OpenK.AllK
import Wide.FinOn
import Lean
import PyProof.EqAt
import PyProof.EqKinds
import PyProof.TupleCall
import PySem.Challenge.RW_daysheet_k07_compared_refused
set_option Elab.async false
set_option linter.all false
set_option maxRecDepth 100000
set_option maxHeartbeats 4000000
namespace L2
open PySem PySem.Spec PyProof.Rows
noncomputable abbrev Key := Sum Int Str
noncomputable def keyIs : Key → Value → Bool
  | .inl k, v => Value.isInt k v
  | .inr x, v => Value.isStrOf x v
noncomputable def keyH (w : World) : Key → Int
  | .inl k => hashInt k
  | .inr x => hashStr w x
theorem keyIs_shape : ∀ {k : Key} {v : Value}, keyIs k v = true → (∃ i t, k = Sum.inl i ∧ v = Value.int i t) ∨ (∃ x t, k = Sum.inr x ∧ v = Value.str x t)
  | .inl i, v, h => by
    obtain ⟨t, e⟩ := Value.isInt_shape (k := i) (v := v) h
    exact .inl ⟨i, t, rfl, e⟩
  | .inr x, v, h => by
    obtain ⟨t, e⟩ := Value.isStrOf_shape (x := x) (v := v) h
    exact .inr ⟨x, t, rfl, e⟩
theorem key_ll (a b : Int) : decide ((Sum.inl a : Key) = Sum.inl b) = (a == b) := by
  by_cases e : a = b
  · subst e; simp
  · have h : ¬ (Sum.inl a : Key) = Sum.inl b := fun q => e (Sum.inl.inj q)
    rw [decide_eq_false h]
    exact (beq_eq_false_iff_ne.mpr e).symm
theorem key_rr (a b : Str) : decide ((Sum.inr a : Key) = Sum.inr b) = decide (a = b) := by
  by_cases e : a = b
  · subst e; simp
  · have h : ¬ (Sum.inr a : Key) = Sum.inr b := fun q => e (Sum.inr.inj q)
    rw [decide_eq_false h, decide_eq_false e]
theorem key_lr (a : Int) (b : Str) : decide ((Sum.inl a : Key) = Sum.inr b) = false := decide_eq_false (fun q => nomatch q)
theorem key_rl (a : Str) (b : Int) : decide ((Sum.inr a : Key) = Sum.inl b) = false := decide_eq_false (fun q => nomatch q)
noncomputable def mixKind (prog : Program) (w : World) : PySem.KeyKind prog w Key where
  is := keyIs
  hash := keyH w
  inj := fun v a b ha hb => by
    rcases keyIs_shape ha with ⟨i, t, rfl, rfl⟩ | ⟨x, t, rfl, rfl⟩
    · rcases keyIs_shape hb with ⟨j, u, rfl, e⟩ | ⟨y, u, rfl, e⟩
      · injection e with e1 _; rw [e1]
      · exact nomatch e
    · rcases keyIs_shape hb with ⟨j, u, rfl, e⟩ | ⟨y, u, rfl, e⟩
      · exact nomatch e
      · injection e with e1 _; rw [e1]
  byValue := fun k v h => by
    rcases keyIs_shape h with ⟨i, t, rfl, rfl⟩ | ⟨x, t, rfl, rfl⟩ <;> rfl
  pyHash := fun hv h => by
    rcases keyIs_shape hv with ⟨i, t, rfl, rfl⟩ | ⟨x, t, rfl, rfl⟩
    · exact wpAny_pyHash_int h
    · exact wpAny_pyHash_str h
  eqBool := fun hu hv h => by
    rcases keyIs_shape hu with ⟨i, t, rfl, rfl⟩ | ⟨x, t, rfl, rfl⟩
    · rcases keyIs_shape hv with ⟨j, u, rfl, rfl⟩ | ⟨y, u, rfl, rfl⟩
      · rw [key_ll] at h; exact wpAny_eqBool_int h
      · rw [key_lr] at h; exact SeqAt.EqAt.int_str i t y u _ _ _ _ h
    · rcases keyIs_shape hv with ⟨j, u, rfl, rfl⟩ | ⟨y, u, rfl, rfl⟩
      · rw [key_rl] at h; exact SeqAt.EqAt.str_int x t j u _ _ _ _ h
      · rw [key_rr] at h; exact wpAny_eqBool_str h
  «strs» := fun k x t v h => by
    rcases keyIs_shape h with ⟨i, u, rfl, e⟩ | ⟨y, u, rfl, e⟩
    · exact nomatch e
    · injection e with e1 _
      subst e1
      cases v <;> rfl
end L2
namespace L2
open PySem PySem.Spec PyProof.Rows
inductive V where
  | non | bl (b : Bool) | int (i : Int) | str (x : Str) | byt (b : Array UInt8) | flt (b : UInt64) | ref (a : Addr) | ty (n : String)
  deriving DecidableEq
noncomputable def RelV : V → Value → Prop
  | .non, u => u = Value.none
  | .bl b, u => u = Value.bool b
  | .int i, u => ∃ t, u = Value.int i t
  | .str x, u => ∃ t, u = Value.str x t
  | .byt b, u => ∃ t, u = Value.bytes b t
  | .flt b, u => ∃ t, u = Value.float b t
  | .ref a, u => u = Value.ref a
  | .ty n, u => u = Value.type n
noncomputable abbrev Vals : List V → List Value → Prop := Paired RelV
theorem Vals.length {xs : List V} {us : List Value} (r : Vals xs us) : xs.length = us.length := Paired.length r
theorem Vals.get : ∀ {xs : List V} {us : List Value} {i : Nat} {x : V}, Vals xs us → xs[i]? = some x → ∃ u, us[i]? = some u ∧ RelV x u
  | _, _, _, _, .nil, e => by simp at e
  | _, _, 0, _, .cons r _, e => by simp at e; subst e; exact ⟨_, rfl, r⟩
  | _, _, i + 1, x, .cons _ t, e => by
    obtain ⟨u, h1, h2⟩ := Vals.get (i := i) (x := x) t (by simpa using e)
    exact ⟨u, by simpa using h1, h2⟩
theorem Vals.append : ∀ {xs ys : List V} {us ws : List Value}, Vals xs us → Vals ys ws → Vals (xs ++ ys) (us ++ ws)
  | _, _, _, _, .nil, s => s
  | _, _, _, _, .cons r t, s => .cons r (Vals.append t s)
theorem Vals.take : ∀ {xs : List V} {us : List Value} (n : Nat), Vals xs us → Vals (xs.take n) (us.take n)
  | _, _, 0, _ => .nil
  | _, _, _ + 1, .nil => .nil
  | _, _, n + 1, .cons r t => .cons r (Vals.take n t)
theorem Vals.drop : ∀ {xs : List V} {us : List Value} (n : Nat), Vals xs us → Vals (xs.drop n) (us.drop n)
  | _, _, 0, r => r
  | _, _, _ + 1, .nil => .nil
  | _, _, n + 1, .cons _ t => Vals.drop n t
noncomputable def RelO : Option V → Option Value → Prop
  | some v, some u => RelV v u
  | none, none => True
  | _, _ => False
noncomputable def KV {κ : Type} : List (κ × V) → List (κ × Value) → Prop := Paired fun (p : κ × V) (q : κ × Value) => p.1 = q.1 ∧ RelV p.2 q.2
noncomputable def kV : Key → V
  | .inl i => .int i
  | .inr x => .str x
inductive HO where
  | lst (xs : List V)
  | tup (xs : List V)
  | dK (kvs : List (Key × V)) | dT (kvs : List (List Key × V))
  | set (S : Int → Bool) (n : Nat)
  | ins (C dx : Addr) (fs : List (Str × V))
  | own (x : Addr)
  | xd (fs : List (Str × V))
  | met (f x : Addr)
  | rng (lo hi : Int)
  | frz (o : Obj) (u : HO)
  | tbl (ps : Str × Array Value)
  | ext (φ : Heap → Prop)
noncomputable abbrev Hp := Addr → Option HO
noncomputable def upd (H : Hp) (a : Addr) (o : HO) : Hp := fun b => if b = a then some o else H b
theorem upd_same {H : Hp} {a : Addr} {o : HO} : upd H a o a = some o := by unfold upd; rw [if_pos rfl]
theorem upd_ne {H : Hp} {a b : Addr} {o : HO} (h : b ≠ a) : upd H a o b = H b := by unfold upd; rw [if_neg h]
theorem ne_of {H : Hp} {a b : Addr} {o u : HO} (h : H a = some o) (h' : H b = some u) (d : o ≠ u) : a ≠ b := by
  intro e; subst e; rw [h] at h'; exact d (Option.some.inj h')
theorem ne_of_none {H : Hp} {a b : Addr} {o : HO} (h : H a = some o) (h' : H b = none) : a ≠ b := by
  intro e; subst e; rw [h] at h'; cases h'
section
variable (P : Program) (w : World)
noncomputable def ObjOk (H : Hp) (h : Heap) (a : Addr) : HO → Prop
  | .lst xs => xs.length ≤ sizeLine ∧ ∃ (its : List Value) (n : Nat), Vals xs its ∧ h.get? a = some { cls := .type "list", data := .seq its.toArray n }
  | .tup xs => xs.length ≤ sizeLine ∧ ∃ its : List Value, Vals xs its ∧ IsTup h a its.toArray
  | .dK kvs => kvs.length ≤ sizeLine ∧ (a == sysModules) = false ∧ ∃ vs, KV kvs vs ∧ h.DictOf (mixKind P w) a vs
  | .dT kvs => kvs.length ≤ sizeLine ∧ (a == sysModules) = false ∧ ∃ xs : List (List Key × Addr × Value),
      Paired (fun (p : List Key × V) (q : List Key × Addr × Value) => p.1 = q.1 ∧ H q.2.1 = some (.tup (p.1.map kV)) ∧ RelV p.2 q.2.2) kvs xs ∧
      ∃ o es ep, h.get? a = some o ∧ o.ExactDict ∧ o.data = .dict es ep ∧ es.toList = xs.map (entryOfKey (tupleKind (mixKind P w))) ∧ (xs.map (·.1)).Nodup
  | .set S n => h.SetOf (intKind P w) a S n
  | .ins C dx fs => H dx = some (.own a) ∧ fs.length ≤ 1000 ∧ dx ≠ a ∧ h.get? a = some (PySem.W.instObj C dx) ∧
      ∃ mA, h.Ns1 dx mA ∧ (∀ f, RelO (fs.lookup f) (mA f)) ∧ PySem.Within mA (fs.map (·.1))
  | .own _ => ∃ o, h.get? a = some o
  | .xd fs => ∃ mA, h.Ns1 a mA ∧ ∀ f, RelO (fs.lookup f) (mA f)
  | .rng lo hi => ∃ t u v, h.get? a = some { cls := .type "range", data := .fields #[.int lo t, .int hi u, .int 1 v] }
  | .frz o u => h.get? a = some o ∧ ObjOk H h a u
  | .tbl ps => h.get? a = some { cls := .none, data := .fields ps.2 }
  | .met f x => h.get? a = some (PySem.W.methodObj (.ref f) (.ref x))
  | .ext φ => φ h ∧ (∃ o, h.get? a = some o) ∧ ∀ h1 h2 : Heap, φ h1 → (∀ o, h1.get? a = some o → h2.get? a = some o) → φ h2
noncomputable def HOk (H : Hp) (h : Heap) : Prop := ∀ a o, H a = some o → ObjOk P w H h a o
end
section
variable {P : Program} {w : World} {H H' : Hp} {h h' : Heap} {a : Addr} {o : HO}
theorem ObjOk.lt (x : ObjOk P w H h a o) : a < h.objs.size := by
  cases o with
  | lst xs => obtain ⟨_, _, _, _, e⟩ := x; exact Heap.lt_size e
  | tup xs => obtain ⟨_, _, _, p⟩ := x; exact p.lt
  | dK kvs => obtain ⟨_, _, _, _, o, _, _, e, _⟩ := x; exact Heap.lt_size e
  | dT kvs => obtain ⟨_, _, _, _, o, _, _, e, _⟩ := x; exact Heap.lt_size e
  | set S n => obtain ⟨o, _, _, _, e, _⟩ := x; exact Heap.lt_size e
  | ins C dx fs => obtain ⟨_, _, _, e, _⟩ := x; exact Heap.lt_size e
  | own y => obtain ⟨_, e⟩ := x; exact Heap.lt_size e
  | xd fs => obtain ⟨_, ⟨_, _, _, e, _⟩, _⟩ := x; exact Heap.lt_size e
  | rng lo hi => obtain ⟨_, _, _, e⟩ := x; exact Heap.lt_size e
  | frz ob u => obtain ⟨e, _⟩ := x; exact Heap.lt_size e
  | tbl ps => exact Heap.lt_size (show h.get? a = some _ from x)
  | met f y => exact Heap.lt_size (show h.get? a = some _ from x)
  | ext φ => obtain ⟨_, ⟨_, e⟩, _⟩ := x; exact Heap.lt_size e
theorem Paired.mapP {α β : Type} {F G : α → β → Prop} : ∀ {l₁ : List α} {l₂ : List β}, Paired F l₁ l₂ → (∀ a b, F a b → G a b) → Paired G l₁ l₂
  | _, _, .nil, _ => .nil
  | _, _, .cons r t, f => .cons (f _ _ r) (Paired.mapP t f)
theorem ObjOk.stay (x : ObjOk P w H h a o) (k : ∀ b u, (b = a ∨ H b = some (.own a)) → h.get? b = some u → h'.get? b = some u)
    (ho : ∀ b, H b = some (.own a) → H' b = some (.own a)) (ht : ∀ b xs, H b = some (.tup xs) → H' b = some (.tup xs)) : ObjOk P w H' h' a o := by
  induction o with
  | lst xs => obtain ⟨z, its, n, r, e⟩ := x; exact ⟨z, its, n, r, k _ _ (.inl rfl) e⟩
  | tup xs => obtain ⟨z, its, r, ob, e, c⟩ := x; exact ⟨z, its, r, ob, k _ _ (.inl rfl) e, c⟩
  | dK kvs => obtain ⟨z, y, vs, r, ob, es, ep, e, c⟩ := x; exact ⟨z, y, vs, r, ob, es, ep, k _ _ (.inl rfl) e, c⟩
  | dT kvs =>
    obtain ⟨z, y, xs, r, ob, es, ep, e, c⟩ := x
    exact ⟨z, y, xs, Paired.mapP r fun p q z => ⟨z.1, ht _ _ z.2.1, z.2.2⟩, ob, es, ep, k _ _ (.inl rfl) e, c⟩
  | set S n => obtain ⟨ob, es, ep, t, e, c⟩ := x; exact ⟨ob, es, ep, t, k _ _ (.inl rfl) e, c⟩
  | ins C dx fs =>
    obtain ⟨d, z, ne, e, mA, ⟨od, es, ep, e2, c⟩, r⟩ := x
    exact ⟨ho _ d, z, ne, k _ _ (.inl rfl) e, mA, ⟨od, es, ep, k _ _ (.inr d) e2, c⟩, r⟩
  | own y => obtain ⟨ob, e⟩ := x; exact ⟨ob, k _ _ (.inl rfl) e⟩
  | xd fs => obtain ⟨mA, ⟨od, es, ep, e, c⟩, r⟩ := x; exact ⟨mA, ⟨od, es, ep, k _ _ (.inl rfl) e, c⟩, r⟩
  | rng lo hi => obtain ⟨t, u, v, e⟩ := x; exact ⟨t, u, v, k _ _ (.inl rfl) e⟩
  | frz ob u ih => obtain ⟨e, q⟩ := x; exact ⟨k _ _ (.inl rfl) e, ih q⟩
  | tbl ps =>
    have e : h.get? a = some { cls := .none, data := .fields ps.2 } := x
    show h'.get? a = some { cls := .none, data := .fields ps.2 }
    exact k a _ (.inl rfl) e
  | met f y =>
    have e : h.get? a = some (PySem.W.methodObj (.ref f) (.ref y)) := x
    show h'.get? a = some (PySem.W.methodObj (.ref f) (.ref y))
    exact k a _ (.inl rfl) e
  | ext φ => obtain ⟨p, ⟨o, e⟩, st⟩ := x; exact ⟨st _ _ p fun o q => k _ _ (.inl rfl) q, ⟨o, k _ _ (.inl rfl) e⟩, st⟩
theorem HOk.lt (x : HOk P w H h) (e : H a = some o) : a < h.objs.size := (x a o e).lt
theorem HOk.fresh (x : HOk P w H h) (e : h.objs.size ≤ a) : H a = none := by
  cases q : H a with
  | none => rfl
  | some u => exact absurd (Nat.lt_of_lt_of_le (x.lt q) e) (Nat.lt_irrefl _)
theorem HOk.kept (x : HOk P w H h) (k : ∀ b u, h.get? b = some u → h'.get? b = some u) : HOk P w H h' := fun a o e =>
  (x a o e).stay (fun b u _ q => k b u q) (fun _ q => q) fun _ _ q => q
theorem HOk.laid (x : HOk P w H h) (k : ∀ b u, h.get? b = some u → h'.get? b = some u) (hp : h.objs.size ≤ a) (new : ObjOk P w (upd H a o) h' a o) : HOk P w (upd H a o) h' := fun b u e => by
  have hn := x.fresh hp
  by_cases hb : b = a
  · subst hb; rw [upd_same] at e; cases e; exact new
  · rw [upd_ne hb] at e
    exact (x b u e).stay (fun c v _ q => k c v q) (fun c q => by rw [upd_ne (ne_of_none q hn)]; exact q) fun c xs q => by rw [upd_ne (ne_of_none q hn)]; exact q
end
noncomputable def Rd (H : Hp) (a : Addr) (u : HO) : Prop := H a = some u ∨ ∃ o, H a = some (.frz o u)
theorem Rd.ok {P : Program} {w : World} {H : Hp} {h : Heap} {a : Addr} {u : HO} (r : Rd H a u) (x : HOk P w H h) : ObjOk P w H h a u := by
  rcases r with r | ⟨o, r⟩
  · exact x a u r
  · obtain ⟨_, q⟩ := x a _ r
    exact q
noncomputable def Mut : Option HO → Prop
  | some (.lst _) => True
  | some (.dK _) => True
  | some (.dT _) => True
  | some (.set _ _) => True
  | some (.ins _ _ _) => True
  | some (.ext _) => True
  | _ => False
section
variable {P : Program} {w : World} {H : Hp} {h h' : Heap} {x e : Addr} {o' : HO}
theorem HOk.write (ok : HOk P w H h) (mu : Mut (H x)) (he : e = x ∨ H e = some (.own x)) (k : ∀ b u, b ≠ e → h.get? b = some u → h'.get? b = some u) (heo : ∃ u, h'.get? e = some u)
    (new : ObjOk P w (upd H x o') h' x o') : HOk P w (upd H x o') h' := fun b u q => by
  have nown : ∀ c y, H c = some (.own y) → c ≠ x := fun c y r z => by subst z; rw [r] at mu; exact mu
  have ntup : ∀ c xs, H c = some (.tup xs) → c ≠ x := fun c xs r z => by subst z; rw [r] at mu; exact mu
  by_cases hb : b = x
  · subst hb; rw [upd_same] at q; cases q; exact new
  · rw [upd_ne hb] at q
    by_cases hbe : b = e
    · have q' : H b = some (.own x) := by
        rcases he with z | z
        · exact absurd (hbe.trans z) hb
        · rw [hbe]; exact z
      rw [q] at q'; cases q'
      obtain ⟨v, hv⟩ := heo
      exact ⟨v, by rw [hbe]; exact hv⟩
    · refine (ok b u q).stay (fun c v hc r => k c v ?_ r) (fun c r => by rw [upd_ne (nown c b r)]; exact r) fun c xs r => by rw [upd_ne (ntup c xs r)]; exact r
      rcases hc with rfl | hc
      · exact hbe
      · rintro rfl
        rcases he with z | z
        · exact nown c b hc z
        · rw [hc] at z; cases z; exact hb rfl
end
structure Un (fs ex : List Addr) (H H' : Hp) (h h' : Heap) : Prop where
  keep : ∀ b o, h.get? b = some o → H b = none → b ∉ fs → b ∉ ex → h'.get? b = some o
  slot : ∀ b o, h.get? b = some o → H b = none → b ∈ fs → b ∉ ex → ∃ sl, h'.get? b = some { o with slots := sl }
  free : ∀ b o, h.get? b = some o → H b = none → b ∉ ex → H' b = none
  there : ∀ b o, h.get? b = some o → b ∉ ex → ∃ o', h'.get? b = some o'
  tups : ∀ b xs, H b = some (.tup xs) → H' b = some (.tup xs)
  frzs : ∀ b o u, H b = some (.frz o u) → H' b = some (.frz o u)
  tbls : ∀ b ps, H b = some (.tbl ps) → ∃ more, H' b = some (.tbl (ps.1, ps.2 ++ more))
section
variable {fs fs' ex ex' : List Addr} {H H1 H2 : Hp} {h h1 h2 h' : Heap} {a x e : Addr} {o : HO}
theorem Un.any (u : Un fs ex H H1 h h1) {b : Addr} {ob : Obj} (q : h.get? b = some ob) (n : H b = none) (hx : b ∉ ex) : ∃ sl, h1.get? b = some { ob with slots := sl } := by
  by_cases hb : b ∈ fs
  · exact u.slot b ob q n hb hx
  · exact ⟨ob.slots, u.keep b ob q n hb hx⟩
theorem Un.trans (a : Un fs ex H H1 h h1) (b : Un fs ex H1 H2 h1 h2) : Un fs ex H H2 h h2 where
  keep := fun c ob q n hc hx => b.keep c ob (a.keep c ob q n hc hx) (a.free c ob q n hx) hc hx
  slot := fun c ob q n hc hx => by
    obtain ⟨sl, e1⟩ := a.slot c ob q n hc hx
    obtain ⟨sl', e2⟩ := b.slot c _ e1 (a.free c ob q n hx) hc hx
    exact ⟨sl', e2⟩
  free := fun c ob q n hx => by
    obtain ⟨o', e1⟩ := a.there c ob q hx
    exact b.free c o' e1 (a.free c ob q n hx) hx
  there := fun c ob q hx => by
    obtain ⟨o', e1⟩ := a.there c ob q hx
    exact b.there c o' e1 hx
  tups := fun c xs q => b.tups c xs (a.tups c xs q)
  frzs := fun c ob xs q => b.frzs c ob xs (a.frzs c ob xs q)
  tbls := fun c ps q => by
    obtain ⟨m1, e1⟩ := a.tbls c ps q
    obtain ⟨m2, e2⟩ := b.tbls c _ e1
    exact ⟨m1 ++ m2, by rw [e2]; simp [Array.append_assoc]⟩
theorem Un.kept (k : ∀ b u, h.get? b = some u → h'.get? b = some u) : Un fs ex H H h h' :=
  ⟨fun b ob q _ _ _ => k b ob q, fun b ob q _ _ _ => ⟨ob.slots, k b ob q⟩, fun _ _ _ n _ => n, fun b ob q _ => ⟨ob, k b ob q⟩, fun _ _ q => q, fun _ _ _ q => q, fun _ ps q => ⟨#[], by rw [q]; simp⟩⟩
theorem Un.refl : Un fs ex H H h h := Un.kept fun _ _ q => q
theorem Un.laid (k : ∀ b u, h.get? b = some u → h'.get? b = some u) (hp : h.objs.size ≤ a) (hn : H a = none) : Un fs ex H (upd H a o) h h' where
  keep := fun b u q _ _ _ => k b u q
  slot := fun b u q _ _ _ => ⟨u.slots, k b u q⟩
  free := fun b u q n _ => by rw [upd_ne (Nat.ne_of_lt (Nat.lt_of_lt_of_le (Heap.lt_size q) hp))]; exact n
  there := fun b u q _ => ⟨u, k b u q⟩
  tups := fun b xs q => by rw [upd_ne (ne_of_none q hn)]; exact q
  frzs := fun b u xs q => by rw [upd_ne (ne_of_none q hn)]; exact q
  tbls := fun b ps q => ⟨#[], by rw [upd_ne (ne_of_none q hn), q]; simp⟩
theorem Un.write (mu : Mut (H x)) (he : e = x ∨ H e = some (.own x)) (k : ∀ b u, b ≠ e → h.get? b = some u → h'.get? b = some u) (heo : ∃ u, h'.get? e = some u) : Un fs ex H (upd H x o) h h' := by
  have hx : ∀ b, H b = none → b ≠ x := fun b n z => by subst z; rw [n] at mu; exact mu
  have hb : ∀ b, H b = none → b ≠ e := fun b n z => by
    subst z
    rcases he with r | r
    · exact hx b n r
    · rw [n] at r; cases r
  have hm : ∀ b u, H b = some u → ¬ Mut (some u) → b ≠ x := fun b u q nm z => by subst z; rw [q] at mu; exact nm mu
  refine ⟨fun b u q n _ _ => k b u (hb b n) q, fun b u q n _ _ => ⟨u.slots, k b u (hb b n) q⟩, fun b u q n _ => by rw [upd_ne (hx b n)]; exact n, fun b u q _ => ?_,
    fun b xs q => by rw [upd_ne (hm b _ q fun z => z)]; exact q, fun b u xs q => by rw [upd_ne (hm b _ q fun z => z)]; exact q, fun b ps q => ⟨#[], by rw [upd_ne (hm b _ q fun z => z), q]; simp⟩⟩
  by_cases hbe : b = e
  · subst hbe; exact heo
  · exact ⟨u, k b u hbe q⟩
theorem Un.mono (u : Un fs ex H H1 h h1) (hs : ∀ b ∈ fs, b ∈ fs') (hx : ∀ b ∈ ex, b ∈ ex') : Un fs' ex' H H1 h h1 :=
  ⟨fun b ob q n hb he => u.keep b ob q n (fun z => hb (hs b z)) fun z => he (hx b z), fun _ _ q n _ he => u.any q n fun z => he (hx _ z), fun b ob q n he => u.free b ob q n fun z => he (hx b z), fun b ob q he => u.there b ob q fun z => he (hx b z), u.tups, u.frzs, u.tbls⟩
end
noncomputable def trk (h : Heap) (H : Hp) : List Addr := (List.range h.objs.size).filter fun a => (H a).isSome
noncomputable def hidT (h : Heap) (H : Hp) : Heap := PySem.W.hideAll h (trk h H)
theorem hidT_size (h : Heap) (H : Hp) : (hidT h H).objs.size = h.objs.size := PySem.W.hideAll_size _ _
theorem hidT_get {h : Heap} {H : Hp} {b : Addr} {o : Obj} (e : h.get? b = some o) (n : H b = none) : (hidT h H).get? b = some o :=
  PySem.W.hideAll_get _ e fun hm => by
    have q : (H b).isSome = true := (List.mem_filter.mp hm).2
    rw [n] at q; simp at q
theorem of_hidT {h : Heap} {H : Hp} {b : Addr} {o : Obj} (e : (hidT h H).get? b = some o) : h.get? b = some o ∧ H b = none := by
  have e' : h.get? b = some o := PySem.W.of_hideAll (trk h H) e
  refine ⟨e', ?_⟩
  cases q : H b with
  | none => rfl
  | some x =>
    have hm : b ∈ trk h H := List.mem_filter.mpr ⟨List.mem_range.mpr (Heap.lt_size e'), by simp [q]⟩
    have z : (hidT h H).get? b = none := PySem.W.hideAll_none (trk h H) hm
    rw [z] at e; cases e
noncomputable def allNews (g h : Heap) (L : Addr) : List (Addr × Obj) := (List.range h.objs.size).filterMap fun a => if a = L ∨ (g.get? a).isSome = true then none else (h.get? a).map fun o => (a, o)
noncomputable def rest (g h : Heap) (L d : Addr) : List (Addr × Obj) := (allNews g h L).filter fun p => decide (p.1 ≠ d)
end L2
namespace L2
open PySem PySem.Spec PyProof.Rows
structure Mod (K : PySem.W.Frag) (mg : Str → Option Value) (base : Heap) : Prop where
  kin : K.In base
  glob : base.Ns mainGlobals mg
  blt : ∃ mb, base.Ns builtinsNs mb ∧ ∀ x : Str, x ≠ "__name__" → mb x = bootBuiltins x
  nolimit : base.NoLimit
structure Cx where
  prog : Program
  w : World
  K : PySem.W.Frag
  mg : Str → Option Value
  base : Heap
  A : Around
  N : List Str
  s₀ : Shared
  H₀ : Hp
  env : Env
  outer : List Env
  stack : List Env
  ex : List Addr
  fn : Str → Bool
  calm : Bool
  pn : List (Addr × Obj)
  xe : Value → Shared → Prop
noncomputable def frs (l : List Env) : List Addr := l.filterMap (·.frame)
noncomputable abbrev Cx.fs (X : Cx) : List Addr := frs X.outer
noncomputable def Vis (sc : Scope) (x : Str) : Prop := sc.names.lookup x = some .local ∨ sc.names.lookup x = some .cell ∨ sc.names.lookup x = some .free
noncomputable def Loc (sc : Scope) (x : Str) : Prop := sc.names.lookup x = some .local ∨ sc.names.lookup x = some .cell
noncomputable def Look (env : Env) (h : Heap) (m : Str → Option Value) (x : Str) (u : Value) : Prop :=
  (env.kindOf x = some .local ∧ m x = some u) ∨ ((env.kindOf x = some .cell ∨ env.kindOf x = some .free) ∧ ∃ c, env.cells.lookup x = some c ∧ h.IsCell c (some u))
structure Cx.Ok (X : Cx) : Prop where
  mod : Mod X.K X.mg X.base
  kind : X.env.scope.kind = .function
  glob : X.env.globals = mainGlobals
  blt : X.env.builtins = builtinsNs
  above : X.s₀.heap.objs.size ≤ X.env.locals
  inj : ∀ x y c, X.env.cells.lookup x = some c → X.env.cells.lookup y = some c → x = y
  has : ∀ x, (X.env.kindOf x = some .cell ∨ X.env.kindOf x = some .free) → ∃ c, X.env.cells.lookup x = some c
  cab : ∀ x c, X.fn x = true → X.env.cells.lookup x = some c → X.s₀.heap.objs.size ≤ c
  hd : X.calm = true → X.A.handled = none
  frames : X.A.frames = some X.stack
  stk : X.stack = X.outer ∨ (X.stack = X.env :: X.outer ∧ X.env.frame = some X.env.locals)
  exf : ∀ b ∈ X.ex, b ≠ X.env.locals ∧ ∀ x c, X.env.cells.lookup x = some c → c ≠ b
  bs : ∀ b o, X.base.get? b = some o → X.s₀.heap.get? b = some o ∧ X.H₀ b = none
  bsz : X.base.objs.size ≤ X.s₀.heap.objs.size
  noex : ∀ b o, X.base.get? b = some o → b ∉ X.ex
  exfs : ∀ b ∈ X.ex, b ∉ X.fs
  funs : X.s₀.heap.FunFrames X.base X.outer
  frf : ∀ b ∈ X.fs, X.H₀ b = none
structure Inv (X : Cx) (pins : List (Addr × Obj)) (σ : List (Option V)) (H : Hp) (s : Shared) : Prop where
  ok : X.Ok
  os : s.os = X.s₀.os
  bare : AllBare s.gens
  base : Un X.fs X.ex X.H₀ H X.s₀.heap s.heap
  loc : ∃ m, s.heap.Ns X.env.locals m ∧ ∀ (i : Nat) (x : Str) (v : V), X.N[i]? = some x → σ[i]? = some (some v) → Vis X.env.scope x → ∃ u, RelV v u ∧ Look X.env s.heap m x u
  cell : ∀ x c, X.env.cells.lookup x = some c → ∃ v, s.heap.IsCell c v
  free : H X.env.locals = none
  freeC : ∀ x c, X.env.cells.lookup x = some c → H c = none
  pin : ∀ p ∈ X.pn ++ pins, s.heap.get? p.1 = some p.2 ∧ H p.1 = none ∧ p.1 ≠ X.env.locals ∧ p.1 ∉ X.fs ∧ ∀ v, p.2.data ≠ .cell v
  hok : HOk X.prog X.w H s.heap
  len : σ.length = X.N.length
section
variable {X : Cx} {pins : List (Addr × Obj)} {σ : List (Option V)} {H H' : Hp} {s : Shared} {h' : Heap}
theorem Cx.Ok.nofr (ok : X.Ok) {b : Addr} {o : Obj} (e : X.base.get? b = some o) : b ∉ X.fs := fun hb => by
  have := (ok.funs.mem hb).1
  rw [e] at this; cases this
theorem Inv.bs (I : Inv X pins σ H s) : ∀ b o, X.base.get? b = some o → s.heap.get? b = some o ∧ H b = none := fun b o e =>
  ⟨I.base.keep b o (I.ok.bs b o e).1 (I.ok.bs b o e).2 (I.ok.nofr e) (I.ok.noex b o e), I.base.free b o (I.ok.bs b o e).1 (I.ok.bs b o e).2 (I.ok.noex b o e)⟩
theorem Inv.bk (I : Inv X pins σ H s) : ∀ b o, X.base.get? b = some o → s.heap.get? b = some o := fun b o e => (I.bs b o e).1
theorem Inv.mod (I : Inv X pins σ H s) : Mod X.K X.mg X.base := I.ok.mod
theorem Inv.kIn (I : Inv X pins σ H s) : X.K.In s.heap := I.ok.mod.kin.keeps I.bk
theorem Inv.lt (I : Inv X pins σ H s) : X.env.locals < s.heap.objs.size := let ⟨_, hn, _⟩ := I.loc; hn.lt
theorem Inv.sz (I : Inv X pins σ H s) : X.s₀.heap.objs.size ≤ s.heap.objs.size := Nat.le_trans I.ok.above (Nat.le_of_lt I.lt)
theorem Inv.nofs (I : Inv X pins σ H s) {a : Addr} (h : s.heap.objs.size ≤ a) : a ∉ X.fs := fun hb => by
  obtain ⟨_, o, ho, _⟩ := I.ok.funs.mem hb
  exact absurd (Nat.lt_of_lt_of_le (Heap.lt_size ho) (Nat.le_trans I.sz h)) (Nat.lt_irrefl _)
theorem Inv.cne (I : Inv X pins σ H s) : ∀ x c, X.env.cells.lookup x = some c → c ≠ X.env.locals := fun x c e z => by
  obtain ⟨v, o, ho, hd⟩ := I.cell x c e
  obtain ⟨m, ⟨o', es, ep, ho', hd', _⟩, _⟩ := I.loc
  rw [z, ho'] at ho; cases ho; rw [hd'] at hd; cases hd
theorem Inv.funs (I : Inv X pins σ H s) : s.heap.FunFrames X.base X.outer := by
  have all : ∀ (l : List Env), (∀ b ∈ frs l, b ∈ X.fs) → X.s₀.heap.FunFrames X.base l → s.heap.FunFrames X.base l := by
    intro l
    induction l with
    | nil => intro _ _; trivial
    | cons env r ih =>
      intro hs hl
      obtain ⟨hk, ⟨L, o, hf, hn, ho, hd⟩, hr⟩ := hl
      have hL : L ∈ X.fs := hs L (by unfold frs; rw [List.filterMap_cons, hf]; exact List.mem_cons_self)
      obtain ⟨sl, e⟩ := I.base.slot L o ho (I.ok.frf L hL) hL fun z => I.ok.exfs L z hL
      exact ⟨hk, ⟨L, _, hf, hn, e, hd⟩, ih (fun b hb => hs b (by unfold frs; rw [List.filterMap_cons, hf]; exact List.mem_cons_of_mem _ hb)) hr⟩
  exact all X.outer (fun _ hb => hb) I.ok.funs
theorem Inv.stack (I : Inv X pins σ H s) : s.heap.FunFrames X.base X.stack := by
  rcases I.ok.stk with e | ⟨e, hf⟩
  · rw [e]; exact I.funs
  · rw [e]
    obtain ⟨m, hn, _⟩ := I.loc
    refine .cons (by rw [I.ok.kind]; decide) hf hn ?_ I.funs
    exact Heap.get?_none_of_le (Nat.le_trans I.ok.bsz I.ok.above)
theorem Inv.stkSub (I : Inv X pins σ H s) : ∀ b ∈ frs X.stack, b ∈ X.env.locals :: X.fs := fun b hb => by
  rcases I.ok.stk with e | ⟨e, hf⟩
  · rw [e] at hb; exact List.mem_cons_of_mem _ hb
  · rw [e] at hb
    unfold frs at hb
    rw [List.filterMap_cons, hf] at hb
    exact hb
theorem Inv.stkFree (I : Inv X pins σ H s) : ∀ b ∈ frs X.stack, H b = none := fun b hb => by
  rcases List.mem_cons.mp (I.stkSub b hb) with e | hb
  · rw [e]; exact I.free
  · obtain ⟨_, o, ho, _⟩ := I.ok.funs.mem hb
    exact I.base.free b o ho (I.ok.frf b hb) fun z => I.ok.exfs b z hb
theorem Inv.step {g' : Array GenState} {t' : Nat} {d' : Drawn} {ch : List Addr} (I : Inv X pins σ H s)
    (hch : ∀ b ∈ ch, (b ∈ X.ex ∨ X.s₀.heap.objs.size ≤ b) ∧ b ≠ X.env.locals ∧ (∀ x c, X.env.cells.lookup x = some c → c ≠ b) ∧ ∀ p ∈ X.pn ++ pins, p.1 ≠ b)
    (keep : ∀ b o, b ≠ X.env.locals → b ∉ X.fs → b ∉ ch → s.heap.get? b = some o → H b = none → h'.get? b = some o)
    (slot : ∀ b o, b ≠ X.env.locals → b ∈ X.fs → b ∉ ch → s.heap.get? b = some o → H b = none → ∃ sl, h'.get? b = some { o with slots := sl }) (free : ∀ b o, b ∉ ch → s.heap.get? b = some o → H b = none → H' b = none)
    (there : ∀ b o, b ∉ ch → s.heap.get? b = some o → ∃ o', h'.get? b = some o')
    (tups : ∀ b xs, H b = some (.tup xs) → H' b = some (.tup xs)) (frzs : ∀ b o u, H b = some (.frz o u) → H' b = some (.frz o u)) (tbls : ∀ b ps, H b = some (.tbl ps) → ∃ more, H' b = some (.tbl (ps.1, ps.2 ++ more)))
    (ns : ∀ m, s.heap.Ns X.env.locals m → h'.Ns X.env.locals m) (hok : HOk X.prog X.w H' h') (hg : AllBare g') :
    Inv X pins σ H' { s with heap := h', gens := g', drawn := d', toks := t' } := by
  have neL : ∀ b o, X.s₀.heap.get? b = some o → b ≠ X.env.locals := fun b o e => Nat.ne_of_lt (Nat.lt_of_lt_of_le (Heap.lt_size e) I.ok.above)
  have neC : ∀ b o, X.s₀.heap.get? b = some o → b ∉ X.ex → b ∉ ch := fun b o e hx hb => by
    rcases (hch b hb).1 with z | z
    · exact hx z
    · exact absurd (Nat.lt_of_lt_of_le (Heap.lt_size e) z) (Nat.lt_irrefl _)
  have cellK : ∀ x c, X.env.cells.lookup x = some c → ∀ v, s.heap.IsCell c v → h'.IsCell c v := fun x c e v ⟨o, ho, hd⟩ => by
    have nch : c ∉ ch := fun z => (hch c z).2.2.1 x c e rfl
    by_cases hc : c ∈ X.fs
    · obtain ⟨sl, q⟩ := slot c o (I.cne x c e) hc nch ho (I.freeC x c e)
      exact ⟨_, q, hd⟩
    · exact ⟨o, keep c o (I.cne x c e) hc nch ho (I.freeC x c e), hd⟩
  refine ⟨I.ok, I.os, hg, ⟨fun b o e n hb hx => ?_, fun b o e n hb hx => ?_, fun b o e n hx => ?_, fun b o e hx => ?_, fun b xs e => tups b xs (I.base.tups b xs e), fun b o xs e => frzs b o xs (I.base.frzs b o xs e), fun b ps e => ?_⟩, ?_, fun x c e => ?_, ?_, fun x c e => ?_, fun p hp => ?_, hok, I.len⟩
  · exact keep b o (neL b o e) hb (neC b o e hx) (I.base.keep b o e n hb hx) (I.base.free b o e n hx)
  · obtain ⟨sl, e1⟩ := I.base.slot b o e n hb hx
    obtain ⟨sl', e2⟩ := slot b _ (neL b o e) hb (neC b o e hx) e1 (I.base.free b o e n hx)
    exact ⟨sl', e2⟩
  · obtain ⟨o', e1⟩ := I.base.there b o e hx
    exact free b o' (neC b o e hx) e1 (I.base.free b o e n hx)
  · obtain ⟨o', e1⟩ := I.base.there b o e hx
    exact there b o' (neC b o e hx) e1
  · obtain ⟨m1, e1⟩ := I.base.tbls b ps e
    obtain ⟨m2, e2⟩ := tbls b _ e1
    exact ⟨m1 ++ m2, by rw [e2]; simp [Array.append_assoc]⟩
  · obtain ⟨m, hn, hl⟩ := I.loc
    refine ⟨m, ns m hn, fun i x v e1 e2 e3 => ?_⟩
    obtain ⟨u, r, l⟩ := hl i x v e1 e2 e3
    refine ⟨u, r, ?_⟩
    rcases l with l | ⟨k, c, e, z⟩
    · exact .inl l
    · exact .inr ⟨k, c, e, cellK x c e _ z⟩
  · obtain ⟨v, z⟩ := I.cell x c e
    exact ⟨v, cellK x c e v z⟩
  · obtain ⟨m, ⟨o, _, _, ho, _⟩, _⟩ := I.loc
    exact free _ o (fun z => (hch _ z).2.1 rfl) ho I.free
  · obtain ⟨v, o, ho, hd⟩ := I.cell x c e
    exact free c o (fun z => (hch c z).2.2.1 x c e rfl) ho (I.freeC x c e)
  · obtain ⟨e, n, ne, nf, d⟩ := I.pin p hp
    have nch : p.1 ∉ ch := fun z => (hch p.1 z).2.2.2 p hp rfl
    exact ⟨keep p.1 p.2 ne nf nch e n, free p.1 p.2 nch e n, ne, nf, d⟩
theorem Inv.un {t' : Nat} (I : Inv X pins σ H s) (u : Un X.fs [] H H' s.heap h') (hok : HOk X.prog X.w H' h') : Inv X pins σ H' { s with heap := h', toks := t' } := by
  obtain ⟨m, ⟨o, es, ep, ho, r⟩, _⟩ := id I.loc
  obtain ⟨sl, hL⟩ := u.any ho I.free (by simp)
  exact I.step (g' := s.gens) (d' := s.drawn) (ch := []) (fun _ z => nomatch z) (fun b o _ hb _ e n => u.keep b o e n hb (by simp)) (fun b o _ hb _ e n => u.slot b o e n hb (by simp)) (fun b o _ e n => u.free b o e n (by simp)) (fun b o _ e => u.there b o e (by simp)) u.tups u.frzs u.tbls (fun m' hm => by
    obtain ⟨o', es', ep', ho', r'⟩ := hm
    rw [ho] at ho'; cases ho'
    exact ⟨_, es', ep', hL, r'⟩) hok I.bare
theorem Inv.call {g' : Array GenState} {t' : Nat} {d' : Drawn} {ch : List Addr} (I : Inv X pins σ H s) (u : Un (frs X.stack) ch H H' s.heap h') (hok : HOk X.prog X.w H' h') (hg : AllBare g')
    (hch : ∀ b ∈ ch, (b ∈ X.ex ∨ X.s₀.heap.objs.size ≤ b) ∧ b ≠ X.env.locals ∧ (∀ x c, X.env.cells.lookup x = some c → c ≠ b) ∧ ∀ p ∈ X.pn ++ pins, p.1 ≠ b) :
    Inv X pins σ H' { s with heap := h', gens := g', drawn := d', toks := t' } := by
  obtain ⟨m, ⟨o, es, ep, ho, r⟩, _⟩ := id I.loc
  obtain ⟨sl, hL⟩ := u.any ho I.free fun z => (hch _ z).2.1 rfl
  exact I.step (ch := ch) hch (fun b o hL hb hc e n => u.keep b o e n (fun z => (List.mem_cons.mp (I.stkSub b z)).elim hL hb) hc) (fun b o _ _ hc e n => u.any e n hc) (fun b o hc e n => u.free b o e n hc) (fun b o hc e => u.there b o e hc) u.tups u.frzs u.tbls (fun m' hm => by
    obtain ⟨o', es', ep', ho', r'⟩ := hm
    rw [ho] at ho'; cases ho'
    exact ⟨_, es', ep', hL, r'⟩) hok hg
theorem Inv.turned {t' : Nat} {it : Addr} (I : Inv X pins σ H s) (k : ∀ b o, b ≠ it → s.heap.get? b = some o → h'.get? b = some o) (hn : H it = none) (hL : it ≠ X.env.locals)
    (h1 : it ∈ X.ex ∨ X.s₀.heap.objs.size ≤ it) (h2 : ∀ x c, X.env.cells.lookup x = some c → c ≠ it) (h3 : ∀ p ∈ X.pn ++ pins, p.1 ≠ it) : Inv X pins σ H { s with heap := h', toks := t' } := by
  have nit : ∀ b u, H b = some u → b ≠ it := fun b u e z => by rw [z, hn] at e; cases e
  refine I.step (g' := s.gens) (d' := s.drawn) (ch := [it]) (fun b hb => ?_) (fun b o _ _ hc e _ => k b o (fun z => hc (by simp [z])) e) (fun b o _ _ hc e _ => ⟨o.slots, k b o (fun z => hc (by simp [z])) e⟩) (fun _ _ _ _ n => n)
    (fun b o hc e => ⟨o, k b o (fun z => hc (by simp [z])) e⟩) (fun _ _ e => e) (fun _ _ _ e => e) (fun b ps e => ⟨#[], by rw [e]; simp⟩) (fun m hm => ?_) (fun b u e => ?_) I.bare
  · have e : b = it := by simpa using hb
    subst e
    exact ⟨h1, hL, h2, h3⟩
  · obtain ⟨o, es, ep, ho, r⟩ := hm
    exact ⟨o, es, ep, k _ o (Ne.symm hL) ho, r⟩
  · refine (I.hok b u e).stay (fun c v hc q => k c v ?_ q) (fun _ q => q) fun _ _ q => q
    rcases hc with z | z
    · rw [z]; exact nit b u e
    · exact nit c _ z
theorem Inv.tok (I : Inv X pins σ H s) (t : Nat) : Inv X pins σ H { s with toks := t } := I.un (h' := s.heap) (t' := t) Un.refl I.hok
theorem Inv.kept {t' : Nat} (I : Inv X pins σ H s) (k : ∀ b u, s.heap.get? b = some u → h'.get? b = some u) : Inv X pins σ H { s with heap := h', toks := t' } := I.un (Un.kept k) (I.hok.kept k)
theorem Inv.laid {a : Addr} {o : HO} {t' : Nat} (I : Inv X pins σ H s) (k : ∀ b u, s.heap.get? b = some u → h'.get? b = some u) (hp : s.heap.objs.size ≤ a) (new : ObjOk X.prog X.w (upd H a o) h' a o) :
    Inv X pins σ (upd H a o) { s with heap := h', toks := t' } := I.un (Un.laid k hp (I.hok.fresh hp)) (I.hok.laid k hp new)
theorem Inv.write {x e : Addr} {o : HO} {t' : Nat} (I : Inv X pins σ H s) (mu : Mut (H x)) (he : e = x ∨ H e = some (.own x)) (k : ∀ b u, b ≠ e → s.heap.get? b = some u → h'.get? b = some u) (heo : ∃ u, h'.get? e = some u)
    (new : ObjOk X.prog X.w (upd H x o) h' x o) : Inv X pins σ (upd H x o) { s with heap := h', toks := t' } := I.un (Un.write mu he k heo) (I.hok.write mu he k heo new)
theorem Inv.pins_of {pins' : List (Addr × Obj)} (I : Inv X pins σ H s) (h : ∀ p ∈ pins', s.heap.get? p.1 = some p.2 ∧ H p.1 = none ∧ p.1 ≠ X.env.locals ∧ p.1 ∉ X.fs ∧ ∀ v, p.2.data ≠ .cell v) : Inv X pins' σ H s :=
  ⟨I.ok, I.os, I.bare, I.base, I.loc, I.cell, I.free, I.freeC, fun p hp => (List.mem_append.mp hp).elim (fun z => I.pin p (List.mem_append_left _ z)) (h p), I.hok, I.len⟩
theorem nodup_ix {N : List Str} (hN : N.Nodup) {i j : Nat} {x : Str} (a : N[i]? = some x) (b : N[j]? = some x) : i = j := by
  obtain ⟨h1, e1⟩ := List.getElem?_eq_some_iff.mp a
  obtain ⟨h2, e2⟩ := List.getElem?_eq_some_iff.mp b
  exact (List.getElem_inj hN).mp (e1.trans e2.symm)
theorem store_ok2 {M : Model} {A : Around} {E : Value → Shared → Prop} {i : Nat} {x : Str} {v : V} {u : Value} {Q : Unit → Shared → Prop} (I : Inv X pins σ H s) (hN : X.N.Nodup) (hi : X.N[i]? = some x) (hx : Loc X.env.scope x) (r : RelV v u)
    (h : ∀ s', Inv X pins (σ.set i (some v)) H s' → (∃ a, Heap.SameBut a s.heap s'.heap ∧ (a = X.env.locals ∨ X.env.cells.lookup x = some a)) → Q () s') (hf : X.fn x = true ∨ X.env.scope.names.lookup x = some .local := by first | exact .inl rfl | exact .inr rfl | assumption) : wpAny M A (storeName X.env x u) Q E s := by
  obtain ⟨m, hn, hl⟩ := id I.loc
  have hcls : (X.env.scope.kind == .class || (X.env.scope.kind == .module && X.env.locals != X.env.globals)) = false := by rw [I.ok.kind]; rfl
  have hiσ : i < σ.length := by rw [I.len]; exact (List.getElem?_eq_some_iff.mp hi).1
  have cne := I.cne
  have tracked : ∀ {a : Addr} {h' : Heap}, (∃ o, s.heap.get? a = some o ∧ H a = none) → Heap.SameBut a s.heap h' → HOk X.prog X.w H h' := fun {a h'} ha hs b ob e => by
    obtain ⟨_, _, hfree⟩ := ha
    refine (I.hok b ob e).stay (fun c w' hc q => (hs.2 c ?_).trans q) (fun _ q => q) fun _ _ q => q
    rintro rfl
    rcases hc with rfl | hc
    · rw [hfree] at e; cases e
    · rw [hfree] at hc; cases hc
  rcases hx with hk | hk
  · refine wpAny_storeName_local hk hn (fun h' hn' hs => ?_) hcls
    obtain ⟨oL, _, _, hoL, _⟩ := id hn
    refine h _ ⟨I.ok, I.os, I.bare, ⟨fun b o e n hb hx => ?_, fun b o e n hb hx => ?_, I.base.free, fun b o e hx => ?_, I.base.tups, I.base.frzs, I.base.tbls⟩, ⟨_, hn', fun j y v' e1 e2 e3 => ?_⟩, fun y c e => ?_, I.free, I.freeC, fun p hp => ?_, tracked ⟨oL, hoL, I.free⟩ hs, by simpa using I.len⟩ ⟨_, hs, .inl rfl⟩
    · exact (hs.2 b (Nat.ne_of_lt (Nat.lt_of_lt_of_le (Heap.lt_size e) I.ok.above))).trans (I.base.keep b o e n hb hx)
    · obtain ⟨sl, e1⟩ := I.base.slot b o e n hb hx
      exact ⟨sl, (hs.2 b (Nat.ne_of_lt (Nat.lt_of_lt_of_le (Heap.lt_size e) I.ok.above))).trans e1⟩
    · obtain ⟨o', e1⟩ := I.base.there b o e hx
      exact ⟨o', (hs.2 b (Nat.ne_of_lt (Nat.lt_of_lt_of_le (Heap.lt_size e) I.ok.above))).trans e1⟩
    · by_cases hj : j = i
      · subst hj
        rw [hi] at e1; cases e1
        rw [List.getElem?_set_self hiσ] at e2
        cases e2
        exact ⟨u, r, .inl ⟨hk, by simp⟩⟩
      · rw [List.getElem?_set_ne (Ne.symm hj)] at e2
        obtain ⟨u', r', q⟩ := hl j y v' e1 e2 e3
        refine ⟨u', r', ?_⟩
        rcases q with ⟨k, e⟩ | ⟨k, c, e, z⟩
        · refine .inl ⟨k, ?_⟩
          have : y ≠ x := fun e => hj (nodup_ix hN e1 (e ▸ hi))
          simp [this, e]
        · exact .inr ⟨k, c, e, z.sameBut hs (cne y c e)⟩
    · obtain ⟨w', z⟩ := I.cell y c e
      exact ⟨w', z.sameBut hs (cne y c e)⟩
    · obtain ⟨e, n, ne, nf, d⟩ := I.pin p hp
      exact ⟨(hs.2 p.1 ne).trans e, n, ne, nf, d⟩
  · have hfn : X.fn x = true := by
      rcases hf with z | z
      · exact z
      · rw [z] at hk; cases hk
    obtain ⟨c, hc⟩ := I.ok.has x (.inl hk)
    obtain ⟨w', z⟩ := I.cell x c hc
    refine wpAny_storeName_cell I.ok.kind hk hc z (fun h' hc' hs => ?_)
    obtain ⟨oc, hoc, hocd⟩ := id z
    refine h { s with heap := h' } ⟨I.ok, I.os, I.bare, ⟨fun b o e n hb hx => ?_, fun b o e n hb hx => ?_, I.base.free, fun b o e hx => ?_, I.base.tups, I.base.frzs, I.base.tbls⟩, ⟨m, hn.sameBut hs (Ne.symm (cne x c hc)), fun j y v' e1 e2 e3 => ?_⟩, fun y c' e => ?_, I.free, I.freeC, fun p hp => ?_, tracked ⟨oc, hoc, I.freeC x c hc⟩ hs, by simpa using I.len⟩ ⟨c, hs, .inr hc⟩
    · exact (hs.2 b (Nat.ne_of_lt (Nat.lt_of_lt_of_le (Heap.lt_size e) (I.ok.cab x c hfn hc)))).trans (I.base.keep b o e n hb hx)
    · obtain ⟨sl, e1⟩ := I.base.slot b o e n hb hx
      exact ⟨sl, (hs.2 b (Nat.ne_of_lt (Nat.lt_of_lt_of_le (Heap.lt_size e) (I.ok.cab x c hfn hc)))).trans e1⟩
    · obtain ⟨o', e1⟩ := I.base.there b o e hx
      exact ⟨o', (hs.2 b (Nat.ne_of_lt (Nat.lt_of_lt_of_le (Heap.lt_size e) (I.ok.cab x c hfn hc)))).trans e1⟩
    · by_cases hj : j = i
      · subst hj
        rw [hi] at e1; cases e1
        rw [List.getElem?_set_self hiσ] at e2
        cases e2
        exact ⟨u, r, .inr ⟨.inl hk, c, hc, hc'⟩⟩
      · rw [List.getElem?_set_ne (Ne.symm hj)] at e2
        obtain ⟨u', r', q⟩ := hl j y v' e1 e2 e3
        refine ⟨u', r', ?_⟩
        rcases q with q | ⟨k, c', e, z'⟩
        · exact .inl q
        · refine .inr ⟨k, c', e, z'.sameBut hs ?_⟩
          rintro rfl
          exact hj (nodup_ix hN e1 (I.ok.inj _ _ _ e hc ▸ hi))
    · by_cases hcc : c' = c
      · subst hcc; exact ⟨_, hc'⟩
      · obtain ⟨w2, z2⟩ := I.cell y c' e
        exact ⟨w2, z2.sameBut hs hcc⟩
    · obtain ⟨e, n, ne, nf, d⟩ := I.pin p hp
      refine ⟨(hs.2 p.1 ?_).trans e, n, ne, nf, d⟩
      intro q
      rw [q, hoc] at e
      have q' : oc = p.2 := Option.some.inj e
      exact d w' (by rw [← q']; exact hocd)
theorem store_ok {M : Model} {A : Around} {E : Value → Shared → Prop} {i : Nat} {x : Str} {v : V} {u : Value} {Q : Unit → Shared → Prop} (I : Inv X pins σ H s) (hN : X.N.Nodup) (hi : X.N[i]? = some x) (hx : Loc X.env.scope x) (r : RelV v u)
    (h : ∀ s', Inv X pins (σ.set i (some v)) H s' → Q () s') (hf : X.fn x = true ∨ X.env.scope.names.lookup x = some .local := by first | exact .inl rfl | exact .inr rfl | assumption) : wpAny M A (storeName X.env x u) Q E s :=
  store_ok2 I hN hi hx r (fun s' I' _ => h s' I') hf
theorem Inv.call' {s' : Shared} {ch : List Addr} (I : Inv X pins σ H s) (ho : s'.os = s.os) (u : Un (frs X.stack) ch H H' s.heap s'.heap) (hok : HOk X.prog X.w H' s'.heap) (hg : AllBare s'.gens)
    (hch : ∀ b ∈ ch, (b ∈ X.ex ∨ X.s₀.heap.objs.size ≤ b) ∧ b ≠ X.env.locals ∧ (∀ x c, X.env.cells.lookup x = some c → c ≠ b) ∧ ∀ p ∈ X.pn ++ pins, p.1 ≠ b) : Inv X pins σ H' s' := by
  obtain ⟨h', g', d', t', o'⟩ := s'
  have e : o' = s.os := ho
  subst e
  exact I.call (g' := g') (t' := t') (d' := d') u hok hg hch
end
noncomputable abbrev XK := Value → Option Addr → Hp → Prop
noncomputable abbrev St := List (Option V)
noncomputable abbrev VK := V → Hp → Prop
noncomputable abbrev TE := St → Hp → VK → Prop
noncomputable abbrev TT := St → Hp → (Bool → Hp → Prop) → Prop
noncomputable abbrev TA := St → Hp → (List V → Hp → Prop) → Prop
structure Ends where
  nx : St → Hp → Prop
  rt : VK
  bk : St → Hp → Prop := fun _ _ => False
  ct : St → Hp → Prop := fun _ _ => False
noncomputable abbrev TS := Ends → St → Hp → Prop
noncomputable def EP (X : Cx) (pins : List (Addr × Obj)) (σ : St) (Q : VK) (u : Value) (s' : Shared) : Prop := ∃ v H', Inv X pins σ H' s' ∧ RelV v u ∧ Q v H'
noncomputable def TP (X : Cx) (pins : List (Addr × Obj)) (σ : St) (Q : Bool → Hp → Prop) (b : Bool) (s' : Shared) : Prop := ∃ H', Inv X pins σ H' s' ∧ Q b H'
noncomputable def AP (X : Cx) (pins : List (Addr × Obj)) (σ : St) (Q : List V → Hp → Prop) (us : List Value) (s' : Shared) : Prop := ∃ vs H', Inv X pins σ H' s' ∧ Vals vs us ∧ Q vs H'
noncomputable def SP (X : Cx) (pins : List (Addr × Obj)) (D : Ends) (f : Flow) (s' : Shared) : Prop :=
  match f with
  | .next => ∃ σ' H', Inv X pins σ' H' s' ∧ D.nx σ' H'
  | .brk => ∃ σ' H', Inv X pins σ' H' s' ∧ D.bk σ' H'
  | .cont => ∃ σ' H', Inv X pins σ' H' s' ∧ D.ct σ' H'
  | .ret u => ∃ v σ' H', Inv X pins σ' H' s' ∧ RelV v u ∧ D.rt v H'
noncomputable def PE (X : Cx) (e : Expr) (t : TE) : Prop :=
  ∀ (pins : List (Addr × Obj)) (s : Shared) (σ : St) (H : Hp) (Q : VK), Inv X pins σ H s → t σ H Q → wpAny (model X.prog X.w) X.A (eval e X.env) (EP X pins σ Q) X.xe s
noncomputable def PT (X : Cx) (e : Expr) (t : TT) : Prop :=
  ∀ (pins : List (Addr × Obj)) (s : Shared) (σ : St) (H : Hp) (Q : Bool → Hp → Prop), Inv X pins σ H s → t σ H Q → wpAny (model X.prog X.w) X.A (isTrue e X.env (eval e X.env)) (TP X pins σ Q) X.xe s
noncomputable def PW (X : Cx) (e : Expr) (t : TT) : Prop :=
  ∀ (whole : Sem Value) (pins : List (Addr × Obj)) (s : Shared) (σ : St) (H : Hp) (Q : Bool → Hp → Prop), Inv X pins σ H s → t σ H Q → wpAny (model X.prog X.w) X.A (isTrue e X.env whole) (TP X pins σ Q) X.xe s
noncomputable def PA (X : Cx) (es : List Expr) (t : TA) : Prop :=
  ∀ (pos : Pos) (pins : List (Addr × Obj)) (s : Shared) (σ : St) (H : Hp) (Q : List V → Hp → Prop), Inv X pins σ H s → t σ H Q → wpAny (model X.prog X.w) X.A (spliced (backTo pos (starEach es X.env))) (AP X pins σ Q) X.xe s
noncomputable def PS (X : Cx) (st : Stmt) (t : TS) : Prop :=
  ∀ (pins : List (Addr × Obj)) (s : Shared) (σ : St) (H : Hp) (D : Ends), Inv X pins σ H s → t D σ H → wpAny (model X.prog X.w) X.A (exec st X.env) (SP X pins D) X.xe s
noncomputable def PSs (X : Cx) (st : List Stmt) (t : TS) : Prop :=
  ∀ (pins : List (Addr × Obj)) (s : Shared) (σ : St) (H : Hp) (D : Ends), Inv X pins σ H s → t D σ H → wpAny (model X.prog X.w) X.A (execs st X.env) (SP X pins D) X.xe s
theorem thn {α : Type} {t : Sem α} {Q Q' : α → Shared → Prop} {M : Model} {A : Around} {E : Value → Shared → Prop} {s : Shared} (h : wpAny M A t Q E s) (hQ : ∀ a s, Q a s → Q' a s) : wpAny M A t Q' E s := wpAny_mono h hQ fun _ _ x => x
end L2
namespace L2
open PySem PySem.Spec PyProof.Rows
section
variable {X : Cx}
noncomputable def tVar (i : Nat) : TE := fun σ H Q => ∃ v, σ[i]? = some (some v) ∧ Q v H
noncomputable def tC (v : V) : TE := fun _ H Q => Q v H
theorem pe_var {i : Nat} {x : Str} {pos : Pos} (hN : X.N[i]? = some x) (hv : Vis X.env.scope x) (hd : (x == ("__debug__" : Str)) = false := by decide) (hcd : (x == ("__classdict__" : Str)) = false := by decide) : PE X (.Name x pos) (tVar i) := by
  intro pins s σ H Q I h
  obtain ⟨v, e, h⟩ := h
  obtain ⟨m, hn, hl⟩ := I.loc
  obtain ⟨u, r, l⟩ := hl i x v hN e hv
  have fin : EP X pins σ Q u s := ⟨v, H, I, r, h⟩
  rcases l with ⟨hk, hm⟩ | ⟨hk, c, hc, hcell⟩
  · exact wpAny_Name (wpAny_loadName_local I.ok.kind hk hn hm fin) hd
  · rcases hk with hk | hk
    · exact wpAny_Name (wpAny_loadName_cell I.ok.kind hk hc hcell fin) hd
    · exact wpAny_Name (wpAny_loadName_free I.ok.kind hk hc hcell fin hcd) hd
theorem pe_int {i j pos} : PE X (.Constant (.int i) j pos) (tC (.int i)) := fun _ _ _ H _ I h => wpAny_Constant_int ⟨.int i, H, I.tok _, ⟨_, rfl⟩, h⟩
theorem pe_bl {b j pos} : PE X (.Constant (.bool b) j pos) (tC (.bl b)) := fun _ _ _ H _ I h => Constant_bool ⟨.bl b, H, I, rfl, h⟩
theorem pe_str {x j pos} : PE X (.Constant (.str x) j pos) (tC (.str x)) := fun _ _ _ H _ I h => Calls.Constant_str ⟨.str x, H, I.tok _, ⟨_, rfl⟩, h⟩
noncomputable def Gl (X : Cx) (x : Str) : Prop := X.env.kindOf x = some .globalImplicit
theorem ld_glob {E : Value → Shared → Prop} {pins : List (Addr × Obj)} {s : Shared} {σ : St} {H : Hp} {x : Str} {u : Value} {pos : Pos} {Q : Value → Shared → Prop} (I : Inv X pins σ H s) (hg : Gl X x) (hm : X.mg x = some u) (h : Q u s)
    (hd : (x == ("__debug__" : Str)) = false := by decide) : wpAny (model X.prog X.w) X.A (eval (.Name x pos) X.env) Q E s :=
  Calls.Name_function_global I.ok.kind hg (Calls.loadGlobal_global (by rw [I.ok.glob]; exact I.mod.glob.keeps I.bk) hm h) hd
theorem ld_blt {E : Value → Shared → Prop} {pins : List (Addr × Obj)} {s : Shared} {σ : St} {H : Hp} {x : Str} {u : Value} {pos : Pos} {Q : Value → Shared → Prop} (I : Inv X pins σ H s) (hg : Gl X x) (hm : X.mg x = none) (hv : bootBuiltins x = some u) (h : Q u s)
    (hn : x ≠ "__name__" := by decide) (hd : (x == ("__debug__" : Str)) = false := by decide) : wpAny (model X.prog X.w) X.A (eval (.Name x pos) X.env) Q E s := by
  obtain ⟨mb, h1, h2⟩ := I.mod.blt
  exact Calls.Name_function_global I.ok.kind hg (Calls.loadGlobal_builtin (by rw [I.ok.glob]; exact I.mod.glob.keeps I.bk) hm (by rw [I.ok.blt]; exact h1.keeps I.bk) ((h2 x hn).trans hv) h) hd
theorem pe_glob {x : Str} {v : V} {u : Value} {pos : Pos} (hg : Gl X x) (hm : X.mg x = some u) (r : RelV v u) (hd : (x == ("__debug__" : Str)) = false := by decide) : PE X (.Name x pos) (tC v) :=
  fun _ _ _ H _ I h => ld_glob I hg hm ⟨v, H, I, r, h⟩ hd
theorem pe_bltn {x : Str} {v : V} {u : Value} {pos : Pos} (hg : Gl X x) (hm : X.mg x = none) (hv : bootBuiltins x = some u) (r : RelV v u) (hn : x ≠ "__name__" := by decide) (hd : (x == ("__debug__" : Str)) = false := by decide) : PE X (.Name x pos) (tC v) :=
  fun _ _ _ H _ I h => ld_blt I hg hm hv ⟨v, H, I, r, h⟩ hn hd
variable {a b : Expr} {ta tb : TE} {pos : Pos}
variable {tA tB' : TT} {rest : List Expr}
noncomputable def tAnd (t u : TT) : TT := fun σ H Q => t σ H fun c H1 => if c = true then u σ H1 Q else Q false H1
noncomputable def tOr (t u : TT) : TT := fun σ H Q => t σ H fun c H1 => if c = true then Q true H1 else u σ H1 Q
noncomputable def tNot (t : TT) : TT := fun σ H Q => t σ H fun c H1 => Q (!c) H1
theorem pw_and1 (ha : PT X a tA) : PW X (.BoolOp .And [a] pos) tA := by
  intro wh pins s σ H Q I h
  refine isTrue_and (thn (ha pins s σ H Q I h) fun c s1 e => ?_)
  cases c with
  | true => exact isTrue_and_nil e
  | false => exact e
theorem pw_or1 (ha : PT X a tA) : PW X (.BoolOp .Or [a] pos) tA := by
  intro wh pins s σ H Q I h
  refine isTrue_or (thn (ha pins s σ H Q I h) fun c s1 e => ?_)
  cases c with
  | false => exact isTrue_or_nil e
  | true => exact e
theorem pw_and (ha : PT X a tA) (hb : PW X (.BoolOp .And (b :: rest) pos) tB') : PW X (.BoolOp .And (a :: b :: rest) pos) (tAnd tA tB') := by
  intro wh pins s σ H Q I h
  refine isTrue_and (thn (ha pins s σ H _ I h) fun c s1 ⟨H1, I1, q1⟩ => ?_)
  cases c with
  | true => exact hb wh pins s1 σ H1 Q I1 q1
  | false => exact ⟨H1, I1, q1⟩
theorem pw_or (ha : PT X a tA) (hb : PW X (.BoolOp .Or (b :: rest) pos) tB') : PW X (.BoolOp .Or (a :: b :: rest) pos) (tOr tA tB') := by
  intro wh pins s σ H Q I h
  refine isTrue_or (thn (ha pins s σ H _ I h) fun c s1 ⟨H1, I1, q1⟩ => ?_)
  cases c with
  | true => exact ⟨H1, I1, q1⟩
  | false => exact hb wh pins s1 σ H1 Q I1 q1
theorem pt_not (ha : PT X a tA) : PT X (.UnaryOp .Not a pos) (tNot tA) := by
  intro pins s σ H Q I h
  exact isTrue_not (ha pins s σ H (fun c H1 => Q (!c) H1) I h)
noncomputable def tAndV (ta tb : TE) : TE := fun σ H Q => ta σ H fun x H1 => ∃ c, x = .bl c ∧ if c = true then tb σ H1 Q else Q (.bl false) H1
noncomputable def tNotV (ta : TE) : TE := fun σ H Q => ta σ H fun x H1 => ∃ c, x = .bl c ∧ Q (.bl (!c)) H1
theorem pe_one {op} {t : TE} (h : PE X a t) : PE X (.BoolOp op [a] pos) t := fun pins s σ H Q I hw => BoolOp_one (h pins s σ H Q I hw)
theorem pe_and (ha : PE X a ta) (hb : PE X (.BoolOp .And (b :: rest) pos) tb) : PE X (.BoolOp .And (a :: b :: rest) pos) (tAndV ta tb) := by
  intro pins s σ H Q I h
  refine BoolOp_and (thn (ha pins s σ H _ I h) fun v s1 ⟨x, H1, I1, r1, q1⟩ => ?_)
  obtain ⟨c, rfl, q1⟩ := q1
  cases r1
  refine wpAny_truthy_bool ?_
  cases c with
  | true => exact hb pins s1 σ H1 Q I1 q1
  | false => exact ⟨.bl false, H1, I1, rfl, q1⟩
theorem pe_not (ha : PE X a ta) : PE X (.UnaryOp .Not a pos) (tNotV ta) := by
  intro pins s σ H Q I h
  refine UnaryOp_ (thn (ha pins s σ H _ I h) fun v s1 ⟨x, H1, I1, r1, q1⟩ => ?_)
  obtain ⟨c, rfl, q1⟩ := q1
  cases r1
  exact not_of (wpAny_truthy_bool ⟨.bl (!c), H1, I1, rfl, q1⟩)
end
end L2
namespace L2
open PySem PySem.Spec PyProof.Rows
noncomputable def SqL (K : PySem.W.Frag) (H : Hp) (a : Addr) (xs : List V) : Prop :=
  Rd H a (.lst xs) ∨
    ∃ (o : Obj) (its : Array Value) (n : Nat), K.lookup a = some o ∧ o.cls = .type "list" ∧ o.dict = none ∧ o.data = .seq its n ∧ its.size ≤ sizeLine ∧ Vals xs its.toList
noncomputable def SqT (K : PySem.W.Frag) (H : Hp) (a : Addr) (xs : List V) : Prop :=
  Rd H a (.tup xs) ∨
    ∃ (o : Obj) (its : Array Value) (n : Nat), K.lookup a = some o ∧ o.cls = .type "tuple" ∧ o.data = .seq its n ∧ its.size ≤ sizeLine ∧ Vals xs its.toList
noncomputable def absV : Value → Option V
  | .none => some .non
  | .bool b => some (.bl b)
  | .int i _ => some (.int i)
  | .str x _ => some (.str x)
  | .bytes b _ => some (.byt b)
  | .float b _ => some (.flt b)
  | .ref a => some (.ref a)
  | .type n => some (.ty n)
  | _ => none
theorem RelV.abs {x : V} {u : Value} (r : RelV x u) : absV u = some x := by
  cases x with
  | non => cases r; rfl
  | bl _ => cases r; rfl
  | int _ => obtain ⟨t, rfl⟩ := r; rfl
  | str _ => obtain ⟨t, rfl⟩ := r; rfl
  | byt _ => obtain ⟨t, rfl⟩ := r; rfl
  | flt _ => obtain ⟨t, rfl⟩ := r; rfl
  | ref _ => cases r; rfl
  | ty _ => cases r; rfl
theorem RelV.inj {x y : V} {u : Value} (r : RelV x u) (q : RelV y u) : x = y := Option.some.inj (r.abs.symm.trans q.abs)
theorem Vals.inj : ∀ {xs ys : List V} {us : List Value}, Vals xs us → Vals ys us → xs = ys
  | _, _, _, .nil, .nil => rfl
  | _, _, _, .cons r t, .cons r' t' => by rw [r.inj r', Vals.inj t t']
section
variable {X : Cx} {pins : List (Addr × Obj)} {σ : St} {H : Hp} {s : Shared} {a : Addr} {xs ys : List V}
theorem SqL.of {K : PySem.W.Frag} (h : H a = some (.lst xs)) : SqL K H a xs := .inl (.inl h)
theorem SqT.of {K : PySem.W.Frag} (h : H a = some (.tup xs)) : SqT K H a xs := .inl (.inl h)
theorem Inv.list (I : Inv X pins σ H s) (h : SqL X.K H a xs) : ∃ its : List Value, Vals xs its ∧ PlainL s.heap a its.toArray ∧ xs.length ≤ sizeLine := by
  rcases h with h | ⟨o, its, n, hk, hc, hd, hs, hz, r⟩
  · obtain ⟨z, its, n, r, e⟩ := h.ok I.hok
    exact ⟨its, r, ⟨_, n, e, rfl, rfl, rfl⟩, z⟩
  · refine ⟨its.toList, r, ⟨o, n, I.kIn a o hk, hc, hd, by simpa using hs⟩, ?_⟩
    have e := r.length
    simp only [Array.length_toList] at e
    omega
theorem Inv.tuple (I : Inv X pins σ H s) (h : SqT X.K H a xs) : ∃ its : List Value, Vals xs its ∧ IsTup s.heap a its.toArray ∧ xs.length ≤ sizeLine := by
  rcases h with h | ⟨o, its, n, hk, hc, hs, hz, r⟩
  · obtain ⟨z, its, r, p⟩ := h.ok I.hok
    exact ⟨its, r, p, z⟩
  · refine ⟨its.toList, r, ⟨o, I.kIn a o hk, hc, n, by simpa using hs⟩, ?_⟩
    have e := r.length
    simp only [Array.length_toList] at e
    omega
theorem Inv.list_inj (I : Inv X pins σ H s) (h : SqL X.K H a xs) (h' : SqL X.K H a ys) : xs = ys := by
  obtain ⟨its, r, ⟨o, n, e, _, _, d⟩, _⟩ := I.list h
  obtain ⟨its', r', ⟨o', n', e', _, _, d'⟩, _⟩ := I.list h'
  rw [e] at e'; cases e'
  rw [d] at d'
  injection d' with d1 _
  have : its = its' := by simpa using congrArg Array.toList d1
  subst this
  exact r.inj r'
theorem Inv.tuple_inj (I : Inv X pins σ H s) (h : SqT X.K H a xs) (h' : SqT X.K H a ys) : xs = ys := by
  obtain ⟨its, r, ⟨o, e, _, n, d⟩, _⟩ := I.tuple h
  obtain ⟨its', r', ⟨o', e', _, n', d'⟩, _⟩ := I.tuple h'
  rw [e] at e'; cases e'
  rw [d] at d'
  injection d' with d1 _
  have : its = its' := by simpa using congrArg Array.toList d1
  subst this
  exact r.inj r'
end
noncomputable abbrev Cx.wish (X : Cx) (E : Value → Shared → Prop) : Cx := { X with xe := E }
noncomputable abbrev Cx.nox (X : Cx) : Cx := X.wish fun _ _ => False
theorem Cx.Ok.wish {X : Cx} (ok : X.Ok) (E : Value → Shared → Prop) : (X.wish E).Ok :=
  ⟨ok.mod, ok.kind, ok.glob, ok.blt, ok.above, ok.inj, ok.has, ok.cab, ok.hd, ok.frames, ok.stk, ok.exf, ok.bs, ok.bsz, ok.noex, ok.exfs, ok.funs, ok.frf⟩
theorem Cx.Ok.unwish {X : Cx} {E : Value → Shared → Prop} (ok : (X.wish E).Ok) : X.Ok :=
  ⟨ok.mod, ok.kind, ok.glob, ok.blt, ok.above, ok.inj, ok.has, ok.cab, ok.hd, ok.frames, ok.stk, ok.exf, ok.bs, ok.bsz, ok.noex, ok.exfs, ok.funs, ok.frf⟩
section
variable {X : Cx} {pins : List (Addr × Obj)} {σ : St} {H : Hp} {s : Shared} {E : Value → Shared → Prop}
theorem Inv.wish (I : Inv X pins σ H s) (E : Value → Shared → Prop) : Inv (X.wish E) pins σ H s := ⟨I.ok.wish E, I.os, I.bare, I.base, I.loc, I.cell, I.free, I.freeC, I.pin, I.hok, I.len⟩
theorem Inv.unwish (I : Inv (X.wish E) pins σ H s) : Inv X pins σ H s := ⟨I.ok.unwish, I.os, I.bare, I.base, I.loc, I.cell, I.free, I.freeC, I.pin, I.hok, I.len⟩
theorem SP.unwish {D : Ends} {f : Flow} {s' : Shared} (h : SP (X.wish E) pins D f s') : SP X pins D f s' := by
  cases f with
  | next => obtain ⟨σ', H', I, q⟩ := h; exact ⟨σ', H', I.unwish, q⟩
  | brk => obtain ⟨σ', H', I, q⟩ := h; exact ⟨σ', H', I.unwish, q⟩
  | cont => obtain ⟨σ', H', I, q⟩ := h; exact ⟨σ', H', I.unwish, q⟩
  | ret u => obtain ⟨v, σ', H', I, r, q⟩ := h; exact ⟨v, σ', H', I.unwish, r, q⟩
theorem PSs.nox {st : List Stmt} {t : TS} (h : PSs X.nox st t) : PSs X st t := fun pins s σ H D I hw =>
  wpAny_mono (h pins s σ H D (I.wish _) hw) (fun _ _ q => q.unwish) fun _ _ z => False.elim z
end
section
variable {X : Cx} {st : Stmt} {rest : List Stmt} {t u : TS} {e : Expr} {te : TE} {pos : Pos}
noncomputable def tNext : TS := fun D σ H => D.nx σ H
theorem pss_nil : PSs X [] tNext := fun _ _ σ H _ I h => wpAny_execs_nil ⟨σ, H, I, h⟩
theorem pss_one (h1 : PS X st t) : PSs X [st] t := by
  intro pins s σ H D I h
  refine wpAny_execs_cons (thn (h1 pins s σ H D I h) fun f s1 q => ?_)
  cases f with
  | next => exact wpAny_execs_nil q
  | ret v => exact q
  | brk => exact q
  | cont => exact q
theorem Inv.quiet {pins : List (Addr × Obj)} {σ : St} {H : Hp} {s : Shared} (I : Inv X pins σ H s) : interactive X.env = false := by simp [interactive, I.ok.kind]
noncomputable def tDrop (te : TE) : TS := fun D σ H => te σ H fun _ H1 => D.nx σ H1
theorem ps_expr (he : PE X e te) (hs : swapsWith e none pos.line X.env = pure false := by rfl) : PS X (.Expr e pos) (tDrop te) := by
  intro pins s σ H D I h
  exact wpAny_Expr_any (thn (he pins s σ H _ I h) fun v s1 ⟨x, H1, I1, r1, q1⟩ => ⟨σ, H1, I1, q1⟩) I.quiet hs
noncomputable def tRet (te : TE) : TS := fun D σ H => te σ H D.rt
theorem ps_ret (he : PE X e te) : PS X (.Return (some e) pos) (tRet te) := by
  intro pins s σ H D I h
  exact wpAny_Return_some (thn (he pins s σ H _ I h) fun v s1 ⟨x, H1, I1, r1, q1⟩ => ⟨x, σ, H1, I1, r1, q1⟩)
noncomputable def tIfS (c : TT) (t u : TS) : TS := fun D σ H => c σ H fun b H1 => if b = true then t D σ H1 else u D σ H1
theorem ps_if {c : Expr} {a b : List Stmt} {tc : TT} (hc : PT X c tc) (ha : PSs X a t) (hb : PSs X b u) : PS X (.If c a b pos) (tIfS tc t u) := by
  intro pins s σ H D I h
  refine wpAny_If (thn (hc pins s σ H _ I h) fun d s1 ⟨H1, I1, q1⟩ => ?_)
  cases d with
  | true => exact ha pins s1 σ H1 D I1 q1
  | false => exact hb pins s1 σ H1 D I1 q1
end
noncomputable abbrev TG := V → St → Hp → (St → Hp → Prop) → Prop
noncomputable abbrev TGs := List V → St → Hp → (St → Hp → Prop) → Prop
noncomputable def PG (X : Cx) (target : Expr) (t : TG) : Prop :=
  ∀ (pins : List (Addr × Obj)) (s : Shared) (σ : St) (H : Hp) (v : V) (u : Value) (Q : St → Hp → Prop), Inv X pins σ H s → RelV v u → t v σ H Q →
    wpAny (model X.prog X.w) X.A (assign target X.env u) (fun _ s' => ∃ σ' H', Inv X pins σ' H' s' ∧ Q σ' H') X.xe s
noncomputable def PGs (X : Cx) (ts : List Expr) (t : TGs) : Prop :=
  ∀ (pins : List (Addr × Obj)) (s : Shared) (σ : St) (H : Hp) (vs : List V) (us : List Value) (Q : St → Hp → Prop), Inv X pins σ H s → Vals vs us → t vs σ H Q →
    wpAny (model X.prog X.w) X.A (assignInOrder ((assignEach ts X.env).map (·.2)) us) (fun _ s' => ∃ σ' H', Inv X pins σ' H' s' ∧ Q σ' H') X.xe s
section
variable {X : Cx} {pos : Pos}
noncomputable def gName (i : Nat) : TG := fun v σ H Q => Q (σ.set i (some v)) H
theorem pg_name {i : Nat} {x : Str} (hN : X.N.Nodup) (hi : X.N[i]? = some x) (hx : Loc X.env.scope x) (hf : X.fn x = true ∨ X.env.scope.names.lookup x = some .local := by first | exact .inl rfl | exact .inr rfl | assumption) : PG X (.Name x pos) (gName i) := by
  intro pins s σ H v u Q I r h
  exact wpAny_assign_Name (store_ok I hN hi hx r (fun s' I' => ⟨_, H, I', h⟩) hf)
noncomputable def gNil : TGs := fun vs σ H Q => vs = [] ∧ Q σ H
noncomputable def gCons (t : TG) (u : TGs) : TGs := fun vs σ H Q => ∃ v r, vs = v :: r ∧ t v σ H fun σ' H' => u r σ' H' Q
theorem pgs_nil : PGs X [] gNil := by
  intro pins s σ H vs us Q I r h
  obtain ⟨e, h⟩ := h
  subst e
  cases r
  exact assignInOrder_nil ⟨σ, H, I, h⟩
theorem pgs_cons {e : Expr} {es : List Expr} {t : TG} {u : TGs} (h1 : PG X e t) (h2 : PGs X es u)
    (hs : (assignEach (e :: es) X.env).map (·.2) = assign e X.env :: (assignEach es X.env).map (·.2) := by rfl) : PGs X (e :: es) (gCons t u) := by
  intro pins s σ H vs us Q I r h
  obtain ⟨v, vr, e1, h⟩ := h
  subst e1
  cases r with
  | cons r rr =>
    rw [hs]
    refine assignInOrder_cons (thn (h1 pins s σ H _ _ _ I r h) fun _ s1 ⟨σ1, H1, I1, q1⟩ => ?_)
    exact h2 pins s1 σ1 H1 _ _ Q I1 rr q1
noncomputable def gTup (K : PySem.W.Frag) (n : Nat) (t : TGs) : TG := fun v σ H Q => ∃ a xs, v = .ref a ∧ SqT K H a xs ∧ xs.length = n ∧ t xs σ H Q
theorem pg_tup {es : List Expr} {k : Nat} {t : TGs} {n : Nat} (hc : X.calm = true) (h : PGs X es t)
    (hn : (assignEach es X.env).length = n := by rfl) (hst : (assignEach es X.env).findIdx? (·.1) = none := by rfl) : PG X (.Tuple es k pos) (gTup X.K n t) := by
  intro pins s σ H v u Q I r hw
  obtain ⟨a, xs, e1, hq, hl, hw⟩ := hw
  subst e1
  cases r
  obtain ⟨its, rv, ht, hz⟩ := I.tuple hq
  refine assign_Tuple_tuple (I.ok.hd hc) ht (by simp [hn, ← hl, rv.length]) hst fun h' hx => ?_
  have I1 : Inv X pins σ H { s with heap := h' } := I.kept (t' := s.toks) fun b o e => hx b o (Nat.ne_of_lt (Heap.lt_size e)) e
  exact h pins _ σ H xs _ Q I1 (by simpa using rv) hw
noncomputable def tAsg (te : TE) (g : TG) : TS := fun D σ H => te σ H fun x H1 => g x σ H1 D.nx
theorem ps_set {i : Nat} {x : Str} {e : Expr} {te : TE} {pos' : Pos} (hN : X.N.Nodup) (hi : X.N[i]? = some x) (hx : Loc X.env.scope x) (he : PE X e te) (hs : swapsWith e (some (.Name x pos')) pos.line X.env = pure false := by rfl) (hf : X.fn x = true ∨ X.env.scope.names.lookup x = some .local := by first | exact .inl rfl | exact .inr rfl | assumption) :
    PS X (.Assign [.Name x pos'] e pos) (tAsg te (gName i)) := by
  intro pins s σ H D I h
  refine wpAny_Assign_Name (thn (he pins s σ H _ I h) fun v s1 ⟨y, H1, I1, r1, q1⟩ => ?_) hs
  exact store_ok I1 hN hi hx r1 (fun s2 I2 => ⟨_, H1, I2, q1⟩) hf
end
section
variable {X : Cx} {pos : Pos}
end
structure It where
  go : Nat → Hp → Prop
  yld : Nat → Hp → V → Hp → Prop
  stop : Nat → Hp → Prop
noncomputable def FpOk (X : Cx) (pins : List (Addr × Obj)) (H : Hp) (b : Addr) : Prop :=
  H b = none ∧ b ≠ X.env.locals ∧ b ∉ X.fs ∧ (b ∈ X.ex ∨ X.s₀.heap.objs.size ≤ b) ∧ (∀ x c, X.env.cells.lookup x = some c → c ≠ b) ∧ ∀ p ∈ X.pn ++ pins, p.1 ≠ b
theorem Inv.fpOk {X : Cx} {pins : List (Addr × Obj)} {σ : St} {H H' : Hp} {s : Shared} {b : Addr} (I : Inv X pins σ H s) (hb : s.heap.objs.size ≤ b) (hn : H' b = none) : FpOk X pins H' b := by
  refine ⟨hn, Nat.ne_of_gt (Nat.lt_of_lt_of_le I.lt hb), I.nofs hb, .inr (Nat.le_trans I.sz hb), fun x c e z => ?_, fun p hp z => ?_⟩
  · obtain ⟨v, q⟩ := I.cell x c e
    exact absurd (Nat.lt_of_lt_of_le q.lt (by rw [z]; exact hb)) (Nat.lt_irrefl _)
  · exact absurd (Nat.lt_of_lt_of_le (Heap.lt_size (I.pin p hp).1) (by rw [z]; exact hb)) (Nat.lt_irrefl _)
structure Turn (P : Program) (w : World) (K : PySem.W.Frag) (tg : Expr) (J : It) (fp : List Addr) (it : Addr) (tn : Nat → Heap → Prop) : Prop where
  mem : it ∈ fp
  obj : ∀ i h, tn i h → ∀ b ∈ fp, ∃ o, h.get? b = some o ∧ ∀ v, o.data ≠ .cell v
  keep : ∀ i h h', tn i h → (∀ b ∈ fp, ∀ o, h.get? b = some o → h'.get? b = some o) → tn i h'
  item : ∀ (X : Cx), X.prog = P → X.w = w → X.K = K → X.calm = true → ∀ (i : Nat) (pins : List (Addr × Obj)) (s : Shared) (σ : St) (H : Hp) (E : Value → Shared → Prop), Inv X pins σ H s → (∀ b ∈ fp, FpOk X pins H b) → tn i s.heap → J.go i H →
    wpAny (model P w) X.A (pyNext (.ref it)) (fun r s1 => ∃ u, r = some u ∧
      wpAny (model P w) X.A (letOwnedTupleGo tg (.ref it) u) (fun _ s2 => ∃ x H', Inv X pins σ H' s2 ∧ RelV x u ∧ J.yld i H x H' ∧ tn (i + 1) s2.heap ∧ ∀ b ∈ fp, H' b = none) E s1) E s
  done : ∀ (X : Cx), X.prog = P → X.w = w → X.K = K → X.calm = true → ∀ (i : Nat) (pins : List (Addr × Obj)) (s : Shared) (σ : St) (H : Hp) (E : Value → Shared → Prop), Inv X pins σ H s → (∀ b ∈ fp, FpOk X pins H b) → tn i s.heap → J.stop i H →
    wpAny (model P w) X.A (pyNext (.ref it)) (fun r s1 => r = none ∧ Inv X pins σ H s1) E s
  self : ∀ (A : Around) (i : Nat) (s : Shared) (Q : Value → Shared → Prop) (E : Value → Shared → Prop), tn i s.heap → Q (.ref it) s → wpAny (model P w) A (pyIter (.ref it)) Q E s
noncomputable abbrev TI := St → Hp → (It → Hp → Prop) → Prop
noncomputable def PIE (X : Cx) (pins : List (Addr × Obj)) (σ : St) (tg : Expr) (R : It → Hp → Prop) (itv : Value) (s2 : Shared) : Prop :=
  ∃ (it : Addr) (fp : List Addr) (tn : Nat → Heap → Prop) (J : It) (H' : Hp), itv = .ref it ∧ Inv X pins σ H' s2 ∧ Turn X.prog X.w X.K tg J fp it tn ∧ tn 0 s2.heap ∧ (∀ b ∈ fp, FpOk X pins H' b) ∧ R J H'
noncomputable def PI (X : Cx) (tg iter : Expr) (wi : TI) : Prop :=
  ∀ (pins : List (Addr × Obj)) (s : Shared) (σ : St) (H : Hp) (R : It → Hp → Prop), Inv X pins σ H s → wi σ H R →
    wpAny (model X.prog X.w) X.A (eval iter X.env) (fun v s1 => wpAny (model X.prog X.w) X.A (pyIter v) (PIE X pins σ tg R) X.xe s1) X.xe s
theorem go_of {M : Model} {A : Around} {E : Value → Shared → Prop} {s : Shared} {tg : Expr} {it : Addr} {u : Value} {o : Obj} {n : String} {vs : Array Value} {Q : Unit → Shared → Prop} (ho : s.heap.get? it = some o) (hc : o.cls = .type n) (hd : o.data = .fields vs)
    (hn : ["enumerate", "zip", "dict_itemiterator", "dict_reverseitemiterator", "odict_iterator", "itertools.zip_longest", "itertools.pairwise"].contains n = false) (hQ : Q () s) : wpAny M A (letOwnedTupleGo tg (.ref it) u) Q E s := by
  unfold letOwnedTupleGo
  cases tg <;> first
    | exact wpAny_pure hQ
    | (cases u <;> first
        | exact wpAny_pure hQ
        | (refine wpAny_bind (wpAny_load ho ?_)
           rw [hc, hd]
           show wpAny M A (if (["enumerate", "zip", "dict_itemiterator", "dict_reverseitemiterator", "odict_iterator", "itertools.zip_longest", "itertools.pairwise"].contains n && vs[0]? == some (rawInt _)) = true then _ else _) Q E s
           rw [if_neg (by intro h; rw [hn, Bool.false_and] at h; cases h)]
           exact wpAny_pure hQ))
noncomputable def Itl (K : PySem.W.Frag) (a : Addr) : It :=
  ⟨fun i H => ∃ xs x, SqL K H a xs ∧ xs[i]? = some x, fun i H x H' => H' = H ∧ ∀ xs, SqL K H a xs → xs[i]? = some x, fun i H => ∃ xs, SqL K H a xs ∧ xs.length ≤ i⟩
noncomputable def Itt (K : PySem.W.Frag) (a : Addr) : It :=
  ⟨fun i H => ∃ xs x, SqT K H a xs ∧ xs[i]? = some x, fun i H x H' => H' = H ∧ ∀ xs, SqT K H a xs → xs[i]? = some x, fun i H => ∃ xs, SqT K H a xs ∧ xs.length ≤ i⟩
noncomputable def Itr (lo : Int) (n : Nat) : It := ⟨fun i _ => i < n, fun i H x H' => H' = H ∧ x = .int (lo + i), fun i _ => n ≤ i⟩
theorem turn_list {P : Program} {w : World} {K : PySem.W.Frag} {tg : Expr} (a it : Addr) : Turn P w K tg (Itl K a) [it] it (fun i h => h.IsListIter it a i) where
  mem := by simp
  obj := fun i h st b hb => by
    have e : b = it := by simpa using hb
    subst e
    obtain ⟨o, e, c, d⟩ := st
    exact ⟨o, e, fun v z => by rw [d] at z; cases z⟩
  keep := fun i h h' st k => st.at fun o e => k it (by simp) o e
  item := by
    intro X hP hw hK hc i pins s σ H E I hf st hg
    subst hP hw hK
    obtain ⟨xs, x, hq, hx⟩ := hg
    obtain ⟨its, rv, p, hz⟩ := I.list hq
    obtain ⟨u, hu, ru⟩ := rv.get hx
    obtain ⟨f0, f1, f2, f3, f4, f5⟩ := hf it (by simp)
    refine wpAny_pyNext_list_item st p.isList (x := u) (by simpa using hu) fun h' st' sb => ?_
    have I1 : Inv X pins σ H { s with heap := h' } := I.turned (t' := s.toks) (fun b o hb e => (sb.2 b hb).trans e) f0 f1 f3 f4 f5
    obtain ⟨o, e, c, d⟩ := id st'
    exact ⟨u, rfl, go_of (s := { s with heap := h' }) e c d (by decide) ⟨x, H, I1, ru, ⟨rfl, fun ys hy => by rw [I.list_inj hy hq]; exact hx⟩, st', fun b hb => (hf b hb).1⟩⟩
  done := by
    intro X hP hw hK hc i pins s σ H E I hf st hg
    subst hP hw hK
    obtain ⟨xs, hq, hx⟩ := hg
    obtain ⟨its, rv, p, hz⟩ := I.list hq
    obtain ⟨f0, f1, f2, f3, f4, f5⟩ := hf it (by simp)
    have hl := rv.length
    exact wpAny_pyNext_list_end (I.ok.hd hc) st p.isList (by simp; omega) fun h' eb => ⟨rfl, I.turned (t' := s.toks) (fun b o hb e => eb b o hb e) f0 f1 f3 f4 f5⟩
  self := fun _ _ _ _ _ st h => wpAny_pyIter_listiter st h
theorem turn_tuple {P : Program} {w : World} {K : PySem.W.Frag} {tg : Expr} (a it : Addr) : Turn P w K tg (Itt K a) [it] it (fun i h => h.IsTupleIter it a i) where
  mem := by simp
  obj := fun i h st b hb => by
    have e : b = it := by simpa using hb
    subst e
    obtain ⟨o, e, c, d⟩ := st
    exact ⟨o, e, fun v z => by rw [d] at z; cases z⟩
  keep := fun i h h' st k => st.at fun o e => k it (by simp) o e
  item := by
    intro X hP hw hK hc i pins s σ H E I hf st hg
    subst hP hw hK
    obtain ⟨xs, x, hq, hx⟩ := hg
    obtain ⟨its, rv, p, hz⟩ := I.tuple hq
    obtain ⟨u, hu, ru⟩ := rv.get hx
    obtain ⟨f0, f1, f2, f3, f4, f5⟩ := hf it (by simp)
    refine wpAny_pyNext_tuple_item st (show s.heap.IsTuple a its.toArray from p) (x := u) (by simpa using hu) fun h' st' sb => ?_
    have I1 : Inv X pins σ H { s with heap := h' } := I.turned (t' := s.toks) (fun b o hb e => (sb.2 b hb).trans e) f0 f1 f3 f4 f5
    obtain ⟨o, e, c, d⟩ := id st'
    exact ⟨u, rfl, go_of (s := { s with heap := h' }) e c d (by decide) ⟨x, H, I1, ru, ⟨rfl, fun ys hy => by rw [I.tuple_inj hy hq]; exact hx⟩, st', fun b hb => (hf b hb).1⟩⟩
  done := by
    intro X hP hw hK hc i pins s σ H E I hf st hg
    subst hP hw hK
    obtain ⟨xs, hq, hx⟩ := hg
    obtain ⟨its, rv, p, hz⟩ := I.tuple hq
    obtain ⟨f0, f1, f2, f3, f4, f5⟩ := hf it (by simp)
    have hl := rv.length
    exact wpAny_pyNext_tuple_end (I.ok.hd hc) st (show s.heap.IsTuple a its.toArray from p) (by simp; omega) fun h' eb => ⟨rfl, I.turned (t' := s.toks) (fun b o hb e => eb b o hb e) f0 f1 f3 f4 f5⟩
  self := fun _ _ _ _ _ st h => wpAny_pyIter_tupleiter st h
theorem turn_range {P : Program} {w : World} {K : PySem.W.Frag} {tg : Expr} (it : Addr) (lo : Int) (n : Nat) : Turn P w K tg (Itr lo n) [it] it (fun i h => IsRangeIter h it (lo + (i : Nat) * 1) ((n : Int) - (i : Nat)) 1) where
  mem := by simp
  obj := fun i h st b hb => by
    have e : b = it := by simpa using hb
    subst e
    exact ⟨_, st, fun v z => by
      have z' : Data.fields _ = Data.cell v := z
      cases z'⟩
  keep := fun i h h' st k => k it (by simp) _ st
  item := by
    intro X hP hw hK hc i pins s σ H E I hf st hg
    subst hP hw hK
    obtain ⟨f0, f1, f2, f3, f4, f5⟩ := hf it (by simp)
    have W := Walks.range (prog := X.prog) (w := X.w) (I.ok.hd hc) it lo 1 n
    refine W.item i s _ _ hg st fun v h' tk hv st' kk => ?_
    obtain ⟨t, rfl⟩ := hv
    have I1 : Inv X pins σ H { s with heap := h', toks := tk } := I.turned (fun b o hb e => kk b o (by simpa using hb) e) f0 f1 f3 f4 f5
    refine ⟨_, rfl, go_of (s := { s with heap := h', toks := tk }) (n := "range_iterator") st' rfl rfl (by decide) ⟨.int (lo + i), H, I1, ⟨t, ?_⟩, ⟨rfl, rfl⟩, st', fun b hb => (hf b hb).1⟩⟩
    rw [Int.mul_one]
  done := by
    intro X hP hw hK hc i pins s σ H E I hf st hg
    subst hP hw hK
    obtain ⟨f0, f1, f2, f3, f4, f5⟩ := hf it (by simp)
    exact wpAny_pyNext_range_end (I.ok.hd hc) st (by have : n ≤ i := hg; omega) fun h' eb => ⟨rfl, I.turned (t' := s.toks) (fun b o hb e => eb b o hb e) f0 f1 f3 f4 f5⟩
  self := fun _ _ _ _ _ st h => wpAny_pyIter_rangeiter st h
end L2
namespace L2
open PySem PySem.Spec PyProof.Rows
section
variable {X : Cx} {tg : Expr}
noncomputable def iList (K : PySem.W.Frag) (tl : TE) : TI := fun σ H R => tl σ H fun x H1 => ∃ a, x = .ref a ∧ (∃ xs, SqL K H1 a xs) ∧ R (Itl K a) H1
noncomputable def iTup (K : PySem.W.Frag) (tl : TE) : TI := fun σ H R => tl σ H fun x H1 => ∃ a, x = .ref a ∧ (∃ xs, SqT K H1 a xs) ∧ R (Itt K a) H1
theorem pi_list {l : Expr} {tl : TE} (hl : PE X l tl) : PI X tg l (iList X.K tl) := by
  intro pins s σ H R I h
  refine thn (hl pins s σ H _ I h) fun v s1 ⟨x, H1, I1, r1, q1⟩ => ?_
  obtain ⟨a, e, ⟨xs, hq⟩, q⟩ := q1
  subst e
  cases r1
  obtain ⟨its, rv, p, hz⟩ := I1.list hq
  refine wpAny_pyIter_list p.isList ?_
  refine ⟨s1.heap.objs.size, [s1.heap.objs.size], _, _, H1, rfl, I1.kept (t' := s1.toks) fun b o e => Heap.get?_push_of_some _ e, turn_list a _, ⟨_, Heap.get?_push_size _ rfl, rfl, rfl⟩, fun b hb => ?_, q⟩
  have e : b = s1.heap.objs.size := by simpa using hb
  subst e
  exact I1.fpOk (Nat.le_refl _) (I1.hok.fresh (Nat.le_refl _))
theorem pi_tup {l : Expr} {tl : TE} (hl : PE X l tl) : PI X tg l (iTup X.K tl) := by
  intro pins s σ H R I h
  refine thn (hl pins s σ H _ I h) fun v s1 ⟨x, H1, I1, r1, q1⟩ => ?_
  obtain ⟨a, e, ⟨xs, hq⟩, q⟩ := q1
  subst e
  cases r1
  obtain ⟨its, rv, p, hz⟩ := I1.tuple hq
  refine wpAny_pyIter_tuple (show s1.heap.IsTuple a its.toArray from p) ?_
  refine ⟨s1.heap.objs.size, [s1.heap.objs.size], _, _, H1, rfl, I1.kept (t' := s1.toks) fun b o e => Heap.get?_push_of_some _ e, turn_tuple a _, ⟨_, Heap.get?_push_size _ rfl, rfl, rfl⟩, fun b hb => ?_, q⟩
  have e : b = s1.heap.objs.size := by simpa using hb
  subst e
  exact I1.fpOk (Nat.le_refl _) (I1.hok.fresh (Nat.le_refl _))
theorem range_it {pins : List (Addr × Obj)} {σ : St} {H : Hp} {s : Shared} {R : It → Hp → Prop} {E : Value → Shared → Prop} {lo hi : Int} {t u v : Tok} {tk : Nat} (I : Inv X pins σ H s) (h1 : -(2 ^ 62) ≤ lo) (h2 : lo < 2 ^ 62) (h3 : -(2 ^ 62) ≤ hi) (h4 : hi < 2 ^ 62)
    (q : R (Itr lo (hi - lo).toNat) H) : wpAny (model X.prog X.w) X.A (pyIter (.ref s.heap.objs.size)) (PIE X pins σ tg R) E { s with heap := s.heap.push { cls := .type "range", data := .fields #[.int lo t, .int hi u, .int 1 v] }, toks := tk } := by
  refine wpAny_pyIter_range (IsRange.new ..) (small_one h1 h2 h3 h4) ?_
  have I1 : Inv X pins σ H { s with heap := s.heap.push { cls := .type "range", data := .fields #[.int lo t, .int hi u, .int 1 v] }, toks := tk } := I.kept fun b o e => Heap.get?_push_of_some _ e
  refine ⟨(s.heap.push { cls := .type "range", data := .fields #[.int lo t, .int hi u, .int 1 v] }).objs.size, [(s.heap.push { cls := .type "range", data := .fields #[.int lo t, .int hi u, .int 1 v] }).objs.size], _, _, H, rfl,
    I1.kept (t' := tk) fun b o e => Heap.get?_push_of_some _ e, turn_range _ lo (hi - lo).toNat, ?_, fun b hb => ?_, q⟩
  · have e1 : lo + ((0 : Nat) : Int) * 1 = lo := by simp
    have e2 : (((hi - lo).toNat : Nat) : Int) - ((0 : Nat) : Int) = Builtin.Range.rangeSize lo hi 1 := by rw [rangeSize_one]; split <;> omega
    show IsRangeIter _ _ (lo + ((0 : Nat) : Int) * 1) ((((hi - lo).toNat : Nat) : Int) - ((0 : Nat) : Int)) 1
    rw [e1, e2]
    exact Heap.get?_push_size _ rfl
  · have e : b = (s.heap.push { cls := .type "range", data := .fields #[.int lo t, .int hi u, .int 1 v] }).objs.size := by simpa using hb
    subst e
    exact I1.fpOk (Nat.le_refl _) (I1.hok.fresh (Nat.le_refl _))
noncomputable def iRng1 (ta : TA) : TI := fun σ H R => ta σ H fun vs H1 => ∃ j : Int, vs = [.int j] ∧ -(2 ^ 62) ≤ j ∧ j < 2 ^ 62 ∧ R (Itr 0 j.toNat) H1
noncomputable def iRng2 (ta : TA) : TI := fun σ H R => ta σ H fun vs H1 => ∃ i j : Int, vs = [.int i, .int j] ∧ (-(2 ^ 62) ≤ i ∧ i < 2 ^ 62 ∧ -(2 ^ 62) ≤ j ∧ j < 2 ^ 62) ∧ R (Itr i (j - i).toNat) H1
theorem pi_range1 {a : Expr} {ta : TA} {p pos : Pos} (hg : Gl X "range") (hm : X.mg "range" = none) (ha : PA X [a] ta) (hs : starEach [a] X.env = [(false, eval a X.env)] := by rfl) : PI X tg (.Call (.Name "range" p) [a] [] pos) (iRng1 ta) := by
  intro pins s σ H R I h
  refine Call_ (ld_blt I hg hm boot_range (PyProof.Rows.callWith_type1 (thn (ha pos pins s σ H _ I h) fun us s1 ⟨vs, H1, I1, r1, q1⟩ => ?_) hs rfl))
  obtain ⟨j, e, q1, q2, q⟩ := q1
  subst e
  cases r1 with
  | cons r rr =>
    cases rr
    obtain ⟨t, rfl⟩ := r
    exact call_range_1 (range_it I1 (by omega) (by omega) q1 q2 (by simpa using q))
theorem pi_range2 {a b : Expr} {ta : TA} {p pos : Pos} (hg : Gl X "range") (hm : X.mg "range" = none) (ha : PA X [a, b] ta) (hs : starEach [a, b] X.env = [(false, eval a X.env), (false, eval b X.env)] := by rfl) (hs2 : starEach [b] X.env = [(false, eval b X.env)] := by rfl) :
    PI X tg (.Call (.Name "range" p) [a, b] [] pos) (iRng2 ta) := by
  intro pins s σ H R I h
  refine Call_ (ld_blt I hg hm boot_range (PyProof.Rows.callWith_type1 (thn (ha pos pins s σ H _ I h) fun us s1 ⟨vs, H1, I1, r1, q1⟩ => ?_) (by rw [hs, hs2]) (by rw [hs2]; rfl)))
  obtain ⟨i, j, e, ⟨q1, q2, q3, q4⟩, q⟩ := q1
  subst e
  cases r1 with
  | cons r rr =>
    cases rr with
    | cons r' rr =>
      cases rr
      obtain ⟨t, rfl⟩ := r
      obtain ⟨t', rfl⟩ := r'
      exact call_range_2 (range_it I1 q1 q2 q3 q4 q)
noncomputable def pinsAt (fp : List Addr) (h : Heap) : List (Addr × Obj) := fp.filterMap fun b => (h.get? b).map fun o => (b, o)
theorem mem_pinsAt {fp : List Addr} {h : Heap} {b : Addr} {o : Obj} (hb : b ∈ fp) (e : h.get? b = some o) : (b, o) ∈ pinsAt fp h := List.mem_filterMap.mpr ⟨b, hb, by rw [e]; rfl⟩
theorem of_pinsAt {fp : List Addr} {h : Heap} {p : Addr × Obj} (hp : p ∈ pinsAt fp h) : p.1 ∈ fp ∧ h.get? p.1 = some p.2 := by
  obtain ⟨b, hb, e⟩ := List.mem_filterMap.mp hp
  cases q : h.get? b with
  | none => rw [q] at e; cases e
  | some o =>
    rw [q] at e
    have e' : (b, o) = p := Option.some.inj e
    subst e'
    exact ⟨hb, q⟩
theorem Inv.pinned {pins : List (Addr × Obj)} {σ : St} {H : Hp} {s : Shared} {fp : List Addr} (I : Inv X pins σ H s) (hf : ∀ b ∈ fp, FpOk X pins H b) (ho : ∀ b ∈ fp, ∃ o, s.heap.get? b = some o ∧ ∀ v, o.data ≠ .cell v) : Inv X (pins ++ pinsAt fp s.heap) σ H s :=
  I.pins_of fun p hp => (List.mem_append.mp hp).elim (fun z => I.pin p (List.mem_append_right _ z)) fun z => by
    obtain ⟨hb, e⟩ := of_pinsAt z
    obtain ⟨f0, f1, f2, _⟩ := hf p.1 hb
    obtain ⟨o, e', d⟩ := ho p.1 hb
    rw [e] at e'; cases e'
    exact ⟨e, f0, f1, f2, d⟩
theorem Inv.unpinned {pins pl : List (Addr × Obj)} {σ : St} {H : Hp} {s : Shared} (I : Inv X (pins ++ pl) σ H s) : Inv X pins σ H s := I.pins_of fun p hp => I.pin p (List.mem_append_right _ (List.mem_append_left _ hp))
end
end L2
namespace L2
open PySem PySem.Spec PyProof.Rows
noncomputable abbrev R2 := V → V → Hp → VK → Prop
noncomputable def OpR (X : Cx) (f : Value → Value → Sem Value) (r : R2) : Prop :=
  ∀ (pins : List (Addr × Obj)) (s : Shared) (σ : St) (H : Hp) (x y : V) (v u : Value) (Q : VK), Inv X pins σ H s → RelV x v → RelV y u → r x y H Q →
    wpAny (model X.prog X.w) X.A (f v u) (EP X pins σ Q) X.xe s
noncomputable def UnR (X : Cx) (f : Value → Sem Value) (r : V → Hp → VK → Prop) : Prop :=
  ∀ (pins : List (Addr × Obj)) (s : Shared) (σ : St) (H : Hp) (x : V) (v : Value) (Q : VK), Inv X pins σ H s → RelV x v → r x H Q →
    wpAny (model X.prog X.w) X.A (f v) (EP X pins σ Q) X.xe s
noncomputable def CallR (X : Cx) (f : Value) (r : List V → Hp → VK → Prop) : Prop :=
  ∀ (pins : List (Addr × Obj)) (s : Shared) (σ : St) (H : Hp) (xs : List V) (us : List Value) (Q : VK), Inv X pins σ H s → Vals xs us → r xs H Q →
    wpAny (model X.prog X.w) X.A (call f us) (EP X pins σ Q) X.xe s
noncomputable def TruR (X : Cx) (r : V → Hp → (Bool → Hp → Prop) → Prop) : Prop :=
  ∀ (pins : List (Addr × Obj)) (s : Shared) (σ : St) (H : Hp) (x : V) (v : Value) (Q : Bool → Hp → Prop), Inv X pins σ H s → RelV x v → r x H Q →
    wpAny (model X.prog X.w) X.A (truthy v) (TP X pins σ Q) X.xe s
noncomputable def tOp (r : R2) (ta tb : TE) : TE := fun σ H Q => ta σ H fun x H1 => tb σ H1 fun y H2 => r x y H2 Q
noncomputable def tUn (r : V → Hp → VK → Prop) (ta : TE) : TE := fun σ H Q => ta σ H fun x H1 => r x H1 Q
noncomputable def rI (C : Int → Int → Prop) (g : Int → Int → V) : R2 := fun x y H Q => ∃ i j, x = .int i ∧ y = .int j ∧ C i j ∧ Q (g i j) H
noncomputable def rI0 (g : Int → Int → V) : R2 := fun x y H Q => ∃ i j, x = .int i ∧ y = .int j ∧ Q (g i j) H
noncomputable def rU (g : Int → V) : V → Hp → VK → Prop := fun x H Q => ∃ i, x = .int i ∧ Q (g i) H
section
variable {X : Cx} {a b c : Expr} {ta tb tc : TE} {pos : Pos}
theorem binT (ha : PE X a ta) (hb : PE X b tb) {pins : List (Addr × Obj)} {s : Shared} {σ : St} {H : Hp} {R : V → V → Hp → Prop} (I : Inv X pins σ H s)
    (h : ta σ H fun x H1 => tb σ H1 fun y H2 => R x y H2) {Q : Value → Shared → Prop} {f : Value → Value → Sem Value}
    (hf : ∀ v u s2 x y H2, Inv X pins σ H2 s2 → RelV x v → RelV y u → R x y H2 → wpAny (model X.prog X.w) X.A (f v u) Q X.xe s2) :
    wpAny (model X.prog X.w) X.A (eval a X.env) (fun v s₁ => wpAny (model X.prog X.w) X.A (eval b X.env) (fun u s₂ => wpAny (model X.prog X.w) X.A (f v u) Q X.xe s₂) X.xe s₁) X.xe s := by
  refine thn (ha pins s σ H _ I h) fun v s1 ⟨x, H1, I1, r1, q1⟩ => ?_
  refine thn (hb pins s1 σ H1 _ I1 q1) fun u s2 ⟨y, H2, I2, r2, q2⟩ => ?_
  exact hf v u s2 x y H2 I2 r1 r2 q2
theorem pe_op {op : Operator} {r : R2} (ho : OpR X (binaryOp op) r) (ha : PE X a ta) (hb : PE X b tb) : PE X (.BinOp a op b pos) (tOp r ta tb) := by
  intro pins s σ H Q I h
  exact wpAny_BinOp (binT ha hb I h fun v u s2 x y H2 I2 rx ry q => ho pins s2 σ H2 x y v u Q I2 rx ry q)
theorem pe_un {op : UnaryOp} {r : V → Hp → VK → Prop} (ho : UnR X (unaryOp op) r) (ha : PE X a ta) : PE X (.UnaryOp op a pos) (tUn r ta) := by
  intro pins s σ H Q I h
  exact UnaryOp_ (thn (ha pins s σ H _ I h) fun v s1 ⟨x, H1, I1, r1, q1⟩ => ho pins s1 σ H1 x v Q I1 r1 q1)
theorem opI {f : Value → Value → Sem Value} {C : Int → Int → Prop} {g : Int → Int → Int}
    (rule : ∀ (i j : Int) (t u : Tok) (s : Shared) (Q : Value → Shared → Prop) (E : Value → Shared → Prop), C i j → Q (.int (g i j) s.toks) { s with toks := s.toks + 1 } → wpAny (model X.prog X.w) X.A (f (.int i t) (.int j u)) Q E s) :
    OpR X f (rI C fun i j => .int (g i j)) := by
  intro pins s σ H x y v u Q I rx ry h
  obtain ⟨i, j, rfl, rfl, hc, q⟩ := h
  obtain ⟨t, rfl⟩ := rx
  obtain ⟨t', rfl⟩ := ry
  exact rule i j t t' s _ _ hc ⟨.int (g i j), H, I.tok _, ⟨_, rfl⟩, q⟩
theorem opI0 {f : Value → Value → Sem Value} {g : Int → Int → Int}
    (rule : ∀ (i j : Int) (t u : Tok) (s : Shared) (Q : Value → Shared → Prop) (E : Value → Shared → Prop), Q (.int (g i j) s.toks) { s with toks := s.toks + 1 } → wpAny (model X.prog X.w) X.A (f (.int i t) (.int j u)) Q E s) :
    OpR X f (rI0 fun i j => .int (g i j)) := by
  intro pins s σ H x y v u Q I rx ry h
  obtain ⟨i, j, rfl, rfl, q⟩ := h
  obtain ⟨t, rfl⟩ := rx
  obtain ⟨t', rfl⟩ := ry
  exact rule i j t t' s _ _ ⟨.int (g i j), H, I.tok _, ⟨_, rfl⟩, q⟩
theorem opB0 {f : Value → Value → Sem Value} {g : Int → Int → Bool}
    (rule : ∀ (i j : Int) (t u : Tok) (s : Shared) (Q : Value → Shared → Prop) (E : Value → Shared → Prop), Q (.bool (g i j)) s → wpAny (model X.prog X.w) X.A (f (.int i t) (.int j u)) Q E s) :
    OpR X f (rI0 fun i j => .bl (g i j)) := by
  intro pins s σ H x y v u Q I rx ry h
  obtain ⟨i, j, rfl, rfl, q⟩ := h
  obtain ⟨t, rfl⟩ := rx
  obtain ⟨t', rfl⟩ := ry
  exact rule i j t t' s _ _ ⟨.bl (g i j), H, I, rfl, q⟩
noncomputable def CDiv (i j : Int) : Prop := 0 < j ∧ j < 1073741824
noncomputable def CMul (i j : Int) : Prop := (-(2 ^ 64) < i ∧ i < 2 ^ 64) ∨ (-(2 ^ 64) < j ∧ j < 2 ^ 64)
theorem CMul.ok {i j : Int} (h : CMul i j) : IntMulOk i j := by
  rcases h with ⟨h1, h2⟩ | ⟨h1, h2⟩
  · exact .of_left (intBits_le_64 h1 h2)
  · exact .of_right (intBits_le_64 h1 h2)
theorem op_add : OpR X (binaryOp .Add) (rI0 fun i j => .int (i + j)) := opI0 fun _ _ _ _ _ _ _ q => add_int q
theorem op_sub : OpR X (binaryOp .Sub) (rI0 fun i j => .int (i - j)) := opI0 fun _ _ _ _ _ _ _ q => sub_int q
theorem op_mul : OpR X (binaryOp .Mult) (rI CMul fun i j => .int (i * j)) := opI fun _ _ _ _ _ _ _ hc q => mul_int q hc.ok
theorem op_fdiv : OpR X (binaryOp .FloorDiv) (rI CDiv fun i j => .int (i / j)) := opI fun i j _ _ _ _ _ hc q => by
  have h1 : (0 : Int) < j := hc.1
  have h2 : j < 1073741824 := hc.2
  exact floordiv_int (by omega) (by rw [Int.fdiv_eq_ediv_of_nonneg i (by omega)]; exact q) (.inl (PyProof.noPylong_small (by omega)))
theorem op_mod : OpR X (binaryOp .Mod) (rI (fun _ j => 0 < j) fun i j => .int (i % j)) := opI fun i j _ _ _ _ _ hc q => by
  have h1 : (0 : Int) < j := hc
  exact mod_int' (by omega) (by rw [Int.fmod_eq_emod_of_nonneg i (by omega)]; exact q)
theorem unI {f : Value → Sem Value} {g : Int → Int}
    (rule : ∀ (i : Int) (t : Tok) (s : Shared) (Q : Value → Shared → Prop) (E : Value → Shared → Prop), Q (.int (g i) s.toks) { s with toks := s.toks + 1 } → wpAny (model X.prog X.w) X.A (f (.int i t)) Q E s) :
    UnR X f (rU fun i => .int (g i)) := by
  intro pins s σ H x v Q I rx h
  obtain ⟨i, rfl, q⟩ := h
  obtain ⟨t, rfl⟩ := rx
  exact rule i t s _ _ ⟨.int (g i), H, I.tok _, ⟨_, rfl⟩, q⟩
theorem un_neg : UnR X (unaryOp .USub) (rU fun i => .int (-i)) := unI fun _ _ _ _ _ q => neg_int q
end
noncomputable def scal : V → V → Bool
  | .non, .non => true | .non, .int _ => true | .int _, .non => true | .non, .bl _ => true | .bl _, .non => true | .non, .str _ => true | .str _, .non => true
  | .int _, .int _ => true | .bl _, .bl _ => true | .str _, .str _ => true | .byt _, .byt _ => true
  | .int _, .str _ => true | .str _, .int _ => true | .bl _, .str _ => true | .str _, .bl _ => true
  | _, _ => false
noncomputable def rEq : R2 := fun x y H Q => scal x y = true ∧ Q (.bl (decide (x = y))) H
noncomputable def rNe : R2 := fun x y H Q => scal x y = true ∧ Q (.bl (!decide (x = y))) H
theorem dec_int {i j : Int} : decide (V.int i = V.int j) = (i == j) := by
  rw [Bool.eq_iff_iff]
  simp
theorem dec_bl {i j : Bool} : decide (V.bl i = V.bl j) = (i == j) := by
  rw [Bool.eq_iff_iff]
  simp
theorem dec_str {i j : Str} : decide (V.str i = V.str j) = (i == j) := by
  rw [Bool.eq_iff_iff]
  simp
theorem dec_byt {i j : Array UInt8} : decide (V.byt i = V.byt j) = (i.toList == j.toList) := by
  rw [Bool.eq_iff_iff]
  cases i
  cases j
  simp
section
variable {X : Cx} {a b c : Expr} {ta tb tc : TE} {pos : Pos}
theorem fin_bl {pins : List (Addr × Obj)} {σ : St} {H : Hp} {s : Shared} {Q : VK} {k k' : Bool} (I : Inv X pins σ H s) (q : Q (.bl k) H) (e : k = k') : EP X pins σ Q (.bool k') s := by
  subst e
  exact ⟨.bl k, H, I, rfl, q⟩
theorem op_eq : OpR X (compareOp .Eq) rEq := by
  intro pins s σ H x y v u Q I rx ry h
  obtain ⟨hs, q⟩ := h
  cases x with
  | non =>
    cases rx
    cases y with
    | non => cases ry; exact PySem.EqNone.eq_none_none (fin_bl I q (by simp))
    | bl j => cases ry; exact PySem.EqNone.eq_none_bool (fin_bl I q (by simp))
    | int j => obtain ⟨t', rfl⟩ := ry; exact PySem.EqNone.eq_none_int (fin_bl I q (by simp))
    | str j => obtain ⟨t', rfl⟩ := ry; exact PySem.EqNone.eq_none_str (fin_bl I q (by simp))
    | _ => exact absurd (show false = true from hs) Bool.false_ne_true
  | bl i =>
    cases rx
    cases y with
    | non => cases ry; exact PySem.EqNone.eq_bool_none (fin_bl I q (by simp))
    | bl j => cases ry; exact eq_bool (fin_bl I q dec_bl)
    | str j => obtain ⟨t', rfl⟩ := ry; exact PySem.EqMixed.eq_bool_str (fin_bl I q (by simp))
    | _ => exact absurd (show false = true from hs) Bool.false_ne_true
  | int i =>
    obtain ⟨t, rfl⟩ := rx
    cases y with
    | non => cases ry; exact PySem.EqNone.eq_int_none (fin_bl I q (by simp))
    | int j => obtain ⟨t', rfl⟩ := ry; exact eq_int (fin_bl I q dec_int)
    | str j => obtain ⟨t', rfl⟩ := ry; exact PySem.EqMixed.eq_int_str (fin_bl I q (by simp))
    | _ => exact absurd (show false = true from hs) Bool.false_ne_true
  | str i =>
    obtain ⟨t, rfl⟩ := rx
    cases y with
    | non => cases ry; exact PySem.EqNone.eq_str_none (fin_bl I q (by simp))
    | bl j => cases ry; exact PySem.EqMixed.eq_str_bool (fin_bl I q (by simp))
    | int j => obtain ⟨t', rfl⟩ := ry; exact PySem.EqMixed.eq_str_int (fin_bl I q (by simp))
    | str j => obtain ⟨t', rfl⟩ := ry; exact eq_str (fin_bl I q dec_str)
    | _ => exact absurd (show false = true from hs) Bool.false_ne_true
  | byt i =>
    obtain ⟨t, rfl⟩ := rx
    cases y with
    | byt j => obtain ⟨t', rfl⟩ := ry; exact PySem.W.eq_bytes (fin_bl I q dec_byt)
    | _ => exact absurd (show false = true from hs) Bool.false_ne_true
  | _ => cases y <;> exact absurd (show false = true from hs) Bool.false_ne_true
theorem op_ne : OpR X (compareOp .NotEq) rNe := by
  intro pins s σ H x y v u Q I rx ry h
  obtain ⟨hs, q⟩ := h
  cases x with
  | non =>
    cases rx
    cases y with
    | non => cases ry; exact PySem.EqNone.ne_none_none (fin_bl I q (by simp))
    | bl j => cases ry; exact PySem.EqNone.ne_none_bool (fin_bl I q (by simp))
    | int j => obtain ⟨t', rfl⟩ := ry; exact PySem.EqNone.ne_none_int (fin_bl I q (by simp))
    | str j => obtain ⟨t', rfl⟩ := ry; exact PySem.EqNone.ne_none_str (fin_bl I q (by simp))
    | _ => exact absurd (show false = true from hs) Bool.false_ne_true
  | bl i =>
    cases rx
    cases y with
    | non => cases ry; exact PySem.EqNone.ne_bool_none (fin_bl I q (by simp))
    | bl j => cases ry; exact ne_bool (fin_bl I q (congrArg not dec_bl))
    | str j => obtain ⟨t', rfl⟩ := ry; exact PySem.EqMixed.ne_bool_str (fin_bl I q (by simp))
    | _ => exact absurd (show false = true from hs) Bool.false_ne_true
  | int i =>
    obtain ⟨t, rfl⟩ := rx
    cases y with
    | non => cases ry; exact PySem.EqNone.ne_int_none (fin_bl I q (by simp))
    | int j => obtain ⟨t', rfl⟩ := ry; exact ne_int (fin_bl I q (congrArg not dec_int))
    | str j => obtain ⟨t', rfl⟩ := ry; exact PySem.EqMixed.ne_int_str (fin_bl I q (by simp))
    | _ => exact absurd (show false = true from hs) Bool.false_ne_true
  | str i =>
    obtain ⟨t, rfl⟩ := rx
    cases y with
    | non => cases ry; exact PySem.EqNone.ne_str_none (fin_bl I q (by simp))
    | bl j => cases ry; exact PySem.EqMixed.ne_str_bool (fin_bl I q (by simp))
    | int j => obtain ⟨t', rfl⟩ := ry; exact PySem.EqMixed.ne_str_int (fin_bl I q (by simp))
    | str j => obtain ⟨t', rfl⟩ := ry; exact ne_str (fin_bl I q (congrArg not dec_str))
    | _ => exact absurd (show false = true from hs) Bool.false_ne_true
  | byt i =>
    obtain ⟨t, rfl⟩ := rx
    cases y with
    | byt j => obtain ⟨t', rfl⟩ := ry; exact PySem.W.ne_bytes (fin_bl I q (congrArg not dec_byt))
    | _ => exact absurd (show false = true from hs) Bool.false_ne_true
  | _ => cases y <;> exact absurd (show false = true from hs) Bool.false_ne_true
theorem op_lt : OpR X (compareOp .Lt) (rI0 fun i j => .bl (decide (i < j))) := opB0 fun _ _ _ _ _ _ _ q => lt_int q
theorem op_le : OpR X (compareOp .LtE) (rI0 fun i j => .bl (decide (i ≤ j))) := opB0 fun _ _ _ _ _ _ _ q => le_int q
theorem op_gt : OpR X (compareOp .Gt) (rI0 fun i j => .bl (decide (j < i))) := opB0 fun _ _ _ _ _ _ _ q => gt_int q
theorem nomark (b : Expr) {op : CmpOp} (h : op ≠ .In := by decide) (h2 : op ≠ .NotIn := by decide) : behindInMarks op b = false := by
  have e1 : (op == CmpOp.In) = false := by cases op <;> first | rfl | exact absurd rfl h
  have e2 : (op == CmpOp.NotIn) = false := by cases op <;> first | rfl | exact absurd rfl h2
  cases b <;> simp [behindInMarks, e1, e2]
theorem pe_cmpR {op : CmpOp} {r : R2} (ho : OpR X (compareOp op) r) (ha : PE X a ta) (hb : PE X b tb) (hm : behindInMarks op b = false) : PE X (.Compare a [op] [b] pos) (tOp r ta tb) := by
  intro pins s σ H Q I h
  exact wpAny_Compare1 (binT ha hb I h fun v u s2 x y H2 I2 rx ry q => ho pins s2 σ H2 x y v u Q I2 rx ry q) hm
noncomputable def tTest (t : TE) : TT := fun σ H Q => t σ H fun x H' => ∃ k, x = .bl k ∧ Q k H'
theorem pt_cmpR {op : CmpOp} {r : R2} (ho : OpR X (compareOp op) r) (ha : PE X a ta) (hb : PE X b tb) (hm : behindInMarks op b = false) : PT X (.Compare a [op] [b] pos) (tTest (tOp r ta tb)) := by
  intro pins s σ H Q I h
  refine wpAny_isTrue_Compare1 (thn (ha pins s σ H _ I h) fun v s1 ⟨x, H1, I1, r1, q1⟩ => thn (hb pins s1 σ H1 _ I1 q1) fun u s2 ⟨y, H2, I2, r2, q2⟩ =>
    thn (ho pins s2 σ H2 x y v u _ I2 r1 r2 q2) fun c s3 ⟨z, H3, I3, r3, k, e, q3⟩ => ?_) hm
  subst e
  cases r3
  exact wpAny_truthy_bool ⟨H3, I3, q3⟩
noncomputable def TruV (K : PySem.W.Frag) (x : V) (H : Hp) (k : Bool) : Prop :=
  match x with
  | .non => k = false
  | .bl b => k = b
  | .int i => k = (i != 0)
  | .str y => y.length ≤ sizeLine ∧ k = ((y.length : Int) != 0)
  | .byt y => y.size ≤ sizeLine ∧ k = ((y.size : Int) != 0)
  | .ref p => (∃ xs, SqL K H p xs ∧ k = !xs.isEmpty) ∨ (∃ xs, SqT K H p xs ∧ k = !xs.isEmpty) ∨ ∃ kvs, H p = some (.dK kvs) ∧ k = !kvs.isEmpty
  | _ => False
theorem isEmpty_kv {κ : Type} {kvs : List (κ × V)} {vs : List (κ × Value)} (r : KV kvs vs) : (!vs.isEmpty) = !kvs.isEmpty := by
  cases r <;> rfl
theorem isEmpty_of {xs : List V} {its : List Value} (r : Vals xs its) : (!its.toArray.isEmpty) = !xs.isEmpty := by
  cases r <;> simp
theorem line63 : (sizeLine : Nat) < 2 ^ 63 := by rw [sizeLine_eq]; decide
theorem tru_ok : TruR X (fun x H Q => ∃ k, TruV X.K x H k ∧ Q k H) := by
  intro pins s σ H x v Q I rx h
  obtain ⟨k, e, q⟩ := h
  have hl := line63
  have hs : sizeLine = 16777216 := sizeLine_eq
  cases x with
  | non =>
    cases rx
    have e' : k = false := e
    subst e'
    exact truthy_none ⟨H, I, q⟩
  | bl b =>
    cases rx
    have e' : k = b := e
    subst e'
    exact wpAny_truthy_bool ⟨H, I, q⟩
  | int i =>
    obtain ⟨t, rfl⟩ := rx
    have e' : k = (i != 0) := e
    subst e'
    exact PySem.P.truthy_int ⟨H, I, q⟩
  | str y =>
    obtain ⟨t, rfl⟩ := rx
    obtain ⟨hy, e'⟩ : y.length ≤ sizeLine ∧ k = ((y.length : Int) != 0) := e
    subst e'
    exact PySem.P.truthy_str (by omega) ⟨H, I.tok _, q⟩
  | byt y =>
    obtain ⟨t, rfl⟩ := rx
    obtain ⟨hy, e'⟩ : y.size ≤ sizeLine ∧ k = ((y.size : Int) != 0) := e
    subst e'
    exact PySem.W.truthy_bytes (by omega) ⟨H, I.tok _, q⟩
  | ref p =>
    cases rx
    have e' : (∃ xs, SqL X.K H p xs ∧ k = !xs.isEmpty) ∨ (∃ xs, SqT X.K H p xs ∧ k = !xs.isEmpty) ∨ ∃ kvs, H p = some (.dK kvs) ∧ k = !kvs.isEmpty := e
    rcases e' with ⟨xs, hx, e'⟩ | ⟨xs, hx, e'⟩ | ⟨kvs, hx, e'⟩
    · subst e'
      obtain ⟨its, r, pl, hz⟩ := I.list hx
      have hlen := r.length
      exact wpAny_truthy_list pl.isList (by simp only [List.size_toArray]; omega) ⟨H, I.tok _, by rw [isEmpty_of r]; exact q⟩
    · subst e'
      obtain ⟨its, r, pl, hz⟩ := I.tuple hx
      have hlen := r.length
      exact truthy_tuple pl (by simp only [List.size_toArray]; omega) ⟨H, I.tok _, by rw [isEmpty_of r]; exact q⟩
    · subst e'
      obtain ⟨hz, hS, vs, r, m⟩ : kvs.length ≤ sizeLine ∧ (p == sysModules) = false ∧ ∃ vs, KV kvs vs ∧ s.heap.DictOf (mixKind X.prog X.w) p vs := I.hok p _ hx
      have hlen : kvs.length = vs.length := Paired.length r
      exact wpAny_truthy_dict hS m (by omega) ⟨H, I.tok _, by rw [isEmpty_kv r]; exact q⟩
  | _ => exact (show False from e).elim
theorem pt_truth (ha : PE X a ta) (he : ∀ whole, isTrue a X.env whole = (do let v ← whole; standAt a.pos; holding [v] (truthy v))) :
    PT X a (fun σ H Q => ta σ H fun x H' => ∃ k, TruV X.K x H' k ∧ Q k H') := by
  intro pins s σ H Q I h
  exact isTrue_plain (thn (ha pins s σ H _ I h) fun v s1 ⟨x, H1, I1, r1, q1⟩ => tru_ok pins s1 σ H1 x v Q I1 r1 q1) (he _)
theorem op_add_str : OpR X (binaryOp .Add) (fun x y H Q => ∃ i j, x = .str i ∧ y = .str j ∧ i.length + j.length ≤ sizeLine ∧ Q (.str (i ++ j)) H) := by
  intro pins s σ H x y v u Q I rx ry h
  obtain ⟨i, j, rfl, rfl, hz, q⟩ := h
  obtain ⟨t, rfl⟩ := rx
  obtain ⟨t', rfl⟩ := ry
  exact add_str (fun t' tk => ⟨.str (i ++ j), H, I.tok _, ⟨_, rfl⟩, q⟩) hz
theorem vals1 {x : V} {us : List Value} (r : Vals [x] us) : ∃ u, us = [u] ∧ RelV x u := by
  cases r with
  | cons r1 r2 => cases r2; exact ⟨_, rfl, r1⟩
theorem vals2 {x y : V} {us : List Value} (r : Vals [x, y] us) : ∃ u w', us = [u, w'] ∧ RelV x u ∧ RelV y w' := by
  cases r with
  | cons r1 r2 =>
    cases r2 with
    | cons r3 r4 => cases r4; exact ⟨_, _, rfl, r1, r3⟩
theorem call_int1 : CallR X (.type "int") (fun xs H Q => (∃ i, xs = [.int i] ∧ Q (.int i) H) ∨ ∃ k, xs = [.bl k] ∧ Q (.int (if k then 1 else 0)) H) := by
  intro pins s σ H xs us Q I r h
  rcases h with ⟨i, rfl, q⟩ | ⟨k, rfl, q⟩
  · obtain ⟨u, rfl, t, rfl⟩ := vals1 r
    exact call_int_int ⟨.int i, H, I, ⟨_, rfl⟩, q⟩
  · obtain ⟨u, rfl, r1⟩ := vals1 r
    cases r1
    exact call_int_bool ⟨.int (if k then 1 else 0), H, I.tok _, ⟨_, rfl⟩, q⟩
end
end L2
namespace L2
open PySem PySem.Spec PyProof.Rows
structure ObjM (h : Heap) (x dx C : Addr) (mA : Str → Option Value) : Prop where
  obj : h.get? x = some (PySem.W.instObj C dx)
  ns : h.Ns1 dx mA
  ne : dx ≠ x
theorem lookIn_ns {h : Heap} {dx : Addr} {mA : Str → Option Value} (n : h.Ns1 dx mA) : ∃ od, h.get? dx = some od ∧ ∀ name, PySem.W.lookIn name od = some (mA name) := by
  obtain ⟨o, es, ep, ho, hd, hk, _, hm⟩ := n
  refine ⟨o, ho, fun name => ?_⟩
  have e := hm name
  unfold nsFind findBy at e
  rw [← Array.find?_toList] at e
  unfold PySem.W.lookIn
  rw [hd]
  dsimp only
  split
  · rename_i y q
    rw [q] at e
    exact congrArg some e
  · rename_i q
    rw [q] at e
    have a : es.toList.any (·.refKey) = false := by
      rw [List.any_eq_false]
      intro y hy
      obtain ⟨z, t, hkey⟩ := hk y (Array.mem_toList_iff.mp hy)
      simp [DictEntry.refKey, hkey]
    have a' : ¬ es.toList.any (·.refKey) = true := by rw [a]; exact Bool.false_ne_true
    rw [if_neg a']
    exact congrArg some e
theorem ObjM.look {h : Heap} {x dx C : Addr} {mA : Str → Option Value} (I : ObjM h x dx C mA) : ∃ od, PySem.W.InstAt h x (PySem.W.instObj C dx) C (some od) ∧ ∀ name, PySem.W.lookIn name od = some (mA name) :=
  let ⟨od, ho, hl⟩ := lookIn_ns I.ns
  ⟨od, ⟨I.obj, rfl, rfl, ho⟩, hl⟩
section
variable {prog : Program} {w : World} {A : Around} {E : Value → Shared → Prop} {s : Shared} {K : PySem.W.Frag} {x dx C f : Addr} {mA : Str → Option Value} {name : Str} {v : Value}
end
section
variable {P : Program} {w : World} {H H' : Hp} {h h' : Heap} {a C dx : Addr} {fs fs' : List (Str × V)}
theorem ins_get (hok : HOk P w H h) (e : H a = some (.ins C dx fs)) : ∃ mA, ObjM h a dx C mA ∧ (∀ f, RelO (fs.lookup f) (mA f)) ∧ PySem.Within mA (fs.map (·.1)) ∧ fs.length ≤ 1000 ∧ H dx = some (.own a) := by
  obtain ⟨d, z, ne, ob, mA, n, r, q⟩ := (show ObjOk P w H h a (.ins C dx fs) from hok a _ e)
  exact ⟨mA, ⟨ob, n, ne⟩, r, q, z, d⟩
end
structure Cls (K : PySem.W.Frag) (C : Addr) : Prop where
  pg : PySem.W.plainGet K C Str.empty = true
  hd : PySem.W.hasDictIn K C = true
  po : PySem.W.plainOver K C = true
  sa : PySem.W.findIn K (.ref C) "__setattr__" = some (some (.builtin "object.__setattr__"))
theorem Cls.get {K : PySem.W.Frag} {C : Addr} (c : Cls K C) (f : Str) : PySem.W.plainGet K C f = true := c.pg
section
variable {X : Cx} {pins : List (Addr × Obj)} {σ : St} {H : Hp} {s : Shared} {a C dx : Addr} {fs : List (Str × V)} {f : Str} {v : V} {A : Around} {E : Value → Shared → Prop}
end
section
variable {X : Cx} {o e value : Expr} {f : Str} {pos pos' tpos : Pos} {ta tv : TE}
end
section
variable {X : Cx} {pins : List (Addr × Obj)} {σ : St} {H : Hp} {s : Shared} {A : Around} {E : Value → Shared → Prop} {Q : Value → Shared → Prop} {c : Value} {b : Bool}
inductive TyOf (K : PySem.W.Frag) (H : Hp) : V → Value → Prop where
  | non : TyOf K H .non (.type "NoneType")
  | bl (x : Bool) : TyOf K H (.bl x) (.type "bool")
  | int (i : Int) : TyOf K H (.int i) (.type "int")
  | str (x : Str) : TyOf K H (.str x) (.type "str")
  | flt (x : UInt64) : TyOf K H (.flt x) (.type "float")
  | lst {a : Addr} {xs : List V} (e : H a = some (.lst xs)) : TyOf K H (.ref a) (.type "list")
  | frz {a : Addr} {o : Obj} {xs : List V} (e : H a = some (.frz o (.lst xs))) : TyOf K H (.ref a) (.type "list")
  | tup {a : Addr} {xs : List V} (e : H a = some (.tup xs)) : TyOf K H (.ref a) (.type "tuple")
  | dK {a : Addr} {kvs : List (Key × V)} (e : H a = some (.dK kvs)) : TyOf K H (.ref a) (.type "dict")
  | dT {a : Addr} {kvs : List (List Key × V)} (e : H a = some (.dT kvs)) : TyOf K H (.ref a) (.type "dict")
  | ins {a C dx : Addr} {fs : List (Str × V)} (e : H a = some (.ins C dx fs)) (cl : Cls K C) (ha : PySem.W.findIn K (.ref C) "__class__" = some (some (.builtin "object.__class__")))
      (hn : PySem.W.specialIn K (.builtin "object.__class__") "__get__" = some (some (.builtin "getset_descriptor.__get__"))) (htk : PySem.W.takesIn K (.builtin "object.__class__") = some true)
      (hm : PySem.W.mroIn K C (.type "object") = some true) : TyOf K H (.ref a) (.ref C)
theorem isinst_ok {x : V} {u t : Value} (I : Inv X pins σ H s) (rx : RelV x u) (ty : TyOf X.K H x t) (e : PySem.W.kitOne X.K t c = some b) (h : ∀ tk, Q (.bool b) { s with toks := tk }) :
    wpAny (model X.prog X.w) A (call (.builtin "isinstance") [u, c]) Q E s := by
  cases ty with
  | non => cases (show u = Value.none from rx); exact PySem.W.kia_one PySem.W.kitx_none I.kIn True.intro e (fun z => nomatch z) h
  | bl y => cases (show u = Value.bool y from rx); exact PySem.W.kia_one PySem.W.kitx_bool I.kIn True.intro e (fun z => nomatch z) h
  | int i => obtain ⟨t, q⟩ := (show ∃ t, u = Value.int i t from rx); cases q; exact PySem.W.kia_one PySem.W.kitx_int I.kIn True.intro e (fun z => nomatch z) h
  | str y => obtain ⟨t, q⟩ := (show ∃ t, u = Value.str y t from rx); cases q; exact PySem.W.kia_one PySem.W.kitx_str I.kIn True.intro e (fun z => nomatch z) h
  | flt y => obtain ⟨t, q⟩ := (show ∃ t, u = Value.float y t from rx); cases q; exact PySem.W.kia_one PySem.W.kitx_float I.kIn True.intro e (fun z => nomatch z) h
  | @lst a xs ea =>
    cases (show u = Value.ref a from rx)
    obtain ⟨_, _, n, _, h1⟩ := (show ObjOk X.prog X.w H s.heap a (.lst xs) from I.hok a _ ea)
    exact PySem.W.kia_one PySem.W.kitx_list I.kIn ⟨_, h1, rfl⟩ e (fun z => nomatch z) h
  | @frz a ob xs ea =>
    cases (show u = Value.ref a from rx)
    obtain ⟨_, _, _, n, _, h1⟩ := (show ObjOk X.prog X.w H s.heap a (.frz ob (.lst xs)) from I.hok a _ ea)
    exact PySem.W.kia_one PySem.W.kitx_list I.kIn ⟨_, h1, rfl⟩ e (fun z => nomatch z) h
  | @tup a xs ea =>
    cases (show u = Value.ref a from rx)
    obtain ⟨_, _, _, p⟩ := (show ObjOk X.prog X.w H s.heap a (.tup xs) from I.hok a _ ea)
    obtain ⟨o, h1, h2, _⟩ := p
    exact PySem.W.kia_one PySem.W.kitx_tuple I.kIn ⟨o, h1, h2⟩ e (fun z => nomatch z) h
  | @dK a kvs ea =>
    cases (show u = Value.ref a from rx)
    obtain ⟨_, _, vs, _, p⟩ := (show ObjOk X.prog X.w H s.heap a (.dK kvs) from I.hok a _ ea)
    obtain ⟨o, es, ep, h1, h2, _⟩ := p
    exact PySem.W.kia_one PySem.W.kitx_dict I.kIn ⟨o, h1, h2.1⟩ e (fun z => nomatch z) h
  | @dT a kvs ea =>
    cases (show u = Value.ref a from rx)
    obtain ⟨_, _, xs, _, o, es, ep, h1, h2, _⟩ := (show ObjOk X.prog X.w H s.heap a (.dT kvs) from I.hok a _ ea)
    exact PySem.W.kia_one PySem.W.kitx_dict I.kIn ⟨o, h1, h2.1⟩ e (fun z => nomatch z) h
  | @ins a C dx fs ea cl ha hn htk hm =>
    cases (show u = Value.ref a from rx)
    obtain ⟨mA, O, _⟩ := ins_get I.hok ea
    obtain ⟨od, J, _⟩ := O.look
    exact PySem.W.kia_one (PySem.W.kitx_own (cl.get _) cl.hd ha hn htk hm) I.kIn J e (fun z => nomatch z) h
end
end L2
namespace L2
open PySem PySem.Spec PyProof.Rows
structure Room (k : Nat) (A : Around) : Prop where
  hd : A.handled = none
  dp : A.depth + 3 * k + 5 < recursionLimit
  un : A.units + 16 * k + 200 < cLine
theorem Room.mono {j k : Nat} {A : Around} (r : Room k A) (h : j ≤ k) : Room j A := ⟨r.hd, by have := r.dp; omega, by have := r.un; omega⟩
theorem Room.deeper {k : Nat} {A : Around} (r : Room (k + 1) A) (env : Env) : Room k (A.deeper env) :=
  ⟨r.hd, by have := r.dp; show A.depth + 1 + 3 * k + 5 < _; omega, by have := r.un; show A.units + 3 + 16 * k + 200 < _; omega⟩
theorem Room.depth {k : Nat} {A : Around} (r : Room k A) : A.depth < recursionLimit := by have := r.dp; omega
theorem Room.units {k : Nat} {A : Around} (r : Room k A) : A.units + 64 < cLine := by have := r.un; omega
noncomputable def tNil : TA := fun _ H Q => Q [] H
noncomputable def tCons (ta : TE) (tr : TA) : TA := fun σ H Q => ta σ H fun x H1 => tr σ H1 fun xs H2 => Q (x :: xs) H2
section
variable {X : Cx} {e : Expr} {es : List Expr} {te : TE} {t : TA} {pos : Pos}
theorem pa_nil : PA X [] tNil := fun _ _ _ _ H Q I h => Calls.spliced_nil ⟨[], H, I, .nil, h⟩
theorem pa_cons (ha : PE X e te) (hr : PA X es t) (hs : starEach (e :: es) X.env = (false, eval e X.env) :: starEach es X.env := by rfl) : PA X (e :: es) (tCons te t) := by
  intro pos pins s σ H Q I h
  rw [hs]
  show wpAny _ _ (spliced ((false, eval e X.env) :: backTo pos (starEach es X.env))) _ _ s
  refine Calls.spliced_cons (thn (ha pins s σ H _ I h) fun u s1 ⟨x, H1, I1, r1, q1⟩ => ?_)
  exact thn (hr pos pins s1 σ H1 _ I1 q1) fun us s2 ⟨xs, H2, I2, r2, q2⟩ => ⟨x :: xs, H2, I2, .cons r1 r2, q2⟩
noncomputable def tTup (t : TA) : TE := fun σ H Q => t σ H fun xs H1 => xs.length ≤ sizeLine ∧ ∀ p, H1 p = none → Q (.ref p) (upd H1 p (.tup xs))
noncomputable def tLst (t : TA) : TE := fun σ H Q => t σ H fun xs H1 => xs.length ≤ sizeLine ∧ ∀ p, H1 p = none → Q (.ref p) (upd H1 p (.lst xs))
theorem pe_tup {x1} (h : PA X es t) : PE X (.Tuple es x1 pos) (tTup t) := by
  intro pins s σ H Q I hq
  refine wpAny_Tuple_spliced (thn (h pos pins s σ H _ I hq) fun us s1 ⟨xs, H1, I1, r, z, q⟩ => ⟨by rw [← r.length]; exact z, ?_⟩)
  have hf : H1 s1.heap.objs.size = none := I1.hok.fresh (Nat.le_refl _)
  refine ⟨.ref s1.heap.objs.size, upd H1 s1.heap.objs.size (.tup xs), I1.laid (t' := s1.toks) (fun b u e => Heap.get?_push_of_some _ e) (Nat.le_refl _) ?_, rfl, q _ hf⟩
  exact ⟨z, us, r, ⟨_, Heap.get?_push_size _ rfl, rfl, _, rfl⟩⟩
theorem pe_lst (h : PA X es t) : PE X (.List es pos) (tLst t) := by
  intro pins s σ H Q I hq
  refine wpAny_List_spliced (thn (h pos pins s σ H _ I hq) fun us s1 ⟨xs, H1, I1, r, z, q⟩ => ⟨by rw [← r.length]; exact z, ?_⟩)
  have hf : H1 s1.heap.objs.size = none := I1.hok.fresh (Nat.le_refl _)
  refine ⟨.ref s1.heap.objs.size, upd H1 s1.heap.objs.size (.lst xs), I1.laid (t' := s1.toks) (fun b u e => Heap.get?_push_of_some _ e) (Nat.le_refl _) ?_, rfl, q _ hf⟩
  exact ⟨z, us, 0, r, Heap.get?_push_size _ rfl⟩
end
noncomputable abbrev Sp := List V → Hp → VK → XK → Prop
noncomputable abbrev CXT := List Env → Hp → Shared → XK → Value → Shared → Prop
structure Env0 (P : Program) (w : World) (K : PySem.W.Frag) (mg : Str → Option Value) (base : Heap) (A : Around) (outer : List Env) (s : Shared) (H : Hp) : Prop where
  frames : A.frames = some outer
  mod : Mod K mg base
  bs : ∀ b o, base.get? b = some o → s.heap.get? b = some o ∧ H b = none
  bsz : base.objs.size ≤ s.heap.objs.size
  funs : s.heap.FunFrames base outer
  frf : ∀ b ∈ frs outer, H b = none
  hok : HOk P w H s.heap
  bare : AllBare s.gens
noncomputable def CE (outer : List Env) (P : Program) (w : World) (H : Hp) (s : Shared) (Q : VK) (u : Value) (s' : Shared) : Prop :=
  ∃ v H', s'.os = s.os ∧ AllBare s'.gens ∧ Un (frs outer) [] H H' s.heap s'.heap ∧ HOk P w H' s'.heap ∧ RelV v u ∧ Q v H'
noncomputable def CR (CX : CXT) (outer : List Env) (P : Program) (w : World) (H : Hp) (s : Shared) (Q : VK) (E : XK) (r : Result) (s' : Shared) : Prop :=
  match r with
  | .ok (.ret u) => CE outer P w H s Q u s'
  | .ok _ => False
  | .error e => CX outer H s E e s'
structure FnOk (P : Program) (w : World) (K : PySem.W.Frag) (mg : Str → Option Value) (base : Heap) (CX : CXT) (k : Nat) (f : Addr) (fd : FuncData) (ps : List Str) (sp : Sp) : Prop where
  len : ∀ vs H Q E, sp vs H Q E → vs.length = ps.length
  run : ∀ (A : Around) (outer : List Env) (s : Shared) (H : Hp) (args : Args) (us : List Value) (vs : List V) (Q : VK) (E : XK), Room k A → Env0 P w K mg base A outer s H → BindsTo s fd args (ps.zip us) → Vals vs us → sp vs H Q E →
    codeAny (model P w) A (.call (.ref f) args) (CR CX outer P w H s Q E) s
section
variable {X : Cx} {pins : List (Addr × Obj)} {σ : St} {H : Hp} {s s' : Shared}
theorem Inv.env0 (I : Inv X pins σ H s) : Env0 X.prog X.w X.K X.mg X.base X.A X.stack s H :=
  ⟨I.ok.frames, I.ok.mod, I.bs, Nat.le_trans I.ok.bsz I.sz, I.stack, I.stkFree, I.hok, I.bare⟩
theorem Inv.after {Q : VK} {u : Value} (I : Inv X pins σ H s) (h : CE X.stack X.prog X.w H s Q u s') : EP X pins σ Q u s' := by
  obtain ⟨v, H', os, bare, un, hok, r, q⟩ := h
  obtain ⟨hh, g, d, t, os'⟩ := s'
  obtain rfl : os' = s.os := os
  exact ⟨v, H', I.call (h' := hh) (g' := g) (d' := d) (t' := t) (ch := []) un hok bare (fun b z => absurd z (by simp)), r, q⟩
end
noncomputable def tCall (sp : Sp) (dvs : List V) (E : XK) (t : TA) : TE := fun σ H Q => t σ H fun vs H1 => sp (vs ++ dvs) H1 Q E
noncomputable def Binds (K : PySem.W.Frag) (fd : FuncData) (ps : List Str) (ds : List Value) : Prop :=
  ∀ (s : Shared) (us : List Value), K.In s.heap → (us ++ ds).length = ps.length → BindsTo s fd ⟨us, []⟩ (ps.zip (us ++ ds))
theorem Binds.all {K : PySem.W.Frag} {fd : FuncData} {ps : List Str} (h : ∀ us : List Value, us.length = ps.length → bindArgs fd ⟨us, []⟩ = pure (ps.zip us)) : Binds K fd ps [] := fun s us _ hl => by
  rw [List.append_nil] at hl ⊢
  exact .of_eq (h us hl)
noncomputable def Passes (CX : CXT) (X : Cx) (E : XK) : Prop := ∀ (pins : List (Addr × Obj)) (σ : St) (H : Hp) (s : Shared) (e : Value) (s' : Shared), Inv X pins σ H s → CX X.stack H s E e s' → X.xe e s'
section
variable {X : Cx} {CX : CXT} {k : Nat} {f C : Addr} {fd : FuncData} {ps : List Str} {sp : Sp} {dvs : List V} {ds : List Value} {E : XK} {x m : Str} {p pos apos : Pos} {e o : Expr} {es : List Expr} {ta : TE} {t : TA}
theorem run_fn {pins : List (Addr × Obj)} {σ : St} {H : Hp} {s : Shared} {Q : VK} {us : List Value} {vs : List V} (F : FnOk X.prog X.w X.K X.mg X.base CX k f fd ps sp) (hr : Room k X.A) (hb : Binds X.K fd ps ds) (hd : Vals dvs ds) (hx : Passes CX X E)
    (I : Inv X pins σ H s) (r : Vals vs us) (h : sp (vs ++ dvs) H Q E) : wpAny (model X.prog X.w) X.A (call (.ref f) us) (EP X pins σ Q) X.xe s := by
  have r2 : Vals (vs ++ dvs) (us ++ ds) := r.append hd
  have hl : (us ++ ds).length = ps.length := by rw [← r2.length]; exact F.len _ _ _ _ h
  refine wpAny_call (codeAny_mono (F.run X.A X.stack s H ⟨us, []⟩ (us ++ ds) (vs ++ dvs) Q E hr I.env0 (hb s us I.kIn hl) r2 h) fun r s' hq => ?_)
  cases r with
  | error e => exact hx pins σ H s e s' I hq
  | ok fl =>
    cases fl with
    | ret u => exact I.after hq
    | next => exact False.elim hq
    | brk => exact False.elim hq
    | cont => exact False.elim hq
theorem pe_call (F : FnOk X.prog X.w X.K X.mg X.base CX k f fd ps sp) (hr : Room k X.A) (hg : Gl X x) (hm : X.mg x = some (.ref f)) (hk : PySem.W.keepIn X.K (.ref f) = true) (hb : Binds X.K fd ps ds) (hd : Vals dvs ds) (hx : Passes CX X E)
    (ha : PA X (e :: es) t) (hdb : (x == ("__debug__" : Str)) = false := by decide) (he : starEach (e :: es) X.env = (false, eval e X.env) :: starEach es X.env := by rfl) (hpl : (backTo pos (starEach es X.env)).any (·.1) = false := by rfl) :
    PE X (.Call (.Name x p) (e :: es) [] pos) (tCall sp dvs E t) := by
  intro pins s σ H Q I h
  refine wpAny_Call_Name_kw (ld_glob I hg hm ?_ hdb)
  refine PySem.W.callWith_K (h₀ := X.base) I.ok.mod.kin hk (thn (ha pos pins s σ H _ I h) fun us s1 ⟨vs, H1, I1, r, q⟩ => ⟨I1.kIn, ?_⟩) he hpl
  exact run_fn F hr hb hd hx I1 r q
end
section
variable {X : Cx} {CX : CXT} {k : Nat} {f C : Addr} {fd : FuncData} {ps ks : List Str} {sp : Sp} {E : XK} {x m : Str} {p pos apos kpos : Pos} {e o : Expr} {es : List Expr} {kws : List Keyword} {te ta : TE} {t tk : TA} {nm : Option Str}
variable {g : List Value → List Value → List Value} {gV : List V → List V → List V}
end
structure FnScope (N P : List Str) (sc : Scope) : Prop where
  kind : sc.kind = .function
  co : sc.isCoroutine = false
  gen : sc.isGenerator = false
  nd : N.Nodup
  pre : N.take P.length = P
  par : ∀ x ∈ P, sc.names.lookup x = some .local ∨ sc.names.lookup x = some .cell
  nofree : ∀ y ∈ sc.names, y.2 ≠ .free
theorem bindL_out {kindOf : Str → Option NameKind} {x : Str} : ∀ {binds : List (Str × Value)} {m : Str → Option Value}, (∀ v, (x, v) ∉ binds) → bindL kindOf binds m x = m x
  | [], _, _ => rfl
  | (n, v) :: r, m, h => by
    unfold bindL
    rw [bindL_out fun w hw => h w (List.mem_cons_of_mem _ hw)]
    split
    · have : x ≠ n := by rintro rfl; exact h v List.mem_cons_self
      simp [this]
    · rfl
theorem bindC_out {kindOf : Str → Option NameKind} {x : Str} : ∀ {binds : List (Str × Value)} {m : Str → Option Value}, (∀ v, (x, v) ∉ binds) → bindC kindOf binds m x = m x
  | [], _, _ => rfl
  | (n, v) :: r, m, h => by
    unfold bindC
    rw [bindC_out fun w hw => h w (List.mem_cons_of_mem _ hw)]
    split
    · rfl
    · have : x ≠ n := by rintro rfl; exact h v List.mem_cons_self
      simp [this]
theorem bindL_get {kindOf : Str → Option NameKind} {x : Str} {v : Value} : ∀ {P : List Str} {vs : List Value} {i : Nat} {m : Str → Option Value}, P.Nodup → P[i]? = some x → vs[i]? = some v → kindOf x = some .local →
    bindL kindOf (P.zip vs) m x = some v
  | [], _, _, _, _, h, _, _ => by simp at h
  | _ :: _, [], _, _, _, _, h, _ => by simp at h
  | p :: P, w :: vs, 0, m, nd, h1, h2, hk => by
    simp at h1 h2; subst h1; subst h2
    show bindL kindOf ((p, w) :: P.zip vs) m p = _
    unfold bindL
    rw [bindL_out fun v hv => (List.nodup_cons.mp nd).1 (List.of_mem_zip hv).1, if_pos hk]
    simp
  | p :: P, w :: vs, i + 1, m, nd, h1, h2, hk => by
    show bindL kindOf ((p, w) :: P.zip vs) m x = _
    unfold bindL
    exact bindL_get (i := i) (List.nodup_cons.mp nd).2 (by simpa using h1) (by simpa using h2) hk
theorem bindC_get {kindOf : Str → Option NameKind} {x : Str} {v : Value} : ∀ {P : List Str} {vs : List Value} {i : Nat} {m : Str → Option Value}, P.Nodup → P[i]? = some x → vs[i]? = some v → kindOf x ≠ some .local →
    bindC kindOf (P.zip vs) m x = some v
  | [], _, _, _, _, h, _, _ => by simp at h
  | _ :: _, [], _, _, _, _, h, _ => by simp at h
  | p :: P, w :: vs, 0, m, nd, h1, h2, hk => by
    simp at h1 h2; subst h1; subst h2
    show bindC kindOf ((p, w) :: P.zip vs) m p = _
    unfold bindC
    rw [bindC_out fun v hv => (List.nodup_cons.mp nd).1 (List.of_mem_zip hv).1, if_neg hk]
    simp
  | p :: P, w :: vs, i + 1, m, nd, h1, h2, hk => by
    show bindC kindOf ((p, w) :: P.zip vs) m x = _
    unfold bindC
    exact bindC_get (i := i) (List.nodup_cons.mp nd).2 (by simpa using h1) (by simpa using h2) hk
noncomputable def start (N : List Str) (vs : List V) : St := vs.map some ++ List.replicate (N.length - vs.length) none
noncomputable def cxOf (CX : CXT) (P : Program) (w : World) (K : PySem.W.Frag) (mg : Str → Option Value) (base : Heap) (N : List Str) (qual : Str) (scope : Scope) (f : Addr) (cd : Value) (A : Around) (outer : List Env) (s : Shared) (H : Hp) (E : XK) : Cx where
  prog := P
  w := w
  K := K
  mg := mg
  base := base
  A := A.deeper (envOfC qual scope s.heap.objs.size f cd)
  N := N
  s₀ := s
  H₀ := H
  env := envOfC qual scope s.heap.objs.size f cd
  outer := outer
  stack := envOfC qual scope s.heap.objs.size f cd :: outer
  ex := []
  calm := true
  fn := fun _ => true
  pn := []
  xe := fun e s' => wpAny (model P w) (A.deeper (envOfC qual scope s.heap.objs.size f cd)) (leaving (envOfC qual scope s.heap.objs.size f cd) e) (fun _ s'' => CX outer H s E e s'') (fun e' s'' => CX outer H s E e' s'') s'
theorem cell_has {sc : Scope} {n : Nat} {x : Str} (h : sc.names.lookup x = some .cell) : ∃ c, (cellsFrom n sc.names []).lookup x = some c := by
  have q := PySem.W.cellsFrom_some sc.names n [] (.inl h)
  exact Option.isSome_iff_exists.mp q
theorem inv_start {CX : CXT} {P : Program} {w : World} {K : PySem.W.Frag} {mg : Str → Option Value} {base : Heap} {N ps : List Str} {qual : Str} {scope : Scope} {f : Addr} {cd : Value} {A : Around} {outer : List Env} {s s1 : Shared} {H : Hp} {E : XK} {us : List Value} {vs : List V}
    (S : FnScope N ps scope) (hd : A.handled = none) (e0 : Env0 P w K mg base A outer s H) (hl : vs.length = ps.length) (r : Vals vs us)
    (x : InCallC s s.heap.objs.size (bindL (envOfC qual scope s.heap.objs.size f cd).kindOf (ps.zip us) fun _ => none) (cellsFrom (s.heap.objs.size + 1) scope.names []) (bindC (envOfC qual scope s.heap.objs.size f cd).kindOf (ps.zip us) fun _ => none) s1) :
    Inv (cxOf CX P w K mg base N qual scope f cd A outer s H E) [] (start N vs) H s1 := by
  have hpl : ps.length ≤ N.length := by have := congrArg List.length S.pre; rw [List.length_take] at this; omega
  obtain ⟨h1, tk, rfl, hk⟩ := x.done
  have noA : ∀ b : Addr, b ∉ (cxOf CX P w K mg base N qual scope f cd A outer s H E).ex := fun b z => absurd (show b ∈ ([] : List Addr) from z) (by simp)
  refine ⟨⟨e0.mod, S.kind, rfl, rfl, Nat.le_refl _, fun y z c h1 h2 => ?_, fun y hy => ?_, fun y c _ h => ?_, fun _ => hd, Around.frames_deeper e0.frames, .inr ⟨rfl, rfl⟩, fun b z => absurd z (noA b), e0.bs, e0.bsz, fun b _ _ => noA b, fun b z => absurd z (noA b), e0.funs, e0.frf⟩,
    rfl, e0.bare, Un.kept hk, ⟨_, x.toInCall.ns, fun i y v h1 h2 h3 => ?_⟩, fun y c h => ⟨_, x.cell y c h⟩, e0.hok.fresh (Nat.le_refl _), fun y c h => ?_, fun p hp => absurd (show p ∈ ([] : List (Addr × Obj)) from hp) (by simp), e0.hok.kept hk, ?_⟩
  · exact name_of_addr x.apart (PySem.mem_of_lookup h1) (PySem.mem_of_lookup h2)
  · have hy : scope.names.lookup y = some .cell ∨ scope.names.lookup y = some .free := hy
    rcases hy with hy | hy
    · exact cell_has hy
    · exact absurd rfl (S.nofree _ (PySem.mem_of_lookup hy))
  · exact Nat.le_of_lt (x.above y c (PySem.mem_of_lookup h))
  · have hi : i < vs.length := by
      unfold start at h2
      by_cases hi : i < vs.length
      · exact hi
      · rw [List.getElem?_append_right (by simpa using hi)] at h2
        rw [List.getElem?_replicate] at h2
        split at h2 <;> cases h2
    have ha : vs[i]? = some v := by
      unfold start at h2
      rw [List.getElem?_append_left (by simpa using hi), List.getElem?_map] at h2
      cases e : vs[i]? with
      | none => rw [e] at h2; cases h2
      | some a => rw [e] at h2; cases h2; rfl
    obtain ⟨u, hu, rv⟩ := r.get ha
    have hp : ps[i]? = some y := by
      rw [← S.pre, List.getElem?_take_of_lt (by omega)]; exact h1
    have ndP : ps.Nodup := by rw [← S.pre]; exact S.nd.sublist (List.take_sublist _ _)
    refine ⟨u, rv, ?_⟩
    rcases S.par y (List.mem_of_getElem? hp) with k | k
    · exact .inl ⟨k, bindL_get ndP hp hu k⟩
    · obtain ⟨c, e⟩ := cell_has (n := s.heap.objs.size + 1) k
      refine .inr ⟨.inl k, c, e, ?_⟩
      have q := x.cell y c e
      rw [bindC_get ndP hp hu (by show scope.names.lookup y ≠ _; rw [k]; decide)] at q
      exact q
  · exact e0.hok.fresh (Nat.le_of_lt (x.above y c (PySem.mem_of_lookup h)))
  · unfold start
    show _ = N.length
    rw [List.length_append, List.length_map, List.length_replicate]
    omega
theorem fn_of {CX : CXT} {P : Program} {w : World} {K : PySem.W.Frag} {mg : Str → Option Value} {base : Heap} {k : Nat} {f : Addr} {name qual : Str} {params : Arguments} {body : List Stmt} {scope : Scope} {dV kV doc pm cdv ct oc : Value} {an od : Option Addr}
    {osl : Array (Option Value)} {N ps : List Str} {sp : Sp} (lk : K.lookup f = some ⟨oc, od, .func (PySem.W.fnOf name qual params body scope dV kV doc pm an cdv ct), osl⟩) (hcd : PySem.W.codeIn K cdv qual = true) (S : FnScope N ps scope)
    (len : ∀ vs H Q E, sp vs H Q E → vs.length = ps.length)
    (hbody : ∀ (A : Around) (outer : List Env) (s : Shared) (H : Hp) (vs : List V) (Q : VK) (E : XK), Room k (A.deeper (envOfC qual scope s.heap.objs.size f cdv)) → sp vs H Q E →
      ∃ t, PSs (cxOf CX P w K mg base N qual scope f cdv A outer s H E) body t ∧ t { nx := fun _ H' => Q .non H', rt := Q } (start N vs) H) :
    FnOk P w K mg base CX (k + 1) f (PySem.W.fnOf name qual params body scope dV kV doc pm an cdv ct) ps sp := by
  refine ⟨len, fun A outer s H args us vs Q E hr e0 hb r hsp => ?_⟩
  have hl := len _ _ _ _ hsp
  have KX : K.In s.heap := e0.mod.kin.keeps fun b o e => (e0.bs b o e).1
  have lim : s.heap.NoLimit := e0.mod.nolimit.keeps fun b o e => (e0.bs b o e).1
  have hkind : ∀ y ∈ ps.zip us, scope.names.lookup y.1 = some .local ∨ (scope.names.lookup y.1 = some .cell ∧ ((cellsFrom (s.heap.objs.size + 1) scope.names []).lookup y.1).isSome = true) := fun ⟨n, v⟩ hy => by
    rcases S.par n (List.of_mem_zip hy).1 with q | q
    · exact .inl q
    · exact .inr ⟨q, PySem.W.cellsFrom_some _ _ _ (.inl q)⟩
  refine codeAny_call_function hr.depth (KX _ _ lk) rfl S.co S.gen rfl (PySem.W.codeRec_of KX hcd) (hb _ _ _ _ ?_)
  refine wpAny_newFunctionEnv_cells S.kind hkind fun env he s1 x => ?_
  subst he
  refine ⟨lim.keeps x.toInCall.keep, codeAny_func ?_⟩
  obtain ⟨t, ht, hq⟩ := hbody A outer s H vs Q E (hr.deeper _) hsp
  have I : Inv (cxOf CX P w K mg base N qual scope f cdv A outer s H E) [] (start N vs) H s1 := inv_start S hr.hd e0 hl r x
  refine wpAny_mono (ht [] s1 (start N vs) H _ I hq) (fun fl s' hs => ?_) fun e s' hs => hs
  have fin : ∀ {σ' : St} {H' : Hp} {v : V} {u : Value}, Inv (cxOf CX P w K mg base N qual scope f cdv A outer s H E) [] σ' H' s' → RelV v u → Q v H' → CE outer P w H s Q u s' :=
    fun {σ' H' v u} J rv q => ⟨v, H', J.os, J.bare, J.base, J.hok, rv, q⟩
  cases fl with
  | ret u =>
    obtain ⟨v, σ', H', J, rv, q⟩ := hs
    exact fin J rv q
  | next =>
    obtain ⟨σ', H', J, q⟩ := hs
    exact fin (v := V.non) (u := Value.none) J rfl q
  | brk =>
    obtain ⟨_, _, _, q⟩ := hs
    exact False.elim q
  | cont =>
    obtain ⟨_, _, _, q⟩ := hs
    exact False.elim q
end L2
namespace L2
open PySem PySem.Spec PyProof.Rows
section
variable {X : Cx} {x : Str} {p pos : Pos} {e : Expr} {es : List Expr} {t : TA} {id T : String} {r : List V → Hp → VK → Prop}
noncomputable def tCB (r : List V → Hp → VK → Prop) (t : TA) : TE := fun σ H Q => t σ H fun vs H1 => r vs H1 Q
theorem pe_callB (hc : CallR X (.builtin id) r) (hg : Gl X x) (hm : X.mg x = none) (hv : bootBuiltins x = some (.builtin id)) (ha : PA X (e :: es) t) (hn : x ≠ "__name__" := by decide) (hdb : (x == ("__debug__" : Str)) = false := by decide)
    (he : starEach (e :: es) X.env = (false, eval e X.env) :: starEach es X.env := by rfl) (hpl : (backTo pos (starEach es X.env)).any (·.1) = false := by rfl) : PE X (.Call (.Name x p) (e :: es) [] pos) (tCB r t) := by
  intro pins s σ H Q I h
  refine wpAny_Call_Name_kw (ld_blt I hg hm hv ?_ hn hdb)
  exact PyProof.Rows.callWith_builtin1 (thn (ha pos pins s σ H _ I h) fun us s1 ⟨vs, H1, I1, r1, q1⟩ => hc pins s1 σ H1 vs us Q I1 r1 q1) he hpl
theorem pe_callTy (hc : CallR X (.type T) r) (hg : Gl X x) (hm : X.mg x = none) (hv : bootBuiltins x = some (.type T)) (ha : PA X (e :: es) t) (hn : x ≠ "__name__" := by decide) (hdb : (x == ("__debug__" : Str)) = false := by decide)
    (he : starEach (e :: es) X.env = (false, eval e X.env) :: starEach es X.env := by rfl) (hpl : (backTo pos (starEach es X.env)).any (·.1) = false := by rfl) : PE X (.Call (.Name x p) (e :: es) [] pos) (tCB r t) := by
  intro pins s σ H Q I h
  refine wpAny_Call_Name_kw (ld_blt I hg hm hv ?_ hn hdb)
  exact PyProof.Rows.callWith_type1 (thn (ha pos pins s σ H _ I h) fun us s1 ⟨vs, H1, I1, r1, q1⟩ => hc pins s1 σ H1 vs us Q I1 r1 q1) he hpl
end
end L2
namespace HT
open PySem PyProof.Rows
section
open PySem.SeqAt
open PySem.AutoSeq1 (wpAny_loadPart')
open PySem.MeetsSeq PySem.MeetsSeq2 PySem.MeetsSeq3
end
section
variable {prog : Program} {w : World} {A : Around} {E : Value → Shared → Prop} {s : Shared}
theorem cat_tup {t b : Addr} {vs ws : List Value} {Q : Value → Shared → Prop} (ht : IsTup s.heap t vs.toArray) (hb : IsTup s.heap b ws.toArray) (hv : vs ≠ [])
    (h1 : ws = [] → Q (.ref t) s) (h2 : ws ≠ [] → Q (.ref s.heap.objs.size) { s with heap := s.heap.push { cls := .type "tuple", data := .seq (vs ++ ws).toArray } })
    (hsz : vs.length + ws.length ≤ sizeLine) : wpAny (model prog w) A (binaryOp .Add (.ref t) (.ref b)) Q E s := by
  obtain ⟨⟨cls, dd, data, sl⟩, ho, hc, n, hd⟩ := id ht
  obtain ⟨⟨cls2, dd2, data2, sl2⟩, ho2, hc2, n2, hd2⟩ := id hb
  simp only at hc hd hc2 hd2
  subst hc hd hc2 hd2
  have e : vs.toArray ++ ws.toArray = (vs ++ ws).toArray := by simp
  by_cases hw : ws = []
  · exact concat_meets ⟨_, ho, rfl⟩ ⟨_, ho2, rfl⟩ noFill_tuple_add seq_tuple_add PySem.F.slot_tuple_add PySem.F.entry_tuple_add (PySem.F.args_tuple_add_2 _ _)
      (tuple_addW1 t b vs.toArray ws.toArray n n2 dd dd2 sl sl2 (by simpa using hv) (by simp [hw])) ⟨ho, ho2, h1 hw⟩
  · refine concat_meets ⟨_, ho, rfl⟩ ⟨_, ho2, rfl⟩ noFill_tuple_add seq_tuple_add PySem.F.slot_tuple_add PySem.F.entry_tuple_add (PySem.F.args_tuple_add_2 _ _)
      (tuple_addW2 t b vs.toArray ws.toArray n n2 dd dd2 sl sl2 (by simpa using hv) (by simpa using hw) (by rw [List.size_toArray, List.size_toArray]; exact hsz)) ⟨ho, ho2, ?_⟩
    rw [e]
    exact h2 hw
noncomputable def sIx (n d : Nat) : Option Int → Nat
  | none => d
  | some v => if v < 0 then (v + (n : Int)).toNat else min v.toNat n
theorem sIx_le (n d : Nat) (hd : d ≤ n) (o : Option Int) : sIx n d o ≤ n := by
  cases o with
  | none => exact hd
  | some v =>
    show (if v < 0 then (v + (n : Int)).toNat else min v.toNat n) ≤ n
    by_cases hv : v < 0
    · rw [if_pos hv]; omega
    · rw [if_neg hv]; exact Nat.min_le_right _ _
theorem clip_eq (v : Int) (n d : Nat) : (if v < 0 then max (v + (n : Int)) 0 else min v (n : Int)) = ((sIx n d (some v) : Nat) : Int) := by
  show (if v < 0 then max (v + (n : Int)) 0 else min v (n : Int)) = (((if v < 0 then (v + (n : Int)).toNat else min v.toNat n) : Nat) : Int)
  by_cases hv : v < 0
  · simp only [if_pos hv]; omega
  · simp only [if_neg hv]; omega
theorem adjust_gen (lo hi : Option Int) (n : Nat) : Builtin.Slice.sliceAdjust lo hi 1 (n : Int) = (((sIx n 0 lo : Nat) : Int), ((sIx n n hi : Nat) : Int)) := by
  have h1 : ¬ ((1 : Int) < 0) := by omega
  unfold Builtin.Slice.sliceAdjust
  simp only [h1, if_false]
  refine Prod.ext ?_ ?_
  · cases lo with
    | none => rfl
    | some v => exact clip_eq v n 0
  · cases hi with
    | none => rfl
    | some v => exact clip_eq v n n
theorem places_gen (i j : Nat) : Builtin.Slice.slicePlaces (i : Int) (j : Int) 1 = j - i := by
  unfold Builtin.Slice.slicePlaces
  have h1 : (1 : Int) > 0 := by omega
  simp only [h1, if_true, Int.ediv_one]
  split <;> omega
theorem slicePart_ {v : Value} {o : Option Int} {Q : Option Int → Shared → Prop} (p : IsPart v o) (h : Q o s) : wpAny (model prog w) A (Builtin.Slice.slicePartIndex v) Q E s := by
  cases p with
  | none => exact slicePart_none h
  | int i t => exact slicePart_int h
theorem sliceApplied_gen {sl : Addr} {vl vu : Value} {lo hi : Option Int} {n : Nat} {Q : Int × Int × Nat → Shared → Prop} (hs : s.heap.IsSliceOf sl vl vu .none) (pl : IsPart vl lo) (pu : IsPart vu hi)
    (h : Q (((sIx n 0 lo : Nat) : Int), 1, sIx n n hi - sIx n 0 lo) s) : wpAny (model prog w) A (Builtin.Slice.sliceApplied (.ref sl) (pure (n : Int))) Q E s := by
  obtain ⟨os, hos, hcs, hds⟩ := id hs
  unfold Builtin.Slice.sliceApplied Builtin.Slice.sliceFields
  refine wpAny_bind (wpAny_bind (wpAny_field hos hds (x := vl) rfl (wpAny_bind (wpAny_field hos hds (x := vu) rfl (wpAny_bind (wpAny_field hos hds (x := .none) rfl (wpAny_pure ?_)))))))
  refine wpAny_bind (slicePart_none ?_)
  show wpAny _ _ (if ((1 : Int) == 0) = true then _ else _) _ _ s
  rw [if_neg (by decide)]
  refine wpAny_bind (slicePart_ pl (wpAny_bind (slicePart_ pu (wpAny_bind (wpAny_pure ?_)))))
  show wpAny _ _ (match Builtin.Slice.sliceAdjust lo hi 1 (n : Int) with | (lo, hi) => pure (lo, (1 : Int), Builtin.Slice.slicePlaces lo hi 1)) _ _ s
  rw [adjust_gen lo hi n]
  show wpAny _ _ (pure (((sIx n 0 lo : Nat) : Int), (1 : Int), Builtin.Slice.slicePlaces ((sIx n 0 lo : Nat) : Int) ((sIx n n hi : Nat) : Int) 1)) _ _ s
  rw [places_gen]
  exact wpAny_pure h
theorem pick_gen (xs : Array Value) (i k : Nat) : ((List.range k).filterMap fun (m : Nat) => xs[((i : Int) + (m : Int) * 1).toNat]?).toArray = ((xs.toList.drop i).take k).toArray := by
  have e : (fun (m : Nat) => xs[((i : Int) + (m : Int) * 1).toNat]?) = fun m => xs[i + m]? := by
    funext m
    have : ((i : Int) + (m : Int) * 1).toNat = i + m := by omega
    rw [this]
  rw [e]
  have := pick_run xs i k
  rw [List.filterMap_map] at this
  have e2 : ((fun x => xs[x]?) ∘ fun x => i + x) = fun m => xs[i + m]? := rfl
  rw [e2] at this
  rw [this]
theorem getItem_tuple_cut {t sl : Addr} {items : Array Value} {vl vu : Value} {lo hi : Option Int} {Q : Value → Shared → Prop} (ht : IsTup s.heap t items) (hs : s.heap.IsSliceOf sl vl vu .none) (pl : IsPart vl lo) (pu : IsPart vu hi)
    (hw : ¬ (sIx items.size 0 lo = 0 ∧ sIx items.size items.size hi = items.size))
    (h : Q (.ref s.heap.objs.size) { s with heap := s.heap.push { cls := .type "tuple", data := .seq ((items.toList.drop (sIx items.size 0 lo)).take (sIx items.size items.size hi - sIx items.size 0 lo)).toArray } })
    (hsz : items.size ≤ sizeLine) : wpAny (model prog w) A (getItem (.ref t) (.ref sl)) Q E s := by
  have htake : sizeOk (.seq ((items.toList.drop (sIx items.size 0 lo)).take (sIx items.size items.size hi - sIx items.size 0 lo)).toArray) := by
    show ((items.toList.drop (sIx items.size 0 lo)).take (sIx items.size items.size hi - sIx items.size 0 lo)).toArray.size ≤ sizeLine
    rw [List.size_toArray, List.length_take, List.length_drop, Array.length_toList]
    omega
  have hj : sIx items.size items.size hi ≤ items.size := sIx_le _ _ (Nat.le_refl _) hi
  obtain ⟨os, hos, hcs, hds⟩ := id hs
  have hTs : s.TypeIs (.ref sl) "slice" := ⟨os, hos, hcs⟩
  unfold getItem
  try with_reducible refine wpAny_holding ?_
  first | refine wpAny_bind (wpAny_pure ?_) | skip
  refine wpAny_bind (wpAny_sequenceKey ht.typeIs (by decide) ?_)
  refine wpAny_bind (wpAny_callSpecial?_slot (name := Str.ofString "__getitem__") ht.typeIs PyProof.Rows.slot_tuple_getitem
    (wpAny_call_entry PyProof.Rows.slot_tuple_getitem ht.typeIs entry_tuple_getitem ?_ (args_tuple_getitem _ _)))
  show wpAny _ _ (Builtin.Tuple.tupleItemsOf (.ref t) >>= _) _ _ s
  refine wpAny_bind (tupleItemsOf_ ht ?_)
  refine wpAny_bind (wpAny_typeOf hTs ?_)
  rw [if_pos (by decide)]
  refine wpAny_bind (sliceApplied_gen hs pl pu ?_)
  have hno : ¬ ((((sIx items.size 0 lo : Nat) : Int) == 0 && (1 : Int) == 1 && (sIx items.size items.size hi - sIx items.size 0 lo) == items.size) = true) := by
    intro q
    rw [Bool.and_eq_true, Bool.and_eq_true] at q
    have q1 : ((sIx items.size 0 lo : Nat) : Int) = 0 := eq_of_beq q.1.1
    have q2 : sIx items.size items.size hi - sIx items.size 0 lo = items.size := eq_of_beq q.2
    exact hw ⟨by omega, by omega⟩
  show wpAny _ _ (if (((sIx items.size 0 lo : Nat) : Int) == 0 && (1 : Int) == 1 && (sIx items.size items.size hi - sIx items.size 0 lo) == items.size) = true then _ else _) _ _ s
  rw [if_neg hno, pick_gen]
  first
    | exact wpAny_bind (m := Builtin.Tuple.tupleExact _) (wpAny_newObj_type (wpAny_pure ⟨_, rfl, wpAny_pure h⟩) htake)
    | exact wpAny_bind (m := Builtin.Tuple.tupleExact _) (wpAny_newObj_type (wpAny_bind (wpAny_pure (wpAny_pure ⟨_, rfl, wpAny_pure h⟩))) htake)
    | exact wpAny_bind (wpAny_bind (m := Builtin.Tuple.tupleExact _) (wpAny_newObj_type (wpAny_pure (wpAny_pure ⟨_, rfl, wpAny_pure h⟩)) htake))
    | exact wpAny_bind (wpAny_bind (m := Builtin.Tuple.tupleExact _) (wpAny_newObj_type (wpAny_pure ⟨_, rfl, wpAny_pure h⟩) htake))
end
end HT
namespace L2
open PySem PySem.Spec PyProof.Rows
noncomputable abbrev TO := St → Hp → (Option Int → Hp → Prop) → Prop
noncomputable def PO (X : Cx) (e : Option Expr) (t : TO) : Prop :=
  ∀ (pins : List (Addr × Obj)) (s : Shared) (σ : St) (H : Hp) (Q : Option Int → Hp → Prop), Inv X pins σ H s → t σ H Q →
    wpAny (model X.prog X.w) X.A (evalPart e X.env) (fun u s' => ∃ o H', Inv X pins σ H' s' ∧ IsPart u o ∧ Q o H') X.xe s
noncomputable def tNoPart : TO := fun _ H Q => Q none H
noncomputable def tPart (t : TE) : TO := fun σ H Q => t σ H fun x H1 => ∃ i, x = .int i ∧ Q (some i) H1
theorem intsAre_of {ns : List Int} : ∀ {us : List Value}, Vals (ns.map V.int) us → IntsAre us ns := by
  induction ns with
  | nil => intro us r; rw [List.map_nil] at r; cases r; exact .nil
  | cons n ns ih =>
    intro us r
    rw [List.map_cons] at r
    cases r with
    | cons r1 r2 =>
      obtain ⟨t, e⟩ := r1
      subst e
      exact .cons n t (ih r2)
section
variable {X : Cx} {e : Expr} {te : TE} {lo hi : Option Expr} {tl th : TO} {pos p2 : Pos}
theorem po_none : PO X none tNoPart := by
  intro pins s σ H Q I h
  rw [evalPart_none]
  exact wpAny_pure ⟨none, H, I, .none, h⟩
theorem po_some (h : PE X e te) : PO X (some e) (tPart te) := by
  intro pins s σ H Q I hw
  rw [evalPart_some]
  refine thn (h pins s σ H _ I hw) fun u s1 ⟨x, H1, I1, r1, q1⟩ => ?_
  obtain ⟨i, rfl, q⟩ := q1
  obtain ⟨t, rfl⟩ := r1
  exact ⟨some i, H1, I1, .int i t, q⟩
noncomputable def SlR (X : Cx) (r : V → Option Int → Option Int → Hp → VK → Prop) : Prop :=
  ∀ (pins : List (Addr × Obj)) (s : Shared) (σ : St) (H : Hp) (x : V) (v vl vu : Value) (lo hi : Option Int) (sl : Addr) (Q : VK), Inv X pins σ H s → RelV x v → s.heap.IsSliceOf sl vl vu .none → IsPart vl lo → IsPart vu hi → r x lo hi H Q →
    ∃ T id, typeLookup (.type T) "__getitem__" = pure (some (.builtin id)) ∧ s.TypeIs v T ∧ wpAny (model X.prog X.w) X.A (getItem v (.ref sl)) (EP X pins σ Q) X.xe s
theorem SlR.or {r r' : V → Option Int → Option Int → Hp → VK → Prop} (h : SlR X r) (h' : SlR X r') : SlR X (fun x lo hi H Q => r x lo hi H Q ∨ r' x lo hi H Q) := by
  intro pins s σ H x v vl vu lo hi sl Q I rx hs pl pu q
  rcases q with q | q
  · exact h pins s σ H x v vl vu lo hi sl Q I rx hs pl pu q
  · exact h' pins s σ H x v vl vu lo hi sl Q I rx hs pl pu q
noncomputable def tSl (r : V → Option Int → Option Int → Hp → VK → Prop) (te : TE) (tl th : TO) : TE := fun σ H Q => te σ H fun x H1 => tl σ H1 fun l H2 => th σ H2 fun u H3 => r x l u H3 Q
theorem pe_slice {r : V → Option Int → Option Int → Hp → VK → Prop} (hr : SlR X r) (he : PE X e te) (hl : PO X lo tl) (hu : PO X hi th) : PE X (.Subscript e (.Slice lo hi none p2) pos) (tSl r te tl th) := by
  intro pins s σ H Q I h
  refine Subscript_ (thn (he pins s σ H _ I h) fun v s1 ⟨x, H1, I1, r1, q1⟩ => ?_)
  refine wpAny_Slice (thn (hl pins s1 σ H1 _ I1 q1) fun vl s2 ⟨l, H2, I2, pl, q2⟩ => thn (hu pins s2 σ H2 _ I2 q2) fun vu s3 ⟨u, H3, I3, pu, q3⟩ => ?_)
  rw [evalPart_none]
  refine wpAny_pure ?_
  have I4 : Inv X pins σ H3 { s3 with heap := s3.heap.push { cls := .type "slice", data := .fields #[vl, vu, .none] } } := I3.kept (t' := s3.toks) fun b ob q => Heap.get?_push_of_some _ q
  obtain ⟨T, id, hT, ht, hg⟩ := hr pins { s3 with heap := s3.heap.push { cls := .type "slice", data := .fields #[vl, vu, .none] } } σ H3 x v vl vu l u s3.heap.objs.size Q I4 r1 (Heap.IsSliceOf.new ..) pl pu q3
  show wpAny (model X.prog X.w) X.A (subscriptTail e (.Slice lo hi none p2) v (.ref s3.heap.objs.size)) (EP X pins σ Q) X.xe { s3 with heap := s3.heap.push { cls := .type "slice", data := .fields #[vl, vu, .none] } }
  exact tail_any (ops := [.ref s3.heap.objs.size, v]) ht hT hg (by with_unfolding_all rfl)
noncomputable def cutV (xs : List V) (lo hi : Option Int) : List V := (xs.drop (HT.sIx xs.length 0 lo)).take (HT.sIx xs.length xs.length hi - HT.sIx xs.length 0 lo)
theorem cutV_length (xs : List V) (lo hi : Option Int) : (cutV xs lo hi).length ≤ xs.length := by
  unfold cutV
  rw [List.length_take, List.length_drop]
  omega
noncomputable def rSlT (K : PySem.W.Frag) : V → Option Int → Option Int → Hp → VK → Prop := fun x lo hi H Q => ∃ a xs, x = .ref a ∧ SqT K H a xs ∧
  ¬ (HT.sIx xs.length 0 lo = 0 ∧ HT.sIx xs.length xs.length hi = xs.length) ∧ ∀ p, H p = none → Q (.ref p) (upd H p (.tup (cutV xs lo hi)))
theorem sl_tup : SlR X (rSlT X.K) := by
  intro pins s σ H x v vl vu lo hi sl Q I rx hs pl pu h
  obtain ⟨a, xs, rfl, hx, hw, q⟩ := h
  cases rx
  obtain ⟨its, r, ht, hz⟩ := I.tuple hx
  have hlen : its.toArray.size = xs.length := by rw [List.size_toArray]; exact r.length.symm
  refine ⟨"tuple", _, PyProof.Rows.slot_tuple_getitem.lookup, ht.typeIs, ?_⟩
  refine HT.getItem_tuple_cut ht hs pl pu (by rw [hlen]; exact hw) ?_ (by rw [hlen]; exact hz)
  rw [hlen]
  refine ⟨.ref s.heap.objs.size, _, I.laid (t' := s.toks) (o := .tup (cutV xs lo hi)) (fun b ob q => Heap.get?_push_of_some _ q) (Nat.le_refl _) ?_, rfl, q _ (I.hok.fresh (Nat.le_refl _))⟩
  exact ⟨Nat.le_trans (cutV_length xs lo hi) hz, _, (r.drop (HT.sIx xs.length 0 lo)).take (HT.sIx xs.length xs.length hi - HT.sIx xs.length 0 lo), IsTup.new _ _⟩
noncomputable def rCatT (K : PySem.W.Frag) : R2 := fun x y H Q => ∃ a b xs ys, x = .ref a ∧ y = .ref b ∧ SqT K H a xs ∧ SqT K H b ys ∧ xs ≠ [] ∧ xs.length + ys.length ≤ sizeLine ∧
  (ys = [] → Q (.ref a) H) ∧ (ys ≠ [] → ∀ p, H p = none → Q (.ref p) (upd H p (.tup (xs ++ ys))))
theorem Vals.nil_iff {xs : List V} {us : List Value} (r : Vals xs us) : us = [] ↔ xs = [] := by
  cases r with
  | nil => simp
  | cons _ _ => simp
theorem op_catT : OpR X (binaryOp .Add) (rCatT X.K) := by
  intro pins s σ H x y v u Q I rx ry h
  obtain ⟨a, b, xs, ys, rfl, rfl, ha, hb, hx, hz, q1, q2⟩ := h
  cases rx
  cases ry
  obtain ⟨its, r1, p1, _⟩ := I.tuple ha
  obtain ⟨its2, r2, p2, _⟩ := I.tuple hb
  refine HT.cat_tup p1 p2 (fun z => hx (r1.nil_iff.mp z)) (fun z => ⟨.ref a, H, I, rfl, q1 (r2.nil_iff.mp z)⟩) (fun z => ?_) (by rw [← r1.length, ← r2.length]; exact hz)
  refine ⟨.ref s.heap.objs.size, _, I.laid (t' := s.toks) (o := .tup (xs ++ ys)) (fun b ob q => Heap.get?_push_of_some _ q) (Nat.le_refl _) ?_, rfl, q2 (fun w => z (r2.nil_iff.mpr w)) _ (I.hok.fresh (Nat.le_refl _))⟩
  exact ⟨by rw [List.length_append]; exact hz, _, r1.append r2, IsTup.new _ _⟩
end
end L2
namespace L2
open PySem PySem.Spec PyProof.Rows
noncomputable def ixN (n : Nat) (i : Int) : Option Nat := if 0 ≤ i then (if i < n then some i.toNat else none) else if -(n : Int) ≤ i then some (i + n).toNat else none
noncomputable def atI {α : Type} (xs : List α) (i : Int) : Option α := (ixN xs.length i).bind fun j => xs[j]?
theorem ixN_seq {n : Nat} {i : Int} {j : Nat} (h : ixN n i = some j) : seqIndex? i n = some j ∧ j < n ∧ -(n : Int) ≤ i ∧ i < n := by
  unfold ixN at h
  by_cases h0 : 0 ≤ i
  · rw [if_pos h0] at h
    by_cases h1 : i < n
    · rw [if_pos h1] at h
      have e : i.toNat = j := Option.some.inj h
      exact ⟨by rw [seqIndex_of h0 h1, e], by omega, by omega, h1⟩
    · rw [if_neg h1] at h; cases h
  · rw [if_neg h0] at h
    by_cases h1 : -(n : Int) ≤ i
    · rw [if_pos h1] at h
      have e : (i + n).toNat = j := Option.some.inj h
      exact ⟨by rw [seqIndex_neg (by omega) h1, e], by omega, h1, by omega⟩
    · rw [if_neg h1] at h; cases h
theorem atI_get {α : Type} {xs : List α} {i : Int} {v : α} (h : atI xs i = some v) : ∃ j, seqIndex? i xs.length = some j ∧ xs[j]? = some v ∧ j < xs.length ∧ -(xs.length : Int) ≤ i ∧ i < xs.length := by
  unfold atI at h
  cases e : ixN xs.length i with
  | none => rw [e] at h; cases h
  | some j =>
    rw [e] at h
    obtain ⟨h1, h2, h3, h4⟩ := ixN_seq e
    exact ⟨j, h1, h, h2, h3, h4⟩
noncomputable def PlainIx (b : Expr) : Prop := ∀ o i, subscripted b false o i = operate [o, i] (getItem o i)
noncomputable def IxR (X : Cx) (r : R2) : Prop :=
  ∀ (value slice : Expr) (pins : List (Addr × Obj)) (s : Shared) (σ : St) (H : Hp) (x y : V) (v u : Value) (Q : VK), Inv X pins σ H s → RelV x v → RelV y u → r x y H Q →
    subscripted slice false v u = operate [v, u] (getItem v u) → wpAny (model X.prog X.w) X.A (subscriptTail value slice v u) (EP X pins σ Q) X.xe s
noncomputable def MtR (X : Cx) (id : String) (r : V → List V → Hp → VK → Prop) : Prop :=
  ∀ (pins : List (Addr × Obj)) (s : Shared) (σ : St) (H : Hp) (x : V) (xs : List V) (v : Value) (us : List Value) (Q : VK), Inv X pins σ H s → RelV x v → Vals xs us → r x xs H Q →
    wpAny (model X.prog X.w) X.A (call (.builtin id) (v :: us)) (EP X pins σ Q) X.xe s
section
variable {X : Cx} {a b : Expr} {ta tb : TE} {pos : Pos}
theorem IxR.or {r r' : R2} (h : IxR X r) (h' : IxR X r') : IxR X (fun x y H Q => r x y H Q ∨ r' x y H Q) := by
  intro value slice pins s σ H x y v u Q I rx ry q hs
  rcases q with q | q
  · exact h value slice pins s σ H x y v u Q I rx ry q hs
  · exact h' value slice pins s σ H x y v u Q I rx ry q hs
theorem pe_ix {r : R2} (hr : IxR X r) (ha : PE X a ta) (hb : PE X b tb) (hs : PlainIx b) : PE X (.Subscript a b pos) (tOp r ta tb) := by
  intro pins s σ H Q I h
  exact Subscript_ (binT ha hb I h fun v u s2 x y H2 I2 rx ry q => hr a b pins s2 σ H2 x y v u Q I2 rx ry q (hs _ _))
noncomputable def rIxL (K : PySem.W.Frag) : R2 := fun x y H Q => ∃ p xs i v, x = .ref p ∧ y = .int i ∧ SqL K H p xs ∧ atI xs i = some v ∧ Q v H
noncomputable def rIxT (K : PySem.W.Frag) : R2 := fun x y H Q => ∃ p xs i v, x = .ref p ∧ y = .int i ∧ SqT K H p xs ∧ atI xs i = some v ∧ Q v H
noncomputable def rIxS : R2 := fun x y H Q => ∃ z i c, x = .str z ∧ y = .int i ∧ z.length ≤ sizeLine ∧ atI z.cps.toList i = some c ∧ Q (.str ⟨#[c]⟩) H
theorem ix_list : IxR X (rIxL X.K) := by
  intro value slice pins s σ H x y v u Q I rx ry h hs
  obtain ⟨p, xs, i, z, rfl, rfl, hq, he, q⟩ := h
  cases rx
  obtain ⟨t, rfl⟩ := ry
  obtain ⟨its, r, pl, hz⟩ := I.list hq
  obtain ⟨j, h1, h2, h3, h4, h5⟩ := atI_get he
  obtain ⟨w, ew, rw'⟩ := r.get h2
  have hl := r.length
  have hn := line63
  have fin : EP X pins σ Q w s := ⟨z, H, I, rw', q⟩
  by_cases h0 : 0 ≤ i
  · have hj : i.toNat = j := by
      rw [seqIndex_of h0 h5] at h1
      exact Option.some.inj h1
    exact item_listR pl.isList h0 (by omega) (by rw [hj]; simpa using ew) fin hs
  · have hj : (i + (its.toArray.size : Int)).toNat = j := by
      rw [seqIndex_neg (by omega) h4] at h1
      rw [List.size_toArray, ← hl]
      exact Option.some.inj h1
    exact subscriptTail_builtinR (x := w) pl.isList.typeIs slot_list_getitem.lookup
      (wpAny_getItem_list_neg (Q := fun r s' => r = w ∧ EP X pins σ Q r s') pl.isList (by omega) (by rw [List.size_toArray] <;> omega) (by omega) (by rw [hj]; simpa using ew) ⟨rfl, fin⟩) hs
theorem ix_tup : IxR X (rIxT X.K) := by
  intro value slice pins s σ H x y v u Q I rx ry h hs
  obtain ⟨p, xs, i, z, rfl, rfl, hq, he, q⟩ := h
  cases rx
  obtain ⟨t, rfl⟩ := ry
  obtain ⟨its, r, pl, hz⟩ := I.tuple hq
  obtain ⟨j, h1, h2, h3, h4, h5⟩ := atI_get he
  obtain ⟨w, ew, rw'⟩ := r.get h2
  have hl := r.length
  have hn := line63
  have fin : EP X pins σ Q w s := ⟨z, H, I, rw', q⟩
  exact subscriptTail_builtinR (x := w) pl.typeIs slot_tuple_getitem.lookup
    (getItem_tuple (j := j) (Q := fun r s' => r = w ∧ EP X pins σ Q r s') pl (by omega) (by omega) (by rw [List.size_toArray, ← hl]; exact h1) (by simpa using ew) ⟨rfl, fin⟩) hs
theorem ix_str : IxR X rIxS := by
  intro value slice pins s σ H x y v u Q I rx ry h hs
  obtain ⟨z, i, c, rfl, rfl, hz, he, q⟩ := h
  obtain ⟨t, rfl⟩ := rx
  obtain ⟨t', rfl⟩ := ry
  obtain ⟨j, h1, h2, h3, h4, h5⟩ := atI_get he
  have hl : z.cps.toList.length = z.length := by simp [Str.length]
  rw [hl] at h1 h4 h5
  have hn := line63
  exact tail_any (typeIs_str s z t) slot_str_getitem.lookup (getItem_str (c := c) (by
    have e1 : decide (i < -(2 ^ 63 : Int)) = false := decide_eq_false (by omega)
    have e2 : decide (i ≥ 2 ^ 63) = false := decide_eq_false (by omega)
    rw [e1, e2, Bool.or_false]) (by rw [h1]; simpa using h2) ⟨.str ⟨#[c]⟩, H, I.tok _, ⟨_, rfl⟩, q⟩) hs
noncomputable def rIx (K : PySem.W.Frag) : R2 := fun x y H Q => rIxL K x y H Q ∨ rIxT K x y H Q ∨ rIxS x y H Q
theorem ix_seq : IxR X (rIx X.K) := ix_list.or (ix_tup.or ix_str)
theorem slice_bounds (lo hi : Option Int) (n : Nat) : (sliceBounds lo hi none n).1 = ((HT.sIx n 0 lo : Nat) : Int) ∧ (sliceBounds lo hi none n).2.1 = ((HT.sIx n n hi : Nat) : Int) ∧ (sliceBounds lo hi none n).2.2 = 1 := by
  refine ⟨?_, ?_, rfl⟩
  · cases lo with
    | none => simp [sliceBounds, HT.sIx]
    | some i =>
      simp only [sliceBounds, HT.sIx, Option.getD_none, show (1 : Int) > 0 by decide, if_true]
      by_cases h : i < 0
      · simp only [h, if_true] <;> omega
      · simp only [h, if_false] <;> omega
  · cases hi with
    | none => simp [sliceBounds, HT.sIx]
    | some i =>
      simp only [sliceBounds, HT.sIx, Option.getD_none, show (1 : Int) > 0 by decide, if_true]
      by_cases h : i < 0
      · simp only [h, if_true] <;> omega
      · simp only [h, if_false] <;> omega
theorem slicePick_cut (its : List Value) (lo hi : Option Int) : slicePick its.toArray lo hi none = ((its.drop (HT.sIx its.length 0 lo)).take (HT.sIx its.length its.length hi - HT.sIx its.length 0 lo)).toArray := by
  obtain ⟨h1, h2, h3⟩ := slice_bounds lo hi its.toArray.size
  unfold slicePick
  rw [h1, h2, h3]
  simp only [sliceRange_one, pick_run, List.size_toArray] <;> rfl
noncomputable def rSlL (K : PySem.W.Frag) : V → Option Int → Option Int → Hp → VK → Prop := fun x lo hi H Q => ∃ a xs, x = .ref a ∧ SqL K H a xs ∧ ∀ p, H p = none → Q (.ref p) (upd H p (.lst (cutV xs lo hi)))
theorem sl_list : SlR X (rSlL X.K) := by
  intro pins s σ H x v vl vu lo hi sl Q I rx hs pl pu h
  obtain ⟨a, xs, rfl, hx, q⟩ := h
  cases rx
  obtain ⟨its, r, ht, hz⟩ := I.list hx
  have hlen := r.length
  refine ⟨"list", _, slot_list_getitem.lookup, ht.isList.typeIs, ?_⟩
  refine wpAny_getItem_list_slice ht.isList hs pl pu .none (by simp) ?_ (by rw [List.size_toArray] <;> omega)
  rw [slicePick_cut, ← hlen]
  refine ⟨.ref s.heap.objs.size, _, I.laid (t' := s.toks) (o := .lst (cutV xs lo hi)) (fun b ob q => Heap.get?_push_of_some _ q) (Nat.le_refl _) ?_, rfl, q _ (I.hok.fresh (Nat.le_refl _))⟩
  exact ⟨Nat.le_trans (cutV_length xs lo hi) hz, _, 0, (r.drop (HT.sIx xs.length 0 lo)).take (HT.sIx xs.length xs.length hi - HT.sIx xs.length 0 lo), Heap.get?_push_size _ rfl⟩
noncomputable def flatV : V → Bool
  | .non => true
  | .bl _ => true
  | .int _ => true
  | .str _ => true
  | _ => false
noncomputable def eqV : V → V → Bool
  | .non, .non => true
  | .bl a, .bl b => a == b
  | .bl a, .int b => (if a then 1 else 0) == b
  | .int a, .bl b => a == (if b then 1 else 0)
  | .int a, .int b => a == b
  | .str a, .str b => a == b
  | _, _ => false
theorem eqAt_V {A : Around} {s : Shared} {y x : V} {u v : Value} (ry : RelV y u) (rx : RelV x v) (fy : flatV y = true) (fx : flatV x = true) : SeqAt.EqAt A s u v (eqV y x) := by
  cases y with
  | non =>
    cases ry
    cases x with
    | non => cases rx; exact SeqAt.EqAt.same _
    | bl b => cases rx; exact SeqAt.EqAt.none_bool b
    | int b => obtain ⟨t, rfl⟩ := rx; exact SeqAt.EqAt.none_int b t
    | str b => obtain ⟨t, rfl⟩ := rx; exact SeqAt.EqAt.none_str b t
    | _ => exact absurd (show false = true from fx) Bool.false_ne_true
  | bl a =>
    cases ry
    cases x with
    | non => cases rx; exact SeqAt.EqAt.bool_none a
    | bl b => cases rx; exact SeqAt.EqAt.bool_bool a b
    | int b => obtain ⟨t, rfl⟩ := rx; exact SeqAt.EqAt.bool_int a b t
    | str b => obtain ⟨t, rfl⟩ := rx; exact SeqAt.EqAt.bool_str a b t
    | _ => exact absurd (show false = true from fx) Bool.false_ne_true
  | int a =>
    obtain ⟨t', rfl⟩ := ry
    cases x with
    | non => cases rx; exact SeqAt.EqAt.int_none a t'
    | bl b => cases rx; exact SeqAt.EqAt.int_bool a t' b
    | int b => obtain ⟨t, rfl⟩ := rx; exact SeqAt.EqAt.int_int a t' b t
    | str b => obtain ⟨t, rfl⟩ := rx; exact SeqAt.EqAt.int_str a t' b t
    | _ => exact absurd (show false = true from fx) Bool.false_ne_true
  | str a =>
    obtain ⟨t', rfl⟩ := ry
    cases x with
    | non => cases rx; exact SeqAt.EqAt.str_none a t'
    | bl b => cases rx; exact SeqAt.EqAt.str_bool a t' b
    | int b => obtain ⟨t, rfl⟩ := rx; exact SeqAt.EqAt.str_int a t' b t
    | str b => obtain ⟨t, rfl⟩ := rx; exact SeqAt.EqAt.str_str a t' b t
    | _ => exact absurd (show false = true from fx) Bool.false_ne_true
  | _ => exact absurd (show false = true from fy) Bool.false_ne_true
noncomputable def eqU (x : V) (u : Value) : Bool := match u with
  | .none => eqV .non x
  | .bool b => eqV (.bl b) x
  | .int i _ => eqV (.int i) x
  | .str z _ => eqV (.str z) x
  | _ => false
theorem eqU_of {x y : V} {u : Value} (r : RelV y u) (f : flatV y = true) : eqU x u = eqV y x := by
  cases y with
  | non => cases r; rfl
  | bl b => cases r; rfl
  | int i => obtain ⟨t, rfl⟩ := r; rfl
  | str z => obtain ⟨t, rfl⟩ := r; rfl
  | _ => exact absurd (show false = true from f) Bool.false_ne_true
theorem any_eqU {x : V} : ∀ {xs : List V} {us : List Value}, Vals xs us → xs.all flatV = true → us.any (eqU x) = xs.any fun y => eqV y x
  | _, _, .nil, _ => rfl
  | y :: xs, u :: us, .cons r t, f => by
    rw [List.all_cons, Bool.and_eq_true] at f
    rw [List.any_cons, List.any_cons, eqU_of r f.1, any_eqU t f.2]
theorem mem_eqAt {A : Around} {s : Shared} {x : V} {v : Value} (rx : RelV x v) (fx : flatV x = true) : ∀ {xs : List V} {us : List Value}, Vals xs us → xs.all flatV = true → ∀ u ∈ us, SeqAt.EqAt A s u v (eqU x u)
  | _, _, .nil, _ => fun u hu => by cases hu
  | y :: xs, u :: us, .cons r t, f => fun u' hu => by
    rw [List.all_cons, Bool.and_eq_true] at f
    rcases List.mem_cons.mp hu with rfl | hu
    · rw [eqU_of r f.1]; exact eqAt_V r rx f.1 fx
    · exact mem_eqAt rx fx t f.2 u' hu
noncomputable def inV (x : V) (xs : List V) : Bool := xs.any fun y => eqV y x
noncomputable def rIn (K : PySem.W.Frag) (neg : Bool) : R2 := fun x y H Q => ∃ p xs, y = .ref p ∧ (SqL K H p xs ∨ SqT K H p xs) ∧ flatV x = true ∧ xs.all flatV = true ∧ Q (.bl (if neg then !inV x xs else inV x xs)) H
theorem op_in_seq : OpR X (compareOp .In) (rIn X.K false) := by
  intro pins s σ H x y v u Q I rx ry h
  obtain ⟨p, xs, rfl, hq, fx, fs, q⟩ := h
  cases ry
  rcases hq with hq | hq
  · obtain ⟨its, r, pl, hz⟩ := I.list hq
    refine SeqAt.in_listAt (eqU x) pl.isList (fun w hw => mem_eqAt rx fx r fs w (by simpa using hw)) ⟨.bl _, H, I, rfl, ?_⟩
    rw [show its.toArray.any (eqU x) = its.any (eqU x) by simp, any_eqU r fs]
    exact q
  · obtain ⟨its, r, pl, hz⟩ := I.tuple hq
    refine SeqAt.in_tupleAt (eqU x) pl (fun w hw => mem_eqAt rx fx r fs w (by simpa using hw)) ⟨.bl _, H, I, rfl, ?_⟩
    rw [show its.toArray.any (eqU x) = its.any (eqU x) by simp, any_eqU r fs]
    exact q
theorem op_notIn_seq : OpR X (compareOp .NotIn) (rIn X.K true) := by
  intro pins s σ H x y v u Q I rx ry h
  obtain ⟨p, xs, rfl, hq, fx, fs, q⟩ := h
  cases ry
  rcases hq with hq | hq
  · obtain ⟨its, r, pl, hz⟩ := I.list hq
    refine SeqAt.notIn_listAt (eqU x) pl.isList (fun w hw => mem_eqAt rx fx r fs w (by simpa using hw)) ⟨.bl _, H, I, rfl, ?_⟩
    rw [show its.toArray.any (eqU x) = its.any (eqU x) by simp, any_eqU r fs]
    exact q
  · obtain ⟨its, r, pl, hz⟩ := I.tuple hq
    refine SeqAt.notIn_tupleAt (eqU x) pl (fun w hw => mem_eqAt rx fx r fs w (by simpa using hw)) ⟨.bl _, H, I, rfl, ?_⟩
    rw [show its.toArray.any (eqU x) = its.any (eqU x) by simp, any_eqU r fs]
    exact q
theorem call_len_seq : CallR X (.builtin "len") (fun xs H Q => ∃ p ys, xs = [.ref p] ∧ (SqL X.K H p ys ∨ SqT X.K H p ys) ∧ Q (.int ys.length) H) := by
  intro pins s σ H xs us Q I r h
  obtain ⟨p, ys, rfl, hq, q⟩ := h
  obtain ⟨u, rfl, rx⟩ := vals1 r
  cases rx
  have hn := line63
  rcases hq with hq | hq
  · obtain ⟨its, r', pl, hz⟩ := I.list hq
    have hlen := r'.length
    exact Calls.call_len_list pl.isList (by simp only [List.size_toArray] <;> omega) ⟨.int ys.length, H, I.tok _, ⟨s.toks + 1, by rw [List.size_toArray, hlen]⟩, q⟩
  · obtain ⟨its, r', pl, hz⟩ := I.tuple hq
    have hlen := r'.length
    exact len_tuple pl (by simp only [List.size_toArray] <;> omega) ⟨.int ys.length, H, I.tok _, ⟨s.toks + 1, by rw [List.size_toArray, hlen]⟩, q⟩
theorem call_len_str : CallR X (.builtin "len") (fun xs H Q => ∃ z, xs = [.str z] ∧ z.length ≤ sizeLine ∧ Q (.int z.length) H) := by
  intro pins s σ H xs us Q I r h
  obtain ⟨z, rfl, hz, q⟩ := h
  obtain ⟨u, rfl, t, rfl⟩ := vals1 r
  have hn := line63
  exact len_str (by omega) ⟨.int z.length, H, I.tok _, ⟨_, rfl⟩, q⟩
theorem call_tuple_of : CallR X (.type "tuple") (fun xs H Q => ∃ p ys, xs = [.ref p] ∧ ((SqL X.K H p ys ∧ ∀ l, H l = none → Q (.ref l) (upd H l (.tup ys))) ∨ (SqT X.K H p ys ∧ Q (.ref p) H))) := by
  intro pins s σ H xs us Q I r h
  obtain ⟨p, ys, rfl, h⟩ := h
  obtain ⟨u, rfl, rx⟩ := vals1 r
  cases rx
  rcases h with ⟨hq, q⟩ | ⟨hq, q⟩
  · obtain ⟨its, r', pl, hz⟩ := I.list hq
    have hlen := r'.length
    refine call_tuple_list pl.isList (fun h' kp => ?_) (by simp only [List.size_toArray] <;> omega)
    have I1 : Inv X pins σ H { s with heap := h' } := I.kept (t' := s.toks) kp
    have I2 : Inv X pins σ (upd H h'.objs.size (.tup ys)) { s with heap := h'.push { cls := .type "tuple", data := .seq its.toArray } } :=
      I1.laid (t' := s.toks) (fun b o e => Heap.get?_push_of_some _ e) (Nat.le_refl _) (show ObjOk X.prog X.w _ _ _ (.tup ys) from ⟨hz, its, r', IsTup.new _ _⟩)
    exact ⟨.ref h'.objs.size, _, I2, rfl, q _ (I1.hok.fresh (Nat.le_refl _))⟩
  · obtain ⟨its, r', pl, hz⟩ := I.tuple hq
    exact call_tuple_same pl ⟨.ref p, H, I, rfl, q⟩
noncomputable def tyV (K : PySem.W.Frag) (T : String) (x : V) (H : Hp) : Prop := match x with
  | .str _ => T = "str"
  | .int _ => T = "int"
  | .ref p => (T = "list" ∧ ∃ xs, SqL K H p xs) ∨ (T = "tuple" ∧ ∃ o, K.lookup p = some o ∧ o.cls = .type "tuple" ∧ o.dict = none) ∨
      (T = "dict" ∧ ((∃ kvs, H p = some (.dK kvs)) ∨ ∃ kvs, H p = some (.dT kvs))) ∨ (T = "set" ∧ ∃ S n, H p = some (.set S n))
  | _ => False
theorem tyV_is {pins : List (Addr × Obj)} {σ : St} {H : Hp} {s : Shared} {T : String} {x : V} {v : Value} (I : Inv X pins σ H s) (r : RelV x v) (ty : tyV X.K T x H) :
    s.TypeIs v T ∧ ∀ a, v = .ref a → ∃ ob, s.heap.get? a = some ob ∧ ob.dict = none := by
  cases x with
  | str z =>
    obtain ⟨t, rfl⟩ := r
    cases (show T = "str" from ty)
    exact ⟨typeIs_str s z t, fun _ e => nomatch e⟩
  | int i =>
    obtain ⟨t, rfl⟩ := r
    cases (show T = "int" from ty)
    exact ⟨typeIs_int s i t, fun _ e => nomatch e⟩
  | ref p =>
    cases r
    rcases ty with ⟨rfl, xs, hq⟩ | ⟨rfl, o, hk, hc, hd⟩ | ⟨rfl, hk⟩ | ⟨rfl, S, n, hk⟩
    · obtain ⟨its, _, pl, _⟩ := I.list hq
      refine ⟨pl.isList.typeIs, fun a e => ?_⟩
      cases e
      obtain ⟨o, n, e, c, hd, _⟩ := pl
      exact ⟨o, e, hd⟩
    · refine ⟨⟨o, I.kIn p o hk, hc⟩, fun a e => ?_⟩
      cases e
      exact ⟨o, I.kIn _ o hk, hd⟩
    · have z : ∃ o, s.heap.get? p = some o ∧ o.ExactDict := by
        rcases hk with ⟨kvs, hk⟩ | ⟨kvs, hk⟩
        · obtain ⟨_, _, _, _, o, _, _, e, ex, _⟩ := I.hok p _ hk
          exact ⟨o, e, ex⟩
        · obtain ⟨_, _, _, _, o, _, _, e, ex, _⟩ := I.hok p _ hk
          exact ⟨o, e, ex⟩
      obtain ⟨o, e, ex⟩ := z
      refine ⟨⟨o, e, ex.1⟩, fun a e2 => ?_⟩
      cases e2
      exact ⟨o, e, ex.2.1⟩
    · obtain ⟨o, _, _, _, e, ex, _⟩ := I.hok p _ hk
      refine ⟨⟨o, e, ex.1⟩, fun a e2 => ?_⟩
      cases e2
      exact ⟨o, e, ex.2.1⟩
  | _ => exact False.elim ty
noncomputable def tBM (K : PySem.W.Frag) (T : String) (r : V → List V → Hp → VK → Prop) (to : TE) (t : TA) : TE := fun σ H Q => to σ H fun x H1 => tyV K T x H1 ∧ t σ H1 fun xs H2 => r x xs H2 Q
variable {o e : Expr} {es : List Expr} {to : TE} {t : TA} {name : Str} {apos cpos : Pos} {T id : String} {r : V → List V → Hp → VK → Prop}
theorem pe_bm (pa : PlainAttrs T) (slot : Slot T name id) (hty : typeOf (.builtin id) = pure (.type "method_descriptor")) (hm : MtR X id r) (ho : PE X o to) (ha : PA X (e :: es) t)
    (hbase : attributeBase o name X.env (eval o X.env) = eval o X.env := by rfl)
    (hfew : ((backTo cpos (starEach (e :: es) X.env)).all (fun x => !x.1) && (backToKw cpos (keywordEach [] X.env)).all (fun x => x.1.isSome)
      && decide ((e :: es).length + ([] : List Keyword).length + (if ([] : List Keyword).isEmpty then 0 else 1) < 30)) = true := by rfl)
    (hline : (apos.endLine == cpos.line) = true := by rfl) (hs : starEach (e :: es) X.env = (false, eval e X.env) :: starEach es X.env := by rfl) (hplain : (backTo cpos (starEach es X.env)).any (·.1) = false := by rfl) :
    PE X (.Call (.Attribute o name apos) (e :: es) [] cpos) (tBM X.K T r to t) := by
  intro pins s σ H Q I h
  refine wpAny_Call_method_late hbase hfew hline rfl (thn (ho pins s σ H _ I h) fun v s1 ⟨x, H1, I1, r1, ty, q1⟩ => ?_)
  obtain ⟨h1, h2⟩ := tyV_is I1 r1 ty
  refine ⟨T, id, pa, slot, hty, h1, h2, ?_⟩
  have hA := ha cpos pins s1 σ H1 _ I1 q1
  rw [hs] at hA ⊢
  refine Calls.callWith_builtin (by show (false || (backTo cpos (starEach es X.env)).any (·.1)) = false; rw [hplain] <;> rfl) (Calls.evalArgs_plain ?_)
  exact thn hA fun us s2 ⟨vs, H2, I2, r2, q2⟩ => hm pins s2 σ H2 x vs v us Q I2 r1 r2 q2
end
end L2
namespace L2
open PySem PySem.Spec PyProof.Rows
noncomputable def MtM (X : Cx) (id : String) (r : V → List V → Hp → VK → Prop) : Prop :=
  ∀ (pins : List (Addr × Obj)) (s : Shared) (σ : St) (H : Hp) (x : V) (xs : List V) (v : Value) (us : List Value) (Q : VK), Inv X pins σ H s → RelV x v → Vals xs us → r x xs H Q →
    wpAny (model X.prog X.w) X.A (call (.builtin id) (v :: us)) (EP X pins σ Q) X.xe s
theorem Vals.one : ∀ {x : V} {us : List Value}, Vals [x] us → ∃ u, us = [u] ∧ RelV x u
  | _, _, .cons r .nil => ⟨_, rfl, r⟩
section
variable {X : Cx} {pins : List (Addr × Obj)} {σ : St} {H : Hp} {s : Shared} {l b : Addr} {xs ys zs : List V}
theorem Inv.lset {its its' : List Value} {n : Nat} {f : Array Value → Array Value} {t' : Nat} (I : Inv X pins σ H s) (hH : H l = some (.lst xs))
    (e : s.heap.get? l = some { cls := .type "list", data := .seq its.toArray n }) (hf : f its.toArray = its'.toArray) (hv : Vals ys its') (hz : ys.length ≤ sizeLine) :
    Inv X pins σ (upd H l (.lst ys)) { s with heap := s.heap.update l (Obj.mapSeq f), toks := t' } := by
  have q := PySem.IsL.update e f
  rw [hf] at q
  refine I.write (x := l) (e := l) (by rw [hH]; exact trivial) (.inl rfl) (fun b' u hb hu => (Heap.get?_update_other s.heap (Obj.mapSeq f) (Ne.symm hb)).trans hu) ⟨_, q⟩ ?_
  exact ⟨hz, its', _, hv, q⟩
theorem Inv.lnew {its : List Value} {t' : Nat} (I : Inv X pins σ H s) (hv : Vals ys its) (hz : ys.length ≤ sizeLine) :
    Inv X pins σ (upd H s.heap.objs.size (.lst ys)) { s with heap := s.heap.push { cls := .type "list", data := .seq its.toArray }, toks := t' } :=
  I.laid (fun _ _ q => Heap.get?_push_of_some _ q) (Nat.le_refl _) ⟨hz, its, 0, hv, Heap.get?_push_size _ rfl⟩
theorem Inv.fresh (I : Inv X pins σ H s) : H s.heap.objs.size = none := I.hok.fresh (Nat.le_refl _)
theorem Inv.lstM (I : Inv X pins σ H s) (hH : H l = some (.lst xs)) : xs.length ≤ sizeLine ∧ ∃ (its : List Value) (n : Nat), Vals xs its ∧ xs.length = its.length ∧ s.heap.get? l = some { cls := .type "list", data := .seq its.toArray n } := by
  obtain ⟨z, its, n, r, e⟩ := I.hok l _ hH
  exact ⟨z, its, n, r, r.length, e⟩
theorem notLongL {n : Nat} (h : n ≤ sizeLine) : Builtin.List.listTooLong n = false := by
  unfold Builtin.List.listTooLong
  exact decide_eq_false (by omega)
end
section
variable {X : Cx}
noncomputable def rAppend : V → List V → Hp → VK → Prop := fun x vs H Q => ∃ l xs y, x = .ref l ∧ vs = [y] ∧ H l = some (.lst xs) ∧ xs.length < sizeLine ∧ Q .non (upd H l (.lst (xs ++ [y])))
theorem mt_append : MtM X "list.append" rAppend := by
  intro pins s σ H x vs v us Q I rx rv h
  obtain ⟨l, xs, y, rfl, rfl, hH, hz, q⟩ := h
  cases rx
  obtain ⟨u, rfl, ru⟩ := rv.one
  obtain ⟨z, its, n, r, hl, e⟩ := I.lstM hH
  refine call_meets F.slot_list_append ⟨_, e, rfl⟩ F.entry_list_append (F.args_list_append_2 _ _) (PySem.list_append l its.toArray n u (by rw [List.size_toArray]; omega)) ⟨e, ?_⟩
  refine ⟨.non, _, I.lset (its' := its ++ [u]) hH e (by simp) (r.append (.cons ru .nil)) ?_, rfl, q⟩
  rw [List.length_append, List.length_singleton]
  omega
end
section
variable {prog : Program} {w : World} {A : Around} {E : Value → Shared → Prop} {s : Shared}
end
section
variable {X : Cx}
end
end L2
namespace Att
open PySem PySem.W PySem.Calls PyProof.Rows
theorem ints_of_wellAll {P : Params} {h : Heap} : ∀ (ns : List Int) (vs : List Value), WellAll P h vs (ns.map WData.int) → IntsAre vs ns := by
  intro ns
  induction ns with
  | nil =>
    intro vs w
    rw [List.map_nil] at w
    cases w
    exact .nil
  | cons n ns ih =>
    intro vs w
    rw [List.map_cons] at w
    cases w with
    | cons a b =>
      cases a
      exact .cons _ _ (ih _ b)
theorem script_of {l : OpenLaw} {n : Nat} (hn : l.most = some n) {P : Params} {h : Heap} {args : List WData} {vals : List Value}
    (hpre : l.row.toRowW.claim.pre args = true) (hwl : WellAll P h vals args) :
    ∃ a vs ns, vals = [Value.ref a] ∧ args = [WData.list (ns.map WData.int)] ∧ h.get? a = some { cls := .type "list", data := .seq vs.toArray } ∧ IntsAre vs ns ∧ ns.length ≤ n := by
  have hsh : WShape.hasAll [] args [.list .int] = true := (pre_splitW hpre).1
  have hc : l.pre.holds [] { args := args } = true := (pre_splitW hpre).2
  obtain ⟨d, r, rfl, h1, h2⟩ := hasAllW_cons hsh
  obtain rfl := hasAllW_nil h2
  obtain ⟨xs, rfl, h3⟩ := hasW_list h1
  obtain ⟨ns, rfl⟩ := items_int h3
  have hlen : ns.length ≤ n := by
    unfold OpenLaw.pre at hc
    have h4 : (WTm.not (.lt (.lit (.int (n : Int))) (.len (.arg 0)))).holds [] { args := [.list (ns.map .int)] } = true := by
      have h4 := (holds_andW hc).1
      rw [hn] at h4
      exact h4
    have h5 := condW_of h4 (w_not (w_lt w_lit (w_len_list (w_arg rfl))))
    rw [List.length_map] at h5
    refine Nat.le_of_not_lt fun q => ?_
    have q' : (n : Int) < ((ns.length : Nat) : Int) := by omega
    first
      | (rw [decide_eq_true q'] at h5; exact absurd h5 (by decide))
      | (simp at h5; omega)
  cases hwl with
  | cons w1 w2 =>
    cases w2
    cases w1 with
    | list ho hall => exact ⟨_, _, ns, rfl, rfl, ho, ints_of_wellAll ns _ hall, hlen⟩
theorem post_true (l : OpenLaw) (args : List WData) : l.row.toRowW.claim.post args (.bool true) args = true :=
  postW_of (r := l.row.toRowW) (X := (true == true))
    (show WShape.has [] (.bool true) .bool = true by first | rfl | decide | simp [WShape.has, WShape.arms, WShape.armsAll])
    (show (WTm.eq .res (.lit (.bool true))).value [] { args := args, res := some (.bool true), after := args } = some (.bool (true == true)) from w_eq_bool (w_res rfl) w_lit) rfl
theorem attach_call {l : OpenLaw} {n : Nat} {q : Program} {loose : List Str} {XP : (Str → Option Value) → Heap → Prop} {YP : World → Heap → Prop} {d : DefRec}
    (hn : l.most = some n) (hdf : d.params.defaults = [])
    (call : ∀ (w : World) (s₀ s₁ : Shared) (mg mb : Str → Option Value) (fa : Addr) (o : Obj) (pm cd doc : Value) (a : Addr) (vs : List Value) (ns : List Int),
      Ground q loose [] XP w s₀ mg mb s₁.heap → YP w s₁.heap →
      s₁.heap.get? fa = some o → o.data = .func (docDef d.name d.params d.body d.scope pm cd doc) → s₁.heap.CodeRec cd d.name → mg d.name = some (.ref fa) →
      s₁.heap.get? a = some { cls := .type "list", data := .seq vs.toArray } → IntsAre vs ns → ns.length ≤ n → s₁.gens = #[] →
      codeAny (model l.prog w) callerA (.call (.ref fa) ⟨[.ref a], []⟩) (fun r s' => r = .ok (.ret (.bool true)) ∧ OldK s₁.heap s'.heap ∧ s'.os = s₁.os ∧ AllBare s'.gens) s₁) :
    WalkO q loose XP YP l.row.toRowW d [] (fun f vs => PySem.call f vs) := by
  intro w s₀ s₁ mg mb G Y fa o pm cd doc dV kV ho hd hcd hD hmg hg args vals as hpre hlay hrd hwl hlo
  obtain rfl : dV = .none := Dflts.none hD hdf
  obtain rfl : kV = .none := Dflts.noKw hD
  obtain ⟨a, vs, ns, rfl, rfl, hobj, hints, hlen⟩ := script_of hn hpre hwl
  refine enter_call (codeAny_mono (call w s₀ s₁ mg mb fa o pm cd doc a vs ns G Y ho (fd_plain hd) hcd hmg hobj hints hlen hg) fun r s' hq => ?_)
  obtain ⟨rfl, h2, h3, h4⟩ := hq
  exact ⟨.inl ⟨.bool true, .bool true, [], rfl, fun _ => rfl, .bool true, post_true l _, fun _ => ⟨List.Pairwise.nil, fun _ hm => (nomatch hm)⟩⟩, h2, h3, h4⟩
section
variable {prog : Program} {w : World} {A : Around} {E : Value → Shared → Prop} {s : Shared} {K : Frag}
end
end Att
namespace L2
open PySem PySem.Spec PyProof.Rows
theorem vals_ints : ∀ {vs : List Value} {ns : List Int}, IntsAre vs ns → Vals (ns.map V.int) vs
  | _, _, .nil => .nil
  | _, _, .cons n t h => .cons ⟨t, rfl⟩ (vals_ints h)
noncomputable def Only (H : Hp) : Prop := ∀ b, H b = none ∨ ∃ o xs, H b = some (.frz o (.lst xs))
end L2
namespace L2
open PySem PySem.Spec PyProof.Rows
end L2
namespace L2
open PySem PySem.Spec PyProof.Rows
noncomputable def defArgs (s : Stmt) : Arguments := match s with
  | .FunctionDef _ a _ _ _ _ _ _ _ _ => a
  | _ => { posonlyargs := [], args := [], vararg := none, kwonlyargs := [], kw_defaults := [], kwarg := none, defaults := [] }
noncomputable def defBody (s : Stmt) : List Stmt := match s with
  | .FunctionDef _ _ b _ _ _ _ _ _ _ => b
  | _ => []
noncomputable def defScope (s : Stmt) : Scope := match s with
  | .FunctionDef _ _ _ _ _ _ sc _ _ _ => sc
  | _ => { kind := .function, names := [], isGenerator := false, isCoroutine := false }
noncomputable abbrev CX0 : CXT := fun _ _ _ _ _ _ => False
noncomputable abbrev E0 : XK := fun _ _ _ => False
theorem pass0 {X : Cx} : Passes CX0 X E0 := fun _ _ _ _ _ _ _ h => h.elim
structure Fun (K : PySem.W.Frag) (x qual : Str) (st : Stmt) (f : Addr) (fd : FuncData) : Prop where
  ex : ∃ (oc : Value) (od : Option Addr) (kV doc pm : Value) (an : Option Addr) (cdv ct : Value) (osl : Array (Option Value)),
    fd = PySem.W.fnOf x qual (defArgs st) (defBody st) (defScope st) .none kV doc pm an cdv ct ∧ K.lookup f = some ⟨oc, od, .func fd, osl⟩ ∧ PySem.W.codeIn K cdv qual = true
  kp : PySem.W.keepIn K (.ref f) = true
section
variable {P : Program} {w : World} {K : PySem.W.Frag} {mg : Str → Option Value} {base : Heap}
theorem Fun.ok {x qual : Str} {st : Stmt} {f : Addr} {fd : FuncData} {N ps : List Str} {k : Nat} {sp : Sp} (F : Fun K x qual st f fd) (S : FnScope N ps (defScope st)) (len : ∀ vs H Q E, sp vs H Q E → vs.length = ps.length)
    (hbody : ∀ (cdv : Value) (A : Around) (outer : List Env) (s : Shared) (H : Hp) (vs : List V) (Q : VK) (E : XK), Room k (A.deeper (envOfC qual (defScope st) s.heap.objs.size f cdv)) → sp vs H Q E →
      ∃ t, PSs (cxOf CX0 P w K mg base N qual (defScope st) f cdv A outer s H E).nox (defBody st) t ∧ t { nx := fun _ H' => Q .non H', rt := Q } (start N vs) H) : FnOk P w K mg base CX0 (k + 1) f fd ps sp := by
  obtain ⟨oc, od, kV, doc, pm, an, cdv, ct, osl, rfl, lk, hcd⟩ := F.ex
  refine fn_of lk hcd S len fun A outer s H vs Q E hr hsp => ?_
  obtain ⟨t, h, q⟩ := hbody cdv A outer s H vs Q E hr hsp
  exact ⟨t, h.nox, q⟩
theorem Fun.binds {x qual : Str} {st : Stmt} {f : Addr} {fd : FuncData} {ps : List Str} (F : Fun K x qual st f fd)
    (h : ∀ (kV doc pm : Value) (an : Option Addr) (cdv ct : Value) (us : List Value), us.length = ps.length → bindArgs (PySem.W.fnOf x qual (defArgs st) (defBody st) (defScope st) .none kV doc pm an cdv ct) ⟨us, []⟩ = pure (ps.zip us)) : Binds K fd ps [] := by
  obtain ⟨oc, od, kV, doc, pm, an, cdv, ct, osl, rfl, lk, hcd⟩ := F.ex
  exact .all (h kV doc pm an cdv ct)
theorem fun_mk {x qual : Str} {st : Stmt} {f : Addr} {oc : Value} {od an : Option Addr} {osl : Array (Option Value)} {kV doc pm cdv ct : Value} (l : K.lookup f = some ⟨oc, od, .func (PySem.W.fnOf x qual (defArgs st) (defBody st) (defScope st) .none kV doc pm an cdv ct), osl⟩)
    (c : PySem.W.codeIn K cdv qual = true) (k : PySem.W.keepIn K (.ref f) = true) : Fun K x qual st f (PySem.W.fnOf x qual (defArgs st) (defBody st) (defScope st) .none kV doc pm an cdv ct) := ⟨⟨oc, od, kV, doc, pm, an, cdv, ct, osl, rfl, l, c⟩, k⟩
end
theorem small1000 {n : Nat} (h : n ≤ 1000) : n < sizeLine := Nat.lt_of_le_of_lt h (by decide)
section
variable {X : Cx}
end
noncomputable def Same (H H' : Hp) : Prop := ∀ b o, H b = some o → H' b = some o
theorem Same.refl (H : Hp) : Same H H := fun _ _ h => h
theorem Same.trans {H H1 H2 : Hp} (a : Same H H1) (b : Same H1 H2) : Same H H2 := fun c o h => b c o (a c o h)
theorem Same.free {H H' : Hp} (e : Same H H') {l : Addr} (h : H' l = Option.none) : H l = Option.none := by
  cases q : H l with
  | none => rfl
  | some o =>
    rw [e l o q] at h
    cases h
theorem Same.seq {K : PySem.W.Frag} {H H' : Hp} {a : Addr} {xs : List V} (e : Same H H') (h : SqL K H a xs) : SqL K H' a xs := by
  rcases h with (h | ⟨o, h⟩) | h
  · exact .inl (.inl (e _ _ h))
  · exact .inl (.inr ⟨o, e _ _ h⟩)
  · exact .inr h
end L2
namespace L2
open PySem PySem.Spec PyProof.Rows
theorem forIn_fold {α β : Type} {l : List α} {f : α → β → Sem (ForInStep β)} {g : α → β → β} : ∀ (c : β), (∀ x ∈ l, ∀ c, f x c = pure (.yield (g x c))) → (forIn l c f : Sem β) = pure (l.foldl (fun c x => g x c) c) := by
  induction l with
  | nil => intro c _; rfl
  | cons x r ih =>
    intro c h
    rw [List.forIn_cons, h x List.mem_cons_self]
    exact ih _ fun y hy => h y (List.mem_cons_of_mem _ hy)
noncomputable def clStep (env : Env) (p : Str × NameKind) (cs : List (Str × Addr)) : List (Str × Addr) :=
  if p.2 = .free then (match env.cells.lookup p.1 with | some a => (p.1, a) :: cs | none => cs) else cs
noncomputable def clOf (scope : Scope) (env : Env) : List (Str × Addr) := scope.names.foldl (fun cs p => clStep env p cs) []
theorem clOf_closure {scope : Scope} {env : Env} (h : ∀ p ∈ scope.names, p.2 = .free → ∃ c, env.cells.lookup p.1 = some c) : closureFor scope env = pure (clOf scope env) := by
  simp only [closureFor]
  rw [forIn_fold (g := clStep env) [] (fun x hx c => by
    obtain ⟨n, kind⟩ := x
    by_cases hk : kind = .free
    · subst hk
      obtain ⟨a, e⟩ := h _ hx rfl
      have e' : env.cells.lookup n = some a := e
      simp [clStep, e', cellOf]
      try rfl
    · have hb : (kind == NameKind.free) = false := by simpa using hk
      simp [clStep, hb, hk])]
  rfl
theorem cl_go {env : Env} : ∀ (names : List (Str × NameKind)) (cs : List (Str × Addr)), (∀ x c, (x, c) ∈ cs → env.cells.lookup x = some c) →
    ∀ x c, (x, c) ∈ names.foldl (fun cs p => clStep env p cs) cs → env.cells.lookup x = some c
  | [], cs, h => h
  | p :: r, cs, h => by
    refine cl_go r _ ?_
    intro x c hx
    unfold clStep at hx
    dsimp only at hx
    split at hx
    · split at hx
      · rename_i a e
        rcases List.mem_cons.mp hx with z | z
        · cases z; exact e
        · exact h x c z
      · exact h x c hx
    · exact h x c hx
theorem cl_more {env : Env} {q : Str × Addr} : ∀ (names : List (Str × NameKind)) (cs : List (Str × Addr)), q ∈ cs → q ∈ names.foldl (fun cs p => clStep env p cs) cs
  | [], _, h => h
  | p :: r, cs, h => by
    refine cl_more r _ ?_
    unfold clStep
    dsimp only
    split
    · split
      · exact List.mem_cons_of_mem _ h
      · exact h
    · exact h
theorem cl_has {env : Env} {x : Str} {c : Addr} (e : env.cells.lookup x = some c) : ∀ (names : List (Str × NameKind)) (cs : List (Str × Addr)), (x, NameKind.free) ∈ names → (x, c) ∈ names.foldl (fun cs p => clStep env p cs) cs
  | [], _, h => by simp at h
  | p :: r, cs, h => by
    rcases List.mem_cons.mp h with z | z
    · subst z
      refine cl_more r _ ?_
      unfold clStep
      dsimp only
      rw [if_pos rfl, e]
      exact List.mem_cons_self
    · exact cl_has e r _ z
theorem lookup_some_of_mem {α : Type} {x : Str} {c : α} : ∀ {l : List (Str × α)}, (x, c) ∈ l → ∃ c', l.lookup x = some c'
  | [], h => by simp at h
  | (y, d) :: r, h => by
    by_cases e : x = y
    · subst e; exact ⟨d, by simp [List.lookup_cons]⟩
    · have hb : (x == y) = false := by simpa using e
      rcases List.mem_cons.mp h with z | z
      · cases z; exact absurd rfl e
      · obtain ⟨c', q⟩ := lookup_some_of_mem z
        exact ⟨c', by simp [List.lookup_cons, hb, q]⟩
theorem clOf_of {scope : Scope} {env : Env} {x : Str} {c : Addr} (h : (clOf scope env).lookup x = some c) : env.cells.lookup x = some c :=
  cl_go scope.names [] (fun _ _ z => by simp at z) x c (PySem.mem_of_lookup h)
theorem clOf_has {scope : Scope} {env : Env} {x : Str} {c : Addr} (hx : (x, NameKind.free) ∈ scope.names) (e : env.cells.lookup x = some c) : (clOf scope env).lookup x = some c := by
  obtain ⟨c', q⟩ := lookup_some_of_mem (cl_has e scope.names [] hx)
  have := clOf_of (scope := scope) q
  rw [e] at this
  cases this
  exact q
theorem lookup_relabel_free {env : Env} (hf : env.scope.kind = .function) : ∀ {names : List (Str × NameKind)} {x : Str}, names.lookup x = some .free → env.kindOf x = some .cell →
    (names.map fun (n, k) => if (k == NameKind.free && env.scope.kind == .function && env.kindOf n == some .cell) then (n, NameKind.cell) else (n, k)).lookup x = some .cell
  | [], _, h, _ => by simp at h
  | (n, k) :: r, x, h, hk => by
    have ih := @lookup_relabel_free env hf r x
    show List.lookup x ((if (k == NameKind.free && env.scope.kind == .function && env.kindOf n == some .cell) = true then (n, NameKind.cell) else (n, k)) :: _) = _
    cases hx : x == n with
    | true =>
      simp only [List.lookup_cons, hx] at h
      have e : x = n := by simpa using hx
      subst e
      cases h
      have hc : (NameKind.free == NameKind.free && env.scope.kind == .function && env.kindOf x == some NameKind.cell) = true := by rw [hf, hk]; rfl
      rw [if_pos hc]
      simp [List.lookup_cons]
    | false =>
      simp only [List.lookup_cons, hx] at h
      by_cases hc : (k == NameKind.free && env.scope.kind == .function && env.kindOf n == some .cell) = true
      · rw [if_pos hc]; simp only [List.lookup_cons, hx]; exact ih h hk
      · rw [if_neg hc]; simp only [List.lookup_cons, hx]; exact ih h hk
theorem cells_app : ∀ (names : List (Str × NameKind)) (n : Nat) (acc cl : List (Str × Addr)), cellsFrom n names (acc ++ cl) = cellsFrom n names acc ++ cl
  | [], _, _, _ => rfl
  | (x, k) :: r, n, acc, cl => by
    unfold cellsFrom
    split
    · exact cells_app r (n + 1) ((x, n) :: acc) cl
    · exact cells_app r n acc cl
theorem cells_split (names : List (Str × NameKind)) (n : Nat) (cl : List (Str × Addr)) {x : Str} {c : Addr} (h : (cellsFrom n names cl).lookup x = some c) :
    (cellsFrom n names []).lookup x = some c ∨ ((cellsFrom n names []).lookup x = none ∧ cl.lookup x = some c) := by
  have e := cells_app names n [] cl
  rw [List.nil_append] at e
  rw [e, List.lookup_append] at h
  cases q : (cellsFrom n names []).lookup x with
  | some d => rw [q] at h; exact .inl h
  | none => rw [q] at h; exact .inr ⟨rfl, h⟩
theorem cells_there (names : List (Str × NameKind)) (n : Nat) (cl : List (Str × Addr)) {x : Str} {c : Addr} (h : cl.lookup x = some c) : ∃ d, (cellsFrom n names cl).lookup x = some d := by
  have e := cells_app names n [] cl
  rw [List.nil_append] at e
  rw [e, List.lookup_append]
  cases q : (cellsFrom n names []).lookup x with
  | some d => exact ⟨d, rfl⟩
  | none => exact ⟨c, h⟩
theorem cells_later (names : List (Str × NameKind)) (n : Nat) (cl : List (Str × Addr)) {x : Str} {c : Addr} (h0 : (cellsFrom n names []).lookup x = none) (h : cl.lookup x = some c) : (cellsFrom n names cl).lookup x = some c := by
  have e := cells_app names n [] cl
  rw [List.nil_append] at e
  rw [e, List.lookup_append, h0]
  exact h
theorem cells_first (names : List (Str × NameKind)) (n : Nat) (cl : List (Str × Addr)) {x : Str} {c : Addr} (h : (cellsFrom n names []).lookup x = some c) : (cellsFrom n names cl).lookup x = some c := by
  have e := cells_app names n [] cl
  rw [List.nil_append] at e
  rw [e, List.lookup_append, h]
  rfl
theorem cells_mem : ∀ (names : List (Str × NameKind)) (n : Nat) (acc : List (Str × Addr)) {x : Str} {c : Addr}, (x, c) ∈ cellsFrom n names acc → (x, c) ∈ acc ∨ (x, NameKind.cell) ∈ names
  | [], _, _, _, _, h => .inl h
  | (y, k) :: r, n, acc, x, c, h => by
    unfold cellsFrom at h
    split at h
    · rename_i hk
      have hk' : k = .cell := by simpa using hk
      rcases cells_mem r (n + 1) ((y, n) :: acc) h with z | z
      · rcases List.mem_cons.mp z with z | z
        · cases z; subst hk'; exact .inr List.mem_cons_self
        · exact .inl z
      · exact .inr (List.mem_cons_of_mem _ z)
    · rcases cells_mem r n acc h with z | z
      · exact .inl z
      · exact .inr (List.mem_cons_of_mem _ z)
theorem blk_env {M : Model} {A : Around} {E : Value → Shared → Prop} {s : Shared} {scope : Scope} {globals : Addr} {cl : List (Str × Addr)} {qual : Str} {env : Env} {Q : Env → Shared → Prop}
    (hQ : Q (newEnv scope s.heap.objs.size globals (cellsFrom (s.heap.objs.size + 1) scope.names cl) qual none .none (some env) builtinsNs) { s with heap := pushCells (s.heap.push { cls := .type "dict", data := .dict #[] }) scope.names }) :
    wpAny M A (newFunctionEnv scope globals cl [] qual none .none (some env)) Q E s := by
  simp only [newFunctionEnv, Option.isSome_some, if_true]
  refine wpAny_bind (wpAny_alloc ?_)
  refine wpAny_bind (wpAny_layCells _ (fun name kind cells => by cases hkc : kind == NameKind.cell <;> simp [hkc]) _ _ _ _ ?_)
  rw [show ({ s with heap := s.heap.push { cls := .type "dict", data := .dict #[] } } : Shared).heap.objs.size = s.heap.objs.size + 1 from Heap.size_push ..]
  refine wpAny_bind (wpAny_pure ?_)
  exact wpAny_pure hQ
structure Blk (X : Cx) (scope : Scope) (N' : List Str) (cap : List (Option Nat)) : Prop where
  kind : scope.kind = .function
  cells : ∀ y ∈ scope.names, y.2 = .cell → scope.names.lookup y.1 = some .cell
  names : ∀ y ∈ scope.names, y.2 = .local → scope.names.lookup y.1 = some .local
  free : ∀ y ∈ scope.names, y.2 = .free → X.env.kindOf y.1 = some .cell
  caps : ∀ (i j : Nat), cap[i]? = some (some j) → ∃ x, N'[i]? = some x ∧ X.N[j]? = some x ∧ scope.names.lookup x = some .free
  len : cap.length = N'.length
  nd : N'.Nodup
noncomputable def capSt (cap : List (Option Nat)) (σ : St) : St := cap.map fun o => match o with
  | some j => (σ[j]?).getD none
  | none => none
noncomputable def blkCx (X : Cx) (scope : Scope) (N' : List Str) (C : Addr) (s₃ : Shared) (H₃ : Hp) (fp : List Addr) : Cx :=
  { X with env := compEnvC scope (cellsFrom (C + 1) scope.names (clOf scope X.env)) C X.env, N := N', s₀ := s₃, H₀ := H₃, outer := X.stack, ex := fp, fn := fun x => decide (scope.names.lookup x = some .cell), pn := [], xe := fun _ _ => False }
theorem blk_inv {X : Cx} {scope : Scope} {N' : List Str} {cap : List (Option Nat)} {pins : List (Addr × Obj)} {σ : St} {H : Hp} {s : Shared} {fp : List Addr} {h' : Heap} {tk : Nat} {m' : Str → Option Value}
    (B : Blk X scope N' cap) (I : Inv X pins σ H s) (hf : ∀ b ∈ fp, FpOk X pins H b) (hlt : ∀ b ∈ fp, b < s.heap.objs.size)
    (hn : h'.Ns s.heap.objs.size m') (hk : ∀ b o, s.heap.get? b = some o → h'.get? b = some o) (ow : CellsOk h' (s.heap.objs.size + 1) (cellsFrom (s.heap.objs.size + 1) scope.names [])) :
    Inv (blkCx X scope N' s.heap.objs.size s H fp) [] (capSt cap σ) H { s with heap := h', toks := tk } := by
  have cl : ∀ x c, (clOf scope X.env).lookup x = some c → X.env.cells.lookup x = some c := fun x c h => clOf_of h
  have hsz : ∀ x c, X.env.cells.lookup x = some c → c < s.heap.objs.size := fun x c e => by
    obtain ⟨v, q⟩ := I.cell x c e
    exact q.lt
  have own : ∀ x c, (cellsFrom (s.heap.objs.size + 1) scope.names []).lookup x = some c → h'.IsCell c none ∧ s.heap.objs.size < c := fun x c e => by
    obtain ⟨q1, q2⟩ := ow.empty x c (PySem.mem_of_lookup e)
    exact ⟨q1, Nat.lt_of_lt_of_le (Nat.lt_succ_self _) q2⟩
  refine ⟨⟨I.ok.mod, B.kind, I.ok.glob, I.ok.blt, Nat.le_refl _, ?_, ?_, ?_, I.ok.hd, I.ok.frames, .inl rfl, ?_, I.bs, Nat.le_trans I.ok.bsz I.sz, ?_, ?_, I.stack, I.stkFree⟩,
    rfl, I.bare, Un.kept hk, ⟨m', hn, ?_⟩, ?_, I.hok.fresh (Nat.le_refl _), ?_, ?_, I.hok.kept hk, ?_⟩
  · intro x y c h1 h2
    rcases cells_split _ _ _ h1 with a1 | ⟨_, a1⟩ <;> rcases cells_split _ _ _ h2 with a2 | ⟨_, a2⟩
    · exact name_of_addr ow.apart (PySem.mem_of_lookup a1) (PySem.mem_of_lookup a2)
    · exact absurd (hsz y c (cl y c a2)) (Nat.not_lt_of_lt (own x c a1).2)
    · exact absurd (hsz x c (cl x c a1)) (Nat.not_lt_of_lt (own y c a2).2)
    · exact I.ok.inj x y c (cl x c a1) (cl y c a2)
  · intro x hx
    have hx : (relabel scope X.env).names.lookup x = some .cell ∨ (relabel scope X.env).names.lookup x = some .free := hx
    have key : ∃ k, (relabel scope X.env).names.lookup x = some k ∧ (k = .cell ∨ k = .free) := by
      rcases hx with h | h
      · exact ⟨_, h, .inl rfl⟩
      · exact ⟨_, h, .inr rfl⟩
    obtain ⟨k, hk1, hk2⟩ := key
    obtain ⟨⟨n, k0⟩, hm, he⟩ := List.mem_map.mp (PySem.mem_of_lookup hk1)
    have fr : (k0 = .free ∨ k0 = .cell) ∧ n = x := by
      dsimp only at he
      by_cases hc : (k0 == NameKind.free && X.env.scope.kind == .function && X.env.kindOf n == some .cell) = true
      · rw [if_pos hc] at he
        cases he
        simp only [Bool.and_eq_true] at hc
        exact ⟨.inl (by simpa using hc.1.1), rfl⟩
      · rw [if_neg hc] at he
        cases he
        rcases hk2 with z | z
        · exact ⟨.inr z, rfl⟩
        · exact ⟨.inl z, rfl⟩
    obtain ⟨hk0, rfl⟩ := fr
    rcases hk0 with rfl | rfl
    · obtain ⟨c, e⟩ := I.ok.has n (.inl (B.free _ hm rfl))
      exact cells_there _ _ _ (clOf_has hm e)
    · obtain ⟨c, e⟩ := cell_has (sc := scope) (n := s.heap.objs.size + 1) (B.cells _ hm rfl)
      exact ⟨c, cells_first _ _ _ e⟩
  · intro x c hx e
    have hx : scope.names.lookup x = some .cell := of_decide_eq_true hx
    rcases cells_split _ _ _ e with e | ⟨n0, _⟩
    · exact Nat.le_of_lt (own x c e).2
    · obtain ⟨d, q⟩ := cell_has (sc := scope) (n := s.heap.objs.size + 1) hx
      rw [q] at n0; cases n0
  · intro b hb
    refine ⟨Nat.ne_of_lt (hlt b hb), fun x c e => ?_⟩
    rcases cells_split _ _ _ e with e | ⟨_, e⟩
    · exact fun z => absurd (hlt b hb) (Nat.not_lt_of_lt (by rw [← z]; exact (own x c e).2))
    · exact (hf b hb).2.2.2.2.1 x c (cl x c e)
  · intro b o e hb
    rcases (hf b hb).2.2.2.1 with z | z
    · exact I.ok.noex b o e z
    · exact absurd (Nat.lt_of_lt_of_le (Heap.lt_size e) (Nat.le_trans I.ok.bsz z)) (Nat.lt_irrefl _)
  · intro b hb hfs
    rcases List.mem_cons.mp (I.stkSub b hfs) with z | z
    · exact (hf b hb).2.1 z
    · exact (hf b hb).2.2.1 z
  · intro i x v e1 e2 _
    have e1 : N'[i]? = some x := e1
    have e2 : (capSt cap σ)[i]? = some (some v) := e2
    unfold capSt at e2
    rw [List.getElem?_map] at e2
    cases hc : cap[i]? with
    | none => rw [hc] at e2; cases e2
    | some o =>
      rw [hc] at e2
      cases o with
      | none => cases e2
      | some j =>
        have e3 : (σ[j]?).getD none = some v := Option.some.inj e2
        have e4 : σ[j]? = some (some v) := by
          cases q : σ[j]? with
          | none => rw [q] at e3; cases e3
          | some w' => rw [q] at e3; have : w' = some v := e3; rw [this]
        obtain ⟨y, h1, h2, h3⟩ := B.caps i j hc
        rw [e1] at h1
        cases h1
        have hcell : X.env.kindOf x = some .cell := B.free _ (PySem.mem_of_lookup h3) rfl
        obtain ⟨m, _, hl⟩ := I.loc
        obtain ⟨u, r, l⟩ := hl j x v h2 e4 (.inr (.inl hcell))
        refine ⟨u, r, ?_⟩
        rcases l with ⟨k, _⟩ | ⟨_, c, e, z⟩
        · rw [hcell] at k; cases k
        · refine .inr ⟨.inl ?_, c, cells_later _ _ _ ?_ (clOf_has (PySem.mem_of_lookup h3) e), ?_⟩
          · exact lookup_relabel_free I.ok.kind h3 hcell
          · cases q : (cellsFrom (s.heap.objs.size + 1) scope.names []).lookup x with
            | none => rfl
            | some d =>
              rcases cells_mem _ _ _ (PySem.mem_of_lookup q) with z | z
              · cases z
              · rw [B.cells _ z rfl] at h3; cases h3
          · obtain ⟨o, q1, q2⟩ := z
            exact ⟨o, hk c o q1, q2⟩
  · intro x c e
    rcases cells_split _ _ _ e with e | ⟨_, e⟩
    · exact ⟨none, (own x c e).1⟩
    · obtain ⟨v, o, q1, q2⟩ := I.cell x c (cl x c e)
      exact ⟨v, o, hk c o q1, q2⟩
  · intro x c e
    rcases cells_split _ _ _ e with e | ⟨_, e⟩
    · exact I.hok.fresh (Nat.le_of_lt (own x c e).2)
    · exact I.freeC x c (cl x c e)
  · intro p hp
    exact absurd (show p ∈ ([] : List (Addr × Obj)) from hp) (by simp)
  · show (capSt cap σ).length = N'.length
    unfold capSt
    rw [List.length_map]
    exact B.len
noncomputable def PTs (X : Cx) (ifs : List Expr) (t : TT) : Prop :=
  ∀ (pins : List (Addr × Obj)) (s : Shared) (σ : St) (H : Hp) (Q : Bool → Hp → Prop), Inv X pins σ H s → t σ H Q →
    wpAny (model X.prog X.w) X.A (forIn ifs true fun c r => if r = true then do let ok ← isTrue c X.env (eval c X.env); pure (ForInStep.yield ok) else pure (ForInStep.yield r)) (TP X pins σ Q) X.xe s
noncomputable def tAll : TT := fun _ H Q => Q true H
theorem pts_nil {X : Cx} : PTs X [] tAll := fun _ _ _ H _ I h => wpAny_tests_nil ⟨H, I, h⟩
theorem pts_one {X : Cx} {c : Expr} {t : TT} (h : PT X c t) : PTs X [c] t := fun pins s σ H Q I hw => wpAny_tests_one (h pins s σ H Q I hw)
noncomputable def TComp (J : It) (g : TG) (tc : TT) (te : TE) (σ₀ : St) (H : Hp) (Q : VK) : Prop :=
  ∃ W : Addr → Nat → Nat → List V → St → Hp → Prop, ∀ D, H D = none → (∃ m, W D 0 m [] σ₀ (upd H D (.lst []))) ∧ ∀ i m ys σ1 H1, W D i m ys σ1 H1 → H1 D = some (.lst ys) →
    (J.stop i H1 ∧ Q (.ref D) H1) ∨ (J.go i H1 ∧ ∀ x H2, J.yld i H1 x H2 → g x σ1 H2 fun σ3 H3 => tc σ3 H3 fun b H4 =>
      if b = true then te σ3 H4 fun v H5 => H5 D = some (.lst ys) ∧ ys.length < sizeLine ∧ ∃ m', m' < m ∧ W D (i + 1) m' (ys ++ [v]) σ3 (upd H5 D (.lst (ys ++ [v])))
      else H4 D = some (.lst ys) ∧ ∃ m', m' < m ∧ W D (i + 1) m' ys σ3 H4)
theorem comp_runX {X : Cx} (XE : Addr → Shared → Hp → List Addr → Value → Shared → Prop) {elt iter tg : Expr} {ifs : List Expr} {scope : Scope} {pos : Pos} {N' : List Str} {cap : List (Option Nat)} {pins : List (Addr × Obj)} {σ : St} {H : Hp} {s : Shared} {J : It} {it : Addr} {fp : List Addr} {tn : Nat → Heap → Prop}
    {g : TG} {tc : TT} {te : TE} {Q : VK} {RR : Value → Addr → Result → Shared → Prop} (hc : X.calm = true) (B : Blk X scope N' cap) (I : Inv X pins σ H s) (T : Turn X.prog X.w X.K tg J fp it tn) (st : tn 0 s.heap) (hf : ∀ b ∈ fp, FpOk X pins H b)
    (hg : ∀ C s₃ H₃ fp, PG (blkCx X scope N' C s₃ H₃ fp) tg g) (ht : ∀ C s₃ H₃ fp, PTs (blkCx X scope N' C s₃ H₃ fp) ifs tc) (he : ∀ C s₃ H₃ fp, PE ((blkCx X scope N' C s₃ H₃ fp).wish (XE C s₃ H₃ fp)) elt te)
    (w : TComp J g tc te (capSt cap σ) H Q)
    (hx : ∀ D s₃ H₃ e s', Inv X pins σ H₃ s₃ → (∀ b ∈ fp, FpOk X pins H₃ b) → H D = none → H₃ = upd H D (.lst []) → s.heap.objs.size ≤ s₃.heap.objs.size → XE s₃.heap.objs.size s₃ H₃ fp e s' →
      notedBy (model X.prog X.w) X.A (compEnvC scope (cellsFrom (s₃.heap.objs.size + 1) scope.names (clOf scope X.env)) s₃.heap.objs.size X.env) (fun x s' => RR (.ref D) s₃.heap.objs.size (.error x) s') e s')
    (fin : ∀ D C s' H' m', s.heap.get? C = none → s.heap.objs.size ≤ C → s'.heap.Ns C m' → H' C = none → Inv X pins σ H' s' → Q (.ref D) H' → RR (.ref D) C (.ok .next) s') :
    wpAny (model X.prog X.w) X.A (newList []) (fun acc s₃ => wpAny (model X.prog X.w) X.A (newFunctionEnv scope X.env.globals (clOf scope X.env) [] X.env.qual none .none (some X.env)) (fun cenv s₄ =>
      cenv.frame = X.env.frame ∧ codeAny (model X.prog X.w) X.A (.compStart (.ListComp elt [⟨tg, iter, ifs, 0⟩] scope pos) 0 (.ref it) acc { cenv with scope := relabel scope X.env }) (RR acc cenv.locals) s₄) X.xe s₃) X.xe s := by
  refine wpAny_newObj_type (blk_env ?_)
  dsimp only
  obtain ⟨W, hW⟩ := w
  have hD : H s.heap.objs.size = none := I.hok.fresh (Nat.le_refl _)
  obtain ⟨⟨m0, w0⟩, turn⟩ := hW s.heap.objs.size hD
  have I3 : Inv X pins σ (upd H s.heap.objs.size (.lst [])) { s with heap := s.heap.push { cls := .type "list", data := .seq ([] : List Value).toArray } } := I.lnew (its := []) (ys := []) (t' := s.toks) .nil (Nat.zero_le _)
  generalize hH2 : s.heap.push { cls := .type "list", dict := none, data := .seq ([] : List Value).toArray } = H2 at I3 ⊢
  have hC : H2.objs.size = s.heap.objs.size + 1 := by rw [← hH2, Heap.size_push]
  have lt3 : ∀ b ∈ fp, b < s.heap.objs.size := fun b hb => by
    obtain ⟨o, e, _⟩ := T.obj 0 _ st b hb
    exact Heap.lt_size e
  have hf3 : ∀ b ∈ fp, FpOk X pins (upd H s.heap.objs.size (.lst [])) b := fun b hb => by
    refine ⟨?_, (hf b hb).2⟩
    rw [upd_ne (Nat.ne_of_lt (lt3 b hb))]
    exact (hf b hb).1
  have ow : CellsOk (pushCells (H2.push { cls := .type "dict", data := .dict #[] }) scope.names) (H2.objs.size + 1) (cellsFrom (H2.objs.size + 1) scope.names []) := by
    have ok := cellsFrom_ok scope.names (H2.push { cls := .type "dict", data := .dict #[] }) (H2.objs.size + 1) [] ⟨fun _ _ hm => (nomatch hm), List.Pairwise.nil⟩ (by rw [Heap.size_push]; exact Nat.le_refl _)
    rw [Heap.size_push] at ok
    exact ok
  have hns₁ : (pushCells (H2.push { cls := .type "dict", data := .dict #[] }) scope.names).Ns H2.objs.size fun _ => none := (Heap.Ns.new H2 (.type "dict")).keeps (pushCells_keeps _ _)
  have keep : ∀ b o, H2.get? b = some o → (pushCells (H2.push { cls := .type "dict", data := .dict #[] }) scope.names).get? b = some o := fun b o e => pushCells_keeps _ _ b o (Heap.get?_push_of_some _ e)
  generalize pushCells (H2.push { cls := .type "dict", data := .dict #[] }) scope.names = h₁ at ow hns₁ keep ⊢
  have I4 : Inv (blkCx X scope N' H2.objs.size { s with heap := H2 } (upd H s.heap.objs.size (.lst [])) fp) [] (capSt cap σ) (upd H s.heap.objs.size (.lst [])) { s with heap := h₁ } :=
    blk_inv (s := { s with heap := H2 }) B I3 hf3 (fun b hb => by show b < H2.objs.size; rw [hC]; exact Nat.lt_succ_of_lt (lt3 b hb)) hns₁ keep ow
  have st4 : tn 0 h₁ := T.keep 0 _ _ st fun b hb o e => keep b o (by rw [← hH2]; exact Heap.get?_push_of_some _ e)
  have loop : ∀ s₅ : Shared, s₅ = { s with heap := h₁ } →
      codeAny (model X.prog X.w) X.A (.compLoop (.ListComp elt [⟨tg, iter, ifs, 0⟩] scope pos) 0 (.ref it) (.ref s.heap.objs.size) (compEnvC scope (cellsFrom (H2.objs.size + 1) scope.names (clOf scope X.env)) H2.objs.size X.env))
        (RR (.ref s.heap.objs.size) H2.objs.size) s₅ := by
    rintro s₅ rfl
    refine codeAny_loop rfl (fun n s' => ∃ i ys σ' H', Inv (blkCx X scope N' H2.objs.size { s with heap := H2 } (upd H s.heap.objs.size (.lst [])) fp) [] σ' H' s' ∧ tn i s'.heap ∧ (∀ b ∈ fp, H' b = none) ∧ H' s.heap.objs.size = some (.lst ys) ∧ W s.heap.objs.size i n ys σ' H') ?_ m0
      ⟨0, [], _, _, I4, st4, fun b hb => (hf3 b hb).1, upd_same, w0⟩
    rintro n s6 ⟨i, ys, σ6, H6, I6, st6, fr6, hD6, w6⟩
    show wpAny _ X.A ((compTurn (.ListComp elt [⟨tg, iter, ifs, 0⟩] scope pos) 0 (.ref it) (.ref s.heap.objs.size) (compEnvC scope (cellsFrom (H2.objs.size + 1) scope.names (clOf scope X.env)) H2.objs.size X.env)).onRaise (fun x => do noteFrame x (compEnvC scope (cellsFrom (H2.objs.size + 1) scope.names (clOf scope X.env)) H2.objs.size X.env); theTreesLotGoes x)) _ _ s6
    refine wpAny_noted ?_
    rw [compTurn_list]
    have stat : ∀ {H' : Hp}, (∀ b ∈ fp, H' b = none) → ∀ b ∈ fp, FpOk (blkCx X scope N' H2.objs.size { s with heap := H2 } (upd H s.heap.objs.size (.lst [])) fp) [] H' b := fun hn b hb =>
      ⟨hn b hb, Nat.ne_of_lt (by show b < H2.objs.size; rw [hC]; exact Nat.lt_succ_of_lt (lt3 b hb)), I4.ok.exfs b hb, .inl hb, fun x c e => (I4.ok.exf b hb).2 x c e, fun p hp => absurd (show p ∈ ([] : List (Addr × Obj)) from hp) (by simp)⟩
    rcases turn i n ys σ6 H6 w6 hD6 with ⟨stop, qn⟩ | ⟨go, step⟩
    · refine wpAny_bind (wpAny_standAt (wpAny_bind (thn (T.done (blkCx X scope N' H2.objs.size { s with heap := H2 } (upd H s.heap.objs.size (.lst [])) fp) rfl rfl rfl hc i [] s6 _ H6 _ I6 (stat fr6) st6 stop) fun r s7 ⟨hr, I7⟩ => ?_)))
      subst hr
      refine wpAny_pure ?_
      obtain ⟨m7, hn7, _⟩ := I7.loc
      refine fin _ _ s7 H6 m7 ?_ ?_ hn7 I7.free ?_ qn
      · exact Heap.get?_none_of_le (by rw [hC]; exact Nat.le_succ _)
      · rw [hC]; exact Nat.le_succ _
      · refine I3.call' (ch := fp) ?_ ?_ I7.hok I7.bare fun b hb => ?_
        · exact I7.os
        · exact I7.base
        · obtain ⟨f0, f1, f2, f3, f4, f5⟩ := hf3 b hb
          exact ⟨f3, f1, f4, f5⟩
    · refine wpAny_bind (wpAny_standAt (wpAny_bind (thn (T.item (blkCx X scope N' H2.objs.size { s with heap := H2 } (upd H s.heap.objs.size (.lst [])) fp) rfl rfl rfl hc i [] s6 _ H6 _ I6 (stat fr6) st6 go) fun r s7 ⟨u, hr, h7⟩ => ?_)))
      subst hr
      refine wpAny_bind (thn h7 fun _ s8 ⟨x, H8, I8, r8, y8, st8, fr8⟩ => ?_)
      have I8' := I8.pinned (stat fr8) (T.obj _ _ st8)
      have bad : ∀ {α : Type} {t : Sem α} {Q' : α → Shared → Prop} {s' : Shared} {E : Value → Shared → Prop}, wpAny (model X.prog X.w) X.A t Q' (fun _ _ => False) s' → wpAny (model X.prog X.w) X.A t Q' E s' := fun h => wpAny_mono h (fun _ _ q => q) fun _ _ z => z.elim
      refine wpAny_bind (bad (thn (hg _ _ _ _ _ s8 _ H8 x u _ I8' r8 (step x H8 y8)) fun _ s9 ⟨σ9, H9, I9, q9⟩ => ?_))
      refine wpAny_bind (bad (thn (ht _ _ _ _ _ s9 σ9 H9 _ I9 q9) fun ok s10 ⟨H10, I10, q10⟩ => ?_))
      have again : ∀ {σ' : St} {H' : Hp} {ys' : List V} {s' : Shared} {m' : Nat}, Inv (blkCx X scope N' H2.objs.size { s with heap := H2 } (upd H s.heap.objs.size (.lst [])) fp) ([] ++ pinsAt fp s8.heap) σ' H' s' → H' s.heap.objs.size = some (.lst ys') →
          m' < n → W s.heap.objs.size (i + 1) m' ys' σ' H' →
          ∃ m, m < n ∧ ∃ i ys σ' H', Inv (blkCx X scope N' H2.objs.size { s with heap := H2 } (upd H s.heap.objs.size (.lst [])) fp) [] σ' H' s' ∧ tn i s'.heap ∧ (∀ b ∈ fp, H' b = none) ∧ H' s.heap.objs.size = some (.lst ys) ∧ W s.heap.objs.size i m ys σ' H' := fun {σ' H' ys' s' m'} J' hD' hm' w' => by
        refine ⟨m', hm', i + 1, ys', σ', H', J'.unpinned, T.keep _ _ _ st8 fun b hb o e => (J'.pin (b, o) (List.mem_append_right _ (List.mem_append_right _ (mem_pinsAt hb e)))).1, fun b hb => ?_, hD', w'⟩
        obtain ⟨o, e, d⟩ := T.obj _ _ st8 b hb
        exact (J'.pin (b, o) (List.mem_append_right _ (List.mem_append_right _ (mem_pinsAt hb e)))).2.1
      cases ok with
      | false =>
        obtain ⟨hD10, m', hm', w'⟩ := q10
        exact wpAny_pure ⟨rfl, again I10 hD10 hm' w'⟩
      | true =>
        refine wpAny_bind (wpAny_bind (wpAny_mono (he _ _ _ _ _ s10 σ9 H10 _ (I10.wish _) q10) (fun y s11 ⟨v, H11, I11w, r11, hD11, hlen, m', hm', w'⟩ => ?_) fun e s' z => hx _ { s with heap := H2 } _ e s' I3 hf3 hD rfl (by show s.heap.objs.size ≤ H2.objs.size; rw [hC]; exact Nat.le_succ _) z))
        have I11 := I11w.unwish
        refine wpAny_bind (bad <| thn (mt_append (X := blkCx X scope N' H2.objs.size { s with heap := H2 } (upd H s.heap.objs.size (.lst [])) fp) _ s11 σ9 H11 (.ref s.heap.objs.size) [v] (.ref s.heap.objs.size) [y] (fun _ H' => H' = upd H11 s.heap.objs.size (.lst (ys ++ [v]))) I11 rfl (.cons r11 .nil) ⟨_, _, _, rfl, rfl, hD11, hlen, rfl⟩) fun _ s12 ⟨_, H12, I12, _, e12⟩ => ?_)
        subst e12
        exact wpAny_pure (wpAny_pure ⟨rfl, again I12 upd_same hm' w'⟩)
  exact ⟨rfl, codeAny_compStart_list (loop _ rfl) (T.self _ 0 _ _ _ st4 (loop _ rfl))⟩
theorem comp_run {X : Cx} {elt iter tg : Expr} {ifs : List Expr} {scope : Scope} {pos : Pos} {N' : List Str} {cap : List (Option Nat)} {pins : List (Addr × Obj)} {σ : St} {H : Hp} {s : Shared} {J : It} {it : Addr} {fp : List Addr} {tn : Nat → Heap → Prop}
    {g : TG} {tc : TT} {te : TE} {Q : VK} {RR : Value → Addr → Result → Shared → Prop} (hc : X.calm = true) (B : Blk X scope N' cap) (I : Inv X pins σ H s) (T : Turn X.prog X.w X.K tg J fp it tn) (st : tn 0 s.heap) (hf : ∀ b ∈ fp, FpOk X pins H b)
    (hg : ∀ C s₃ H₃ fp, PG (blkCx X scope N' C s₃ H₃ fp) tg g) (ht : ∀ C s₃ H₃ fp, PTs (blkCx X scope N' C s₃ H₃ fp) ifs tc) (he : ∀ C s₃ H₃ fp, PE (blkCx X scope N' C s₃ H₃ fp) elt te)
    (w : TComp J g tc te (capSt cap σ) H Q)
    (fin : ∀ D C s' H' m', s.heap.get? C = none → s.heap.objs.size ≤ C → s'.heap.Ns C m' → H' C = none → Inv X pins σ H' s' → Q (.ref D) H' → RR (.ref D) C (.ok .next) s') :
    wpAny (model X.prog X.w) X.A (newList []) (fun acc s₃ => wpAny (model X.prog X.w) X.A (newFunctionEnv scope X.env.globals (clOf scope X.env) [] X.env.qual none .none (some X.env)) (fun cenv s₄ =>
      codeAny (model X.prog X.w) X.A (.compStart (.ListComp elt [⟨tg, iter, ifs, 0⟩] scope pos) 0 (.ref it) acc { cenv with scope := relabel scope X.env }) (RR acc cenv.locals) s₄) X.xe s₃) X.xe s :=
  wpAny_mono (comp_runX (fun _ _ _ _ _ _ => False) hc B I T st hf hg ht he w (fun _ _ _ _ _ _ _ _ _ _ z => z.elim) fin) (fun _ _ h => wpAny_mono h (fun _ _ z => z.2) fun _ _ z => z) fun _ _ z => z
end L2
namespace L2
open PySem PySem.Spec PyProof.Rows
noncomputable def tComp (wi : TI) (cap : List (Option Nat)) (g : TG) (tc : TT) (te : TE) : TE := fun σ H Q => wi σ H fun J H1 => TComp J g tc te (capSt cap σ) H1 Q
section
variable {X : Cx} {elt iter tg : Expr} {ifs : List Expr} {scope : Scope} {pos spos : Pos} {N' : List Str} {cap : List (Option Nat)} {wi : TI} {g : TG} {tc : TT} {te : TE}
theorem pe_comp (hc : X.calm = true) (B : Blk X scope N' cap) (hi : PI X tg iter wi)
    (hg : ∀ C s₃ H₃ fp, PG (blkCx X scope N' C s₃ H₃ fp) tg g) (ht : ∀ C s₃ H₃ fp, PTs (blkCx X scope N' C s₃ H₃ fp) ifs tc) (he : ∀ C s₃ H₃ fp, PE (blkCx X scope N' C s₃ H₃ fp) elt te)
    (hs : ∀ x, foldedSetIterable iter X.env x = pure x := by intro _; rfl) : PE X (.ListComp elt [⟨tg, iter, ifs, 0⟩] scope pos) (tComp wi cap g tc te) := by
  intro pins s σ H Q I h
  rw [eval_ListComp]
  refine wpAny_comprehension_free (use := none) rfl hs (clOf_closure fun p hp hk => I.ok.has p.1 (.inl (B.free p hp hk))) B.kind B.names ?_
  refine thn (hi pins s σ H _ I h) fun v s1 h1 => thn h1 fun itv s2 ⟨it, fp, tn, J, H2, e, I2, T, st2, f2, w⟩ => ?_
  subst e
  refine comp_run (RR := fun acc C => compPost (model X.prog X.w) X.A X.xe none (EP X pins σ Q) acc C) hc B I2 T st2 f2 hg ht he w ?_
  intro D C s' H' m' hC hCs hn hCf I' q
  refine ⟨m', hn, fun h'' hs'' => ⟨.ref D, H', ?_, rfl, q⟩⟩
  refine I'.turned (t' := s'.toks) (it := C) (fun b o hb e => hs''.extBut b o hb e) hCf ?_ (.inr (Nat.le_trans I2.sz hCs)) ?_ ?_
  · exact Nat.ne_of_gt (Nat.lt_of_lt_of_le I2.lt hCs)
  · intro x c e z
    obtain ⟨v, q⟩ := I2.cell x c e
    exact absurd (Nat.lt_of_lt_of_le q.lt (by rw [z]; exact hCs)) (Nat.lt_irrefl _)
  · intro p hp z
    exact absurd (Nat.lt_of_lt_of_le (Heap.lt_size (I2.pin p hp).1) (by rw [z]; exact hCs)) (Nat.lt_irrefl _)
theorem ps_setC {i : Nat} {x : Str} {pos' : Pos} (hN : X.N.Nodup) (hxi : X.N[i]? = some x) (hx : X.env.scope.names.lookup x = some .local) (hc : X.calm = true) (B : Blk X scope N' cap) (hi : PI X tg iter wi)
    (hg : ∀ C s₃ H₃ fp, PG (blkCx X scope N' C s₃ H₃ fp) tg g) (ht : ∀ C s₃ H₃ fp, PTs (blkCx X scope N' C s₃ H₃ fp) ifs tc) (he : ∀ C s₃ H₃ fp, PE (blkCx X scope N' C s₃ H₃ fp) elt te)
    (hsw : swapsWith (.ListComp elt [⟨tg, iter, ifs, 0⟩] scope pos) (some (.Name x pos')) spos.line X.env = pure true)
    (hs : ∀ x, foldedSetIterable iter X.env x = pure x := by intro _; rfl) :
    PS X (.Assign [.Name x pos'] (.ListComp elt [⟨tg, iter, ifs, 0⟩] scope pos) spos) (tAsg (tComp wi cap g tc te) (gName i)) := by
  intro pins s σ H Dn I h
  rw [exec_Assign_Name_used _ _ _ _ hsw]
  refine wpAny_bind (wpAny_standAt (wpAny_bind ?_))
  show wpAny _ X.A (do let _ ← comprehension (.ListComp elt [⟨tg, iter, ifs, 0⟩] scope pos) scope X.env _ (newList []) false (eval iter X.env) (some (assign (.Name x pos') X.env))) _ _ s
  refine wpAny_bind (wpAny_mono (wpAny_comprehension_free (use := some (assign (.Name x pos') X.env)) (Q := fun _ s' => SP X pins Dn .next s') rfl hs (clOf_closure fun p hp hk => I.ok.has p.1 (.inl (B.free p hp hk))) B.kind B.names ?_) (fun _ s' hq => wpAny_pure (wpAny_pure hq)) fun _ _ e => e)
  refine thn (hi pins s σ H _ I h) fun v s1 h1 => thn h1 fun itv s2 ⟨it, fp, tn, J, H2, e, I2, T, st2, f2, w⟩ => ?_
  subst e
  refine comp_run (RR := fun acc C => compPost (model X.prog X.w) X.A X.xe (some (assign (.Name x pos') X.env)) (fun _ s' => SP X pins Dn .next s') acc C) hc B I2 T st2 f2 hg ht he w ?_
  intro D C s' H' m' hC hCs hn hCf I' q
  have nL : C ≠ X.env.locals := Nat.ne_of_gt (Nat.lt_of_lt_of_le I2.lt hCs)
  have nC : ∀ y c, X.env.cells.lookup y = some c → c ≠ C := fun y c e z => by
    obtain ⟨v, q⟩ := I2.cell y c e
    exact absurd (Nat.lt_of_lt_of_le q.lt (by rw [z]; exact hCs)) (Nat.lt_irrefl _)
  show wpAny _ X.A (assign (.Name x pos') X.env (.ref D)) _ _ _
  refine wpAny_assign_Name (store_ok2 (v := .ref D) I' hN hxi (.inl hx) rfl (fun s3 I3 ⟨a, hsb, ha⟩ => ?_) (.inr hx))
  have ne : C ≠ a := by
    rcases ha with z | z
    · rw [z]; exact nL
    · exact fun y => nC x a z y.symm
  refine ⟨m', hn.sameBut hsb ne, fun h'' hs'' => ⟨_, H', ?_, q⟩⟩
  refine I3.turned (t' := s3.toks) (it := C) (fun b o hb e => hs''.extBut b o hb e) hCf nL (.inr (Nat.le_trans I2.sz hCs)) nC ?_
  intro p hp z
  exact absurd (Nat.lt_of_lt_of_le (Heap.lt_size (I2.pin p hp).1) (by rw [z]; exact hCs)) (Nat.lt_irrefl _)
end
end L2
namespace L2.L3
open PySem PySem.Spec PyProof.Rows PySem.W
noncomputable def excC (K : Frag) (c : Str) : Option Addr := match nsIn K mainGlobals c with
  | some (some (.ref C)) => some C
  | _ => none
theorem excC_is {K : Frag} {c : Str} {C : Addr} (h : excC K c = some C) : nsIn K mainGlobals c = some (some (.ref C)) := by
  unfold excC at h
  split at h
  · rename_i e; cases h; exact e
  · cases h
structure ExO (h : Heap) (a C : Addr) (ox : Obj) : Prop where
  at_ : h.get? a = some ox
  cls : ox.cls = .ref C
theorem ExO.type {h : Heap} {a C : Addr} {ox : Obj} {M : Model} (I : ExO h a C ox) : Looks M h (typeOf (.ref a)) (.ref C) := I.cls ▸ (Looks.ld I.at_).andThen .now
end L2.L3
namespace L2.L3
open PySem PySem.Spec PyProof.Rows
noncomputable def keyD : Key → PyData
  | .inl i => .int i
  | .inr x => .str x
mutual
inductive Rep (K : PySem.W.Frag) (G : Hp) : V → PyData → Prop
  | none : Rep K G .non .none
  | bool (b : Bool) : Rep K G (.bl b) (.bool b)
  | int (i : Int) : Rep K G (.int i) (.int i)
  | str (x : Str) : Rep K G (.str x) (.str x)
  | list {a : Addr} {xs : List V} {ds : List PyData} : SqL K G a xs → RepAll K G xs ds → Rep K G (.ref a) (.list ds)
  | tuple {a : Addr} {xs : List V} {ds : List PyData} : SqT K G a xs → RepAll K G xs ds → Rep K G (.ref a) (.tuple ds)
  | dict {a : Addr} {kvs : List (Key × V)} {D : List (PyData × PyData)} : G a = some (.dK kvs) → D.map (·.1) = kvs.map (fun p => keyD p.1) → RepAll K G (kvs.map (·.2)) (D.map (·.2)) → Rep K G (.ref a) (.dict D)
inductive RepAll (K : PySem.W.Frag) (G : Hp) : List V → List PyData → Prop
  | nil : RepAll K G [] []
  | cons {v : V} {vs : List V} {d : PyData} {ds : List PyData} : Rep K G v d → RepAll K G vs ds → RepAll K G (v :: vs) (d :: ds)
end
theorem seqT {K : PySem.W.Frag} {H H' : Hp} {a : Addr} {xs : List V} (e : Same H H') (h : SqT K H a xs) : SqT K H' a xs := by
  rcases h with (h | ⟨o, h⟩) | h
  · exact .inl (.inl (e _ _ h))
  · exact .inl (.inr ⟨o, e _ _ h⟩)
  · exact .inr h
section
variable {K : PySem.W.Frag} {G G' : Hp}
mutual
theorem Rep.mono (s : Same G G') : ∀ {v : V} {d : PyData}, Rep K G v d → Rep K G' v d
  | _, _, .none => .none
  | _, _, .bool b => .bool b
  | _, _, .int i => .int i
  | _, _, .str x => .str x
  | _, _, .list h r => .list (s.seq h) (RepAll.mono s r)
  | _, _, .tuple h r => .tuple (seqT s h) (RepAll.mono s r)
  | _, _, .dict h e r => .dict (s _ _ h) e (RepAll.mono s r)
theorem RepAll.mono (s : Same G G') : ∀ {vs : List V} {ds : List PyData}, RepAll K G vs ds → RepAll K G' vs ds
  | _, _, .nil => .nil
  | _, _, .cons r t => .cons (Rep.mono s r) (RepAll.mono s t)
end
theorem RepAll.length : ∀ {vs : List V} {ds : List PyData}, RepAll K G vs ds → vs.length = ds.length
  | _, _, .nil => rfl
  | _, _, .cons _ t => by simp [RepAll.length t]
theorem RepAll.get : ∀ {vs : List V} {ds : List PyData} {i : Nat} {d : PyData}, RepAll K G vs ds → ds[i]? = some d → ∃ v, vs[i]? = some v ∧ Rep K G v d
  | _, _, _, _, .nil, e => by simp at e
  | _, _, 0, _, .cons r _, e => by simp at e; subst e; exact ⟨_, rfl, r⟩
  | _, _, i + 1, d, .cons _ t, e => by
    obtain ⟨u, h1, h2⟩ := RepAll.get (i := i) (d := d) t (by simpa using e)
    exact ⟨u, by simpa using h1, h2⟩
theorem RepAll.append : ∀ {vs ws : List V} {ds es : List PyData}, RepAll K G vs ds → RepAll K G ws es → RepAll K G (vs ++ ws) (ds ++ es)
  | _, _, _, _, .nil, h => h
  | _, _, _, _, .cons r t, h => .cons r (RepAll.append t h)
theorem RepAll.take : ∀ {vs : List V} {ds : List PyData} (n : Nat), RepAll K G vs ds → RepAll K G (vs.take n) (ds.take n)
  | _, _, 0, _ => .nil
  | _, _, _ + 1, .nil => .nil
  | _, _, n + 1, .cons r t => .cons r (RepAll.take n t)
theorem RepAll.drop : ∀ {vs : List V} {ds : List PyData} (n : Nat), RepAll K G vs ds → RepAll K G (vs.drop n) (ds.drop n)
  | _, _, 0, r => r
  | _, _, _ + 1, .nil => .nil
  | _, _, n + 1, .cons _ t => RepAll.drop n t
theorem RepAll.ints : ∀ {vs : List V} {ns : List Int}, RepAll K G vs (ns.map .int) → vs = ns.map V.int
  | [], [], _ => rfl
  | _, [], .nil => rfl
  | _, n :: r, .cons (.int _) t => by rw [RepAll.ints (ns := r) t]; rfl
theorem RepAll.strs : ∀ {vs : List V} {ns : List Str}, RepAll K G vs (ns.map .str) → vs = ns.map V.str
  | [], [], _ => rfl
  | _, [], .nil => rfl
  | _, n :: r, .cons (.str _) t => by rw [RepAll.strs (ns := r) t]; rfl
theorem RepAll.bools : ∀ {vs : List V} {ns : List Bool}, RepAll K G vs (ns.map .bool) → vs = ns.map V.bl
  | [], [], _ => rfl
  | _, [], .nil => rfl
  | _, n :: r, .cons (.bool _) t => by rw [RepAll.bools (ns := r) t]; rfl
end
section
variable {P : Program} {w : World}
theorem kv_parts : ∀ {kvs : List (Key × V)} {vs : List (Key × Value)}, KV kvs vs → kvs.map (·.1) = vs.map (·.1) ∧ Vals (kvs.map (·.2)) (vs.map (·.2))
  | _, _, .nil => ⟨rfl, .nil⟩
  | _, _, .cons h t => by
    obtain ⟨a, b⟩ := kv_parts t
    exact ⟨by rw [List.map_cons, List.map_cons, a, h.1], .cons h.2 b⟩
theorem pairs_parts {h : Heap} : ∀ {es : List DictEntry} {vs : List (Key × Value)}, Pairs (mixKind P w) es vs → (∃ as, ReadsAll h (es.map (·.key)) (vs.map fun p => keyD p.1) as) ∧ es.map (·.val) = vs.map (·.2)
  | _, _, .nil => ⟨⟨_, .nil⟩, rfl⟩
  | e :: es, kv :: vs, .cons hk hv t => by
    obtain ⟨⟨as, a⟩, b⟩ := pairs_parts (h := h) t
    refine ⟨?_, by rw [List.map_cons, List.map_cons, b, hv]⟩
    rcases keyIs_shape (show keyIs kv.1 e.key = true from hk) with ⟨i, t, e1, e2⟩ | ⟨x, t, e1, e2⟩
    · refine ⟨_, .cons (as := []) (by dsimp only; rw [e1, e2]; exact .int i t) a⟩
    · refine ⟨_, .cons (as := []) (by dsimp only; rw [e1, e2]; exact .str x t) a⟩
end
section
variable {X : Cx} {pins : List (Addr × Obj)} {σ : St} {H : Hp} {s : Shared}
mutual
theorem Rep.reads (I : Inv X pins σ H s) : ∀ {v : V} {d : PyData} {u : Value}, Rep X.K H v d → RelV v u → ∃ as, Reads s.heap u d as
  | _, _, _, .none, r => by cases r; exact ⟨_, .none⟩
  | _, _, _, .bool b, r => by cases r; exact ⟨_, .bool b⟩
  | _, _, _, .int i, r => by obtain ⟨t, rfl⟩ := r; exact ⟨_, .int i t⟩
  | _, _, _, .str x, r => by obtain ⟨t, rfl⟩ := r; exact ⟨_, .str x t⟩
  | _, _, _, .list h q, r => by
    cases r
    obtain ⟨its, rv, ⟨o, n, e, hc, _, hd⟩, _⟩ := I.list h
    obtain ⟨as, z⟩ := RepAll.reads I q rv
    exact ⟨_, .list e hc hd (by simpa using z)⟩
  | _, _, _, .tuple h q, r => by
    cases r
    obtain ⟨its, rv, ⟨o, e, hc, n, hd⟩, _⟩ := I.tuple h
    obtain ⟨as, z⟩ := RepAll.reads I q rv
    exact ⟨_, .tuple e hc hd (by simpa using z)⟩
  | _, _, _, .dict h e0 q, r => by
    cases r
    obtain ⟨hz, hS, vs, kv, o, es, ep, e, hex, hd, _, hp, _⟩ := I.hok _ _ h
    obtain ⟨a1, a2⟩ := kv_parts kv
    obtain ⟨⟨as, b1⟩, b2⟩ := pairs_parts (h := s.heap) hp
    obtain ⟨bs, z⟩ := RepAll.reads I q a2
    refine ⟨_, .dict e hex.1 hd (as := as) (bs := bs) ?_ (by rw [b2]; exact z)⟩
    rw [e0, show (fun p : Key × V => keyD p.1) = keyD ∘ (·.1) from rfl, ← List.map_map, a1, List.map_map]; exact b1
theorem RepAll.reads (I : Inv X pins σ H s) : ∀ {vs : List V} {ds : List PyData} {us : List Value}, RepAll X.K H vs ds → Vals vs us → ∃ as, ReadsAll s.heap us ds as
  | _, _, _, .nil, .nil => ⟨_, .nil⟩
  | _, _, _, .cons r t, .cons q w => by
    obtain ⟨as, a⟩ := Rep.reads I r q
    obtain ⟨bs, b⟩ := RepAll.reads I t w
    exact ⟨_, .cons a b⟩
end
end
noncomputable def lamNames : List Str := ["in_ending_order", "in_laying_order", "law", "_law_did", "by_heads", "best_choice"]
noncomputable def lamQ (x : Str) : Str := x ++ ".<locals>." ++ "<lambda>"
noncomputable def cdO (c : Addr) (q : Str) : HO := .ext fun h => h.CodeRec (.ref c) q
noncomputable def Tab (P : Addr) (q : Str) (H : Hp) : Prop :=
  ∃ ps, H P = some (.tbl (q, ps)) ∧ TriplesOk ps.toList ∧ ∀ pos cv, codeAmong pos ps.toList = some cv → ∃ c, cv = .ref c ∧ H c = some (cdO c q)
noncomputable def NoT (G : Hp) : Prop := ∀ b ps, G b ≠ some (.tbl ps)
noncomputable def Tabs (K : PySem.W.Frag) (G H : Hp) : Prop := (∀ x ∈ lamNames, ∀ c P, PySem.W.tabIn K x = some (c, P) → Tab P (lamQ x) H) ∧ NoT G
theorem NoT.upd {G : Hp} {a : Addr} {o : HO} (n : NoT G) (h : ∀ ps, o ≠ .tbl ps) : NoT (L2.upd G a o) := fun b ps e => by
  by_cases hb : b = a
  · subst hb; rw [upd_same] at e; cases e; exact h _ rfl
  · rw [upd_ne hb] at e; exact n b ps e
theorem Tab.same {P : Addr} {q : Str} {H H' : Hp} (t : Tab P q H) (s : Same H H') : Tab P q H' := by
  obtain ⟨ps, h1, h2, h3⟩ := t
  refine ⟨ps, s _ _ h1, h2, fun pos cv e => ?_⟩
  obtain ⟨c, e1, e2⟩ := h3 pos cv e
  exact ⟨c, e1, s _ _ e2⟩
theorem Tab.wr {P a : Addr} {q : Str} {H : Hp} {xs : List V} {o : HO} (t : Tab P q H) (h : H a = some (.lst xs)) : Tab P q (upd H a o) := by
  obtain ⟨ps, h1, h2, h3⟩ := t
  refine ⟨ps, by rw [upd_ne (ne_of h1 h (by nofun))]; exact h1, h2, fun pos cv e => ?_⟩
  obtain ⟨c, e1, e2⟩ := h3 pos cv e
  exact ⟨c, e1, by rw [upd_ne (ne_of e2 h (by unfold cdO; nofun))]; exact e2⟩
structure Sm (H H' : Hp) : Prop where
  keep : ∀ b o, H b = some o → (∀ ps, o ≠ .tbl ps) → H' b = some o
  tbl : ∀ b ps, H b = some (.tbl ps) → ∃ ps', H' b = some (.tbl ps')
  tab : ∀ P q, Tab P q H → Tab P q H'
theorem Sm.of {H H' : Hp} (s : Same H H') : Sm H H' := ⟨fun b o h _ => s b o h, fun b ps h => ⟨ps, s _ _ h⟩, fun P q t => t.same s⟩
theorem Sm.refl (H : Hp) : Sm H H := .of (.refl _)
theorem Sm.trans {H H1 H2 : Hp} (a : Sm H H1) (b : Sm H1 H2) : Sm H H2 := ⟨fun c o h n => b.keep c o (a.keep c o h n) n, fun c ps h => by
  obtain ⟨p1, h1⟩ := a.tbl c ps h
  exact b.tbl c p1 h1, fun P q t => b.tab P q (a.tab P q t)⟩
theorem Sm.ne {H H' : Hp} (s : Sm H H') {b : Addr} {o : HO} (h : H b = some o) : ∃ o', H' b = some o' := by
  cases o with
  | tbl ps => obtain ⟨p, e⟩ := s.tbl b ps h; exact ⟨_, e⟩
  | _ => exact ⟨_, s.keep b _ h (by nofun)⟩
theorem Sm.free {H H' : Hp} (s : Sm H H') {l : Addr} (h : H' l = none) : H l = none := by
  cases q : H l with
  | none => rfl
  | some o =>
    obtain ⟨o', e⟩ := s.ne q
    rw [h] at e; cases e
theorem Sm.lst {H H' : Hp} (s : Sm H H') {l : Addr} {xs : List V} (h : H l = some (.lst xs)) : H' l = some (.lst xs) := s.keep l _ h (by nofun)
theorem Sm.wr {H H' : Hp} (s : Sm H H') {l : Addr} {xs : List V} {o : HO} (h0 : H l = none) (h : H' l = some (.lst xs)) : Sm H (upd H' l o) :=
  ⟨fun b u e n => by rw [upd_ne (ne_of_none e h0)]; exact s.keep b u e n, fun b ps e => by rw [upd_ne (ne_of_none e h0)]; exact s.tbl b ps e, fun P q t => (s.tab P q t).wr h⟩
theorem Tabs.wr {K : PySem.W.Frag} {G H : Hp} {a : Addr} {xs : List V} {o : HO} (t : Tabs K G H) (h : H a = some (.lst xs)) : Tabs K G (upd H a o) := ⟨fun x hx c P e => (t.1 x hx c P e).wr h, t.2⟩
structure Grow (G H G' H' : Hp) : Prop where
  gg : Same G G'
  hh : Sm H H'
  sub : Same G' H'
  new : ∀ a, G a = none → H a ≠ none → G' a = none
  nt : NoT G → NoT G'
theorem Tabs.more {K : PySem.W.Frag} {G H G' H' : Hp} (t : Tabs K G H) (g : Grow G H G' H') : Tabs K G' H' := ⟨fun x hx c P e => g.hh.tab _ _ (t.1 x hx c P e), g.nt t.2⟩
theorem Grow.refl {G H : Hp} (s : Same G H) : Grow G H G H := ⟨.refl _, .refl _, s, fun _ e _ => e, id⟩
theorem Grow.trans {G H G1 H1 G2 H2 : Hp} (a : Grow G H G1 H1) (b : Grow G1 H1 G2 H2) : Grow G H G2 H2 :=
  ⟨a.gg.trans b.gg, a.hh.trans b.hh, b.sub, fun c e n => b.new c (a.new c e n) (fun z => by
    cases q : H c with
    | none => exact n q
    | some o => obtain ⟨o', e'⟩ := a.hh.ne q; rw [e'] at z; cases z), fun n => b.nt (a.nt n)⟩
theorem same_upd {H : Hp} {p : Addr} {o : HO} (h : H p = none) : Same H (upd H p o) := fun b u e => by rw [upd_ne (ne_of_none e h)]; exact e
theorem same_both {G H : Hp} {p : Addr} {o : HO} (s : Same G H) : Same (upd G p o) (upd H p o) := fun b u e => by
  by_cases hb : b = p
  · subst hb; rw [upd_same] at e ⊢; exact e
  · rw [upd_ne hb] at e ⊢; exact s b u e
theorem Grow.put {G H : Hp} {p : Addr} {o : HO} (s : Same G H) (h : H p = none) (ho : ∀ ps, o ≠ .tbl ps := by nofun) : Grow G H (upd G p o) (upd H p o) :=
  ⟨same_upd (s.free h), .of (same_upd h), same_both s, fun a e n => by rw [upd_ne (fun z => n (by rw [z]; exact h))]; exact e, fun n => n.upd ho⟩
theorem Grow.side {G H : Hp} {p : Addr} {o : HO} (s : Same G H) (h : H p = none) : Grow G H G (upd H p o) :=
  ⟨.refl _, .of (same_upd h), s.trans (same_upd h), fun a e _ => e, id⟩
inductive Ent where
  | no
  | val (d : PyData)
  | lst (ds : List PyData)
  | exc (c : Str)
  | nst (dss : List (List PyData))
  | dct (kvs : List (Key × PyData))
noncomputable def xcO (a C : Addr) : HO := .ext fun h => ∃ ox, ExO h a C ox
noncomputable def InOk (K : PySem.W.Frag) (H0 G H : Hp) (b : Addr) (ds : List PyData) : Prop := ∃ xs, H b = some (.lst xs) ∧ G b = none ∧ H0 b = none ∧ RepAll K G xs ds
noncomputable def DctOk (K : PySem.W.Frag) (G : Hp) (vs : List (Key × V)) (kvs : List (Key × PyData)) : Prop := vs.map (·.1) = kvs.map (·.1) ∧ RepAll K G (vs.map (·.2)) (kvs.map (·.2))
theorem DctOk.mono {K : PySem.W.Frag} {G G' : Hp} {vs : List (Key × V)} {kvs : List (Key × PyData)} (h : DctOk K G vs kvs) (s : Same G G') : DctOk K G' vs kvs := ⟨h.1, h.2.mono s⟩
noncomputable def EntOk (K : PySem.W.Frag) (H0 G H : Hp) (o : Option V) : Ent → Prop
  | .no => True
  | .val d => ∃ v, o = some v ∧ Rep K G v d
  | .lst ds => ∃ a xs, o = some (.ref a) ∧ H a = some (.lst xs) ∧ G a = none ∧ H0 a = none ∧ RepAll K G xs ds
  | .exc c => ∃ a C, o = some (.ref a) ∧ excC K c = some C ∧ H a = some (xcO a C)
  | .nst dss => ∃ a bs, o = some (.ref a) ∧ H a = some (.lst (bs.map V.ref)) ∧ G a = none ∧ H0 a = none ∧ a ∉ bs ∧ bs.Nodup ∧ Paired (InOk K H0 G H) bs dss
  | .dct kvs => ∃ a vs, o = some (.ref a) ∧ H a = some (.dK vs) ∧ G a = none ∧ H0 a = none ∧ DctOk K G vs kvs
noncomputable def isOwn : Ent → Bool
  | .lst _ => true
  | .nst _ => true
  | .dct _ => true
  | _ => false
structure Inj (H : Hp) (σ : St) (ρ : List Ent) : Prop where
  two : ∀ (i j : Nat) (a : Addr) (ds es : List PyData), i ≠ j → σ[i]? = some (some (.ref a)) → ρ[i]? = some (.lst ds) → σ[j]? = some (some (.ref a)) → ρ[j]? = some (.lst es) → False
  mix : ∀ (i j : Nat) (a a' : Addr) (ds : List PyData) (dss : List (List PyData)), σ[i]? = some (some (.ref a)) → ρ[i]? = some (.lst ds) → σ[j]? = some (some (.ref a')) → ρ[j]? = some (.nst dss) → a ≠ a' ∧ ∀ vs, H a' = some (.lst vs) → V.ref a ∉ vs
  one : ∀ (i j : Nat) (dss ess : List (List PyData)), ρ[i]? = some (.nst dss) → ρ[j]? = some (.nst ess) → i = j
  oneD : ∀ (i j : Nat) (ks ls : List (Key × PyData)), ρ[i]? = some (.dct ks) → ρ[j]? = some (.dct ls) → i = j
theorem Inj.sub {H : Hp} {σ σ' : St} {ρ ρ' : List Ent} (I : Inj H σ ρ) (h : ∀ (i : Nat) (e : Ent), ρ'[i]? = some e → isOwn e = true → ρ[i]? = some e ∧ σ'[i]? = σ[i]?) : Inj H σ' ρ' := by
  refine ⟨fun i j a ds es n h1 h2 h3 h4 => ?_, fun i j a a' ds dss h1 h2 h3 h4 => ?_, fun i j dss ess h1 h2 => ?_, fun i j ks ls h1 h2 => I.oneD i j ks ls (h i _ h1 rfl).1 (h j _ h2 rfl).1⟩
  · obtain ⟨x1, x2⟩ := h i _ h2 rfl
    obtain ⟨y1, y2⟩ := h j _ h4 rfl
    rw [x2] at h1; rw [y2] at h3
    exact I.two i j a ds es n h1 x1 h3 y1
  · obtain ⟨x1, x2⟩ := h i _ h2 rfl
    obtain ⟨y1, y2⟩ := h j _ h4 rfl
    rw [x2] at h1; rw [y2] at h3
    exact I.mix i j a a' ds dss h1 x1 h3 y1
  · exact I.one i j dss ess (h i _ h1 rfl).1 (h j _ h2 rfl).1
theorem Inj.other {H H' : Hp} {σ : St} {ρ : List Ent} (I : Inj H σ ρ) (h : ∀ (j : Nat) (a' : Addr) (dss : List (List PyData)), σ[j]? = some (some (.ref a')) → ρ[j]? = some (.nst dss) → ∀ vs, H' a' = some (.lst vs) → H a' = some (.lst vs)) : Inj H' σ ρ :=
  ⟨I.two, fun i j a a' ds dss h1 h2 h3 h4 => ⟨(I.mix i j a a' ds dss h1 h2 h3 h4).1, fun vs e => (I.mix i j a a' ds dss h1 h2 h3 h4).2 vs (h j a' dss h3 h4 vs e)⟩, I.one, I.oneD⟩
theorem Inj.free {H : Hp} {σ : St} {ρ : List Ent} (h : ∀ (i : Nat) (e : Ent), ρ[i]? = some e → isOwn e = false) : Inj H σ ρ :=
  ⟨fun i j a ds es n h1 h2 h3 h4 => Bool.noConfusion (h i _ h2), fun i j a a' ds dss h1 h2 h3 h4 => Bool.noConfusion (h i _ h2), fun i j dss ess h1 h2 => Bool.noConfusion (h i _ h1), fun i j ks ls h1 h2 => Bool.noConfusion (h i _ h1)⟩
theorem paired_mem {α β : Type} {F F' : α → β → Prop} : ∀ {l : List α} {m : List β}, Paired F l m → (∀ a b, a ∈ l → F a b → F' a b) → Paired F' l m
  | _, _, .nil, _ => .nil
  | _, _, .cons r t, h => .cons (h _ _ List.mem_cons_self r) (paired_mem t fun a b ha => h a b (List.mem_cons_of_mem _ ha))
theorem paired_in {α β : Type} {F : α → β → Prop} {a : α} : ∀ {l : List α} {m : List β}, Paired F l m → a ∈ l → ∃ b, F a b
  | _, _, .cons r t, h => by
    rcases List.mem_cons.mp h with rfl | h
    · exact ⟨_, r⟩
    · exact paired_in t h
structure RepS (K : PySem.W.Frag) (H0 G₀ G H : Hp) (σ : St) (ρ : List Ent) : Prop where
  grow : Grow G₀ H0 G H
  len : σ.length = ρ.length
  ent : ∀ (i : Nat) (o : Option V) (e : Ent), σ[i]? = some o → ρ[i]? = some e → EntOk K H0 G H o e
  inj : Inj H σ ρ
  tab : Tabs K G H
theorem EntOk.more {K : PySem.W.Frag} {H0 G H G' H' : Hp} {o : Option V} {e : Ent} (g : Grow G H G' H') (h : EntOk K H0 G H o e) : EntOk K H0 G' H' o e := by
  cases e with
  | no => trivial
  | val d => obtain ⟨v, e, r⟩ := h; exact ⟨v, e, r.mono g.gg⟩
  | lst ds =>
    obtain ⟨a, xs, e, h1, h2, h3, r⟩ := h
    exact ⟨a, xs, e, g.hh.lst h1, g.new a h2 (by rw [h1]; simp), h3, r.mono g.gg⟩
  | exc c => obtain ⟨a, C, e, h1, h2⟩ := h; exact ⟨a, C, e, h1, g.hh.keep a _ h2 (by unfold xcO; nofun)⟩
  | nst dss =>
    obtain ⟨a, bs, e, h1, h2, h3, h4, h5, r⟩ := h
    exact ⟨a, bs, e, g.hh.lst h1, g.new a h2 (by rw [h1]; simp), h3, h4, h5, Paired.mapP r fun b ds ⟨xs, x1, x2, x3, x4⟩ => ⟨xs, g.hh.lst x1, g.new b x2 (by rw [x1]; simp), x3, x4.mono g.gg⟩⟩
  | dct kvs =>
    obtain ⟨a, vs, e, h1, h2, h3, r⟩ := h
    exact ⟨a, vs, e, g.hh.keep a _ h1 (by nofun), g.new a h2 (by rw [h1]; simp), h3, r.mono g.gg⟩
section
variable {K : PySem.W.Frag} {H0 G₀ G H G' H' : Hp} {σ : St} {ρ : List Ent}
theorem RepS.more (R : RepS K H0 G₀ G H σ ρ) (g : Grow G H G' H') : RepS K H0 G₀ G' H' σ ρ :=
  ⟨R.grow.trans g, R.len, fun i o e h1 h2 => (R.ent i o e h1 h2).more g, R.inj.other (fun j a' dss h1 h2 vs e => by
    obtain ⟨a, bs, e1, e2, _⟩ := R.ent j _ _ h1 h2
    cases e1
    rw [g.hh.lst e2] at e
    cases e
    exact e2), R.tab.more g⟩
theorem RepS.sub (R : RepS K H0 G₀ G H σ ρ) : Same G H := R.grow.sub
theorem RepS.at {i : Nat} {e : Ent} (R : RepS K H0 G₀ G H σ ρ) (h : ρ[i]? = some e) : ∃ o, σ[i]? = some o ∧ EntOk K H0 G H o e := by
  have hi : i < σ.length := by rw [R.len]; exact (List.getElem?_eq_some_iff.mp h).1
  exact ⟨σ[i], by simp [hi], R.ent i _ e (by simp [hi]) h⟩
theorem RepS.val {i : Nat} {d : PyData} (R : RepS K H0 G₀ G H σ ρ) (h : ρ[i]? = some (.val d)) : ∃ v, σ[i]? = some (some v) ∧ Rep K G v d := by
  obtain ⟨o, e, v, rfl, r⟩ := R.at h
  exact ⟨v, e, r⟩
theorem RepS.own {i : Nat} {ds : List PyData} (R : RepS K H0 G₀ G H σ ρ) (h : ρ[i]? = some (.lst ds)) : ∃ a xs, σ[i]? = some (some (.ref a)) ∧ H a = some (.lst xs) ∧ G a = none ∧ H0 a = none ∧ RepAll K G xs ds := by
  obtain ⟨o, e, a, xs, rfl, r⟩ := R.at h
  exact ⟨a, xs, e, r⟩
theorem set_get {α : Type} {l : List α} {i j : Nat} {x y : α} (h : (l.set i x)[j]? = some y) : (j = i ∧ y = x ∧ i < l.length) ∨ (j ≠ i ∧ l[j]? = some y) := by
  by_cases e : j = i
  · subst e
    have hl : j < l.length := by
      have := (List.getElem?_eq_some_iff.mp h).1
      simpa using this
    rw [List.getElem?_set_self hl] at h
    exact .inl ⟨rfl, (Option.some.inj h).symm, hl⟩
  · rw [List.getElem?_set_ne (Ne.symm e)] at h
    exact .inr ⟨e, h⟩
theorem RepS.set {i : Nat} {v : V} {d : PyData} (R : RepS K H0 G₀ G H σ ρ) (r : Rep K G v d) : RepS K H0 G₀ G H (σ.set i (some v)) (ρ.set i (.val d)) := by
  refine ⟨R.grow, by simp [R.len], fun j o e h1 h2 => ?_, R.inj.sub fun j e h1 h2 => ?_, R.tab⟩
  · rcases set_get h1 with ⟨rfl, rfl, _⟩ | ⟨n, h1⟩
    · rcases set_get h2 with ⟨_, rfl, _⟩ | ⟨n, _⟩
      · exact ⟨v, rfl, r⟩
      · exact absurd rfl n
    · rcases set_get h2 with ⟨z, _⟩ | ⟨_, h2⟩
      · exact absurd z n
      · exact R.ent j o e h1 h2
  · rcases set_get h1 with ⟨_, rfl, _⟩ | ⟨n, h1⟩
    · cases h2
    · exact ⟨h1, List.getElem?_set_ne (Ne.symm n)⟩
theorem RepS.freeze {i : Nat} {ds : List PyData} (R : RepS K H0 G₀ G H σ ρ) (h : ρ[i]? = some (.lst ds)) : ∃ G', Same G G' ∧ RepS K H0 G₀ G' H σ (ρ.set i (.val (.list ds))) := by
  obtain ⟨a, xs, e, h1, h2, h3, r⟩ := R.own h
  have gg : Same G (upd G a (.lst xs)) := same_upd h2
  refine ⟨upd G a (.lst xs), gg, ⟨⟨R.grow.gg.trans gg, R.grow.hh, fun b o q => ?_, fun b q n => ?_, fun n => (R.grow.nt n).upd (by nofun)⟩, by simp [R.len], fun j o e' q1 q2 => ?_, R.inj.sub fun j e h1 h2 => ?_, R.tab.1, R.tab.2.upd (by nofun)⟩⟩
  · by_cases hb : b = a
    · subst hb; rw [upd_same] at q; cases q; exact h1
    · rw [upd_ne hb] at q; exact R.sub b o q
  · have nb : b ≠ a := fun z => n (by rw [z]; exact h3)
    rw [upd_ne nb]; exact R.grow.new b q n
  · rcases set_get q2 with ⟨rfl, rfl, _⟩ | ⟨nj, q2⟩
    · rw [e] at q1; cases q1
      exact ⟨.ref a, rfl, .list (.of upd_same) (r.mono gg)⟩
    · have E := R.ent j o e' q1 q2
      cases e' with
      | no => trivial
      | val d => obtain ⟨v, z, rv⟩ := E; exact ⟨v, z, rv.mono gg⟩
      | lst es =>
        obtain ⟨b, ys, z, g1, g2, g3, rv⟩ := E
        have nb : b ≠ a := fun w => by
          subst w z
          exact R.inj.two j i b es ds nj q1 q2 e h
        exact ⟨b, ys, z, g1, by rw [upd_ne nb]; exact g2, g3, rv.mono gg⟩
      | exc c => exact E
      | nst dss =>
        obtain ⟨b, bs, z, g1, g2, g3, g4, g5, rv⟩ := E
        subst z
        obtain ⟨m1, m2⟩ := R.inj.mix i j a b ds dss e h q1 q2
        have ni : ∀ c ∈ bs, c ≠ a := fun c hc w => m2 _ g1 (by subst w; exact List.mem_map.mpr ⟨c, hc, rfl⟩)
        exact ⟨b, bs, rfl, g1, by rw [upd_ne (Ne.symm m1)]; exact g2, g3, g4, g5, paired_mem rv fun c dd hc ⟨xs', x1, x2, x3, x4⟩ => ⟨xs', x1, by rw [upd_ne (ni c hc)]; exact x2, x3, x4.mono gg⟩⟩
      | dct kvs =>
        obtain ⟨b, vs, z, g1, g2, g3, rv⟩ := E
        exact ⟨b, vs, z, g1, by rw [upd_ne (ne_of g1 h1 (by nofun))]; exact g2, g3, rv.mono gg⟩
  · rcases set_get h1 with ⟨_, rfl, _⟩ | ⟨n, h1⟩
    · cases h2
    · exact ⟨h1, rfl⟩
theorem RepS.wrote {i : Nat} {a : Addr} {ds ds' : List PyData} {xs : List V} (R : RepS K H0 G₀ G H σ ρ) (h : ρ[i]? = some (.lst ds)) (e : σ[i]? = some (some (.ref a))) (r : RepAll K G xs ds') : RepS K H0 G₀ G (upd H a (.lst xs)) σ (ρ.set i (.lst ds')) := by
  obtain ⟨a', xs', e', h1, h2, h3, _⟩ := R.own h
  rw [e] at e'; cases e'
  refine ⟨⟨R.grow.gg, R.grow.hh.wr h3 h1, fun b o q => ?_, fun b q n => R.grow.new b q n, R.grow.nt⟩, by simp [R.len], fun j o e' q1 q2 => ?_, ⟨fun j k b es fs hjk q1 q2 q3 q4 => ?_, fun j k b a' es dss q1 q2 q3 q4 => ?_, fun j k dss ess q1 q2 => ?_, fun j k ks ls q1 q2 => ?_⟩, R.tab.wr h1⟩
  · rw [upd_ne (ne_of_none q h2)]; exact R.sub b o q
  · rcases set_get q2 with ⟨rfl, rfl, _⟩ | ⟨nj, q2⟩
    · rw [e] at q1; cases q1
      exact ⟨a, xs, rfl, upd_same, h2, h3, r⟩
    · have E := R.ent j o e' q1 q2
      cases e' with
      | no => trivial
      | val d => exact E
      | lst es =>
        obtain ⟨b, ys, z, g1, g2, g3, rv⟩ := E
        have nb : b ≠ a := fun w => by
          subst w z
          exact R.inj.two j i b es ds nj q1 q2 e h
        exact ⟨b, ys, z, by rw [upd_ne nb]; exact g1, g2, g3, rv⟩
      | exc c => obtain ⟨b, C, z, g1, g2⟩ := E; exact ⟨b, C, z, g1, by rw [upd_ne (ne_of g2 h1 (by unfold xcO; nofun))]; exact g2⟩
      | nst dss =>
        obtain ⟨b, bs, z, g1, g2, g3, g4, g5, rv⟩ := E
        subst z
        obtain ⟨m1, m2⟩ := R.inj.mix i j a b ds dss e h q1 q2
        have ni : ∀ c ∈ bs, c ≠ a := fun c hc w => m2 _ g1 (by subst w; exact List.mem_map.mpr ⟨c, hc, rfl⟩)
        exact ⟨b, bs, rfl, by rw [upd_ne (Ne.symm m1)]; exact g1, g2, g3, g4, g5, paired_mem rv fun c dd hc ⟨xs', x1, x2, x3, x4⟩ => ⟨xs', by rw [upd_ne (ni c hc)]; exact x1, x2, x3, x4⟩⟩
      | dct kvs =>
        obtain ⟨b, vs, z, g1, g2, g3, rv⟩ := E
        exact ⟨b, vs, z, by rw [upd_ne (ne_of g1 h1 (by nofun))]; exact g1, g2, g3, rv⟩
  · rcases set_get q2 with ⟨rfl, _, _⟩ | ⟨n2, q2⟩
    · rcases set_get q4 with ⟨z, _, _⟩ | ⟨n4, q4⟩
      · exact hjk z.symm
      · exact R.inj.two j k b ds fs hjk q1 h q3 q4
    · rcases set_get q4 with ⟨z, _, _⟩ | ⟨n4, q4⟩
      · subst z; exact R.inj.two j k b es ds hjk q1 ‹ρ[j]? = some (Ent.lst es)› q3 h
      · exact R.inj.two j k b es fs hjk q1 ‹ρ[j]? = some (Ent.lst es)› q3 q4
  · rcases set_get q4 with ⟨_, z, _⟩ | ⟨_, q4⟩
    · cases z
    · have old : ∃ fs, ρ[j]? = some (.lst fs) := by
        rcases set_get q2 with ⟨rfl, _, _⟩ | ⟨_, q2⟩
        · exact ⟨_, h⟩
        · exact ⟨_, q2⟩
      obtain ⟨fs, q2⟩ := old
      obtain ⟨m1, m2⟩ := R.inj.mix j k b a' fs dss q1 q2 q3 q4
      have m3 := (R.inj.mix i k a a' ds dss e h q3 q4).1
      exact ⟨m1, fun vs z => m2 vs (by rw [upd_ne (Ne.symm m3)] at z; exact z)⟩
  · rcases set_get q1 with ⟨_, z, _⟩ | ⟨_, q1⟩
    · cases z
    · rcases set_get q2 with ⟨_, z, _⟩ | ⟨_, q2⟩
      · cases z
      · exact R.inj.one j k dss ess q1 q2
  · rcases set_get q1 with ⟨_, z, _⟩ | ⟨_, q1⟩
    · cases z
    · rcases set_get q2 with ⟨_, z, _⟩ | ⟨_, q2⟩
      · cases z
      · exact R.inj.oneD j k ks ls q1 q2
theorem RepS.fresh {i : Nat} {p : Addr} {ds : List PyData} {xs : List V} (R : RepS K H0 G₀ G H σ ρ) (h : H p = none) (r : RepAll K G xs ds) : RepS K H0 G₀ G (upd H p (.lst xs)) (σ.set i (some (.ref p))) (ρ.set i (.lst ds)) := by
  have R' := R.more (Grow.side (o := .lst xs) R.sub h)
  refine ⟨R'.grow, by simp [R.len], fun j o e h1 h2 => ?_, ⟨fun j k a es fs hjk h1 h2 h3 h4 => ?_, fun j k b a' es dss q1 q2 q3 q4 => ?_, fun j k dss ess q1 q2 => ?_, fun j k ks ls q1 q2 => ?_⟩, R'.tab⟩
  · rcases set_get h1 with ⟨rfl, rfl, _⟩ | ⟨n, h1⟩
    · rcases set_get h2 with ⟨_, rfl, _⟩ | ⟨n, _⟩
      · exact ⟨p, xs, rfl, upd_same, R.sub.free h, R.grow.hh.free h, r⟩
      · exact absurd rfl n
    · rcases set_get h2 with ⟨z, _⟩ | ⟨_, h2⟩
      · exact absurd z n
      · exact R'.ent j o e h1 h2
  · have old : ∀ j es, j ≠ i → σ[j]? = some (some (.ref p)) → ρ[j]? = some (.lst es) → False := fun j es _ q1 q2 => by
      obtain ⟨b, ys, e, g1, _⟩ := R.own q2
      rw [q1] at e; cases e
      rw [h] at g1; cases g1
    rcases set_get h2 with ⟨rfl, _, _⟩ | ⟨n2, h2⟩
    · rcases set_get h1 with ⟨_, z, _⟩ | ⟨n, _⟩
      · cases z
        rcases set_get h4 with ⟨z, _, _⟩ | ⟨n4, h4⟩
        · exact hjk z.symm
        · rw [List.getElem?_set_ne (Ne.symm n4)] at h3
          exact old k fs n4 h3 h4
      · exact absurd rfl n
    · rw [List.getElem?_set_ne (Ne.symm n2)] at h1
      rcases set_get h4 with ⟨zk, _, _⟩ | ⟨n4, h4⟩
      · subst zk
        rcases set_get h3 with ⟨_, z, _⟩ | ⟨n, _⟩
        · cases z; exact old j es n2 h1 ‹ρ[j]? = some (Ent.lst es)›
        · exact absurd rfl n
      · rw [List.getElem?_set_ne (Ne.symm n4)] at h3
        exact R.inj.two j k a es fs hjk h1 h2 h3 h4
  · rcases set_get q4 with ⟨_, z, _⟩ | ⟨n4, q4⟩
    · cases z
    · rw [List.getElem?_set_ne (Ne.symm n4)] at q3
      obtain ⟨a1, bs, z, g1, g2, g3, g4, g5, rv⟩ := R.ent k _ _ q3 q4
      have z' : a' = a1 := by cases z; rfl
      subst z'
      have pa : a' ≠ p := ne_of_none g1 h
      have pb : V.ref p ∉ bs.map V.ref := fun z => by
        obtain ⟨c, hc, e⟩ := List.mem_map.mp z
        cases e
        obtain ⟨dd, ⟨xs', x1, _⟩⟩ := paired_in rv hc
        rw [h] at x1; cases x1
      rcases set_get q2 with ⟨rfl, _, _⟩ | ⟨n2, q2⟩
      · rcases set_get q1 with ⟨_, z, _⟩ | ⟨n, _⟩
        · cases z
          exact ⟨Ne.symm pa, fun vs e => by rw [upd_ne pa, g1] at e; cases e; exact pb⟩
        · exact absurd rfl n
      · rw [List.getElem?_set_ne (Ne.symm n2)] at q1
        obtain ⟨m1, m2⟩ := R.inj.mix j k b a' es dss q1 q2 q3 q4
        exact ⟨m1, fun vs e => m2 vs (by rw [upd_ne pa] at e; exact e)⟩
  · rcases set_get q1 with ⟨_, z, _⟩ | ⟨_, q1⟩
    · cases z
    · rcases set_get q2 with ⟨_, z, _⟩ | ⟨_, q2⟩
      · cases z
      · exact R.inj.one j k dss ess q1 q2
  · rcases set_get q1 with ⟨_, z, _⟩ | ⟨_, q1⟩
    · cases z
    · rcases set_get q2 with ⟨_, z, _⟩ | ⟨_, q2⟩
      · cases z
      · exact R.inj.oneD j k ks ls q1 q2
theorem RepS.ownD {i : Nat} {kvs : List (Key × PyData)} (R : RepS K H0 G₀ G H σ ρ) (h : ρ[i]? = some (.dct kvs)) : ∃ a vs, σ[i]? = some (some (.ref a)) ∧ H a = some (.dK vs) ∧ G a = none ∧ H0 a = none ∧ DctOk K G vs kvs := by
  obtain ⟨o, e, a, vs, rfl, r⟩ := R.at h
  exact ⟨a, vs, e, r⟩
theorem RepS.freezeD {i : Nat} {kvs : List (Key × PyData)} (R : RepS K H0 G₀ G H σ ρ) (h : ρ[i]? = some (.dct kvs)) : ∃ G', Same G G' ∧ RepS K H0 G₀ G' H σ (ρ.set i (.val (.dict (kvs.map fun p => (keyD p.1, p.2))))) := by
  obtain ⟨a, vs, e, h1, h2, h3, r⟩ := R.ownD h
  have gg : Same G (upd G a (.dK vs)) := same_upd h2
  refine ⟨upd G a (.dK vs), gg, ⟨⟨R.grow.gg.trans gg, R.grow.hh, fun b o q => ?_, fun b q n => ?_, fun n => (R.grow.nt n).upd (by nofun)⟩, by simp [R.len], fun j o e' q1 q2 => ?_, R.inj.sub fun j e h1 h2 => ?_, R.tab.1, R.tab.2.upd (by nofun)⟩⟩
  · by_cases hb : b = a
    · subst hb; rw [upd_same] at q; cases q; exact h1
    · rw [upd_ne hb] at q; exact R.sub b o q
  · have nb : b ≠ a := fun z => n (by rw [z]; exact h3)
    rw [upd_ne nb]; exact R.grow.new b q n
  · rcases set_get q2 with ⟨rfl, rfl, _⟩ | ⟨nj, q2⟩
    · rw [e] at q1; cases q1
      refine ⟨.ref a, rfl, .dict (kvs := vs) upd_same ?_ ?_⟩
      · rw [List.map_map]
        have := congrArg (List.map keyD) r.1
        rw [List.map_map, List.map_map] at this
        exact this.symm
      · rw [List.map_map]; exact r.2.mono gg
    · have E := R.ent j o e' q1 q2
      cases e' with
      | no => trivial
      | val d => obtain ⟨v, z, rv⟩ := E; exact ⟨v, z, rv.mono gg⟩
      | lst es =>
        obtain ⟨b, ys, z, g1, g2, g3, rv⟩ := E
        exact ⟨b, ys, z, g1, by rw [upd_ne (ne_of g1 h1 (by nofun))]; exact g2, g3, rv.mono gg⟩
      | exc c => exact E
      | nst dss =>
        obtain ⟨b, bs, z, g1, g2, g3, g4, g5, rv⟩ := E
        exact ⟨b, bs, z, g1, by rw [upd_ne (ne_of g1 h1 (by nofun))]; exact g2, g3, g4, g5, paired_mem rv fun c dd hc ⟨xs', x1, x2, x3, x4⟩ => ⟨xs', x1, by rw [upd_ne (ne_of x1 h1 (by nofun))]; exact x2, x3, x4.mono gg⟩⟩
      | dct ks => exact absurd (R.inj.oneD j i ks kvs q2 h) nj
  · rcases set_get h1 with ⟨_, rfl, _⟩ | ⟨n, h1⟩
    · cases h2
    · exact ⟨h1, rfl⟩
end
structure PD (X : Cx) (e : Expr) (ρ : List Ent) (d : PyData) : Prop where
  run : ∀ (H0 G₀ G : Hp) (pins : List (Addr × Obj)) (s : Shared) (σ : St) (H : Hp) (Q : VK), Inv X pins σ H s → RepS X.K H0 G₀ G H σ ρ → (∀ v G' H', Grow G H G' H' → Rep X.K G' v d → Q v H') →
    wpAny (model X.prog X.w) X.A (eval e X.env) (EP X pins σ Q) X.xe s
structure PTD (X : Cx) (e : Expr) (ρ : List Ent) (b : Bool) : Prop where
  run : ∀ (H0 G₀ G : Hp) (pins : List (Addr × Obj)) (s : Shared) (σ : St) (H : Hp) (Q : Bool → Hp → Prop), Inv X pins σ H s → RepS X.K H0 G₀ G H σ ρ → (∀ G' H', Grow G H G' H' → Q b H') →
    wpAny (model X.prog X.w) X.A (isTrue e X.env (eval e X.env)) (TP X pins σ Q) X.xe s
structure PAD (X : Cx) (es : List Expr) (ρ : List Ent) (ds : List PyData) : Prop where
  run : ∀ (H0 G₀ G : Hp) (pos : Pos) (pins : List (Addr × Obj)) (s : Shared) (σ : St) (H : Hp) (Q : List V → Hp → Prop), Inv X pins σ H s → RepS X.K H0 G₀ G H σ ρ → (∀ vs G' H', Grow G H G' H' → RepAll X.K G' vs ds → Q vs H') →
    wpAny (model X.prog X.w) X.A (spliced (backTo pos (starEach es X.env))) (AP X pins σ Q) X.xe s
noncomputable def tD (X : Cx) (ρ : List Ent) (d : PyData) : TE := fun σ H Q => ∃ H0 G₀ G, RepS X.K H0 G₀ G H σ ρ ∧ ∀ v G' H', Grow G H G' H' → Rep X.K G' v d → Q v H'
noncomputable def tTD (X : Cx) (ρ : List Ent) (b : Bool) : TT := fun σ H Q => ∃ H0 G₀ G, RepS X.K H0 G₀ G H σ ρ ∧ ∀ G' H', Grow G H G' H' → Q b H'
noncomputable def tAD (X : Cx) (ρ : List Ent) (ds : List PyData) : TA := fun σ H Q => ∃ H0 G₀ G, RepS X.K H0 G₀ G H σ ρ ∧ ∀ vs G' H', Grow G H G' H' → RepAll X.K G' vs ds → Q vs H'
section
variable {X : Cx} {e a b c : Expr} {es : List Expr} {ρ : List Ent} {d da db dc : PyData} {ds : List PyData} {pos p : Pos}
theorem PD.pe (h : PD X e ρ d) : PE X e (tD X ρ d) := fun pins s σ H Q I ⟨H0, G₀, G, R, k⟩ => h.run H0 G₀ G pins s σ H Q I R k
theorem PTD.pt {b : Bool} (h : PTD X e ρ b) : PT X e (tTD X ρ b) := fun pins s σ H Q I ⟨H0, G₀, G, R, k⟩ => h.run H0 G₀ G pins s σ H Q I R k
theorem PAD.pa (h : PAD X es ρ ds) : PA X es (tAD X ρ ds) := fun pos pins s σ H Q I ⟨H0, G₀, G, R, k⟩ => h.run H0 G₀ G pos pins s σ H Q I R k
theorem PD.of {t : TE} (h : PE X e t) (k : ∀ H0 G₀ G σ H Q, RepS X.K H0 G₀ G H σ ρ → (∀ v G' H', Grow G H G' H' → Rep X.K G' v d → Q v H') → t σ H Q) : PD X e ρ d :=
  ⟨fun H0 G₀ G pins s σ H Q I R q => h pins s σ H Q I (k H0 G₀ G σ H Q R q)⟩
theorem pd_int {i : Int} {j} : PD X (.Constant (.int i) j pos) ρ (.int i) := .of pe_int fun _ _ _ _ _ _ R q => q _ _ _ (.refl R.sub) (.int i)
theorem pd_str {x : Str} {j} : PD X (.Constant (.str x) j pos) ρ (.str x) := .of pe_str fun _ _ _ _ _ _ R q => q _ _ _ (.refl R.sub) (.str x)
theorem pd_bool {x : Bool} {j} : PD X (.Constant (.bool x) j pos) ρ (.bool x) := .of pe_bl fun _ _ _ _ _ _ R q => q _ _ _ (.refl R.sub) (.bool x)
theorem pd_var (i : Nat) {x : Str} (h : ρ[i]? = some (.val d)) (hN : X.N[i]? = some x := by rfl) (hv : Vis X.env.scope x := by first | exact Or.inl rfl | exact Or.inr (Or.inl rfl) | exact Or.inr (Or.inr rfl)) (hd : (x == ("__debug__" : Str)) = false := by decide)
    (hcd : (x == ("__classdict__" : Str)) = false := by decide) : PD X (.Name x pos) ρ d := .of (pe_var hN hv hd hcd) fun H0 G₀ G σ H Q R q => by
  obtain ⟨v, e, r⟩ := R.val h
  exact ⟨v, e, q v G H (.refl R.sub) r⟩
theorem pd_globI {x : Str} {i : Int} {t : Tok} (hg : Gl X x) (hm : X.mg x = some (.int i t)) (hd : (x == ("__debug__" : Str)) = false := by decide) : PD X (.Name x pos) ρ (.int i) :=
  .of (pe_glob (v := .int i) hg hm ⟨t, rfl⟩ hd) fun _ _ _ _ _ _ R q => q _ _ _ (.refl R.sub) (.int i)
end
end L2.L3
namespace L2.L3
open PySem PySem.Spec PyProof.Rows
section
variable {X : Cx} {e a b c : Expr} {es : List Expr} {ρ : List Ent} {d da db dc : PyData} {ds : List PyData} {pos p : Pos}
theorem pad_nil : PAD X [] ρ [] := ⟨fun H0 G₀ G pos pins s σ H Q I R q => pa_nil pos pins s σ H Q I (q [] G H (.refl R.sub) .nil)⟩
theorem pad_cons (ha : PD X e ρ d) (hr : PAD X es ρ ds) (hs : starEach (e :: es) X.env = (false, eval e X.env) :: starEach es X.env := by rfl) : PAD X (e :: es) ρ (d :: ds) := by
  refine ⟨?_⟩
  intro H0 G₀ G pos pins s σ H Q I R q
  exact pa_cons ha.pe hr.pa hs pos pins s σ H Q I ⟨H0, G₀, G, R, fun x G1 H1 g1 r1 => ⟨H0, G₀, G1, R.more g1, fun xs G2 H2 g2 r2 => q _ G2 H2 (g1.trans g2) (.cons (r1.mono g2.gg) r2)⟩⟩
structure CmpD (X : Cx) (op : CmpOp) (da db : PyData) (t : Bool) : Prop where
  ex : ∃ r : R2, OpR X (compareOp op) r ∧ ∀ x y G H Q, Same G H → Rep X.K G x da → Rep X.K G y db → Q (V.bl t) H → r x y H Q
theorem cmp_lt {i j : Int} : CmpD X .Lt (.int i) (.int j) (decide (i < j)) := ⟨_, op_lt, fun x y G H Q _ rx ry q => by cases rx; cases ry; exact ⟨_, _, rfl, rfl, q⟩⟩
theorem cmp_le {i j : Int} : CmpD X .LtE (.int i) (.int j) (decide (i ≤ j)) := ⟨_, op_le, fun x y G H Q _ rx ry q => by cases rx; cases ry; exact ⟨_, _, rfl, rfl, q⟩⟩
theorem cmp_gt {i j : Int} : CmpD X .Gt (.int i) (.int j) (decide (j < i)) := ⟨_, op_gt, fun x y G H Q _ rx ry q => by cases rx; cases ry; exact ⟨_, _, rfl, rfl, q⟩⟩
noncomputable def rEqD (X : Cx) (da db : PyData) (neg : Bool) : R2 := fun x y H Q => Rep X.K H x da ∧ Rep X.K H y db ∧ SeqAt.shaped da = true ∧ SeqAt.shaped db = true ∧ Q (.bl (if neg then !PyData.eqv da db else PyData.eqv da db)) H
theorem op_eqD (hu : X.A.units + 64 < cLine) (da db : PyData) : OpR X (compareOp .Eq) (rEqD X da db false) := by
  intro pins s σ H x y v u Q I rx ry ⟨r1, r2, h1, h2, q⟩
  obtain ⟨as, w1⟩ := r1.reads I rx
  obtain ⟨bs, w2⟩ := r2.reads I ry
  exact eq_dataH w1 w2 h1 h2 hu ⟨.bl _, H, I, rfl, q⟩
theorem op_neD (hu : X.A.units + 64 < cLine) (da db : PyData) : OpR X (compareOp .NotEq) (rEqD X da db true) := by
  intro pins s σ H x y v u Q I rx ry ⟨r1, r2, h1, h2, q⟩
  obtain ⟨as, w1⟩ := r1.reads I rx
  obtain ⟨bs, w2⟩ := r2.reads I ry
  exact ne_dataH w1 w2 h1 h2 hu ⟨.bl _, H, I, rfl, q⟩
theorem cmp_eq (hu : X.A.units + 64 < cLine) (h1 : SeqAt.shaped da = true) (h2 : SeqAt.shaped db = true) : CmpD X .Eq da db (PyData.eqv da db) :=
  ⟨_, op_eqD hu da db, fun x y G H Q s rx ry q => ⟨rx.mono s, ry.mono s, h1, h2, q⟩⟩
theorem cmp_ne (hu : X.A.units + 64 < cLine) (h1 : SeqAt.shaped da = true) (h2 : SeqAt.shaped db = true) : CmpD X .NotEq da db (!PyData.eqv da db) :=
  ⟨_, op_neD hu da db, fun x y G H Q s rx ry q => ⟨rx.mono s, ry.mono s, h1, h2, q⟩⟩
variable {rest : List Expr}
theorem atI_rep {K : PySem.W.Frag} {G : Hp} {xs : List V} {ds : List PyData} {i : Int} {d : PyData} (r : RepAll K G xs ds) (h : atI ds i = some d) : ∃ v, atI xs i = some v ∧ Rep K G v d := by
  unfold atI at h ⊢
  rw [r.length]
  cases e : ixN ds.length i with
  | none => rw [e] at h; cases h
  | some j =>
    rw [e] at h
    exact r.get h
noncomputable def spD (K : PySem.W.Frag) (F : List PyData → PyData → Prop) : Sp := fun vs H Q _ => ∃ G ds d, (Same G H ∧ Tabs K G H) ∧ RepAll K G vs ds ∧ F ds d ∧ ∀ v G' H', Grow G H G' H' → Rep K G' v d → Q v H'
end
end L2.L3
namespace L2.L3
open PySem PySem.Spec PyProof.Rows
noncomputable def Walk (K : PySem.W.Frag) (J : It) (G : Hp) (ds : List PyData) : Prop :=
  ∀ (i : Nat) (G' H' : Hp), Same G G' → Same G' H' → (∀ d, ds[i]? = some d → J.go i H' ∧ ∀ x H2, J.yld i H' x H2 → ∃ G2, Grow G' H' G2 H2 ∧ Rep K G2 x d) ∧ (ds.length ≤ i → J.stop i H')
noncomputable def tID (K : PySem.W.Frag) (ρ : List Ent) (ds : List PyData) : TI := fun σ H R => ∃ H0 G₀ G, RepS K H0 G₀ G H σ ρ ∧ ∀ J G' H', Grow G H G' H' → Walk K J G' ds → R J H'
structure PID (X : Cx) (tg iter : Expr) (ρ : List Ent) (ds : List PyData) : Prop where
  run : PI X tg iter (tID X.K ρ ds)
theorem walk_list {K : PySem.W.Frag} {G : Hp} {a : Addr} {xs : List V} {ds : List PyData} (hq : SqL K G a xs) (r : RepAll K G xs ds) : Walk K (Itl K a) G ds := by
  intro i G' H' s1 s2
  refine ⟨fun d e => ?_, fun hl => ⟨xs, (s1.trans s2).seq hq, by rw [r.length]; exact hl⟩⟩
  obtain ⟨v, ev, rv⟩ := r.get e
  refine ⟨⟨xs, v, (s1.trans s2).seq hq, ev⟩, fun x H2 ⟨e2, y⟩ => ?_⟩
  subst e2
  have z := y xs ((s1.trans s2).seq hq)
  rw [ev] at z
  cases z
  exact ⟨G', .refl s2, rv.mono s1⟩
theorem walk_tup {K : PySem.W.Frag} {G : Hp} {a : Addr} {xs : List V} {ds : List PyData} (hq : SqT K G a xs) (r : RepAll K G xs ds) : Walk K (Itt K a) G ds := by
  intro i G' H' s1 s2
  refine ⟨fun d e => ?_, fun hl => ⟨xs, seqT (s1.trans s2) hq, by rw [r.length]; exact hl⟩⟩
  obtain ⟨v, ev, rv⟩ := r.get e
  refine ⟨⟨xs, v, seqT (s1.trans s2) hq, ev⟩, fun x H2 ⟨e2, y⟩ => ?_⟩
  subst e2
  have z := y xs (seqT (s1.trans s2) hq)
  rw [ev] at z
  cases z
  exact ⟨G', .refl s2, rv.mono s1⟩
noncomputable def rangeD (lo : Int) (n : Nat) : List PyData := (List.range n).map fun (k : Nat) => .int (lo + (k : Int))
theorem walk_rng {K : PySem.W.Frag} {G : Hp} (lo : Int) (n : Nat) : Walk K (Itr lo n) G (rangeD lo n) := by
  intro i G' H' s1 s2
  unfold rangeD
  refine ⟨fun d e => ?_, fun hl => by rw [List.length_map, List.length_range] at hl; exact hl⟩
  rw [List.getElem?_map] at e
  by_cases hi : i < n
  · rw [List.getElem?_range hi] at e
    cases e
    refine ⟨hi, fun x H2 ⟨e1, e2⟩ => ?_⟩
    subst e1 e2
    exact ⟨G', .refl s2, .int _⟩
  · rw [List.getElem?_eq_none (by simpa using hi)] at e
    cases e
section
variable {X : Cx} {tg iter a b : Expr} {ρ : List Ent} {ds : List PyData} {p pos : Pos}
theorem PI.imp {wi wi' : TI} (h : PI X tg iter wi) (k : ∀ σ H R, wi' σ H R → wi σ H R) : PI X tg iter wi' := fun pins s σ H R I w => h pins s σ H R I (k σ H R w)
theorem pid_list (h : PD X iter ρ (.list ds)) : PID X tg iter ρ ds := ⟨PI.imp (pi_list h.pe) fun σ H R ⟨H0, G₀, G, S, q⟩ => ⟨H0, G₀, G, S, fun v G1 H1 g1 r1 => by
  cases r1 with
  | list hq r => exact ⟨_, rfl, ⟨_, g1.sub.seq hq⟩, q _ _ _ g1 (walk_list hq r)⟩⟩⟩
theorem pid_tup (h : PD X iter ρ (.tuple ds)) : PID X tg iter ρ ds := ⟨PI.imp (pi_tup h.pe) fun σ H R ⟨H0, G₀, G, S, q⟩ => ⟨H0, G₀, G, S, fun v G1 H1 g1 r1 => by
  cases r1 with
  | tuple hq r => exact ⟨_, rfl, ⟨_, seqT g1.sub hq⟩, q _ _ _ g1 (walk_tup hq r)⟩⟩⟩
theorem pid_range1 {n : Int} (hm : X.mg "range" = none) (ha : PD X a ρ (.int n)) (h1 : -(2 ^ 62) ≤ n) (h2 : n < 2 ^ 62) (hs : starEach [a] X.env = [(false, eval a X.env)] := by rfl) (hs' : starEach [a] X.env = (false, eval a X.env) :: starEach [] X.env := by rfl) (hg : Gl X "range" := by rfl) :
    PID X tg (.Call (.Name "range" p) [a] [] pos) ρ (rangeD 0 n.toNat) :=
  ⟨PI.imp (pi_range1 hg hm (pad_cons ha pad_nil hs').pa hs) fun σ H R ⟨H0, G₀, G, S, q⟩ => ⟨H0, G₀, G, S, fun vs G1 H1 g1 r1 => by
    cases r1 with
    | cons r rr =>
      cases rr
      cases r
      exact ⟨n, rfl, h1, h2, q _ _ _ g1 (walk_rng 0 n.toNat)⟩⟩⟩
theorem pid_range2 {m n : Int} (hm : X.mg "range" = none) (ha : PD X a ρ (.int m)) (hb : PD X b ρ (.int n)) (h1 : -(2 ^ 62) ≤ m) (h2 : m < 2 ^ 62) (h3 : -(2 ^ 62) ≤ n) (h4 : n < 2 ^ 62)
    (hs : starEach [a, b] X.env = [(false, eval a X.env), (false, eval b X.env)] := by rfl) (hs2 : starEach [b] X.env = [(false, eval b X.env)] := by rfl)
    (hs' : starEach [a, b] X.env = (false, eval a X.env) :: starEach [b] X.env := by rfl) (hs2' : starEach [b] X.env = (false, eval b X.env) :: starEach [] X.env := by rfl) (hg : Gl X "range" := by rfl) :
    PID X tg (.Call (.Name "range" p) [a, b] [] pos) ρ (rangeD m (n - m).toNat) :=
  ⟨PI.imp (pi_range2 hg hm (pad_cons ha (pad_cons hb pad_nil hs2') hs').pa hs hs2) fun σ H R ⟨H0, G₀, G, S, q⟩ => ⟨H0, G₀, G, S, fun vs G1 H1 g1 r1 => by
    cases r1 with
    | cons r rr =>
      cases rr with
      | cons r' rr =>
        cases rr
        cases r
        cases r'
        exact ⟨m, n, rfl, ⟨h1, h2, h3, h4⟩, q _ _ _ g1 (walk_rng m _)⟩⟩⟩
end
noncomputable def tGD (K : PySem.W.Frag) (ρ : List Ent) (d : PyData) (ρ' : List Ent) : TG := fun v σ H Q => ∃ H0 G₀ G, RepS K H0 G₀ G H σ ρ ∧ Rep K G v d ∧ ∀ σ', RepS K H0 G₀ G H σ' ρ' → Q σ' H
noncomputable def tGsD (K : PySem.W.Frag) (ρ : List Ent) (ds : List PyData) (ρ' : List Ent) : TGs := fun vs σ H Q => ∃ H0 G₀ G, RepS K H0 G₀ G H σ ρ ∧ RepAll K G vs ds ∧ ∀ σ', RepS K H0 G₀ G H σ' ρ' → Q σ' H
structure PGD (X : Cx) (tg : Expr) (ρ : List Ent) (d : PyData) (ρ' : List Ent) : Prop where
  run : PG X tg (tGD X.K ρ d ρ')
structure PGsD (X : Cx) (ts : List Expr) (ρ : List Ent) (ds : List PyData) (ρ' : List Ent) : Prop where
  run : PGs X ts (tGsD X.K ρ ds ρ')
section
variable {X : Cx} {e : Expr} {es : List Expr} {ρ ρ1 ρ2 : List Ent} {d : PyData} {ds : List PyData} {pos : Pos}
theorem pgd_name (i : Nat) {x : Str} (hN : X.N.Nodup) (hi : X.N[i]? = some x := by rfl) (hx : Loc X.env.scope x := by first | exact Or.inl rfl | exact Or.inr rfl) (hf : X.fn x = true ∨ X.env.scope.names.lookup x = some .local := by first | exact .inl rfl | exact .inr rfl) :
    PGD X (.Name x pos) ρ d (ρ.set i (.val d)) := ⟨fun pins s σ H v u Q I r ⟨H0, G₀, G, S, rv, q⟩ => pg_name hN hi hx hf pins s σ H v u Q I r (q _ (S.set rv))⟩
theorem pgsd_nil : PGsD X [] ρ [] ρ := ⟨fun pins s σ H vs us Q I r ⟨H0, G₀, G, S, rv, q⟩ => by
  cases rv
  exact pgs_nil pins s σ H [] us Q I r ⟨rfl, q σ S⟩⟩
theorem pgsd_cons (h1 : PGD X e ρ d ρ1) (h2 : PGsD X es ρ1 ds ρ2) (hs : (assignEach (e :: es) X.env).map (·.2) = assign e X.env :: (assignEach es X.env).map (·.2) := by rfl) : PGsD X (e :: es) ρ (d :: ds) ρ2 := ⟨fun pins s σ H vs us Q I r ⟨H0, G₀, G, S, rv, q⟩ => by
  cases rv with
  | cons r1 r2 => exact pgs_cons h1.run h2.run hs pins s σ H _ us Q I r ⟨_, _, rfl, H0, G₀, G, S, r1, fun σ' S' => ⟨H0, G₀, G, S', r2, q⟩⟩⟩
theorem pgd_tup {k : Nat} (hc : X.calm = true) (h : PGsD X es ρ ds ρ1) (hn : (assignEach es X.env).length = ds.length := by rfl) (hst : (assignEach es X.env).findIdx? (·.1) = none := by rfl) : PGD X (.Tuple es k pos) ρ (.tuple ds) ρ1 := ⟨fun pins s σ H v u Q I r ⟨H0, G₀, G, S, rv, q⟩ => by
  cases rv with
  | tuple hq rr => exact pg_tup hc h.run hn hst pins s σ H _ u Q I r ⟨_, _, rfl, seqT S.sub hq, rr.length, H0, G₀, G, S, rr, q⟩⟩
end
inductive Out where
  | nx (ρ : List Ent)
  | rt (d : PyData)
  | bk (ρ : List Ent)
  | ct (ρ : List Ent)
noncomputable def OutOk (K : PySem.W.Frag) (H0 G₀ G : Hp) (D : Ends) : Out → Prop
  | .nx ρ => ∀ G' H' σ', Same G G' → RepS K H0 G₀ G' H' σ' ρ → D.nx σ' H'
  | .rt d => ∀ v G' H', Same G G' → Grow G₀ H0 G' H' → Rep K G' v d → D.rt v H'
  | .bk ρ => ∀ G' H' σ', Same G G' → RepS K H0 G₀ G' H' σ' ρ → D.bk σ' H'
  | .ct ρ => ∀ G' H' σ', Same G G' → RepS K H0 G₀ G' H' σ' ρ → D.ct σ' H'
noncomputable def tSD (K : PySem.W.Frag) (ρ : List Ent) (o : Out) : TS := fun D σ H => ∃ H0 G₀ G, RepS K H0 G₀ G H σ ρ ∧ OutOk K H0 G₀ G D o
structure PSD (X : Cx) (st : Stmt) (ρ : List Ent) (o : Out) : Prop where
  run : PS X st (tSD X.K ρ o)
inductive Weak : List Ent → List Ent → Prop
  | nil : Weak [] []
  | keep {e : Ent} {a b : List Ent} : Weak a b → Weak (e :: a) (e :: b)
  | no {e : Ent} {a b : List Ent} : Weak a b → Weak (e :: a) (.no :: b)
theorem Weak.refl : ∀ ρ : List Ent, Weak ρ ρ
  | [] => .nil
  | _ :: r => .keep (Weak.refl r)
theorem Weak.at : ∀ {a b : List Ent} {i : Nat} {e : Ent}, Weak a b → b[i]? = some e → e = .no ∨ a[i]? = some e
  | _, _, _, _, .nil, h => by simp at h
  | _, _, 0, e, .keep _, h => .inr (by simpa using h)
  | _, _, 0, e, .no _, h => .inl (by simpa using h.symm)
  | _, _, i + 1, e, .keep w, h => by
    rcases Weak.at (i := i) w (by simpa using h) with z | z
    · exact .inl z
    · exact .inr (by simpa using z)
  | _, _, i + 1, e, .no w, h => by
    rcases Weak.at (i := i) w (by simpa using h) with z | z
    · exact .inl z
    · exact .inr (by simpa using z)
theorem Weak.length : ∀ {a b : List Ent}, Weak a b → a.length = b.length
  | _, _, .nil => rfl
  | _, _, .keep w => by simp [Weak.length w]
  | _, _, .no w => by simp [Weak.length w]
theorem RepS.weak {K : PySem.W.Frag} {H0 G₀ G H : Hp} {σ : St} {ρ ρ' : List Ent} (R : RepS K H0 G₀ G H σ ρ) (w : Weak ρ ρ') : RepS K H0 G₀ G H σ ρ' := by
  refine ⟨R.grow, R.len.trans w.length, fun i o e h1 h2 => ?_, R.inj.sub fun i e h1 h2 => ?_, R.tab⟩
  · rcases w.at h2 with z | z
    · subst z; trivial
    · exact R.ent i o e h1 z
  · rcases w.at h1 with z | z
    · subst z; cases h2
    · exact ⟨z, rfl⟩
section
variable {X : Cx} {st : Stmt} {rest : List Stmt} {ρ ρ1 ρ2 : List Ent} {o : Out} {e c : Expr} {d : PyData} {ds : List PyData} {pos : Pos}
theorem PSD.of {t : TS} (h : PS X st t) (k : ∀ H0 G₀ G σ H D, RepS X.K H0 G₀ G H σ ρ → OutOk X.K H0 G₀ G D o → t D σ H) : PSD X st ρ o := ⟨fun pins s σ H D I ⟨H0, G₀, G, S, q⟩ => h pins s σ H D I (k H0 G₀ G σ H D S q)⟩
end
noncomputable def capE (cap : List (Option Nat)) (ρ : List Ent) : List Ent := cap.map fun o => match o with
  | some j => (match ρ[j]? with | some (.val d) => .val d | _ => .no)
  | none => .no
theorem capE_free (cap : List (Option Nat)) (ρ : List Ent) : ∀ (i : Nat) (e : Ent), (capE cap ρ)[i]? = some e → isOwn e = false := fun i e h => by
  unfold capE at h
  rw [List.getElem?_map] at h
  cases hc : cap[i]? with
  | none => rw [hc] at h; cases h
  | some c =>
    rw [hc] at h
    cases c with
    | none => cases h; rfl
    | some j =>
      have h2 : (match ρ[j]? with | some (Ent.val d) => Ent.val d | _ => Ent.no) = e := Option.some.inj h
      cases hr : ρ[j]? with
      | none => rw [hr] at h2; subst h2; rfl
      | some q => rw [hr] at h2; cases q <;> (subst h2; rfl)
theorem RepS.cap {K : PySem.W.Frag} {H0 G₀ G H : Hp} {σ : St} {ρ : List Ent} (R : RepS K H0 G₀ G H σ ρ) (cap : List (Option Nat)) : RepS K H G G H (capSt cap σ) (capE cap ρ) := by
  refine ⟨.refl R.sub, by simp [capSt, capE], fun i o e h1 h2 => ?_, Inj.free (capE_free cap ρ), R.tab⟩
  · unfold capSt at h1
    unfold capE at h2
    rw [List.getElem?_map] at h1 h2
    cases hc : cap[i]? with
    | none => rw [hc] at h1; cases h1
    | some c =>
      rw [hc] at h1 h2
      cases c with
      | none => cases h2; trivial
      | some j =>
        have h1 : (σ[j]?).getD none = o := Option.some.inj h1
        have h2 : (match ρ[j]? with | some (Ent.val d) => Ent.val d | _ => Ent.no) = e := Option.some.inj h2
        cases hr : ρ[j]? with
        | none => rw [hr] at h2; subst h2; trivial
        | some q =>
          rw [hr] at h2
          cases q with
          | no => subst h2; trivial
          | lst ds => subst h2; trivial
          | exc c => subst h2; trivial
          | nst dss => subst h2; trivial
          | dct kvs => subst h2; trivial
          | val d =>
            subst h2
            obtain ⟨v, e, r⟩ := R.val hr
            rw [e] at h1
            subst h1
            exact ⟨v, rfl, r⟩
section
variable {X : Cx} {elt iter tg : Expr} {ifs : List Expr} {scope : Scope} {pos spos : Pos} {N' : List Str} {cap : List (Option Nat)} {ρ ρb : List Ent} {α : Type} {xs : List α} {φ f : α → PyData} {cnd : α → Bool} {ρx : α → List Ent}
structure PTsD (X : Cx) (ifs : List Expr) (ρ : List Ent) (b : Bool) : Prop where
  run : PTs X ifs (tTD X ρ b)
theorem ptsd_nil : PTsD X [] ρ true := ⟨fun pins s σ H Q I ⟨H0, G₀, G, R, q⟩ => pts_nil pins s σ H Q I (q G H (.refl R.sub))⟩
theorem ptsd_one {c : Expr} {t : Bool} (h : PTD X c ρ t) : PTsD X [c] ρ t := ⟨pts_one h.pt⟩
noncomputable def gU (K : PySem.W.Frag) (xs : List α) (φ : α → PyData) (ρb : List Ent) (ρx : α → List Ent) : TG := fun v σ H Q => ∃ x ∈ xs, tGD K ρb (φ x) (ρx x) v σ H Q
noncomputable def tU (K : PySem.W.Frag) (xs : List α) (ρx : α → List Ent) (cnd : α → Bool) : TT := fun σ H Q => ∃ x ∈ xs, ∃ H0 G₀ G, RepS K H0 G₀ G H σ (ρx x) ∧ ∀ G' H', Grow G H G' H' → Q (cnd x) H'
noncomputable def eU (K : PySem.W.Frag) (xs : List α) (ρx : α → List Ent) (cnd : α → Bool) (f : α → PyData) : TE := fun σ H Q => ∃ x ∈ xs, cnd x = true ∧ ∃ H0 G₀ G, RepS K H0 G₀ G H σ (ρx x) ∧ ∀ v G' H', Grow G H G' H' → Rep K G' v (f x) → Q v H'
noncomputable def eUF (K : PySem.W.Frag) (xs : List α) (ρx : α → List Ent) (cnd : α → Bool) (f : α → PyData) (H0 G₀ : Hp) : TE := fun σ H Q => ∃ x ∈ xs, cnd x = true ∧ ∃ G, RepS K H0 G₀ G H σ (ρx x) ∧ ∀ v G' H', Grow G H G' H' → Rep K G' v (f x) → Q v H'
theorem tcomp_te {J : It} {g : TG} {tc : TT} {te te' : TE} {σ₀ : St} {H : Hp} {Q : VK} (h : ∀ σ H Q, te σ H Q → te' σ H Q) (hg : ∀ x σ H Q Q', (∀ σ H, Q σ H → Q' σ H) → g x σ H Q → g x σ H Q') (ht : ∀ σ H Q Q', (∀ b H, Q b H → Q' b H) → tc σ H Q → tc σ H Q') (t : TComp J g tc te σ₀ H Q) : TComp J g tc te' σ₀ H Q := by
  obtain ⟨W, hW⟩ := t
  refine ⟨W, fun D hD => ⟨(hW D hD).1, fun i m ys σ1 H1 w h1 => ?_⟩⟩
  rcases (hW D hD).2 i m ys σ1 H1 w h1 with z | ⟨go, z⟩
  · exact .inl z
  · refine .inr ⟨go, fun x H2 y => hg _ _ _ _ _ (fun σ3 H3 q3 => ht _ _ _ _ (fun b H4 q4 => ?_) q3) (z x H2 y)⟩
    cases b with
    | true => rw [if_pos rfl] at q4 ⊢; exact h _ _ _ q4
    | false => rw [if_neg (by decide)] at q4 ⊢; exact q4
theorem tcompF {K : PySem.W.Frag} {J : It} {H0 G₀ G H : Hp} {σ : St} {Q : VK} (R : RepS K H0 G₀ G H σ ρ) (wk : Walk K J G (xs.map φ)) (hb : Weak (capE cap ρ) ρb) (hw : ∀ x ∈ xs, Weak (ρx x) ρb) (hz : xs.length ≤ sizeLine)
    (q : ∀ D ys G' H', Grow G H G' H' → G' D = some (.lst ys) → H D = none → RepAll K G' ys ((xs.filter cnd).map f) → Q (.ref D) H') : TComp J (gU K xs φ ρb ρx) (tU K xs ρx cnd) (eUF K xs ρx cnd f H G) (capSt cap σ) H Q := by
  refine ⟨fun D i m ys σ' H' => m = xs.length - i ∧ i ≤ xs.length ∧ ∃ G', RepS K H G G' H' σ' ρb ∧ G' D = none ∧ RepAll K G' ys (((xs.take i).filter cnd).map f), fun D hD => ⟨⟨xs.length, by simp, Nat.zero_le _, G, ?_, R.sub.free hD, by simpa using RepAll.nil⟩, ?_⟩⟩
  · exact ((R.cap cap).more (.side R.sub hD)).weak hb
  · rintro i m ys σ1 H1 ⟨rfl, hi, G1, R1, hG1, ra⟩ hD1
    obtain ⟨wgo, wstop⟩ := wk i G1 H1 R1.grow.gg R1.sub
    by_cases hlt : i < xs.length
    · have hx : xs[i]? = some xs[i] := List.getElem?_eq_getElem hlt
      have hm : xs[i] ∈ xs := List.getElem_mem hlt
      obtain ⟨go, yl⟩ := wgo (φ xs[i]) (by rw [List.getElem?_map, hx]; rfl)
      have tk : (xs.take (i + 1)).filter cnd = (xs.take i).filter cnd ++ (if cnd xs[i] = true then [xs[i]] else []) := by
        rw [List.take_succ, hx, List.filter_append]
        cases hcx : cnd xs[i] <;> simp [hcx]
      refine .inr ⟨go, fun x H2 y => ?_⟩
      obtain ⟨G2, g2, rx⟩ := yl x H2 y
      refine ⟨xs[i], hm, H, G, G2, R1.more g2, rx, fun σ3 R3 => ⟨xs[i], hm, H, G, G2, R3, fun G4 H4 g4 => ?_⟩⟩
      have g14 := g2.trans g4
      have hD4 : H4 D = some (.lst ys) := g14.hh.lst hD1
      have hG4 : G4 D = none := g14.new D hG1 (by rw [hD1]; simp)
      dsimp only
      by_cases hcx : cnd xs[i] = true
      · rw [if_pos hcx]
        refine ⟨xs[i], hm, hcx, G4, R3.more g4, fun v G5 H5 g5 rv => ?_⟩
        have hD5 : H5 D = some (.lst ys) := g5.hh.lst hD4
        have hG5 : G5 D = none := g5.new D hG4 (by rw [hD4]; simp)
        have hlen : ys.length < sizeLine := by
          have h1 := ra.length
          have h2 : (((xs.take i).filter cnd).map f).length ≤ i := by
            rw [List.length_map]
            exact Nat.le_trans (List.length_filter_le _ _) (by rw [List.length_take]; omega)
          omega
        refine ⟨hD5, hlen, xs.length - (i + 1), by omega, rfl, hlt, G5, ?_, hG5, ?_⟩
        · have R5 : RepS K H G G5 H5 σ3 ρb := ((R3.more g4).more g5).weak (hw _ hm)
          -- the list at D has one item more; nothing else speaks of D
          have noOwn : ∀ (j : Nat) (e : Ent), ρb[j]? = some e → isOwn e = false := fun j e h2 => by
            rcases hb.at h2 with z' | z'
            · rw [z']; rfl
            · exact capE_free cap ρ j e z'
          have hHD : H D = none := hD
          refine ⟨⟨R5.grow.gg, R5.grow.hh.wr hHD hD5, fun b o e => ?_, R5.grow.new, R5.grow.nt⟩, R5.len, fun j o e h1 h2 => ?_, Inj.free (fun j e h2 => noOwn j e h2), R5.tab.wr hD5⟩
          · rw [upd_ne (ne_of_none e hG5)]; exact R5.sub b o e
          · have E := R5.ent j o e h1 h2
            cases e with
            | no => trivial
            | val d => exact E
            | exc c => obtain ⟨b, C, z, g1, g2⟩ := E; exact ⟨b, C, z, g1, by rw [upd_ne (ne_of g2 hD5 (by unfold xcO; nofun))]; exact g2⟩
            | lst es => have := noOwn j _ h2; cases this
            | nst dss => have := noOwn j _ h2; cases this
            | dct kvs => have := noOwn j _ h2; cases this
        · rw [tk, if_pos hcx, List.map_append]
          exact (ra.mono ((g14.trans g5).gg)).append (.cons rv .nil)
      · rw [if_neg hcx]
        refine ⟨hD4, xs.length - (i + 1), by omega, rfl, hlt, G4, (R3.more g4).weak (hw _ hm), hG4, ?_⟩
        rw [tk, if_neg hcx, List.append_nil]
        exact ra.mono g14.gg
    · refine .inl ⟨wstop (by rw [List.length_map]; omega), ?_⟩
      have hi' : i = xs.length := by omega
      subst hi'
      rw [List.take_length] at ra
      have sD : Same G1 (upd G1 D (.lst ys)) := same_upd hG1
      refine q D ys (upd G1 D (.lst ys)) H1 ⟨R1.grow.gg.trans sD, R1.grow.hh, fun b o e => ?_, fun b e n => ?_, fun n => (R1.grow.nt n).upd (by nofun)⟩ upd_same hD (ra.mono sD)
      · by_cases hbD : b = D
        · subst hbD; rw [upd_same] at e; cases e; exact hD1
        · rw [upd_ne hbD] at e; exact R1.sub b o e
      · rw [upd_ne (fun z => n (by rw [z]; exact hD))]
        exact R1.grow.new b e n
theorem tcomp_new {K : PySem.W.Frag} {J : It} {H0 G₀ G H : Hp} {σ : St} {Q : VK} (R : RepS K H0 G₀ G H σ ρ) (wk : Walk K J G (xs.map φ)) (hb : Weak (capE cap ρ) ρb) (hw : ∀ x ∈ xs, Weak (ρx x) ρb) (hz : xs.length ≤ sizeLine)
    (q : ∀ D ys G' H', Grow G H G' H' → G' D = some (.lst ys) → H D = none → RepAll K G' ys ((xs.filter cnd).map f) → Q (.ref D) H') : TComp J (gU K xs φ ρb ρx) (tU K xs ρx cnd) (eU K xs ρx cnd f) (capSt cap σ) H Q :=
  tcomp_te (t := tcompF R wk hb hw hz q) (fun σ H' Q' ⟨x, hx, hc, G', R', q'⟩ => ⟨x, hx, hc, H, G, G', R', q'⟩) (fun v σ H' Q1 Q2 h ⟨x, hx, H1, G1, G2, R2, r2, q2⟩ => ⟨x, hx, H1, G1, G2, R2, r2, fun σ3 R3 => h _ _ (q2 σ3 R3)⟩)
    fun σ H' Q1 Q2 h ⟨x, hx, H1, G1, G2, R2, q2⟩ => ⟨x, hx, H1, G1, G2, R2, fun G4 H4 g4 => h _ _ (q2 G4 H4 g4)⟩
theorem tcomp_of {K : PySem.W.Frag} {J : It} {H0 G₀ G H : Hp} {σ : St} {Q : VK} (R : RepS K H0 G₀ G H σ ρ) (wk : Walk K J G (xs.map φ)) (hb : Weak (capE cap ρ) ρb) (hw : ∀ x ∈ xs, Weak (ρx x) ρb) (hz : xs.length ≤ sizeLine)
    (q : ∀ v G' H', Grow G H G' H' → Rep K G' v (.list ((xs.filter cnd).map f)) → Q v H') : TComp J (gU K xs φ ρb ρx) (tU K xs ρx cnd) (eU K xs ρx cnd f) (capSt cap σ) H Q :=
  tcomp_new R wk hb hw hz fun D ys G' H' g h _ ra => q _ G' H' g (.list (.of h) ra)
theorem pd_comp (hc : X.calm = true) (B : Blk X scope N' cap) (hi : PID X tg iter ρ (xs.map φ)) (hb : Weak (capE cap ρ) ρb) (hw : ∀ x ∈ xs, Weak (ρx x) ρb) (hz : xs.length ≤ sizeLine)
    (hg : ∀ C s₃ H₃ fp x, x ∈ xs → PGD (blkCx X scope N' C s₃ H₃ fp) tg ρb (φ x) (ρx x))
    (ht : ∀ C s₃ H₃ fp x, x ∈ xs → PTsD (blkCx X scope N' C s₃ H₃ fp) ifs (ρx x) (cnd x))
    (he : ∀ C s₃ H₃ fp x, x ∈ xs → cnd x = true → PD (blkCx X scope N' C s₃ H₃ fp) elt (ρx x) (f x))
    (hs : ∀ x, foldedSetIterable iter X.env x = pure x := by intro _; rfl) : PD X (.ListComp elt [⟨tg, iter, ifs, 0⟩] scope pos) ρ (.list ((xs.filter cnd).map f)) :=
  .of (pe_comp (g := gU X.K xs φ ρb ρx) (tc := tU X.K xs ρx cnd) (te := eU X.K xs ρx cnd f) hc B hi.run (fun C s₃ H₃ fp pins s σ H v u Q I r ⟨x, hx, q⟩ => (hg C s₃ H₃ fp x hx).run pins s σ H v u Q I r q)
    (fun C s₃ H₃ fp pins s σ H Q I ⟨x, hx, q⟩ => (ht C s₃ H₃ fp x hx).run pins s σ H Q I q) (fun C s₃ H₃ fp pins s σ H Q I ⟨x, hx, hcx, H0, G₀, G, R, q⟩ => (he C s₃ H₃ fp x hx hcx).run H0 G₀ G pins s σ H Q I R q) hs)
    fun H0 G₀ G σ H Q R q => ⟨H0, G₀, G, R, fun J G' H' g wk => tcomp_of (R.more g) wk hb hw hz fun v G2 H2 g2 r2 => q v G2 H2 (g.trans g2) r2⟩
theorem psd_setC (i : Nat) {x : Str} {p : Pos} (hN : X.N.Nodup) (hc : X.calm = true) (B : Blk X scope N' cap) (hi : PID X tg iter ρ (xs.map φ)) (hb : Weak (capE cap ρ) ρb) (hw : ∀ x ∈ xs, Weak (ρx x) ρb) (hz : xs.length ≤ sizeLine)
    (hg : ∀ C s₃ H₃ fp x, x ∈ xs → PGD (blkCx X scope N' C s₃ H₃ fp) tg ρb (φ x) (ρx x))
    (ht : ∀ C s₃ H₃ fp x, x ∈ xs → PTsD (blkCx X scope N' C s₃ H₃ fp) ifs (ρx x) (cnd x))
    (he : ∀ C s₃ H₃ fp x, x ∈ xs → cnd x = true → PD (blkCx X scope N' C s₃ H₃ fp) elt (ρx x) (f x))
    (hxi : X.N[i]? = some x := by rfl) (hx : X.env.scope.names.lookup x = some .local := by rfl)
    (hsw : swapsWith (.ListComp elt [⟨tg, iter, ifs, 0⟩] scope pos) (some (.Name x p)) spos.line X.env = pure true := by rfl)
    (hs : ∀ x, foldedSetIterable iter X.env x = pure x := by intro _; rfl) : PSD X (.Assign [.Name x p] (.ListComp elt [⟨tg, iter, ifs, 0⟩] scope pos) spos) ρ (.nx (ρ.set i (.val (.list ((xs.filter cnd).map f))))) :=
  .of (ps_setC (g := gU X.K xs φ ρb ρx) (tc := tU X.K xs ρx cnd) (te := eU X.K xs ρx cnd f) hN hxi hx hc B hi.run (fun C s₃ H₃ fp pins s σ H v u Q I r ⟨x, hx, q⟩ => (hg C s₃ H₃ fp x hx).run pins s σ H v u Q I r q)
    (fun C s₃ H₃ fp pins s σ H Q I ⟨x, hx, q⟩ => (ht C s₃ H₃ fp x hx).run pins s σ H Q I q) (fun C s₃ H₃ fp pins s σ H Q I ⟨x, hx, hcx, H0, G₀, G, R, q⟩ => (he C s₃ H₃ fp x hx hcx).run H0 G₀ G pins s σ H Q I R q) hsw hs)
    fun H0 G₀ G σ H D R q => ⟨H0, G₀, G, R, fun J G' H' g wk => tcomp_of (R.more g) wk hb hw hz fun v G2 H2 g2 r2 => q G2 H2 _ (g.gg.trans g2.gg) (((R.more g).more g2).set r2)⟩
end
noncomputable def startE (N : List Str) (ds : List PyData) : List Ent := ds.map .val ++ List.replicate (N.length - ds.length) .no
theorem startE_ok {K : PySem.W.Frag} {G H : Hp} {N : List Str} {vs : List V} {ds : List PyData} (s : Same G H ∧ Tabs K G H) (r : RepAll K G vs ds) : RepS K H G G H (start N vs) (startE N ds) := by
  have hl := r.length
  refine ⟨.refl s.1, by simp [start, startE, hl], fun i o e h1 h2 => ?_, Inj.free (fun i e h2 => ?_), s.2⟩
  · unfold startE at h2
    unfold start at h1
    by_cases hi : i < ds.length
    · rw [List.getElem?_append_left (by simpa using hi), List.getElem?_map] at h2
      rw [List.getElem?_append_left (by simp; omega), List.getElem?_map] at h1
      rw [List.getElem?_eq_getElem hi] at h2
      obtain ⟨v, ev, rv⟩ := r.get (List.getElem?_eq_getElem hi)
      rw [ev] at h1
      cases h1; cases h2
      exact ⟨v, rfl, rv⟩
    · rw [List.getElem?_append_right (by simpa using hi), List.getElem?_replicate] at h2
      split at h2
      · cases h2; trivial
      · cases h2
  · unfold startE at h2
    by_cases hi : i < ds.length
    · rw [List.getElem?_append_left (by simpa using hi), List.getElem?_map, List.getElem?_eq_getElem hi] at h2
      cases h2; rfl
    · rw [List.getElem?_append_right (by simpa using hi), List.getElem?_replicate] at h2
      split at h2
      · cases h2; rfl
      · cases h2
section
variable {P : Program} {w : World} {K : PySem.W.Frag} {mg : Str → Option Value} {base : Heap}
noncomputable abbrev fcx (P : Program) (w : World) (K : PySem.W.Frag) (mg : Str → Option Value) (base : Heap) (N : List Str) (qual : Str) (scope : Scope) (f : Addr) (cd : Value) (A : Around) (outer : List Env) (s : Shared) (H : Hp) (E : XK) : Cx := (cxOf CX0 P w K mg base N qual scope f cd A outer s H E).nox
end
end L2.L3
namespace L2.L3
open PySem PySem.Spec PyProof.Rows
section
variable {prog : Program} {w : World} {A : Around} {E : Value → Shared → Prop} {s : Shared} {l : Addr} {us : List Value} {ns : List Int} {Q : Value → Shared → Prop}
end
section
variable {X : Cx}
variable {e a b c : Expr} {es : List Expr} {ρ : List Ent} {d : PyData} {ds : List PyData} {pos p : Pos}
noncomputable def maxI : List Int → Int
  | [] => 0
  | a :: r => r.foldl max a
noncomputable def minI : List Int → Int
  | [] => 0
  | a :: r => r.foldl min a
noncomputable def rCatS (K : PySem.W.Frag) : R2 := fun x y H Q => ∃ l b xs zs, x = .ref l ∧ y = .ref b ∧ SqL K H l xs ∧ SqL K H b zs ∧ xs.length + zs.length ≤ sizeLine ∧ ∀ p, H p = none → Q (.ref p) (upd H p (.lst (xs ++ zs)))
end
end L2.L3
namespace L2.L3
open PySem PySem.Spec PyProof.Rows
noncomputable def blkOk (so : Scope) (NN : List Str) (scope : Scope) (N' : List Str) (cap : List (Option Nat)) : Bool :=
  decide (scope.kind = .function) && scope.names.all (fun y => decide (y.2 = .cell → scope.names.lookup y.1 = some .cell)) && scope.names.all (fun y => decide (y.2 = .local → scope.names.lookup y.1 = some .local))
    && scope.names.all (fun y => decide (y.2 = .free → so.names.lookup y.1 = some .cell))
    && (List.range cap.length).all (fun i => match cap[i]? with
      | some (some j) => (match N'[i]?, NN[j]? with | some x, some y => decide (x = y ∧ scope.names.lookup x = some .free) | _, _ => false)
      | _ => true)
    && decide (cap.length = N'.length) && decide N'.Nodup
theorem blk_of {X : Cx} {scope so : Scope} {N' NN : List Str} {cap : List (Option Nat)} (hs : X.env.scope = so) (hN : X.N = NN) (h : blkOk so NN scope N' cap = true) : Blk X scope N' cap := by
  unfold blkOk at h
  simp only [Bool.and_eq_true, decide_eq_true_eq, List.all_eq_true] at h
  obtain ⟨⟨⟨⟨⟨⟨h1, h2⟩, h3⟩, h4⟩, h5⟩, h6⟩, h7⟩ := h
  refine ⟨h1, h2, h3, fun y hy hk => ?_, fun i j hij => ?_, h6, h7⟩
  · show X.env.scope.names.lookup y.1 = some .cell
    rw [hs]
    exact h4 y hy hk
  · have hi : i < cap.length := (List.getElem?_eq_some_iff.mp hij).1
    have q := h5 i (List.mem_range.mpr hi)
    rw [hij] at q
    dsimp only at q
    cases e1 : N'[i]? with
    | none => rw [e1] at q; cases q
    | some x =>
      rw [e1] at q
      cases e2 : NN[j]? with
      | none => rw [e2] at q; cases q
      | some y =>
        rw [e2] at q
        have q' : x = y ∧ scope.names.lookup x = some .free := of_decide_eq_true q
        exact ⟨x, rfl, by rw [hN, e2, q'.1], q'.2⟩
section
variable {X : Cx} {e a b c : Expr} {es : List Expr} {ρ : List Ent} {d da db dc : PyData} {ds : List PyData} {pos p : Pos}
end
end L2.L3
namespace L2.L3
open PySem PySem.Spec PyProof.Rows
section
variable {prog : Program} {w : World} {A : Around} {R : Result → Shared → Prop} {I S : Addr} {fp wr : List Addr} {n : Nat} {P : Nat → Value → Prop} {St : Nat → Heap → Prop} {kw : List (Str × Value)}
end
end L2.L3
namespace L2.L3
open PySem PySem.Spec PyProof.Rows
section
variable {prog : Program} {w : World} {A : Around} {E : Value → Shared → Prop} {s : Shared} {l : Addr} {us : List Value} {ns : List Int} {Q : Value → Shared → Prop}
end
end L2.L3
namespace L2.L3
open PySem PySem.Spec PyProof.Rows
section
variable {X : Cx} {a b : Expr} {ρ : List Ent} {db : PyData} {pos p kp : Pos}
end
end L2.L3
namespace L2.L3
open PySem PySem.Spec PyProof.Rows
section
variable {X : Cx}
theorem op_catS : OpR X (binaryOp .Add) (rCatS X.K) := by
  intro pins s σ H x y v u Q I rx ry ⟨l, b, xs, zs, e1, e2, h1, h2, hz, q⟩
  subst e1 e2
  cases rx
  cases ry
  obtain ⟨its, r1, p1, _⟩ := I.list h1
  obtain ⟨its2, r2, p2, _⟩ := I.list h2
  obtain ⟨⟨c1, d1, t1, sl1⟩, n1, g1, k1, _, m1⟩ := p1
  obtain ⟨⟨c2, d2, t2, sl2⟩, n2, g2, k2, _, m2⟩ := p2
  dsimp only at k1 m1 k2 m2
  subst k1 m1 k2 m2
  have hz' : its.toArray.size + its2.toArray.size ≤ sizeLine := by rw [List.size_toArray, List.size_toArray, ← r1.length, ← r2.length]; exact hz
  refine concat_meets ⟨_, g1, rfl⟩ ⟨_, g2, rfl⟩ noFill_list_add seq_list_add F.slot_list_add F.entry_list_add (F.args_list_add_2 _ _) (list_addW l b _ _ n1 n2 d1 d2 sl1 sl2 hz') ⟨g1, g2, ?_⟩
  have ea : its.toArray ++ its2.toArray = (its ++ its2).toArray := by simp
  rw [ea]
  exact ⟨.ref _, _, I.lnew (t' := s.toks) (r1.append r2) (by rw [List.length_append]; exact hz), rfl, q _ I.fresh⟩
noncomputable def rCatU (K : PySem.W.Frag) : R2 := fun x y H Q => ∃ l b xs zs, x = .ref l ∧ y = .ref b ∧ SqT K H l xs ∧ SqT K H b zs ∧ xs.length + zs.length ≤ sizeLine ∧
  (xs = [] → Q (.ref b) H) ∧ (xs ≠ [] → zs = [] → Q (.ref l) H) ∧ (xs ≠ [] → zs ≠ [] → ∀ p, H p = none → Q (.ref p) (upd H p (.tup (xs ++ zs))))
theorem op_catU : OpR X (binaryOp .Add) (rCatU X.K) := by
  intro pins s σ H x y v u Q I rx ry ⟨l, b, xs, zs, e1, e2, h1, h2, hz, q0, q1, q2⟩
  by_cases hx : xs = []
  · subst e1 e2
    cases rx
    cases ry
    obtain ⟨its, r1, p1, _⟩ := I.tuple h1
    obtain ⟨its2, r2, p2, _⟩ := I.tuple h2
    obtain ⟨⟨c1, d1, t1, sl1⟩, g1, k1, n1, m1⟩ := p1
    obtain ⟨⟨c2, d2, t2, sl2⟩, g2, k2, n2, m2⟩ := p2
    dsimp only at k1 m1 k2 m2
    subst k1 m1 k2 m2
    have hi : its = [] := by
      subst hx
      cases r1
      rfl
    refine concat_meets ⟨_, g1, rfl⟩ ⟨_, g2, rfl⟩ noFill_tuple_add seq_tuple_add F.slot_tuple_add F.entry_tuple_add (F.args_tuple_add_2 _ _) (tuple_addW0 l b _ _ n1 n2 d1 d2 sl1 sl2 (by rw [hi]; rfl)) ⟨g1, g2, ?_⟩
    exact ⟨.ref b, H, I, rfl, q0 hx⟩
  · exact op_catT pins s σ H x y v u Q I rx ry ⟨l, b, xs, zs, e1, e2, h1, h2, hx, hz, q1 hx, q2 hx⟩
variable {e a b c o : Expr} {es : List Expr} {ρ : List Ent} {d da db dc : PyData} {ds : List PyData} {pos p : Pos}
theorem pd_bm {T id : String} {name : Str} {r : V → List V → Hp → VK → Prop} {apos cpos : Pos} (pa : PlainAttrs T) (slot : Slot T name id) (hty : typeOf (.builtin id) = pure (.type "method_descriptor")) (hm : MtR X id r)
    (ho : PD X o ρ da) (ha : PAD X (e :: es) ρ ds) (ht : ∀ x G H, Same G H → Rep X.K G x da → tyV X.K T x H)
    (k : ∀ x vs G H Q, Same G H → Rep X.K G x da → RepAll X.K G vs ds → (∀ v G' H', Grow G H G' H' → Rep X.K G' v d → Q v H') → r x vs H Q)
    (hbase : attributeBase o name X.env (eval o X.env) = eval o X.env := by rfl)
    (hfew : ((backTo cpos (starEach (e :: es) X.env)).all (fun x => !x.1) && (backToKw cpos (keywordEach [] X.env)).all (fun x => x.1.isSome)
      && decide ((e :: es).length + ([] : List Keyword).length + (if ([] : List Keyword).isEmpty then 0 else 1) < 30)) = true := by rfl)
    (hline : (apos.endLine == cpos.line) = true := by rfl) (hs : starEach (e :: es) X.env = (false, eval e X.env) :: starEach es X.env := by rfl) (hplain : (backTo cpos (starEach es X.env)).any (·.1) = false := by rfl) :
    PD X (.Call (.Attribute o name apos) (e :: es) [] cpos) ρ d :=
  .of (pe_bm pa slot hty hm ho.pe ha.pa hbase hfew hline hs hplain) fun H0 G₀ G σ H Q R q => ⟨H0, G₀, G, R, fun x G1 H1 g1 r1 => ⟨ht x G1 H1 g1.sub r1, H0, G₀, G1, R.more g1, fun vs G2 H2 g2 r2 =>
    k x vs G2 H2 Q g2.sub (r1.mono g2.gg) r2 fun v G3 H3 g3 r3 => q v G3 H3 (g1.trans (g2.trans g3)) r3⟩⟩
theorem cmp_eqI {i j : Int} : CmpD X .Eq (.int i) (.int j) (decide (i = j)) := ⟨_, op_eq, fun x y G H Q _ rx ry q => by cases rx; cases ry; exact ⟨rfl, by simpa using q⟩⟩
theorem cmp_neI {i j : Int} : CmpD X .NotEq (.int i) (.int j) (!decide (i = j)) := ⟨_, op_ne, fun x y G H Q _ rx ry q => by cases rx; cases ry; exact ⟨rfl, by simpa using q⟩⟩
theorem cmp_eqS {i j : Str} : CmpD X .Eq (.str i) (.str j) (decide (i = j)) := ⟨_, op_eq, fun x y G H Q _ rx ry q => by cases rx; cases ry; exact ⟨rfl, by simpa using q⟩⟩
theorem cmp_neS {i j : Str} : CmpD X .NotEq (.str i) (.str j) (!decide (i = j)) := ⟨_, op_ne, fun x y G H Q _ rx ry q => by cases rx; cases ry; exact ⟨rfl, by simpa using q⟩⟩
theorem cmp_eqB {i j : Bool} : CmpD X .Eq (.bool i) (.bool j) (decide (i = j)) := ⟨_, op_eq, fun x y G H Q _ rx ry q => by cases rx; cases ry; exact ⟨rfl, by simpa using q⟩⟩
theorem cmp_neB {i j : Bool} : CmpD X .NotEq (.bool i) (.bool j) (!decide (i = j)) := ⟨_, op_ne, fun x y G H Q _ rx ry q => by cases rx; cases ry; exact ⟨rfl, by simpa using q⟩⟩
end
end L2.L3
namespace L2.L3
open PySem PySem.Spec PyProof.Rows
structure Callee (P : Program) (w : World) (K : PySem.W.Frag) (mg : Str → Option Value) (base : Heap) (x : Str) (k : Nat) (ps : List Str) (Fn : List PyData → PyData → Prop) : Prop where
  ex : ∃ f fd, mg x = some (.ref f) ∧ PySem.W.keepIn K (.ref f) = true ∧ Binds K fd ps [] ∧ FnOk P w K mg base CX0 k f fd ps (spD K Fn)
structure Def (K : PySem.W.Frag) (mg : Str → Option Value) (x : Str) (st : Stmt) : Prop where
  ex : ∃ f fd, Fun K x x st f fd ∧ mg x = some (.ref f)
theorem def_mk {K : PySem.W.Frag} {h : Heap} {mg : Str → Option Value} {x : Str} {st : Stmt} {f : Addr} {oc : Value} {od an : Option Addr} {sl : Array (Option Value)} {kV doc pm cdv ct : Value} (X : K.In h) (G : h.Ns mainGlobals mg)
    (a : PySem.W.nsIn K mainGlobals x = some (some (.ref f))) (l : K.lookup f = some ⟨oc, od, .func (PySem.W.fnOf x x (defArgs st) (defBody st) (defScope st) .none kV doc pm an cdv ct), sl⟩) (c : PySem.W.codeIn K cdv x = true) (k : PySem.W.keepIn K (.ref f) = true) :
    Def K mg x st := ⟨f, _, fun_mk l c k, PySem.W.mg_of X G a⟩
section
variable {P : Program} {w : World} {K : PySem.W.Frag} {mg : Str → Option Value} {base : Heap} {X : Cx} {e : Expr} {es : List Expr} {ρ : List Ent} {d : PyData} {ds : List PyData} {pos p : Pos} {x : Str} {k : Nat} {ps N : List Str} {Fn : List PyData → PyData → Prop}
end
theorem eqv_list (a b : List PyData) : PyData.eqv (.list a) (.list b) = PyData.eqvAll a b := by rw [PyData.eqv]
theorem canLayAll_of {ds : List PyData} (h : ∀ d ∈ ds, PyData.canLay0 d = true) : PyData.canLayAll0 ds = true := by
  induction ds with
  | nil => rfl
  | cons d r ih =>
    rw [PyData.canLayAll0, h d List.mem_cons_self, ih fun e he => h e (List.mem_cons_of_mem _ he)]
    rfl
theorem depthAll_of {ds : List PyData} {n : Nat} (h : ∀ d ∈ ds, PyData.depth d ≤ n) : PyData.depthAll ds ≤ n := by
  induction ds with
  | nil => simp [PyData.depthAll]
  | cons d r ih =>
    have h1 := h d List.mem_cons_self
    have h2 := ih fun e he => h e (List.mem_cons_of_mem _ he)
    simp only [PyData.depthAll]
    omega
theorem shaped_of {d : PyData} {n : Nat} (h1 : PyData.canLay0 d = true) (h2 : PyData.depth d ≤ n) (h3 : n ≤ 64) : SeqAt.shaped d = true := by
  unfold SeqAt.shaped
  rw [h1, Bool.true_and]
  exact decide_eq_true (Nat.le_trans h2 h3)
end L2.L3
namespace L2.L3
open PySem PySem.Spec PyProof.Rows
section
variable {X : Cx} {e a b c o : Expr} {es : List Expr} {ρ : List Ent} {d da db dc : PyData} {ds : List PyData} {pos p p2 : Pos}
noncomputable def cutD (xs : List PyData) (lo hi : Option Int) : List PyData := (xs.drop (HT.sIx xs.length 0 lo)).take (HT.sIx xs.length xs.length hi - HT.sIx xs.length 0 lo)
theorem cutD_rep {K : PySem.W.Frag} {G : Hp} {xs : List V} (r : RepAll K G xs ds) (lo hi : Option Int) : RepAll K G (cutV xs lo hi) (cutD ds lo hi) := by
  unfold cutV cutD
  rw [r.length]
  exact (r.drop _).take _
theorem inV_ints {ns : List Int} {i : Int} : inV (.int i) (ns.map V.int) = decide (i ∈ ns) := by
  unfold inV
  induction ns with
  | nil => rfl
  | cons a r ih =>
    rw [List.map_cons, List.any_cons, ih]
    have e : eqV (.int a) (.int i) = decide (a = i) := rfl
    rw [e]
    by_cases h : a = i
    · subst h; simp
    · have h' : ¬ i = a := fun z => h z.symm
      simp [h, h']
theorem inV_strs {ns : List Str} {i : Str} : inV (.str i) (ns.map V.str) = decide (i ∈ ns) := by
  unfold inV
  induction ns with
  | nil => rfl
  | cons a r ih =>
    rw [List.map_cons, List.any_cons, ih]
    have e : eqV (.str a) (.str i) = (a == i) := rfl
    rw [e]
    by_cases h : a = i
    · subst h; simp
    · have h' : ¬ i = a := fun z => h z.symm
      simp [h, h']
theorem flat_ints (ns : List Int) : (ns.map V.int).all flatV = true := by simp [flatV]
theorem flat_strs (ns : List Str) : (ns.map V.str).all flatV = true := by simp [flatV]
end
end L2.L3
namespace L2.L3
open PySem PySem.Spec PyProof.Rows
noncomputable def tyD : PyData → String
  | .none => "NoneType"
  | .bool _ => "bool"
  | .int _ => "int"
  | .str _ => "str"
  | .list _ => "list"
  | .tuple _ => "tuple"
  | .dict _ => "dict"
example (K : PySem.W.Frag) : PySem.W.kitOne K (.type "int") (.type "int") = some true := by rfl
example (K : PySem.W.Frag) : PySem.W.kitOne K (.type "bool") (.type "int") = some true := by rfl
example (K : PySem.W.Frag) : PySem.W.kitOne K (.type "str") (.type "int") = some false := by rfl
section
variable {X : Cx} {e a b c o : Expr} {es : List Expr} {ρ : List Ent} {d da db dc : PyData} {ds : List PyData} {pos p p2 : Pos}
theorem isinst_D {pins : List (Addr × Obj)} {σ : St} {H : Hp} {s : Shared} {A : Around} {E : Value → Shared → Prop} {Q : Value → Shared → Prop} {cv u : Value} {t : Bool} {v : V} (I : Inv X pins σ H s) (r : Rep X.K H v d) (rx : RelV v u)
    (e : PySem.W.kitOne X.K (.type (tyD d)) cv = some t) (h : ∀ tk, Q (.bool t) { s with toks := tk }) : wpAny (model X.prog X.w) A (call (.builtin "isinstance") [u, cv]) Q E s := by
  cases r with
  | none => exact isinst_ok I rx .non e h
  | bool x => exact isinst_ok I rx (.bl x) e h
  | int x => exact isinst_ok I rx (.int x) e h
  | str x => exact isinst_ok I rx (.str x) e h
  | list hq ra =>
    cases rx
    obtain ⟨its, _, ⟨o, n, e1, e2, _⟩, _⟩ := I.list hq
    exact PySem.W.kia_one PySem.W.kitx_list I.kIn ⟨o, e1, e2⟩ e (fun z => nomatch z) h
  | tuple hq ra =>
    cases rx
    obtain ⟨its, _, ⟨o, e1, e2, _⟩, _⟩ := I.tuple hq
    exact PySem.W.kia_one PySem.W.kitx_tuple I.kIn ⟨o, e1, e2⟩ e (fun z => nomatch z) h
  | dict hq _ _ => exact isinst_ok I rx (.dK hq) e h
end
end L2.L3
namespace L2.L3
open PySem PySem.Spec PyProof.Rows
section
variable {X : Cx} {e a b c o : Expr} {es : List Expr} {ρ : List Ent} {d da db dc : PyData} {ds : List PyData} {pos p p2 : Pos}
theorem repAll_intsG {K : PySem.W.Frag} {G : Hp} : ∀ ns : List Int, RepAll K G (ns.map V.int) (ns.map .int)
  | [] => .nil
  | _ :: r => .cons (.int _) (repAll_intsG r)
noncomputable def sortI (ns : List Int) : List Int := ns.mergeSort (fun a b => decide (a ≤ b))
theorem sortI_perm (ns : List Int) : (sortI ns).Perm ns := List.mergeSort_perm _ _
theorem sortI_sorted (ns : List Int) : (sortI ns).Pairwise (· ≤ ·) := by
  have h := List.pairwise_mergeSort (le := fun (a b : Int) => decide (a ≤ b)) (fun a b c h1 h2 => by simp only [decide_eq_true_eq] at *; omega) (fun a b => by simp only [Bool.or_eq_true, decide_eq_true_eq]; omega) ns
  exact h.imp fun h => by simpa using h
theorem sortI_eq {ns ms : List Int} (hp : ms.Perm ns) (hs : ms.Pairwise (· ≤ ·)) : ms = sortI ns := PySem.W.ksm_same (hp.trans (sortI_perm ns).symm) hs (sortI_sorted ns)
theorem call_sortedI : CallR X (.builtin "sorted") (fun xs H Q => ∃ (p : Addr) (ns : List Int), xs = [.ref p] ∧ SqL X.K H p (ns.map V.int) ∧ ns.length < 64 ∧ ∀ l, H l = none → Q (.ref l) (upd H l (.lst ((sortI ns).map V.int)))) := by
  intro pins s σ H xs us Q I r ⟨p, ns, e, hq, h64, q⟩
  subst e
  obtain ⟨u, rfl, rx⟩ := vals1 r
  cases rx
  obtain ⟨its, rv, pl, hz⟩ := I.list hq
  have hi := intsAre_of rv
  refine sorted_ints pl.isList hi (by rw [hi.length]; exact h64) fun out ns' ho hp hs => ?_
  have e := sortI_eq hp hs
  subst e
  obtain ⟨ep, g⟩ := sortedAll_at s.heap its out
  have hf : H (s.heap.objs.size + 1) = none := I.hok.fresh (Nat.le_succ _)
  refine ⟨.ref (s.heap.objs.size + 1), _, I.laid (t' := s.toks) (fun b o g => sortedAll_old g) (Nat.le_succ _) ?_, rfl, q _ hf⟩
  refine ⟨?_, out.toList, ep, vals_ints ho, ?_⟩
  · rw [List.length_map, (sortI_perm ns).length_eq]
    exact Nat.le_of_lt (small1000 (by omega))
  · rw [g]
end
end L2.L3
namespace L2.L3
open PySem PySem.Spec PyProof.Rows
section
variable {X : Cx} {iter a b : Expr} {ρ : List Ent} {p pos px : Pos} {x : Str}
theorem cmp_leS {i j : Str} : CmpD X .LtE (.str i) (.str j) (!decide (j.cps.toList < i.cps.toList)) := ⟨fun x y H Q => ∃ i j, x = V.str i ∧ y = V.str j ∧ Q (.bl (!decide (j.cps.toList < i.cps.toList))) H, by
  intro pins s σ H x y v u Q I rx ry ⟨i, j, e1, e2, q⟩
  subst e1 e2
  obtain ⟨t, rfl⟩ := rx
  obtain ⟨t', rfl⟩ := ry
  exact PySem.P.le_str ⟨.bl _, H, I, rfl, q⟩, fun x y G H Q _ rx ry q => by cases rx; cases ry; exact ⟨_, _, rfl, rfl, q⟩⟩
end
end L2.L3
namespace L2.L3
open PySem PySem.Spec PyProof.Rows
theorem ObjOk.there {P : Program} {w : World} {H : Hp} {h : Heap} {a : Addr} {o : HO} (x : ObjOk P w H h a o) : ∃ u, h.get? a = some u := by
  cases o with
  | lst xs => obtain ⟨_, _, _, _, e⟩ := x; exact ⟨_, e⟩
  | tup xs => obtain ⟨_, _, _, u, e, _⟩ := x; exact ⟨u, e⟩
  | dK kvs => obtain ⟨_, _, _, _, o, _, _, e, _⟩ := x; exact ⟨_, e⟩
  | dT kvs => obtain ⟨_, _, _, _, o, _, _, e, _⟩ := x; exact ⟨_, e⟩
  | set S n => obtain ⟨o, _, _, _, e, _⟩ := x; exact ⟨_, e⟩
  | ins C dx fs => obtain ⟨_, _, _, e, _⟩ := x; exact ⟨_, e⟩
  | own y => exact x
  | xd fs => obtain ⟨_, ⟨_, _, _, e, _⟩, _⟩ := x; exact ⟨_, e⟩
  | rng lo hi => obtain ⟨_, _, _, e⟩ := x; exact ⟨_, e⟩
  | frz ob u => obtain ⟨e, _⟩ := x; exact ⟨_, e⟩
  | tbl ps => exact ⟨_, show h.get? a = some _ from x⟩
  | met f y => exact ⟨_, show h.get? a = some _ from x⟩
  | ext φ => exact x.2.1
theorem hok_no {P : Program} {w : World} {H : Hp} {h : Heap} {a : Addr} (x : HOk P w H h) (e : h.get? a = none) : H a = none := by
  cases q : H a with
  | none => rfl
  | some u => obtain ⟨v, z⟩ := ObjOk.there (x a u q); rw [e] at z; cases z
noncomputable def Fresh (X : Cx) (b : Addr) : Prop := (b ∈ X.ex ∨ X.s₀.heap.get? b = none) ∧ ∀ p ∈ X.pn, p.1 ≠ b
noncomputable def ExcF (fr : Addr → Prop) (fl : Value) (H : Hp) (a C : Addr) (h : Heap) : Prop :=
  fr a ∧ H a = none ∧ ∃ oe vs a0 T oT ts, h.get? a = some oe ∧ oe.cls = .ref C ∧ oe.data = .fields vs ∧ vs[0]? = some a0 ∧
    vs[1]? = some (.ref T) ∧ fr T ∧ H T = none ∧ T ≠ a ∧ h.get? T = some oT ∧ oT.data = .fields ts ∧ ts[3]? = some fl
noncomputable def ExcAt (fr : Addr → Prop) (H : Hp) (a C : Addr) (h : Heap) : Prop :=
  (fr a ∧ H a = none ∧ ∃ oe vs a0, h.get? a = some oe ∧ oe.cls = .ref C ∧ oe.data = .fields vs ∧ vs[0]? = some a0 ∧ vs[1]? = some .none) ∨ ExcF fr .none H a C h
noncomputable def ExcHere (X : Cx) (fr : Addr → Prop) (H : Hp) (a C : Addr) (h : Heap) : Prop := ExcAt fr H a C h ∨ ∃ L, X.env.frame = some L ∧ ExcF fr (rawInt L) H a C h
noncomputable def ExcIs (X : Cx) (c : Str) (e : Value) (H : Hp) (s : Shared) : Prop := ∃ a C, e = .ref a ∧ excC X.K c = some C ∧ ExcHere X (Fresh X) H a C s.heap
theorem ExcF.mono {fr fr' : Addr → Prop} {fl : Value} {H : Hp} {a C : Addr} {h : Heap} (x : ExcF fr fl H a C h) (k : ∀ b, fr b → fr' b) : ExcF fr' fl H a C h := by
  obtain ⟨h1, h2, oe, vs, a0, T, oT, ts, e1, e2, e3, e4, e5, e6, e7⟩ := x
  exact ⟨k _ h1, h2, oe, vs, a0, T, oT, ts, e1, e2, e3, e4, e5, k _ e6, e7⟩
theorem ExcAt.mono {fr fr' : Addr → Prop} {H : Hp} {a C : Addr} {h : Heap} (x : ExcAt fr H a C h) (k : ∀ b, fr b → fr' b) : ExcAt fr' H a C h := by
  rcases x with ⟨h1, h2⟩ | x
  · exact .inl ⟨k _ h1, h2⟩
  · exact .inr (x.mono k)
theorem ExcHere.mono {X : Cx} {fr fr' : Addr → Prop} {H : Hp} {a C : Addr} {h : Heap} (x : ExcHere X fr H a C h) (k : ∀ b, fr b → fr' b) : ExcHere X fr' H a C h := by
  rcases x with x | ⟨L, h1, x⟩
  · exact .inl (x.mono k)
  · exact .inr ⟨L, h1, x.mono k⟩
theorem ExcAt.ob {fr : Addr → Prop} {H : Hp} {a C : Addr} {h : Heap} (x : ExcAt fr H a C h) : fr a ∧ H a = none ∧ ∃ oe vs, ExO h a C oe ∧ oe.data = .fields vs := by
  rcases x with ⟨h1, h2, oe, vs, a0, e1, e2, e3, _⟩ | ⟨h1, h2, oe, vs, a0, T, oT, ts, e1, e2, e3, _⟩
  · exact ⟨h1, h2, oe, vs, ⟨e1, e2⟩, e3⟩
  · exact ⟨h1, h2, oe, vs, ⟨e1, e2⟩, e3⟩
structure Chg (X : Cx) (fr : Addr → Prop) (cs : List Addr) (H : Hp) (h h' : Heap) : Prop where
  ch : ∀ b ∈ cs, fr b ∧ H b = none ∧ ∃ o vs, h.get? b = some o ∧ o.data = .fields vs
  un : Un (frs X.stack) cs H H h h'
  hok : HOk X.prog X.w H h'
section
variable {X : Cx} {pins : List (Addr × Obj)} {σ : List (Option V)} {H H' : Hp} {s : Shared} {h' : Heap} {a C : Addr} {fr : Addr → Prop}
theorem noted_un {base : Heap} {Ts : List Addr} {a0 fl : Value} (I : Inv X pins σ H s) (hst : X.stack = X.env :: X.outer) (ha : fr a ∧ H a = none ∧ ∃ o vs, s.heap.get? a = some o ∧ o.data = .fields vs)
    (hT : ∀ b ∈ Ts, fr b ∧ H b = none ∧ ∃ o vs, s.heap.get? b = some o ∧ o.data = .fields vs) (hb : base = PySem.W.hideAll s.heap ((a :: Ts) ++ frs X.stack)) (hnew : ∀ b, s.heap.get? b = none → fr b)
    (N : Heap.NotedW base (X.env :: X.outer) a (.ref C) a0 fl s.heap h') : Chg X fr (a :: Ts) H s.heap h' ∧ ExcF fr fl H a C h' := by
  obtain ⟨st, ff, ⟨oe, vs, T, oT, ts, e1, ⟨e2, e3⟩, e4, e5, e6, e7, e8, e9, e10⟩, up⟩ := N
  have hmem : ∀ b ∈ frs X.stack, ∃ o, s.heap.get? b = some o ∧ ∀ vs, o.data ≠ .fields vs := fun b hm => by
    obtain ⟨_, o, ho, hd⟩ := I.stack.mem hm
    exact ⟨o, ho, hd⟩
  have keep : ∀ b o, s.heap.get? b = some o → b ∉ frs X.stack → b ∉ a :: Ts → h'.get? b = some o := fun b o e n1 n2 =>
    st b o (by rw [hb]; exact PySem.W.hideAll_get _ e fun z => (List.mem_append.mp z).elim n2 n1)
  have slot : ∀ b o, s.heap.get? b = some o → b ∈ frs X.stack → ∃ sl, h'.get? b = some { o with slots := sl } := fun b o e hm => by
    obtain ⟨o', ho', hd⟩ := hmem b hm
    rw [e] at ho'; cases ho'
    exact up b o e hd
  have hch : ∀ b ∈ a :: Ts, fr b ∧ H b = none ∧ ∃ o vs, s.heap.get? b = some o ∧ o.data = .fields vs := fun b hm => by
    rcases List.mem_cons.mp hm with rfl | hm
    · exact ha
    · exact hT b hm
  refine ⟨⟨hch, ⟨fun b o e n n1 n2 => keep b o e n1 n2, fun b o e n n1 n2 => slot b o e n1, fun b o e n _ => n, fun b o e n2 => ?_, fun _ _ q => q, fun _ _ _ q => q, fun _ ps q => ⟨#[], by rw [q]; simp⟩⟩, fun b u q => ?_⟩, ?_⟩
  · by_cases hm : b ∈ frs X.stack
    · obtain ⟨sl, z⟩ := slot b o e hm
      exact ⟨_, z⟩
    · exact ⟨o, keep b o e hm n2⟩
  · have tr : ∀ c u, H c = some u → c ∉ frs X.stack ∧ c ∉ a :: Ts := fun c u q => ⟨fun z => (by rw [I.stkFree c z] at q; cases q), fun z => (by rw [(hch c z).2.1] at q; cases q)⟩
    refine (I.hok b u q).stay (fun c v hc z => ?_) (fun _ z => z) fun _ _ z => z
    rcases hc with rfl | hc
    · exact keep c v z (tr c u q).1 (tr c u q).2
    · exact keep c v z (tr c _ hc).1 (tr c _ hc).2
  · refine ⟨ha.1, ha.2.1, oe, vs, a0, T, oT, ts, e1, e2, e4, e3, e5, ?_⟩
    have hh : fr T ∧ H T = none := by
      cases q : s.heap.get? T with
      | none => exact ⟨hnew T q, hok_no I.hok q⟩
      | some o =>
        have hm : T ∈ (a :: Ts) ++ frs X.stack := Classical.byContradiction fun z => by
          have := PySem.W.hideAll_get _ q z
          rw [← hb, e6] at this; cases this
        rcases List.mem_append.mp hm with hm | hm
        · exact ⟨(hch T hm).1, (hch T hm).2.1⟩
        · exfalso
          obtain ⟨o', ho', hd⟩ := hmem T hm
          obtain ⟨sl, z⟩ := slot T o' ho' hm
          rw [e8] at z; cases z
          exact hd ts e9
    exact ⟨hh.1, hh.2, e7, e8, e9, e10⟩
theorem note_ok {M : Model} {A : Around} {E : Value → Shared → Prop} {Q : Unit → Shared → Prop} (hfr : A.frames = some X.stack) (hst : X.stack = X.env :: X.outer) (hf : X.env.frame = some X.env.locals) (I : Inv X pins σ H s) (x : ExcAt fr H a C s.heap) (hnew : ∀ b, s.heap.get? b = none → fr b)
    (h : ∀ h' ch, Chg X fr ch H s.heap h' → ExcF fr (rawInt X.env.locals) H a C h' → Q () { s with heap := h' }) : wpAny M A (noteFrame (.ref a) X.env) Q E s := by
  have frm : ∀ (l : List Addr), ∀ env ∈ X.env :: X.outer, ∀ b, env.frame = some b → b ∈ l ++ frs X.stack := fun l env he b hb => List.mem_append_right _ (by
    rw [hst]; unfold frs
    exact List.mem_filterMap.mpr ⟨env, he, hb⟩)
  have hl := I.stack
  rcases x with ⟨h1, h2, oe, vs, a0, e1, e2, e3, e4, e5⟩ | ⟨h1, h2, oe, vs, a0, T, oT, ts, e1, e2, e3, e4, e5, e6, e7, e8, e9, e10, e11⟩
  · have hl' : s.heap.FunFrames (PySem.W.hideAll s.heap ([a] ++ frs X.stack)) (X.env :: X.outer) := PySem.W.funFrames_hide (hst ▸ hl) (frm [a])
    unfold noteFrame
    simp only [hf]
    refine wpAny_bind (wpAny_field e1 e3 e5 ?_)
    rw [if_neg (by decide)]
    refine wpAny_entryW (hst ▸ hfr) hl' hf e1 (fun b o e => PySem.W.of_hideAll ([a] ++ frs X.stack) e) (PySem.W.hideAll_none ([a] ++ frs X.stack) (by simp)) e3 (Array.getElem?_eq_some_iff.mp e5).1 e4 fun h' N => ?_
    rw [e2] at N
    obtain ⟨c1, c2⟩ := noted_un (Ts := []) I hst ⟨h1, h2, oe, vs, e1, e3⟩ (fun _ z => nomatch z) rfl hnew N
    exact h h' _ c1 c2
  · have hl' : s.heap.FunFrames (PySem.W.hideAll s.heap ([a, T] ++ frs X.stack)) (X.env :: X.outer) := PySem.W.funFrames_hide (hst ▸ hl) (frm [a, T])
    refine wpAny_noteFrame_onW (hst ▸ hfr) hl' hf ⟨oe, vs, T, oT, ts, e1, ⟨e2, e4⟩, e3, e5, PySem.W.hideAll_none ([a, T] ++ frs X.stack) (by simp), e8, e9, e10, e11⟩ (fun b o e => PySem.W.of_hideAll ([a, T] ++ frs X.stack) e) (PySem.W.hideAll_none ([a, T] ++ frs X.stack) (by simp)) fun h' N => ?_
    obtain ⟨c1, c2⟩ := noted_un (Ts := [T]) I hst ⟨h1, h2, oe, vs, e1, e3⟩ (fun b z => by cases List.mem_singleton.mp z; exact ⟨e6, e7, oT, ts, e9, e10⟩) rfl hnew N
    exact h h' _ c1 c2
theorem Chg.same {X : Cx} {fr : Addr → Prop} {H : Hp} {h : Heap} (hok : HOk X.prog X.w H h) : Chg X fr [] H h h :=
  ⟨(fun _ z => nomatch z), ⟨fun _ _ e _ _ _ => e, fun _ o e _ _ _ => ⟨o.slots, e⟩, fun _ _ _ n _ => n, fun _ o e _ => ⟨o, e⟩, fun _ _ q => q, fun _ _ _ q => q, fun _ ps q => ⟨#[], by rw [q]; simp⟩⟩, hok⟩
theorem note_any {M : Model} {A : Around} {E : Value → Shared → Prop} {Q : Unit → Shared → Prop} (hfr : A.frames = some X.stack) (hst : X.stack = X.env :: X.outer) (hf : X.env.frame = some X.env.locals) (I : Inv X pins σ H s) (x : ExcHere X fr H a C s.heap) (hnew : ∀ b, s.heap.get? b = none → fr b)
    (h : ∀ h' ch, Chg X fr ch H s.heap h' → ExcF fr (rawInt X.env.locals) H a C h' → Q () { s with heap := h' }) : wpAny M A (noteFrame (.ref a) X.env) Q E s := by
  rcases x with x | ⟨L, hL, x⟩
  · exact note_ok hfr hst hf I x hnew h
  · rw [hf] at hL; cases hL
    have q := h s.heap [] (Chg.same I.hok) x
    obtain ⟨h1, h2, oe, vs, a0, T, oT, ts, e1, e2, e3, e4, e5, e6, e7, e8, e9, e10, e11⟩ := x
    unfold noteFrame
    simp only [hf]
    refine wpAny_bind (wpAny_field e1 e3 e5 ?_)
    rw [if_pos (by simp)]
    refine wpAny_bind (wpAny_field e9 e10 e11 ?_)
    rw [if_pos (by simp [rawInt])]
    exact wpAny_pure q
theorem fly_ok {M : Model} {A : Around} {E : Value → Shared → Prop} {Q : Unit → Shared → Prop} {fl : Value} (hok : HOk X.prog X.w H s.heap) (x : ExcF fr fl H a C s.heap)
    (h : ∀ h' ch, Chg X fr ch H s.heap h' → ExcF fr .none H a C h' → Q () { s with heap := h' }) : wpAny M A (setFlight (.ref a) none) Q E s := by
  obtain ⟨h1, h2, oe, vs, a0, T, oT, ts, e1, e2, e3, e4, e5, e6, e7, e8, e9, e10, e11⟩ := x
  have sz : 3 < ts.size := (Array.getElem?_eq_some_iff.mp e11).1
  refine wpAny_setFlight_none e1 e3 e5 e9 e10 sz (h _ [T] ⟨fun b z => ?_, ⟨fun b o e n _ n2 => ?_, fun b o e n _ n2 => ?_, fun b o e n _ => n, fun b o e n2 => ?_, fun _ _ q => q, fun _ _ _ q => q, fun _ ps q => ⟨#[], by rw [q]; simp⟩⟩, fun b u q => ?_⟩ ?_)
  · cases List.mem_singleton.mp z; exact ⟨e6, e7, oT, ts, e9, e10⟩
  · rw [Heap.get?_update_other _ _ (fun z => n2 (by simp [z]))]; exact e
  · exact ⟨o.slots, by rw [Heap.get?_update_other _ _ (fun z => n2 (by simp [z]))]; exact e⟩
  · exact ⟨o, by rw [Heap.get?_update_other _ _ (fun z => n2 (by simp [z]))]; exact e⟩
  · have tr : ∀ c u, H c = some u → T ≠ c := fun c u q z => by rw [← z, e7] at q; cases q
    refine (hok b u q).stay (fun c v hc z => ?_) (fun _ z => z) fun _ _ z => z
    rcases hc with rfl | hc
    · rw [Heap.get?_update_other _ _ (tr c u q)]; exact z
    · rw [Heap.get?_update_other _ _ (tr c _ hc)]; exact z
  · refine ⟨h1, h2, oe, vs, a0, T, _, _, ?_, e2, e3, e4, e5, e6, e7, e8, Heap.get?_update_self _ e9 (Obj.isFreed_of_fields (Obj.data_mapFields e10 _)), Obj.data_mapFields e10 _, by simp [sz]⟩
    rw [Heap.get?_update_other _ _ e8]; exact e1
theorem leave_ok {M : Model} {A : Around} {E : Value → Shared → Prop} {Q : Unit → Shared → Prop} (hfr : A.frames = some X.stack) (hst : X.stack = X.env :: X.outer) (hf : X.env.frame = some X.env.locals) (I : Inv X pins σ H s) (x : ExcHere X fr H a C s.heap) (hnew : ∀ b, s.heap.get? b = none → fr b)
    (h : ∀ h' ch, Un (frs X.stack) ch H H s.heap h' → (∀ b ∈ ch, fr b) → HOk X.prog X.w H h' → ExcAt fr H a C h' → Q () { s with heap := h' }) : wpAny M A (leaving X.env (.ref a)) Q E s := by
  unfold leaving
  refine wpAny_bind (note_any hfr hst hf I x hnew fun h1 ch1 c1 x1 => ?_)
  refine fly_ok (X := X) (s := { s with heap := h1 }) c1.hok x1 fun h2 ch2 c2 x2 => ?_
  refine h h2 (ch1 ++ ch2) ((c1.un.mono (fun _ z => z) fun b z => List.mem_append_left _ z).trans (c2.un.mono (fun _ z => z) fun b z => List.mem_append_right _ z)) (fun b z => ?_) c2.hok (.inr x2)
  rcases List.mem_append.mp z with z | z
  · exact (c1.ch b z).1
  · exact (c2.ch b z).1
theorem Inv.chg {ch : List Addr} (I : Inv X pins σ H s) (c : Chg X (fun b => Fresh X b ∧ ∀ p ∈ pins, p.1 ≠ b) ch H s.heap h') : Inv X pins σ H { s with heap := h' } := by
  obtain ⟨m, hn, hl⟩ := id I.loc
  obtain ⟨oL, es, ep, hoL, rL⟩ := id hn
  have cL : X.env.locals ∉ ch := fun z => by
    obtain ⟨_, _, o, vs, e1, e2⟩ := c.ch _ z
    rw [hoL] at e1; cases e1
    rw [rL.1] at e2; cases e2
  have cC : ∀ x d, X.env.cells.lookup x = some d → d ∉ ch := fun x d e z => by
    obtain ⟨_, _, o, vs, e1, e2⟩ := c.ch _ z
    obtain ⟨v, o', e3, e4⟩ := I.cell x d e
    rw [e3] at e1; cases e1
    rw [e4] at e2; cases e2
  have cS : ∀ b o, X.s₀.heap.get? b = some o → b ∉ X.ex → b ∉ ch := fun b o e n z => by
    rcases (c.ch b z).1.1.1 with q | q
    · exact n q
    · rw [e] at q; cases q
  have cP : ∀ p ∈ X.pn ++ pins, p.1 ∉ ch := fun p hp z => by
    rcases List.mem_append.mp hp with hp | hp
    · exact (c.ch _ z).1.1.2 p hp rfl
    · exact (c.ch _ z).1.2 p hp rfl
  have neL : ∀ b o, X.s₀.heap.get? b = some o → b ≠ X.env.locals := fun b o e => Nat.ne_of_lt (Nat.lt_of_lt_of_le (Heap.lt_size e) I.ok.above)
  have nst : ∀ b, b ≠ X.env.locals → b ∉ X.fs → b ∉ frs X.stack := fun b n1 n2 z => (List.mem_cons.mp (I.stkSub b z)).elim n1 n2
  have cellK : ∀ x d, X.env.cells.lookup x = some d → ∀ v, s.heap.IsCell d v → h'.IsCell d v := fun x d e v ⟨o, ho, hd⟩ => by
    obtain ⟨sl, q⟩ := c.un.any ho (I.freeC x d e) (cC x d e)
    exact ⟨_, q, hd⟩
  refine ⟨I.ok, I.os, I.bare, ⟨fun b o e n hb hx => ?_, fun b o e n hb hx => ?_, I.base.free, fun b o e hx => ?_, I.base.tups, I.base.frzs, I.base.tbls⟩, ⟨m, ?_, fun i x v e1 e2 e3 => ?_⟩, fun x d e => ?_, I.free, I.freeC, fun p hp => ?_, c.hok, I.len⟩
  · exact c.un.keep b o (I.base.keep b o e n hb hx) (I.base.free b o e n hx) (nst b (neL b o e) hb) (cS b o e hx)
  · obtain ⟨sl, e1⟩ := I.base.slot b o e n hb hx
    obtain ⟨sl', e2⟩ := c.un.any e1 (I.base.free b o e n hx) (cS b o e hx)
    exact ⟨sl', e2⟩
  · obtain ⟨o', e1⟩ := I.base.there b o e hx
    exact c.un.there b o' e1 (cS b o e hx)
  · obtain ⟨sl, q⟩ := c.un.any hoL I.free cL
    exact ⟨_, es, ep, q, rL⟩
  · obtain ⟨u, r, l⟩ := hl i x v e1 e2 e3
    refine ⟨u, r, ?_⟩
    rcases l with l | ⟨k, d, e, z⟩
    · exact .inl l
    · exact .inr ⟨k, d, e, cellK x d e _ z⟩
  · obtain ⟨v, z⟩ := I.cell x d e
    exact ⟨v, cellK x d e v z⟩
  · obtain ⟨e, n, ne, nf, d⟩ := I.pin p hp
    exact ⟨c.un.keep p.1 p.2 e n (nst p.1 ne nf) (cP p hp), n, ne, nf, d⟩
theorem Inv.track {o : HO} (I : Inv X pins σ H s) (ha : Fresh X a ∧ ∀ p ∈ pins, p.1 ≠ a) (hn : H a = none) (hd : ∃ u vs, s.heap.get? a = some u ∧ u.data = .fields vs) (ok : ObjOk X.prog X.w (upd H a o) s.heap a o) : Inv X pins σ (upd H a o) s := by
  obtain ⟨u, vs, hu, hv⟩ := hd
  have nL : X.env.locals ≠ a := fun z => by
    obtain ⟨m, ⟨oL, es, ep, hoL, rL⟩, _⟩ := id I.loc
    rw [z, hu] at hoL; cases hoL
    rw [rL.1] at hv; cases hv
  have nC : ∀ x d, X.env.cells.lookup x = some d → d ≠ a := fun x d e z => by
    obtain ⟨v, o', e3, e4⟩ := I.cell x d e
    rw [z, hu] at e3; cases e3
    rw [e4] at hv; cases hv
  refine ⟨I.ok, I.os, I.bare, ⟨I.base.keep, I.base.slot, fun b o e n hx => ?_, I.base.there, fun b xs e => ?_, fun b o u e => ?_, fun b ps e => ?_⟩, I.loc, I.cell, ?_, fun x d e => ?_, fun p hp => ?_, fun b v e => ?_, I.len⟩
  · rw [upd_ne (fun z => by
      subst z
      rcases ha.1.1 with q | q
      · exact hx q
      · rw [e] at q; cases q)]
    exact I.base.free b o e n hx
  · have q := I.base.tups b xs e
    rw [upd_ne (ne_of_none q hn)]; exact q
  · have q := I.base.frzs b o u e
    rw [upd_ne (ne_of_none q hn)]; exact q
  · obtain ⟨more, q⟩ := I.base.tbls b ps e
    exact ⟨more, by rw [upd_ne (ne_of_none q hn)]; exact q⟩
  · rw [upd_ne nL]; exact I.free
  · rw [upd_ne (nC x d e)]; exact I.freeC x d e
  · obtain ⟨e, n, ne, nf, d⟩ := I.pin p hp
    have np : p.1 ≠ a := by
      rcases List.mem_append.mp hp with hp | hp
      · exact ha.1.2 p hp
      · exact ha.2 p hp
    exact ⟨e, by rw [upd_ne np]; exact n, ne, nf, d⟩
  · by_cases hb : b = a
    · subst hb; rw [upd_same] at e; cases e; exact ok
    · rw [upd_ne hb] at e
      exact (I.hok b v e).stay (fun c w' _ q => q) (fun c q => by rw [upd_ne (ne_of_none q hn)]; exact q) fun c xs q => by rw [upd_ne (ne_of_none q hn)]; exact q
end
end L2.L3
namespace L2.L3
open PySem PySem.Spec PyProof.Rows
inductive Re (α : Type) where
  | ok (a : α)
  | ex (c : Str)
noncomputable abbrev Mm (α : Type) := Option (Re α)
noncomputable abbrev ret {α : Type} (a : α) : Mm α := some (.ok a)
noncomputable def bnd {α β : Type} (m : Mm α) (k : α → Mm β) : Mm β := match m with
  | some (.ok a) => k a
  | some (.ex c) => some (.ex c)
  | none => none
noncomputable def lft {α : Type} (o : Option α) : Mm α := match o with
  | some a => some (.ok a)
  | none => none
noncomputable abbrev EF := List Ent → Mm PyData
noncomputable abbrev TF := List Ent → Mm Bool
noncomputable abbrev AF := List Ent → Mm (List PyData)
section
variable {α β : Type}
theorem bnd_ret (a : α) (k : α → Mm β) : bnd (some (.ok a)) k = k a := rfl
theorem bnd_some {m : Mm α} {k : α → Mm β} {r : Re β} (h : bnd m k = some r) : (∃ a, m = some (.ok a) ∧ k a = some r) ∨ ∃ c, m = some (.ex c) ∧ r = .ex c := by
  match m, h with
  | some (.ok a), h => exact .inl ⟨a, rfl, h⟩
  | some (.ex c), h => exact .inr ⟨c, rfl, (Option.some.inj h).symm⟩
  | none, h => cases h
theorem lft_is {o : Option α} {r : Re α} (h : lft o = some r) : ∃ a, o = some a ∧ r = .ok a := by
  match o, h with
  | some a, h => exact ⟨a, rfl, (Option.some.inj h).symm⟩
  | none, h => cases h
end
noncomputable def XcOk (X : Cx) (H0 G₀ G : Hp) (ρ : List Ent) (c : Str) : Prop :=
  ∀ (pins : List (Addr × Obj)) (s' : Shared) (σ : St) (H' G' : Hp) (e : Value), Inv X pins σ H' s' → RepS X.K H0 G₀ G' H' σ ρ → Same G G' → ExcIs X c e H' s' → X.xe e s'
theorem XcOk.mono {X : Cx} {H0 G₀ G G' : Hp} {ρ : List Ent} {c : Str} (h : XcOk X H0 G₀ G ρ c) (s : Same G G') : XcOk X H0 G₀ G' ρ c :=
  fun pins s' σ H' G2 e I R g x => h pins s' σ H' G2 e I R (s.trans g) x
noncomputable def EndE (X : Cx) (H0 G₀ G : Hp) (ρ : List Ent) (H : Hp) (Q : VK) : Re PyData → Prop
  | .ok d => ∀ v G' H', Grow G H G' H' → Rep X.K G' v d → Q v H'
  | .ex c => XcOk X H0 G₀ G ρ c
noncomputable def EndT (X : Cx) (H0 G₀ G : Hp) (ρ : List Ent) (H : Hp) (Q : Bool → Hp → Prop) : Re Bool → Prop
  | .ok b => ∀ G' H', Grow G H G' H' → Q b H'
  | .ex c => XcOk X H0 G₀ G ρ c
noncomputable def EndA (X : Cx) (H0 G₀ G : Hp) (ρ : List Ent) (H : Hp) (Q : List V → Hp → Prop) : Re (List PyData) → Prop
  | .ok ds => ∀ vs G' H', Grow G H G' H' → RepAll X.K G' vs ds → Q vs H'
  | .ex c => XcOk X H0 G₀ G ρ c
noncomputable def rE (X : Cx) (f : EF) : TE := fun σ H Q => ∃ ρ r H0 G₀ G, f ρ = some r ∧ RepS X.K H0 G₀ G H σ ρ ∧ EndE X H0 G₀ G ρ H Q r
noncomputable def rT (X : Cx) (f : TF) : TT := fun σ H Q => ∃ ρ r H0 G₀ G, f ρ = some r ∧ RepS X.K H0 G₀ G H σ ρ ∧ EndT X H0 G₀ G ρ H Q r
noncomputable def rA (X : Cx) (f : AF) : TA := fun σ H Q => ∃ ρ r H0 G₀ G, f ρ = some r ∧ RepS X.K H0 G₀ G H σ ρ ∧ EndA X H0 G₀ G ρ H Q r
structure DE (X : Cx) (e : Expr) (f : EF) : Prop where
  run : PE X e (rE X f)
structure DT (X : Cx) (e : Expr) (f : TF) : Prop where
  run : PT X e (rT X f)
structure DW (X : Cx) (e : Expr) (f : TF) : Prop where
  run : PW X e (rT X f)
structure DA (X : Cx) (es : List Expr) (f : AF) : Prop where
  run : PA X es (rA X f)
section
variable {X : Cx} {H0 G₀ G G1 H H1 : Hp} {ρ : List Ent} {σ : St}
theorem EndE.more {Q : VK} {r : Re PyData} (q : EndE X H0 G₀ G ρ H Q r) (g : Grow G H G1 H1) : EndE X H0 G₀ G1 ρ H1 Q r := by
  cases r with
  | ok d => exact fun v G' H' g' rv => q v G' H' (g.trans g') rv
  | ex c => exact XcOk.mono q g.gg
theorem EndT.more {Q : Bool → Hp → Prop} {r : Re Bool} (q : EndT X H0 G₀ G ρ H Q r) (g : Grow G H G1 H1) : EndT X H0 G₀ G1 ρ H1 Q r := by
  cases r with
  | ok d => exact fun G' H' g' => q G' H' (g.trans g')
  | ex c => exact XcOk.mono q g.gg
theorem EndA.more {Q : List V → Hp → Prop} {r : Re (List PyData)} (q : EndA X H0 G₀ G ρ H Q r) (g : Grow G H G1 H1) : EndA X H0 G₀ G1 ρ H1 Q r := by
  cases r with
  | ok d => exact fun v G' H' g' rv => q v G' H' (g.trans g') rv
  | ex c => exact XcOk.mono q g.gg
theorem bE {fa : EF} {β : Type} {k : PyData → Mm β} {r : Re β} (R : RepS X.K H0 G₀ G H σ ρ) (e : bnd (fa ρ) k = some r) {T : VK} (hx : ∀ c, r = .ex c → XcOk X H0 G₀ G ρ c)
    (h : ∀ x v G1 H1, Grow G H G1 H1 → RepS X.K H0 G₀ G1 H1 σ ρ → Rep X.K G1 v x → k x = some r → T v H1) : rE X fa σ H T := by
  rcases bnd_some e with ⟨x, e1, e2⟩ | ⟨c, e1, e2⟩
  · exact ⟨ρ, _, H0, G₀, G, e1, R, fun v G1 H1 g1 rv => h x v G1 H1 g1 (R.more g1) rv e2⟩
  · exact ⟨ρ, _, H0, G₀, G, e1, R, hx c e2⟩
theorem bT {fa : TF} {β : Type} {k : Bool → Mm β} {r : Re β} (R : RepS X.K H0 G₀ G H σ ρ) (e : bnd (fa ρ) k = some r) {T : Bool → Hp → Prop} (hx : ∀ c, r = .ex c → XcOk X H0 G₀ G ρ c)
    (h : ∀ x G1 H1, Grow G H G1 H1 → RepS X.K H0 G₀ G1 H1 σ ρ → k x = some r → T x H1) : rT X fa σ H T := by
  rcases bnd_some e with ⟨x, e1, e2⟩ | ⟨c, e1, e2⟩
  · exact ⟨ρ, _, H0, G₀, G, e1, R, fun G1 H1 g1 => h x G1 H1 g1 (R.more g1) e2⟩
  · exact ⟨ρ, _, H0, G₀, G, e1, R, hx c e2⟩
theorem bA {fa : AF} {β : Type} {k : List PyData → Mm β} {r : Re β} (R : RepS X.K H0 G₀ G H σ ρ) (e : bnd (fa ρ) k = some r) {T : List V → Hp → Prop} (hx : ∀ c, r = .ex c → XcOk X H0 G₀ G ρ c)
    (h : ∀ x v G1 H1, Grow G H G1 H1 → RepS X.K H0 G₀ G1 H1 σ ρ → RepAll X.K G1 v x → k x = some r → T v H1) : rA X fa σ H T := by
  rcases bnd_some e with ⟨x, e1, e2⟩ | ⟨c, e1, e2⟩
  · exact ⟨ρ, _, H0, G₀, G, e1, R, fun v G1 H1 g1 rv => h x v G1 H1 g1 (R.more g1) rv e2⟩
  · exact ⟨ρ, _, H0, G₀, G, e1, R, hx c e2⟩
theorem EndE.x {Q : VK} {r : Re PyData} (q : EndE X H0 G₀ G ρ H Q r) : ∀ c, r = .ex c → XcOk X H0 G₀ G ρ c := fun c e => by subst e; exact q
theorem EndT.x {Q : Bool → Hp → Prop} {r : Re Bool} (q : EndT X H0 G₀ G ρ H Q r) : ∀ c, r = .ex c → XcOk X H0 G₀ G ρ c := fun c e => by subst e; exact q
theorem EndA.x {Q : List V → Hp → Prop} {r : Re (List PyData)} (q : EndA X H0 G₀ G ρ H Q r) : ∀ c, r = .ex c → XcOk X H0 G₀ G ρ c := fun c e => by subst e; exact q
end
section
variable {X : Cx} {e a b c : Expr} {es : List Expr} {pos p : Pos} {fa fb fc : EF}
theorem de_of {f : EF} (h : ∀ ρ r, f ρ = some r → ∃ d, r = .ok d ∧ PD X e ρ d) : DE X e f := ⟨fun pins s σ H Q I ⟨ρ, r, H0, G₀, G, ef, R, q⟩ => by
  obtain ⟨d, rfl, hd⟩ := h ρ r ef
  exact hd.run H0 G₀ G pins s σ H Q I R q⟩
theorem DE.pd {f : EF} (h : DE X e f) {ρ : List Ent} {d : PyData} (q : f ρ = some (.ok d)) : PD X e ρ d := ⟨fun H0 G₀ G pins s σ H Q I R k => h.run pins s σ H Q I ⟨ρ, _, H0, G₀, G, q, R, k⟩⟩
theorem DT.ptd {f : TF} (h : DT X e f) {ρ : List Ent} {d : Bool} (q : f ρ = some (.ok d)) : PTD X e ρ d := ⟨fun H0 G₀ G pins s σ H Q I R k => h.run pins s σ H Q I ⟨ρ, _, H0, G₀, G, q, R, k⟩⟩
noncomputable def cst (d : PyData) : EF := fun _ => some (.ok d)
noncomputable def var (i : Nat) : EF := fun ρ => match ρ[i]? with
  | some (.val d) => some (.ok d)
  | _ => none
theorem de_int {i : Int} {j} : DE X (.Constant (.int i) j pos) (cst (.int i)) := de_of fun ρ r e => ⟨_, (Option.some.inj e).symm, pd_int⟩
theorem de_str {x : Str} {j} : DE X (.Constant (.str x) j pos) (cst (.str x)) := de_of fun ρ r e => ⟨_, (Option.some.inj e).symm, pd_str⟩
theorem de_bool {x : Bool} {j} : DE X (.Constant (.bool x) j pos) (cst (.bool x)) := de_of fun ρ r e => ⟨_, (Option.some.inj e).symm, pd_bool⟩
theorem de_globI {x : Str} {i : Int} (hg : Gl X x) (hm : ∃ t, X.mg x = some (.int i t)) (hd : (x == ("__debug__" : Str)) = false := by decide) : DE X (.Name x pos) (cst (.int i)) := de_of fun ρ r e => ⟨_, (Option.some.inj e).symm, by
  obtain ⟨t, hm⟩ := hm
  exact pd_globI hg hm hd⟩
theorem var_is {i : Nat} {ρ : List Ent} {r : Re PyData} (h : var i ρ = some r) : ∃ d, r = .ok d ∧ ρ[i]? = some (.val d) := by
  unfold var at h
  split at h
  · rename_i d e; exact ⟨d, (Option.some.inj h).symm, e⟩
  · cases h
theorem de_var (i : Nat) {x : Str} (hN : X.N[i]? = some x := by rfl) (hv : Vis X.env.scope x := by first | exact Or.inl rfl | exact Or.inr (Or.inl rfl) | exact Or.inr (Or.inr rfl)) (hd : (x == ("__debug__" : Str)) = false := by decide)
    (hcd : (x == ("__classdict__" : Str)) = false := by decide) : DE X (.Name x pos) (var i) := de_of fun ρ r e => by
  obtain ⟨d, e1, e2⟩ := var_is e
  exact ⟨d, e1, pd_var i e2 hN hv hd hcd⟩
structure OpD (X : Cx) (op : Operator) (x y d : PyData) : Prop where
  ex : ∃ r : R2, OpR X (binaryOp op) r ∧ ∀ v u G H Q, Same G H → Rep X.K G v x → Rep X.K G u y → (∀ w G' H', Grow G H G' H' → Rep X.K G' w d → Q w H') → r v u H Q
noncomputable def op2 (g : PyData → PyData → Option PyData) (fa fb : EF) : EF := fun ρ => bnd (fa ρ) fun x => bnd (fb ρ) fun y => lft (g x y)
theorem opR_any {f : Value → Value → Sem Value} : OpR X f (fun v u H Q => ∃ r, OpR X f r ∧ r v u H Q) := fun pins s σ H x y v u Q I rx ry ⟨_, h, q⟩ => h pins s σ H x y v u Q I rx ry q
theorem de_bin {op : Operator} {g : PyData → PyData → Option PyData} (hg : ∀ x y d, g x y = some d → OpD X op x y d) (ha : DE X a fa) (hb : DE X b fb) : DE X (.BinOp a op b pos) (op2 g fa fb) :=
  ⟨fun pins s σ H Q I ⟨ρ, r, H0, G₀, G, e, R, q⟩ => pe_op opR_any ha.run hb.run pins s σ H Q I (bE R e q.x fun x v G1 H1 g1 R1 rv e1 => bE R1 e1 (q.more g1).x fun y u G2 H2 g2 R2 ru e2 => by
    obtain ⟨d, ed, rfl⟩ := lft_is e2
    obtain ⟨r, h1, h2⟩ := (hg x y d ed).ex
    exact ⟨r, h1, h2 v u G2 H2 Q g2.sub (rv.mono g2.gg) ru fun w G' H' g' rw' => q w G' H' ((g1.trans g2).trans g') rw'⟩)⟩
noncomputable def aNil : AF := fun _ => some (.ok [])
noncomputable def aCons (f : EF) (g : AF) : AF := fun ρ => bnd (f ρ) fun x => bnd (g ρ) fun xs => some (.ok (x :: xs))
theorem da_nil : DA X [] aNil := ⟨fun pos pins s σ H Q I ⟨ρ, r, H0, G₀, G, e, R, q⟩ => pa_nil pos pins s σ H Q I (by
  cases (Option.some.inj e); exact q [] G H (.refl R.sub) .nil)⟩
theorem da_cons {f : AF} (ha : DE X e fa) (hr : DA X es f) (hs : starEach (e :: es) X.env = (false, eval e X.env) :: starEach es X.env := by rfl) : DA X (e :: es) (aCons fa f) :=
  ⟨fun pos pins s σ H Q I ⟨ρ, r, H0, G₀, G, e, R, q⟩ => pa_cons ha.run hr.run hs pos pins s σ H Q I (bE R e q.x fun x v G1 H1 g1 R1 rv e1 => bA R1 e1 (q.more g1).x fun ys us G2 H2 g2 R2 ru e2 => by
    cases (Option.some.inj e2)
    exact q _ G2 H2 (g1.trans g2) (.cons (rv.mono g2.gg) ru))⟩
noncomputable def szOk (n : Nat) : Bool := decide (n ≤ 100000)
theorem sz_le {n : Nat} (h : szOk n = true) : n ≤ sizeLine := Nat.le_trans (of_decide_eq_true h) (by decide)
theorem sz_lt {n : Nat} (h : szOk n = true) : n < sizeLine := Nat.lt_of_le_of_lt (of_decide_eq_true h) (by decide)
noncomputable def mkTup (ds : List PyData) : Option PyData := if szOk ds.length then some (.tuple ds) else none
noncomputable def mkLst (ds : List PyData) : Option PyData := if szOk ds.length then some (.list ds) else none
noncomputable def tupE (f : AF) : EF := fun ρ => bnd (f ρ) fun xs => lft (mkTup xs)
noncomputable def lstE (f : AF) : EF := fun ρ => bnd (f ρ) fun xs => lft (mkLst xs)
theorem mkTup_is {ds : List PyData} {d : PyData} (h : mkTup ds = some d) : d = .tuple ds ∧ ds.length ≤ sizeLine := by
  unfold mkTup at h
  split at h
  · rename_i z; exact ⟨(Option.some.inj h).symm, sz_le z⟩
  · cases h
theorem mkLst_is {ds : List PyData} {d : PyData} (h : mkLst ds = some d) : d = .list ds ∧ ds.length ≤ sizeLine := by
  unfold mkLst at h
  split at h
  · rename_i z; exact ⟨(Option.some.inj h).symm, sz_le z⟩
  · cases h
theorem de_tup {x1} {f : AF} (h : DA X es f) : DE X (.Tuple es x1 pos) (tupE f) := ⟨fun pins s σ H Q I ⟨ρ, r, H0, G₀, G, e, R, q⟩ => pe_tup h.run pins s σ H Q I (bA R e q.x fun xs vs G1 H1 g1 R1 rv e1 => by
  obtain ⟨d, ed, rfl⟩ := lft_is e1
  obtain ⟨rfl, hz⟩ := mkTup_is ed
  exact ⟨by rw [rv.length]; exact hz, fun p hp => q _ _ _ (g1.trans (.put g1.sub hp)) (.tuple (.of upd_same) (rv.mono (same_upd (g1.sub.free hp))))⟩)⟩
theorem de_lst {f : AF} (h : DA X es f) : DE X (.List es pos) (lstE f) := ⟨fun pins s σ H Q I ⟨ρ, r, H0, G₀, G, e, R, q⟩ => pe_lst h.run pins s σ H Q I (bA R e q.x fun xs vs G1 H1 g1 R1 rv e1 => by
  obtain ⟨d, ed, rfl⟩ := lft_is e1
  obtain ⟨rfl, hz⟩ := mkLst_is ed
  exact ⟨by rw [rv.length]; exact hz, fun p hp => q _ _ _ (g1.trans (.put g1.sub hp)) (.list (.of upd_same) (rv.mono (same_upd (g1.sub.free hp))))⟩)⟩
noncomputable def cmpE (g : PyData → PyData → Option Bool) (fa fb : EF) : EF := fun ρ => bnd (fa ρ) fun x => bnd (fb ρ) fun y => lft ((g x y).map .bool)
noncomputable def cmpT (g : PyData → PyData → Option Bool) (fa fb : EF) : TF := fun ρ => bnd (fa ρ) fun x => bnd (fb ρ) fun y => lft (g x y)
theorem de_cmp {op : CmpOp} {g : PyData → PyData → Option Bool} (hg : ∀ x y t, g x y = some t → CmpD X op x y t) (ha : DE X a fa) (hb : DE X b fb) (hm : behindInMarks op b = false := by first | exact nomark _ | with_unfolding_all rfl) : DE X (.Compare a [op] [b] pos) (cmpE g fa fb) :=
  ⟨fun pins s σ H Q I ⟨ρ, r, H0, G₀, G, e, R, q⟩ => pe_cmpR opR_any ha.run hb.run hm pins s σ H Q I (bE R e q.x fun x v G1 H1 g1 R1 rv e1 => bE R1 e1 (q.more g1).x fun y u G2 H2 g2 R2 ru e2 => by
    obtain ⟨d, ed, rfl⟩ := lft_is e2
    obtain ⟨t, et, rfl⟩ := Option.map_eq_some_iff.mp ed
    obtain ⟨r, h1, h2⟩ := (hg x y t et).ex
    exact ⟨r, h1, h2 v u G2 H2 Q g2.sub (rv.mono g2.gg) ru (q _ _ _ (g1.trans g2) (.bool _))⟩)⟩
theorem dt_cmp {op : CmpOp} {g : PyData → PyData → Option Bool} (hg : ∀ x y t, g x y = some t → CmpD X op x y t) (ha : DE X a fa) (hb : DE X b fb) (hm : behindInMarks op b = false := by first | exact nomark _ | with_unfolding_all rfl) : DT X (.Compare a [op] [b] pos) (cmpT g fa fb) :=
  ⟨fun pins s σ H Q I ⟨ρ, r, H0, G₀, G, e, R, q⟩ => pt_cmpR opR_any ha.run hb.run hm pins s σ H Q I (bE R e q.x fun x v G1 H1 g1 R1 rv e1 => bE R1 e1 (q.more g1).x fun y u G2 H2 g2 R2 ru e2 => by
    obtain ⟨t, et, rfl⟩ := lft_is e2
    obtain ⟨r, h1, h2⟩ := (hg x y t et).ex
    exact ⟨r, h1, h2 v u G2 H2 _ g2.sub (rv.mono g2.gg) ru ⟨_, rfl, q _ _ (g1.trans g2)⟩⟩)⟩
noncomputable def chnE (g g' : PyData → PyData → Option Bool) (fa fb fc : EF) : EF := fun ρ => bnd (fa ρ) fun x => bnd (fb ρ) fun y => bnd (lft (g x y)) fun t => if t then bnd (fc ρ) fun z => lft ((g' y z).map .bool) else some (.ok (.bool false))
noncomputable def chnT (g g' : PyData → PyData → Option Bool) (fa fb fc : EF) : TF := fun ρ => bnd (fa ρ) fun x => bnd (fb ρ) fun y => bnd (lft (g x y)) fun t => if t then bnd (fc ρ) fun z => lft (g' y z) else some (.ok false)
end
end L2.L3
namespace L2.L3
open PySem PySem.Spec PyProof.Rows
section
variable {X : Cx} {e a b c : Expr} {es rest : List Expr} {pos p : Pos} {fa fb fc : EF} {ft fu : TF}
noncomputable def truD : PyData → Option Bool
  | .none => some false
  | .bool b => some b
  | .int i => some (i != 0)
  | .str x => if szOk x.length then some ((x.length : Int) != 0) else none
  | .list ds => some (!ds.isEmpty)
  | .tuple ds => some (!ds.isEmpty)
  | .dict _ => none
theorem rep_empty {K : PySem.W.Frag} {G : Hp} {vs : List V} {ds : List PyData} (r : RepAll K G vs ds) : ds.isEmpty = vs.isEmpty := by
  have h := r.length
  cases vs <;> cases ds <;> simp at h ⊢
theorem tru_rep {K : PySem.W.Frag} {G H : Hp} {v : V} {d : PyData} {t : Bool} (s : Same G H) (r : Rep K G v d) (h : truD d = some t) : TruV K v H t := by
  cases r with
  | none => exact (Option.some.inj h).symm
  | bool b => exact (Option.some.inj h).symm
  | int i => exact (Option.some.inj h).symm
  | str x =>
    have h : (if szOk x.length = true then some ((x.length : Int) != 0) else none) = some t := h
    split at h
    · rename_i z; exact ⟨sz_le z, (Option.some.inj h).symm⟩
    · cases h
  | list hq r => exact .inl ⟨_, s.seq hq, by rw [← rep_empty r]; exact (Option.some.inj h).symm⟩
  | tuple hq r => exact .inr (.inl ⟨_, seqT s hq, by rw [← rep_empty r]; exact (Option.some.inj h).symm⟩)
  | dict _ _ _ => cases h
noncomputable def truT (fa : EF) : TF := fun ρ => bnd (fa ρ) fun x => lft (truD x)
theorem dt_tru (ha : DE X a fa) (he : ∀ whole, isTrue a X.env whole = (do let v ← whole; standAt a.pos; holding [v] (truthy v)) := by intro _; rfl) : DT X a (truT fa) :=
  ⟨fun pins s σ H Q I ⟨ρ, r, H0, G₀, G, e, R, q⟩ => pt_truth ha.run he pins s σ H Q I (bE R e q.x fun x v G1 H1 g1 R1 rv e1 => by
    obtain ⟨t, et, rfl⟩ := lft_is e1
    exact ⟨t, tru_rep g1.sub rv et, q _ _ g1⟩)⟩
noncomputable def notT (ft : TF) : TF := fun ρ => bnd (ft ρ) fun t => some (.ok (!t))
theorem dt_not (ha : DT X a ft) : DT X (.UnaryOp .Not a pos) (notT ft) :=
  ⟨fun pins s σ H Q I ⟨ρ, r, H0, G₀, G, e, R, q⟩ => pt_not ha.run pins s σ H Q I (bT R e q.x fun t G1 H1 g1 R1 e1 => by
    cases (Option.some.inj e1); exact q _ _ g1)⟩
noncomputable def boolD : PyData → Option Bool
  | .bool b => some b
  | _ => none
noncomputable def notE (fa : EF) : EF := fun ρ => bnd (fa ρ) fun x => lft ((boolD x).map fun t => .bool (!t))
theorem boolD_is {d : PyData} {t : Bool} (h : boolD d = some t) : d = .bool t := by
  cases d <;> first | (cases h; done) | (cases (Option.some.inj h); rfl)
theorem de_not (ha : DE X a fa) : DE X (.UnaryOp .Not a pos) (notE fa) :=
  ⟨fun pins s σ H Q I ⟨ρ, r, H0, G₀, G, e, R, q⟩ => pe_not ha.run pins s σ H Q I (bE R e q.x fun x v G1 H1 g1 R1 rv e1 => by
    obtain ⟨d, ed, rfl⟩ := lft_is e1
    obtain ⟨t, et, rfl⟩ := Option.map_eq_some_iff.mp ed
    cases boolD_is et
    cases rv
    exact ⟨_, rfl, q _ _ _ g1 (.bool _)⟩)⟩
noncomputable def andT (f g : TF) : TF := fun ρ => bnd (f ρ) fun t => if t then g ρ else some (.ok false)
noncomputable def orT (f g : TF) : TF := fun ρ => bnd (f ρ) fun t => if t then some (.ok true) else g ρ
theorem dw_and1 (ha : DT X a ft) : DW X (.BoolOp .And [a] pos) ft := ⟨pw_and1 ha.run⟩
theorem dw_or1 (ha : DT X a ft) : DW X (.BoolOp .Or [a] pos) ft := ⟨pw_or1 ha.run⟩
theorem dw_and (ha : DT X a ft) (hb : DW X (.BoolOp .And (b :: rest) pos) fu) : DW X (.BoolOp .And (a :: b :: rest) pos) (andT ft fu) :=
  ⟨fun wh pins s σ H Q I ⟨ρ, r, H0, G₀, G, e, R, q⟩ => pw_and ha.run hb.run wh pins s σ H Q I (bT R e q.x fun t G1 H1 g1 R1 e1 => by
    cases t with
    | true => rw [if_pos rfl] at e1 ⊢; exact ⟨ρ, r, H0, G₀, G1, e1, R1, q.more g1⟩
    | false => rw [if_neg (by decide)] at e1 ⊢; cases (Option.some.inj e1); exact q _ _ g1)⟩
theorem dw_or (ha : DT X a ft) (hb : DW X (.BoolOp .Or (b :: rest) pos) fu) : DW X (.BoolOp .Or (a :: b :: rest) pos) (orT ft fu) :=
  ⟨fun wh pins s σ H Q I ⟨ρ, r, H0, G₀, G, e, R, q⟩ => pw_or ha.run hb.run wh pins s σ H Q I (bT R e q.x fun t G1 H1 g1 R1 e1 => by
    cases t with
    | true => rw [if_pos rfl] at e1 ⊢; cases (Option.some.inj e1); exact q _ _ g1
    | false => rw [if_neg (by decide)] at e1 ⊢; exact ⟨ρ, r, H0, G₀, G1, e1, R1, q.more g1⟩)⟩
theorem DW.dt (h : DW X e ft) : DT X e ft := ⟨h.run _⟩
noncomputable def andE (f g : EF) : EF := fun ρ => bnd (f ρ) fun x => bnd (lft (boolD x)) fun t => if t then g ρ else some (.ok (.bool false))
noncomputable def orE (f g : EF) : EF := fun ρ => bnd (f ρ) fun x => bnd (lft (boolD x)) fun t => if t then some (.ok (.bool true)) else g ρ
theorem de_one {op} (ha : DE X a fa) : DE X (.BoolOp op [a] pos) fa := ⟨pe_one ha.run⟩
theorem de_and (ha : DE X a fa) (hb : DE X (.BoolOp .And (b :: rest) pos) fb) : DE X (.BoolOp .And (a :: b :: rest) pos) (andE fa fb) :=
  ⟨fun pins s σ H Q I ⟨ρ, r, H0, G₀, G, e, R, q⟩ => pe_and ha.run hb.run pins s σ H Q I (bE R e q.x fun x v G1 H1 g1 R1 rv e1 => by
    rcases bnd_some e1 with ⟨t, et, e2⟩ | ⟨c, et, _⟩
    · obtain ⟨t', et', z⟩ := lft_is et
      cases z
      cases boolD_is et'
      cases rv
      refine ⟨t, rfl, ?_⟩
      cases t with
      | true => rw [if_pos rfl] at e2 ⊢; exact ⟨ρ, r, H0, G₀, G1, e2, R1, q.more g1⟩
      | false => rw [if_neg (by decide)] at e2 ⊢; cases (Option.some.inj e2); exact q _ _ _ g1 (.bool _)
    · obtain ⟨_, _, z⟩ := lft_is et; cases z)⟩
noncomputable def ifE (f : TF) (fa fb : EF) : EF := fun ρ => bnd (f ρ) fun t => if t then fa ρ else fb ρ
noncomputable def ixD (x i : PyData) : Option PyData := match x, i with
  | .tuple ds, .int k => atI ds k
  | .list ds, .int k => atI ds k
  | .str z, .int k => if szOk z.length then (atI z.cps.toList k).map fun c => .str ⟨#[c]⟩ else none
  | _, _ => none
theorem ixD_rep {K : PySem.W.Frag} {G H : Hp} {v u : V} {x i d : PyData} {Q : VK} (s : Same G H) (rv : Rep K G v x) (ru : Rep K G u i) (h : ixD x i = some d) (q : ∀ w, Rep K G w d → Q w H) : rIx K v u H Q := by
  cases ru with
  | int k =>
    cases rv with
    | tuple hq r =>
      obtain ⟨w, e, rw'⟩ := atI_rep r (show atI _ k = some d from h)
      exact .inr (.inl ⟨_, _, _, w, rfl, rfl, seqT s hq, e, q w rw'⟩)
    | list hq r =>
      obtain ⟨w, e, rw'⟩ := atI_rep r (show atI _ k = some d from h)
      exact .inl ⟨_, _, _, w, rfl, rfl, s.seq hq, e, q w rw'⟩
    | str z =>
      have h : (if szOk z.length = true then (atI z.cps.toList k).map fun c => PyData.str ⟨#[c]⟩ else none) = some d := h
      split at h
      · rename_i hz
        obtain ⟨c, ec, rfl⟩ := Option.map_eq_some_iff.mp h
        exact .inr (.inr ⟨_, _, c, rfl, rfl, sz_le hz, ec, q _ (.str _)⟩)
      · cases h
    | none => cases h
    | bool b => cases h
    | int j => cases h
    | dict _ _ _ => cases h
  | none => cases rv <;> cases h
  | bool b => cases rv <;> cases h
  | str b => cases rv <;> cases h
  | list _ _ => cases rv <;> cases h
  | tuple _ _ => cases rv <;> cases h
  | dict _ _ _ => cases rv <;> cases h
theorem de_ix (ha : DE X a fa) (hb : DE X b fb) (hs : PlainIx b := by exact fun _ _ => rfl) : DE X (.Subscript a b pos) (op2 ixD fa fb) :=
  ⟨fun pins s σ H Q I ⟨ρ, r, H0, G₀, G, e, R, q⟩ => pe_ix ix_seq ha.run hb.run hs pins s σ H Q I (bE R e q.x fun x v G1 H1 g1 R1 rv e1 => bE R1 e1 (q.more g1).x fun y u G2 H2 g2 R2 ru e2 => by
    obtain ⟨d, ed, rfl⟩ := lft_is e2
    exact ixD_rep g2.sub (rv.mono g2.gg) ru ed fun w rw' => q w _ _ (g1.trans g2) rw')⟩
structure CallD (X : Cx) (f : Value) (ds : List PyData) (d : PyData) : Prop where
  ex : ∃ r : List V → Hp → VK → Prop, CallR X f r ∧ ∀ vs G H Q, Same G H → RepAll X.K G vs ds → (∀ w G' H', Grow G H G' H' → Rep X.K G' w d → Q w H') → r vs H Q
theorem callR_any {f : Value} : CallR X f (fun vs H Q => ∃ r, CallR X f r ∧ r vs H Q) := fun pins s σ H vs us Q I rx ⟨_, h, q⟩ => h pins s σ H vs us Q I rx q
noncomputable def bltE (g : List PyData → Option PyData) (fa : AF) : EF := fun ρ => bnd (fa ρ) fun xs => lft (g xs)
theorem de_callB {id : String} {x : Str} {g : List PyData → Option PyData} {f : AF} (hd : ∀ ds d, g ds = some d → CallD X (.builtin id) ds d) (hm : X.mg x = none) (hv : bootBuiltins x = some (.builtin id)) (ha : DA X (e :: es) f) (hg : Gl X x := by rfl)
    (hn : x ≠ "__name__" := by decide) (hdb : (x == ("__debug__" : Str)) = false := by decide)
    (he : starEach (e :: es) X.env = (false, eval e X.env) :: starEach es X.env := by rfl) (hpl : (backTo pos (starEach es X.env)).any (·.1) = false := by rfl) : DE X (.Call (.Name x p) (e :: es) [] pos) (bltE g f) :=
  ⟨fun pins s σ H Q I ⟨ρ, r, H0, G₀, G, e, R, q⟩ => pe_callB callR_any hg hm hv ha.run hn hdb he hpl pins s σ H Q I (bA R e q.x fun xs vs G1 H1 g1 R1 rv e1 => by
    obtain ⟨d, ed, rfl⟩ := lft_is e1
    obtain ⟨r, h1, h2⟩ := (hd xs d ed).ex
    exact ⟨r, h1, h2 vs G1 H1 Q g1.sub rv fun w G' H' g' rw' => q w G' H' (g1.trans g') rw'⟩)⟩
theorem de_callT {T : String} {x : Str} {g : List PyData → Option PyData} {f : AF} (hd : ∀ ds d, g ds = some d → CallD X (.type T) ds d) (hm : X.mg x = none) (hv : bootBuiltins x = some (.type T)) (ha : DA X (e :: es) f) (hg : Gl X x := by rfl)
    (hn : x ≠ "__name__" := by decide) (hdb : (x == ("__debug__" : Str)) = false := by decide)
    (he : starEach (e :: es) X.env = (false, eval e X.env) :: starEach es X.env := by rfl) (hpl : (backTo pos (starEach es X.env)).any (·.1) = false := by rfl) : DE X (.Call (.Name x p) (e :: es) [] pos) (bltE g f) :=
  ⟨fun pins s σ H Q I ⟨ρ, r, H0, G₀, G, e, R, q⟩ => pe_callTy callR_any hg hm hv ha.run hn hdb he hpl pins s σ H Q I (bA R e q.x fun xs vs G1 H1 g1 R1 rv e1 => by
    obtain ⟨d, ed, rfl⟩ := lft_is e1
    obtain ⟨r, h1, h2⟩ := (hd xs d ed).ex
    exact ⟨r, h1, h2 vs G1 H1 Q g1.sub rv fun w G' H' g' rw' => q w G' H' (g1.trans g') rw'⟩)⟩
noncomputable def frzE : Ent → Ent
  | .lst ds => .val (.list ds)
  | .dct kvs => .val (.dict (kvs.map fun p => (keyD p.1, p.2)))
  | e => e
noncomputable def frzAll (ρ : List Ent) : List Ent := ρ.map frzE
noncomputable def plainD : PyData → Bool
  | .none => true
  | .bool _ => true
  | .int _ => true
  | .str _ => true
  | _ => false
theorem Rep.plain {K : PySem.W.Frag} {G G' : Hp} {v : V} {d : PyData} (h : plainD d = true) (r : Rep K G v d) : Rep K G' v d := by
  cases r with
  | none => exact .none
  | bool b => exact .bool b
  | int i => exact .int i
  | str x => exact .str x
  | list _ _ => cases h
  | tuple _ _ => cases h
  | dict _ _ _ => cases h
end
end L2.L3
namespace L2.L3
open PySem PySem.Spec PyProof.Rows
section
variable {K : PySem.W.Frag} {H0 G₀ G H : Hp} {σ : St} {ρ : List Ent}
theorem frz_step (ρ : List Ent) (n : Nat) : (∃ e, ρ[n]? = some e ∧ (ρ.take (n + 1)).map frzE ++ ρ.drop (n + 1) = ((ρ.take n).map frzE ++ ρ.drop n).set n (frzE e)) ∨ (ρ[n]? = none ∧ (ρ.take (n + 1)).map frzE ++ ρ.drop (n + 1) = (ρ.take n).map frzE ++ ρ.drop n) := by
  by_cases hn : n < ρ.length
  · refine .inl ⟨ρ[n], by simp [hn], ?_⟩
    apply List.ext_getElem?
    intro j
    rw [List.getElem?_set]
    by_cases hj : j < n
    · rw [if_neg (by omega), List.getElem?_append_left (by simp; omega), List.getElem?_append_left (by simp; omega), List.getElem?_map, List.getElem?_map, List.getElem?_take_of_lt (by omega), List.getElem?_take_of_lt (by omega)]
    · by_cases hj2 : j = n
      · subst hj2
        rw [if_pos rfl, if_pos (by simp; omega), List.getElem?_append_left (by simp; omega), List.getElem?_map, List.getElem?_take_of_lt (by omega)]
        simp [hn]
      · rw [if_neg (by omega), List.getElem?_append_right (by simp; omega), List.getElem?_append_right (by simp; omega), List.getElem?_drop, List.getElem?_drop]
        simp only [List.length_map, List.length_take]
        congr 1
        omega
  · refine .inr ⟨by simp; omega, ?_⟩
    rw [List.take_of_length_le (by omega), List.take_of_length_le (by omega), List.drop_of_length_le (by omega), List.drop_of_length_le (by omega)]
theorem RepS.frzTo (R : RepS K H0 G₀ G H σ ρ) : ∀ n : Nat, ∃ G', Same G G' ∧ RepS K H0 G₀ G' H σ ((ρ.take n).map frzE ++ ρ.drop n)
  | 0 => ⟨G, .refl _, by simpa using R⟩
  | n + 1 => by
    obtain ⟨G1, s1, R1⟩ := R.frzTo n
    rcases frz_step ρ n with ⟨e, he, eq⟩ | ⟨_, eq⟩
    · have hn : n < ρ.length := (List.getElem?_eq_some_iff.mp he).1
      have at' : ((ρ.take n).map frzE ++ ρ.drop n)[n]? = some e := by
        rw [List.getElem?_append_right (by simp; omega), List.getElem?_drop]
        simp only [List.length_map, List.length_take]
        rw [show n + (n - min n ρ.length) = n by omega]
        exact he
      rw [eq]
      cases e with
      | lst ds =>
        obtain ⟨G2, s2, R2⟩ := R1.freeze at'
        exact ⟨G2, s1.trans s2, R2⟩
      | dct kvs =>
        obtain ⟨G2, s2, R2⟩ := R1.freezeD at'
        exact ⟨G2, s1.trans s2, R2⟩
      | val d =>
        refine ⟨G1, s1, ?_⟩
        have : ((ρ.take n).map frzE ++ ρ.drop n).set n (frzE (.val d)) = (ρ.take n).map frzE ++ ρ.drop n := by
          apply List.ext_getElem?
          intro j
          rw [List.getElem?_set]
          split
          · rename_i h; subst h
            rw [at']
            have := (List.getElem?_eq_some_iff.mp at').1
            rw [if_pos this]; rfl
          · rfl
        rw [this]; exact R1
      | no =>
        refine ⟨G1, s1, ?_⟩
        have : ((ρ.take n).map frzE ++ ρ.drop n).set n (frzE .no) = (ρ.take n).map frzE ++ ρ.drop n := by
          apply List.ext_getElem?
          intro j
          rw [List.getElem?_set]
          split
          · rename_i h; subst h
            rw [at']
            have := (List.getElem?_eq_some_iff.mp at').1
            rw [if_pos this]; rfl
          · rfl
        rw [this]; exact R1
      | exc c =>
        refine ⟨G1, s1, ?_⟩
        have : ((ρ.take n).map frzE ++ ρ.drop n).set n (frzE (.exc c)) = (ρ.take n).map frzE ++ ρ.drop n := by
          apply List.ext_getElem?
          intro j
          rw [List.getElem?_set]
          split
          · rename_i h; subst h
            rw [at']
            have := (List.getElem?_eq_some_iff.mp at').1
            rw [if_pos this]; rfl
          · rfl
        rw [this]; exact R1
      | nst dss =>
        refine ⟨G1, s1, ?_⟩
        have : ((ρ.take n).map frzE ++ ρ.drop n).set n (frzE (.nst dss)) = (ρ.take n).map frzE ++ ρ.drop n := by
          apply List.ext_getElem?
          intro j
          rw [List.getElem?_set]
          split
          · rename_i h; subst h
            rw [at']
            have := (List.getElem?_eq_some_iff.mp at').1
            rw [if_pos this]; rfl
          · rfl
        rw [this]; exact R1
    · rw [eq]; exact ⟨G1, s1, R1⟩
theorem RepS.frzAll (R : RepS K H0 G₀ G H σ ρ) : ∃ G', Same G G' ∧ RepS K H0 G₀ G' H σ (frzAll ρ) := by
  obtain ⟨G', s, R'⟩ := R.frzTo ρ.length
  refine ⟨G', s, ?_⟩
  have : (ρ.take ρ.length).map frzE ++ ρ.drop ρ.length = L3.frzAll ρ := by simp [L3.frzAll]
  rw [this] at R'
  exact R'
end
section
variable {X : Cx} {e a b c : Expr} {es rest : List Expr} {pos p : Pos} {fa fb fc : EF} {ft fu : TF}
noncomputable def thT (f : TF) : TF := fun ρ => match f (frzAll ρ) with
  | some (.ok b) => some (.ok b)
  | _ => none
theorem dt_th (h : DT X e ft) : DT X e (thT ft) := ⟨fun pins s σ H Q I ⟨ρ, r, H0, G₀, G, ef, R, q⟩ => by
  unfold thT at ef
  split at ef
  · rename_i b eb
    cases (Option.some.inj ef)
    obtain ⟨G', s', R'⟩ := R.frzAll
    exact h.run pins s σ H Q I ⟨_, _, H0, G₀, G', eb, R', fun G2 H2 g2 => q G H2 ⟨.refl _, g2.hh, s'.trans (g2.gg.trans g2.sub), fun _ z _ => z, id⟩⟩
  · cases ef⟩
end
inductive So where
  | nx (ρ : List Ent)
  | rt (d : PyData)
  | bk (ρ : List Ent)
  | ct (ρ : List Ent)
  | xc (c : Str) (ρ : List Ent)
noncomputable abbrev SF := List Ent → Option So
noncomputable def bns {α : Type} (m : Mm α) (ρ : List Ent) (k : α → Option So) : Option So := match m with
  | some (.ok a) => k a
  | some (.ex c) => some (.xc c ρ)
  | none => none
theorem bns_some {α : Type} {m : Mm α} {ρ : List Ent} {k : α → Option So} {r : So} (h : bns m ρ k = some r) : (∃ a, m = some (.ok a) ∧ k a = some r) ∨ ∃ c, m = some (.ex c) ∧ r = .xc c ρ := by
  match m, h with
  | some (.ok a), h => exact .inl ⟨a, rfl, h⟩
  | some (.ex c), h => exact .inr ⟨c, rfl, (Option.some.inj h).symm⟩
  | none, h => cases h
noncomputable def EndS (X : Cx) (H0 G₀ G : Hp) (D : Ends) : So → Prop
  | .nx ρ => ∀ G' H' σ', Same G G' → RepS X.K H0 G₀ G' H' σ' ρ → D.nx σ' H'
  | .rt d => ∀ v G' H', Same G G' → Grow G₀ H0 G' H' → Rep X.K G' v d → D.rt v H'
  | .bk ρ => ∀ G' H' σ', Same G G' → RepS X.K H0 G₀ G' H' σ' ρ → D.bk σ' H'
  | .ct ρ => ∀ G' H' σ', Same G G' → RepS X.K H0 G₀ G' H' σ' ρ → D.ct σ' H'
  | .xc c ρ => XcOk X H0 G₀ G ρ c
theorem EndS.mono {X : Cx} {H0 G₀ G G' : Hp} {D : Ends} {o : So} (h : EndS X H0 G₀ G D o) (s : Same G G') : EndS X H0 G₀ G' D o := by
  cases o with
  | nx ρ => exact fun G2 H' σ' s2 R => h G2 H' σ' (s.trans s2) R
  | rt d => exact fun v G2 H' s2 g r => h v G2 H' (s.trans s2) g r
  | bk ρ => exact fun G2 H' σ' s2 R => h G2 H' σ' (s.trans s2) R
  | ct ρ => exact fun G2 H' σ' s2 R => h G2 H' σ' (s.trans s2) R
  | xc c ρ => exact XcOk.mono h s
noncomputable def rS (X : Cx) (f : SF) : TS := fun D σ H => ∃ ρ o H0 G₀ G, f ρ = some o ∧ RepS X.K H0 G₀ G H σ ρ ∧ EndS X H0 G₀ G D o
structure DS (X : Cx) (st : Stmt) (f : SF) : Prop where
  run : PS X st (rS X f)
structure DB (X : Cx) (sts : List Stmt) (f : SF) : Prop where
  run : PSs X sts (rS X f)
section
variable {X : Cx} {H0 G₀ G H : Hp} {ρ : List Ent} {σ : St} {D : Ends} {o : So}
theorem sE {fa : EF} {k : PyData → Option So} (R : RepS X.K H0 G₀ G H σ ρ) (e : bns (fa ρ) ρ k = some o) (q : EndS X H0 G₀ G D o) {T : VK}
    (h : ∀ x v G1 H1, Grow G H G1 H1 → RepS X.K H0 G₀ G1 H1 σ ρ → Rep X.K G1 v x → k x = some o → EndS X H0 G₀ G1 D o → T v H1) : rE X fa σ H T := by
  rcases bns_some e with ⟨x, e1, e2⟩ | ⟨c, e1, e2⟩
  · exact ⟨ρ, _, H0, G₀, G, e1, R, fun v G1 H1 g1 rv => h x v G1 H1 g1 (R.more g1) rv e2 (q.mono g1.gg)⟩
  · subst e2; exact ⟨ρ, _, H0, G₀, G, e1, R, q⟩
theorem sA {fa : AF} {k : List PyData → Option So} (R : RepS X.K H0 G₀ G H σ ρ) (e : bns (fa ρ) ρ k = some o) (q : EndS X H0 G₀ G D o) {T : List V → Hp → Prop}
    (h : ∀ x v G1 H1, Grow G H G1 H1 → RepS X.K H0 G₀ G1 H1 σ ρ → RepAll X.K G1 v x → k x = some o → EndS X H0 G₀ G1 D o → T v H1) : rA X fa σ H T := by
  rcases bns_some e with ⟨x, e1, e2⟩ | ⟨c, e1, e2⟩
  · exact ⟨ρ, _, H0, G₀, G, e1, R, fun v G1 H1 g1 rv => h x v G1 H1 g1 (R.more g1) rv e2 (q.mono g1.gg)⟩
  · subst e2; exact ⟨ρ, _, H0, G₀, G, e1, R, q⟩
theorem sT {fa : TF} {k : Bool → Option So} (R : RepS X.K H0 G₀ G H σ ρ) (e : bns (fa ρ) ρ k = some o) (q : EndS X H0 G₀ G D o) {T : Bool → Hp → Prop}
    (h : ∀ x G1 H1, Grow G H G1 H1 → RepS X.K H0 G₀ G1 H1 σ ρ → k x = some o → EndS X H0 G₀ G1 D o → T x H1) : rT X fa σ H T := by
  rcases bns_some e with ⟨x, e1, e2⟩ | ⟨c, e1, e2⟩
  · exact ⟨ρ, _, H0, G₀, G, e1, R, fun G1 H1 g1 => h x G1 H1 g1 (R.more g1) e2 (q.mono g1.gg)⟩
  · subst e2; exact ⟨ρ, _, H0, G₀, G, e1, R, q⟩
end
section
variable {X : Cx} {st : Stmt} {rest : List Stmt} {f g : SF} {fa fb : EF} {ft : TF} {e c b : Expr} {pos : Pos}
noncomputable def nilS : SF := fun ρ => some (.nx ρ)
noncomputable def seqS (f g : SF) : SF := fun ρ => match f ρ with
  | some (.nx ρ') => g ρ'
  | r => r
theorem db_nil : DB X [] nilS := ⟨fun pins s σ H D I ⟨ρ, o, H0, G₀, G, e, R, q⟩ => pss_nil pins s σ H D I (by cases (Option.some.inj e); exact q G H σ (.refl _) R)⟩
theorem db_cons (h1 : DS X st f) (h2 : DB X rest g) : DB X (st :: rest) (seqS f g) := ⟨fun pins s σ H D I ⟨ρ, o, H0, G₀, G, e, R, q⟩ => by
  unfold seqS at e
  split at e
  · rename_i ρ' e1
    refine wpAny_execs_cons (thn (h1.run pins s σ H { D with nx := fun σ' H' => rS X g D σ' H' } I ⟨ρ, _, H0, G₀, G, e1, R, fun G' H' σ' s' R' => ⟨ρ', o, H0, G₀, G', e, R', q.mono s'⟩⟩) fun fl s1 z => ?_)
    cases fl with
    | next => obtain ⟨σ', H', I', z⟩ := z; exact h2.run pins s1 σ' H' D I' z
    | ret v => exact z
    | brk => exact z
    | cont => exact z
  · rename_i z
    have hn : ∀ ρ', o ≠ .nx ρ' := fun ρ' w => z ρ' (by rw [e, w])
    have q' : EndS X H0 G₀ G { D with nx := fun _ _ => False } o := by
      cases o with
      | nx ρ' => exact absurd rfl (hn ρ')
      | rt d => exact q
      | bk ρ' => exact q
      | ct ρ' => exact q
      | xc c ρ' => exact q
    refine wpAny_execs_cons (thn (h1.run pins s σ H { D with nx := fun _ _ => False } I ⟨ρ, o, H0, G₀, G, e, R, q'⟩) fun fl s1 z => ?_)
    cases fl with
    | next => obtain ⟨_, _, _, z⟩ := z; exact z.elim
    | ret v => exact z
    | brk => exact z
    | cont => exact z⟩
theorem db_one (h : DS X st f) : DB X [st] f := ⟨pss_one h.run⟩
noncomputable def frzS (i : Nat) (f : SF) : SF := fun ρ => match ρ[i]? with
  | some (.lst ds) => f (ρ.set i (.val (.list ds)))
  | some (.dct kvs) => f (ρ.set i (.val (.dict (kvs.map fun p => (keyD p.1, p.2)))))
  | _ => f ρ
theorem db_frz (i : Nat) (h : DB X rest f) : DB X rest (frzS i f) := ⟨fun pins s σ H D I ⟨ρ, o, H0, G₀, G, e, R, q⟩ => by
  unfold frzS at e
  split at e
  · rename_i ds hi
    obtain ⟨G', s', R'⟩ := R.freeze hi
    exact h.run pins s σ H D I ⟨_, o, H0, G₀, G', e, R', q.mono s'⟩
  · rename_i kvs hi
    obtain ⟨G', s', R'⟩ := R.freezeD hi
    exact h.run pins s σ H D I ⟨_, o, H0, G₀, G', e, R', q.mono s'⟩
  · exact h.run pins s σ H D I ⟨ρ, o, H0, G₀, G, e, R, q⟩⟩
noncomputable def retS (fa : EF) : SF := fun ρ => bns (fa ρ) ρ fun d => some (.rt d)
theorem ds_ret (h : DE X e fa) : DS X (.Return (some e) pos) (retS fa) := ⟨fun pins s σ H D I ⟨ρ, o, H0, G₀, G, e, R, q⟩ => ps_ret h.run pins s σ H D I (sE R e q fun x v G1 H1 g1 R1 rv e1 q1 => by
  cases (Option.some.inj e1); exact q1 v G1 H1 (.refl _) R1.grow rv)⟩
noncomputable def exprS (fa : EF) : SF := fun ρ => bns (fa ρ) ρ fun _ => some (.nx ρ)
theorem ds_expr (h : DE X e fa) (hs : swapsWith e none pos.line X.env = pure false := by rfl) : DS X (.Expr e pos) (exprS fa) := ⟨fun pins s σ H D I ⟨ρ, o, H0, G₀, G, e, R, q⟩ => ps_expr h.run hs pins s σ H D I (sE R e q fun x v G1 H1 g1 R1 rv e1 q1 => by
  cases (Option.some.inj e1); exact q1 G1 H1 σ (.refl _) R1)⟩
noncomputable def ifS (ft : TF) (f g : SF) : SF := fun ρ => bns (ft ρ) ρ fun t => if t then f ρ else g ρ
theorem ds_if {x y : List Stmt} (hc : DT X c ft) (ha : DB X x f) (hb : DB X y g) : DS X (.If c x y pos) (ifS ft f g) := ⟨fun pins s σ H D I ⟨ρ, o, H0, G₀, G, e, R, q⟩ => ps_if hc.run ha.run hb.run pins s σ H D I (sT R e q fun t G1 H1 g1 R1 e1 q1 => by
  cases t with
  | true => rw [if_pos rfl] at e1 ⊢; exact ⟨ρ, o, H0, G₀, G1, e1, R1, q1⟩
  | false => rw [if_neg (by decide)] at e1 ⊢; exact ⟨ρ, o, H0, G₀, G1, e1, R1, q1⟩)⟩
noncomputable def setS (i : Nat) (fa : EF) : SF := fun ρ => bns (fa ρ) ρ fun d => some (.nx (ρ.set i (.val d)))
theorem ds_set (i : Nat) {x : Str} {p : Pos} (hN : X.N.Nodup) (h : DE X e fa) (hi : X.N[i]? = some x := by rfl) (hx : Loc X.env.scope x := by first | exact Or.inl rfl | exact Or.inr rfl)
    (hs : swapsWith e (some (.Name x p)) pos.line X.env = pure false := by rfl) (hf : X.fn x = true ∨ X.env.scope.names.lookup x = some .local := by first | exact .inl rfl | exact .inr rfl) :
    DS X (.Assign [.Name x p] e pos) (setS i fa) := ⟨fun pins s σ H D I ⟨ρ, o, H0, G₀, G, e, R, q⟩ => ps_set hN hi hx h.run hs hf pins s σ H D I (sE R e q fun x v G1 H1 g1 R1 rv e1 q1 => by
  cases (Option.some.inj e1); exact q1 G1 H1 _ (.refl _) (R1.set rv))⟩
noncomputable def newS (i : Nat) (f : AF) : SF := fun ρ => bns (f ρ) ρ fun ds => if szOk ds.length then some (.nx (ρ.set i (.lst ds))) else none
theorem ds_new (i : Nat) {x : Str} {p p2 : Pos} {es : List Expr} {f : AF} (hN : X.N.Nodup) (h : DA X es f) (hi : X.N[i]? = some x := by rfl) (hx : Loc X.env.scope x := by first | exact Or.inl rfl | exact Or.inr rfl)
    (hs : swapsWith (.List es p2) (some (.Name x p)) pos.line X.env = pure false := by rfl) (hf : X.fn x = true ∨ X.env.scope.names.lookup x = some .local := by first | exact .inl rfl | exact .inr rfl) :
    DS X (.Assign [.Name x p] (.List es p2) pos) (newS i f) := ⟨fun pins s σ H D I ⟨ρ, o, H0, G₀, G, e, R, q⟩ => ps_set hN hi hx (pe_lst h.run) hs hf pins s σ H D I (sA R e q fun ds vs G1 H1 g1 R1 rv e1 q1 => by
  split at e1
  · rename_i hz
    cases (Option.some.inj e1)
    exact ⟨by rw [rv.length]; exact sz_le hz, fun a ha => q1 G1 _ _ (.refl _) (R1.fresh ha rv)⟩
  · cases e1)⟩
noncomputable def appS (i : Nat) (fa : EF) : SF := fun ρ => match ρ[i]? with
  | some (.lst ds) => bns (fa ρ) ρ fun d => if szOk ds.length then some (.nx (ρ.set i (.lst (ds ++ [d])))) else none
  | _ => none
theorem ds_app (i : Nat) {x : Str} {p ap cp : Pos} (h : DE X e fa) (hN : X.N[i]? = some x := by rfl)
    (hv : Vis X.env.scope x := by first | exact Or.inl rfl | exact Or.inr (Or.inl rfl) | exact Or.inr (Or.inr rfl)) (hd : (x == ("__debug__" : Str)) = false := by decide) (hcd : (x == ("__classdict__" : Str)) = false := by decide)
    (hbase : attributeBase (.Name x p) "append" X.env (eval (.Name x p) X.env) = eval (.Name x p) X.env := by rfl)
    (hfew : ((backTo cp (starEach (e :: []) X.env)).all (fun x => !x.1) && (backToKw cp (keywordEach [] X.env)).all (fun x => x.1.isSome) && decide ((e :: []).length + ([] : List Keyword).length + (if ([] : List Keyword).isEmpty then 0 else 1) < 30)) = true := by rfl)
    (hline : (ap.endLine == cp.line) = true := by rfl) (hst : starEach (e :: []) X.env = (false, eval e X.env) :: starEach [] X.env := by rfl) (hplain : (backTo cp (starEach [] X.env)).any (·.1) = false := by rfl)
    (hsw : swapsWith (.Call (.Attribute (.Name x p) "append" ap) [e] [] cp) none pos.line X.env = pure false := by rfl) :
    DS X (.Expr (.Call (.Attribute (.Name x p) "append" ap) [e] [] cp) pos) (appS i fa) := ⟨fun pins s σ H D I ⟨ρ, o, H0, G₀, G, ef, R, q⟩ =>
  ps_expr (pe_bm PySem.F.plainAttrs_list PySem.F.slot_list_append PySem.F.type_list_append mt_append (pe_var hN hv hd hcd) (pa_cons h.run pa_nil hst) hbase hfew hline hst hplain) hsw pins s σ H D I (by
    unfold appS at ef
    split at ef
    · rename_i ds hi
      obtain ⟨a, xs, e1, h1, h2, h3, r⟩ := R.own hi
      refine ⟨.ref a, e1, .inl ⟨rfl, xs, .of h1⟩, sE R ef q fun d v G1 H1 g1 R1 rv e2 q1 => ?_⟩
      split at e2
      · rename_i hz
        cases (Option.some.inj e2)
        exact ⟨a, xs, v, rfl, rfl, g1.hh.lst h1, by rw [r.length]; exact sz_lt hz, q1 G1 _ σ (.refl _) (R1.wrote hi e1 ((r.mono g1.gg).append (.cons rv .nil)))⟩
      · cases e2
    · cases ef)⟩
end
end L2.L3
namespace L2.L3
open PySem PySem.Spec PyProof.Rows
section
variable {X : Cx} {st : Stmt} {rest : List Stmt} {f g : SF} {fa fb : EF} {ft : TF} {e c b : Expr} {pos p : Pos}
inductive Tg where
  | nm (i : Nat)
  | tp (is : List Nat)
  | nn (i : Nat) (js : List Nat)
noncomputable def setAll : List Ent → List Nat → List PyData → List Ent
  | ρ, i :: is, d :: ds => setAll (ρ.set i (.val d)) is ds
  | ρ, _, _ => ρ
noncomputable def tgD (t : Tg) (ρ : List Ent) (d : PyData) : Option (List Ent) := match t, d with
  | .nm i, d => some (ρ.set i (.val d))
  | .tp is, .tuple ds => if is.length = ds.length then some (setAll ρ is ds) else none
  | .nn i js, .tuple [d, .tuple ds] => if js.length = ds.length then some (setAll (ρ.set i (.val d)) js ds) else none
  | _, _ => none
structure DG (X : Cx) (tg : Expr) (t : Tg) : Prop where
  run : ∀ ρ d ρ', tgD t ρ d = some ρ' → PGD X tg ρ d ρ'
structure DGs (X : Cx) (ts : List Expr) (is : List Nat) : Prop where
  run : ∀ ρ ds, is.length = ds.length → PGsD X ts ρ ds (setAll ρ is ds)
theorem dg_name (i : Nat) {x : Str} (hN : X.N.Nodup) (hi : X.N[i]? = some x := by rfl) (hx : Loc X.env.scope x := by first | exact Or.inl rfl | exact Or.inr rfl) (hf : X.fn x = true ∨ X.env.scope.names.lookup x = some .local := by first | exact .inl rfl | exact .inr rfl) :
    DG X (.Name x pos) (.nm i) := ⟨fun ρ d ρ' h => by cases (Option.some.inj h); exact pgd_name i hN hi hx hf⟩
theorem dgs_nil : DGs X [] [] := ⟨fun ρ ds h => by
  cases ds with
  | nil => exact pgsd_nil
  | cons _ _ => cases h⟩
theorem dgs_cons (i : Nat) {x : Str} {es : List Expr} {is : List Nat} (hN : X.N.Nodup) (h : DGs X es is) (hi : X.N[i]? = some x := by rfl) (hx : Loc X.env.scope x := by first | exact Or.inl rfl | exact Or.inr rfl)
    (hf : X.fn x = true ∨ X.env.scope.names.lookup x = some .local := by first | exact .inl rfl | exact .inr rfl)
    (hs : (assignEach (.Name x pos :: es) X.env).map (·.2) = assign (.Name x pos) X.env :: (assignEach es X.env).map (·.2) := by rfl) : DGs X (.Name x pos :: es) (i :: is) := ⟨fun ρ ds hl => by
  cases ds with
  | nil => cases hl
  | cons d ds => exact pgsd_cons (pgd_name i hN hi hx hf) (h.run _ ds (by simpa using hl)) hs⟩
theorem dg_tup {es : List Expr} {is : List Nat} {k : Nat} (hc : X.calm = true) (h : DGs X es is) (hn : (assignEach es X.env).length = is.length := by rfl) (hst : (assignEach es X.env).findIdx? (·.1) = none := by rfl) : DG X (.Tuple es k pos) (.tp is) := ⟨fun ρ d ρ' hq => by
  cases d with
  | tuple ds =>
    have hq : (if is.length = ds.length then some (setAll ρ is ds) else none) = some ρ' := hq
    split at hq
    · rename_i hl
      cases (Option.some.inj hq)
      exact pgd_tup hc (h.run ρ ds hl) (hn.trans hl) hst
    · cases hq
  | none => cases hq
  | bool _ => cases hq
  | int _ => cases hq
  | str _ => cases hq
  | list _ => cases hq
  | dict _ => cases hq⟩
theorem tgD_nn {i : Nat} {js : List Nat} {ρ ρ' : List Ent} {d : PyData} (h : tgD (.nn i js) ρ d = some ρ') : ∃ a ds, d = .tuple [a, .tuple ds] ∧ js.length = ds.length ∧ ρ' = setAll (ρ.set i (.val a)) js ds := by
  unfold tgD at h
  split at h
  · rename_i e; cases e
  · rename_i e; cases e
  · rename_i i' js' a ds e
    cases e
    split at h
    · rename_i hl; exact ⟨a, ds, rfl, hl, (Option.some.inj h).symm⟩
    · cases h
  · cases h
noncomputable def unpS (t : Tg) (fa : EF) : SF := fun ρ => bns (fa ρ) ρ fun d => (tgD t ρ d).map So.nx
noncomputable def EndI (X : Cx) (H0 G₀ G : Hp) (ρ : List Ent) (H : Hp) (R : It → Hp → Prop) : Re (List PyData) → Prop
  | .ok ds => ∀ J G' H', Grow G H G' H' → Walk X.K J G' ds → R J H'
  | .ex c => XcOk X H0 G₀ G ρ c
noncomputable def rIt (X : Cx) (f : AF) : TI := fun σ H R => ∃ ρ r H0 G₀ G, f ρ = some r ∧ RepS X.K H0 G₀ G H σ ρ ∧ EndI X H0 G₀ G ρ H R r
structure DI (X : Cx) (tg iter : Expr) (f : AF) : Prop where
  run : PI X tg iter (rIt X f)
theorem DI.pid {tg iter : Expr} {f : AF} (h : DI X tg iter f) {ρ : List Ent} {ds : List PyData} (e : f ρ = some (.ok ds)) : PID X tg iter ρ ds := ⟨fun pins s σ H R I ⟨H0, G₀, G, S, q⟩ => h.run pins s σ H R I ⟨ρ, _, H0, G₀, G, e, S, q⟩⟩
theorem di_of {tg iter : Expr} {f : AF} (h : ∀ ρ r, f ρ = some r → ∃ ds, r = .ok ds ∧ PID X tg iter ρ ds) : DI X tg iter f := ⟨fun pins s σ H R I ⟨ρ, r, H0, G₀, G, e, S, q⟩ => by
  obtain ⟨ds, rfl, hp⟩ := h ρ r e
  exact hp.run pins s σ H R I ⟨H0, G₀, G, S, q⟩⟩
noncomputable def seqD : PyData → Option (List PyData)
  | .list ds => some ds
  | .tuple ds => some ds
  | _ => none
noncomputable def seqI (fa : EF) : AF := fun ρ => bnd (fa ρ) fun x => lft (seqD x)
theorem di_seq {tg iter : Expr} (h : DE X iter fa) : DI X tg iter (seqI fa) := ⟨fun pins s σ H R I ⟨ρ, r, H0, G₀, G, e, S, q⟩ => by
  rcases bnd_some e with ⟨x, e1, e2⟩ | ⟨c, e1, e2⟩
  · obtain ⟨ds, e3, rfl⟩ := lft_is e2
    cases x with
    | list es => cases (Option.some.inj e3); exact (pid_list (h.pd e1)).run pins s σ H R I ⟨H0, G₀, G, S, q⟩
    | tuple es => cases (Option.some.inj e3); exact (pid_tup (h.pd e1)).run pins s σ H R I ⟨H0, G₀, G, S, q⟩
    | none => cases e3
    | bool _ => cases e3
    | int _ => cases e3
    | str _ => cases e3
    | dict _ => cases e3
  · subst e2
    exact pi_list h.run pins s σ H R I ⟨ρ, _, H0, G₀, G, e1, S, q⟩⟩
noncomputable def intD : PyData → Option Int
  | .int i => some i
  | _ => none
theorem intD_is {d : PyData} {i : Int} (h : intD d = some i) : d = .int i := by
  cases d <;> first | (cases h; done) | (cases (Option.some.inj h); rfl)
noncomputable def inRng (n : Int) : Bool := decide (-(2 ^ 62) ≤ n) && decide (n < 2 ^ 62)
theorem inRng_is {n : Int} (h : inRng n = true) : -(2 ^ 62) ≤ n ∧ n < 2 ^ 62 := by
  unfold inRng at h
  rw [Bool.and_eq_true] at h
  exact ⟨of_decide_eq_true h.1, of_decide_eq_true h.2⟩
noncomputable def rng1 (fa : EF) : AF := fun ρ => match fa ρ with
  | some (.ok (.int n)) => if inRng n then some (.ok (rangeD 0 n.toNat)) else none
  | _ => none
noncomputable def rng2 (fa fb : EF) : AF := fun ρ => match fa ρ, fb ρ with
  | some (.ok (.int m)), some (.ok (.int n)) => if inRng m && inRng n then some (.ok (rangeD m (n - m).toNat)) else none
  | _, _ => none
theorem di_rng1 {tg a : Expr} (hm : X.mg "range" = none) (h : DE X a fa) (hs : starEach [a] X.env = [(false, eval a X.env)] := by rfl) (hs' : starEach [a] X.env = (false, eval a X.env) :: starEach [] X.env := by rfl) (hg : Gl X "range" := by rfl) :
    DI X tg (.Call (.Name "range" p) [a] [] pos) (rng1 fa) := di_of fun ρ r e => by
  unfold rng1 at e
  split at e
  · rename_i n en
    split at e
    · rename_i hr
      exact ⟨_, (Option.some.inj e).symm, pid_range1 hm (h.pd en) (inRng_is hr).1 (inRng_is hr).2 hs hs' hg⟩
    · cases e
  · cases e
theorem di_rng2 {tg a b : Expr} (hm : X.mg "range" = none) (h : DE X a fa) (h' : DE X b fb)
    (hs : starEach [a, b] X.env = [(false, eval a X.env), (false, eval b X.env)] := by rfl) (hs2 : starEach [b] X.env = [(false, eval b X.env)] := by rfl)
    (hs' : starEach [a, b] X.env = (false, eval a X.env) :: starEach [b] X.env := by rfl) (hs2' : starEach [b] X.env = (false, eval b X.env) :: starEach [] X.env := by rfl) (hg : Gl X "range" := by rfl) :
    DI X tg (.Call (.Name "range" p) [a, b] [] pos) (rng2 fa fb) := di_of fun ρ r e => by
  unfold rng2 at e
  split at e
  · rename_i m n em en
    split at e
    · rename_i hr
      rw [Bool.and_eq_true] at hr
      exact ⟨_, (Option.some.inj e).symm, pid_range2 hm (h.pd em) (h'.pd en) (inRng_is hr.1).1 (inRng_is hr.1).2 (inRng_is hr.2).1 (inRng_is hr.2).2 hs hs2 hs' hs2' hg⟩
    · cases e
  · cases e
noncomputable def loopS (t : Tg) (fb : SF) : List PyData → List Ent → Option So
  | [], ρ => some (.nx ρ)
  | d :: ds, ρ => match tgD t ρ d with
    | none => none
    | some ρ1 => (match fb ρ1 with
      | some (.nx ρ2) => loopS t fb ds ρ2
      | some (.ct ρ2) => loopS t fb ds ρ2
      | some (.bk ρ2) => some (.nx ρ2)
      | some (.rt d) => some (.rt d)
      | some (.xc c ρ2) => some (.xc c ρ2)
      | none => none)
noncomputable def forS (t : Tg) (fi : AF) (fb : SF) : SF := fun ρ => bns (fi ρ) ρ fun ds => loopS t fb ds ρ
end
end L2.L3
namespace L2.L3
open PySem PySem.Spec PyProof.Rows
noncomputable def loopC (t : Tg) (ρb : List Ent) (ft : TF) (fe : EF) : List PyData → Option (List PyData)
  | [] => some []
  | d :: ds => match tgD t ρb d with
    | none => none
    | some ρx => (match ft ρx with
      | some (.ok true) => (match fe ρx with
        | some (.ok v) => (loopC t ρb ft fe ds).map (v :: ·)
        | _ => none)
      | some (.ok false) => loopC t ρb ft fe ds
      | _ => none)
noncomputable def compE (t : Tg) (cap : List (Option Nat)) (fi : AF) (ft : TF) (fe : EF) : EF := fun ρ => bnd (fi ρ) fun ds => if szOk ds.length then lft ((loopC t (capE cap ρ) ft fe ds).map .list) else none
noncomputable def ttT : TF := fun _ => some (.ok true)
noncomputable def cX (t : Tg) (ρb : List Ent) (d : PyData) : List Ent := (tgD t ρb d).getD []
noncomputable def cT (t : Tg) (ρb : List Ent) (ft : TF) (d : PyData) : Bool := match ft (cX t ρb d) with
  | some (.ok b) => b
  | _ => false
noncomputable def cV (t : Tg) (ρb : List Ent) (fe : EF) (d : PyData) : PyData := match fe (cX t ρb d) with
  | some (.ok v) => v
  | _ => .none
theorem loopC_is {t : Tg} {ρb : List Ent} {ft : TF} {fe : EF} : ∀ {ds es : List PyData}, loopC t ρb ft fe ds = some es →
    (∀ d ∈ ds, tgD t ρb d = some (cX t ρb d) ∧ ft (cX t ρb d) = some (.ok (cT t ρb ft d)) ∧ (cT t ρb ft d = true → fe (cX t ρb d) = some (.ok (cV t ρb fe d)))) ∧ es = (ds.filter (cT t ρb ft)).map (cV t ρb fe)
  | [], es, h => by
    cases (Option.some.inj h)
    exact ⟨fun _ z => absurd z (by simp), rfl⟩
  | d :: ds, es, h => by
    unfold loopC at h
    split at h
    · cases h
    · rename_i ρx et
      have ex : cX t ρb d = ρx := by unfold cX; rw [et]; rfl
      split at h
      · rename_i e1
        have e1' : cT t ρb ft d = true := by unfold cT; rw [ex, e1]
        split at h
        · rename_i v ev
          obtain ⟨es', e3, rfl⟩ := Option.map_eq_some_iff.mp h
          obtain ⟨i1, i2⟩ := loopC_is e3
          have evv : cV t ρb fe d = v := by unfold cV; rw [ex, ev]
          refine ⟨fun d' hd => ?_, ?_⟩
          · rcases List.mem_cons.mp hd with rfl | hd
            · rw [ex, e1', evv]; exact ⟨et, e1, fun _ => ev⟩
            · exact i1 d' hd
          · rw [List.filter_cons_of_pos e1', List.map_cons, evv, i2]
        · cases h
      · rename_i e1
        have e1' : cT t ρb ft d = false := by unfold cT; rw [ex, e1]
        obtain ⟨i1, i2⟩ := loopC_is h
        refine ⟨fun d' hd => ?_, ?_⟩
        · rcases List.mem_cons.mp hd with rfl | hd
          · rw [ex, e1']; exact ⟨et, e1, fun z => by cases z⟩
          · exact i1 d' hd
        · rw [List.filter_cons_of_neg (by rw [e1']; decide), i2]
      · cases h
noncomputable def tgFree (cap : List (Option Nat)) : Tg → Bool
  | .nm i => (match cap[i]? with | some (some _) => false | _ => true)
  | .tp is => is.all fun i => match cap[i]? with | some (some _) => false | _ => true
  | .nn i js => (match cap[i]? with | some (some _) => false | _ => true) && js.all fun i => match cap[i]? with | some (some _) => false | _ => true
theorem weak_set : ∀ {a b : List Ent} {i : Nat} {e : Ent}, Weak a b → (b[i]? = some .no ∨ b[i]? = none) → Weak (a.set i e) b
  | _, _, _, _, .nil, _ => .nil
  | _ :: _, _, 0, _, .keep w, h => by
    rcases h with h | h
    · cases (Option.some.inj h); exact .no w
    · cases h
  | _ :: _, _, 0, _, .no w, _ => .no w
  | _ :: _, _, i + 1, _, .keep w, h => .keep (weak_set w (by simpa using h))
  | _ :: _, _, i + 1, _, .no w, h => .no (weak_set w (by simpa using h))
theorem capE_no {cap : List (Option Nat)} {ρ : List Ent} {i : Nat} (h : (match cap[i]? with | some (some _) => false | _ => true) = true) : (capE cap ρ)[i]? = some .no ∨ (capE cap ρ)[i]? = none := by
  unfold capE
  rw [List.getElem?_map]
  cases e : cap[i]? with
  | none => exact .inr rfl
  | some o =>
    rw [e] at h
    cases o with
    | none => exact .inl rfl
    | some j => cases h
theorem weak_all {cap : List (Option Nat)} {ρ : List Ent} : ∀ {is : List Nat} {ds : List PyData} {a : List Ent}, (is.all fun i => match cap[i]? with | some (some _) => false | _ => true) = true → Weak a (capE cap ρ) → Weak (setAll a is ds) (capE cap ρ)
  | [], ds, a, _, w => by cases ds <;> exact w
  | i :: is, [], a, _, w => w
  | i :: is, d :: ds, a, h, w => by
    rw [List.all_cons, Bool.and_eq_true] at h
    exact weak_all (is := is) (ds := ds) (a := a.set i (.val d)) h.2 (weak_set w (capE_no h.1))
theorem weak_tg {cap : List (Option Nat)} {ρ ρx : List Ent} {t : Tg} {d : PyData} (hf : tgFree cap t = true) (h : tgD t (capE cap ρ) d = some ρx) : Weak ρx (capE cap ρ) := by
  cases t with
  | nm i => cases (Option.some.inj h); exact weak_set (.refl _) (capE_no hf)
  | tp is =>
    cases d with
    | tuple ds =>
      have h : (if is.length = ds.length then some (setAll (capE cap ρ) is ds) else none) = some ρx := h
      split at h
      · cases (Option.some.inj h); exact weak_all hf (.refl _)
      · cases h
    | none => cases h
    | bool _ => cases h
    | int _ => cases h
    | str _ => cases h
    | list _ => cases h
    | dict _ => cases h
  | nn i js =>
    obtain ⟨a, ds, rfl, hl, rfl⟩ := tgD_nn h
    have hf : ((match cap[i]? with | some (some _) => false | _ => true) && js.all fun i => match cap[i]? with | some (some _) => false | _ => true) = true := hf
    rw [Bool.and_eq_true] at hf
    exact weak_all hf.2 (weak_set (.refl _) (capE_no hf.1))
section
variable {X : Cx} {elt iter tg : Expr} {ifs : List Expr} {scope : Scope} {pos spos p : Pos} {N' : List Str} {cap : List (Option Nat)} {t : Tg} {fi : AF} {ft : TF} {fe : EF}
structure DTs (X : Cx) (ifs : List Expr) (f : TF) : Prop where
  run : ∀ ρ b, f ρ = some (.ok b) → PTsD X ifs ρ b
theorem dts_nil : DTs X [] ttT := ⟨fun ρ b e => by cases (Option.some.inj e); exact ptsd_nil⟩
theorem dts_one {c : Expr} (h : DT X c ft) : DTs X [c] ft := ⟨fun ρ b e => ptsd_one (h.ptd e)⟩
theorem de_comp (hc : X.calm = true) (B : Blk X scope N' cap) (hi : DI X tg iter fi) (hf : tgFree cap t = true) (hg : ∀ C s₃ H₃ fp, DG (blkCx X scope N' C s₃ H₃ fp) tg t) (ht : ∀ C s₃ H₃ fp, DTs (blkCx X scope N' C s₃ H₃ fp) ifs ft)
    (he : ∀ C s₃ H₃ fp, DE (blkCx X scope N' C s₃ H₃ fp) elt fe) (hs : ∀ x, foldedSetIterable iter X.env x = pure x := by intro _; rfl) : DE X (.ListComp elt [⟨tg, iter, ifs, 0⟩] scope pos) (compE t cap fi ft fe) := ⟨fun pins s σ H Q I ⟨ρ, r, H0, G₀, G, e, R, q⟩ => by
  rcases bnd_some e with ⟨ds, e1, e2⟩ | ⟨c, e1, e2⟩
  · split at e2
    · rename_i hz
      obtain ⟨d, ed, rfl⟩ := lft_is e2
      obtain ⟨es, e3, rfl⟩ := Option.map_eq_some_iff.mp ed
      obtain ⟨k1, rfl⟩ := loopC_is e3
      exact (pd_comp (xs := ds) (φ := fun d => d) (ρb := capE cap ρ) (ρx := cX t (capE cap ρ)) (cnd := cT t (capE cap ρ) ft) (f := cV t (capE cap ρ) fe) hc B (by simpa using hi.pid e1) (.refl _) (fun x hx => weak_tg hf (k1 x hx).1) (sz_le hz)
        (fun C s₃ H₃ fp x hx => (hg C s₃ H₃ fp).run _ _ _ (k1 x hx).1) (fun C s₃ H₃ fp x hx => (ht C s₃ H₃ fp).run _ _ (k1 x hx).2.1) (fun C s₃ H₃ fp x hx hcx => (he C s₃ H₃ fp).pd ((k1 x hx).2.2 hcx)) hs).run H0 G₀ G pins s σ H Q I R q
    · cases e2
  · subst e2
    exact pe_comp (g := fun _ _ _ _ => False) (tc := fun _ _ _ => False) (te := fun _ _ _ => False) hc B hi.run (fun _ _ _ _ _ _ _ _ _ _ _ _ _ z => z.elim) (fun _ _ _ _ _ _ _ _ _ _ z => z.elim) (fun _ _ _ _ _ _ _ _ _ _ z => z.elim) hs pins s σ H Q I
      ⟨ρ, _, H0, G₀, G, e1, R, q⟩⟩
theorem ds_setC (i : Nat) {x : Str} (hN : X.N.Nodup) (hc : X.calm = true) (B : Blk X scope N' cap) (hi : DI X tg iter fi) (hf : tgFree cap t = true) (hg : ∀ C s₃ H₃ fp, DG (blkCx X scope N' C s₃ H₃ fp) tg t) (ht : ∀ C s₃ H₃ fp, DTs (blkCx X scope N' C s₃ H₃ fp) ifs ft)
    (he : ∀ C s₃ H₃ fp, DE (blkCx X scope N' C s₃ H₃ fp) elt fe)
    (hxi : X.N[i]? = some x := by rfl) (hx : X.env.scope.names.lookup x = some .local := by rfl)
    (hsw : swapsWith (.ListComp elt [⟨tg, iter, ifs, 0⟩] scope pos) (some (.Name x p)) spos.line X.env = pure true := by rfl)
    (hs : ∀ x, foldedSetIterable iter X.env x = pure x := by intro _; rfl) : DS X (.Assign [.Name x p] (.ListComp elt [⟨tg, iter, ifs, 0⟩] scope pos) spos) (setS i (compE t cap fi ft fe)) := ⟨fun pins s σ H D I ⟨ρ, o, H0, G₀, G, e, R, q⟩ => by
  rcases bns_some e with ⟨d, e1, e2⟩ | ⟨c, e1, e2⟩
  · cases (Option.some.inj e2)
    rcases bnd_some e1 with ⟨ds, e3, e4⟩ | ⟨c, _, e4⟩
    · split at e4
      · rename_i hz
        obtain ⟨d', ed, z⟩ := lft_is e4
        cases z
        obtain ⟨es, e5, rfl⟩ := Option.map_eq_some_iff.mp ed
        obtain ⟨k1, rfl⟩ := loopC_is e5
        exact (psd_setC i (xs := ds) (φ := fun d => d) (ρb := capE cap ρ) (ρx := cX t (capE cap ρ)) (cnd := cT t (capE cap ρ) ft) (f := cV t (capE cap ρ) fe) hN hc B (by simpa using hi.pid e3) (.refl _) (fun x hx => weak_tg hf (k1 x hx).1) (sz_le hz)
          (fun C s₃ H₃ fp x hx => (hg C s₃ H₃ fp).run _ _ _ (k1 x hx).1) (fun C s₃ H₃ fp x hx => (ht C s₃ H₃ fp).run _ _ (k1 x hx).2.1) (fun C s₃ H₃ fp x hx hcx => (he C s₃ H₃ fp).pd ((k1 x hx).2.2 hcx)) hxi hx hsw hs).run pins s σ H D I ⟨H0, G₀, G, R, q⟩
      · cases e4
    · cases e4
  · subst e2
    rcases bnd_some e1 with ⟨ds, e3, e4⟩ | ⟨c', e3, e4⟩
    · split at e4
      · obtain ⟨_, _, z⟩ := lft_is e4; cases z
      · cases e4
    · cases e4
      exact ps_setC (g := fun _ _ _ _ => False) (tc := fun _ _ _ => False) (te := fun _ _ _ => False) hN hxi hx hc B hi.run (fun _ _ _ _ _ _ _ _ _ _ _ _ _ z => z.elim) (fun _ _ _ _ _ _ _ _ _ _ z => z.elim) (fun _ _ _ _ _ _ _ _ _ _ z => z.elim) hsw hs pins s σ H D I
        ⟨ρ, _, H0, G₀, G, e3, R, q⟩⟩
end
noncomputable def startN (m : Nat) (ds : List PyData) : List Ent := ds.map .val ++ List.replicate (m - ds.length) .no
noncomputable def runD (m n : Nat) (f : SF) (ds : List PyData) : Mm PyData := if ds.length = n then (match f (startN m ds) with
  | some (.rt d) => some (.ok d)
  | some (.nx _) => some (.ok .none)
  | _ => none) else none
noncomputable abbrev CalleeM (P : Program) (w : World) (K : PySem.W.Frag) (mg : Str → Option Value) (base : Heap) (x : Str) (k : Nat) (ps : List Str) (F : List PyData → Mm PyData) : Prop :=
  Callee P w K mg base x k ps fun ds d => F ds = some (.ok d)
section
variable {P : Program} {w : World} {K : PySem.W.Frag} {mg : Str → Option Value} {base : Heap} {X : Cx} {e : Expr} {es : List Expr} {pos p : Pos} {x : Str} {k : Nat} {ps N : List Str} {F : List PyData → Mm PyData}
noncomputable def callE (F : List PyData → Mm PyData) (fa : AF) : EF := fun ρ => bnd (fa ρ) fun ds => match F ds with
  | some (.ok d) => some (.ok d)
  | _ => none
theorem de_call {fa : AF} (C : CalleeM X.prog X.w X.K X.mg X.base x k ps F) (hr : Room k X.A) (ha : DA X (e :: es) fa) (hg : Gl X x := by rfl) (hdb : (x == ("__debug__" : Str)) = false := by decide)
    (he : starEach (e :: es) X.env = (false, eval e X.env) :: starEach es X.env := by rfl) (hpl : (backTo pos (starEach es X.env)).any (·.1) = false := by rfl) : DE X (.Call (.Name x p) (e :: es) [] pos) (callE F fa) := ⟨fun pins s σ H Q I ⟨ρ, r, H0, G₀, G, e', R, q⟩ => by
  obtain ⟨f, fd, a, b, c, Fk⟩ := C.ex
  refine pe_call Fk hr hg a b c .nil (pass0 (X := X)) ha.run hdb he hpl pins s σ H Q I (bA R e' q.x fun ds vs G1 H1 g1 R1 rv e1 => ?_)
  split at e1
  · rename_i d ed
    cases (Option.some.inj e1)
    exact ⟨G1, ds, d, ⟨g1.sub, R1.tab⟩, by simpa using rv, ed, fun v G2 H2 g2 r2 => q v G2 H2 (g1.trans g2) r2⟩
  · cases e1⟩
theorem startE_eq (N : List Str) (ds : List PyData) : startE N ds = startN N.length ds := rfl
theorem fn_den {st : Stmt} {f : SF} {fa : Addr} {fd : FuncData} (m n : Nat) (Fu : Fun K x x st fa fd) (S : FnScope N ps (defScope st)) (hm : N.length = m) (hn : ps.length = n)
    (body : ∀ (cdv : Value) (A : Around) (outer : List Env) (s : Shared) (H : Hp) (E : XK), Room k (A.deeper (envOfC x (defScope st) s.heap.objs.size fa cdv)) → DB (fcx P w K mg base N x (defScope st) fa cdv A outer s H E) (defBody st) f) :
    FnOk P w K mg base CX0 (k + 1) fa fd ps (spD K fun ds d => runD m n f ds = some (.ok d)) := by
  refine Fu.ok S (fun vs H Q E ⟨G, ds, d, s, r, hF, _⟩ => ?_) (fun cdv A outer s H vs Q E hr ⟨G, ds, d, sm, r, hF, q⟩ => ?_)
  · have hF : runD m n f ds = some (.ok d) := hF
    unfold runD at hF
    split at hF
    · rename_i hl; rw [r.length, hl, hn]
    · cases hF
  · have hF : runD m n f ds = some (.ok d) := hF
    unfold runD at hF
    split at hF
    · rw [← hm, ← startE_eq] at hF
      split at hF
      · rename_i d' e
        cases (Option.some.inj hF)
        exact ⟨_, (body cdv A outer s H E hr).run, startE N ds, _, H, G, G, e, startE_ok sm r, fun v G' H' _ g rv => q v G' H' g rv⟩
      · rename_i ρ' e
        cases (Option.some.inj hF)
        exact ⟨_, (body cdv A outer s H E hr).run, startE N ds, _, H, G, G, e, startE_ok sm r, fun G' H' σ' _ R' => q .non G' H' R'.grow .none⟩
      · cases hF
    · cases hF
theorem callee_den {st : Stmt} {f : SF} (m n : Nat) (D : Def K mg x st) (S : FnScope N ps (defScope st)) (hm : N.length = m) (hn : ps.length = n)
    (hb : ∀ (kV doc pm : Value) (an : Option Addr) (cdv ct : Value) (us : List Value), us.length = ps.length → bindArgs (PySem.W.fnOf x x (defArgs st) (defBody st) (defScope st) .none kV doc pm an cdv ct) ⟨us, []⟩ = pure (ps.zip us))
    (body : ∀ (fa : Addr) (cdv : Value) (A : Around) (outer : List Env) (s : Shared) (H : Hp) (E : XK), Room k (A.deeper (envOfC x (defScope st) s.heap.objs.size fa cdv)) → DB (fcx P w K mg base N x (defScope st) fa cdv A outer s H E) (defBody st) f) :
    CalleeM P w K mg base x (k + 1) ps (runD m n f) := by
  obtain ⟨fa, fd, Fu, hmg⟩ := D.ex
  exact ⟨fa, fd, hmg, Fu.kp, Fu.binds hb, fn_den m n Fu S hm hn fun cdv A outer s H E hr => body fa cdv A outer s H E hr⟩
end
end L2.L3
namespace L2.L3
open PySem PySem.Spec PyProof.Rows
noncomputable def allD {α : Type} (f : PyData → Option α) : List PyData → Option (List α)
  | [] => some []
  | d :: ds => match f d with
    | none => none
    | some a => (allD f ds).map (a :: ·)
noncomputable def strD : PyData → Option Str
  | .str i => some i
  | _ => none
theorem strD_is {d : PyData} {i : Str} (h : strD d = some i) : d = .str i := by
  cases d <;> first | (cases h; done) | (cases (Option.some.inj h); rfl)
theorem allD_is {α : Type} {f : PyData → Option α} {g : α → PyData} (h : ∀ d a, f d = some a → d = g a) : ∀ {ds : List PyData} {as : List α}, allD f ds = some as → ds = as.map g
  | [], as, e => by cases (Option.some.inj e); rfl
  | d :: ds, as, e => by
    unfold allD at e
    split at e
    · cases e
    · rename_i a ea
      obtain ⟨as', e', rfl⟩ := Option.map_eq_some_iff.mp e
      rw [List.map_cons, ← h d a ea, allD_is h e']
section
variable {X : Cx} {x y d : PyData}
theorem opD_of {op : Operator} {g : Int → Int → Int} {i j : Int} (ho : OpR X (binaryOp op) (rI0 fun i j => .int (g i j))) : OpD X op (.int i) (.int j) (.int (g i j)) := ⟨_, ho, fun v u G H Q s rv ru q => by
  cases rv; cases ru; exact ⟨_, _, rfl, rfl, q _ _ _ (.refl s) (.int _)⟩⟩
theorem opD_ofC {op : Operator} {C : Int → Int → Prop} {g : Int → Int → Int} {i j : Int} (ho : OpR X (binaryOp op) (rI C fun i j => .int (g i j))) (hc : C i j) : OpD X op (.int i) (.int j) (.int (g i j)) := ⟨_, ho, fun v u G H Q s rv ru q => by
  cases rv; cases ru; exact ⟨_, _, rfl, rfl, hc, q _ _ _ (.refl s) (.int _)⟩⟩
noncomputable def addD (x y : PyData) : Option PyData := match x, y with
  | .int i, .int j => some (.int (i + j))
  | .str i, .str j => if szOk (i.length + j.length) then some (.str (i ++ j)) else none
  | .list a, .list b => if szOk (a.length + b.length) then some (.list (a ++ b)) else none
  | .tuple a, .tuple b => if szOk (a.length + b.length) then some (.tuple (a ++ b)) else none
  | _, _ => none
theorem add_ok (x y d : PyData) (h : addD x y = some d) : OpD X .Add x y d := by
  unfold addD at h
  split at h
  · cases (Option.some.inj h); exact opD_of op_add
  · split at h
    · rename_i i j hz
      cases (Option.some.inj h)
      exact ⟨_, op_add_str, fun v u G H Q s rv ru q => by cases rv; cases ru; exact ⟨_, _, rfl, rfl, sz_le hz, q _ _ _ (.refl s) (.str _)⟩⟩
    · cases h
  · split at h
    · rename_i a b hz
      cases (Option.some.inj h)
      exact ⟨_, op_catS, fun v u G H Q s rv ru q => by
        cases rv with
        | list h1 r1 => cases ru with
          | list h2 r2 => exact ⟨_, _, _, _, rfl, rfl, s.seq h1, s.seq h2, by rw [r1.length, r2.length]; exact sz_le hz, fun l hl => q _ _ _ (.put s hl) (.list (.of upd_same) ((r1.append r2).mono (same_upd (s.free hl))))⟩⟩
    · cases h
  · split at h
    · rename_i a b hz
      cases (Option.some.inj h)
      exact ⟨_, op_catU, fun v u G H Q s rv ru q => by
        cases rv with
        | tuple h1 r1 => cases ru with
          | tuple h2 r2 =>
            refine ⟨_, _, _, _, rfl, rfl, seqT s h1, seqT s h2, by rw [r1.length, r2.length]; exact sz_le hz, fun z => ?_, fun z z2 => ?_, fun _ _ l hl => q _ _ _ (.put s hl) (.tuple (.of upd_same) ((r1.append r2).mono (same_upd (s.free hl))))⟩
            · subst z
              cases r1
              exact q _ G H (.refl s) (.tuple h2 r2)
            · subst z2
              cases r2
              exact q _ G H (.refl s) (by rw [List.append_nil]; exact .tuple h1 r1)⟩
    · cases h
  · cases h
noncomputable def subD (x y : PyData) : Option PyData := match x, y with
  | .int i, .int j => some (.int (i - j))
  | _, _ => none
theorem sub_ok (x y d : PyData) (h : subD x y = some d) : OpD X .Sub x y d := by
  unfold subD at h
  split at h
  · cases (Option.some.inj h); exact opD_of op_sub
  · cases h
noncomputable def smallI (i : Int) : Bool := decide (-(2 ^ 64) < i) && decide (i < 2 ^ 64)
theorem smallI_is {i : Int} (h : smallI i = true) : -(2 ^ 64) < i ∧ i < 2 ^ 64 := by
  unfold smallI at h
  rw [Bool.and_eq_true] at h
  exact ⟨of_decide_eq_true h.1, of_decide_eq_true h.2⟩
noncomputable def mulD (x y : PyData) : Option PyData := match x, y with
  | .int i, .int j => if smallI i || smallI j then some (.int (i * j)) else none
  | _, _ => none
theorem mul_ok (x y d : PyData) (h : mulD x y = some d) : OpD X .Mult x y d := by
  unfold mulD at h
  split at h
  · split at h
    · rename_i hz
      cases (Option.some.inj h)
      rw [Bool.or_eq_true] at hz
      exact opD_ofC op_mul (hz.imp smallI_is smallI_is)
    · cases h
  · cases h
noncomputable def modD (x y : PyData) : Option PyData := match x, y with
  | .int i, .int j => if 0 < j then some (.int (i % j)) else none
  | _, _ => none
theorem mod_ok (x y d : PyData) (h : modD x y = some d) : OpD X .Mod x y d := by
  unfold modD at h
  split at h
  · split at h
    · rename_i hz
      cases (Option.some.inj h)
      exact opD_ofC op_mod hz
    · cases h
  · cases h
noncomputable def fdvD (x y : PyData) : Option PyData := match x, y with
  | .int i, .int j => if 0 < j ∧ j < 1073741824 then some (.int (i / j)) else none
  | _, _ => none
theorem fdv_ok (x y d : PyData) (h : fdvD x y = some d) : OpD X .FloorDiv x y d := by
  unfold fdvD at h
  split at h
  · split at h
    · rename_i hz
      cases (Option.some.inj h)
      exact opD_ofC op_fdiv hz
    · cases h
  · cases h
noncomputable def ltD (x y : PyData) : Option Bool := match x, y with
  | .int i, .int j => some (decide (i < j))
  | _, _ => none
noncomputable def leD (x y : PyData) : Option Bool := match x, y with
  | .int i, .int j => some (decide (i ≤ j))
  | .str i, .str j => some (!decide (j.cps.toList < i.cps.toList))
  | _, _ => none
noncomputable def gtD (x y : PyData) : Option Bool := match x, y with
  | .int i, .int j => some (decide (j < i))
  | _, _ => none
noncomputable def geD (x y : PyData) : Option Bool := match x, y with
  | .int i, .int j => some (decide (j ≤ i))
  | _, _ => none
theorem lt_ok (x y : PyData) (t : Bool) (h : ltD x y = some t) : CmpD X .Lt x y t := by
  unfold ltD at h; split at h
  · cases (Option.some.inj h); exact cmp_lt
  · cases h
theorem le_ok (x y : PyData) (t : Bool) (h : leD x y = some t) : CmpD X .LtE x y t := by
  unfold leD at h; split at h
  · cases (Option.some.inj h); exact cmp_le
  · cases (Option.some.inj h); exact cmp_leS
  · cases h
theorem gt_ok (x y : PyData) (t : Bool) (h : gtD x y = some t) : CmpD X .Gt x y t := by
  unfold gtD at h; split at h
  · cases (Option.some.inj h); exact cmp_gt
  · cases h
noncomputable def eqD (x y : PyData) : Option Bool := match x, y with
  | .int i, .int j => some (decide (i = j))
  | .str i, .str j => some (decide (i = j))
  | .bool i, .bool j => some (decide (i = j))
  | x, y => if SeqAt.shaped x && SeqAt.shaped y then some (PyData.eqv x y) else none
noncomputable def neD (x y : PyData) : Option Bool := match x, y with
  | .int i, .int j => some (!decide (i = j))
  | .str i, .str j => some (!decide (i = j))
  | .bool i, .bool j => some (!decide (i = j))
  | x, y => if SeqAt.shaped x && SeqAt.shaped y then some (!PyData.eqv x y) else none
theorem eq_ok (hu : X.A.units + 64 < cLine) (x y : PyData) (t : Bool) (h : eqD x y = some t) : CmpD X .Eq x y t := by
  unfold eqD at h; split at h
  · cases (Option.some.inj h); exact cmp_eqI
  · cases (Option.some.inj h); exact cmp_eqS
  · cases (Option.some.inj h); exact cmp_eqB
  · split at h
    · rename_i hz
      rw [Bool.and_eq_true] at hz
      cases (Option.some.inj h); exact cmp_eq hu hz.1 hz.2
    · cases h
theorem ne_ok (hu : X.A.units + 64 < cLine) (x y : PyData) (t : Bool) (h : neD x y = some t) : CmpD X .NotEq x y t := by
  unfold neD at h; split at h
  · cases (Option.some.inj h); exact cmp_neI
  · cases (Option.some.inj h); exact cmp_neS
  · cases (Option.some.inj h); exact cmp_neB
  · split at h
    · rename_i hz
      rw [Bool.and_eq_true] at hz
      cases (Option.some.inj h); exact cmp_ne hu hz.1 hz.2
    · cases h
noncomputable def inD (x y : PyData) : Option Bool := match x, seqD y with
  | .int i, some ds => (allD intD ds).map fun ns => decide (i ∈ ns)
  | .str i, some ds => (allD strD ds).map fun ns => decide (i ∈ ns)
  | _, _ => none
noncomputable def ninD (x y : PyData) : Option Bool := (inD x y).map (!·)
theorem seq_rep {K : PySem.W.Frag} {G H : Hp} {v : V} {y : PyData} {ds : List PyData} (s : Same G H) (h : seqD y = some ds) (r : Rep K G v y) : ∃ p vs, v = .ref p ∧ (SqL K H p vs ∨ SqT K H p vs) ∧ RepAll K G vs ds := by
  cases r with
  | list hq r => cases (Option.some.inj h); exact ⟨_, _, rfl, .inl (s.seq hq), r⟩
  | tuple hq r => cases (Option.some.inj h); exact ⟨_, _, rfl, .inr (seqT s hq), r⟩
  | dict _ _ _ => cases h
  | none => cases h
  | bool _ => cases h
  | int _ => cases h
  | str _ => cases h
theorem in_ok (x y : PyData) (t : Bool) (h : inD x y = some t) : CmpD X .In x y t := by
  unfold inD at h; split at h
  · rename_i i ds e
    obtain ⟨ns, e2, rfl⟩ := Option.map_eq_some_iff.mp h
    have := allD_is (g := .int) (fun d a q => intD_is q) e2
    subst this
    exact ⟨_, op_in_seq, fun v u G H Q s rv ru q => by
      obtain ⟨p, vs, rfl, hq, r⟩ := seq_rep s e ru
      have e3 := r.ints
      subst e3
      cases rv
      exact ⟨p, _, rfl, hq, rfl, flat_ints ns, by rw [inV_ints]; simpa using q⟩⟩
  · rename_i i ds e
    obtain ⟨ns, e2, rfl⟩ := Option.map_eq_some_iff.mp h
    have := allD_is (g := .str) (fun d a q => strD_is q) e2
    subst this
    exact ⟨_, op_in_seq, fun v u G H Q s rv ru q => by
      obtain ⟨p, vs, rfl, hq, r⟩ := seq_rep s e ru
      have e3 := r.strs
      subst e3
      cases rv
      exact ⟨p, _, rfl, hq, rfl, flat_strs ns, by rw [inV_strs]; simpa using q⟩⟩
  · cases h
theorem nin_ok (x y : PyData) (t : Bool) (h : ninD x y = some t) : CmpD X .NotIn x y t := by
  unfold ninD at h
  obtain ⟨t', hq, rfl⟩ := Option.map_eq_some_iff.mp h
  clear h
  unfold inD at hq; split at hq
  · rename_i i ds e
    obtain ⟨ns, e2, rfl⟩ := Option.map_eq_some_iff.mp hq
    have := allD_is (g := .int) (fun d a q => intD_is q) e2
    subst this
    exact ⟨_, op_notIn_seq, fun v u G H Q s rv ru q => by
      obtain ⟨p, vs, rfl, hq, r⟩ := seq_rep s e ru
      have e3 := r.ints
      subst e3
      cases rv
      exact ⟨p, _, rfl, hq, rfl, flat_ints ns, by rw [inV_ints]; simpa using q⟩⟩
  · rename_i i ds e
    obtain ⟨ns, e2, rfl⟩ := Option.map_eq_some_iff.mp hq
    have := allD_is (g := .str) (fun d a q => strD_is q) e2
    subst this
    exact ⟨_, op_notIn_seq, fun v u G H Q s rv ru q => by
      obtain ⟨p, vs, rfl, hq, r⟩ := seq_rep s e ru
      have e3 := r.strs
      subst e3
      cases rv
      exact ⟨p, _, rfl, hq, rfl, flat_strs ns, by rw [inV_strs]; simpa using q⟩⟩
  · cases hq
noncomputable def lenD (ds : List PyData) : Option PyData := match ds with
  | [.list xs] => some (.int xs.length)
  | [.tuple xs] => some (.int xs.length)
  | [.str z] => if szOk z.length then some (.int z.length) else none
  | _ => none
theorem len_ok (ds : List PyData) (d : PyData) (h : lenD ds = some d) : CallD X (.builtin "len") ds d := by
  unfold lenD at h; split at h
  · cases (Option.some.inj h)
    exact ⟨_, call_len_seq, fun vs G H Q s r q => by
      cases r with | cons r rr => cases rr; cases r with | list hq r => exact ⟨_, _, rfl, .inl (s.seq hq), by rw [r.length]; exact q _ G H (.refl s) (.int _)⟩⟩
  · cases (Option.some.inj h)
    exact ⟨_, call_len_seq, fun vs G H Q s r q => by
      cases r with | cons r rr => cases rr; cases r with | tuple hq r => exact ⟨_, _, rfl, .inr (seqT s hq), by rw [r.length]; exact q _ G H (.refl s) (.int _)⟩⟩
  · split at h
    · rename_i hz
      cases (Option.some.inj h)
      exact ⟨_, call_len_str, fun vs G H Q s r q => by
        cases r with | cons r rr => cases rr; cases r with | str z => exact ⟨_, rfl, sz_le hz, q _ G H (.refl s) (.int _)⟩⟩
    · cases h
  · cases h
noncomputable def maxD (ds : List PyData) : Option PyData := match ds with
  | [.int i, .int j] => some (.int (max i j))
  | [.list xs] => (match allD intD xs with | some (n :: ns) => some (.int (maxI (n :: ns))) | _ => none)
  | _ => none
noncomputable def minD (ds : List PyData) : Option PyData := match ds with
  | [.int i, .int j] => some (.int (min i j))
  | [.list xs] => (match allD intD xs with | some (n :: ns) => some (.int (minI (n :: ns))) | _ => none)
  | _ => none
noncomputable def tupD (ds : List PyData) : Option PyData := match ds with
  | [.list xs] => some (.tuple xs)
  | [.tuple xs] => some (.tuple xs)
  | _ => none
theorem tup_ok (ds : List PyData) (d : PyData) (h : tupD ds = some d) : CallD X (.type "tuple") ds d := by
  unfold tupD at h; split at h
  · cases (Option.some.inj h)
    exact ⟨_, call_tuple_of, fun vs G H Q s r q => by
      cases r with | cons r rr => cases rr; cases r with | list hq r => exact ⟨_, _, rfl, .inl ⟨s.seq hq, fun l hl => q _ _ _ (.put s hl) (.tuple (.of upd_same) (r.mono (same_upd (s.free hl))))⟩⟩⟩
  · cases (Option.some.inj h)
    exact ⟨_, call_tuple_of, fun vs G H Q s r q => by
      cases r with | cons r rr => cases rr; cases r with | tuple hq r => exact ⟨_, _, rfl, .inr ⟨seqT s hq, q _ G H (.refl s) (.tuple hq r)⟩⟩⟩
  · cases h
noncomputable def lstD (ds : List PyData) : Option PyData := match ds with
  | [.list xs] => some (.list xs)
  | [.tuple xs] => some (.list xs)
  | _ => none
noncomputable def intC (ds : List PyData) : Option PyData := match ds with
  | [.bool b] => some (.int (if b then 1 else 0))
  | [.int i] => some (.int i)
  | _ => none
theorem int_ok (ds : List PyData) (d : PyData) (h : intC ds = some d) : CallD X (.type "int") ds d := by
  unfold intC at h; split at h
  · cases (Option.some.inj h)
    exact ⟨_, call_int1, fun vs G H Q s r q => by
      cases r with | cons r rr => cases rr; cases r; exact .inr ⟨_, rfl, q _ G H (.refl s) (.int _)⟩⟩
  · cases (Option.some.inj h)
    exact ⟨_, call_int1, fun vs G H Q s r q => by
      cases r with | cons r rr => cases rr; cases r; exact .inl ⟨_, rfl, q _ G H (.refl s) (.int _)⟩⟩
  · cases h
noncomputable def srtD (ds : List PyData) : Option PyData := match ds with
  | [.list xs] => (match allD intD xs with | some ns => if ns.length < 64 then some (.list ((sortI ns).map .int)) else none | none => none)
  | _ => none
theorem srt_ok (ds : List PyData) (d : PyData) (h : srtD ds = some d) : CallD X (.builtin "sorted") ds d := by
  unfold srtD at h; split at h
  · split at h
    · rename_i xs ns e
      split at h
      · rename_i hl
        cases (Option.some.inj h)
        have := allD_is (g := .int) (fun d a q => intD_is q) e
        subst this
        exact ⟨_, call_sortedI, fun vs G H Q s r q => by
          cases r with | cons r rr => cases rr; cases r with | list hq r =>
            have e := r.ints
            subst e
            exact ⟨_, ns, rfl, s.seq hq, hl, fun l hn => q _ _ _ (.put s hn) (.list (.of upd_same) (repAll_intsG _))⟩⟩
      · cases h
    · cases h
  · cases h
end
section
variable {X : Cx} {a b : Expr} {pos p p2 : Pos} {fa fb : EF}
noncomputable def negD : PyData → Option PyData
  | .int i => some (.int (-i))
  | _ => none
noncomputable def op1 (g : PyData → Option PyData) (fa : EF) : EF := fun ρ => bnd (fa ρ) fun x => lft (g x)
theorem de_neg (ha : DE X a fa) : DE X (.UnaryOp .USub a pos) (op1 negD fa) := ⟨fun pins s σ H Q I ⟨ρ, r, H0, G₀, G, e, R, q⟩ => pe_un un_neg ha.run pins s σ H Q I (bE R e q.x fun x v G1 H1 g1 R1 rv e1 => by
  obtain ⟨d, ed, rfl⟩ := lft_is e1
  cases x with
  | int i => cases (Option.some.inj ed); cases rv; exact ⟨_, rfl, q _ _ _ g1 (.int _)⟩
  | none => cases ed
  | bool _ => cases ed
  | str _ => cases ed
  | list _ => cases ed
  | tuple _ => cases ed
  | dict _ => cases ed)⟩
end
end L2.L3
namespace L2.L3
open PySem PySem.Spec PyProof.Rows
noncomputable def chn3E (g1 g2 g3 : PyData → PyData → Option Bool) (fa fb fc fd : EF) : EF := fun ρ => bnd (fa ρ) fun x => bnd (fb ρ) fun y => bnd (lft (g1 x y)) fun t => if t then bnd (fc ρ) fun z => bnd (lft (g2 y z)) fun u => if u then bnd (fd ρ) fun w => lft ((g3 z w).map .bool) else some (.ok (.bool false)) else some (.ok (.bool false))
noncomputable def isB (k x : PyData) : Option Bool := match k, x with
  | .none, .none => some true
  | .none, .bool _ => some false
  | .none, .int _ => some false
  | .none, .str _ => some false
  | .none, .list _ => some false
  | .none, .tuple _ => some false
  | .none, .dict _ => some false
  | .bool a, .bool b => some (b == a)
  | _, _ => none
noncomputable def isE (neg : Bool) (k : PyData) (fa : EF) : EF := fun ρ => bnd (fa ρ) fun x => lft ((isB k x).map fun t => .bool (neg != t))
noncomputable def isT (neg : Bool) (k : PyData) (fa : EF) : TF := fun ρ => bnd (fa ρ) fun x => lft ((isB k x).map fun t => neg != t)
noncomputable abbrev OF := List Ent → Mm (Option Int)
noncomputable def oNone : OF := fun _ => some (.ok none)
noncomputable def oSome (fa : EF) : OF := fun ρ => bnd (fa ρ) fun x => lft ((intD x).map some)
noncomputable def slD (x : PyData) (lo hi : Option Int) : Option PyData := match x with
  | .list ds => some (.list (cutD ds lo hi))
  | .tuple ds => if HT.sIx ds.length 0 lo = 0 ∧ HT.sIx ds.length ds.length hi = ds.length then none else some (.tuple (cutD ds lo hi))
  | _ => none
noncomputable def slE (fa : EF) (lo hi : OF) : EF := fun ρ => bnd (fa ρ) fun x => bnd (lo ρ) fun l => bnd (hi ρ) fun h => lft (slD x l h)
noncomputable def tyI : PyData → Option Bool
  | .int _ => some true
  | .bool _ => some true
  | .dict _ => none
  | _ => some false
noncomputable def tyB : PyData → Option Bool
  | .bool _ => some true
  | .dict _ => none
  | _ => some false
noncomputable def tyS : PyData → Option Bool
  | .str _ => some true
  | .dict _ => none
  | _ => some false
noncomputable def tyT : PyData → Option Bool
  | .tuple _ => some true
  | .dict _ => none
  | _ => some false
noncomputable def isTy (T : String) (x : PyData) : Option Bool := if T = "int" then tyI x else if T = "bool" then tyB x else if T = "str" then tyS x else if T = "tuple" then tyT x else none
noncomputable def isD (T : String) (x : PyData) : Option PyData := (isTy T x).map .bool
noncomputable def leStr (a b : Str) : Bool := !decide (b.cps.toList < a.cps.toList)
end L2.L3
namespace L2.L3
open PySem PySem.Spec PyProof.Rows
section
variable {X : Cx} {e a b c d : Expr} {es : List Expr} {pos p p2 : Pos} {fa fb fc fd : EF}
theorem de_chn3 {o1 o2 o3 : CmpOp} {g1 g2 g3 : PyData → PyData → Option Bool} (h1 : ∀ x y t, g1 x y = some t → CmpD X o1 x y t) (h2 : ∀ x y t, g2 x y = some t → CmpD X o2 x y t) (h3 : ∀ x y t, g3 x y = some t → CmpD X o3 x y t)
    (ha : DE X a fa) (hb : DE X b fb) (hc : DE X c fc) (hd : DE X d fd) (hm : lastMarks [o1, o2, o3] [b, c, d] = false := by with_unfolding_all rfl) : DE X (.Compare a [o1, o2, o3] [b, c, d] pos) (chn3E g1 g2 g3 fa fb fc fd) := ⟨fun pins s σ H Q I ⟨ρ, r, H0, G₀, G, ef, R, q⟩ => by
  refine Compare_chain (thn (ha.run pins s σ H (fun v H1 => rE X fb σ H1 fun u H2 => ∃ x y G2 t, CmpD X o1 x y t ∧ Rep X.K G2 v x ∧ Rep X.K G2 u y ∧ RepS X.K H0 G₀ G2 H2 σ ρ ∧ EndE X H0 G₀ G2 ρ H2 Q r ∧
      (if t then bnd (fc ρ) fun z => bnd (lft (g2 y z)) fun u => if u then bnd (fd ρ) fun w => lft ((g3 z w).map .bool) else some (.ok (.bool false)) else some (.ok (.bool false))) = some r) I
    (bE R ef q.x fun x v G1 H1 k1 R1 rv e1 => bE R1 e1 (q.more k1).x fun y u G2 H2 k2 R2 ru e2 => by
      rcases bnd_some e2 with ⟨t, et, e3⟩ | ⟨_, et, _⟩
      · obtain ⟨t', et', z⟩ := lft_is et
        cases z
        exact ⟨x, y, G2, _, h1 x y _ et', rv.mono k2.gg, ru, R2, (q.more k1).more k2, e3⟩
      · obtain ⟨_, _, z⟩ := lft_is et; cases z)) fun v s1 ⟨xv, H1, I1, r1, q1⟩ => chain_link (thn (hb.run pins s1 σ H1 _ I1 q1) fun u s2 ⟨yv, H2, I2, r2, x, y, G2, t, ct, rx, ry, R2, q2, e3⟩ => ?_)) hm
  obtain ⟨rr, hr1, hr2⟩ := ct.ex
  refine thn (hr1 pins s2 σ H2 xv yv v u (fun w H' => w = .bl t ∧ H' = H2) I2 r1 r2 (hr2 xv yv G2 H2 _ R2.sub rx ry ⟨rfl, rfl⟩)) fun dv s3 ⟨z, H3, I3, r3, ez, eH⟩ => ?_
  subst ez eH
  cases r3
  refine wpAny_truthy_bool ?_
  cases t with
  | false =>
    refine ite_ff ?_
    rw [if_neg (by decide)] at e3
    cases (Option.some.inj e3)
    exact ⟨.bl false, H3, I3, rfl, q2 _ _ _ (.refl R2.sub) (.bool _)⟩
  | true =>
    refine ite_tt ?_
    rw [if_pos rfl] at e3
    refine chain_link (thn (hc.run pins s3 σ H3 (fun w H4 => ∃ z G4 t, CmpD X o2 y z t ∧ Rep X.K G4 yv y ∧ Rep X.K G4 w z ∧ RepS X.K H0 G₀ G4 H4 σ ρ ∧ EndE X H0 G₀ G4 ρ H4 Q r ∧
        (if t then bnd (fd ρ) fun w => lft ((g3 z w).map .bool) else some (.ok (.bool false))) = some r) I3
      (bE R2 e3 q2.x fun z w G4 H4 k4 R4 rw' e4 => by
        rcases bnd_some e4 with ⟨t, et, e5⟩ | ⟨_, et, _⟩
        · obtain ⟨t', et', z'⟩ := lft_is et
          cases z'
          exact ⟨z, G4, _, h2 y z _ et', ry.mono k4.gg, rw', R4, q2.more k4, e5⟩
        · obtain ⟨_, _, z'⟩ := lft_is et; cases z')) fun w s4 ⟨wv, H4, I4, r4, z, G4, t, ct2, ry4, rz, R4, q4, e5⟩ => ?_)
    obtain ⟨rr2, hr3, hr4⟩ := ct2.ex
    refine thn (hr3 pins s4 σ H4 yv wv u w (fun w H' => w = .bl t ∧ H' = H4) I4 r2 r4 (hr4 yv wv G4 H4 _ R4.sub ry4 rz ⟨rfl, rfl⟩)) fun dv2 s5 ⟨z2, H5, I5, r5, ez2, eH2⟩ => ?_
    subst ez2 eH2
    cases r5
    refine wpAny_truthy_bool ?_
    cases t with
    | false =>
      refine ite_ff ?_
      rw [if_neg (by decide)] at e5
      cases (Option.some.inj e5)
      exact ⟨.bl false, H5, I5, rfl, q4 _ _ _ (.refl R4.sub) (.bool _)⟩
    | true =>
      refine ite_tt ?_
      rw [if_pos rfl] at e5
      refine chain_last (thn (hd.run pins s5 σ H5 (fun k H6 => ∃ rr, OpR X (compareOp o3) rr ∧ rr wv k H6 Q) I5
        (bE R4 e5 q4.x fun wd k G6 H6 k6 R6 rk e6 => by
          obtain ⟨d', ed, rfl⟩ := lft_is e6
          obtain ⟨t, et, rfl⟩ := Option.map_eq_some_iff.mp ed
          obtain ⟨rr3, hr5, hr6⟩ := (h3 z wd t et).ex
          exact ⟨rr3, hr5, hr6 wv k G6 H6 Q k6.sub (rz.mono k6.gg) rk (q4 _ _ _ k6 (.bool _))⟩)) fun k s6 ⟨kv, H6, I6, r6, rr3, hr5, q6⟩ => hr5 pins s6 σ H6 wv kv w k Q I6 r4 r6 q6)⟩
end
end L2.L3
namespace L2.L3
open PySem PySem.Spec PyProof.Rows
section
variable {X : Cx} {a b : Expr} {elts : List Expr} {k0 : Nat} {p0 pos p : Pos} {fa fb : EF}
end
end L2.L3
namespace L2.SX
open PySem
end L2.SX
namespace L2.SX
open PySem PyProof.Rows
section
variable {prog : Program} {w : World} {K : Type} [DecidableEq K]
variable {knd : KeyKind prog w K} {A : Around} {E : Value → Shared → Prop} {s : Shared} {a : Addr} {ks : List K} {led : Bool}
end
section
variable {prog : Program} {w : World} {K : Type} [DecidableEq K] {knd : KeyKind prog w K} {A : Around} {R : Result → Shared → Prop} {I : Addr} {fp wr : List Addr} {G : Array GenState → Array GenState → Prop} {n : Nat} {P : Nat → Value → Prop} {St : Nat → Shared → Prop} {led : Bool}
end
end L2.SX
namespace L2.SX
open PySem PyProof.Rows
section
variable {prog : Program} {w : World} {A : Around} {E : Value → Shared → Prop} {s : Shared} {K : Type} [DecidableEq K] {knd : KeyKind prog w K}
end
end L2.SX
namespace L2.SX
open PySem PyProof.Rows
section
variable {prog : Program} {w : World} {A : Around} {E : Value → Shared → Prop} {s : Shared} {a I : Addr} {es : Array (Int × Value)} {ep i : Nat} {t : SetTable}
end
end L2.SX
namespace L2.SX
open PySem PyProof.Rows
section
variable {prog : Program} {w : World} {A : Around} {E : Value → Shared → Prop} {s : Shared} {a I T : Addr} {es : Array (Int × Value)} {ep i : Nat} {t : SetTable}
end
end L2.SX
namespace L2.SX
open PySem PyProof.Rows
section
variable {prog : Program} {w : World} {E : Value → Shared → Prop} {a I T : Addr} {es : Array (Int × Value)} {ep : Nat} {t : SetTable}
end
end L2.SX
namespace L2.SX
open PySem PyProof.Rows
section
variable {prog : Program} {w : World} {E : Value → Shared → Prop} {a : Addr} {es : Array (Int × Value)} {ep : Nat} {t : SetTable}
end
end L2.SX
namespace L2.SX
open PySem PyProof.Rows
section
variable {prog : Program} {w : World} {K : Type} [DecidableEq K] {knd : KeyKind prog w K}
variable {A : Around} {E : Value → Shared → Prop} {s : Shared} {a : Addr} {es : Array (Int × Value)} {ep : Nat} {t : SetTable}
end
end L2.SX
namespace L2.L3
open PySem PySem.Spec PyProof.Rows
noncomputable def EndO (X : Cx) (H0 G₀ G : Hp) (ρ : List Ent) (H : Hp) (Q : Option Int → Hp → Prop) : Re (Option Int) → Prop
  | .ok b => ∀ G' H', Grow G H G' H' → Q b H'
  | .ex c => XcOk X H0 G₀ G ρ c
noncomputable def rO (X : Cx) (f : OF) : TO := fun σ H Q => ∃ ρ r H0 G₀ G, f ρ = some r ∧ RepS X.K H0 G₀ G H σ ρ ∧ EndO X H0 G₀ G ρ H Q r
structure DO (X : Cx) (e : Option Expr) (f : OF) : Prop where
  run : PO X e (rO X f)
section
variable {X : Cx} {H0 G₀ G G1 H H1 : Hp} {ρ : List Ent} {σ : St} {a b c d e : Expr} {lo hi : Option Expr} {pos p p2 pos2 : Pos} {fa fb fc fd : EF} {fl fh : OF}
theorem bO {fa : OF} {β : Type} {k : Option Int → Mm β} {r : Re β} (R : RepS X.K H0 G₀ G H σ ρ) (e : bnd (fa ρ) k = some r) {T : Option Int → Hp → Prop} (hx : ∀ c, r = .ex c → XcOk X H0 G₀ G ρ c)
    (h : ∀ x G1 H1, Grow G H G1 H1 → RepS X.K H0 G₀ G1 H1 σ ρ → k x = some r → T x H1) : rO X fa σ H T := by
  rcases bnd_some e with ⟨x, e1, e2⟩ | ⟨c, e1, e2⟩
  · exact ⟨ρ, _, H0, G₀, G, e1, R, fun G1 H1 g1 => h x G1 H1 g1 (R.more g1) e2⟩
  · exact ⟨ρ, _, H0, G₀, G, e1, R, hx c e2⟩
theorem dO_none : DO X none oNone := ⟨fun pins s σ H Q I ⟨ρ, r, H0, G₀, G, e, R, q⟩ => by
  cases (Option.some.inj e)
  exact po_none pins s σ H Q I (q G H (.refl R.sub))⟩
theorem dO_some (ha : DE X a fa) : DO X (some a) (oSome fa) := ⟨fun pins s σ H Q I ⟨ρ, r, H0, G₀, G, e, R, q⟩ => by
  refine po_some ha.run pins s σ H Q I (bE R e (fun c z => by subst z; exact q) fun x v G1 H1 g1 R1 rv e1 => ?_)
  obtain ⟨k, ek, rfl⟩ := lft_is e1
  cases x <;> simp only [intD, Option.map] at ek <;> cases ek
  cases rv
  exact ⟨_, rfl, q G1 H1 g1⟩⟩
theorem de_sl (ha : DE X a fa) (hl : DO X lo fl) (hh : DO X hi fh) : DE X (.Subscript a (.Slice lo hi none p2) pos) (slE fa fl fh) := ⟨fun pins s σ H Q I ⟨ρ, r, H0, G₀, G, e, R, q⟩ =>
  pe_slice (sl_list.or sl_tup) ha.run hl.run hh.run pins s σ H Q I (bE R e q.x fun x v G1 H1 g1 R1 rv e1 => bO R1 e1 (q.more g1).x fun l G2 H2 g2 R2 e2 => bO R2 e2 ((q.more g1).more g2).x fun h G3 H3 g3 R3 e3 => by
    obtain ⟨d, ed, rfl⟩ := lft_is e3
    have g23 := g2.trans g3
    unfold slD at ed
    split at ed
    · cases (Option.some.inj ed)
      cases rv with
      | list hq r =>
        refine .inl ⟨_, _, rfl, (g23.gg.trans g23.sub).seq hq, fun l hl => q _ _ _ ((g1.trans g23).trans (.put g23.sub hl)) ?_⟩
        exact .list (.of upd_same) (cutD_rep (r.mono (g23.gg.trans (same_upd (g23.sub.free hl)))) _ _)
    · split at ed
      · cases ed
      · rename_i hw
        cases (Option.some.inj ed)
        cases rv with
        | tuple hq r =>
          refine .inr ⟨_, _, rfl, seqT (g23.gg.trans g23.sub) hq, by rw [r.length]; exact hw, fun l hl => q _ _ _ ((g1.trans g23).trans (.put g23.sub hl)) ?_⟩
          exact .tuple (.of upd_same) (cutD_rep (r.mono (g23.gg.trans (same_upd (g23.sub.free hl)))) _ _)
    · cases ed)⟩
theorem leStr_trans {a b c : Str} (h1 : leStr a b = true) (h2 : leStr b c = true) : leStr a c = true := by
  unfold leStr at *
  simp only [Bool.not_eq_true', decide_eq_false_iff_not, List.not_lt] at *
  exact List.le_trans h1 h2
theorem leStr_total (a b : Str) : (leStr a b || leStr b a) = true := by
  unfold leStr
  simp only [Bool.or_eq_true, Bool.not_eq_true', decide_eq_false_iff_not, List.not_lt]
  exact List.le_total _ _
theorem leStr_anti {a b : Str} (h1 : leStr a b = true) (h2 : leStr b a = true) : a = b := by
  unfold leStr at *
  simp only [Bool.not_eq_true', decide_eq_false_iff_not, List.not_lt] at *
  have e := List.le_antisymm h1 h2
  cases a; cases b
  congr 1
  exact Array.toList_inj.mp e
end
end L2.L3
namespace L2.L3
open PySem PySem.Spec PyProof.Rows
theorem isTy_kit {K : PySem.W.Frag} {T : String} {x : PyData} {t : Bool} (h : isTy T x = some t) : PySem.W.kitOne K (.type (tyD x)) (.type T) = some t := by
  unfold isTy at h
  by_cases c : T = "int"
  · rw [if_pos c] at h; subst c; cases x <;> first | (cases h; rfl) | cases h
  rw [if_neg c] at h
  by_cases c : T = "bool"
  · rw [if_pos c] at h; subst c; cases x <;> first | (cases h; rfl) | cases h
  rw [if_neg c] at h
  by_cases c : T = "str"
  · rw [if_pos c] at h; subst c; cases x <;> first | (cases h; rfl) | cases h
  rw [if_neg c] at h
  by_cases c : T = "tuple"
  · rw [if_pos c] at h; subst c; cases x <;> first | (cases h; rfl) | cases h
  rw [if_neg c] at h; cases h
section
variable {X : Cx} {H0 G₀ G G1 H H1 : Hp} {ρ : List Ent} {σ : St} {a b c d e iter : Expr} {es : List Expr} {pos p p2 pos2 px : Pos} {x : Str} {fa fb fc fd : EF}
theorem de_isinst {T : String} (hm : X.mg "isinstance" = none) (hx : X.mg x = none) (hv : bootBuiltins x = some (.type T)) (ha : DE X a fa) (hn : x ≠ "__name__" := by decide) (hdb : (x == ("__debug__" : Str)) = false := by decide)
    (he : starEach [a, .Name x p2] X.env = (false, eval a X.env) :: starEach [.Name x p2] X.env := by rfl) (he2 : starEach [.Name x p2] X.env = (false, eval (.Name x p2) X.env) :: starEach [] X.env := by rfl)
    (hpl : (backTo pos (starEach [.Name x p2] X.env)).any (·.1) = false := by rfl) (hg : Gl X "isinstance" := by rfl) (hgx : Gl X x := by rfl) : DE X (.Call (.Name "isinstance" p) [a, .Name x p2] [] pos) (op1 (isD T) fa) := by
  have hc : CallR X (.builtin "isinstance") (fun xs H Q => ∃ v d t, xs = [v, .ty T] ∧ Rep X.K H v d ∧ isTy T d = some t ∧ Q (.bl t) H) := by
    intro pins s σ H xs us Q I r ⟨v, d, t, e1, rv, ht, q⟩
    subst e1
    obtain ⟨u, w', rfl, r1, r2⟩ := vals2 r
    cases r2
    exact isinst_D I rv r1 (isTy_kit ht) fun tk => ⟨.bl t, H, I.tok tk, rfl, q⟩
  exact ⟨fun pins s σ H Q I ⟨ρ, r, H0, G₀, G, e, R, q⟩ => pe_callB hc hg hm boot_isinstance (pa_cons ha.run (pa_cons (pe_bltn (v := .ty T) hgx hx hv rfl hn hdb) pa_nil he2) he) (by decide) (by decide) he hpl pins s σ H Q I (bE R e q.x fun x v G1 H1 g1 R1 rv e1 => by
    obtain ⟨d, ed, rfl⟩ := lft_is e1
    obtain ⟨t, et, rfl⟩ := Option.map_eq_some_iff.mp ed
    exact ⟨v, x, t, rfl, rv.mono g1.sub, et, q _ _ _ g1 (.bool t)⟩)⟩
end
end L2.L3
namespace L2.L3
open PySem PySem.Spec PyProof.Rows
section
variable {X : Cx} {H0 G₀ G G1 H H1 : Hp} {ρ : List Ent} {σ : St} {a b c d e iter : Expr} {es : List Expr} {pos p p2 pos2 px : Pos} {x : Str} {fa fb fc fd : EF}
noncomputable def inAll (x : PyData) (ds : List PyData) : Option Bool := if SeqAt.shaped x && ds.all SeqAt.shaped then some (ds.any fun d => PyData.eqv d x) else none
noncomputable def inX (x y : PyData) : Option Bool := match x with
  | .tuple _ => (match seqD y with | some ds => inAll x ds | none => none)
  | .list _ => (match seqD y with | some ds => inAll x ds | none => none)
  | _ => inD x y
noncomputable def ninX (x y : PyData) : Option Bool := (inX x y).map (!·)
noncomputable def rInX (K : PySem.W.Frag) (neg : Bool) (dx : PyData) (ds : List PyData) : R2 := fun x y H Q => ∃ p xs, y = .ref p ∧ (SqL K H p xs ∨ SqT K H p xs) ∧ Rep K H x dx ∧ RepAll K H xs ds ∧ SeqAt.shaped dx = true ∧ ds.all SeqAt.shaped = true ∧ Q (.bl (if neg then !(ds.any fun d => PyData.eqv d dx) else ds.any fun d => PyData.eqv d dx)) H
open Classical in
theorem inX_at {pins : List (Addr × Obj)} {s : Shared} {A : Around} (I : Inv X pins σ H s) (hu : A.units + 64 < cLine) {v : Value} {dx : PyData} {bs : List Addr} (rx : Reads s.heap v dx bs) (hx : SeqAt.shaped dx = true) :
    ∀ {xs : List V} {ds : List PyData} {us : List Value}, RepAll X.K H xs ds → Vals xs us → ds.all SeqAt.shaped = true →
      (∀ u ∈ us, SeqAt.EqAt A s u v (decide (∃ d as, Reads s.heap u d as ∧ SeqAt.shaped d = true ∧ PyData.eqv d dx = true))) ∧ us.any (fun u => decide (∃ d as, Reads s.heap u d as ∧ SeqAt.shaped d = true ∧ PyData.eqv d dx = true)) = ds.any fun d => PyData.eqv d dx
  | _, _, _, .nil, .nil, _ => ⟨(fun u hm => by cases hm), rfl⟩
  | _, _, _, .cons (d := d) r rr, .cons t tt, hs => by
    rw [List.all_cons, Bool.and_eq_true] at hs
    obtain ⟨h1, h2⟩ := inX_at I hu rx hx rr tt hs.2
    obtain ⟨as, ra⟩ := r.reads I t
    have key0 : ∀ u, Reads s.heap u d as → decide (∃ d as, Reads s.heap u d as ∧ SeqAt.shaped d = true ∧ PyData.eqv d dx = true) = PyData.eqv d dx := by
      intro u ra
      cases e : PyData.eqv d dx with
      | true => exact decide_eq_true ⟨d, as, ra, hs.1, e⟩
      | false =>
        refine decide_eq_false fun ⟨d', as', r', s', e'⟩ => ?_
        rw [SeqAt.Reads.unique d d' _ _ _ (SeqAt.canLay_of_shaped hs.1) ra r'] at e
        rw [e] at e'; cases e'
    have key := key0 _ ra
    refine ⟨fun u hu' => ?_, by rw [List.any_cons, List.any_cons, key, h2]⟩
    rcases List.mem_cons.mp hu' with z | z
    · subst z
      rw [key]
      exact SeqAt.eqAt_reads d dx A s _ v as bs ra rx (SeqAt.canLay_of_shaped hs.1) (SeqAt.canLay_of_shaped hx) (SeqAt.room_of_shaped hs.1 hu)
    · exact h1 u z
open Classical in
theorem op_inX (hu : X.A.in1.units + 64 < cLine) (dx : PyData) (ds : List PyData) : OpR X (compareOp .In) (rInX X.K false dx ds) := by
  intro pins s σ H x y v u Q I rx ry h
  obtain ⟨p, xs, rfl, hq, r1, r2, h1, h2, q⟩ := h
  cases ry
  obtain ⟨bs, rb⟩ := r1.reads I rx
  rcases hq with hq | hq
  · obtain ⟨its, r, pl, hz⟩ := I.list hq
    obtain ⟨e1, e2⟩ := inX_at (A := X.A.in1) I hu rb h1 r2 r h2
    refine SeqAt.in_listAt _ pl.isList (fun w hw => e1 w (by simpa using hw)) ⟨.bl _, H, I, rfl, ?_⟩
    rw [← Array.any_toList, e2]
    exact q
  · obtain ⟨its, r, pl, hz⟩ := I.tuple hq
    obtain ⟨e1, e2⟩ := inX_at (A := X.A.in1) I hu rb h1 r2 r h2
    refine SeqAt.in_tupleAt _ pl (fun w hw => e1 w (by simpa using hw)) ⟨.bl _, H, I, rfl, ?_⟩
    rw [← Array.any_toList, e2]
    exact q
open Classical in
theorem op_ninX (hu : X.A.in1.units + 64 < cLine) (dx : PyData) (ds : List PyData) : OpR X (compareOp .NotIn) (rInX X.K true dx ds) := by
  intro pins s σ H x y v u Q I rx ry h
  obtain ⟨p, xs, rfl, hq, r1, r2, h1, h2, q⟩ := h
  cases ry
  obtain ⟨bs, rb⟩ := r1.reads I rx
  rcases hq with hq | hq
  · obtain ⟨its, r, pl, hz⟩ := I.list hq
    obtain ⟨e1, e2⟩ := inX_at (A := X.A.in1) I hu rb h1 r2 r h2
    refine SeqAt.notIn_listAt _ pl.isList (fun w hw => e1 w (by simpa using hw)) ⟨.bl _, H, I, rfl, ?_⟩
    rw [← Array.any_toList, e2]
    exact q
  · obtain ⟨its, r, pl, hz⟩ := I.tuple hq
    obtain ⟨e1, e2⟩ := inX_at (A := X.A.in1) I hu rb h1 r2 r h2
    refine SeqAt.notIn_tupleAt _ pl (fun w hw => e1 w (by simpa using hw)) ⟨.bl _, H, I, rfl, ?_⟩
    rw [← Array.any_toList, e2]
    exact q
theorem inAll_ok {hu : X.A.in1.units + 64 < cLine} {x y : PyData} {ds : List PyData} {t : Bool} (e : seqD y = some ds) (h : inAll x ds = some t) : CmpD X .In x y t ∧ CmpD X .NotIn x y (!t) := by
  unfold inAll at h
  split at h
  · rename_i hz
    rw [Bool.and_eq_true] at hz
    cases (Option.some.inj h)
    refine ⟨⟨_, op_inX hu x ds, fun v u G H Q s rv ru q => ?_⟩, ⟨_, op_ninX hu x ds, fun v u G H Q s rv ru q => ?_⟩⟩
    · obtain ⟨p, vs, rfl, hq, r⟩ := seq_rep s e ru
      exact ⟨p, vs, rfl, hq, rv.mono s, r.mono s, hz.1, hz.2, q⟩
    · obtain ⟨p, vs, rfl, hq, r⟩ := seq_rep s e ru
      exact ⟨p, vs, rfl, hq, rv.mono s, r.mono s, hz.1, hz.2, q⟩
  · cases h
theorem inX_ok (hu : X.A.in1.units + 64 < cLine) (x y : PyData) (t : Bool) (h : inX x y = some t) : CmpD X .In x y t := by
  unfold inX at h
  split at h
  · split at h
    · rename_i ds e; exact (inAll_ok (hu := hu) e h).1
    · cases h
  · split at h
    · rename_i ds e; exact (inAll_ok (hu := hu) e h).1
    · cases h
  · exact in_ok x y t h
theorem ninX_ok (hu : X.A.in1.units + 64 < cLine) (x y : PyData) (t : Bool) (h : ninX x y = some t) : CmpD X .NotIn x y t := by
  unfold ninX at h
  obtain ⟨t', hq, rfl⟩ := Option.map_eq_some_iff.mp h
  unfold inX at hq
  split at hq
  · split at hq
    · rename_i ds e; exact (inAll_ok (hu := hu) e hq).2
    · cases hq
  · split at hq
    · rename_i ds e; exact (inAll_ok (hu := hu) e hq).2
    · cases hq
  · exact nin_ok x y _ (by unfold ninD; rw [hq]; rfl)
end
theorem _root_.L2.Room.units1 {k : Nat} {A : Around} (r : Room k A) : A.in1.units + 64 < cLine := by
  have := r.un
  show A.units + 1 + 64 < cLine
  omega
section
variable {X : Cx} {H0 G₀ G G1 H H1 : Hp} {ρ : List Ent} {σ : St} {a b c d e iter : Expr} {es : List Expr} {pos p p2 pos2 px : Pos} {x : Str} {fa fb fc fd : EF}
end
end L2.L3
namespace L2.L3
open PySem PySem.Spec PyProof.Rows
section
variable {X : Cx} {a b e : Expr} {elts : List Expr} {k0 : Nat} {p0 pos p : Pos} {fa fb : EF} {st : Stmt}
end
end L2.L3
namespace L2.ZT
open PySem PyProof.Rows
section
variable {prog : Program} {w : World} {A : Around} {E : Value → Shared → Prop} {s : Shared}
variable {z TI TO c d t u : Addr} {i j : Nat} {xs ys : Array Value} {a b : Value}
end
section
variable {prog : Program} {w : World} {A : Around} {E : Value → Shared → Prop} {s : Shared}
end
end L2.ZT
namespace L2.L3
open PySem PySem.Spec PyProof.Rows
noncomputable def Itt (K : PySem.W.Frag) (l1 l2 : Addr) : It :=
  ⟨fun i H => ∃ xs ys x y, SqT K H l1 xs ∧ SqT K H l2 ys ∧ xs[i]? = some x ∧ ys[i]? = some y,
   fun i H v H' => ∃ T x y, H T = none ∧ v = .ref T ∧ H' = upd H T (.tup [x, y]) ∧ (∀ xs, SqT K H l1 xs → xs[i]? = some x) ∧ ∀ ys, SqT K H l2 ys → ys[i]? = some y,
   fun i H => ∃ xs ys, SqT K H l1 xs ∧ SqT K H l2 ys ∧ (xs.length ≤ i ∨ ys.length ≤ i)⟩
section
variable {X : Cx} {a b : Expr} {elts : List Expr} {k0 : Nat} {p0 pos p : Pos} {fa fb : EF}
end
end L2.L3
namespace L2.L3
open PySem PySem.Spec PyProof.Rows PySem.W PySem.Builtin PySem.Builtin.ObjectAttr PySem.Builtin.Getset_descriptor
noncomputable abbrev bmVE : List Value := [.type "ValueError", .type "Exception", .type "BaseException", .type "object"]
structure XCls (K : Frag) (C : Addr) : Prop where
  ex : excIn K C bmVE "ValueError.__new__" = true
  ga : findIn K (.ref C) "__getattribute__" = some (some (.builtin "BaseException.__getattribute__"))
  nga : findIn K (.ref C) "__getattr__" = some none
  cl : findIn K (.ref C) "__class__" = some (some (.builtin "object.__class__"))
  ob : mroIn K C (.type "object") = some true
theorem XCls.obj {K : Frag} {C : Addr} {h : Heap} (x : XCls K C) (X : K.In h) : ∃ bm N nm q bs hdct sn sub ab col dd k0 k1 k2 k3 k5 mN, h.get? C = some (excClassObj nm q C N bs bm hdct sn sub ab col dd k0 k1 k2 k3 k5 "ValueError.__new__") ∧ h.Ns N mN ∧ mN "__init__" = none ∧ OwnTail h bmVE bm := by
  have q := x.ex
  unfold excIn at q
  split at q
  · rename_i dd cd sl ho
    split at q
    · rename_i C' bm k0 k1 k2 k3 n k5 hm hs
      simp only [Bool.and_eq_true, beq_iff_eq, Bool.not_eq_true'] at q
      obtain ⟨⟨⟨⟨⟨rfl, rfl⟩, hdel⟩, ht⟩, hok⟩, hni⟩ := q
      obtain ⟨nm, bs, mro, ns, qn, hd, sn, sub, ab, col, del⟩ := cd
      dsimp only at hm hdel hok hni
      subst hm hdel
      have hsl : sl = #[k0, k1, k2, k3, some (.builtin "ValueError.__new__"), k5] := by
        obtain ⟨l⟩ := sl
        simp only at hs
        rw [hs]
      subst hsl
      exact ⟨bm, ns, nm, qn, bs, hd, sn, sub, ab, col, dd, k0, k1, k2, k3, k5, _, X _ _ ho, .of_isNs (isNs_of_in X hok), nsMap_none_of_in X hok hni, tail_of_in X ht⟩
    · cases q
  · cases q
section
variable {prog : Program} {w : World} {A : Around} {E : Value → Shared → Prop} {s : Shared} {K : Frag} {C D a : Addr} {ox : Obj}
theorem xc_get {R : Result → Shared → Prop} {tp : Value} (x : XCls K C) (X : K.In s.heap) (I : ExO s.heap a C ox) (h : R (.ok (.ret (.ref C))) s) :
    codeAny (model prog w) A (.call (.builtin "getset_descriptor.__get__") ⟨[.builtin "object.__class__", .ref a, tp], []⟩) R s := by
  obtain ⟨hh, g, dr, t, os⟩ := s
  have L0 := I.type (M := model prog w)
  have L1 := looks_mroIn (M := model prog w) X x.ob
  refine codeAny_call_builtin KF.slot_gs.plain KF.entry_gs (KF.slot_gs.check _ _ _ _ _ _ _ _ KF.type_class (KF.args_gs _ _ _) ?_)
  unfold Builtin.«getset_descriptor.__get__» descrGet
  rw [dga_obj]
  refine wpAny_bind (wpAny_pure ?_)
  unfold descrGetter descrCheckInstance descrNameAndClass isInstance
  simp only [KF.owner_class]
  repeat lk
  refine ⟨Code.quiet_builtin _ (by decide +kernel), codeAny_builtin KF.entry_class ?_⟩
  unfold Builtin.«object.__class__» shownTypeOf
  repeat lk
  exact h
theorem xc_entry {tk : Tok} {Q : Fin → Shared → Prop} (x : XCls K C) (X : K.In s.heap) (I : ExO s.heap a C ox) (hq : Q (.done (.ret (.ref C))) s) :
    wpAny (model prog w) A (Builtin.«object.__getattribute__» ⟨[.ref a, .str "__class__" tk], []⟩) Q E s := by
  obtain ⟨hh, g, d, t, os⟩ := s
  have L0 := I.type (M := model prog w)
  have L3 := looks_findIn (M := model prog w) X x.cl
  have hT5 : (⟨hh, g, d, t, os⟩ : Shared).TypeIs (.builtin "object.__class__") "getset_descriptor" := PySem.F.typeOf_object_class
  have f5 := PySem.F.typeOf_object_class
  have f6 := PySem.F.slot_gs_get.lookup
  have f7 := PySem.F.slot_gs_set.lookup
  repeat (any_goals (first | assumption | with_reducible refine L0.at ?_ | with_reducible refine L3.at ?_ | wp_step))
  refine xc_get x X I ?_
  repeat (any_goals (first | assumption | wp_step))
theorem xc_check {M : Model} {nameV : Value} {Q : Unit → Shared → Prop} (x : XCls K C) (X : K.In s.heap) (I : ExO s.heap a C ox) (hq : Q () s) :
    wpAny M A (checkBuiltinCall "BaseException.__getattribute__" ⟨[.ref a, nameV], []⟩) Q E s := by
  obtain ⟨bm, N, nm, q, bs, hdct, sn, sub, ab, col, dd, k0, k1, k2, k3, k5, mN, hC, hN, hni, T⟩ := x.obj X
  obtain ⟨hh, g, d, t, os⟩ := s
  have hk : builtinKind "BaseException.__getattribute__" = some .slot := by decide +kernel
  have hsplit : splitId "BaseException.__getattribute__" = some ("BaseException", "__getattribute__") := by decide +kernel
  have hcB : (Value.ref C :: bm).contains (.type "BaseException") = true := by rw [List.contains_cons, T.hasType (X := "BaseException") (b := true) rfl]; rfl
  have ha := PySem.F.args_bexc_ga (.ref a) nameV
  simp only [checkBuiltinCall, hk, hsplit]
  refine wpAny_bind ?_
  · unfold isInstance
    repeat (first | (with_reducible refine wpAny_loadPart_at I.at_ ?_; rw [I.cls]) | (with_reducible refine wpAny_isSubtype_exc hC ?_; rw [hcB]) | wp_step)
    exact hq
theorem xc_call {tk : Tok} {R : Result → Shared → Prop} (x : XCls K C) (X : K.In s.heap) (I : ExO s.heap a C ox) (hq : R (.ok (.ret (.ref C))) s) :
    codeAny (model prog w) A (.call (.builtin "BaseException.__getattribute__") ⟨[.ref a, .str "__class__" tk], []⟩) R s :=
  codeAny_call_builtin PySem.F.attrBase_ValueError.ga.plain PySem.F.entry_bexc_ga (xc_check x X I (xc_entry x X I hq))
theorem xc_by {tk : Tok} {Q : Value → Shared → Prop} (x : XCls K C) (X : K.In s.heap) (I : ExO s.heap a C ox) (hq : Q (.ref C) s) :
    wpAny (model prog w) A (getAttrBy (.ref a) (.str "__class__" tk) false) Q E s := by
  obtain ⟨hh, g, d, t, os⟩ := s
  have L0 := I.type (M := model prog w)
  have L1 := looks_findIn (M := model prog w) X x.ga
  have L2 := looks_findIn (M := model prog w) X x.nga
  have f3 := PySem.F.attrBase_ValueError.ga.bind (.ref a)
  have hx2 : (Value.builtin "BaseException.__getattribute__" == Value.builtin "object.__getattribute__") = false := by decide +kernel
  have hx1 : (onTheHeap (Value.ref C) && Value.builtin "BaseException.__getattribute__" == Value.builtin "object.__getattribute__") = false := by rw [hx2]; rfl
  repeat (any_goals (first | assumption | with_reducible refine L0.at ?_ | with_reducible refine L1.at ?_ | with_reducible refine L2.at ?_ | wp_step))
  refine xc_call x X I ?_
  repeat (any_goals (first | assumption | wp_step))
theorem xc_class {Q : Option Value → Shared → Prop} (x : XCls K C) (X : K.In s.heap) (I : ExO s.heap a C ox) (hq : Q (some (.ref C)) { s with toks := s.toks + 1 }) :
    wpAny (model prog w) A (getAttr? (.ref a) "__class__") Q E s := by
  obtain ⟨hh, g, d, t, os⟩ := s
  unfold getAttr? getAttrBy?
  exact wpAny_bind (wpAny_mkText (wpAny_bind (wpAny_attempt (xc_by (s := ⟨hh, g, d, t + 1, os⟩) x X I (wpAny_pure hq)))))
theorem xc_nested_no {c : Value} {dep : Int} {tk : Tok} {Q : Fin → Shared → Prop} (x : XCls K C) (X : K.In s.heap) (I : ExO s.heap a C ox) (hty : Looks (model prog w) s.heap (typeOf c) (.type "type")) (his : Looks (model prog w) s.heap (isType c) true)
    (hne : (Value.ref C == c) = false) (hsub : Looks (model prog w) s.heap (isSubtype (.ref C) c) false) (h : Q (.done (.ret (.bool false))) { s with toks := s.toks + 1 }) :
    wpAny (model prog w) A (Builtin.«isinstance.nested» ⟨[.ref a, c, .int dep tk], []⟩) Q E s := by
  obtain ⟨bm, N, nm, q, bs, hdct, sn, sub, ab, col, dd, k0, k1, k2, k3, k5, mN, hC, hN, hni, T⟩ := x.obj X
  have hisD : Looks (model prog w) s.heap (isType (.ref C)) true := by
    intro A' Q' E' s' k q
    unfold isType loadHead
    exact wpAny_bind (wpAny_loadPart (k _ _ hC) (wpAny_pure q))
  obtain ⟨h0, g, d, tt, os⟩ := s
  have L0 := I.type (M := model prog w)
  have LI : Looks (model prog w) h0 (isInstance (.ref a) c) false := L0.andThen hsub
  unfold Builtin.«isinstance.nested»
  refine wpAny_bind (L0.at ?_)
  rw [if_neg (fun q => by rw [hne] at q; exact Bool.noConfusion q)]
  refine wpAny_bind (hty.at ?_)
  rw [if_pos (by decide)]
  k_delta "plainIsInstance"
  refine wpAny_bind (wpAny_bind (his.at ?_))
  simp only [Bool.not_true, Bool.false_eq_true, if_false]
  refine wpAny_bind (LI.at ?_)
  simp only [Bool.false_eq_true, if_false]
  refine wpAny_bind (xc_class x X I ?_)
  refine wpAny_bind (hisD.at ?_)
  simp only [Bool.not_true, Bool.false_eq_true, if_false]
  refine wpAny_bind (wpAny_rule ?_)
  refine hsub.at ?_
  first
    | exact wpAny_pure h
    | exact wpAny_pure (wpAny_pure h)
    | exact wpAny_bind (wpAny_pure (wpAny_pure h))
theorem xc_isnot {Q : Value → Shared → Prop} (x : XCls K C) (y : XCls K D) (X : K.In s.heap) (I : ExO s.heap a C ox) (hne : C ≠ D) (hty : typeIn K (.ref D) = some (.type "type")) (hs : subIn K (.ref C) (.ref D) = some false) (h : Q (.bool false) { s with toks := s.toks + 1 }) :
    wpAny (model prog w) A (call (.builtin "isinstance") [.ref a, .ref D]) Q E s :=
  call_isinstance (S := fun _ R s => (K.In s.heap ∧ ExO s.heap a C ox) ∧ R (.ok (.ret (.bool false))) { s with toks := s.toks + 1 })
    (fun _ _ _ _ _ hs' => isinstance_outer (xc_nested_no x hs'.1.1 hs'.1.2 (looks_typeIn hs'.1.1 hty) (by
      obtain ⟨bm, N, nm, q, bs, hdct, sn, sub, ab, col, dd, k0, k1, k2, k3, k5, mN, hC, _⟩ := y.obj hs'.1.1
      intro A' Q' E' s' k q
      unfold isType loadHead
      exact wpAny_bind (wpAny_loadPart (k _ _ hC) (wpAny_pure q))) (Bool.eq_false_iff.mpr fun q => hne (Value.ref.inj (beq_iff_eq.mp q))) (looks_subIn hs'.1.1 hs) hs'.2) (by intro q; cases q)) ⟨⟨X, I⟩, h⟩
theorem xc_is {Q : Value → Shared → Prop} (X : K.In s.heap) (I : ExO s.heap a C ox) (e : isIn K (.ref C) D = true) (h : Q (.bool true) s) :
    wpAny (model prog w) A (call (.builtin "isinstance") [.ref a, .ref D]) Q E s := isi_call X (fun _ => I.type) e (by intro q; cases q) h
theorem xc_isT {T : String} {Q : Value → Shared → Prop} (X : K.In s.heap) (I : ExO s.heap a C ox) (hty : typeOf (.type T) = pure (.type "type")) (e : subIn K (.ref C) (.type T) = some true) (h : Q (.bool true) s) :
    wpAny (model prog w) A (call (.builtin "isinstance") [.ref a, .type T]) Q E s := by
  refine PyProof.Rows.call_isinstance_of ?_ (by intro q; cases q)
  obtain ⟨hh, g, d, t, os⟩ := s
  have L0 := I.type (M := model prog w)
  have L1 := looks_subIn (M := model prog w) X e
  unfold Builtin.«isinstance.nested»
  refine wpAny_bind (L0.at ?_)
  rw [if_neg (fun q => by cases beq_iff_eq.mp q)]
  refine wpAny_bind (m := typeOf (.type T)) (wpAny_of_eq hty ?_)
  rw [if_pos (by decide)]
  refine wpAny_bind (wpAny_bind (m := isType (.type T)) (wpAny_pure (a := true) ?_))
  refine wpAny_bind (m := isInstance (.ref a) (.type T)) ((L0.andThen L1).at ?_)
  exact wpAny_pure (a := true) (wpAny_pure h)
theorem xc_match {M : Model} {Q : Bool → Shared → Prop} (x : XCls K C) (y : XCls K D) (X : K.In s.heap) (I : ExO s.heap a C ox) (hs : subIn K (.ref C) (.ref D) = some true) (hq : Q true s) : wpAny M A (excMatches (.ref a) (.ref D)) Q E s := by
  obtain ⟨bm, N, nm, q, bs, hdct, sn, sub, ab, col, dd, k0, k1, k2, k3, k5, mN, hC, hN, hni, T⟩ := y.obj X
  obtain ⟨hh, g, d, t, os⟩ := s
  have L1 := looks_subIn (M := M) X hs
  have hcB : (Value.ref D :: bm).contains (.type "BaseException") = true := by rw [List.contains_cons, T.hasType (X := "BaseException") (b := true) rfl]; rfl
  have f := tc_notTuple
  unfold excMatches
  repeat (first | (with_reducible refine wpAny_loadPart_at I.at_ ?_; rw [I.cls]) | with_reducible refine wpAny_loadPart_at hC ?_ | with_reducible refine L1.at ?_ | (with_reducible refine wpAny_isSubtype_exc hC ?_; rw [hcB]) | wp_step)
  exact hq
end
end L2.L3
namespace L2.L3
open PySem PySem.Spec PyProof.Rows
section
variable {X : Cx} {pins : List (Addr × Obj)} {σ : St} {H : Hp} {s : Shared}
theorem inv_new (I : Inv X pins σ H s) {b : Addr} (h : s.heap.get? b = none) : Fresh X b := by
  refine ⟨?_, fun p hp z => ?_⟩
  · cases q : X.s₀.heap.get? b with
    | none => exact .inr rfl
    | some o =>
      refine .inl (Classical.byContradiction fun n => ?_)
      obtain ⟨o', e⟩ := I.base.there b o q n
      rw [h] at e; cases e
  · obtain ⟨e, _⟩ := I.pin p (List.mem_append_left _ hp)
    rw [z, h] at e; cases e
end
section
variable {X : Cx} {st : Stmt} {f : SF}
noncomputable def raiseS (c : Str) : SF := fun ρ => some (.xc c ρ)
theorem ds_raise {x m : Str} {C : Addr} {np sp cpos pos : Pos} {j} (hc : X.calm = true) (hE : excC X.K x = some C) (hX : XCls X.K C) (hg : Gl X x := by rfl) (hdb : (x == ("__debug__" : Str)) = false := by decide)
    (he : starEach [.Constant (.str m) j sp] X.env = (false, eval (.Constant (.str m) j sp) X.env) :: starEach [] X.env := by rfl) (hpl : (backTo cpos (starEach [] X.env)).any (·.1) = false := by rfl) :
    DS X (.Raise (some (.Call (.Name x np) [.Constant (.str m) j sp] [] cpos)) none pos) (raiseS x) := ⟨fun pins s σ H D I ⟨ρ, o, H0, G₀, G, e, R, q⟩ => by
  cases (Option.some.inj e)
  obtain ⟨bm, N, nm, qn, bs, hdct, sn, sub, ab, col, dd, k0, k1, k2, k3, k5, mN, hC, hN, hni, T⟩ := hX.obj I.mod.kin
  have hm : X.mg x = some (.ref C) := PySem.W.mg_of I.mod.kin I.mod.glob (excC_is hE)
  refine wpAny_Raise_call_subT (C := C) (nm := nm) (q := qn) (N := N) (bs := bs) (bm := bm) (hdct := hdct) (sn := sn) (sub := sub) (ab := ab) (col := col) (dd := dd) (k0 := k0) (k1 := k1) (k2 := k2) (k3 := k3) (k5 := k5)
    PySem.F.excBase_ValueError (mN := mN) (T.hasType PySem.F.excBase_ValueError.hasBase) (I.ok.hd hc) (by rw [he]; show (false || (backTo cpos (starEach [] X.env)).any (·.1)) = false; rw [hpl]; rfl) hni (ld_glob I hg hm ⟨rfl, ?_⟩ hdb)
  have h := pa_cons (X := X) (pe_str : PE X (.Constant (.str m) j sp) (tC (.str m))) pa_nil he cpos pins s σ H (fun vs H' => vs = [.str m] ∧ H' = H) I ⟨rfl, rfl⟩
  rw [he] at h ⊢
  refine Calls.evalArgs_plain (thn h fun us s2 ⟨vs, H', I2, rv, e1, e2⟩ => ?_)
  subst e1 e2
  refine ⟨rfl, by rw [← rv.length]; show 1 ≤ sizeLine; decide, I2.bk _ _ hC, hN.keeps I2.bk, T.keeps I2.bk, fun h' a hm' => ?_⟩
  obtain ⟨t, ht, _, _⟩ := hm'.there
  exact q pins { s2 with heap := h' } σ H' G _ (I2.kept (t' := s2.toks) hm'.keeps) R (.refl _) ⟨a, C, rfl, hE, .inl (.inl ⟨inv_new I2 hm'.new, hok_no I2.hok hm'.new, _, _, .ref t, ht, rfl, rfl, rfl, rfl⟩)⟩⟩
end
end L2.L3
namespace L2.L3
open PySem PySem.Spec PyProof.Rows
noncomputable def runX (m n : Nat) (f : SF) (ds : List PyData) : Mm PyData := if ds.length = n then (match f (startN m ds) with
  | some (.rt d) => some (.ok d)
  | some (.nx _) => some (.ok .none)
  | some (.xc c _) => some (.ex c)
  | _ => none) else none
noncomputable def CX1 (P : Program) (w : World) : CXT := fun outer H s E e s' => ∃ a C H', e = .ref a ∧ E (.ref C) none H' ∧ s'.os = s.os ∧ AllBare s'.gens ∧ Un (frs outer) [] H H' s.heap s'.heap ∧ HOk P w H' s'.heap ∧ ExcAt (fun b => s.heap.get? b = none) H' a C s'.heap
noncomputable def EndX (K : PySem.W.Frag) (G H : Hp) (Q : VK) (E : XK) : Re PyData → Prop
  | .ok d => ∀ v G' H', Grow G H G' H' → Rep K G' v d → Q v H'
  | .ex c => ∀ C G' H', excC K c = some C → Grow G H G' H' → E (.ref C) none H'
noncomputable def spX (K : PySem.W.Frag) (F : List PyData → Mm PyData) : Sp := fun vs H Q E => ∃ G ds r, (Same G H ∧ Tabs K G H) ∧ RepAll K G vs ds ∧ F ds = some r ∧ EndX K G H Q E r
structure CalleeX (P : Program) (w : World) (K : PySem.W.Frag) (mg : Str → Option Value) (base : Heap) (x : Str) (k : Nat) (ps : List Str) (F : List PyData → Mm PyData) : Prop where
  ex : ∃ f fd, mg x = some (.ref f) ∧ PySem.W.keepIn K (.ref f) = true ∧ Binds K fd ps [] ∧ FnOk P w K mg base (CX1 P w) k f fd ps (spX K F)
section
variable {X : Cx} {pins : List (Addr × Obj)} {σ : St} {H : Hp} {s : Shared}
theorem un_after {ch : List Addr} {h' : Heap} (I : Inv X pins σ H s) (hex : X.ex = []) (un : Un (frs X.stack) ch H H s.heap h') (hch : ∀ b ∈ ch, X.s₀.heap.get? b = none) : Un X.fs [] X.H₀ H X.s₀.heap h' := by
  have nx : ∀ b : Addr, b ∉ X.ex := fun b z => by rw [hex] at z; cases z
  have neL : ∀ b o, X.s₀.heap.get? b = some o → b ≠ X.env.locals := fun b o e => Nat.ne_of_lt (Nat.lt_of_lt_of_le (Heap.lt_size e) I.ok.above)
  have nc : ∀ b o, X.s₀.heap.get? b = some o → b ∉ ch := fun b o e z => by rw [hch b z] at e; cases e
  refine ⟨fun b o e n hb _ => ?_, fun b o e n hb _ => ?_, fun b o e n _ => I.base.free b o e n (nx b), fun b o e _ => ?_, I.base.tups, I.base.frzs, I.base.tbls⟩
  · exact un.keep b o (I.base.keep b o e n hb (nx b)) (I.base.free b o e n (nx b)) (fun z => (List.mem_cons.mp (I.stkSub b z)).elim (neL b o e) hb) (nc b o e)
  · obtain ⟨sl, e1⟩ := I.base.slot b o e n hb (nx b)
    obtain ⟨sl', e2⟩ := un.any e1 (I.base.free b o e n (nx b)) (nc b o e)
    exact ⟨sl', e2⟩
  · obtain ⟨o', e1⟩ := I.base.there b o e (nx b)
    exact un.there b o' e1 (nc b o e)
end
section
variable {P : Program} {w : World} {K : PySem.W.Frag} {mg : Str → Option Value} {base : Heap} {X : Cx} {e : Expr} {es : List Expr} {pos p : Pos} {x : Str} {k : Nat} {ps N : List Str} {F : List PyData → Mm PyData}
noncomputable abbrev fcX (P : Program) (w : World) (K : PySem.W.Frag) (mg : Str → Option Value) (base : Heap) (N : List Str) (qual : Str) (scope : Scope) (f : Addr) (cd : Value) (A : Around) (outer : List Env) (s : Shared) (H : Hp) (E : XK) : Cx := cxOf (CX1 P w) P w K mg base N qual scope f cd A outer s H E
theorem fnX_den {st : Stmt} {f : SF} {fa : Addr} {fd : FuncData} (m n : Nat) (Fu : Fun K x x st fa fd) (S : FnScope N ps (defScope st)) (hm : N.length = m) (hn : ps.length = n)
    (body : ∀ (cdv : Value) (A : Around) (outer : List Env) (s : Shared) (H : Hp) (E : XK), Room k (A.deeper (envOfC x (defScope st) s.heap.objs.size fa cdv)) → DB (fcX P w K mg base N x (defScope st) fa cdv A outer s H E) (defBody st) f) :
    FnOk P w K mg base (CX1 P w) (k + 1) fa fd ps (spX K (runX m n f)) := by
  obtain ⟨oc, od, kV, doc, pm, an, cdv, ct, osl, rfl, lk, hcd⟩ := Fu.ex
  refine fn_of lk hcd S (fun vs H Q E ⟨G, ds, r, s, rv, hF, _⟩ => ?_) fun A outer s H vs Q E hr ⟨G, ds, r, sm, rv, hF, q⟩ => ?_
  · unfold runX at hF
    split at hF
    · rename_i hl; rw [rv.length, hl, hn]
    · cases hF
  · unfold runX at hF
    split at hF
    · rw [← hm, ← startE_eq] at hF
      split at hF
      · rename_i d e
        cases (Option.some.inj hF)
        exact ⟨_, (body cdv A outer s H E hr).run, startE N ds, _, H, G, G, e, startE_ok sm rv, fun v G' H' _ g rv => q v G' H' g rv⟩
      · rename_i ρ' e
        cases (Option.some.inj hF)
        exact ⟨_, (body cdv A outer s H E hr).run, startE N ds, _, H, G, G, e, startE_ok sm rv, fun G' H' σ' _ R' => q .non G' H' R'.grow .none⟩
      · rename_i c ρ' e
        cases (Option.some.inj hF)
        refine ⟨_, (body cdv A outer s H E hr).run, startE N ds, _, H, G, G, e, startE_ok sm rv, fun pins s' σ H' G' e' I R _ ⟨a, C, e1, hE, xa⟩ => ?_⟩
        subst e1
        refine leave_ok (X := fcX P w K mg base N x (defScope st) fa cdv A outer s H E) (fr := fun b => s.heap.get? b = none) I.ok.frames rfl rfl I (xa.mono fun b hb => ?_) (fun b hb => ?_) fun h' ch un hch hok x' => ?_
        · rcases hb.1 with z | z
          · cases z
          · exact z
        · cases z : s.heap.get? b with
          | none => rfl
          | some o =>
            obtain ⟨o', z'⟩ := I.base.there b o z (by intro w; cases w)
            rw [hb] at z'; cases z'
        · exact ⟨a, C, H', rfl, q C G' H' hE R.grow, I.os, I.bare, un_after I rfl un hch, hok, x'⟩
      · cases hF
    · cases hF
theorem calleeX_den {st : Stmt} {f : SF} (m n : Nat) (D : Def K mg x st) (S : FnScope N ps (defScope st)) (hm : N.length = m) (hn : ps.length = n)
    (hb : ∀ (kV doc pm : Value) (an : Option Addr) (cdv ct : Value) (us : List Value), us.length = ps.length → bindArgs (PySem.W.fnOf x x (defArgs st) (defBody st) (defScope st) .none kV doc pm an cdv ct) ⟨us, []⟩ = pure (ps.zip us))
    (body : ∀ (fa : Addr) (cdv : Value) (A : Around) (outer : List Env) (s : Shared) (H : Hp) (E : XK), Room k (A.deeper (envOfC x (defScope st) s.heap.objs.size fa cdv)) → DB (fcX P w K mg base N x (defScope st) fa cdv A outer s H E) (defBody st) f) :
    CalleeX P w K mg base x (k + 1) ps (runX m n f) := by
  obtain ⟨fa, fd, Fu, hmg⟩ := D.ex
  exact ⟨fa, fd, hmg, Fu.kp, Fu.binds hb, fnX_den m n Fu S hm hn fun cdv A outer s H E hr => body fa cdv A outer s H E hr⟩
noncomputable def callX (F : List PyData → Mm PyData) (fa : AF) : EF := fun ρ => bnd (fa ρ) F
theorem de_callX {fa : AF} (C : CalleeX X.prog X.w X.K X.mg X.base x k ps F) (hr : Room k X.A) (ha : DA X (e :: es) fa) (hg : Gl X x := by rfl) (hdb : (x == ("__debug__" : Str)) = false := by decide)
    (he : starEach (e :: es) X.env = (false, eval e X.env) :: starEach es X.env := by rfl) (hpl : (backTo pos (starEach es X.env)).any (·.1) = false := by rfl) : DE X (.Call (.Name x p) (e :: es) [] pos) (callX F fa) := ⟨fun pins s σ H Q I ⟨ρ, r, H0, G₀, G, e', R, q⟩ => by
  obtain ⟨f, fd, a, b, c, Fk⟩ := C.ex
  refine wpAny_Call_Name_kw (ld_glob I hg a ?_ hdb)
  refine PySem.W.callWith_K (h₀ := X.base) I.ok.mod.kin b (thn (ha.run pos pins s σ H (fun vs H1 => ∃ G1 ds, Grow G H G1 H1 ∧ RepS X.K H0 G₀ G1 H1 σ ρ ∧ RepAll X.K G1 vs ds ∧ F ds = some r) I (bA R e' q.x fun ds vs G1 H1 g1 R1 rv e1 => ⟨G1, ds, g1, R1, rv, e1⟩))
    fun us s1 ⟨vs, H1, I1, rv, G1, ds, g1, R1, rd, hF⟩ => ⟨I1.kIn, ?_⟩) he hpl
  have sp : spX X.K F vs H1 Q (fun cv _ H' => ∃ G' C c, cv = .ref C ∧ r = .ex c ∧ excC X.K c = some C ∧ Grow G1 H1 G' H') := by
    refine ⟨G1, ds, r, ⟨g1.sub, R1.tab⟩, rd, hF, ?_⟩
    cases r with
    | ok d => exact fun v G' H' g rv => q v G' H' (g1.trans g) rv
    | ex c => exact fun C G' H' hC g => ⟨G', C, c, rfl, rfl, hC, g⟩
  have hl : us.length = ps.length := by rw [← rv.length]; exact Fk.len _ _ _ _ sp
  refine wpAny_call (codeAny_mono (Fk.run X.A X.stack s1 H1 ⟨us, []⟩ us vs Q _ hr I1.env0 (by simpa using c s1 us I1.kIn (by simpa using hl)) rv sp) fun res s' hq => ?_)
  cases res with
  | error e2 =>
    obtain ⟨a2, C2, H2, rfl, ⟨G2, C3, c3, e3, rfl, hC, g2⟩, os, bare, un, hok, xa⟩ := hq
    cases e3
    exact q pins s' σ H2 G2 _ (I1.call' (ch := []) os un hok bare (fun b z => nomatch z)) (R1.more g2) (g1.gg.trans g2.gg) ⟨a2, C2, rfl, hC, .inl (xa.mono fun b hb => inv_new I1 hb)⟩
  | ok fl =>
    cases fl with
    | ret u => exact I1.after hq
    | next => exact False.elim hq
    | brk => exact False.elim hq
    | cont => exact False.elim hq⟩
end
end L2.L3
namespace L2.L3
open PySem PySem.Spec PyProof.Rows
section
variable {K : PySem.W.Frag} {H0 G₀ G H : Hp} {σ : St} {ρ : List Ent}
end
section
variable {X : Cx} {pins : List (Addr × Obj)} {σ : St} {H : Hp} {s : Shared}
theorem name_goes {M : Model} {A : Around} {E : Value → Shared → Prop} {Q : Unit → Shared → Prop} {j : Nat} {n : Str} {pos : Pos} (I : Inv X pins σ H s) (hN : X.N.Nodup) (hj : X.N[j]? = some n) (hk : X.env.scope.names.lookup n = some .local)
    (h : ∀ s', Inv X pins (σ.set j none) H s' → Q () s') : wpAny M A (do bindName X.env n .none; unbindBehindTheSuite X.env n pos) Q E s := by
  obtain ⟨m, hn, hl⟩ := id I.loc
  obtain ⟨oL, _, _, hoL, _⟩ := id hn
  have hcls : (X.env.scope.kind == .class || (X.env.scope.kind == .module && X.env.locals != X.env.globals)) = false := by rw [I.ok.kind]; rfl
  have hjσ : j < σ.length := by rw [I.len]; exact (List.getElem?_eq_some_iff.mp hj).1
  refine wpAny_nameGoes_keeps hk hn hcls fun h' v hn' hs => ?_
  have ne0 : ∀ b o, X.s₀.heap.get? b = some o → b ≠ X.env.locals := fun b o e => Nat.ne_of_lt (Nat.lt_of_lt_of_le (Heap.lt_size e) I.ok.above)
  refine h _ ⟨I.ok, I.os, I.bare, ⟨fun b o e n hb hx => ?_, fun b o e n hb hx => ?_, I.base.free, fun b o e hx => ?_, I.base.tups, I.base.frzs, I.base.tbls⟩, ⟨_, hn', fun i y v' e1 e2 e3 => ?_⟩, fun y c e => ?_, I.free, I.freeC, fun p hp => ?_, fun b ob e => ?_, by simpa using I.len⟩
  · exact (hs.2 b (ne0 b o e)).trans (I.base.keep b o e n hb hx)
  · obtain ⟨sl, e1⟩ := I.base.slot b o e n hb hx
    exact ⟨sl, (hs.2 b (ne0 b o e)).trans e1⟩
  · obtain ⟨o', e1⟩ := I.base.there b o e hx
    exact ⟨o', (hs.2 b (ne0 b o e)).trans e1⟩
  · by_cases hi : i = j
    · subst hi
      rw [List.getElem?_set_self hjσ] at e2
      cases e2
    · rw [List.getElem?_set_ne (Ne.symm hi)] at e2
      obtain ⟨u', r', q⟩ := hl i y v' e1 e2 e3
      refine ⟨u', r', ?_⟩
      rcases q with ⟨k, e⟩ | ⟨k, c, e, z⟩
      · refine .inl ⟨k, ?_⟩
        have : y ≠ n := fun e => hi (nodup_ix hN e1 (e ▸ hj))
        simp [this, e]
      · exact .inr ⟨k, c, e, z.sameBut hs (I.cne y c e)⟩
  · obtain ⟨w', z⟩ := I.cell y c e
    exact ⟨w', z.sameBut hs (I.cne y c e)⟩
  · obtain ⟨e, n, ne, nf, d⟩ := I.pin p hp
    exact ⟨(hs.2 p.1 ne).trans e, n, ne, nf, d⟩
  · refine (I.hok b ob e).stay (fun c w' hc q => (hs.2 c ?_).trans q) (fun _ q => q) fun _ _ q => q
    rintro rfl
    rcases hc with rfl | hc
    · rw [I.free] at e; cases e
    · rw [I.free] at hc; cases hc
noncomputable abbrev Cx.suite (X : Cx) (a : Addr) : Cx := { X with A := X.A.mark (some (.ref a)), calm := false, xe := fun _ _ => False }
theorem inv_suite (I : Inv X pins σ H s) (a : Addr) : Inv (Cx.suite X a) pins σ H s :=
  ⟨⟨I.ok.mod, I.ok.kind, I.ok.glob, I.ok.blt, I.ok.above, I.ok.inj, I.ok.has, I.ok.cab, (fun z => nomatch z), I.ok.frames, I.ok.stk, I.ok.exf, I.ok.bs, I.ok.bsz, I.ok.noex, I.ok.exfs, I.ok.funs, I.ok.frf⟩, I.os, I.bare, I.base, I.loc, I.cell, I.free, I.freeC, I.pin, I.hok, I.len⟩
theorem inv_unsuite {a : Addr} (I : Inv (Cx.suite X a) pins σ H s) (ok : X.Ok) : Inv X pins σ H s := ⟨ok, I.os, I.bare, I.base, I.loc, I.cell, I.free, I.freeC, I.pin, I.hok, I.len⟩
end
section
variable {X : Cx} {body : List Stmt} {f : SF}
end
end L2.L3
namespace L2.L3
open PySem PySem.Spec PyProof.Rows
noncomputable def xclsB (K : PySem.W.Frag) (C : Addr) : Bool := PySem.W.excIn K C bmVE "ValueError.__new__" && (PySem.W.findIn K (.ref C) "__getattribute__" == some (some (.builtin "BaseException.__getattribute__"))) && (PySem.W.findIn K (.ref C) "__getattr__" == some none)
  && (PySem.W.findIn K (.ref C) "__class__" == some (some (.builtin "object.__class__"))) && (PySem.W.mroIn K C (.type "object") == some true)
noncomputable def exOkC (K : PySem.W.Frag) (S : Addr) (c : Str) : Bool := match excC K c with
  | some C => xclsB K C && (PySem.W.typeIn K (.ref C) == some (.type "type")) && (PySem.W.subIn K (.ref C) (.type "ValueError") == some true) && (PySem.W.subIn K (.ref C) (.ref S) == some true)
  | none => false
noncomputable def exOkD (K : PySem.W.Frag) (c d : Str) : Bool := c == d || match excC K c, excC K d with
  | some C, some D => (C != D) && (PySem.W.subIn K (.ref C) (.ref D) == some false)
  | _, _ => false
theorem xcls_of {K : PySem.W.Frag} {C : Addr} (h : xclsB K C = true) : XCls K C := by
  simp only [xclsB, Bool.and_eq_true, beq_iff_eq] at h
  exact ⟨h.1.1.1.1, h.1.1.1.2, h.1.1.2, h.1.2, h.2⟩
section
variable {X : Cx} {pos p p2 : Pos} {x : Str}
theorem ty_VE : typeOf (.type "ValueError") = pure (.type "type") := by kernel_rfl
end
noncomputable def runE (m : Nat) (f : SF) (c : Str) : Mm PyData := match f (.exc c :: List.replicate (m - 1) .no) with
  | some (.rt d) => some (.ok d)
  | some (.nx _) => some (.ok .none)
  | _ => none
theorem startX_ok {K : PySem.W.Frag} {G H : Hp} {N : List Str} {a C : Addr} {c : Str} (s : Same G H ∧ Tabs K G H) (hC : excC K c = some C) (hH : H a = some (xcO a C)) : RepS K H G G H (start N [.ref a]) (.exc c :: List.replicate (N.length - 1) .no) := by
  refine ⟨.refl s.1, by simp [start, Nat.add_comm], fun i o e h1 h2 => ?_, Inj.free (fun i e h2 => ?_), s.2⟩
  · cases i with
    | zero =>
      have h1 : some (some (V.ref a)) = some o := by simpa [start] using h1
      cases h1
      cases (Option.some.inj h2)
      exact ⟨a, C, rfl, hC, hH⟩
    | succ i =>
      rw [List.getElem?_cons_succ, List.getElem?_replicate] at h2
      split at h2
      · cases h2; trivial
      · cases h2
  · cases i with
    | zero => cases (Option.some.inj h2); rfl
    | succ i =>
      rw [List.getElem?_cons_succ, List.getElem?_replicate] at h2
      split at h2
      · cases h2; rfl
      · cases h2
section
variable {P : Program} {w : World} {K : PySem.W.Frag} {mg : Str → Option Value} {base : Heap} {X : Cx} {pos p p2 : Pos} {x y : Str} {k : Nat} {ps N : List Str} {F : Str → Mm PyData}
end
end L2.L3
namespace L2.L3
open PySem PySem.Spec PyProof.Rows
section
variable {X : Cx} {body : List Stmt} {f : SF}
end
end L2.L3
namespace L2.L3
open PySem PySem.Spec PyProof.Rows
section
variable {X : Cx} {body : List Stmt} {f : SF}
noncomputable def exOkL (L : List Str) (K : PySem.W.Frag) : Bool := match excC K "SheetError" with
  | some S => xclsB K S && L.all (exOkC K S)
  | none => false
structure ExL (L : List Str) (K : PySem.W.Frag) : Prop where
  ok : exOkL L K = true
theorem ExL.she {L : List Str} {K : PySem.W.Frag} (F : ExL L K) : ∃ S, excC K "SheetError" = some S ∧ XCls K S ∧ ∀ c ∈ L, ∃ C, excC K c = some C ∧ XCls K C ∧ PySem.W.subIn K (.ref C) (.ref S) = some true := by
  have h := F.ok
  unfold exOkL at h
  split at h
  · rename_i S hS
    rw [Bool.and_eq_true] at h
    refine ⟨S, hS, xcls_of h.1, fun c hc => ?_⟩
    have h2 := List.all_eq_true.mp h.2 c hc
    unfold exOkC at h2
    split at h2
    · rename_i C hC
      simp only [Bool.and_eq_true, beq_iff_eq] at h2
      exact ⟨C, hC, xcls_of h2.1.1.1, h2.2⟩
    · cases h2
  · cases h
theorem ds_raiseL {L : List Str} {x m : Str} {np sp cpos pos : Pos} {j} (F : ExL L X.K) (hc : X.calm = true) (hx : x ∈ L := by decide) (hg : Gl X x := by rfl) (hdb : (x == ("__debug__" : Str)) = false := by decide)
    (he : starEach [.Constant (.str m) j sp] X.env = (false, eval (.Constant (.str m) j sp) X.env) :: starEach [] X.env := by rfl) (hpl : (backTo cpos (starEach [] X.env)).any (·.1) = false := by rfl) :
    DS X (.Raise (some (.Call (.Name x np) [.Constant (.str m) j sp] [] cpos)) none pos) (raiseS x) := by
  obtain ⟨S, _, _, h3⟩ := F.she
  obtain ⟨C, h1, h2, _⟩ := h3 x hx
  exact ds_raise hc h1 h2 hg hdb he hpl
end
end L2.L3
namespace L2.L3
open PySem PySem.Spec PyProof.Rows
section
variable {M : Model} {A : Around} {E : Value → Shared → Prop} {s : Shared} {env : Env}
noncomputable def cpX (M : Model) (A : Around) (E : Value → Shared → Prop) (env : Env) (Q : Value → Shared → Prop) (acc : Value) (C : Addr) (r : Result) (s' : Shared) : Prop :=
  match r with
  | .ok _ => ∃ m, s'.heap.Ns C m ∧ ∀ h', Heap.SameBut C s'.heap h' → Q acc { s' with heap := h' }
  | .error x => ∃ m, s'.heap.Ns C m ∧ ∀ h', Heap.SameBut C s'.heap h' → ∀ ce : Env, ce.frame = env.frame → wpAny M A (PySem.passOn "comprehension.variables-let-go" x ce : Sem Value) (fun _ _ => False) E { s' with heap := h' }
theorem comp_freeX {e : Expr} {scope : Scope} {pos : Pos} {newAcc first : Sem Value} {g : Comprehension} {gs : List Comprehension} {cl : List (Str × Addr)} {Q : Value → Shared → Prop}
    (hcl : clausesOf e = g :: gs) (hs : ∀ x, foldedSetIterable g.iter env x = pure x) (hclos : closureFor scope env = pure cl)
    (hkind : scope.kind = .function) (hnames : ∀ x ∈ scope.names, x.2 = .local → scope.names.lookup x.1 = some .local)
    (h : wpAny M A first (fun x s₁ => wpAny M A (pyIter x) (fun it s₂ => wpAny M A newAcc (fun acc s₃ =>
      wpAny M A (newFunctionEnv scope env.globals cl [] env.qual none .none (some env)) (fun cenv s₄ => cenv.frame = env.frame ∧
        codeAny M A (.compStart e 0 it acc { cenv with scope := relabel scope env }) (cpX M A E env Q acc cenv.locals) s₄) E s₃) E s₂) E s₁) E s) :
    wpAny M A (comprehension e scope env pos newAcc false first none) Q E s := by
  unfold comprehension
  rw [hclos, hcl]
  refine wpAny_bind (wpAny_mono h (fun x s₁ h₁ => wpAny_bind (wpAny_standAt (wpAny_bind (wpAny_of_eq (hs x) (wpAny_bind (wpAny_holding (wpAny_mono h₁ (fun it s₂ h₂ =>
    wpAny_standIf (wpAny_bind (wpAny_mono h₂ (fun acc s₃ h₃ => wpAny_bind (wpAny_pure (wpAny_bind (wpAny_mono h₃ (fun cenv s₄ h₄ => ?_) fun _ _ h' => h')))) fun _ _ h' => h')))
      fun _ _ h' => h'))))))) fun _ _ h' => h')
  dsimp only
  obtain ⟨hfr, h₄⟩ := h₄
  have hv : ∀ x ∈ (scope.names.filter fun x => (x.2 == .local || x.2 == .cell) && x.1 != (".0" : Str)).reverse, x.2 = .local →
      Env.kindOf { cenv with scope := relabel scope env } x.1 = some .local := fun x hx hl => lookup_relabel_local (hnames x (List.mem_filter.mp (List.mem_reverse.mp hx)).1 hl)
  refine wpAny_holding (wpAny_bind (wpAny_attempt (wpAny_holding (wpAny_run (codeAny_mono h₄ fun r s' hr => ?_)))))
  cases r with
  | ok f =>
    obtain ⟨m, hn, hr⟩ := hr
    exact wpAny_bind (wpAny_holding (wpAny_comp_letGo (cenv := { cenv with scope := relabel scope env }) hkind _ s' m hv hn fun h' m' _ hs' => wpAny_pure (hr h' hs')))
  | error x =>
    obtain ⟨m, hn, hr⟩ := hr
    exact wpAny_bind (wpAny_holding (wpAny_comp_letGo (cenv := { cenv with scope := relabel scope env }) hkind _ s' m hv hn fun h' m' _ hs' => wpAny_mono (hr h' hs' _ hfr) (fun _ _ f => f.elim) fun _ _ y => y))
end
section
variable {X : Cx} {pins : List (Addr × Obj)} {σ : List (Option V)} {H H' : Hp} {s : Shared} {h' : Heap} {a C : Addr} {fr : Addr → Prop}
theorem fly_to {M : Model} {A : Around} {E : Value → Shared → Prop} {Q : Unit → Shared → Prop} {fl : Value} (o : Option Addr) (hok : HOk X.prog X.w H s.heap) (x : ExcF fr fl H a C s.heap)
    (h : ∀ h' ch, Chg X fr ch H s.heap h' → ExcF fr (o.elim .none fun f => rawInt f) H a C h' → Q () { s with heap := h' }) : wpAny M A (setFlight (.ref a) o) Q E s := by
  obtain ⟨h1, h2, oe, vs, a0, T, oT, ts, e1, e2, e3, e4, e5, e6, e7, e8, e9, e10, e11⟩ := x
  have sz : 3 < ts.size := (Array.getElem?_eq_some_iff.mp e11).1
  unfold setFlight
  refine wpAny_bind (wpAny_field e1 e3 e5 ?_)
  rw [if_pos (show (Value.ref T != Value.none) = true from by simp)]
  refine wpAny_setField e9 e10 sz (h _ [T] ⟨fun b z => ?_, ⟨fun b o e n _ n2 => ?_, fun b o e n _ n2 => ?_, fun b o e n _ => n, fun b o e n2 => ?_, fun _ _ q => q, fun _ _ _ q => q, fun _ ps q => ⟨#[], by rw [q]; simp⟩⟩, fun b u q => ?_⟩ ?_)
  · cases List.mem_singleton.mp z; exact ⟨e6, e7, oT, ts, e9, e10⟩
  · rw [Heap.get?_update_other _ _ (fun z => n2 (by simp [z]))]; exact e
  · exact ⟨o.slots, by rw [Heap.get?_update_other _ _ (fun z => n2 (by simp [z]))]; exact e⟩
  · exact ⟨o, by rw [Heap.get?_update_other _ _ (fun z => n2 (by simp [z]))]; exact e⟩
  · have tr : ∀ c u, H c = some u → T ≠ c := fun c u q z => by rw [← z, e7] at q; cases q
    refine (hok b u q).stay (fun c v hc z => ?_) (fun _ z => z) fun _ _ z => z
    rcases hc with rfl | hc
    · rw [Heap.get?_update_other _ _ (tr c u q)]; exact z
    · rw [Heap.get?_update_other _ _ (tr c _ hc)]; exact z
  · refine ⟨h1, h2, oe, vs, a0, T, _, _, ?_, e2, e3, e4, e5, e6, e7, e8, Heap.get?_update_self _ e9 (Obj.isFreed_of_fields (Obj.data_mapFields e10 _)), Obj.data_mapFields e10 _, by simp [sz]⟩
    rw [Heap.get?_update_other _ _ e8]; exact e1
theorem pass_ok {α : Type} {M : Model} {A : Around} {E : Value → Shared → Prop} {Q : α → Shared → Prop} {fl : Value} {ce : Env} {wh : String} (hok : HOk X.prog X.w H s.heap) (x : ExcF fr fl H a C s.heap)
    (h : ∀ h' ch, Chg X fr ch H s.heap h' → ExcF fr (ce.frame.elim .none fun f => rawInt f) H a C h' → E (.ref a) { s with heap := h' }) : wpAny M A (PySem.passOn wh (.ref a) ce : Sem α) Q E s := by
  have x' := x
  obtain ⟨h1, h2, oe, vs, a0, T, oT, ts, e1, e2, e3, e4, e5, e6⟩ := x
  unfold PySem.passOn
  refine wpAny_bind (wpAny_field e1 e3 e5 ?_)
  rw [if_neg (by simp)]
  exact wpAny_bind (fly_to ce.frame hok x' fun h' ch c x2 => wpAny_throw (h h' ch c x2))
end
noncomputable def loopX (t : Tg) (ρb : List Ent) (ft : TF) (fe : EF) : List PyData → Mm (List PyData)
  | [] => some (.ok [])
  | d :: ds => match tgD t ρb d with
    | none => none
    | some ρx => (match ft ρx with
      | some (.ok true) => bnd (fe ρx) fun v => bnd (loopX t ρb ft fe ds) fun vs => some (.ok (v :: vs))
      | some (.ok false) => loopX t ρb ft fe ds
      | _ => none)
noncomputable def compXE (t : Tg) (cap : List (Option Nat)) (fi : AF) (ft : TF) (fe : EF) : EF := fun ρ => bnd (fi ρ) fun ds => if szOk ds.length then bnd (loopX t (capE cap ρ) ft fe ds) fun es => some (.ok (.list es)) else none
theorem loopX_ok {t : Tg} {ρb : List Ent} {ft : TF} {fe : EF} : ∀ {ds es : List PyData}, loopX t ρb ft fe ds = some (.ok es) → loopC t ρb ft fe ds = some es
  | [], es, h => by cases h; rfl
  | d :: ds, es, h => by
    unfold loopX at h
    unfold loopC
    split at h
    · cases h
    · rename_i ρx et
      split at h
      · rename_i e1
        rcases bnd_some h with ⟨v, ev, h2⟩ | ⟨c, _, z⟩
        · rcases bnd_some h2 with ⟨vs, es', h3⟩ | ⟨c, _, z⟩
          · cases h3
            simp only [et, e1, ev, loopX_ok es', Option.map_some]
          · cases z
        · cases z
      · rename_i e1
        try simp only [et, e1]
        exact loopX_ok h
      · cases h
theorem loopX_ex {t : Tg} {ρb : List Ent} {ft : TF} {fe : EF} {c : Str} : ∀ {ds : List PyData}, loopX t ρb ft fe ds = some (.ex c) → ∃ pre d post, ds = pre ++ d :: post ∧
    (∀ x ∈ pre, tgD t ρb x = some (cX t ρb x) ∧ ft (cX t ρb x) = some (.ok (cT t ρb ft x)) ∧ (cT t ρb ft x = true → ∃ v, fe (cX t ρb x) = some (.ok v))) ∧
    tgD t ρb d = some (cX t ρb d) ∧ ft (cX t ρb d) = some (.ok true) ∧ fe (cX t ρb d) = some (.ex c)
  | [], h => by cases h
  | d :: ds, h => by
    unfold loopX at h
    split at h
    · cases h
    · rename_i ρx et
      have ex : cX t ρb d = ρx := by unfold cX; rw [et]; rfl
      have go : loopX t ρb ft fe ds = some (.ex c) → (ft ρx = some (.ok (cT t ρb ft d)) ∧ (cT t ρb ft d = true → ∃ v, fe ρx = some (.ok v))) → ∃ pre d' post, d :: ds = pre ++ d' :: post ∧
          (∀ x ∈ pre, tgD t ρb x = some (cX t ρb x) ∧ ft (cX t ρb x) = some (.ok (cT t ρb ft x)) ∧ (cT t ρb ft x = true → ∃ v, fe (cX t ρb x) = some (.ok v))) ∧
          tgD t ρb d' = some (cX t ρb d') ∧ ft (cX t ρb d') = some (.ok true) ∧ fe (cX t ρb d') = some (.ex c) := fun h1 h2 => by
        obtain ⟨pre, d', post, e1, e2, e3⟩ := loopX_ex h1
        refine ⟨d :: pre, d', post, by rw [e1]; rfl, fun x hx => ?_, e3⟩
        rcases List.mem_cons.mp hx with rfl | hx
        · rw [ex]; exact ⟨et, h2.1, h2.2⟩
        · exact e2 x hx
      split at h
      · rename_i e1
        have e1' : cT t ρb ft d = true := by unfold cT; rw [ex, e1]
        rcases bnd_some h with ⟨v, ev, h2⟩ | ⟨c', ev, z⟩
        · rcases bnd_some h2 with ⟨vs, es', h3⟩ | ⟨c', e3, z⟩
          · cases h3
          · cases z
            exact go e3 ⟨by rw [e1']; exact e1, fun _ => ⟨v, ev⟩⟩
        · cases z
          exact ⟨[], d, ds, rfl, fun _ z => absurd z (by simp), by rw [ex]; exact et, by rw [ex]; exact e1, by rw [ex]; exact ev⟩
      · rename_i e1
        have e1' : cT t ρb ft d = false := by unfold cT; rw [ex, e1]
        exact go h ⟨by rw [e1']; exact e1, fun z => by rw [e1'] at z; cases z⟩
      · cases h
noncomputable def eX (K : PySem.W.Frag) (xs : List PyData) (ρx : PyData → List Ent) (fe : EF) (c : Str) (H0 G₀ : Hp) : TE := fun σ H Q => ∃ x r G, x ∈ xs ∧ fe (ρx x) = some r ∧ RepS K H0 G₀ G H σ (ρx x) ∧
  (match r with | .ok d => ∀ v G' H', Grow G H G' H' → Rep K G' v d → Q v H' | .ex c' => c' = c)
theorem tcompX {K : PySem.W.Frag} {J : It} {H0 G₀ G H : Hp} {σ : St} {ρ ρb : List Ent} {cap : List (Option Nat)} {pre post : List PyData} {d : PyData} {c : Str} {ρx : PyData → List Ent} {cnd : PyData → Bool} {fe : EF} (R : RepS K H0 G₀ G H σ ρ) (wk : Walk K J G (pre ++ d :: post)) (hb : Weak (capE cap ρ) ρb)
    (hw : ∀ x ∈ pre ++ [d], Weak (ρx x) ρb) (hz : (pre ++ d :: post).length ≤ sizeLine) (hp : ∀ x ∈ pre, cnd x = true → ∃ v, fe (ρx x) = some (.ok v)) (hd : cnd d = true) (he : fe (ρx d) = some (.ex c)) :
    TComp J (gU K (pre ++ [d]) (fun x => x) ρb ρx) (tU K (pre ++ [d]) ρx cnd) (eX K (pre ++ [d]) ρx fe c H G) (capSt cap σ) H (fun _ _ => False) := by
  refine ⟨fun D i m ys σ' H' => m = pre.length - i ∧ i ≤ pre.length ∧ ys.length ≤ i ∧ ∃ G', RepS K H G G' H' σ' ρb ∧ G' D = none, fun D hD => ⟨⟨pre.length, by simp, Nat.zero_le _, Nat.zero_le _, G, ?_, R.sub.free hD⟩, ?_⟩⟩
  · exact ((R.cap cap).more (.side R.sub hD)).weak hb
  · rintro i m ys σ1 H1 ⟨rfl, hi, hys, G1, R1, hG1⟩ hD1
    obtain ⟨wgo, wstop⟩ := wk i G1 H1 R1.grow.gg R1.sub
    have hx : ∃ x, (pre ++ [d])[i]? = some x ∧ (pre ++ d :: post)[i]? = some x ∧ x ∈ pre ++ [d] ∧ ((i < pre.length ∧ x ∈ pre) ∨ x = d) := by
      by_cases h : i < pre.length
      · refine ⟨pre[i], ?_, ?_, ?_, .inl ⟨h, List.getElem_mem h⟩⟩
        · rw [List.getElem?_append_left h]; exact List.getElem?_eq_getElem h
        · rw [List.getElem?_append_left h]; exact List.getElem?_eq_getElem h
        · exact List.mem_append_left _ (List.getElem_mem h)
      · have : i = pre.length := by omega
        subst this
        exact ⟨d, by simp, by simp, by simp, .inr rfl⟩
    obtain ⟨x, _, hx2, hm, hx4⟩ := hx
    obtain ⟨go, yl⟩ := wgo x hx2
    refine .inr ⟨go, fun v H2 y => ?_⟩
    obtain ⟨G2, g2, rx⟩ := yl v H2 y
    refine ⟨x, hm, H, G, G2, R1.more g2, rx, fun σ3 R3 => ⟨x, hm, H, G, G2, R3, fun G4 H4 g4 => ?_⟩⟩
    have g14 := g2.trans g4
    have hD4 : H4 D = some (.lst ys) := g14.hh.lst hD1
    have hG4 : G4 D = none := g14.new D hG1 (by rw [hD1]; simp)
    dsimp only
    have hzz : pre.length < sizeLine := by rw [List.length_append, List.length_cons] at hz; omega
    rcases hx4 with ⟨hlt, hpre⟩ | rfl
    · by_cases hcx : cnd x = true
      · rw [if_pos hcx]
        obtain ⟨w, ew⟩ := hp x hpre hcx
        refine ⟨x, .ok w, G4, hm, ew, R3.more g4, fun v G5 H5 g5 rv => ?_⟩
        have hD5 : H5 D = some (.lst ys) := g5.hh.lst hD4
        have hG5 : G5 D = none := g5.new D hG4 (by rw [hD4]; simp)
        refine ⟨hD5, by omega, pre.length - (i + 1), by omega, rfl, hlt, by simp; omega, G5, ?_, hG5⟩
        have R5 : RepS K H G G5 H5 σ3 ρb := ((R3.more g4).more g5).weak (hw _ hm)
        have noOwn : ∀ (j : Nat) (e : Ent), ρb[j]? = some e → isOwn e = false := fun j e h2 => by
          rcases hb.at h2 with z' | z'
          · rw [z']; rfl
          · exact capE_free cap ρ j e z'
        have hHD : H D = none := hD
        refine ⟨⟨R5.grow.gg, R5.grow.hh.wr hHD hD5, fun b o e => ?_, R5.grow.new, R5.grow.nt⟩, R5.len, fun j o e h1 h2 => ?_, Inj.free (fun j e h2 => noOwn j e h2), R5.tab.wr hD5⟩
        · rw [upd_ne (ne_of_none e hG5)]; exact R5.sub b o e
        · have E := R5.ent j o e h1 h2
          cases e with
          | no => trivial
          | val d => exact E
          | exc c => obtain ⟨b, C, z, g1, g2⟩ := E; exact ⟨b, C, z, g1, by rw [upd_ne (ne_of g2 hD5 (by unfold xcO; nofun))]; exact g2⟩
          | lst es => have := noOwn j _ h2; cases this
          | nst dss => have := noOwn j _ h2; cases this
          | dct kvs => have := noOwn j _ h2; cases this
      · rw [if_neg hcx]
        exact ⟨hD4, pre.length - (i + 1), by omega, rfl, hlt, by omega, G4, (R3.more g4).weak (hw _ hm), hG4⟩
    · rw [if_pos hd]
      exact ⟨x, .ex c, G4, hm, he, R3.more g4, rfl⟩
section
variable {X : Cx} {elt iter tg : Expr} {ifs : List Expr} {scope : Scope} {pos spos p : Pos} {N' : List Str} {cap : List (Option Nat)} {t : Tg} {fi : AF} {ft : TF} {fe : EF}
noncomputable def XEof (X : Cx) (scope : Scope) (N' : List Str) (c : Str) (G H : Hp) (C : Addr) (s₃ : Shared) (H₃ : Hp) (fp : List Addr) (e : Value) (s' : Shared) : Prop :=
  ∃ pins σ H' G', Inv (blkCx X scope N' C s₃ H₃ fp) pins σ H' s' ∧ Grow G H G' H' ∧ ExcIs (blkCx X scope N' C s₃ H₃ fp) c e H' s'
theorem x_goes {pins : List (Addr × Obj)} {σ : St} {H0 G₀ G H H₃ : Hp} {s₃ s' : Shared} {fp : List Addr} {c : Str} {e : Value} {ρ : List Ent} {cl : List (Str × Addr)} {acc : Value} {Q : Value → Shared → Prop} (hst : X.stack = X.env :: X.outer) (hf : X.env.frame = some X.env.locals)
    (I3 : Inv X pins σ H₃ s₃) (hf3 : ∀ b ∈ fp, FpOk X pins H₃ b) (R : RepS X.K H0 G₀ G H σ ρ) (q : XcOk X H0 G₀ G ρ c) (z : XEof X scope N' c G H s₃.heap.objs.size s₃ H₃ fp e s') :
    notedBy (model X.prog X.w) X.A (compEnvC scope cl s₃.heap.objs.size X.env) (fun x s' => cpX (model X.prog X.w) X.A X.xe X.env Q acc s₃.heap.objs.size (.error x) s') e s' := by
  obtain ⟨pins', σ', H', G', Ib, g, a, C, rfl, hC, xa⟩ := z
  have IX : Inv X pins σ H' s' := I3.call' (ch := fp) Ib.os Ib.base Ib.hok Ib.bare fun b hb => by
    obtain ⟨_, f1, _, f3, f4, f5⟩ := hf3 b hb
    exact ⟨f3, f1, f4, f5⟩
  have pinNe : ∀ b, (s₃.heap.get? b = none ∨ s'.heap.get? b = none) → ∀ p ∈ pins, p.1 ≠ b := fun b hb p hp w => by
    rcases hb with hb | hb
    · have := (I3.pin p (List.mem_append_right _ hp)).1; rw [w, hb] at this; cases this
    · have := (IX.pin p (List.mem_append_right _ hp)).1; rw [w, hb] at this; cases this
  have xa' : ExcHere X (fun b => Fresh X b ∧ ∀ p ∈ pins, p.1 ≠ b) H' a C s'.heap := xa.mono fun b hb => by
    rcases hb.1 with w | w
    · obtain ⟨_, f1, _, f3, f4, f5⟩ := hf3 b w
      refine ⟨⟨f3.imp id fun y => Heap.get?_none_of_le y, fun p hp => f5 p (List.mem_append_left _ hp)⟩, fun p hp => f5 p (List.mem_append_right _ hp)⟩
    · exact ⟨inv_new I3 w, pinNe b (.inl w)⟩
  show wpAny (model X.prog X.w) X.A (noteFrame (.ref a) X.env) _ _ s'
  refine note_any (X := X) IX.ok.frames hst hf IX xa' (fun b hb => ⟨inv_new IX hb, pinNe b (.inr hb)⟩) fun h1 ch1 c1 x1 => ?_
  have I1 : Inv X pins σ H' { s' with heap := h1 } := Inv.chg IX c1
  obtain ⟨m, hn, _⟩ := Ib.loc
  obtain ⟨oL, es, ep, hoL, rL⟩ := hn
  have hoL : s'.heap.get? s₃.heap.objs.size = some oL := hoL
  have cL : s₃.heap.objs.size ∉ ch1 := fun z => by
    obtain ⟨_, _, o, vs, e1, e2⟩ := c1.ch _ z
    rw [hoL] at e1; cases e1
    rw [rL.1] at e2; cases e2
  obtain ⟨sl, qL⟩ := c1.un.any hoL Ib.free cL
  have nL : s₃.heap.objs.size ≠ X.env.locals := Nat.ne_of_gt I3.lt
  refine ⟨m, ⟨_, es, ep, qL, rL⟩, fun h2 hs2 ce hce => ?_⟩
  have hs2 : Heap.SameBut s₃.heap.objs.size h1 h2 := hs2
  have I2 : Inv X pins σ H' { s' with heap := h2 } := Inv.turned (s := { s' with heap := h1 }) (t' := s'.toks) (it := s₃.heap.objs.size) I1 (fun b o hb e => hs2.extBut b o hb e) Ib.free nL (.inr I3.sz) (fun x c e z => by
      obtain ⟨v, q⟩ := I3.cell x c e
      exact absurd q.lt (by rw [z]; exact Nat.lt_irrefl _)) fun p hp z => by
      exact absurd (Heap.lt_size (I3.pin p hp).1) (by rw [z]; exact Nat.lt_irrefl _)
  have x2 : ExcF (fun b => Fresh X b ∧ ∀ p ∈ pins, p.1 ≠ b) (rawInt X.env.locals) H' a C h2 := by
    obtain ⟨h1', h2', oe, vs, a0, T, oT, ts, e1, e2, e3, e4, e5, e6, e7, e8, e9, e10, e11⟩ := x1
    have ne : ∀ b o us, h1.get? b = some o → o.data = .fields us → b ≠ s₃.heap.objs.size := fun b o us e d w => by
      rw [w, qL] at e; cases e
      have d : oL.data = .fields us := d
      rw [rL.1] at d; cases d
    exact ⟨h1', h2', oe, vs, a0, T, oT, ts, hs2.extBut _ _ (ne _ _ _ e1 e3) e1, e2, e3, e4, e5, e6, e7, e8, hs2.extBut _ _ (ne _ _ _ e9 e10) e9, e10, e11⟩
  refine pass_ok (X := X) (s := { s' with heap := h2 }) I2.hok x2 fun h3 ch3 c3 x3 => ?_
  rw [hce, hf] at x3
  exact q pins _ σ H' G' _ (Inv.chg (s := { s' with heap := h2 }) I2 c3) (R.more g) g.gg ⟨a, C, rfl, hC, .inr ⟨_, hf, x3.mono fun b hb => hb.1⟩⟩
theorem de_compX (hst : X.stack = X.env :: X.outer) (hfr : X.env.frame = some X.env.locals) (hc : X.calm = true) (B : Blk X scope N' cap) (hi : DI X tg iter fi) (hf : tgFree cap t = true) (hg : ∀ C s₃ H₃ fp, DG (blkCx X scope N' C s₃ H₃ fp) tg t) (ht : ∀ C s₃ H₃ fp, DTs (blkCx X scope N' C s₃ H₃ fp) ifs ft)
    (he : ∀ C s₃ H₃ fp E, DE ((blkCx X scope N' C s₃ H₃ fp).wish E) elt fe) (hs : ∀ x, foldedSetIterable iter X.env x = pure x := by intro _; rfl) : DE X (.ListComp elt [⟨tg, iter, ifs, 0⟩] scope pos) (compXE t cap fi ft fe) := ⟨fun pins s σ H Q I ⟨ρ, r, H0, G₀, G, e, R, q⟩ => by
  have old : ∀ r', compE t cap fi ft fe ρ = some r' → r' = r → wpAny (model X.prog X.w) X.A (eval (.ListComp elt [⟨tg, iter, ifs, 0⟩] scope pos) X.env) (EP X pins σ Q) X.xe s := fun r' e' er => by
    subst er
    exact (de_comp hc B hi hf hg ht (fun C s₃ H₃ fp => he C s₃ H₃ fp fun _ _ => False) hs).run pins s σ H Q I ⟨ρ, _, H0, G₀, G, e', R, q⟩
  rcases bnd_some e with ⟨ds, e1, e2⟩ | ⟨c, e1, e2⟩
  · split at e2
    · rename_i hz
      rcases bnd_some e2 with ⟨es, e3, e4⟩ | ⟨c, e3, e4⟩
      · cases e4
        refine old _ ?_ rfl
        unfold compE
        rw [e1, bnd_ret, if_pos hz, loopX_ok e3]; rfl
      · subst e4
        obtain ⟨pre, d, post, e5, e6, e7, e8, e9⟩ := loopX_ex e3
        rw [eval_ListComp]
        refine comp_freeX rfl hs (clOf_closure fun p hp hk => I.ok.has p.1 (.inl (B.free p hp hk))) B.kind B.names ?_
        refine thn (hi.run pins s σ H (fun J H' => ∃ G', Grow G H G' H' ∧ Walk X.K J G' ds) I ⟨ρ, _, H0, G₀, G, e1, R, fun J G' H' g w => ⟨G', g, w⟩⟩) fun v s1 h1 => thn h1 fun itv s2 ⟨it, fp, tn, J, H2, e', I2, T, st2, f2, G2, g2, wk⟩ => ?_
        subst e'
        have R2 := R.more g2
        have cTd : cT t (capE cap ρ) ft d = true := by unfold cT; rw [e8]
        have hpd : ∀ x ∈ pre ++ [d], tgD t (capE cap ρ) x = some (cX t (capE cap ρ) x) ∧ ft (cX t (capE cap ρ) x) = some (.ok (cT t (capE cap ρ) ft x)) := fun x hx => by
          rcases List.mem_append.mp hx with hx | hx
          · exact ⟨(e6 x hx).1, (e6 x hx).2.1⟩
          · cases List.mem_singleton.mp hx
            exact ⟨e7, by rw [cTd]; exact e8⟩
        refine comp_runX (RR := fun acc C => cpX (model X.prog X.w) X.A X.xe X.env (EP X pins σ Q) acc C) (XE := fun C s₃ H₃ fp => XEof X scope N' c G2 H2 C s₃ H₃ fp) (g := gU X.K (pre ++ [d]) (fun x => x) (capE cap ρ) (cX t (capE cap ρ))) (tc := tU X.K (pre ++ [d]) (cX t (capE cap ρ)) (cT t (capE cap ρ) ft))
          (Q := fun _ _ => False) (te := eX X.K (pre ++ [d]) (cX t (capE cap ρ)) fe c H2 G2) hc B I2 T st2 f2 (fun C s₃ H₃ fp pins s σ H v u Q I r ⟨x, hx, q⟩ => ((hg C s₃ H₃ fp).run _ _ _ (hpd x hx).1).run pins s σ H v u Q I r q)
          (fun C s₃ H₃ fp pins s σ H Q I ⟨x, hx, q⟩ => ((ht C s₃ H₃ fp).run _ _ (hpd x hx).2).run pins s σ H Q I q) (fun C s₃ H₃ fp pins s σ H Q I ⟨x, r, G', hx, er, R', q'⟩ => ?_)
          (tcompX R2 (e5 ▸ wk) (.refl _) (fun x hx => weak_tg hf (hpd x hx).1) (e5 ▸ sz_le hz) (fun x hx hcx => (e6 x hx).2.2 hcx) cTd e9) (fun D s₃ H₃ e s' I3 hf3 hD hH hsz z => ?_) (fun D C s' H' m' _ _ _ _ _ z => z.elim)
        · refine (he C s₃ H₃ fp (XEof X scope N' c G2 H2 C s₃ H₃ fp)).run pins s σ H Q I ⟨_, r, H2, G2, G', er, R', ?_⟩
          cases r with
          | ok d => exact q'
          | ex c' =>
            cases q'
            exact fun pins s' σ H' G'' e I' R'' _ x => ⟨pins, σ, H', G'', I'.unwish, R''.grow, x⟩
        · exact x_goes hst hfr I3 hf3 R2 (q.mono g2.gg) z
    · cases e2
  · subst e2
    refine old _ ?_ rfl
    unfold compE
    rw [e1]; rfl⟩
end
end L2.L3
namespace L2.ST
open PySem PySem.W PyProof.Rows
section
variable {α β : Type} {lt : Nat → Nat → Bool} {n : Nat}
noncomputable def run (lt : Nat → Nat → Bool) : KasT α → α
  | .ret a => a
  | .ask i j k => run lt (k (lt i j))
noncomputable def asks (n : Nat) (lt : Nat → Nat → Bool) : KasT α → Prop
  | .ret _ => True
  | .ask i j k => i < n ∧ j < n ∧ asks n lt (k (lt i j))
noncomputable def Hq (n : Nat) (lt : Nat → Nat → Bool) (t : KasT α) (Q : α → Prop) : Prop := asks n lt t ∧ Q (run lt t)
theorem hq_ret {a : α} {Q : α → Prop} (h : Q a) : Hq n lt (.ret a) Q := ⟨trivial, h⟩
theorem hq_ask {i j : Nat} {k : Bool → KasT α} {Q : α → Prop} (hi : i < n) (hj : j < n) (h : Hq n lt (k (lt i j)) Q) : Hq n lt (.ask i j k) Q := ⟨⟨hi, hj, h.1⟩, h.2⟩
theorem hq_bind {f : α → KasT β} {Q : β → Prop} : ∀ {t : KasT α}, Hq n lt t (fun a => Hq n lt (f a) Q) → Hq n lt (t.bind f) Q
  | .ret _, h => h.2
  | .ask i j k, h => hq_ask h.1.1 h.1.2.1 (hq_bind (t := k (lt i j)) ⟨h.1.2.2, h.2⟩)
theorem hq_mono {t : KasT α} {Q Q' : α → Prop} (h : Hq n lt t Q) (hq : ∀ a, Q a → Q' a) : Hq n lt t Q' := ⟨h.1, hq _ h.2⟩
theorem wp_run {cmp : Nat → Nat → (Bool → Shared → Prop) → Shared → Prop} {s : Shared} (hc : ∀ i j C, i < n → j < n → C (lt i j) s → cmp i j C s) : ∀ (t : KasT α) {Q : α → Shared → Prop}, asks n lt t → Q (run lt t) s → t.kasWp cmp Q s
  | .ret _, _, _, h => h
  | .ask i j k, Q, a, h => hc i j _ a.1 a.2.1 (wp_run hc (k (lt i j)) a.2.2 h)
end
section
variable {r : Nat → Int} {n : Nat} {p : Array Nat}
noncomputable def vl (r : Nat → Int) (p : Array Nat) (k : Nat) : Int := r (p.getD k 0)
noncomputable def ltr (r : Nat → Int) (i j : Nat) : Bool := decide (r i < r j)
noncomputable def Up (r : Nat → Int) (p : Array Nat) (k : Nat) : Prop := ∀ i j, i ≤ j → j < k → vl r p i ≤ vl r p j
noncomputable def Down (r : Nat → Int) (p : Array Nat) (k : Nat) : Prop := ∀ i j, i ≤ j → j < k → vl r p j ≤ vl r p i
structure Pm (n : Nat) (p : Array Nat) : Prop where
  size : p.size = n
  perm : p.Perm (List.range n).toArray
theorem Pm.lt (h : Pm n p) (hn : 0 < n) (k : Nat) : p.getD k 0 < n := by
  by_cases hk : k < p.size
  · have e : p.getD k 0 = p[k] := by simp [Array.getD, hk]
    rw [e]
    have : p[k] ∈ (List.range n).toArray := h.perm.mem_iff.mp (Array.getElem_mem hk)
    simpa using this
  · have e : p.getD k 0 = 0 := by simp [Array.getD, hk]
    rw [e]; exact hn
theorem Pm.rev (h : Pm n p) (i j : Nat) : Pm n (kas_rev p i j) := ⟨by unfold kas_rev; rw [mirror_size]; exact h.size, (mirror_perm _ _ _ _).trans h.perm⟩
theorem Pm.bub (h : Pm n p) (i j : Nat) : Pm n (bubble p i j) := ⟨by rw [bubble_size]; exact h.size, (bubble_perm _ _ _).trans h.perm⟩
theorem getD_of {p q : Array Nat} {i j : Nat} (h : p[i]? = q[j]?) : p.getD i 0 = q.getD j 0 := by
  rw [Array.getD_eq_getD_getElem?, Array.getD_eq_getD_getElem?, h]
theorem vl_rev {i j : Nat} (hj : j ≤ p.size) (k : Nat) : vl r (kas_rev p i j) k = if i ≤ k ∧ k < j then vl r p (i + j - 1 - k) else vl r p k := by
  have e := getElem?_mirror_all (i := i) hj k
  unfold vl kas_rev
  by_cases h : i ≤ k ∧ k < j
  · rw [if_pos h] at e ⊢; rw [getD_of e]
  · rw [if_neg h] at e ⊢; rw [getD_of e]
theorem vl_bub {src d : Nat} (hs : src < p.size) (hd : d ≤ src) (k : Nat) : vl r (bubble p src d) k = if k = src - d then vl r p src else if src - d < k ∧ k ≤ src then vl r p (k - 1) else vl r p k := by
  have e := getElem?_bubble hs d hd k
  unfold vl
  by_cases h : k = src - d
  · rw [if_pos h] at e ⊢; rw [getD_of e]
  · rw [if_neg h] at e ⊢
    by_cases h2 : src - d < k ∧ k ≤ src
    · rw [if_pos h2] at e ⊢; rw [getD_of e]
    · rw [if_neg h2] at e ⊢; rw [getD_of e]
theorem Up.snoc {k : Nat} (h : Up r p k) (hk : 0 < k) (hl : vl r p (k - 1) ≤ vl r p k) : Up r p (k + 1) := fun i j hij hj => by
  by_cases e : j = k
  · subst e
    by_cases e2 : i = j
    · subst e2; exact Int.le_refl _
    · exact Int.le_trans (h i (j - 1) (by omega) (by omega)) hl
  · exact h i j hij (by omega)
theorem Down.snoc {k : Nat} (h : Down r p k) (hk : 0 < k) (hl : vl r p k ≤ vl r p (k - 1)) : Down r p (k + 1) := fun i j hij hj => by
  by_cases e : j = k
  · subst e
    by_cases e2 : i = j
    · subst e2; exact Int.le_refl _
    · exact Int.le_trans hl (h i (j - 1) (by omega) (by omega))
  · exact h i j hij (by omega)
theorem h_asc (P : Pm n p) (hn : 0 < n) : ∀ (f m : Nat), 0 < m → Up r p m → Hq n (ltr r) (kas_asc p f m) (fun k => m ≤ k ∧ k ≤ m + f ∧ Up r p k ∧ (k < m + f → vl r p k < vl r p (k - 1)))
  | 0, m, hm, h => hq_ret ⟨Nat.le_refl _, Nat.le_refl _, h, fun z => absurd z (by omega)⟩
  | f + 1, m, hm, h => by
    refine hq_ask (P.lt hn _) (P.lt hn _) ?_
    by_cases c : r (p.getD m 0) < r (p.getD (m - 1) 0)
    · rw [show ltr r (p.getD m 0) (p.getD (m - 1) 0) = true from decide_eq_true c, if_pos rfl]
      exact hq_ret ⟨Nat.le_refl _, by omega, h, fun _ => c⟩
    · rw [show ltr r (p.getD m 0) (p.getD (m - 1) 0) = false from decide_eq_false c, if_neg (by simp)]
      exact hq_mono (h_asc P hn f (m + 1) (by omega) (h.snoc hm (Int.not_lt.mp c))) fun k ⟨a, b, c, d⟩ => ⟨by omega, by omega, c, fun z => d (by omega)⟩
theorem vl_same {i j : Nat} (hj : j ≤ p.size) (he : ∀ k, i ≤ k → k < j → vl r p k = vl r p (j - 1)) (k : Nat) : vl r (kas_rev p i j) k = vl r p k := by
  rw [vl_rev hj]
  by_cases h : i ≤ k ∧ k < j
  · rw [if_pos h, he _ (by omega) (by omega), he k h.1 h.2]
  · rw [if_neg h]
theorem Down.cong {p' : Array Nat} {k : Nat} (e : ∀ k, vl r p' k = vl r p k) (h : Down r p k) : Down r p' k := fun i j a b => by rw [e, e]; exact h i j a b
theorem h_desc (hn : 0 < n) : ∀ (f : Nat) (p : Array Nat) (m q : Nat), Pm n p → q < m → m + f ≤ n → Down r p m → (∀ k, m - (q + 1) ≤ k → k < m → vl r p k = vl r p (m - 1)) →
    Hq n (ltr r) (kas_desc f p m q) (fun x => Pm n x.1 ∧ m ≤ x.2.1 ∧ x.2.1 ≤ m + f ∧ x.2.2 < x.2.1 ∧ Down r x.1 x.2.1 ∧ ∀ k, x.2.1 - (x.2.2 + 1) ≤ k → k < x.2.1 → vl r x.1 k = vl r x.1 (x.2.1 - 1))
  | 0, p, m, q, P, hq, hm, hd, he => hq_ret ⟨P, Nat.le_refl _, Nat.le_refl _, hq, hd, he⟩
  | f + 1, p, m, q, P, hq, hm, hd, he => by
    have one : ∀ p' : Array Nat, ∀ k, m + 1 - (0 + 1) ≤ k → k < m + 1 → vl r p' k = vl r p' (m + 1 - 1) := fun p' k a b => by rw [show k = m + 1 - 1 by omega]
    refine hq_ask (P.lt hn _) (P.lt hn _) ?_
    by_cases c : r (p.getD m 0) < r (p.getD (m - 1) 0)
    · rw [show ltr r (p.getD m 0) (p.getD (m - 1) 0) = true from decide_eq_true c, if_pos rfl]
      have hd' := hd.snoc (by omega) (Int.le_of_lt c)
      by_cases q0 : q > 0
      · rw [if_pos q0]
        have e := vl_same (i := m - (q + 1)) (j := m) (by rw [P.size]; omega) he
        exact hq_mono (h_desc hn f _ (m + 1) 0 (P.rev _ _) (by omega) (by omega) (hd'.cong e) (one _)) fun x ⟨a, b, c, d, e, g⟩ => ⟨a, by omega, by omega, d, e, g⟩
      · rw [if_neg q0]
        exact hq_mono (h_desc hn f _ (m + 1) 0 P (by omega) (by omega) hd' (one _)) fun x ⟨a, b, c, d, e, g⟩ => ⟨a, by omega, by omega, d, e, g⟩
    · rw [show ltr r (p.getD m 0) (p.getD (m - 1) 0) = false from decide_eq_false c, if_neg (by simp)]
      refine hq_ask (P.lt hn _) (P.lt hn _) ?_
      by_cases c2 : r (p.getD (m - 1) 0) < r (p.getD m 0)
      · rw [show ltr r (p.getD (m - 1) 0) (p.getD m 0) = true from decide_eq_true c2, if_pos rfl]
        exact hq_ret ⟨P, Nat.le_refl _, Nat.le_add_right _ _, hq, hd, he⟩
      · rw [show ltr r (p.getD (m - 1) 0) (p.getD m 0) = false from decide_eq_false c2, if_neg (by simp)]
        have eq : vl r p m = vl r p (m - 1) := by unfold vl; omega
        refine hq_mono (h_desc hn f p (m + 1) (q + 1) P (by omega) (by omega) (hd.snoc (by omega) (by omega)) fun k a b => ?_) fun x ⟨a, b, c, d, e, g⟩ => ⟨a, by omega, by omega, d, e, g⟩
        rw [show m + 1 - 1 = m by omega, eq]
        by_cases e2 : k = m
        · rw [e2, eq]
        · exact he k (by omega) (by omega)
theorem Down.rev {m : Nat} (P : Pm n p) (hm : m ≤ n) (h : Down r p m) : Up r (kas_rev p 0 m) m := fun i j hij hj => by
  rw [vl_rev (by rw [P.size]; omega), vl_rev (by rw [P.size]; omega), if_pos (by omega), if_pos (by omega)]
  exact h _ _ (by omega) (by omega)
noncomputable abbrev Goal (r : Nat → Int) (n : Nat) (x : Nat × Array Nat) : Prop := Pm n x.2 ∧ 0 < x.1 ∧ x.1 ≤ n ∧ Up r x.2 x.1
theorem h_tail (hn : 0 < n) {m : Nat} (P : Pm n p) (h0 : 0 < m) (hm : m ≤ n) (hd : Down r p m) : Hq n (ltr r) (kas_tail3 m n p) (Goal r n) := by
  unfold kas_tail3
  refine hq_bind (hq_mono (h_asc (P.rev 0 m) hn (n - m) m h0 (hd.rev P hm)) fun k ⟨a, b, c, d⟩ => hq_ret ⟨P.rev 0 m, by show 0 < k; omega, by show k ≤ n; omega, c⟩)
theorem h_descPart (hn : 0 < n) {m : Nat} (P : Pm n p) (hm : m + 1 ≤ n) (hd : Down r p (m + 1)) : Hq n (ltr r) (kas_descPart m n p) (Goal r n) := by
  unfold kas_descPart
  refine hq_bind (hq_mono (h_desc hn (n - (m + 1)) p (m + 1) 0 P (by omega) (by omega) hd (fun k a b => by rw [show k = m + 1 - 1 by omega])) fun x ⟨a, b, c, d, e, g⟩ => ?_)
  by_cases h : x.2.2 > 0
  · rw [if_pos h]
    exact h_tail hn (a.rev _ _) (by omega) (by omega) (e.cong (vl_same (by rw [a.size]; omega) g))
  · rw [if_neg h]
    exact h_tail hn a (by omega) (by omega) e
theorem h_count (hn : 0 < n) (P : Pm n p) : Hq n (ltr r) (kas_count n p) (Goal r n) := by
  unfold kas_count
  refine hq_bind (hq_mono (h_asc P hn (n - 1) 1 (by decide) (fun i j a b => by rw [show i = j by omega]; exact Int.le_refl _)) fun m ⟨a, b, c, d⟩ => ?_)
  by_cases h : (m == n) = true
  · rw [if_pos h]
    exact hq_ret ⟨P, by show 0 < m; omega, by show m ≤ n; omega, c⟩
  · rw [if_neg h]
    have hmn : m < n := by have : m ≠ n := fun z => h (by rw [z]; simp)
                           omega
    have dr := d (by omega)
    by_cases h1 : m > 1
    · rw [if_pos h1]
      refine hq_ask (P.lt hn _) (P.lt hn _) ?_
      by_cases c2 : r (p.getD 0 0) < r (p.getD (m - 1) 0)
      · rw [show ltr r (p.getD 0 0) (p.getD (m - 1) 0) = true from decide_eq_true c2, if_pos rfl]
        exact hq_ret ⟨P, by show 0 < m; omega, by show m ≤ n; omega, c⟩
      · rw [show ltr r (p.getD 0 0) (p.getD (m - 1) 0) = false from decide_eq_false c2, if_neg (by simp)]
        have eqs : ∀ k, k < m → vl r p k = vl r p (m - 1) := fun k hk => by
          have a1 := c 0 k (Nat.zero_le _) hk
          have a2 := c k (m - 1) (by omega) (by omega)
          have a3 : vl r p (m - 1) ≤ vl r p 0 := Int.not_lt.mp c2
          omega
        have e := vl_same (r := r) (i := 0) (j := m) (by rw [P.size]; omega) (fun k _ hk => eqs k hk)
        refine h_descPart hn (P.rev 0 m) (by omega) (Down.cong e ?_)
        refine Down.snoc (fun i j hij hj => ?_) (by omega) (Int.le_of_lt dr)
        rw [eqs i (by omega), eqs j hj]; exact Int.le_refl _
    · rw [if_neg h1]
      refine h_descPart hn P (by omega) (Down.snoc (fun i j hij hj => ?_) (by omega) (Int.le_of_lt dr))
      rw [show i = j by omega]; exact Int.le_refl _
theorem h_place (hn : 0 < n) (P : Pm n p) {k : Nat} (hu : Up r p k) : ∀ (f l u : Nat), l ≤ u → u ≤ k → u - l ≤ f → (∀ i, i < l → vl r p i ≤ vl r p k) → (∀ i, u ≤ i → i < k → vl r p k < vl r p i) →
    Hq n (ltr r) (kas_place p k f l u) (fun x => x ≤ k ∧ (∀ i, i < x → vl r p i ≤ vl r p k) ∧ ∀ i, x ≤ i → i < k → vl r p k < vl r p i)
  | 0, l, u, h1, h2, h3, a, b => hq_ret ⟨by omega, a, fun i hi hk => b i (by omega) hk⟩
  | f + 1, l, u, h1, h2, h3, a, b => by
    unfold kas_place
    by_cases h : l ≥ u
    · rw [if_pos h]; exact hq_ret ⟨by omega, a, fun i hi hk => b i (by omega) hk⟩
    · rw [if_neg h]
      refine hq_ask (P.lt hn _) (P.lt hn _) ?_
      by_cases c : r (p.getD k 0) < r (p.getD ((l + u) / 2) 0)
      · rw [show ltr r (p.getD k 0) (p.getD ((l + u) / 2) 0) = true from decide_eq_true c, if_pos rfl]
        refine h_place hn P hu f l ((l + u) / 2) (by omega) (by omega) (by omega) a fun i hi hk => ?_
        have c' : vl r p k < vl r p ((l + u) / 2) := c
        exact Int.lt_of_lt_of_le c' (hu _ _ hi hk)
      · rw [show ltr r (p.getD k 0) (p.getD ((l + u) / 2) 0) = false from decide_eq_false c, if_neg (by simp)]
        refine h_place hn P hu f ((l + u) / 2 + 1) u (by omega) (by omega) (by omega) (fun i hi => ?_) b
        have c' : vl r p ((l + u) / 2) ≤ vl r p k := Int.not_lt.mp c
        exact Int.le_trans (hu i ((l + u) / 2) (by omega) (by omega)) c'
theorem h_bin (hn : 0 < n) : ∀ (f : Nat) (p : Array Nat) (k : Nat), Pm n p → 0 < k → k + f = n → Up r p k → Hq n (ltr r) (kas_bin f p k) (fun q => Pm n q ∧ Up r q n)
  | 0, p, k, P, _, hk, hu => hq_ret ⟨P, by rw [show n = k by omega]; exact hu⟩
  | f + 1, p, k, P, h0, hk, hu => by
    unfold kas_bin
    refine hq_bind (hq_mono (h_place hn P hu k 0 k (Nat.zero_le _) (Nat.le_refl _) (by omega) (fun i hi => absurd hi (by omega)) (fun i hi hk => absurd hi (by omega))) fun l ⟨a, b, c⟩ => ?_)
    refine h_bin hn f _ (k + 1) (P.bub _ _) (by omega) (by omega) fun i j hij hj => ?_
    have hs : k < p.size := by rw [P.size]; omega
    have ei := vl_bub (r := r) hs (show k - l ≤ k by omega) i
    have ej := vl_bub (r := r) hs (show k - l ≤ k by omega) j
    rw [show k - (k - l) = l by omega] at ei ej
    rw [ei, ej]
    by_cases i1 : i = l
    · rw [if_pos i1]
      by_cases j1 : j = l
      · rw [if_pos j1]; exact Int.le_refl _
      · rw [if_neg j1, if_pos (by omega)]; exact Int.le_of_lt (c (j - 1) (by omega) (by omega))
    · rw [if_neg i1]
      by_cases i2 : l < i ∧ i ≤ k
      · rw [if_pos i2, if_neg (by omega), if_pos (by omega)]; exact hu _ _ (by omega) (by omega)
      · rw [if_neg i2]
        by_cases j1 : j = l
        · rw [if_pos j1]; exact b i (by omega)
        · rw [if_neg j1]
          by_cases j2 : l < j ∧ j ≤ k
          · rw [if_pos j2]; exact hu _ _ (by omega) (by omega)
          · rw [if_neg j2]; exact hu _ _ hij (by omega)
theorem h_sort (hn : 2 ≤ n) : Hq n (ltr r) (kas_sort n) (fun q => Pm n q ∧ Up r q n) := by
  unfold kas_sort
  refine hq_bind (hq_mono (h_count (by omega) ⟨by simp, Array.Perm.refl _⟩) fun x ⟨a, b, c, d⟩ => ?_)
  by_cases h : x.1 < n
  · rw [if_pos h, show max x.1 1 = x.1 by omega]
    exact h_bin (by omega) _ _ _ a b (by omega) d
  · rw [if_neg h]
    exact hq_ret ⟨a, by rw [show n = x.1 by omega]; exact d⟩
end
end L2.ST
namespace L2.L3
open PySem
noncomputable def ltC : PyData → PyData → Bool
  | .int a, .int b => decide (a < b)
  | .str a, .str b => !leStr b a
  | _, _ => false
noncomputable def eqC : PyData → PyData → Bool
  | .int a, .int b => a == b
  | .str a, .str b => a == b
  | _, _ => false
noncomputable def ltR : List PyData → List PyData → Bool
  | a :: r, b :: s => if eqC a b then ltR r s else ltC a b
  | _, _ => false
noncomputable def ofSig : List Bool → List PyData → Bool
  | [], [] => true
  | true :: g, .int _ :: r => ofSig g r
  | false :: g, .str _ :: r => ofSig g r
  | _, _ => false
theorem sig_nil {a : List PyData} (h : ofSig [] a = true) : a = [] := by
  cases a with
  | nil => rfl
  | cons x r => cases x <;> cases h
theorem sig_int {g : List Bool} {a : List PyData} (h : ofSig (true :: g) a = true) : ∃ i r, a = .int i :: r ∧ ofSig g r = true := by
  cases a with
  | nil => cases h
  | cons x r => cases x <;> first | exact ⟨_, _, rfl, h⟩ | cases h
theorem sig_str {g : List Bool} {a : List PyData} (h : ofSig (false :: g) a = true) : ∃ i r, a = .str i :: r ∧ ofSig g r = true := by
  cases a with
  | nil => cases h
  | cons x r => cases x <;> first | exact ⟨_, _, rfl, h⟩ | cases h
theorem leStr_refl (a : Str) : leStr a a = true := by have := leStr_total a a; rwa [Bool.or_self] at this
theorem ltR_irr : ∀ (g : List Bool) (a : List PyData), ofSig g a = true → ltR a a = false
  | [], a, h => by rw [sig_nil h]; rfl
  | true :: g, a, h => by
    obtain ⟨i, r, rfl, h⟩ := sig_int h
    simp [ltR, eqC, ltR_irr g r h]
  | false :: g, a, h => by
    obtain ⟨i, r, rfl, h⟩ := sig_str h
    simp [ltR, eqC, ltR_irr g r h]
theorem ltR_tri : ∀ (g : List Bool) (a b : List PyData), ofSig g a = true → ofSig g b = true → ltR a b = true ∨ a = b ∨ ltR b a = true
  | [], a, b, h, h' => by rw [sig_nil h, sig_nil h']; exact .inr (.inl rfl)
  | true :: g, a, b, h, h' => by
    obtain ⟨i, r, rfl, h⟩ := sig_int h
    obtain ⟨j, q, rfl, h'⟩ := sig_int h'
    by_cases e : i = j
    · subst e
      rcases ltR_tri g r q h h' with z | z | z
      · exact .inl (by simp [ltR, eqC, z])
      · exact .inr (.inl (by rw [z]))
      · exact .inr (.inr (by simp [ltR, eqC, z]))
    · by_cases l : i < j
      · exact .inl (by simp [ltR, eqC, e, ltC, l])
      · exact .inr (.inr (by have : ¬ j = i := fun z => e z.symm
                             simp [ltR, eqC, this, ltC]; omega))
  | false :: g, a, b, h, h' => by
    obtain ⟨i, r, rfl, h⟩ := sig_str h
    obtain ⟨j, q, rfl, h'⟩ := sig_str h'
    by_cases e : i = j
    · subst e
      rcases ltR_tri g r q h h' with z | z | z
      · exact .inl (by simp [ltR, eqC, z])
      · exact .inr (.inl (by rw [z]))
      · exact .inr (.inr (by simp [ltR, eqC, z]))
    · have e' : ¬ j = i := fun z => e z.symm
      cases l : leStr j i with
      | false => exact .inl (by simp [ltR, eqC, e, ltC, l])
      | true =>
        cases l2 : leStr i j with
        | false => exact .inr (.inr (by simp [ltR, eqC, e', ltC, l2]))
        | true => exact absurd (leStr_anti l2 l) e
theorem ltR_tr : ∀ (g : List Bool) (a b c : List PyData), ofSig g a = true → ofSig g b = true → ofSig g c = true → ltR a b = true → ltR b c = true → ltR a c = true
  | [], a, b, c, h, _, _, z, _ => by rw [sig_nil h] at z; cases z
  | true :: g, a, b, c, h, h', h'', z, z' => by
    obtain ⟨i, r, rfl, h⟩ := sig_int h
    obtain ⟨j, q, rfl, h'⟩ := sig_int h'
    obtain ⟨k, u, rfl, h''⟩ := sig_int h''
    simp only [ltR, eqC, ltC, beq_iff_eq] at z z' ⊢
    by_cases e : i = j
    · subst e
      rw [if_pos rfl] at z
      by_cases e2 : i = k
      · subst e2; rw [if_pos rfl] at z' ⊢; exact ltR_tr g r q u h h' h'' z z'
      · rw [if_neg e2] at z' ⊢; exact z'
    · rw [if_neg e] at z
      by_cases e2 : j = k
      · subst e2; rw [if_neg e]; exact z
      · rw [if_neg e2] at z'
        rw [decide_eq_true_eq] at z z'
        rw [if_neg (by omega)]; exact decide_eq_true (by omega)
  | false :: g, a, b, c, h, h', h'', z, z' => by
    obtain ⟨i, r, rfl, h⟩ := sig_str h
    obtain ⟨j, q, rfl, h'⟩ := sig_str h'
    obtain ⟨k, u, rfl, h''⟩ := sig_str h''
    simp only [ltR, eqC, ltC, beq_iff_eq] at z z' ⊢
    by_cases e : i = j
    · subst e
      rw [if_pos rfl] at z
      by_cases e2 : i = k
      · subst e2; rw [if_pos rfl] at z' ⊢; exact ltR_tr g r q u h h' h'' z z'
      · rw [if_neg e2] at z' ⊢; exact z'
    · rw [if_neg e] at z
      by_cases e2 : j = k
      · subst e2; rw [if_neg e]; exact z
      · rw [if_neg e2] at z'
        have z1 : leStr j i = false := by simpa using z
        have z2 : leStr k j = false := by simpa using z'
        have y1 : leStr i j = true := by have := leStr_total i j; rw [z1, Bool.or_false] at this; exact this
        have y2 : leStr j k = true := by have := leStr_total j k; rw [z2, Bool.or_false] at this; exact this
        have z3 : leStr k i = false := by
          cases q3 : leStr k i with
          | false => rfl
          | true => rw [leStr_trans q3 y1] at z2; cases z2
        have e3 : ¬ i = k := fun w => by subst w; rw [leStr_refl] at z3; cases z3
        rw [if_neg e3, z3]; rfl
noncomputable def ltT : PyData → PyData → Bool
  | .tuple a, .tuple b => ltR a b
  | _, _ => false
noncomputable def isSig (g : List Bool) : PyData → Bool
  | .tuple a => ofSig g a
  | _ => false
theorem sig_tup {g : List Bool} {d : PyData} (h : isSig g d = true) : ∃ a, d = .tuple a ∧ ofSig g a = true := by
  cases d <;> first | exact ⟨_, rfl, h⟩ | cases h
section
variable {g : List Bool} {a b c : PyData}
theorem ltT_irr (h : isSig g a = true) : ltT a a = false := by obtain ⟨x, rfl, h⟩ := sig_tup h; exact ltR_irr g x h
theorem ltT_tri (h : isSig g a = true) (h' : isSig g b = true) : ltT a b = true ∨ a = b ∨ ltT b a = true := by
  obtain ⟨x, rfl, h⟩ := sig_tup h
  obtain ⟨y, rfl, h'⟩ := sig_tup h'
  exact (ltR_tri g x y h h').imp id (Or.imp (fun e => by rw [e]) id)
theorem ltT_tr (h : isSig g a = true) (h' : isSig g b = true) (h'' : isSig g c = true) (z : ltT a b = true) (z' : ltT b c = true) : ltT a c = true := by
  obtain ⟨x, rfl, h⟩ := sig_tup h
  obtain ⟨y, rfl, h'⟩ := sig_tup h'
  obtain ⟨u, rfl, h''⟩ := sig_tup h''
  exact ltR_tr g x y u h h' h'' z z'
theorem ltT_le (h : isSig g a = true) (h' : isSig g b = true) (h'' : isSig g c = true) (z : ltT b a = false) (z' : ltT c b = false) : ltT c a = false := by
  cases e : ltT c a with
  | false => rfl
  | true =>
    rcases ltT_tri h h' with q | q | q
    · rw [ltT_tr h'' h h' e q] at z'; cases z'
    · subst q; rw [e] at z'; cases z'
    · rw [q] at z; cases z
end
noncomputable def insT (x : PyData) : List PyData → List PyData
  | [] => [x]
  | y :: l => if ltT y x then y :: insT x l else x :: y :: l
noncomputable def srtR (l : List PyData) : List PyData := l.foldr insT []
theorem insT_perm (x : PyData) : ∀ l : List PyData, (insT x l).Perm (x :: l)
  | [] => .refl _
  | y :: l => by
    unfold insT
    split
    · exact ((insT_perm x l).cons y).trans (.swap x y l)
    · exact .refl _
theorem srtR_perm : ∀ l : List PyData, (srtR l).Perm l
  | [] => .refl _
  | x :: l => (insT_perm x _).trans ((srtR_perm l).cons x)
noncomputable abbrev SrtD (l : List PyData) : Prop := l.Pairwise fun a b => ltT b a = false
theorem insT_sorted {g : List Bool} {x : PyData} (hx : isSig g x = true) : ∀ l : List PyData, (∀ d ∈ l, isSig g d = true) → SrtD l → SrtD (insT x l)
  | [], _, _ => by simp [insT]
  | y :: l, h, hp => by
    have hp' := List.pairwise_cons.mp hp
    have hy := h y (by simp)
    unfold insT
    by_cases e : ltT y x = true
    · rw [if_pos e, SrtD, List.pairwise_cons]
      refine ⟨fun z hz => ?_, insT_sorted hx l (fun d hd => h d (List.mem_cons_of_mem _ hd)) hp'.2⟩
      rcases List.mem_cons.mp ((insT_perm x l).mem_iff.mp hz) with rfl | hz
      · cases q : ltT z y with
        | false => rfl
        | true => have := ltT_tr hx hy hx q e; rw [ltT_irr hx] at this; cases this
      · exact hp'.1 z hz
    · rw [if_neg e, SrtD, List.pairwise_cons]
      have e' : ltT y x = false := by simpa using e
      refine ⟨fun z hz => ?_, hp⟩
      rcases List.mem_cons.mp hz with rfl | hz
      · exact e'
      · exact ltT_le hx hy (h z (List.mem_cons_of_mem _ hz)) e' (hp'.1 z hz)
theorem srtR_sorted {g : List Bool} : ∀ l : List PyData, (∀ d ∈ l, isSig g d = true) → SrtD (srtR l)
  | [], _ => .nil
  | x :: l, h => insT_sorted (h x (by simp)) _ (fun d hd => h d (List.mem_cons_of_mem _ ((srtR_perm l).mem_iff.mp hd))) (srtR_sorted l fun d hd => h d (List.mem_cons_of_mem _ hd))
theorem srt_same {g : List Bool} : ∀ (l m : List PyData), l.Perm m → (∀ d ∈ l, isSig g d = true) → SrtD l → SrtD m → l = m
  | [], m, hp, _, _, _ => by rw [List.nil_perm.mp hp]
  | x :: l, [], hp, _, _, _ => by have := hp.length_eq; simp at this
  | x :: l, y :: m, hp, h, h1, h2 => by
    have q1 := List.pairwise_cons.mp h1
    have q2 := List.pairwise_cons.mp h2
    have hy : y ∈ x :: l := hp.mem_iff.mpr (by simp)
    have hx : x ∈ y :: m := hp.mem_iff.mp (by simp)
    have e : x = y := by
      rcases List.mem_cons.mp hy with z | z
      · exact z.symm
      · rcases List.mem_cons.mp hx with w | w
        · exact w
        · rcases ltT_tri (h x (by simp)) (h y hy) with u | u | u
          · rw [q2.1 x w] at u; cases u
          · exact u
          · rw [q1.1 y z] at u; cases u
    subst e
    rw [srt_same l m (List.Perm.cons_inv hp) (fun d hd => h d (List.mem_cons_of_mem _ hd)) q1.2 q2.2]
theorem srtR_eq {g : List Bool} {l m : List PyData} (hp : l.Perm m) (h : ∀ d ∈ m, isSig g d = true) (hs : SrtD l) : l = srtR m :=
  srt_same (g := g) l (srtR m) (hp.trans (srtR_perm m).symm) (fun d hd => h d (hp.mem_iff.mp hd)) hs (srtR_sorted m h)
noncomputable def rk (ds : List PyData) (i : Nat) : Int := ((ds.filter fun x => ltT x (ds.getD i .none)).length : Nat)
theorem filt_le {α : Type} {p q : α → Bool} : ∀ l : List α, (∀ x ∈ l, p x = true → q x = true) → (l.filter p).length ≤ (l.filter q).length
  | [], _ => by simp
  | x :: l, h => by
    have ih := filt_le l fun y hy => h y (List.mem_cons_of_mem _ hy)
    cases e : p x with
    | false =>
      rw [List.filter_cons_of_neg (by simp [e])]
      cases e2 : q x with
      | false => rw [List.filter_cons_of_neg (by simp [e2])]; exact ih
      | true => rw [List.filter_cons_of_pos e2, List.length_cons]; omega
    | true => rw [List.filter_cons_of_pos e, List.filter_cons_of_pos (h x (by simp) e), List.length_cons, List.length_cons]; omega
theorem filt_lt {α : Type} {p q : α → Bool} : ∀ l : List α, (∀ x ∈ l, p x = true → q x = true) → (∃ x ∈ l, p x = false ∧ q x = true) → (l.filter p).length < (l.filter q).length
  | [], _, ⟨x, hx, _⟩ => by cases hx
  | x :: l, h, ⟨y, hy, h1, h2⟩ => by
    have ih := filt_le l fun y hy => h y (List.mem_cons_of_mem _ hy)
    rcases List.mem_cons.mp hy with rfl | hy
    · rw [List.filter_cons_of_neg (by simp [h1]), List.filter_cons_of_pos h2, List.length_cons]; omega
    · have ih2 := filt_lt l (fun y hy => h y (List.mem_cons_of_mem _ hy)) ⟨y, hy, h1, h2⟩
      cases e : p x with
      | false =>
        rw [List.filter_cons_of_neg (by simp [e])]
        cases e2 : q x with
        | false => rw [List.filter_cons_of_neg (by simp [e2])]; exact ih2
        | true => rw [List.filter_cons_of_pos e2, List.length_cons]; omega
      | true => rw [List.filter_cons_of_pos e, List.filter_cons_of_pos (h x (by simp) e), List.length_cons, List.length_cons]; omega
theorem rk_lt {g : List Bool} {ds : List PyData} (h : ∀ d ∈ ds, isSig g d = true) {i j : Nat} (hi : i < ds.length) (hj : j < ds.length) : ltT (ds.getD i .none) (ds.getD j .none) = ST.ltr (rk ds) i j := by
  have mi : ds.getD i .none ∈ ds := by rw [List.getD_eq_getElem?_getD, List.getElem?_eq_getElem hi]; exact List.getElem_mem hi
  have mj : ds.getD j .none ∈ ds := by rw [List.getD_eq_getElem?_getD, List.getElem?_eq_getElem hj]; exact List.getElem_mem hj
  unfold ST.ltr rk
  generalize ds.getD i PyData.none = a at *
  generalize ds.getD j PyData.none = b at *
  have ha := h a mi
  have hb := h b mj
  cases e : ltT a b with
  | true =>
    refine (decide_eq_true ?_).symm
    have := filt_lt (p := fun x => ltT x a) (q := fun x => ltT x b) ds (fun x hx z => ltT_tr (h x hx) ha hb z e) ⟨a, mi, ltT_irr ha, e⟩
    omega
  | false =>
    refine (decide_eq_false ?_).symm
    have := filt_le (p := fun x => ltT x b) (q := fun x => ltT x a) ds (fun x hx z => by
      rcases ltT_tri ha hb with q | q | q
      · rw [e] at q; cases q
      · subst q; exact z
      · exact ltT_tr (h x hx) hb ha z q)
    omega
theorem order_data {g : List Bool} {ds : List PyData} (h : ∀ d ∈ ds, isSig g d = true) {p : Array Nat} (P : ST.Pm ds.length p) (U : ST.Up (rk ds) p ds.length) : (p.toList.map fun i => ds.getD i .none) = srtR ds := by
  have hl : p.toList.length = ds.length := by rw [Array.length_toList]; exact P.size
  have hr : (List.range ds.length).map (fun i => ds.getD i .none) = ds := by
    refine List.ext_getElem (by simp) fun i h1 h2 => ?_
    simp [List.getD_eq_getElem?_getD, h2]
  have hp : (p.toList.map fun i => ds.getD i .none).Perm ds := by
    have := (Array.perm_iff_toList_perm.mp P.perm).map fun i => ds.getD i PyData.none
    simp only [List.toList_toArray] at this
    rw [hr] at this
    exact this
  refine srtR_eq hp h ?_
  unfold SrtD
  rw [List.pairwise_map, List.pairwise_iff_getElem]
  intro i j hi hj hij
  have hi' : i < p.size := by simpa using hi
  have hj' : j < p.size := by simpa using hj
  have u := U i j (Nat.le_of_lt hij) (by rw [P.size] at hj'; exact hj')
  unfold ST.vl at u
  have ei : p.toList[i] = p.getD i 0 := by simp [Array.getD, hi']
  have ej : p.toList[j] = p.getD j 0 := by simp [Array.getD, hj']
  rw [ei, ej]
  by_cases hn : 0 < ds.length
  · rw [rk_lt h (P.lt hn j) (P.lt hn i)]
    exact decide_eq_false (by omega)
  · rw [P.size] at hi'; omega
end L2.L3
namespace L2.L3
open PySem PySem.W PyProof.Rows PySem.Calls
section
variable {prog : Program} {w : World} {A : Around} {E : Value → Shared → Prop} {s : Shared}
theorem one_int {Q : Bool → Shared → Prop} (b : Bool) (m n : Int) (t u : Tok) (h : Q (decide (m < n)) s) : wpAny (model prog w) A (oneLt' b (.int m t) (.int n u)) Q E s := by
  cases b with
  | true => exact oneLt_int h
  | false => exact kat_one _ _ (lt_int h)
theorem one_str {Q : Bool → Shared → Prop} (b : Bool) (m n : Str) (t u : Tok) (h : Q (decide (m.cps.toList < n.cps.toList)) s) : wpAny (model prog w) A (oneLt' b (.str m t) (.str n u)) Q E s := by
  cases b with
  | true => exact oneLt_str h
  | false => exact kat_one _ _ (lt_str h)
theorem cells_lt {Q : Bool → Shared → Prop} : ∀ (g : List Bool) (xs ys : List Value) (ds es : List PyData) (as bs : List Addr) (i : Nat), ReadsAll s.heap xs ds as → ReadsAll s.heap ys es bs → ofSig g ds = true → ofSig g es = true → Q (ltR ds es) s →
    KatLex prog w A true false Q (xs.zip ys) i s
  | [], xs, ys, ds, es, as, bs, i, r, r', h, h', q => by
    have e1 := sig_nil h
    have e2 := sig_nil h'
    subst e1; subst e2
    cases r; cases r'
    exact kat_nil q
  | true :: g, xs, ys, ds, es, as, bs, i, r, r', h, h', q => by
    obtain ⟨m, r1, rfl, h⟩ := sig_int h
    obtain ⟨n, r2, rfl, h'⟩ := sig_int h'
    cases r with | cons v rr =>
    cases r' with | cons v' rr' =>
    cases v; cases v'
    refine kat_cons (SeqAt.EqAt.int_int _ _ _ _ _ _ _ _ ?_)
    by_cases e : m = n
    · subst e
      rw [beq_self_eq_true]
      refine kat_yes (cells_lt g _ _ _ _ _ _ _ rr rr' h h' ?_)
      simpa [ltR, eqC] using q
    · rw [beq_eq_false_iff_ne.mpr e]
      refine kat_no (one_int _ _ _ _ _ ?_)
      simpa [ltR, eqC, e, ltC] using q
  | false :: g, xs, ys, ds, es, as, bs, i, r, r', h, h', q => by
    obtain ⟨m, r1, rfl, h⟩ := sig_str h
    obtain ⟨n, r2, rfl, h'⟩ := sig_str h'
    cases r with | cons v rr =>
    cases r' with | cons v' rr' =>
    cases v; cases v'
    refine kat_cons (SeqAt.EqAt.str_str _ _ _ _ _ _ _ _ ?_)
    by_cases e : m = n
    · subst e
      rw [beq_self_eq_true]
      refine kat_yes (cells_lt g _ _ _ _ _ _ _ rr rr' h h' ?_)
      simpa [ltR, eqC] using q
    · rw [beq_eq_false_iff_ne.mpr e]
      refine kat_no (one_str _ _ _ _ _ ?_)
      have : ltR (.str m :: r1) (.str n :: r2) = decide (m.cps.toList < n.cps.toList) := by
        simp [ltR, eqC, e, ltC, leStr]
      rw [← this]; exact q
theorem row_lt {Q : Bool → Shared → Prop} {g : List Bool} {v u : Value} {d e : PyData} {as bs : List Addr} (r : Reads s.heap v d as) (r' : Reads s.heap u e bs) (h : isSig g d = true) (h' : isSig g e = true) (q : Q (ltT d e) s) :
    wpAny (model prog w) A (keyLt' (tuples' true) v u) Q E s := by
  obtain ⟨x, rfl, h⟩ := sig_tup h
  obtain ⟨y, rfl, h'⟩ := sig_tup h'
  cases r with
  | tuple hg hc hd rr =>
    cases r' with
    | tuple hg' hc' hd' rr' =>
      refine kat_lt hg hd hg' hd' ?_
      have sz : ∀ (g : List Bool) (x y : List PyData), ofSig g x = true → ofSig g y = true → x.length = y.length := by
        intro g
        induction g with
        | nil => intro x y h h'; rw [sig_nil h, sig_nil h']
        | cons b g ih =>
          intro x y h h'
          cases b with
          | true => obtain ⟨_, _, rfl, h⟩ := sig_int h; obtain ⟨_, _, rfl, h'⟩ := sig_int h'; simp [ih _ _ h h']
          | false => obtain ⟨_, _, rfl, h⟩ := sig_str h; obtain ⟨_, _, rfl, h'⟩ := sig_str h'; simp [ih _ _ h h']
      have ln : ∀ {vs : List Value} {ds : List PyData} {as : List Addr}, ReadsAll s.heap vs ds as → vs.length = ds.length := by
        intro vs
        induction vs with
        | nil => intro ds as r; cases r; rfl
        | cons v vs ih => intro ds as r; cases r with | cons _ r => simp [ih r]
      have e1 := ln rr
      have e2 := ln rr'
      have e3 := sz _ _ _ h h'
      rw [decide_eq_false (by rw [← Array.length_toList, ← Array.length_toList]; omega)]
      exact cells_lt g _ _ _ _ _ _ 0 rr rr' h h' q
inductive Rows (h : Heap) : List Value → List PyData → Prop
  | nil : Rows h [] []
  | cons {v : Value} {vs : List Value} {d : PyData} {ds : List PyData} {as : List Addr} : Reads h v d as → Rows h vs ds → Rows h (v :: vs) (d :: ds)
theorem Rows.len {h : Heap} {vs : List Value} {ds : List PyData} (r : Rows h vs ds) : vs.length = ds.length := by
  induction r with
  | nil => rfl
  | cons _ _ ih => simp [ih]
theorem Rows.keeps {h h' : Heap} (k : ∀ b o, h.get? b = some o → h'.get? b = some o) {vs : List Value} {ds : List PyData} (r : Rows h vs ds) : Rows h' vs ds := by
  induction r with
  | nil => exact .nil
  | cons r _ ih => exact .cons (Reads.keeps k r) ih
theorem Rows.at {h : Heap} {vs : List Value} {ds : List PyData} (r : Rows h vs ds) : ∀ i, i < vs.length → ∃ as, Reads h (vs.getD i .none) (ds.getD i .none) as := by
  induction r with
  | nil => intro i hi; simp at hi
  | cons r _ ih =>
    intro i hi
    cases i with
    | zero => exact ⟨_, r⟩
    | succ i => exact ih i (by simpa using hi)
theorem Rows.firsts {h : Heap} {g : List Bool} {k : Bool} {vs : List Value} {ds : List PyData} (r : Rows h vs ds) (hs : ∀ d ∈ ds, isSig (k :: g) d = true) :
    ∃ fs : List Value, KatTups h vs fs ∧ fs.length = vs.length ∧ ∀ v ∈ fs, (k = true ∧ ∃ i t, v = .int i t) ∨ (k = false ∧ ∃ i t, v = .str i t) := by
  induction r with
  | nil => exact ⟨[], .nil, rfl, fun v hv => by cases hv⟩
  | @cons v vs d ds as r _ ih =>
    obtain ⟨fs, t, l, a⟩ := ih fun d hd => hs d (List.mem_cons_of_mem _ hd)
    obtain ⟨x, rfl, hx⟩ := sig_tup (hs d (by simp))
    cases r with
    | tuple hg hc hd rr =>
      cases k with
      | true =>
        obtain ⟨i, y, rfl, hy⟩ := sig_int hx
        generalize hv : Array.toList _ = vl at rr
        cases rr with | cons z rr =>
        cases z with | int _ tk =>
        refine ⟨.int i tk :: fs, KatTups.cons hg hc hd (by rw [← Array.getElem?_toList, hv]; rfl) t, by simp [l], fun v hv => ?_⟩
        · rcases List.mem_cons.mp hv with rfl | hv
          · exact .inl ⟨rfl, _, _, rfl⟩
          · exact a v hv
      | false =>
        obtain ⟨i, y, rfl, hy⟩ := sig_str hx
        generalize hv : Array.toList _ = vl at rr
        cases rr with | cons z rr =>
        cases z with | str _ tk =>
        refine ⟨.str i tk :: fs, KatTups.cons hg hc hd (by rw [← Array.getElem?_toList, hv]; rfl) t, by simp [l], fun v hv => ?_⟩
        · rcases List.mem_cons.mp hv with rfl | hv
          · exact .inr ⟨rfl, _, _, rfl⟩
          · exact a v hv
theorem rows_kind {g : List Bool} {k : Bool} {vs : List Value} {ds : List PyData} (r : Rows s.heap vs ds) (hs : ∀ d ∈ ds, isSig (k :: g) d = true) (hne : 0 < vs.length) {Q : SortKind → Shared → Prop} (h : Q (tuples' true) s) :
    wpAny (model prog w) A (keyKind' vs.toArray) Q E s := by
  obtain ⟨fs, t, l, a⟩ := r.firsts hs
  cases k with
  | true =>
    refine kat_kind (T := .type "int") t (by omega) (fun v hv => ?_) (by decide) h
    rcases a v hv with ⟨_, i, t, rfl⟩ | ⟨z, _⟩
    · exact Looks.of_pure rfl
    · cases z
  | false =>
    refine kat_kind (T := .type "str") t (by omega) (fun v hv => ?_) (by decide) h
    rcases a v hv with ⟨z, _⟩ | ⟨_, i, t, rfl⟩
    · cases z
    · exact Looks.of_pure rfl
theorem list_sort_rows {a : Addr} {vs : List Value} {ds : List PyData} {g : List Bool} {k : Bool} {n : Nat} {h0 : Heap} {P : Fin → Shared → Prop} (ho : s.heap.get? a = some (seqObj "list" vs.toArray n))
    (rd : Rows h0 vs ds) (hk : ∀ b o, h0.get? b = some o → b ≠ a ∧ s.heap.get? b = some o) (hs : ∀ d ∈ ds, isSig (k :: g) d = true) (h64 : vs.length < 64)
    (h : ∀ p : Array Nat, ST.Pm ds.length p → (p.toList.map fun i => ds.getD i .none) = srtR ds → P (.done (.ret .none)) { s with heap := sortedHeap s.heap a vs (p.toList.map fun i => vs.getD i .none).toArray }) :
    wpAny (model prog w) A (Builtin.«list.sort» ⟨[.ref a], []⟩) P E s := by
  have ln := rd.len
  rw [list_sort_plain]
  have ha : a < s.heap.objs.size := Heap.lt_size ho
  refine wpAny_bind (listItems_at ho rfl ?_)
  refine wpAny_bind (listUpdate_at ho rfl ?_)
  obtain ⟨e1, ho1⟩ : ∃ e1, (s.heap.update a (Obj.mapSeq fun _ => #[])).get? a = some (seqObj "list" #[] e1) := ⟨_, get?_update_seq ho (fun _ => #[])⟩
  refine wpAny_bind (seqEpoch_at ho1 rfl ?_)
  refine wpAny_bind (wpAny_newTuple ?_)
  refine wpAny_bind (wpAny_newList ?_)
  refine wpAny_holding ?_
  have ho6 : (((s.heap.update a (Obj.mapSeq fun _ => #[])).push (seqObj "tuple" vs.toArray 0)).push (seqObj "list" #[] 0)).get? a = some (seqObj "list" #[] e1) := by
    rw [Heap.get?_push_ne _ _ _ (by rw [size_push', Heap.size_update]; exact Nat.ne_of_lt (Nat.lt_succ_of_lt ha)), Heap.get?_push_ne _ _ _ (by rw [Heap.size_update]; exact Nat.ne_of_lt ha)]
    exact ho1
  have rd6 : Rows (((s.heap.update a (Obj.mapSeq fun _ => #[])).push (seqObj "tuple" vs.toArray 0)).push (seqObj "list" #[] 0)) vs ds := rd.keeps fun b o q => by
    obtain ⟨h1, h2⟩ := hk b o q
    refine Heap.get?_push_of_some _ (Heap.get?_push_of_some _ ?_)
    rw [Heap.get?_update_ne _ _ _ _ h1]; exact h2
  show wpAny (model prog w) A _ P E { s with heap := ((s.heap.update a (Obj.mapSeq fun _ => #[])).push (seqObj "tuple" vs.toArray 0)).push (seqObj "list" #[] 0) }
  dsimp only
  have hsz : vs.toArray.size = vs.length := by simp
  by_cases h2 : vs.toArray.size < 2
  · rw [if_pos h2, if_pos h2]
    refine wpAny_bind (wpAny_pure ?_)
    rw [StateT.run_pure]
    refine wpAny_bind (wpAny_pure ?_)
    dsimp only
    refine wpAny_bind (seqEpoch_at ho6 rfl ?_)
    refine wpAny_bind (listUpdate_at ho6 rfl ?_ (hsz2 := by rw [Array.size_map]; show (pairsOf vs).size ≤ _; rw [pairsOf_size, sizeLine_eq]; omega))
    simp only [bne_self_eq_false, Bool.false_eq_true, if_false]
    refine wpAny_pure ?_
    have hpm : ST.Pm ds.length (List.range vs.length).toArray := by rw [ln]; exact ⟨by simp, Array.Perm.refl _⟩
    have hp := h (List.range vs.length).toArray hpm (order_data hs hpm (fun i j hij hj => by rw [show i = j by omega]; exact Int.le_refl _))
    have e : (List.range vs.length).map (fun i => vs.getD i Value.none) = vs := by
      refine List.ext_getElem (by simp) fun i h1 h2 => ?_
      simp [List.getD_eq_getElem?_getD, h2]
    have e2 : ((vs.toArray.zip vs.toArray).map (·.2)) = vs.toArray := by
      apply Array.toList_inj.mp
      simp [Array.toList_zip, List.map_snd_zip]
    simp only [List.toList_toArray, e] at hp
    rw [← e2] at hp
    exact hp
  · rw [if_neg h2, if_neg h2]
    refine wpAny_bind (rows_kind (s := { s with heap := _ }) rd6 hs (by omega) ?_)
    have hq := ST.h_sort (r := rk ds) (n := vs.length) (by omega)
    refine wpAny_bind (wpAny_mono (kat_run (κ := tuples' true) (ks := vs) (vs := vs) (s := { s with heap := _ }) (G := fun p s' => s' = { s with heap := ((s.heap.update a (Obj.mapSeq fun _ => #[])).push (seqObj "tuple" vs.toArray 0)).push (seqObj "list" #[] 0) } ∧ ST.Pm vs.length p ∧ ST.Up (rk ds) p vs.length)
      (Q := fun st' s' => ∃ p : Array Nat, arrOf st' = p.map (kas_item (vs.toArray.zip vs.toArray)) ∧ failedOf st' = none ∧ s' = { s with heap := ((s.heap.update a (Obj.mapSeq fun _ => #[])).push (seqObj "tuple" vs.toArray 0)).push (seqObj "list" #[] 0) } ∧ ST.Pm vs.length p ∧ ST.Up (rk ds) p vs.length)
      rfl (by omega) h64 (fun p' st' s' a1 a2 a3 a4 => ⟨p', a2, a3, a4⟩)
      (ST.wp_run (n := vs.length) (lt := ST.ltr (rk ds)) (fun i j C hi hj hC => ?_) _ hq.1 ⟨rfl, hq.2⟩)) ?_ fun _ _ e => e)
    · obtain ⟨as, ri⟩ := rd6.at i hi
      obtain ⟨bs, rj⟩ := rd6.at j hj
      have mi : ds.getD i .none ∈ ds := by rw [List.getD_eq_getElem?_getD, List.getElem?_eq_getElem (by omega)]; exact List.getElem_mem (by omega)
      have mj : ds.getD j .none ∈ ds := by rw [List.getD_eq_getElem?_getD, List.getElem?_eq_getElem (by omega)]; exact List.getElem_mem (by omega)
      refine row_lt ri rj (hs _ mi) (hs _ mj) ?_
      rw [rk_lt hs (by omega) (by omega)]
      exact hC
    · rintro ⟨⟨⟩, st'⟩ s' ⟨p, har, hf, rfl, hP, hU⟩
      dsimp only
      have hout := kat_snds rfl har
      refine wpAny_bind (seqEpoch_at ho6 rfl ?_)
      rw [hout]
      refine wpAny_bind (listUpdate_at ho6 rfl ?_ (hsz2 := by rw [List.size_toArray, List.length_map, Array.length_toList, hP.size, sizeLine_eq]; omega))
      rw [hf]
      simp only [bne_self_eq_false, Bool.false_eq_true, if_false]
      rw [ln] at hP hU
      exact wpAny_pure (h p hP (order_data hs hP hU))
theorem collect_parts {l : Addr} {T : String} {o : Obj} {vs : List Value} {n : Nat} {Q : List Value → Shared → Prop} (hT : T = "list" ∨ T = "tuple") (ho : s.heap.get? l = some o) (hc : o.cls = .type T) (hd : o.data = .seq vs.toArray n) (few : vs.length ≤ sizeLine)
    (hQ : ∀ h', (∀ b o, s.heap.get? b = some o → h'.get? b = some o) → s.heap.objs.size ≤ h'.objs.size → Q vs { s with heap := h' }) : wpAny (model prog w) A (collect (.ref l)) Q E s := by
  unfold collect
  refine wpAny_bind (wpAny_runValue (codeAny_builtin F.entry_proto_collect ?_))
  rw [Around.under_plainId F.plain_proto_collect _]
  show wpAny _ A.in1 (newList [] >>= fun l' => again (.builtin "list.__iadd__" ⟨[l', .ref l], []⟩)) _ _ s
  refine wpAny_bind (wpAny_newObj_type ?_)
  refine wpAny_pure ⟨plainId_quiet F.plain_list_iadd _, codeAny_builtin F.entry_list_iadd ?_⟩
  rw [Around.under_plainId F.plain_list_iadd _]
  have hS1 : (s.heap.push { cls := .type "list", data := .seq ([] : List Value).toArray }).get? s.heap.objs.size = some { cls := .type "list", data := .seq ([] : List Value).toArray } := Heap.get?_push_size _ rfl
  have ty1 : Shared.TypeIs { s with heap := s.heap.push { cls := .type "list", data := .seq ([] : List Value).toArray } } (.ref l) T := ⟨o, Heap.get?_push_of_some _ ho, hc⟩
  show wpAny _ A.in1 (Builtin.List.listExtendWith (.ref s.heap.objs.size) (.ref l) (.ref s.heap.objs.size)) _ _ _
  unfold Builtin.List.listExtendWith
  refine wpAny_bind (wpAny_typeOf ty1 ?_)
  rw [if_pos (by rcases hT with rfl | rfl <;> simp)]
  refine wpAny_bind (listItems_at (Heap.get?_push_of_some _ ho) hd ?_)
  refine wpAny_bind (listItems_at hS1 rfl ?_)
  rw [if_neg (by simp)]
  refine wpAny_bind (listUpdate_at hS1 rfl ?_ (Nat.zero_le _) (by rw [Array.size_append, List.size_toArray, List.size_toArray, List.length_nil]; omega))
  have hS₂ := Heap.get?_update_self (Obj.mapSeq (· ++ vs.toArray)) hS1 rfl
  refine wpAny_pure ?_
  show wpAny _ A (load s.heap.objs.size >>= _) _ _ _
  refine wpAny_bind (wpAny_load hS₂ (wpAny_pure ?_))
  have e : (([] : List Value).toArray ++ vs.toArray).toList = vs := by simp
  show Q (([] : List Value).toArray ++ vs.toArray).toList _
  rw [e]
  refine hQ _ (fun b o' hb => ?_) (by rw [Heap.size_update, size_push']; omega)
  rw [Heap.get?_update_ne _ _ _ _ (Nat.ne_of_lt (Heap.lt_size hb))]
  exact Heap.get?_push_of_some _ hb
theorem sorted_seq {l : Addr} {T : String} {o : Obj} {vs : List Value} {n : Nat} {Q : Value → Shared → Prop} {R : Array Value → Prop} (hT : T = "list" ∨ T = "tuple") (ho : s.heap.get? l = some o) (hc : o.cls = .type T) (hd : o.data = .seq vs.toArray n) (h64 : vs.length < 64)
    (sort : ∀ (A' : Around) (E' : Value → Shared → Prop) (s' : Shared) (a : Addr) (k : Nat) (P : Fin → Shared → Prop), s'.heap.get? a = some (seqObj "list" vs.toArray k) → (∀ b o, s.heap.get? b = some o → b ≠ a ∧ s'.heap.get? b = some o) →
      (∀ out, R out → P (.done (.ret .none)) { s' with heap := sortedHeap s'.heap a vs out }) → wpAny (model prog w) A' (Builtin.«list.sort» ⟨[.ref a], []⟩) P E' s')
    (h : ∀ (a : Addr) (h2 : Heap) (ep : Nat) (out : Array Value), R out → (∀ b o, s.heap.get? b = some o → h2.get? b = some o) → s.heap.objs.size ≤ a → h2.get? a = some (seqObj "list" out ep) → Q (.ref a) { s with heap := h2 }) :
    wpAny (model prog w) A (call (.builtin "sorted") [.ref l]) Q E s := by
  refine Calls.call_function_entry kind_sorted plain_sorted entry_sorted (args_sorted1 _) ?_
  unfold Builtin.«sorted»
  refine wpAny_bind (m := checkCount "sorted" 1 1 _) (wpAny_pure ?_)
  refine wpAny_bind (collect_parts hT ho hc hd (by rw [sizeLine_eq]; omega) fun h1 kp up => ?_)
  refine wpAny_bind (wpAny_newList ?_ (by rw [sizeLine_eq]; omega))
  have hoL : (h1.push (seqObj "list" vs.toArray 0)).get? h1.objs.size = some (seqObj "list" vs.toArray 0) := Heap.get?_push_size _ rfl
  have keep : ∀ b o, s.heap.get? b = some o → b ≠ h1.objs.size ∧ (h1.push (seqObj "list" vs.toArray 0)).get? b = some o := fun b o q => ⟨Nat.ne_of_lt (Heap.lt_size (kp _ _ q)), Heap.get?_push_of_some _ (kp _ _ q)⟩
  show wpAny _ _ _ _ _ { s with heap := h1.push (seqObj "list" vs.toArray 0) }
  refine wpAny_bind (wpAny_holding (wpAny_call_entry slot_list_sort ⟨_, hoL, rfl⟩ entry_list_sort (sort _ _ { s with heap := h1.push (seqObj "list" vs.toArray 0) } _ 0 _ hoL keep fun out hR => ⟨_, rfl, ?_⟩) (args_list_sort _)))
  obtain ⟨e1, ho1⟩ : ∃ e1, ((h1.push (seqObj "list" vs.toArray 0)).update h1.objs.size (Obj.mapSeq fun _ => #[])).get? h1.objs.size = some (seqObj "list" #[] e1) := ⟨_, get?_update_seq hoL (fun _ => #[])⟩
  have hz : h1.objs.size < ((h1.push (seqObj "list" vs.toArray 0)).update h1.objs.size (Obj.mapSeq fun _ => #[])).objs.size := Heap.lt_size ho1
  have ho6 := Heap.get?_push_of_some (seqObj "list" #[] 0) (Heap.get?_push_of_some (seqObj "tuple" vs.toArray 0) ho1)
  obtain ⟨e2, ho2⟩ : ∃ e2, (sortedHeap (h1.push (seqObj "list" vs.toArray 0)) h1.objs.size vs out).get? h1.objs.size = some (seqObj "list" out e2) := ⟨_, get?_update_seq ho6 (fun _ => out)⟩
  refine wpAny_pure ⟨_, rfl, h _ _ e2 out hR (fun b o q => ?_) up ho2⟩
  obtain ⟨hb, hq⟩ := keep b o q
  unfold sortedHeap
  rw [Heap.get?_update_ne _ _ _ _ hb]
  refine Heap.get?_push_of_some _ (Heap.get?_push_of_some _ ?_)
  rw [Heap.get?_update_ne _ _ _ _ hb]
  exact hq
end
end L2.L3
namespace L2.L3
open PySem PySem.W PyProof.Rows
noncomputable def sigOf : List PyData → Option (List Bool)
  | [] => some []
  | .int _ :: r => (sigOf r).map (true :: ·)
  | .str _ :: r => (sigOf r).map (false :: ·)
  | _ => none
noncomputable def sigT : PyData → Option (List Bool)
  | .tuple a => sigOf a
  | _ => none
noncomputable def srtL (ds : List PyData) : Option PyData := match ds with
  | x :: xs => (match sigT x with
    | some (k :: g) => if (x :: xs).all (isSig (k :: g)) && decide ((x :: xs).length < 64) then some (.list (srtR (x :: xs))) else none
    | _ => none)
  | _ => none
noncomputable def srtX (ds : List PyData) : Option PyData := match srtD ds with
  | some d => some d
  | none => (match ds with
    | [.list xs] => srtL xs
    | [.tuple xs] => (match allD intD xs with
      | some ns => if ns.length < 64 then some (.list ((sortI ns).map .int)) else none
      | none => srtL xs)
    | _ => none)
section
variable {X : Cx} {pins : List (Addr × Obj)} {σ : List (Option V)} {H : Hp} {s : Shared}
theorem rows_of (I : Inv X pins σ H s) : ∀ {xs : List V} {ds : List PyData} {us : List Value}, RepAll X.K H xs ds → Vals xs us → Rows s.heap us ds
  | _, _, _, .nil, .nil => .nil
  | _, _, _, .cons r rr, .cons t tt => by
    obtain ⟨as, ra⟩ := r.reads I t
    exact .cons ra (rows_of I rr tt)
theorem RepAll.at {K : PySem.W.Frag} {G : Hp} : ∀ {vs : List V} {ds : List PyData}, RepAll K G vs ds → ∀ i, i < vs.length → Rep K G (vs.getD i .non) (ds.getD i .none)
  | _, _, .nil, i, h => by simp at h
  | _, _, .cons r rr, 0, _ => r
  | _, _, .cons r rr, i + 1, h => RepAll.at rr i (by simpa using h)
theorem RepAll.len {K : PySem.W.Frag} {G : Hp} : ∀ {vs : List V} {ds : List PyData}, RepAll K G vs ds → vs.length = ds.length
  | _, _, .nil => rfl
  | _, _, .cons _ rr => by simp [RepAll.len rr]
theorem RepAll.pick {K : PySem.W.Frag} {G : Hp} {vs : List V} {ds : List PyData} (r : RepAll K G vs ds) : ∀ p : List Nat, (∀ i ∈ p, i < vs.length) → RepAll K G (p.map fun i => vs.getD i .non) (p.map fun i => ds.getD i .none)
  | [], _ => .nil
  | i :: p, h => .cons (r.at i (h i (by simp))) (RepAll.pick r p fun j hj => h j (List.mem_cons_of_mem _ hj))
theorem Vals.at' : ∀ {vs : List V} {us : List Value}, Vals vs us → ∀ i, i < vs.length → RelV (vs.getD i .non) (us.getD i .none)
  | _, _, .nil, i, h => by simp at h
  | _, _, .cons r rr, 0, _ => r
  | _, _, .cons r rr, i + 1, h => Vals.at' rr i (by simpa using h)
theorem Vals.pick {vs : List V} {us : List Value} (r : Vals vs us) : ∀ p : List Nat, (∀ i ∈ p, i < vs.length) → Vals (p.map fun i => vs.getD i .non) (p.map fun i => us.getD i .none)
  | [], _ => .nil
  | i :: p, h => .cons (Vals.at' r i (h i (by simp))) (Vals.pick r p fun j hj => h j (List.mem_cons_of_mem _ hj))
theorem seq_parts (I : Inv X pins σ H s) {p : Addr} {vs : List V} (h : SqL X.K H p vs ∨ SqT X.K H p vs) : ∃ (its : List Value) (T : String) (o : Obj) (n : Nat), (T = "list" ∨ T = "tuple") ∧ s.heap.get? p = some o ∧ o.cls = .type T ∧ o.data = .seq its.toArray n ∧ Vals vs its := by
  rcases h with h | h
  · obtain ⟨its, rv, pl, hz⟩ := I.list h
    obtain ⟨o, ho, hc, n, hd⟩ := pl.isList
    exact ⟨its, "list", o, n, .inl rfl, ho, hc, hd, rv⟩
  · obtain ⟨its, rv, ⟨o, ho, hc, n, hd⟩, hz⟩ := I.tuple h
    exact ⟨its, "tuple", o, n, .inr rfl, ho, hc, hd, rv⟩
theorem call_sortedR : CallR X (.builtin "sorted") (fun xs H Q => ∃ (p : Addr) (vs : List V) (ds : List PyData) (k : Bool) (g : List Bool), xs = [.ref p] ∧ (SqL X.K H p vs ∨ SqT X.K H p vs) ∧ RepAll X.K H vs ds ∧ (∀ d ∈ ds, isSig (k :: g) d = true) ∧ ds.length < 64 ∧
    ∀ (l : Addr) (ix : List Nat), H l = none → (∀ i ∈ ix, i < vs.length) → (ix.map fun i => ds.getD i .none) = srtR ds → Q (.ref l) (upd H l (.lst (ix.map fun i => vs.getD i .non)))) := by
  intro pins s σ H xs us Q I r ⟨p, vs, ds, k, g, e, hq, r2, hs, h64, q⟩
  subst e
  obtain ⟨u, rfl, rx⟩ := vals1 r
  cases rx
  obtain ⟨its, T, o, n, hT, ho, hc, hd, rv⟩ := seq_parts I hq
  have l1 := r2.len
  have l2 := rv.length
  have rd := rows_of I r2 rv
  refine sorted_seq (R := fun out => ∃ ix : List Nat, (∀ i ∈ ix, i < vs.length) ∧ ix.length = ds.length ∧ (ix.map fun i => ds.getD i PyData.none) = srtR ds ∧ out = (ix.map fun i => its.getD i Value.none).toArray) hT ho hc hd (by omega) (fun A' E' s' a k' P ha keep hP => list_sort_rows ha rd keep hs (by omega) fun ix hI he => hP _ ⟨ix.toList, fun i hi => ?_, by rw [Array.length_toList]; exact hI.size, he, rfl⟩) (fun a h2 ep out ⟨ix, hr, hn, he, ho'⟩ kp hz g => ?_)
  · have := (Array.perm_iff_toList_perm.mp hI.perm).mem_iff.mp hi
    simp at this
    omega
  · subst ho'
    have hf : H a = none := I.hok.fresh hz
    refine ⟨.ref a, _, I.laid (t' := s.toks) kp hz ?_, rfl, q _ ix hf hr he⟩
    refine ⟨?_, ix.map fun i => its.getD i Value.none, ep, Vals.pick rv _ hr, ?_⟩
    · rw [List.length_map, hn]
      exact Nat.le_of_lt (small1000 (by omega))
    · rw [g]
theorem call_sortedJ : CallR X (.builtin "sorted") (fun xs H Q => ∃ (p : Addr) (ns : List Int), xs = [.ref p] ∧ SqT X.K H p (ns.map V.int) ∧ ns.length < 64 ∧ ∀ l, H l = none → Q (.ref l) (upd H l (.lst ((sortI ns).map V.int)))) := by
  intro pins s σ H xs us Q I r ⟨p, ns, e, hq, h64, q⟩
  subst e
  obtain ⟨u, rfl, rx⟩ := vals1 r
  cases rx
  obtain ⟨its, T, o, n, hT, ho, hc, hd, rv⟩ := seq_parts I (.inr hq)
  have hi := intsAre_of rv
  have hl := hi.length
  refine sorted_seq (R := fun out => IntsAre out.toList (sortI ns)) hT ho hc hd (by omega) (fun A' E' s' a k' P ha keep hP => list_sort_tree ha hi (by omega) fun out ns' h1 h2 h3 => ?_) (fun a h2 ep out hR kp hz g => ?_)
  · have e := sortI_eq h2 h3
    subst e
    exact hP _ h1
  · have hf : H a = none := I.hok.fresh hz
    refine ⟨.ref a, _, I.laid (t' := s.toks) kp hz ?_, rfl, q _ hf⟩
    refine ⟨?_, out.toList, ep, vals_ints hR, ?_⟩
    · rw [List.length_map, (sortI_perm ns).length_eq]
      exact Nat.le_of_lt (small1000 (by omega))
    · rw [g]
end
section
variable {X : Cx}
theorem srtX_ok (ds : List PyData) (d : PyData) (h : srtX ds = some d) : CallD X (.builtin "sorted") ds d := by
  unfold srtX at h; split at h
  · rename_i e
    cases (Option.some.inj h)
    exact srt_ok ds _ e
  · have key : ∀ (y : PyData) (xs : List PyData), seqD y = some xs → ∀ d, srtL xs = some d → CallD X (.builtin "sorted") [y] d := fun y xs hy d h => by
      unfold srtL at h; split at h
      · rename_i x xs
        split at h
        · rename_i k g e
          split at h
          · rename_i hc
            rw [Bool.and_eq_true] at hc
            cases (Option.some.inj h)
            have hs : ∀ d ∈ x :: xs, isSig (k :: g) d = true := fun d hd => List.all_eq_true.mp hc.1 d hd
            exact ⟨_, call_sortedR, fun vs G H Q s r q => by
              obtain ⟨v, rfl, r0⟩ : ∃ v, vs = [v] ∧ Rep X.K G v y := by
                cases r with
                | cons r rr => cases rr; exact ⟨_, rfl, r⟩
              obtain ⟨p, us, rfl, hq, r⟩ := seq_rep s hy r0
              exact ⟨_, _, x :: xs, k, g, rfl, hq, r.mono s, hs, of_decide_eq_true hc.2, fun l ix hn hi he => q _ _ _ (.put s hn) (.list (.of upd_same) (by
                rw [← he]
                exact (r.pick ix hi).mono (Grow.put s hn).gg))⟩⟩
          · cases h
        · cases h
      · cases h
    split at h
    · exact key _ _ rfl d h
    · rename_i xs
      split at h
      · rename_i ns e
        split at h
        · rename_i hl
          cases (Option.some.inj h)
          have := allD_is (g := .int) (fun d a q => intD_is q) e
          subst this
          exact ⟨_, call_sortedJ, fun vs G H Q s r q => by
            cases r with | cons r rr => cases rr; cases r with | tuple hq r =>
              have e := r.ints
              subst e
              exact ⟨_, ns, rfl, seqT s hq, hl, fun l hn => q _ _ _ (.put s hn) (.list (.of upd_same) (repAll_intsG _))⟩⟩
        · cases h
      · exact key _ _ rfl d h
    · cases h
end
end L2.L3
namespace L2.L3
open PySem PySem.Spec PySem.Calls PyProof.Rows
section
variable {P : Program} {w : World} {K : PySem.W.Frag} {mg : Str → Option Value} {base : Heap}
end
end L2.L3
namespace L2.L3
open PySem PySem.Spec PySem.Calls PyProof.Rows
structure BM (mg : Str → Option Value) (base : Heap) : Prop where
  ex : ∃ bm ob, mg "__builtins__" = some (.ref bm) ∧ bm ≠ builtinsNs ∧ bm ≠ mainGlobals ∧ base.get? bm = some ob ∧ ob.cls = .type "module" ∧ ob.dict = some builtinsNs ∧ ob.data = .plain
theorem triples_snoc_n (i j : Int) (t u : Tok) (v : Value) : ∀ (n : Nat) (l : List Value), l.length ≤ n → TriplesOk l → TriplesOk (l ++ [.int i t, .int j u, v]) := by
  intro n
  induction n with
  | zero =>
    intro l hl _
    cases l with
    | nil => trivial
    | cons a l => cases hl
  | succ n ih =>
    intro l hl h
    unfold TriplesOk at h
    split at h
    · trivial
    · rename_i rest
      have hr : rest.length ≤ n := by simp only [List.length_cons] at hl; omega
      exact ih rest hr h
    · cases h
theorem triples_snoc (l : List Value) (i j : Int) (t u : Tok) (v : Value) (h : TriplesOk l) : TriplesOk (l ++ [.int i t, .int j u, v]) := triples_snoc_n i j t u v l.length l (Nat.le_refl _) h
theorem among_snoc {p : Pos} {c cv : Value} (i j : Int) (t u : Tok) : ∀ (l : List Value), TriplesOk l → codeAmong p (l ++ [.int i t, .int j u, c]) = some cv → codeAmong p l = some cv ∨ cv = c
  | [], _, h => by
    have h : (if (i == (p.line : Int) && j == (p.col : Int)) = true then some c else none) = some cv := h
    split at h
    · exact .inr (Option.some.inj h).symm
    · cases h
  | .int a _ :: .int b _ :: d :: r, ht, h => by
    have h : (if (a == (p.line : Int) && b == (p.col : Int)) = true then some d else codeAmong p (r ++ [.int i t, .int j u, c])) = some cv := h
    show (if (a == (p.line : Int) && b == (p.col : Int)) = true then some d else codeAmong p r) = some cv ∨ _
    split at h
    · rename_i hc; rw [if_pos hc]; exact .inl h
    · rename_i hc; rw [if_neg hc]; exact among_snoc i j t u r ht h
section
variable {X : Cx} {pins : List (Addr × Obj)} {σ : St} {H H0 G₀ G : Hp} {s : Shared} {ρ : List Ent}
theorem lam_make {x : Str} {cl : List (Str × Addr)} {c P : Addr} {params : Arguments} {body : Expr} {scope : Scope} {pos : Pos} {E : Value → Shared → Prop} {Q : Value → Shared → Prop} (hx : x ∈ lamNames) (ht : PySem.W.tabIn X.K x = some (c, P)) (hc : X.env.code = .ref c)
    (hq : X.env.qual ++ "<lambda>" = lamQ x) (C : PySem.W.codeHdIn X.K c P = true) (M : BM X.mg X.base) (hdef : defaultsOf params X.env = ([], [])) (hcl : closureFor scope X.env = pure cl) (I : Inv X pins σ H s) (R : RepS X.K H0 G₀ G H σ ρ)
    (h : ∀ f c' ct pm H' s', Inv X pins σ H' s' → Grow G H G H' → s'.heap.get? f = some (PySem.W.kla_obj "<lambda>" (lamQ x) params body scope cl pm c' ct) → H' f = none → s.heap.objs.size ≤ f → H' c' = some (cdO c' (lamQ x)) → Q (.ref f) s') :
    wpAny (model X.prog X.w) X.A (eval (.Lambda params body scope pos) X.env) Q E s := by
  refine PySem.W.kla_eval hdef ?_
  rw [hq]
  have hTab := R.tab.1 x hx c P ht
  generalize lamQ x = q at hTab h ⊢
  obtain ⟨ps, hP, hT, hA⟩ := hTab
  have hPo : s.heap.get? P = some (PySem.W.tabObj ps) := I.hok P _ hP
  have C0 : PySem.W.CodeHd s.heap c P := PySem.W.codeHd_of_K I.kIn C
  have hg : s.heap.Ns mainGlobals X.mg := I.mod.glob.keeps I.bk
  have hgP : mainGlobals ≠ P := fun z => by
    obtain ⟨o, es, ep, e, hd, _⟩ := hg
    rw [z, hPo] at e; cases e; cases hd
  have hB : s.heap.BuiltinsAt X.mg P := by
    obtain ⟨bm, ob, b1, b2, b3, b4, b5, b6, b7⟩ := M.ex
    refine ⟨bm, ob, b1, b2, b3, fun z => ?_, I.bk _ _ b4, b5, b6, b7⟩
    have e := I.bk _ _ b4
    rw [z, hPo] at e; cases e; cases b5
  cases hm : codeAmong pos ps.toList with
  | some cv =>
    obtain ⟨c', rfl, hc'⟩ := hA pos cv hm
    refine PySem.W.kla_makeFunctionHit hcl I.ok.glob hg hc C0 hPo hT hm hB fun ct h' tk kp sz => ?_
    exact h _ c' ct _ H _ (I.kept fun b o e => Heap.get?_push_of_some _ (kp b o e)) (.refl R.sub) (Heap.get?_push_size _ rfl) (I.hok.fresh sz) sz hc'
  | none =>
    refine PySem.W.kla_makeFunction hcl I.ok.glob hg hc C0 hPo hT hm hgP hB fun c' ct h' tk ex ge lt rc tb => ?_
    have hf : H c' = none := I.hok.fresh ge
    have cP : c' ≠ P := fun z => by rw [z, hP] at hf; cases hf
    have lP : P ≠ X.env.locals := fun z => by have := I.free; rw [← z, hP] at this; cases this
    -- the heap beside the table
    have kp : ∀ b o, b ≠ P → s.heap.get? b = some o → (h'.push (PySem.W.kla_obj "<lambda>" q params body scope cl ((X.mg "__name__").getD .none) c' ct)).get? b = some o := fun b o n e => Heap.get?_push_of_some _ (ex b o n e)
    have hsz : s.heap.objs.size ≤ h'.objs.size := Nat.le_trans ge (Nat.le_of_lt lt)
    have H1 : ∀ b, b ≠ P → b ≠ c' → upd (upd H P (.tbl (q, ps ++ #[rawInt pos.line, rawInt pos.col, .ref c']))) c' (cdO c' (q)) b = H b := fun b n1 n2 => by rw [upd_ne n2, upd_ne n1]
    have HP : upd (upd H P (.tbl (q, ps ++ #[rawInt pos.line, rawInt pos.col, .ref c']))) c' (cdO c' (q)) P = some (.tbl (q, ps ++ #[rawInt pos.line, rawInt pos.col, .ref c'])) := by rw [upd_ne (Ne.symm cP), upd_same]
    have nb : ∀ b o, s.heap.get? b = some o → b ≠ c' := fun b o e => Nat.ne_of_lt (Nat.lt_of_lt_of_le (Heap.lt_size e) ge)
    have nH : ∀ b o, H b = some o → b ≠ c' := fun b o e z => by rw [z, hf] at e; cases e
    have nP : ∀ b, H b = none → b ≠ P := fun b e z => by rw [z, hP] at e; cases e
    have hsm : Sm H (upd (upd H P (.tbl (q, ps ++ #[rawInt pos.line, rawInt pos.col, .ref c']))) c' (cdO c' (q))) := by
      refine ⟨fun b o e n => ?_, fun b p e => ?_, fun P' q' t => ?_⟩
      · rw [H1 b (fun z => by rw [z, hP] at e; cases e; exact n _ rfl) (nH b o e)]; exact e
      · by_cases z : b = P
        · rw [z]; exact ⟨_, HP⟩
        · exact ⟨p, by rw [H1 b z (nH b _ e)]; exact e⟩
      · obtain ⟨ps', g1, g2, g3⟩ := t
        have old : ∀ d o, H d = some (cdO d o) → upd (upd H P (.tbl (q, ps ++ #[rawInt pos.line, rawInt pos.col, .ref c']))) c' (cdO c' (q)) d = some (cdO d o) := fun d o e => by
          rw [H1 d (fun z => by rw [z, hP] at e; unfold cdO at e; cases e) (nH d _ e)]; exact e
        by_cases z : P' = P
        · subst z
          rw [hP] at g1
          cases g1
          refine ⟨_, HP, ?_, fun p cv e => ?_⟩
          · rw [Array.toList_append]; exact triples_snoc _ _ _ _ _ _ g2
          · rw [Array.toList_append] at e
            rcases among_snoc _ _ _ _ _ g2 e with e | rfl
            · obtain ⟨d, e1, e2⟩ := g3 p cv e
              exact ⟨d, e1, old d _ e2⟩
            · exact ⟨c', rfl, upd_same⟩
        · refine ⟨ps', by rw [H1 P' z (nH P' _ g1)]; exact g1, g2, fun p cv e => ?_⟩
          obtain ⟨d, e1, e2⟩ := g3 p cv e
          exact ⟨d, e1, old d _ e2⟩
    have gw : Grow G H G (upd (upd H P (.tbl (q, ps ++ #[rawInt pos.line, rawInt pos.col, .ref c']))) c' (cdO c' (q))) := by
      refine ⟨.refl _, hsm, fun b o e => ?_, fun _ e _ => e, id⟩
      rw [H1 b (fun z => by have := R.sub b o e; rw [z, hP] at this; cases this; exact R.tab.2 _ _ e) (nH b o (R.sub b o e))]
      exact R.sub b o e
    refine h h'.objs.size c' ct _ _ _ (I.step (ch := []) (g' := s.gens) (d' := s.drawn) (t' := tk) (h' := h'.push (PySem.W.kla_obj "<lambda>" q params body scope cl ((X.mg "__name__").getD .none) c' ct)) (fun _ z => nomatch z) (fun b o _ _ _ e n => kp b o (nP b n) e) (fun b o _ _ _ e n => ⟨o.slots, kp b o (nP b n) e⟩)
      (fun b o _ e n => by rw [H1 b (nP b n) (nb b o e)]; exact n) (fun b o _ e => ?_) (fun b xs e => by rw [H1 b (ne_of e hP (by nofun)) (nH b _ e)]; exact e) (fun b o u e => by rw [H1 b (ne_of e hP (by nofun)) (nH b _ e)]; exact e) (fun b p e => ?_) (fun m hn => (hn.extBut ex (Ne.symm lP)).push _) (fun b u e => ?_) I.bare) gw (Heap.get?_push_size _ rfl) ?_ hsz upd_same
    · by_cases z : b = P
      · rw [z]; exact ⟨_, Heap.get?_push_of_some _ tb⟩
      · exact ⟨o, kp b o z e⟩
    · by_cases z : b = P
      · subst z
        rw [hP] at e; cases e
        exact ⟨#[rawInt pos.line, rawInt pos.col, .ref c'], HP⟩
      · exact ⟨#[], by rw [H1 b z (nH b _ e), e]; simp⟩
    · by_cases z : b = c'
      · subst z
        rw [upd_same] at e; cases e
        obtain ⟨c2, o2, vs, t, e1, e2, e3, e4⟩ := rc
        cases e1
        exact ⟨⟨_, o2, vs, t, rfl, Heap.get?_push_of_some _ e2, e3, e4⟩, ⟨o2, Heap.get?_push_of_some _ e2⟩, fun h1 h2 ⟨c3, o3, vs3, t3, g1, g2, g3, g4⟩ k => by cases g1; exact ⟨_, o3, vs3, t3, rfl, k _ g2, g3, g4⟩⟩
      · by_cases z2 : b = P
        · subst z2
          rw [HP] at e; cases e
          exact Heap.get?_push_of_some _ tb
        · rw [H1 b z2 z] at e
          refine (I.hok b u e).stay (fun b' u' hb' e' => kp b' u' (fun y => ?_) e') (fun b' e' => by rw [H1 b' (ne_of e' hP (by nofun)) (nH b' _ e')]; exact e') fun b' xs e' => by rw [H1 b' (ne_of e' hP (by nofun)) (nH b' _ e')]; exact e'
          rcases hb' with y' | y'
          · exact z2 (y'.symm.trans y)
          · rw [y, hP] at y'; cases y'
    · have := Nat.ne_of_gt lt
      rw [H1 _ (fun z => absurd (Heap.lt_size hPo) (by rw [← z]; exact Nat.not_lt_of_le hsz)) this]
      exact I.hok.fresh hsz
end
end L2.L3
namespace L2.L3
open PySem PySem.W PyProof.Rows PySem.Calls
section
variable {prog : Program} {w : World} {A : Around} {E : Value → Shared → Prop} {s : Shared}
end
end L2.L3
namespace L2.L3
open PySem PySem.W PyProof.Rows PySem.Calls
section
variable {prog : Program} {w : World} {A : Around} {E : Value → Shared → Prop} {s : Shared}
end
end L2.L3
namespace L2.L3
open PySem PySem.Spec PySem.Calls PyProof.Rows
section
variable {X : Cx} {pins : List (Addr × Obj)} {σ : St} {H H0 G₀ G : Hp} {s : Shared} {ρ : List Ent}
end
end L2.L3
namespace L2.L3
open PySem PySem.Spec PySem.Calls PyProof.Rows
section
variable {P : Program} {w : World} {K : PySem.W.Frag} {mg : Str → Option Value} {base : Heap} {x : Str} {k : Nat} {ps N : List Str}
theorem fn_denL {st : Stmt} {f : SF} {fa c T : Addr} {fd : FuncData} (m n : Nat) (Fu : Fun K x x st fa fd) (S : FnScope N ps (defScope st)) (hm : N.length = m) (hn : ps.length = n) (kb : K.In base) (nb : base.Ns mainGlobals mg) (hmg : mg x = some (.ref fa)) (ht : PySem.W.tabIn K x = some (c, T))
    (body : ∀ (A : Around) (outer : List Env) (s : Shared) (H : Hp) (E : XK), Room k (A.deeper (envOfC x (defScope st) s.heap.objs.size fa (.ref c))) → DB (fcx P w K mg base N x (defScope st) fa (.ref c) A outer s H E) (defBody st) f) :
    FnOk P w K mg base CX0 (k + 1) fa fd ps (spD K fun ds d => runD m n f ds = some (.ok d)) := by
  obtain ⟨oc, od, kV, doc, pm, an, cdv, ct, osl, rfl, lk, hcd⟩ := Fu.ex
  have hc : cdv = .ref c := PySem.W.law_code kb nb ht hmg (kb _ _ lk) rfl
  subst hc
  refine fn_of lk hcd S (fun vs H Q E ⟨G, ds, d, s, r, hF, _⟩ => ?_) (fun A outer s H vs Q E hr ⟨G, ds, d, sm, r, hF, q⟩ => ?_)
  · have hF : runD m n f ds = some (.ok d) := hF
    unfold runD at hF
    split at hF
    · rename_i hl; rw [r.length, hl, hn]
    · cases hF
  · have hF : runD m n f ds = some (.ok d) := hF
    unfold runD at hF
    split at hF
    · rw [← hm, ← startE_eq] at hF
      split at hF
      · rename_i d' e
        cases (Option.some.inj hF)
        exact ⟨_, (body A outer s H E hr).run.nox, startE N ds, _, H, G, G, e, startE_ok sm r, fun v G' H' _ g rv => q v G' H' g rv⟩
      · rename_i ρ' e
        cases (Option.some.inj hF)
        exact ⟨_, (body A outer s H E hr).run.nox, startE N ds, _, H, G, G, e, startE_ok sm r, fun G' H' σ' _ R' => q .non G' H' R'.grow .none⟩
      · cases hF
    · cases hF
end
theorem look_mem {β : Type} : ∀ {l : List (Addr × β)} {a : Addr} {b : β}, l.lookup a = some b → (a, b) ∈ l
  | [], _, _, e => by cases e
  | (c, y) :: r, a, b, e => by
    rw [List.lookup_cons] at e
    cases hb : a == c with
    | true => rw [hb] at e; cases e; rw [eq_of_beq hb]; exact .head _
    | false => rw [hb] at e; exact .tail _ (look_mem e)
theorem law_callL {P : Program} {w : World} {K : PySem.W.Frag} {mg mb : Str → Option Value} {k : Nat} {fa a : Addr} {fd : FuncData} {x : Str} {F : List PyData → Mm PyData} {s₁ : Shared} {vs : List Value} {ns : List Int} {ts : List (Addr × Str)}
    (KX : K.In s₁.heap) (hns : s₁.heap.Ns mainGlobals mg) (hb : s₁.heap.Ns builtinsNs mb) (hbb : ∀ x : Str, x ≠ "__name__" → mb x = bootBuiltins x) (hlim : s₁.heap.NoLimit) (hg : s₁.gens = #[])
    (ha : s₁.heap.get? a = some { cls := .type "list", data := .seq vs.toArray }) (hi : IntsAre vs ns) (hl : ns.length ≤ sizeLine) (hr : Room k callerA) (hbm : BM mg s₁.heap)
    (htab : ∀ T q, ts.lookup T = some q → s₁.heap.get? T = some (PySem.W.tabObj #[]) ∧ isCodeTable s₁.heap T ∧ K.lookup T = none) (hts : ∀ x ∈ lamNames, ∀ c T, PySem.W.tabIn K x = some (c, T) → ts.lookup T = some (lamQ x))
    (Fn : ∀ base : Heap, K.In base → base.Ns mainGlobals mg → BM mg base → FnOk P w K mg base CX0 k fa fd [x] (spD K fun ds d => F ds = some (.ok d))) (hbind : ∀ (s : Shared) (u : Value), BindsTo s fd ⟨[u], []⟩ [(x, u)]) (hF : F [.list (ns.map .int)] = some (.ok (.bool true))) :
    codeAny (model P w) callerA (.call (.ref fa) ⟨[.ref a], []⟩) (fun r s' => r = .ok (.ret (.bool true)) ∧ OldK s₁.heap s'.heap ∧ s'.os = s₁.os ∧ AllBare s'.gens) s₁ := by
  have rv := vals_ints hi
  have lenV := hi.length
  have core : ∀ S : Hp, Only S → SqL K S a (ns.map V.int) → HOk P w S s₁.heap → (∀ b, S b ≠ none → b = a) → (S a ≠ none → K.lookup a = none) →
      codeAny (model P w) callerA (.call (.ref fa) ⟨[.ref a], []⟩) (fun r s' => r = .ok (.ret (.bool true)) ∧ OldK s₁.heap s'.heap ∧ s'.os = s₁.os ∧ AllBare s'.gens) s₁ := by
    intro S hO hS hok hA hK
    generalize hH : (fun b => match ts.lookup b with | some q => some (HO.tbl (q, #[])) | none => S b : Hp) = H
    have H1 : ∀ b q, ts.lookup b = some q → H b = some (.tbl (q, #[])) := fun b q e => by rw [← hH]; simp [e]
    have H2 : ∀ b, ts.lookup b = none → H b = S b := fun b e => by rw [← hH]; simp [e]
    have ta : ∀ b, S b ≠ none → ts.lookup b = none := fun b e => by
      cases q : ts.lookup b with
      | none => rfl
      | some q' =>
        have z := hA b e
        subst z
        have := (htab _ _ q).1
        rw [ha] at this; cases this
    have SH : Same S H := fun b o e => by rw [H2 b (ta b (by rw [e]; simp))]; exact e
    have hokH : HOk P w H s₁.heap := fun b u e => by
      cases q : ts.lookup b with
      | some q' =>
        rw [H1 b q' q] at e; cases e
        exact (htab _ _ q).1
      | none =>
        rw [H2 b q] at e
        exact (hok b u e).stay (fun _ _ _ z => z) (fun b' z => SH b' _ z) fun b' xs z => SH b' _ z
    have free : ∀ {b : Addr} {o : Obj}, s₁.heap.get? b = some o → o ≠ PySem.W.tabObj #[] → o ≠ { cls := .type "list", data := .seq vs.toArray } → H b = none := fun {b o} e n1 n2 => by
      cases q : ts.lookup b with
      | some q' => exact absurd (Option.some.inj (e.symm.trans (htab _ _ q).1)) n1
      | none =>
        rw [H2 b q]
        cases z : S b with
        | none => rfl
        | some u =>
          have y := hA b (by rw [z]; simp)
          subst y
          exact absurd (Option.some.inj (e.symm.trans ha)) n2
    have base_of : ∀ {b : Addr} {o : Obj}, s₁.heap.get? b = some o → H b = none → (hidT s₁.heap H).get? b = some o := fun e n => hidT_get e n
    have nsK : ∀ {b : Addr} {m : Str → Option Value}, s₁.heap.Ns b m → (hidT s₁.heap H).Ns b m := fun {b m} ⟨o, es, ep, e, d, r⟩ => ⟨o, es, ep, base_of e (free e (fun z => by rw [z] at d; cases d) fun z => by rw [z] at d; cases d), d, r⟩
    have hKb : K.In (hidT s₁.heap H) := fun b o e => base_of (KX b o e) (by
      cases q : ts.lookup b with
      | some q' => rw [(htab _ _ q).2.2] at e; cases e
      | none =>
        rw [H2 b q]
        cases z : S b with
        | none => rfl
        | some u =>
          have y := hA b (by rw [z]; simp)
          subst y
          rw [hK (by rw [z]; simp)] at e; cases e)
    have hM : Mod K mg (hidT s₁.heap H) := ⟨hKb, nsK hns, ⟨mb, nsK hb, hbb⟩, let ⟨mc, h1, h2⟩ := hlim; ⟨mc, nsK h1, h2⟩⟩
    have hB : BM mg (hidT s₁.heap H) := by
      obtain ⟨bm, ob, b1, b2, b3, b4, b5, b6, b7⟩ := hbm.ex
      exact ⟨bm, ob, b1, b2, b3, base_of b4 (free b4 (fun z => by rw [z] at b5; cases b5) fun z => by rw [z] at b5; injection b5 with b5; exact absurd b5 (by decide)), b5, b6, b7⟩
    have e0 : Env0 P w K mg (hidT s₁.heap H) callerA [] s₁ H := ⟨rfl, hM, fun b o e => of_hidT e, Nat.le_of_eq (hidT_size _ _), trivial, fun b hb => absurd (show b ∈ ([] : List Addr) from hb) (by simp), hokH, .of_eq hg⟩
    have tabs : Tabs K S H := ⟨fun x hx c T e => ⟨#[], H1 _ _ (hts x hx c T e), trivial, fun pos cv e => by cases e⟩, fun b ps e => by
      rcases hO b with z | ⟨o, xs, z⟩ <;> rw [z] at e <;> cases e⟩
    refine codeAny_mono ((Fn _ hKb (nsK hns) hB).run callerA [] s₁ H ⟨[.ref a], []⟩ [.ref a] [.ref a] (fun v _ => v = .bl true) E0 hr e0 (hbind s₁ (.ref a)) (.cons rfl .nil) ⟨S, [.list (ns.map .int)], .bool true, ⟨SH, tabs⟩, .cons (.list hS (repAll_intsG ns)) .nil, hF, fun v G' H' _ r => by cases r; rfl⟩) fun r s' h => ?_
    cases r with
    | error e => exact False.elim h
    | ok fl =>
      cases fl with
      | next => exact False.elim h
      | brk => exact False.elim h
      | cont => exact False.elim h
      | ret u =>
        obtain ⟨v, H', os, bare, un, hok', r', q⟩ := h
        have q' : v = .bl true := q
        subst q'
        obtain rfl : u = Value.bool true := r'
        refine ⟨rfl, ⟨fun b o e => ?_, fun b o e => un.there b o e (by simp)⟩, os, bare⟩
        cases y : ts.lookup b with
        | some q2 =>
          obtain ⟨t1, t2, t3⟩ := htab _ _ y
          rw [e] at t1; cases t1
          obtain ⟨more, em⟩ := un.tbls b _ (H1 b q2 y)
          exact .inr (.inl ⟨t2, rfl, #[], more, rfl, hok' b _ em⟩)
        | none =>
          cases q : S b with
          | none => exact .inl (un.keep b o e (by rw [H2 b y]; exact q) (by intro z; exact absurd (show b ∈ ([] : List Addr) from z) (by simp)) (by simp))
          | some u =>
            rcases hO b with z | ⟨ob, xs, z⟩
            · rw [q] at z; cases z
            · have z2 := un.frzs b ob _ (SH b _ z)
              obtain ⟨e1, _⟩ := hok b _ z
              obtain ⟨e2, _⟩ := hok' b _ z2
              rw [e] at e1; cases e1
              exact .inl e2
  cases hk : K.lookup a with
  | some o =>
    have e := KX a o hk
    rw [ha] at e
    cases e
    refine core (fun _ => none) (fun _ => .inl rfl) (.inr ⟨_, vs.toArray, _, hk, rfl, rfl, rfl, by rw [List.size_toArray, lenV]; exact hl, by simpa using rv⟩) (fun b u z => by have z' : (none : Option HO) = some u := z; cases z') (fun b z => absurd rfl z) fun z => absurd rfl z
  | none =>
    refine core (fun b => if b = a then some (.frz { cls := .type "list", data := .seq vs.toArray } (.lst (ns.map V.int))) else none) (fun b => ?_) (.inl (.inr ⟨{ cls := .type "list", data := .seq vs.toArray }, if_pos rfl⟩)) (fun b u z => ?_) (fun b z => ?_) fun _ => hk
    · by_cases hb : b = a
      · exact .inr ⟨_, _, if_pos hb⟩
      · exact .inl (if_neg hb)
    · by_cases hb : b = a
      · have z' := (if_pos hb).symm.trans z
        cases z'
        subst hb
        exact ⟨ha, by rw [List.length_map]; exact hl, vs, _, rv, ha⟩
      · have z' := (if_neg hb).symm.trans z
        cases z'
    · by_cases hb : b = a
      · exact hb
      · exact absurd (if_neg hb) z
theorem walkL {l : PySem.W.OpenLaw} {k : Nat} {q : Program} {loose : List Str} {XP : (Str → Option Value) → Heap → Prop} {YP : World → Heap → Prop} {d : DefRec} {K : Params → PySem.W.Frag} {F : List PyData → Mm PyData} {x : Str} (ts : List (Addr × Str)) (hn : l.most = some 63) (hdf : d.params.defaults = []) (hr : Room k callerA)
    (hY : ∀ (w : World) (h : Heap), YP w h → (K w.params).In h) (hT : ∀ (w : World) (h : Heap), YP w h → ∀ p ∈ ts.map (·.1), h.get? p = some (PySem.W.tabObj #[])) (hcd : ∀ w : World, ∀ p ∈ ts, (∃ c, PySem.W.codeHdIn (K w.params) c p.1 = true) ∧ (K w.params).lookup p.1 = none)
    (hts : ∀ w : World, ∀ x ∈ lamNames, ∀ c T, PySem.W.tabIn (K w.params) x = some (c, T) → ts.lookup T = some (lamQ x))
    (Fn : ∀ (w : World) (mg : Str → Option Value) (fa : Addr) (h : Heap), (K w.params).In h → h.Ns mainGlobals mg → mg d.name = some (.ref fa) →
      ∃ fd : FuncData, (∀ (s : Shared) (u : Value), BindsTo s fd ⟨[u], []⟩ [(x, u)]) ∧ ∀ base : Heap, (K w.params).In base → base.Ns mainGlobals mg → BM mg base → FnOk l.prog w (K w.params) mg base CX0 k fa fd [x] (spD (K w.params) fun ds d => F ds = some (.ok d)))
    (hF : ∀ ns : List Int, ns.length ≤ 63 → F [.list (ns.map .int)] = some (.ok (.bool true))) :
    PySem.W.WalkO q loose XP YP l.row.toRowW d [] (fun f vs => PySem.call f vs) := by
  refine Att.attach_call hn hdf fun w s₀ s₁ mg mb fa o pm cd doc a vs ns G Y ho hd hcd' hmg hobj hints hlen hg => ?_
  have KX := hY w _ Y
  obtain ⟨fd, hb, hFn⟩ := Fn w mg fa _ KX G.T.g hmg
  have hbm : BM mg s₁.heap := by
    obtain ⟨bm, ob, b1, b2, b3, b4, b5, b6⟩ := G.T.bmain
    refine ⟨bm, ob, b1, b2, fun z => ?_, b3, b4, b5, b6⟩
    obtain ⟨o, es, ep, e, hd, _⟩ := G.T.g
    rw [z, e] at b3; cases b3; rw [hd] at b6; cases b6
  refine law_callL (ts := ts) KX G.T.g G.T.b G.T.builtins G.T.nolimit hg hobj hints (Nat.le_trans hlen (by decide)) hr hbm (fun T q e => ?_) (hts w) hFn hb (hF ns hlen)
  have m := look_mem e
  have e1 := hT w _ Y T (List.mem_map_of_mem (f := (·.1)) m)
  obtain ⟨⟨c, hc⟩, hn'⟩ := hcd w _ m
  exact ⟨e1, ((PySem.W.codeHd_of_K KX hc).tab e1).isCodeTable, hn'⟩
noncomputable def lamOk (K : PySem.W.Frag) (ts : List (Addr × Str)) (x : Str) : Bool := match PySem.W.tabIn K x with
  | none => true
  | some (_, T) => ts.lookup T == some (lamQ x)
theorem lam_all {K : PySem.W.Frag} {ts : List (Addr × Str)} (h : lamNames.all (lamOk K ts) = true) : ∀ x ∈ lamNames, ∀ c T, PySem.W.tabIn K x = some (c, T) → ts.lookup T = some (lamQ x) := fun x hx c T e => by
  have := List.all_eq_true.mp h x hx
  unfold lamOk at this
  rw [e] at this
  exact eq_of_beq this
theorem all_cons {α : Type} {p : α → Prop} {a : α} {l : List α} (h : p a) (t : ∀ x ∈ l, p x) : ∀ x ∈ a :: l, p x := List.forall_mem_cons.mpr ⟨h, t⟩
end L2.L3
namespace L2.L3
open PySem PySem.Spec PySem.Calls PyProof.Rows
noncomputable abbrev lamE (qual : Str) (scope : Scope) (L f : Addr) (cd : Value) (cl : List (Str × Addr)) : Env := newEnv scope L mainGlobals cl (qual ++ ".<locals>.") (some f) cd none builtinsNs
section
variable {P : Program} {w : World} {K : PySem.W.Frag} {mg : Str → Option Value} {base : Heap}
noncomputable def cxL (P : Program) (w : World) (K : PySem.W.Frag) (mg : Str → Option Value) (base : Heap) (N : List Str) (env : Env) (A : Around) (outer : List Env) (s : Shared) (H : Hp) (E : XK) : Cx where
  prog := P
  w := w
  K := K
  mg := mg
  base := base
  A := A.deeper env
  N := N
  s₀ := s
  H₀ := H
  env := env
  outer := outer
  stack := env :: outer
  ex := []
  calm := true
  fn := fun _ => false
  pn := []
  xe := fun e s' => wpAny (model P w) (A.deeper env) (leaving env e) (fun _ s'' => CX1 P w outer H s E e s'') (fun e' s'' => CX1 P w outer H s E e' s'') s'
structure Caps (cl : List (Str × Addr)) (scope : Scope) (N : List Str) (σ : St) (H : Hp) (h : Heap) : Prop where
  inj : ∀ x y c, cl.lookup x = some c → cl.lookup y = some c → x = y
  has : ∀ x, scope.names.lookup x = some .free → ∃ c, cl.lookup x = some c
  cell : ∀ x c, cl.lookup x = some c → H c = none ∧ ∃ v, h.IsCell c v
  val : ∀ (i : Nat) (x : Str) (v : V), N[i]? = some x → σ[i]? = some (some v) → scope.names.lookup x = some .free ∧ ∃ u c, RelV v u ∧ cl.lookup x = some c ∧ h.IsCell c (some u)
  len : σ.length = N.length
theorem Caps.more {cl : List (Str × Addr)} {scope : Scope} {N : List Str} {σ : St} {H H' : Hp} {h h' : Heap} {fs : List Addr} (C : Caps cl scope N σ H h) (un : Un fs [] H H' h h') : Caps cl scope N σ H' h' := by
  have go : ∀ x c v, cl.lookup x = some c → h.IsCell c v → h'.IsCell c v := fun x c v e ⟨o, ho, hd⟩ => by
    obtain ⟨sl, q⟩ := un.any ho (C.cell x c e).1 (by simp)
    exact ⟨_, q, hd⟩
  refine ⟨C.inj, C.has, fun x c e => ?_, fun i x v e1 e2 => ?_, C.len⟩
  · obtain ⟨n, v, o, ho, hd⟩ := C.cell x c e
    exact ⟨un.free c o ho n (by simp), v, go x c v e ⟨o, ho, hd⟩⟩
  · obtain ⟨h1, u, c, h2, h3, h4⟩ := C.val i x v e1 e2
    exact ⟨h1, u, c, h2, h3, go x c _ h3 h4⟩
theorem inv_lam {N : List Str} {qual : Str} {scope : Scope} {f : Addr} {cd : Value} {cl : List (Str × Addr)} {A : Around} {outer : List Env} {s : Shared} {H : Hp} {E : XK} {σ : St} {h1 : Heap} {tk : Nat}
    (hk : scope.kind = .function) (hnc : ∀ x ∈ scope.names, x.2 ≠ .cell) (hd : A.handled = none) (e0 : Env0 P w K mg base A outer s H) (C : Caps cl scope N σ H s.heap) (hns : ∃ m, h1.Ns s.heap.objs.size m) (kp : ∀ b o, s.heap.get? b = some o → h1.get? b = some o) :
    Inv (cxL P w K mg base N (lamE qual scope s.heap.objs.size f cd cl) A outer s H E) [] σ H { s with heap := h1, toks := tk } := by
  have noA : ∀ b : Addr, b ∉ (cxL P w K mg base N (lamE qual scope s.heap.objs.size f cd cl) A outer s H E).ex := fun b z => absurd (show b ∈ ([] : List Addr) from z) (by simp)
  obtain ⟨m, hns⟩ := hns
  have cellK : ∀ c v, s.heap.IsCell c v → h1.IsCell c v := fun c v ⟨o, ho, hd⟩ => ⟨o, kp _ _ ho, hd⟩
  refine ⟨⟨e0.mod, hk, rfl, rfl, Nat.le_refl _, C.inj, fun y hy => ?_, (fun y c z _ => nomatch z), fun _ => hd, Around.frames_deeper e0.frames, .inr ⟨rfl, rfl⟩, fun b z => absurd z (noA b), e0.bs, e0.bsz, fun b _ _ => noA b, fun b z => absurd z (noA b), e0.funs, e0.frf⟩,
    rfl, e0.bare, Un.kept kp, ⟨m, hns, fun i y v h1 h2 h3 => ?_⟩, fun y c h => ?_, e0.hok.fresh (Nat.le_refl _), fun y c h => (C.cell y c h).1, fun p hp => absurd (show p ∈ ([] : List (Addr × Obj)) from hp) (by simp), e0.hok.kept kp, C.len⟩
  · have hy : scope.names.lookup y = some .cell ∨ scope.names.lookup y = some .free := hy
    rcases hy with hy | hy
    · exact absurd rfl (hnc _ (PySem.mem_of_lookup hy))
    · exact C.has y hy
  · obtain ⟨q1, u, c, q2, q3, q4⟩ := C.val i y v h1 h2
    exact ⟨u, q2, .inr ⟨.inr q1, c, q3, cellK c _ q4⟩⟩
  · obtain ⟨_, v, q⟩ := C.cell y c h
    exact ⟨v, cellK c v q⟩
noncomputable def QvOf (K : PySem.W.Frag) (G H : Hp) (r : Re PyData) : VK := fun v H' => ∃ G' d, r = .ok d ∧ Grow G H G' H' ∧ Rep K G' v d
noncomputable def QxOf (K : PySem.W.Frag) (G H : Hp) (r : Re PyData) : XK := fun cv _ H' => ∃ G' C c, cv = .ref C ∧ r = .ex c ∧ excC K c = some C ∧ Grow G H G' H'
theorem deed_run {k : Nat} {f c : Addr} {qual : Str} {params : Arguments} {body : Expr} {scope : Scope} {cl : List (Str × Addr)} {pm ct : Value} {fe : EF} {A : Around} {outer : List Env} {s : Shared} {H G : Hp} {o : Obj} {N : List Str} {σ : St} {ρ : List Ent} {r : Re PyData}
    (hr : Room (k + 1) A) (e0 : Env0 P w K mg base A outer s H) (ho : s.heap.get? f = some o) (hod : o.data = .func (PySem.W.kla_fn "<lambda>" qual params body scope cl pm (.ref c) ct)) (hcd : s.heap.CodeRec (.ref c) qual)
    (hk : scope.kind = .function) (hco : scope.isCoroutine = false) (hge : scope.isGenerator = false) (hnc : ∀ x ∈ scope.names, x.2 ≠ .cell)
    (hb : bindArgs (PySem.W.kla_fn "<lambda>" qual params body scope cl pm (.ref c) ct) ⟨[], []⟩ = pure [])
    (hbody : DE (cxL P w K mg base N (lamE qual scope s.heap.objs.size f (.ref c) cl) A outer s H (QxOf K G H r)) body fe)
    (C : Caps cl scope N σ H s.heap) (R : RepS K H G G H σ ρ) (hf : fe ρ = some r) :
    codeAny (model P w) A (.call (.ref f) ⟨[], []⟩) (CR (CX1 P w) outer P w H s (QvOf K G H r) (QxOf K G H r)) s := by
  have lim : s.heap.NoLimit := e0.mod.nolimit.keeps fun b o e => (e0.bs b o e).1
  refine PySem.W.kla_callFunE hr.depth ho hod hco hge rfl hcd ?_
  rw [hb]
  refine wpAny_pure (wpAny_newFunctionEnv hnc (by simp) (fun h1 hns hsb => ?_) hk)
  have kp : ∀ b o, s.heap.get? b = some o → h1.get? b = some o := fun b o e => hsb.extBut b o (Nat.ne_of_lt (Heap.lt_size e)) (Heap.get?_push_of_some _ e)
  refine ⟨lim.keeps kp, PySem.W.kla_codeExpr ?_⟩
  have I : Inv (cxL P w K mg base N (lamE qual scope s.heap.objs.size f (.ref c) cl) A outer s H (QxOf K G H r)) [] σ H { s with heap := h1, toks := s.toks + ([] : List (Str × Value)).length } := inv_lam hk hnc hr.hd e0 C ⟨_, hns⟩ kp
  refine wpAny_mono (hbody.run [] _ σ H (QvOf K G H r) I ⟨ρ, r, H, G, G, hf, R, ?_⟩) (fun u' s' hs => ?_) fun e s' hs => hs
  · cases r with
    | ok d => exact fun v G' H' g rv => ⟨G', d, rfl, g, rv⟩
    | ex c' =>
      intro pins s' σ' H' G' e' I' R' _ ⟨a, C', e1, hE, xa⟩
      subst e1
      refine leave_ok (X := cxL P w K mg base N (lamE qual scope s.heap.objs.size f (.ref c) cl) A outer s H (QxOf K G H (.ex c'))) (fr := fun b => s.heap.get? b = none) I'.ok.frames rfl rfl I' (xa.mono fun b hb => ?_) (fun b hb => ?_) fun h' ch un hch hok x' => ?_
      · rcases hb.1 with z | z
        · cases z
        · exact z
      · cases z : s.heap.get? b with
        | none => rfl
        | some o =>
          obtain ⟨o', z'⟩ := I'.base.there b o z (by intro w; cases w)
          rw [hb] at z'; cases z'
      · exact ⟨a, C', H', rfl, ⟨G', C', c', rfl, rfl, hE, R'.grow⟩, I'.os, I'.bare, un_after I' rfl un hch, hok, x'⟩
  · obtain ⟨v', H', J, rv, q⟩ := hs
    exact ⟨v', H', J.os, J.bare, J.base, J.hok, rv, q⟩
end
end L2.L3
namespace L2.L3
open PySem PySem.Spec PySem.Calls PyProof.Rows
structure RoomN (k : Nat) (A : Around) : Prop where
  dp : A.depth + 3 * k + 5 < recursionLimit
  un : A.units + 16 * k + 200 < cLine
theorem RoomN.units {k : Nat} {A : Around} (r : RoomN k A) : A.units + 64 < cLine := by have := r.un; omega
theorem Room.n {k : Nat} {A : Around} (r : Room k A) (e : Option Value) : RoomN k (A.mark e) := ⟨r.dp, r.un⟩
section
variable {P : Program} {w : World} {K : PySem.W.Frag} {mg : Str → Option Value} {base : Heap} {x : Str} {k : Nat} {ps N : List Str} {F : Str → Mm PyData}
noncomputable abbrev fcN (P : Program) (w : World) (K : PySem.W.Frag) (mg : Str → Option Value) (base : Heap) (N : List Str) (qual : Str) (scope : Scope) (f : Addr) (cd : Value) (A : Around) (outer : List Env) (s : Shared) (H : Hp) : Cx :=
  { cxOf CX0 P w K mg base N qual scope f cd A outer s H E0 with calm := false, xe := fun _ _ => False }
structure ClsOk (P : Program) (w : World) (K : PySem.W.Frag) (mg : Str → Option Value) (base : Heap) (x : Str) (k : Nat) (F : Str → Mm PyData) : Prop where
  ex : ∃ f, mg x = some (.ref f) ∧ PySem.W.keepIn K (.ref f) = true ∧ ∀ (A : Around) (outer : List Env) (s : Shared) (H G : Hp) (a C : Addr) (c : Str) (d : PyData), RoomN k A → Env0 P w K mg base A outer s H → (Same G H ∧ Tabs K G H) → excC K c = some C → H a = some (xcO a C) → F c = some (.ok d) →
    codeAny (model P w) A (.call (.ref f) ⟨[.ref a], []⟩) (CR CX0 outer P w H s (fun v H' => ∃ G', Grow G H G' H' ∧ Rep K G' v d) E0) s
theorem cls_den {st : Stmt} {y : Str} {f : SF} (m : Nat) (D : Def K mg x st) (S : FnScope N [y] (defScope st)) (hm : N.length = m)
    (hb : ∀ (kV doc pm : Value) (an : Option Addr) (cdv ct : Value) (us : List Value), us.length = [y].length → bindArgs (PySem.W.fnOf x x (defArgs st) (defBody st) (defScope st) .none kV doc pm an cdv ct) ⟨us, []⟩ = pure ([y].zip us))
    (body : ∀ (fa : Addr) (cdv : Value) (A : Around) (outer : List Env) (s : Shared) (H : Hp), RoomN 0 (A.deeper (envOfC x (defScope st) s.heap.objs.size fa cdv)) → DB (fcN P w K mg base N x (defScope st) fa cdv A outer s H) (defBody st) f) :
    ClsOk P w K mg base x 1 (runE m f) := by
  obtain ⟨fa, fd, Fu, hmg⟩ := D.ex
  refine ⟨fa, hmg, Fu.kp, fun A outer s H G a C c d hr e0 sm hC hH hF => ?_⟩
  have bd := Fu.binds hb
  obtain ⟨oc, od, kV, doc, pm, an, cdv, ct, osl, rfl, lk, hcd⟩ := Fu.ex
  have KX : K.In s.heap := e0.mod.kin.keeps fun b o e => (e0.bs b o e).1
  have lim : s.heap.NoLimit := e0.mod.nolimit.keeps fun b o e => (e0.bs b o e).1
  have hkind : ∀ z ∈ [y].zip [Value.ref a], (defScope st).names.lookup z.1 = some .local ∨ ((defScope st).names.lookup z.1 = some .cell ∧ ((cellsFrom (s.heap.objs.size + 1) (defScope st).names []).lookup z.1).isSome = true) := fun ⟨n, v⟩ hy => by
    rcases S.par n (List.of_mem_zip hy).1 with q | q
    · exact .inl q
    · exact .inr ⟨q, PySem.W.cellsFrom_some _ _ _ (.inl q)⟩
  have dep : A.depth < recursionLimit := by have := hr.dp; omega
  refine codeAny_call_function dep (KX _ _ lk) rfl S.co S.gen rfl (PySem.W.codeRec_of KX hcd) (bd s [.ref a] KX rfl _ _ _ _ ?_)
  refine wpAny_newFunctionEnv_cells S.kind hkind fun env he s1 xx => ?_
  subst he
  refine ⟨lim.keeps xx.toInCall.keep, codeAny_func ?_⟩
  have e1 : Env0 P w K mg base { A with handled := none } outer s H := ⟨e0.frames, e0.mod, e0.bs, e0.bsz, e0.funs, e0.frf, e0.hok, e0.bare⟩
  have J : Inv (cxOf CX0 P w K mg base N x (defScope st) fa cdv { A with handled := none } outer s H E0) [] (start N [.ref a]) H s1 := inv_start S rfl e1 rfl (.cons rfl .nil) xx
  have I : Inv (fcN P w K mg base N x (defScope st) fa cdv A outer s H) [] (start N [.ref a]) H s1 :=
    ⟨⟨J.ok.mod, J.ok.kind, J.ok.glob, J.ok.blt, J.ok.above, J.ok.inj, J.ok.has, J.ok.cab, (fun z => nomatch z), J.ok.frames, J.ok.stk, J.ok.exf, J.ok.bs, J.ok.bsz, J.ok.noex, J.ok.exfs, J.ok.funs, J.ok.frf⟩, J.os, J.bare, J.base, J.loc, J.cell, J.free, J.freeC, J.pin, J.hok, J.len⟩
  unfold runE at hF
  rw [← hm] at hF
  have fin : ∀ (fl : Flow) (s' : Shared), SP (fcN P w K mg base N x (defScope st) fa cdv A outer s H) [] { nx := fun _ H' => ∃ G', Grow G H G' H' ∧ Rep K G' .non d, rt := fun v H' => ∃ G', Grow G H G' H' ∧ Rep K G' v d } fl s' →
      (match fl with | .ret u => CR CX0 outer P w H s (fun v H' => ∃ G', Grow G H G' H' ∧ Rep K G' v d) E0 (.ok (.ret u)) s' | .next => CR CX0 outer P w H s (fun v H' => ∃ G', Grow G H G' H' ∧ Rep K G' v d) E0 (.ok (.ret .none)) s' | _ => False) := fun fl s' hs => by
    cases fl with
    | ret u =>
      obtain ⟨v, σ', H', J, rv, q⟩ := hs
      exact ⟨v, H', J.os, J.bare, J.base, J.hok, rv, q⟩
    | next =>
      obtain ⟨σ', H', J, q⟩ := hs
      exact ⟨.non, H', J.os, J.bare, J.base, J.hok, rfl, q⟩
    | brk => obtain ⟨_, _, _, q⟩ := hs; exact q.elim
    | cont => obtain ⟨_, _, _, q⟩ := hs; exact q.elim
  have run : ∀ o, f (.exc c :: List.replicate (N.length - 1) .no) = some o → EndS (fcN P w K mg base N x (defScope st) fa cdv A outer s H) H G G { nx := fun _ H' => ∃ G', Grow G H G' H' ∧ Rep K G' .non d, rt := fun v H' => ∃ G', Grow G H G' H' ∧ Rep K G' v d } o →
      wpAny (model P w) (A.deeper (envOfC x (defScope st) s.heap.objs.size fa cdv)) (execs (defBody st) (envOfC x (defScope st) s.heap.objs.size fa cdv)) (SP (fcN P w K mg base N x (defScope st) fa cdv A outer s H) [] { nx := fun _ H' => ∃ G', Grow G H G' H' ∧ Rep K G' .non d, rt := fun v H' => ∃ G', Grow G H G' H' ∧ Rep K G' v d }) (fun _ _ => False) s1 :=
    fun o e q => (body fa cdv A outer s H ⟨by have := hr.dp; show A.depth + 1 + 3 * 0 + 5 < _; omega, by have := hr.un; show A.units + 3 + 16 * 0 + 200 < _; omega⟩).run [] s1 _ H _ I ⟨_, o, H, G, G, e, startX_ok sm hC hH, q⟩
  split at hF
  · rename_i d' e
    cases (Option.some.inj hF)
    refine wpAny_mono (run _ e fun v G' H' _ g rv => ⟨G', g, rv⟩) (fun fl s' hs => ?_) fun _ _ z => z.elim
    have := fin fl s' hs
    cases fl <;> first | exact this | exact this.elim
  · rename_i ρ' e
    cases (Option.some.inj hF)
    refine wpAny_mono (run _ e fun G' H' σ' _ R' => ⟨G', R'.grow, .none⟩) (fun fl s' hs => ?_) fun _ _ z => z.elim
    have := fin fl s' hs
    cases fl <;> first | exact this | exact this.elim
  · cases hF
end
section
variable {X : Cx}
theorem deed_call {pins : List (Addr × Obj)} {s : Shared} {σ : St} {H : Hp} {fl : Addr} {dn : Str} {i : Nat} {p pos : Pos} {Qv : VK} {Ev : XK} (I : Inv X pins σ H s) (hN : X.N[i]? = some dn) (hσ : σ[i]? = some (some (.ref fl))) (hv : Vis X.env.scope dn)
    (hd : (dn == ("__debug__" : Str)) = false) (hcd : (dn == ("__classdict__" : Str)) = false) (hf : ∀ s', Inv X pins σ H s' → PySem.W.FnAt fl s'.heap)
    (run : ∀ s', Inv X pins σ H s' → codeAny (model X.prog X.w) X.A (.call (.ref fl) ⟨[], []⟩) (CR (CX1 X.prog X.w) X.stack X.prog X.w H s' Qv Ev) s') :
    wpAny (model X.prog X.w) X.A (eval (.Call (.Name dn p) [] [] pos) X.env) (EP X pins σ Qv) (fun e s' => ∃ a C H', e = .ref a ∧ Ev (.ref C) none H' ∧ Inv X pins σ H' s' ∧ ExcAt (Fresh X) H' a C s'.heap) s := by
  have nm := pe_var (X := X.wish fun _ _ => False) (pos := p) hN hv hd hcd pins s σ H (fun v H' => v = .ref fl ∧ H' = H) (I.wish _) ⟨.ref fl, hσ, rfl, rfl⟩
  refine wpAny_Call_Name_kw (wpAny_mono nm (fun u s1 ⟨v, H1, I1', rv, e1, e2⟩ => ?_) fun _ _ z => z.elim)
  subst e1 e2
  cases rv
  have I1 := I1'.unwish
  refine PySem.W.callWith_F0 (hf s1 I1) (wpAny_call (codeAny_mono (run s1 I1) fun res s' hq => ?_))
  cases res with
  | error e2 =>
    obtain ⟨a2, C2, H2, rfl, hE, os, bare, un, hok, xa⟩ := hq
    exact ⟨a2, C2, H2, rfl, hE, I1.call' (ch := []) os un hok bare (fun b z => nomatch z), xa.mono fun b hb => inv_new I1 hb⟩
  | ok fl =>
    cases fl with
    | ret u => exact I1.after hq
    | next => exact False.elim hq
    | brk => exact False.elim hq
    | cont => exact False.elim hq
theorem cls_call {pins : List (Addr × Obj)} {s : Shared} {σ : St} {H G : Hp} {x n c : Str} {k j : Nat} {a C : Addr} {d : PyData} {F : Str → Mm PyData} {p p2 pos : Pos} {e : Option Value} (K0 : ClsOk X.prog X.w X.K X.mg X.base x k F) (hr : RoomN k X.A) (I : Inv X pins σ H s) (hN : X.N[j]? = some n) (hσ : σ[j]? = some (some (.ref a))) (hv : Vis X.env.scope n)
    (hd : (n == ("__debug__" : Str)) = false) (hcd : (n == ("__classdict__" : Str)) = false) (sm : Same G H ∧ Tabs X.K G H) (hC : excC X.K c = some C) (hH : H a = some (xcO a C)) (hF : F c = some (.ok d)) (hg : Gl X x) (hdb : (x == ("__debug__" : Str)) = false)
    (he : starEach [.Name n p2] X.env = (false, eval (.Name n p2) X.env) :: starEach [] X.env) (hpl : (backTo pos (starEach [] X.env)).any (·.1) = false) :
    wpAny (model X.prog X.w) X.A (eval (.Call (.Name x p) [.Name n p2] [] pos) X.env) (EP X pins σ fun v H' => ∃ G', Grow G H G' H' ∧ Rep X.K G' v d) X.xe s := by
  obtain ⟨f, hm, kp, run⟩ := K0.ex
  refine wpAny_Call_Name_kw (ld_glob I hg hm ?_ hdb)
  refine PySem.W.callWith_K (h₀ := X.base) I.ok.mod.kin kp (thn (pa_cons (pe_var hN hv hd hcd) pa_nil he pos pins s σ H (fun vs H' => vs = [.ref a] ∧ H' = H) I ⟨.ref a, hσ, rfl, rfl⟩) fun us s1 ⟨vs, H1, I1, rv, e1, e2⟩ => ⟨I1.kIn, ?_⟩) he hpl
  subst e1 e2
  obtain ⟨u, rfl, ru⟩ := vals1 rv
  cases ru
  refine wpAny_call (codeAny_mono (run X.A X.stack s1 H1 G a C c d hr I1.env0 sm hC hH hF) fun res s' hq => ?_)
  cases res with
  | error e2 => exact hq.elim
  | ok fl =>
    cases fl with
    | ret u => exact I1.after hq
    | next => exact False.elim hq
    | brk => exact False.elim hq
    | cont => exact False.elim hq
end
end L2.L3
namespace L2.L3
open PySem PySem.Spec PySem.Calls PyProof.Rows
noncomputable def toldD (L : List Str) (F : Str → Mm PyData) (r : Re PyData) : Option PyData := match r with
  | .ok d => some d
  | .ex c => if L.contains c then (match F c with | some (.ok d) => some d | _ => none) else none
section
variable {X : Cx} {L : List Str}
theorem told_body {s : Shared} {σ : St} {H G : Hp} {fl D : Addr} {dn n d0 y : Str} {k : Nat} {r : Re PyData} {d : PyData} {F : Str → Mm PyData} {p1 p2 p3 np p5 p6 p7 p8 hpos pos : Pos} (I : Inv X [] σ H s) (hN : X.N.Nodup) (hst : X.stack = X.env :: X.outer) (hf : X.env.frame = some X.env.locals)
    (hD : excC X.K d0 = some D) (hXD : XCls X.K D) (hcs : ∀ c ∈ L, ∃ C, excC X.K c = some C ∧ XCls X.K C ∧ PySem.W.subIn X.K (.ref C) (.ref D) = some true)
    (K0 : ClsOk X.prog X.w X.K X.mg X.base y k F) (hr : ∀ e, RoomN k (X.A.mark e)) (sm : Same G H ∧ Tabs X.K G H) (ht : toldD L F r = some d)
    (hi : X.N[0]? = some dn) (hj : X.N[1]? = some n) (hσ : σ[0]? = some (some (.ref fl)))
    (hfn : ∀ s', Inv X [] σ H s' → PySem.W.FnAt fl s'.heap)
    (run : ∀ s', Inv X [] σ H s' → codeAny (model X.prog X.w) X.A (.call (.ref fl) ⟨[], []⟩) (CR (CX1 X.prog X.w) X.stack X.prog X.w H s' (QvOf X.K G H r) (QxOf X.K G H r)) s')
    (hk0 : X.env.scope.names.lookup dn = some .local) (hk : X.env.scope.names.lookup n = some .local) (hg : Gl X d0) (hgy : Gl X y)
    (hdb0 : (dn == ("__debug__" : Str)) = false) (hcd0 : (dn == ("__classdict__" : Str)) = false) (hdb : (d0 == ("__debug__" : Str)) = false) (hnd : (n == ("__debug__" : Str)) = false) (hncd : (n == ("__classdict__" : Str)) = false) (hdy : (y == ("__debug__" : Str)) = false)
    (he : starEach [.Name n p6] X.env = (false, eval (.Name n p6) X.env) :: starEach [] X.env) (hpl : (backTo p7 (starEach [] X.env)).any (·.1) = false) :
    wpAny (model X.prog X.w) X.A (exec (.Try [.Return (some (.Call (.Name dn p1) [] [] p2)) p3] [.ExceptHandler (some (.Name d0 np)) (some n) [.Return (some (.Call (.Name y p5) [.Name n p6] [] p7)) p8] hpos] [] [] pos) X.env)
      (SP X [] { nx := fun _ _ => False, rt := fun v H' => ∃ G', Grow G H G' H' ∧ Rep X.K G' v d }) X.xe s := by
  refine wpAny_Try_except ?_
  refine wpAny_execs_cons (wpAny_Return_some (wpAny_mono (deed_call (X := X) I hi hσ (.inl hk0) hdb0 hcd0 hfn run) (fun u s2 ⟨v, H', I', rv, q⟩ => ?_) fun e s2 ⟨a, C, H', e1, ⟨G', C', c, e2, e3, hC, g⟩, I', xa⟩ => ?_))
  · obtain ⟨G', d', rfl, g, rp⟩ := q
    cases ht
    exact ⟨v, σ, H', I', rv, G', g, rp⟩
  · subst e1; cases e2; subst e3
    unfold toldD at ht
    dsimp only at ht
    split at ht
    · rename_i hc
      split at ht
      · rename_i dd hF
        cases ht
        obtain ⟨C'', hE', hXC, hsub⟩ := hcs c (by simpa using hc)
        rw [hC] at hE'; cases hE'
        have xa1 : ExcHere X (fun b => Fresh X b ∧ ∀ p ∈ ([] : List (Addr × Obj)), p.1 ≠ b) H' a C s2.heap := .inl (xa.mono fun b hb => ⟨hb, fun p hp => nomatch hp⟩)
        have nw : ∀ b, s2.heap.get? b = none → Fresh X b ∧ ∀ p ∈ ([] : List (Addr × Obj)), p.1 ≠ b := fun b hb => ⟨inv_new I' hb, fun p hp => nomatch hp⟩
        refine note_any (X := X) I'.ok.frames hst hf I' xa1 nw fun h1 ch1 c1 x1 => ?_
        have I2 := Inv.chg I' c1
        refine fly_ok (X := X) (s := { s2 with heap := h1 }) c1.hok x1 fun h2 ch2 c2 x2 => ?_
        have I3 : Inv X [] σ H' { s2 with heap := h2 } := Inv.chg (s := { s2 with heap := h1 }) I2 c2
        obtain ⟨_, _, oe, vs, xo, _⟩ := (show ExcAt _ H' a C h2 from .inr x2).ob
        have hm : X.mg d0 = some (.ref D) := PySem.W.mg_of I.mod.kin I.mod.glob (excC_is hD)
        refine wpAny_handleBy_cons (codeAny_handlers_test (ld_glob (X := Cx.suite X a) (inv_suite I3 a) hg hm (xc_match hXC hXD I3.kIn xo hsub ?_) hdb)) (by intro z; cases z)
        refine codeAny_handlers_suite_as ?_
        refine fly_ok (X := X) (s := { s2 with heap := h2 }) c2.hok x2 fun h3 ch3 c3 x3 => ?_
        have I4 : Inv X [] σ H' { s2 with heap := h3 } := Inv.chg (s := { s2 with heap := h2 }) I3 c3
        obtain ⟨fa, na, oe3, vs3, xo3, hv3⟩ := (show ExcAt _ H' a C h3 from .inr x3).ob
        have I5 : Inv X [] σ (upd H' a (xcO a C)) { s2 with heap := h3 } := Inv.track I4 fa na ⟨oe3, vs3, xo3.at_, hv3⟩ ⟨⟨oe3, xo3⟩, ⟨oe3, xo3.at_⟩, fun g1 g2 ⟨o1, y⟩ k => ⟨o1, k _ y.at_, y.cls⟩⟩
        have hjσ : 1 < σ.length := by rw [I5.len]; exact (List.getElem?_eq_some_iff.mp hj).1
        refine store_ok (i := 1) (v := .ref a) I5 hN hj (.inl hk) rfl (fun s4 I6 => ?_) (.inr hk)
        have g6 : Grow G H G' (upd H' a (xcO a C)) := g.trans (Grow.side g.sub na)
        have sm6 : Same G' (upd H' a (xcO a C)) ∧ Tabs X.K G' (upd H' a (xcO a C)) := ⟨g6.sub, sm.2.more g6⟩
        have run := cls_call (X := Cx.suite X a) (p := p5) (p2 := p6) (pos := p7) (e := none) (G := G') K0 (hr _) (inv_suite I6 a) hj (by rw [List.getElem?_set_self hjσ]) (.inl hk) hnd hncd sm6 hC upd_same hF hgy hdy he hpl
        refine wpAny_execs_cons (wpAny_Return_some (wpAny_mono run (fun u s5 ⟨v, H5, I7, rv, G5, g5, rp⟩ => ?_) fun _ _ z => False.elim z))
        have I8 := inv_unsuite I7 I.ok
        exact name_goes I8 hN hj hk fun s6 I9 => ⟨v, _, H5, I9, rv, G5, g6.trans g5, rp⟩
      · cases ht
    · cases ht
end
section
variable {P : Program} {w : World} {K : PySem.W.Frag} {mg : Str → Option Value} {base : Heap} {x : Str} {k : Nat} {F : Str → Mm PyData} {L : List Str}
structure DeedOk (P : Program) (w : World) (K : PySem.W.Frag) (mg : Str → Option Value) (base : Heap) (k : Nat) (s : Shared) (H G : Hp) (r : Re PyData) (fl : Addr) : Prop where
  fn : ∀ (s' : Shared) (fs : List Addr), Un fs [] H H s.heap s'.heap → PySem.W.FnAt fl s'.heap
  run : ∀ (A : Around) (outer : List Env) (s' : Shared) (fs : List Addr), Room k A → Env0 P w K mg base A outer s' H → Un fs [] H H s.heap s'.heap → codeAny (model P w) A (.call (.ref fl) ⟨[], []⟩) (CR (CX1 P w) outer P w H s' (QvOf K G H r) (QxOf K G H r)) s'
structure ToldOk (P : Program) (w : World) (K : PySem.W.Frag) (mg : Str → Option Value) (base : Heap) (x : Str) (L : List Str) (F : Str → Mm PyData) : Prop where
  ex : ∃ f, mg x = some (.ref f) ∧ PySem.W.keepIn K (.ref f) = true ∧ ∀ (k : Nat) (A : Around) (outer : List Env) (s : Shared) (H G : Hp) (r : Re PyData) (d : PyData) (fl : Addr), Room (k + 2) A → Env0 P w K mg base A outer s H → (Same G H ∧ Tabs K G H) → DeedOk P w K mg base k s H G r fl → toldD L F r = some d →
    codeAny (model P w) A (.call (.ref f) ⟨[.ref fl], []⟩) (CR CX0 outer P w H s (fun v H' => ∃ G', Grow G H G' H' ∧ Rep K G' v d) E0) s
theorem told_den {st : Stmt} {dn n y : Str} {p1 p2 p3 np p5 p6 p7 p8 hpos pos : Pos} {Dc : Addr} (D : Def K mg x st) (S : FnScope [dn, n] [dn] (defScope st))
    (hD : excC K "SheetError" = some Dc) (hXD : XCls K Dc) (hcs : ∀ c ∈ L, ∃ C, excC K c = some C ∧ XCls K C ∧ PySem.W.subIn K (.ref C) (.ref Dc) = some true) (K0 : ClsOk P w K mg base y 1 F)
    (hB : defBody st = [.Try [.Return (some (.Call (.Name dn p1) [] [] p2)) p3] [.ExceptHandler (some (.Name "SheetError" np)) (some n) [.Return (some (.Call (.Name y p5) [.Name n p6] [] p7)) p8] hpos] [] [] pos])
    (hb : ∀ (kV doc pm : Value) (an : Option Addr) (cdv ct : Value) (us : List Value), us.length = [dn].length → bindArgs (PySem.W.fnOf x x (defArgs st) (defBody st) (defScope st) .none kV doc pm an cdv ct) ⟨us, []⟩ = pure ([dn].zip us))
    (hk0 : (defScope st).names.lookup dn = some .local) (hk : (defScope st).names.lookup n = some .local)
    (hg : (defScope st).names.lookup ("SheetError" : Str) = some .globalImplicit) (hgy : (defScope st).names.lookup y = some .globalImplicit)
    (hdb0 : (dn == ("__debug__" : Str)) = false) (hcd0 : (dn == ("__classdict__" : Str)) = false) (hnd : (n == ("__debug__" : Str)) = false) (hncd : (n == ("__classdict__" : Str)) = false) (hdy : (y == ("__debug__" : Str)) = false) :
    ToldOk P w K mg base x L F := by
  obtain ⟨fa, fd, Fu, hmg⟩ := D.ex
  refine ⟨fa, hmg, Fu.kp, fun k A outer s H G r d fl hr e0 sm Dd ht => ?_⟩
  have bd := Fu.binds hb
  obtain ⟨oc, od, kV, doc, pm, an, cdv, ct, osl, rfl, lk, hcd⟩ := Fu.ex
  have KX : K.In s.heap := e0.mod.kin.keeps fun b o e => (e0.bs b o e).1
  have lim : s.heap.NoLimit := e0.mod.nolimit.keeps fun b o e => (e0.bs b o e).1
  have hkind : ∀ z ∈ [dn].zip [Value.ref fl], (defScope st).names.lookup z.1 = some .local ∨ ((defScope st).names.lookup z.1 = some .cell ∧ ((cellsFrom (s.heap.objs.size + 1) (defScope st).names []).lookup z.1).isSome = true) := fun ⟨n, v⟩ hy => by
    rcases S.par n (List.of_mem_zip hy).1 with q | q
    · exact .inl q
    · exact .inr ⟨q, PySem.W.cellsFrom_some _ _ _ (.inl q)⟩
  refine codeAny_call_function hr.depth (KX _ _ lk) rfl S.co S.gen rfl (PySem.W.codeRec_of KX hcd) (bd s [.ref fl] KX rfl _ _ _ _ ?_)
  refine wpAny_newFunctionEnv_cells S.kind hkind fun env he s1 xx => ?_
  subst he
  refine ⟨lim.keeps xx.toInCall.keep, codeAny_func ?_⟩
  have I : Inv (cxOf CX0 P w K mg base [dn, n] x (defScope st) fa cdv A outer s H E0) [] (start [dn, n] [.ref fl]) H s1 := inv_start S hr.hd e0 rfl (.cons rfl .nil) xx
  rw [hB]
  have hr1 : Room (k + 1) (A.deeper (envOfC x (defScope st) s.heap.objs.size fa cdv)) := hr.deeper _
  have main := told_body (X := cxOf CX0 P w K mg base [dn, n] x (defScope st) fa cdv A outer s H E0) (p1 := p1) (p2 := p2) (p3 := p3) (np := np) (p5 := p5) (p6 := p6) (p7 := p7) (p8 := p8) (hpos := hpos) (pos := pos) I S.nd rfl rfl hD hXD hcs K0 (fun e => Room.n (hr1.mono (by omega) : Room 1 _) e) sm ht rfl rfl rfl (fun s' I' => Dd.fn s' _ I'.base)
    (fun s' I' => Dd.run _ _ s' _ (hr1.mono (by omega)) I'.env0 I'.base) hk0 hk hg hgy hdb0 hcd0 (by decide) hnd hncd hdy rfl rfl
  refine wpAny_execs_cons (wpAny_mono main (fun f s' q => ?_) fun _ _ z => z)
  cases f with
  | next => obtain ⟨_, _, _, z⟩ := q; exact z.elim
  | brk => obtain ⟨_, _, _, z⟩ := q; exact z.elim
  | cont => obtain ⟨_, _, _, z⟩ := q; exact z.elim
  | ret u =>
    obtain ⟨v, σ', H', J, rv, q⟩ := q
    exact ⟨v, H', J.os, J.bare, J.base, J.hok, rv, q⟩
end
end L2.L3
namespace L2.L3
open PySem PySem.Spec PySem.Calls PyProof.Rows
noncomputable def toldE (L : List Str) (F : Str → Mm PyData) (cap : List (Option Nat)) (fe : EF) : EF := fun ρ => match fe (capE cap ρ) with
  | some r => lft (toldD L F r)
  | none => none
section
variable {X : Cx}
theorem caps_of {scope : Scope} {N' : List Str} {cap : List (Option Nat)} {pins : List (Addr × Obj)} {σ : St} {H : Hp} {s : Shared} (B : Blk X scope N' cap) (I : Inv X pins σ H s) : Caps (clOf scope X.env) scope N' (capSt cap σ) H s.heap := by
  have cl : ∀ x c, (clOf scope X.env).lookup x = some c → X.env.cells.lookup x = some c := fun x c h => clOf_of h
  refine ⟨fun x y c h1 h2 => I.ok.inj x y c (cl x c h1) (cl y c h2), fun x h => ?_, fun x c h => ⟨I.freeC x c (cl x c h), I.cell x c (cl x c h)⟩, fun i x v e1 e2 => ?_, by unfold capSt; rw [List.length_map]; exact B.len⟩
  · have hm := PySem.mem_of_lookup h
    obtain ⟨c, e⟩ := I.ok.has x (.inl (B.free _ hm rfl))
    exact ⟨c, clOf_has hm e⟩
  · unfold capSt at e2
    rw [List.getElem?_map] at e2
    cases hc : cap[i]? with
    | none => rw [hc] at e2; cases e2
    | some o =>
      rw [hc] at e2
      cases o with
      | none => cases e2
      | some j =>
        have e3 : (σ[j]?).getD none = some v := Option.some.inj e2
        have e4 : σ[j]? = some (some v) := by
          cases q : σ[j]? with
          | none => rw [q] at e3; cases e3
          | some w' => rw [q] at e3; have : w' = some v := e3; rw [this]
        obtain ⟨y, h1, h2, h3⟩ := B.caps i j hc
        rw [e1] at h1
        cases h1
        have hcell : X.env.kindOf x = some .cell := B.free _ (PySem.mem_of_lookup h3) rfl
        obtain ⟨m, _, hl⟩ := I.loc
        obtain ⟨u, r, l⟩ := hl j x v h2 e4 (.inr (.inl hcell))
        rcases l with ⟨k, _⟩ | ⟨_, c, e, z⟩
        · rw [hcell] at k; cases k
        · exact ⟨h3, u, c, r, clOf_has (PySem.mem_of_lookup h3) e, z⟩
theorem de_told {x q : Str} {L : List Str} {F : Str → Mm PyData} {k : Nat} {c T : Addr} {params : Arguments} {body : Expr} {scope : Scope} {lp p pos : Pos} {N' : List Str} {cap : List (Option Nat)} {fe : EF} (T0 : ToldOk X.prog X.w X.K X.mg X.base x L F) (hx : q ∈ lamNames) (ht : PySem.W.tabIn X.K q = some (c, T)) (hcode : X.env.code = .ref c)
    (hq : X.env.qual ++ "<lambda>" = lamQ q) (C : PySem.W.codeHdIn X.K c T = true) (M : BM X.mg X.base) (hr : Room (k + 3) X.A) (B : Blk X scope N' cap) (hnc : ∀ y ∈ scope.names, y.2 ≠ .cell)
    (hbody : ∀ (f c : Addr) (cl : List (Str × Addr)) (A : Around) (outer : List Env) (s : Shared) (H : Hp) (E : XK), Room k (A.deeper (lamE (lamQ q) scope s.heap.objs.size f (.ref c) cl)) → DE (cxL X.prog X.w X.K X.mg X.base N' (lamE (lamQ q) scope s.heap.objs.size f (.ref c) cl) A outer s H E) body fe)
    (hbind : ∀ (pm ct : Value) (c : Addr) (cl : List (Str × Addr)), bindArgs (PySem.W.kla_fn "<lambda>" (lamQ q) params body scope cl pm (.ref c) ct) ⟨[], []⟩ = pure [] := by intros; rfl)
    (hco : scope.isCoroutine = false := by rfl) (hge : scope.isGenerator = false := by rfl) (hdef : defaultsOf params X.env = ([], []) := by rfl)
    (he : starEach [.Lambda params body scope lp] X.env = (false, eval (.Lambda params body scope lp) X.env) :: starEach [] X.env := by rfl) (hpl : (backTo pos (starEach [] X.env)).any (·.1) = false := by rfl) (hg : Gl X x := by rfl) (hdb : (x == ("__debug__" : Str)) = false := by decide) :
    DE X (.Call (.Name x p) [.Lambda params body scope lp] [] pos) (toldE L F cap fe) := ⟨fun pins s σ H Q I ⟨ρ, r0, H0, G₀, G, e, R, qq⟩ => by
  unfold toldE at e
  split at e
  · rename_i r er
    obtain ⟨d, ed, rfl⟩ := lft_is e
    obtain ⟨f, hm, kp, run⟩ := T0.ex
    refine wpAny_Call_Name_kw (ld_glob I hg hm ?_ hdb)
    refine PySem.W.callWith_K (h₀ := X.base) I.ok.mod.kin kp ?_ he hpl
    rw [he]
    show wpAny _ _ (spliced ((false, eval (.Lambda params body scope lp) X.env) :: backTo pos (starEach [] X.env))) _ _ s
    refine Calls.spliced_cons (lam_make hx ht hcode hq C M hdef (clOf_closure fun p hp hk => I.ok.has p.1 (.inl (B.free p hp hk))) I R fun fl c' ct pm H2 s2 I2 g2 fo Hf sf hc' => ?_)
    show wpAny _ _ (spliced []) _ _ s2
    refine Calls.spliced_nil ⟨I2.kIn, ?_⟩
    have R2 := R.more g2
    have dd : DeedOk X.prog X.w X.K X.mg X.base (k + 1) s2 H2 G r fl := by
      refine ⟨fun s' fs un => ?_, fun A outer s' fs hrA e0 un => ?_⟩
      · obtain ⟨sl, z⟩ := un.any fo Hf (by simp)
        exact ⟨_, _, _, _, z⟩
      · obtain ⟨sl, z⟩ := un.any fo Hf (by simp)
        exact deed_run hrA e0 z rfl (e0.hok c' _ hc').1 B.kind hco hge hnc (hbind pm ct c' _) (hbody _ _ _ _ _ _ _ _ (hrA.deeper _)) ((caps_of B I2).more un) (R2.cap cap) er
    refine wpAny_call (codeAny_mono (run (k + 1) X.A X.stack s2 H2 G r d fl hr I2.env0 ⟨R2.sub, R2.tab⟩ dd ed) fun res s' hq => ?_)
    cases res with
    | error e2 => exact hq.elim
    | ok fl =>
      cases fl with
      | ret u =>
        obtain ⟨v, H', I', rv, G', g', rp⟩ := I2.after hq
        exact ⟨v, H', I', rv, qq v G' H' (g2.trans g') rp⟩
      | next => exact False.elim hq
      | brk => exact False.elim hq
      | cont => exact False.elim hq
  · cases e⟩
end
noncomputable def exOkG (L : List Str) (K : PySem.W.Frag) : Bool := match excC K "SheetError" with
  | some S => xclsB K S && L.all (exOkC K S) && (L.all fun c => L.all fun d => exOkD K c d)
  | none => false
structure ExG (L : List Str) (K : PySem.W.Frag) : Prop where
  ok : exOkG L K = true
section
variable {L : List Str} {K : PySem.W.Frag}
theorem ExG.l (F : ExG L K) : ExL L K := ⟨by
  have h := F.ok
  unfold exOkG at h
  unfold exOkL
  split at h
  · rename_i S hS
    rw [Bool.and_eq_true] at h; first | exact h.1 | (rw [hS]; exact h.1)
  · cases h⟩
theorem ExG.one (F : ExG L K) {c : Str} (hc : c ∈ L) : ∃ C, excC K c = some C ∧ XCls K C ∧ PySem.W.typeIn K (.ref C) = some (.type "type") ∧ PySem.W.subIn K (.ref C) (.type "ValueError") = some true := by
  have h := F.ok
  unfold exOkG at h
  split at h
  · rename_i S hS
    rw [Bool.and_eq_true, Bool.and_eq_true] at h
    have h2 := List.all_eq_true.mp h.1.2 c hc
    unfold exOkC at h2
    split at h2
    · rename_i C hC
      simp only [Bool.and_eq_true, beq_iff_eq] at h2
      exact ⟨C, hC, xcls_of h2.1.1.1, h2.1.1.2, h2.1.2⟩
    · cases h2
  · cases h
theorem ExG.two (F : ExG L K) {c d : Str} (hc : c ∈ L) (hd : d ∈ L) (n : c ≠ d) {C D : Addr} (eC : excC K c = some C) (eD : excC K d = some D) : C ≠ D ∧ PySem.W.subIn K (.ref C) (.ref D) = some false := by
  have h := F.ok
  unfold exOkG at h
  split at h
  · rw [Bool.and_eq_true, Bool.and_eq_true] at h
    have h2 := List.all_eq_true.mp (List.all_eq_true.mp h.2 c hc) d hd
    unfold exOkD at h2
    rw [eC, eD] at h2
    rcases Bool.or_eq_true_iff.mp h2 with z | z
    · exact absurd (beq_iff_eq.mp z) n
    · simp only [Bool.and_eq_true, beq_iff_eq, bne_iff_ne] at z
      exact z
  · cases h
end
section
variable {X : Cx} {pos p p2 : Pos} {x : Str} {L : List Str}
noncomputable def isxG (L : List Str) (i : Nat) (d : Str) : EF := fun ρ => match ρ[i]? with
  | some (.exc c) => if L.contains c then some (.ok (.bool (c == d))) else none
  | _ => none
theorem de_isxG (i : Nat) {d : Str} (F : ExG L X.K) (hm : X.mg "isinstance" = none) (hd' : d ∈ L := by decide) (hN : X.N[i]? = some x := by rfl) (hv : Vis X.env.scope x := by first | exact Or.inl rfl | exact Or.inr (Or.inl rfl) | exact Or.inr (Or.inr rfl)) (hd : (x == ("__debug__" : Str)) = false := by decide)
    (hcd : (x == ("__classdict__" : Str)) = false := by decide) (hdd : (d == ("__debug__" : Str)) = false := by decide)
    (he : starEach [.Name x p, .Name d p2] X.env = (false, eval (.Name x p) X.env) :: starEach [.Name d p2] X.env := by rfl) (he2 : starEach [.Name d p2] X.env = (false, eval (.Name d p2) X.env) :: starEach [] X.env := by rfl)
    (hpl : (backTo pos (starEach [.Name d p2] X.env)).any (·.1) = false := by rfl) (hg : Gl X "isinstance" := by rfl) (hgd : Gl X d := by rfl) {pi : Pos} : DE X (.Call (.Name "isinstance" pi) [.Name x p, .Name d p2] [] pos) (isxG L i d) := ⟨fun pins s σ H Q I ⟨ρ, r, H0, G₀, G, e, R, q⟩ => by
  obtain ⟨D, hD, xD, tD', _⟩ := F.one hd'
  have hmd : X.mg d = some (.ref D) := PySem.W.mg_of I.mod.kin I.mod.glob (excC_is hD)
  have hc : CallR X (.builtin "isinstance") (fun xs H Q => ∃ a C c, xs = [.ref a, .ref D] ∧ c ∈ L ∧ excC X.K c = some C ∧ H a = some (xcO a C) ∧ Q (.bl (c == d)) H) := by
    intro pins s σ H xs us Q I r ⟨a, C, c, e1, hcn, hC, hH, q⟩
    subst e1
    obtain ⟨u, w', rfl, r1, r2⟩ := vals2 r
    cases r1; cases r2
    obtain ⟨⟨ox, xo⟩, _⟩ := I.hok a _ hH
    obtain ⟨C', hC', xC, _⟩ := F.one hcn
    rw [hC] at hC'; cases hC'
    by_cases h : c = d
    · subst h
      rw [hC] at hD; cases hD
      refine xc_is I.kIn xo (by unfold PySem.W.isIn; simp) ⟨.bl (c == c), H, I, by show Value.bool true = Value.bool (c == c); simp, q⟩
    · obtain ⟨n1, n2⟩ := F.two hcn hd' h hC hD
      exact xc_isnot xC xD I.kIn xo n1 tD' n2 ⟨.bl (c == d), H, I.tok _, by show Value.bool false = Value.bool (c == d); simp [h], q⟩
  refine pe_callB hc hg hm boot_isinstance (pa_cons (pe_var hN hv hd hcd) (pa_cons (pe_glob (v := .ref D) hgd hmd rfl hdd) pa_nil he2) he) (by decide) (by decide) he hpl pins s σ H Q I ?_
  unfold isxG at e
  split at e
  · rename_i c hi
    split at e
    · rename_i hcn
      cases (Option.some.inj e)
      obtain ⟨o, eo, a, C, rfl, hC, hH⟩ := R.at hi
      exact ⟨_, eo, a, C, c, rfl, by simpa using hcn, hC, hH, q _ G H (.refl R.sub) (.bool _)⟩
    · cases e
  · cases e⟩
noncomputable def isxW (L : List Str) (i : Nat) : EF := fun ρ => match ρ[i]? with
  | some (.exc c) => if L.contains c then some (.ok (.bool true)) else none
  | _ => none
theorem de_isxW (i : Nat) (F : ExG L X.K) (hm : X.mg "isinstance" = none) (hmV : X.mg "ValueError" = none) (hN : X.N[i]? = some x := by rfl) (hv : Vis X.env.scope x := by first | exact Or.inl rfl | exact Or.inr (Or.inl rfl) | exact Or.inr (Or.inr rfl)) (hd : (x == ("__debug__" : Str)) = false := by decide)
    (hcd : (x == ("__classdict__" : Str)) = false := by decide)
    (he : starEach [.Name x p, .Name "ValueError" p2] X.env = (false, eval (.Name x p) X.env) :: starEach [.Name "ValueError" p2] X.env := by rfl) (he2 : starEach [.Name "ValueError" p2] X.env = (false, eval (.Name "ValueError" p2) X.env) :: starEach [] X.env := by rfl)
    (hpl : (backTo pos (starEach [.Name "ValueError" p2] X.env)).any (·.1) = false := by rfl) (hg : Gl X "isinstance" := by rfl) (hgd : Gl X "ValueError" := by rfl) {pi : Pos} : DE X (.Call (.Name "isinstance" pi) [.Name x p, .Name "ValueError" p2] [] pos) (isxW L i) := ⟨fun pins s σ H Q I ⟨ρ, r, H0, G₀, G, e, R, q⟩ => by
  have hc : CallR X (.builtin "isinstance") (fun xs H Q => ∃ a C c, xs = [.ref a, .ty "ValueError"] ∧ c ∈ L ∧ excC X.K c = some C ∧ H a = some (xcO a C) ∧ Q (.bl true) H) := by
    intro pins s σ H xs us Q I r ⟨a, C, c, e1, hcn, hC, hH, q⟩
    subst e1
    obtain ⟨u, w', rfl, r1, r2⟩ := vals2 r
    cases r1; cases r2
    obtain ⟨⟨ox, xo⟩, _⟩ := I.hok a _ hH
    obtain ⟨C', hC', xC, _, sV⟩ := F.one hcn
    rw [hC] at hC'; cases hC'
    exact xc_isT I.kIn xo ty_VE sV ⟨.bl true, H, I, rfl, q⟩
  refine pe_callB hc hg hm boot_isinstance (pa_cons (pe_var hN hv hd hcd) (pa_cons (pe_bltn (v := .ty "ValueError") hgd hmV (by decide +kernel) rfl (by decide) (by decide)) pa_nil he2) he) (by decide) (by decide) he hpl pins s σ H Q I ?_
  unfold isxW at e
  split at e
  · rename_i c hi
    split at e
    · rename_i hcn
      cases (Option.some.inj e)
      obtain ⟨o, eo, a, C, rfl, hC, hH⟩ := R.at hi
      exact ⟨_, eo, a, C, c, rfl, by simpa using hcn, hC, hH, q _ G H (.refl R.sub) (.bool _)⟩
    · cases e
  · cases e⟩
noncomputable def exN8 : List Str := ["NoBack", "NoMeeting", "NoSheet", "NoText", "NoTime", "NoZone", "Taken", "TooMany"]
end
end L2.L3
namespace L2.L3
open PySem
section
variable {α β : Type} {ρ : List Ent} {fa fb fc fd : EF} {ft fu : TF} {aa : AF} {d e : PyData} {i j k : Int}
@[simp] theorem bnd_r (a : α) (k : α → Mm β) : bnd (some (.ok a)) k = k a := rfl
@[simp] theorem bnd_x (c : Str) (k : α → Mm β) : bnd (some (.ex c)) k = some (.ex c) := rfl
@[simp] theorem bns_r (a : α) (k : α → Option So) : bns (some (.ok a)) ρ k = k a := rfl
@[simp] theorem bns_x (c : Str) (k : α → Option So) : bns (some (.ex c)) ρ k = some (.xc c ρ) := rfl
@[simp] theorem lft_s (a : α) : lft (some a) = some (.ok a) := rfl
@[simp] theorem cst_e : cst d ρ = some (.ok d) := rfl
@[simp] theorem var_0 (d : PyData) (r : List Ent) : var 0 (.val d :: r) = some (.ok d) := rfl
@[simp] theorem var_s (n : Nat) (x : Ent) (r : List Ent) : var (n + 1) (x :: r) = var n r := rfl
@[simp] theorem op2_e (g : PyData → PyData → Option PyData) : op2 g fa fb ρ = bnd (fa ρ) fun x => bnd (fb ρ) fun y => lft (g x y) := rfl
@[simp] theorem op1_e (g : PyData → Option PyData) : op1 g fa ρ = bnd (fa ρ) fun x => lft (g x) := rfl
@[simp] theorem aNil_e : aNil ρ = some (.ok []) := rfl
@[simp] theorem aCons_e : aCons fa aa ρ = bnd (fa ρ) fun x => bnd (aa ρ) fun xs => some (.ok (x :: xs)) := rfl
@[simp] theorem tupE_e : tupE aa ρ = bnd (aa ρ) fun xs => lft (mkTup xs) := rfl
@[simp] theorem lstE_e : lstE aa ρ = bnd (aa ρ) fun xs => lft (mkLst xs) := rfl
@[simp] theorem szOk_e (n : Nat) : szOk n = decide (n ≤ 100000) := rfl
@[simp] theorem mkTup_e (ds : List PyData) : mkTup ds = if ds.length ≤ 100000 then some (.tuple ds) else none := by unfold mkTup szOk; by_cases h : ds.length ≤ 100000 <;> simp [h]
@[simp] theorem mkLst_e (ds : List PyData) : mkLst ds = if ds.length ≤ 100000 then some (.list ds) else none := by unfold mkLst szOk; by_cases h : ds.length ≤ 100000 <;> simp [h]
@[simp] theorem cmpE_e (g : PyData → PyData → Option Bool) : cmpE g fa fb ρ = bnd (fa ρ) fun x => bnd (fb ρ) fun y => lft ((g x y).map .bool) := rfl
@[simp] theorem cmpT_e (g : PyData → PyData → Option Bool) : cmpT g fa fb ρ = bnd (fa ρ) fun x => bnd (fb ρ) fun y => lft (g x y) := rfl
@[simp] theorem chnE_e (g g' : PyData → PyData → Option Bool) : chnE g g' fa fb fc ρ = bnd (fa ρ) fun x => bnd (fb ρ) fun y => bnd (lft (g x y)) fun t => if t then bnd (fc ρ) fun z => lft ((g' y z).map .bool) else some (.ok (.bool false)) := rfl
@[simp] theorem chnT_e (g g' : PyData → PyData → Option Bool) : chnT g g' fa fb fc ρ = bnd (fa ρ) fun x => bnd (fb ρ) fun y => bnd (lft (g x y)) fun t => if t then bnd (fc ρ) fun z => lft (g' y z) else some (.ok false) := rfl
@[simp] theorem truT_e : truT fa ρ = bnd (fa ρ) fun x => lft (truD x) := rfl
@[simp] theorem truD_b (b : Bool) : truD (.bool b) = some b := rfl
@[simp] theorem truD_l (ds : List PyData) : truD (.list ds) = some (!ds.isEmpty) := rfl
@[simp] theorem truD_t (ds : List PyData) : truD (.tuple ds) = some (!ds.isEmpty) := rfl
@[simp] theorem truD_i (i : Int) : truD (.int i) = some (i != 0) := rfl
@[simp] theorem truD_n : truD .none = some false := rfl
@[simp] theorem notT_e : notT ft ρ = bnd (ft ρ) fun t => some (.ok (!t)) := rfl
@[simp] theorem notE_e : notE fa ρ = bnd (fa ρ) fun x => lft ((boolD x).map fun t => .bool (!t)) := rfl
@[simp] theorem boolD_b (b : Bool) : boolD (.bool b) = some b := rfl
@[simp] theorem intD_i (i : Int) : intD (.int i) = some i := rfl
@[simp] theorem strD_s (i : Str) : strD (.str i) = some i := rfl
@[simp] theorem andT_e : andT ft fu ρ = bnd (ft ρ) fun t => if t then fu ρ else some (.ok false) := rfl
@[simp] theorem orT_e : orT ft fu ρ = bnd (ft ρ) fun t => if t then some (.ok true) else fu ρ := rfl
@[simp] theorem andE_e : andE fa fb ρ = bnd (fa ρ) fun x => bnd (lft (boolD x)) fun t => if t then fb ρ else some (.ok (.bool false)) := rfl
@[simp] theorem orE_e : orE fa fb ρ = bnd (fa ρ) fun x => bnd (lft (boolD x)) fun t => if t then some (.ok (.bool true)) else fb ρ := rfl
@[simp] theorem ifE_e : ifE ft fa fb ρ = bnd (ft ρ) fun t => if t then fa ρ else fb ρ := rfl
@[simp] theorem bltE_e (g : List PyData → Option PyData) : bltE g aa ρ = bnd (aa ρ) fun xs => lft (g xs) := rfl
@[simp] theorem callE_e (F : List PyData → Mm PyData) : callE F aa ρ = bnd (aa ρ) fun ds => (match F ds with | some (.ok d) => some (.ok d) | _ => none) := rfl
@[simp] theorem add_ii : addD (.int i) (.int j) = some (.int (i + j)) := rfl
@[simp] theorem sub_ii : subD (.int i) (.int j) = some (.int (i - j)) := rfl
@[simp] theorem neg_i : negD (.int i) = some (.int (-i)) := rfl
@[simp] theorem add_tt (a b : List PyData) : addD (.tuple a) (.tuple b) = if a.length + b.length ≤ 100000 then some (.tuple (a ++ b)) else none := by
  show (if szOk (a.length + b.length) = true then _ else _) = _
  by_cases h : a.length + b.length ≤ 100000 <;> simp [h]
@[simp] theorem add_ll (a b : List PyData) : addD (.list a) (.list b) = if a.length + b.length ≤ 100000 then some (.list (a ++ b)) else none := by
  show (if szOk (a.length + b.length) = true then _ else _) = _
  by_cases h : a.length + b.length ≤ 100000 <;> simp [h]
@[simp] theorem lt_ii : ltD (.int i) (.int j) = some (decide (i < j)) := rfl
@[simp] theorem le_ii : leD (.int i) (.int j) = some (decide (i ≤ j)) := rfl
@[simp] theorem gt_ii : gtD (.int i) (.int j) = some (decide (j < i)) := rfl
@[simp] theorem ge_ii : geD (.int i) (.int j) = some (decide (j ≤ i)) := rfl
@[simp] theorem eq_ii : eqD (.int i) (.int j) = some (decide (i = j)) := rfl
@[simp] theorem ne_ii : neD (.int i) (.int j) = some (!decide (i = j)) := rfl
@[simp] theorem eq_ss (a b : Str) : eqD (.str a) (.str b) = some (decide (a = b)) := rfl
@[simp] theorem ne_ss (a b : Str) : neD (.str a) (.str b) = some (!decide (a = b)) := rfl
@[simp] theorem eq_bb (a b : Bool) : eqD (.bool a) (.bool b) = some (decide (a = b)) := rfl
@[simp] theorem ne_bb (a b : Bool) : neD (.bool a) (.bool b) = some (!decide (a = b)) := rfl
@[simp] theorem mod_ii : modD (.int i) (.int j) = if 0 < j then some (.int (i % j)) else none := rfl
@[simp] theorem fdv_ii : fdvD (.int i) (.int j) = if 0 < j ∧ j < 1073741824 then some (.int (i / j)) else none := rfl
theorem mul_iiR (h1 : -(2 ^ 64) < j) (h2 : j < 2 ^ 64) : mulD (.int i) (.int j) = some (.int (i * j)) := by
  show (if (smallI i || smallI j) = true then _ else _) = _
  rw [if_pos]; simp [smallI]; right; omega
theorem mul_iiL (h1 : -(2 ^ 64) < i) (h2 : i < 2 ^ 64) : mulD (.int i) (.int j) = some (.int (i * j)) := by
  show (if (smallI i || smallI j) = true then _ else _) = _
  rw [if_pos]; simp [smallI]; left; omega
@[simp] theorem len_l (xs : List PyData) : lenD [.list xs] = some (.int xs.length) := rfl
@[simp] theorem len_t (xs : List PyData) : lenD [.tuple xs] = some (.int xs.length) := rfl
@[simp] theorem max_ii : maxD [.int i, .int j] = some (.int (max i j)) := rfl
@[simp] theorem min_ii : minD [.int i, .int j] = some (.int (min i j)) := rfl
@[simp] theorem tup_l (xs : List PyData) : tupD [.list xs] = some (.tuple xs) := rfl
@[simp] theorem tup_t (xs : List PyData) : tupD [.tuple xs] = some (.tuple xs) := rfl
@[simp] theorem lst_l (xs : List PyData) : lstD [.list xs] = some (.list xs) := rfl
@[simp] theorem lst_t (xs : List PyData) : lstD [.tuple xs] = some (.list xs) := rfl
@[simp] theorem int_b (b : Bool) : intC [.bool b] = some (.int (if b then 1 else 0)) := rfl
@[simp] theorem seqI_e : seqI fa ρ = bnd (fa ρ) fun x => lft (seqD x) := rfl
@[simp] theorem seqD_l (ds : List PyData) : seqD (.list ds) = some ds := rfl
@[simp] theorem seqD_t (ds : List PyData) : seqD (.tuple ds) = some ds := rfl
@[simp] theorem ixD_t (ds : List PyData) : ixD (.tuple ds) (.int i) = atI ds i := rfl
@[simp] theorem ixD_l (ds : List PyData) : ixD (.list ds) (.int i) = atI ds i := rfl
theorem atI_nn {xs : List α} (n : Nat) : atI xs (n : Int) = xs[n]? := by
  unfold atI ixN
  rw [if_pos (by omega)]
  by_cases h : n < xs.length
  · rw [if_pos (by omega)]; simp
  · rw [if_neg (by omega)]; rw [List.getElem?_eq_none (by omega)]; rfl
@[simp] theorem at_0 (a : α) (r : List α) : atI (a :: r) 0 = some a := by
  unfold atI ixN
  rw [if_pos (by decide), if_pos (by simp <;> omega)]; rfl
@[simp] theorem at_1 (a b : α) (r : List α) : atI (a :: b :: r) 1 = some b := by
  unfold atI ixN
  rw [if_pos (by decide), if_pos (by simp <;> omega)]; rfl
@[simp] theorem at_2 (a b c : α) (r : List α) : atI (a :: b :: c :: r) 2 = some c := by
  unfold atI ixN
  rw [if_pos (by decide), if_pos (by simp <;> omega)]; rfl
@[simp] theorem at_3 (a b c d : α) (r : List α) : atI (a :: b :: c :: d :: r) 3 = some d := by
  unfold atI ixN
  rw [if_pos (by decide), if_pos (by simp <;> omega)]; rfl
@[simp] theorem nilS_e : nilS ρ = some (.nx ρ) := rfl
@[simp] theorem retS_e : retS fa ρ = bns (fa ρ) ρ fun d => some (.rt d) := rfl
@[simp] theorem exprS_e : exprS fa ρ = bns (fa ρ) ρ fun _ => some (.nx ρ) := rfl
@[simp] theorem setS_e (i : Nat) : setS i fa ρ = bns (fa ρ) ρ fun d => some (.nx (ρ.set i (.val d))) := rfl
@[simp] theorem unpS_e (t : Tg) : unpS t fa ρ = bns (fa ρ) ρ fun d => (tgD t ρ d).map So.nx := rfl
@[simp] theorem ifS_e (f g : SF) : ifS ft f g ρ = bns (ft ρ) ρ fun t => if t then f ρ else g ρ := rfl
@[simp] theorem forS_e (t : Tg) (fb : SF) : forS t aa fb ρ = bns (aa ρ) ρ fun ds => loopS t fb ds ρ := rfl
@[simp] theorem newS_e (i : Nat) : newS i aa ρ = bns (aa ρ) ρ fun ds => if ds.length ≤ 100000 then some (.nx (ρ.set i (.lst ds))) else none := by
  unfold newS szOk; cases aa ρ with
  | none => rfl
  | some r => cases r with
    | ok ds => by_cases h : ds.length ≤ 100000 <;> simp [bns, h]
    | ex c => rfl
theorem seqS_nx {f g : SF} {ρ' : List Ent} (h : f ρ = some (.nx ρ')) : seqS f g ρ = g ρ' := by unfold seqS; rw [h]
theorem seqS_rt {f g : SF} (h : f ρ = some (.rt d)) : seqS f g ρ = some (.rt d) := by unfold seqS; rw [h]
@[simp] theorem tg_nm (i : Nat) : tgD (.nm i) ρ d = some (ρ.set i (.val d)) := rfl
@[simp] theorem tg_tp2 (i j : Nat) (a b : PyData) : tgD (.tp [i, j]) ρ (.tuple [a, b]) = some ((ρ.set i (.val a)).set j (.val b)) := rfl
@[simp] theorem tg_tp3 (i j k : Nat) (a b c : PyData) : tgD (.tp [i, j, k]) ρ (.tuple [a, b, c]) = some (((ρ.set i (.val a)).set j (.val b)).set k (.val c)) := rfl
@[simp] theorem tg_tp4 (i j k l : Nat) (a b c d : PyData) : tgD (.tp [i, j, k, l]) ρ (.tuple [a, b, c, d]) = some ((((ρ.set i (.val a)).set j (.val b)).set k (.val c)).set l (.val d)) := rfl
end
end L2.L3
namespace L2.L3
open PySem
end L2.L3
namespace L2.L3
open PySem
theorem atI_getD {α : Type} {xs : List α} {p : Int} (h0 : 0 ≤ p) (h1 : p < xs.length) (dflt : α) : atI xs p = some (xs.getD p.toNat dflt) := by
  have e : ((p.toNat : Nat) : Int) = p := by omega
  have lt : p.toNat < xs.length := by omega
  have q := atI_nn (xs := xs) p.toNat
  rw [e] at q
  rw [q]
  simp [List.getD, List.getElem?_eq_getElem lt]
theorem getD_map {α β : Type} (f : α → β) (xs : List α) (i : Nat) (d : α) : (xs.map f).getD i (f d) = f (xs.getD i d) := by
  simp only [List.getD, List.getElem?_map]
  cases xs[i]? <;> rfl
theorem atI_map {α β : Type} (f : α → β) {xs : List α} {p : Int} (h0 : 0 ≤ p) (h1 : p < xs.length) (dflt : α) : atI (xs.map f) p = some (f (xs.getD p.toNat dflt)) := by
  rw [atI_getD h0 (by rw [List.length_map]; exact h1) (f dflt), getD_map]
noncomputable def cellOf (ns : List Int) (k : Int) : Int :=
  if k < ns.length then ns.getD k.toNat 0 else if ns = [] then 0 else ns.getD (k % (ns.length : Int)).toNat 0 * 31 + k
noncomputable def drawnOf (ns : List Int) (k : Int) : Int := (cellOf ns k + 6151 * (k + 1)) * 40692 % 2147483399
noncomputable def pickOf (ns : List Int) (k many : Int) : Int := (drawnOf ns k * drawnOf ns k + drawnOf ns k / 31) % 2147483629 % many
theorem pick_lo (ns : List Int) (k : Int) {many : Int} (h : 0 < many) : 0 ≤ pickOf ns k many := Int.emod_nonneg _ (by omega)
theorem pick_hi (ns : List Int) (k : Int) {many : Int} (h : 0 < many) : pickOf ns k many < many := Int.emod_lt_of_pos _ h
noncomputable abbrev dN (ns : List Int) : PyData := .list (ns.map .int)
theorem sh_list {ds : List PyData} {n : Nat} (h1 : ∀ d ∈ ds, PyData.canLay0 d = true) (h2 : ∀ d ∈ ds, PyData.depth d ≤ n) (h3 : n < 64) : SeqAt.shaped (.list ds) = true := by
  refine shaped_of (n := n + 1) ?_ ?_ h3
  · rw [PyData.canLay0]; exact canLayAll_of h1
  · rw [PyData.depth]; have := depthAll_of h2; omega
theorem sh_ints (ns : List Int) : SeqAt.shaped (.list (ns.map .int)) = true := sh_list (n := 1) (fun d hd => by obtain ⟨i, _, rfl⟩ := List.mem_map.mp hd; simp [PyData.canLay0]) (fun d hd => by obtain ⟨i, _, rfl⟩ := List.mem_map.mp hd; simp [PyData.depth]) (by decide)
theorem eq_lists {a b : List PyData} (h1 : SeqAt.shaped (.list a) = true) (h2 : SeqAt.shaped (.list b) = true) : eqD (.list a) (.list b) = some (PyData.eqvAll a b) := by
  show (if (SeqAt.shaped (.list a) && SeqAt.shaped (.list b)) = true then some (PyData.eqv (.list a) (.list b)) else none) = _
  rw [h1, h2, if_pos (by rfl), eqv_list]
theorem sh_nil : SeqAt.shaped (.list []) = true := by decide +kernel
theorem eqv_nil (ds : List PyData) : PyData.eqvAll ds [] = ds.isEmpty := by cases ds <;> simp [PyData.eqvAll]
theorem eq_nil {ds : List PyData} (h : SeqAt.shaped (.list ds) = true) : eqD (.list ds) (.list []) = some ds.isEmpty := by rw [eq_lists h sh_nil, eqv_nil]
noncomputable abbrev t1_l_cell : TF := cmpT ltD (var 1) (bltE lenD (aCons (var 0) aNil))
noncomputable abbrev t2_l_cell : TF := cmpT eqD (var 0) (lstE aNil)
noncomputable def f_l_cell : SF := (seqS (ifS t1_l_cell (retS (op2 ixD (var 0) (var 1))) nilS) (seqS (ifS t2_l_cell (retS (cst (.int 0))) nilS) (retS (op2 addD (op2 mulD (op2 ixD (var 0) (op2 modD (var 1) (bltE lenD (aCons (var 0) aNil)))) (cst (.int 31))) (var 1)))))
noncomputable def F_l_cell : List PyData → Mm PyData := runD 2 2 f_l_cell
noncomputable def f_l_pick : SF := (seqS (setS 3 (op2 modD (op2 mulD (op2 addD (callE F_l_cell (aCons (var 0) (aCons (var 1) aNil))) (op2 mulD (cst (.int 6151)) (op2 addD (var 1) (cst (.int 1))))) (cst (.int 40692))) (cst (.int 2147483399)))) (retS (op2 modD (op2 modD (op2 addD (op2 mulD (var 3) (var 3)) (op2 fdvD (var 3) (cst (.int 31)))) (cst (.int 2147483629))) (var 2))))
noncomputable def F_l_pick : List PyData → Mm PyData := runD 4 3 f_l_pick
theorem runD_ok {m n : Nat} {f : SF} {ds : List PyData} {d : PyData} (hl : ds.length = n) (h : f (startN m ds) = some (.rt d)) : runD m n f ds = some (.ok d) := by
  unfold runD; rw [if_pos hl, h]
theorem ix_ints {ns : List Int} {p : Int} (h0 : 0 ≤ p) (h1 : p < ns.length) : ixD (.list (ns.map .int)) (.int p) = some (.int (ns.getD p.toNat 0)) := by
  show atI (ns.map PyData.int) p = _
  rw [atI_map PyData.int h0 h1 0]
theorem e_cell (ns : List Int) (k : Int) (h0 : 0 ≤ k) : F_l_cell [dN ns, .int k] = some (.ok (.int (cellOf ns k))) := by
  refine runD_ok rfl ?_
  show f_l_cell [.val (dN ns), .val (.int k)] = _
  unfold f_l_cell cellOf
  by_cases h1 : k < ns.length
  · rw [seqS_rt (d := .int (ns.getD k.toNat 0)), if_pos h1]
    simp [h1]
    rw [atI_map PyData.int h0 h1 0]
    simp
  · rw [seqS_nx (ρ' := [.val (dN ns), .val (.int k)]) (by simp [h1]), if_neg h1]
    by_cases h2 : ns = []
    · subst h2
      rw [seqS_rt (d := .int 0), if_pos rfl]
      have h : eqD (dN []) (.list []) = some true := eq_nil sh_nil
      simp [h]
    · have he : (ns.map PyData.int).isEmpty = false := by cases ns with
        | nil => exact absurd rfl h2
        | cons a r => rfl
      have h : eqD (dN ns) (.list []) = some false := by rw [eq_nil (sh_ints ns), he]
      rw [seqS_nx (ρ' := [.val (dN ns), .val (.int k)]) (by simp [h]), if_neg h2]
      have lp : (0 : Int) < (ns.length : Nat) := by cases ns with
        | nil => exact absurd rfl h2
        | cons a r => simp <;> omega
      have a1 := Int.emod_nonneg k (b := (ns.length : Int)) (by omega)
      have a2 := Int.emod_lt_of_pos k lp
      have lp' : 0 < ns.length := by omega
      have ix : ixD (dN ns) (.int (k % (ns.length : Int))) = some (.int (ns.getD (k % (ns.length : Int)).toNat 0)) := ix_ints a1 a2
      have ml : mulD (.int (ns.getD (k % (ns.length : Int)).toNat 0)) (.int 31) = some (.int (ns.getD (k % (ns.length : Int)).toNat 0 * 31)) := mul_iiR (by decide) (by decide)
      simp only [retS_e, op2_e, var_s, var_0, bnd_r, bltE_e, aCons_e, aNil_e, len_l, lft_s, mod_ii, List.length_map, if_pos lp, ix, cst_e, ml, add_ii, bns_r]
theorem drawn_lo (ns : List Int) (k : Int) : 0 ≤ drawnOf ns k ∧ drawnOf ns k < 2147483399 := ⟨Int.emod_nonneg _ (by decide), Int.emod_lt_of_pos _ (by decide)⟩
theorem e_pick (ns : List Int) (k many : Int) (h0 : 0 ≤ k) (hm : 0 < many) : F_l_pick [dN ns, .int k, .int many] = some (.ok (.int (pickOf ns k many))) := by
  refine runD_ok rfl ?_
  show f_l_pick [.val (dN ns), .val (.int k), .val (.int many), .no] = _
  have db := drawn_lo ns k
  unfold f_l_pick
  rw [seqS_nx (ρ' := [.val (dN ns), .val (.int k), .val (.int many), .val (.int (drawnOf ns k))])]
  · have hsq : mulD (.int (drawnOf ns k)) (.int (drawnOf ns k)) = some (.int (drawnOf ns k * drawnOf ns k)) := mul_iiR (by omega) (by omega)
    simp [hsq, hm, pickOf]
  · have h2 : mulD (.int 6151) (.int (k + 1)) = some (.int (6151 * (k + 1))) := mul_iiL (by decide) (by decide)
    have h3 : mulD (.int (cellOf ns k + 6151 * (k + 1))) (.int 40692) = some (.int ((cellOf ns k + 6151 * (k + 1)) * 40692)) := mul_iiR (by decide) (by decide)
    simp [e_cell ns k h0, h2, h3, drawnOf]
end L2.L3
namespace L2.L3
open PySem
noncomputable abbrev k1_names_of : EF := compE (.nm 0) [none] (seqI (var 0)) ttT (op2 ixD (var 0) (cst (.int 0)))
noncomputable def f_names_of : SF := (retS k1_names_of)
noncomputable def F_names_of : List PyData → Mm PyData := runD 1 1 f_names_of
noncomputable def f_is_whole : SF := (retS (andE (op1 (isD "int") (var 0)) (notE (op1 (isD "bool") (var 0)))))
noncomputable def F_is_whole : List PyData → Mm PyData := runD 1 1 f_is_whole
noncomputable def f_are_times : SF := (retS (andE (callE F_is_whole (aCons (var 0) aNil)) (andE (callE F_is_whole (aCons (var 1) aNil)) (chn3E leD ltD leD (cst (.int 0)) (var 0) (var 1) (cst (.int 480))))))
noncomputable def F_are_times : List PyData → Mm PyData := runD 2 2 f_are_times
@[simp] theorem isE_e (neg : Bool) (k : PyData) (fa : EF) (ρ : List Ent) : isE neg k fa ρ = bnd (fa ρ) fun x => lft ((isB k x).map fun t => .bool (neg != t)) := rfl
@[simp] theorem isT_e (neg : Bool) (k : PyData) (fa : EF) (ρ : List Ent) : isT neg k fa ρ = bnd (fa ρ) fun x => lft ((isB k x).map fun t => neg != t) := rfl
@[simp] theorem isB_tt : isB (.bool true) (.bool true) = some true := rfl
@[simp] theorem isB_ff : isB (.bool false) (.bool false) = some true := rfl
@[simp] theorem isD_tt (ds : List PyData) : isD "tuple" (.tuple ds) = some (.bool true) := rfl
@[simp] theorem isD_ii (i : Int) : isD "int" (.int i) = some (.bool true) := rfl
@[simp] theorem isD_bi (i : Int) : isD "bool" (.int i) = some (.bool false) := rfl
@[simp] theorem isD_ss (i : Str) : isD "str" (.str i) = some (.bool true) := rfl
@[simp] theorem chn3E_e (g1 g2 g3 : PyData → PyData → Option Bool) (fa fb fc fd : EF) (ρ : List Ent) : chn3E g1 g2 g3 fa fb fc fd ρ = bnd (fa ρ) fun x => bnd (fb ρ) fun y => bnd (lft (g1 x y)) fun t => if t then bnd (fc ρ) fun z => bnd (lft (g2 y z)) fun u => if u then bnd (fd ρ) fun w => lft ((g3 z w).map .bool) else some (.ok (.bool false)) else some (.ok (.bool false)) := rfl
end L2.L3
namespace L2.L3
open PySem PySem.W PyProof.Rows
section
variable {X : Cx} {e : Expr} {fa : EF} {x : Str} {pos : Pos}
noncomputable def dfE (g : PyData → PyData → Option PyData) (fa fb : EF) : EF := fun ρ => match fa ρ, fb ρ with
  | some (.ok x), some (.ok y) => lft (g x y)
  | _, _ => none
noncomputable def extX (i : Nat) (fa : EF) : SF := fun ρ => match ρ[i]? with
  | some (.lst ds) => bns (fa ρ) ρ fun d => (match seqD d with
    | some es => if szOk (ds.length + es.length) then some (.nx (ρ.set i (.lst (ds ++ es)))) else none
    | none => none)
  | _ => none
noncomputable def rExtX (K : PySem.W.Frag) : V → List V → Hp → VK → Prop := fun x vs H Q => ∃ l b xs zs, x = .ref l ∧ vs = [.ref b] ∧ H l = some (.lst xs) ∧ (SqL K H b zs ∨ SqT K H b zs) ∧ xs.length + zs.length ≤ sizeLine ∧ Q .non (upd H l (.lst (xs ++ zs)))
theorem mt_extX : MtM X "list.extend" (rExtX X.K) := by
  intro pins s σ H x vs v us Q I rx rv h
  obtain ⟨l, b, xs, zs, rfl, rfl, hH, hB, hz, q⟩ := h
  cases rx
  obtain ⟨u, rfl, ru⟩ := rv.one
  cases ru
  obtain ⟨z, its, n, r, hl, e⟩ := I.lstM hH
  obtain ⟨its2, T, o, n2, hT, ho, hc, hd, r2⟩ := seq_parts I hB
  have hl2 := r2.length
  have hl1 := r.length
  have hsz : its.toArray.size + its2.toArray.size ≤ sizeLine := by rw [List.size_toArray, List.size_toArray]; omega
  have hlong : ¬ (!its.toArray.isEmpty && Builtin.List.listTooLong (its.toArray.size + its2.toArray.size)) = true := by
    rw [notLongL hsz, Bool.and_false]
    exact Bool.false_ne_true
  refine wpAny_call_entry F.slot_list_extend ⟨_, e, rfl⟩ F.entry_list_extend ?_ (F.args_list_extend_2 _ _)
  show wpAny _ _ (Builtin.List.listExtendWith (.ref l) (.ref b) .none) _ _ s
  unfold Builtin.List.listExtendWith
  refine wpAny_bind (wpAny_typeOf (T := T) ⟨o, ho, hc⟩ ?_)
  rw [if_pos (by rcases hT with rfl | rfl <;> simp)]
  refine wpAny_bind (listItems_at ho hd ?_)
  refine wpAny_bind (listItems_at e rfl ?_)
  rw [if_neg hlong]
  refine wpAny_bind (listUpdate_at e rfl ?_ (by rw [List.size_toArray]; omega) (by rw [Array.size_append]; omega))
  refine wpAny_pure ⟨_, rfl, .non, _, I.lset (its' := its ++ its2) (t' := s.toks) hH e (by simp) (r.append r2) ?_, rfl, q⟩
  rw [List.length_append]
  omega
theorem ds_extX (i : Nat) {p ap cp : Pos} (h : DE X e fa) (hN : X.N[i]? = some x := by rfl)
    (hv : Vis X.env.scope x := by first | exact Or.inl rfl | exact Or.inr (Or.inl rfl) | exact Or.inr (Or.inr rfl)) (hd : (x == ("__debug__" : Str)) = false := by decide) (hcd : (x == ("__classdict__" : Str)) = false := by decide)
    (hbase : attributeBase (.Name x p) "extend" X.env (eval (.Name x p) X.env) = eval (.Name x p) X.env := by rfl)
    (hfew : ((backTo cp (starEach (e :: []) X.env)).all (fun x => !x.1) && (backToKw cp (keywordEach [] X.env)).all (fun x => x.1.isSome) && decide ((e :: []).length + ([] : List Keyword).length + (if ([] : List Keyword).isEmpty then 0 else 1) < 30)) = true := by rfl)
    (hline : (ap.endLine == cp.line) = true := by rfl) (hst : starEach (e :: []) X.env = (false, eval e X.env) :: starEach [] X.env := by rfl) (hplain : (backTo cp (starEach [] X.env)).any (·.1) = false := by rfl)
    (hsw : swapsWith (.Call (.Attribute (.Name x p) "extend" ap) [e] [] cp) none pos.line X.env = pure false := by rfl) :
    DS X (.Expr (.Call (.Attribute (.Name x p) "extend" ap) [e] [] cp) pos) (extX i fa) := ⟨fun pins s σ H D I ⟨ρ, o, H0, G₀, G, ef, R, q⟩ =>
  ps_expr (pe_bm PySem.F.plainAttrs_list PySem.F.slot_list_extend PySem.F.type_list_extend mt_extX (pe_var hN hv hd hcd) (pa_cons h.run pa_nil hst) hbase hfew hline hst hplain) hsw pins s σ H D I (by
    unfold extX at ef
    split at ef
    · rename_i ds hi
      obtain ⟨a, xs, e1, h1, h2, h3, r⟩ := R.own hi
      refine ⟨.ref a, e1, .inl ⟨rfl, xs, .of h1⟩, sE R ef q fun d v G1 H1 g1 R1 rv e2 q1 => ?_⟩
      split at e2
      · rename_i es he
        split at e2
        · rename_i hz
          cases (Option.some.inj e2)
          obtain ⟨b, zs, rfl, hq, r'⟩ := seq_rep g1.sub he rv
          exact ⟨a, _, xs, _, rfl, rfl, g1.hh.lst h1, hq, by rw [r.length, r'.length]; exact sz_le hz, q1 G1 _ σ (.refl _) (R1.wrote hi e1 ((r.mono g1.gg).append r'))⟩
        · cases e2
      · cases e2
    · cases ef)⟩
end
end L2.L3
namespace L2.L3
open PySem PySem.Spec PyProof.Rows
noncomputable def blD : PyData → Option Bool
  | .bool b => some b
  | _ => none
theorem blD_is {d : PyData} {b : Bool} (h : blD d = some b) : d = .bool b := by
  unfold blD at h
  split at h
  · cases h; rfl
  · cases h
noncomputable def cntD (x y : PyData) : Option PyData := match x, y with
  | .list xs, .int k => (match allD intD xs with | some ns => some (.int (ns.count k : Nat)) | none => none)
  | .list xs, .bool c => (match allD blD xs with | some bs => some (.int (bs.count c : Nat)) | none => none)
  | _, _ => none
noncomputable def idxB (x y : PyData) : Option PyData := match x, y with
  | .list xs, .bool c => (match allD blD xs with | some bs => if c ∈ bs then some (.int (bs.idxOf c : Nat)) else none | none => none)
  | _, _ => none
theorem vals_bools : ∀ {bs : List Bool} {us : List Value}, Vals (bs.map V.bl) us → us = bs.map Value.bool
  | [], _, .nil => rfl
  | b :: bs, _, .cons r t => by cases r; rw [List.map_cons, vals_bools t]
theorem countP_int (k : Int) : ∀ {us : List Value} {ns : List Int}, Vals (ns.map V.int) us → us.countP (isInt k) = ns.count k
  | _, [], .nil => rfl
  | _, n :: ns, .cons ⟨t, e⟩ r => by
    subst e
    rw [List.countP_cons, List.count_cons, countP_int k r]
    rfl
section
variable {X : Cx} {o e : Expr} {fo fa : EF} {apos cpos : Pos}
theorem mt_countI : MtM X "list.count" (fun x vs H Q => ∃ (p : Addr) (ns : List Int) (k : Int), x = .ref p ∧ vs = [.int k] ∧ SqL X.K H p (ns.map V.int) ∧ Q (.int (ns.count k : Nat)) H) := by
  intro pins s σ H x vs v us Q I rx rv ⟨p, ns, k, e1, e2, hq, q⟩
  subst e1 e2
  cases rx
  obtain ⟨u, rfl, t, rfl⟩ := rv.one
  obtain ⟨its, r1, p1, hz⟩ := I.list hq
  obtain ⟨⟨c1, d1, t1, sl1⟩, n1, g1, k1, _, m1⟩ := p1
  dsimp only at k1 m1
  subst k1 m1
  have hi := intsAre_of r1
  refine call_meets F.slot_list_count ⟨_, g1, rfl⟩ F.entry_list_count (F.args_list_count_2 _ _)
    (SeqAt.list_countAt p its.toArray n1 d1 sl1 (.int k t) (isInt k)) ⟨g1, fun y hy => (eq_isInt k t hi y (by simpa using hy)).at _ _, ⟨.int _, H, I.tok _, ⟨_, rfl⟩, ?_⟩⟩
  have : (its.toArray.toList.countP (isInt k) : Nat) = ns.count k := by simpa using countP_int k r1
  rw [this]; exact q
noncomputable def isBl (c : Bool) : Value → Bool
  | .bool b => b == c
  | _ => false
theorem mt_countB : MtM X "list.count" (fun x vs H Q => ∃ (p : Addr) (bs : List Bool) (c : Bool), x = .ref p ∧ vs = [.bl c] ∧ SqL X.K H p (bs.map V.bl) ∧ Q (.int (bs.count c : Nat)) H) := by
  intro pins s σ H x vs v us Q I rx rv ⟨p, bs, c, e1, e2, hq, q⟩
  subst e1 e2
  cases rx
  obtain ⟨u, rfl, rfl⟩ := rv.one
  obtain ⟨its, r1, p1, hz⟩ := I.list hq
  obtain ⟨⟨c1, d1, t1, sl1⟩, n1, g1, k1, _, m1⟩ := p1
  dsimp only at k1 m1
  subst k1 m1
  have hi := vals_bools r1
  subst hi
  refine call_meets F.slot_list_count ⟨_, g1, rfl⟩ F.entry_list_count (F.args_list_count_2 _ _)
    (SeqAt.list_countAt p (bs.map Value.bool).toArray n1 d1 sl1 (.bool c) (isBl c)) ⟨g1, fun y hy => ?_, ⟨.int _, H, I.tok _, ⟨_, rfl⟩, ?_⟩⟩
  · obtain ⟨b, _, rfl⟩ := List.mem_map.mp (show y ∈ bs.map Value.bool by simpa using hy)
    exact SeqAt.EqAt.bool_bool b c
  · have : ((bs.map Value.bool).toArray.toList.countP (isBl c) : Nat) = bs.count c := by
      rw [List.countP_map]
      rfl
    rw [this]; exact q
theorem mt_indexB : MtM X "list.index" (fun x vs H Q => ∃ (p : Addr) (bs : List Bool) (c : Bool), x = .ref p ∧ vs = [.bl c] ∧ SqL X.K H p (bs.map V.bl) ∧ c ∈ bs ∧ Q (.int (bs.idxOf c : Nat)) H) := by
  intro pins s σ H x vs v us Q I rx rv ⟨p, bs, c, e1, e2, hq, hc, q⟩
  subst e1 e2
  cases rx
  obtain ⟨u, rfl, rfl⟩ := rv.one
  obtain ⟨its, r1, p1, hz⟩ := I.list hq
  obtain ⟨⟨c1, d1, t1, sl1⟩, n1, g1, k1, _, m1⟩ := p1
  dsimp only at k1 m1
  subst k1 m1
  have hi := vals_bools r1
  subst hi
  have lt : bs.idxOf c < bs.length := List.idxOf_lt_length_iff.mpr hc
  rw [List.length_map] at hz
  have hz2 : (sizeLine : Nat) < 2 ^ 62 := by rw [sizeLine_eq]; decide
  refine call_meets F.slot_list_index ⟨_, g1, rfl⟩ F.entry_list_index (F.args_list_index_2 _ _)
    (SeqAt.list_indexAt p (bs.map Value.bool).toArray n1 d1 sl1 (.bool c) (isBl c) (bs.idxOf c) (by simpa using lt) (by omega) ?_ ?_) ⟨g1, fun y hy => ?_, ⟨.int _, H, I.tok _, ⟨_, rfl⟩, q⟩⟩
  · have := List.getElem_idxOf lt
    simpa [isBl] using this
  · intro j hjs hlt
    have h1 : j < bs.length := by simpa using hjs
    have := List.not_of_lt_findIdx (p := (· == c)) (xs := bs) hlt
    simpa [isBl] using this
  · obtain ⟨b, _, rfl⟩ := List.mem_map.mp (show y ∈ bs.map Value.bool by simpa using hy)
    exact SeqAt.EqAt.bool_bool b c
theorem de_count (ho : DE X o fo) (ha : DE X e fa)
    (hbase : attributeBase o "count" X.env (eval o X.env) = eval o X.env := by rfl)
    (hfew : ((backTo cpos (starEach (e :: []) X.env)).all (fun x => !x.1) && (backToKw cpos (keywordEach [] X.env)).all (fun x => x.1.isSome) && decide ((e :: []).length + ([] : List Keyword).length + (if ([] : List Keyword).isEmpty then 0 else 1) < 30)) = true := by rfl)
    (hline : (apos.endLine == cpos.line) = true := by rfl) (hst : starEach (e :: []) X.env = (false, eval e X.env) :: starEach [] X.env := by rfl) (hplain : (backTo cpos (starEach [] X.env)).any (·.1) = false := by rfl) :
    DE X (.Call (.Attribute o "count" apos) [e] [] cpos) (dfE cntD fo fa) := de_of fun ρ r h => by
  unfold dfE at h
  split at h
  · rename_i x y ea eb
    obtain ⟨d, ed, rfl⟩ := lft_is h
    refine ⟨d, rfl, ?_⟩
    unfold cntD at ed
    split at ed
    · rename_i xs k
      split at ed
      · rename_i ns ei
        have hx := allD_is (g := PyData.int) (fun d a q => intD_is q) ei
        subst hx
        cases (Option.some.inj ed)
        exact pd_bm F.plainAttrs_list F.slot_list_count F.type_list_count mt_countI (ho.pd ea) (pad_cons (ha.pd eb) pad_nil hst) (fun x G H s r => by cases r with | list hq _ => exact .inl ⟨rfl, _, s.seq hq⟩) (fun x vs G H Q s r rs q => by
          cases r with
          | list hq ra =>
            have e := ra.ints
            subst e
            cases rs with
            | cons r1 r2 => cases r1; cases r2; exact ⟨_, ns, k, rfl, rfl, s.seq hq, q _ G H (.refl s) (.int _)⟩) hbase hfew hline hst hplain
      · cases ed
    · rename_i xs c
      split at ed
      · rename_i bs ei
        have hx := allD_is (g := PyData.bool) (fun d a q => blD_is q) ei
        subst hx
        cases (Option.some.inj ed)
        exact pd_bm F.plainAttrs_list F.slot_list_count F.type_list_count mt_countB (ho.pd ea) (pad_cons (ha.pd eb) pad_nil hst) (fun x G H s r => by cases r with | list hq _ => exact .inl ⟨rfl, _, s.seq hq⟩) (fun x vs G H Q s r rs q => by
          cases r with
          | list hq ra =>
            have e := ra.bools
            subst e
            cases rs with
            | cons r1 r2 => cases r1; cases r2; exact ⟨_, bs, c, rfl, rfl, s.seq hq, q _ G H (.refl s) (.int _)⟩) hbase hfew hline hst hplain
      · cases ed
    · cases ed
  · cases h
theorem de_indexB (ho : DE X o fo) (ha : DE X e fa)
    (hbase : attributeBase o "index" X.env (eval o X.env) = eval o X.env := by rfl)
    (hfew : ((backTo cpos (starEach (e :: []) X.env)).all (fun x => !x.1) && (backToKw cpos (keywordEach [] X.env)).all (fun x => x.1.isSome) && decide ((e :: []).length + ([] : List Keyword).length + (if ([] : List Keyword).isEmpty then 0 else 1) < 30)) = true := by rfl)
    (hline : (apos.endLine == cpos.line) = true := by rfl) (hst : starEach (e :: []) X.env = (false, eval e X.env) :: starEach [] X.env := by rfl) (hplain : (backTo cpos (starEach [] X.env)).any (·.1) = false := by rfl) :
    DE X (.Call (.Attribute o "index" apos) [e] [] cpos) (dfE idxB fo fa) := de_of fun ρ r h => by
  unfold dfE at h
  split at h
  · rename_i x y ea eb
    obtain ⟨d, ed, rfl⟩ := lft_is h
    refine ⟨d, rfl, ?_⟩
    unfold idxB at ed
    split at ed
    · rename_i xs c
      split at ed
      · rename_i bs ei
        split at ed
        · rename_i hk
          have hx := allD_is (g := PyData.bool) (fun d a q => blD_is q) ei
          subst hx
          cases (Option.some.inj ed)
          exact pd_bm F.plainAttrs_list F.slot_list_index F.type_list_index mt_indexB (ho.pd ea) (pad_cons (ha.pd eb) pad_nil hst) (fun x G H s r => by cases r with | list hq _ => exact .inl ⟨rfl, _, s.seq hq⟩) (fun x vs G H Q s r rs q => by
            cases r with
            | list hq ra =>
              have e := ra.bools
              subst e
              cases rs with
              | cons r1 r2 => cases r1; cases r2; exact ⟨_, bs, c, rfl, rfl, s.seq hq, hk, q _ G H (.refl s) (.int _)⟩) hbase hfew hline hst hplain
        · cases ed
      · cases ed
    · cases ed
  · cases h
end
end L2.L3
namespace L2.L3
open PySem PySem.Spec PyProof.Rows
section
variable {X : Cx} {b : Expr} {fb : EF} {p pos : Pos}
end
end L2.L3
namespace HT
open PySem PySem.Spec PyProof.Rows
section
variable {prog : Program} {w : World} {A : Around} {E : Value → Shared → Prop} {s : Shared}
end
end HT
namespace L2
open PySem PySem.Spec PyProof.Rows
end L2
namespace L2.L3
open PySem PySem.Spec PyProof.Rows
section
variable {X : Cx} {a : Expr} {lo hi : Option Expr} {fa : EF} {fl fh : OF} {pos p2 : Pos}
end
end L2.L3
namespace L2.L3
open PySem PySem.Spec PyProof.Rows
section
variable {P : Program} {w : World} {K : PySem.W.Frag} {mg : Str → Option Value} {base : Heap} {x : Str} {k : Nat} {ps N : List Str}
end
section
variable {X : Cx} {e : Expr} {fa : EF} {pos p pos2 p2 : Pos}
end
section
variable {X : Cx} {a b : Expr} {pos p p2 pos2 : Pos} {fa : EF}
end
end L2.L3
namespace L2.SX
open PySem PyProof.Rows
section
variable {prog : Program} {w : World} {K : Type} [DecidableEq K] {knd : KeyKind prog w K} {A : Around} {E : Value → Shared → Prop} {s : Shared} {a : Addr}
end
section
variable {prog : Program} {w : World} {K : Type} [DecidableEq K] {knd : KeyKind prog w K} {A : Around} {R : Result → Shared → Prop} {I : Addr} {fp wr : List Addr} {G : Array GenState → Array GenState → Prop} {n : Nat} {P : Nat → Value → Prop} {St : Nat → Shared → Prop}
end
section
variable {prog : Program} {w : World} {K : Type} [DecidableEq K] {knd : KeyKind prog w K} {A : Around} {E : Value → Shared → Prop} {s : Shared}
end
end L2.SX
namespace L2.L3
open PySem PySem.Spec PyProof.Rows
section
variable {K : PySem.W.Frag} {G : Hp}
end
section
variable {X : Cx} {e a b : Expr} {fa fb : EF} {pos p : Pos}
end
end L2.L3
namespace L2.L3
open PySem PySem.Spec PyProof.Rows
theorem RepAll.plain {K : PySem.W.Frag} {G G' : Hp} : ∀ {vs : List V} {ds : List PyData}, ds.all plainD = true → RepAll K G vs ds → RepAll K G' vs ds
  | _, _, _, .nil => .nil
  | _, _, h, .cons r t => by
    rw [List.all_cons, Bool.and_eq_true] at h
    exact .cons (r.plain h.1) (RepAll.plain h.2 t)
section
variable {X : Cx} {elt iter tg : Expr} {ifs : List Expr} {scope : Scope} {pos spos p : Pos} {N' : List Str} {cap : List (Option Nat)} {t : Tg} {fi : AF} {ft : TF} {fe : EF}
end
end L2.L3
namespace L2.L3
open PySem PySem.Spec PyProof.Rows
noncomputable def newAdd (i : Nat) (fa fb : EF) : SF := fun ρ => match fa (frzAll ρ), fb (frzAll ρ) with
  | some (.ok (.list a)), some (.ok (.list b)) => if (a ++ b).all plainD && szOk (a.length + b.length) then some (.nx (ρ.set i (.lst (a ++ b)))) else none
  | _, _ => none
section
variable {X : Cx} {e a b : Expr} {fa fb : EF} {pos p p2 p3 : Pos}
theorem ds_newAdd (i : Nat) {x : Str} (hN : X.N.Nodup) (ha : DE X a fa) (hb : DE X b fb)
    (hi : X.N[i]? = some x := by rfl) (hx : Loc X.env.scope x := by first | exact Or.inl rfl | exact Or.inr rfl)
    (hs : swapsWith (.BinOp a .Add b p2) (some (.Name x p)) pos.line X.env = pure false := by rfl) (hf : X.fn x = true ∨ X.env.scope.names.lookup x = some .local := by first | exact .inl rfl | exact .inr rfl) :
    DS X (.Assign [.Name x p] (.BinOp a .Add b p2) pos) (newAdd i fa fb) := ⟨fun pins s σ H D I ⟨ρ, o, H0, G₀, G, ef, R, q⟩ => ps_set hN hi hx (pe_op op_catS ha.run hb.run) hs hf pins s σ H D I (by
  unfold newAdd at ef
  split at ef
  · rename_i da db ea eb
    split at ef
    · rename_i hz
      rw [Bool.and_eq_true] at hz
      cases (Option.some.inj ef)
      obtain ⟨G', s', R'⟩ := R.frzAll
      refine ⟨_, _, H0, G₀, G', ea, R', fun v G1 H1 g1 rv => ⟨_, _, H0, G₀, G1, eb, R'.more g1, fun u G2 H2 g2 ru => ?_⟩⟩
      have gt := g1.trans g2
      have rv2 := rv.mono g2.gg
      have g0 : Grow G H G H2 := ⟨.refl _, gt.hh, s'.trans (gt.gg.trans gt.sub), fun _ z _ => z, id⟩
      cases rv2 with
      | list h1 r1 => cases ru with
        | list h2 r2 =>
          exact ⟨_, _, _, _, rfl, rfl, g2.sub.seq h1, g2.sub.seq h2, by rw [r1.length, r2.length]; exact sz_le hz.2, fun l hl => q G _ _ (.refl _) ((R.more g0).fresh hl (RepAll.plain hz.1 (r1.append r2)))⟩
    · cases ef
  · cases ef)⟩
end
end L2.L3
namespace L2.L3
open PySem
@[simp] theorem at_4 (a b c d e : α) (r : List α) : atI (a :: b :: c :: d :: e :: r) 4 = some e := by
  unfold atI ixN
  rw [if_pos (by decide), if_pos (by simp <;> omega)]; rfl
@[simp] theorem at_5 (a b c d e f : α) (r : List α) : atI (a :: b :: c :: d :: e :: f :: r) 5 = some f := by
  unfold atI ixN
  rw [if_pos (by decide), if_pos (by simp <;> omega)]; rfl
theorem call_at {F : List PyData → Mm PyData} {aa : AF} {ρ : List Ent} {ds : List PyData} {d : PyData} (ha : aa ρ = some (.ok ds)) (h : F ds = some (.ok d)) : callE F aa ρ = some (.ok d) := by
  rw [callE_e, ha, bnd_r, h]
end L2.L3
namespace L2.L3
open PySem PySem.Spec PyProof.Rows
noncomputable abbrev t1_l_class : TF := thT (orT (cmpT neD (dfE cntD (var 1) (cst (.bool true))) (cst (.int 1))) (notT (truT (isxW exN8 0))))
noncomputable def f_l_class : SF := (seqS (newS 1 (aCons (isxG exN8 0 "NoBack") (aCons (isxG exN8 0 "NoMeeting") (aCons (isxG exN8 0 "NoSheet") aNil)))) (seqS (extX 1 (lstE (aCons (isxG exN8 0 "NoText") aNil))) (frzS 1 (seqS (newAdd 1 (var 1) (lstE (aCons (isxG exN8 0 "NoTime") (aCons (isxG exN8 0 "NoZone") (aCons (isxG exN8 0 "Taken") aNil))))) (frzS 1 (seqS (newAdd 1 (var 1) (lstE (aCons (isxG exN8 0 "TooMany") aNil))) (seqS (ifS t1_l_class (retS (cst (.str "wrong"))) nilS) (seqS (setS 2 (lstE (aCons (cst (.str "no back")) (aCons (cst (.str "no meeting")) (aCons (cst (.str "no sheet")) (aCons (cst (.str "no text")) (aCons (cst (.str "no time")) (aCons (cst (.str "no zone")) (aCons (cst (.str "taken")) (aCons (cst (.str "too many")) aNil)))))))))) (frzS 1 (retS (op2 ixD (var 2) (dfE idxB (var 1) (cst (.bool true))))))))))))))
noncomputable def F_l_class : Str → Mm PyData := runE 3 f_l_class
noncomputable abbrev k1_names_alone : EF := compE (.nm 0) [none, some 1] (seqI (callE F_names_of (aCons (var 0) aNil))) (cmpT ninX (var 0) (callE F_names_of (aCons (var 1) aNil))) (var 0)
noncomputable def f_names_alone : SF := (retS k1_names_alone)
noncomputable def F_names_alone : List PyData → Mm PyData := runD 2 2 f_names_alone
noncomputable abbrev k1_unlike_names : EF := compE (.nm 0) [none, some 1] (seqI (var 0)) (andT (cmpT ninX (var 0) (var 1)) (cmpT inX (op2 ixD (var 0) (cst (.int 0))) (callE F_names_of (aCons (var 1) aNil)))) (op2 ixD (var 0) (cst (.int 0)))
noncomputable def f_unlike_names : SF := (seqS (setS 2 k1_unlike_names) (retS (tupE (aCons (callE F_names_alone (aCons (var 0) (aCons (var 1) aNil))) (aCons (callE F_names_alone (aCons (var 1) (aCons (var 0) aNil))) (aCons (var 2) aNil))))))
noncomputable def F_unlike_names : List PyData → Mm PyData := runD 3 2 f_unlike_names
noncomputable abbrev t1_mergedX : TF := truT (op2 ixD (callE F_unlike_names (aCons (var 0) (aCons (var 1) aNil))) (cst (.int 2)))
noncomputable abbrev k1_mergedX : EF := compE (.nm 0) [none, some 0] (seqI (var 1)) (cmpT ninX (var 0) (var 1)) (var 0)
noncomputable abbrev t2_mergedX : TF := cmpT gtD (bltE lenD (aCons (var 2) aNil)) (cst (.int 16))
noncomputable def f_mergedX : SF := (seqS (ifS t1_mergedX (raiseS "Taken") nilS) (seqS (setS 2 (op2 addD (var 0) (bltE tupD (aCons k1_mergedX aNil)))) (seqS (ifS t2_mergedX (raiseS "TooMany") nilS) (retS (bltE tupD (aCons (bltE srtX (aCons (var 2) aNil)) aNil))))))
noncomputable def F_mergedX : List PyData → Mm PyData := runX 3 2 f_mergedX
noncomputable abbrev t1_refuse_wrong_timesX : TF := notT (truT (callE F_are_times (aCons (var 0) (aCons (var 1) aNil))))
noncomputable def f_refuse_wrong_timesX : SF := (ifS t1_refuse_wrong_timesX (raiseS "NoTime") nilS)
noncomputable def F_refuse_wrong_timesX : List PyData → Mm PyData := runX 2 2 f_refuse_wrong_timesX
noncomputable def f_meeting_atX : SF := (seqS (exprS (callX F_refuse_wrong_timesX (aCons (var 1) (aCons (var 2) aNil)))) (retS (tupE (aCons (var 0) (aCons (var 1) (aCons (var 2) aNil))))))
noncomputable def F_meeting_atX : List PyData → Mm PyData := runX 3 3 f_meeting_atX
noncomputable abbrev t1_laterX : TF := notT (truT (callE F_is_whole (aCons (var 1) aNil)))
noncomputable def f_laterX : SF := (seqS (ifS t1_laterX (raiseS "NoTime") nilS) (retS (op2 addD (var 0) (var 1))))
noncomputable def F_laterX : List PyData → Mm PyData := runX 2 2 f_laterX
noncomputable abbrev k1_shiftedX : EF := compXE (.tp [0, 1, 2]) [none, none, none, some 1] (seqI (var 0)) ttT (callX F_meeting_atX (aCons (var 0) (aCons (callX F_laterX (aCons (var 1) (aCons (var 3) aNil))) (aCons (callX F_laterX (aCons (var 2) (aCons (var 3) aNil))) aNil))))
noncomputable def f_shiftedX : SF := (retS (bltE tupD (aCons k1_shiftedX aNil)))
noncomputable def F_shiftedX : List PyData → Mm PyData := runX 2 2 f_shiftedX
noncomputable abbrev k1_turned_aboutX : EF := compXE (.tp [0, 1, 2]) [none, none, none, some 1] (seqI (var 0)) ttT (callX F_meeting_atX (aCons (var 0) (aCons (callX F_laterX (aCons (op1 negD (var 2)) (aCons (var 3) aNil))) (aCons (callX F_laterX (aCons (op1 negD (var 1)) (aCons (var 3) aNil))) aNil))))
noncomputable def f_turned_aboutX : SF := (retS (bltE tupD (aCons k1_turned_aboutX aNil)))
noncomputable def F_turned_aboutX : List PyData → Mm PyData := runX 2 2 f_turned_aboutX
noncomputable abbrev k1_law : EF := compE (.nm 0) [none, some 1] (rng1 (cst (.int 9))) ttT (tupE (aCons (op2 ixD (cst (.str "abcdefghijklmnopqrst")) (var 0)) (aCons (op2 addD (var 1) (var 0)) (aCons (op2 addD (op2 addD (var 1) (var 0)) (cst (.int 3))) aNil))))
noncomputable abbrev k2_law : EF := compE (.nm 0) [none, some 1] (rng2 (cst (.int 7)) (cst (.int 17))) ttT (tupE (aCons (op2 ixD (cst (.str "abcdefghijklmnopqrst")) (var 0)) (aCons (op2 addD (var 1) (var 0)) (aCons (op2 addD (op2 addD (var 1) (var 0)) (cst (.int 3))) aNil))))
noncomputable abbrev k3_law : EF := compE (.nm 0) [none, some 1] (rng2 (cst (.int 7)) (cst (.int 17))) ttT (tupE (aCons (op2 ixD (cst (.str "abcdefghijklmnopqrst")) (var 0)) (aCons (op2 addD (var 1) (var 0)) (aCons (op2 addD (op2 addD (op2 addD (var 1) (var 0)) (cst (.int 3))) (bltE intC (aCons (cmpE eqD (var 0) (cst (.int 8))) aNil))) aNil))))
noncomputable abbrev l1_law : EF := callX F_mergedX (aCons (var 0) (aCons (var 1) aNil))
noncomputable abbrev l2_law : EF := callX F_mergedX (aCons (var 1) (aCons (var 0) aNil))
noncomputable abbrev l3_law : EF := callX F_mergedX (aCons (var 0) (aCons (var 1) aNil))
noncomputable abbrev l4_law : EF := callX F_shiftedX (aCons (var 1) (aCons (op2 subD (op2 subD (cst (.int 0)) (var 0)) (cst (.int 1))) aNil))
noncomputable abbrev l5_law : EF := callX F_shiftedX (aCons (var 1) (aCons (op2 subD (op2 subD (cst (.int 480)) (var 0)) (cst (.int 10))) aNil))
noncomputable abbrev l6_law : EF := callX F_turned_aboutX (aCons (var 1) (aCons (op2 addD (var 0) (cst (.int 10))) aNil))
noncomputable abbrev l7_law : EF := callX F_turned_aboutX (aCons (var 1) (aCons (op2 addD (var 0) (cst (.int 481))) aNil))
noncomputable abbrev t1_law : TF := thT (cmpT neD (var 5) (lstE (aCons (cst (.str "too many")) (aCons (cst (.str "taken")) (aCons (cst (.str "taken")) (aCons (cst (.str "no time")) (aCons (cst (.str "no time")) (aCons (cst (.str "no time")) (aCons (cst (.str "no time")) aNil)))))))))
noncomputable abbrev t2_law : TF := orT (cmpT neD (callX F_mergedX (aCons (var 2) (aCons (slE (var 3) oNone (oSome (cst (.int 9)))) aNil))) (op2 addD (var 2) (slE (var 3) (oSome (cst (.int 2))) (oSome (cst (.int 9)))))) (cmpT neD (op2 ixD (callX F_shiftedX (aCons (var 2) (aCons (op2 subD (cst (.int 0)) (var 1)) aNil))) (cst (.int 0))) (tupE (aCons (cst (.str "a")) (aCons (cst (.int 0)) (aCons (cst (.int 3)) aNil)))))
noncomputable abbrev t3_law : TF := orT (cmpT neD (op2 ixD (callX F_shiftedX (aCons (var 2) (aCons (op2 subD (op2 subD (cst (.int 480)) (var 1)) (cst (.int 11))) aNil))) (cst (.int 8))) (tupE (aCons (cst (.str "i")) (aCons (cst (.int 477)) (aCons (cst (.int 480)) aNil))))) (cmpT neD (op2 ixD (callX F_turned_aboutX (aCons (var 2) (aCons (op2 addD (var 1) (cst (.int 11))) aNil))) (cst (.int 8))) (tupE (aCons (cst (.str "i")) (aCons (cst (.int 0)) (aCons (cst (.int 3)) aNil)))))
noncomputable abbrev t4_law : TF := orT (cmpT neD (callX F_shiftedX (aCons (tupE aNil) (aCons (cst (.int 9999)) aNil))) (tupE aNil)) (cmpT neD (callX F_turned_aboutX (aCons (tupE aNil) (aCons (op1 negD (cst (.int 5))) aNil))) (tupE aNil))
noncomputable def f_law : SF := (seqS (setS 1 (callE F_l_pick (aCons (var 0) (aCons (cst (.int 0)) (aCons (cst (.int 100)) aNil))))) (seqS (setS 2 (bltE tupD (aCons k1_law aNil))) (seqS (setS 3 (bltE tupD (aCons k2_law aNil))) (seqS (setS 4 (bltE tupD (aCons k3_law aNil))) (seqS (newS 5 (aCons (toldE exN8 F_l_class [some 2, some 3] l1_law) aNil)) (seqS (appS 5 (toldE exN8 F_l_class [some 4, some 2] l2_law)) (seqS (appS 5 (toldE exN8 F_l_class [some 4, some 2] l3_law)) (seqS (appS 5 (toldE exN8 F_l_class [some 1, some 2] l4_law)) (seqS (appS 5 (toldE exN8 F_l_class [some 1, some 2] l5_law)) (seqS (appS 5 (toldE exN8 F_l_class [some 1, some 2] l6_law)) (seqS (appS 5 (toldE exN8 F_l_class [some 1, some 2] l7_law)) (seqS (ifS t1_law (retS (cst (.bool false))) nilS) (seqS (ifS t2_law (retS (cst (.bool false))) nilS) (seqS (ifS t3_law (retS (cst (.bool false))) nilS) (seqS (ifS t4_law (retS (cst (.bool false))) nilS) (retS (cmpE eqD (op2 ixD (callX F_turned_aboutX (aCons (var 2) (aCons (op2 addD (var 1) (cst (.int 480))) aNil))) (cst (.int 0))) (tupE (aCons (cst (.str "a")) (aCons (cst (.int 477)) (aCons (cst (.int 480)) aNil)))))))))))))))))))))
noncomputable def F_law : List PyData → Mm PyData := runD 6 1 f_law
noncomputable def rest07 : SF := (seqS (setS 2 (bltE tupD (aCons k1_law aNil))) (seqS (setS 3 (bltE tupD (aCons k2_law aNil))) (seqS (setS 4 (bltE tupD (aCons k3_law aNil))) (seqS (newS 5 (aCons (toldE exN8 F_l_class [some 2, some 3] l1_law) aNil)) (seqS (appS 5 (toldE exN8 F_l_class [some 4, some 2] l2_law)) (seqS (appS 5 (toldE exN8 F_l_class [some 4, some 2] l3_law)) (seqS (appS 5 (toldE exN8 F_l_class [some 1, some 2] l4_law)) (seqS (appS 5 (toldE exN8 F_l_class [some 1, some 2] l5_law)) (seqS (appS 5 (toldE exN8 F_l_class [some 1, some 2] l6_law)) (seqS (appS 5 (toldE exN8 F_l_class [some 1, some 2] l7_law)) (seqS (ifS t1_law (retS (cst (.bool false))) nilS) (seqS (ifS t2_law (retS (cst (.bool false))) nilS) (seqS (ifS t3_law (retS (cst (.bool false))) nilS) (seqS (ifS t4_law (retS (cst (.bool false))) nilS) (retS (cmpE eqD (op2 ixD (callX F_turned_aboutX (aCons (var 2) (aCons (op2 addD (var 1) (cst (.int 480))) aNil))) (cst (.int 0))) (tupE (aCons (cst (.str "a")) (aCons (cst (.int 477)) (aCons (cst (.int 480)) aNil))))))))))))))))))))
noncomputable def good07 (e : Ent) (b : Int) : Bool := match rest07 [e, .val (.int b), .no, .no, .no, .no] with
  | some (.rt (.bool true)) => true
  | _ => false
noncomputable def goodAll (e : Ent) : Nat → Int → Bool
  | 0, _ => true
  | n + 1, b => good07 e b && goodAll e n (b + 1)
theorem all_at {e : Ent} : ∀ {n : Nat} {b : Int}, goodAll e n b = true → ∀ k : Int, b ≤ k → k < b + n → good07 e k = true
  | 0, b, _, k, h1, h2 => by omega
  | n + 1, b, h, k, h1, h2 => by
    unfold goodAll at h
    rw [Bool.and_eq_true] at h
    by_cases z : k = b
    · rw [z]; exact h.1
    · exact all_at h.2 k (by omega) (by omega)
theorem a1_07 (e : Ent) : goodAll e 25 0 = true := by kernel_rfl
theorem a2_07 (e : Ent) : goodAll e 25 25 = true := by kernel_rfl
theorem a3_07 (e : Ent) : goodAll e 25 50 = true := by kernel_rfl
theorem a4_07 (e : Ent) : goodAll e 25 75 = true := by kernel_rfl
theorem good_all (e : Ent) {b : Int} (h0 : 0 ≤ b) (h1 : b < 100) : good07 e b = true := by
  by_cases z1 : b < 25
  · exact all_at (a1_07 e) b (by omega) (by omega)
  · by_cases z2 : b < 50
    · exact all_at (a2_07 e) b (by omega) (by omega)
    · by_cases z3 : b < 75
      · exact all_at (a3_07 e) b (by omega) (by omega)
      · exact all_at (a4_07 e) b (by omega) (by omega)
theorem good_is {e : Ent} {b : Int} (h : good07 e b = true) : rest07 [e, .val (.int b), .no, .no, .no, .no] = some (.rt (.bool true)) := by
  unfold good07 at h
  split at h
  · assumption
  · cases h
end L2.L3
namespace L2.L3
open PySem PySem.Spec PyProof.Rows
theorem e_law (ns : List Int) (hl : ns.length ≤ 63) : F_law [dN ns] = some (.ok (.bool true)) := by
  have q0 := e_pick ns 0 100 (by decide) (by decide)
  have a0 := pick_lo ns 0 (many := 100) (by decide)
  have b0 := pick_hi ns 0 (many := 100) (by decide)
  generalize pickOf ns 0 100 = b at *
  have e1 : setS 1 (callE F_l_pick (aCons (var 0) (aCons (cst (.int 0)) (aCons (cst (.int 100)) aNil)))) [.val (dN ns), .no, .no, .no, .no, .no] = some (.nx [.val (dN ns), .val (.int b), .no, .no, .no, .no]) := by
    unfold setS
    rw [call_at (ds := [dN ns, .int 0, .int 100]) rfl q0]
    rfl
  have r := good_is (good_all (.val (dN ns)) a0 b0)
  have e2 : f_law [.val (dN ns), .no, .no, .no, .no, .no] = some (.rt (.bool true)) := (seqS_nx (g := rest07) e1).trans r
  have e3 : f_law (startN 6 [dN ns]) = some (.rt (.bool true)) := e2
  show runD 6 1 f_law [dN ns] = _
  unfold runD
  rw [if_pos (show [dN ns].length = 1 from rfl), e3]
end L2.L3
namespace L2.L3
theorem len1 {α : Type} {l : List α} (h : l.length = 1) : ∃ a, l = [a] := by
  cases l with
  | nil => cases h
  | cons a l => cases l with
    | nil => exact ⟨a, rfl⟩
    | cons b l => simp at h
theorem lenS {α : Type} {l : List α} {n : Nat} (h : l.length = n + 1) : ∃ a r, l = a :: r ∧ r.length = n := by
  cases l with
  | nil => cases h
  | cons a r => exact ⟨a, r, rfl, by simpa using h⟩
theorem len2 {α : Type} {l : List α} (h : l.length = 2) : ∃ a b, l = [a, b] := by
  obtain ⟨a, r, rfl, k⟩ := lenS h; obtain ⟨b, rfl⟩ := len1 k; exact ⟨a, b, rfl⟩
theorem len3 {α : Type} {l : List α} (h : l.length = 3) : ∃ a b c, l = [a, b, c] := by
  obtain ⟨a, r, rfl, k⟩ := lenS h; obtain ⟨b, c, rfl⟩ := len2 k; exact ⟨a, b, c, rfl⟩
end L2.L3
namespace L2.L3
open PySem PySem.Spec PyProof.Rows
section
variable {X : Cx} {e b : Expr} {es : List Expr} {pos p p0 p1 lp sp : Pos} {x y : Str} {k k' : Nat} {ps ps' : List Str} {F F' : List PyData → Mm PyData} {fa : AF} {fb : EF}
end
end L2.L3
namespace L2.L3
open PySem PySem.Spec PyProof.Rows
noncomputable def top (i : Nat) : Stmt := PySem.Challenge.pw_daysheet_k07_compared_refused.main.body.getD i (.Pass ⟨0, 0, 0, 0⟩)
structure Blt (mg : Str → Option Value) : Prop where
  b_ValueError : mg "ValueError" = none
  b_bool : mg "bool" = none
  b_int : mg "int" = none
  b_isinstance : mg "isinstance" = none
  b_len : mg "len" = none
  b_range : mg "range" = none
  b_sorted : mg "sorted" = none
  b_tuple : mg "tuple" = none
  k_LAST_END : ∃ t : Tok, mg "LAST_END" = some (.int 480 t)
  k_MOST_MEETINGS : ∃ t : Tok, mg "MOST_MEETINGS" = some (.int 16 t)
section
variable {P : Program} {w : World} {K : PySem.W.Frag} {mg : Str → Option Value} {base : Heap}
noncomputable abbrev s_l_cell : Stmt := top 26
theorem sc_l_cell : FnScope ["_law_script", "_law_k"] ["_law_script", "_law_k"] (defScope s_l_cell) := ⟨rfl, rfl, rfl, by decide +kernel, rfl, by decide +kernel, by decide +kernel⟩
theorem c_l_cell (D : Def K mg "_law_cell" s_l_cell) (B : Blt mg) (XF : ExG exN8 K)  : CalleeM P w K mg base "_law_cell" 1 ["_law_script", "_law_k"] F_l_cell := by
  refine callee_den 2 2 D sc_l_cell rfl rfl (fun _ _ _ _ _ _ us hl => by obtain ⟨_, _, rfl⟩ := len2 hl; rfl) (fun fa cdv A outer s H E hr => ?_)
  exact (db_cons (ds_if (dt_cmp lt_ok (de_var 1) (de_callB len_ok B.b_len boot_len (da_cons (de_var 0) da_nil))) (db_one (ds_ret (de_ix (de_var 0) (de_var 1)))) db_nil) (db_cons (ds_if (dt_cmp (eq_ok hr.units) (de_var 0) (de_lst da_nil)) (db_one (ds_ret de_int)) db_nil) (db_one (ds_ret (de_bin add_ok (de_bin mul_ok (de_ix (de_var 0) (de_bin mod_ok (de_var 1) (de_callB len_ok B.b_len boot_len (da_cons (de_var 0) da_nil)))) de_int) (de_var 1))))))
noncomputable abbrev s_l_pick : Stmt := top 27
theorem sc_l_pick : FnScope ["_law_script", "_law_k", "_law_many", "_law_drawn"] ["_law_script", "_law_k", "_law_many"] (defScope s_l_pick) := ⟨rfl, rfl, rfl, by decide +kernel, rfl, by decide +kernel, by decide +kernel⟩
theorem c_l_pick (D : Def K mg "_law_pick" s_l_pick) (B : Blt mg) (XF : ExG exN8 K) (C_l_cell : CalleeM P w K mg base "_law_cell" 1 ["_law_script", "_law_k"] F_l_cell) : CalleeM P w K mg base "_law_pick" 2 ["_law_script", "_law_k", "_law_many"] F_l_pick := by
  refine callee_den 4 3 D sc_l_pick rfl rfl (fun _ _ _ _ _ _ us hl => by obtain ⟨_, _, _, rfl⟩ := len3 hl; rfl) (fun fa cdv A outer s H E hr => ?_)
  exact (db_cons (ds_set 3 sc_l_pick.nd (de_bin mod_ok (de_bin mul_ok (de_bin add_ok (de_call C_l_cell (hr.mono (by decide)) (da_cons (de_var 0) (da_cons (de_var 1) da_nil))) (de_bin mul_ok de_int (de_bin add_ok (de_var 1) de_int))) de_int) de_int)) (db_one (ds_ret (de_bin mod_ok (de_bin mod_ok (de_bin add_ok (de_bin mul_ok (de_var 3) (de_var 3)) (de_bin fdv_ok (de_var 3) de_int)) de_int) (de_var 2)))))
noncomputable abbrev s_l_class : Stmt := top 28
theorem sc_l_class : FnScope ["_law_kept", "_law_kinds", "_law_some"] ["_law_kept"] (defScope s_l_class) := ⟨rfl, rfl, rfl, by decide +kernel, rfl, by decide +kernel, by decide +kernel⟩
theorem c_l_class (D : Def K mg "_law_class" s_l_class) (B : Blt mg) (XF : ExG exN8 K)  : ClsOk P w K mg base "_law_class" 1 F_l_class := by
  refine cls_den 3 D sc_l_class rfl (fun _ _ _ _ _ _ us hl => by obtain ⟨_, rfl⟩ := len1 hl; rfl) (fun fa cdv A outer s H hr => ?_)
  exact (db_cons (ds_new 1 sc_l_class.nd (da_cons (de_isxG 0 XF B.b_isinstance) (da_cons (de_isxG 0 XF B.b_isinstance) (da_cons (de_isxG 0 XF B.b_isinstance) da_nil)))) (db_cons (ds_extX 1 (de_lst (da_cons (de_isxG 0 XF B.b_isinstance) da_nil))) (db_frz 1 (db_cons (ds_newAdd 1 sc_l_class.nd (de_var 1) (de_lst (da_cons (de_isxG 0 XF B.b_isinstance) (da_cons (de_isxG 0 XF B.b_isinstance) (da_cons (de_isxG 0 XF B.b_isinstance) da_nil))))) (db_frz 1 (db_cons (ds_newAdd 1 sc_l_class.nd (de_var 1) (de_lst (da_cons (de_isxG 0 XF B.b_isinstance) da_nil))) (db_cons (ds_if (dt_th (DW.dt (dw_or (dt_cmp (ne_ok hr.units) (de_count (de_var 1) de_bool) de_int) (dw_or1 (dt_not (dt_tru (de_isxW 0 XF B.b_isinstance B.b_ValueError))))))) (db_one (ds_ret de_str)) db_nil) (db_cons (ds_set 2 sc_l_class.nd (de_lst (da_cons de_str (da_cons de_str (da_cons de_str (da_cons de_str (da_cons de_str (da_cons de_str (da_cons de_str (da_cons de_str da_nil)))))))))) (db_frz 1 (db_one (ds_ret (de_ix (de_var 2) (de_indexB (de_var 1) de_bool)))))))))))))
noncomputable abbrev s_l_told : Stmt := top 29
theorem sc_l_told : FnScope ["_law_deed", "e"] ["_law_deed"] (defScope s_l_told) := ⟨rfl, rfl, rfl, by decide +kernel, rfl, by decide +kernel, by decide +kernel⟩
theorem c_l_told (D : Def K mg "_law_told" s_l_told) (B : Blt mg) (XF : ExG exN8 K) (C_l_class : ClsOk P w K mg base "_law_class" 1 F_l_class) : ToldOk P w K mg base "_law_told" exN8 F_l_class := by
  obtain ⟨S, h1, h2, h3⟩ := XF.l.she
  exact told_den D sc_l_told h1 h2 h3 C_l_class rfl (fun _ _ _ _ _ _ us hl => by obtain ⟨_, rfl⟩ := len1 hl; rfl) rfl rfl rfl rfl (by decide) (by decide) (by decide) (by decide) (by decide)
noncomputable abbrev s_names_of : Stmt := top 15
theorem sc_names_of : FnScope ["sheet"] ["sheet"] (defScope s_names_of) := ⟨rfl, rfl, rfl, by decide +kernel, rfl, by decide +kernel, by decide +kernel⟩
theorem c_names_of (D : Def K mg "names_of" s_names_of) (B : Blt mg) (XF : ExG exN8 K)  : CalleeM P w K mg base "names_of" 1 ["sheet"] F_names_of := by
  refine callee_den 1 1 D sc_names_of rfl rfl (fun _ _ _ _ _ _ us hl => by obtain ⟨_, rfl⟩ := len1 hl; rfl) (fun fa cdv A outer s H E hr => ?_)
  have nd1 : (["meeting"] : List Str).Nodup := by decide +kernel
  exact (db_one (ds_ret (de_comp (N' := ["meeting"]) (cap := [none]) rfl (blk_of (so := defScope s_names_of) (NN := ["sheet"]) rfl rfl (by decide +kernel)) (di_seq (de_var 0)) (by decide +kernel) (fun _ _ _ _ => (dg_name 0 nd1)) (fun _ _ _ _ => dts_nil) (fun _ _ _ _ => (de_ix (de_var 0) de_int)))))
noncomputable abbrev s_names_alone : Stmt := top 19
theorem sc_names_alone : FnScope ["one", "other"] ["one", "other"] (defScope s_names_alone) := ⟨rfl, rfl, rfl, by decide +kernel, rfl, by decide +kernel, by decide +kernel⟩
theorem c_names_alone (D : Def K mg "names_alone" s_names_alone) (B : Blt mg) (XF : ExG exN8 K) (C_names_of : CalleeM P w K mg base "names_of" 1 ["sheet"] F_names_of) : CalleeM P w K mg base "names_alone" 2 ["one", "other"] F_names_alone := by
  refine callee_den 2 2 D sc_names_alone rfl rfl (fun _ _ _ _ _ _ us hl => by obtain ⟨_, _, rfl⟩ := len2 hl; rfl) (fun fa cdv A outer s H E hr => ?_)
  have nd1 : (["name", "other"] : List Str).Nodup := by decide +kernel
  exact (db_one (ds_ret (de_comp (N' := ["name", "other"]) (cap := [none, some 1]) rfl (blk_of (so := defScope s_names_alone) (NN := ["one", "other"]) rfl rfl (by decide +kernel)) (di_seq (de_call C_names_of (hr.mono (by decide)) (da_cons (de_var 0) da_nil))) (by decide +kernel) (fun _ _ _ _ => (dg_name 0 nd1)) (fun _ _ _ _ => (dts_one (dt_cmp (ninX_ok hr.units1) (de_var 0) (de_call C_names_of (hr.mono (by decide)) (da_cons (de_var 1) da_nil))))) (fun _ _ _ _ => (de_var 0)))))
noncomputable abbrev s_unlike_names : Stmt := top 20
theorem sc_unlike_names : FnScope ["one", "other", "unlike"] ["one", "other"] (defScope s_unlike_names) := ⟨rfl, rfl, rfl, by decide +kernel, rfl, by decide +kernel, by decide +kernel⟩
theorem c_unlike_names (D : Def K mg "unlike_names" s_unlike_names) (B : Blt mg) (XF : ExG exN8 K) (C_names_of : CalleeM P w K mg base "names_of" 1 ["sheet"] F_names_of) (C_names_alone : CalleeM P w K mg base "names_alone" 2 ["one", "other"] F_names_alone) : CalleeM P w K mg base "unlike_names" 3 ["one", "other"] F_unlike_names := by
  refine callee_den 3 2 D sc_unlike_names rfl rfl (fun _ _ _ _ _ _ us hl => by obtain ⟨_, _, rfl⟩ := len2 hl; rfl) (fun fa cdv A outer s H E hr => ?_)
  have nd1 : (["meeting", "other"] : List Str).Nodup := by decide +kernel
  exact (db_cons (ds_setC 2 sc_unlike_names.nd (N' := ["meeting", "other"]) (cap := [none, some 1]) rfl (blk_of (so := defScope s_unlike_names) (NN := ["one", "other", "unlike"]) rfl rfl (by decide +kernel)) (di_seq (de_var 0)) (by decide +kernel) (fun _ _ _ _ => (dg_name 0 nd1)) (fun _ _ _ _ => (dts_one (DW.dt (dw_and (dt_cmp (ninX_ok hr.units1) (de_var 0) (de_var 1)) (dw_and1 (dt_cmp (inX_ok hr.units1) (de_ix (de_var 0) de_int) (de_call C_names_of (hr.mono (by decide)) (da_cons (de_var 1) da_nil)))))))) (fun _ _ _ _ => (de_ix (de_var 0) de_int))) (db_one (ds_ret (de_tup (da_cons (de_call C_names_alone (hr.mono (by decide)) (da_cons (de_var 0) (da_cons (de_var 1) da_nil))) (da_cons (de_call C_names_alone (hr.mono (by decide)) (da_cons (de_var 1) (da_cons (de_var 0) da_nil))) (da_cons (de_var 2) da_nil)))))))
noncomputable abbrev s_mergedX : Stmt := top 21
theorem sc_mergedX : FnScope ["one", "other", "together"] ["one", "other"] (defScope s_mergedX) := ⟨rfl, rfl, rfl, by decide +kernel, rfl, by decide +kernel, by decide +kernel⟩
theorem c_mergedX (D : Def K mg "merged" s_mergedX) (B : Blt mg) (XF : ExG exN8 K) (C_unlike_names : CalleeM P w K mg base "unlike_names" 3 ["one", "other"] F_unlike_names) : CalleeX P w K mg base "merged" 4 ["one", "other"] F_mergedX := by
  refine calleeX_den 3 2 D sc_mergedX rfl rfl (fun _ _ _ _ _ _ us hl => by obtain ⟨_, _, rfl⟩ := len2 hl; rfl) (fun fa cdv A outer s H E hr => ?_)
  have nd1 : (["meeting", "one"] : List Str).Nodup := by decide +kernel
  exact (db_cons (ds_if (dt_tru (de_ix (de_call C_unlike_names (hr.mono (by decide)) (da_cons (de_var 0) (da_cons (de_var 1) da_nil))) de_int)) (db_one (ds_raiseL XF.l rfl)) db_nil) (db_cons (ds_set 2 sc_mergedX.nd (de_bin add_ok (de_var 0) (de_callT tup_ok B.b_tuple boot_tuple (da_cons (de_comp (N' := ["meeting", "one"]) (cap := [none, some 0]) rfl (blk_of (so := defScope s_mergedX) (NN := ["one", "other", "together"]) rfl rfl (by decide +kernel)) (di_seq (de_var 1)) (by decide +kernel) (fun _ _ _ _ => (dg_name 0 nd1)) (fun _ _ _ _ => (dts_one (dt_cmp (ninX_ok hr.units1) (de_var 0) (de_var 1)))) (fun _ _ _ _ => (de_var 0))) da_nil)))) (db_cons (ds_if (dt_cmp gt_ok (de_callB len_ok B.b_len boot_len (da_cons (de_var 2) da_nil)) (de_globI rfl (B.k_MOST_MEETINGS))) (db_one (ds_raiseL XF.l rfl)) db_nil) (db_one (ds_ret (de_callT tup_ok B.b_tuple boot_tuple (da_cons (de_callB srtX_ok B.b_sorted boot_sorted (da_cons (de_var 2) da_nil)) da_nil)))))))
noncomputable abbrev s_is_whole : Stmt := top 13
theorem sc_is_whole : FnScope ["thing"] ["thing"] (defScope s_is_whole) := ⟨rfl, rfl, rfl, by decide +kernel, rfl, by decide +kernel, by decide +kernel⟩
theorem c_is_whole (D : Def K mg "is_whole" s_is_whole) (B : Blt mg) (XF : ExG exN8 K)  : CalleeM P w K mg base "is_whole" 1 ["thing"] F_is_whole := by
  refine callee_den 1 1 D sc_is_whole rfl rfl (fun _ _ _ _ _ _ us hl => by obtain ⟨_, rfl⟩ := len1 hl; rfl) (fun fa cdv A outer s H E hr => ?_)
  exact (db_one (ds_ret (de_and (de_isinst B.b_isinstance B.b_int boot_int (de_var 0)) (de_one (de_not (de_isinst B.b_isinstance B.b_bool boot_bool (de_var 0)))))))
noncomputable abbrev s_are_times : Stmt := top 14
theorem sc_are_times : FnScope ["begin", "end"] ["begin", "end"] (defScope s_are_times) := ⟨rfl, rfl, rfl, by decide +kernel, rfl, by decide +kernel, by decide +kernel⟩
theorem c_are_times (D : Def K mg "are_times" s_are_times) (B : Blt mg) (XF : ExG exN8 K) (C_is_whole : CalleeM P w K mg base "is_whole" 1 ["thing"] F_is_whole) : CalleeM P w K mg base "are_times" 2 ["begin", "end"] F_are_times := by
  refine callee_den 2 2 D sc_are_times rfl rfl (fun _ _ _ _ _ _ us hl => by obtain ⟨_, _, rfl⟩ := len2 hl; rfl) (fun fa cdv A outer s H E hr => ?_)
  exact (db_one (ds_ret (de_and (de_call C_is_whole (hr.mono (by decide)) (da_cons (de_var 0) da_nil)) (de_and (de_call C_is_whole (hr.mono (by decide)) (da_cons (de_var 1) da_nil)) (de_one (de_chn3 le_ok lt_ok le_ok de_int (de_var 0) (de_var 1) (de_globI rfl (B.k_LAST_END))))))))
noncomputable abbrev s_refuse_wrong_timesX : Stmt := top 16
theorem sc_refuse_wrong_timesX : FnScope ["begin", "end"] ["begin", "end"] (defScope s_refuse_wrong_timesX) := ⟨rfl, rfl, rfl, by decide +kernel, rfl, by decide +kernel, by decide +kernel⟩
theorem c_refuse_wrong_timesX (D : Def K mg "refuse_wrong_times" s_refuse_wrong_timesX) (B : Blt mg) (XF : ExG exN8 K) (C_are_times : CalleeM P w K mg base "are_times" 2 ["begin", "end"] F_are_times) : CalleeX P w K mg base "refuse_wrong_times" 3 ["begin", "end"] F_refuse_wrong_timesX := by
  refine calleeX_den 2 2 D sc_refuse_wrong_timesX rfl rfl (fun _ _ _ _ _ _ us hl => by obtain ⟨_, _, rfl⟩ := len2 hl; rfl) (fun fa cdv A outer s H E hr => ?_)
  exact (db_one (ds_if (dt_not (dt_tru (de_call C_are_times (hr.mono (by decide)) (da_cons (de_var 0) (da_cons (de_var 1) da_nil))))) (db_one (ds_raiseL XF.l rfl)) db_nil))
noncomputable abbrev s_meeting_atX : Stmt := top 22
theorem sc_meeting_atX : FnScope ["name", "begin", "end"] ["name", "begin", "end"] (defScope s_meeting_atX) := ⟨rfl, rfl, rfl, by decide +kernel, rfl, by decide +kernel, by decide +kernel⟩
theorem c_meeting_atX (D : Def K mg "meeting_at" s_meeting_atX) (B : Blt mg) (XF : ExG exN8 K) (C_refuse_wrong_timesX : CalleeX P w K mg base "refuse_wrong_times" 3 ["begin", "end"] F_refuse_wrong_timesX) : CalleeX P w K mg base "meeting_at" 4 ["name", "begin", "end"] F_meeting_atX := by
  refine calleeX_den 3 3 D sc_meeting_atX rfl rfl (fun _ _ _ _ _ _ us hl => by obtain ⟨_, _, _, rfl⟩ := len3 hl; rfl) (fun fa cdv A outer s H E hr => ?_)
  exact (db_cons (ds_expr (de_callX C_refuse_wrong_timesX (hr.mono (by decide)) (da_cons (de_var 1) (da_cons (de_var 2) da_nil)))) (db_one (ds_ret (de_tup (da_cons (de_var 0) (da_cons (de_var 1) (da_cons (de_var 2) da_nil)))))))
noncomputable abbrev s_laterX : Stmt := top 17
theorem sc_laterX : FnScope ["moment", "by"] ["moment", "by"] (defScope s_laterX) := ⟨rfl, rfl, rfl, by decide +kernel, rfl, by decide +kernel, by decide +kernel⟩
theorem c_laterX (D : Def K mg "later" s_laterX) (B : Blt mg) (XF : ExG exN8 K) (C_is_whole : CalleeM P w K mg base "is_whole" 1 ["thing"] F_is_whole) : CalleeX P w K mg base "later" 2 ["moment", "by"] F_laterX := by
  refine calleeX_den 2 2 D sc_laterX rfl rfl (fun _ _ _ _ _ _ us hl => by obtain ⟨_, _, rfl⟩ := len2 hl; rfl) (fun fa cdv A outer s H E hr => ?_)
  exact (db_cons (ds_if (dt_not (dt_tru (de_call C_is_whole (hr.mono (by decide)) (da_cons (de_var 1) da_nil)))) (db_one (ds_raiseL XF.l rfl)) db_nil) (db_one (ds_ret (de_bin add_ok (de_var 0) (de_var 1)))))
noncomputable abbrev s_shiftedX : Stmt := top 23
theorem sc_shiftedX : FnScope ["sheet", "by"] ["sheet", "by"] (defScope s_shiftedX) := ⟨rfl, rfl, rfl, by decide +kernel, rfl, by decide +kernel, by decide +kernel⟩
theorem c_shiftedX (D : Def K mg "shifted" s_shiftedX) (B : Blt mg) (XF : ExG exN8 K) (C_laterX : CalleeX P w K mg base "later" 2 ["moment", "by"] F_laterX) (C_meeting_atX : CalleeX P w K mg base "meeting_at" 4 ["name", "begin", "end"] F_meeting_atX) : CalleeX P w K mg base "shifted" 5 ["sheet", "by"] F_shiftedX := by
  refine calleeX_den 2 2 D sc_shiftedX rfl rfl (fun _ _ _ _ _ _ us hl => by obtain ⟨_, _, rfl⟩ := len2 hl; rfl) (fun fa cdv A outer s H E hr => ?_)
  have nd1 : (["name", "begin", "end", "by"] : List Str).Nodup := by decide +kernel
  exact (db_one (ds_ret (de_callT tup_ok B.b_tuple boot_tuple (da_cons (de_compX (N' := ["name", "begin", "end", "by"]) (cap := [none, none, none, some 1]) rfl rfl rfl (blk_of (so := defScope s_shiftedX) (NN := ["sheet", "by"]) rfl rfl (by decide +kernel)) (di_seq (de_var 0)) (by decide +kernel) (fun _ _ _ _ => (dg_tup rfl (dgs_cons 0 nd1 (dgs_cons 1 nd1 (dgs_cons 2 nd1 dgs_nil))))) (fun _ _ _ _ => dts_nil) (fun _ _ _ _ _ => (de_callX C_meeting_atX (hr.mono (by decide)) (da_cons (de_var 0) (da_cons (de_callX C_laterX (hr.mono (by decide)) (da_cons (de_var 1) (da_cons (de_var 3) da_nil))) (da_cons (de_callX C_laterX (hr.mono (by decide)) (da_cons (de_var 2) (da_cons (de_var 3) da_nil))) da_nil)))))) da_nil))))
noncomputable abbrev s_turned_aboutX : Stmt := top 24
theorem sc_turned_aboutX : FnScope ["sheet", "last"] ["sheet", "last"] (defScope s_turned_aboutX) := ⟨rfl, rfl, rfl, by decide +kernel, rfl, by decide +kernel, by decide +kernel⟩
theorem c_turned_aboutX (D : Def K mg "turned_about" s_turned_aboutX) (B : Blt mg) (XF : ExG exN8 K) (C_laterX : CalleeX P w K mg base "later" 2 ["moment", "by"] F_laterX) (C_meeting_atX : CalleeX P w K mg base "meeting_at" 4 ["name", "begin", "end"] F_meeting_atX) : CalleeX P w K mg base "turned_about" 5 ["sheet", "last"] F_turned_aboutX := by
  refine calleeX_den 2 2 D sc_turned_aboutX rfl rfl (fun _ _ _ _ _ _ us hl => by obtain ⟨_, _, rfl⟩ := len2 hl; rfl) (fun fa cdv A outer s H E hr => ?_)
  have nd1 : (["name", "begin", "end", "last"] : List Str).Nodup := by decide +kernel
  exact (db_one (ds_ret (de_callT tup_ok B.b_tuple boot_tuple (da_cons (de_compX (N' := ["name", "begin", "end", "last"]) (cap := [none, none, none, some 1]) rfl rfl rfl (blk_of (so := defScope s_turned_aboutX) (NN := ["sheet", "last"]) rfl rfl (by decide +kernel)) (di_seq (de_var 0)) (by decide +kernel) (fun _ _ _ _ => (dg_tup rfl (dgs_cons 0 nd1 (dgs_cons 1 nd1 (dgs_cons 2 nd1 dgs_nil))))) (fun _ _ _ _ => dts_nil) (fun _ _ _ _ _ => (de_callX C_meeting_atX (hr.mono (by decide)) (da_cons (de_var 0) (da_cons (de_callX C_laterX (hr.mono (by decide)) (da_cons (de_neg (de_var 2)) (da_cons (de_var 3) da_nil))) (da_cons (de_callX C_laterX (hr.mono (by decide)) (da_cons (de_neg (de_var 1)) (da_cons (de_var 3) da_nil))) da_nil)))))) da_nil))))
noncomputable abbrev s_law : Stmt := top 30
theorem sc_law : FnScope ["_law_script", "_law_begin", "_law_one", "_law_other", "_law_bad", "_law_told_here"] ["_law_script"] (defScope s_law) := ⟨rfl, rfl, rfl, by decide +kernel, rfl, by decide +kernel, by decide +kernel⟩
theorem c_law {fa c T : Addr} {fd : FuncData} (Fu : Fun K "law" "law" s_law fa fd) (B : Blt mg) (kb : K.In base) (nb : base.Ns mainGlobals mg) (M : BM mg base) (hmg : mg "law" = some (.ref fa)) (ht : PySem.W.tabIn K "law" = some (c, T)) (hC : PySem.W.codeHdIn K c T = true) (XF : ExG exN8 K) (C_l_pick : CalleeM P w K mg base "_law_pick" 2 ["_law_script", "_law_k", "_law_many"] F_l_pick) (C_mergedX : CalleeX P w K mg base "merged" 4 ["one", "other"] F_mergedX) (C_l_told : ToldOk P w K mg base "_law_told" exN8 F_l_class) (C_shiftedX : CalleeX P w K mg base "shifted" 5 ["sheet", "by"] F_shiftedX) (C_turned_aboutX : CalleeX P w K mg base "turned_about" 5 ["sheet", "last"] F_turned_aboutX) : FnOk P w K mg base CX0 9 fa fd ["_law_script"] (spD K fun ds d => F_law ds = some (.ok d)) := by
  refine fn_denL 6 1 Fu sc_law rfl rfl kb nb hmg ht (fun A outer s H E hr => ?_)
  have nd1 : (["_law_k", "_law_begin"] : List Str).Nodup := by decide +kernel
  have nd2 : (["_law_k", "_law_begin"] : List Str).Nodup := by decide +kernel
  have nd3 : (["_law_k", "_law_begin"] : List Str).Nodup := by decide +kernel
  have nd4 : (["_law_one", "_law_other"] : List Str).Nodup := by decide +kernel
  have nd5 : (["_law_bad", "_law_one"] : List Str).Nodup := by decide +kernel
  have nd6 : (["_law_bad", "_law_one"] : List Str).Nodup := by decide +kernel
  have nd7 : (["_law_begin", "_law_one"] : List Str).Nodup := by decide +kernel
  have nd8 : (["_law_begin", "_law_one"] : List Str).Nodup := by decide +kernel
  have nd9 : (["_law_begin", "_law_one"] : List Str).Nodup := by decide +kernel
  have nd10 : (["_law_begin", "_law_one"] : List Str).Nodup := by decide +kernel
  exact (db_cons (ds_set 1 sc_law.nd (de_call C_l_pick (hr.mono (by decide)) (da_cons (de_var 0) (da_cons de_int (da_cons de_int da_nil))))) (db_cons (ds_set 2 sc_law.nd (de_callT tup_ok B.b_tuple boot_tuple (da_cons (de_comp (N' := ["_law_k", "_law_begin"]) (cap := [none, some 1]) rfl (blk_of (so := defScope s_law) (NN := ["_law_script", "_law_begin", "_law_one", "_law_other", "_law_bad", "_law_told_here"]) rfl rfl (by decide +kernel)) (di_rng1 B.b_range de_int) (by decide +kernel) (fun _ _ _ _ => (dg_name 0 nd1)) (fun _ _ _ _ => dts_nil) (fun _ _ _ _ => (de_tup (da_cons (de_ix de_str (de_var 0)) (da_cons (de_bin add_ok (de_var 1) (de_var 0)) (da_cons (de_bin add_ok (de_bin add_ok (de_var 1) (de_var 0)) de_int) da_nil)))))) da_nil))) (db_cons (ds_set 3 sc_law.nd (de_callT tup_ok B.b_tuple boot_tuple (da_cons (de_comp (N' := ["_law_k", "_law_begin"]) (cap := [none, some 1]) rfl (blk_of (so := defScope s_law) (NN := ["_law_script", "_law_begin", "_law_one", "_law_other", "_law_bad", "_law_told_here"]) rfl rfl (by decide +kernel)) (di_rng2 B.b_range de_int de_int) (by decide +kernel) (fun _ _ _ _ => (dg_name 0 nd2)) (fun _ _ _ _ => dts_nil) (fun _ _ _ _ => (de_tup (da_cons (de_ix de_str (de_var 0)) (da_cons (de_bin add_ok (de_var 1) (de_var 0)) (da_cons (de_bin add_ok (de_bin add_ok (de_var 1) (de_var 0)) de_int) da_nil)))))) da_nil))) (db_cons (ds_set 4 sc_law.nd (de_callT tup_ok B.b_tuple boot_tuple (da_cons (de_comp (N' := ["_law_k", "_law_begin"]) (cap := [none, some 1]) rfl (blk_of (so := defScope s_law) (NN := ["_law_script", "_law_begin", "_law_one", "_law_other", "_law_bad", "_law_told_here"]) rfl rfl (by decide +kernel)) (di_rng2 B.b_range de_int de_int) (by decide +kernel) (fun _ _ _ _ => (dg_name 0 nd3)) (fun _ _ _ _ => dts_nil) (fun _ _ _ _ => (de_tup (da_cons (de_ix de_str (de_var 0)) (da_cons (de_bin add_ok (de_var 1) (de_var 0)) (da_cons (de_bin add_ok (de_bin add_ok (de_bin add_ok (de_var 1) (de_var 0)) de_int) (de_callT int_ok B.b_int boot_int (da_cons (de_cmp (eq_ok hr.units) (de_var 0) de_int) da_nil))) da_nil)))))) da_nil))) (db_cons (ds_new 5 sc_law.nd (da_cons (de_told (q := "law") (k := 4) (N' := ["_law_one", "_law_other"]) (cap := [some 2, some 3]) C_l_told (by unfold lamNames; simp) ht rfl rfl hC M (hr.mono (by decide)) (blk_of (so := defScope s_law) (NN := ["_law_script", "_law_begin", "_law_one", "_law_other", "_law_bad", "_law_told_here"]) rfl rfl (by decide +kernel)) (by decide +kernel) (fun f c cl A outer s H E hr => (de_callX C_mergedX (hr.mono (by decide)) (da_cons (de_var 0) (da_cons (de_var 1) da_nil))))) da_nil)) (db_cons (ds_app 5 (de_told (q := "law") (k := 4) (N' := ["_law_bad", "_law_one"]) (cap := [some 4, some 2]) C_l_told (by unfold lamNames; simp) ht rfl rfl hC M (hr.mono (by decide)) (blk_of (so := defScope s_law) (NN := ["_law_script", "_law_begin", "_law_one", "_law_other", "_law_bad", "_law_told_here"]) rfl rfl (by decide +kernel)) (by decide +kernel) (fun f c cl A outer s H E hr => (de_callX C_mergedX (hr.mono (by decide)) (da_cons (de_var 1) (da_cons (de_var 0) da_nil)))))) (db_cons (ds_app 5 (de_told (q := "law") (k := 4) (N' := ["_law_bad", "_law_one"]) (cap := [some 4, some 2]) C_l_told (by unfold lamNames; simp) ht rfl rfl hC M (hr.mono (by decide)) (blk_of (so := defScope s_law) (NN := ["_law_script", "_law_begin", "_law_one", "_law_other", "_law_bad", "_law_told_here"]) rfl rfl (by decide +kernel)) (by decide +kernel) (fun f c cl A outer s H E hr => (de_callX C_mergedX (hr.mono (by decide)) (da_cons (de_var 0) (da_cons (de_var 1) da_nil)))))) (db_cons (ds_app 5 (de_told (q := "law") (k := 5) (N' := ["_law_begin", "_law_one"]) (cap := [some 1, some 2]) C_l_told (by unfold lamNames; simp) ht rfl rfl hC M (hr.mono (by decide)) (blk_of (so := defScope s_law) (NN := ["_law_script", "_law_begin", "_law_one", "_law_other", "_law_bad", "_law_told_here"]) rfl rfl (by decide +kernel)) (by decide +kernel) (fun f c cl A outer s H E hr => (de_callX C_shiftedX (hr.mono (by decide)) (da_cons (de_var 1) (da_cons (de_bin sub_ok (de_bin sub_ok de_int (de_var 0)) de_int) da_nil)))))) (db_cons (ds_app 5 (de_told (q := "law") (k := 5) (N' := ["_law_begin", "_law_one"]) (cap := [some 1, some 2]) C_l_told (by unfold lamNames; simp) ht rfl rfl hC M (hr.mono (by decide)) (blk_of (so := defScope s_law) (NN := ["_law_script", "_law_begin", "_law_one", "_law_other", "_law_bad", "_law_told_here"]) rfl rfl (by decide +kernel)) (by decide +kernel) (fun f c cl A outer s H E hr => (de_callX C_shiftedX (hr.mono (by decide)) (da_cons (de_var 1) (da_cons (de_bin sub_ok (de_bin sub_ok de_int (de_var 0)) de_int) da_nil)))))) (db_cons (ds_app 5 (de_told (q := "law") (k := 5) (N' := ["_law_begin", "_law_one"]) (cap := [some 1, some 2]) C_l_told (by unfold lamNames; simp) ht rfl rfl hC M (hr.mono (by decide)) (blk_of (so := defScope s_law) (NN := ["_law_script", "_law_begin", "_law_one", "_law_other", "_law_bad", "_law_told_here"]) rfl rfl (by decide +kernel)) (by decide +kernel) (fun f c cl A outer s H E hr => (de_callX C_turned_aboutX (hr.mono (by decide)) (da_cons (de_var 1) (da_cons (de_bin add_ok (de_var 0) de_int) da_nil)))))) (db_cons (ds_app 5 (de_told (q := "law") (k := 5) (N' := ["_law_begin", "_law_one"]) (cap := [some 1, some 2]) C_l_told (by unfold lamNames; simp) ht rfl rfl hC M (hr.mono (by decide)) (blk_of (so := defScope s_law) (NN := ["_law_script", "_law_begin", "_law_one", "_law_other", "_law_bad", "_law_told_here"]) rfl rfl (by decide +kernel)) (by decide +kernel) (fun f c cl A outer s H E hr => (de_callX C_turned_aboutX (hr.mono (by decide)) (da_cons (de_var 1) (da_cons (de_bin add_ok (de_var 0) de_int) da_nil)))))) (db_cons (ds_if (dt_th (dt_cmp (ne_ok hr.units) (de_var 5) (de_lst (da_cons de_str (da_cons de_str (da_cons de_str (da_cons de_str (da_cons de_str (da_cons de_str (da_cons de_str da_nil)))))))))) (db_one (ds_ret de_bool)) db_nil) (db_cons (ds_if (DW.dt (dw_or (dt_cmp (ne_ok hr.units) (de_callX C_mergedX (hr.mono (by decide)) (da_cons (de_var 2) (da_cons (de_sl (de_var 3) dO_none (dO_some de_int)) da_nil))) (de_bin add_ok (de_var 2) (de_sl (de_var 3) (dO_some de_int) (dO_some de_int)))) (dw_or1 (dt_cmp (ne_ok hr.units) (de_ix (de_callX C_shiftedX (hr.mono (by decide)) (da_cons (de_var 2) (da_cons (de_bin sub_ok de_int (de_var 1)) da_nil))) de_int) (de_tup (da_cons de_str (da_cons de_int (da_cons de_int da_nil)))))))) (db_one (ds_ret de_bool)) db_nil) (db_cons (ds_if (DW.dt (dw_or (dt_cmp (ne_ok hr.units) (de_ix (de_callX C_shiftedX (hr.mono (by decide)) (da_cons (de_var 2) (da_cons (de_bin sub_ok (de_bin sub_ok de_int (de_var 1)) de_int) da_nil))) de_int) (de_tup (da_cons de_str (da_cons de_int (da_cons de_int da_nil))))) (dw_or1 (dt_cmp (ne_ok hr.units) (de_ix (de_callX C_turned_aboutX (hr.mono (by decide)) (da_cons (de_var 2) (da_cons (de_bin add_ok (de_var 1) de_int) da_nil))) de_int) (de_tup (da_cons de_str (da_cons de_int (da_cons de_int da_nil)))))))) (db_one (ds_ret de_bool)) db_nil) (db_cons (ds_if (DW.dt (dw_or (dt_cmp (ne_ok hr.units) (de_callX C_shiftedX (hr.mono (by decide)) (da_cons (de_tup da_nil) (da_cons de_int da_nil))) (de_tup da_nil)) (dw_or1 (dt_cmp (ne_ok hr.units) (de_callX C_turned_aboutX (hr.mono (by decide)) (da_cons (de_tup da_nil) (da_cons (de_neg de_int) da_nil))) (de_tup da_nil))))) (db_one (ds_ret de_bool)) db_nil) (db_one (ds_ret (de_cmp (eq_ok hr.units) (de_ix (de_callX C_turned_aboutX (hr.mono (by decide)) (da_cons (de_var 2) (da_cons (de_bin add_ok (de_var 1) de_int) da_nil))) de_int) (de_tup (da_cons de_str (da_cons de_int (da_cons de_int da_nil))))))))))))))))))))))
end
theorem blt_mk {K : PySem.W.Frag} {h : Heap} {mg : Str → Option Value} {t0 : Tok} {t1 : Tok} (X : K.In h) (G : h.Ns mainGlobals mg) (z0 : PySem.W.nsIn K mainGlobals "ValueError" = some none) (z1 : PySem.W.nsIn K mainGlobals "bool" = some none) (z2 : PySem.W.nsIn K mainGlobals "int" = some none) (z3 : PySem.W.nsIn K mainGlobals "isinstance" = some none) (z4 : PySem.W.nsIn K mainGlobals "len" = some none) (z5 : PySem.W.nsIn K mainGlobals "range" = some none) (z6 : PySem.W.nsIn K mainGlobals "sorted" = some none) (z7 : PySem.W.nsIn K mainGlobals "tuple" = some none) (y0 : PySem.W.nsIn K mainGlobals "LAST_END" = some (some (.int 480 t0))) (y1 : PySem.W.nsIn K mainGlobals "MOST_MEETINGS" = some (some (.int 16 t1))) : Blt mg :=
  ⟨PySem.W.mg_none_of X G z0, PySem.W.mg_none_of X G z1, PySem.W.mg_none_of X G z2, PySem.W.mg_none_of X G z3, PySem.W.mg_none_of X G z4, PySem.W.mg_none_of X G z5, PySem.W.mg_none_of X G z6, PySem.W.mg_none_of X G z7, ⟨_, PySem.W.mg_of X G y0⟩, ⟨_, PySem.W.mg_of X G y1⟩⟩
theorem law_mk {l : PySem.W.OpenLaw} {w : World} {K : PySem.W.Frag} {h : Heap} {mg : Str → Option Value} {fa f4 : Addr} (X : K.In h) (G : h.Ns mainGlobals mg) (hfa : mg "law" = some (.ref fa)) {od4 an4 : Option Addr} {sl4 : Array (Option Value)} {oc4 kV4 dc4 pm4 cd4 ct4 : Value}
    (B : Blt mg) (XF : ExG exN8 K) (D0 : Def K mg "_law_cell" s_l_cell) (D1 : Def K mg "_law_pick" s_l_pick) (D2 : Def K mg "_law_class" s_l_class) (D3 : Def K mg "_law_told" s_l_told) (D4 : Def K mg "names_of" s_names_of) (D5 : Def K mg "names_alone" s_names_alone) (D6 : Def K mg "unlike_names" s_unlike_names) (D7 : Def K mg "merged" s_mergedX) (D8 : Def K mg "is_whole" s_is_whole) (D9 : Def K mg "are_times" s_are_times) (D10 : Def K mg "refuse_wrong_times" s_refuse_wrong_timesX) (D11 : Def K mg "meeting_at" s_meeting_atX) (D12 : Def K mg "later" s_laterX) (D13 : Def K mg "shifted" s_shiftedX) (D14 : Def K mg "turned_about" s_turned_aboutX) (tb0 : PySem.W.tabIn K "law" = some (220, 218)) (hC0 : PySem.W.codeHdIn K 220 218 = true)
    (a4 : PySem.W.nsIn K mainGlobals "law" = some (some (.ref f4))) (l4 : K.lookup f4 = some ⟨oc4, od4, .func (PySem.W.fnOf "law" "law" (defArgs s_law) (defBody s_law) (defScope s_law) .none kV4 dc4 pm4 an4 cd4 ct4), sl4⟩) (c4 : PySem.W.codeIn K cd4 "law" = true) (k4 : PySem.W.keepIn K (.ref f4) = true) :
    ∃ fd : FuncData, (∀ (s : Shared) (v : Value), BindsTo s fd ⟨[v], []⟩ [("_law_script", v)]) ∧ ∀ base : Heap, K.In base → base.Ns mainGlobals mg → BM mg base → FnOk l.prog w K mg base CX0 9 fa fd ["_law_script"] (spD K fun ds d => F_law ds = some (.ok d)) := by
  have e := hfa.symm.trans (PySem.W.mg_of X G a4)
  cases e
  refine ⟨PySem.W.fnOf "law" "law" (defArgs s_law) (defBody s_law) (defScope s_law) .none kV4 dc4 pm4 an4 cd4 ct4, fun s v => .of_eq rfl, fun base kb nb M => ?_⟩
  have C_l_cell := c_l_cell (P := l.prog) (w := w) (base := base) D0 B XF
  have C_l_pick := c_l_pick (P := l.prog) (w := w) (base := base) D1 B XF  C_l_cell
  have C_l_class := c_l_class (P := l.prog) (w := w) (base := base) D2 B XF
  have C_l_told := c_l_told (P := l.prog) (w := w) (base := base) D3 B XF  C_l_class
  have C_names_of := c_names_of (P := l.prog) (w := w) (base := base) D4 B XF
  have C_names_alone := c_names_alone (P := l.prog) (w := w) (base := base) D5 B XF  C_names_of
  have C_unlike_names := c_unlike_names (P := l.prog) (w := w) (base := base) D6 B XF  C_names_of C_names_alone
  have C_mergedX := c_mergedX (P := l.prog) (w := w) (base := base) D7 B XF  C_unlike_names
  have C_is_whole := c_is_whole (P := l.prog) (w := w) (base := base) D8 B XF
  have C_are_times := c_are_times (P := l.prog) (w := w) (base := base) D9 B XF  C_is_whole
  have C_refuse_wrong_timesX := c_refuse_wrong_timesX (P := l.prog) (w := w) (base := base) D10 B XF  C_are_times
  have C_meeting_atX := c_meeting_atX (P := l.prog) (w := w) (base := base) D11 B XF  C_refuse_wrong_timesX
  have C_laterX := c_laterX (P := l.prog) (w := w) (base := base) D12 B XF  C_is_whole
  have C_shiftedX := c_shiftedX (P := l.prog) (w := w) (base := base) D13 B XF  C_laterX C_meeting_atX
  have C_turned_aboutX := c_turned_aboutX (P := l.prog) (w := w) (base := base) D14 B XF  C_laterX C_meeting_atX
  exact c_law (fun_mk (st := s_law) l4 c4 k4) B kb nb M hfa tb0 hC0 XF C_l_pick C_mergedX C_l_told C_shiftedX C_turned_aboutX
end L2.L3
open PySem PySem.W PyProof.Rows
set_option maxRecDepth 100000 in
set_option maxHeartbeats 0 in
theorem PySem.Challenge.cw_daysheet_k07_compared_refused_holds : PySem.Challenge.rw_daysheet_k07_compared_refused.Holds := by
  w_on; o_law; k_head; (case hw => w_witness2)
  k_fill
  refine L2.L3.walkL (l := PySem.Challenge.rw_daysheet_k07_compared_refused) (k := 9) (F := L2.L3.F_law) (x := "_law_script") [(218, L2.L3.lamQ "law")] rfl rfl ⟨rfl, by decide, by decide⟩ (fun w h Y => PySem.W.km_in_of Y) (fun w h Y => PySem.W.km_tabs_of Y) ?cd ?ts ?F (fun ns hl => L2.L3.e_law ns hl)
  case cd => exact fun w => L2.L3.all_cons ⟨⟨220, by kernel_rfl⟩, by kernel_rfl⟩ (fun _ h => nomatch h)
  case ts => exact fun w => L2.L3.lam_all (by kernel_rfl)
  case F =>
    intro w mg fa h KX G hmg
    refine' L2.L3.law_mk KX G hmg ?B ?XF ?D0 ?D1 ?D2 ?D3 ?D4 ?D5 ?D6 ?D7 ?D8 ?D9 ?D10 ?D11 ?D12 ?D13 ?D14 ?tb0 ?hC0 ?a4 ?l4 ?c4 ?k4
    (case XF => exact ⟨by kernel_rfl⟩)
    (case tb0 => kernel_rfl); (case hC0 => kernel_rfl)
    (case a4 => k_is); (case l4 => k_is); (case c4 => k_is); (case k4 => k_is)
    (case B => (refine' L2.L3.blt_mk KX G ?z0 ?z1 ?z2 ?z3 ?z4 ?z5 ?z6 ?z7 ?y0 ?y1; (case z0 => k_is); (case z1 => k_is); (case z2 => k_is); (case z3 => k_is); (case z4 => k_is); (case z5 => k_is); (case z6 => k_is); (case z7 => k_is); (case y0 => k_is); (case y1 => k_is)))
    (case D0 => (refine' L2.L3.def_mk KX G ?a ?l ?c ?k; (case a => k_is); (case l => k_is); (case c => k_is); (case k => k_is)))
    (case D1 => (refine' L2.L3.def_mk KX G ?a ?l ?c ?k; (case a => k_is); (case l => k_is); (case c => k_is); (case k => k_is)))
    (case D2 => (refine' L2.L3.def_mk KX G ?a ?l ?c ?k; (case a => k_is); (case l => k_is); (case c => k_is); (case k => k_is)))
    (case D3 => (refine' L2.L3.def_mk KX G ?a ?l ?c ?k; (case a => k_is); (case l => k_is); (case c => k_is); (case k => k_is)))
    (case D4 => (refine' L2.L3.def_mk KX G ?a ?l ?c ?k; (case a => k_is); (case l => k_is); (case c => k_is); (case k => k_is)))
    (case D5 => (refine' L2.L3.def_mk KX G ?a ?l ?c ?k; (case a => k_is); (case l => k_is); (case c => k_is); (case k => k_is)))
    (case D6 => (refine' L2.L3.def_mk KX G ?a ?l ?c ?k; (case a => k_is); (case l => k_is); (case c => k_is); (case k => k_is)))
    (case D7 => (refine' L2.L3.def_mk KX G ?a ?l ?c ?k; (case a => k_is); (case l => k_is); (case c => k_is); (case k => k_is)))
    (case D8 => (refine' L2.L3.def_mk KX G ?a ?l ?c ?k; (case a => k_is); (case l => k_is); (case c => k_is); (case k => k_is)))
    (case D9 => (refine' L2.L3.def_mk KX G ?a ?l ?c ?k; (case a => k_is); (case l => k_is); (case c => k_is); (case k => k_is)))
    (case D10 => (refine' L2.L3.def_mk KX G ?a ?l ?c ?k; (case a => k_is); (case l => k_is); (case c => k_is); (case k => k_is)))
    (case D11 => (refine' L2.L3.def_mk KX G ?a ?l ?c ?k; (case a => k_is); (case l => k_is); (case c => k_is); (case k => k_is)))
    (case D12 => (refine' L2.L3.def_mk KX G ?a ?l ?c ?k; (case a => k_is); (case l => k_is); (case c => k_is); (case k => k_is)))
    (case D13 => (refine' L2.L3.def_mk KX G ?a ?l ?c ?k; (case a => k_is); (case l => k_is); (case c => k_is); (case k => k_is)))
    (case D14 => (refine' L2.L3.def_mk KX G ?a ?l ?c ?k; (case a => k_is); (case l => k_is); (case c => k_is); (case k => k_is)))

