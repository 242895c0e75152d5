import PyProof.Rows.All
import Wide.All
import OpenK.AllK
import Wide.FinOn
import Lean
import PyProof.EqAt
import PyProof.EqKinds
import PyProof.TupleCall
import PySem.Challenge.RW_daysheet_k80_whole_texts
set_option Elab.async false
set_option linter.all false
set_option maxRecDepth 100000
set_option maxHeartbeats 4000000
namespace L2
open PySem PySem.Spec PyProof.Rows
noncomputable abbrev Key := Sum Int Str
noncomputable def keyIs : Key → Value → Bool
  | .inl k, v => Value.isInt k v
  | .inr x, v => Value.isStrOf x v
noncomputable def keyH (w : World) : Key → Int
  | .inl k => hashInt k
  | .inr x => hashStr w x
theorem keyIs_shape : ∀ {k : Key} {v : Value}, keyIs k v = true → (∃ i t, k = Sum.inl i ∧ v = Value.int i t) ∨ (∃ x t, k = Sum.inr x ∧ v = Value.str x t)
  | .inl i, v, h => by
    obtain ⟨t, e⟩ := Value.isInt_shape (k := i) (v := v) h
    exact .inl ⟨i, t, rfl, e⟩
  | .inr x, v, h => by
    obtain ⟨t, e⟩ := Value.isStrOf_shape (x := x) (v := v) h
    exact .inr ⟨x, t, rfl, e⟩
theorem keyIs_int (i : Int) (t : Tok) : keyIs (.inl i) (.int i t) = true := by simp [keyIs, Value.isInt]
theorem keyIs_str (x : Str) (t : Tok) : keyIs (.inr x) (.str x t) = true := by simp [keyIs, Value.isStrOf]
theorem key_ll (a b : Int) : decide ((Sum.inl a : Key) = Sum.inl b) = (a == b) := by
  by_cases e : a = b
  · subst e; simp
  · have h : ¬ (Sum.inl a : Key) = Sum.inl b := fun q => e (Sum.inl.inj q)
    rw [decide_eq_false h]
    exact (beq_eq_false_iff_ne.mpr e).symm
theorem key_rr (a b : Str) : decide ((Sum.inr a : Key) = Sum.inr b) = decide (a = b) := by
  by_cases e : a = b
  · subst e; simp
  · have h : ¬ (Sum.inr a : Key) = Sum.inr b := fun q => e (Sum.inr.inj q)
    rw [decide_eq_false h, decide_eq_false e]
theorem key_lr (a : Int) (b : Str) : decide ((Sum.inl a : Key) = Sum.inr b) = false := decide_eq_false (fun q => nomatch q)
theorem key_rl (a : Str) (b : Int) : decide ((Sum.inr a : Key) = Sum.inl b) = false := decide_eq_false (fun q => nomatch q)
noncomputable def mixKind (prog : Program) (w : World) : PySem.KeyKind prog w Key where
  is := keyIs
  hash := keyH w
  inj := fun v a b ha hb => by
    rcases keyIs_shape ha with ⟨i, t, rfl, rfl⟩ | ⟨x, t, rfl, rfl⟩
    · rcases keyIs_shape hb with ⟨j, u, rfl, e⟩ | ⟨y, u, rfl, e⟩
      · injection e with e1 _; rw [e1]
      · exact nomatch e
    · rcases keyIs_shape hb with ⟨j, u, rfl, e⟩ | ⟨y, u, rfl, e⟩
      · exact nomatch e
      · injection e with e1 _; rw [e1]
  byValue := fun k v h => by
    rcases keyIs_shape h with ⟨i, t, rfl, rfl⟩ | ⟨x, t, rfl, rfl⟩ <;> rfl
  pyHash := fun hv h => by
    rcases keyIs_shape hv with ⟨i, t, rfl, rfl⟩ | ⟨x, t, rfl, rfl⟩
    · exact wpAny_pyHash_int h
    · exact wpAny_pyHash_str h
  eqBool := fun hu hv h => by
    rcases keyIs_shape hu with ⟨i, t, rfl, rfl⟩ | ⟨x, t, rfl, rfl⟩
    · rcases keyIs_shape hv with ⟨j, u, rfl, rfl⟩ | ⟨y, u, rfl, rfl⟩
      · rw [key_ll] at h; exact wpAny_eqBool_int h
      · rw [key_lr] at h; exact SeqAt.EqAt.int_str i t y u _ _ _ _ h
    · rcases keyIs_shape hv with ⟨j, u, rfl, rfl⟩ | ⟨y, u, rfl, rfl⟩
      · rw [key_rl] at h; exact SeqAt.EqAt.str_int x t j u _ _ _ _ h
      · rw [key_rr] at h; exact wpAny_eqBool_str h
  «strs» := fun k x t v h => by
    rcases keyIs_shape h with ⟨i, u, rfl, e⟩ | ⟨y, u, rfl, e⟩
    · exact nomatch e
    · injection e with e1 _
      subst e1
      cases v <;> rfl
theorem mixKind_int (prog : Program) (w : World) (i : Int) (t : Tok) : (mixKind prog w).is (.inl i) (.int i t) = true := keyIs_int i t
theorem mixKind_str (prog : Program) (w : World) (x : Str) (t : Tok) : (mixKind prog w).is (.inr x) (.str x t) = true := keyIs_str x t
end L2
namespace L2
open PySem PySem.Spec PyProof.Rows
inductive V where
  | non | bl (b : Bool) | int (i : Int) | str (x : Str) | byt (b : Array UInt8) | flt (b : UInt64) | ref (a : Addr) | ty (n : String)
  deriving DecidableEq
noncomputable def RelV : V → Value → Prop
  | .non, u => u = Value.none
  | .bl b, u => u = Value.bool b
  | .int i, u => ∃ t, u = Value.int i t
  | .str x, u => ∃ t, u = Value.str x t
  | .byt b, u => ∃ t, u = Value.bytes b t
  | .flt b, u => ∃ t, u = Value.float b t
  | .ref a, u => u = Value.ref a
  | .ty n, u => u = Value.type n
noncomputable abbrev Vals : List V → List Value → Prop := Paired RelV
theorem Vals.length {xs : List V} {us : List Value} (r : Vals xs us) : xs.length = us.length := Paired.length r
theorem Vals.get : ∀ {xs : List V} {us : List Value} {i : Nat} {x : V}, Vals xs us → xs[i]? = some x → ∃ u, us[i]? = some u ∧ RelV x u
  | _, _, _, _, .nil, e => by simp at e
  | _, _, 0, _, .cons r _, e => by simp at e; subst e; exact ⟨_, rfl, r⟩
  | _, _, i + 1, x, .cons _ t, e => by
    obtain ⟨u, h1, h2⟩ := Vals.get (i := i) (x := x) t (by simpa using e)
    exact ⟨u, by simpa using h1, h2⟩
theorem Vals.append : ∀ {xs ys : List V} {us ws : List Value}, Vals xs us → Vals ys ws → Vals (xs ++ ys) (us ++ ws)
  | _, _, _, _, .nil, s => s
  | _, _, _, _, .cons r t, s => .cons r (Vals.append t s)
theorem Vals.take : ∀ {xs : List V} {us : List Value} (n : Nat), Vals xs us → Vals (xs.take n) (us.take n)
  | _, _, 0, _ => .nil
  | _, _, _ + 1, .nil => .nil
  | _, _, n + 1, .cons r t => .cons r (Vals.take n t)
theorem Vals.drop : ∀ {xs : List V} {us : List Value} (n : Nat), Vals xs us → Vals (xs.drop n) (us.drop n)
  | _, _, 0, r => r
  | _, _, _ + 1, .nil => .nil
  | _, _, n + 1, .cons _ t => Vals.drop n t
noncomputable def RelO : Option V → Option Value → Prop
  | some v, some u => RelV v u
  | none, none => True
  | _, _ => False
noncomputable def KV {κ : Type} : List (κ × V) → List (κ × Value) → Prop := Paired fun (p : κ × V) (q : κ × Value) => p.1 = q.1 ∧ RelV p.2 q.2
noncomputable def kV : Key → V
  | .inl i => .int i
  | .inr x => .str x
inductive HO where
  | lst (xs : List V)
  | tup (xs : List V)
  | dK (kvs : List (Key × V)) | dT (kvs : List (List Key × V))
  | set (S : Int → Bool) (n : Nat)
  | ins (C dx : Addr) (fs : List (Str × V))
  | own (x : Addr)
  | xd (fs : List (Str × V))
  | met (f x : Addr)
  | rng (lo hi : Int)
  | frz (o : Obj) (u : HO)
  | tbl (ps : Str × Array Value)
  | ext (φ : Heap → Prop)
noncomputable abbrev Hp := Addr → Option HO
noncomputable def upd (H : Hp) (a : Addr) (o : HO) : Hp := fun b => if b = a then some o else H b
theorem upd_same {H : Hp} {a : Addr} {o : HO} : upd H a o a = some o := by unfold upd; rw [if_pos rfl]
theorem upd_ne {H : Hp} {a b : Addr} {o : HO} (h : b ≠ a) : upd H a o b = H b := by unfold upd; rw [if_neg h]
theorem ne_of {H : Hp} {a b : Addr} {o u : HO} (h : H a = some o) (h' : H b = some u) (d : o ≠ u) : a ≠ b := by
  intro e; subst e; rw [h] at h'; exact d (Option.some.inj h')
theorem ne_of_none {H : Hp} {a b : Addr} {o : HO} (h : H a = some o) (h' : H b = none) : a ≠ b := by
  intro e; subst e; rw [h] at h'; cases h'
section
variable (P : Program) (w : World)
noncomputable def ObjOk (H : Hp) (h : Heap) (a : Addr) : HO → Prop
  | .lst xs => xs.length ≤ sizeLine ∧ ∃ (its : List Value) (n : Nat), Vals xs its ∧ h.get? a = some { cls := .type "list", data := .seq its.toArray n }
  | .tup xs => xs.length ≤ sizeLine ∧ ∃ its : List Value, Vals xs its ∧ IsTup h a its.toArray
  | .dK kvs => kvs.length ≤ sizeLine ∧ (a == sysModules) = false ∧ ∃ vs, KV kvs vs ∧ h.DictOf (mixKind P w) a vs
  | .dT kvs => kvs.length ≤ sizeLine ∧ (a == sysModules) = false ∧ ∃ xs : List (List Key × Addr × Value),
      Paired (fun (p : List Key × V) (q : List Key × Addr × Value) => p.1 = q.1 ∧ H q.2.1 = some (.tup (p.1.map kV)) ∧ RelV p.2 q.2.2) kvs xs ∧
      ∃ o es ep, h.get? a = some o ∧ o.ExactDict ∧ o.data = .dict es ep ∧ es.toList = xs.map (entryOfKey (tupleKind (mixKind P w))) ∧ (xs.map (·.1)).Nodup
  | .set S n => h.SetOf (intKind P w) a S n
  | .ins C dx fs => H dx = some (.own a) ∧ fs.length ≤ 1000 ∧ dx ≠ a ∧ h.get? a = some (PySem.W.instObj C dx) ∧
      ∃ mA, h.Ns1 dx mA ∧ (∀ f, RelO (fs.lookup f) (mA f)) ∧ PySem.Within mA (fs.map (·.1))
  | .own _ => ∃ o, h.get? a = some o
  | .xd fs => ∃ mA, h.Ns1 a mA ∧ ∀ f, RelO (fs.lookup f) (mA f)
  | .rng lo hi => ∃ t u v, h.get? a = some { cls := .type "range", data := .fields #[.int lo t, .int hi u, .int 1 v] }
  | .frz o u => h.get? a = some o ∧ ObjOk H h a u
  | .tbl ps => h.get? a = some { cls := .none, data := .fields ps.2 }
  | .met f x => h.get? a = some (PySem.W.methodObj (.ref f) (.ref x))
  | .ext φ => φ h ∧ (∃ o, h.get? a = some o) ∧ ∀ h1 h2 : Heap, φ h1 → (∀ o, h1.get? a = some o → h2.get? a = some o) → φ h2
noncomputable def HOk (H : Hp) (h : Heap) : Prop := ∀ a o, H a = some o → ObjOk P w H h a o
end
section
variable {P : Program} {w : World} {H H' : Hp} {h h' : Heap} {a : Addr} {o : HO}
theorem ObjOk.lt (x : ObjOk P w H h a o) : a < h.objs.size := by
  cases o with
  | lst xs => obtain ⟨_, _, _, _, e⟩ := x; exact Heap.lt_size e
  | tup xs => obtain ⟨_, _, _, p⟩ := x; exact p.lt
  | dK kvs => obtain ⟨_, _, _, _, o, _, _, e, _⟩ := x; exact Heap.lt_size e
  | dT kvs => obtain ⟨_, _, _, _, o, _, _, e, _⟩ := x; exact Heap.lt_size e
  | set S n => obtain ⟨o, _, _, _, e, _⟩ := x; exact Heap.lt_size e
  | ins C dx fs => obtain ⟨_, _, _, e, _⟩ := x; exact Heap.lt_size e
  | own y => obtain ⟨_, e⟩ := x; exact Heap.lt_size e
  | xd fs => obtain ⟨_, ⟨_, _, _, e, _⟩, _⟩ := x; exact Heap.lt_size e
  | rng lo hi => obtain ⟨_, _, _, e⟩ := x; exact Heap.lt_size e
  | frz ob u => obtain ⟨e, _⟩ := x; exact Heap.lt_size e
  | tbl ps => exact Heap.lt_size (show h.get? a = some _ from x)
  | met f y => exact Heap.lt_size (show h.get? a = some _ from x)
  | ext φ => obtain ⟨_, ⟨_, e⟩, _⟩ := x; exact Heap.lt_size e
theorem Paired.mapP {α β : Type} {F G : α → β → Prop} : ∀ {l₁ : List α} {l₂ : List β}, Paired F l₁ l₂ → (∀ a b, F a b → G a b) → Paired G l₁ l₂
  | _, _, .nil, _ => .nil
  | _, _, .cons r t, f => .cons (f _ _ r) (Paired.mapP t f)
theorem ObjOk.stay (x : ObjOk P w H h a o) (k : ∀ b u, (b = a ∨ H b = some (.own a)) → h.get? b = some u → h'.get? b = some u)
    (ho : ∀ b, H b = some (.own a) → H' b = some (.own a)) (ht : ∀ b xs, H b = some (.tup xs) → H' b = some (.tup xs)) : ObjOk P w H' h' a o := by
  induction o with
  | lst xs => obtain ⟨z, its, n, r, e⟩ := x; exact ⟨z, its, n, r, k _ _ (.inl rfl) e⟩
  | tup xs => obtain ⟨z, its, r, ob, e, c⟩ := x; exact ⟨z, its, r, ob, k _ _ (.inl rfl) e, c⟩
  | dK kvs => obtain ⟨z, y, vs, r, ob, es, ep, e, c⟩ := x; exact ⟨z, y, vs, r, ob, es, ep, k _ _ (.inl rfl) e, c⟩
  | dT kvs =>
    obtain ⟨z, y, xs, r, ob, es, ep, e, c⟩ := x
    exact ⟨z, y, xs, Paired.mapP r fun p q z => ⟨z.1, ht _ _ z.2.1, z.2.2⟩, ob, es, ep, k _ _ (.inl rfl) e, c⟩
  | set S n => obtain ⟨ob, es, ep, t, e, c⟩ := x; exact ⟨ob, es, ep, t, k _ _ (.inl rfl) e, c⟩
  | ins C dx fs =>
    obtain ⟨d, z, ne, e, mA, ⟨od, es, ep, e2, c⟩, r⟩ := x
    exact ⟨ho _ d, z, ne, k _ _ (.inl rfl) e, mA, ⟨od, es, ep, k _ _ (.inr d) e2, c⟩, r⟩
  | own y => obtain ⟨ob, e⟩ := x; exact ⟨ob, k _ _ (.inl rfl) e⟩
  | xd fs => obtain ⟨mA, ⟨od, es, ep, e, c⟩, r⟩ := x; exact ⟨mA, ⟨od, es, ep, k _ _ (.inl rfl) e, c⟩, r⟩
  | rng lo hi => obtain ⟨t, u, v, e⟩ := x; exact ⟨t, u, v, k _ _ (.inl rfl) e⟩
  | frz ob u ih => obtain ⟨e, q⟩ := x; exact ⟨k _ _ (.inl rfl) e, ih q⟩
  | tbl ps =>
    have e : h.get? a = some { cls := .none, data := .fields ps.2 } := x
    show h'.get? a = some { cls := .none, data := .fields ps.2 }
    exact k a _ (.inl rfl) e
  | met f y =>
    have e : h.get? a = some (PySem.W.methodObj (.ref f) (.ref y)) := x
    show h'.get? a = some (PySem.W.methodObj (.ref f) (.ref y))
    exact k a _ (.inl rfl) e
  | ext φ => obtain ⟨p, ⟨o, e⟩, st⟩ := x; exact ⟨st _ _ p fun o q => k _ _ (.inl rfl) q, ⟨o, k _ _ (.inl rfl) e⟩, st⟩
theorem HOk.lt (x : HOk P w H h) (e : H a = some o) : a < h.objs.size := (x a o e).lt
theorem HOk.fresh (x : HOk P w H h) (e : h.objs.size ≤ a) : H a = none := by
  cases q : H a with
  | none => rfl
  | some u => exact absurd (Nat.lt_of_lt_of_le (x.lt q) e) (Nat.lt_irrefl _)
theorem HOk.kept (x : HOk P w H h) (k : ∀ b u, h.get? b = some u → h'.get? b = some u) : HOk P w H h' := fun a o e =>
  (x a o e).stay (fun b u _ q => k b u q) (fun _ q => q) fun _ _ q => q
theorem HOk.laid (x : HOk P w H h) (k : ∀ b u, h.get? b = some u → h'.get? b = some u) (hp : h.objs.size ≤ a) (new : ObjOk P w (upd H a o) h' a o) : HOk P w (upd H a o) h' := fun b u e => by
  have hn := x.fresh hp
  by_cases hb : b = a
  · subst hb; rw [upd_same] at e; cases e; exact new
  · rw [upd_ne hb] at e
    exact (x b u e).stay (fun c v _ q => k c v q) (fun c q => by rw [upd_ne (ne_of_none q hn)]; exact q) fun c xs q => by rw [upd_ne (ne_of_none q hn)]; exact q
end
noncomputable def Rd (H : Hp) (a : Addr) (u : HO) : Prop := H a = some u ∨ ∃ o, H a = some (.frz o u)
theorem Rd.ok {P : Program} {w : World} {H : Hp} {h : Heap} {a : Addr} {u : HO} (r : Rd H a u) (x : HOk P w H h) : ObjOk P w H h a u := by
  rcases r with r | ⟨o, r⟩
  · exact x a u r
  · obtain ⟨_, q⟩ := x a _ r
    exact q
noncomputable def Mut : Option HO → Prop
  | some (.lst _) => True
  | some (.dK _) => True
  | some (.dT _) => True
  | some (.set _ _) => True
  | some (.ins _ _ _) => True
  | some (.ext _) => True
  | _ => False
section
variable {P : Program} {w : World} {H : Hp} {h h' : Heap} {x e : Addr} {o' : HO}
theorem HOk.write (ok : HOk P w H h) (mu : Mut (H x)) (he : e = x ∨ H e = some (.own x)) (k : ∀ b u, b ≠ e → h.get? b = some u → h'.get? b = some u) (heo : ∃ u, h'.get? e = some u)
    (new : ObjOk P w (upd H x o') h' x o') : HOk P w (upd H x o') h' := fun b u q => by
  have nown : ∀ c y, H c = some (.own y) → c ≠ x := fun c y r z => by subst z; rw [r] at mu; exact mu
  have ntup : ∀ c xs, H c = some (.tup xs) → c ≠ x := fun c xs r z => by subst z; rw [r] at mu; exact mu
  by_cases hb : b = x
  · subst hb; rw [upd_same] at q; cases q; exact new
  · rw [upd_ne hb] at q
    by_cases hbe : b = e
    · have q' : H b = some (.own x) := by
        rcases he with z | z
        · exact absurd (hbe.trans z) hb
        · rw [hbe]; exact z
      rw [q] at q'; cases q'
      obtain ⟨v, hv⟩ := heo
      exact ⟨v, by rw [hbe]; exact hv⟩
    · refine (ok b u q).stay (fun c v hc r => k c v ?_ r) (fun c r => by rw [upd_ne (nown c b r)]; exact r) fun c xs r => by rw [upd_ne (ntup c xs r)]; exact r
      rcases hc with rfl | hc
      · exact hbe
      · rintro rfl
        rcases he with z | z
        · exact nown c b hc z
        · rw [hc] at z; cases z; exact hb rfl
end
structure Un (fs ex : List Addr) (H H' : Hp) (h h' : Heap) : Prop where
  keep : ∀ b o, h.get? b = some o → H b = none → b ∉ fs → b ∉ ex → h'.get? b = some o
  slot : ∀ b o, h.get? b = some o → H b = none → b ∈ fs → b ∉ ex → ∃ sl, h'.get? b = some { o with slots := sl }
  free : ∀ b o, h.get? b = some o → H b = none → b ∉ ex → H' b = none
  there : ∀ b o, h.get? b = some o → b ∉ ex → ∃ o', h'.get? b = some o'
  tups : ∀ b xs, H b = some (.tup xs) → H' b = some (.tup xs)
  frzs : ∀ b o u, H b = some (.frz o u) → H' b = some (.frz o u)
  tbls : ∀ b ps, H b = some (.tbl ps) → ∃ more, H' b = some (.tbl (ps.1, ps.2 ++ more))
section
variable {fs fs' ex ex' : List Addr} {H H1 H2 : Hp} {h h1 h2 h' : Heap} {a x e : Addr} {o : HO}
theorem Un.any (u : Un fs ex H H1 h h1) {b : Addr} {ob : Obj} (q : h.get? b = some ob) (n : H b = none) (hx : b ∉ ex) : ∃ sl, h1.get? b = some { ob with slots := sl } := by
  by_cases hb : b ∈ fs
  · exact u.slot b ob q n hb hx
  · exact ⟨ob.slots, u.keep b ob q n hb hx⟩
theorem Un.trans (a : Un fs ex H H1 h h1) (b : Un fs ex H1 H2 h1 h2) : Un fs ex H H2 h h2 where
  keep := fun c ob q n hc hx => b.keep c ob (a.keep c ob q n hc hx) (a.free c ob q n hx) hc hx
  slot := fun c ob q n hc hx => by
    obtain ⟨sl, e1⟩ := a.slot c ob q n hc hx
    obtain ⟨sl', e2⟩ := b.slot c _ e1 (a.free c ob q n hx) hc hx
    exact ⟨sl', e2⟩
  free := fun c ob q n hx => by
    obtain ⟨o', e1⟩ := a.there c ob q hx
    exact b.free c o' e1 (a.free c ob q n hx) hx
  there := fun c ob q hx => by
    obtain ⟨o', e1⟩ := a.there c ob q hx
    exact b.there c o' e1 hx
  tups := fun c xs q => b.tups c xs (a.tups c xs q)
  frzs := fun c ob xs q => b.frzs c ob xs (a.frzs c ob xs q)
  tbls := fun c ps q => by
    obtain ⟨m1, e1⟩ := a.tbls c ps q
    obtain ⟨m2, e2⟩ := b.tbls c _ e1
    exact ⟨m1 ++ m2, by rw [e2]; simp [Array.append_assoc]⟩
theorem Un.kept (k : ∀ b u, h.get? b = some u → h'.get? b = some u) : Un fs ex H H h h' :=
  ⟨fun b ob q _ _ _ => k b ob q, fun b ob q _ _ _ => ⟨ob.slots, k b ob q⟩, fun _ _ _ n _ => n, fun b ob q _ => ⟨ob, k b ob q⟩, fun _ _ q => q, fun _ _ _ q => q, fun _ ps q => ⟨#[], by rw [q]; simp⟩⟩
theorem Un.refl : Un fs ex H H h h := Un.kept fun _ _ q => q
theorem Un.laid (k : ∀ b u, h.get? b = some u → h'.get? b = some u) (hp : h.objs.size ≤ a) (hn : H a = none) : Un fs ex H (upd H a o) h h' where
  keep := fun b u q _ _ _ => k b u q
  slot := fun b u q _ _ _ => ⟨u.slots, k b u q⟩
  free := fun b u q n _ => by rw [upd_ne (Nat.ne_of_lt (Nat.lt_of_lt_of_le (Heap.lt_size q) hp))]; exact n
  there := fun b u q _ => ⟨u, k b u q⟩
  tups := fun b xs q => by rw [upd_ne (ne_of_none q hn)]; exact q
  frzs := fun b u xs q => by rw [upd_ne (ne_of_none q hn)]; exact q
  tbls := fun b ps q => ⟨#[], by rw [upd_ne (ne_of_none q hn), q]; simp⟩
theorem Un.write (mu : Mut (H x)) (he : e = x ∨ H e = some (.own x)) (k : ∀ b u, b ≠ e → h.get? b = some u → h'.get? b = some u) (heo : ∃ u, h'.get? e = some u) : Un fs ex H (upd H x o) h h' := by
  have hx : ∀ b, H b = none → b ≠ x := fun b n z => by subst z; rw [n] at mu; exact mu
  have hb : ∀ b, H b = none → b ≠ e := fun b n z => by
    subst z
    rcases he with r | r
    · exact hx b n r
    · rw [n] at r; cases r
  have hm : ∀ b u, H b = some u → ¬ Mut (some u) → b ≠ x := fun b u q nm z => by subst z; rw [q] at mu; exact nm mu
  refine ⟨fun b u q n _ _ => k b u (hb b n) q, fun b u q n _ _ => ⟨u.slots, k b u (hb b n) q⟩, fun b u q n _ => by rw [upd_ne (hx b n)]; exact n, fun b u q _ => ?_,
    fun b xs q => by rw [upd_ne (hm b _ q fun z => z)]; exact q, fun b u xs q => by rw [upd_ne (hm b _ q fun z => z)]; exact q, fun b ps q => ⟨#[], by rw [upd_ne (hm b _ q fun z => z), q]; simp⟩⟩
  by_cases hbe : b = e
  · subst hbe; exact heo
  · exact ⟨u, k b u hbe q⟩
theorem Un.mono (u : Un fs ex H H1 h h1) (hs : ∀ b ∈ fs, b ∈ fs') (hx : ∀ b ∈ ex, b ∈ ex') : Un fs' ex' H H1 h h1 :=
  ⟨fun b ob q n hb he => u.keep b ob q n (fun z => hb (hs b z)) fun z => he (hx b z), fun _ _ q n _ he => u.any q n fun z => he (hx _ z), fun b ob q n he => u.free b ob q n fun z => he (hx b z), fun b ob q he => u.there b ob q fun z => he (hx b z), u.tups, u.frzs, u.tbls⟩
end
noncomputable def trk (h : Heap) (H : Hp) : List Addr := (List.range h.objs.size).filter fun a => (H a).isSome
noncomputable def hidT (h : Heap) (H : Hp) : Heap := PySem.W.hideAll h (trk h H)
theorem hidT_size (h : Heap) (H : Hp) : (hidT h H).objs.size = h.objs.size := PySem.W.hideAll_size _ _
theorem hidT_get {h : Heap} {H : Hp} {b : Addr} {o : Obj} (e : h.get? b = some o) (n : H b = none) : (hidT h H).get? b = some o :=
  PySem.W.hideAll_get _ e fun hm => by
    have q : (H b).isSome = true := (List.mem_filter.mp hm).2
    rw [n] at q; simp at q
theorem of_hidT {h : Heap} {H : Hp} {b : Addr} {o : Obj} (e : (hidT h H).get? b = some o) : h.get? b = some o ∧ H b = none := by
  have e' : h.get? b = some o := PySem.W.of_hideAll (trk h H) e
  refine ⟨e', ?_⟩
  cases q : H b with
  | none => rfl
  | some x =>
    have hm : b ∈ trk h H := List.mem_filter.mpr ⟨List.mem_range.mpr (Heap.lt_size e'), by simp [q]⟩
    have z : (hidT h H).get? b = none := PySem.W.hideAll_none (trk h H) hm
    rw [z] at e; cases e
noncomputable def allNews (g h : Heap) (L : Addr) : List (Addr × Obj) := (List.range h.objs.size).filterMap fun a => if a = L ∨ (g.get? a).isSome = true then none else (h.get? a).map fun o => (a, o)
noncomputable def rest (g h : Heap) (L d : Addr) : List (Addr × Obj) := (allNews g h L).filter fun p => decide (p.1 ≠ d)
end L2
namespace L2
open PySem PySem.Spec PyProof.Rows
structure Mod (K : PySem.W.Frag) (mg : Str → Option Value) (base : Heap) : Prop where
  kin : K.In base
  glob : base.Ns mainGlobals mg
  blt : ∃ mb, base.Ns builtinsNs mb ∧ ∀ x : Str, x ≠ "__name__" → mb x = bootBuiltins x
  nolimit : base.NoLimit
structure Cx where
  prog : Program
  w : World
  K : PySem.W.Frag
  mg : Str → Option Value
  base : Heap
  A : Around
  N : List Str
  s₀ : Shared
  H₀ : Hp
  env : Env
  outer : List Env
  stack : List Env
  ex : List Addr
  fn : Str → Bool
  calm : Bool
  pn : List (Addr × Obj)
  xe : Value → Shared → Prop
noncomputable def frs (l : List Env) : List Addr := l.filterMap (·.frame)
noncomputable abbrev Cx.fs (X : Cx) : List Addr := frs X.outer
noncomputable def Vis (sc : Scope) (x : Str) : Prop := sc.names.lookup x = some .local ∨ sc.names.lookup x = some .cell ∨ sc.names.lookup x = some .free
noncomputable def Loc (sc : Scope) (x : Str) : Prop := sc.names.lookup x = some .local ∨ sc.names.lookup x = some .cell
noncomputable def Look (env : Env) (h : Heap) (m : Str → Option Value) (x : Str) (u : Value) : Prop :=
  (env.kindOf x = some .local ∧ m x = some u) ∨ ((env.kindOf x = some .cell ∨ env.kindOf x = some .free) ∧ ∃ c, env.cells.lookup x = some c ∧ h.IsCell c (some u))
structure Cx.Ok (X : Cx) : Prop where
  mod : Mod X.K X.mg X.base
  kind : X.env.scope.kind = .function
  glob : X.env.globals = mainGlobals
  blt : X.env.builtins = builtinsNs
  above : X.s₀.heap.objs.size ≤ X.env.locals
  inj : ∀ x y c, X.env.cells.lookup x = some c → X.env.cells.lookup y = some c → x = y
  has : ∀ x, (X.env.kindOf x = some .cell ∨ X.env.kindOf x = some .free) → ∃ c, X.env.cells.lookup x = some c
  cab : ∀ x c, X.fn x = true → X.env.cells.lookup x = some c → X.s₀.heap.objs.size ≤ c
  hd : X.calm = true → X.A.handled = none
  frames : X.A.frames = some X.stack
  stk : X.stack = X.outer ∨ (X.stack = X.env :: X.outer ∧ X.env.frame = some X.env.locals)
  exf : ∀ b ∈ X.ex, b ≠ X.env.locals ∧ ∀ x c, X.env.cells.lookup x = some c → c ≠ b
  bs : ∀ b o, X.base.get? b = some o → X.s₀.heap.get? b = some o ∧ X.H₀ b = none
  bsz : X.base.objs.size ≤ X.s₀.heap.objs.size
  noex : ∀ b o, X.base.get? b = some o → b ∉ X.ex
  exfs : ∀ b ∈ X.ex, b ∉ X.fs
  funs : X.s₀.heap.FunFrames X.base X.outer
  frf : ∀ b ∈ X.fs, X.H₀ b = none
structure Inv (X : Cx) (pins : List (Addr × Obj)) (σ : List (Option V)) (H : Hp) (s : Shared) : Prop where
  ok : X.Ok
  os : s.os = X.s₀.os
  bare : AllBare s.gens
  base : Un X.fs X.ex X.H₀ H X.s₀.heap s.heap
  loc : ∃ m, s.heap.Ns X.env.locals m ∧ ∀ (i : Nat) (x : Str) (v : V), X.N[i]? = some x → σ[i]? = some (some v) → Vis X.env.scope x → ∃ u, RelV v u ∧ Look X.env s.heap m x u
  cell : ∀ x c, X.env.cells.lookup x = some c → ∃ v, s.heap.IsCell c v
  free : H X.env.locals = none
  freeC : ∀ x c, X.env.cells.lookup x = some c → H c = none
  pin : ∀ p ∈ X.pn ++ pins, s.heap.get? p.1 = some p.2 ∧ H p.1 = none ∧ p.1 ≠ X.env.locals ∧ p.1 ∉ X.fs ∧ ∀ v, p.2.data ≠ .cell v
  hok : HOk X.prog X.w H s.heap
  len : σ.length = X.N.length
section
variable {X : Cx} {pins : List (Addr × Obj)} {σ : List (Option V)} {H H' : Hp} {s : Shared} {h' : Heap}
theorem Cx.Ok.nofr (ok : X.Ok) {b : Addr} {o : Obj} (e : X.base.get? b = some o) : b ∉ X.fs := fun hb => by
  have := (ok.funs.mem hb).1
  rw [e] at this; cases this
theorem Inv.bs (I : Inv X pins σ H s) : ∀ b o, X.base.get? b = some o → s.heap.get? b = some o ∧ H b = none := fun b o e =>
  ⟨I.base.keep b o (I.ok.bs b o e).1 (I.ok.bs b o e).2 (I.ok.nofr e) (I.ok.noex b o e), I.base.free b o (I.ok.bs b o e).1 (I.ok.bs b o e).2 (I.ok.noex b o e)⟩
theorem Inv.bk (I : Inv X pins σ H s) : ∀ b o, X.base.get? b = some o → s.heap.get? b = some o := fun b o e => (I.bs b o e).1
theorem Inv.mod (I : Inv X pins σ H s) : Mod X.K X.mg X.base := I.ok.mod
theorem Inv.kIn (I : Inv X pins σ H s) : X.K.In s.heap := I.ok.mod.kin.keeps I.bk
theorem Inv.lt (I : Inv X pins σ H s) : X.env.locals < s.heap.objs.size := let ⟨_, hn, _⟩ := I.loc; hn.lt
theorem Inv.sz (I : Inv X pins σ H s) : X.s₀.heap.objs.size ≤ s.heap.objs.size := Nat.le_trans I.ok.above (Nat.le_of_lt I.lt)
theorem Inv.nofs (I : Inv X pins σ H s) {a : Addr} (h : s.heap.objs.size ≤ a) : a ∉ X.fs := fun hb => by
  obtain ⟨_, o, ho, _⟩ := I.ok.funs.mem hb
  exact absurd (Nat.lt_of_lt_of_le (Heap.lt_size ho) (Nat.le_trans I.sz h)) (Nat.lt_irrefl _)
theorem Inv.cne (I : Inv X pins σ H s) : ∀ x c, X.env.cells.lookup x = some c → c ≠ X.env.locals := fun x c e z => by
  obtain ⟨v, o, ho, hd⟩ := I.cell x c e
  obtain ⟨m, ⟨o', es, ep, ho', hd', _⟩, _⟩ := I.loc
  rw [z, ho'] at ho; cases ho; rw [hd'] at hd; cases hd
theorem Inv.funs (I : Inv X pins σ H s) : s.heap.FunFrames X.base X.outer := by
  have all : ∀ (l : List Env), (∀ b ∈ frs l, b ∈ X.fs) → X.s₀.heap.FunFrames X.base l → s.heap.FunFrames X.base l := by
    intro l
    induction l with
    | nil => intro _ _; trivial
    | cons env r ih =>
      intro hs hl
      obtain ⟨hk, ⟨L, o, hf, hn, ho, hd⟩, hr⟩ := hl
      have hL : L ∈ X.fs := hs L (by unfold frs; rw [List.filterMap_cons, hf]; exact List.mem_cons_self)
      obtain ⟨sl, e⟩ := I.base.slot L o ho (I.ok.frf L hL) hL fun z => I.ok.exfs L z hL
      exact ⟨hk, ⟨L, _, hf, hn, e, hd⟩, ih (fun b hb => hs b (by unfold frs; rw [List.filterMap_cons, hf]; exact List.mem_cons_of_mem _ hb)) hr⟩
  exact all X.outer (fun _ hb => hb) I.ok.funs
theorem Inv.stack (I : Inv X pins σ H s) : s.heap.FunFrames X.base X.stack := by
  rcases I.ok.stk with e | ⟨e, hf⟩
  · rw [e]; exact I.funs
  · rw [e]
    obtain ⟨m, hn, _⟩ := I.loc
    refine .cons (by rw [I.ok.kind]; decide) hf hn ?_ I.funs
    exact Heap.get?_none_of_le (Nat.le_trans I.ok.bsz I.ok.above)
theorem Inv.stkSub (I : Inv X pins σ H s) : ∀ b ∈ frs X.stack, b ∈ X.env.locals :: X.fs := fun b hb => by
  rcases I.ok.stk with e | ⟨e, hf⟩
  · rw [e] at hb; exact List.mem_cons_of_mem _ hb
  · rw [e] at hb
    unfold frs at hb
    rw [List.filterMap_cons, hf] at hb
    exact hb
theorem Inv.stkFree (I : Inv X pins σ H s) : ∀ b ∈ frs X.stack, H b = none := fun b hb => by
  rcases List.mem_cons.mp (I.stkSub b hb) with e | hb
  · rw [e]; exact I.free
  · obtain ⟨_, o, ho, _⟩ := I.ok.funs.mem hb
    exact I.base.free b o ho (I.ok.frf b hb) fun z => I.ok.exfs b z hb
theorem Inv.step {g' : Array GenState} {t' : Nat} {d' : Drawn} {ch : List Addr} (I : Inv X pins σ H s)
    (hch : ∀ b ∈ ch, (b ∈ X.ex ∨ X.s₀.heap.objs.size ≤ b) ∧ b ≠ X.env.locals ∧ (∀ x c, X.env.cells.lookup x = some c → c ≠ b) ∧ ∀ p ∈ X.pn ++ pins, p.1 ≠ b)
    (keep : ∀ b o, b ≠ X.env.locals → b ∉ X.fs → b ∉ ch → s.heap.get? b = some o → H b = none → h'.get? b = some o)
    (slot : ∀ b o, b ≠ X.env.locals → b ∈ X.fs → b ∉ ch → s.heap.get? b = some o → H b = none → ∃ sl, h'.get? b = some { o with slots := sl }) (free : ∀ b o, b ∉ ch → s.heap.get? b = some o → H b = none → H' b = none)
    (there : ∀ b o, b ∉ ch → s.heap.get? b = some o → ∃ o', h'.get? b = some o')
    (tups : ∀ b xs, H b = some (.tup xs) → H' b = some (.tup xs)) (frzs : ∀ b o u, H b = some (.frz o u) → H' b = some (.frz o u)) (tbls : ∀ b ps, H b = some (.tbl ps) → ∃ more, H' b = some (.tbl (ps.1, ps.2 ++ more)))
    (ns : ∀ m, s.heap.Ns X.env.locals m → h'.Ns X.env.locals m) (hok : HOk X.prog X.w H' h') (hg : AllBare g') :
    Inv X pins σ H' { s with heap := h', gens := g', drawn := d', toks := t' } := by
  have neL : ∀ b o, X.s₀.heap.get? b = some o → b ≠ X.env.locals := fun b o e => Nat.ne_of_lt (Nat.lt_of_lt_of_le (Heap.lt_size e) I.ok.above)
  have neC : ∀ b o, X.s₀.heap.get? b = some o → b ∉ X.ex → b ∉ ch := fun b o e hx hb => by
    rcases (hch b hb).1 with z | z
    · exact hx z
    · exact absurd (Nat.lt_of_lt_of_le (Heap.lt_size e) z) (Nat.lt_irrefl _)
  have cellK : ∀ x c, X.env.cells.lookup x = some c → ∀ v, s.heap.IsCell c v → h'.IsCell c v := fun x c e v ⟨o, ho, hd⟩ => by
    have nch : c ∉ ch := fun z => (hch c z).2.2.1 x c e rfl
    by_cases hc : c ∈ X.fs
    · obtain ⟨sl, q⟩ := slot c o (I.cne x c e) hc nch ho (I.freeC x c e)
      exact ⟨_, q, hd⟩
    · exact ⟨o, keep c o (I.cne x c e) hc nch ho (I.freeC x c e), hd⟩
  refine ⟨I.ok, I.os, hg, ⟨fun b o e n hb hx => ?_, fun b o e n hb hx => ?_, fun b o e n hx => ?_, fun b o e hx => ?_, fun b xs e => tups b xs (I.base.tups b xs e), fun b o xs e => frzs b o xs (I.base.frzs b o xs e), fun b ps e => ?_⟩, ?_, fun x c e => ?_, ?_, fun x c e => ?_, fun p hp => ?_, hok, I.len⟩
  · exact keep b o (neL b o e) hb (neC b o e hx) (I.base.keep b o e n hb hx) (I.base.free b o e n hx)
  · obtain ⟨sl, e1⟩ := I.base.slot b o e n hb hx
    obtain ⟨sl', e2⟩ := slot b _ (neL b o e) hb (neC b o e hx) e1 (I.base.free b o e n hx)
    exact ⟨sl', e2⟩
  · obtain ⟨o', e1⟩ := I.base.there b o e hx
    exact free b o' (neC b o e hx) e1 (I.base.free b o e n hx)
  · obtain ⟨o', e1⟩ := I.base.there b o e hx
    exact there b o' (neC b o e hx) e1
  · obtain ⟨m1, e1⟩ := I.base.tbls b ps e
    obtain ⟨m2, e2⟩ := tbls b _ e1
    exact ⟨m1 ++ m2, by rw [e2]; simp [Array.append_assoc]⟩
  · obtain ⟨m, hn, hl⟩ := I.loc
    refine ⟨m, ns m hn, fun i x v e1 e2 e3 => ?_⟩
    obtain ⟨u, r, l⟩ := hl i x v e1 e2 e3
    refine ⟨u, r, ?_⟩
    rcases l with l | ⟨k, c, e, z⟩
    · exact .inl l
    · exact .inr ⟨k, c, e, cellK x c e _ z⟩
  · obtain ⟨v, z⟩ := I.cell x c e
    exact ⟨v, cellK x c e v z⟩
  · obtain ⟨m, ⟨o, _, _, ho, _⟩, _⟩ := I.loc
    exact free _ o (fun z => (hch _ z).2.1 rfl) ho I.free
  · obtain ⟨v, o, ho, hd⟩ := I.cell x c e
    exact free c o (fun z => (hch c z).2.2.1 x c e rfl) ho (I.freeC x c e)
  · obtain ⟨e, n, ne, nf, d⟩ := I.pin p hp
    have nch : p.1 ∉ ch := fun z => (hch p.1 z).2.2.2 p hp rfl
    exact ⟨keep p.1 p.2 ne nf nch e n, free p.1 p.2 nch e n, ne, nf, d⟩
theorem Inv.un {t' : Nat} (I : Inv X pins σ H s) (u : Un X.fs [] H H' s.heap h') (hok : HOk X.prog X.w H' h') : Inv X pins σ H' { s with heap := h', toks := t' } := by
  obtain ⟨m, ⟨o, es, ep, ho, r⟩, _⟩ := id I.loc
  obtain ⟨sl, hL⟩ := u.any ho I.free (by simp)
  exact I.step (g' := s.gens) (d' := s.drawn) (ch := []) (fun _ z => nomatch z) (fun b o _ hb _ e n => u.keep b o e n hb (by simp)) (fun b o _ hb _ e n => u.slot b o e n hb (by simp)) (fun b o _ e n => u.free b o e n (by simp)) (fun b o _ e => u.there b o e (by simp)) u.tups u.frzs u.tbls (fun m' hm => by
    obtain ⟨o', es', ep', ho', r'⟩ := hm
    rw [ho] at ho'; cases ho'
    exact ⟨_, es', ep', hL, r'⟩) hok I.bare
theorem Inv.call {g' : Array GenState} {t' : Nat} {d' : Drawn} {ch : List Addr} (I : Inv X pins σ H s) (u : Un (frs X.stack) ch H H' s.heap h') (hok : HOk X.prog X.w H' h') (hg : AllBare g')
    (hch : ∀ b ∈ ch, (b ∈ X.ex ∨ X.s₀.heap.objs.size ≤ b) ∧ b ≠ X.env.locals ∧ (∀ x c, X.env.cells.lookup x = some c → c ≠ b) ∧ ∀ p ∈ X.pn ++ pins, p.1 ≠ b) :
    Inv X pins σ H' { s with heap := h', gens := g', drawn := d', toks := t' } := by
  obtain ⟨m, ⟨o, es, ep, ho, r⟩, _⟩ := id I.loc
  obtain ⟨sl, hL⟩ := u.any ho I.free fun z => (hch _ z).2.1 rfl
  exact I.step (ch := ch) hch (fun b o hL hb hc e n => u.keep b o e n (fun z => (List.mem_cons.mp (I.stkSub b z)).elim hL hb) hc) (fun b o _ _ hc e n => u.any e n hc) (fun b o hc e n => u.free b o e n hc) (fun b o hc e => u.there b o e hc) u.tups u.frzs u.tbls (fun m' hm => by
    obtain ⟨o', es', ep', ho', r'⟩ := hm
    rw [ho] at ho'; cases ho'
    exact ⟨_, es', ep', hL, r'⟩) hok hg
theorem Inv.turned {t' : Nat} {it : Addr} (I : Inv X pins σ H s) (k : ∀ b o, b ≠ it → s.heap.get? b = some o → h'.get? b = some o) (hn : H it = none) (hL : it ≠ X.env.locals)
    (h1 : it ∈ X.ex ∨ X.s₀.heap.objs.size ≤ it) (h2 : ∀ x c, X.env.cells.lookup x = some c → c ≠ it) (h3 : ∀ p ∈ X.pn ++ pins, p.1 ≠ it) : Inv X pins σ H { s with heap := h', toks := t' } := by
  have nit : ∀ b u, H b = some u → b ≠ it := fun b u e z => by rw [z, hn] at e; cases e
  refine I.step (g' := s.gens) (d' := s.drawn) (ch := [it]) (fun b hb => ?_) (fun b o _ _ hc e _ => k b o (fun z => hc (by simp [z])) e) (fun b o _ _ hc e _ => ⟨o.slots, k b o (fun z => hc (by simp [z])) e⟩) (fun _ _ _ _ n => n)
    (fun b o hc e => ⟨o, k b o (fun z => hc (by simp [z])) e⟩) (fun _ _ e => e) (fun _ _ _ e => e) (fun b ps e => ⟨#[], by rw [e]; simp⟩) (fun m hm => ?_) (fun b u e => ?_) I.bare
  · have e : b = it := by simpa using hb
    subst e
    exact ⟨h1, hL, h2, h3⟩
  · obtain ⟨o, es, ep, ho, r⟩ := hm
    exact ⟨o, es, ep, k _ o (Ne.symm hL) ho, r⟩
  · refine (I.hok b u e).stay (fun c v hc q => k c v ?_ q) (fun _ q => q) fun _ _ q => q
    rcases hc with z | z
    · rw [z]; exact nit b u e
    · exact nit c _ z
theorem Inv.tok (I : Inv X pins σ H s) (t : Nat) : Inv X pins σ H { s with toks := t } := I.un (h' := s.heap) (t' := t) Un.refl I.hok
theorem Inv.kept {t' : Nat} (I : Inv X pins σ H s) (k : ∀ b u, s.heap.get? b = some u → h'.get? b = some u) : Inv X pins σ H { s with heap := h', toks := t' } := I.un (Un.kept k) (I.hok.kept k)
theorem Inv.laid {a : Addr} {o : HO} {t' : Nat} (I : Inv X pins σ H s) (k : ∀ b u, s.heap.get? b = some u → h'.get? b = some u) (hp : s.heap.objs.size ≤ a) (new : ObjOk X.prog X.w (upd H a o) h' a o) :
    Inv X pins σ (upd H a o) { s with heap := h', toks := t' } := I.un (Un.laid k hp (I.hok.fresh hp)) (I.hok.laid k hp new)
theorem Inv.write {x e : Addr} {o : HO} {t' : Nat} (I : Inv X pins σ H s) (mu : Mut (H x)) (he : e = x ∨ H e = some (.own x)) (k : ∀ b u, b ≠ e → s.heap.get? b = some u → h'.get? b = some u) (heo : ∃ u, h'.get? e = some u)
    (new : ObjOk X.prog X.w (upd H x o) h' x o) : Inv X pins σ (upd H x o) { s with heap := h', toks := t' } := I.un (Un.write mu he k heo) (I.hok.write mu he k heo new)
theorem Inv.pins_of {pins' : List (Addr × Obj)} (I : Inv X pins σ H s) (h : ∀ p ∈ pins', s.heap.get? p.1 = some p.2 ∧ H p.1 = none ∧ p.1 ≠ X.env.locals ∧ p.1 ∉ X.fs ∧ ∀ v, p.2.data ≠ .cell v) : Inv X pins' σ H s :=
  ⟨I.ok, I.os, I.bare, I.base, I.loc, I.cell, I.free, I.freeC, fun p hp => (List.mem_append.mp hp).elim (fun z => I.pin p (List.mem_append_left _ z)) (h p), I.hok, I.len⟩
theorem nodup_ix {N : List Str} (hN : N.Nodup) {i j : Nat} {x : Str} (a : N[i]? = some x) (b : N[j]? = some x) : i = j := by
  obtain ⟨h1, e1⟩ := List.getElem?_eq_some_iff.mp a
  obtain ⟨h2, e2⟩ := List.getElem?_eq_some_iff.mp b
  exact (List.getElem_inj hN).mp (e1.trans e2.symm)
theorem store_ok2 {M : Model} {A : Around} {E : Value → Shared → Prop} {i : Nat} {x : Str} {v : V} {u : Value} {Q : Unit → Shared → Prop} (I : Inv X pins σ H s) (hN : X.N.Nodup) (hi : X.N[i]? = some x) (hx : Loc X.env.scope x) (r : RelV v u)
    (h : ∀ s', Inv X pins (σ.set i (some v)) H s' → (∃ a, Heap.SameBut a s.heap s'.heap ∧ (a = X.env.locals ∨ X.env.cells.lookup x = some a)) → Q () s') (hf : X.fn x = true ∨ X.env.scope.names.lookup x = some .local := by first | exact .inl rfl | exact .inr rfl | assumption) : wpAny M A (storeName X.env x u) Q E s := by
  obtain ⟨m, hn, hl⟩ := id I.loc
  have hcls : (X.env.scope.kind == .class || (X.env.scope.kind == .module && X.env.locals != X.env.globals)) = false := by rw [I.ok.kind]; rfl
  have hiσ : i < σ.length := by rw [I.len]; exact (List.getElem?_eq_some_iff.mp hi).1
  have cne := I.cne
  have tracked : ∀ {a : Addr} {h' : Heap}, (∃ o, s.heap.get? a = some o ∧ H a = none) → Heap.SameBut a s.heap h' → HOk X.prog X.w H h' := fun {a h'} ha hs b ob e => by
    obtain ⟨_, _, hfree⟩ := ha
    refine (I.hok b ob e).stay (fun c w' hc q => (hs.2 c ?_).trans q) (fun _ q => q) fun _ _ q => q
    rintro rfl
    rcases hc with rfl | hc
    · rw [hfree] at e; cases e
    · rw [hfree] at hc; cases hc
  rcases hx with hk | hk
  · refine wpAny_storeName_local hk hn (fun h' hn' hs => ?_) hcls
    obtain ⟨oL, _, _, hoL, _⟩ := id hn
    refine h _ ⟨I.ok, I.os, I.bare, ⟨fun b o e n hb hx => ?_, fun b o e n hb hx => ?_, I.base.free, fun b o e hx => ?_, I.base.tups, I.base.frzs, I.base.tbls⟩, ⟨_, hn', fun j y v' e1 e2 e3 => ?_⟩, fun y c e => ?_, I.free, I.freeC, fun p hp => ?_, tracked ⟨oL, hoL, I.free⟩ hs, by simpa using I.len⟩ ⟨_, hs, .inl rfl⟩
    · exact (hs.2 b (Nat.ne_of_lt (Nat.lt_of_lt_of_le (Heap.lt_size e) I.ok.above))).trans (I.base.keep b o e n hb hx)
    · obtain ⟨sl, e1⟩ := I.base.slot b o e n hb hx
      exact ⟨sl, (hs.2 b (Nat.ne_of_lt (Nat.lt_of_lt_of_le (Heap.lt_size e) I.ok.above))).trans e1⟩
    · obtain ⟨o', e1⟩ := I.base.there b o e hx
      exact ⟨o', (hs.2 b (Nat.ne_of_lt (Nat.lt_of_lt_of_le (Heap.lt_size e) I.ok.above))).trans e1⟩
    · by_cases hj : j = i
      · subst hj
        rw [hi] at e1; cases e1
        rw [List.getElem?_set_self hiσ] at e2
        cases e2
        exact ⟨u, r, .inl ⟨hk, by simp⟩⟩
      · rw [List.getElem?_set_ne (Ne.symm hj)] at e2
        obtain ⟨u', r', q⟩ := hl j y v' e1 e2 e3
        refine ⟨u', r', ?_⟩
        rcases q with ⟨k, e⟩ | ⟨k, c, e, z⟩
        · refine .inl ⟨k, ?_⟩
          have : y ≠ x := fun e => hj (nodup_ix hN e1 (e ▸ hi))
          simp [this, e]
        · exact .inr ⟨k, c, e, z.sameBut hs (cne y c e)⟩
    · obtain ⟨w', z⟩ := I.cell y c e
      exact ⟨w', z.sameBut hs (cne y c e)⟩
    · obtain ⟨e, n, ne, nf, d⟩ := I.pin p hp
      exact ⟨(hs.2 p.1 ne).trans e, n, ne, nf, d⟩
  · have hfn : X.fn x = true := by
      rcases hf with z | z
      · exact z
      · rw [z] at hk; cases hk
    obtain ⟨c, hc⟩ := I.ok.has x (.inl hk)
    obtain ⟨w', z⟩ := I.cell x c hc
    refine wpAny_storeName_cell I.ok.kind hk hc z (fun h' hc' hs => ?_)
    obtain ⟨oc, hoc, hocd⟩ := id z
    refine h { s with heap := h' } ⟨I.ok, I.os, I.bare, ⟨fun b o e n hb hx => ?_, fun b o e n hb hx => ?_, I.base.free, fun b o e hx => ?_, I.base.tups, I.base.frzs, I.base.tbls⟩, ⟨m, hn.sameBut hs (Ne.symm (cne x c hc)), fun j y v' e1 e2 e3 => ?_⟩, fun y c' e => ?_, I.free, I.freeC, fun p hp => ?_, tracked ⟨oc, hoc, I.freeC x c hc⟩ hs, by simpa using I.len⟩ ⟨c, hs, .inr hc⟩
    · exact (hs.2 b (Nat.ne_of_lt (Nat.lt_of_lt_of_le (Heap.lt_size e) (I.ok.cab x c hfn hc)))).trans (I.base.keep b o e n hb hx)
    · obtain ⟨sl, e1⟩ := I.base.slot b o e n hb hx
      exact ⟨sl, (hs.2 b (Nat.ne_of_lt (Nat.lt_of_lt_of_le (Heap.lt_size e) (I.ok.cab x c hfn hc)))).trans e1⟩
    · obtain ⟨o', e1⟩ := I.base.there b o e hx
      exact ⟨o', (hs.2 b (Nat.ne_of_lt (Nat.lt_of_lt_of_le (Heap.lt_size e) (I.ok.cab x c hfn hc)))).trans e1⟩
    · by_cases hj : j = i
      · subst hj
        rw [hi] at e1; cases e1
        rw [List.getElem?_set_self hiσ] at e2
        cases e2
        exact ⟨u, r, .inr ⟨.inl hk, c, hc, hc'⟩⟩
      · rw [List.getElem?_set_ne (Ne.symm hj)] at e2
        obtain ⟨u', r', q⟩ := hl j y v' e1 e2 e3
        refine ⟨u', r', ?_⟩
        rcases q with q | ⟨k, c', e, z'⟩
        · exact .inl q
        · refine .inr ⟨k, c', e, z'.sameBut hs ?_⟩
          rintro rfl
          exact hj (nodup_ix hN e1 (I.ok.inj _ _ _ e hc ▸ hi))
    · by_cases hcc : c' = c
      · subst hcc; exact ⟨_, hc'⟩
      · obtain ⟨w2, z2⟩ := I.cell y c' e
        exact ⟨w2, z2.sameBut hs hcc⟩
    · obtain ⟨e, n, ne, nf, d⟩ := I.pin p hp
      refine ⟨(hs.2 p.1 ?_).trans e, n, ne, nf, d⟩
      intro q
      rw [q, hoc] at e
      have q' : oc = p.2 := Option.some.inj e
      exact d w' (by rw [← q']; exact hocd)
theorem store_ok {M : Model} {A : Around} {E : Value → Shared → Prop} {i : Nat} {x : Str} {v : V} {u : Value} {Q : Unit → Shared → Prop} (I : Inv X pins σ H s) (hN : X.N.Nodup) (hi : X.N[i]? = some x) (hx : Loc X.env.scope x) (r : RelV v u)
    (h : ∀ s', Inv X pins (σ.set i (some v)) H s' → Q () s') (hf : X.fn x = true ∨ X.env.scope.names.lookup x = some .local := by first | exact .inl rfl | exact .inr rfl | assumption) : wpAny M A (storeName X.env x u) Q E s :=
  store_ok2 I hN hi hx r (fun s' I' _ => h s' I') hf
theorem Inv.call' {s' : Shared} {ch : List Addr} (I : Inv X pins σ H s) (ho : s'.os = s.os) (u : Un (frs X.stack) ch H H' s.heap s'.heap) (hok : HOk X.prog X.w H' s'.heap) (hg : AllBare s'.gens)
    (hch : ∀ b ∈ ch, (b ∈ X.ex ∨ X.s₀.heap.objs.size ≤ b) ∧ b ≠ X.env.locals ∧ (∀ x c, X.env.cells.lookup x = some c → c ≠ b) ∧ ∀ p ∈ X.pn ++ pins, p.1 ≠ b) : Inv X pins σ H' s' := by
  obtain ⟨h', g', d', t', o'⟩ := s'
  have e : o' = s.os := ho
  subst e
  exact I.call (g' := g') (t' := t') (d' := d') u hok hg hch
end
noncomputable abbrev XK := Value → Option Addr → Hp → Prop
noncomputable abbrev St := List (Option V)
noncomputable abbrev VK := V → Hp → Prop
noncomputable abbrev TE := St → Hp → VK → Prop
noncomputable abbrev TT := St → Hp → (Bool → Hp → Prop) → Prop
noncomputable abbrev TA := St → Hp → (List V → Hp → Prop) → Prop
structure Ends where
  nx : St → Hp → Prop
  rt : VK
  bk : St → Hp → Prop := fun _ _ => False
  ct : St → Hp → Prop := fun _ _ => False
noncomputable abbrev TS := Ends → St → Hp → Prop
noncomputable def EP (X : Cx) (pins : List (Addr × Obj)) (σ : St) (Q : VK) (u : Value) (s' : Shared) : Prop := ∃ v H', Inv X pins σ H' s' ∧ RelV v u ∧ Q v H'
noncomputable def TP (X : Cx) (pins : List (Addr × Obj)) (σ : St) (Q : Bool → Hp → Prop) (b : Bool) (s' : Shared) : Prop := ∃ H', Inv X pins σ H' s' ∧ Q b H'
noncomputable def AP (X : Cx) (pins : List (Addr × Obj)) (σ : St) (Q : List V → Hp → Prop) (us : List Value) (s' : Shared) : Prop := ∃ vs H', Inv X pins σ H' s' ∧ Vals vs us ∧ Q vs H'
noncomputable def SP (X : Cx) (pins : List (Addr × Obj)) (D : Ends) (f : Flow) (s' : Shared) : Prop :=
  match f with
  | .next => ∃ σ' H', Inv X pins σ' H' s' ∧ D.nx σ' H'
  | .brk => ∃ σ' H', Inv X pins σ' H' s' ∧ D.bk σ' H'
  | .cont => ∃ σ' H', Inv X pins σ' H' s' ∧ D.ct σ' H'
  | .ret u => ∃ v σ' H', Inv X pins σ' H' s' ∧ RelV v u ∧ D.rt v H'
noncomputable def PE (X : Cx) (e : Expr) (t : TE) : Prop :=
  ∀ (pins : List (Addr × Obj)) (s : Shared) (σ : St) (H : Hp) (Q : VK), Inv X pins σ H s → t σ H Q → wpAny (model X.prog X.w) X.A (eval e X.env) (EP X pins σ Q) X.xe s
noncomputable def PT (X : Cx) (e : Expr) (t : TT) : Prop :=
  ∀ (pins : List (Addr × Obj)) (s : Shared) (σ : St) (H : Hp) (Q : Bool → Hp → Prop), Inv X pins σ H s → t σ H Q → wpAny (model X.prog X.w) X.A (isTrue e X.env (eval e X.env)) (TP X pins σ Q) X.xe s
noncomputable def PW (X : Cx) (e : Expr) (t : TT) : Prop :=
  ∀ (whole : Sem Value) (pins : List (Addr × Obj)) (s : Shared) (σ : St) (H : Hp) (Q : Bool → Hp → Prop), Inv X pins σ H s → t σ H Q → wpAny (model X.prog X.w) X.A (isTrue e X.env whole) (TP X pins σ Q) X.xe s
noncomputable def PA (X : Cx) (es : List Expr) (t : TA) : Prop :=
  ∀ (pos : Pos) (pins : List (Addr × Obj)) (s : Shared) (σ : St) (H : Hp) (Q : List V → Hp → Prop), Inv X pins σ H s → t σ H Q → wpAny (model X.prog X.w) X.A (spliced (backTo pos (starEach es X.env))) (AP X pins σ Q) X.xe s
noncomputable def PS (X : Cx) (st : Stmt) (t : TS) : Prop :=
  ∀ (pins : List (Addr × Obj)) (s : Shared) (σ : St) (H : Hp) (D : Ends), Inv X pins σ H s → t D σ H → wpAny (model X.prog X.w) X.A (exec st X.env) (SP X pins D) X.xe s
noncomputable def PSs (X : Cx) (st : List Stmt) (t : TS) : Prop :=
  ∀ (pins : List (Addr × Obj)) (s : Shared) (σ : St) (H : Hp) (D : Ends), Inv X pins σ H s → t D σ H → wpAny (model X.prog X.w) X.A (execs st X.env) (SP X pins D) X.xe s
theorem thn {α : Type} {t : Sem α} {Q Q' : α → Shared → Prop} {M : Model} {A : Around} {E : Value → Shared → Prop} {s : Shared} (h : wpAny M A t Q E s) (hQ : ∀ a s, Q a s → Q' a s) : wpAny M A t Q' E s := wpAny_mono h hQ fun _ _ x => x
end L2
namespace L2
open PySem PySem.Spec PyProof.Rows
section
variable {X : Cx}
noncomputable def tVar (i : Nat) : TE := fun σ H Q => ∃ v, σ[i]? = some (some v) ∧ Q v H
noncomputable def tC (v : V) : TE := fun _ H Q => Q v H
theorem pe_var {i : Nat} {x : Str} {pos : Pos} (hN : X.N[i]? = some x) (hv : Vis X.env.scope x) (hd : (x == ("__debug__" : Str)) = false := by decide) (hcd : (x == ("__classdict__" : Str)) = false := by decide) : PE X (.Name x pos) (tVar i) := by
  intro pins s σ H Q I h
  obtain ⟨v, e, h⟩ := h
  obtain ⟨m, hn, hl⟩ := I.loc
  obtain ⟨u, r, l⟩ := hl i x v hN e hv
  have fin : EP X pins σ Q u s := ⟨v, H, I, r, h⟩
  rcases l with ⟨hk, hm⟩ | ⟨hk, c, hc, hcell⟩
  · exact wpAny_Name (wpAny_loadName_local I.ok.kind hk hn hm fin) hd
  · rcases hk with hk | hk
    · exact wpAny_Name (wpAny_loadName_cell I.ok.kind hk hc hcell fin) hd
    · exact wpAny_Name (wpAny_loadName_free I.ok.kind hk hc hcell fin hcd) hd
theorem pe_int {i j pos} : PE X (.Constant (.int i) j pos) (tC (.int i)) := fun _ _ _ H _ I h => wpAny_Constant_int ⟨.int i, H, I.tok _, ⟨_, rfl⟩, h⟩
theorem pe_bl {b j pos} : PE X (.Constant (.bool b) j pos) (tC (.bl b)) := fun _ _ _ H _ I h => Constant_bool ⟨.bl b, H, I, rfl, h⟩
theorem pe_non {j pos} : PE X (.Constant .none j pos) (tC .non) := fun _ _ _ H _ I h => Constant_none ⟨.non, H, I, rfl, h⟩
theorem pe_str {x j pos} : PE X (.Constant (.str x) j pos) (tC (.str x)) := fun _ _ _ H _ I h => Calls.Constant_str ⟨.str x, H, I.tok _, ⟨_, rfl⟩, h⟩
noncomputable def Gl (X : Cx) (x : Str) : Prop := X.env.kindOf x = some .globalImplicit
theorem ld_glob {E : Value → Shared → Prop} {pins : List (Addr × Obj)} {s : Shared} {σ : St} {H : Hp} {x : Str} {u : Value} {pos : Pos} {Q : Value → Shared → Prop} (I : Inv X pins σ H s) (hg : Gl X x) (hm : X.mg x = some u) (h : Q u s)
    (hd : (x == ("__debug__" : Str)) = false := by decide) : wpAny (model X.prog X.w) X.A (eval (.Name x pos) X.env) Q E s :=
  Calls.Name_function_global I.ok.kind hg (Calls.loadGlobal_global (by rw [I.ok.glob]; exact I.mod.glob.keeps I.bk) hm h) hd
theorem ld_blt {E : Value → Shared → Prop} {pins : List (Addr × Obj)} {s : Shared} {σ : St} {H : Hp} {x : Str} {u : Value} {pos : Pos} {Q : Value → Shared → Prop} (I : Inv X pins σ H s) (hg : Gl X x) (hm : X.mg x = none) (hv : bootBuiltins x = some u) (h : Q u s)
    (hn : x ≠ "__name__" := by decide) (hd : (x == ("__debug__" : Str)) = false := by decide) : wpAny (model X.prog X.w) X.A (eval (.Name x pos) X.env) Q E s := by
  obtain ⟨mb, h1, h2⟩ := I.mod.blt
  exact Calls.Name_function_global I.ok.kind hg (Calls.loadGlobal_builtin (by rw [I.ok.glob]; exact I.mod.glob.keeps I.bk) hm (by rw [I.ok.blt]; exact h1.keeps I.bk) ((h2 x hn).trans hv) h) hd
theorem pe_glob {x : Str} {v : V} {u : Value} {pos : Pos} (hg : Gl X x) (hm : X.mg x = some u) (r : RelV v u) (hd : (x == ("__debug__" : Str)) = false := by decide) : PE X (.Name x pos) (tC v) :=
  fun _ _ _ H _ I h => ld_glob I hg hm ⟨v, H, I, r, h⟩ hd
theorem pe_bltn {x : Str} {v : V} {u : Value} {pos : Pos} (hg : Gl X x) (hm : X.mg x = none) (hv : bootBuiltins x = some u) (r : RelV v u) (hn : x ≠ "__name__" := by decide) (hd : (x == ("__debug__" : Str)) = false := by decide) : PE X (.Name x pos) (tC v) :=
  fun _ _ _ H _ I h => ld_blt I hg hm hv ⟨v, H, I, r, h⟩ hn hd
variable {a b : Expr} {ta tb : TE} {pos : Pos}
variable {tA tB' : TT} {rest : List Expr}
noncomputable def tOr (t u : TT) : TT := fun σ H Q => t σ H fun c H1 => if c = true then Q true H1 else u σ H1 Q
noncomputable def tNot (t : TT) : TT := fun σ H Q => t σ H fun c H1 => Q (!c) H1
theorem pw_or1 (ha : PT X a tA) : PW X (.BoolOp .Or [a] pos) tA := by
  intro wh pins s σ H Q I h
  refine isTrue_or (thn (ha pins s σ H Q I h) fun c s1 e => ?_)
  cases c with
  | false => exact isTrue_or_nil e
  | true => exact e
theorem pw_or (ha : PT X a tA) (hb : PW X (.BoolOp .Or (b :: rest) pos) tB') : PW X (.BoolOp .Or (a :: b :: rest) pos) (tOr tA tB') := by
  intro wh pins s σ H Q I h
  refine isTrue_or (thn (ha pins s σ H _ I h) fun c s1 ⟨H1, I1, q1⟩ => ?_)
  cases c with
  | true => exact ⟨H1, I1, q1⟩
  | false => exact hb wh pins s1 σ H1 Q I1 q1
theorem pt_not (ha : PT X a tA) : PT X (.UnaryOp .Not a pos) (tNot tA) := by
  intro pins s σ H Q I h
  exact isTrue_not (ha pins s σ H (fun c H1 => Q (!c) H1) I h)
noncomputable def tAndV (ta tb : TE) : TE := fun σ H Q => ta σ H fun x H1 => ∃ c, x = .bl c ∧ if c = true then tb σ H1 Q else Q (.bl false) H1
noncomputable def tNotV (ta : TE) : TE := fun σ H Q => ta σ H fun x H1 => ∃ c, x = .bl c ∧ Q (.bl (!c)) H1
theorem pe_one {op} {t : TE} (h : PE X a t) : PE X (.BoolOp op [a] pos) t := fun pins s σ H Q I hw => BoolOp_one (h pins s σ H Q I hw)
theorem pe_and (ha : PE X a ta) (hb : PE X (.BoolOp .And (b :: rest) pos) tb) : PE X (.BoolOp .And (a :: b :: rest) pos) (tAndV ta tb) := by
  intro pins s σ H Q I h
  refine BoolOp_and (thn (ha pins s σ H _ I h) fun v s1 ⟨x, H1, I1, r1, q1⟩ => ?_)
  obtain ⟨c, rfl, q1⟩ := q1
  cases r1
  refine wpAny_truthy_bool ?_
  cases c with
  | true => exact hb pins s1 σ H1 Q I1 q1
  | false => exact ⟨.bl false, H1, I1, rfl, q1⟩
theorem pe_not (ha : PE X a ta) : PE X (.UnaryOp .Not a pos) (tNotV ta) := by
  intro pins s σ H Q I h
  refine UnaryOp_ (thn (ha pins s σ H _ I h) fun v s1 ⟨x, H1, I1, r1, q1⟩ => ?_)
  obtain ⟨c, rfl, q1⟩ := q1
  cases r1
  exact not_of (wpAny_truthy_bool ⟨.bl (!c), H1, I1, rfl, q1⟩)
end
end L2
namespace L2
open PySem PySem.Spec PyProof.Rows
noncomputable def SqL (K : PySem.W.Frag) (H : Hp) (a : Addr) (xs : List V) : Prop :=
  Rd H a (.lst xs) ∨
    ∃ (o : Obj) (its : Array Value) (n : Nat), K.lookup a = some o ∧ o.cls = .type "list" ∧ o.dict = none ∧ o.data = .seq its n ∧ its.size ≤ sizeLine ∧ Vals xs its.toList
noncomputable def SqT (K : PySem.W.Frag) (H : Hp) (a : Addr) (xs : List V) : Prop :=
  Rd H a (.tup xs) ∨
    ∃ (o : Obj) (its : Array Value) (n : Nat), K.lookup a = some o ∧ o.cls = .type "tuple" ∧ o.data = .seq its n ∧ its.size ≤ sizeLine ∧ Vals xs its.toList
noncomputable def absV : Value → Option V
  | .none => some .non
  | .bool b => some (.bl b)
  | .int i _ => some (.int i)
  | .str x _ => some (.str x)
  | .bytes b _ => some (.byt b)
  | .float b _ => some (.flt b)
  | .ref a => some (.ref a)
  | .type n => some (.ty n)
  | _ => none
theorem RelV.abs {x : V} {u : Value} (r : RelV x u) : absV u = some x := by
  cases x with
  | non => cases r; rfl
  | bl _ => cases r; rfl
  | int _ => obtain ⟨t, rfl⟩ := r; rfl
  | str _ => obtain ⟨t, rfl⟩ := r; rfl
  | byt _ => obtain ⟨t, rfl⟩ := r; rfl
  | flt _ => obtain ⟨t, rfl⟩ := r; rfl
  | ref _ => cases r; rfl
  | ty _ => cases r; rfl
theorem RelV.inj {x y : V} {u : Value} (r : RelV x u) (q : RelV y u) : x = y := Option.some.inj (r.abs.symm.trans q.abs)
theorem Vals.inj : ∀ {xs ys : List V} {us : List Value}, Vals xs us → Vals ys us → xs = ys
  | _, _, _, .nil, .nil => rfl
  | _, _, _, .cons r t, .cons r' t' => by rw [r.inj r', Vals.inj t t']
section
variable {X : Cx} {pins : List (Addr × Obj)} {σ : St} {H : Hp} {s : Shared} {a : Addr} {xs ys : List V}
theorem SqL.of {K : PySem.W.Frag} (h : H a = some (.lst xs)) : SqL K H a xs := .inl (.inl h)
theorem SqT.of {K : PySem.W.Frag} (h : H a = some (.tup xs)) : SqT K H a xs := .inl (.inl h)
theorem Inv.list (I : Inv X pins σ H s) (h : SqL X.K H a xs) : ∃ its : List Value, Vals xs its ∧ PlainL s.heap a its.toArray ∧ xs.length ≤ sizeLine := by
  rcases h with h | ⟨o, its, n, hk, hc, hd, hs, hz, r⟩
  · obtain ⟨z, its, n, r, e⟩ := h.ok I.hok
    exact ⟨its, r, ⟨_, n, e, rfl, rfl, rfl⟩, z⟩
  · refine ⟨its.toList, r, ⟨o, n, I.kIn a o hk, hc, hd, by simpa using hs⟩, ?_⟩
    have e := r.length
    simp only [Array.length_toList] at e
    omega
theorem Inv.tuple (I : Inv X pins σ H s) (h : SqT X.K H a xs) : ∃ its : List Value, Vals xs its ∧ IsTup s.heap a its.toArray ∧ xs.length ≤ sizeLine := by
  rcases h with h | ⟨o, its, n, hk, hc, hs, hz, r⟩
  · obtain ⟨z, its, r, p⟩ := h.ok I.hok
    exact ⟨its, r, p, z⟩
  · refine ⟨its.toList, r, ⟨o, I.kIn a o hk, hc, n, by simpa using hs⟩, ?_⟩
    have e := r.length
    simp only [Array.length_toList] at e
    omega
theorem Inv.list_inj (I : Inv X pins σ H s) (h : SqL X.K H a xs) (h' : SqL X.K H a ys) : xs = ys := by
  obtain ⟨its, r, ⟨o, n, e, _, _, d⟩, _⟩ := I.list h
  obtain ⟨its', r', ⟨o', n', e', _, _, d'⟩, _⟩ := I.list h'
  rw [e] at e'; cases e'
  rw [d] at d'
  injection d' with d1 _
  have : its = its' := by simpa using congrArg Array.toList d1
  subst this
  exact r.inj r'
theorem Inv.tuple_inj (I : Inv X pins σ H s) (h : SqT X.K H a xs) (h' : SqT X.K H a ys) : xs = ys := by
  obtain ⟨its, r, ⟨o, e, _, n, d⟩, _⟩ := I.tuple h
  obtain ⟨its', r', ⟨o', e', _, n', d'⟩, _⟩ := I.tuple h'
  rw [e] at e'; cases e'
  rw [d] at d'
  injection d' with d1 _
  have : its = its' := by simpa using congrArg Array.toList d1
  subst this
  exact r.inj r'
end
noncomputable abbrev Cx.wish (X : Cx) (E : Value → Shared → Prop) : Cx := { X with xe := E }
noncomputable abbrev Cx.nox (X : Cx) : Cx := X.wish fun _ _ => False
theorem Cx.Ok.wish {X : Cx} (ok : X.Ok) (E : Value → Shared → Prop) : (X.wish E).Ok :=
  ⟨ok.mod, ok.kind, ok.glob, ok.blt, ok.above, ok.inj, ok.has, ok.cab, ok.hd, ok.frames, ok.stk, ok.exf, ok.bs, ok.bsz, ok.noex, ok.exfs, ok.funs, ok.frf⟩
theorem Cx.Ok.unwish {X : Cx} {E : Value → Shared → Prop} (ok : (X.wish E).Ok) : X.Ok :=
  ⟨ok.mod, ok.kind, ok.glob, ok.blt, ok.above, ok.inj, ok.has, ok.cab, ok.hd, ok.frames, ok.stk, ok.exf, ok.bs, ok.bsz, ok.noex, ok.exfs, ok.funs, ok.frf⟩
section
variable {X : Cx} {pins : List (Addr × Obj)} {σ : St} {H : Hp} {s : Shared} {E : Value → Shared → Prop}
theorem Inv.wish (I : Inv X pins σ H s) (E : Value → Shared → Prop) : Inv (X.wish E) pins σ H s := ⟨I.ok.wish E, I.os, I.bare, I.base, I.loc, I.cell, I.free, I.freeC, I.pin, I.hok, I.len⟩
theorem Inv.unwish (I : Inv (X.wish E) pins σ H s) : Inv X pins σ H s := ⟨I.ok.unwish, I.os, I.bare, I.base, I.loc, I.cell, I.free, I.freeC, I.pin, I.hok, I.len⟩
theorem SP.unwish {D : Ends} {f : Flow} {s' : Shared} (h : SP (X.wish E) pins D f s') : SP X pins D f s' := by
  cases f with
  | next => obtain ⟨σ', H', I, q⟩ := h; exact ⟨σ', H', I.unwish, q⟩
  | brk => obtain ⟨σ', H', I, q⟩ := h; exact ⟨σ', H', I.unwish, q⟩
  | cont => obtain ⟨σ', H', I, q⟩ := h; exact ⟨σ', H', I.unwish, q⟩
  | ret u => obtain ⟨v, σ', H', I, r, q⟩ := h; exact ⟨v, σ', H', I.unwish, r, q⟩
theorem PSs.nox {st : List Stmt} {t : TS} (h : PSs X.nox st t) : PSs X st t := fun pins s σ H D I hw =>
  wpAny_mono (h pins s σ H D (I.wish _) hw) (fun _ _ q => q.unwish) fun _ _ z => False.elim z
end
section
variable {X : Cx} {st : Stmt} {rest : List Stmt} {t u : TS} {e : Expr} {te : TE} {pos : Pos}
noncomputable def tNext : TS := fun D σ H => D.nx σ H
theorem pss_nil : PSs X [] tNext := fun _ _ σ H _ I h => wpAny_execs_nil ⟨σ, H, I, h⟩
theorem pss_one (h1 : PS X st t) : PSs X [st] t := by
  intro pins s σ H D I h
  refine wpAny_execs_cons (thn (h1 pins s σ H D I h) fun f s1 q => ?_)
  cases f with
  | next => exact wpAny_execs_nil q
  | ret v => exact q
  | brk => exact q
  | cont => exact q
theorem Inv.quiet {pins : List (Addr × Obj)} {σ : St} {H : Hp} {s : Shared} (I : Inv X pins σ H s) : interactive X.env = false := by simp [interactive, I.ok.kind]
noncomputable def tDrop (te : TE) : TS := fun D σ H => te σ H fun _ H1 => D.nx σ H1
theorem ps_expr (he : PE X e te) (hs : swapsWith e none pos.line X.env = pure false := by rfl) : PS X (.Expr e pos) (tDrop te) := by
  intro pins s σ H D I h
  exact wpAny_Expr_any (thn (he pins s σ H _ I h) fun v s1 ⟨x, H1, I1, r1, q1⟩ => ⟨σ, H1, I1, q1⟩) I.quiet hs
noncomputable def tRet (te : TE) : TS := fun D σ H => te σ H D.rt
theorem ps_ret (he : PE X e te) : PS X (.Return (some e) pos) (tRet te) := by
  intro pins s σ H D I h
  exact wpAny_Return_some (thn (he pins s σ H _ I h) fun v s1 ⟨x, H1, I1, r1, q1⟩ => ⟨x, σ, H1, I1, r1, q1⟩)
noncomputable def tIfS (c : TT) (t u : TS) : TS := fun D σ H => c σ H fun b H1 => if b = true then t D σ H1 else u D σ H1
theorem ps_if {c : Expr} {a b : List Stmt} {tc : TT} (hc : PT X c tc) (ha : PSs X a t) (hb : PSs X b u) : PS X (.If c a b pos) (tIfS tc t u) := by
  intro pins s σ H D I h
  refine wpAny_If (thn (hc pins s σ H _ I h) fun d s1 ⟨H1, I1, q1⟩ => ?_)
  cases d with
  | true => exact ha pins s1 σ H1 D I1 q1
  | false => exact hb pins s1 σ H1 D I1 q1
end
noncomputable abbrev TG := V → St → Hp → (St → Hp → Prop) → Prop
noncomputable abbrev TGs := List V → St → Hp → (St → Hp → Prop) → Prop
noncomputable def PG (X : Cx) (target : Expr) (t : TG) : Prop :=
  ∀ (pins : List (Addr × Obj)) (s : Shared) (σ : St) (H : Hp) (v : V) (u : Value) (Q : St → Hp → Prop), Inv X pins σ H s → RelV v u → t v σ H Q →
    wpAny (model X.prog X.w) X.A (assign target X.env u) (fun _ s' => ∃ σ' H', Inv X pins σ' H' s' ∧ Q σ' H') X.xe s
noncomputable def PGs (X : Cx) (ts : List Expr) (t : TGs) : Prop :=
  ∀ (pins : List (Addr × Obj)) (s : Shared) (σ : St) (H : Hp) (vs : List V) (us : List Value) (Q : St → Hp → Prop), Inv X pins σ H s → Vals vs us → t vs σ H Q →
    wpAny (model X.prog X.w) X.A (assignInOrder ((assignEach ts X.env).map (·.2)) us) (fun _ s' => ∃ σ' H', Inv X pins σ' H' s' ∧ Q σ' H') X.xe s
section
variable {X : Cx} {pos : Pos}
noncomputable def gName (i : Nat) : TG := fun v σ H Q => Q (σ.set i (some v)) H
theorem pg_name {i : Nat} {x : Str} (hN : X.N.Nodup) (hi : X.N[i]? = some x) (hx : Loc X.env.scope x) (hf : X.fn x = true ∨ X.env.scope.names.lookup x = some .local := by first | exact .inl rfl | exact .inr rfl | assumption) : PG X (.Name x pos) (gName i) := by
  intro pins s σ H v u Q I r h
  exact wpAny_assign_Name (store_ok I hN hi hx r (fun s' I' => ⟨_, H, I', h⟩) hf)
noncomputable def gNil : TGs := fun vs σ H Q => vs = [] ∧ Q σ H
noncomputable def gCons (t : TG) (u : TGs) : TGs := fun vs σ H Q => ∃ v r, vs = v :: r ∧ t v σ H fun σ' H' => u r σ' H' Q
theorem pgs_nil : PGs X [] gNil := by
  intro pins s σ H vs us Q I r h
  obtain ⟨e, h⟩ := h
  subst e
  cases r
  exact assignInOrder_nil ⟨σ, H, I, h⟩
theorem pgs_cons {e : Expr} {es : List Expr} {t : TG} {u : TGs} (h1 : PG X e t) (h2 : PGs X es u)
    (hs : (assignEach (e :: es) X.env).map (·.2) = assign e X.env :: (assignEach es X.env).map (·.2) := by rfl) : PGs X (e :: es) (gCons t u) := by
  intro pins s σ H vs us Q I r h
  obtain ⟨v, vr, e1, h⟩ := h
  subst e1
  cases r with
  | cons r rr =>
    rw [hs]
    refine assignInOrder_cons (thn (h1 pins s σ H _ _ _ I r h) fun _ s1 ⟨σ1, H1, I1, q1⟩ => ?_)
    exact h2 pins s1 σ1 H1 _ _ Q I1 rr q1
noncomputable def gTup (K : PySem.W.Frag) (n : Nat) (t : TGs) : TG := fun v σ H Q => ∃ a xs, v = .ref a ∧ SqT K H a xs ∧ xs.length = n ∧ t xs σ H Q
theorem pg_tup {es : List Expr} {k : Nat} {t : TGs} {n : Nat} (hc : X.calm = true) (h : PGs X es t)
    (hn : (assignEach es X.env).length = n := by rfl) (hst : (assignEach es X.env).findIdx? (·.1) = none := by rfl) : PG X (.Tuple es k pos) (gTup X.K n t) := by
  intro pins s σ H v u Q I r hw
  obtain ⟨a, xs, e1, hq, hl, hw⟩ := hw
  subst e1
  cases r
  obtain ⟨its, rv, ht, hz⟩ := I.tuple hq
  refine assign_Tuple_tuple (I.ok.hd hc) ht (by simp [hn, ← hl, rv.length]) hst fun h' hx => ?_
  have I1 : Inv X pins σ H { s with heap := h' } := I.kept (t' := s.toks) fun b o e => hx b o (Nat.ne_of_lt (Heap.lt_size e)) e
  exact h pins _ σ H xs _ Q I1 (by simpa using rv) hw
noncomputable def tAsg (te : TE) (g : TG) : TS := fun D σ H => te σ H fun x H1 => g x σ H1 D.nx
theorem ps_set {i : Nat} {x : Str} {e : Expr} {te : TE} {pos' : Pos} (hN : X.N.Nodup) (hi : X.N[i]? = some x) (hx : Loc X.env.scope x) (he : PE X e te) (hs : swapsWith e (some (.Name x pos')) pos.line X.env = pure false := by rfl) (hf : X.fn x = true ∨ X.env.scope.names.lookup x = some .local := by first | exact .inl rfl | exact .inr rfl | assumption) :
    PS X (.Assign [.Name x pos'] e pos) (tAsg te (gName i)) := by
  intro pins s σ H D I h
  refine wpAny_Assign_Name (thn (he pins s σ H _ I h) fun v s1 ⟨y, H1, I1, r1, q1⟩ => ?_) hs
  exact store_ok I1 hN hi hx r1 (fun s2 I2 => ⟨_, H1, I2, q1⟩) hf
end
section
variable {X : Cx} {pos : Pos}
end
structure It where
  go : Nat → Hp → Prop
  yld : Nat → Hp → V → Hp → Prop
  stop : Nat → Hp → Prop
noncomputable def FpOk (X : Cx) (pins : List (Addr × Obj)) (H : Hp) (b : Addr) : Prop :=
  H b = none ∧ b ≠ X.env.locals ∧ b ∉ X.fs ∧ (b ∈ X.ex ∨ X.s₀.heap.objs.size ≤ b) ∧ (∀ x c, X.env.cells.lookup x = some c → c ≠ b) ∧ ∀ p ∈ X.pn ++ pins, p.1 ≠ b
theorem Inv.fpOk {X : Cx} {pins : List (Addr × Obj)} {σ : St} {H H' : Hp} {s : Shared} {b : Addr} (I : Inv X pins σ H s) (hb : s.heap.objs.size ≤ b) (hn : H' b = none) : FpOk X pins H' b := by
  refine ⟨hn, Nat.ne_of_gt (Nat.lt_of_lt_of_le I.lt hb), I.nofs hb, .inr (Nat.le_trans I.sz hb), fun x c e z => ?_, fun p hp z => ?_⟩
  · obtain ⟨v, q⟩ := I.cell x c e
    exact absurd (Nat.lt_of_lt_of_le q.lt (by rw [z]; exact hb)) (Nat.lt_irrefl _)
  · exact absurd (Nat.lt_of_lt_of_le (Heap.lt_size (I.pin p hp).1) (by rw [z]; exact hb)) (Nat.lt_irrefl _)
structure Turn (P : Program) (w : World) (K : PySem.W.Frag) (tg : Expr) (J : It) (fp : List Addr) (it : Addr) (tn : Nat → Heap → Prop) : Prop where
  mem : it ∈ fp
  obj : ∀ i h, tn i h → ∀ b ∈ fp, ∃ o, h.get? b = some o ∧ ∀ v, o.data ≠ .cell v
  keep : ∀ i h h', tn i h → (∀ b ∈ fp, ∀ o, h.get? b = some o → h'.get? b = some o) → tn i h'
  item : ∀ (X : Cx), X.prog = P → X.w = w → X.K = K → X.calm = true → ∀ (i : Nat) (pins : List (Addr × Obj)) (s : Shared) (σ : St) (H : Hp) (E : Value → Shared → Prop), Inv X pins σ H s → (∀ b ∈ fp, FpOk X pins H b) → tn i s.heap → J.go i H →
    wpAny (model P w) X.A (pyNext (.ref it)) (fun r s1 => ∃ u, r = some u ∧
      wpAny (model P w) X.A (letOwnedTupleGo tg (.ref it) u) (fun _ s2 => ∃ x H', Inv X pins σ H' s2 ∧ RelV x u ∧ J.yld i H x H' ∧ tn (i + 1) s2.heap ∧ ∀ b ∈ fp, H' b = none) E s1) E s
  done : ∀ (X : Cx), X.prog = P → X.w = w → X.K = K → X.calm = true → ∀ (i : Nat) (pins : List (Addr × Obj)) (s : Shared) (σ : St) (H : Hp) (E : Value → Shared → Prop), Inv X pins σ H s → (∀ b ∈ fp, FpOk X pins H b) → tn i s.heap → J.stop i H →
    wpAny (model P w) X.A (pyNext (.ref it)) (fun r s1 => r = none ∧ Inv X pins σ H s1) E s
  self : ∀ (A : Around) (i : Nat) (s : Shared) (Q : Value → Shared → Prop) (E : Value → Shared → Prop), tn i s.heap → Q (.ref it) s → wpAny (model P w) A (pyIter (.ref it)) Q E s
noncomputable abbrev TI := St → Hp → (It → Hp → Prop) → Prop
noncomputable def PIE (X : Cx) (pins : List (Addr × Obj)) (σ : St) (tg : Expr) (R : It → Hp → Prop) (itv : Value) (s2 : Shared) : Prop :=
  ∃ (it : Addr) (fp : List Addr) (tn : Nat → Heap → Prop) (J : It) (H' : Hp), itv = .ref it ∧ Inv X pins σ H' s2 ∧ Turn X.prog X.w X.K tg J fp it tn ∧ tn 0 s2.heap ∧ (∀ b ∈ fp, FpOk X pins H' b) ∧ R J H'
noncomputable def PI (X : Cx) (tg iter : Expr) (wi : TI) : Prop :=
  ∀ (pins : List (Addr × Obj)) (s : Shared) (σ : St) (H : Hp) (R : It → Hp → Prop), Inv X pins σ H s → wi σ H R →
    wpAny (model X.prog X.w) X.A (eval iter X.env) (fun v s1 => wpAny (model X.prog X.w) X.A (pyIter v) (PIE X pins σ tg R) X.xe s1) X.xe s
theorem go_of {M : Model} {A : Around} {E : Value → Shared → Prop} {s : Shared} {tg : Expr} {it : Addr} {u : Value} {o : Obj} {n : String} {vs : Array Value} {Q : Unit → Shared → Prop} (ho : s.heap.get? it = some o) (hc : o.cls = .type n) (hd : o.data = .fields vs)
    (hn : ["enumerate", "zip", "dict_itemiterator", "dict_reverseitemiterator", "odict_iterator", "itertools.zip_longest", "itertools.pairwise"].contains n = false) (hQ : Q () s) : wpAny M A (letOwnedTupleGo tg (.ref it) u) Q E s := by
  unfold letOwnedTupleGo
  cases tg <;> first
    | exact wpAny_pure hQ
    | (cases u <;> first
        | exact wpAny_pure hQ
        | (refine wpAny_bind (wpAny_load ho ?_)
           rw [hc, hd]
           show wpAny M A (if (["enumerate", "zip", "dict_itemiterator", "dict_reverseitemiterator", "odict_iterator", "itertools.zip_longest", "itertools.pairwise"].contains n && vs[0]? == some (rawInt _)) = true then _ else _) Q E s
           rw [if_neg (by intro h; rw [hn, Bool.false_and] at h; cases h)]
           exact wpAny_pure hQ))
noncomputable def Itl (K : PySem.W.Frag) (a : Addr) : It :=
  ⟨fun i H => ∃ xs x, SqL K H a xs ∧ xs[i]? = some x, fun i H x H' => H' = H ∧ ∀ xs, SqL K H a xs → xs[i]? = some x, fun i H => ∃ xs, SqL K H a xs ∧ xs.length ≤ i⟩
noncomputable def Itt (K : PySem.W.Frag) (a : Addr) : It :=
  ⟨fun i H => ∃ xs x, SqT K H a xs ∧ xs[i]? = some x, fun i H x H' => H' = H ∧ ∀ xs, SqT K H a xs → xs[i]? = some x, fun i H => ∃ xs, SqT K H a xs ∧ xs.length ≤ i⟩
noncomputable def Itr (lo : Int) (n : Nat) : It := ⟨fun i _ => i < n, fun i H x H' => H' = H ∧ x = .int (lo + i), fun i _ => n ≤ i⟩
theorem turn_list {P : Program} {w : World} {K : PySem.W.Frag} {tg : Expr} (a it : Addr) : Turn P w K tg (Itl K a) [it] it (fun i h => h.IsListIter it a i) where
  mem := by simp
  obj := fun i h st b hb => by
    have e : b = it := by simpa using hb
    subst e
    obtain ⟨o, e, c, d⟩ := st
    exact ⟨o, e, fun v z => by rw [d] at z; cases z⟩
  keep := fun i h h' st k => st.at fun o e => k it (by simp) o e
  item := by
    intro X hP hw hK hc i pins s σ H E I hf st hg
    subst hP hw hK
    obtain ⟨xs, x, hq, hx⟩ := hg
    obtain ⟨its, rv, p, hz⟩ := I.list hq
    obtain ⟨u, hu, ru⟩ := rv.get hx
    obtain ⟨f0, f1, f2, f3, f4, f5⟩ := hf it (by simp)
    refine wpAny_pyNext_list_item st p.isList (x := u) (by simpa using hu) fun h' st' sb => ?_
    have I1 : Inv X pins σ H { s with heap := h' } := I.turned (t' := s.toks) (fun b o hb e => (sb.2 b hb).trans e) f0 f1 f3 f4 f5
    obtain ⟨o, e, c, d⟩ := id st'
    exact ⟨u, rfl, go_of (s := { s with heap := h' }) e c d (by decide) ⟨x, H, I1, ru, ⟨rfl, fun ys hy => by rw [I.list_inj hy hq]; exact hx⟩, st', fun b hb => (hf b hb).1⟩⟩
  done := by
    intro X hP hw hK hc i pins s σ H E I hf st hg
    subst hP hw hK
    obtain ⟨xs, hq, hx⟩ := hg
    obtain ⟨its, rv, p, hz⟩ := I.list hq
    obtain ⟨f0, f1, f2, f3, f4, f5⟩ := hf it (by simp)
    have hl := rv.length
    exact wpAny_pyNext_list_end (I.ok.hd hc) st p.isList (by simp; omega) fun h' eb => ⟨rfl, I.turned (t' := s.toks) (fun b o hb e => eb b o hb e) f0 f1 f3 f4 f5⟩
  self := fun _ _ _ _ _ st h => wpAny_pyIter_listiter st h
theorem turn_tuple {P : Program} {w : World} {K : PySem.W.Frag} {tg : Expr} (a it : Addr) : Turn P w K tg (Itt K a) [it] it (fun i h => h.IsTupleIter it a i) where
  mem := by simp
  obj := fun i h st b hb => by
    have e : b = it := by simpa using hb
    subst e
    obtain ⟨o, e, c, d⟩ := st
    exact ⟨o, e, fun v z => by rw [d] at z; cases z⟩
  keep := fun i h h' st k => st.at fun o e => k it (by simp) o e
  item := by
    intro X hP hw hK hc i pins s σ H E I hf st hg
    subst hP hw hK
    obtain ⟨xs, x, hq, hx⟩ := hg
    obtain ⟨its, rv, p, hz⟩ := I.tuple hq
    obtain ⟨u, hu, ru⟩ := rv.get hx
    obtain ⟨f0, f1, f2, f3, f4, f5⟩ := hf it (by simp)
    refine wpAny_pyNext_tuple_item st (show s.heap.IsTuple a its.toArray from p) (x := u) (by simpa using hu) fun h' st' sb => ?_
    have I1 : Inv X pins σ H { s with heap := h' } := I.turned (t' := s.toks) (fun b o hb e => (sb.2 b hb).trans e) f0 f1 f3 f4 f5
    obtain ⟨o, e, c, d⟩ := id st'
    exact ⟨u, rfl, go_of (s := { s with heap := h' }) e c d (by decide) ⟨x, H, I1, ru, ⟨rfl, fun ys hy => by rw [I.tuple_inj hy hq]; exact hx⟩, st', fun b hb => (hf b hb).1⟩⟩
  done := by
    intro X hP hw hK hc i pins s σ H E I hf st hg
    subst hP hw hK
    obtain ⟨xs, hq, hx⟩ := hg
    obtain ⟨its, rv, p, hz⟩ := I.tuple hq
    obtain ⟨f0, f1, f2, f3, f4, f5⟩ := hf it (by simp)
    have hl := rv.length
    exact wpAny_pyNext_tuple_end (I.ok.hd hc) st (show s.heap.IsTuple a its.toArray from p) (by simp; omega) fun h' eb => ⟨rfl, I.turned (t' := s.toks) (fun b o hb e => eb b o hb e) f0 f1 f3 f4 f5⟩
  self := fun _ _ _ _ _ st h => wpAny_pyIter_tupleiter st h
theorem turn_range {P : Program} {w : World} {K : PySem.W.Frag} {tg : Expr} (it : Addr) (lo : Int) (n : Nat) : Turn P w K tg (Itr lo n) [it] it (fun i h => IsRangeIter h it (lo + (i : Nat) * 1) ((n : Int) - (i : Nat)) 1) where
  mem := by simp
  obj := fun i h st b hb => by
    have e : b = it := by simpa using hb
    subst e
    exact ⟨_, st, fun v z => by
      have z' : Data.fields _ = Data.cell v := z
      cases z'⟩
  keep := fun i h h' st k => k it (by simp) _ st
  item := by
    intro X hP hw hK hc i pins s σ H E I hf st hg
    subst hP hw hK
    obtain ⟨f0, f1, f2, f3, f4, f5⟩ := hf it (by simp)
    have W := Walks.range (prog := X.prog) (w := X.w) (I.ok.hd hc) it lo 1 n
    refine W.item i s _ _ hg st fun v h' tk hv st' kk => ?_
    obtain ⟨t, rfl⟩ := hv
    have I1 : Inv X pins σ H { s with heap := h', toks := tk } := I.turned (fun b o hb e => kk b o (by simpa using hb) e) f0 f1 f3 f4 f5
    refine ⟨_, rfl, go_of (s := { s with heap := h', toks := tk }) (n := "range_iterator") st' rfl rfl (by decide) ⟨.int (lo + i), H, I1, ⟨t, ?_⟩, ⟨rfl, rfl⟩, st', fun b hb => (hf b hb).1⟩⟩
    rw [Int.mul_one]
  done := by
    intro X hP hw hK hc i pins s σ H E I hf st hg
    subst hP hw hK
    obtain ⟨f0, f1, f2, f3, f4, f5⟩ := hf it (by simp)
    exact wpAny_pyNext_range_end (I.ok.hd hc) st (by have : n ≤ i := hg; omega) fun h' eb => ⟨rfl, I.turned (t' := s.toks) (fun b o hb e => eb b o hb e) f0 f1 f3 f4 f5⟩
  self := fun _ _ _ _ _ st h => wpAny_pyIter_rangeiter st h
end L2
namespace L2
open PySem PySem.Spec PyProof.Rows
section
variable {X : Cx} {tg : Expr}
noncomputable def iList (K : PySem.W.Frag) (tl : TE) : TI := fun σ H R => tl σ H fun x H1 => ∃ a, x = .ref a ∧ (∃ xs, SqL K H1 a xs) ∧ R (Itl K a) H1
noncomputable def iTup (K : PySem.W.Frag) (tl : TE) : TI := fun σ H R => tl σ H fun x H1 => ∃ a, x = .ref a ∧ (∃ xs, SqT K H1 a xs) ∧ R (Itt K a) H1
theorem pi_list {l : Expr} {tl : TE} (hl : PE X l tl) : PI X tg l (iList X.K tl) := by
  intro pins s σ H R I h
  refine thn (hl pins s σ H _ I h) fun v s1 ⟨x, H1, I1, r1, q1⟩ => ?_
  obtain ⟨a, e, ⟨xs, hq⟩, q⟩ := q1
  subst e
  cases r1
  obtain ⟨its, rv, p, hz⟩ := I1.list hq
  refine wpAny_pyIter_list p.isList ?_
  refine ⟨s1.heap.objs.size, [s1.heap.objs.size], _, _, H1, rfl, I1.kept (t' := s1.toks) fun b o e => Heap.get?_push_of_some _ e, turn_list a _, ⟨_, Heap.get?_push_size _ rfl, rfl, rfl⟩, fun b hb => ?_, q⟩
  have e : b = s1.heap.objs.size := by simpa using hb
  subst e
  exact I1.fpOk (Nat.le_refl _) (I1.hok.fresh (Nat.le_refl _))
theorem pi_tup {l : Expr} {tl : TE} (hl : PE X l tl) : PI X tg l (iTup X.K tl) := by
  intro pins s σ H R I h
  refine thn (hl pins s σ H _ I h) fun v s1 ⟨x, H1, I1, r1, q1⟩ => ?_
  obtain ⟨a, e, ⟨xs, hq⟩, q⟩ := q1
  subst e
  cases r1
  obtain ⟨its, rv, p, hz⟩ := I1.tuple hq
  refine wpAny_pyIter_tuple (show s1.heap.IsTuple a its.toArray from p) ?_
  refine ⟨s1.heap.objs.size, [s1.heap.objs.size], _, _, H1, rfl, I1.kept (t' := s1.toks) fun b o e => Heap.get?_push_of_some _ e, turn_tuple a _, ⟨_, Heap.get?_push_size _ rfl, rfl, rfl⟩, fun b hb => ?_, q⟩
  have e : b = s1.heap.objs.size := by simpa using hb
  subst e
  exact I1.fpOk (Nat.le_refl _) (I1.hok.fresh (Nat.le_refl _))
theorem range_it {pins : List (Addr × Obj)} {σ : St} {H : Hp} {s : Shared} {R : It → Hp → Prop} {E : Value → Shared → Prop} {lo hi : Int} {t u v : Tok} {tk : Nat} (I : Inv X pins σ H s) (h1 : -(2 ^ 62) ≤ lo) (h2 : lo < 2 ^ 62) (h3 : -(2 ^ 62) ≤ hi) (h4 : hi < 2 ^ 62)
    (q : R (Itr lo (hi - lo).toNat) H) : wpAny (model X.prog X.w) X.A (pyIter (.ref s.heap.objs.size)) (PIE X pins σ tg R) E { s with heap := s.heap.push { cls := .type "range", data := .fields #[.int lo t, .int hi u, .int 1 v] }, toks := tk } := by
  refine wpAny_pyIter_range (IsRange.new ..) (small_one h1 h2 h3 h4) ?_
  have I1 : Inv X pins σ H { s with heap := s.heap.push { cls := .type "range", data := .fields #[.int lo t, .int hi u, .int 1 v] }, toks := tk } := I.kept fun b o e => Heap.get?_push_of_some _ e
  refine ⟨(s.heap.push { cls := .type "range", data := .fields #[.int lo t, .int hi u, .int 1 v] }).objs.size, [(s.heap.push { cls := .type "range", data := .fields #[.int lo t, .int hi u, .int 1 v] }).objs.size], _, _, H, rfl,
    I1.kept (t' := tk) fun b o e => Heap.get?_push_of_some _ e, turn_range _ lo (hi - lo).toNat, ?_, fun b hb => ?_, q⟩
  · have e1 : lo + ((0 : Nat) : Int) * 1 = lo := by simp
    have e2 : (((hi - lo).toNat : Nat) : Int) - ((0 : Nat) : Int) = Builtin.Range.rangeSize lo hi 1 := by rw [rangeSize_one]; split <;> omega
    show IsRangeIter _ _ (lo + ((0 : Nat) : Int) * 1) ((((hi - lo).toNat : Nat) : Int) - ((0 : Nat) : Int)) 1
    rw [e1, e2]
    exact Heap.get?_push_size _ rfl
  · have e : b = (s.heap.push { cls := .type "range", data := .fields #[.int lo t, .int hi u, .int 1 v] }).objs.size := by simpa using hb
    subst e
    exact I1.fpOk (Nat.le_refl _) (I1.hok.fresh (Nat.le_refl _))
noncomputable def iRng1 (ta : TA) : TI := fun σ H R => ta σ H fun vs H1 => ∃ j : Int, vs = [.int j] ∧ -(2 ^ 62) ≤ j ∧ j < 2 ^ 62 ∧ R (Itr 0 j.toNat) H1
theorem pi_range1 {a : Expr} {ta : TA} {p pos : Pos} (hg : Gl X "range") (hm : X.mg "range" = none) (ha : PA X [a] ta) (hs : starEach [a] X.env = [(false, eval a X.env)] := by rfl) : PI X tg (.Call (.Name "range" p) [a] [] pos) (iRng1 ta) := by
  intro pins s σ H R I h
  refine Call_ (ld_blt I hg hm boot_range (PyProof.Rows.callWith_type1 (thn (ha pos pins s σ H _ I h) fun us s1 ⟨vs, H1, I1, r1, q1⟩ => ?_) hs rfl))
  obtain ⟨j, e, q1, q2, q⟩ := q1
  subst e
  cases r1 with
  | cons r rr =>
    cases rr
    obtain ⟨t, rfl⟩ := r
    exact call_range_1 (range_it I1 (by omega) (by omega) q1 q2 (by simpa using q))
noncomputable def tFor (wi : TI) (g : TG) (tb : TS) : TS := fun D σ H => wi σ H fun J H1 => ∃ W : Nat → Nat → St → Hp → Prop, (∃ m, W 0 m σ H1) ∧ ∀ i m σ H, W i m σ H →
  (J.stop i H ∧ D.nx σ H) ∨ (J.go i H ∧ ∃ N : St → Hp → Prop, (∀ σ' H', N σ' H' → ∃ m', m' < m ∧ W (i + 1) m' σ' H') ∧ ∀ x H', J.yld i H x H' → g x σ H' fun σ2 H2 => tb { D with nx := N, ct := N, bk := D.nx } σ2 H2)
noncomputable def pinsAt (fp : List Addr) (h : Heap) : List (Addr × Obj) := fp.filterMap fun b => (h.get? b).map fun o => (b, o)
theorem mem_pinsAt {fp : List Addr} {h : Heap} {b : Addr} {o : Obj} (hb : b ∈ fp) (e : h.get? b = some o) : (b, o) ∈ pinsAt fp h := List.mem_filterMap.mpr ⟨b, hb, by rw [e]; rfl⟩
theorem of_pinsAt {fp : List Addr} {h : Heap} {p : Addr × Obj} (hp : p ∈ pinsAt fp h) : p.1 ∈ fp ∧ h.get? p.1 = some p.2 := by
  obtain ⟨b, hb, e⟩ := List.mem_filterMap.mp hp
  cases q : h.get? b with
  | none => rw [q] at e; cases e
  | some o =>
    rw [q] at e
    have e' : (b, o) = p := Option.some.inj e
    subst e'
    exact ⟨hb, q⟩
theorem Inv.pinned {pins : List (Addr × Obj)} {σ : St} {H : Hp} {s : Shared} {fp : List Addr} (I : Inv X pins σ H s) (hf : ∀ b ∈ fp, FpOk X pins H b) (ho : ∀ b ∈ fp, ∃ o, s.heap.get? b = some o ∧ ∀ v, o.data ≠ .cell v) : Inv X (pins ++ pinsAt fp s.heap) σ H s :=
  I.pins_of fun p hp => (List.mem_append.mp hp).elim (fun z => I.pin p (List.mem_append_right _ z)) fun z => by
    obtain ⟨hb, e⟩ := of_pinsAt z
    obtain ⟨f0, f1, f2, _⟩ := hf p.1 hb
    obtain ⟨o, e', d⟩ := ho p.1 hb
    rw [e] at e'; cases e'
    exact ⟨e, f0, f1, f2, d⟩
theorem Inv.unpinned {pins pl : List (Addr × Obj)} {σ : St} {H : Hp} {s : Shared} (I : Inv X (pins ++ pl) σ H s) : Inv X pins σ H s := I.pins_of fun p hp => I.pin p (List.mem_append_right _ (List.mem_append_left _ hp))
theorem ps_for {iter : Expr} {body : List Stmt} {wi : TI} {g : TG} {tb : TS} {pos : Pos} (hp : PassesOwn (model X.prog X.w) X.A X.env X.xe) (hc : X.calm = true) (hi : PI X tg iter wi) (hg : PG X tg g) (hb : PSs X body tb)
    (hs : ∀ x, foldedSetIterable iter X.env x = pure x := by intro _; rfl) : PS X (.For tg iter body [] pos) (tFor wi g tb) := by
  intro pins s σ H D I h
  refine wpAny_For (thn (hi pins s σ H _ I h) fun v s1 h1 => thn h1 fun itv s2 h2 => ?_) hs
  obtain ⟨it, fp, tn, J, H2, e, I2, T, st2, f2, W, ⟨m0, w0⟩, turn⟩ := h2
  subst e
  -- what stays true of the iterator's objects through the loop
  have stat : ∀ {H' : Hp}, (∀ b ∈ fp, H' b = none) → ∀ b ∈ fp, FpOk X pins H' b := fun hn b hb => ⟨hn b hb, (f2 b hb).2⟩
  refine codeAny_forLoop_any (fun n s' => ∃ i σ' H', Inv X pins σ' H' s' ∧ tn i s'.heap ∧ (∀ b ∈ fp, H' b = none) ∧ W i n σ' H') ?_ m0 ⟨0, σ, H2, I2, st2, fun b hb => (f2 b hb).1, w0⟩
  rintro n s3 ⟨i, σ3, H3, I3, st3, fr3, w3⟩
  rcases turn i n σ3 H3 w3 with ⟨stop, qn⟩ | ⟨go, N, hN, step⟩
  · refine wpAny_passesOwn hp (thn (T.done X rfl rfl rfl hc i pins s3 σ3 H3 X.xe I3 (stat fr3) st3 stop) fun r s4 ⟨hr, I4⟩ => ?_)
    subst hr
    exact wpAny_execs_nil ⟨σ3, H3, I4, qn⟩
  · refine wpAny_passesOwn hp (thn (T.item X rfl rfl rfl hc i pins s3 σ3 H3 X.xe I3 (stat fr3) st3 go) fun r s4 ⟨u, hr, h4⟩ => ?_)
    subst hr
    refine wpAny_passesOwn hp (thn h4 fun _ s5 ⟨x, H5, I5, r5, y5, st5, fr5⟩ => ?_)
    have I5' := I5.pinned (stat fr5) (T.obj _ _ st5)
    refine wpAny_passesOwn hp (thn (hg _ s5 σ3 H5 x u _ I5' r5 (step x H5 y5)) fun _ s6 ⟨σ6, H6, I6, q6⟩ => ?_)
    refine wpAny_passesOwn hp (thn (hb _ s6 σ6 H6 _ I6 q6) fun f s7 q7 => ?_)
    have again : ∀ {σ7 : St} {H7 : Hp}, Inv X (pins ++ pinsAt fp s5.heap) σ7 H7 s7 → N σ7 H7 → ∃ m, m < n ∧ ∃ i σ' H', Inv X pins σ' H' s7 ∧ tn i s7.heap ∧ (∀ b ∈ fp, H' b = none) ∧ W i m σ' H' := fun {σ7 H7} I7 n7 => by
      obtain ⟨m', hm, w7⟩ := hN σ7 H7 n7
      refine ⟨m', hm, i + 1, σ7, H7, I7.unpinned, T.keep _ _ _ st5 fun b hb o e => (I7.pin (b, o) (List.mem_append_right _ (List.mem_append_right _ (mem_pinsAt hb e)))).1, fun b hb => ?_, w7⟩
      obtain ⟨o, e, d⟩ := T.obj _ _ st5 b hb
      exact (I7.pin (b, o) (List.mem_append_right _ (List.mem_append_right _ (mem_pinsAt hb e)))).2.1
    cases f with
    | next => obtain ⟨σ7, H7, I7, n7⟩ := q7; exact again I7 n7
    | cont => obtain ⟨σ7, H7, I7, n7⟩ := q7; exact again I7 n7
    | brk => obtain ⟨σ7, H7, I7, q7⟩ := q7; exact ⟨σ7, H7, I7.unpinned, q7⟩
    | ret v => obtain ⟨x7, σ7, H7, I7, r7, q7⟩ := q7; exact ⟨x7, σ7, H7, I7.unpinned, r7, q7⟩
end
end L2
namespace L2
open PySem PySem.Spec PyProof.Rows
noncomputable abbrev R2 := V → V → Hp → VK → Prop
noncomputable def OpR (X : Cx) (f : Value → Value → Sem Value) (r : R2) : Prop :=
  ∀ (pins : List (Addr × Obj)) (s : Shared) (σ : St) (H : Hp) (x y : V) (v u : Value) (Q : VK), Inv X pins σ H s → RelV x v → RelV y u → r x y H Q →
    wpAny (model X.prog X.w) X.A (f v u) (EP X pins σ Q) X.xe s
noncomputable def UnR (X : Cx) (f : Value → Sem Value) (r : V → Hp → VK → Prop) : Prop :=
  ∀ (pins : List (Addr × Obj)) (s : Shared) (σ : St) (H : Hp) (x : V) (v : Value) (Q : VK), Inv X pins σ H s → RelV x v → r x H Q →
    wpAny (model X.prog X.w) X.A (f v) (EP X pins σ Q) X.xe s
noncomputable def CallR (X : Cx) (f : Value) (r : List V → Hp → VK → Prop) : Prop :=
  ∀ (pins : List (Addr × Obj)) (s : Shared) (σ : St) (H : Hp) (xs : List V) (us : List Value) (Q : VK), Inv X pins σ H s → Vals xs us → r xs H Q →
    wpAny (model X.prog X.w) X.A (call f us) (EP X pins σ Q) X.xe s
noncomputable def TruR (X : Cx) (r : V → Hp → (Bool → Hp → Prop) → Prop) : Prop :=
  ∀ (pins : List (Addr × Obj)) (s : Shared) (σ : St) (H : Hp) (x : V) (v : Value) (Q : Bool → Hp → Prop), Inv X pins σ H s → RelV x v → r x H Q →
    wpAny (model X.prog X.w) X.A (truthy v) (TP X pins σ Q) X.xe s
noncomputable def tOp (r : R2) (ta tb : TE) : TE := fun σ H Q => ta σ H fun x H1 => tb σ H1 fun y H2 => r x y H2 Q
noncomputable def tUn (r : V → Hp → VK → Prop) (ta : TE) : TE := fun σ H Q => ta σ H fun x H1 => r x H1 Q
noncomputable def rI (C : Int → Int → Prop) (g : Int → Int → V) : R2 := fun x y H Q => ∃ i j, x = .int i ∧ y = .int j ∧ C i j ∧ Q (g i j) H
noncomputable def rI0 (g : Int → Int → V) : R2 := fun x y H Q => ∃ i j, x = .int i ∧ y = .int j ∧ Q (g i j) H
noncomputable def rU (g : Int → V) : V → Hp → VK → Prop := fun x H Q => ∃ i, x = .int i ∧ Q (g i) H
section
variable {X : Cx} {a b c : Expr} {ta tb tc : TE} {pos : Pos}
theorem binT (ha : PE X a ta) (hb : PE X b tb) {pins : List (Addr × Obj)} {s : Shared} {σ : St} {H : Hp} {R : V → V → Hp → Prop} (I : Inv X pins σ H s)
    (h : ta σ H fun x H1 => tb σ H1 fun y H2 => R x y H2) {Q : Value → Shared → Prop} {f : Value → Value → Sem Value}
    (hf : ∀ v u s2 x y H2, Inv X pins σ H2 s2 → RelV x v → RelV y u → R x y H2 → wpAny (model X.prog X.w) X.A (f v u) Q X.xe s2) :
    wpAny (model X.prog X.w) X.A (eval a X.env) (fun v s₁ => wpAny (model X.prog X.w) X.A (eval b X.env) (fun u s₂ => wpAny (model X.prog X.w) X.A (f v u) Q X.xe s₂) X.xe s₁) X.xe s := by
  refine thn (ha pins s σ H _ I h) fun v s1 ⟨x, H1, I1, r1, q1⟩ => ?_
  refine thn (hb pins s1 σ H1 _ I1 q1) fun u s2 ⟨y, H2, I2, r2, q2⟩ => ?_
  exact hf v u s2 x y H2 I2 r1 r2 q2
theorem pe_op {op : Operator} {r : R2} (ho : OpR X (binaryOp op) r) (ha : PE X a ta) (hb : PE X b tb) : PE X (.BinOp a op b pos) (tOp r ta tb) := by
  intro pins s σ H Q I h
  exact wpAny_BinOp (binT ha hb I h fun v u s2 x y H2 I2 rx ry q => ho pins s2 σ H2 x y v u Q I2 rx ry q)
theorem pe_un {op : UnaryOp} {r : V → Hp → VK → Prop} (ho : UnR X (unaryOp op) r) (ha : PE X a ta) : PE X (.UnaryOp op a pos) (tUn r ta) := by
  intro pins s σ H Q I h
  exact UnaryOp_ (thn (ha pins s σ H _ I h) fun v s1 ⟨x, H1, I1, r1, q1⟩ => ho pins s1 σ H1 x v Q I1 r1 q1)
theorem opI {f : Value → Value → Sem Value} {C : Int → Int → Prop} {g : Int → Int → Int}
    (rule : ∀ (i j : Int) (t u : Tok) (s : Shared) (Q : Value → Shared → Prop) (E : Value → Shared → Prop), C i j → Q (.int (g i j) s.toks) { s with toks := s.toks + 1 } → wpAny (model X.prog X.w) X.A (f (.int i t) (.int j u)) Q E s) :
    OpR X f (rI C fun i j => .int (g i j)) := by
  intro pins s σ H x y v u Q I rx ry h
  obtain ⟨i, j, rfl, rfl, hc, q⟩ := h
  obtain ⟨t, rfl⟩ := rx
  obtain ⟨t', rfl⟩ := ry
  exact rule i j t t' s _ _ hc ⟨.int (g i j), H, I.tok _, ⟨_, rfl⟩, q⟩
theorem opI0 {f : Value → Value → Sem Value} {g : Int → Int → Int}
    (rule : ∀ (i j : Int) (t u : Tok) (s : Shared) (Q : Value → Shared → Prop) (E : Value → Shared → Prop), Q (.int (g i j) s.toks) { s with toks := s.toks + 1 } → wpAny (model X.prog X.w) X.A (f (.int i t) (.int j u)) Q E s) :
    OpR X f (rI0 fun i j => .int (g i j)) := by
  intro pins s σ H x y v u Q I rx ry h
  obtain ⟨i, j, rfl, rfl, q⟩ := h
  obtain ⟨t, rfl⟩ := rx
  obtain ⟨t', rfl⟩ := ry
  exact rule i j t t' s _ _ ⟨.int (g i j), H, I.tok _, ⟨_, rfl⟩, q⟩
theorem opB0 {f : Value → Value → Sem Value} {g : Int → Int → Bool}
    (rule : ∀ (i j : Int) (t u : Tok) (s : Shared) (Q : Value → Shared → Prop) (E : Value → Shared → Prop), Q (.bool (g i j)) s → wpAny (model X.prog X.w) X.A (f (.int i t) (.int j u)) Q E s) :
    OpR X f (rI0 fun i j => .bl (g i j)) := by
  intro pins s σ H x y v u Q I rx ry h
  obtain ⟨i, j, rfl, rfl, q⟩ := h
  obtain ⟨t, rfl⟩ := rx
  obtain ⟨t', rfl⟩ := ry
  exact rule i j t t' s _ _ ⟨.bl (g i j), H, I, rfl, q⟩
noncomputable def CDiv (i j : Int) : Prop := 0 < j ∧ j < 1073741824
noncomputable def CPow (i j : Int) : Prop := 0 ≤ j ∧ j ≤ 1000000 ∧ i.natAbs < 2 ^ 64
noncomputable def CMul (i j : Int) : Prop := (-(2 ^ 64) < i ∧ i < 2 ^ 64) ∨ (-(2 ^ 64) < j ∧ j < 2 ^ 64)
theorem CMul.ok {i j : Int} (h : CMul i j) : IntMulOk i j := by
  rcases h with ⟨h1, h2⟩ | ⟨h1, h2⟩
  · exact .of_left (intBits_le_64 h1 h2)
  · exact .of_right (intBits_le_64 h1 h2)
theorem op_add : OpR X (binaryOp .Add) (rI0 fun i j => .int (i + j)) := opI0 fun _ _ _ _ _ _ _ q => add_int q
theorem op_mul : OpR X (binaryOp .Mult) (rI CMul fun i j => .int (i * j)) := opI fun _ _ _ _ _ _ _ hc q => mul_int q hc.ok
theorem op_fdiv : OpR X (binaryOp .FloorDiv) (rI CDiv fun i j => .int (i / j)) := opI fun i j _ _ _ _ _ hc q => by
  have h1 : (0 : Int) < j := hc.1
  have h2 : j < 1073741824 := hc.2
  exact floordiv_int (by omega) (by rw [Int.fdiv_eq_ediv_of_nonneg i (by omega)]; exact q) (.inl (PyProof.noPylong_small (by omega)))
theorem op_mod : OpR X (binaryOp .Mod) (rI (fun _ j => 0 < j) fun i j => .int (i % j)) := opI fun i j _ _ _ _ _ hc q => by
  have h1 : (0 : Int) < j := hc
  exact mod_int' (by omega) (by rw [Int.fmod_eq_emod_of_nonneg i (by omega)]; exact q)
theorem op_pow : OpR X (binaryOp .Pow) (rI CPow fun i j => .int (i ^ j.toNat)) := opI fun _ _ _ _ _ _ _ hc q => pow_int_small hc.1 hc.2.1 hc.2.2 q
theorem unI {f : Value → Sem Value} {g : Int → Int}
    (rule : ∀ (i : Int) (t : Tok) (s : Shared) (Q : Value → Shared → Prop) (E : Value → Shared → Prop), Q (.int (g i) s.toks) { s with toks := s.toks + 1 } → wpAny (model X.prog X.w) X.A (f (.int i t)) Q E s) :
    UnR X f (rU fun i => .int (g i)) := by
  intro pins s σ H x v Q I rx h
  obtain ⟨i, rfl, q⟩ := h
  obtain ⟨t, rfl⟩ := rx
  exact rule i t s _ _ ⟨.int (g i), H, I.tok _, ⟨_, rfl⟩, q⟩
theorem un_neg : UnR X (unaryOp .USub) (rU fun i => .int (-i)) := unI fun _ _ _ _ _ q => neg_int q
end
noncomputable def scal : V → V → Bool
  | .non, .non => true | .non, .int _ => true | .int _, .non => true | .non, .bl _ => true | .bl _, .non => true | .non, .str _ => true | .str _, .non => true
  | .int _, .int _ => true | .bl _, .bl _ => true | .str _, .str _ => true | .byt _, .byt _ => true
  | .int _, .str _ => true | .str _, .int _ => true | .bl _, .str _ => true | .str _, .bl _ => true
  | _, _ => false
noncomputable def rEq : R2 := fun x y H Q => scal x y = true ∧ Q (.bl (decide (x = y))) H
noncomputable def rNe : R2 := fun x y H Q => scal x y = true ∧ Q (.bl (!decide (x = y))) H
theorem dec_int {i j : Int} : decide (V.int i = V.int j) = (i == j) := by
  rw [Bool.eq_iff_iff]
  simp
theorem dec_bl {i j : Bool} : decide (V.bl i = V.bl j) = (i == j) := by
  rw [Bool.eq_iff_iff]
  simp
theorem dec_str {i j : Str} : decide (V.str i = V.str j) = (i == j) := by
  rw [Bool.eq_iff_iff]
  simp
theorem dec_byt {i j : Array UInt8} : decide (V.byt i = V.byt j) = (i.toList == j.toList) := by
  rw [Bool.eq_iff_iff]
  cases i
  cases j
  simp
section
variable {X : Cx} {a b c : Expr} {ta tb tc : TE} {pos : Pos}
theorem fin_bl {pins : List (Addr × Obj)} {σ : St} {H : Hp} {s : Shared} {Q : VK} {k k' : Bool} (I : Inv X pins σ H s) (q : Q (.bl k) H) (e : k = k') : EP X pins σ Q (.bool k') s := by
  subst e
  exact ⟨.bl k, H, I, rfl, q⟩
theorem op_eq : OpR X (compareOp .Eq) rEq := by
  intro pins s σ H x y v u Q I rx ry h
  obtain ⟨hs, q⟩ := h
  cases x with
  | non =>
    cases rx
    cases y with
    | non => cases ry; exact PySem.EqNone.eq_none_none (fin_bl I q (by simp))
    | bl j => cases ry; exact PySem.EqNone.eq_none_bool (fin_bl I q (by simp))
    | int j => obtain ⟨t', rfl⟩ := ry; exact PySem.EqNone.eq_none_int (fin_bl I q (by simp))
    | str j => obtain ⟨t', rfl⟩ := ry; exact PySem.EqNone.eq_none_str (fin_bl I q (by simp))
    | _ => exact absurd (show false = true from hs) Bool.false_ne_true
  | bl i =>
    cases rx
    cases y with
    | non => cases ry; exact PySem.EqNone.eq_bool_none (fin_bl I q (by simp))
    | bl j => cases ry; exact eq_bool (fin_bl I q dec_bl)
    | str j => obtain ⟨t', rfl⟩ := ry; exact PySem.EqMixed.eq_bool_str (fin_bl I q (by simp))
    | _ => exact absurd (show false = true from hs) Bool.false_ne_true
  | int i =>
    obtain ⟨t, rfl⟩ := rx
    cases y with
    | non => cases ry; exact PySem.EqNone.eq_int_none (fin_bl I q (by simp))
    | int j => obtain ⟨t', rfl⟩ := ry; exact eq_int (fin_bl I q dec_int)
    | str j => obtain ⟨t', rfl⟩ := ry; exact PySem.EqMixed.eq_int_str (fin_bl I q (by simp))
    | _ => exact absurd (show false = true from hs) Bool.false_ne_true
  | str i =>
    obtain ⟨t, rfl⟩ := rx
    cases y with
    | non => cases ry; exact PySem.EqNone.eq_str_none (fin_bl I q (by simp))
    | bl j => cases ry; exact PySem.EqMixed.eq_str_bool (fin_bl I q (by simp))
    | int j => obtain ⟨t', rfl⟩ := ry; exact PySem.EqMixed.eq_str_int (fin_bl I q (by simp))
    | str j => obtain ⟨t', rfl⟩ := ry; exact eq_str (fin_bl I q dec_str)
    | _ => exact absurd (show false = true from hs) Bool.false_ne_true
  | byt i =>
    obtain ⟨t, rfl⟩ := rx
    cases y with
    | byt j => obtain ⟨t', rfl⟩ := ry; exact PySem.W.eq_bytes (fin_bl I q dec_byt)
    | _ => exact absurd (show false = true from hs) Bool.false_ne_true
  | _ => cases y <;> exact absurd (show false = true from hs) Bool.false_ne_true
theorem op_ne : OpR X (compareOp .NotEq) rNe := by
  intro pins s σ H x y v u Q I rx ry h
  obtain ⟨hs, q⟩ := h
  cases x with
  | non =>
    cases rx
    cases y with
    | non => cases ry; exact PySem.EqNone.ne_none_none (fin_bl I q (by simp))
    | bl j => cases ry; exact PySem.EqNone.ne_none_bool (fin_bl I q (by simp))
    | int j => obtain ⟨t', rfl⟩ := ry; exact PySem.EqNone.ne_none_int (fin_bl I q (by simp))
    | str j => obtain ⟨t', rfl⟩ := ry; exact PySem.EqNone.ne_none_str (fin_bl I q (by simp))
    | _ => exact absurd (show false = true from hs) Bool.false_ne_true
  | bl i =>
    cases rx
    cases y with
    | non => cases ry; exact PySem.EqNone.ne_bool_none (fin_bl I q (by simp))
    | bl j => cases ry; exact ne_bool (fin_bl I q (congrArg not dec_bl))
    | str j => obtain ⟨t', rfl⟩ := ry; exact PySem.EqMixed.ne_bool_str (fin_bl I q (by simp))
    | _ => exact absurd (show false = true from hs) Bool.false_ne_true
  | int i =>
    obtain ⟨t, rfl⟩ := rx
    cases y with
    | non => cases ry; exact PySem.EqNone.ne_int_none (fin_bl I q (by simp))
    | int j => obtain ⟨t', rfl⟩ := ry; exact ne_int (fin_bl I q (congrArg not dec_int))
    | str j => obtain ⟨t', rfl⟩ := ry; exact PySem.EqMixed.ne_int_str (fin_bl I q (by simp))
    | _ => exact absurd (show false = true from hs) Bool.false_ne_true
  | str i =>
    obtain ⟨t, rfl⟩ := rx
    cases y with
    | non => cases ry; exact PySem.EqNone.ne_str_none (fin_bl I q (by simp))
    | bl j => cases ry; exact PySem.EqMixed.ne_str_bool (fin_bl I q (by simp))
    | int j => obtain ⟨t', rfl⟩ := ry; exact PySem.EqMixed.ne_str_int (fin_bl I q (by simp))
    | str j => obtain ⟨t', rfl⟩ := ry; exact ne_str (fin_bl I q (congrArg not dec_str))
    | _ => exact absurd (show false = true from hs) Bool.false_ne_true
  | byt i =>
    obtain ⟨t, rfl⟩ := rx
    cases y with
    | byt j => obtain ⟨t', rfl⟩ := ry; exact PySem.W.ne_bytes (fin_bl I q (congrArg not dec_byt))
    | _ => exact absurd (show false = true from hs) Bool.false_ne_true
  | _ => cases y <;> exact absurd (show false = true from hs) Bool.false_ne_true
theorem op_lt : OpR X (compareOp .Lt) (rI0 fun i j => .bl (decide (i < j))) := opB0 fun _ _ _ _ _ _ _ q => lt_int q
theorem op_le : OpR X (compareOp .LtE) (rI0 fun i j => .bl (decide (i ≤ j))) := opB0 fun _ _ _ _ _ _ _ q => le_int q
theorem op_gt : OpR X (compareOp .Gt) (rI0 fun i j => .bl (decide (j < i))) := opB0 fun _ _ _ _ _ _ _ q => gt_int q
theorem op_isN : OpR X (compareOp .Is) (fun x y H Q => y = .non ∧ Q (.bl (decide (x = .non))) H) := by
  intro pins s σ H x y v u Q I rx ry h
  obtain ⟨rfl, q⟩ := h
  cases ry
  refine is_none_gen (fin_bl I q ?_)
  cases x <;> first
    | (cases rx; rfl)
    | (obtain ⟨t, rfl⟩ := rx; rfl)
theorem nomark (b : Expr) {op : CmpOp} (h : op ≠ .In := by decide) (h2 : op ≠ .NotIn := by decide) : behindInMarks op b = false := by
  have e1 : (op == CmpOp.In) = false := by cases op <;> first | rfl | exact absurd rfl h
  have e2 : (op == CmpOp.NotIn) = false := by cases op <;> first | rfl | exact absurd rfl h2
  cases b <;> simp [behindInMarks, e1, e2]
theorem pe_cmpR {op : CmpOp} {r : R2} (ho : OpR X (compareOp op) r) (ha : PE X a ta) (hb : PE X b tb) (hm : behindInMarks op b = false) : PE X (.Compare a [op] [b] pos) (tOp r ta tb) := by
  intro pins s σ H Q I h
  exact wpAny_Compare1 (binT ha hb I h fun v u s2 x y H2 I2 rx ry q => ho pins s2 σ H2 x y v u Q I2 rx ry q) hm
noncomputable def tTest (t : TE) : TT := fun σ H Q => t σ H fun x H' => ∃ k, x = .bl k ∧ Q k H'
theorem pt_cmpR {op : CmpOp} {r : R2} (ho : OpR X (compareOp op) r) (ha : PE X a ta) (hb : PE X b tb) (hm : behindInMarks op b = false) : PT X (.Compare a [op] [b] pos) (tTest (tOp r ta tb)) := by
  intro pins s σ H Q I h
  refine wpAny_isTrue_Compare1 (thn (ha pins s σ H _ I h) fun v s1 ⟨x, H1, I1, r1, q1⟩ => thn (hb pins s1 σ H1 _ I1 q1) fun u s2 ⟨y, H2, I2, r2, q2⟩ =>
    thn (ho pins s2 σ H2 x y v u _ I2 r1 r2 q2) fun c s3 ⟨z, H3, I3, r3, k, e, q3⟩ => ?_) hm
  subst e
  cases r3
  exact wpAny_truthy_bool ⟨H3, I3, q3⟩
noncomputable def tChain (r r' : R2) (ta tb tc : TE) : TE := fun σ H Q => ta σ H fun x H1 => tb σ H1 fun y H2 => r x y H2 fun z H3 => ∃ k, z = .bl k ∧
  (if k = true then tc σ H3 fun w' H4 => r' y w' H4 Q else Q (.bl false) H3)
theorem pe_chain {op op' : CmpOp} {r r' : R2} (ho : OpR X (compareOp op) r) (ho' : OpR X (compareOp op') r') (ha : PE X a ta) (hb : PE X b tb) (hc : PE X c tc)
    (hm : lastMarks [op, op'] [b, c] = false := by with_unfolding_all rfl) : PE X (.Compare a [op, op'] [b, c] pos) (tChain r r' ta tb tc) := by
  intro pins s σ H Q I h
  refine Compare_chain (thn (ha pins s σ H _ I h) fun v s1 ⟨x, H1, I1, r1, q1⟩ => chain_link (thn (hb pins s1 σ H1 _ I1 q1) fun u s2 ⟨y, H2, I2, r2, q2⟩ =>
    thn (ho pins s2 σ H2 x y v u _ I2 r1 r2 q2) fun d s3 ⟨z, H3, I3, r3, k, e, q3⟩ => ?_)) hm
  subst e
  cases r3
  refine wpAny_truthy_bool ?_
  cases k with
  | false => exact ite_ff ⟨.bl false, H3, I3, rfl, q3⟩
  | true => exact ite_tt (chain_last (thn (hc pins s3 σ H3 _ I3 q3) fun w' s4 ⟨z', H4, I4, r4, q4⟩ => ho' pins s4 σ H4 y z' u w' Q I4 r2 r4 q4))
theorem pt_chain {op op' : CmpOp} {r r' : R2} (ho : OpR X (compareOp op) r) (ho' : OpR X (compareOp op') r') (ha : PE X a ta) (hb : PE X b tb) (hc : PE X c tc)
    (hm : lastMarks [op, op'] [b, c] = false := by with_unfolding_all rfl) : PT X (.Compare a [op, op'] [b, c] pos) (tTest (tChain r r' ta tb tc)) := by
  intro pins s σ H Q I h
  refine isTrue_chain (thn (ha pins s σ H _ I h) fun v s1 ⟨x, H1, I1, r1, q1⟩ => test_link (thn (hb pins s1 σ H1 _ I1 q1) fun u s2 ⟨y, H2, I2, r2, q2⟩ =>
    thn (ho pins s2 σ H2 x y v u _ I2 r1 r2 q2) fun d s3 ⟨z, H3, I3, r3, k, e, q3⟩ => ?_)) hm
  subst e
  cases r3
  refine wpAny_truthy_bool ?_
  cases k with
  | false =>
    obtain ⟨k', e', q'⟩ := q3
    cases e'
    exact ite_ff ⟨H3, I3, q'⟩
  | true =>
    refine ite_tt (test_last (thn (hc pins s3 σ H3 _ I3 q3) fun w' s4 ⟨z', H4, I4, r4, q4⟩ => thn (ho' pins s4 σ H4 y z' u w' _ I4 r2 r4 q4) fun d' s5 ⟨z2, H5, I5, r5, k2, e2, q5⟩ => ?_))
    subst e2
    cases r5
    exact wpAny_truthy_bool ⟨H5, I5, q5⟩
noncomputable def TruV (K : PySem.W.Frag) (x : V) (H : Hp) (k : Bool) : Prop :=
  match x with
  | .non => k = false
  | .bl b => k = b
  | .int i => k = (i != 0)
  | .str y => y.length ≤ sizeLine ∧ k = ((y.length : Int) != 0)
  | .byt y => y.size ≤ sizeLine ∧ k = ((y.size : Int) != 0)
  | .ref p => (∃ xs, SqL K H p xs ∧ k = !xs.isEmpty) ∨ (∃ xs, SqT K H p xs ∧ k = !xs.isEmpty) ∨ ∃ kvs, H p = some (.dK kvs) ∧ k = !kvs.isEmpty
  | _ => False
theorem isEmpty_kv {κ : Type} {kvs : List (κ × V)} {vs : List (κ × Value)} (r : KV kvs vs) : (!vs.isEmpty) = !kvs.isEmpty := by
  cases r <;> rfl
theorem isEmpty_of {xs : List V} {its : List Value} (r : Vals xs its) : (!its.toArray.isEmpty) = !xs.isEmpty := by
  cases r <;> simp
theorem line63 : (sizeLine : Nat) < 2 ^ 63 := by rw [sizeLine_eq]; decide
theorem tru_ok : TruR X (fun x H Q => ∃ k, TruV X.K x H k ∧ Q k H) := by
  intro pins s σ H x v Q I rx h
  obtain ⟨k, e, q⟩ := h
  have hl := line63
  have hs : sizeLine = 16777216 := sizeLine_eq
  cases x with
  | non =>
    cases rx
    have e' : k = false := e
    subst e'
    exact truthy_none ⟨H, I, q⟩
  | bl b =>
    cases rx
    have e' : k = b := e
    subst e'
    exact wpAny_truthy_bool ⟨H, I, q⟩
  | int i =>
    obtain ⟨t, rfl⟩ := rx
    have e' : k = (i != 0) := e
    subst e'
    exact PySem.P.truthy_int ⟨H, I, q⟩
  | str y =>
    obtain ⟨t, rfl⟩ := rx
    obtain ⟨hy, e'⟩ : y.length ≤ sizeLine ∧ k = ((y.length : Int) != 0) := e
    subst e'
    exact PySem.P.truthy_str (by omega) ⟨H, I.tok _, q⟩
  | byt y =>
    obtain ⟨t, rfl⟩ := rx
    obtain ⟨hy, e'⟩ : y.size ≤ sizeLine ∧ k = ((y.size : Int) != 0) := e
    subst e'
    exact PySem.W.truthy_bytes (by omega) ⟨H, I.tok _, q⟩
  | ref p =>
    cases rx
    have e' : (∃ xs, SqL X.K H p xs ∧ k = !xs.isEmpty) ∨ (∃ xs, SqT X.K H p xs ∧ k = !xs.isEmpty) ∨ ∃ kvs, H p = some (.dK kvs) ∧ k = !kvs.isEmpty := e
    rcases e' with ⟨xs, hx, e'⟩ | ⟨xs, hx, e'⟩ | ⟨kvs, hx, e'⟩
    · subst e'
      obtain ⟨its, r, pl, hz⟩ := I.list hx
      have hlen := r.length
      exact wpAny_truthy_list pl.isList (by simp only [List.size_toArray]; omega) ⟨H, I.tok _, by rw [isEmpty_of r]; exact q⟩
    · subst e'
      obtain ⟨its, r, pl, hz⟩ := I.tuple hx
      have hlen := r.length
      exact truthy_tuple pl (by simp only [List.size_toArray]; omega) ⟨H, I.tok _, by rw [isEmpty_of r]; exact q⟩
    · subst e'
      obtain ⟨hz, hS, vs, r, m⟩ : kvs.length ≤ sizeLine ∧ (p == sysModules) = false ∧ ∃ vs, KV kvs vs ∧ s.heap.DictOf (mixKind X.prog X.w) p vs := I.hok p _ hx
      have hlen : kvs.length = vs.length := Paired.length r
      exact wpAny_truthy_dict hS m (by omega) ⟨H, I.tok _, by rw [isEmpty_kv r]; exact q⟩
  | _ => exact (show False from e).elim
theorem pt_truth (ha : PE X a ta) (he : ∀ whole, isTrue a X.env whole = (do let v ← whole; standAt a.pos; holding [v] (truthy v))) :
    PT X a (fun σ H Q => ta σ H fun x H' => ∃ k, TruV X.K x H' k ∧ Q k H') := by
  intro pins s σ H Q I h
  exact isTrue_plain (thn (ha pins s σ H _ I h) fun v s1 ⟨x, H1, I1, r1, q1⟩ => tru_ok pins s1 σ H1 x v Q I1 r1 q1) (he _)
theorem op_add_str : OpR X (binaryOp .Add) (fun x y H Q => ∃ i j, x = .str i ∧ y = .str j ∧ i.length + j.length ≤ sizeLine ∧ Q (.str (i ++ j)) H) := by
  intro pins s σ H x y v u Q I rx ry h
  obtain ⟨i, j, rfl, rfl, hz, q⟩ := h
  obtain ⟨t, rfl⟩ := rx
  obtain ⟨t', rfl⟩ := ry
  exact add_str (fun t' tk => ⟨.str (i ++ j), H, I.tok _, ⟨_, rfl⟩, q⟩) hz
theorem vals1 {x : V} {us : List Value} (r : Vals [x] us) : ∃ u, us = [u] ∧ RelV x u := by
  cases r with
  | cons r1 r2 => cases r2; exact ⟨_, rfl, r1⟩
theorem vals2 {x y : V} {us : List Value} (r : Vals [x, y] us) : ∃ u w', us = [u, w'] ∧ RelV x u ∧ RelV y w' := by
  cases r with
  | cons r1 r2 =>
    cases r2 with
    | cons r3 r4 => cases r4; exact ⟨_, _, rfl, r1, r3⟩
theorem call_str_int : CallR X (.type "str") (fun xs H Q => ∃ i, xs = [.int i] ∧ i.natAbs.log2 < 1920 ∧ Q (.str (toString i)) H) := by
  intro pins s σ H xs us Q I r h
  obtain ⟨i, rfl, hz, q⟩ := h
  obtain ⟨u, rfl, t, rfl⟩ := vals1 r
  exact PySem.P.str_of_int hz ⟨.str _, H, I.tok _, ⟨_, rfl⟩, q⟩
end
end L2
namespace L2
open PySem PySem.Spec PyProof.Rows
structure ObjM (h : Heap) (x dx C : Addr) (mA : Str → Option Value) : Prop where
  obj : h.get? x = some (PySem.W.instObj C dx)
  ns : h.Ns1 dx mA
  ne : dx ≠ x
theorem lookIn_ns {h : Heap} {dx : Addr} {mA : Str → Option Value} (n : h.Ns1 dx mA) : ∃ od, h.get? dx = some od ∧ ∀ name, PySem.W.lookIn name od = some (mA name) := by
  obtain ⟨o, es, ep, ho, hd, hk, _, hm⟩ := n
  refine ⟨o, ho, fun name => ?_⟩
  have e := hm name
  unfold nsFind findBy at e
  rw [← Array.find?_toList] at e
  unfold PySem.W.lookIn
  rw [hd]
  dsimp only
  split
  · rename_i y q
    rw [q] at e
    exact congrArg some e
  · rename_i q
    rw [q] at e
    have a : es.toList.any (·.refKey) = false := by
      rw [List.any_eq_false]
      intro y hy
      obtain ⟨z, t, hkey⟩ := hk y (Array.mem_toList_iff.mp hy)
      simp [DictEntry.refKey, hkey]
    have a' : ¬ es.toList.any (·.refKey) = true := by rw [a]; exact Bool.false_ne_true
    rw [if_neg a']
    exact congrArg some e
theorem ObjM.look {h : Heap} {x dx C : Addr} {mA : Str → Option Value} (I : ObjM h x dx C mA) : ∃ od, PySem.W.InstAt h x (PySem.W.instObj C dx) C (some od) ∧ ∀ name, PySem.W.lookIn name od = some (mA name) :=
  let ⟨od, ho, hl⟩ := lookIn_ns I.ns
  ⟨od, ⟨I.obj, rfl, rfl, ho⟩, hl⟩
section
variable {prog : Program} {w : World} {A : Around} {E : Value → Shared → Prop} {s : Shared} {K : PySem.W.Frag} {x dx C f : Addr} {mA : Str → Option Value} {name : Str} {v : Value}
end
section
variable {P : Program} {w : World} {H H' : Hp} {h h' : Heap} {a C dx : Addr} {fs fs' : List (Str × V)}
theorem ins_get (hok : HOk P w H h) (e : H a = some (.ins C dx fs)) : ∃ mA, ObjM h a dx C mA ∧ (∀ f, RelO (fs.lookup f) (mA f)) ∧ PySem.Within mA (fs.map (·.1)) ∧ fs.length ≤ 1000 ∧ H dx = some (.own a) := by
  obtain ⟨d, z, ne, ob, mA, n, r, q⟩ := (show ObjOk P w H h a (.ins C dx fs) from hok a _ e)
  exact ⟨mA, ⟨ob, n, ne⟩, r, q, z, d⟩
end
structure Cls (K : PySem.W.Frag) (C : Addr) : Prop where
  pg : PySem.W.plainGet K C Str.empty = true
  hd : PySem.W.hasDictIn K C = true
  po : PySem.W.plainOver K C = true
  sa : PySem.W.findIn K (.ref C) "__setattr__" = some (some (.builtin "object.__setattr__"))
theorem Cls.get {K : PySem.W.Frag} {C : Addr} (c : Cls K C) (f : Str) : PySem.W.plainGet K C f = true := c.pg
section
variable {X : Cx} {pins : List (Addr × Obj)} {σ : St} {H : Hp} {s : Shared} {a C dx : Addr} {fs : List (Str × V)} {f : Str} {v : V} {A : Around} {E : Value → Shared → Prop}
end
section
variable {X : Cx} {o e value : Expr} {f : Str} {pos pos' tpos : Pos} {ta tv : TE}
end
section
variable {X : Cx} {pins : List (Addr × Obj)} {σ : St} {H : Hp} {s : Shared} {A : Around} {E : Value → Shared → Prop} {Q : Value → Shared → Prop} {c : Value} {b : Bool}
inductive TyOf (K : PySem.W.Frag) (H : Hp) : V → Value → Prop where
  | non : TyOf K H .non (.type "NoneType")
  | bl (x : Bool) : TyOf K H (.bl x) (.type "bool")
  | int (i : Int) : TyOf K H (.int i) (.type "int")
  | str (x : Str) : TyOf K H (.str x) (.type "str")
  | flt (x : UInt64) : TyOf K H (.flt x) (.type "float")
  | lst {a : Addr} {xs : List V} (e : H a = some (.lst xs)) : TyOf K H (.ref a) (.type "list")
  | frz {a : Addr} {o : Obj} {xs : List V} (e : H a = some (.frz o (.lst xs))) : TyOf K H (.ref a) (.type "list")
  | tup {a : Addr} {xs : List V} (e : H a = some (.tup xs)) : TyOf K H (.ref a) (.type "tuple")
  | dK {a : Addr} {kvs : List (Key × V)} (e : H a = some (.dK kvs)) : TyOf K H (.ref a) (.type "dict")
  | dT {a : Addr} {kvs : List (List Key × V)} (e : H a = some (.dT kvs)) : TyOf K H (.ref a) (.type "dict")
  | ins {a C dx : Addr} {fs : List (Str × V)} (e : H a = some (.ins C dx fs)) (cl : Cls K C) (ha : PySem.W.findIn K (.ref C) "__class__" = some (some (.builtin "object.__class__")))
      (hn : PySem.W.specialIn K (.builtin "object.__class__") "__get__" = some (some (.builtin "getset_descriptor.__get__"))) (htk : PySem.W.takesIn K (.builtin "object.__class__") = some true)
      (hm : PySem.W.mroIn K C (.type "object") = some true) : TyOf K H (.ref a) (.ref C)
theorem isinst_ok {x : V} {u t : Value} (I : Inv X pins σ H s) (rx : RelV x u) (ty : TyOf X.K H x t) (e : PySem.W.kitOne X.K t c = some b) (h : ∀ tk, Q (.bool b) { s with toks := tk }) :
    wpAny (model X.prog X.w) A (call (.builtin "isinstance") [u, c]) Q E s := by
  cases ty with
  | non => cases (show u = Value.none from rx); exact PySem.W.kia_one PySem.W.kitx_none I.kIn True.intro e (fun z => nomatch z) h
  | bl y => cases (show u = Value.bool y from rx); exact PySem.W.kia_one PySem.W.kitx_bool I.kIn True.intro e (fun z => nomatch z) h
  | int i => obtain ⟨t, q⟩ := (show ∃ t, u = Value.int i t from rx); cases q; exact PySem.W.kia_one PySem.W.kitx_int I.kIn True.intro e (fun z => nomatch z) h
  | str y => obtain ⟨t, q⟩ := (show ∃ t, u = Value.str y t from rx); cases q; exact PySem.W.kia_one PySem.W.kitx_str I.kIn True.intro e (fun z => nomatch z) h
  | flt y => obtain ⟨t, q⟩ := (show ∃ t, u = Value.float y t from rx); cases q; exact PySem.W.kia_one PySem.W.kitx_float I.kIn True.intro e (fun z => nomatch z) h
  | @lst a xs ea =>
    cases (show u = Value.ref a from rx)
    obtain ⟨_, _, n, _, h1⟩ := (show ObjOk X.prog X.w H s.heap a (.lst xs) from I.hok a _ ea)
    exact PySem.W.kia_one PySem.W.kitx_list I.kIn ⟨_, h1, rfl⟩ e (fun z => nomatch z) h
  | @frz a ob xs ea =>
    cases (show u = Value.ref a from rx)
    obtain ⟨_, _, _, n, _, h1⟩ := (show ObjOk X.prog X.w H s.heap a (.frz ob (.lst xs)) from I.hok a _ ea)
    exact PySem.W.kia_one PySem.W.kitx_list I.kIn ⟨_, h1, rfl⟩ e (fun z => nomatch z) h
  | @tup a xs ea =>
    cases (show u = Value.ref a from rx)
    obtain ⟨_, _, _, p⟩ := (show ObjOk X.prog X.w H s.heap a (.tup xs) from I.hok a _ ea)
    obtain ⟨o, h1, h2, _⟩ := p
    exact PySem.W.kia_one PySem.W.kitx_tuple I.kIn ⟨o, h1, h2⟩ e (fun z => nomatch z) h
  | @dK a kvs ea =>
    cases (show u = Value.ref a from rx)
    obtain ⟨_, _, vs, _, p⟩ := (show ObjOk X.prog X.w H s.heap a (.dK kvs) from I.hok a _ ea)
    obtain ⟨o, es, ep, h1, h2, _⟩ := p
    exact PySem.W.kia_one PySem.W.kitx_dict I.kIn ⟨o, h1, h2.1⟩ e (fun z => nomatch z) h
  | @dT a kvs ea =>
    cases (show u = Value.ref a from rx)
    obtain ⟨_, _, xs, _, o, es, ep, h1, h2, _⟩ := (show ObjOk X.prog X.w H s.heap a (.dT kvs) from I.hok a _ ea)
    exact PySem.W.kia_one PySem.W.kitx_dict I.kIn ⟨o, h1, h2.1⟩ e (fun z => nomatch z) h
  | @ins a C dx fs ea cl ha hn htk hm =>
    cases (show u = Value.ref a from rx)
    obtain ⟨mA, O, _⟩ := ins_get I.hok ea
    obtain ⟨od, J, _⟩ := O.look
    exact PySem.W.kia_one (PySem.W.kitx_own (cl.get _) cl.hd ha hn htk hm) I.kIn J e (fun z => nomatch z) h
end
end L2
namespace L2
open PySem PySem.Spec PyProof.Rows
structure Room (k : Nat) (A : Around) : Prop where
  hd : A.handled = none
  dp : A.depth + 3 * k + 5 < recursionLimit
  un : A.units + 16 * k + 200 < cLine
theorem Room.mono {j k : Nat} {A : Around} (r : Room k A) (h : j ≤ k) : Room j A := ⟨r.hd, by have := r.dp; omega, by have := r.un; omega⟩
theorem Room.deeper {k : Nat} {A : Around} (r : Room (k + 1) A) (env : Env) : Room k (A.deeper env) :=
  ⟨r.hd, by have := r.dp; show A.depth + 1 + 3 * k + 5 < _; omega, by have := r.un; show A.units + 3 + 16 * k + 200 < _; omega⟩
theorem Room.depth {k : Nat} {A : Around} (r : Room k A) : A.depth < recursionLimit := by have := r.dp; omega
theorem Room.units {k : Nat} {A : Around} (r : Room k A) : A.units + 64 < cLine := by have := r.un; omega
noncomputable def tNil : TA := fun _ H Q => Q [] H
noncomputable def tCons (ta : TE) (tr : TA) : TA := fun σ H Q => ta σ H fun x H1 => tr σ H1 fun xs H2 => Q (x :: xs) H2
section
variable {X : Cx} {e : Expr} {es : List Expr} {te : TE} {t : TA} {pos : Pos}
theorem pa_nil : PA X [] tNil := fun _ _ _ _ H Q I h => Calls.spliced_nil ⟨[], H, I, .nil, h⟩
theorem pa_cons (ha : PE X e te) (hr : PA X es t) (hs : starEach (e :: es) X.env = (false, eval e X.env) :: starEach es X.env := by rfl) : PA X (e :: es) (tCons te t) := by
  intro pos pins s σ H Q I h
  rw [hs]
  show wpAny _ _ (spliced ((false, eval e X.env) :: backTo pos (starEach es X.env))) _ _ s
  refine Calls.spliced_cons (thn (ha pins s σ H _ I h) fun u s1 ⟨x, H1, I1, r1, q1⟩ => ?_)
  exact thn (hr pos pins s1 σ H1 _ I1 q1) fun us s2 ⟨xs, H2, I2, r2, q2⟩ => ⟨x :: xs, H2, I2, .cons r1 r2, q2⟩
noncomputable def tTup (t : TA) : TE := fun σ H Q => t σ H fun xs H1 => xs.length ≤ sizeLine ∧ ∀ p, H1 p = none → Q (.ref p) (upd H1 p (.tup xs))
noncomputable def tLst (t : TA) : TE := fun σ H Q => t σ H fun xs H1 => xs.length ≤ sizeLine ∧ ∀ p, H1 p = none → Q (.ref p) (upd H1 p (.lst xs))
theorem pe_tup {x1} (h : PA X es t) : PE X (.Tuple es x1 pos) (tTup t) := by
  intro pins s σ H Q I hq
  refine wpAny_Tuple_spliced (thn (h pos pins s σ H _ I hq) fun us s1 ⟨xs, H1, I1, r, z, q⟩ => ⟨by rw [← r.length]; exact z, ?_⟩)
  have hf : H1 s1.heap.objs.size = none := I1.hok.fresh (Nat.le_refl _)
  refine ⟨.ref s1.heap.objs.size, upd H1 s1.heap.objs.size (.tup xs), I1.laid (t' := s1.toks) (fun b u e => Heap.get?_push_of_some _ e) (Nat.le_refl _) ?_, rfl, q _ hf⟩
  exact ⟨z, us, r, ⟨_, Heap.get?_push_size _ rfl, rfl, _, rfl⟩⟩
theorem pe_lst (h : PA X es t) : PE X (.List es pos) (tLst t) := by
  intro pins s σ H Q I hq
  refine wpAny_List_spliced (thn (h pos pins s σ H _ I hq) fun us s1 ⟨xs, H1, I1, r, z, q⟩ => ⟨by rw [← r.length]; exact z, ?_⟩)
  have hf : H1 s1.heap.objs.size = none := I1.hok.fresh (Nat.le_refl _)
  refine ⟨.ref s1.heap.objs.size, upd H1 s1.heap.objs.size (.lst xs), I1.laid (t' := s1.toks) (fun b u e => Heap.get?_push_of_some _ e) (Nat.le_refl _) ?_, rfl, q _ hf⟩
  exact ⟨z, us, 0, r, Heap.get?_push_size _ rfl⟩
end
noncomputable abbrev Sp := List V → Hp → VK → XK → Prop
noncomputable abbrev CXT := List Env → Hp → Shared → XK → Value → Shared → Prop
structure Env0 (P : Program) (w : World) (K : PySem.W.Frag) (mg : Str → Option Value) (base : Heap) (A : Around) (outer : List Env) (s : Shared) (H : Hp) : Prop where
  frames : A.frames = some outer
  mod : Mod K mg base
  bs : ∀ b o, base.get? b = some o → s.heap.get? b = some o ∧ H b = none
  bsz : base.objs.size ≤ s.heap.objs.size
  funs : s.heap.FunFrames base outer
  frf : ∀ b ∈ frs outer, H b = none
  hok : HOk P w H s.heap
  bare : AllBare s.gens
noncomputable def CE (outer : List Env) (P : Program) (w : World) (H : Hp) (s : Shared) (Q : VK) (u : Value) (s' : Shared) : Prop :=
  ∃ v H', s'.os = s.os ∧ AllBare s'.gens ∧ Un (frs outer) [] H H' s.heap s'.heap ∧ HOk P w H' s'.heap ∧ RelV v u ∧ Q v H'
noncomputable def CR (CX : CXT) (outer : List Env) (P : Program) (w : World) (H : Hp) (s : Shared) (Q : VK) (E : XK) (r : Result) (s' : Shared) : Prop :=
  match r with
  | .ok (.ret u) => CE outer P w H s Q u s'
  | .ok _ => False
  | .error e => CX outer H s E e s'
structure FnOk (P : Program) (w : World) (K : PySem.W.Frag) (mg : Str → Option Value) (base : Heap) (CX : CXT) (k : Nat) (f : Addr) (fd : FuncData) (ps : List Str) (sp : Sp) : Prop where
  len : ∀ vs H Q E, sp vs H Q E → vs.length = ps.length
  run : ∀ (A : Around) (outer : List Env) (s : Shared) (H : Hp) (args : Args) (us : List Value) (vs : List V) (Q : VK) (E : XK), Room k A → Env0 P w K mg base A outer s H → BindsTo s fd args (ps.zip us) → Vals vs us → sp vs H Q E →
    codeAny (model P w) A (.call (.ref f) args) (CR CX outer P w H s Q E) s
section
variable {X : Cx} {pins : List (Addr × Obj)} {σ : St} {H : Hp} {s s' : Shared}
theorem Inv.env0 (I : Inv X pins σ H s) : Env0 X.prog X.w X.K X.mg X.base X.A X.stack s H :=
  ⟨I.ok.frames, I.ok.mod, I.bs, Nat.le_trans I.ok.bsz I.sz, I.stack, I.stkFree, I.hok, I.bare⟩
theorem Inv.after {Q : VK} {u : Value} (I : Inv X pins σ H s) (h : CE X.stack X.prog X.w H s Q u s') : EP X pins σ Q u s' := by
  obtain ⟨v, H', os, bare, un, hok, r, q⟩ := h
  obtain ⟨hh, g, d, t, os'⟩ := s'
  obtain rfl : os' = s.os := os
  exact ⟨v, H', I.call (h' := hh) (g' := g) (d' := d) (t' := t) (ch := []) un hok bare (fun b z => absurd z (by simp)), r, q⟩
end
noncomputable def tCall (sp : Sp) (dvs : List V) (E : XK) (t : TA) : TE := fun σ H Q => t σ H fun vs H1 => sp (vs ++ dvs) H1 Q E
noncomputable def Binds (K : PySem.W.Frag) (fd : FuncData) (ps : List Str) (ds : List Value) : Prop :=
  ∀ (s : Shared) (us : List Value), K.In s.heap → (us ++ ds).length = ps.length → BindsTo s fd ⟨us, []⟩ (ps.zip (us ++ ds))
theorem Binds.all {K : PySem.W.Frag} {fd : FuncData} {ps : List Str} (h : ∀ us : List Value, us.length = ps.length → bindArgs fd ⟨us, []⟩ = pure (ps.zip us)) : Binds K fd ps [] := fun s us _ hl => by
  rw [List.append_nil] at hl ⊢
  exact .of_eq (h us hl)
noncomputable def Passes (CX : CXT) (X : Cx) (E : XK) : Prop := ∀ (pins : List (Addr × Obj)) (σ : St) (H : Hp) (s : Shared) (e : Value) (s' : Shared), Inv X pins σ H s → CX X.stack H s E e s' → X.xe e s'
section
variable {X : Cx} {CX : CXT} {k : Nat} {f C : Addr} {fd : FuncData} {ps : List Str} {sp : Sp} {dvs : List V} {ds : List Value} {E : XK} {x m : Str} {p pos apos : Pos} {e o : Expr} {es : List Expr} {ta : TE} {t : TA}
theorem run_fn {pins : List (Addr × Obj)} {σ : St} {H : Hp} {s : Shared} {Q : VK} {us : List Value} {vs : List V} (F : FnOk X.prog X.w X.K X.mg X.base CX k f fd ps sp) (hr : Room k X.A) (hb : Binds X.K fd ps ds) (hd : Vals dvs ds) (hx : Passes CX X E)
    (I : Inv X pins σ H s) (r : Vals vs us) (h : sp (vs ++ dvs) H Q E) : wpAny (model X.prog X.w) X.A (call (.ref f) us) (EP X pins σ Q) X.xe s := by
  have r2 : Vals (vs ++ dvs) (us ++ ds) := r.append hd
  have hl : (us ++ ds).length = ps.length := by rw [← r2.length]; exact F.len _ _ _ _ h
  refine wpAny_call (codeAny_mono (F.run X.A X.stack s H ⟨us, []⟩ (us ++ ds) (vs ++ dvs) Q E hr I.env0 (hb s us I.kIn hl) r2 h) fun r s' hq => ?_)
  cases r with
  | error e => exact hx pins σ H s e s' I hq
  | ok fl =>
    cases fl with
    | ret u => exact I.after hq
    | next => exact False.elim hq
    | brk => exact False.elim hq
    | cont => exact False.elim hq
theorem pe_call (F : FnOk X.prog X.w X.K X.mg X.base CX k f fd ps sp) (hr : Room k X.A) (hg : Gl X x) (hm : X.mg x = some (.ref f)) (hk : PySem.W.keepIn X.K (.ref f) = true) (hb : Binds X.K fd ps ds) (hd : Vals dvs ds) (hx : Passes CX X E)
    (ha : PA X (e :: es) t) (hdb : (x == ("__debug__" : Str)) = false := by decide) (he : starEach (e :: es) X.env = (false, eval e X.env) :: starEach es X.env := by rfl) (hpl : (backTo pos (starEach es X.env)).any (·.1) = false := by rfl) :
    PE X (.Call (.Name x p) (e :: es) [] pos) (tCall sp dvs E t) := by
  intro pins s σ H Q I h
  refine wpAny_Call_Name_kw (ld_glob I hg hm ?_ hdb)
  refine PySem.W.callWith_K (h₀ := X.base) I.ok.mod.kin hk (thn (ha pos pins s σ H _ I h) fun us s1 ⟨vs, H1, I1, r, q⟩ => ⟨I1.kIn, ?_⟩) he hpl
  exact run_fn F hr hb hd hx I1 r q
end
section
variable {X : Cx} {CX : CXT} {k : Nat} {f C : Addr} {fd : FuncData} {ps ks : List Str} {sp : Sp} {E : XK} {x m : Str} {p pos apos kpos : Pos} {e o : Expr} {es : List Expr} {kws : List Keyword} {te ta : TE} {t tk : TA} {nm : Option Str}
variable {g : List Value → List Value → List Value} {gV : List V → List V → List V}
end
structure FnScope (N P : List Str) (sc : Scope) : Prop where
  kind : sc.kind = .function
  co : sc.isCoroutine = false
  gen : sc.isGenerator = false
  nd : N.Nodup
  pre : N.take P.length = P
  par : ∀ x ∈ P, sc.names.lookup x = some .local ∨ sc.names.lookup x = some .cell
  nofree : ∀ y ∈ sc.names, y.2 ≠ .free
theorem bindL_out {kindOf : Str → Option NameKind} {x : Str} : ∀ {binds : List (Str × Value)} {m : Str → Option Value}, (∀ v, (x, v) ∉ binds) → bindL kindOf binds m x = m x
  | [], _, _ => rfl
  | (n, v) :: r, m, h => by
    unfold bindL
    rw [bindL_out fun w hw => h w (List.mem_cons_of_mem _ hw)]
    split
    · have : x ≠ n := by rintro rfl; exact h v List.mem_cons_self
      simp [this]
    · rfl
theorem bindC_out {kindOf : Str → Option NameKind} {x : Str} : ∀ {binds : List (Str × Value)} {m : Str → Option Value}, (∀ v, (x, v) ∉ binds) → bindC kindOf binds m x = m x
  | [], _, _ => rfl
  | (n, v) :: r, m, h => by
    unfold bindC
    rw [bindC_out fun w hw => h w (List.mem_cons_of_mem _ hw)]
    split
    · rfl
    · have : x ≠ n := by rintro rfl; exact h v List.mem_cons_self
      simp [this]
theorem bindL_get {kindOf : Str → Option NameKind} {x : Str} {v : Value} : ∀ {P : List Str} {vs : List Value} {i : Nat} {m : Str → Option Value}, P.Nodup → P[i]? = some x → vs[i]? = some v → kindOf x = some .local →
    bindL kindOf (P.zip vs) m x = some v
  | [], _, _, _, _, h, _, _ => by simp at h
  | _ :: _, [], _, _, _, _, h, _ => by simp at h
  | p :: P, w :: vs, 0, m, nd, h1, h2, hk => by
    simp at h1 h2; subst h1; subst h2
    show bindL kindOf ((p, w) :: P.zip vs) m p = _
    unfold bindL
    rw [bindL_out fun v hv => (List.nodup_cons.mp nd).1 (List.of_mem_zip hv).1, if_pos hk]
    simp
  | p :: P, w :: vs, i + 1, m, nd, h1, h2, hk => by
    show bindL kindOf ((p, w) :: P.zip vs) m x = _
    unfold bindL
    exact bindL_get (i := i) (List.nodup_cons.mp nd).2 (by simpa using h1) (by simpa using h2) hk
theorem bindC_get {kindOf : Str → Option NameKind} {x : Str} {v : Value} : ∀ {P : List Str} {vs : List Value} {i : Nat} {m : Str → Option Value}, P.Nodup → P[i]? = some x → vs[i]? = some v → kindOf x ≠ some .local →
    bindC kindOf (P.zip vs) m x = some v
  | [], _, _, _, _, h, _, _ => by simp at h
  | _ :: _, [], _, _, _, _, h, _ => by simp at h
  | p :: P, w :: vs, 0, m, nd, h1, h2, hk => by
    simp at h1 h2; subst h1; subst h2
    show bindC kindOf ((p, w) :: P.zip vs) m p = _
    unfold bindC
    rw [bindC_out fun v hv => (List.nodup_cons.mp nd).1 (List.of_mem_zip hv).1, if_neg hk]
    simp
  | p :: P, w :: vs, i + 1, m, nd, h1, h2, hk => by
    show bindC kindOf ((p, w) :: P.zip vs) m x = _
    unfold bindC
    exact bindC_get (i := i) (List.nodup_cons.mp nd).2 (by simpa using h1) (by simpa using h2) hk
noncomputable def start (N : List Str) (vs : List V) : St := vs.map some ++ List.replicate (N.length - vs.length) none
noncomputable def cxOf (CX : CXT) (P : Program) (w : World) (K : PySem.W.Frag) (mg : Str → Option Value) (base : Heap) (N : List Str) (qual : Str) (scope : Scope) (f : Addr) (cd : Value) (A : Around) (outer : List Env) (s : Shared) (H : Hp) (E : XK) : Cx where
  prog := P
  w := w
  K := K
  mg := mg
  base := base
  A := A.deeper (envOfC qual scope s.heap.objs.size f cd)
  N := N
  s₀ := s
  H₀ := H
  env := envOfC qual scope s.heap.objs.size f cd
  outer := outer
  stack := envOfC qual scope s.heap.objs.size f cd :: outer
  ex := []
  calm := true
  fn := fun _ => true
  pn := []
  xe := fun e s' => wpAny (model P w) (A.deeper (envOfC qual scope s.heap.objs.size f cd)) (leaving (envOfC qual scope s.heap.objs.size f cd) e) (fun _ s'' => CX outer H s E e s'') (fun e' s'' => CX outer H s E e' s'') s'
theorem cell_has {sc : Scope} {n : Nat} {x : Str} (h : sc.names.lookup x = some .cell) : ∃ c, (cellsFrom n sc.names []).lookup x = some c := by
  have q := PySem.W.cellsFrom_some sc.names n [] (.inl h)
  exact Option.isSome_iff_exists.mp q
theorem inv_start {CX : CXT} {P : Program} {w : World} {K : PySem.W.Frag} {mg : Str → Option Value} {base : Heap} {N ps : List Str} {qual : Str} {scope : Scope} {f : Addr} {cd : Value} {A : Around} {outer : List Env} {s s1 : Shared} {H : Hp} {E : XK} {us : List Value} {vs : List V}
    (S : FnScope N ps scope) (hd : A.handled = none) (e0 : Env0 P w K mg base A outer s H) (hl : vs.length = ps.length) (r : Vals vs us)
    (x : InCallC s s.heap.objs.size (bindL (envOfC qual scope s.heap.objs.size f cd).kindOf (ps.zip us) fun _ => none) (cellsFrom (s.heap.objs.size + 1) scope.names []) (bindC (envOfC qual scope s.heap.objs.size f cd).kindOf (ps.zip us) fun _ => none) s1) :
    Inv (cxOf CX P w K mg base N qual scope f cd A outer s H E) [] (start N vs) H s1 := by
  have hpl : ps.length ≤ N.length := by have := congrArg List.length S.pre; rw [List.length_take] at this; omega
  obtain ⟨h1, tk, rfl, hk⟩ := x.done
  have noA : ∀ b : Addr, b ∉ (cxOf CX P w K mg base N qual scope f cd A outer s H E).ex := fun b z => absurd (show b ∈ ([] : List Addr) from z) (by simp)
  refine ⟨⟨e0.mod, S.kind, rfl, rfl, Nat.le_refl _, fun y z c h1 h2 => ?_, fun y hy => ?_, fun y c _ h => ?_, fun _ => hd, Around.frames_deeper e0.frames, .inr ⟨rfl, rfl⟩, fun b z => absurd z (noA b), e0.bs, e0.bsz, fun b _ _ => noA b, fun b z => absurd z (noA b), e0.funs, e0.frf⟩,
    rfl, e0.bare, Un.kept hk, ⟨_, x.toInCall.ns, fun i y v h1 h2 h3 => ?_⟩, fun y c h => ⟨_, x.cell y c h⟩, e0.hok.fresh (Nat.le_refl _), fun y c h => ?_, fun p hp => absurd (show p ∈ ([] : List (Addr × Obj)) from hp) (by simp), e0.hok.kept hk, ?_⟩
  · exact name_of_addr x.apart (PySem.mem_of_lookup h1) (PySem.mem_of_lookup h2)
  · have hy : scope.names.lookup y = some .cell ∨ scope.names.lookup y = some .free := hy
    rcases hy with hy | hy
    · exact cell_has hy
    · exact absurd rfl (S.nofree _ (PySem.mem_of_lookup hy))
  · exact Nat.le_of_lt (x.above y c (PySem.mem_of_lookup h))
  · have hi : i < vs.length := by
      unfold start at h2
      by_cases hi : i < vs.length
      · exact hi
      · rw [List.getElem?_append_right (by simpa using hi)] at h2
        rw [List.getElem?_replicate] at h2
        split at h2 <;> cases h2
    have ha : vs[i]? = some v := by
      unfold start at h2
      rw [List.getElem?_append_left (by simpa using hi), List.getElem?_map] at h2
      cases e : vs[i]? with
      | none => rw [e] at h2; cases h2
      | some a => rw [e] at h2; cases h2; rfl
    obtain ⟨u, hu, rv⟩ := r.get ha
    have hp : ps[i]? = some y := by
      rw [← S.pre, List.getElem?_take_of_lt (by omega)]; exact h1
    have ndP : ps.Nodup := by rw [← S.pre]; exact S.nd.sublist (List.take_sublist _ _)
    refine ⟨u, rv, ?_⟩
    rcases S.par y (List.mem_of_getElem? hp) with k | k
    · exact .inl ⟨k, bindL_get ndP hp hu k⟩
    · obtain ⟨c, e⟩ := cell_has (n := s.heap.objs.size + 1) k
      refine .inr ⟨.inl k, c, e, ?_⟩
      have q := x.cell y c e
      rw [bindC_get ndP hp hu (by show scope.names.lookup y ≠ _; rw [k]; decide)] at q
      exact q
  · exact e0.hok.fresh (Nat.le_of_lt (x.above y c (PySem.mem_of_lookup h)))
  · unfold start
    show _ = N.length
    rw [List.length_append, List.length_map, List.length_replicate]
    omega
theorem fn_of {CX : CXT} {P : Program} {w : World} {K : PySem.W.Frag} {mg : Str → Option Value} {base : Heap} {k : Nat} {f : Addr} {name qual : Str} {params : Arguments} {body : List Stmt} {scope : Scope} {dV kV doc pm cdv ct oc : Value} {an od : Option Addr}
    {osl : Array (Option Value)} {N ps : List Str} {sp : Sp} (lk : K.lookup f = some ⟨oc, od, .func (PySem.W.fnOf name qual params body scope dV kV doc pm an cdv ct), osl⟩) (hcd : PySem.W.codeIn K cdv qual = true) (S : FnScope N ps scope)
    (len : ∀ vs H Q E, sp vs H Q E → vs.length = ps.length)
    (hbody : ∀ (A : Around) (outer : List Env) (s : Shared) (H : Hp) (vs : List V) (Q : VK) (E : XK), Room k (A.deeper (envOfC qual scope s.heap.objs.size f cdv)) → sp vs H Q E →
      ∃ t, PSs (cxOf CX P w K mg base N qual scope f cdv A outer s H E) body t ∧ t { nx := fun _ H' => Q .non H', rt := Q } (start N vs) H) :
    FnOk P w K mg base CX (k + 1) f (PySem.W.fnOf name qual params body scope dV kV doc pm an cdv ct) ps sp := by
  refine ⟨len, fun A outer s H args us vs Q E hr e0 hb r hsp => ?_⟩
  have hl := len _ _ _ _ hsp
  have KX : K.In s.heap := e0.mod.kin.keeps fun b o e => (e0.bs b o e).1
  have lim : s.heap.NoLimit := e0.mod.nolimit.keeps fun b o e => (e0.bs b o e).1
  have hkind : ∀ y ∈ ps.zip us, scope.names.lookup y.1 = some .local ∨ (scope.names.lookup y.1 = some .cell ∧ ((cellsFrom (s.heap.objs.size + 1) scope.names []).lookup y.1).isSome = true) := fun ⟨n, v⟩ hy => by
    rcases S.par n (List.of_mem_zip hy).1 with q | q
    · exact .inl q
    · exact .inr ⟨q, PySem.W.cellsFrom_some _ _ _ (.inl q)⟩
  refine codeAny_call_function hr.depth (KX _ _ lk) rfl S.co S.gen rfl (PySem.W.codeRec_of KX hcd) (hb _ _ _ _ ?_)
  refine wpAny_newFunctionEnv_cells S.kind hkind fun env he s1 x => ?_
  subst he
  refine ⟨lim.keeps x.toInCall.keep, codeAny_func ?_⟩
  obtain ⟨t, ht, hq⟩ := hbody A outer s H vs Q E (hr.deeper _) hsp
  have I : Inv (cxOf CX P w K mg base N qual scope f cdv A outer s H E) [] (start N vs) H s1 := inv_start S hr.hd e0 hl r x
  refine wpAny_mono (ht [] s1 (start N vs) H _ I hq) (fun fl s' hs => ?_) fun e s' hs => hs
  have fin : ∀ {σ' : St} {H' : Hp} {v : V} {u : Value}, Inv (cxOf CX P w K mg base N qual scope f cdv A outer s H E) [] σ' H' s' → RelV v u → Q v H' → CE outer P w H s Q u s' :=
    fun {σ' H' v u} J rv q => ⟨v, H', J.os, J.bare, J.base, J.hok, rv, q⟩
  cases fl with
  | ret u =>
    obtain ⟨v, σ', H', J, rv, q⟩ := hs
    exact fin J rv q
  | next =>
    obtain ⟨σ', H', J, q⟩ := hs
    exact fin (v := V.non) (u := Value.none) J rfl q
  | brk =>
    obtain ⟨_, _, _, q⟩ := hs
    exact False.elim q
  | cont =>
    obtain ⟨_, _, _, q⟩ := hs
    exact False.elim q
end L2
namespace L2
open PySem PySem.Spec PyProof.Rows
section
variable {X : Cx} {x : Str} {p pos : Pos} {e : Expr} {es : List Expr} {t : TA} {id T : String} {r : List V → Hp → VK → Prop}
noncomputable def tCB (r : List V → Hp → VK → Prop) (t : TA) : TE := fun σ H Q => t σ H fun vs H1 => r vs H1 Q
theorem pe_callB (hc : CallR X (.builtin id) r) (hg : Gl X x) (hm : X.mg x = none) (hv : bootBuiltins x = some (.builtin id)) (ha : PA X (e :: es) t) (hn : x ≠ "__name__" := by decide) (hdb : (x == ("__debug__" : Str)) = false := by decide)
    (he : starEach (e :: es) X.env = (false, eval e X.env) :: starEach es X.env := by rfl) (hpl : (backTo pos (starEach es X.env)).any (·.1) = false := by rfl) : PE X (.Call (.Name x p) (e :: es) [] pos) (tCB r t) := by
  intro pins s σ H Q I h
  refine wpAny_Call_Name_kw (ld_blt I hg hm hv ?_ hn hdb)
  exact PyProof.Rows.callWith_builtin1 (thn (ha pos pins s σ H _ I h) fun us s1 ⟨vs, H1, I1, r1, q1⟩ => hc pins s1 σ H1 vs us Q I1 r1 q1) he hpl
theorem pe_callTy (hc : CallR X (.type T) r) (hg : Gl X x) (hm : X.mg x = none) (hv : bootBuiltins x = some (.type T)) (ha : PA X (e :: es) t) (hn : x ≠ "__name__" := by decide) (hdb : (x == ("__debug__" : Str)) = false := by decide)
    (he : starEach (e :: es) X.env = (false, eval e X.env) :: starEach es X.env := by rfl) (hpl : (backTo pos (starEach es X.env)).any (·.1) = false := by rfl) : PE X (.Call (.Name x p) (e :: es) [] pos) (tCB r t) := by
  intro pins s σ H Q I h
  refine wpAny_Call_Name_kw (ld_blt I hg hm hv ?_ hn hdb)
  exact PyProof.Rows.callWith_type1 (thn (ha pos pins s σ H _ I h) fun us s1 ⟨vs, H1, I1, r1, q1⟩ => hc pins s1 σ H1 vs us Q I1 r1 q1) he hpl
end
end L2
namespace HT
open PySem PyProof.Rows
section
open PySem.SeqAt
open PySem.AutoSeq1 (wpAny_loadPart')
open PySem.MeetsSeq PySem.MeetsSeq2 PySem.MeetsSeq3
end
section
variable {prog : Program} {w : World} {A : Around} {E : Value → Shared → Prop} {s : Shared}
theorem cat_tup {t b : Addr} {vs ws : List Value} {Q : Value → Shared → Prop} (ht : IsTup s.heap t vs.toArray) (hb : IsTup s.heap b ws.toArray) (hv : vs ≠ [])
    (h1 : ws = [] → Q (.ref t) s) (h2 : ws ≠ [] → Q (.ref s.heap.objs.size) { s with heap := s.heap.push { cls := .type "tuple", data := .seq (vs ++ ws).toArray } })
    (hsz : vs.length + ws.length ≤ sizeLine) : wpAny (model prog w) A (binaryOp .Add (.ref t) (.ref b)) Q E s := by
  obtain ⟨⟨cls, dd, data, sl⟩, ho, hc, n, hd⟩ := id ht
  obtain ⟨⟨cls2, dd2, data2, sl2⟩, ho2, hc2, n2, hd2⟩ := id hb
  simp only at hc hd hc2 hd2
  subst hc hd hc2 hd2
  have e : vs.toArray ++ ws.toArray = (vs ++ ws).toArray := by simp
  by_cases hw : ws = []
  · exact concat_meets ⟨_, ho, rfl⟩ ⟨_, ho2, rfl⟩ noFill_tuple_add seq_tuple_add PySem.F.slot_tuple_add PySem.F.entry_tuple_add (PySem.F.args_tuple_add_2 _ _)
      (tuple_addW1 t b vs.toArray ws.toArray n n2 dd dd2 sl sl2 (by simpa using hv) (by simp [hw])) ⟨ho, ho2, h1 hw⟩
  · refine concat_meets ⟨_, ho, rfl⟩ ⟨_, ho2, rfl⟩ noFill_tuple_add seq_tuple_add PySem.F.slot_tuple_add PySem.F.entry_tuple_add (PySem.F.args_tuple_add_2 _ _)
      (tuple_addW2 t b vs.toArray ws.toArray n n2 dd dd2 sl sl2 (by simpa using hv) (by simpa using hw) (by rw [List.size_toArray, List.size_toArray]; exact hsz)) ⟨ho, ho2, ?_⟩
    rw [e]
    exact h2 hw
noncomputable def sIx (n d : Nat) : Option Int → Nat
  | none => d
  | some v => if v < 0 then (v + (n : Int)).toNat else min v.toNat n
theorem sIx_none (n d : Nat) : sIx n d none = d := rfl
theorem sIx_le (n d : Nat) (hd : d ≤ n) (o : Option Int) : sIx n d o ≤ n := by
  cases o with
  | none => exact hd
  | some v =>
    show (if v < 0 then (v + (n : Int)).toNat else min v.toNat n) ≤ n
    by_cases hv : v < 0
    · rw [if_pos hv]; omega
    · rw [if_neg hv]; exact Nat.min_le_right _ _
theorem clip_eq (v : Int) (n d : Nat) : (if v < 0 then max (v + (n : Int)) 0 else min v (n : Int)) = ((sIx n d (some v) : Nat) : Int) := by
  show (if v < 0 then max (v + (n : Int)) 0 else min v (n : Int)) = (((if v < 0 then (v + (n : Int)).toNat else min v.toNat n) : Nat) : Int)
  by_cases hv : v < 0
  · simp only [if_pos hv]; omega
  · simp only [if_neg hv]; omega
theorem adjust_gen (lo hi : Option Int) (n : Nat) : Builtin.Slice.sliceAdjust lo hi 1 (n : Int) = (((sIx n 0 lo : Nat) : Int), ((sIx n n hi : Nat) : Int)) := by
  have h1 : ¬ ((1 : Int) < 0) := by omega
  unfold Builtin.Slice.sliceAdjust
  simp only [h1, if_false]
  refine Prod.ext ?_ ?_
  · cases lo with
    | none => rfl
    | some v => exact clip_eq v n 0
  · cases hi with
    | none => rfl
    | some v => exact clip_eq v n n
theorem places_gen (i j : Nat) : Builtin.Slice.slicePlaces (i : Int) (j : Int) 1 = j - i := by
  unfold Builtin.Slice.slicePlaces
  have h1 : (1 : Int) > 0 := by omega
  simp only [h1, if_true, Int.ediv_one]
  split <;> omega
theorem slicePart_ {v : Value} {o : Option Int} {Q : Option Int → Shared → Prop} (p : IsPart v o) (h : Q o s) : wpAny (model prog w) A (Builtin.Slice.slicePartIndex v) Q E s := by
  cases p with
  | none => exact slicePart_none h
  | int i t => exact slicePart_int h
theorem sliceApplied_gen {sl : Addr} {vl vu : Value} {lo hi : Option Int} {n : Nat} {Q : Int × Int × Nat → Shared → Prop} (hs : s.heap.IsSliceOf sl vl vu .none) (pl : IsPart vl lo) (pu : IsPart vu hi)
    (h : Q (((sIx n 0 lo : Nat) : Int), 1, sIx n n hi - sIx n 0 lo) s) : wpAny (model prog w) A (Builtin.Slice.sliceApplied (.ref sl) (pure (n : Int))) Q E s := by
  obtain ⟨os, hos, hcs, hds⟩ := id hs
  unfold Builtin.Slice.sliceApplied Builtin.Slice.sliceFields
  refine wpAny_bind (wpAny_bind (wpAny_field hos hds (x := vl) rfl (wpAny_bind (wpAny_field hos hds (x := vu) rfl (wpAny_bind (wpAny_field hos hds (x := .none) rfl (wpAny_pure ?_)))))))
  refine wpAny_bind (slicePart_none ?_)
  show wpAny _ _ (if ((1 : Int) == 0) = true then _ else _) _ _ s
  rw [if_neg (by decide)]
  refine wpAny_bind (slicePart_ pl (wpAny_bind (slicePart_ pu (wpAny_bind (wpAny_pure ?_)))))
  show wpAny _ _ (match Builtin.Slice.sliceAdjust lo hi 1 (n : Int) with | (lo, hi) => pure (lo, (1 : Int), Builtin.Slice.slicePlaces lo hi 1)) _ _ s
  rw [adjust_gen lo hi n]
  show wpAny _ _ (pure (((sIx n 0 lo : Nat) : Int), (1 : Int), Builtin.Slice.slicePlaces ((sIx n 0 lo : Nat) : Int) ((sIx n n hi : Nat) : Int) 1)) _ _ s
  rw [places_gen]
  exact wpAny_pure h
theorem pick_gen (xs : Array Value) (i k : Nat) : ((List.range k).filterMap fun (m : Nat) => xs[((i : Int) + (m : Int) * 1).toNat]?).toArray = ((xs.toList.drop i).take k).toArray := by
  have e : (fun (m : Nat) => xs[((i : Int) + (m : Int) * 1).toNat]?) = fun m => xs[i + m]? := by
    funext m
    have : ((i : Int) + (m : Int) * 1).toNat = i + m := by omega
    rw [this]
  rw [e]
  have := pick_run xs i k
  rw [List.filterMap_map] at this
  have e2 : ((fun x => xs[x]?) ∘ fun x => i + x) = fun m => xs[i + m]? := rfl
  rw [e2] at this
  rw [this]
theorem getItem_tuple_cut {t sl : Addr} {items : Array Value} {vl vu : Value} {lo hi : Option Int} {Q : Value → Shared → Prop} (ht : IsTup s.heap t items) (hs : s.heap.IsSliceOf sl vl vu .none) (pl : IsPart vl lo) (pu : IsPart vu hi)
    (hw : ¬ (sIx items.size 0 lo = 0 ∧ sIx items.size items.size hi = items.size))
    (h : Q (.ref s.heap.objs.size) { s with heap := s.heap.push { cls := .type "tuple", data := .seq ((items.toList.drop (sIx items.size 0 lo)).take (sIx items.size items.size hi - sIx items.size 0 lo)).toArray } })
    (hsz : items.size ≤ sizeLine) : wpAny (model prog w) A (getItem (.ref t) (.ref sl)) Q E s := by
  have htake : sizeOk (.seq ((items.toList.drop (sIx items.size 0 lo)).take (sIx items.size items.size hi - sIx items.size 0 lo)).toArray) := by
    show ((items.toList.drop (sIx items.size 0 lo)).take (sIx items.size items.size hi - sIx items.size 0 lo)).toArray.size ≤ sizeLine
    rw [List.size_toArray, List.length_take, List.length_drop, Array.length_toList]
    omega
  have hj : sIx items.size items.size hi ≤ items.size := sIx_le _ _ (Nat.le_refl _) hi
  obtain ⟨os, hos, hcs, hds⟩ := id hs
  have hTs : s.TypeIs (.ref sl) "slice" := ⟨os, hos, hcs⟩
  unfold getItem
  try with_reducible refine wpAny_holding ?_
  first | refine wpAny_bind (wpAny_pure ?_) | skip
  refine wpAny_bind (wpAny_sequenceKey ht.typeIs (by decide) ?_)
  refine wpAny_bind (wpAny_callSpecial?_slot (name := Str.ofString "__getitem__") ht.typeIs PyProof.Rows.slot_tuple_getitem
    (wpAny_call_entry PyProof.Rows.slot_tuple_getitem ht.typeIs entry_tuple_getitem ?_ (args_tuple_getitem _ _)))
  show wpAny _ _ (Builtin.Tuple.tupleItemsOf (.ref t) >>= _) _ _ s
  refine wpAny_bind (tupleItemsOf_ ht ?_)
  refine wpAny_bind (wpAny_typeOf hTs ?_)
  rw [if_pos (by decide)]
  refine wpAny_bind (sliceApplied_gen hs pl pu ?_)
  have hno : ¬ ((((sIx items.size 0 lo : Nat) : Int) == 0 && (1 : Int) == 1 && (sIx items.size items.size hi - sIx items.size 0 lo) == items.size) = true) := by
    intro q
    rw [Bool.and_eq_true, Bool.and_eq_true] at q
    have q1 : ((sIx items.size 0 lo : Nat) : Int) = 0 := eq_of_beq q.1.1
    have q2 : sIx items.size items.size hi - sIx items.size 0 lo = items.size := eq_of_beq q.2
    exact hw ⟨by omega, by omega⟩
  show wpAny _ _ (if (((sIx items.size 0 lo : Nat) : Int) == 0 && (1 : Int) == 1 && (sIx items.size items.size hi - sIx items.size 0 lo) == items.size) = true then _ else _) _ _ s
  rw [if_neg hno, pick_gen]
  first
    | exact wpAny_bind (m := Builtin.Tuple.tupleExact _) (wpAny_newObj_type (wpAny_pure ⟨_, rfl, wpAny_pure h⟩) htake)
    | exact wpAny_bind (m := Builtin.Tuple.tupleExact _) (wpAny_newObj_type (wpAny_bind (wpAny_pure (wpAny_pure ⟨_, rfl, wpAny_pure h⟩))) htake)
    | exact wpAny_bind (wpAny_bind (m := Builtin.Tuple.tupleExact _) (wpAny_newObj_type (wpAny_pure (wpAny_pure ⟨_, rfl, wpAny_pure h⟩)) htake))
    | exact wpAny_bind (wpAny_bind (m := Builtin.Tuple.tupleExact _) (wpAny_newObj_type (wpAny_pure ⟨_, rfl, wpAny_pure h⟩) htake))
end
end HT
namespace L2
open PySem PySem.Spec PyProof.Rows
noncomputable abbrev TO := St → Hp → (Option Int → Hp → Prop) → Prop
noncomputable def PO (X : Cx) (e : Option Expr) (t : TO) : Prop :=
  ∀ (pins : List (Addr × Obj)) (s : Shared) (σ : St) (H : Hp) (Q : Option Int → Hp → Prop), Inv X pins σ H s → t σ H Q →
    wpAny (model X.prog X.w) X.A (evalPart e X.env) (fun u s' => ∃ o H', Inv X pins σ H' s' ∧ IsPart u o ∧ Q o H') X.xe s
noncomputable def tNoPart : TO := fun _ H Q => Q none H
noncomputable def tPart (t : TE) : TO := fun σ H Q => t σ H fun x H1 => ∃ i, x = .int i ∧ Q (some i) H1
theorem intsAre_of {ns : List Int} : ∀ {us : List Value}, Vals (ns.map V.int) us → IntsAre us ns := by
  induction ns with
  | nil => intro us r; rw [List.map_nil] at r; cases r; exact .nil
  | cons n ns ih =>
    intro us r
    rw [List.map_cons] at r
    cases r with
    | cons r1 r2 =>
      obtain ⟨t, e⟩ := r1
      subst e
      exact .cons n t (ih r2)
section
variable {X : Cx} {e : Expr} {te : TE} {lo hi : Option Expr} {tl th : TO} {pos p2 : Pos}
theorem po_none : PO X none tNoPart := by
  intro pins s σ H Q I h
  rw [evalPart_none]
  exact wpAny_pure ⟨none, H, I, .none, h⟩
theorem po_some (h : PE X e te) : PO X (some e) (tPart te) := by
  intro pins s σ H Q I hw
  rw [evalPart_some]
  refine thn (h pins s σ H _ I hw) fun u s1 ⟨x, H1, I1, r1, q1⟩ => ?_
  obtain ⟨i, rfl, q⟩ := q1
  obtain ⟨t, rfl⟩ := r1
  exact ⟨some i, H1, I1, .int i t, q⟩
noncomputable def SlR (X : Cx) (r : V → Option Int → Option Int → Hp → VK → Prop) : Prop :=
  ∀ (pins : List (Addr × Obj)) (s : Shared) (σ : St) (H : Hp) (x : V) (v vl vu : Value) (lo hi : Option Int) (sl : Addr) (Q : VK), Inv X pins σ H s → RelV x v → s.heap.IsSliceOf sl vl vu .none → IsPart vl lo → IsPart vu hi → r x lo hi H Q →
    ∃ T id, typeLookup (.type T) "__getitem__" = pure (some (.builtin id)) ∧ s.TypeIs v T ∧ wpAny (model X.prog X.w) X.A (getItem v (.ref sl)) (EP X pins σ Q) X.xe s
theorem SlR.or {r r' : V → Option Int → Option Int → Hp → VK → Prop} (h : SlR X r) (h' : SlR X r') : SlR X (fun x lo hi H Q => r x lo hi H Q ∨ r' x lo hi H Q) := by
  intro pins s σ H x v vl vu lo hi sl Q I rx hs pl pu q
  rcases q with q | q
  · exact h pins s σ H x v vl vu lo hi sl Q I rx hs pl pu q
  · exact h' pins s σ H x v vl vu lo hi sl Q I rx hs pl pu q
noncomputable def tSl (r : V → Option Int → Option Int → Hp → VK → Prop) (te : TE) (tl th : TO) : TE := fun σ H Q => te σ H fun x H1 => tl σ H1 fun l H2 => th σ H2 fun u H3 => r x l u H3 Q
theorem pe_slice {r : V → Option Int → Option Int → Hp → VK → Prop} (hr : SlR X r) (he : PE X e te) (hl : PO X lo tl) (hu : PO X hi th) : PE X (.Subscript e (.Slice lo hi none p2) pos) (tSl r te tl th) := by
  intro pins s σ H Q I h
  refine Subscript_ (thn (he pins s σ H _ I h) fun v s1 ⟨x, H1, I1, r1, q1⟩ => ?_)
  refine wpAny_Slice (thn (hl pins s1 σ H1 _ I1 q1) fun vl s2 ⟨l, H2, I2, pl, q2⟩ => thn (hu pins s2 σ H2 _ I2 q2) fun vu s3 ⟨u, H3, I3, pu, q3⟩ => ?_)
  rw [evalPart_none]
  refine wpAny_pure ?_
  have I4 : Inv X pins σ H3 { s3 with heap := s3.heap.push { cls := .type "slice", data := .fields #[vl, vu, .none] } } := I3.kept (t' := s3.toks) fun b ob q => Heap.get?_push_of_some _ q
  obtain ⟨T, id, hT, ht, hg⟩ := hr pins { s3 with heap := s3.heap.push { cls := .type "slice", data := .fields #[vl, vu, .none] } } σ H3 x v vl vu l u s3.heap.objs.size Q I4 r1 (Heap.IsSliceOf.new ..) pl pu q3
  show wpAny (model X.prog X.w) X.A (subscriptTail e (.Slice lo hi none p2) v (.ref s3.heap.objs.size)) (EP X pins σ Q) X.xe { s3 with heap := s3.heap.push { cls := .type "slice", data := .fields #[vl, vu, .none] } }
  exact tail_any (ops := [.ref s3.heap.objs.size, v]) ht hT hg (by with_unfolding_all rfl)
noncomputable def cutV (xs : List V) (lo hi : Option Int) : List V := (xs.drop (HT.sIx xs.length 0 lo)).take (HT.sIx xs.length xs.length hi - HT.sIx xs.length 0 lo)
theorem cutV_length (xs : List V) (lo hi : Option Int) : (cutV xs lo hi).length ≤ xs.length := by
  unfold cutV
  rw [List.length_take, List.length_drop]
  omega
noncomputable def rSlT (K : PySem.W.Frag) : V → Option Int → Option Int → Hp → VK → Prop := fun x lo hi H Q => ∃ a xs, x = .ref a ∧ SqT K H a xs ∧
  ¬ (HT.sIx xs.length 0 lo = 0 ∧ HT.sIx xs.length xs.length hi = xs.length) ∧ ∀ p, H p = none → Q (.ref p) (upd H p (.tup (cutV xs lo hi)))
theorem sl_tup : SlR X (rSlT X.K) := by
  intro pins s σ H x v vl vu lo hi sl Q I rx hs pl pu h
  obtain ⟨a, xs, rfl, hx, hw, q⟩ := h
  cases rx
  obtain ⟨its, r, ht, hz⟩ := I.tuple hx
  have hlen : its.toArray.size = xs.length := by rw [List.size_toArray]; exact r.length.symm
  refine ⟨"tuple", _, PyProof.Rows.slot_tuple_getitem.lookup, ht.typeIs, ?_⟩
  refine HT.getItem_tuple_cut ht hs pl pu (by rw [hlen]; exact hw) ?_ (by rw [hlen]; exact hz)
  rw [hlen]
  refine ⟨.ref s.heap.objs.size, _, I.laid (t' := s.toks) (o := .tup (cutV xs lo hi)) (fun b ob q => Heap.get?_push_of_some _ q) (Nat.le_refl _) ?_, rfl, q _ (I.hok.fresh (Nat.le_refl _))⟩
  exact ⟨Nat.le_trans (cutV_length xs lo hi) hz, _, (r.drop (HT.sIx xs.length 0 lo)).take (HT.sIx xs.length xs.length hi - HT.sIx xs.length 0 lo), IsTup.new _ _⟩
noncomputable def rCatT (K : PySem.W.Frag) : R2 := fun x y H Q => ∃ a b xs ys, x = .ref a ∧ y = .ref b ∧ SqT K H a xs ∧ SqT K H b ys ∧ xs ≠ [] ∧ xs.length + ys.length ≤ sizeLine ∧
  (ys = [] → Q (.ref a) H) ∧ (ys ≠ [] → ∀ p, H p = none → Q (.ref p) (upd H p (.tup (xs ++ ys))))
theorem Vals.nil_iff {xs : List V} {us : List Value} (r : Vals xs us) : us = [] ↔ xs = [] := by
  cases r with
  | nil => simp
  | cons _ _ => simp
theorem op_catT : OpR X (binaryOp .Add) (rCatT X.K) := by
  intro pins s σ H x y v u Q I rx ry h
  obtain ⟨a, b, xs, ys, rfl, rfl, ha, hb, hx, hz, q1, q2⟩ := h
  cases rx
  cases ry
  obtain ⟨its, r1, p1, _⟩ := I.tuple ha
  obtain ⟨its2, r2, p2, _⟩ := I.tuple hb
  refine HT.cat_tup p1 p2 (fun z => hx (r1.nil_iff.mp z)) (fun z => ⟨.ref a, H, I, rfl, q1 (r2.nil_iff.mp z)⟩) (fun z => ?_) (by rw [← r1.length, ← r2.length]; exact hz)
  refine ⟨.ref s.heap.objs.size, _, I.laid (t' := s.toks) (o := .tup (xs ++ ys)) (fun b ob q => Heap.get?_push_of_some _ q) (Nat.le_refl _) ?_, rfl, q2 (fun w => z (r2.nil_iff.mpr w)) _ (I.hok.fresh (Nat.le_refl _))⟩
  exact ⟨by rw [List.length_append]; exact hz, _, r1.append r2, IsTup.new _ _⟩
end
end L2
namespace L2
open PySem PySem.Spec PyProof.Rows
noncomputable def ixN (n : Nat) (i : Int) : Option Nat := if 0 ≤ i then (if i < n then some i.toNat else none) else if -(n : Int) ≤ i then some (i + n).toNat else none
noncomputable def atI {α : Type} (xs : List α) (i : Int) : Option α := (ixN xs.length i).bind fun j => xs[j]?
theorem ixN_seq {n : Nat} {i : Int} {j : Nat} (h : ixN n i = some j) : seqIndex? i n = some j ∧ j < n ∧ -(n : Int) ≤ i ∧ i < n := by
  unfold ixN at h
  by_cases h0 : 0 ≤ i
  · rw [if_pos h0] at h
    by_cases h1 : i < n
    · rw [if_pos h1] at h
      have e : i.toNat = j := Option.some.inj h
      exact ⟨by rw [seqIndex_of h0 h1, e], by omega, by omega, h1⟩
    · rw [if_neg h1] at h; cases h
  · rw [if_neg h0] at h
    by_cases h1 : -(n : Int) ≤ i
    · rw [if_pos h1] at h
      have e : (i + n).toNat = j := Option.some.inj h
      exact ⟨by rw [seqIndex_neg (by omega) h1, e], by omega, h1, by omega⟩
    · rw [if_neg h1] at h; cases h
theorem atI_get {α : Type} {xs : List α} {i : Int} {v : α} (h : atI xs i = some v) : ∃ j, seqIndex? i xs.length = some j ∧ xs[j]? = some v ∧ j < xs.length ∧ -(xs.length : Int) ≤ i ∧ i < xs.length := by
  unfold atI at h
  cases e : ixN xs.length i with
  | none => rw [e] at h; cases h
  | some j =>
    rw [e] at h
    obtain ⟨h1, h2, h3, h4⟩ := ixN_seq e
    exact ⟨j, h1, h, h2, h3, h4⟩
theorem atI_last {α : Type} (xs : List α) (v : α) : atI (xs ++ [v]) (-1) = some v := by
  have hl : (xs ++ [v]).length = xs.length + 1 := by simp
  have e : ixN (xs ++ [v]).length (-1) = some xs.length := by
    unfold ixN
    rw [hl, if_neg (by decide), if_pos (by omega)]
    congr 1
    omega
  unfold atI
  rw [e]
  show (xs ++ [v])[xs.length]? = some v
  simp
noncomputable def PlainIx (b : Expr) : Prop := ∀ o i, subscripted b false o i = operate [o, i] (getItem o i)
noncomputable def IxR (X : Cx) (r : R2) : Prop :=
  ∀ (value slice : Expr) (pins : List (Addr × Obj)) (s : Shared) (σ : St) (H : Hp) (x y : V) (v u : Value) (Q : VK), Inv X pins σ H s → RelV x v → RelV y u → r x y H Q →
    subscripted slice false v u = operate [v, u] (getItem v u) → wpAny (model X.prog X.w) X.A (subscriptTail value slice v u) (EP X pins σ Q) X.xe s
noncomputable def MtR (X : Cx) (id : String) (r : V → List V → Hp → VK → Prop) : Prop :=
  ∀ (pins : List (Addr × Obj)) (s : Shared) (σ : St) (H : Hp) (x : V) (xs : List V) (v : Value) (us : List Value) (Q : VK), Inv X pins σ H s → RelV x v → Vals xs us → r x xs H Q →
    wpAny (model X.prog X.w) X.A (call (.builtin id) (v :: us)) (EP X pins σ Q) X.xe s
section
variable {X : Cx} {a b : Expr} {ta tb : TE} {pos : Pos}
theorem IxR.or {r r' : R2} (h : IxR X r) (h' : IxR X r') : IxR X (fun x y H Q => r x y H Q ∨ r' x y H Q) := by
  intro value slice pins s σ H x y v u Q I rx ry q hs
  rcases q with q | q
  · exact h value slice pins s σ H x y v u Q I rx ry q hs
  · exact h' value slice pins s σ H x y v u Q I rx ry q hs
theorem pe_ix {r : R2} (hr : IxR X r) (ha : PE X a ta) (hb : PE X b tb) (hs : PlainIx b) : PE X (.Subscript a b pos) (tOp r ta tb) := by
  intro pins s σ H Q I h
  exact Subscript_ (binT ha hb I h fun v u s2 x y H2 I2 rx ry q => hr a b pins s2 σ H2 x y v u Q I2 rx ry q (hs _ _))
noncomputable def rIxL (K : PySem.W.Frag) : R2 := fun x y H Q => ∃ p xs i v, x = .ref p ∧ y = .int i ∧ SqL K H p xs ∧ atI xs i = some v ∧ Q v H
noncomputable def rIxT (K : PySem.W.Frag) : R2 := fun x y H Q => ∃ p xs i v, x = .ref p ∧ y = .int i ∧ SqT K H p xs ∧ atI xs i = some v ∧ Q v H
noncomputable def rIxS : R2 := fun x y H Q => ∃ z i c, x = .str z ∧ y = .int i ∧ z.length ≤ sizeLine ∧ atI z.cps.toList i = some c ∧ Q (.str ⟨#[c]⟩) H
theorem ix_list : IxR X (rIxL X.K) := by
  intro value slice pins s σ H x y v u Q I rx ry h hs
  obtain ⟨p, xs, i, z, rfl, rfl, hq, he, q⟩ := h
  cases rx
  obtain ⟨t, rfl⟩ := ry
  obtain ⟨its, r, pl, hz⟩ := I.list hq
  obtain ⟨j, h1, h2, h3, h4, h5⟩ := atI_get he
  obtain ⟨w, ew, rw'⟩ := r.get h2
  have hl := r.length
  have hn := line63
  have fin : EP X pins σ Q w s := ⟨z, H, I, rw', q⟩
  by_cases h0 : 0 ≤ i
  · have hj : i.toNat = j := by
      rw [seqIndex_of h0 h5] at h1
      exact Option.some.inj h1
    exact item_listR pl.isList h0 (by omega) (by rw [hj]; simpa using ew) fin hs
  · have hj : (i + (its.toArray.size : Int)).toNat = j := by
      rw [seqIndex_neg (by omega) h4] at h1
      rw [List.size_toArray, ← hl]
      exact Option.some.inj h1
    exact subscriptTail_builtinR (x := w) pl.isList.typeIs slot_list_getitem.lookup
      (wpAny_getItem_list_neg (Q := fun r s' => r = w ∧ EP X pins σ Q r s') pl.isList (by omega) (by rw [List.size_toArray] <;> omega) (by omega) (by rw [hj]; simpa using ew) ⟨rfl, fin⟩) hs
theorem ix_tup : IxR X (rIxT X.K) := by
  intro value slice pins s σ H x y v u Q I rx ry h hs
  obtain ⟨p, xs, i, z, rfl, rfl, hq, he, q⟩ := h
  cases rx
  obtain ⟨t, rfl⟩ := ry
  obtain ⟨its, r, pl, hz⟩ := I.tuple hq
  obtain ⟨j, h1, h2, h3, h4, h5⟩ := atI_get he
  obtain ⟨w, ew, rw'⟩ := r.get h2
  have hl := r.length
  have hn := line63
  have fin : EP X pins σ Q w s := ⟨z, H, I, rw', q⟩
  exact subscriptTail_builtinR (x := w) pl.typeIs slot_tuple_getitem.lookup
    (getItem_tuple (j := j) (Q := fun r s' => r = w ∧ EP X pins σ Q r s') pl (by omega) (by omega) (by rw [List.size_toArray, ← hl]; exact h1) (by simpa using ew) ⟨rfl, fin⟩) hs
theorem ix_str : IxR X rIxS := by
  intro value slice pins s σ H x y v u Q I rx ry h hs
  obtain ⟨z, i, c, rfl, rfl, hz, he, q⟩ := h
  obtain ⟨t, rfl⟩ := rx
  obtain ⟨t', rfl⟩ := ry
  obtain ⟨j, h1, h2, h3, h4, h5⟩ := atI_get he
  have hl : z.cps.toList.length = z.length := by simp [Str.length]
  rw [hl] at h1 h4 h5
  have hn := line63
  exact tail_any (typeIs_str s z t) slot_str_getitem.lookup (getItem_str (c := c) (by
    have e1 : decide (i < -(2 ^ 63 : Int)) = false := decide_eq_false (by omega)
    have e2 : decide (i ≥ 2 ^ 63) = false := decide_eq_false (by omega)
    rw [e1, e2, Bool.or_false]) (by rw [h1]; simpa using h2) ⟨.str ⟨#[c]⟩, H, I.tok _, ⟨_, rfl⟩, q⟩) hs
noncomputable def rIx (K : PySem.W.Frag) : R2 := fun x y H Q => rIxL K x y H Q ∨ rIxT K x y H Q ∨ rIxS x y H Q
theorem ix_seq : IxR X (rIx X.K) := ix_list.or (ix_tup.or ix_str)
theorem slice_bounds (lo hi : Option Int) (n : Nat) : (sliceBounds lo hi none n).1 = ((HT.sIx n 0 lo : Nat) : Int) ∧ (sliceBounds lo hi none n).2.1 = ((HT.sIx n n hi : Nat) : Int) ∧ (sliceBounds lo hi none n).2.2 = 1 := by
  refine ⟨?_, ?_, rfl⟩
  · cases lo with
    | none => simp [sliceBounds, HT.sIx]
    | some i =>
      simp only [sliceBounds, HT.sIx, Option.getD_none, show (1 : Int) > 0 by decide, if_true]
      by_cases h : i < 0
      · simp only [h, if_true] <;> omega
      · simp only [h, if_false] <;> omega
  · cases hi with
    | none => simp [sliceBounds, HT.sIx]
    | some i =>
      simp only [sliceBounds, HT.sIx, Option.getD_none, show (1 : Int) > 0 by decide, if_true]
      by_cases h : i < 0
      · simp only [h, if_true] <;> omega
      · simp only [h, if_false] <;> omega
theorem slicePick_cut (its : List Value) (lo hi : Option Int) : slicePick its.toArray lo hi none = ((its.drop (HT.sIx its.length 0 lo)).take (HT.sIx its.length its.length hi - HT.sIx its.length 0 lo)).toArray := by
  obtain ⟨h1, h2, h3⟩ := slice_bounds lo hi its.toArray.size
  unfold slicePick
  rw [h1, h2, h3]
  simp only [sliceRange_one, pick_run, List.size_toArray] <;> rfl
noncomputable def rSlL (K : PySem.W.Frag) : V → Option Int → Option Int → Hp → VK → Prop := fun x lo hi H Q => ∃ a xs, x = .ref a ∧ SqL K H a xs ∧ ∀ p, H p = none → Q (.ref p) (upd H p (.lst (cutV xs lo hi)))
theorem sl_list : SlR X (rSlL X.K) := by
  intro pins s σ H x v vl vu lo hi sl Q I rx hs pl pu h
  obtain ⟨a, xs, rfl, hx, q⟩ := h
  cases rx
  obtain ⟨its, r, ht, hz⟩ := I.list hx
  have hlen := r.length
  refine ⟨"list", _, slot_list_getitem.lookup, ht.isList.typeIs, ?_⟩
  refine wpAny_getItem_list_slice ht.isList hs pl pu .none (by simp) ?_ (by rw [List.size_toArray] <;> omega)
  rw [slicePick_cut, ← hlen]
  refine ⟨.ref s.heap.objs.size, _, I.laid (t' := s.toks) (o := .lst (cutV xs lo hi)) (fun b ob q => Heap.get?_push_of_some _ q) (Nat.le_refl _) ?_, rfl, q _ (I.hok.fresh (Nat.le_refl _))⟩
  exact ⟨Nat.le_trans (cutV_length xs lo hi) hz, _, 0, (r.drop (HT.sIx xs.length 0 lo)).take (HT.sIx xs.length xs.length hi - HT.sIx xs.length 0 lo), Heap.get?_push_size _ rfl⟩
theorem call_len_seq : CallR X (.builtin "len") (fun xs H Q => ∃ p ys, xs = [.ref p] ∧ (SqL X.K H p ys ∨ SqT X.K H p ys) ∧ Q (.int ys.length) H) := by
  intro pins s σ H xs us Q I r h
  obtain ⟨p, ys, rfl, hq, q⟩ := h
  obtain ⟨u, rfl, rx⟩ := vals1 r
  cases rx
  have hn := line63
  rcases hq with hq | hq
  · obtain ⟨its, r', pl, hz⟩ := I.list hq
    have hlen := r'.length
    exact Calls.call_len_list pl.isList (by simp only [List.size_toArray] <;> omega) ⟨.int ys.length, H, I.tok _, ⟨s.toks + 1, by rw [List.size_toArray, hlen]⟩, q⟩
  · obtain ⟨its, r', pl, hz⟩ := I.tuple hq
    have hlen := r'.length
    exact len_tuple pl (by simp only [List.size_toArray] <;> omega) ⟨.int ys.length, H, I.tok _, ⟨s.toks + 1, by rw [List.size_toArray, hlen]⟩, q⟩
theorem call_len_str : CallR X (.builtin "len") (fun xs H Q => ∃ z, xs = [.str z] ∧ z.length ≤ sizeLine ∧ Q (.int z.length) H) := by
  intro pins s σ H xs us Q I r h
  obtain ⟨z, rfl, hz, q⟩ := h
  obtain ⟨u, rfl, t, rfl⟩ := vals1 r
  have hn := line63
  exact len_str (by omega) ⟨.int z.length, H, I.tok _, ⟨_, rfl⟩, q⟩
theorem call_tuple_of : CallR X (.type "tuple") (fun xs H Q => ∃ p ys, xs = [.ref p] ∧ ((SqL X.K H p ys ∧ ∀ l, H l = none → Q (.ref l) (upd H l (.tup ys))) ∨ (SqT X.K H p ys ∧ Q (.ref p) H))) := by
  intro pins s σ H xs us Q I r h
  obtain ⟨p, ys, rfl, h⟩ := h
  obtain ⟨u, rfl, rx⟩ := vals1 r
  cases rx
  rcases h with ⟨hq, q⟩ | ⟨hq, q⟩
  · obtain ⟨its, r', pl, hz⟩ := I.list hq
    have hlen := r'.length
    refine call_tuple_list pl.isList (fun h' kp => ?_) (by simp only [List.size_toArray] <;> omega)
    have I1 : Inv X pins σ H { s with heap := h' } := I.kept (t' := s.toks) kp
    have I2 : Inv X pins σ (upd H h'.objs.size (.tup ys)) { s with heap := h'.push { cls := .type "tuple", data := .seq its.toArray } } :=
      I1.laid (t' := s.toks) (fun b o e => Heap.get?_push_of_some _ e) (Nat.le_refl _) (show ObjOk X.prog X.w _ _ _ (.tup ys) from ⟨hz, its, r', IsTup.new _ _⟩)
    exact ⟨.ref h'.objs.size, _, I2, rfl, q _ (I1.hok.fresh (Nat.le_refl _))⟩
  · obtain ⟨its, r', pl, hz⟩ := I.tuple hq
    exact call_tuple_same pl ⟨.ref p, H, I, rfl, q⟩
noncomputable def tyV (K : PySem.W.Frag) (T : String) (x : V) (H : Hp) : Prop := match x with
  | .str _ => T = "str"
  | .int _ => T = "int"
  | .ref p => (T = "list" ∧ ∃ xs, SqL K H p xs) ∨ (T = "tuple" ∧ ∃ o, K.lookup p = some o ∧ o.cls = .type "tuple" ∧ o.dict = none) ∨
      (T = "dict" ∧ ((∃ kvs, H p = some (.dK kvs)) ∨ ∃ kvs, H p = some (.dT kvs))) ∨ (T = "set" ∧ ∃ S n, H p = some (.set S n))
  | _ => False
theorem tyV_is {pins : List (Addr × Obj)} {σ : St} {H : Hp} {s : Shared} {T : String} {x : V} {v : Value} (I : Inv X pins σ H s) (r : RelV x v) (ty : tyV X.K T x H) :
    s.TypeIs v T ∧ ∀ a, v = .ref a → ∃ ob, s.heap.get? a = some ob ∧ ob.dict = none := by
  cases x with
  | str z =>
    obtain ⟨t, rfl⟩ := r
    cases (show T = "str" from ty)
    exact ⟨typeIs_str s z t, fun _ e => nomatch e⟩
  | int i =>
    obtain ⟨t, rfl⟩ := r
    cases (show T = "int" from ty)
    exact ⟨typeIs_int s i t, fun _ e => nomatch e⟩
  | ref p =>
    cases r
    rcases ty with ⟨rfl, xs, hq⟩ | ⟨rfl, o, hk, hc, hd⟩ | ⟨rfl, hk⟩ | ⟨rfl, S, n, hk⟩
    · obtain ⟨its, _, pl, _⟩ := I.list hq
      refine ⟨pl.isList.typeIs, fun a e => ?_⟩
      cases e
      obtain ⟨o, n, e, c, hd, _⟩ := pl
      exact ⟨o, e, hd⟩
    · refine ⟨⟨o, I.kIn p o hk, hc⟩, fun a e => ?_⟩
      cases e
      exact ⟨o, I.kIn _ o hk, hd⟩
    · have z : ∃ o, s.heap.get? p = some o ∧ o.ExactDict := by
        rcases hk with ⟨kvs, hk⟩ | ⟨kvs, hk⟩
        · obtain ⟨_, _, _, _, o, _, _, e, ex, _⟩ := I.hok p _ hk
          exact ⟨o, e, ex⟩
        · obtain ⟨_, _, _, _, o, _, _, e, ex, _⟩ := I.hok p _ hk
          exact ⟨o, e, ex⟩
      obtain ⟨o, e, ex⟩ := z
      refine ⟨⟨o, e, ex.1⟩, fun a e2 => ?_⟩
      cases e2
      exact ⟨o, e, ex.2.1⟩
    · obtain ⟨o, _, _, _, e, ex, _⟩ := I.hok p _ hk
      refine ⟨⟨o, e, ex.1⟩, fun a e2 => ?_⟩
      cases e2
      exact ⟨o, e, ex.2.1⟩
  | _ => exact False.elim ty
noncomputable def tBM (K : PySem.W.Frag) (T : String) (r : V → List V → Hp → VK → Prop) (to : TE) (t : TA) : TE := fun σ H Q => to σ H fun x H1 => tyV K T x H1 ∧ t σ H1 fun xs H2 => r x xs H2 Q
variable {o e : Expr} {es : List Expr} {to : TE} {t : TA} {name : Str} {apos cpos : Pos} {T id : String} {r : V → List V → Hp → VK → Prop}
theorem pe_bm (pa : PlainAttrs T) (slot : Slot T name id) (hty : typeOf (.builtin id) = pure (.type "method_descriptor")) (hm : MtR X id r) (ho : PE X o to) (ha : PA X (e :: es) t)
    (hbase : attributeBase o name X.env (eval o X.env) = eval o X.env := by rfl)
    (hfew : ((backTo cpos (starEach (e :: es) X.env)).all (fun x => !x.1) && (backToKw cpos (keywordEach [] X.env)).all (fun x => x.1.isSome)
      && decide ((e :: es).length + ([] : List Keyword).length + (if ([] : List Keyword).isEmpty then 0 else 1) < 30)) = true := by rfl)
    (hline : (apos.endLine == cpos.line) = true := by rfl) (hs : starEach (e :: es) X.env = (false, eval e X.env) :: starEach es X.env := by rfl) (hplain : (backTo cpos (starEach es X.env)).any (·.1) = false := by rfl) :
    PE X (.Call (.Attribute o name apos) (e :: es) [] cpos) (tBM X.K T r to t) := by
  intro pins s σ H Q I h
  refine wpAny_Call_method_late hbase hfew hline rfl (thn (ho pins s σ H _ I h) fun v s1 ⟨x, H1, I1, r1, ty, q1⟩ => ?_)
  obtain ⟨h1, h2⟩ := tyV_is I1 r1 ty
  refine ⟨T, id, pa, slot, hty, h1, h2, ?_⟩
  have hA := ha cpos pins s1 σ H1 _ I1 q1
  rw [hs] at hA ⊢
  refine Calls.callWith_builtin (by show (false || (backTo cpos (starEach es X.env)).any (·.1)) = false; rw [hplain] <;> rfl) (Calls.evalArgs_plain ?_)
  exact thn hA fun us s2 ⟨vs, H2, I2, r2, q2⟩ => hm pins s2 σ H2 x vs v us Q I2 r1 r2 q2
end
end L2
namespace L2
open PySem PySem.Spec PyProof.Rows
noncomputable def MtM (X : Cx) (id : String) (r : V → List V → Hp → VK → Prop) : Prop :=
  ∀ (pins : List (Addr × Obj)) (s : Shared) (σ : St) (H : Hp) (x : V) (xs : List V) (v : Value) (us : List Value) (Q : VK), Inv X pins σ H s → RelV x v → Vals xs us → r x xs H Q →
    wpAny (model X.prog X.w) X.A (call (.builtin id) (v :: us)) (EP X pins σ Q) X.xe s
theorem Vals.one : ∀ {x : V} {us : List Value}, Vals [x] us → ∃ u, us = [u] ∧ RelV x u
  | _, _, .cons r .nil => ⟨_, rfl, r⟩
section
variable {X : Cx} {pins : List (Addr × Obj)} {σ : St} {H : Hp} {s : Shared} {l b : Addr} {xs ys zs : List V}
theorem Inv.lset {its its' : List Value} {n : Nat} {f : Array Value → Array Value} {t' : Nat} (I : Inv X pins σ H s) (hH : H l = some (.lst xs))
    (e : s.heap.get? l = some { cls := .type "list", data := .seq its.toArray n }) (hf : f its.toArray = its'.toArray) (hv : Vals ys its') (hz : ys.length ≤ sizeLine) :
    Inv X pins σ (upd H l (.lst ys)) { s with heap := s.heap.update l (Obj.mapSeq f), toks := t' } := by
  have q := PySem.IsL.update e f
  rw [hf] at q
  refine I.write (x := l) (e := l) (by rw [hH]; exact trivial) (.inl rfl) (fun b' u hb hu => (Heap.get?_update_other s.heap (Obj.mapSeq f) (Ne.symm hb)).trans hu) ⟨_, q⟩ ?_
  exact ⟨hz, its', _, hv, q⟩
theorem Inv.lnew {its : List Value} {t' : Nat} (I : Inv X pins σ H s) (hv : Vals ys its) (hz : ys.length ≤ sizeLine) :
    Inv X pins σ (upd H s.heap.objs.size (.lst ys)) { s with heap := s.heap.push { cls := .type "list", data := .seq its.toArray }, toks := t' } :=
  I.laid (fun _ _ q => Heap.get?_push_of_some _ q) (Nat.le_refl _) ⟨hz, its, 0, hv, Heap.get?_push_size _ rfl⟩
theorem Inv.fresh (I : Inv X pins σ H s) : H s.heap.objs.size = none := I.hok.fresh (Nat.le_refl _)
theorem Inv.lstM (I : Inv X pins σ H s) (hH : H l = some (.lst xs)) : xs.length ≤ sizeLine ∧ ∃ (its : List Value) (n : Nat), Vals xs its ∧ xs.length = its.length ∧ s.heap.get? l = some { cls := .type "list", data := .seq its.toArray n } := by
  obtain ⟨z, its, n, r, e⟩ := I.hok l _ hH
  exact ⟨z, its, n, r, r.length, e⟩
theorem notLongL {n : Nat} (h : n ≤ sizeLine) : Builtin.List.listTooLong n = false := by
  unfold Builtin.List.listTooLong
  exact decide_eq_false (by omega)
end
section
variable {X : Cx}
noncomputable def rAppend : V → List V → Hp → VK → Prop := fun x vs H Q => ∃ l xs y, x = .ref l ∧ vs = [y] ∧ H l = some (.lst xs) ∧ xs.length < sizeLine ∧ Q .non (upd H l (.lst (xs ++ [y])))
theorem mt_append : MtM X "list.append" rAppend := by
  intro pins s σ H x vs v us Q I rx rv h
  obtain ⟨l, xs, y, rfl, rfl, hH, hz, q⟩ := h
  cases rx
  obtain ⟨u, rfl, ru⟩ := rv.one
  obtain ⟨z, its, n, r, hl, e⟩ := I.lstM hH
  refine call_meets F.slot_list_append ⟨_, e, rfl⟩ F.entry_list_append (F.args_list_append_2 _ _) (PySem.list_append l its.toArray n u (by rw [List.size_toArray]; omega)) ⟨e, ?_⟩
  refine ⟨.non, _, I.lset (its' := its ++ [u]) hH e (by simp) (r.append (.cons ru .nil)) ?_, rfl, q⟩
  rw [List.length_append, List.length_singleton]
  omega
end
section
variable {prog : Program} {w : World} {A : Around} {E : Value → Shared → Prop} {s : Shared}
end
section
variable {X : Cx}
end
end L2
namespace Att
open PySem PySem.W PySem.Calls PyProof.Rows
theorem ints_of_wellAll {P : Params} {h : Heap} : ∀ (ns : List Int) (vs : List Value), WellAll P h vs (ns.map WData.int) → IntsAre vs ns := by
  intro ns
  induction ns with
  | nil =>
    intro vs w
    rw [List.map_nil] at w
    cases w
    exact .nil
  | cons n ns ih =>
    intro vs w
    rw [List.map_cons] at w
    cases w with
    | cons a b =>
      cases a
      exact .cons _ _ (ih _ b)
theorem script_of {l : OpenLaw} {n : Nat} (hn : l.most = some n) {P : Params} {h : Heap} {args : List WData} {vals : List Value}
    (hpre : l.row.toRowW.claim.pre args = true) (hwl : WellAll P h vals args) :
    ∃ a vs ns, vals = [Value.ref a] ∧ args = [WData.list (ns.map WData.int)] ∧ h.get? a = some { cls := .type "list", data := .seq vs.toArray } ∧ IntsAre vs ns ∧ ns.length ≤ n := by
  have hsh : WShape.hasAll [] args [.list .int] = true := (pre_splitW hpre).1
  have hc : l.pre.holds [] { args := args } = true := (pre_splitW hpre).2
  obtain ⟨d, r, rfl, h1, h2⟩ := hasAllW_cons hsh
  obtain rfl := hasAllW_nil h2
  obtain ⟨xs, rfl, h3⟩ := hasW_list h1
  obtain ⟨ns, rfl⟩ := items_int h3
  have hlen : ns.length ≤ n := by
    unfold OpenLaw.pre at hc
    have h4 : (WTm.not (.lt (.lit (.int (n : Int))) (.len (.arg 0)))).holds [] { args := [.list (ns.map .int)] } = true := by
      have h4 := (holds_andW hc).1
      rw [hn] at h4
      exact h4
    have h5 := condW_of h4 (w_not (w_lt w_lit (w_len_list (w_arg rfl))))
    rw [List.length_map] at h5
    refine Nat.le_of_not_lt fun q => ?_
    have q' : (n : Int) < ((ns.length : Nat) : Int) := by omega
    first
      | (rw [decide_eq_true q'] at h5; exact absurd h5 (by decide))
      | (simp at h5; omega)
  cases hwl with
  | cons w1 w2 =>
    cases w2
    cases w1 with
    | list ho hall => exact ⟨_, _, ns, rfl, rfl, ho, ints_of_wellAll ns _ hall, hlen⟩
theorem post_true (l : OpenLaw) (args : List WData) : l.row.toRowW.claim.post args (.bool true) args = true :=
  postW_of (r := l.row.toRowW) (X := (true == true))
    (show WShape.has [] (.bool true) .bool = true by first | rfl | decide | simp [WShape.has, WShape.arms, WShape.armsAll])
    (show (WTm.eq .res (.lit (.bool true))).value [] { args := args, res := some (.bool true), after := args } = some (.bool (true == true)) from w_eq_bool (w_res rfl) w_lit) rfl
theorem attach_call {l : OpenLaw} {n : Nat} {q : Program} {loose : List Str} {XP : (Str → Option Value) → Heap → Prop} {YP : World → Heap → Prop} {d : DefRec}
    (hn : l.most = some n) (hdf : d.params.defaults = [])
    (call : ∀ (w : World) (s₀ s₁ : Shared) (mg mb : Str → Option Value) (fa : Addr) (o : Obj) (pm cd doc : Value) (a : Addr) (vs : List Value) (ns : List Int),
      Ground q loose [] XP w s₀ mg mb s₁.heap → YP w s₁.heap →
      s₁.heap.get? fa = some o → o.data = .func (docDef d.name d.params d.body d.scope pm cd doc) → s₁.heap.CodeRec cd d.name → mg d.name = some (.ref fa) →
      s₁.heap.get? a = some { cls := .type "list", data := .seq vs.toArray } → IntsAre vs ns → ns.length ≤ n → s₁.gens = #[] →
      codeAny (model l.prog w) callerA (.call (.ref fa) ⟨[.ref a], []⟩) (fun r s' => r = .ok (.ret (.bool true)) ∧ OldK s₁.heap s'.heap ∧ s'.os = s₁.os ∧ AllBare s'.gens) s₁) :
    WalkO q loose XP YP l.row.toRowW d [] (fun f vs => PySem.call f vs) := by
  intro w s₀ s₁ mg mb G Y fa o pm cd doc dV kV ho hd hcd hD hmg hg args vals as hpre hlay hrd hwl hlo
  obtain rfl : dV = .none := Dflts.none hD hdf
  obtain rfl : kV = .none := Dflts.noKw hD
  obtain ⟨a, vs, ns, rfl, rfl, hobj, hints, hlen⟩ := script_of hn hpre hwl
  refine enter_call (codeAny_mono (call w s₀ s₁ mg mb fa o pm cd doc a vs ns G Y ho (fd_plain hd) hcd hmg hobj hints hlen hg) fun r s' hq => ?_)
  obtain ⟨rfl, h2, h3, h4⟩ := hq
  exact ⟨.inl ⟨.bool true, .bool true, [], rfl, fun _ => rfl, .bool true, post_true l _, fun _ => ⟨List.Pairwise.nil, fun _ hm => (nomatch hm)⟩⟩, h2, h3, h4⟩
section
variable {prog : Program} {w : World} {A : Around} {E : Value → Shared → Prop} {s : Shared} {K : Frag}
end
end Att
namespace L2
open PySem PySem.Spec PyProof.Rows
theorem vals_ints : ∀ {vs : List Value} {ns : List Int}, IntsAre vs ns → Vals (ns.map V.int) vs
  | _, _, .nil => .nil
  | _, _, .cons n t h => .cons ⟨t, rfl⟩ (vals_ints h)
noncomputable def Only (H : Hp) : Prop := ∀ b, H b = none ∨ ∃ o xs, H b = some (.frz o (.lst xs))
theorem law_call {P : Program} {w : World} {K : PySem.W.Frag} {mg mb : Str → Option Value} {CX : CXT} {k : Nat} {fa a : Addr} {fd : FuncData} {x : Str} {sp : Sp} {s₁ : Shared} {vs : List Value} {ns : List Int}
    (KX : K.In s₁.heap) (hns : s₁.heap.Ns mainGlobals mg) (hb : s₁.heap.Ns builtinsNs mb) (hbb : ∀ x : Str, x ≠ "__name__" → mb x = bootBuiltins x) (hlim : s₁.heap.NoLimit) (hg : s₁.gens = #[])
    (ha : s₁.heap.get? a = some { cls := .type "list", data := .seq vs.toArray }) (hi : IntsAre vs ns) (hl : ns.length ≤ sizeLine) (hr : Room k callerA)
    (F : ∀ base : Heap, K.In base → base.Ns mainGlobals mg → FnOk P w K mg base CX k fa fd [x] sp) (hbind : ∀ (s : Shared) (u : Value), BindsTo s fd ⟨[u], []⟩ [(x, u)])
    (hsp : ∀ H : Hp, Only H → SqL K H a (ns.map V.int) → sp [.ref a] H (fun v _ => v = .bl true) fun _ _ _ => False)
    (hCX : ∀ H e s', CX [] H s₁ (fun _ _ _ => False) e s' → False) :
    codeAny (model P w) callerA (.call (.ref fa) ⟨[.ref a], []⟩) (fun r s' => r = .ok (.ret (.bool true)) ∧ OldK s₁.heap s'.heap ∧ s'.os = s₁.os ∧ AllBare s'.gens) s₁ := by
  have rv := vals_ints hi
  have lenV := hi.length
  -- from an abstract heap in which nothing but the script may be tracked
  have core : ∀ H : Hp, Only H → SqL K H a (ns.map V.int) → HOk P w H s₁.heap → (∀ b, H b ≠ none → b = a) → (H a ≠ none → K.lookup a = none) →
      codeAny (model P w) callerA (.call (.ref fa) ⟨[.ref a], []⟩) (fun r s' => r = .ok (.ret (.bool true)) ∧ OldK s₁.heap s'.heap ∧ s'.os = s₁.os ∧ AllBare s'.gens) s₁ := by
    intro H hO hS hok hA hK
    have base_of : ∀ {b : Addr} {o : Obj}, s₁.heap.get? b = some o → H b = none → (hidT s₁.heap H).get? b = some o := fun e n => hidT_get e n
    have noA : ∀ {b : Addr} {o : Obj} {es : Array DictEntry} {ep : Nat}, s₁.heap.get? b = some o → o.data = .dict es ep → H b = none := fun {b o es ep} e d => by
      cases q : H b with
      | none => rfl
      | some u =>
        have e' : b = a := hA b (by rw [q]; simp)
        subst e'
        rw [ha] at e; cases e
        have d' : Data.seq vs.toArray _ = Data.dict es ep := d
        cases d'
    have nsK : ∀ {b : Addr} {m : Str → Option Value}, s₁.heap.Ns b m → (hidT s₁.heap H).Ns b m := fun {b m} ⟨o, es, ep, e, d, r⟩ => ⟨o, es, ep, base_of e (noA e d), d, r⟩
    have hKb : K.In (hidT s₁.heap H) := fun b o e => base_of (KX b o e) (by
      cases q : H b with
      | none => rfl
      | some u =>
        have e' : b = a := hA b (by rw [q]; simp)
        subst e'
        rw [hK (by rw [q]; simp)] at e; cases e)
    have hM : Mod K mg (hidT s₁.heap H) := ⟨hKb, nsK hns, ⟨mb, nsK hb, hbb⟩, let ⟨mc, h1, h2⟩ := hlim; ⟨mc, nsK h1, h2⟩⟩
    have e0 : Env0 P w K mg (hidT s₁.heap H) callerA [] s₁ H := ⟨rfl, hM, fun b o e => of_hidT e, Nat.le_of_eq (hidT_size _ _), trivial, fun b hb => absurd (show b ∈ ([] : List Addr) from hb) (by simp), hok, .of_eq hg⟩
    refine codeAny_mono ((F _ hKb (nsK hns)).run callerA [] s₁ H ⟨[.ref a], []⟩ [.ref a] [.ref a] _ _ hr e0 (hbind s₁ (.ref a)) (.cons rfl .nil) (hsp H hO hS)) fun r s' h => ?_
    cases r with
    | error e => exact (hCX H e s' h).elim
    | ok fl =>
      cases fl with
      | next => exact False.elim h
      | brk => exact False.elim h
      | cont => exact False.elim h
      | ret u =>
        obtain ⟨v, H', os, bare, un, hok', r', q⟩ := h
        have q' : v = .bl true := q
        subst q'
        obtain rfl : u = Value.bool true := r'
        refine ⟨rfl, OldK.of_keep fun b o e => ?_, os, bare⟩
        cases q : H b with
        | none => exact un.keep b o e q (by intro z; exact absurd (show b ∈ ([] : List Addr) from z) (by simp)) (by simp)
        | some u =>
          rcases hO b with z | ⟨ob, xs, z⟩
          · rw [q] at z; cases z
          · have z2 := un.frzs b ob _ z
            obtain ⟨e1, _⟩ := hok b _ z
            obtain ⟨e2, _⟩ := hok' b _ z2
            rw [e] at e1; cases e1
            exact e2
  cases hk : K.lookup a with
  | some o =>
    -- the script is one of the module's own objects
    have e := KX a o hk
    rw [ha] at e
    cases e
    refine core (fun _ => none) (fun _ => .inl rfl) (.inr ⟨_, vs.toArray, _, hk, rfl, rfl, rfl, by rw [List.size_toArray, lenV]; exact hl, by simpa using rv⟩) (fun b u z => by have z' : (none : Option HO) = some u := z; cases z') (fun b z => absurd rfl z) fun z => absurd rfl z
  | none =>
    refine core (fun b => if b = a then some (.frz { cls := .type "list", data := .seq vs.toArray } (.lst (ns.map V.int))) else none) (fun b => ?_) (.inl (.inr ⟨{ cls := .type "list", data := .seq vs.toArray }, if_pos rfl⟩)) (fun b u z => ?_) (fun b z => ?_) fun _ => hk
    · by_cases hb : b = a
      · exact .inr ⟨_, _, if_pos hb⟩
      · exact .inl (if_neg hb)
    · by_cases hb : b = a
      · have z' := (if_pos hb).symm.trans z
        cases z'
        subst hb
        exact ⟨ha, by rw [List.length_map]; exact hl, vs, _, rv, ha⟩
      · have z' := (if_neg hb).symm.trans z
        cases z'
    · by_cases hb : b = a
      · exact hb
      · exact absurd (if_neg hb) z
end L2
namespace L2
open PySem PySem.Spec PyProof.Rows
theorem walk_of {l : PySem.W.OpenLaw} {n k : Nat} {q : Program} {loose : List Str} {XP : (Str → Option Value) → Heap → Prop} {YP : World → Heap → Prop} {d : DefRec} {K : Params → PySem.W.Frag} {CX : World → CXT} {sp : World → Sp} {x : Str}
    (hn : l.most = some n) (hn2 : n ≤ sizeLine) (hdf : d.params.defaults = []) (hr : Room k callerA)
    (hY : ∀ (w : World) (h : Heap), YP w h → (K w.params).In h)
    (F : ∀ (w : World) (mg : Str → Option Value) (fa : Addr) (h : Heap), (K w.params).In h → h.Ns mainGlobals mg → mg d.name = some (.ref fa) →
      ∃ fd : FuncData, (∀ (s : Shared) (u : Value), BindsTo s fd ⟨[u], []⟩ [(x, u)]) ∧
        ∀ base : Heap, (K w.params).In base → base.Ns mainGlobals mg → FnOk l.prog w (K w.params) mg base (CX w) k fa fd [x] (sp w))
    (hsp : ∀ (w : World) (H : Hp) (a : Addr) (ns : List Int), ns.length ≤ n → Only H → SqL (K w.params) H a (ns.map V.int) → sp w [.ref a] H (fun v _ => v = .bl true) fun _ _ _ => False)
    (hCX : ∀ (w : World) (H : Hp) (s : Shared) (e : Value) (s' : Shared), CX w [] H s (fun _ _ _ => False) e s' → False) :
    PySem.W.WalkO q loose XP YP l.row.toRowW d [] (fun f vs => PySem.call f vs) := by
  refine Att.attach_call hn hdf fun w s₀ s₁ mg mb fa o pm cd doc a vs ns G Y ho hd hcd hmg hobj hints hlen hg => ?_
  have KX := hY w _ Y
  obtain ⟨fd, hb, hF⟩ := F w mg fa _ KX G.T.g hmg
  exact law_call KX G.T.g G.T.b G.T.builtins G.T.nolimit hg hobj hints (Nat.le_trans hlen hn2) hr hF hb (fun H hO hS => hsp w H a ns hlen hO hS) fun H e s' => hCX w H s₁ e s'
end L2
namespace L2
open PySem PySem.Spec PyProof.Rows
noncomputable def defArgs (s : Stmt) : Arguments := match s with
  | .FunctionDef _ a _ _ _ _ _ _ _ _ => a
  | _ => { posonlyargs := [], args := [], vararg := none, kwonlyargs := [], kw_defaults := [], kwarg := none, defaults := [] }
noncomputable def defBody (s : Stmt) : List Stmt := match s with
  | .FunctionDef _ _ b _ _ _ _ _ _ _ => b
  | _ => []
noncomputable def defScope (s : Stmt) : Scope := match s with
  | .FunctionDef _ _ _ _ _ _ sc _ _ _ => sc
  | _ => { kind := .function, names := [], isGenerator := false, isCoroutine := false }
noncomputable abbrev CX0 : CXT := fun _ _ _ _ _ _ => False
noncomputable abbrev E0 : XK := fun _ _ _ => False
theorem pass0 {X : Cx} : Passes CX0 X E0 := fun _ _ _ _ _ _ _ h => h.elim
structure Fun (K : PySem.W.Frag) (x qual : Str) (st : Stmt) (f : Addr) (fd : FuncData) : Prop where
  ex : ∃ (oc : Value) (od : Option Addr) (kV doc pm : Value) (an : Option Addr) (cdv ct : Value) (osl : Array (Option Value)),
    fd = PySem.W.fnOf x qual (defArgs st) (defBody st) (defScope st) .none kV doc pm an cdv ct ∧ K.lookup f = some ⟨oc, od, .func fd, osl⟩ ∧ PySem.W.codeIn K cdv qual = true
  kp : PySem.W.keepIn K (.ref f) = true
section
variable {P : Program} {w : World} {K : PySem.W.Frag} {mg : Str → Option Value} {base : Heap}
theorem Fun.ok {x qual : Str} {st : Stmt} {f : Addr} {fd : FuncData} {N ps : List Str} {k : Nat} {sp : Sp} (F : Fun K x qual st f fd) (S : FnScope N ps (defScope st)) (len : ∀ vs H Q E, sp vs H Q E → vs.length = ps.length)
    (hbody : ∀ (cdv : Value) (A : Around) (outer : List Env) (s : Shared) (H : Hp) (vs : List V) (Q : VK) (E : XK), Room k (A.deeper (envOfC qual (defScope st) s.heap.objs.size f cdv)) → sp vs H Q E →
      ∃ t, PSs (cxOf CX0 P w K mg base N qual (defScope st) f cdv A outer s H E).nox (defBody st) t ∧ t { nx := fun _ H' => Q .non H', rt := Q } (start N vs) H) : FnOk P w K mg base CX0 (k + 1) f fd ps sp := by
  obtain ⟨oc, od, kV, doc, pm, an, cdv, ct, osl, rfl, lk, hcd⟩ := F.ex
  refine fn_of lk hcd S len fun A outer s H vs Q E hr hsp => ?_
  obtain ⟨t, h, q⟩ := hbody cdv A outer s H vs Q E hr hsp
  exact ⟨t, h.nox, q⟩
theorem Fun.binds {x qual : Str} {st : Stmt} {f : Addr} {fd : FuncData} {ps : List Str} (F : Fun K x qual st f fd)
    (h : ∀ (kV doc pm : Value) (an : Option Addr) (cdv ct : Value) (us : List Value), us.length = ps.length → bindArgs (PySem.W.fnOf x qual (defArgs st) (defBody st) (defScope st) .none kV doc pm an cdv ct) ⟨us, []⟩ = pure (ps.zip us)) : Binds K fd ps [] := by
  obtain ⟨oc, od, kV, doc, pm, an, cdv, ct, osl, rfl, lk, hcd⟩ := F.ex
  exact .all (h kV doc pm an cdv ct)
theorem fun_mk {x qual : Str} {st : Stmt} {f : Addr} {oc : Value} {od an : Option Addr} {osl : Array (Option Value)} {kV doc pm cdv ct : Value} (l : K.lookup f = some ⟨oc, od, .func (PySem.W.fnOf x qual (defArgs st) (defBody st) (defScope st) .none kV doc pm an cdv ct), osl⟩)
    (c : PySem.W.codeIn K cdv qual = true) (k : PySem.W.keepIn K (.ref f) = true) : Fun K x qual st f (PySem.W.fnOf x qual (defArgs st) (defBody st) (defScope st) .none kV doc pm an cdv ct) := ⟨⟨oc, od, kV, doc, pm, an, cdv, ct, osl, rfl, l, c⟩, k⟩
end
theorem small1000 {n : Nat} (h : n ≤ 1000) : n < sizeLine := Nat.lt_of_le_of_lt h (by decide)
section
variable {X : Cx}
theorem pv (i : Nat) {x : Str} {pos : Pos} (hN : X.N[i]? = some x := by rfl) (hv : Vis X.env.scope x := by first | exact Or.inl rfl | exact Or.inr (Or.inl rfl) | exact Or.inr (Or.inr rfl)) (hd : (x == ("__debug__" : Str)) = false := by decide)
    (hcd : (x == ("__classdict__" : Str)) = false := by decide) : PE X (.Name x pos) (tVar i) := pe_var hN hv hd hcd
end
theorem iteF {A B : Prop} (h : B) : if false = true then A else B := by
  rw [if_neg Bool.false_ne_true]
  exact h
theorem iteT {A B : Prop} (h : A) : if true = true then A else B := by
  rw [if_pos rfl]
  exact h
noncomputable def Same (H H' : Hp) : Prop := ∀ b o, H b = some o → H' b = some o
theorem Same.refl (H : Hp) : Same H H := fun _ _ h => h
theorem Same.trans {H H1 H2 : Hp} (a : Same H H1) (b : Same H1 H2) : Same H H2 := fun c o h => b c o (a c o h)
theorem Same.free {H H' : Hp} (e : Same H H') {l : Addr} (h : H' l = Option.none) : H l = Option.none := by
  cases q : H l with
  | none => rfl
  | some o =>
    rw [e l o q] at h
    cases h
theorem Same.seq {K : PySem.W.Frag} {H H' : Hp} {a : Addr} {xs : List V} (e : Same H H') (h : SqL K H a xs) : SqL K H' a xs := by
  rcases h with (h | ⟨o, h⟩) | h
  · exact .inl (.inl (e _ _ h))
  · exact .inl (.inr ⟨o, e _ _ h⟩)
  · exact .inr h
end L2
namespace L2
open PySem PySem.Spec PyProof.Rows
theorem forIn_fold {α β : Type} {l : List α} {f : α → β → Sem (ForInStep β)} {g : α → β → β} : ∀ (c : β), (∀ x ∈ l, ∀ c, f x c = pure (.yield (g x c))) → (forIn l c f : Sem β) = pure (l.foldl (fun c x => g x c) c) := by
  induction l with
  | nil => intro c _; rfl
  | cons x r ih =>
    intro c h
    rw [List.forIn_cons, h x List.mem_cons_self]
    exact ih _ fun y hy => h y (List.mem_cons_of_mem _ hy)
noncomputable def clStep (env : Env) (p : Str × NameKind) (cs : List (Str × Addr)) : List (Str × Addr) :=
  if p.2 = .free then (match env.cells.lookup p.1 with | some a => (p.1, a) :: cs | none => cs) else cs
noncomputable def clOf (scope : Scope) (env : Env) : List (Str × Addr) := scope.names.foldl (fun cs p => clStep env p cs) []
theorem clOf_closure {scope : Scope} {env : Env} (h : ∀ p ∈ scope.names, p.2 = .free → ∃ c, env.cells.lookup p.1 = some c) : closureFor scope env = pure (clOf scope env) := by
  simp only [closureFor]
  rw [forIn_fold (g := clStep env) [] (fun x hx c => by
    obtain ⟨n, kind⟩ := x
    by_cases hk : kind = .free
    · subst hk
      obtain ⟨a, e⟩ := h _ hx rfl
      have e' : env.cells.lookup n = some a := e
      simp [clStep, e', cellOf]
      try rfl
    · have hb : (kind == NameKind.free) = false := by simpa using hk
      simp [clStep, hb, hk])]
  rfl
theorem cl_go {env : Env} : ∀ (names : List (Str × NameKind)) (cs : List (Str × Addr)), (∀ x c, (x, c) ∈ cs → env.cells.lookup x = some c) →
    ∀ x c, (x, c) ∈ names.foldl (fun cs p => clStep env p cs) cs → env.cells.lookup x = some c
  | [], cs, h => h
  | p :: r, cs, h => by
    refine cl_go r _ ?_
    intro x c hx
    unfold clStep at hx
    dsimp only at hx
    split at hx
    · split at hx
      · rename_i a e
        rcases List.mem_cons.mp hx with z | z
        · cases z; exact e
        · exact h x c z
      · exact h x c hx
    · exact h x c hx
theorem cl_more {env : Env} {q : Str × Addr} : ∀ (names : List (Str × NameKind)) (cs : List (Str × Addr)), q ∈ cs → q ∈ names.foldl (fun cs p => clStep env p cs) cs
  | [], _, h => h
  | p :: r, cs, h => by
    refine cl_more r _ ?_
    unfold clStep
    dsimp only
    split
    · split
      · exact List.mem_cons_of_mem _ h
      · exact h
    · exact h
theorem cl_has {env : Env} {x : Str} {c : Addr} (e : env.cells.lookup x = some c) : ∀ (names : List (Str × NameKind)) (cs : List (Str × Addr)), (x, NameKind.free) ∈ names → (x, c) ∈ names.foldl (fun cs p => clStep env p cs) cs
  | [], _, h => by simp at h
  | p :: r, cs, h => by
    rcases List.mem_cons.mp h with z | z
    · subst z
      refine cl_more r _ ?_
      unfold clStep
      dsimp only
      rw [if_pos rfl, e]
      exact List.mem_cons_self
    · exact cl_has e r _ z
theorem lookup_some_of_mem {α : Type} {x : Str} {c : α} : ∀ {l : List (Str × α)}, (x, c) ∈ l → ∃ c', l.lookup x = some c'
  | [], h => by simp at h
  | (y, d) :: r, h => by
    by_cases e : x = y
    · subst e; exact ⟨d, by simp [List.lookup_cons]⟩
    · have hb : (x == y) = false := by simpa using e
      rcases List.mem_cons.mp h with z | z
      · cases z; exact absurd rfl e
      · obtain ⟨c', q⟩ := lookup_some_of_mem z
        exact ⟨c', by simp [List.lookup_cons, hb, q]⟩
theorem clOf_of {scope : Scope} {env : Env} {x : Str} {c : Addr} (h : (clOf scope env).lookup x = some c) : env.cells.lookup x = some c :=
  cl_go scope.names [] (fun _ _ z => by simp at z) x c (PySem.mem_of_lookup h)
theorem clOf_has {scope : Scope} {env : Env} {x : Str} {c : Addr} (hx : (x, NameKind.free) ∈ scope.names) (e : env.cells.lookup x = some c) : (clOf scope env).lookup x = some c := by
  obtain ⟨c', q⟩ := lookup_some_of_mem (cl_has e scope.names [] hx)
  have := clOf_of (scope := scope) q
  rw [e] at this
  cases this
  exact q
theorem lookup_relabel_free {env : Env} (hf : env.scope.kind = .function) : ∀ {names : List (Str × NameKind)} {x : Str}, names.lookup x = some .free → env.kindOf x = some .cell →
    (names.map fun (n, k) => if (k == NameKind.free && env.scope.kind == .function && env.kindOf n == some .cell) then (n, NameKind.cell) else (n, k)).lookup x = some .cell
  | [], _, h, _ => by simp at h
  | (n, k) :: r, x, h, hk => by
    have ih := @lookup_relabel_free env hf r x
    show List.lookup x ((if (k == NameKind.free && env.scope.kind == .function && env.kindOf n == some .cell) = true then (n, NameKind.cell) else (n, k)) :: _) = _
    cases hx : x == n with
    | true =>
      simp only [List.lookup_cons, hx] at h
      have e : x = n := by simpa using hx
      subst e
      cases h
      have hc : (NameKind.free == NameKind.free && env.scope.kind == .function && env.kindOf x == some NameKind.cell) = true := by rw [hf, hk]; rfl
      rw [if_pos hc]
      simp [List.lookup_cons]
    | false =>
      simp only [List.lookup_cons, hx] at h
      by_cases hc : (k == NameKind.free && env.scope.kind == .function && env.kindOf n == some .cell) = true
      · rw [if_pos hc]; simp only [List.lookup_cons, hx]; exact ih h hk
      · rw [if_neg hc]; simp only [List.lookup_cons, hx]; exact ih h hk
theorem cells_app : ∀ (names : List (Str × NameKind)) (n : Nat) (acc cl : List (Str × Addr)), cellsFrom n names (acc ++ cl) = cellsFrom n names acc ++ cl
  | [], _, _, _ => rfl
  | (x, k) :: r, n, acc, cl => by
    unfold cellsFrom
    split
    · exact cells_app r (n + 1) ((x, n) :: acc) cl
    · exact cells_app r n acc cl
theorem cells_split (names : List (Str × NameKind)) (n : Nat) (cl : List (Str × Addr)) {x : Str} {c : Addr} (h : (cellsFrom n names cl).lookup x = some c) :
    (cellsFrom n names []).lookup x = some c ∨ ((cellsFrom n names []).lookup x = none ∧ cl.lookup x = some c) := by
  have e := cells_app names n [] cl
  rw [List.nil_append] at e
  rw [e, List.lookup_append] at h
  cases q : (cellsFrom n names []).lookup x with
  | some d => rw [q] at h; exact .inl h
  | none => rw [q] at h; exact .inr ⟨rfl, h⟩
theorem cells_there (names : List (Str × NameKind)) (n : Nat) (cl : List (Str × Addr)) {x : Str} {c : Addr} (h : cl.lookup x = some c) : ∃ d, (cellsFrom n names cl).lookup x = some d := by
  have e := cells_app names n [] cl
  rw [List.nil_append] at e
  rw [e, List.lookup_append]
  cases q : (cellsFrom n names []).lookup x with
  | some d => exact ⟨d, rfl⟩
  | none => exact ⟨c, h⟩
theorem cells_later (names : List (Str × NameKind)) (n : Nat) (cl : List (Str × Addr)) {x : Str} {c : Addr} (h0 : (cellsFrom n names []).lookup x = none) (h : cl.lookup x = some c) : (cellsFrom n names cl).lookup x = some c := by
  have e := cells_app names n [] cl
  rw [List.nil_append] at e
  rw [e, List.lookup_append, h0]
  exact h
theorem cells_first (names : List (Str × NameKind)) (n : Nat) (cl : List (Str × Addr)) {x : Str} {c : Addr} (h : (cellsFrom n names []).lookup x = some c) : (cellsFrom n names cl).lookup x = some c := by
  have e := cells_app names n [] cl
  rw [List.nil_append] at e
  rw [e, List.lookup_append, h]
  rfl
theorem cells_mem : ∀ (names : List (Str × NameKind)) (n : Nat) (acc : List (Str × Addr)) {x : Str} {c : Addr}, (x, c) ∈ cellsFrom n names acc → (x, c) ∈ acc ∨ (x, NameKind.cell) ∈ names
  | [], _, _, _, _, h => .inl h
  | (y, k) :: r, n, acc, x, c, h => by
    unfold cellsFrom at h
    split at h
    · rename_i hk
      have hk' : k = .cell := by simpa using hk
      rcases cells_mem r (n + 1) ((y, n) :: acc) h with z | z
      · rcases List.mem_cons.mp z with z | z
        · cases z; subst hk'; exact .inr List.mem_cons_self
        · exact .inl z
      · exact .inr (List.mem_cons_of_mem _ z)
    · rcases cells_mem r n acc h with z | z
      · exact .inl z
      · exact .inr (List.mem_cons_of_mem _ z)
theorem blk_env {M : Model} {A : Around} {E : Value → Shared → Prop} {s : Shared} {scope : Scope} {globals : Addr} {cl : List (Str × Addr)} {qual : Str} {env : Env} {Q : Env → Shared → Prop}
    (hQ : Q (newEnv scope s.heap.objs.size globals (cellsFrom (s.heap.objs.size + 1) scope.names cl) qual none .none (some env) builtinsNs) { s with heap := pushCells (s.heap.push { cls := .type "dict", data := .dict #[] }) scope.names }) :
    wpAny M A (newFunctionEnv scope globals cl [] qual none .none (some env)) Q E s := by
  simp only [newFunctionEnv, Option.isSome_some, if_true]
  refine wpAny_bind (wpAny_alloc ?_)
  refine wpAny_bind (wpAny_layCells _ (fun name kind cells => by cases hkc : kind == NameKind.cell <;> simp [hkc]) _ _ _ _ ?_)
  rw [show ({ s with heap := s.heap.push { cls := .type "dict", data := .dict #[] } } : Shared).heap.objs.size = s.heap.objs.size + 1 from Heap.size_push ..]
  refine wpAny_bind (wpAny_pure ?_)
  exact wpAny_pure hQ
structure Blk (X : Cx) (scope : Scope) (N' : List Str) (cap : List (Option Nat)) : Prop where
  kind : scope.kind = .function
  cells : ∀ y ∈ scope.names, y.2 = .cell → scope.names.lookup y.1 = some .cell
  names : ∀ y ∈ scope.names, y.2 = .local → scope.names.lookup y.1 = some .local
  free : ∀ y ∈ scope.names, y.2 = .free → X.env.kindOf y.1 = some .cell
  caps : ∀ (i j : Nat), cap[i]? = some (some j) → ∃ x, N'[i]? = some x ∧ X.N[j]? = some x ∧ scope.names.lookup x = some .free
  len : cap.length = N'.length
  nd : N'.Nodup
noncomputable def capSt (cap : List (Option Nat)) (σ : St) : St := cap.map fun o => match o with
  | some j => (σ[j]?).getD none
  | none => none
noncomputable def blkCx (X : Cx) (scope : Scope) (N' : List Str) (C : Addr) (s₃ : Shared) (H₃ : Hp) (fp : List Addr) : Cx :=
  { X with env := compEnvC scope (cellsFrom (C + 1) scope.names (clOf scope X.env)) C X.env, N := N', s₀ := s₃, H₀ := H₃, outer := X.stack, ex := fp, fn := fun x => decide (scope.names.lookup x = some .cell), pn := [], xe := fun _ _ => False }
theorem blk_inv {X : Cx} {scope : Scope} {N' : List Str} {cap : List (Option Nat)} {pins : List (Addr × Obj)} {σ : St} {H : Hp} {s : Shared} {fp : List Addr} {h' : Heap} {tk : Nat} {m' : Str → Option Value}
    (B : Blk X scope N' cap) (I : Inv X pins σ H s) (hf : ∀ b ∈ fp, FpOk X pins H b) (hlt : ∀ b ∈ fp, b < s.heap.objs.size)
    (hn : h'.Ns s.heap.objs.size m') (hk : ∀ b o, s.heap.get? b = some o → h'.get? b = some o) (ow : CellsOk h' (s.heap.objs.size + 1) (cellsFrom (s.heap.objs.size + 1) scope.names [])) :
    Inv (blkCx X scope N' s.heap.objs.size s H fp) [] (capSt cap σ) H { s with heap := h', toks := tk } := by
  have cl : ∀ x c, (clOf scope X.env).lookup x = some c → X.env.cells.lookup x = some c := fun x c h => clOf_of h
  have hsz : ∀ x c, X.env.cells.lookup x = some c → c < s.heap.objs.size := fun x c e => by
    obtain ⟨v, q⟩ := I.cell x c e
    exact q.lt
  have own : ∀ x c, (cellsFrom (s.heap.objs.size + 1) scope.names []).lookup x = some c → h'.IsCell c none ∧ s.heap.objs.size < c := fun x c e => by
    obtain ⟨q1, q2⟩ := ow.empty x c (PySem.mem_of_lookup e)
    exact ⟨q1, Nat.lt_of_lt_of_le (Nat.lt_succ_self _) q2⟩
  refine ⟨⟨I.ok.mod, B.kind, I.ok.glob, I.ok.blt, Nat.le_refl _, ?_, ?_, ?_, I.ok.hd, I.ok.frames, .inl rfl, ?_, I.bs, Nat.le_trans I.ok.bsz I.sz, ?_, ?_, I.stack, I.stkFree⟩,
    rfl, I.bare, Un.kept hk, ⟨m', hn, ?_⟩, ?_, I.hok.fresh (Nat.le_refl _), ?_, ?_, I.hok.kept hk, ?_⟩
  · intro x y c h1 h2
    rcases cells_split _ _ _ h1 with a1 | ⟨_, a1⟩ <;> rcases cells_split _ _ _ h2 with a2 | ⟨_, a2⟩
    · exact name_of_addr ow.apart (PySem.mem_of_lookup a1) (PySem.mem_of_lookup a2)
    · exact absurd (hsz y c (cl y c a2)) (Nat.not_lt_of_lt (own x c a1).2)
    · exact absurd (hsz x c (cl x c a1)) (Nat.not_lt_of_lt (own y c a2).2)
    · exact I.ok.inj x y c (cl x c a1) (cl y c a2)
  · intro x hx
    have hx : (relabel scope X.env).names.lookup x = some .cell ∨ (relabel scope X.env).names.lookup x = some .free := hx
    have key : ∃ k, (relabel scope X.env).names.lookup x = some k ∧ (k = .cell ∨ k = .free) := by
      rcases hx with h | h
      · exact ⟨_, h, .inl rfl⟩
      · exact ⟨_, h, .inr rfl⟩
    obtain ⟨k, hk1, hk2⟩ := key
    obtain ⟨⟨n, k0⟩, hm, he⟩ := List.mem_map.mp (PySem.mem_of_lookup hk1)
    have fr : (k0 = .free ∨ k0 = .cell) ∧ n = x := by
      dsimp only at he
      by_cases hc : (k0 == NameKind.free && X.env.scope.kind == .function && X.env.kindOf n == some .cell) = true
      · rw [if_pos hc] at he
        cases he
        simp only [Bool.and_eq_true] at hc
        exact ⟨.inl (by simpa using hc.1.1), rfl⟩
      · rw [if_neg hc] at he
        cases he
        rcases hk2 with z | z
        · exact ⟨.inr z, rfl⟩
        · exact ⟨.inl z, rfl⟩
    obtain ⟨hk0, rfl⟩ := fr
    rcases hk0 with rfl | rfl
    · obtain ⟨c, e⟩ := I.ok.has n (.inl (B.free _ hm rfl))
      exact cells_there _ _ _ (clOf_has hm e)
    · obtain ⟨c, e⟩ := cell_has (sc := scope) (n := s.heap.objs.size + 1) (B.cells _ hm rfl)
      exact ⟨c, cells_first _ _ _ e⟩
  · intro x c hx e
    have hx : scope.names.lookup x = some .cell := of_decide_eq_true hx
    rcases cells_split _ _ _ e with e | ⟨n0, _⟩
    · exact Nat.le_of_lt (own x c e).2
    · obtain ⟨d, q⟩ := cell_has (sc := scope) (n := s.heap.objs.size + 1) hx
      rw [q] at n0; cases n0
  · intro b hb
    refine ⟨Nat.ne_of_lt (hlt b hb), fun x c e => ?_⟩
    rcases cells_split _ _ _ e with e | ⟨_, e⟩
    · exact fun z => absurd (hlt b hb) (Nat.not_lt_of_lt (by rw [← z]; exact (own x c e).2))
    · exact (hf b hb).2.2.2.2.1 x c (cl x c e)
  · intro b o e hb
    rcases (hf b hb).2.2.2.1 with z | z
    · exact I.ok.noex b o e z
    · exact absurd (Nat.lt_of_lt_of_le (Heap.lt_size e) (Nat.le_trans I.ok.bsz z)) (Nat.lt_irrefl _)
  · intro b hb hfs
    rcases List.mem_cons.mp (I.stkSub b hfs) with z | z
    · exact (hf b hb).2.1 z
    · exact (hf b hb).2.2.1 z
  · intro i x v e1 e2 _
    have e1 : N'[i]? = some x := e1
    have e2 : (capSt cap σ)[i]? = some (some v) := e2
    unfold capSt at e2
    rw [List.getElem?_map] at e2
    cases hc : cap[i]? with
    | none => rw [hc] at e2; cases e2
    | some o =>
      rw [hc] at e2
      cases o with
      | none => cases e2
      | some j =>
        have e3 : (σ[j]?).getD none = some v := Option.some.inj e2
        have e4 : σ[j]? = some (some v) := by
          cases q : σ[j]? with
          | none => rw [q] at e3; cases e3
          | some w' => rw [q] at e3; have : w' = some v := e3; rw [this]
        obtain ⟨y, h1, h2, h3⟩ := B.caps i j hc
        rw [e1] at h1
        cases h1
        have hcell : X.env.kindOf x = some .cell := B.free _ (PySem.mem_of_lookup h3) rfl
        obtain ⟨m, _, hl⟩ := I.loc
        obtain ⟨u, r, l⟩ := hl j x v h2 e4 (.inr (.inl hcell))
        refine ⟨u, r, ?_⟩
        rcases l with ⟨k, _⟩ | ⟨_, c, e, z⟩
        · rw [hcell] at k; cases k
        · refine .inr ⟨.inl ?_, c, cells_later _ _ _ ?_ (clOf_has (PySem.mem_of_lookup h3) e), ?_⟩
          · exact lookup_relabel_free I.ok.kind h3 hcell
          · cases q : (cellsFrom (s.heap.objs.size + 1) scope.names []).lookup x with
            | none => rfl
            | some d =>
              rcases cells_mem _ _ _ (PySem.mem_of_lookup q) with z | z
              · cases z
              · rw [B.cells _ z rfl] at h3; cases h3
          · obtain ⟨o, q1, q2⟩ := z
            exact ⟨o, hk c o q1, q2⟩
  · intro x c e
    rcases cells_split _ _ _ e with e | ⟨_, e⟩
    · exact ⟨none, (own x c e).1⟩
    · obtain ⟨v, o, q1, q2⟩ := I.cell x c (cl x c e)
      exact ⟨v, o, hk c o q1, q2⟩
  · intro x c e
    rcases cells_split _ _ _ e with e | ⟨_, e⟩
    · exact I.hok.fresh (Nat.le_of_lt (own x c e).2)
    · exact I.freeC x c (cl x c e)
  · intro p hp
    exact absurd (show p ∈ ([] : List (Addr × Obj)) from hp) (by simp)
  · show (capSt cap σ).length = N'.length
    unfold capSt
    rw [List.length_map]
    exact B.len
noncomputable def PTs (X : Cx) (ifs : List Expr) (t : TT) : Prop :=
  ∀ (pins : List (Addr × Obj)) (s : Shared) (σ : St) (H : Hp) (Q : Bool → Hp → Prop), Inv X pins σ H s → t σ H Q →
    wpAny (model X.prog X.w) X.A (forIn ifs true fun c r => if r = true then do let ok ← isTrue c X.env (eval c X.env); pure (ForInStep.yield ok) else pure (ForInStep.yield r)) (TP X pins σ Q) X.xe s
noncomputable def tAll : TT := fun _ H Q => Q true H
theorem pts_nil {X : Cx} : PTs X [] tAll := fun _ _ _ H _ I h => wpAny_tests_nil ⟨H, I, h⟩
noncomputable def TComp (J : It) (g : TG) (tc : TT) (te : TE) (σ₀ : St) (H : Hp) (Q : VK) : Prop :=
  ∃ W : Addr → Nat → Nat → List V → St → Hp → Prop, ∀ D, H D = none → (∃ m, W D 0 m [] σ₀ (upd H D (.lst []))) ∧ ∀ i m ys σ1 H1, W D i m ys σ1 H1 → H1 D = some (.lst ys) →
    (J.stop i H1 ∧ Q (.ref D) H1) ∨ (J.go i H1 ∧ ∀ x H2, J.yld i H1 x H2 → g x σ1 H2 fun σ3 H3 => tc σ3 H3 fun b H4 =>
      if b = true then te σ3 H4 fun v H5 => H5 D = some (.lst ys) ∧ ys.length < sizeLine ∧ ∃ m', m' < m ∧ W D (i + 1) m' (ys ++ [v]) σ3 (upd H5 D (.lst (ys ++ [v])))
      else H4 D = some (.lst ys) ∧ ∃ m', m' < m ∧ W D (i + 1) m' ys σ3 H4)
theorem comp_run {X : Cx} {elt iter tg : Expr} {ifs : List Expr} {scope : Scope} {pos : Pos} {N' : List Str} {cap : List (Option Nat)} {pins : List (Addr × Obj)} {σ : St} {H : Hp} {s : Shared} {J : It} {it : Addr} {fp : List Addr} {tn : Nat → Heap → Prop}
    {g : TG} {tc : TT} {te : TE} {Q : VK} {RR : Value → Addr → Result → Shared → Prop} (hc : X.calm = true) (B : Blk X scope N' cap) (I : Inv X pins σ H s) (T : Turn X.prog X.w X.K tg J fp it tn) (st : tn 0 s.heap) (hf : ∀ b ∈ fp, FpOk X pins H b)
    (hg : ∀ C s₃ H₃ fp, PG (blkCx X scope N' C s₃ H₃ fp) tg g) (ht : ∀ C s₃ H₃ fp, PTs (blkCx X scope N' C s₃ H₃ fp) ifs tc) (he : ∀ C s₃ H₃ fp, PE (blkCx X scope N' C s₃ H₃ fp) elt te)
    (w : TComp J g tc te (capSt cap σ) H Q)
    (fin : ∀ D C s' H' m', s.heap.get? C = none → s.heap.objs.size ≤ C → s'.heap.Ns C m' → H' C = none → Inv X pins σ H' s' → Q (.ref D) H' → RR (.ref D) C (.ok .next) s') :
    wpAny (model X.prog X.w) X.A (newList []) (fun acc s₃ => wpAny (model X.prog X.w) X.A (newFunctionEnv scope X.env.globals (clOf scope X.env) [] X.env.qual none .none (some X.env)) (fun cenv s₄ =>
      codeAny (model X.prog X.w) X.A (.compStart (.ListComp elt [⟨tg, iter, ifs, 0⟩] scope pos) 0 (.ref it) acc { cenv with scope := relabel scope X.env }) (RR acc cenv.locals) s₄) X.xe s₃) X.xe s := by
  refine wpAny_newObj_type (blk_env ?_)
  dsimp only
  obtain ⟨W, hW⟩ := w
  have hD : H s.heap.objs.size = none := I.hok.fresh (Nat.le_refl _)
  obtain ⟨⟨m0, w0⟩, turn⟩ := hW s.heap.objs.size hD
  have I3 : Inv X pins σ (upd H s.heap.objs.size (.lst [])) { s with heap := s.heap.push { cls := .type "list", data := .seq ([] : List Value).toArray } } := I.lnew (its := []) (ys := []) (t' := s.toks) .nil (Nat.zero_le _)
  generalize hH2 : s.heap.push { cls := .type "list", dict := none, data := .seq ([] : List Value).toArray } = H2 at I3 ⊢
  have hC : H2.objs.size = s.heap.objs.size + 1 := by rw [← hH2, Heap.size_push]
  have lt3 : ∀ b ∈ fp, b < s.heap.objs.size := fun b hb => by
    obtain ⟨o, e, _⟩ := T.obj 0 _ st b hb
    exact Heap.lt_size e
  have hf3 : ∀ b ∈ fp, FpOk X pins (upd H s.heap.objs.size (.lst [])) b := fun b hb => by
    refine ⟨?_, (hf b hb).2⟩
    rw [upd_ne (Nat.ne_of_lt (lt3 b hb))]
    exact (hf b hb).1
  have ow : CellsOk (pushCells (H2.push { cls := .type "dict", data := .dict #[] }) scope.names) (H2.objs.size + 1) (cellsFrom (H2.objs.size + 1) scope.names []) := by
    have ok := cellsFrom_ok scope.names (H2.push { cls := .type "dict", data := .dict #[] }) (H2.objs.size + 1) [] ⟨fun _ _ hm => (nomatch hm), List.Pairwise.nil⟩ (by rw [Heap.size_push]; exact Nat.le_refl _)
    rw [Heap.size_push] at ok
    exact ok
  have hns₁ : (pushCells (H2.push { cls := .type "dict", data := .dict #[] }) scope.names).Ns H2.objs.size fun _ => none := (Heap.Ns.new H2 (.type "dict")).keeps (pushCells_keeps _ _)
  have keep : ∀ b o, H2.get? b = some o → (pushCells (H2.push { cls := .type "dict", data := .dict #[] }) scope.names).get? b = some o := fun b o e => pushCells_keeps _ _ b o (Heap.get?_push_of_some _ e)
  generalize pushCells (H2.push { cls := .type "dict", data := .dict #[] }) scope.names = h₁ at ow hns₁ keep ⊢
  have I4 : Inv (blkCx X scope N' H2.objs.size { s with heap := H2 } (upd H s.heap.objs.size (.lst [])) fp) [] (capSt cap σ) (upd H s.heap.objs.size (.lst [])) { s with heap := h₁ } :=
    blk_inv (s := { s with heap := H2 }) B I3 hf3 (fun b hb => by show b < H2.objs.size; rw [hC]; exact Nat.lt_succ_of_lt (lt3 b hb)) hns₁ keep ow
  have st4 : tn 0 h₁ := T.keep 0 _ _ st fun b hb o e => keep b o (by rw [← hH2]; exact Heap.get?_push_of_some _ e)
  have loop : ∀ s₅ : Shared, s₅ = { s with heap := h₁ } →
      codeAny (model X.prog X.w) X.A (.compLoop (.ListComp elt [⟨tg, iter, ifs, 0⟩] scope pos) 0 (.ref it) (.ref s.heap.objs.size) (compEnvC scope (cellsFrom (H2.objs.size + 1) scope.names (clOf scope X.env)) H2.objs.size X.env))
        (RR (.ref s.heap.objs.size) H2.objs.size) s₅ := by
    rintro s₅ rfl
    refine codeAny_loop rfl (fun n s' => ∃ i ys σ' H', Inv (blkCx X scope N' H2.objs.size { s with heap := H2 } (upd H s.heap.objs.size (.lst [])) fp) [] σ' H' s' ∧ tn i s'.heap ∧ (∀ b ∈ fp, H' b = none) ∧ H' s.heap.objs.size = some (.lst ys) ∧ W s.heap.objs.size i n ys σ' H') ?_ m0
      ⟨0, [], _, _, I4, st4, fun b hb => (hf3 b hb).1, upd_same, w0⟩
    rintro n s6 ⟨i, ys, σ6, H6, I6, st6, fr6, hD6, w6⟩
    show wpAny _ X.A ((compTurn (.ListComp elt [⟨tg, iter, ifs, 0⟩] scope pos) 0 (.ref it) (.ref s.heap.objs.size) (compEnvC scope (cellsFrom (H2.objs.size + 1) scope.names (clOf scope X.env)) H2.objs.size X.env)).onRaise (fun x => do noteFrame x (compEnvC scope (cellsFrom (H2.objs.size + 1) scope.names (clOf scope X.env)) H2.objs.size X.env); theTreesLotGoes x)) _ _ s6
    refine wpAny_noted ?_
    rw [compTurn_list]
    have stat : ∀ {H' : Hp}, (∀ b ∈ fp, H' b = none) → ∀ b ∈ fp, FpOk (blkCx X scope N' H2.objs.size { s with heap := H2 } (upd H s.heap.objs.size (.lst [])) fp) [] H' b := fun hn b hb =>
      ⟨hn b hb, Nat.ne_of_lt (by show b < H2.objs.size; rw [hC]; exact Nat.lt_succ_of_lt (lt3 b hb)), I4.ok.exfs b hb, .inl hb, fun x c e => (I4.ok.exf b hb).2 x c e, fun p hp => absurd (show p ∈ ([] : List (Addr × Obj)) from hp) (by simp)⟩
    rcases turn i n ys σ6 H6 w6 hD6 with ⟨stop, qn⟩ | ⟨go, step⟩
    · refine wpAny_bind (wpAny_standAt (wpAny_bind (thn (T.done (blkCx X scope N' H2.objs.size { s with heap := H2 } (upd H s.heap.objs.size (.lst [])) fp) rfl rfl rfl hc i [] s6 _ H6 _ I6 (stat fr6) st6 stop) fun r s7 ⟨hr, I7⟩ => ?_)))
      subst hr
      refine wpAny_pure ?_
      obtain ⟨m7, hn7, _⟩ := I7.loc
      refine fin _ _ s7 H6 m7 ?_ ?_ hn7 I7.free ?_ qn
      · exact Heap.get?_none_of_le (by rw [hC]; exact Nat.le_succ _)
      · rw [hC]; exact Nat.le_succ _
      · refine I3.call' (ch := fp) ?_ ?_ I7.hok I7.bare fun b hb => ?_
        · exact I7.os
        · exact I7.base
        · obtain ⟨f0, f1, f2, f3, f4, f5⟩ := hf3 b hb
          exact ⟨f3, f1, f4, f5⟩
    · refine wpAny_bind (wpAny_standAt (wpAny_bind (thn (T.item (blkCx X scope N' H2.objs.size { s with heap := H2 } (upd H s.heap.objs.size (.lst [])) fp) rfl rfl rfl hc i [] s6 _ H6 _ I6 (stat fr6) st6 go) fun r s7 ⟨u, hr, h7⟩ => ?_)))
      subst hr
      refine wpAny_bind (thn h7 fun _ s8 ⟨x, H8, I8, r8, y8, st8, fr8⟩ => ?_)
      have I8' := I8.pinned (stat fr8) (T.obj _ _ st8)
      have bad : ∀ {α : Type} {t : Sem α} {Q' : α → Shared → Prop} {s' : Shared} {E : Value → Shared → Prop}, wpAny (model X.prog X.w) X.A t Q' (fun _ _ => False) s' → wpAny (model X.prog X.w) X.A t Q' E s' := fun h => wpAny_mono h (fun _ _ q => q) fun _ _ z => z.elim
      refine wpAny_bind (bad (thn (hg _ _ _ _ _ s8 _ H8 x u _ I8' r8 (step x H8 y8)) fun _ s9 ⟨σ9, H9, I9, q9⟩ => ?_))
      refine bad ?_
      refine wpAny_bind (thn (ht _ _ _ _ _ s9 σ9 H9 _ I9 q9) fun ok s10 ⟨H10, I10, q10⟩ => ?_)
      have again : ∀ {σ' : St} {H' : Hp} {ys' : List V} {s' : Shared} {m' : Nat}, Inv (blkCx X scope N' H2.objs.size { s with heap := H2 } (upd H s.heap.objs.size (.lst [])) fp) ([] ++ pinsAt fp s8.heap) σ' H' s' → H' s.heap.objs.size = some (.lst ys') →
          m' < n → W s.heap.objs.size (i + 1) m' ys' σ' H' →
          ∃ m, m < n ∧ ∃ i ys σ' H', Inv (blkCx X scope N' H2.objs.size { s with heap := H2 } (upd H s.heap.objs.size (.lst [])) fp) [] σ' H' s' ∧ tn i s'.heap ∧ (∀ b ∈ fp, H' b = none) ∧ H' s.heap.objs.size = some (.lst ys) ∧ W s.heap.objs.size i m ys σ' H' := fun {σ' H' ys' s' m'} J' hD' hm' w' => by
        refine ⟨m', hm', i + 1, ys', σ', H', J'.unpinned, T.keep _ _ _ st8 fun b hb o e => (J'.pin (b, o) (List.mem_append_right _ (List.mem_append_right _ (mem_pinsAt hb e)))).1, fun b hb => ?_, hD', w'⟩
        obtain ⟨o, e, d⟩ := T.obj _ _ st8 b hb
        exact (J'.pin (b, o) (List.mem_append_right _ (List.mem_append_right _ (mem_pinsAt hb e)))).2.1
      cases ok with
      | false =>
        obtain ⟨hD10, m', hm', w'⟩ := q10
        exact wpAny_pure ⟨rfl, again I10 hD10 hm' w'⟩
      | true =>
        refine wpAny_bind (wpAny_bind (thn (he _ _ _ _ _ s10 σ9 H10 _ I10 q10) fun y s11 ⟨v, H11, I11, r11, hD11, hlen, m', hm', w'⟩ => ?_))
        refine wpAny_bind (thn (mt_append (X := blkCx X scope N' H2.objs.size { s with heap := H2 } (upd H s.heap.objs.size (.lst [])) fp) _ s11 σ9 H11 (.ref s.heap.objs.size) [v] (.ref s.heap.objs.size) [y] (fun _ H' => H' = upd H11 s.heap.objs.size (.lst (ys ++ [v]))) I11 rfl (.cons r11 .nil) ⟨_, _, _, rfl, rfl, hD11, hlen, rfl⟩) fun _ s12 ⟨_, H12, I12, _, e12⟩ => ?_)
        subst e12
        exact wpAny_pure (wpAny_pure ⟨rfl, again I12 upd_same hm' w'⟩)
  exact codeAny_compStart_list (loop _ rfl) (T.self _ 0 _ _ _ st4 (loop _ rfl))
end L2
namespace L2
open PySem PySem.Spec PyProof.Rows
noncomputable def tComp (wi : TI) (cap : List (Option Nat)) (g : TG) (tc : TT) (te : TE) : TE := fun σ H Q => wi σ H fun J H1 => TComp J g tc te (capSt cap σ) H1 Q
section
variable {X : Cx} {elt iter tg : Expr} {ifs : List Expr} {scope : Scope} {pos spos : Pos} {N' : List Str} {cap : List (Option Nat)} {wi : TI} {g : TG} {tc : TT} {te : TE}
theorem pe_comp (hc : X.calm = true) (B : Blk X scope N' cap) (hi : PI X tg iter wi)
    (hg : ∀ C s₃ H₃ fp, PG (blkCx X scope N' C s₃ H₃ fp) tg g) (ht : ∀ C s₃ H₃ fp, PTs (blkCx X scope N' C s₃ H₃ fp) ifs tc) (he : ∀ C s₃ H₃ fp, PE (blkCx X scope N' C s₃ H₃ fp) elt te)
    (hs : ∀ x, foldedSetIterable iter X.env x = pure x := by intro _; rfl) : PE X (.ListComp elt [⟨tg, iter, ifs, 0⟩] scope pos) (tComp wi cap g tc te) := by
  intro pins s σ H Q I h
  rw [eval_ListComp]
  refine wpAny_comprehension_free (use := none) rfl hs (clOf_closure fun p hp hk => I.ok.has p.1 (.inl (B.free p hp hk))) B.kind B.names ?_
  refine thn (hi pins s σ H _ I h) fun v s1 h1 => thn h1 fun itv s2 ⟨it, fp, tn, J, H2, e, I2, T, st2, f2, w⟩ => ?_
  subst e
  refine comp_run (RR := fun acc C => compPost (model X.prog X.w) X.A X.xe none (EP X pins σ Q) acc C) hc B I2 T st2 f2 hg ht he w ?_
  intro D C s' H' m' hC hCs hn hCf I' q
  refine ⟨m', hn, fun h'' hs'' => ⟨.ref D, H', ?_, rfl, q⟩⟩
  refine I'.turned (t' := s'.toks) (it := C) (fun b o hb e => hs''.extBut b o hb e) hCf ?_ (.inr (Nat.le_trans I2.sz hCs)) ?_ ?_
  · exact Nat.ne_of_gt (Nat.lt_of_lt_of_le I2.lt hCs)
  · intro x c e z
    obtain ⟨v, q⟩ := I2.cell x c e
    exact absurd (Nat.lt_of_lt_of_le q.lt (by rw [z]; exact hCs)) (Nat.lt_irrefl _)
  · intro p hp z
    exact absurd (Nat.lt_of_lt_of_le (Heap.lt_size (I2.pin p hp).1) (by rw [z]; exact hCs)) (Nat.lt_irrefl _)
end
end L2
namespace L2.L3
open PySem PySem.Spec PyProof.Rows PySem.W
noncomputable def excC (K : Frag) (c : Str) : Option Addr := match nsIn K mainGlobals c with
  | some (some (.ref C)) => some C
  | _ => none
theorem excC_is {K : Frag} {c : Str} {C : Addr} (h : excC K c = some C) : nsIn K mainGlobals c = some (some (.ref C)) := by
  unfold excC at h
  split at h
  · rename_i e; cases h; exact e
  · cases h
structure ExO (h : Heap) (a C : Addr) (ox : Obj) : Prop where
  at_ : h.get? a = some ox
  cls : ox.cls = .ref C
theorem ExO.type {h : Heap} {a C : Addr} {ox : Obj} {M : Model} (I : ExO h a C ox) : Looks M h (typeOf (.ref a)) (.ref C) := I.cls ▸ (Looks.ld I.at_).andThen .now
end L2.L3
namespace L2.L3
open PySem PySem.Spec PyProof.Rows
noncomputable def keyD : Key → PyData
  | .inl i => .int i
  | .inr x => .str x
mutual
inductive Rep (K : PySem.W.Frag) (G : Hp) : V → PyData → Prop
  | none : Rep K G .non .none
  | bool (b : Bool) : Rep K G (.bl b) (.bool b)
  | int (i : Int) : Rep K G (.int i) (.int i)
  | str (x : Str) : Rep K G (.str x) (.str x)
  | list {a : Addr} {xs : List V} {ds : List PyData} : SqL K G a xs → RepAll K G xs ds → Rep K G (.ref a) (.list ds)
  | tuple {a : Addr} {xs : List V} {ds : List PyData} : SqT K G a xs → RepAll K G xs ds → Rep K G (.ref a) (.tuple ds)
  | dict {a : Addr} {kvs : List (Key × V)} {D : List (PyData × PyData)} : G a = some (.dK kvs) → D.map (·.1) = kvs.map (fun p => keyD p.1) → RepAll K G (kvs.map (·.2)) (D.map (·.2)) → Rep K G (.ref a) (.dict D)
inductive RepAll (K : PySem.W.Frag) (G : Hp) : List V → List PyData → Prop
  | nil : RepAll K G [] []
  | cons {v : V} {vs : List V} {d : PyData} {ds : List PyData} : Rep K G v d → RepAll K G vs ds → RepAll K G (v :: vs) (d :: ds)
end
theorem seqT {K : PySem.W.Frag} {H H' : Hp} {a : Addr} {xs : List V} (e : Same H H') (h : SqT K H a xs) : SqT K H' a xs := by
  rcases h with (h | ⟨o, h⟩) | h
  · exact .inl (.inl (e _ _ h))
  · exact .inl (.inr ⟨o, e _ _ h⟩)
  · exact .inr h
section
variable {K : PySem.W.Frag} {G G' : Hp}
mutual
theorem Rep.mono (s : Same G G') : ∀ {v : V} {d : PyData}, Rep K G v d → Rep K G' v d
  | _, _, .none => .none
  | _, _, .bool b => .bool b
  | _, _, .int i => .int i
  | _, _, .str x => .str x
  | _, _, .list h r => .list (s.seq h) (RepAll.mono s r)
  | _, _, .tuple h r => .tuple (seqT s h) (RepAll.mono s r)
  | _, _, .dict h e r => .dict (s _ _ h) e (RepAll.mono s r)
theorem RepAll.mono (s : Same G G') : ∀ {vs : List V} {ds : List PyData}, RepAll K G vs ds → RepAll K G' vs ds
  | _, _, .nil => .nil
  | _, _, .cons r t => .cons (Rep.mono s r) (RepAll.mono s t)
end
theorem RepAll.length : ∀ {vs : List V} {ds : List PyData}, RepAll K G vs ds → vs.length = ds.length
  | _, _, .nil => rfl
  | _, _, .cons _ t => by simp [RepAll.length t]
theorem RepAll.get : ∀ {vs : List V} {ds : List PyData} {i : Nat} {d : PyData}, RepAll K G vs ds → ds[i]? = some d → ∃ v, vs[i]? = some v ∧ Rep K G v d
  | _, _, _, _, .nil, e => by simp at e
  | _, _, 0, _, .cons r _, e => by simp at e; subst e; exact ⟨_, rfl, r⟩
  | _, _, i + 1, d, .cons _ t, e => by
    obtain ⟨u, h1, h2⟩ := RepAll.get (i := i) (d := d) t (by simpa using e)
    exact ⟨u, by simpa using h1, h2⟩
theorem RepAll.append : ∀ {vs ws : List V} {ds es : List PyData}, RepAll K G vs ds → RepAll K G ws es → RepAll K G (vs ++ ws) (ds ++ es)
  | _, _, _, _, .nil, h => h
  | _, _, _, _, .cons r t, h => .cons r (RepAll.append t h)
theorem RepAll.take : ∀ {vs : List V} {ds : List PyData} (n : Nat), RepAll K G vs ds → RepAll K G (vs.take n) (ds.take n)
  | _, _, 0, _ => .nil
  | _, _, _ + 1, .nil => .nil
  | _, _, n + 1, .cons r t => .cons r (RepAll.take n t)
theorem RepAll.drop : ∀ {vs : List V} {ds : List PyData} (n : Nat), RepAll K G vs ds → RepAll K G (vs.drop n) (ds.drop n)
  | _, _, 0, r => r
  | _, _, _ + 1, .nil => .nil
  | _, _, n + 1, .cons _ t => RepAll.drop n t
theorem RepAll.ints : ∀ {vs : List V} {ns : List Int}, RepAll K G vs (ns.map .int) → vs = ns.map V.int
  | [], [], _ => rfl
  | _, [], .nil => rfl
  | _, n :: r, .cons (.int _) t => by rw [RepAll.ints (ns := r) t]; rfl
theorem RepAll.strs : ∀ {vs : List V} {ns : List Str}, RepAll K G vs (ns.map .str) → vs = ns.map V.str
  | [], [], _ => rfl
  | _, [], .nil => rfl
  | _, n :: r, .cons (.str _) t => by rw [RepAll.strs (ns := r) t]; rfl
theorem RepAll.bools : ∀ {vs : List V} {ns : List Bool}, RepAll K G vs (ns.map .bool) → vs = ns.map V.bl
  | [], [], _ => rfl
  | _, [], .nil => rfl
  | _, n :: r, .cons (.bool _) t => by rw [RepAll.bools (ns := r) t]; rfl
end
section
variable {P : Program} {w : World}
theorem kv_parts : ∀ {kvs : List (Key × V)} {vs : List (Key × Value)}, KV kvs vs → kvs.map (·.1) = vs.map (·.1) ∧ Vals (kvs.map (·.2)) (vs.map (·.2))
  | _, _, .nil => ⟨rfl, .nil⟩
  | _, _, .cons h t => by
    obtain ⟨a, b⟩ := kv_parts t
    exact ⟨by rw [List.map_cons, List.map_cons, a, h.1], .cons h.2 b⟩
theorem pairs_parts {h : Heap} : ∀ {es : List DictEntry} {vs : List (Key × Value)}, Pairs (mixKind P w) es vs → (∃ as, ReadsAll h (es.map (·.key)) (vs.map fun p => keyD p.1) as) ∧ es.map (·.val) = vs.map (·.2)
  | _, _, .nil => ⟨⟨_, .nil⟩, rfl⟩
  | e :: es, kv :: vs, .cons hk hv t => by
    obtain ⟨⟨as, a⟩, b⟩ := pairs_parts (h := h) t
    refine ⟨?_, by rw [List.map_cons, List.map_cons, b, hv]⟩
    rcases keyIs_shape (show keyIs kv.1 e.key = true from hk) with ⟨i, t, e1, e2⟩ | ⟨x, t, e1, e2⟩
    · refine ⟨_, .cons (as := []) (by dsimp only; rw [e1, e2]; exact .int i t) a⟩
    · refine ⟨_, .cons (as := []) (by dsimp only; rw [e1, e2]; exact .str x t) a⟩
end
section
variable {X : Cx} {pins : List (Addr × Obj)} {σ : St} {H : Hp} {s : Shared}
mutual
theorem Rep.reads (I : Inv X pins σ H s) : ∀ {v : V} {d : PyData} {u : Value}, Rep X.K H v d → RelV v u → ∃ as, Reads s.heap u d as
  | _, _, _, .none, r => by cases r; exact ⟨_, .none⟩
  | _, _, _, .bool b, r => by cases r; exact ⟨_, .bool b⟩
  | _, _, _, .int i, r => by obtain ⟨t, rfl⟩ := r; exact ⟨_, .int i t⟩
  | _, _, _, .str x, r => by obtain ⟨t, rfl⟩ := r; exact ⟨_, .str x t⟩
  | _, _, _, .list h q, r => by
    cases r
    obtain ⟨its, rv, ⟨o, n, e, hc, _, hd⟩, _⟩ := I.list h
    obtain ⟨as, z⟩ := RepAll.reads I q rv
    exact ⟨_, .list e hc hd (by simpa using z)⟩
  | _, _, _, .tuple h q, r => by
    cases r
    obtain ⟨its, rv, ⟨o, e, hc, n, hd⟩, _⟩ := I.tuple h
    obtain ⟨as, z⟩ := RepAll.reads I q rv
    exact ⟨_, .tuple e hc hd (by simpa using z)⟩
  | _, _, _, .dict h e0 q, r => by
    cases r
    obtain ⟨hz, hS, vs, kv, o, es, ep, e, hex, hd, _, hp, _⟩ := I.hok _ _ h
    obtain ⟨a1, a2⟩ := kv_parts kv
    obtain ⟨⟨as, b1⟩, b2⟩ := pairs_parts (h := s.heap) hp
    obtain ⟨bs, z⟩ := RepAll.reads I q a2
    refine ⟨_, .dict e hex.1 hd (as := as) (bs := bs) ?_ (by rw [b2]; exact z)⟩
    rw [e0, show (fun p : Key × V => keyD p.1) = keyD ∘ (·.1) from rfl, ← List.map_map, a1, List.map_map]; exact b1
theorem RepAll.reads (I : Inv X pins σ H s) : ∀ {vs : List V} {ds : List PyData} {us : List Value}, RepAll X.K H vs ds → Vals vs us → ∃ as, ReadsAll s.heap us ds as
  | _, _, _, .nil, .nil => ⟨_, .nil⟩
  | _, _, _, .cons r t, .cons q w => by
    obtain ⟨as, a⟩ := Rep.reads I r q
    obtain ⟨bs, b⟩ := RepAll.reads I t w
    exact ⟨_, .cons a b⟩
end
end
noncomputable def lamNames : List Str := ["in_ending_order", "in_laying_order"]
noncomputable def lamQ (x : Str) : Str := x ++ ".<locals>." ++ "<lambda>"
noncomputable def cdO (c : Addr) (q : Str) : HO := .ext fun h => h.CodeRec (.ref c) q
noncomputable def Tab (P : Addr) (q : Str) (H : Hp) : Prop :=
  ∃ ps, H P = some (.tbl (q, ps)) ∧ TriplesOk ps.toList ∧ ∀ pos cv, codeAmong pos ps.toList = some cv → ∃ c, cv = .ref c ∧ H c = some (cdO c q)
noncomputable def NoT (G : Hp) : Prop := ∀ b ps, G b ≠ some (.tbl ps)
noncomputable def Tabs (K : PySem.W.Frag) (G H : Hp) : Prop := (∀ x ∈ lamNames, ∀ c P, PySem.W.tabIn K x = some (c, P) → Tab P (lamQ x) H) ∧ NoT G
theorem NoT.upd {G : Hp} {a : Addr} {o : HO} (n : NoT G) (h : ∀ ps, o ≠ .tbl ps) : NoT (L2.upd G a o) := fun b ps e => by
  by_cases hb : b = a
  · subst hb; rw [upd_same] at e; cases e; exact h _ rfl
  · rw [upd_ne hb] at e; exact n b ps e
theorem Tab.same {P : Addr} {q : Str} {H H' : Hp} (t : Tab P q H) (s : Same H H') : Tab P q H' := by
  obtain ⟨ps, h1, h2, h3⟩ := t
  refine ⟨ps, s _ _ h1, h2, fun pos cv e => ?_⟩
  obtain ⟨c, e1, e2⟩ := h3 pos cv e
  exact ⟨c, e1, s _ _ e2⟩
theorem Tab.wr {P a : Addr} {q : Str} {H : Hp} {xs : List V} {o : HO} (t : Tab P q H) (h : H a = some (.lst xs)) : Tab P q (upd H a o) := by
  obtain ⟨ps, h1, h2, h3⟩ := t
  refine ⟨ps, by rw [upd_ne (ne_of h1 h (by nofun))]; exact h1, h2, fun pos cv e => ?_⟩
  obtain ⟨c, e1, e2⟩ := h3 pos cv e
  exact ⟨c, e1, by rw [upd_ne (ne_of e2 h (by unfold cdO; nofun))]; exact e2⟩
structure Sm (H H' : Hp) : Prop where
  keep : ∀ b o, H b = some o → (∀ ps, o ≠ .tbl ps) → H' b = some o
  tbl : ∀ b ps, H b = some (.tbl ps) → ∃ ps', H' b = some (.tbl ps')
  tab : ∀ P q, Tab P q H → Tab P q H'
theorem Sm.of {H H' : Hp} (s : Same H H') : Sm H H' := ⟨fun b o h _ => s b o h, fun b ps h => ⟨ps, s _ _ h⟩, fun P q t => t.same s⟩
theorem Sm.refl (H : Hp) : Sm H H := .of (.refl _)
theorem Sm.trans {H H1 H2 : Hp} (a : Sm H H1) (b : Sm H1 H2) : Sm H H2 := ⟨fun c o h n => b.keep c o (a.keep c o h n) n, fun c ps h => by
  obtain ⟨p1, h1⟩ := a.tbl c ps h
  exact b.tbl c p1 h1, fun P q t => b.tab P q (a.tab P q t)⟩
theorem Sm.ne {H H' : Hp} (s : Sm H H') {b : Addr} {o : HO} (h : H b = some o) : ∃ o', H' b = some o' := by
  cases o with
  | tbl ps => obtain ⟨p, e⟩ := s.tbl b ps h; exact ⟨_, e⟩
  | _ => exact ⟨_, s.keep b _ h (by nofun)⟩
theorem Sm.free {H H' : Hp} (s : Sm H H') {l : Addr} (h : H' l = none) : H l = none := by
  cases q : H l with
  | none => rfl
  | some o =>
    obtain ⟨o', e⟩ := s.ne q
    rw [h] at e; cases e
theorem Sm.lst {H H' : Hp} (s : Sm H H') {l : Addr} {xs : List V} (h : H l = some (.lst xs)) : H' l = some (.lst xs) := s.keep l _ h (by nofun)
theorem Sm.wr {H H' : Hp} (s : Sm H H') {l : Addr} {xs : List V} {o : HO} (h0 : H l = none) (h : H' l = some (.lst xs)) : Sm H (upd H' l o) :=
  ⟨fun b u e n => by rw [upd_ne (ne_of_none e h0)]; exact s.keep b u e n, fun b ps e => by rw [upd_ne (ne_of_none e h0)]; exact s.tbl b ps e, fun P q t => (s.tab P q t).wr h⟩
theorem Tabs.wr {K : PySem.W.Frag} {G H : Hp} {a : Addr} {xs : List V} {o : HO} (t : Tabs K G H) (h : H a = some (.lst xs)) : Tabs K G (upd H a o) := ⟨fun x hx c P e => (t.1 x hx c P e).wr h, t.2⟩
structure Grow (G H G' H' : Hp) : Prop where
  gg : Same G G'
  hh : Sm H H'
  sub : Same G' H'
  new : ∀ a, G a = none → H a ≠ none → G' a = none
  nt : NoT G → NoT G'
theorem Tabs.more {K : PySem.W.Frag} {G H G' H' : Hp} (t : Tabs K G H) (g : Grow G H G' H') : Tabs K G' H' := ⟨fun x hx c P e => g.hh.tab _ _ (t.1 x hx c P e), g.nt t.2⟩
theorem Grow.refl {G H : Hp} (s : Same G H) : Grow G H G H := ⟨.refl _, .refl _, s, fun _ e _ => e, id⟩
theorem Grow.trans {G H G1 H1 G2 H2 : Hp} (a : Grow G H G1 H1) (b : Grow G1 H1 G2 H2) : Grow G H G2 H2 :=
  ⟨a.gg.trans b.gg, a.hh.trans b.hh, b.sub, fun c e n => b.new c (a.new c e n) (fun z => by
    cases q : H c with
    | none => exact n q
    | some o => obtain ⟨o', e'⟩ := a.hh.ne q; rw [e'] at z; cases z), fun n => b.nt (a.nt n)⟩
theorem same_upd {H : Hp} {p : Addr} {o : HO} (h : H p = none) : Same H (upd H p o) := fun b u e => by rw [upd_ne (ne_of_none e h)]; exact e
theorem same_both {G H : Hp} {p : Addr} {o : HO} (s : Same G H) : Same (upd G p o) (upd H p o) := fun b u e => by
  by_cases hb : b = p
  · subst hb; rw [upd_same] at e ⊢; exact e
  · rw [upd_ne hb] at e ⊢; exact s b u e
theorem Grow.put {G H : Hp} {p : Addr} {o : HO} (s : Same G H) (h : H p = none) (ho : ∀ ps, o ≠ .tbl ps := by nofun) : Grow G H (upd G p o) (upd H p o) :=
  ⟨same_upd (s.free h), .of (same_upd h), same_both s, fun a e n => by rw [upd_ne (fun z => n (by rw [z]; exact h))]; exact e, fun n => n.upd ho⟩
theorem Grow.side {G H : Hp} {p : Addr} {o : HO} (s : Same G H) (h : H p = none) : Grow G H G (upd H p o) :=
  ⟨.refl _, .of (same_upd h), s.trans (same_upd h), fun a e _ => e, id⟩
inductive Ent where
  | no
  | val (d : PyData)
  | lst (ds : List PyData)
  | exc (c : Str)
  | nst (dss : List (List PyData))
  | dct (kvs : List (Key × PyData))
noncomputable def xcO (a C : Addr) : HO := .ext fun h => ∃ ox, ExO h a C ox
noncomputable def InOk (K : PySem.W.Frag) (H0 G H : Hp) (b : Addr) (ds : List PyData) : Prop := ∃ xs, H b = some (.lst xs) ∧ G b = none ∧ H0 b = none ∧ RepAll K G xs ds
noncomputable def DctOk (K : PySem.W.Frag) (G : Hp) (vs : List (Key × V)) (kvs : List (Key × PyData)) : Prop := vs.map (·.1) = kvs.map (·.1) ∧ RepAll K G (vs.map (·.2)) (kvs.map (·.2))
theorem DctOk.mono {K : PySem.W.Frag} {G G' : Hp} {vs : List (Key × V)} {kvs : List (Key × PyData)} (h : DctOk K G vs kvs) (s : Same G G') : DctOk K G' vs kvs := ⟨h.1, h.2.mono s⟩
noncomputable def EntOk (K : PySem.W.Frag) (H0 G H : Hp) (o : Option V) : Ent → Prop
  | .no => True
  | .val d => ∃ v, o = some v ∧ Rep K G v d
  | .lst ds => ∃ a xs, o = some (.ref a) ∧ H a = some (.lst xs) ∧ G a = none ∧ H0 a = none ∧ RepAll K G xs ds
  | .exc c => ∃ a C, o = some (.ref a) ∧ excC K c = some C ∧ H a = some (xcO a C)
  | .nst dss => ∃ a bs, o = some (.ref a) ∧ H a = some (.lst (bs.map V.ref)) ∧ G a = none ∧ H0 a = none ∧ a ∉ bs ∧ bs.Nodup ∧ Paired (InOk K H0 G H) bs dss
  | .dct kvs => ∃ a vs, o = some (.ref a) ∧ H a = some (.dK vs) ∧ G a = none ∧ H0 a = none ∧ DctOk K G vs kvs
noncomputable def isOwn : Ent → Bool
  | .lst _ => true
  | .nst _ => true
  | .dct _ => true
  | _ => false
structure Inj (H : Hp) (σ : St) (ρ : List Ent) : Prop where
  two : ∀ (i j : Nat) (a : Addr) (ds es : List PyData), i ≠ j → σ[i]? = some (some (.ref a)) → ρ[i]? = some (.lst ds) → σ[j]? = some (some (.ref a)) → ρ[j]? = some (.lst es) → False
  mix : ∀ (i j : Nat) (a a' : Addr) (ds : List PyData) (dss : List (List PyData)), σ[i]? = some (some (.ref a)) → ρ[i]? = some (.lst ds) → σ[j]? = some (some (.ref a')) → ρ[j]? = some (.nst dss) → a ≠ a' ∧ ∀ vs, H a' = some (.lst vs) → V.ref a ∉ vs
  one : ∀ (i j : Nat) (dss ess : List (List PyData)), ρ[i]? = some (.nst dss) → ρ[j]? = some (.nst ess) → i = j
  oneD : ∀ (i j : Nat) (ks ls : List (Key × PyData)), ρ[i]? = some (.dct ks) → ρ[j]? = some (.dct ls) → i = j
theorem Inj.sub {H : Hp} {σ σ' : St} {ρ ρ' : List Ent} (I : Inj H σ ρ) (h : ∀ (i : Nat) (e : Ent), ρ'[i]? = some e → isOwn e = true → ρ[i]? = some e ∧ σ'[i]? = σ[i]?) : Inj H σ' ρ' := by
  refine ⟨fun i j a ds es n h1 h2 h3 h4 => ?_, fun i j a a' ds dss h1 h2 h3 h4 => ?_, fun i j dss ess h1 h2 => ?_, fun i j ks ls h1 h2 => I.oneD i j ks ls (h i _ h1 rfl).1 (h j _ h2 rfl).1⟩
  · obtain ⟨x1, x2⟩ := h i _ h2 rfl
    obtain ⟨y1, y2⟩ := h j _ h4 rfl
    rw [x2] at h1; rw [y2] at h3
    exact I.two i j a ds es n h1 x1 h3 y1
  · obtain ⟨x1, x2⟩ := h i _ h2 rfl
    obtain ⟨y1, y2⟩ := h j _ h4 rfl
    rw [x2] at h1; rw [y2] at h3
    exact I.mix i j a a' ds dss h1 x1 h3 y1
  · exact I.one i j dss ess (h i _ h1 rfl).1 (h j _ h2 rfl).1
theorem Inj.other {H H' : Hp} {σ : St} {ρ : List Ent} (I : Inj H σ ρ) (h : ∀ (j : Nat) (a' : Addr) (dss : List (List PyData)), σ[j]? = some (some (.ref a')) → ρ[j]? = some (.nst dss) → ∀ vs, H' a' = some (.lst vs) → H a' = some (.lst vs)) : Inj H' σ ρ :=
  ⟨I.two, fun i j a a' ds dss h1 h2 h3 h4 => ⟨(I.mix i j a a' ds dss h1 h2 h3 h4).1, fun vs e => (I.mix i j a a' ds dss h1 h2 h3 h4).2 vs (h j a' dss h3 h4 vs e)⟩, I.one, I.oneD⟩
theorem Inj.free {H : Hp} {σ : St} {ρ : List Ent} (h : ∀ (i : Nat) (e : Ent), ρ[i]? = some e → isOwn e = false) : Inj H σ ρ :=
  ⟨fun i j a ds es n h1 h2 h3 h4 => Bool.noConfusion (h i _ h2), fun i j a a' ds dss h1 h2 h3 h4 => Bool.noConfusion (h i _ h2), fun i j dss ess h1 h2 => Bool.noConfusion (h i _ h1), fun i j ks ls h1 h2 => Bool.noConfusion (h i _ h1)⟩
theorem paired_mem {α β : Type} {F F' : α → β → Prop} : ∀ {l : List α} {m : List β}, Paired F l m → (∀ a b, a ∈ l → F a b → F' a b) → Paired F' l m
  | _, _, .nil, _ => .nil
  | _, _, .cons r t, h => .cons (h _ _ List.mem_cons_self r) (paired_mem t fun a b ha => h a b (List.mem_cons_of_mem _ ha))
theorem paired_in {α β : Type} {F : α → β → Prop} {a : α} : ∀ {l : List α} {m : List β}, Paired F l m → a ∈ l → ∃ b, F a b
  | _, _, .cons r t, h => by
    rcases List.mem_cons.mp h with rfl | h
    · exact ⟨_, r⟩
    · exact paired_in t h
structure RepS (K : PySem.W.Frag) (H0 G₀ G H : Hp) (σ : St) (ρ : List Ent) : Prop where
  grow : Grow G₀ H0 G H
  len : σ.length = ρ.length
  ent : ∀ (i : Nat) (o : Option V) (e : Ent), σ[i]? = some o → ρ[i]? = some e → EntOk K H0 G H o e
  inj : Inj H σ ρ
  tab : Tabs K G H
theorem EntOk.more {K : PySem.W.Frag} {H0 G H G' H' : Hp} {o : Option V} {e : Ent} (g : Grow G H G' H') (h : EntOk K H0 G H o e) : EntOk K H0 G' H' o e := by
  cases e with
  | no => trivial
  | val d => obtain ⟨v, e, r⟩ := h; exact ⟨v, e, r.mono g.gg⟩
  | lst ds =>
    obtain ⟨a, xs, e, h1, h2, h3, r⟩ := h
    exact ⟨a, xs, e, g.hh.lst h1, g.new a h2 (by rw [h1]; simp), h3, r.mono g.gg⟩
  | exc c => obtain ⟨a, C, e, h1, h2⟩ := h; exact ⟨a, C, e, h1, g.hh.keep a _ h2 (by unfold xcO; nofun)⟩
  | nst dss =>
    obtain ⟨a, bs, e, h1, h2, h3, h4, h5, r⟩ := h
    exact ⟨a, bs, e, g.hh.lst h1, g.new a h2 (by rw [h1]; simp), h3, h4, h5, Paired.mapP r fun b ds ⟨xs, x1, x2, x3, x4⟩ => ⟨xs, g.hh.lst x1, g.new b x2 (by rw [x1]; simp), x3, x4.mono g.gg⟩⟩
  | dct kvs =>
    obtain ⟨a, vs, e, h1, h2, h3, r⟩ := h
    exact ⟨a, vs, e, g.hh.keep a _ h1 (by nofun), g.new a h2 (by rw [h1]; simp), h3, r.mono g.gg⟩
section
variable {K : PySem.W.Frag} {H0 G₀ G H G' H' : Hp} {σ : St} {ρ : List Ent}
theorem RepS.more (R : RepS K H0 G₀ G H σ ρ) (g : Grow G H G' H') : RepS K H0 G₀ G' H' σ ρ :=
  ⟨R.grow.trans g, R.len, fun i o e h1 h2 => (R.ent i o e h1 h2).more g, R.inj.other (fun j a' dss h1 h2 vs e => by
    obtain ⟨a, bs, e1, e2, _⟩ := R.ent j _ _ h1 h2
    cases e1
    rw [g.hh.lst e2] at e
    cases e
    exact e2), R.tab.more g⟩
theorem RepS.sub (R : RepS K H0 G₀ G H σ ρ) : Same G H := R.grow.sub
theorem RepS.at {i : Nat} {e : Ent} (R : RepS K H0 G₀ G H σ ρ) (h : ρ[i]? = some e) : ∃ o, σ[i]? = some o ∧ EntOk K H0 G H o e := by
  have hi : i < σ.length := by rw [R.len]; exact (List.getElem?_eq_some_iff.mp h).1
  exact ⟨σ[i], by simp [hi], R.ent i _ e (by simp [hi]) h⟩
theorem RepS.val {i : Nat} {d : PyData} (R : RepS K H0 G₀ G H σ ρ) (h : ρ[i]? = some (.val d)) : ∃ v, σ[i]? = some (some v) ∧ Rep K G v d := by
  obtain ⟨o, e, v, rfl, r⟩ := R.at h
  exact ⟨v, e, r⟩
theorem RepS.own {i : Nat} {ds : List PyData} (R : RepS K H0 G₀ G H σ ρ) (h : ρ[i]? = some (.lst ds)) : ∃ a xs, σ[i]? = some (some (.ref a)) ∧ H a = some (.lst xs) ∧ G a = none ∧ H0 a = none ∧ RepAll K G xs ds := by
  obtain ⟨o, e, a, xs, rfl, r⟩ := R.at h
  exact ⟨a, xs, e, r⟩
theorem set_get {α : Type} {l : List α} {i j : Nat} {x y : α} (h : (l.set i x)[j]? = some y) : (j = i ∧ y = x ∧ i < l.length) ∨ (j ≠ i ∧ l[j]? = some y) := by
  by_cases e : j = i
  · subst e
    have hl : j < l.length := by
      have := (List.getElem?_eq_some_iff.mp h).1
      simpa using this
    rw [List.getElem?_set_self hl] at h
    exact .inl ⟨rfl, (Option.some.inj h).symm, hl⟩
  · rw [List.getElem?_set_ne (Ne.symm e)] at h
    exact .inr ⟨e, h⟩
theorem RepS.set {i : Nat} {v : V} {d : PyData} (R : RepS K H0 G₀ G H σ ρ) (r : Rep K G v d) : RepS K H0 G₀ G H (σ.set i (some v)) (ρ.set i (.val d)) := by
  refine ⟨R.grow, by simp [R.len], fun j o e h1 h2 => ?_, R.inj.sub fun j e h1 h2 => ?_, R.tab⟩
  · rcases set_get h1 with ⟨rfl, rfl, _⟩ | ⟨n, h1⟩
    · rcases set_get h2 with ⟨_, rfl, _⟩ | ⟨n, _⟩
      · exact ⟨v, rfl, r⟩
      · exact absurd rfl n
    · rcases set_get h2 with ⟨z, _⟩ | ⟨_, h2⟩
      · exact absurd z n
      · exact R.ent j o e h1 h2
  · rcases set_get h1 with ⟨_, rfl, _⟩ | ⟨n, h1⟩
    · cases h2
    · exact ⟨h1, List.getElem?_set_ne (Ne.symm n)⟩
theorem RepS.freeze {i : Nat} {ds : List PyData} (R : RepS K H0 G₀ G H σ ρ) (h : ρ[i]? = some (.lst ds)) : ∃ G', Same G G' ∧ RepS K H0 G₀ G' H σ (ρ.set i (.val (.list ds))) := by
  obtain ⟨a, xs, e, h1, h2, h3, r⟩ := R.own h
  have gg : Same G (upd G a (.lst xs)) := same_upd h2
  refine ⟨upd G a (.lst xs), gg, ⟨⟨R.grow.gg.trans gg, R.grow.hh, fun b o q => ?_, fun b q n => ?_, fun n => (R.grow.nt n).upd (by nofun)⟩, by simp [R.len], fun j o e' q1 q2 => ?_, R.inj.sub fun j e h1 h2 => ?_, R.tab.1, R.tab.2.upd (by nofun)⟩⟩
  · by_cases hb : b = a
    · subst hb; rw [upd_same] at q; cases q; exact h1
    · rw [upd_ne hb] at q; exact R.sub b o q
  · have nb : b ≠ a := fun z => n (by rw [z]; exact h3)
    rw [upd_ne nb]; exact R.grow.new b q n
  · rcases set_get q2 with ⟨rfl, rfl, _⟩ | ⟨nj, q2⟩
    · rw [e] at q1; cases q1
      exact ⟨.ref a, rfl, .list (.of upd_same) (r.mono gg)⟩
    · have E := R.ent j o e' q1 q2
      cases e' with
      | no => trivial
      | val d => obtain ⟨v, z, rv⟩ := E; exact ⟨v, z, rv.mono gg⟩
      | lst es =>
        obtain ⟨b, ys, z, g1, g2, g3, rv⟩ := E
        have nb : b ≠ a := fun w => by
          subst w z
          exact R.inj.two j i b es ds nj q1 q2 e h
        exact ⟨b, ys, z, g1, by rw [upd_ne nb]; exact g2, g3, rv.mono gg⟩
      | exc c => exact E
      | nst dss =>
        obtain ⟨b, bs, z, g1, g2, g3, g4, g5, rv⟩ := E
        subst z
        obtain ⟨m1, m2⟩ := R.inj.mix i j a b ds dss e h q1 q2
        have ni : ∀ c ∈ bs, c ≠ a := fun c hc w => m2 _ g1 (by subst w; exact List.mem_map.mpr ⟨c, hc, rfl⟩)
        exact ⟨b, bs, rfl, g1, by rw [upd_ne (Ne.symm m1)]; exact g2, g3, g4, g5, paired_mem rv fun c dd hc ⟨xs', x1, x2, x3, x4⟩ => ⟨xs', x1, by rw [upd_ne (ni c hc)]; exact x2, x3, x4.mono gg⟩⟩
      | dct kvs =>
        obtain ⟨b, vs, z, g1, g2, g3, rv⟩ := E
        exact ⟨b, vs, z, g1, by rw [upd_ne (ne_of g1 h1 (by nofun))]; exact g2, g3, rv.mono gg⟩
  · rcases set_get h1 with ⟨_, rfl, _⟩ | ⟨n, h1⟩
    · cases h2
    · exact ⟨h1, rfl⟩
theorem RepS.wrote {i : Nat} {a : Addr} {ds ds' : List PyData} {xs : List V} (R : RepS K H0 G₀ G H σ ρ) (h : ρ[i]? = some (.lst ds)) (e : σ[i]? = some (some (.ref a))) (r : RepAll K G xs ds') : RepS K H0 G₀ G (upd H a (.lst xs)) σ (ρ.set i (.lst ds')) := by
  obtain ⟨a', xs', e', h1, h2, h3, _⟩ := R.own h
  rw [e] at e'; cases e'
  refine ⟨⟨R.grow.gg, R.grow.hh.wr h3 h1, fun b o q => ?_, fun b q n => R.grow.new b q n, R.grow.nt⟩, by simp [R.len], fun j o e' q1 q2 => ?_, ⟨fun j k b es fs hjk q1 q2 q3 q4 => ?_, fun j k b a' es dss q1 q2 q3 q4 => ?_, fun j k dss ess q1 q2 => ?_, fun j k ks ls q1 q2 => ?_⟩, R.tab.wr h1⟩
  · rw [upd_ne (ne_of_none q h2)]; exact R.sub b o q
  · rcases set_get q2 with ⟨rfl, rfl, _⟩ | ⟨nj, q2⟩
    · rw [e] at q1; cases q1
      exact ⟨a, xs, rfl, upd_same, h2, h3, r⟩
    · have E := R.ent j o e' q1 q2
      cases e' with
      | no => trivial
      | val d => exact E
      | lst es =>
        obtain ⟨b, ys, z, g1, g2, g3, rv⟩ := E
        have nb : b ≠ a := fun w => by
          subst w z
          exact R.inj.two j i b es ds nj q1 q2 e h
        exact ⟨b, ys, z, by rw [upd_ne nb]; exact g1, g2, g3, rv⟩
      | exc c => obtain ⟨b, C, z, g1, g2⟩ := E; exact ⟨b, C, z, g1, by rw [upd_ne (ne_of g2 h1 (by unfold xcO; nofun))]; exact g2⟩
      | nst dss =>
        obtain ⟨b, bs, z, g1, g2, g3, g4, g5, rv⟩ := E
        subst z
        obtain ⟨m1, m2⟩ := R.inj.mix i j a b ds dss e h q1 q2
        have ni : ∀ c ∈ bs, c ≠ a := fun c hc w => m2 _ g1 (by subst w; exact List.mem_map.mpr ⟨c, hc, rfl⟩)
        exact ⟨b, bs, rfl, by rw [upd_ne (Ne.symm m1)]; exact g1, g2, g3, g4, g5, paired_mem rv fun c dd hc ⟨xs', x1, x2, x3, x4⟩ => ⟨xs', by rw [upd_ne (ni c hc)]; exact x1, x2, x3, x4⟩⟩
      | dct kvs =>
        obtain ⟨b, vs, z, g1, g2, g3, rv⟩ := E
        exact ⟨b, vs, z, by rw [upd_ne (ne_of g1 h1 (by nofun))]; exact g1, g2, g3, rv⟩
  · rcases set_get q2 with ⟨rfl, _, _⟩ | ⟨n2, q2⟩
    · rcases set_get q4 with ⟨z, _, _⟩ | ⟨n4, q4⟩
      · exact hjk z.symm
      · exact R.inj.two j k b ds fs hjk q1 h q3 q4
    · rcases set_get q4 with ⟨z, _, _⟩ | ⟨n4, q4⟩
      · subst z; exact R.inj.two j k b es ds hjk q1 ‹ρ[j]? = some (Ent.lst es)› q3 h
      · exact R.inj.two j k b es fs hjk q1 ‹ρ[j]? = some (Ent.lst es)› q3 q4
  · rcases set_get q4 with ⟨_, z, _⟩ | ⟨_, q4⟩
    · cases z
    · have old : ∃ fs, ρ[j]? = some (.lst fs) := by
        rcases set_get q2 with ⟨rfl, _, _⟩ | ⟨_, q2⟩
        · exact ⟨_, h⟩
        · exact ⟨_, q2⟩
      obtain ⟨fs, q2⟩ := old
      obtain ⟨m1, m2⟩ := R.inj.mix j k b a' fs dss q1 q2 q3 q4
      have m3 := (R.inj.mix i k a a' ds dss e h q3 q4).1
      exact ⟨m1, fun vs z => m2 vs (by rw [upd_ne (Ne.symm m3)] at z; exact z)⟩
  · rcases set_get q1 with ⟨_, z, _⟩ | ⟨_, q1⟩
    · cases z
    · rcases set_get q2 with ⟨_, z, _⟩ | ⟨_, q2⟩
      · cases z
      · exact R.inj.one j k dss ess q1 q2
  · rcases set_get q1 with ⟨_, z, _⟩ | ⟨_, q1⟩
    · cases z
    · rcases set_get q2 with ⟨_, z, _⟩ | ⟨_, q2⟩
      · cases z
      · exact R.inj.oneD j k ks ls q1 q2
theorem RepS.fresh {i : Nat} {p : Addr} {ds : List PyData} {xs : List V} (R : RepS K H0 G₀ G H σ ρ) (h : H p = none) (r : RepAll K G xs ds) : RepS K H0 G₀ G (upd H p (.lst xs)) (σ.set i (some (.ref p))) (ρ.set i (.lst ds)) := by
  have R' := R.more (Grow.side (o := .lst xs) R.sub h)
  refine ⟨R'.grow, by simp [R.len], fun j o e h1 h2 => ?_, ⟨fun j k a es fs hjk h1 h2 h3 h4 => ?_, fun j k b a' es dss q1 q2 q3 q4 => ?_, fun j k dss ess q1 q2 => ?_, fun j k ks ls q1 q2 => ?_⟩, R'.tab⟩
  · rcases set_get h1 with ⟨rfl, rfl, _⟩ | ⟨n, h1⟩
    · rcases set_get h2 with ⟨_, rfl, _⟩ | ⟨n, _⟩
      · exact ⟨p, xs, rfl, upd_same, R.sub.free h, R.grow.hh.free h, r⟩
      · exact absurd rfl n
    · rcases set_get h2 with ⟨z, _⟩ | ⟨_, h2⟩
      · exact absurd z n
      · exact R'.ent j o e h1 h2
  · have old : ∀ j es, j ≠ i → σ[j]? = some (some (.ref p)) → ρ[j]? = some (.lst es) → False := fun j es _ q1 q2 => by
      obtain ⟨b, ys, e, g1, _⟩ := R.own q2
      rw [q1] at e; cases e
      rw [h] at g1; cases g1
    rcases set_get h2 with ⟨rfl, _, _⟩ | ⟨n2, h2⟩
    · rcases set_get h1 with ⟨_, z, _⟩ | ⟨n, _⟩
      · cases z
        rcases set_get h4 with ⟨z, _, _⟩ | ⟨n4, h4⟩
        · exact hjk z.symm
        · rw [List.getElem?_set_ne (Ne.symm n4)] at h3
          exact old k fs n4 h3 h4
      · exact absurd rfl n
    · rw [List.getElem?_set_ne (Ne.symm n2)] at h1
      rcases set_get h4 with ⟨zk, _, _⟩ | ⟨n4, h4⟩
      · subst zk
        rcases set_get h3 with ⟨_, z, _⟩ | ⟨n, _⟩
        · cases z; exact old j es n2 h1 ‹ρ[j]? = some (Ent.lst es)›
        · exact absurd rfl n
      · rw [List.getElem?_set_ne (Ne.symm n4)] at h3
        exact R.inj.two j k a es fs hjk h1 h2 h3 h4
  · rcases set_get q4 with ⟨_, z, _⟩ | ⟨n4, q4⟩
    · cases z
    · rw [List.getElem?_set_ne (Ne.symm n4)] at q3
      obtain ⟨a1, bs, z, g1, g2, g3, g4, g5, rv⟩ := R.ent k _ _ q3 q4
      have z' : a' = a1 := by cases z; rfl
      subst z'
      have pa : a' ≠ p := ne_of_none g1 h
      have pb : V.ref p ∉ bs.map V.ref := fun z => by
        obtain ⟨c, hc, e⟩ := List.mem_map.mp z
        cases e
        obtain ⟨dd, ⟨xs', x1, _⟩⟩ := paired_in rv hc
        rw [h] at x1; cases x1
      rcases set_get q2 with ⟨rfl, _, _⟩ | ⟨n2, q2⟩
      · rcases set_get q1 with ⟨_, z, _⟩ | ⟨n, _⟩
        · cases z
          exact ⟨Ne.symm pa, fun vs e => by rw [upd_ne pa, g1] at e; cases e; exact pb⟩
        · exact absurd rfl n
      · rw [List.getElem?_set_ne (Ne.symm n2)] at q1
        obtain ⟨m1, m2⟩ := R.inj.mix j k b a' es dss q1 q2 q3 q4
        exact ⟨m1, fun vs e => m2 vs (by rw [upd_ne pa] at e; exact e)⟩
  · rcases set_get q1 with ⟨_, z, _⟩ | ⟨_, q1⟩
    · cases z
    · rcases set_get q2 with ⟨_, z, _⟩ | ⟨_, q2⟩
      · cases z
      · exact R.inj.one j k dss ess q1 q2
  · rcases set_get q1 with ⟨_, z, _⟩ | ⟨_, q1⟩
    · cases z
    · rcases set_get q2 with ⟨_, z, _⟩ | ⟨_, q2⟩
      · cases z
      · exact R.inj.oneD j k ks ls q1 q2
theorem RepS.ownD {i : Nat} {kvs : List (Key × PyData)} (R : RepS K H0 G₀ G H σ ρ) (h : ρ[i]? = some (.dct kvs)) : ∃ a vs, σ[i]? = some (some (.ref a)) ∧ H a = some (.dK vs) ∧ G a = none ∧ H0 a = none ∧ DctOk K G vs kvs := by
  obtain ⟨o, e, a, vs, rfl, r⟩ := R.at h
  exact ⟨a, vs, e, r⟩
theorem RepS.freezeD {i : Nat} {kvs : List (Key × PyData)} (R : RepS K H0 G₀ G H σ ρ) (h : ρ[i]? = some (.dct kvs)) : ∃ G', Same G G' ∧ RepS K H0 G₀ G' H σ (ρ.set i (.val (.dict (kvs.map fun p => (keyD p.1, p.2))))) := by
  obtain ⟨a, vs, e, h1, h2, h3, r⟩ := R.ownD h
  have gg : Same G (upd G a (.dK vs)) := same_upd h2
  refine ⟨upd G a (.dK vs), gg, ⟨⟨R.grow.gg.trans gg, R.grow.hh, fun b o q => ?_, fun b q n => ?_, fun n => (R.grow.nt n).upd (by nofun)⟩, by simp [R.len], fun j o e' q1 q2 => ?_, R.inj.sub fun j e h1 h2 => ?_, R.tab.1, R.tab.2.upd (by nofun)⟩⟩
  · by_cases hb : b = a
    · subst hb; rw [upd_same] at q; cases q; exact h1
    · rw [upd_ne hb] at q; exact R.sub b o q
  · have nb : b ≠ a := fun z => n (by rw [z]; exact h3)
    rw [upd_ne nb]; exact R.grow.new b q n
  · rcases set_get q2 with ⟨rfl, rfl, _⟩ | ⟨nj, q2⟩
    · rw [e] at q1; cases q1
      refine ⟨.ref a, rfl, .dict (kvs := vs) upd_same ?_ ?_⟩
      · rw [List.map_map]
        have := congrArg (List.map keyD) r.1
        rw [List.map_map, List.map_map] at this
        exact this.symm
      · rw [List.map_map]; exact r.2.mono gg
    · have E := R.ent j o e' q1 q2
      cases e' with
      | no => trivial
      | val d => obtain ⟨v, z, rv⟩ := E; exact ⟨v, z, rv.mono gg⟩
      | lst es =>
        obtain ⟨b, ys, z, g1, g2, g3, rv⟩ := E
        exact ⟨b, ys, z, g1, by rw [upd_ne (ne_of g1 h1 (by nofun))]; exact g2, g3, rv.mono gg⟩
      | exc c => exact E
      | nst dss =>
        obtain ⟨b, bs, z, g1, g2, g3, g4, g5, rv⟩ := E
        exact ⟨b, bs, z, g1, by rw [upd_ne (ne_of g1 h1 (by nofun))]; exact g2, g3, g4, g5, paired_mem rv fun c dd hc ⟨xs', x1, x2, x3, x4⟩ => ⟨xs', x1, by rw [upd_ne (ne_of x1 h1 (by nofun))]; exact x2, x3, x4.mono gg⟩⟩
      | dct ks => exact absurd (R.inj.oneD j i ks kvs q2 h) nj
  · rcases set_get h1 with ⟨_, rfl, _⟩ | ⟨n, h1⟩
    · cases h2
    · exact ⟨h1, rfl⟩
end
structure PD (X : Cx) (e : Expr) (ρ : List Ent) (d : PyData) : Prop where
  run : ∀ (H0 G₀ G : Hp) (pins : List (Addr × Obj)) (s : Shared) (σ : St) (H : Hp) (Q : VK), Inv X pins σ H s → RepS X.K H0 G₀ G H σ ρ → (∀ v G' H', Grow G H G' H' → Rep X.K G' v d → Q v H') →
    wpAny (model X.prog X.w) X.A (eval e X.env) (EP X pins σ Q) X.xe s
structure PAD (X : Cx) (es : List Expr) (ρ : List Ent) (ds : List PyData) : Prop where
  run : ∀ (H0 G₀ G : Hp) (pos : Pos) (pins : List (Addr × Obj)) (s : Shared) (σ : St) (H : Hp) (Q : List V → Hp → Prop), Inv X pins σ H s → RepS X.K H0 G₀ G H σ ρ → (∀ vs G' H', Grow G H G' H' → RepAll X.K G' vs ds → Q vs H') →
    wpAny (model X.prog X.w) X.A (spliced (backTo pos (starEach es X.env))) (AP X pins σ Q) X.xe s
noncomputable def tD (X : Cx) (ρ : List Ent) (d : PyData) : TE := fun σ H Q => ∃ H0 G₀ G, RepS X.K H0 G₀ G H σ ρ ∧ ∀ v G' H', Grow G H G' H' → Rep X.K G' v d → Q v H'
noncomputable def tTD (X : Cx) (ρ : List Ent) (b : Bool) : TT := fun σ H Q => ∃ H0 G₀ G, RepS X.K H0 G₀ G H σ ρ ∧ ∀ G' H', Grow G H G' H' → Q b H'
noncomputable def tAD (X : Cx) (ρ : List Ent) (ds : List PyData) : TA := fun σ H Q => ∃ H0 G₀ G, RepS X.K H0 G₀ G H σ ρ ∧ ∀ vs G' H', Grow G H G' H' → RepAll X.K G' vs ds → Q vs H'
section
variable {X : Cx} {e a b c : Expr} {es : List Expr} {ρ : List Ent} {d da db dc : PyData} {ds : List PyData} {pos p : Pos}
theorem PD.pe (h : PD X e ρ d) : PE X e (tD X ρ d) := fun pins s σ H Q I ⟨H0, G₀, G, R, k⟩ => h.run H0 G₀ G pins s σ H Q I R k
theorem PAD.pa (h : PAD X es ρ ds) : PA X es (tAD X ρ ds) := fun pos pins s σ H Q I ⟨H0, G₀, G, R, k⟩ => h.run H0 G₀ G pos pins s σ H Q I R k
theorem PD.of {t : TE} (h : PE X e t) (k : ∀ H0 G₀ G σ H Q, RepS X.K H0 G₀ G H σ ρ → (∀ v G' H', Grow G H G' H' → Rep X.K G' v d → Q v H') → t σ H Q) : PD X e ρ d :=
  ⟨fun H0 G₀ G pins s σ H Q I R q => h pins s σ H Q I (k H0 G₀ G σ H Q R q)⟩
theorem pd_int {i : Int} {j} : PD X (.Constant (.int i) j pos) ρ (.int i) := .of pe_int fun _ _ _ _ _ _ R q => q _ _ _ (.refl R.sub) (.int i)
theorem pd_str {x : Str} {j} : PD X (.Constant (.str x) j pos) ρ (.str x) := .of pe_str fun _ _ _ _ _ _ R q => q _ _ _ (.refl R.sub) (.str x)
theorem pd_bool {x : Bool} {j} : PD X (.Constant (.bool x) j pos) ρ (.bool x) := .of pe_bl fun _ _ _ _ _ _ R q => q _ _ _ (.refl R.sub) (.bool x)
theorem pd_none {j} : PD X (.Constant .none j pos) ρ .none := .of pe_non fun _ _ _ _ _ _ R q => q _ _ _ (.refl R.sub) .none
theorem pd_var (i : Nat) {x : Str} (h : ρ[i]? = some (.val d)) (hN : X.N[i]? = some x := by rfl) (hv : Vis X.env.scope x := by first | exact Or.inl rfl | exact Or.inr (Or.inl rfl) | exact Or.inr (Or.inr rfl)) (hd : (x == ("__debug__" : Str)) = false := by decide)
    (hcd : (x == ("__classdict__" : Str)) = false := by decide) : PD X (.Name x pos) ρ d := .of (pe_var hN hv hd hcd) fun H0 G₀ G σ H Q R q => by
  obtain ⟨v, e, r⟩ := R.val h
  exact ⟨v, e, q v G H (.refl R.sub) r⟩
theorem pd_globI {x : Str} {i : Int} {t : Tok} (hg : Gl X x) (hm : X.mg x = some (.int i t)) (hd : (x == ("__debug__" : Str)) = false := by decide) : PD X (.Name x pos) ρ (.int i) :=
  .of (pe_glob (v := .int i) hg hm ⟨t, rfl⟩ hd) fun _ _ _ _ _ _ R q => q _ _ _ (.refl R.sub) (.int i)
end
end L2.L3
namespace L2.L3
open PySem PySem.Spec PyProof.Rows
section
variable {X : Cx} {e a b c : Expr} {es : List Expr} {ρ : List Ent} {d da db dc : PyData} {ds : List PyData} {pos p : Pos}
theorem pad_nil : PAD X [] ρ [] := ⟨fun H0 G₀ G pos pins s σ H Q I R q => pa_nil pos pins s σ H Q I (q [] G H (.refl R.sub) .nil)⟩
theorem pad_cons (ha : PD X e ρ d) (hr : PAD X es ρ ds) (hs : starEach (e :: es) X.env = (false, eval e X.env) :: starEach es X.env := by rfl) : PAD X (e :: es) ρ (d :: ds) := by
  refine ⟨?_⟩
  intro H0 G₀ G pos pins s σ H Q I R q
  exact pa_cons ha.pe hr.pa hs pos pins s σ H Q I ⟨H0, G₀, G, R, fun x G1 H1 g1 r1 => ⟨H0, G₀, G1, R.more g1, fun xs G2 H2 g2 r2 => q _ G2 H2 (g1.trans g2) (.cons (r1.mono g2.gg) r2)⟩⟩
structure CmpD (X : Cx) (op : CmpOp) (da db : PyData) (t : Bool) : Prop where
  ex : ∃ r : R2, OpR X (compareOp op) r ∧ ∀ x y G H Q, Same G H → Rep X.K G x da → Rep X.K G y db → Q (V.bl t) H → r x y H Q
theorem cmp_lt {i j : Int} : CmpD X .Lt (.int i) (.int j) (decide (i < j)) := ⟨_, op_lt, fun x y G H Q _ rx ry q => by cases rx; cases ry; exact ⟨_, _, rfl, rfl, q⟩⟩
theorem cmp_le {i j : Int} : CmpD X .LtE (.int i) (.int j) (decide (i ≤ j)) := ⟨_, op_le, fun x y G H Q _ rx ry q => by cases rx; cases ry; exact ⟨_, _, rfl, rfl, q⟩⟩
theorem cmp_gt {i j : Int} : CmpD X .Gt (.int i) (.int j) (decide (j < i)) := ⟨_, op_gt, fun x y G H Q _ rx ry q => by cases rx; cases ry; exact ⟨_, _, rfl, rfl, q⟩⟩
noncomputable def rEqD (X : Cx) (da db : PyData) (neg : Bool) : R2 := fun x y H Q => Rep X.K H x da ∧ Rep X.K H y db ∧ SeqAt.shaped da = true ∧ SeqAt.shaped db = true ∧ Q (.bl (if neg then !PyData.eqv da db else PyData.eqv da db)) H
theorem op_eqD (hu : X.A.units + 64 < cLine) (da db : PyData) : OpR X (compareOp .Eq) (rEqD X da db false) := by
  intro pins s σ H x y v u Q I rx ry ⟨r1, r2, h1, h2, q⟩
  obtain ⟨as, w1⟩ := r1.reads I rx
  obtain ⟨bs, w2⟩ := r2.reads I ry
  exact eq_dataH w1 w2 h1 h2 hu ⟨.bl _, H, I, rfl, q⟩
theorem op_neD (hu : X.A.units + 64 < cLine) (da db : PyData) : OpR X (compareOp .NotEq) (rEqD X da db true) := by
  intro pins s σ H x y v u Q I rx ry ⟨r1, r2, h1, h2, q⟩
  obtain ⟨as, w1⟩ := r1.reads I rx
  obtain ⟨bs, w2⟩ := r2.reads I ry
  exact ne_dataH w1 w2 h1 h2 hu ⟨.bl _, H, I, rfl, q⟩
theorem cmp_eq (hu : X.A.units + 64 < cLine) (h1 : SeqAt.shaped da = true) (h2 : SeqAt.shaped db = true) : CmpD X .Eq da db (PyData.eqv da db) :=
  ⟨_, op_eqD hu da db, fun x y G H Q s rx ry q => ⟨rx.mono s, ry.mono s, h1, h2, q⟩⟩
theorem cmp_ne (hu : X.A.units + 64 < cLine) (h1 : SeqAt.shaped da = true) (h2 : SeqAt.shaped db = true) : CmpD X .NotEq da db (!PyData.eqv da db) :=
  ⟨_, op_neD hu da db, fun x y G H Q s rx ry q => ⟨rx.mono s, ry.mono s, h1, h2, q⟩⟩
variable {rest : List Expr}
theorem atI_rep {K : PySem.W.Frag} {G : Hp} {xs : List V} {ds : List PyData} {i : Int} {d : PyData} (r : RepAll K G xs ds) (h : atI ds i = some d) : ∃ v, atI xs i = some v ∧ Rep K G v d := by
  unfold atI at h ⊢
  rw [r.length]
  cases e : ixN ds.length i with
  | none => rw [e] at h; cases h
  | some j =>
    rw [e] at h
    exact r.get h
noncomputable def spD (K : PySem.W.Frag) (F : List PyData → PyData → Prop) : Sp := fun vs H Q _ => ∃ G ds d, (Same G H ∧ Tabs K G H) ∧ RepAll K G vs ds ∧ F ds d ∧ ∀ v G' H', Grow G H G' H' → Rep K G' v d → Q v H'
end
end L2.L3
namespace L2.L3
open PySem PySem.Spec PyProof.Rows
noncomputable def Walk (K : PySem.W.Frag) (J : It) (G : Hp) (ds : List PyData) : Prop :=
  ∀ (i : Nat) (G' H' : Hp), Same G G' → Same G' H' → (∀ d, ds[i]? = some d → J.go i H' ∧ ∀ x H2, J.yld i H' x H2 → ∃ G2, Grow G' H' G2 H2 ∧ Rep K G2 x d) ∧ (ds.length ≤ i → J.stop i H')
noncomputable def tID (K : PySem.W.Frag) (ρ : List Ent) (ds : List PyData) : TI := fun σ H R => ∃ H0 G₀ G, RepS K H0 G₀ G H σ ρ ∧ ∀ J G' H', Grow G H G' H' → Walk K J G' ds → R J H'
structure PID (X : Cx) (tg iter : Expr) (ρ : List Ent) (ds : List PyData) : Prop where
  run : PI X tg iter (tID X.K ρ ds)
theorem walk_list {K : PySem.W.Frag} {G : Hp} {a : Addr} {xs : List V} {ds : List PyData} (hq : SqL K G a xs) (r : RepAll K G xs ds) : Walk K (Itl K a) G ds := by
  intro i G' H' s1 s2
  refine ⟨fun d e => ?_, fun hl => ⟨xs, (s1.trans s2).seq hq, by rw [r.length]; exact hl⟩⟩
  obtain ⟨v, ev, rv⟩ := r.get e
  refine ⟨⟨xs, v, (s1.trans s2).seq hq, ev⟩, fun x H2 ⟨e2, y⟩ => ?_⟩
  subst e2
  have z := y xs ((s1.trans s2).seq hq)
  rw [ev] at z
  cases z
  exact ⟨G', .refl s2, rv.mono s1⟩
theorem walk_tup {K : PySem.W.Frag} {G : Hp} {a : Addr} {xs : List V} {ds : List PyData} (hq : SqT K G a xs) (r : RepAll K G xs ds) : Walk K (Itt K a) G ds := by
  intro i G' H' s1 s2
  refine ⟨fun d e => ?_, fun hl => ⟨xs, seqT (s1.trans s2) hq, by rw [r.length]; exact hl⟩⟩
  obtain ⟨v, ev, rv⟩ := r.get e
  refine ⟨⟨xs, v, seqT (s1.trans s2) hq, ev⟩, fun x H2 ⟨e2, y⟩ => ?_⟩
  subst e2
  have z := y xs (seqT (s1.trans s2) hq)
  rw [ev] at z
  cases z
  exact ⟨G', .refl s2, rv.mono s1⟩
noncomputable def rangeD (lo : Int) (n : Nat) : List PyData := (List.range n).map fun (k : Nat) => .int (lo + (k : Int))
theorem walk_rng {K : PySem.W.Frag} {G : Hp} (lo : Int) (n : Nat) : Walk K (Itr lo n) G (rangeD lo n) := by
  intro i G' H' s1 s2
  unfold rangeD
  refine ⟨fun d e => ?_, fun hl => by rw [List.length_map, List.length_range] at hl; exact hl⟩
  rw [List.getElem?_map] at e
  by_cases hi : i < n
  · rw [List.getElem?_range hi] at e
    cases e
    refine ⟨hi, fun x H2 ⟨e1, e2⟩ => ?_⟩
    subst e1 e2
    exact ⟨G', .refl s2, .int _⟩
  · rw [List.getElem?_eq_none (by simpa using hi)] at e
    cases e
section
variable {X : Cx} {tg iter a b : Expr} {ρ : List Ent} {ds : List PyData} {p pos : Pos}
theorem PI.imp {wi wi' : TI} (h : PI X tg iter wi) (k : ∀ σ H R, wi' σ H R → wi σ H R) : PI X tg iter wi' := fun pins s σ H R I w => h pins s σ H R I (k σ H R w)
theorem pid_list (h : PD X iter ρ (.list ds)) : PID X tg iter ρ ds := ⟨PI.imp (pi_list h.pe) fun σ H R ⟨H0, G₀, G, S, q⟩ => ⟨H0, G₀, G, S, fun v G1 H1 g1 r1 => by
  cases r1 with
  | list hq r => exact ⟨_, rfl, ⟨_, g1.sub.seq hq⟩, q _ _ _ g1 (walk_list hq r)⟩⟩⟩
theorem pid_tup (h : PD X iter ρ (.tuple ds)) : PID X tg iter ρ ds := ⟨PI.imp (pi_tup h.pe) fun σ H R ⟨H0, G₀, G, S, q⟩ => ⟨H0, G₀, G, S, fun v G1 H1 g1 r1 => by
  cases r1 with
  | tuple hq r => exact ⟨_, rfl, ⟨_, seqT g1.sub hq⟩, q _ _ _ g1 (walk_tup hq r)⟩⟩⟩
theorem pid_range1 {n : Int} (hm : X.mg "range" = none) (ha : PD X a ρ (.int n)) (h1 : -(2 ^ 62) ≤ n) (h2 : n < 2 ^ 62) (hs : starEach [a] X.env = [(false, eval a X.env)] := by rfl) (hs' : starEach [a] X.env = (false, eval a X.env) :: starEach [] X.env := by rfl) (hg : Gl X "range" := by rfl) :
    PID X tg (.Call (.Name "range" p) [a] [] pos) ρ (rangeD 0 n.toNat) :=
  ⟨PI.imp (pi_range1 hg hm (pad_cons ha pad_nil hs').pa hs) fun σ H R ⟨H0, G₀, G, S, q⟩ => ⟨H0, G₀, G, S, fun vs G1 H1 g1 r1 => by
    cases r1 with
    | cons r rr =>
      cases rr
      cases r
      exact ⟨n, rfl, h1, h2, q _ _ _ g1 (walk_rng 0 n.toNat)⟩⟩⟩
end
noncomputable def tGD (K : PySem.W.Frag) (ρ : List Ent) (d : PyData) (ρ' : List Ent) : TG := fun v σ H Q => ∃ H0 G₀ G, RepS K H0 G₀ G H σ ρ ∧ Rep K G v d ∧ ∀ σ', RepS K H0 G₀ G H σ' ρ' → Q σ' H
noncomputable def tGsD (K : PySem.W.Frag) (ρ : List Ent) (ds : List PyData) (ρ' : List Ent) : TGs := fun vs σ H Q => ∃ H0 G₀ G, RepS K H0 G₀ G H σ ρ ∧ RepAll K G vs ds ∧ ∀ σ', RepS K H0 G₀ G H σ' ρ' → Q σ' H
structure PGD (X : Cx) (tg : Expr) (ρ : List Ent) (d : PyData) (ρ' : List Ent) : Prop where
  run : PG X tg (tGD X.K ρ d ρ')
structure PGsD (X : Cx) (ts : List Expr) (ρ : List Ent) (ds : List PyData) (ρ' : List Ent) : Prop where
  run : PGs X ts (tGsD X.K ρ ds ρ')
section
variable {X : Cx} {e : Expr} {es : List Expr} {ρ ρ1 ρ2 : List Ent} {d : PyData} {ds : List PyData} {pos : Pos}
theorem pgd_name (i : Nat) {x : Str} (hN : X.N.Nodup) (hi : X.N[i]? = some x := by rfl) (hx : Loc X.env.scope x := by first | exact Or.inl rfl | exact Or.inr rfl) (hf : X.fn x = true ∨ X.env.scope.names.lookup x = some .local := by first | exact .inl rfl | exact .inr rfl) :
    PGD X (.Name x pos) ρ d (ρ.set i (.val d)) := ⟨fun pins s σ H v u Q I r ⟨H0, G₀, G, S, rv, q⟩ => pg_name hN hi hx hf pins s σ H v u Q I r (q _ (S.set rv))⟩
theorem pgsd_nil : PGsD X [] ρ [] ρ := ⟨fun pins s σ H vs us Q I r ⟨H0, G₀, G, S, rv, q⟩ => by
  cases rv
  exact pgs_nil pins s σ H [] us Q I r ⟨rfl, q σ S⟩⟩
theorem pgsd_cons (h1 : PGD X e ρ d ρ1) (h2 : PGsD X es ρ1 ds ρ2) (hs : (assignEach (e :: es) X.env).map (·.2) = assign e X.env :: (assignEach es X.env).map (·.2) := by rfl) : PGsD X (e :: es) ρ (d :: ds) ρ2 := ⟨fun pins s σ H vs us Q I r ⟨H0, G₀, G, S, rv, q⟩ => by
  cases rv with
  | cons r1 r2 => exact pgs_cons h1.run h2.run hs pins s σ H _ us Q I r ⟨_, _, rfl, H0, G₀, G, S, r1, fun σ' S' => ⟨H0, G₀, G, S', r2, q⟩⟩⟩
theorem pgd_tup {k : Nat} (hc : X.calm = true) (h : PGsD X es ρ ds ρ1) (hn : (assignEach es X.env).length = ds.length := by rfl) (hst : (assignEach es X.env).findIdx? (·.1) = none := by rfl) : PGD X (.Tuple es k pos) ρ (.tuple ds) ρ1 := ⟨fun pins s σ H v u Q I r ⟨H0, G₀, G, S, rv, q⟩ => by
  cases rv with
  | tuple hq rr => exact pg_tup hc h.run hn hst pins s σ H _ u Q I r ⟨_, _, rfl, seqT S.sub hq, rr.length, H0, G₀, G, S, rr, q⟩⟩
end
inductive Out where
  | nx (ρ : List Ent)
  | rt (d : PyData)
  | bk (ρ : List Ent)
  | ct (ρ : List Ent)
inductive Weak : List Ent → List Ent → Prop
  | nil : Weak [] []
  | keep {e : Ent} {a b : List Ent} : Weak a b → Weak (e :: a) (e :: b)
  | no {e : Ent} {a b : List Ent} : Weak a b → Weak (e :: a) (.no :: b)
theorem Weak.refl : ∀ ρ : List Ent, Weak ρ ρ
  | [] => .nil
  | _ :: r => .keep (Weak.refl r)
theorem Weak.at : ∀ {a b : List Ent} {i : Nat} {e : Ent}, Weak a b → b[i]? = some e → e = .no ∨ a[i]? = some e
  | _, _, _, _, .nil, h => by simp at h
  | _, _, 0, e, .keep _, h => .inr (by simpa using h)
  | _, _, 0, e, .no _, h => .inl (by simpa using h.symm)
  | _, _, i + 1, e, .keep w, h => by
    rcases Weak.at (i := i) w (by simpa using h) with z | z
    · exact .inl z
    · exact .inr (by simpa using z)
  | _, _, i + 1, e, .no w, h => by
    rcases Weak.at (i := i) w (by simpa using h) with z | z
    · exact .inl z
    · exact .inr (by simpa using z)
theorem Weak.length : ∀ {a b : List Ent}, Weak a b → a.length = b.length
  | _, _, .nil => rfl
  | _, _, .keep w => by simp [Weak.length w]
  | _, _, .no w => by simp [Weak.length w]
theorem RepS.weak {K : PySem.W.Frag} {H0 G₀ G H : Hp} {σ : St} {ρ ρ' : List Ent} (R : RepS K H0 G₀ G H σ ρ) (w : Weak ρ ρ') : RepS K H0 G₀ G H σ ρ' := by
  refine ⟨R.grow, R.len.trans w.length, fun i o e h1 h2 => ?_, R.inj.sub fun i e h1 h2 => ?_, R.tab⟩
  · rcases w.at h2 with z | z
    · subst z; trivial
    · exact R.ent i o e h1 z
  · rcases w.at h1 with z | z
    · subst z; cases h2
    · exact ⟨z, rfl⟩
section
variable {X : Cx} {st : Stmt} {rest : List Stmt} {ρ ρ1 ρ2 : List Ent} {o : Out} {e c : Expr} {d : PyData} {ds : List PyData} {pos : Pos}
end
noncomputable def capE (cap : List (Option Nat)) (ρ : List Ent) : List Ent := cap.map fun o => match o with
  | some j => (match ρ[j]? with | some (.val d) => .val d | _ => .no)
  | none => .no
theorem capE_free (cap : List (Option Nat)) (ρ : List Ent) : ∀ (i : Nat) (e : Ent), (capE cap ρ)[i]? = some e → isOwn e = false := fun i e h => by
  unfold capE at h
  rw [List.getElem?_map] at h
  cases hc : cap[i]? with
  | none => rw [hc] at h; cases h
  | some c =>
    rw [hc] at h
    cases c with
    | none => cases h; rfl
    | some j =>
      have h2 : (match ρ[j]? with | some (Ent.val d) => Ent.val d | _ => Ent.no) = e := Option.some.inj h
      cases hr : ρ[j]? with
      | none => rw [hr] at h2; subst h2; rfl
      | some q => rw [hr] at h2; cases q <;> (subst h2; rfl)
theorem RepS.cap {K : PySem.W.Frag} {H0 G₀ G H : Hp} {σ : St} {ρ : List Ent} (R : RepS K H0 G₀ G H σ ρ) (cap : List (Option Nat)) : RepS K H G G H (capSt cap σ) (capE cap ρ) := by
  refine ⟨.refl R.sub, by simp [capSt, capE], fun i o e h1 h2 => ?_, Inj.free (capE_free cap ρ), R.tab⟩
  · unfold capSt at h1
    unfold capE at h2
    rw [List.getElem?_map] at h1 h2
    cases hc : cap[i]? with
    | none => rw [hc] at h1; cases h1
    | some c =>
      rw [hc] at h1 h2
      cases c with
      | none => cases h2; trivial
      | some j =>
        have h1 : (σ[j]?).getD none = o := Option.some.inj h1
        have h2 : (match ρ[j]? with | some (Ent.val d) => Ent.val d | _ => Ent.no) = e := Option.some.inj h2
        cases hr : ρ[j]? with
        | none => rw [hr] at h2; subst h2; trivial
        | some q =>
          rw [hr] at h2
          cases q with
          | no => subst h2; trivial
          | lst ds => subst h2; trivial
          | exc c => subst h2; trivial
          | nst dss => subst h2; trivial
          | dct kvs => subst h2; trivial
          | val d =>
            subst h2
            obtain ⟨v, e, r⟩ := R.val hr
            rw [e] at h1
            subst h1
            exact ⟨v, rfl, r⟩
section
variable {X : Cx} {elt iter tg : Expr} {ifs : List Expr} {scope : Scope} {pos spos : Pos} {N' : List Str} {cap : List (Option Nat)} {ρ ρb : List Ent} {α : Type} {xs : List α} {φ f : α → PyData} {cnd : α → Bool} {ρx : α → List Ent}
structure PTsD (X : Cx) (ifs : List Expr) (ρ : List Ent) (b : Bool) : Prop where
  run : PTs X ifs (tTD X ρ b)
theorem ptsd_nil : PTsD X [] ρ true := ⟨fun pins s σ H Q I ⟨H0, G₀, G, R, q⟩ => pts_nil pins s σ H Q I (q G H (.refl R.sub))⟩
noncomputable def gU (K : PySem.W.Frag) (xs : List α) (φ : α → PyData) (ρb : List Ent) (ρx : α → List Ent) : TG := fun v σ H Q => ∃ x ∈ xs, tGD K ρb (φ x) (ρx x) v σ H Q
noncomputable def tU (K : PySem.W.Frag) (xs : List α) (ρx : α → List Ent) (cnd : α → Bool) : TT := fun σ H Q => ∃ x ∈ xs, ∃ H0 G₀ G, RepS K H0 G₀ G H σ (ρx x) ∧ ∀ G' H', Grow G H G' H' → Q (cnd x) H'
noncomputable def eU (K : PySem.W.Frag) (xs : List α) (ρx : α → List Ent) (cnd : α → Bool) (f : α → PyData) : TE := fun σ H Q => ∃ x ∈ xs, cnd x = true ∧ ∃ H0 G₀ G, RepS K H0 G₀ G H σ (ρx x) ∧ ∀ v G' H', Grow G H G' H' → Rep K G' v (f x) → Q v H'
theorem tcomp_new {K : PySem.W.Frag} {J : It} {H0 G₀ G H : Hp} {σ : St} {Q : VK} (R : RepS K H0 G₀ G H σ ρ) (wk : Walk K J G (xs.map φ)) (hb : Weak (capE cap ρ) ρb) (hw : ∀ x ∈ xs, Weak (ρx x) ρb) (hz : xs.length ≤ sizeLine)
    (q : ∀ D ys G' H', Grow G H G' H' → G' D = some (.lst ys) → H D = none → RepAll K G' ys ((xs.filter cnd).map f) → Q (.ref D) H') : TComp J (gU K xs φ ρb ρx) (tU K xs ρx cnd) (eU K xs ρx cnd f) (capSt cap σ) H Q := by
  refine ⟨fun D i m ys σ' H' => m = xs.length - i ∧ i ≤ xs.length ∧ ∃ G', RepS K H G G' H' σ' ρb ∧ G' D = none ∧ RepAll K G' ys (((xs.take i).filter cnd).map f), fun D hD => ⟨⟨xs.length, by simp, Nat.zero_le _, G, ?_, R.sub.free hD, by simpa using RepAll.nil⟩, ?_⟩⟩
  · exact ((R.cap cap).more (.side R.sub hD)).weak hb
  · rintro i m ys σ1 H1 ⟨rfl, hi, G1, R1, hG1, ra⟩ hD1
    obtain ⟨wgo, wstop⟩ := wk i G1 H1 R1.grow.gg R1.sub
    by_cases hlt : i < xs.length
    · have hx : xs[i]? = some xs[i] := List.getElem?_eq_getElem hlt
      have hm : xs[i] ∈ xs := List.getElem_mem hlt
      obtain ⟨go, yl⟩ := wgo (φ xs[i]) (by rw [List.getElem?_map, hx]; rfl)
      have tk : (xs.take (i + 1)).filter cnd = (xs.take i).filter cnd ++ (if cnd xs[i] = true then [xs[i]] else []) := by
        rw [List.take_succ, hx, List.filter_append]
        cases hcx : cnd xs[i] <;> simp [hcx]
      refine .inr ⟨go, fun x H2 y => ?_⟩
      obtain ⟨G2, g2, rx⟩ := yl x H2 y
      refine ⟨xs[i], hm, H, G, G2, R1.more g2, rx, fun σ3 R3 => ⟨xs[i], hm, H, G, G2, R3, fun G4 H4 g4 => ?_⟩⟩
      have g14 := g2.trans g4
      have hD4 : H4 D = some (.lst ys) := g14.hh.lst hD1
      have hG4 : G4 D = none := g14.new D hG1 (by rw [hD1]; simp)
      dsimp only
      by_cases hcx : cnd xs[i] = true
      · rw [if_pos hcx]
        refine ⟨xs[i], hm, hcx, H, G, G4, R3.more g4, fun v G5 H5 g5 rv => ?_⟩
        have hD5 : H5 D = some (.lst ys) := g5.hh.lst hD4
        have hG5 : G5 D = none := g5.new D hG4 (by rw [hD4]; simp)
        have hlen : ys.length < sizeLine := by
          have h1 := ra.length
          have h2 : (((xs.take i).filter cnd).map f).length ≤ i := by
            rw [List.length_map]
            exact Nat.le_trans (List.length_filter_le _ _) (by rw [List.length_take]; omega)
          omega
        refine ⟨hD5, hlen, xs.length - (i + 1), by omega, rfl, hlt, G5, ?_, hG5, ?_⟩
        · have R5 : RepS K H G G5 H5 σ3 ρb := ((R3.more g4).more g5).weak (hw _ hm)
          -- the list at D has one item more; nothing else speaks of D
          have noOwn : ∀ (j : Nat) (e : Ent), ρb[j]? = some e → isOwn e = false := fun j e h2 => by
            rcases hb.at h2 with z' | z'
            · rw [z']; rfl
            · exact capE_free cap ρ j e z'
          have hHD : H D = none := hD
          refine ⟨⟨R5.grow.gg, R5.grow.hh.wr hHD hD5, fun b o e => ?_, R5.grow.new, R5.grow.nt⟩, R5.len, fun j o e h1 h2 => ?_, Inj.free (fun j e h2 => noOwn j e h2), R5.tab.wr hD5⟩
          · rw [upd_ne (ne_of_none e hG5)]; exact R5.sub b o e
          · have E := R5.ent j o e h1 h2
            cases e with
            | no => trivial
            | val d => exact E
            | exc c => obtain ⟨b, C, z, g1, g2⟩ := E; exact ⟨b, C, z, g1, by rw [upd_ne (ne_of g2 hD5 (by unfold xcO; nofun))]; exact g2⟩
            | lst es => have := noOwn j _ h2; cases this
            | nst dss => have := noOwn j _ h2; cases this
            | dct kvs => have := noOwn j _ h2; cases this
        · rw [tk, if_pos hcx, List.map_append]
          exact (ra.mono ((g14.trans g5).gg)).append (.cons rv .nil)
      · rw [if_neg hcx]
        refine ⟨hD4, xs.length - (i + 1), by omega, rfl, hlt, G4, (R3.more g4).weak (hw _ hm), hG4, ?_⟩
        rw [tk, if_neg hcx, List.append_nil]
        exact ra.mono g14.gg
    · refine .inl ⟨wstop (by rw [List.length_map]; omega), ?_⟩
      have hi' : i = xs.length := by omega
      subst hi'
      rw [List.take_length] at ra
      have sD : Same G1 (upd G1 D (.lst ys)) := same_upd hG1
      refine q D ys (upd G1 D (.lst ys)) H1 ⟨R1.grow.gg.trans sD, R1.grow.hh, fun b o e => ?_, fun b e n => ?_, fun n => (R1.grow.nt n).upd (by nofun)⟩ upd_same hD (ra.mono sD)
      · by_cases hbD : b = D
        · subst hbD; rw [upd_same] at e; cases e; exact hD1
        · rw [upd_ne hbD] at e; exact R1.sub b o e
      · rw [upd_ne (fun z => n (by rw [z]; exact hD))]
        exact R1.grow.new b e n
theorem tcomp_of {K : PySem.W.Frag} {J : It} {H0 G₀ G H : Hp} {σ : St} {Q : VK} (R : RepS K H0 G₀ G H σ ρ) (wk : Walk K J G (xs.map φ)) (hb : Weak (capE cap ρ) ρb) (hw : ∀ x ∈ xs, Weak (ρx x) ρb) (hz : xs.length ≤ sizeLine)
    (q : ∀ v G' H', Grow G H G' H' → Rep K G' v (.list ((xs.filter cnd).map f)) → Q v H') : TComp J (gU K xs φ ρb ρx) (tU K xs ρx cnd) (eU K xs ρx cnd f) (capSt cap σ) H Q :=
  tcomp_new R wk hb hw hz fun D ys G' H' g h _ ra => q _ G' H' g (.list (.of h) ra)
theorem pd_comp (hc : X.calm = true) (B : Blk X scope N' cap) (hi : PID X tg iter ρ (xs.map φ)) (hb : Weak (capE cap ρ) ρb) (hw : ∀ x ∈ xs, Weak (ρx x) ρb) (hz : xs.length ≤ sizeLine)
    (hg : ∀ C s₃ H₃ fp x, x ∈ xs → PGD (blkCx X scope N' C s₃ H₃ fp) tg ρb (φ x) (ρx x))
    (ht : ∀ C s₃ H₃ fp x, x ∈ xs → PTsD (blkCx X scope N' C s₃ H₃ fp) ifs (ρx x) (cnd x))
    (he : ∀ C s₃ H₃ fp x, x ∈ xs → cnd x = true → PD (blkCx X scope N' C s₃ H₃ fp) elt (ρx x) (f x))
    (hs : ∀ x, foldedSetIterable iter X.env x = pure x := by intro _; rfl) : PD X (.ListComp elt [⟨tg, iter, ifs, 0⟩] scope pos) ρ (.list ((xs.filter cnd).map f)) :=
  .of (pe_comp (g := gU X.K xs φ ρb ρx) (tc := tU X.K xs ρx cnd) (te := eU X.K xs ρx cnd f) hc B hi.run (fun C s₃ H₃ fp pins s σ H v u Q I r ⟨x, hx, q⟩ => (hg C s₃ H₃ fp x hx).run pins s σ H v u Q I r q)
    (fun C s₃ H₃ fp pins s σ H Q I ⟨x, hx, q⟩ => (ht C s₃ H₃ fp x hx).run pins s σ H Q I q) (fun C s₃ H₃ fp pins s σ H Q I ⟨x, hx, hcx, H0, G₀, G, R, q⟩ => (he C s₃ H₃ fp x hx hcx).run H0 G₀ G pins s σ H Q I R q) hs)
    fun H0 G₀ G σ H Q R q => ⟨H0, G₀, G, R, fun J G' H' g wk => tcomp_of (R.more g) wk hb hw hz fun v G2 H2 g2 r2 => q v G2 H2 (g.trans g2) r2⟩
end
noncomputable def startE (N : List Str) (ds : List PyData) : List Ent := ds.map .val ++ List.replicate (N.length - ds.length) .no
theorem startE_ok {K : PySem.W.Frag} {G H : Hp} {N : List Str} {vs : List V} {ds : List PyData} (s : Same G H ∧ Tabs K G H) (r : RepAll K G vs ds) : RepS K H G G H (start N vs) (startE N ds) := by
  have hl := r.length
  refine ⟨.refl s.1, by simp [start, startE, hl], fun i o e h1 h2 => ?_, Inj.free (fun i e h2 => ?_), s.2⟩
  · unfold startE at h2
    unfold start at h1
    by_cases hi : i < ds.length
    · rw [List.getElem?_append_left (by simpa using hi), List.getElem?_map] at h2
      rw [List.getElem?_append_left (by simp; omega), List.getElem?_map] at h1
      rw [List.getElem?_eq_getElem hi] at h2
      obtain ⟨v, ev, rv⟩ := r.get (List.getElem?_eq_getElem hi)
      rw [ev] at h1
      cases h1; cases h2
      exact ⟨v, rfl, rv⟩
    · rw [List.getElem?_append_right (by simpa using hi), List.getElem?_replicate] at h2
      split at h2
      · cases h2; trivial
      · cases h2
  · unfold startE at h2
    by_cases hi : i < ds.length
    · rw [List.getElem?_append_left (by simpa using hi), List.getElem?_map, List.getElem?_eq_getElem hi] at h2
      cases h2; rfl
    · rw [List.getElem?_append_right (by simpa using hi), List.getElem?_replicate] at h2
      split at h2
      · cases h2; rfl
      · cases h2
section
variable {P : Program} {w : World} {K : PySem.W.Frag} {mg : Str → Option Value} {base : Heap}
noncomputable abbrev fcx (P : Program) (w : World) (K : PySem.W.Frag) (mg : Str → Option Value) (base : Heap) (N : List Str) (qual : Str) (scope : Scope) (f : Addr) (cd : Value) (A : Around) (outer : List Env) (s : Shared) (H : Hp) (E : XK) : Cx := (cxOf CX0 P w K mg base N qual scope f cd A outer s H E).nox
end
end L2.L3
namespace L2.L3
open PySem PySem.Spec PyProof.Rows
section
variable {prog : Program} {w : World} {A : Around} {E : Value → Shared → Prop} {s : Shared} {l : Addr} {us : List Value} {ns : List Int} {Q : Value → Shared → Prop}
end
section
variable {X : Cx}
variable {e a b c : Expr} {es : List Expr} {ρ : List Ent} {d : PyData} {ds : List PyData} {pos p : Pos}
noncomputable def maxI : List Int → Int
  | [] => 0
  | a :: r => r.foldl max a
noncomputable def minI : List Int → Int
  | [] => 0
  | a :: r => r.foldl min a
noncomputable def rCatS (K : PySem.W.Frag) : R2 := fun x y H Q => ∃ l b xs zs, x = .ref l ∧ y = .ref b ∧ SqL K H l xs ∧ SqL K H b zs ∧ xs.length + zs.length ≤ sizeLine ∧ ∀ p, H p = none → Q (.ref p) (upd H p (.lst (xs ++ zs)))
end
end L2.L3
namespace L2.L3
open PySem PySem.Spec PyProof.Rows
noncomputable def blkOk (so : Scope) (NN : List Str) (scope : Scope) (N' : List Str) (cap : List (Option Nat)) : Bool :=
  decide (scope.kind = .function) && scope.names.all (fun y => decide (y.2 = .cell → scope.names.lookup y.1 = some .cell)) && scope.names.all (fun y => decide (y.2 = .local → scope.names.lookup y.1 = some .local))
    && scope.names.all (fun y => decide (y.2 = .free → so.names.lookup y.1 = some .cell))
    && (List.range cap.length).all (fun i => match cap[i]? with
      | some (some j) => (match N'[i]?, NN[j]? with | some x, some y => decide (x = y ∧ scope.names.lookup x = some .free) | _, _ => false)
      | _ => true)
    && decide (cap.length = N'.length) && decide N'.Nodup
theorem blk_of {X : Cx} {scope so : Scope} {N' NN : List Str} {cap : List (Option Nat)} (hs : X.env.scope = so) (hN : X.N = NN) (h : blkOk so NN scope N' cap = true) : Blk X scope N' cap := by
  unfold blkOk at h
  simp only [Bool.and_eq_true, decide_eq_true_eq, List.all_eq_true] at h
  obtain ⟨⟨⟨⟨⟨⟨h1, h2⟩, h3⟩, h4⟩, h5⟩, h6⟩, h7⟩ := h
  refine ⟨h1, h2, h3, fun y hy hk => ?_, fun i j hij => ?_, h6, h7⟩
  · show X.env.scope.names.lookup y.1 = some .cell
    rw [hs]
    exact h4 y hy hk
  · have hi : i < cap.length := (List.getElem?_eq_some_iff.mp hij).1
    have q := h5 i (List.mem_range.mpr hi)
    rw [hij] at q
    dsimp only at q
    cases e1 : N'[i]? with
    | none => rw [e1] at q; cases q
    | some x =>
      rw [e1] at q
      cases e2 : NN[j]? with
      | none => rw [e2] at q; cases q
      | some y =>
        rw [e2] at q
        have q' : x = y ∧ scope.names.lookup x = some .free := of_decide_eq_true q
        exact ⟨x, rfl, by rw [hN, e2, q'.1], q'.2⟩
section
variable {X : Cx} {e a b c : Expr} {es : List Expr} {ρ : List Ent} {d da db dc : PyData} {ds : List PyData} {pos p : Pos}
end
noncomputable abbrev Mt := Str × Int × Int
noncomputable abbrev dM (m : Mt) : PyData := .tuple [.str m.1, .int m.2.1, .int m.2.2]
noncomputable abbrev dS (s : List Mt) : PyData := .tuple (s.map dM)
end L2.L3
namespace L2.L3
open PySem PySem.Spec PyProof.Rows
section
variable {prog : Program} {w : World} {A : Around} {R : Result → Shared → Prop} {I S : Addr} {fp wr : List Addr} {n : Nat} {P : Nat → Value → Prop} {St : Nat → Heap → Prop} {kw : List (Str × Value)}
end
end L2.L3
namespace L2.L3
open PySem PySem.Spec PyProof.Rows
section
variable {prog : Program} {w : World} {A : Around} {E : Value → Shared → Prop} {s : Shared} {l : Addr} {us : List Value} {ns : List Int} {Q : Value → Shared → Prop}
end
end L2.L3
namespace L2.L3
open PySem PySem.Spec PyProof.Rows
section
variable {X : Cx} {a b : Expr} {ρ : List Ent} {db : PyData} {pos p kp : Pos}
end
end L2.L3
namespace L2.L3
open PySem PySem.Spec PyProof.Rows
section
variable {X : Cx}
theorem op_catS : OpR X (binaryOp .Add) (rCatS X.K) := by
  intro pins s σ H x y v u Q I rx ry ⟨l, b, xs, zs, e1, e2, h1, h2, hz, q⟩
  subst e1 e2
  cases rx
  cases ry
  obtain ⟨its, r1, p1, _⟩ := I.list h1
  obtain ⟨its2, r2, p2, _⟩ := I.list h2
  obtain ⟨⟨c1, d1, t1, sl1⟩, n1, g1, k1, _, m1⟩ := p1
  obtain ⟨⟨c2, d2, t2, sl2⟩, n2, g2, k2, _, m2⟩ := p2
  dsimp only at k1 m1 k2 m2
  subst k1 m1 k2 m2
  have hz' : its.toArray.size + its2.toArray.size ≤ sizeLine := by rw [List.size_toArray, List.size_toArray, ← r1.length, ← r2.length]; exact hz
  refine concat_meets ⟨_, g1, rfl⟩ ⟨_, g2, rfl⟩ noFill_list_add seq_list_add F.slot_list_add F.entry_list_add (F.args_list_add_2 _ _) (list_addW l b _ _ n1 n2 d1 d2 sl1 sl2 hz') ⟨g1, g2, ?_⟩
  have ea : its.toArray ++ its2.toArray = (its ++ its2).toArray := by simp
  rw [ea]
  exact ⟨.ref _, _, I.lnew (t' := s.toks) (r1.append r2) (by rw [List.length_append]; exact hz), rfl, q _ I.fresh⟩
noncomputable def rCatU (K : PySem.W.Frag) : R2 := fun x y H Q => ∃ l b xs zs, x = .ref l ∧ y = .ref b ∧ SqT K H l xs ∧ SqT K H b zs ∧ xs.length + zs.length ≤ sizeLine ∧
  (xs = [] → Q (.ref b) H) ∧ (xs ≠ [] → zs = [] → Q (.ref l) H) ∧ (xs ≠ [] → zs ≠ [] → ∀ p, H p = none → Q (.ref p) (upd H p (.tup (xs ++ zs))))
theorem op_catU : OpR X (binaryOp .Add) (rCatU X.K) := by
  intro pins s σ H x y v u Q I rx ry ⟨l, b, xs, zs, e1, e2, h1, h2, hz, q0, q1, q2⟩
  by_cases hx : xs = []
  · subst e1 e2
    cases rx
    cases ry
    obtain ⟨its, r1, p1, _⟩ := I.tuple h1
    obtain ⟨its2, r2, p2, _⟩ := I.tuple h2
    obtain ⟨⟨c1, d1, t1, sl1⟩, g1, k1, n1, m1⟩ := p1
    obtain ⟨⟨c2, d2, t2, sl2⟩, g2, k2, n2, m2⟩ := p2
    dsimp only at k1 m1 k2 m2
    subst k1 m1 k2 m2
    have hi : its = [] := by
      subst hx
      cases r1
      rfl
    refine concat_meets ⟨_, g1, rfl⟩ ⟨_, g2, rfl⟩ noFill_tuple_add seq_tuple_add F.slot_tuple_add F.entry_tuple_add (F.args_tuple_add_2 _ _) (tuple_addW0 l b _ _ n1 n2 d1 d2 sl1 sl2 (by rw [hi]; rfl)) ⟨g1, g2, ?_⟩
    exact ⟨.ref b, H, I, rfl, q0 hx⟩
  · exact op_catT pins s σ H x y v u Q I rx ry ⟨l, b, xs, zs, e1, e2, h1, h2, hx, hz, q1 hx, q2 hx⟩
variable {e a b c o : Expr} {es : List Expr} {ρ : List Ent} {d da db dc : PyData} {ds : List PyData} {pos p : Pos}
theorem pd_bm {T id : String} {name : Str} {r : V → List V → Hp → VK → Prop} {apos cpos : Pos} (pa : PlainAttrs T) (slot : Slot T name id) (hty : typeOf (.builtin id) = pure (.type "method_descriptor")) (hm : MtR X id r)
    (ho : PD X o ρ da) (ha : PAD X (e :: es) ρ ds) (ht : ∀ x G H, Same G H → Rep X.K G x da → tyV X.K T x H)
    (k : ∀ x vs G H Q, Same G H → Rep X.K G x da → RepAll X.K G vs ds → (∀ v G' H', Grow G H G' H' → Rep X.K G' v d → Q v H') → r x vs H Q)
    (hbase : attributeBase o name X.env (eval o X.env) = eval o X.env := by rfl)
    (hfew : ((backTo cpos (starEach (e :: es) X.env)).all (fun x => !x.1) && (backToKw cpos (keywordEach [] X.env)).all (fun x => x.1.isSome)
      && decide ((e :: es).length + ([] : List Keyword).length + (if ([] : List Keyword).isEmpty then 0 else 1) < 30)) = true := by rfl)
    (hline : (apos.endLine == cpos.line) = true := by rfl) (hs : starEach (e :: es) X.env = (false, eval e X.env) :: starEach es X.env := by rfl) (hplain : (backTo cpos (starEach es X.env)).any (·.1) = false := by rfl) :
    PD X (.Call (.Attribute o name apos) (e :: es) [] cpos) ρ d :=
  .of (pe_bm pa slot hty hm ho.pe ha.pa hbase hfew hline hs hplain) fun H0 G₀ G σ H Q R q => ⟨H0, G₀, G, R, fun x G1 H1 g1 r1 => ⟨ht x G1 H1 g1.sub r1, H0, G₀, G1, R.more g1, fun vs G2 H2 g2 r2 =>
    k x vs G2 H2 Q g2.sub (r1.mono g2.gg) r2 fun v G3 H3 g3 r3 => q v G3 H3 (g1.trans (g2.trans g3)) r3⟩⟩
theorem cmp_eqI {i j : Int} : CmpD X .Eq (.int i) (.int j) (decide (i = j)) := ⟨_, op_eq, fun x y G H Q _ rx ry q => by cases rx; cases ry; exact ⟨rfl, by simpa using q⟩⟩
theorem cmp_neI {i j : Int} : CmpD X .NotEq (.int i) (.int j) (!decide (i = j)) := ⟨_, op_ne, fun x y G H Q _ rx ry q => by cases rx; cases ry; exact ⟨rfl, by simpa using q⟩⟩
theorem cmp_eqS {i j : Str} : CmpD X .Eq (.str i) (.str j) (decide (i = j)) := ⟨_, op_eq, fun x y G H Q _ rx ry q => by cases rx; cases ry; exact ⟨rfl, by simpa using q⟩⟩
theorem cmp_neS {i j : Str} : CmpD X .NotEq (.str i) (.str j) (!decide (i = j)) := ⟨_, op_ne, fun x y G H Q _ rx ry q => by cases rx; cases ry; exact ⟨rfl, by simpa using q⟩⟩
theorem cmp_eqB {i j : Bool} : CmpD X .Eq (.bool i) (.bool j) (decide (i = j)) := ⟨_, op_eq, fun x y G H Q _ rx ry q => by cases rx; cases ry; exact ⟨rfl, by simpa using q⟩⟩
theorem cmp_neB {i j : Bool} : CmpD X .NotEq (.bool i) (.bool j) (!decide (i = j)) := ⟨_, op_ne, fun x y G H Q _ rx ry q => by cases rx; cases ry; exact ⟨rfl, by simpa using q⟩⟩
end
end L2.L3
namespace L2.L3
open PySem PySem.Spec PyProof.Rows
structure Callee (P : Program) (w : World) (K : PySem.W.Frag) (mg : Str → Option Value) (base : Heap) (x : Str) (k : Nat) (ps : List Str) (Fn : List PyData → PyData → Prop) : Prop where
  ex : ∃ f fd, mg x = some (.ref f) ∧ PySem.W.keepIn K (.ref f) = true ∧ Binds K fd ps [] ∧ FnOk P w K mg base CX0 k f fd ps (spD K Fn)
structure Def (K : PySem.W.Frag) (mg : Str → Option Value) (x : Str) (st : Stmt) : Prop where
  ex : ∃ f fd, Fun K x x st f fd ∧ mg x = some (.ref f)
theorem def_mk {K : PySem.W.Frag} {h : Heap} {mg : Str → Option Value} {x : Str} {st : Stmt} {f : Addr} {oc : Value} {od an : Option Addr} {sl : Array (Option Value)} {kV doc pm cdv ct : Value} (X : K.In h) (G : h.Ns mainGlobals mg)
    (a : PySem.W.nsIn K mainGlobals x = some (some (.ref f))) (l : K.lookup f = some ⟨oc, od, .func (PySem.W.fnOf x x (defArgs st) (defBody st) (defScope st) .none kV doc pm an cdv ct), sl⟩) (c : PySem.W.codeIn K cdv x = true) (k : PySem.W.keepIn K (.ref f) = true) :
    Def K mg x st := ⟨f, _, fun_mk l c k, PySem.W.mg_of X G a⟩
section
variable {P : Program} {w : World} {K : PySem.W.Frag} {mg : Str → Option Value} {base : Heap} {X : Cx} {e : Expr} {es : List Expr} {ρ : List Ent} {d : PyData} {ds : List PyData} {pos p : Pos} {x : Str} {k : Nat} {ps N : List Str} {Fn : List PyData → PyData → Prop}
end
theorem eqv_list (a b : List PyData) : PyData.eqv (.list a) (.list b) = PyData.eqvAll a b := by rw [PyData.eqv]
theorem eqv_tuple (a b : List PyData) : PyData.eqv (.tuple a) (.tuple b) = PyData.eqvAll a b := by rw [PyData.eqv]
theorem eqvAll_strs : ∀ a b : List Str, PyData.eqvAll (a.map .str) (b.map .str) = decide (a = b)
  | [], [] => by simp [PyData.eqvAll]
  | [], _ :: _ => by simp [PyData.eqvAll]
  | _ :: _, [] => by simp [PyData.eqvAll]
  | x :: a, y :: b => by
    have ih := eqvAll_strs a b
    simp only [List.map_cons, PyData.eqvAll, ih, PyData.eqv]
    by_cases h : x = y
    · subst h; by_cases h2 : a = b <;> simp [h2]
    · simp [h]
theorem eqv_dM (a b : Mt) : PyData.eqv (dM a) (dM b) = decide (a = b) := by
  obtain ⟨a1, a2, a3⟩ := a
  obtain ⟨b1, b2, b3⟩ := b
  simp only [dM, PyData.eqv, PyData.eqvAll]
  by_cases h1 : a1 = b1 <;> by_cases h2 : a2 = b2 <;> by_cases h3 : a3 = b3 <;> simp [h1, h2, h3]
theorem eqvAll_dM : ∀ a b : List Mt, PyData.eqvAll (a.map dM) (b.map dM) = decide (a = b)
  | [], [] => by simp [PyData.eqvAll]
  | [], _ :: _ => by simp [PyData.eqvAll]
  | _ :: _, [] => by simp [PyData.eqvAll]
  | x :: a, y :: b => by
    have ih := eqvAll_dM a b
    rw [List.map_cons, List.map_cons, PyData.eqvAll, ih, eqv_dM]
    by_cases h : x = y
    · subst h; by_cases h2 : a = b <;> simp [h2]
    · simp [h]
theorem canLayAll_of {ds : List PyData} (h : ∀ d ∈ ds, PyData.canLay0 d = true) : PyData.canLayAll0 ds = true := by
  induction ds with
  | nil => rfl
  | cons d r ih =>
    rw [PyData.canLayAll0, h d List.mem_cons_self, ih fun e he => h e (List.mem_cons_of_mem _ he)]
    rfl
theorem depthAll_of {ds : List PyData} {n : Nat} (h : ∀ d ∈ ds, PyData.depth d ≤ n) : PyData.depthAll ds ≤ n := by
  induction ds with
  | nil => simp [PyData.depthAll]
  | cons d r ih =>
    have h1 := h d List.mem_cons_self
    have h2 := ih fun e he => h e (List.mem_cons_of_mem _ he)
    simp only [PyData.depthAll]
    omega
theorem shaped_of {d : PyData} {n : Nat} (h1 : PyData.canLay0 d = true) (h2 : PyData.depth d ≤ n) (h3 : n ≤ 64) : SeqAt.shaped d = true := by
  unfold SeqAt.shaped
  rw [h1, Bool.true_and]
  exact decide_eq_true (Nat.le_trans h2 h3)
end L2.L3
namespace L2.L3
open PySem PySem.Spec PyProof.Rows
section
variable {X : Cx} {e a b c o : Expr} {es : List Expr} {ρ : List Ent} {d da db dc : PyData} {ds : List PyData} {pos p p2 : Pos}
noncomputable def cutD (xs : List PyData) (lo hi : Option Int) : List PyData := (xs.drop (HT.sIx xs.length 0 lo)).take (HT.sIx xs.length xs.length hi - HT.sIx xs.length 0 lo)
theorem cutD_rep {K : PySem.W.Frag} {G : Hp} {xs : List V} (r : RepAll K G xs ds) (lo hi : Option Int) : RepAll K G (cutV xs lo hi) (cutD ds lo hi) := by
  unfold cutV cutD
  rw [r.length]
  exact (r.drop _).take _
theorem cutD_from (ds : List PyData) {k : Int} (h : 0 ≤ k) : cutD ds (some k) none = ds.drop k.toNat := by
  have e : HT.sIx ds.length 0 (some k) = min k.toNat ds.length := by
    show (if k < 0 then (k + (ds.length : Int)).toNat else min k.toNat ds.length) = _
    rw [if_neg (by omega)]
  unfold cutD
  rw [e, HT.sIx_none]
  by_cases hk : k.toNat ≤ ds.length
  · rw [Nat.min_eq_left hk, List.take_of_length_le (by rw [List.length_drop]; exact Nat.le_refl _)]
  · rw [Nat.min_eq_right (by omega), List.drop_of_length_le (Nat.le_refl _), List.drop_of_length_le (by omega), List.take_nil]
theorem cutD_upto (ds : List PyData) {k : Int} (h : 0 ≤ k) : cutD ds none (some k) = ds.take k.toNat := by
  have e : HT.sIx ds.length ds.length (some k) = min k.toNat ds.length := by
    show (if k < 0 then (k + (ds.length : Int)).toNat else min k.toNat ds.length) = _
    rw [if_neg (by omega)]
  unfold cutD
  rw [e, HT.sIx_none, List.drop_zero, Nat.sub_zero]
  by_cases hk : k.toNat ≤ ds.length
  · rw [Nat.min_eq_left hk]
  · rw [Nat.min_eq_right (by omega), List.take_of_length_le (Nat.le_refl _), List.take_of_length_le (by omega)]
end
end L2.L3
namespace L2.L3
open PySem PySem.Spec PyProof.Rows
noncomputable def tyD : PyData → String
  | .none => "NoneType"
  | .bool _ => "bool"
  | .int _ => "int"
  | .str _ => "str"
  | .list _ => "list"
  | .tuple _ => "tuple"
  | .dict _ => "dict"
example (K : PySem.W.Frag) : PySem.W.kitOne K (.type "int") (.type "int") = some true := by rfl
example (K : PySem.W.Frag) : PySem.W.kitOne K (.type "bool") (.type "int") = some true := by rfl
example (K : PySem.W.Frag) : PySem.W.kitOne K (.type "str") (.type "int") = some false := by rfl
section
variable {X : Cx} {e a b c o : Expr} {es : List Expr} {ρ : List Ent} {d da db dc : PyData} {ds : List PyData} {pos p p2 : Pos}
theorem isinst_D {pins : List (Addr × Obj)} {σ : St} {H : Hp} {s : Shared} {A : Around} {E : Value → Shared → Prop} {Q : Value → Shared → Prop} {cv u : Value} {t : Bool} {v : V} (I : Inv X pins σ H s) (r : Rep X.K H v d) (rx : RelV v u)
    (e : PySem.W.kitOne X.K (.type (tyD d)) cv = some t) (h : ∀ tk, Q (.bool t) { s with toks := tk }) : wpAny (model X.prog X.w) A (call (.builtin "isinstance") [u, cv]) Q E s := by
  cases r with
  | none => exact isinst_ok I rx .non e h
  | bool x => exact isinst_ok I rx (.bl x) e h
  | int x => exact isinst_ok I rx (.int x) e h
  | str x => exact isinst_ok I rx (.str x) e h
  | list hq ra =>
    cases rx
    obtain ⟨its, _, ⟨o, n, e1, e2, _⟩, _⟩ := I.list hq
    exact PySem.W.kia_one PySem.W.kitx_list I.kIn ⟨o, e1, e2⟩ e (fun z => nomatch z) h
  | tuple hq ra =>
    cases rx
    obtain ⟨its, _, ⟨o, e1, e2, _⟩, _⟩ := I.tuple hq
    exact PySem.W.kia_one PySem.W.kitx_tuple I.kIn ⟨o, e1, e2⟩ e (fun z => nomatch z) h
  | dict hq _ _ => exact isinst_ok I rx (.dK hq) e h
end
end L2.L3
namespace L2.L3
open PySem PySem.Spec PyProof.Rows
theorem vals_bl : ∀ {bs : List Bool} {us : List Value}, Vals (bs.map V.bl) us → us = bs.map Value.bool
  | [], _, r => by cases r; rfl
  | b :: bs, _, r => by
    cases r with
    | cons r1 r2 => cases r1; rw [vals_bl r2]; rfl
theorem range_all (bs : List Bool) : ((List.range bs.length).all fun i => bs.getD i false) = bs.all id := by
  rw [Bool.eq_iff_iff]
  simp only [List.all_eq_true, List.mem_range]
  constructor
  · intro h b hb
    obtain ⟨i, hi, rfl⟩ := List.mem_iff_getElem.mp hb
    have := h i hi
    simpa [List.getD, List.getElem?_eq_getElem hi] using this
  · intro h i hi
    have := h bs[i] (List.getElem_mem hi)
    simpa [List.getD, List.getElem?_eq_getElem hi] using this
section
variable {X : Cx} {e a b c o : Expr} {es : List Expr} {ρ : List Ent} {d da db dc : PyData} {ds : List PyData} {pos p p2 : Pos}
theorem call_allL (hc : X.calm = true) : CallR X (.builtin "all") (fun xs H Q => ∃ (p : Addr) (bs : List Bool), xs = [.ref p] ∧ SqL X.K H p (bs.map V.bl) ∧ Q (.bl (bs.all id)) H) := by
  intro pins s σ H xs us Q I r ⟨p, bs, e, hq, q⟩
  subst e
  obtain ⟨u, rfl, rx⟩ := vals1 r
  cases rx
  obtain ⟨its, rv, pl, hz⟩ := I.list hq
  have ev := vals_bl rv
  subst ev
  have hl := pl.isList
  have lt : p < s.heap.objs.size := by obtain ⟨o, g, _⟩ := hl; exact Heap.lt_size g
  refine call_all_walk (wpAny_pyIter_list hl ?_)
  refine ⟨s.heap.objs.size, _, _, _, _, _, fun i => bs.getD i false, rfl, Walks.list (A := X.A.in1) (I.ok.hd hc) _ p (Nat.ne_of_lt lt) (bs.map Value.bool).toArray, ⟨⟨_, Heap.get?_push_size _ rfl, rfl, rfl⟩, hl.push _⟩, fun i v s' Q' E' hP hQ => ?_, fun h' tk kp => ?_⟩
  · have hP : (bs.map Value.bool).toArray[i]? = some v := hP
    rw [List.getElem?_toArray, List.getElem?_map] at hP
    cases eb : bs[i]? with
    | none => rw [eb] at hP; cases hP
    | some b =>
      rw [eb] at hP
      cases hP
      refine wpAny_truthy_bool ?_
      have : bs.getD i false = b := by rw [List.getD, eb]; rfl
      rw [← this]
      exact hQ
  · have sz : (bs.map Value.bool).toArray.size = bs.length := by simp
    rw [sz, range_all]
    refine ⟨.bl _, H, I.kept (fun b o g => kp b o ?_ (Heap.get?_push_of_some _ g)), rfl, q⟩
    intro hb
    have z : b = s.heap.objs.size := by simpa using hb
    exact absurd (Heap.lt_size g) (by rw [z]; exact Nat.lt_irrefl _)
theorem repAll_intsG {K : PySem.W.Frag} {G : Hp} : ∀ ns : List Int, RepAll K G (ns.map V.int) (ns.map .int)
  | [] => .nil
  | _ :: r => .cons (.int _) (repAll_intsG r)
noncomputable def sortI (ns : List Int) : List Int := ns.mergeSort (fun a b => decide (a ≤ b))
theorem sortI_perm (ns : List Int) : (sortI ns).Perm ns := List.mergeSort_perm _ _
theorem sortI_sorted (ns : List Int) : (sortI ns).Pairwise (· ≤ ·) := by
  have h := List.pairwise_mergeSort (le := fun (a b : Int) => decide (a ≤ b)) (fun a b c h1 h2 => by simp only [decide_eq_true_eq] at *; omega) (fun a b => by simp only [Bool.or_eq_true, decide_eq_true_eq]; omega) ns
  exact h.imp fun h => by simpa using h
theorem sortI_eq {ns ms : List Int} (hp : ms.Perm ns) (hs : ms.Pairwise (· ≤ ·)) : ms = sortI ns := PySem.W.ksm_same (hp.trans (sortI_perm ns).symm) hs (sortI_sorted ns)
end
end L2.L3
namespace L2.L3
open PySem PySem.Spec PyProof.Rows
noncomputable def Its (n : Nat) (val : Nat → V) : It := ⟨fun i _ => i < n, fun i H x H' => H' = H ∧ x = val i, fun i _ => n ≤ i⟩
theorem turn_walks {P : Program} {w : World} {K : PySem.W.Frag} {x : Str} {px : Pos} {it : Addr} {n : Nat} {PP : Nat → Value → Prop} {St : Nat → Heap → Prop} {val : Nat → V} (W : ∀ A' : Around, A'.handled = none → Walks P w A' it [it] [it] n PP St)
    (hobj : ∀ i h, St i h → ∃ o, h.get? it = some o ∧ ∀ v, o.data ≠ .cell v) (hv : ∀ i u, i < n → PP i u → RelV (val i) u)
    (hself : ∀ (A : Around) (i : Nat) (s : Shared) (Q : Value → Shared → Prop) (E : Value → Shared → Prop), St i s.heap → Q (.ref it) s → wpAny (model P w) A (pyIter (.ref it)) Q E s) : Turn P w K (.Name x px) (Its n val) [it] it (fun i h => i ≤ n ∧ St i h) where
  mem := by simp
  obj := fun i h st b hb => by
    have e : b = it := by simpa using hb
    subst e
    exact hobj i h st.2
  keep := fun i h h' st k => ⟨st.1, (W {} rfl).frame i h h' st.2 k⟩
  item := by
    intro X hP hw hK hc i pins s σ H E I hf st hg
    subst hP hw hK
    obtain ⟨f0, f1, f2, f3, f4, f5⟩ := hf it (by simp)
    refine (W X.A (I.ok.hd hc)).item i s _ _ hg st.2 fun u h' tk pu st' kk => ⟨u, rfl, wpAny_pure ?_⟩
    have I1 : Inv X pins σ H { s with heap := h', toks := tk } := I.turned (fun b o hb e => kk b o (by simpa using hb) e) f0 f1 f3 f4 f5
    exact ⟨val i, H, I1, hv i u hg pu, ⟨rfl, rfl⟩, ⟨hg, st'⟩, fun b hb => (hf b hb).1⟩
  done := by
    intro X hP hw hK hc i pins s σ H E I hf st hg
    subst hP hw hK
    obtain ⟨f0, f1, f2, f3, f4, f5⟩ := hf it (by simp)
    have e : i = n := Nat.le_antisymm st.1 hg
    subst e
    exact (W X.A (I.ok.hd hc)).done s _ _ st.2 fun h' tk kk => ⟨rfl, I.turned (fun b o hb e => kk b o (by simpa using hb) e) f0 f1 f3 f4 f5⟩
  self := fun A i s Q E st h => hself A i s Q E st.2 h
noncomputable def lettersOf (z : Str) : List Str := z.cps.toList.map fun c => ⟨#[c]⟩
section
variable {X : Cx} {iter a b : Expr} {ρ : List Ent} {p pos px : Pos} {x : Str}
theorem pid_str {z : Str} (h : PD X iter ρ (.str z)) (hc : X.calm = true) : PID X (.Name x px) iter ρ ((lettersOf z).map .str) := by
  refine ⟨?_⟩
  intro pins s σ H R I ⟨H0, G₀, G, S, q⟩
  refine thn (h.run H0 G₀ G pins s σ H (fun v H' => v = .str z ∧ ∃ G', Grow G H G' H') I S fun v G' H' g r => by cases r; exact ⟨rfl, G', g⟩) fun v s1 ⟨y, H1, I1, r1, e1, G1, g1⟩ => ?_
  subst e1
  obtain ⟨t, rfl⟩ := r1
  have wk : Walk X.K (Its z.cps.size fun i => .str ⟨#[z.cps.getD i 0]⟩) G1 ((lettersOf z).map .str) := by
    intro i G' H' s1 s2
    have hl : ((lettersOf z).map PyData.str).length = z.cps.size := by simp [lettersOf]
    refine ⟨fun d e => ?_, fun hle => by rw [hl] at hle; exact hle⟩
    have hi : i < z.cps.size := by
      have := (List.getElem?_eq_some_iff.mp e).1
      rw [hl] at this
      exact this
    refine ⟨hi, fun y H2 ⟨e2, e3⟩ => ?_⟩
    subst e2 e3
    refine ⟨G', .refl s2, ?_⟩
    have ed : d = .str ⟨#[z.cps.getD i 0]⟩ := by
      unfold lettersOf at e
      rw [List.getElem?_map, List.getElem?_map, Array.getElem?_toList, Array.getElem?_eq_getElem hi] at e
      have := Option.some.inj e
      rw [← this]
      simp [Array.getD, hi]
    rw [ed]
    exact .str _
  have hv : ∀ i u, i < z.cps.size → SignAt z i u → RelV (.str ⟨#[z.cps.getD i 0]⟩) u := by
    rintro i u hi ⟨c, t', ec, rfl⟩
    refine ⟨t', ?_⟩
    rw [Array.getElem?_eq_getElem hi] at ec
    have := Option.some.inj ec
    simp [Array.getD, hi, this]
  have fin : ∀ (cl : String) (o : Obj), o = { cls := .type cl, data := .fields #[.str z t, .int 0 0] } → (∀ A' : Around, A'.handled = none → Walks X.prog X.w A' s1.heap.objs.size [s1.heap.objs.size] [s1.heap.objs.size] z.cps.size (SignAt z) (fun i h => h.IsStrIter s1.heap.objs.size cl z t i)) →
      (∀ (A : Around) (i : Nat) (s : Shared) (Q : Value → Shared → Prop) (E : Value → Shared → Prop), s.heap.IsStrIter s1.heap.objs.size cl z t i → Q (.ref s1.heap.objs.size) s → wpAny (model X.prog X.w) A (pyIter (.ref s1.heap.objs.size)) Q E s) →
      PIE X pins σ (.Name x px) R (.ref s1.heap.objs.size) { s1 with heap := s1.heap.push o } := by
    intro cl o eo W hself
    subst eo
    refine ⟨s1.heap.objs.size, [s1.heap.objs.size], _, _, H1, rfl, I1.kept (t' := s1.toks) fun b o e => Heap.get?_push_of_some _ e, turn_walks W (fun i h ⟨o, g, _, gd⟩ => ⟨o, g, fun v z => by rw [gd] at z; cases z⟩) hv hself, ⟨Nat.zero_le _, ⟨_, Heap.get?_push_size _ rfl, rfl, rfl⟩⟩, fun b hb => ?_, q _ G1 H1 g1 wk⟩
    have e : b = s1.heap.objs.size := by simpa using hb
    subst e
    exact I1.fpOk (Nat.le_refl _) (I1.hok.fresh (Nat.le_refl _))
  cases ha : z.cps.all (· < 128)
  · exact wpAny_pyIter_wide ha (fin "str_iterator" _ rfl (fun A' hA => Walks.strWide hA _ z t) fun A i s Q E st hq => wpAny_pyIter_striter_wide st hq)
  · exact wpAny_pyIter_ascii ha (fin "str_ascii_iterator" _ rfl (fun A' hA => Walks.strAscii hA _ z t) fun A i s Q E st hq => wpAny_pyIter_striter_ascii st hq)
theorem cmp_leS {i j : Str} : CmpD X .LtE (.str i) (.str j) (!decide (j.cps.toList < i.cps.toList)) := ⟨fun x y H Q => ∃ i j, x = V.str i ∧ y = V.str j ∧ Q (.bl (!decide (j.cps.toList < i.cps.toList))) H, by
  intro pins s σ H x y v u Q I rx ry ⟨i, j, e1, e2, q⟩
  subst e1 e2
  obtain ⟨t, rfl⟩ := rx
  obtain ⟨t', rfl⟩ := ry
  exact PySem.P.le_str ⟨.bl _, H, I, rfl, q⟩, fun x y G H Q _ rx ry q => by cases rx; cases ry; exact ⟨_, _, rfl, rfl, q⟩⟩
end
end L2.L3
namespace L2.L3
open PySem PySem.Spec PyProof.Rows
theorem ObjOk.there {P : Program} {w : World} {H : Hp} {h : Heap} {a : Addr} {o : HO} (x : ObjOk P w H h a o) : ∃ u, h.get? a = some u := by
  cases o with
  | lst xs => obtain ⟨_, _, _, _, e⟩ := x; exact ⟨_, e⟩
  | tup xs => obtain ⟨_, _, _, u, e, _⟩ := x; exact ⟨u, e⟩
  | dK kvs => obtain ⟨_, _, _, _, o, _, _, e, _⟩ := x; exact ⟨_, e⟩
  | dT kvs => obtain ⟨_, _, _, _, o, _, _, e, _⟩ := x; exact ⟨_, e⟩
  | set S n => obtain ⟨o, _, _, _, e, _⟩ := x; exact ⟨_, e⟩
  | ins C dx fs => obtain ⟨_, _, _, e, _⟩ := x; exact ⟨_, e⟩
  | own y => exact x
  | xd fs => obtain ⟨_, ⟨_, _, _, e, _⟩, _⟩ := x; exact ⟨_, e⟩
  | rng lo hi => obtain ⟨_, _, _, e⟩ := x; exact ⟨_, e⟩
  | frz ob u => obtain ⟨e, _⟩ := x; exact ⟨_, e⟩
  | tbl ps => exact ⟨_, show h.get? a = some _ from x⟩
  | met f y => exact ⟨_, show h.get? a = some _ from x⟩
  | ext φ => exact x.2.1
theorem hok_no {P : Program} {w : World} {H : Hp} {h : Heap} {a : Addr} (x : HOk P w H h) (e : h.get? a = none) : H a = none := by
  cases q : H a with
  | none => rfl
  | some u => obtain ⟨v, z⟩ := ObjOk.there (x a u q); rw [e] at z; cases z
noncomputable def Fresh (X : Cx) (b : Addr) : Prop := (b ∈ X.ex ∨ X.s₀.heap.get? b = none) ∧ ∀ p ∈ X.pn, p.1 ≠ b
noncomputable def ExcF (fr : Addr → Prop) (fl : Value) (H : Hp) (a C : Addr) (h : Heap) : Prop :=
  fr a ∧ H a = none ∧ ∃ oe vs a0 T oT ts, h.get? a = some oe ∧ oe.cls = .ref C ∧ oe.data = .fields vs ∧ vs[0]? = some a0 ∧
    vs[1]? = some (.ref T) ∧ fr T ∧ H T = none ∧ T ≠ a ∧ h.get? T = some oT ∧ oT.data = .fields ts ∧ ts[3]? = some fl
noncomputable def ExcAt (fr : Addr → Prop) (H : Hp) (a C : Addr) (h : Heap) : Prop :=
  (fr a ∧ H a = none ∧ ∃ oe vs a0, h.get? a = some oe ∧ oe.cls = .ref C ∧ oe.data = .fields vs ∧ vs[0]? = some a0 ∧ vs[1]? = some .none) ∨ ExcF fr .none H a C h
noncomputable def ExcIs (X : Cx) (c : Str) (e : Value) (H : Hp) (s : Shared) : Prop := ∃ a C, e = .ref a ∧ excC X.K c = some C ∧ ExcAt (Fresh X) H a C s.heap
theorem ExcF.mono {fr fr' : Addr → Prop} {fl : Value} {H : Hp} {a C : Addr} {h : Heap} (x : ExcF fr fl H a C h) (k : ∀ b, fr b → fr' b) : ExcF fr' fl H a C h := by
  obtain ⟨h1, h2, oe, vs, a0, T, oT, ts, e1, e2, e3, e4, e5, e6, e7⟩ := x
  exact ⟨k _ h1, h2, oe, vs, a0, T, oT, ts, e1, e2, e3, e4, e5, k _ e6, e7⟩
theorem ExcAt.mono {fr fr' : Addr → Prop} {H : Hp} {a C : Addr} {h : Heap} (x : ExcAt fr H a C h) (k : ∀ b, fr b → fr' b) : ExcAt fr' H a C h := by
  rcases x with ⟨h1, h2⟩ | x
  · exact .inl ⟨k _ h1, h2⟩
  · exact .inr (x.mono k)
theorem ExcAt.ob {fr : Addr → Prop} {H : Hp} {a C : Addr} {h : Heap} (x : ExcAt fr H a C h) : fr a ∧ H a = none ∧ ∃ oe vs, ExO h a C oe ∧ oe.data = .fields vs := by
  rcases x with ⟨h1, h2, oe, vs, a0, e1, e2, e3, _⟩ | ⟨h1, h2, oe, vs, a0, T, oT, ts, e1, e2, e3, _⟩
  · exact ⟨h1, h2, oe, vs, ⟨e1, e2⟩, e3⟩
  · exact ⟨h1, h2, oe, vs, ⟨e1, e2⟩, e3⟩
structure Chg (X : Cx) (fr : Addr → Prop) (cs : List Addr) (H : Hp) (h h' : Heap) : Prop where
  ch : ∀ b ∈ cs, fr b ∧ H b = none ∧ ∃ o vs, h.get? b = some o ∧ o.data = .fields vs
  un : Un (frs X.stack) cs H H h h'
  hok : HOk X.prog X.w H h'
section
variable {X : Cx} {pins : List (Addr × Obj)} {σ : List (Option V)} {H H' : Hp} {s : Shared} {h' : Heap} {a C : Addr} {fr : Addr → Prop}
theorem noted_un {base : Heap} {Ts : List Addr} {a0 fl : Value} (I : Inv X pins σ H s) (hst : X.stack = X.env :: X.outer) (ha : fr a ∧ H a = none ∧ ∃ o vs, s.heap.get? a = some o ∧ o.data = .fields vs)
    (hT : ∀ b ∈ Ts, fr b ∧ H b = none ∧ ∃ o vs, s.heap.get? b = some o ∧ o.data = .fields vs) (hb : base = PySem.W.hideAll s.heap ((a :: Ts) ++ frs X.stack)) (hnew : ∀ b, s.heap.get? b = none → fr b)
    (N : Heap.NotedW base (X.env :: X.outer) a (.ref C) a0 fl s.heap h') : Chg X fr (a :: Ts) H s.heap h' ∧ ExcF fr fl H a C h' := by
  obtain ⟨st, ff, ⟨oe, vs, T, oT, ts, e1, ⟨e2, e3⟩, e4, e5, e6, e7, e8, e9, e10⟩, up⟩ := N
  have hmem : ∀ b ∈ frs X.stack, ∃ o, s.heap.get? b = some o ∧ ∀ vs, o.data ≠ .fields vs := fun b hm => by
    obtain ⟨_, o, ho, hd⟩ := I.stack.mem hm
    exact ⟨o, ho, hd⟩
  have keep : ∀ b o, s.heap.get? b = some o → b ∉ frs X.stack → b ∉ a :: Ts → h'.get? b = some o := fun b o e n1 n2 =>
    st b o (by rw [hb]; exact PySem.W.hideAll_get _ e fun z => (List.mem_append.mp z).elim n2 n1)
  have slot : ∀ b o, s.heap.get? b = some o → b ∈ frs X.stack → ∃ sl, h'.get? b = some { o with slots := sl } := fun b o e hm => by
    obtain ⟨o', ho', hd⟩ := hmem b hm
    rw [e] at ho'; cases ho'
    exact up b o e hd
  have hch : ∀ b ∈ a :: Ts, fr b ∧ H b = none ∧ ∃ o vs, s.heap.get? b = some o ∧ o.data = .fields vs := fun b hm => by
    rcases List.mem_cons.mp hm with rfl | hm
    · exact ha
    · exact hT b hm
  refine ⟨⟨hch, ⟨fun b o e n n1 n2 => keep b o e n1 n2, fun b o e n n1 n2 => slot b o e n1, fun b o e n _ => n, fun b o e n2 => ?_, fun _ _ q => q, fun _ _ _ q => q, fun _ ps q => ⟨#[], by rw [q]; simp⟩⟩, fun b u q => ?_⟩, ?_⟩
  · by_cases hm : b ∈ frs X.stack
    · obtain ⟨sl, z⟩ := slot b o e hm
      exact ⟨_, z⟩
    · exact ⟨o, keep b o e hm n2⟩
  · have tr : ∀ c u, H c = some u → c ∉ frs X.stack ∧ c ∉ a :: Ts := fun c u q => ⟨fun z => (by rw [I.stkFree c z] at q; cases q), fun z => (by rw [(hch c z).2.1] at q; cases q)⟩
    refine (I.hok b u q).stay (fun c v hc z => ?_) (fun _ z => z) fun _ _ z => z
    rcases hc with rfl | hc
    · exact keep c v z (tr c u q).1 (tr c u q).2
    · exact keep c v z (tr c _ hc).1 (tr c _ hc).2
  · refine ⟨ha.1, ha.2.1, oe, vs, a0, T, oT, ts, e1, e2, e4, e3, e5, ?_⟩
    have hh : fr T ∧ H T = none := by
      cases q : s.heap.get? T with
      | none => exact ⟨hnew T q, hok_no I.hok q⟩
      | some o =>
        have hm : T ∈ (a :: Ts) ++ frs X.stack := Classical.byContradiction fun z => by
          have := PySem.W.hideAll_get _ q z
          rw [← hb, e6] at this; cases this
        rcases List.mem_append.mp hm with hm | hm
        · exact ⟨(hch T hm).1, (hch T hm).2.1⟩
        · exfalso
          obtain ⟨o', ho', hd⟩ := hmem T hm
          obtain ⟨sl, z⟩ := slot T o' ho' hm
          rw [e8] at z; cases z
          exact hd ts e9
    exact ⟨hh.1, hh.2, e7, e8, e9, e10⟩
theorem note_ok {M : Model} {A : Around} {E : Value → Shared → Prop} {Q : Unit → Shared → Prop} (hfr : A.frames = some X.stack) (hst : X.stack = X.env :: X.outer) (hf : X.env.frame = some X.env.locals) (I : Inv X pins σ H s) (x : ExcAt fr H a C s.heap) (hnew : ∀ b, s.heap.get? b = none → fr b)
    (h : ∀ h' ch, Chg X fr ch H s.heap h' → ExcF fr (rawInt X.env.locals) H a C h' → Q () { s with heap := h' }) : wpAny M A (noteFrame (.ref a) X.env) Q E s := by
  have frm : ∀ (l : List Addr), ∀ env ∈ X.env :: X.outer, ∀ b, env.frame = some b → b ∈ l ++ frs X.stack := fun l env he b hb => List.mem_append_right _ (by
    rw [hst]; unfold frs
    exact List.mem_filterMap.mpr ⟨env, he, hb⟩)
  have hl := I.stack
  rcases x with ⟨h1, h2, oe, vs, a0, e1, e2, e3, e4, e5⟩ | ⟨h1, h2, oe, vs, a0, T, oT, ts, e1, e2, e3, e4, e5, e6, e7, e8, e9, e10, e11⟩
  · have hl' : s.heap.FunFrames (PySem.W.hideAll s.heap ([a] ++ frs X.stack)) (X.env :: X.outer) := PySem.W.funFrames_hide (hst ▸ hl) (frm [a])
    unfold noteFrame
    simp only [hf]
    refine wpAny_bind (wpAny_field e1 e3 e5 ?_)
    rw [if_neg (by decide)]
    refine wpAny_entryW (hst ▸ hfr) hl' hf e1 (fun b o e => PySem.W.of_hideAll ([a] ++ frs X.stack) e) (PySem.W.hideAll_none ([a] ++ frs X.stack) (by simp)) e3 (Array.getElem?_eq_some_iff.mp e5).1 e4 fun h' N => ?_
    rw [e2] at N
    obtain ⟨c1, c2⟩ := noted_un (Ts := []) I hst ⟨h1, h2, oe, vs, e1, e3⟩ (fun _ z => nomatch z) rfl hnew N
    exact h h' _ c1 c2
  · have hl' : s.heap.FunFrames (PySem.W.hideAll s.heap ([a, T] ++ frs X.stack)) (X.env :: X.outer) := PySem.W.funFrames_hide (hst ▸ hl) (frm [a, T])
    refine wpAny_noteFrame_onW (hst ▸ hfr) hl' hf ⟨oe, vs, T, oT, ts, e1, ⟨e2, e4⟩, e3, e5, PySem.W.hideAll_none ([a, T] ++ frs X.stack) (by simp), e8, e9, e10, e11⟩ (fun b o e => PySem.W.of_hideAll ([a, T] ++ frs X.stack) e) (PySem.W.hideAll_none ([a, T] ++ frs X.stack) (by simp)) fun h' N => ?_
    obtain ⟨c1, c2⟩ := noted_un (Ts := [T]) I hst ⟨h1, h2, oe, vs, e1, e3⟩ (fun b z => by cases List.mem_singleton.mp z; exact ⟨e6, e7, oT, ts, e9, e10⟩) rfl hnew N
    exact h h' _ c1 c2
theorem fly_ok {M : Model} {A : Around} {E : Value → Shared → Prop} {Q : Unit → Shared → Prop} {fl : Value} (hok : HOk X.prog X.w H s.heap) (x : ExcF fr fl H a C s.heap)
    (h : ∀ h' ch, Chg X fr ch H s.heap h' → ExcF fr .none H a C h' → Q () { s with heap := h' }) : wpAny M A (setFlight (.ref a) none) Q E s := by
  obtain ⟨h1, h2, oe, vs, a0, T, oT, ts, e1, e2, e3, e4, e5, e6, e7, e8, e9, e10, e11⟩ := x
  have sz : 3 < ts.size := (Array.getElem?_eq_some_iff.mp e11).1
  refine wpAny_setFlight_none e1 e3 e5 e9 e10 sz (h _ [T] ⟨fun b z => ?_, ⟨fun b o e n _ n2 => ?_, fun b o e n _ n2 => ?_, fun b o e n _ => n, fun b o e n2 => ?_, fun _ _ q => q, fun _ _ _ q => q, fun _ ps q => ⟨#[], by rw [q]; simp⟩⟩, fun b u q => ?_⟩ ?_)
  · cases List.mem_singleton.mp z; exact ⟨e6, e7, oT, ts, e9, e10⟩
  · rw [Heap.get?_update_other _ _ (fun z => n2 (by simp [z]))]; exact e
  · exact ⟨o.slots, by rw [Heap.get?_update_other _ _ (fun z => n2 (by simp [z]))]; exact e⟩
  · exact ⟨o, by rw [Heap.get?_update_other _ _ (fun z => n2 (by simp [z]))]; exact e⟩
  · have tr : ∀ c u, H c = some u → T ≠ c := fun c u q z => by rw [← z, e7] at q; cases q
    refine (hok b u q).stay (fun c v hc z => ?_) (fun _ z => z) fun _ _ z => z
    rcases hc with rfl | hc
    · rw [Heap.get?_update_other _ _ (tr c u q)]; exact z
    · rw [Heap.get?_update_other _ _ (tr c _ hc)]; exact z
  · refine ⟨h1, h2, oe, vs, a0, T, _, _, ?_, e2, e3, e4, e5, e6, e7, e8, Heap.get?_update_self _ e9 (Obj.isFreed_of_fields (Obj.data_mapFields e10 _)), Obj.data_mapFields e10 _, by simp [sz]⟩
    rw [Heap.get?_update_other _ _ e8]; exact e1
theorem leave_ok {M : Model} {A : Around} {E : Value → Shared → Prop} {Q : Unit → Shared → Prop} (hfr : A.frames = some X.stack) (hst : X.stack = X.env :: X.outer) (hf : X.env.frame = some X.env.locals) (I : Inv X pins σ H s) (x : ExcAt fr H a C s.heap) (hnew : ∀ b, s.heap.get? b = none → fr b)
    (h : ∀ h' ch, Un (frs X.stack) ch H H s.heap h' → (∀ b ∈ ch, fr b) → HOk X.prog X.w H h' → ExcAt fr H a C h' → Q () { s with heap := h' }) : wpAny M A (leaving X.env (.ref a)) Q E s := by
  unfold leaving
  refine wpAny_bind (note_ok hfr hst hf I x hnew fun h1 ch1 c1 x1 => ?_)
  refine fly_ok (X := X) (s := { s with heap := h1 }) c1.hok x1 fun h2 ch2 c2 x2 => ?_
  refine h h2 (ch1 ++ ch2) ((c1.un.mono (fun _ z => z) fun b z => List.mem_append_left _ z).trans (c2.un.mono (fun _ z => z) fun b z => List.mem_append_right _ z)) (fun b z => ?_) c2.hok (.inr x2)
  rcases List.mem_append.mp z with z | z
  · exact (c1.ch b z).1
  · exact (c2.ch b z).1
theorem Inv.chg {ch : List Addr} (I : Inv X pins σ H s) (c : Chg X (fun b => Fresh X b ∧ ∀ p ∈ pins, p.1 ≠ b) ch H s.heap h') : Inv X pins σ H { s with heap := h' } := by
  obtain ⟨m, hn, hl⟩ := id I.loc
  obtain ⟨oL, es, ep, hoL, rL⟩ := id hn
  have cL : X.env.locals ∉ ch := fun z => by
    obtain ⟨_, _, o, vs, e1, e2⟩ := c.ch _ z
    rw [hoL] at e1; cases e1
    rw [rL.1] at e2; cases e2
  have cC : ∀ x d, X.env.cells.lookup x = some d → d ∉ ch := fun x d e z => by
    obtain ⟨_, _, o, vs, e1, e2⟩ := c.ch _ z
    obtain ⟨v, o', e3, e4⟩ := I.cell x d e
    rw [e3] at e1; cases e1
    rw [e4] at e2; cases e2
  have cS : ∀ b o, X.s₀.heap.get? b = some o → b ∉ X.ex → b ∉ ch := fun b o e n z => by
    rcases (c.ch b z).1.1.1 with q | q
    · exact n q
    · rw [e] at q; cases q
  have cP : ∀ p ∈ X.pn ++ pins, p.1 ∉ ch := fun p hp z => by
    rcases List.mem_append.mp hp with hp | hp
    · exact (c.ch _ z).1.1.2 p hp rfl
    · exact (c.ch _ z).1.2 p hp rfl
  have neL : ∀ b o, X.s₀.heap.get? b = some o → b ≠ X.env.locals := fun b o e => Nat.ne_of_lt (Nat.lt_of_lt_of_le (Heap.lt_size e) I.ok.above)
  have nst : ∀ b, b ≠ X.env.locals → b ∉ X.fs → b ∉ frs X.stack := fun b n1 n2 z => (List.mem_cons.mp (I.stkSub b z)).elim n1 n2
  have cellK : ∀ x d, X.env.cells.lookup x = some d → ∀ v, s.heap.IsCell d v → h'.IsCell d v := fun x d e v ⟨o, ho, hd⟩ => by
    obtain ⟨sl, q⟩ := c.un.any ho (I.freeC x d e) (cC x d e)
    exact ⟨_, q, hd⟩
  refine ⟨I.ok, I.os, I.bare, ⟨fun b o e n hb hx => ?_, fun b o e n hb hx => ?_, I.base.free, fun b o e hx => ?_, I.base.tups, I.base.frzs, I.base.tbls⟩, ⟨m, ?_, fun i x v e1 e2 e3 => ?_⟩, fun x d e => ?_, I.free, I.freeC, fun p hp => ?_, c.hok, I.len⟩
  · exact c.un.keep b o (I.base.keep b o e n hb hx) (I.base.free b o e n hx) (nst b (neL b o e) hb) (cS b o e hx)
  · obtain ⟨sl, e1⟩ := I.base.slot b o e n hb hx
    obtain ⟨sl', e2⟩ := c.un.any e1 (I.base.free b o e n hx) (cS b o e hx)
    exact ⟨sl', e2⟩
  · obtain ⟨o', e1⟩ := I.base.there b o e hx
    exact c.un.there b o' e1 (cS b o e hx)
  · obtain ⟨sl, q⟩ := c.un.any hoL I.free cL
    exact ⟨_, es, ep, q, rL⟩
  · obtain ⟨u, r, l⟩ := hl i x v e1 e2 e3
    refine ⟨u, r, ?_⟩
    rcases l with l | ⟨k, d, e, z⟩
    · exact .inl l
    · exact .inr ⟨k, d, e, cellK x d e _ z⟩
  · obtain ⟨v, z⟩ := I.cell x d e
    exact ⟨v, cellK x d e v z⟩
  · obtain ⟨e, n, ne, nf, d⟩ := I.pin p hp
    exact ⟨c.un.keep p.1 p.2 e n (nst p.1 ne nf) (cP p hp), n, ne, nf, d⟩
theorem Inv.track {o : HO} (I : Inv X pins σ H s) (ha : Fresh X a ∧ ∀ p ∈ pins, p.1 ≠ a) (hn : H a = none) (hd : ∃ u vs, s.heap.get? a = some u ∧ u.data = .fields vs) (ok : ObjOk X.prog X.w (upd H a o) s.heap a o) : Inv X pins σ (upd H a o) s := by
  obtain ⟨u, vs, hu, hv⟩ := hd
  have nL : X.env.locals ≠ a := fun z => by
    obtain ⟨m, ⟨oL, es, ep, hoL, rL⟩, _⟩ := id I.loc
    rw [z, hu] at hoL; cases hoL
    rw [rL.1] at hv; cases hv
  have nC : ∀ x d, X.env.cells.lookup x = some d → d ≠ a := fun x d e z => by
    obtain ⟨v, o', e3, e4⟩ := I.cell x d e
    rw [z, hu] at e3; cases e3
    rw [e4] at hv; cases hv
  refine ⟨I.ok, I.os, I.bare, ⟨I.base.keep, I.base.slot, fun b o e n hx => ?_, I.base.there, fun b xs e => ?_, fun b o u e => ?_, fun b ps e => ?_⟩, I.loc, I.cell, ?_, fun x d e => ?_, fun p hp => ?_, fun b v e => ?_, I.len⟩
  · rw [upd_ne (fun z => by
      subst z
      rcases ha.1.1 with q | q
      · exact hx q
      · rw [e] at q; cases q)]
    exact I.base.free b o e n hx
  · have q := I.base.tups b xs e
    rw [upd_ne (ne_of_none q hn)]; exact q
  · have q := I.base.frzs b o u e
    rw [upd_ne (ne_of_none q hn)]; exact q
  · obtain ⟨more, q⟩ := I.base.tbls b ps e
    exact ⟨more, by rw [upd_ne (ne_of_none q hn)]; exact q⟩
  · rw [upd_ne nL]; exact I.free
  · rw [upd_ne (nC x d e)]; exact I.freeC x d e
  · obtain ⟨e, n, ne, nf, d⟩ := I.pin p hp
    have np : p.1 ≠ a := by
      rcases List.mem_append.mp hp with hp | hp
      · exact ha.1.2 p hp
      · exact ha.2 p hp
    exact ⟨e, by rw [upd_ne np]; exact n, ne, nf, d⟩
  · by_cases hb : b = a
    · subst hb; rw [upd_same] at e; cases e; exact ok
    · rw [upd_ne hb] at e
      exact (I.hok b v e).stay (fun c w' _ q => q) (fun c q => by rw [upd_ne (ne_of_none q hn)]; exact q) fun c xs q => by rw [upd_ne (ne_of_none q hn)]; exact q
end
end L2.L3
namespace L2.L3
open PySem PySem.Spec PyProof.Rows
inductive Re (α : Type) where
  | ok (a : α)
  | ex (c : Str)
noncomputable abbrev Mm (α : Type) := Option (Re α)
noncomputable abbrev ret {α : Type} (a : α) : Mm α := some (.ok a)
noncomputable def bnd {α β : Type} (m : Mm α) (k : α → Mm β) : Mm β := match m with
  | some (.ok a) => k a
  | some (.ex c) => some (.ex c)
  | none => none
noncomputable def lft {α : Type} (o : Option α) : Mm α := match o with
  | some a => some (.ok a)
  | none => none
noncomputable abbrev EF := List Ent → Mm PyData
noncomputable abbrev TF := List Ent → Mm Bool
noncomputable abbrev AF := List Ent → Mm (List PyData)
section
variable {α β : Type}
theorem bnd_some {m : Mm α} {k : α → Mm β} {r : Re β} (h : bnd m k = some r) : (∃ a, m = some (.ok a) ∧ k a = some r) ∨ ∃ c, m = some (.ex c) ∧ r = .ex c := by
  match m, h with
  | some (.ok a), h => exact .inl ⟨a, rfl, h⟩
  | some (.ex c), h => exact .inr ⟨c, rfl, (Option.some.inj h).symm⟩
  | none, h => cases h
theorem lft_is {o : Option α} {r : Re α} (h : lft o = some r) : ∃ a, o = some a ∧ r = .ok a := by
  match o, h with
  | some a, h => exact ⟨a, rfl, (Option.some.inj h).symm⟩
  | none, h => cases h
end
noncomputable def XcOk (X : Cx) (H0 G₀ G : Hp) (ρ : List Ent) (c : Str) : Prop :=
  ∀ (pins : List (Addr × Obj)) (s' : Shared) (σ : St) (H' G' : Hp) (e : Value), Inv X pins σ H' s' → RepS X.K H0 G₀ G' H' σ ρ → Same G G' → ExcIs X c e H' s' → X.xe e s'
theorem XcOk.mono {X : Cx} {H0 G₀ G G' : Hp} {ρ : List Ent} {c : Str} (h : XcOk X H0 G₀ G ρ c) (s : Same G G') : XcOk X H0 G₀ G' ρ c :=
  fun pins s' σ H' G2 e I R g x => h pins s' σ H' G2 e I R (s.trans g) x
noncomputable def EndE (X : Cx) (H0 G₀ G : Hp) (ρ : List Ent) (H : Hp) (Q : VK) : Re PyData → Prop
  | .ok d => ∀ v G' H', Grow G H G' H' → Rep X.K G' v d → Q v H'
  | .ex c => XcOk X H0 G₀ G ρ c
noncomputable def EndT (X : Cx) (H0 G₀ G : Hp) (ρ : List Ent) (H : Hp) (Q : Bool → Hp → Prop) : Re Bool → Prop
  | .ok b => ∀ G' H', Grow G H G' H' → Q b H'
  | .ex c => XcOk X H0 G₀ G ρ c
noncomputable def EndA (X : Cx) (H0 G₀ G : Hp) (ρ : List Ent) (H : Hp) (Q : List V → Hp → Prop) : Re (List PyData) → Prop
  | .ok ds => ∀ vs G' H', Grow G H G' H' → RepAll X.K G' vs ds → Q vs H'
  | .ex c => XcOk X H0 G₀ G ρ c
noncomputable def rE (X : Cx) (f : EF) : TE := fun σ H Q => ∃ ρ r H0 G₀ G, f ρ = some r ∧ RepS X.K H0 G₀ G H σ ρ ∧ EndE X H0 G₀ G ρ H Q r
noncomputable def rT (X : Cx) (f : TF) : TT := fun σ H Q => ∃ ρ r H0 G₀ G, f ρ = some r ∧ RepS X.K H0 G₀ G H σ ρ ∧ EndT X H0 G₀ G ρ H Q r
noncomputable def rA (X : Cx) (f : AF) : TA := fun σ H Q => ∃ ρ r H0 G₀ G, f ρ = some r ∧ RepS X.K H0 G₀ G H σ ρ ∧ EndA X H0 G₀ G ρ H Q r
structure DE (X : Cx) (e : Expr) (f : EF) : Prop where
  run : PE X e (rE X f)
structure DT (X : Cx) (e : Expr) (f : TF) : Prop where
  run : PT X e (rT X f)
structure DW (X : Cx) (e : Expr) (f : TF) : Prop where
  run : PW X e (rT X f)
structure DA (X : Cx) (es : List Expr) (f : AF) : Prop where
  run : PA X es (rA X f)
section
variable {X : Cx} {H0 G₀ G G1 H H1 : Hp} {ρ : List Ent} {σ : St}
theorem EndE.more {Q : VK} {r : Re PyData} (q : EndE X H0 G₀ G ρ H Q r) (g : Grow G H G1 H1) : EndE X H0 G₀ G1 ρ H1 Q r := by
  cases r with
  | ok d => exact fun v G' H' g' rv => q v G' H' (g.trans g') rv
  | ex c => exact XcOk.mono q g.gg
theorem EndT.more {Q : Bool → Hp → Prop} {r : Re Bool} (q : EndT X H0 G₀ G ρ H Q r) (g : Grow G H G1 H1) : EndT X H0 G₀ G1 ρ H1 Q r := by
  cases r with
  | ok d => exact fun G' H' g' => q G' H' (g.trans g')
  | ex c => exact XcOk.mono q g.gg
theorem EndA.more {Q : List V → Hp → Prop} {r : Re (List PyData)} (q : EndA X H0 G₀ G ρ H Q r) (g : Grow G H G1 H1) : EndA X H0 G₀ G1 ρ H1 Q r := by
  cases r with
  | ok d => exact fun v G' H' g' rv => q v G' H' (g.trans g') rv
  | ex c => exact XcOk.mono q g.gg
theorem bE {fa : EF} {β : Type} {k : PyData → Mm β} {r : Re β} (R : RepS X.K H0 G₀ G H σ ρ) (e : bnd (fa ρ) k = some r) {T : VK} (hx : ∀ c, r = .ex c → XcOk X H0 G₀ G ρ c)
    (h : ∀ x v G1 H1, Grow G H G1 H1 → RepS X.K H0 G₀ G1 H1 σ ρ → Rep X.K G1 v x → k x = some r → T v H1) : rE X fa σ H T := by
  rcases bnd_some e with ⟨x, e1, e2⟩ | ⟨c, e1, e2⟩
  · exact ⟨ρ, _, H0, G₀, G, e1, R, fun v G1 H1 g1 rv => h x v G1 H1 g1 (R.more g1) rv e2⟩
  · exact ⟨ρ, _, H0, G₀, G, e1, R, hx c e2⟩
theorem bT {fa : TF} {β : Type} {k : Bool → Mm β} {r : Re β} (R : RepS X.K H0 G₀ G H σ ρ) (e : bnd (fa ρ) k = some r) {T : Bool → Hp → Prop} (hx : ∀ c, r = .ex c → XcOk X H0 G₀ G ρ c)
    (h : ∀ x G1 H1, Grow G H G1 H1 → RepS X.K H0 G₀ G1 H1 σ ρ → k x = some r → T x H1) : rT X fa σ H T := by
  rcases bnd_some e with ⟨x, e1, e2⟩ | ⟨c, e1, e2⟩
  · exact ⟨ρ, _, H0, G₀, G, e1, R, fun G1 H1 g1 => h x G1 H1 g1 (R.more g1) e2⟩
  · exact ⟨ρ, _, H0, G₀, G, e1, R, hx c e2⟩
theorem bA {fa : AF} {β : Type} {k : List PyData → Mm β} {r : Re β} (R : RepS X.K H0 G₀ G H σ ρ) (e : bnd (fa ρ) k = some r) {T : List V → Hp → Prop} (hx : ∀ c, r = .ex c → XcOk X H0 G₀ G ρ c)
    (h : ∀ x v G1 H1, Grow G H G1 H1 → RepS X.K H0 G₀ G1 H1 σ ρ → RepAll X.K G1 v x → k x = some r → T v H1) : rA X fa σ H T := by
  rcases bnd_some e with ⟨x, e1, e2⟩ | ⟨c, e1, e2⟩
  · exact ⟨ρ, _, H0, G₀, G, e1, R, fun v G1 H1 g1 rv => h x v G1 H1 g1 (R.more g1) rv e2⟩
  · exact ⟨ρ, _, H0, G₀, G, e1, R, hx c e2⟩
theorem EndE.x {Q : VK} {r : Re PyData} (q : EndE X H0 G₀ G ρ H Q r) : ∀ c, r = .ex c → XcOk X H0 G₀ G ρ c := fun c e => by subst e; exact q
theorem EndT.x {Q : Bool → Hp → Prop} {r : Re Bool} (q : EndT X H0 G₀ G ρ H Q r) : ∀ c, r = .ex c → XcOk X H0 G₀ G ρ c := fun c e => by subst e; exact q
theorem EndA.x {Q : List V → Hp → Prop} {r : Re (List PyData)} (q : EndA X H0 G₀ G ρ H Q r) : ∀ c, r = .ex c → XcOk X H0 G₀ G ρ c := fun c e => by subst e; exact q
end
section
variable {X : Cx} {e a b c : Expr} {es : List Expr} {pos p : Pos} {fa fb fc : EF}
theorem de_of {f : EF} (h : ∀ ρ r, f ρ = some r → ∃ d, r = .ok d ∧ PD X e ρ d) : DE X e f := ⟨fun pins s σ H Q I ⟨ρ, r, H0, G₀, G, ef, R, q⟩ => by
  obtain ⟨d, rfl, hd⟩ := h ρ r ef
  exact hd.run H0 G₀ G pins s σ H Q I R q⟩
theorem DE.pd {f : EF} (h : DE X e f) {ρ : List Ent} {d : PyData} (q : f ρ = some (.ok d)) : PD X e ρ d := ⟨fun H0 G₀ G pins s σ H Q I R k => h.run pins s σ H Q I ⟨ρ, _, H0, G₀, G, q, R, k⟩⟩
noncomputable def cst (d : PyData) : EF := fun _ => some (.ok d)
noncomputable def var (i : Nat) : EF := fun ρ => match ρ[i]? with
  | some (.val d) => some (.ok d)
  | _ => none
theorem de_int {i : Int} {j} : DE X (.Constant (.int i) j pos) (cst (.int i)) := de_of fun ρ r e => ⟨_, (Option.some.inj e).symm, pd_int⟩
theorem de_str {x : Str} {j} : DE X (.Constant (.str x) j pos) (cst (.str x)) := de_of fun ρ r e => ⟨_, (Option.some.inj e).symm, pd_str⟩
theorem de_bool {x : Bool} {j} : DE X (.Constant (.bool x) j pos) (cst (.bool x)) := de_of fun ρ r e => ⟨_, (Option.some.inj e).symm, pd_bool⟩
theorem de_none {j} : DE X (.Constant .none j pos) (cst .none) := de_of fun ρ r e => ⟨_, (Option.some.inj e).symm, pd_none⟩
theorem de_globI {x : Str} {i : Int} (hg : Gl X x) (hm : ∃ t, X.mg x = some (.int i t)) (hd : (x == ("__debug__" : Str)) = false := by decide) : DE X (.Name x pos) (cst (.int i)) := de_of fun ρ r e => ⟨_, (Option.some.inj e).symm, by
  obtain ⟨t, hm⟩ := hm
  exact pd_globI hg hm hd⟩
theorem var_is {i : Nat} {ρ : List Ent} {r : Re PyData} (h : var i ρ = some r) : ∃ d, r = .ok d ∧ ρ[i]? = some (.val d) := by
  unfold var at h
  split at h
  · rename_i d e; exact ⟨d, (Option.some.inj h).symm, e⟩
  · cases h
theorem de_var (i : Nat) {x : Str} (hN : X.N[i]? = some x := by rfl) (hv : Vis X.env.scope x := by first | exact Or.inl rfl | exact Or.inr (Or.inl rfl) | exact Or.inr (Or.inr rfl)) (hd : (x == ("__debug__" : Str)) = false := by decide)
    (hcd : (x == ("__classdict__" : Str)) = false := by decide) : DE X (.Name x pos) (var i) := de_of fun ρ r e => by
  obtain ⟨d, e1, e2⟩ := var_is e
  exact ⟨d, e1, pd_var i e2 hN hv hd hcd⟩
structure OpD (X : Cx) (op : Operator) (x y d : PyData) : Prop where
  ex : ∃ r : R2, OpR X (binaryOp op) r ∧ ∀ v u G H Q, Same G H → Rep X.K G v x → Rep X.K G u y → (∀ w G' H', Grow G H G' H' → Rep X.K G' w d → Q w H') → r v u H Q
noncomputable def op2 (g : PyData → PyData → Option PyData) (fa fb : EF) : EF := fun ρ => bnd (fa ρ) fun x => bnd (fb ρ) fun y => lft (g x y)
theorem opR_any {f : Value → Value → Sem Value} : OpR X f (fun v u H Q => ∃ r, OpR X f r ∧ r v u H Q) := fun pins s σ H x y v u Q I rx ry ⟨_, h, q⟩ => h pins s σ H x y v u Q I rx ry q
theorem de_bin {op : Operator} {g : PyData → PyData → Option PyData} (hg : ∀ x y d, g x y = some d → OpD X op x y d) (ha : DE X a fa) (hb : DE X b fb) : DE X (.BinOp a op b pos) (op2 g fa fb) :=
  ⟨fun pins s σ H Q I ⟨ρ, r, H0, G₀, G, e, R, q⟩ => pe_op opR_any ha.run hb.run pins s σ H Q I (bE R e q.x fun x v G1 H1 g1 R1 rv e1 => bE R1 e1 (q.more g1).x fun y u G2 H2 g2 R2 ru e2 => by
    obtain ⟨d, ed, rfl⟩ := lft_is e2
    obtain ⟨r, h1, h2⟩ := (hg x y d ed).ex
    exact ⟨r, h1, h2 v u G2 H2 Q g2.sub (rv.mono g2.gg) ru fun w G' H' g' rw' => q w G' H' ((g1.trans g2).trans g') rw'⟩)⟩
noncomputable def aNil : AF := fun _ => some (.ok [])
noncomputable def aCons (f : EF) (g : AF) : AF := fun ρ => bnd (f ρ) fun x => bnd (g ρ) fun xs => some (.ok (x :: xs))
theorem da_nil : DA X [] aNil := ⟨fun pos pins s σ H Q I ⟨ρ, r, H0, G₀, G, e, R, q⟩ => pa_nil pos pins s σ H Q I (by
  cases (Option.some.inj e); exact q [] G H (.refl R.sub) .nil)⟩
theorem da_cons {f : AF} (ha : DE X e fa) (hr : DA X es f) (hs : starEach (e :: es) X.env = (false, eval e X.env) :: starEach es X.env := by rfl) : DA X (e :: es) (aCons fa f) :=
  ⟨fun pos pins s σ H Q I ⟨ρ, r, H0, G₀, G, e, R, q⟩ => pa_cons ha.run hr.run hs pos pins s σ H Q I (bE R e q.x fun x v G1 H1 g1 R1 rv e1 => bA R1 e1 (q.more g1).x fun ys us G2 H2 g2 R2 ru e2 => by
    cases (Option.some.inj e2)
    exact q _ G2 H2 (g1.trans g2) (.cons (rv.mono g2.gg) ru))⟩
noncomputable def szOk (n : Nat) : Bool := decide (n ≤ 100000)
theorem sz_le {n : Nat} (h : szOk n = true) : n ≤ sizeLine := Nat.le_trans (of_decide_eq_true h) (by decide)
theorem sz_lt {n : Nat} (h : szOk n = true) : n < sizeLine := Nat.lt_of_le_of_lt (of_decide_eq_true h) (by decide)
noncomputable def mkTup (ds : List PyData) : Option PyData := if szOk ds.length then some (.tuple ds) else none
noncomputable def mkLst (ds : List PyData) : Option PyData := if szOk ds.length then some (.list ds) else none
noncomputable def tupE (f : AF) : EF := fun ρ => bnd (f ρ) fun xs => lft (mkTup xs)
noncomputable def lstE (f : AF) : EF := fun ρ => bnd (f ρ) fun xs => lft (mkLst xs)
theorem mkTup_is {ds : List PyData} {d : PyData} (h : mkTup ds = some d) : d = .tuple ds ∧ ds.length ≤ sizeLine := by
  unfold mkTup at h
  split at h
  · rename_i z; exact ⟨(Option.some.inj h).symm, sz_le z⟩
  · cases h
theorem mkLst_is {ds : List PyData} {d : PyData} (h : mkLst ds = some d) : d = .list ds ∧ ds.length ≤ sizeLine := by
  unfold mkLst at h
  split at h
  · rename_i z; exact ⟨(Option.some.inj h).symm, sz_le z⟩
  · cases h
theorem de_tup {x1} {f : AF} (h : DA X es f) : DE X (.Tuple es x1 pos) (tupE f) := ⟨fun pins s σ H Q I ⟨ρ, r, H0, G₀, G, e, R, q⟩ => pe_tup h.run pins s σ H Q I (bA R e q.x fun xs vs G1 H1 g1 R1 rv e1 => by
  obtain ⟨d, ed, rfl⟩ := lft_is e1
  obtain ⟨rfl, hz⟩ := mkTup_is ed
  exact ⟨by rw [rv.length]; exact hz, fun p hp => q _ _ _ (g1.trans (.put g1.sub hp)) (.tuple (.of upd_same) (rv.mono (same_upd (g1.sub.free hp))))⟩)⟩
theorem de_lst {f : AF} (h : DA X es f) : DE X (.List es pos) (lstE f) := ⟨fun pins s σ H Q I ⟨ρ, r, H0, G₀, G, e, R, q⟩ => pe_lst h.run pins s σ H Q I (bA R e q.x fun xs vs G1 H1 g1 R1 rv e1 => by
  obtain ⟨d, ed, rfl⟩ := lft_is e1
  obtain ⟨rfl, hz⟩ := mkLst_is ed
  exact ⟨by rw [rv.length]; exact hz, fun p hp => q _ _ _ (g1.trans (.put g1.sub hp)) (.list (.of upd_same) (rv.mono (same_upd (g1.sub.free hp))))⟩)⟩
noncomputable def cmpE (g : PyData → PyData → Option Bool) (fa fb : EF) : EF := fun ρ => bnd (fa ρ) fun x => bnd (fb ρ) fun y => lft ((g x y).map .bool)
noncomputable def cmpT (g : PyData → PyData → Option Bool) (fa fb : EF) : TF := fun ρ => bnd (fa ρ) fun x => bnd (fb ρ) fun y => lft (g x y)
theorem de_cmp {op : CmpOp} {g : PyData → PyData → Option Bool} (hg : ∀ x y t, g x y = some t → CmpD X op x y t) (ha : DE X a fa) (hb : DE X b fb) (hm : behindInMarks op b = false := by first | exact nomark _ | with_unfolding_all rfl) : DE X (.Compare a [op] [b] pos) (cmpE g fa fb) :=
  ⟨fun pins s σ H Q I ⟨ρ, r, H0, G₀, G, e, R, q⟩ => pe_cmpR opR_any ha.run hb.run hm pins s σ H Q I (bE R e q.x fun x v G1 H1 g1 R1 rv e1 => bE R1 e1 (q.more g1).x fun y u G2 H2 g2 R2 ru e2 => by
    obtain ⟨d, ed, rfl⟩ := lft_is e2
    obtain ⟨t, et, rfl⟩ := Option.map_eq_some_iff.mp ed
    obtain ⟨r, h1, h2⟩ := (hg x y t et).ex
    exact ⟨r, h1, h2 v u G2 H2 Q g2.sub (rv.mono g2.gg) ru (q _ _ _ (g1.trans g2) (.bool _))⟩)⟩
theorem dt_cmp {op : CmpOp} {g : PyData → PyData → Option Bool} (hg : ∀ x y t, g x y = some t → CmpD X op x y t) (ha : DE X a fa) (hb : DE X b fb) (hm : behindInMarks op b = false := by first | exact nomark _ | with_unfolding_all rfl) : DT X (.Compare a [op] [b] pos) (cmpT g fa fb) :=
  ⟨fun pins s σ H Q I ⟨ρ, r, H0, G₀, G, e, R, q⟩ => pt_cmpR opR_any ha.run hb.run hm pins s σ H Q I (bE R e q.x fun x v G1 H1 g1 R1 rv e1 => bE R1 e1 (q.more g1).x fun y u G2 H2 g2 R2 ru e2 => by
    obtain ⟨t, et, rfl⟩ := lft_is e2
    obtain ⟨r, h1, h2⟩ := (hg x y t et).ex
    exact ⟨r, h1, h2 v u G2 H2 _ g2.sub (rv.mono g2.gg) ru ⟨_, rfl, q _ _ (g1.trans g2)⟩⟩)⟩
noncomputable def chnE (g g' : PyData → PyData → Option Bool) (fa fb fc : EF) : EF := fun ρ => bnd (fa ρ) fun x => bnd (fb ρ) fun y => bnd (lft (g x y)) fun t => if t then bnd (fc ρ) fun z => lft ((g' y z).map .bool) else some (.ok (.bool false))
noncomputable def chnT (g g' : PyData → PyData → Option Bool) (fa fb fc : EF) : TF := fun ρ => bnd (fa ρ) fun x => bnd (fb ρ) fun y => bnd (lft (g x y)) fun t => if t then bnd (fc ρ) fun z => lft (g' y z) else some (.ok false)
theorem de_chn {op op' : CmpOp} {g g' : PyData → PyData → Option Bool} (hg : ∀ x y t, g x y = some t → CmpD X op x y t) (hg' : ∀ x y t, g' x y = some t → CmpD X op' x y t) (ha : DE X a fa) (hb : DE X b fb) (hc : DE X c fc)
    (hm : lastMarks [op, op'] [b, c] = false := by with_unfolding_all rfl) : DE X (.Compare a [op, op'] [b, c] pos) (chnE g g' fa fb fc) :=
  ⟨fun pins s σ H Q I ⟨ρ, r, H0, G₀, G, e, R, q⟩ => pe_chain opR_any opR_any ha.run hb.run hc.run hm pins s σ H Q I (bE R e q.x fun x v G1 H1 g1 R1 rv e1 => bE R1 e1 (q.more g1).x fun y u G2 H2 g2 R2 ru e2 => by
    rcases bnd_some e2 with ⟨t, et, e3⟩ | ⟨c, et, _⟩
    · obtain ⟨t', et', z⟩ := lft_is et
      cases z
      obtain ⟨r1, h1, h2⟩ := (hg x y _ et').ex
      refine ⟨r1, h1, h2 v u G2 H2 _ g2.sub (rv.mono g2.gg) ru ⟨_, rfl, ?_⟩⟩
      cases t with
      | false => rw [if_neg (by decide)] at e3 ⊢; cases (Option.some.inj e3); exact q _ _ _ (g1.trans g2) (.bool _)
      | true =>
        rw [if_pos rfl] at e3 ⊢
        exact bE R2 e3 ((q.more g1).more g2).x fun z w G3 H3 g3 R3 rw' e4 => by
          obtain ⟨d, ed, rfl⟩ := lft_is e4
          obtain ⟨t, et, rfl⟩ := Option.map_eq_some_iff.mp ed
          obtain ⟨r2, h3, h4⟩ := (hg' y z t et).ex
          exact ⟨r2, h3, h4 u w G3 H3 Q g3.sub (ru.mono g3.gg) rw' (q _ _ _ ((g1.trans g2).trans g3) (.bool _))⟩
    · obtain ⟨_, _, z⟩ := lft_is et; cases z)⟩
theorem dt_chn {op op' : CmpOp} {g g' : PyData → PyData → Option Bool} (hg : ∀ x y t, g x y = some t → CmpD X op x y t) (hg' : ∀ x y t, g' x y = some t → CmpD X op' x y t) (ha : DE X a fa) (hb : DE X b fb) (hc : DE X c fc)
    (hm : lastMarks [op, op'] [b, c] = false := by with_unfolding_all rfl) : DT X (.Compare a [op, op'] [b, c] pos) (chnT g g' fa fb fc) :=
  ⟨fun pins s σ H Q I ⟨ρ, r, H0, G₀, G, e, R, q⟩ => pt_chain opR_any opR_any ha.run hb.run hc.run hm pins s σ H Q I (bE R e q.x fun x v G1 H1 g1 R1 rv e1 => bE R1 e1 (q.more g1).x fun y u G2 H2 g2 R2 ru e2 => by
    rcases bnd_some e2 with ⟨t, et, e3⟩ | ⟨c, et, _⟩
    · obtain ⟨t', et', z⟩ := lft_is et
      cases z
      obtain ⟨r1, h1, h2⟩ := (hg x y _ et').ex
      refine ⟨r1, h1, h2 v u G2 H2 _ g2.sub (rv.mono g2.gg) ru ⟨_, rfl, ?_⟩⟩
      cases t with
      | false => rw [if_neg (by decide)] at e3; cases (Option.some.inj e3); exact iteF ⟨false, rfl, q _ _ (g1.trans g2)⟩
      | true =>
        rw [if_pos rfl] at e3
        refine iteT ?_
        exact bE R2 e3 ((q.more g1).more g2).x fun z w G3 H3 g3 R3 rw' e4 => by
          obtain ⟨t, et, rfl⟩ := lft_is e4
          obtain ⟨r2, h3, h4⟩ := (hg' y z t et).ex
          exact ⟨r2, h3, h4 u w G3 H3 _ g3.sub (ru.mono g3.gg) rw' ⟨_, rfl, q _ _ ((g1.trans g2).trans g3)⟩⟩
    · obtain ⟨_, _, z⟩ := lft_is et; cases z)⟩
end
end L2.L3
namespace L2.L3
open PySem PySem.Spec PyProof.Rows
section
variable {X : Cx} {e a b c : Expr} {es rest : List Expr} {pos p : Pos} {fa fb fc : EF} {ft fu : TF}
noncomputable def truD : PyData → Option Bool
  | .none => some false
  | .bool b => some b
  | .int i => some (i != 0)
  | .str x => if szOk x.length then some ((x.length : Int) != 0) else none
  | .list ds => some (!ds.isEmpty)
  | .tuple ds => some (!ds.isEmpty)
  | .dict _ => none
theorem rep_empty {K : PySem.W.Frag} {G : Hp} {vs : List V} {ds : List PyData} (r : RepAll K G vs ds) : ds.isEmpty = vs.isEmpty := by
  have h := r.length
  cases vs <;> cases ds <;> simp at h ⊢
theorem tru_rep {K : PySem.W.Frag} {G H : Hp} {v : V} {d : PyData} {t : Bool} (s : Same G H) (r : Rep K G v d) (h : truD d = some t) : TruV K v H t := by
  cases r with
  | none => exact (Option.some.inj h).symm
  | bool b => exact (Option.some.inj h).symm
  | int i => exact (Option.some.inj h).symm
  | str x =>
    have h : (if szOk x.length = true then some ((x.length : Int) != 0) else none) = some t := h
    split at h
    · rename_i z; exact ⟨sz_le z, (Option.some.inj h).symm⟩
    · cases h
  | list hq r => exact .inl ⟨_, s.seq hq, by rw [← rep_empty r]; exact (Option.some.inj h).symm⟩
  | tuple hq r => exact .inr (.inl ⟨_, seqT s hq, by rw [← rep_empty r]; exact (Option.some.inj h).symm⟩)
  | dict _ _ _ => cases h
noncomputable def truT (fa : EF) : TF := fun ρ => bnd (fa ρ) fun x => lft (truD x)
theorem dt_tru (ha : DE X a fa) (he : ∀ whole, isTrue a X.env whole = (do let v ← whole; standAt a.pos; holding [v] (truthy v)) := by intro _; rfl) : DT X a (truT fa) :=
  ⟨fun pins s σ H Q I ⟨ρ, r, H0, G₀, G, e, R, q⟩ => pt_truth ha.run he pins s σ H Q I (bE R e q.x fun x v G1 H1 g1 R1 rv e1 => by
    obtain ⟨t, et, rfl⟩ := lft_is e1
    exact ⟨t, tru_rep g1.sub rv et, q _ _ g1⟩)⟩
noncomputable def notT (ft : TF) : TF := fun ρ => bnd (ft ρ) fun t => some (.ok (!t))
theorem dt_not (ha : DT X a ft) : DT X (.UnaryOp .Not a pos) (notT ft) :=
  ⟨fun pins s σ H Q I ⟨ρ, r, H0, G₀, G, e, R, q⟩ => pt_not ha.run pins s σ H Q I (bT R e q.x fun t G1 H1 g1 R1 e1 => by
    cases (Option.some.inj e1); exact q _ _ g1)⟩
noncomputable def boolD : PyData → Option Bool
  | .bool b => some b
  | _ => none
noncomputable def notE (fa : EF) : EF := fun ρ => bnd (fa ρ) fun x => lft ((boolD x).map fun t => .bool (!t))
theorem boolD_is {d : PyData} {t : Bool} (h : boolD d = some t) : d = .bool t := by
  cases d <;> first | (cases h; done) | (cases (Option.some.inj h); rfl)
theorem de_not (ha : DE X a fa) : DE X (.UnaryOp .Not a pos) (notE fa) :=
  ⟨fun pins s σ H Q I ⟨ρ, r, H0, G₀, G, e, R, q⟩ => pe_not ha.run pins s σ H Q I (bE R e q.x fun x v G1 H1 g1 R1 rv e1 => by
    obtain ⟨d, ed, rfl⟩ := lft_is e1
    obtain ⟨t, et, rfl⟩ := Option.map_eq_some_iff.mp ed
    cases boolD_is et
    cases rv
    exact ⟨_, rfl, q _ _ _ g1 (.bool _)⟩)⟩
noncomputable def andT (f g : TF) : TF := fun ρ => bnd (f ρ) fun t => if t then g ρ else some (.ok false)
noncomputable def orT (f g : TF) : TF := fun ρ => bnd (f ρ) fun t => if t then some (.ok true) else g ρ
theorem dw_or1 (ha : DT X a ft) : DW X (.BoolOp .Or [a] pos) ft := ⟨pw_or1 ha.run⟩
theorem dw_or (ha : DT X a ft) (hb : DW X (.BoolOp .Or (b :: rest) pos) fu) : DW X (.BoolOp .Or (a :: b :: rest) pos) (orT ft fu) :=
  ⟨fun wh pins s σ H Q I ⟨ρ, r, H0, G₀, G, e, R, q⟩ => pw_or ha.run hb.run wh pins s σ H Q I (bT R e q.x fun t G1 H1 g1 R1 e1 => by
    cases t with
    | true => rw [if_pos rfl] at e1 ⊢; cases (Option.some.inj e1); exact q _ _ g1
    | false => rw [if_neg (by decide)] at e1 ⊢; exact ⟨ρ, r, H0, G₀, G1, e1, R1, q.more g1⟩)⟩
theorem DW.dt (h : DW X e ft) : DT X e ft := ⟨h.run _⟩
noncomputable def andE (f g : EF) : EF := fun ρ => bnd (f ρ) fun x => bnd (lft (boolD x)) fun t => if t then g ρ else some (.ok (.bool false))
noncomputable def orE (f g : EF) : EF := fun ρ => bnd (f ρ) fun x => bnd (lft (boolD x)) fun t => if t then some (.ok (.bool true)) else g ρ
theorem de_one {op} (ha : DE X a fa) : DE X (.BoolOp op [a] pos) fa := ⟨pe_one ha.run⟩
theorem de_and (ha : DE X a fa) (hb : DE X (.BoolOp .And (b :: rest) pos) fb) : DE X (.BoolOp .And (a :: b :: rest) pos) (andE fa fb) :=
  ⟨fun pins s σ H Q I ⟨ρ, r, H0, G₀, G, e, R, q⟩ => pe_and ha.run hb.run pins s σ H Q I (bE R e q.x fun x v G1 H1 g1 R1 rv e1 => by
    rcases bnd_some e1 with ⟨t, et, e2⟩ | ⟨c, et, _⟩
    · obtain ⟨t', et', z⟩ := lft_is et
      cases z
      cases boolD_is et'
      cases rv
      refine ⟨t, rfl, ?_⟩
      cases t with
      | true => rw [if_pos rfl] at e2 ⊢; exact ⟨ρ, r, H0, G₀, G1, e2, R1, q.more g1⟩
      | false => rw [if_neg (by decide)] at e2 ⊢; cases (Option.some.inj e2); exact q _ _ _ g1 (.bool _)
    · obtain ⟨_, _, z⟩ := lft_is et; cases z)⟩
noncomputable def ifE (f : TF) (fa fb : EF) : EF := fun ρ => bnd (f ρ) fun t => if t then fa ρ else fb ρ
noncomputable def ixD (x i : PyData) : Option PyData := match x, i with
  | .tuple ds, .int k => atI ds k
  | .list ds, .int k => atI ds k
  | .str z, .int k => if szOk z.length then (atI z.cps.toList k).map fun c => .str ⟨#[c]⟩ else none
  | _, _ => none
theorem ixD_rep {K : PySem.W.Frag} {G H : Hp} {v u : V} {x i d : PyData} {Q : VK} (s : Same G H) (rv : Rep K G v x) (ru : Rep K G u i) (h : ixD x i = some d) (q : ∀ w, Rep K G w d → Q w H) : rIx K v u H Q := by
  cases ru with
  | int k =>
    cases rv with
    | tuple hq r =>
      obtain ⟨w, e, rw'⟩ := atI_rep r (show atI _ k = some d from h)
      exact .inr (.inl ⟨_, _, _, w, rfl, rfl, seqT s hq, e, q w rw'⟩)
    | list hq r =>
      obtain ⟨w, e, rw'⟩ := atI_rep r (show atI _ k = some d from h)
      exact .inl ⟨_, _, _, w, rfl, rfl, s.seq hq, e, q w rw'⟩
    | str z =>
      have h : (if szOk z.length = true then (atI z.cps.toList k).map fun c => PyData.str ⟨#[c]⟩ else none) = some d := h
      split at h
      · rename_i hz
        obtain ⟨c, ec, rfl⟩ := Option.map_eq_some_iff.mp h
        exact .inr (.inr ⟨_, _, c, rfl, rfl, sz_le hz, ec, q _ (.str _)⟩)
      · cases h
    | none => cases h
    | bool b => cases h
    | int j => cases h
    | dict _ _ _ => cases h
  | none => cases rv <;> cases h
  | bool b => cases rv <;> cases h
  | str b => cases rv <;> cases h
  | list _ _ => cases rv <;> cases h
  | tuple _ _ => cases rv <;> cases h
  | dict _ _ _ => cases rv <;> cases h
theorem de_ix (ha : DE X a fa) (hb : DE X b fb) (hs : PlainIx b := by exact fun _ _ => rfl) : DE X (.Subscript a b pos) (op2 ixD fa fb) :=
  ⟨fun pins s σ H Q I ⟨ρ, r, H0, G₀, G, e, R, q⟩ => pe_ix ix_seq ha.run hb.run hs pins s σ H Q I (bE R e q.x fun x v G1 H1 g1 R1 rv e1 => bE R1 e1 (q.more g1).x fun y u G2 H2 g2 R2 ru e2 => by
    obtain ⟨d, ed, rfl⟩ := lft_is e2
    exact ixD_rep g2.sub (rv.mono g2.gg) ru ed fun w rw' => q w _ _ (g1.trans g2) rw')⟩
structure CallD (X : Cx) (f : Value) (ds : List PyData) (d : PyData) : Prop where
  ex : ∃ r : List V → Hp → VK → Prop, CallR X f r ∧ ∀ vs G H Q, Same G H → RepAll X.K G vs ds → (∀ w G' H', Grow G H G' H' → Rep X.K G' w d → Q w H') → r vs H Q
theorem callR_any {f : Value} : CallR X f (fun vs H Q => ∃ r, CallR X f r ∧ r vs H Q) := fun pins s σ H vs us Q I rx ⟨_, h, q⟩ => h pins s σ H vs us Q I rx q
noncomputable def bltE (g : List PyData → Option PyData) (fa : AF) : EF := fun ρ => bnd (fa ρ) fun xs => lft (g xs)
theorem de_callB {id : String} {x : Str} {g : List PyData → Option PyData} {f : AF} (hd : ∀ ds d, g ds = some d → CallD X (.builtin id) ds d) (hm : X.mg x = none) (hv : bootBuiltins x = some (.builtin id)) (ha : DA X (e :: es) f) (hg : Gl X x := by rfl)
    (hn : x ≠ "__name__" := by decide) (hdb : (x == ("__debug__" : Str)) = false := by decide)
    (he : starEach (e :: es) X.env = (false, eval e X.env) :: starEach es X.env := by rfl) (hpl : (backTo pos (starEach es X.env)).any (·.1) = false := by rfl) : DE X (.Call (.Name x p) (e :: es) [] pos) (bltE g f) :=
  ⟨fun pins s σ H Q I ⟨ρ, r, H0, G₀, G, e, R, q⟩ => pe_callB callR_any hg hm hv ha.run hn hdb he hpl pins s σ H Q I (bA R e q.x fun xs vs G1 H1 g1 R1 rv e1 => by
    obtain ⟨d, ed, rfl⟩ := lft_is e1
    obtain ⟨r, h1, h2⟩ := (hd xs d ed).ex
    exact ⟨r, h1, h2 vs G1 H1 Q g1.sub rv fun w G' H' g' rw' => q w G' H' (g1.trans g') rw'⟩)⟩
theorem de_callT {T : String} {x : Str} {g : List PyData → Option PyData} {f : AF} (hd : ∀ ds d, g ds = some d → CallD X (.type T) ds d) (hm : X.mg x = none) (hv : bootBuiltins x = some (.type T)) (ha : DA X (e :: es) f) (hg : Gl X x := by rfl)
    (hn : x ≠ "__name__" := by decide) (hdb : (x == ("__debug__" : Str)) = false := by decide)
    (he : starEach (e :: es) X.env = (false, eval e X.env) :: starEach es X.env := by rfl) (hpl : (backTo pos (starEach es X.env)).any (·.1) = false := by rfl) : DE X (.Call (.Name x p) (e :: es) [] pos) (bltE g f) :=
  ⟨fun pins s σ H Q I ⟨ρ, r, H0, G₀, G, e, R, q⟩ => pe_callTy callR_any hg hm hv ha.run hn hdb he hpl pins s σ H Q I (bA R e q.x fun xs vs G1 H1 g1 R1 rv e1 => by
    obtain ⟨d, ed, rfl⟩ := lft_is e1
    obtain ⟨r, h1, h2⟩ := (hd xs d ed).ex
    exact ⟨r, h1, h2 vs G1 H1 Q g1.sub rv fun w G' H' g' rw' => q w G' H' (g1.trans g') rw'⟩)⟩
noncomputable def frzE : Ent → Ent
  | .lst ds => .val (.list ds)
  | .dct kvs => .val (.dict (kvs.map fun p => (keyD p.1, p.2)))
  | e => e
noncomputable def frzAll (ρ : List Ent) : List Ent := ρ.map frzE
end
end L2.L3
namespace L2.L3
open PySem PySem.Spec PyProof.Rows
section
variable {K : PySem.W.Frag} {H0 G₀ G H : Hp} {σ : St} {ρ : List Ent}
theorem frz_step (ρ : List Ent) (n : Nat) : (∃ e, ρ[n]? = some e ∧ (ρ.take (n + 1)).map frzE ++ ρ.drop (n + 1) = ((ρ.take n).map frzE ++ ρ.drop n).set n (frzE e)) ∨ (ρ[n]? = none ∧ (ρ.take (n + 1)).map frzE ++ ρ.drop (n + 1) = (ρ.take n).map frzE ++ ρ.drop n) := by
  by_cases hn : n < ρ.length
  · refine .inl ⟨ρ[n], by simp [hn], ?_⟩
    apply List.ext_getElem?
    intro j
    rw [List.getElem?_set]
    by_cases hj : j < n
    · rw [if_neg (by omega), List.getElem?_append_left (by simp; omega), List.getElem?_append_left (by simp; omega), List.getElem?_map, List.getElem?_map, List.getElem?_take_of_lt (by omega), List.getElem?_take_of_lt (by omega)]
    · by_cases hj2 : j = n
      · subst hj2
        rw [if_pos rfl, if_pos (by simp; omega), List.getElem?_append_left (by simp; omega), List.getElem?_map, List.getElem?_take_of_lt (by omega)]
        simp [hn]
      · rw [if_neg (by omega), List.getElem?_append_right (by simp; omega), List.getElem?_append_right (by simp; omega), List.getElem?_drop, List.getElem?_drop]
        simp only [List.length_map, List.length_take]
        congr 1
        omega
  · refine .inr ⟨by simp; omega, ?_⟩
    rw [List.take_of_length_le (by omega), List.take_of_length_le (by omega), List.drop_of_length_le (by omega), List.drop_of_length_le (by omega)]
theorem RepS.frzTo (R : RepS K H0 G₀ G H σ ρ) : ∀ n : Nat, ∃ G', Same G G' ∧ RepS K H0 G₀ G' H σ ((ρ.take n).map frzE ++ ρ.drop n)
  | 0 => ⟨G, .refl _, by simpa using R⟩
  | n + 1 => by
    obtain ⟨G1, s1, R1⟩ := R.frzTo n
    rcases frz_step ρ n with ⟨e, he, eq⟩ | ⟨_, eq⟩
    · have hn : n < ρ.length := (List.getElem?_eq_some_iff.mp he).1
      have at' : ((ρ.take n).map frzE ++ ρ.drop n)[n]? = some e := by
        rw [List.getElem?_append_right (by simp; omega), List.getElem?_drop]
        simp only [List.length_map, List.length_take]
        rw [show n + (n - min n ρ.length) = n by omega]
        exact he
      rw [eq]
      cases e with
      | lst ds =>
        obtain ⟨G2, s2, R2⟩ := R1.freeze at'
        exact ⟨G2, s1.trans s2, R2⟩
      | dct kvs =>
        obtain ⟨G2, s2, R2⟩ := R1.freezeD at'
        exact ⟨G2, s1.trans s2, R2⟩
      | val d =>
        refine ⟨G1, s1, ?_⟩
        have : ((ρ.take n).map frzE ++ ρ.drop n).set n (frzE (.val d)) = (ρ.take n).map frzE ++ ρ.drop n := by
          apply List.ext_getElem?
          intro j
          rw [List.getElem?_set]
          split
          · rename_i h; subst h
            rw [at']
            have := (List.getElem?_eq_some_iff.mp at').1
            rw [if_pos this]; rfl
          · rfl
        rw [this]; exact R1
      | no =>
        refine ⟨G1, s1, ?_⟩
        have : ((ρ.take n).map frzE ++ ρ.drop n).set n (frzE .no) = (ρ.take n).map frzE ++ ρ.drop n := by
          apply List.ext_getElem?
          intro j
          rw [List.getElem?_set]
          split
          · rename_i h; subst h
            rw [at']
            have := (List.getElem?_eq_some_iff.mp at').1
            rw [if_pos this]; rfl
          · rfl
        rw [this]; exact R1
      | exc c =>
        refine ⟨G1, s1, ?_⟩
        have : ((ρ.take n).map frzE ++ ρ.drop n).set n (frzE (.exc c)) = (ρ.take n).map frzE ++ ρ.drop n := by
          apply List.ext_getElem?
          intro j
          rw [List.getElem?_set]
          split
          · rename_i h; subst h
            rw [at']
            have := (List.getElem?_eq_some_iff.mp at').1
            rw [if_pos this]; rfl
          · rfl
        rw [this]; exact R1
      | nst dss =>
        refine ⟨G1, s1, ?_⟩
        have : ((ρ.take n).map frzE ++ ρ.drop n).set n (frzE (.nst dss)) = (ρ.take n).map frzE ++ ρ.drop n := by
          apply List.ext_getElem?
          intro j
          rw [List.getElem?_set]
          split
          · rename_i h; subst h
            rw [at']
            have := (List.getElem?_eq_some_iff.mp at').1
            rw [if_pos this]; rfl
          · rfl
        rw [this]; exact R1
    · rw [eq]; exact ⟨G1, s1, R1⟩
theorem RepS.frzAll (R : RepS K H0 G₀ G H σ ρ) : ∃ G', Same G G' ∧ RepS K H0 G₀ G' H σ (frzAll ρ) := by
  obtain ⟨G', s, R'⟩ := R.frzTo ρ.length
  refine ⟨G', s, ?_⟩
  have : (ρ.take ρ.length).map frzE ++ ρ.drop ρ.length = L3.frzAll ρ := by simp [L3.frzAll]
  rw [this] at R'
  exact R'
end
section
variable {X : Cx} {e a b c : Expr} {es rest : List Expr} {pos p : Pos} {fa fb fc : EF} {ft fu : TF}
noncomputable def thT (f : TF) : TF := fun ρ => match f (frzAll ρ) with
  | some (.ok b) => some (.ok b)
  | _ => none
theorem dt_th (h : DT X e ft) : DT X e (thT ft) := ⟨fun pins s σ H Q I ⟨ρ, r, H0, G₀, G, ef, R, q⟩ => by
  unfold thT at ef
  split at ef
  · rename_i b eb
    cases (Option.some.inj ef)
    obtain ⟨G', s', R'⟩ := R.frzAll
    exact h.run pins s σ H Q I ⟨_, _, H0, G₀, G', eb, R', fun G2 H2 g2 => q G H2 ⟨.refl _, g2.hh, s'.trans (g2.gg.trans g2.sub), fun _ z _ => z, id⟩⟩
  · cases ef⟩
end
inductive So where
  | nx (ρ : List Ent)
  | rt (d : PyData)
  | bk (ρ : List Ent)
  | ct (ρ : List Ent)
  | xc (c : Str) (ρ : List Ent)
noncomputable abbrev SF := List Ent → Option So
noncomputable def bns {α : Type} (m : Mm α) (ρ : List Ent) (k : α → Option So) : Option So := match m with
  | some (.ok a) => k a
  | some (.ex c) => some (.xc c ρ)
  | none => none
theorem bns_some {α : Type} {m : Mm α} {ρ : List Ent} {k : α → Option So} {r : So} (h : bns m ρ k = some r) : (∃ a, m = some (.ok a) ∧ k a = some r) ∨ ∃ c, m = some (.ex c) ∧ r = .xc c ρ := by
  match m, h with
  | some (.ok a), h => exact .inl ⟨a, rfl, h⟩
  | some (.ex c), h => exact .inr ⟨c, rfl, (Option.some.inj h).symm⟩
  | none, h => cases h
noncomputable def EndS (X : Cx) (H0 G₀ G : Hp) (D : Ends) : So → Prop
  | .nx ρ => ∀ G' H' σ', Same G G' → RepS X.K H0 G₀ G' H' σ' ρ → D.nx σ' H'
  | .rt d => ∀ v G' H', Same G G' → Grow G₀ H0 G' H' → Rep X.K G' v d → D.rt v H'
  | .bk ρ => ∀ G' H' σ', Same G G' → RepS X.K H0 G₀ G' H' σ' ρ → D.bk σ' H'
  | .ct ρ => ∀ G' H' σ', Same G G' → RepS X.K H0 G₀ G' H' σ' ρ → D.ct σ' H'
  | .xc c ρ => XcOk X H0 G₀ G ρ c
theorem EndS.mono {X : Cx} {H0 G₀ G G' : Hp} {D : Ends} {o : So} (h : EndS X H0 G₀ G D o) (s : Same G G') : EndS X H0 G₀ G' D o := by
  cases o with
  | nx ρ => exact fun G2 H' σ' s2 R => h G2 H' σ' (s.trans s2) R
  | rt d => exact fun v G2 H' s2 g r => h v G2 H' (s.trans s2) g r
  | bk ρ => exact fun G2 H' σ' s2 R => h G2 H' σ' (s.trans s2) R
  | ct ρ => exact fun G2 H' σ' s2 R => h G2 H' σ' (s.trans s2) R
  | xc c ρ => exact XcOk.mono h s
noncomputable def rS (X : Cx) (f : SF) : TS := fun D σ H => ∃ ρ o H0 G₀ G, f ρ = some o ∧ RepS X.K H0 G₀ G H σ ρ ∧ EndS X H0 G₀ G D o
structure DS (X : Cx) (st : Stmt) (f : SF) : Prop where
  run : PS X st (rS X f)
structure DB (X : Cx) (sts : List Stmt) (f : SF) : Prop where
  run : PSs X sts (rS X f)
section
variable {X : Cx} {H0 G₀ G H : Hp} {ρ : List Ent} {σ : St} {D : Ends} {o : So}
theorem sE {fa : EF} {k : PyData → Option So} (R : RepS X.K H0 G₀ G H σ ρ) (e : bns (fa ρ) ρ k = some o) (q : EndS X H0 G₀ G D o) {T : VK}
    (h : ∀ x v G1 H1, Grow G H G1 H1 → RepS X.K H0 G₀ G1 H1 σ ρ → Rep X.K G1 v x → k x = some o → EndS X H0 G₀ G1 D o → T v H1) : rE X fa σ H T := by
  rcases bns_some e with ⟨x, e1, e2⟩ | ⟨c, e1, e2⟩
  · exact ⟨ρ, _, H0, G₀, G, e1, R, fun v G1 H1 g1 rv => h x v G1 H1 g1 (R.more g1) rv e2 (q.mono g1.gg)⟩
  · subst e2; exact ⟨ρ, _, H0, G₀, G, e1, R, q⟩
theorem sA {fa : AF} {k : List PyData → Option So} (R : RepS X.K H0 G₀ G H σ ρ) (e : bns (fa ρ) ρ k = some o) (q : EndS X H0 G₀ G D o) {T : List V → Hp → Prop}
    (h : ∀ x v G1 H1, Grow G H G1 H1 → RepS X.K H0 G₀ G1 H1 σ ρ → RepAll X.K G1 v x → k x = some o → EndS X H0 G₀ G1 D o → T v H1) : rA X fa σ H T := by
  rcases bns_some e with ⟨x, e1, e2⟩ | ⟨c, e1, e2⟩
  · exact ⟨ρ, _, H0, G₀, G, e1, R, fun v G1 H1 g1 rv => h x v G1 H1 g1 (R.more g1) rv e2 (q.mono g1.gg)⟩
  · subst e2; exact ⟨ρ, _, H0, G₀, G, e1, R, q⟩
theorem sT {fa : TF} {k : Bool → Option So} (R : RepS X.K H0 G₀ G H σ ρ) (e : bns (fa ρ) ρ k = some o) (q : EndS X H0 G₀ G D o) {T : Bool → Hp → Prop}
    (h : ∀ x G1 H1, Grow G H G1 H1 → RepS X.K H0 G₀ G1 H1 σ ρ → k x = some o → EndS X H0 G₀ G1 D o → T x H1) : rT X fa σ H T := by
  rcases bns_some e with ⟨x, e1, e2⟩ | ⟨c, e1, e2⟩
  · exact ⟨ρ, _, H0, G₀, G, e1, R, fun G1 H1 g1 => h x G1 H1 g1 (R.more g1) e2 (q.mono g1.gg)⟩
  · subst e2; exact ⟨ρ, _, H0, G₀, G, e1, R, q⟩
end
section
variable {X : Cx} {st : Stmt} {rest : List Stmt} {f g : SF} {fa fb : EF} {ft : TF} {e c b : Expr} {pos : Pos}
noncomputable def nilS : SF := fun ρ => some (.nx ρ)
noncomputable def seqS (f g : SF) : SF := fun ρ => match f ρ with
  | some (.nx ρ') => g ρ'
  | r => r
theorem db_nil : DB X [] nilS := ⟨fun pins s σ H D I ⟨ρ, o, H0, G₀, G, e, R, q⟩ => pss_nil pins s σ H D I (by cases (Option.some.inj e); exact q G H σ (.refl _) R)⟩
theorem db_cons (h1 : DS X st f) (h2 : DB X rest g) : DB X (st :: rest) (seqS f g) := ⟨fun pins s σ H D I ⟨ρ, o, H0, G₀, G, e, R, q⟩ => by
  unfold seqS at e
  split at e
  · rename_i ρ' e1
    refine wpAny_execs_cons (thn (h1.run pins s σ H { D with nx := fun σ' H' => rS X g D σ' H' } I ⟨ρ, _, H0, G₀, G, e1, R, fun G' H' σ' s' R' => ⟨ρ', o, H0, G₀, G', e, R', q.mono s'⟩⟩) fun fl s1 z => ?_)
    cases fl with
    | next => obtain ⟨σ', H', I', z⟩ := z; exact h2.run pins s1 σ' H' D I' z
    | ret v => exact z
    | brk => exact z
    | cont => exact z
  · rename_i z
    have hn : ∀ ρ', o ≠ .nx ρ' := fun ρ' w => z ρ' (by rw [e, w])
    have q' : EndS X H0 G₀ G { D with nx := fun _ _ => False } o := by
      cases o with
      | nx ρ' => exact absurd rfl (hn ρ')
      | rt d => exact q
      | bk ρ' => exact q
      | ct ρ' => exact q
      | xc c ρ' => exact q
    refine wpAny_execs_cons (thn (h1.run pins s σ H { D with nx := fun _ _ => False } I ⟨ρ, o, H0, G₀, G, e, R, q'⟩) fun fl s1 z => ?_)
    cases fl with
    | next => obtain ⟨_, _, _, z⟩ := z; exact z.elim
    | ret v => exact z
    | brk => exact z
    | cont => exact z⟩
theorem db_one (h : DS X st f) : DB X [st] f := ⟨pss_one h.run⟩
noncomputable def frzS (i : Nat) (f : SF) : SF := fun ρ => match ρ[i]? with
  | some (.lst ds) => f (ρ.set i (.val (.list ds)))
  | some (.dct kvs) => f (ρ.set i (.val (.dict (kvs.map fun p => (keyD p.1, p.2)))))
  | _ => f ρ
theorem db_frz (i : Nat) (h : DB X rest f) : DB X rest (frzS i f) := ⟨fun pins s σ H D I ⟨ρ, o, H0, G₀, G, e, R, q⟩ => by
  unfold frzS at e
  split at e
  · rename_i ds hi
    obtain ⟨G', s', R'⟩ := R.freeze hi
    exact h.run pins s σ H D I ⟨_, o, H0, G₀, G', e, R', q.mono s'⟩
  · rename_i kvs hi
    obtain ⟨G', s', R'⟩ := R.freezeD hi
    exact h.run pins s σ H D I ⟨_, o, H0, G₀, G', e, R', q.mono s'⟩
  · exact h.run pins s σ H D I ⟨ρ, o, H0, G₀, G, e, R, q⟩⟩
noncomputable def retS (fa : EF) : SF := fun ρ => bns (fa ρ) ρ fun d => some (.rt d)
theorem ds_ret (h : DE X e fa) : DS X (.Return (some e) pos) (retS fa) := ⟨fun pins s σ H D I ⟨ρ, o, H0, G₀, G, e, R, q⟩ => ps_ret h.run pins s σ H D I (sE R e q fun x v G1 H1 g1 R1 rv e1 q1 => by
  cases (Option.some.inj e1); exact q1 v G1 H1 (.refl _) R1.grow rv)⟩
noncomputable def exprS (fa : EF) : SF := fun ρ => bns (fa ρ) ρ fun _ => some (.nx ρ)
noncomputable def ifS (ft : TF) (f g : SF) : SF := fun ρ => bns (ft ρ) ρ fun t => if t then f ρ else g ρ
theorem ds_if {x y : List Stmt} (hc : DT X c ft) (ha : DB X x f) (hb : DB X y g) : DS X (.If c x y pos) (ifS ft f g) := ⟨fun pins s σ H D I ⟨ρ, o, H0, G₀, G, e, R, q⟩ => ps_if hc.run ha.run hb.run pins s σ H D I (sT R e q fun t G1 H1 g1 R1 e1 q1 => by
  cases t with
  | true => rw [if_pos rfl] at e1 ⊢; exact ⟨ρ, o, H0, G₀, G1, e1, R1, q1⟩
  | false => rw [if_neg (by decide)] at e1 ⊢; exact ⟨ρ, o, H0, G₀, G1, e1, R1, q1⟩)⟩
noncomputable def setS (i : Nat) (fa : EF) : SF := fun ρ => bns (fa ρ) ρ fun d => some (.nx (ρ.set i (.val d)))
theorem ds_set (i : Nat) {x : Str} {p : Pos} (hN : X.N.Nodup) (h : DE X e fa) (hi : X.N[i]? = some x := by rfl) (hx : Loc X.env.scope x := by first | exact Or.inl rfl | exact Or.inr rfl)
    (hs : swapsWith e (some (.Name x p)) pos.line X.env = pure false := by rfl) (hf : X.fn x = true ∨ X.env.scope.names.lookup x = some .local := by first | exact .inl rfl | exact .inr rfl) :
    DS X (.Assign [.Name x p] e pos) (setS i fa) := ⟨fun pins s σ H D I ⟨ρ, o, H0, G₀, G, e, R, q⟩ => ps_set hN hi hx h.run hs hf pins s σ H D I (sE R e q fun x v G1 H1 g1 R1 rv e1 q1 => by
  cases (Option.some.inj e1); exact q1 G1 H1 _ (.refl _) (R1.set rv))⟩
noncomputable def newS (i : Nat) (f : AF) : SF := fun ρ => bns (f ρ) ρ fun ds => if szOk ds.length then some (.nx (ρ.set i (.lst ds))) else none
theorem ds_new (i : Nat) {x : Str} {p p2 : Pos} {es : List Expr} {f : AF} (hN : X.N.Nodup) (h : DA X es f) (hi : X.N[i]? = some x := by rfl) (hx : Loc X.env.scope x := by first | exact Or.inl rfl | exact Or.inr rfl)
    (hs : swapsWith (.List es p2) (some (.Name x p)) pos.line X.env = pure false := by rfl) (hf : X.fn x = true ∨ X.env.scope.names.lookup x = some .local := by first | exact .inl rfl | exact .inr rfl) :
    DS X (.Assign [.Name x p] (.List es p2) pos) (newS i f) := ⟨fun pins s σ H D I ⟨ρ, o, H0, G₀, G, e, R, q⟩ => ps_set hN hi hx (pe_lst h.run) hs hf pins s σ H D I (sA R e q fun ds vs G1 H1 g1 R1 rv e1 q1 => by
  split at e1
  · rename_i hz
    cases (Option.some.inj e1)
    exact ⟨by rw [rv.length]; exact sz_le hz, fun a ha => q1 G1 _ _ (.refl _) (R1.fresh ha rv)⟩
  · cases e1)⟩
noncomputable def appS (i : Nat) (fa : EF) : SF := fun ρ => match ρ[i]? with
  | some (.lst ds) => bns (fa ρ) ρ fun d => if szOk ds.length then some (.nx (ρ.set i (.lst (ds ++ [d])))) else none
  | _ => none
theorem ds_app (i : Nat) {x : Str} {p ap cp : Pos} (h : DE X e fa) (hN : X.N[i]? = some x := by rfl)
    (hv : Vis X.env.scope x := by first | exact Or.inl rfl | exact Or.inr (Or.inl rfl) | exact Or.inr (Or.inr rfl)) (hd : (x == ("__debug__" : Str)) = false := by decide) (hcd : (x == ("__classdict__" : Str)) = false := by decide)
    (hbase : attributeBase (.Name x p) "append" X.env (eval (.Name x p) X.env) = eval (.Name x p) X.env := by rfl)
    (hfew : ((backTo cp (starEach (e :: []) X.env)).all (fun x => !x.1) && (backToKw cp (keywordEach [] X.env)).all (fun x => x.1.isSome) && decide ((e :: []).length + ([] : List Keyword).length + (if ([] : List Keyword).isEmpty then 0 else 1) < 30)) = true := by rfl)
    (hline : (ap.endLine == cp.line) = true := by rfl) (hst : starEach (e :: []) X.env = (false, eval e X.env) :: starEach [] X.env := by rfl) (hplain : (backTo cp (starEach [] X.env)).any (·.1) = false := by rfl)
    (hsw : swapsWith (.Call (.Attribute (.Name x p) "append" ap) [e] [] cp) none pos.line X.env = pure false := by rfl) :
    DS X (.Expr (.Call (.Attribute (.Name x p) "append" ap) [e] [] cp) pos) (appS i fa) := ⟨fun pins s σ H D I ⟨ρ, o, H0, G₀, G, ef, R, q⟩ =>
  ps_expr (pe_bm PySem.F.plainAttrs_list PySem.F.slot_list_append PySem.F.type_list_append mt_append (pe_var hN hv hd hcd) (pa_cons h.run pa_nil hst) hbase hfew hline hst hplain) hsw pins s σ H D I (by
    unfold appS at ef
    split at ef
    · rename_i ds hi
      obtain ⟨a, xs, e1, h1, h2, h3, r⟩ := R.own hi
      refine ⟨.ref a, e1, .inl ⟨rfl, xs, .of h1⟩, sE R ef q fun d v G1 H1 g1 R1 rv e2 q1 => ?_⟩
      split at e2
      · rename_i hz
        cases (Option.some.inj e2)
        exact ⟨a, xs, v, rfl, rfl, g1.hh.lst h1, by rw [r.length]; exact sz_lt hz, q1 G1 _ σ (.refl _) (R1.wrote hi e1 ((r.mono g1.gg).append (.cons rv .nil)))⟩
      · cases e2
    · cases ef)⟩
end
end L2.L3
namespace L2.L3
open PySem PySem.Spec PyProof.Rows
section
variable {X : Cx} {st : Stmt} {rest : List Stmt} {f g : SF} {fa fb : EF} {ft : TF} {e c b : Expr} {pos p : Pos}
inductive Tg where
  | nm (i : Nat)
  | tp (is : List Nat)
  | nn (i : Nat) (js : List Nat)
noncomputable def setAll : List Ent → List Nat → List PyData → List Ent
  | ρ, i :: is, d :: ds => setAll (ρ.set i (.val d)) is ds
  | ρ, _, _ => ρ
noncomputable def tgD (t : Tg) (ρ : List Ent) (d : PyData) : Option (List Ent) := match t, d with
  | .nm i, d => some (ρ.set i (.val d))
  | .tp is, .tuple ds => if is.length = ds.length then some (setAll ρ is ds) else none
  | .nn i js, .tuple [d, .tuple ds] => if js.length = ds.length then some (setAll (ρ.set i (.val d)) js ds) else none
  | _, _ => none
structure DG (X : Cx) (tg : Expr) (t : Tg) : Prop where
  run : ∀ ρ d ρ', tgD t ρ d = some ρ' → PGD X tg ρ d ρ'
structure DGs (X : Cx) (ts : List Expr) (is : List Nat) : Prop where
  run : ∀ ρ ds, is.length = ds.length → PGsD X ts ρ ds (setAll ρ is ds)
theorem dg_name (i : Nat) {x : Str} (hN : X.N.Nodup) (hi : X.N[i]? = some x := by rfl) (hx : Loc X.env.scope x := by first | exact Or.inl rfl | exact Or.inr rfl) (hf : X.fn x = true ∨ X.env.scope.names.lookup x = some .local := by first | exact .inl rfl | exact .inr rfl) :
    DG X (.Name x pos) (.nm i) := ⟨fun ρ d ρ' h => by cases (Option.some.inj h); exact pgd_name i hN hi hx hf⟩
theorem dgs_nil : DGs X [] [] := ⟨fun ρ ds h => by
  cases ds with
  | nil => exact pgsd_nil
  | cons _ _ => cases h⟩
theorem dgs_cons (i : Nat) {x : Str} {es : List Expr} {is : List Nat} (hN : X.N.Nodup) (h : DGs X es is) (hi : X.N[i]? = some x := by rfl) (hx : Loc X.env.scope x := by first | exact Or.inl rfl | exact Or.inr rfl)
    (hf : X.fn x = true ∨ X.env.scope.names.lookup x = some .local := by first | exact .inl rfl | exact .inr rfl)
    (hs : (assignEach (.Name x pos :: es) X.env).map (·.2) = assign (.Name x pos) X.env :: (assignEach es X.env).map (·.2) := by rfl) : DGs X (.Name x pos :: es) (i :: is) := ⟨fun ρ ds hl => by
  cases ds with
  | nil => cases hl
  | cons d ds => exact pgsd_cons (pgd_name i hN hi hx hf) (h.run _ ds (by simpa using hl)) hs⟩
theorem dg_tup {es : List Expr} {is : List Nat} {k : Nat} (hc : X.calm = true) (h : DGs X es is) (hn : (assignEach es X.env).length = is.length := by rfl) (hst : (assignEach es X.env).findIdx? (·.1) = none := by rfl) : DG X (.Tuple es k pos) (.tp is) := ⟨fun ρ d ρ' hq => by
  cases d with
  | tuple ds =>
    have hq : (if is.length = ds.length then some (setAll ρ is ds) else none) = some ρ' := hq
    split at hq
    · rename_i hl
      cases (Option.some.inj hq)
      exact pgd_tup hc (h.run ρ ds hl) (hn.trans hl) hst
    · cases hq
  | none => cases hq
  | bool _ => cases hq
  | int _ => cases hq
  | str _ => cases hq
  | list _ => cases hq
  | dict _ => cases hq⟩
theorem tgD_nn {i : Nat} {js : List Nat} {ρ ρ' : List Ent} {d : PyData} (h : tgD (.nn i js) ρ d = some ρ') : ∃ a ds, d = .tuple [a, .tuple ds] ∧ js.length = ds.length ∧ ρ' = setAll (ρ.set i (.val a)) js ds := by
  unfold tgD at h
  split at h
  · rename_i e; cases e
  · rename_i e; cases e
  · rename_i i' js' a ds e
    cases e
    split at h
    · rename_i hl; exact ⟨a, ds, rfl, hl, (Option.some.inj h).symm⟩
    · cases h
  · cases h
noncomputable def rG (X : Cx) (t : Tg) : TG := fun v σ H Q => ∃ ρ d ρ' H0 G₀ G, tgD t ρ d = some ρ' ∧ RepS X.K H0 G₀ G H σ ρ ∧ Rep X.K G v d ∧ ∀ σ', RepS X.K H0 G₀ G H σ' ρ' → Q σ' H
theorem DG.pg {tg : Expr} {t : Tg} (h : DG X tg t) : PG X tg (rG X t) := fun pins s σ H v u Q I r ⟨ρ, d, ρ', H0, G₀, G, e, R, rv, q⟩ => (h.run ρ d ρ' e).run pins s σ H v u Q I r ⟨H0, G₀, G, R, rv, q⟩
noncomputable def unpS (t : Tg) (fa : EF) : SF := fun ρ => bns (fa ρ) ρ fun d => (tgD t ρ d).map So.nx
noncomputable def EndI (X : Cx) (H0 G₀ G : Hp) (ρ : List Ent) (H : Hp) (R : It → Hp → Prop) : Re (List PyData) → Prop
  | .ok ds => ∀ J G' H', Grow G H G' H' → Walk X.K J G' ds → R J H'
  | .ex c => XcOk X H0 G₀ G ρ c
noncomputable def rIt (X : Cx) (f : AF) : TI := fun σ H R => ∃ ρ r H0 G₀ G, f ρ = some r ∧ RepS X.K H0 G₀ G H σ ρ ∧ EndI X H0 G₀ G ρ H R r
structure DI (X : Cx) (tg iter : Expr) (f : AF) : Prop where
  run : PI X tg iter (rIt X f)
theorem DI.pid {tg iter : Expr} {f : AF} (h : DI X tg iter f) {ρ : List Ent} {ds : List PyData} (e : f ρ = some (.ok ds)) : PID X tg iter ρ ds := ⟨fun pins s σ H R I ⟨H0, G₀, G, S, q⟩ => h.run pins s σ H R I ⟨ρ, _, H0, G₀, G, e, S, q⟩⟩
theorem di_of {tg iter : Expr} {f : AF} (h : ∀ ρ r, f ρ = some r → ∃ ds, r = .ok ds ∧ PID X tg iter ρ ds) : DI X tg iter f := ⟨fun pins s σ H R I ⟨ρ, r, H0, G₀, G, e, S, q⟩ => by
  obtain ⟨ds, rfl, hp⟩ := h ρ r e
  exact hp.run pins s σ H R I ⟨H0, G₀, G, S, q⟩⟩
noncomputable def seqD : PyData → Option (List PyData)
  | .list ds => some ds
  | .tuple ds => some ds
  | _ => none
noncomputable def seqI (fa : EF) : AF := fun ρ => bnd (fa ρ) fun x => lft (seqD x)
theorem di_seq {tg iter : Expr} (h : DE X iter fa) : DI X tg iter (seqI fa) := ⟨fun pins s σ H R I ⟨ρ, r, H0, G₀, G, e, S, q⟩ => by
  rcases bnd_some e with ⟨x, e1, e2⟩ | ⟨c, e1, e2⟩
  · obtain ⟨ds, e3, rfl⟩ := lft_is e2
    cases x with
    | list es => cases (Option.some.inj e3); exact (pid_list (h.pd e1)).run pins s σ H R I ⟨H0, G₀, G, S, q⟩
    | tuple es => cases (Option.some.inj e3); exact (pid_tup (h.pd e1)).run pins s σ H R I ⟨H0, G₀, G, S, q⟩
    | none => cases e3
    | bool _ => cases e3
    | int _ => cases e3
    | str _ => cases e3
    | dict _ => cases e3
  · subst e2
    exact pi_list h.run pins s σ H R I ⟨ρ, _, H0, G₀, G, e1, S, q⟩⟩
noncomputable def intD : PyData → Option Int
  | .int i => some i
  | _ => none
theorem intD_is {d : PyData} {i : Int} (h : intD d = some i) : d = .int i := by
  cases d <;> first | (cases h; done) | (cases (Option.some.inj h); rfl)
noncomputable def inRng (n : Int) : Bool := decide (-(2 ^ 62) ≤ n) && decide (n < 2 ^ 62)
theorem inRng_is {n : Int} (h : inRng n = true) : -(2 ^ 62) ≤ n ∧ n < 2 ^ 62 := by
  unfold inRng at h
  rw [Bool.and_eq_true] at h
  exact ⟨of_decide_eq_true h.1, of_decide_eq_true h.2⟩
noncomputable def rng1 (fa : EF) : AF := fun ρ => match fa ρ with
  | some (.ok (.int n)) => if inRng n then some (.ok (rangeD 0 n.toNat)) else none
  | _ => none
theorem di_rng1 {tg a : Expr} (hm : X.mg "range" = none) (h : DE X a fa) (hs : starEach [a] X.env = [(false, eval a X.env)] := by rfl) (hs' : starEach [a] X.env = (false, eval a X.env) :: starEach [] X.env := by rfl) (hg : Gl X "range" := by rfl) :
    DI X tg (.Call (.Name "range" p) [a] [] pos) (rng1 fa) := di_of fun ρ r e => by
  unfold rng1 at e
  split at e
  · rename_i n en
    split at e
    · rename_i hr
      exact ⟨_, (Option.some.inj e).symm, pid_range1 hm (h.pd en) (inRng_is hr).1 (inRng_is hr).2 hs hs' hg⟩
    · cases e
  · cases e
noncomputable def loopS (t : Tg) (fb : SF) : List PyData → List Ent → Option So
  | [], ρ => some (.nx ρ)
  | d :: ds, ρ => match tgD t ρ d with
    | none => none
    | some ρ1 => (match fb ρ1 with
      | some (.nx ρ2) => loopS t fb ds ρ2
      | some (.ct ρ2) => loopS t fb ds ρ2
      | some (.bk ρ2) => some (.nx ρ2)
      | some (.rt d) => some (.rt d)
      | some (.xc c ρ2) => some (.xc c ρ2)
      | none => none)
noncomputable def forS (t : Tg) (fi : AF) (fb : SF) : SF := fun ρ => bns (fi ρ) ρ fun ds => loopS t fb ds ρ
theorem ds_for {tg iter : Expr} {body : List Stmt} {t : Tg} {fi : AF} (hp : PassesOwn (model X.prog X.w) X.A X.env X.xe) (hc : X.calm = true) (hi : DI X tg iter fi) (hg : DG X tg t) (hb : DB X body g)
    (hs : ∀ x, foldedSetIterable iter X.env x = pure x := by intro _; rfl) : DS X (.For tg iter body [] pos) (forS t fi g) := ⟨fun pins s σ H D I ⟨ρ, o, H0, G₀, G, ef, R, q⟩ =>
  ps_for hp hc hi.run hg.pg hb.run hs pins s σ H D I (by
    rcases bns_some ef with ⟨ds, e1, e2⟩ | ⟨c, e1, e2⟩
    · refine ⟨ρ, _, H0, G₀, G, e1, R, fun J G1 H1 g1 wk => ?_⟩
      refine ⟨fun i m σ' H' => m = ds.length - i ∧ i ≤ ds.length ∧ ∃ ρ' G', Same G1 G' ∧ RepS X.K H0 G₀ G' H' σ' ρ' ∧ loopS t g (ds.drop i) ρ' = some o, ⟨ds.length, by simp, Nat.zero_le _, ρ, G1, .refl _, R.more g1, by simpa using e2⟩, ?_⟩
      rintro i m σ' H' ⟨rfl, hin, ρ', G', s', R', e'⟩
      obtain ⟨wgo, wstop⟩ := wk i G' H' s' R'.sub
      by_cases hlt : i < ds.length
      · rw [List.drop_eq_getElem_cons hlt] at e'
        have hx : ds[i]? = some ds[i] := List.getElem?_eq_getElem hlt
        refine .inr ⟨(wgo _ hx).1, fun σ2 H2 => ∃ ρ2 G2, Same G1 G2 ∧ RepS X.K H0 G₀ G2 H2 σ2 ρ2 ∧ loopS t g (ds.drop (i + 1)) ρ2 = some o, ?_, fun x H2 y => ?_⟩
        · rintro σ2 H2 ⟨ρ2, G2, s2, R2, e2⟩
          exact ⟨ds.length - (i + 1), by omega, rfl, hlt, ρ2, G2, s2, R2, e2⟩
        · obtain ⟨G2, g2, rx⟩ := (wgo _ hx).2 x H2 y
          unfold loopS at e'
          split at e'
          · cases e'
          · rename_i ρ1 et
            refine ⟨ρ', ds[i], ρ1, H0, G₀, G2, et, R'.more g2, rx, fun σ3 R3 => ?_⟩
            have sg : Same G1 G2 := s'.trans g2.gg
            split at e'
            · rename_i ρ2 eb
              exact ⟨ρ1, _, H0, G₀, G2, eb, R3, fun G4 H4 σ4 s4 R4 => ⟨ρ2, G4, sg.trans s4, R4, e'⟩⟩
            · rename_i ρ2 eb
              exact ⟨ρ1, _, H0, G₀, G2, eb, R3, fun G4 H4 σ4 s4 R4 => ⟨ρ2, G4, sg.trans s4, R4, e'⟩⟩
            · rename_i ρ2 eb
              cases (Option.some.inj e')
              exact ⟨ρ1, _, H0, G₀, G2, eb, R3, fun G4 H4 σ4 s4 R4 => q G4 H4 σ4 (g1.gg.trans (sg.trans s4)) R4⟩
            · rename_i d' eb
              cases (Option.some.inj e')
              exact ⟨ρ1, _, H0, G₀, G2, eb, R3, fun v G4 H4 s4 gr rv => q v G4 H4 (g1.gg.trans (sg.trans s4)) gr rv⟩
            · rename_i c' ρ2 eb
              cases (Option.some.inj e')
              exact ⟨ρ1, _, H0, G₀, G2, eb, R3, XcOk.mono q (g1.gg.trans sg)⟩
            · cases e'
      · have hi' : i = ds.length := by omega
        subst hi'
        rw [List.drop_length] at e'
        cases (Option.some.inj e')
        exact .inl ⟨wstop (Nat.le_refl _), q G' H' σ' (g1.gg.trans s') R'⟩
    · subst e2
      exact ⟨ρ, _, H0, G₀, G, e1, R, q⟩)⟩
end
end L2.L3
namespace L2.L3
open PySem PySem.Spec PyProof.Rows
noncomputable def loopC (t : Tg) (ρb : List Ent) (ft : TF) (fe : EF) : List PyData → Option (List PyData)
  | [] => some []
  | d :: ds => match tgD t ρb d with
    | none => none
    | some ρx => (match ft ρx with
      | some (.ok true) => (match fe ρx with
        | some (.ok v) => (loopC t ρb ft fe ds).map (v :: ·)
        | _ => none)
      | some (.ok false) => loopC t ρb ft fe ds
      | _ => none)
noncomputable def compE (t : Tg) (cap : List (Option Nat)) (fi : AF) (ft : TF) (fe : EF) : EF := fun ρ => bnd (fi ρ) fun ds => if szOk ds.length then lft ((loopC t (capE cap ρ) ft fe ds).map .list) else none
noncomputable def ttT : TF := fun _ => some (.ok true)
noncomputable def cX (t : Tg) (ρb : List Ent) (d : PyData) : List Ent := (tgD t ρb d).getD []
noncomputable def cT (t : Tg) (ρb : List Ent) (ft : TF) (d : PyData) : Bool := match ft (cX t ρb d) with
  | some (.ok b) => b
  | _ => false
noncomputable def cV (t : Tg) (ρb : List Ent) (fe : EF) (d : PyData) : PyData := match fe (cX t ρb d) with
  | some (.ok v) => v
  | _ => .none
theorem loopC_is {t : Tg} {ρb : List Ent} {ft : TF} {fe : EF} : ∀ {ds es : List PyData}, loopC t ρb ft fe ds = some es →
    (∀ d ∈ ds, tgD t ρb d = some (cX t ρb d) ∧ ft (cX t ρb d) = some (.ok (cT t ρb ft d)) ∧ (cT t ρb ft d = true → fe (cX t ρb d) = some (.ok (cV t ρb fe d)))) ∧ es = (ds.filter (cT t ρb ft)).map (cV t ρb fe)
  | [], es, h => by
    cases (Option.some.inj h)
    exact ⟨fun _ z => absurd z (by simp), rfl⟩
  | d :: ds, es, h => by
    unfold loopC at h
    split at h
    · cases h
    · rename_i ρx et
      have ex : cX t ρb d = ρx := by unfold cX; rw [et]; rfl
      split at h
      · rename_i e1
        have e1' : cT t ρb ft d = true := by unfold cT; rw [ex, e1]
        split at h
        · rename_i v ev
          obtain ⟨es', e3, rfl⟩ := Option.map_eq_some_iff.mp h
          obtain ⟨i1, i2⟩ := loopC_is e3
          have evv : cV t ρb fe d = v := by unfold cV; rw [ex, ev]
          refine ⟨fun d' hd => ?_, ?_⟩
          · rcases List.mem_cons.mp hd with rfl | hd
            · rw [ex, e1', evv]; exact ⟨et, e1, fun _ => ev⟩
            · exact i1 d' hd
          · rw [List.filter_cons_of_pos e1', List.map_cons, evv, i2]
        · cases h
      · rename_i e1
        have e1' : cT t ρb ft d = false := by unfold cT; rw [ex, e1]
        obtain ⟨i1, i2⟩ := loopC_is h
        refine ⟨fun d' hd => ?_, ?_⟩
        · rcases List.mem_cons.mp hd with rfl | hd
          · rw [ex, e1']; exact ⟨et, e1, fun z => by cases z⟩
          · exact i1 d' hd
        · rw [List.filter_cons_of_neg (by rw [e1']; decide), i2]
      · cases h
noncomputable def tgFree (cap : List (Option Nat)) : Tg → Bool
  | .nm i => (match cap[i]? with | some (some _) => false | _ => true)
  | .tp is => is.all fun i => match cap[i]? with | some (some _) => false | _ => true
  | .nn i js => (match cap[i]? with | some (some _) => false | _ => true) && js.all fun i => match cap[i]? with | some (some _) => false | _ => true
theorem weak_set : ∀ {a b : List Ent} {i : Nat} {e : Ent}, Weak a b → (b[i]? = some .no ∨ b[i]? = none) → Weak (a.set i e) b
  | _, _, _, _, .nil, _ => .nil
  | _ :: _, _, 0, _, .keep w, h => by
    rcases h with h | h
    · cases (Option.some.inj h); exact .no w
    · cases h
  | _ :: _, _, 0, _, .no w, _ => .no w
  | _ :: _, _, i + 1, _, .keep w, h => .keep (weak_set w (by simpa using h))
  | _ :: _, _, i + 1, _, .no w, h => .no (weak_set w (by simpa using h))
theorem capE_no {cap : List (Option Nat)} {ρ : List Ent} {i : Nat} (h : (match cap[i]? with | some (some _) => false | _ => true) = true) : (capE cap ρ)[i]? = some .no ∨ (capE cap ρ)[i]? = none := by
  unfold capE
  rw [List.getElem?_map]
  cases e : cap[i]? with
  | none => exact .inr rfl
  | some o =>
    rw [e] at h
    cases o with
    | none => exact .inl rfl
    | some j => cases h
theorem weak_all {cap : List (Option Nat)} {ρ : List Ent} : ∀ {is : List Nat} {ds : List PyData} {a : List Ent}, (is.all fun i => match cap[i]? with | some (some _) => false | _ => true) = true → Weak a (capE cap ρ) → Weak (setAll a is ds) (capE cap ρ)
  | [], ds, a, _, w => by cases ds <;> exact w
  | i :: is, [], a, _, w => w
  | i :: is, d :: ds, a, h, w => by
    rw [List.all_cons, Bool.and_eq_true] at h
    exact weak_all (is := is) (ds := ds) (a := a.set i (.val d)) h.2 (weak_set w (capE_no h.1))
theorem weak_tg {cap : List (Option Nat)} {ρ ρx : List Ent} {t : Tg} {d : PyData} (hf : tgFree cap t = true) (h : tgD t (capE cap ρ) d = some ρx) : Weak ρx (capE cap ρ) := by
  cases t with
  | nm i => cases (Option.some.inj h); exact weak_set (.refl _) (capE_no hf)
  | tp is =>
    cases d with
    | tuple ds =>
      have h : (if is.length = ds.length then some (setAll (capE cap ρ) is ds) else none) = some ρx := h
      split at h
      · cases (Option.some.inj h); exact weak_all hf (.refl _)
      · cases h
    | none => cases h
    | bool _ => cases h
    | int _ => cases h
    | str _ => cases h
    | list _ => cases h
    | dict _ => cases h
  | nn i js =>
    obtain ⟨a, ds, rfl, hl, rfl⟩ := tgD_nn h
    have hf : ((match cap[i]? with | some (some _) => false | _ => true) && js.all fun i => match cap[i]? with | some (some _) => false | _ => true) = true := hf
    rw [Bool.and_eq_true] at hf
    exact weak_all hf.2 (weak_set (.refl _) (capE_no hf.1))
section
variable {X : Cx} {elt iter tg : Expr} {ifs : List Expr} {scope : Scope} {pos spos p : Pos} {N' : List Str} {cap : List (Option Nat)} {t : Tg} {fi : AF} {ft : TF} {fe : EF}
structure DTs (X : Cx) (ifs : List Expr) (f : TF) : Prop where
  run : ∀ ρ b, f ρ = some (.ok b) → PTsD X ifs ρ b
theorem dts_nil : DTs X [] ttT := ⟨fun ρ b e => by cases (Option.some.inj e); exact ptsd_nil⟩
theorem de_comp (hc : X.calm = true) (B : Blk X scope N' cap) (hi : DI X tg iter fi) (hf : tgFree cap t = true) (hg : ∀ C s₃ H₃ fp, DG (blkCx X scope N' C s₃ H₃ fp) tg t) (ht : ∀ C s₃ H₃ fp, DTs (blkCx X scope N' C s₃ H₃ fp) ifs ft)
    (he : ∀ C s₃ H₃ fp, DE (blkCx X scope N' C s₃ H₃ fp) elt fe) (hs : ∀ x, foldedSetIterable iter X.env x = pure x := by intro _; rfl) : DE X (.ListComp elt [⟨tg, iter, ifs, 0⟩] scope pos) (compE t cap fi ft fe) := ⟨fun pins s σ H Q I ⟨ρ, r, H0, G₀, G, e, R, q⟩ => by
  rcases bnd_some e with ⟨ds, e1, e2⟩ | ⟨c, e1, e2⟩
  · split at e2
    · rename_i hz
      obtain ⟨d, ed, rfl⟩ := lft_is e2
      obtain ⟨es, e3, rfl⟩ := Option.map_eq_some_iff.mp ed
      obtain ⟨k1, rfl⟩ := loopC_is e3
      exact (pd_comp (xs := ds) (φ := fun d => d) (ρb := capE cap ρ) (ρx := cX t (capE cap ρ)) (cnd := cT t (capE cap ρ) ft) (f := cV t (capE cap ρ) fe) hc B (by simpa using hi.pid e1) (.refl _) (fun x hx => weak_tg hf (k1 x hx).1) (sz_le hz)
        (fun C s₃ H₃ fp x hx => (hg C s₃ H₃ fp).run _ _ _ (k1 x hx).1) (fun C s₃ H₃ fp x hx => (ht C s₃ H₃ fp).run _ _ (k1 x hx).2.1) (fun C s₃ H₃ fp x hx hcx => (he C s₃ H₃ fp).pd ((k1 x hx).2.2 hcx)) hs).run H0 G₀ G pins s σ H Q I R q
    · cases e2
  · subst e2
    exact pe_comp (g := fun _ _ _ _ => False) (tc := fun _ _ _ => False) (te := fun _ _ _ => False) hc B hi.run (fun _ _ _ _ _ _ _ _ _ _ _ _ _ z => z.elim) (fun _ _ _ _ _ _ _ _ _ _ z => z.elim) (fun _ _ _ _ _ _ _ _ _ _ z => z.elim) hs pins s σ H Q I
      ⟨ρ, _, H0, G₀, G, e1, R, q⟩⟩
end
noncomputable def startN (m : Nat) (ds : List PyData) : List Ent := ds.map .val ++ List.replicate (m - ds.length) .no
noncomputable def runD (m n : Nat) (f : SF) (ds : List PyData) : Mm PyData := if ds.length = n then (match f (startN m ds) with
  | some (.rt d) => some (.ok d)
  | some (.nx _) => some (.ok .none)
  | _ => none) else none
noncomputable abbrev CalleeM (P : Program) (w : World) (K : PySem.W.Frag) (mg : Str → Option Value) (base : Heap) (x : Str) (k : Nat) (ps : List Str) (F : List PyData → Mm PyData) : Prop :=
  Callee P w K mg base x k ps fun ds d => F ds = some (.ok d)
section
variable {P : Program} {w : World} {K : PySem.W.Frag} {mg : Str → Option Value} {base : Heap} {X : Cx} {e : Expr} {es : List Expr} {pos p : Pos} {x : Str} {k : Nat} {ps N : List Str} {F : List PyData → Mm PyData}
noncomputable def callE (F : List PyData → Mm PyData) (fa : AF) : EF := fun ρ => bnd (fa ρ) fun ds => match F ds with
  | some (.ok d) => some (.ok d)
  | _ => none
theorem de_call {fa : AF} (C : CalleeM X.prog X.w X.K X.mg X.base x k ps F) (hr : Room k X.A) (ha : DA X (e :: es) fa) (hg : Gl X x := by rfl) (hdb : (x == ("__debug__" : Str)) = false := by decide)
    (he : starEach (e :: es) X.env = (false, eval e X.env) :: starEach es X.env := by rfl) (hpl : (backTo pos (starEach es X.env)).any (·.1) = false := by rfl) : DE X (.Call (.Name x p) (e :: es) [] pos) (callE F fa) := ⟨fun pins s σ H Q I ⟨ρ, r, H0, G₀, G, e', R, q⟩ => by
  obtain ⟨f, fd, a, b, c, Fk⟩ := C.ex
  refine pe_call Fk hr hg a b c .nil (pass0 (X := X)) ha.run hdb he hpl pins s σ H Q I (bA R e' q.x fun ds vs G1 H1 g1 R1 rv e1 => ?_)
  split at e1
  · rename_i d ed
    cases (Option.some.inj e1)
    exact ⟨G1, ds, d, ⟨g1.sub, R1.tab⟩, by simpa using rv, ed, fun v G2 H2 g2 r2 => q v G2 H2 (g1.trans g2) r2⟩
  · cases e1⟩
theorem startE_eq (N : List Str) (ds : List PyData) : startE N ds = startN N.length ds := rfl
theorem fn_den {st : Stmt} {f : SF} {fa : Addr} {fd : FuncData} (m n : Nat) (Fu : Fun K x x st fa fd) (S : FnScope N ps (defScope st)) (hm : N.length = m) (hn : ps.length = n)
    (body : ∀ (cdv : Value) (A : Around) (outer : List Env) (s : Shared) (H : Hp) (E : XK), Room k (A.deeper (envOfC x (defScope st) s.heap.objs.size fa cdv)) → DB (fcx P w K mg base N x (defScope st) fa cdv A outer s H E) (defBody st) f) :
    FnOk P w K mg base CX0 (k + 1) fa fd ps (spD K fun ds d => runD m n f ds = some (.ok d)) := by
  refine Fu.ok S (fun vs H Q E ⟨G, ds, d, s, r, hF, _⟩ => ?_) (fun cdv A outer s H vs Q E hr ⟨G, ds, d, sm, r, hF, q⟩ => ?_)
  · have hF : runD m n f ds = some (.ok d) := hF
    unfold runD at hF
    split at hF
    · rename_i hl; rw [r.length, hl, hn]
    · cases hF
  · have hF : runD m n f ds = some (.ok d) := hF
    unfold runD at hF
    split at hF
    · rw [← hm, ← startE_eq] at hF
      split at hF
      · rename_i d' e
        cases (Option.some.inj hF)
        exact ⟨_, (body cdv A outer s H E hr).run, startE N ds, _, H, G, G, e, startE_ok sm r, fun v G' H' _ g rv => q v G' H' g rv⟩
      · rename_i ρ' e
        cases (Option.some.inj hF)
        exact ⟨_, (body cdv A outer s H E hr).run, startE N ds, _, H, G, G, e, startE_ok sm r, fun G' H' σ' _ R' => q .non G' H' R'.grow .none⟩
      · cases hF
    · cases hF
theorem callee_den {st : Stmt} {f : SF} (m n : Nat) (D : Def K mg x st) (S : FnScope N ps (defScope st)) (hm : N.length = m) (hn : ps.length = n)
    (hb : ∀ (kV doc pm : Value) (an : Option Addr) (cdv ct : Value) (us : List Value), us.length = ps.length → bindArgs (PySem.W.fnOf x x (defArgs st) (defBody st) (defScope st) .none kV doc pm an cdv ct) ⟨us, []⟩ = pure (ps.zip us))
    (body : ∀ (fa : Addr) (cdv : Value) (A : Around) (outer : List Env) (s : Shared) (H : Hp) (E : XK), Room k (A.deeper (envOfC x (defScope st) s.heap.objs.size fa cdv)) → DB (fcx P w K mg base N x (defScope st) fa cdv A outer s H E) (defBody st) f) :
    CalleeM P w K mg base x (k + 1) ps (runD m n f) := by
  obtain ⟨fa, fd, Fu, hmg⟩ := D.ex
  exact ⟨fa, fd, hmg, Fu.kp, Fu.binds hb, fn_den m n Fu S hm hn fun cdv A outer s H E hr => body fa cdv A outer s H E hr⟩
end
end L2.L3
namespace L2.L3
open PySem PySem.Spec PyProof.Rows
noncomputable def allD {α : Type} (f : PyData → Option α) : List PyData → Option (List α)
  | [] => some []
  | d :: ds => match f d with
    | none => none
    | some a => (allD f ds).map (a :: ·)
noncomputable def strD : PyData → Option Str
  | .str i => some i
  | _ => none
theorem strD_is {d : PyData} {i : Str} (h : strD d = some i) : d = .str i := by
  cases d <;> first | (cases h; done) | (cases (Option.some.inj h); rfl)
theorem allD_is {α : Type} {f : PyData → Option α} {g : α → PyData} (h : ∀ d a, f d = some a → d = g a) : ∀ {ds : List PyData} {as : List α}, allD f ds = some as → ds = as.map g
  | [], as, e => by cases (Option.some.inj e); rfl
  | d :: ds, as, e => by
    unfold allD at e
    split at e
    · cases e
    · rename_i a ea
      obtain ⟨as', e', rfl⟩ := Option.map_eq_some_iff.mp e
      rw [List.map_cons, ← h d a ea, allD_is h e']
theorem allD_map {α : Type} {f : PyData → Option α} {g : α → PyData} (h : ∀ a, f (g a) = some a) : ∀ as : List α, allD f (as.map g) = some as
  | [] => rfl
  | a :: as => by rw [List.map_cons, allD, h a]; show (allD f (as.map g)).map (a :: ·) = _; rw [allD_map h as]; rfl
theorem strsD_map (ns : List Str) : allD strD (ns.map .str) = some ns := allD_map (g := .str) (fun _ => rfl) ns
section
variable {X : Cx} {x y d : PyData}
theorem opD_of {op : Operator} {g : Int → Int → Int} {i j : Int} (ho : OpR X (binaryOp op) (rI0 fun i j => .int (g i j))) : OpD X op (.int i) (.int j) (.int (g i j)) := ⟨_, ho, fun v u G H Q s rv ru q => by
  cases rv; cases ru; exact ⟨_, _, rfl, rfl, q _ _ _ (.refl s) (.int _)⟩⟩
theorem opD_ofC {op : Operator} {C : Int → Int → Prop} {g : Int → Int → Int} {i j : Int} (ho : OpR X (binaryOp op) (rI C fun i j => .int (g i j))) (hc : C i j) : OpD X op (.int i) (.int j) (.int (g i j)) := ⟨_, ho, fun v u G H Q s rv ru q => by
  cases rv; cases ru; exact ⟨_, _, rfl, rfl, hc, q _ _ _ (.refl s) (.int _)⟩⟩
noncomputable def addD (x y : PyData) : Option PyData := match x, y with
  | .int i, .int j => some (.int (i + j))
  | .str i, .str j => if szOk (i.length + j.length) then some (.str (i ++ j)) else none
  | .list a, .list b => if szOk (a.length + b.length) then some (.list (a ++ b)) else none
  | .tuple a, .tuple b => if szOk (a.length + b.length) then some (.tuple (a ++ b)) else none
  | _, _ => none
theorem add_ok (x y d : PyData) (h : addD x y = some d) : OpD X .Add x y d := by
  unfold addD at h
  split at h
  · cases (Option.some.inj h); exact opD_of op_add
  · split at h
    · rename_i i j hz
      cases (Option.some.inj h)
      exact ⟨_, op_add_str, fun v u G H Q s rv ru q => by cases rv; cases ru; exact ⟨_, _, rfl, rfl, sz_le hz, q _ _ _ (.refl s) (.str _)⟩⟩
    · cases h
  · split at h
    · rename_i a b hz
      cases (Option.some.inj h)
      exact ⟨_, op_catS, fun v u G H Q s rv ru q => by
        cases rv with
        | list h1 r1 => cases ru with
          | list h2 r2 => exact ⟨_, _, _, _, rfl, rfl, s.seq h1, s.seq h2, by rw [r1.length, r2.length]; exact sz_le hz, fun l hl => q _ _ _ (.put s hl) (.list (.of upd_same) ((r1.append r2).mono (same_upd (s.free hl))))⟩⟩
    · cases h
  · split at h
    · rename_i a b hz
      cases (Option.some.inj h)
      exact ⟨_, op_catU, fun v u G H Q s rv ru q => by
        cases rv with
        | tuple h1 r1 => cases ru with
          | tuple h2 r2 =>
            refine ⟨_, _, _, _, rfl, rfl, seqT s h1, seqT s h2, by rw [r1.length, r2.length]; exact sz_le hz, fun z => ?_, fun z z2 => ?_, fun _ _ l hl => q _ _ _ (.put s hl) (.tuple (.of upd_same) ((r1.append r2).mono (same_upd (s.free hl))))⟩
            · subst z
              cases r1
              exact q _ G H (.refl s) (.tuple h2 r2)
            · subst z2
              cases r2
              exact q _ G H (.refl s) (by rw [List.append_nil]; exact .tuple h1 r1)⟩
    · cases h
  · cases h
noncomputable def subD (x y : PyData) : Option PyData := match x, y with
  | .int i, .int j => some (.int (i - j))
  | _, _ => none
noncomputable def smallI (i : Int) : Bool := decide (-(2 ^ 64) < i) && decide (i < 2 ^ 64)
theorem smallI_is {i : Int} (h : smallI i = true) : -(2 ^ 64) < i ∧ i < 2 ^ 64 := by
  unfold smallI at h
  rw [Bool.and_eq_true] at h
  exact ⟨of_decide_eq_true h.1, of_decide_eq_true h.2⟩
noncomputable def mulD (x y : PyData) : Option PyData := match x, y with
  | .int i, .int j => if smallI i || smallI j then some (.int (i * j)) else none
  | _, _ => none
theorem mul_ok (x y d : PyData) (h : mulD x y = some d) : OpD X .Mult x y d := by
  unfold mulD at h
  split at h
  · split at h
    · rename_i hz
      cases (Option.some.inj h)
      rw [Bool.or_eq_true] at hz
      exact opD_ofC op_mul (hz.imp smallI_is smallI_is)
    · cases h
  · cases h
noncomputable def modD (x y : PyData) : Option PyData := match x, y with
  | .int i, .int j => if 0 < j then some (.int (i % j)) else none
  | _, _ => none
theorem mod_ok (x y d : PyData) (h : modD x y = some d) : OpD X .Mod x y d := by
  unfold modD at h
  split at h
  · split at h
    · rename_i hz
      cases (Option.some.inj h)
      exact opD_ofC op_mod hz
    · cases h
  · cases h
noncomputable def fdvD (x y : PyData) : Option PyData := match x, y with
  | .int i, .int j => if 0 < j ∧ j < 1073741824 then some (.int (i / j)) else none
  | _, _ => none
theorem fdv_ok (x y d : PyData) (h : fdvD x y = some d) : OpD X .FloorDiv x y d := by
  unfold fdvD at h
  split at h
  · split at h
    · rename_i hz
      cases (Option.some.inj h)
      exact opD_ofC op_fdiv hz
    · cases h
  · cases h
noncomputable def ltD (x y : PyData) : Option Bool := match x, y with
  | .int i, .int j => some (decide (i < j))
  | _, _ => none
noncomputable def leD (x y : PyData) : Option Bool := match x, y with
  | .int i, .int j => some (decide (i ≤ j))
  | .str i, .str j => some (!decide (j.cps.toList < i.cps.toList))
  | _, _ => none
noncomputable def gtD (x y : PyData) : Option Bool := match x, y with
  | .int i, .int j => some (decide (j < i))
  | _, _ => none
noncomputable def geD (x y : PyData) : Option Bool := match x, y with
  | .int i, .int j => some (decide (j ≤ i))
  | _, _ => none
theorem lt_ok (x y : PyData) (t : Bool) (h : ltD x y = some t) : CmpD X .Lt x y t := by
  unfold ltD at h; split at h
  · cases (Option.some.inj h); exact cmp_lt
  · cases h
theorem le_ok (x y : PyData) (t : Bool) (h : leD x y = some t) : CmpD X .LtE x y t := by
  unfold leD at h; split at h
  · cases (Option.some.inj h); exact cmp_le
  · cases (Option.some.inj h); exact cmp_leS
  · cases h
theorem gt_ok (x y : PyData) (t : Bool) (h : gtD x y = some t) : CmpD X .Gt x y t := by
  unfold gtD at h; split at h
  · cases (Option.some.inj h); exact cmp_gt
  · cases h
noncomputable def eqD (x y : PyData) : Option Bool := match x, y with
  | .int i, .int j => some (decide (i = j))
  | .str i, .str j => some (decide (i = j))
  | .bool i, .bool j => some (decide (i = j))
  | x, y => if SeqAt.shaped x && SeqAt.shaped y then some (PyData.eqv x y) else none
noncomputable def neD (x y : PyData) : Option Bool := match x, y with
  | .int i, .int j => some (!decide (i = j))
  | .str i, .str j => some (!decide (i = j))
  | .bool i, .bool j => some (!decide (i = j))
  | x, y => if SeqAt.shaped x && SeqAt.shaped y then some (!PyData.eqv x y) else none
theorem eq_ok (hu : X.A.units + 64 < cLine) (x y : PyData) (t : Bool) (h : eqD x y = some t) : CmpD X .Eq x y t := by
  unfold eqD at h; split at h
  · cases (Option.some.inj h); exact cmp_eqI
  · cases (Option.some.inj h); exact cmp_eqS
  · cases (Option.some.inj h); exact cmp_eqB
  · split at h
    · rename_i hz
      rw [Bool.and_eq_true] at hz
      cases (Option.some.inj h); exact cmp_eq hu hz.1 hz.2
    · cases h
theorem ne_ok (hu : X.A.units + 64 < cLine) (x y : PyData) (t : Bool) (h : neD x y = some t) : CmpD X .NotEq x y t := by
  unfold neD at h; split at h
  · cases (Option.some.inj h); exact cmp_neI
  · cases (Option.some.inj h); exact cmp_neS
  · cases (Option.some.inj h); exact cmp_neB
  · split at h
    · rename_i hz
      rw [Bool.and_eq_true] at hz
      cases (Option.some.inj h); exact cmp_ne hu hz.1 hz.2
    · cases h
theorem seq_rep {K : PySem.W.Frag} {G H : Hp} {v : V} {y : PyData} {ds : List PyData} (s : Same G H) (h : seqD y = some ds) (r : Rep K G v y) : ∃ p vs, v = .ref p ∧ (SqL K H p vs ∨ SqT K H p vs) ∧ RepAll K G vs ds := by
  cases r with
  | list hq r => cases (Option.some.inj h); exact ⟨_, _, rfl, .inl (s.seq hq), r⟩
  | tuple hq r => cases (Option.some.inj h); exact ⟨_, _, rfl, .inr (seqT s hq), r⟩
  | dict _ _ _ => cases h
  | none => cases h
  | bool _ => cases h
  | int _ => cases h
  | str _ => cases h
noncomputable def lenD (ds : List PyData) : Option PyData := match ds with
  | [.list xs] => some (.int xs.length)
  | [.tuple xs] => some (.int xs.length)
  | [.str z] => if szOk z.length then some (.int z.length) else none
  | _ => none
theorem len_ok (ds : List PyData) (d : PyData) (h : lenD ds = some d) : CallD X (.builtin "len") ds d := by
  unfold lenD at h; split at h
  · cases (Option.some.inj h)
    exact ⟨_, call_len_seq, fun vs G H Q s r q => by
      cases r with | cons r rr => cases rr; cases r with | list hq r => exact ⟨_, _, rfl, .inl (s.seq hq), by rw [r.length]; exact q _ G H (.refl s) (.int _)⟩⟩
  · cases (Option.some.inj h)
    exact ⟨_, call_len_seq, fun vs G H Q s r q => by
      cases r with | cons r rr => cases rr; cases r with | tuple hq r => exact ⟨_, _, rfl, .inr (seqT s hq), by rw [r.length]; exact q _ G H (.refl s) (.int _)⟩⟩
  · split at h
    · rename_i hz
      cases (Option.some.inj h)
      exact ⟨_, call_len_str, fun vs G H Q s r q => by
        cases r with | cons r rr => cases rr; cases r with | str z => exact ⟨_, rfl, sz_le hz, q _ G H (.refl s) (.int _)⟩⟩
    · cases h
  · cases h
noncomputable def maxD (ds : List PyData) : Option PyData := match ds with
  | [.int i, .int j] => some (.int (max i j))
  | [.list xs] => (match allD intD xs with | some (n :: ns) => some (.int (maxI (n :: ns))) | _ => none)
  | _ => none
noncomputable def minD (ds : List PyData) : Option PyData := match ds with
  | [.int i, .int j] => some (.int (min i j))
  | [.list xs] => (match allD intD xs with | some (n :: ns) => some (.int (minI (n :: ns))) | _ => none)
  | _ => none
noncomputable def allB (ds : List PyData) : Option PyData := match ds with
  | [.list xs] => (allD boolD xs).map fun ns => .bool (ns.all id)
  | _ => none
theorem all_ok (hc : X.calm = true) (ds : List PyData) (d : PyData) (h : allB ds = some d) : CallD X (.builtin "all") ds d := by
  unfold allB at h; split at h
  · obtain ⟨ns, e, rfl⟩ := Option.map_eq_some_iff.mp h
    have := allD_is (g := .bool) (fun d a q => boolD_is q) e
    subst this
    exact ⟨_, call_allL hc, fun vs G H Q s r q => by
      cases r with | cons r rr => cases rr; cases r with | list hq r =>
        have e := r.bools
        subst e
        exact ⟨_, ns, rfl, s.seq hq, q _ G H (.refl s) (.bool _)⟩⟩
  · cases h
noncomputable def tupD (ds : List PyData) : Option PyData := match ds with
  | [.list xs] => some (.tuple xs)
  | [.tuple xs] => some (.tuple xs)
  | _ => none
theorem tup_ok (ds : List PyData) (d : PyData) (h : tupD ds = some d) : CallD X (.type "tuple") ds d := by
  unfold tupD at h; split at h
  · cases (Option.some.inj h)
    exact ⟨_, call_tuple_of, fun vs G H Q s r q => by
      cases r with | cons r rr => cases rr; cases r with | list hq r => exact ⟨_, _, rfl, .inl ⟨s.seq hq, fun l hl => q _ _ _ (.put s hl) (.tuple (.of upd_same) (r.mono (same_upd (s.free hl))))⟩⟩⟩
  · cases (Option.some.inj h)
    exact ⟨_, call_tuple_of, fun vs G H Q s r q => by
      cases r with | cons r rr => cases rr; cases r with | tuple hq r => exact ⟨_, _, rfl, .inr ⟨seqT s hq, q _ G H (.refl s) (.tuple hq r)⟩⟩⟩
  · cases h
noncomputable def lstD (ds : List PyData) : Option PyData := match ds with
  | [.list xs] => some (.list xs)
  | [.tuple xs] => some (.list xs)
  | _ => none
noncomputable def intC (ds : List PyData) : Option PyData := match ds with
  | [.bool b] => some (.int (if b then 1 else 0))
  | [.int i] => some (.int i)
  | _ => none
end
section
variable {X : Cx} {a b : Expr} {pos p p2 : Pos} {fa fb : EF}
noncomputable def negD : PyData → Option PyData
  | .int i => some (.int (-i))
  | _ => none
noncomputable def op1 (g : PyData → Option PyData) (fa : EF) : EF := fun ρ => bnd (fa ρ) fun x => lft (g x)
theorem de_neg (ha : DE X a fa) : DE X (.UnaryOp .USub a pos) (op1 negD fa) := ⟨fun pins s σ H Q I ⟨ρ, r, H0, G₀, G, e, R, q⟩ => pe_un un_neg ha.run pins s σ H Q I (bE R e q.x fun x v G1 H1 g1 R1 rv e1 => by
  obtain ⟨d, ed, rfl⟩ := lft_is e1
  cases x with
  | int i => cases (Option.some.inj ed); cases rv; exact ⟨_, rfl, q _ _ _ g1 (.int _)⟩
  | none => cases ed
  | bool _ => cases ed
  | str _ => cases ed
  | list _ => cases ed
  | tuple _ => cases ed
  | dict _ => cases ed)⟩
end
end L2.L3
namespace L2.L3
open PySem PySem.Spec PyProof.Rows
noncomputable def chn3E (g1 g2 g3 : PyData → PyData → Option Bool) (fa fb fc fd : EF) : EF := fun ρ => bnd (fa ρ) fun x => bnd (fb ρ) fun y => bnd (lft (g1 x y)) fun t => if t then bnd (fc ρ) fun z => bnd (lft (g2 y z)) fun u => if u then bnd (fd ρ) fun w => lft ((g3 z w).map .bool) else some (.ok (.bool false)) else some (.ok (.bool false))
noncomputable def isB (k x : PyData) : Option Bool := match k, x with
  | .none, .none => some true
  | .none, .bool _ => some false
  | .none, .int _ => some false
  | .none, .str _ => some false
  | .none, .list _ => some false
  | .none, .tuple _ => some false
  | .none, .dict _ => some false
  | .bool a, .bool b => some (b == a)
  | _, _ => none
noncomputable def isE (neg : Bool) (k : PyData) (fa : EF) : EF := fun ρ => bnd (fa ρ) fun x => lft ((isB k x).map fun t => .bool (neg != t))
noncomputable def isT (neg : Bool) (k : PyData) (fa : EF) : TF := fun ρ => bnd (fa ρ) fun x => lft ((isB k x).map fun t => neg != t)
noncomputable abbrev OF := List Ent → Mm (Option Int)
noncomputable def oNone : OF := fun _ => some (.ok none)
noncomputable def oSome (fa : EF) : OF := fun ρ => bnd (fa ρ) fun x => lft ((intD x).map some)
noncomputable def slD (x : PyData) (lo hi : Option Int) : Option PyData := match x with
  | .list ds => some (.list (cutD ds lo hi))
  | .tuple ds => if HT.sIx ds.length 0 lo = 0 ∧ HT.sIx ds.length ds.length hi = ds.length then none else some (.tuple (cutD ds lo hi))
  | _ => none
noncomputable def slE (fa : EF) (lo hi : OF) : EF := fun ρ => bnd (fa ρ) fun x => bnd (lo ρ) fun l => bnd (hi ρ) fun h => lft (slD x l h)
noncomputable def isTy (T : String) (x : PyData) : Option Bool := match T, x with
  | "int", .int _ => some true
  | "int", .bool _ => some true
  | "int", .none => some false
  | "int", .str _ => some false
  | "int", .list _ => some false
  | "int", .tuple _ => some false
  | "bool", .bool _ => some true
  | "bool", .int _ => some false
  | "bool", .none => some false
  | "bool", .str _ => some false
  | "bool", .list _ => some false
  | "bool", .tuple _ => some false
  | "str", .str _ => some true
  | "str", .int _ => some false
  | "str", .bool _ => some false
  | "str", .none => some false
  | "str", .list _ => some false
  | "str", .tuple _ => some false
  | "tuple", .tuple _ => some true
  | "tuple", .list _ => some false
  | "tuple", .str _ => some false
  | "tuple", .int _ => some false
  | "tuple", .bool _ => some false
  | "tuple", .none => some false
  | _, _ => none
noncomputable def isD (T : String) (x : PyData) : Option PyData := (isTy T x).map .bool
noncomputable def dedupI (ns : List Int) : List Int := ns.foldl (fun a n => if n ∈ a then a else a ++ [n]) []
noncomputable def dedupS (ns : List Str) : List Str := ns.foldl (fun a n => if n ∈ a then a else a ++ [n]) []
noncomputable def leStr (a b : Str) : Bool := !decide (b.cps.toList < a.cps.toList)
noncomputable def sortS (ns : List Str) : List Str := ns.mergeSort leStr
noncomputable def ssetD (x : PyData) : Option PyData := match x with
  | .list xs => (match allD intD xs with
    | some ns => if ns.length < 64 then some (.list ((sortI (dedupI ns)).map .int)) else none
    | none => (match allD strD xs with
      | some ns => if ns.length < 64 then some (.list ((sortS (dedupS ns)).map .str)) else none
      | none => none))
  | _ => none
end L2.L3
namespace L2.L3
open PySem PySem.Spec PyProof.Rows
section
variable {X : Cx} {e a b c d : Expr} {es : List Expr} {pos p p2 : Pos} {fa fb fc fd : EF}
theorem de_chn3 {o1 o2 o3 : CmpOp} {g1 g2 g3 : PyData → PyData → Option Bool} (h1 : ∀ x y t, g1 x y = some t → CmpD X o1 x y t) (h2 : ∀ x y t, g2 x y = some t → CmpD X o2 x y t) (h3 : ∀ x y t, g3 x y = some t → CmpD X o3 x y t)
    (ha : DE X a fa) (hb : DE X b fb) (hc : DE X c fc) (hd : DE X d fd) (hm : lastMarks [o1, o2, o3] [b, c, d] = false := by with_unfolding_all rfl) : DE X (.Compare a [o1, o2, o3] [b, c, d] pos) (chn3E g1 g2 g3 fa fb fc fd) := ⟨fun pins s σ H Q I ⟨ρ, r, H0, G₀, G, ef, R, q⟩ => by
  refine Compare_chain (thn (ha.run pins s σ H (fun v H1 => rE X fb σ H1 fun u H2 => ∃ x y G2 t, CmpD X o1 x y t ∧ Rep X.K G2 v x ∧ Rep X.K G2 u y ∧ RepS X.K H0 G₀ G2 H2 σ ρ ∧ EndE X H0 G₀ G2 ρ H2 Q r ∧
      (if t then bnd (fc ρ) fun z => bnd (lft (g2 y z)) fun u => if u then bnd (fd ρ) fun w => lft ((g3 z w).map .bool) else some (.ok (.bool false)) else some (.ok (.bool false))) = some r) I
    (bE R ef q.x fun x v G1 H1 k1 R1 rv e1 => bE R1 e1 (q.more k1).x fun y u G2 H2 k2 R2 ru e2 => by
      rcases bnd_some e2 with ⟨t, et, e3⟩ | ⟨_, et, _⟩
      · obtain ⟨t', et', z⟩ := lft_is et
        cases z
        exact ⟨x, y, G2, _, h1 x y _ et', rv.mono k2.gg, ru, R2, (q.more k1).more k2, e3⟩
      · obtain ⟨_, _, z⟩ := lft_is et; cases z)) fun v s1 ⟨xv, H1, I1, r1, q1⟩ => chain_link (thn (hb.run pins s1 σ H1 _ I1 q1) fun u s2 ⟨yv, H2, I2, r2, x, y, G2, t, ct, rx, ry, R2, q2, e3⟩ => ?_)) hm
  obtain ⟨rr, hr1, hr2⟩ := ct.ex
  refine thn (hr1 pins s2 σ H2 xv yv v u (fun w H' => w = .bl t ∧ H' = H2) I2 r1 r2 (hr2 xv yv G2 H2 _ R2.sub rx ry ⟨rfl, rfl⟩)) fun dv s3 ⟨z, H3, I3, r3, ez, eH⟩ => ?_
  subst ez eH
  cases r3
  refine wpAny_truthy_bool ?_
  cases t with
  | false =>
    refine ite_ff ?_
    rw [if_neg (by decide)] at e3
    cases (Option.some.inj e3)
    exact ⟨.bl false, H3, I3, rfl, q2 _ _ _ (.refl R2.sub) (.bool _)⟩
  | true =>
    refine ite_tt ?_
    rw [if_pos rfl] at e3
    refine chain_link (thn (hc.run pins s3 σ H3 (fun w H4 => ∃ z G4 t, CmpD X o2 y z t ∧ Rep X.K G4 yv y ∧ Rep X.K G4 w z ∧ RepS X.K H0 G₀ G4 H4 σ ρ ∧ EndE X H0 G₀ G4 ρ H4 Q r ∧
        (if t then bnd (fd ρ) fun w => lft ((g3 z w).map .bool) else some (.ok (.bool false))) = some r) I3
      (bE R2 e3 q2.x fun z w G4 H4 k4 R4 rw' e4 => by
        rcases bnd_some e4 with ⟨t, et, e5⟩ | ⟨_, et, _⟩
        · obtain ⟨t', et', z'⟩ := lft_is et
          cases z'
          exact ⟨z, G4, _, h2 y z _ et', ry.mono k4.gg, rw', R4, q2.more k4, e5⟩
        · obtain ⟨_, _, z'⟩ := lft_is et; cases z')) fun w s4 ⟨wv, H4, I4, r4, z, G4, t, ct2, ry4, rz, R4, q4, e5⟩ => ?_)
    obtain ⟨rr2, hr3, hr4⟩ := ct2.ex
    refine thn (hr3 pins s4 σ H4 yv wv u w (fun w H' => w = .bl t ∧ H' = H4) I4 r2 r4 (hr4 yv wv G4 H4 _ R4.sub ry4 rz ⟨rfl, rfl⟩)) fun dv2 s5 ⟨z2, H5, I5, r5, ez2, eH2⟩ => ?_
    subst ez2 eH2
    cases r5
    refine wpAny_truthy_bool ?_
    cases t with
    | false =>
      refine ite_ff ?_
      rw [if_neg (by decide)] at e5
      cases (Option.some.inj e5)
      exact ⟨.bl false, H5, I5, rfl, q4 _ _ _ (.refl R4.sub) (.bool _)⟩
    | true =>
      refine ite_tt ?_
      rw [if_pos rfl] at e5
      refine chain_last (thn (hd.run pins s5 σ H5 (fun k H6 => ∃ rr, OpR X (compareOp o3) rr ∧ rr wv k H6 Q) I5
        (bE R4 e5 q4.x fun wd k G6 H6 k6 R6 rk e6 => by
          obtain ⟨d', ed, rfl⟩ := lft_is e6
          obtain ⟨t, et, rfl⟩ := Option.map_eq_some_iff.mp ed
          obtain ⟨rr3, hr5, hr6⟩ := (h3 z wd t et).ex
          exact ⟨rr3, hr5, hr6 wv k G6 H6 Q k6.sub (rz.mono k6.gg) rk (q4 _ _ _ k6 (.bool _))⟩)) fun k s6 ⟨kv, H6, I6, r6, rr3, hr5, q6⟩ => hr5 pins s6 σ H6 wv kv w k Q I6 r4 r6 q6)⟩
theorem op_isB : OpR X (compareOp .Is) (fun x y H Q => ∃ c d, x = .bl c ∧ y = .bl d ∧ Q (.bl (c == d)) H) := by
  intro pins s σ H x y v u Q I rx ry ⟨c, d, e1, e2, q⟩
  subst e1 e2
  cases rx; cases ry
  exact is_bool (fin_bl I q rfl)
theorem cmp_isN {x : PyData} {t : Bool} (h : isB .none x = some t) : CmpD X .Is x .none t := ⟨_, op_isN, fun v u G H Q s rv ru q => by
  cases ru
  refine ⟨rfl, ?_⟩
  cases rv <;> (have h := Option.some.inj h; subst h; simpa using q)⟩
theorem isB_bool {c : Bool} {x : PyData} {t : Bool} (h : isB (.bool c) x = some t) : ∃ d, x = .bool d ∧ t = (d == c) := by
  cases x <;> first | (cases h; done) | (exact ⟨_, rfl, (Option.some.inj h).symm⟩)
theorem cmp_isT {c : Bool} {x : PyData} {t : Bool} (h : isB (.bool c) x = some t) : CmpD X .Is x (.bool c) t := by
  obtain ⟨d, rfl, rfl⟩ := isB_bool h
  exact ⟨_, op_isB, fun v u G H Q s rv ru q => by cases rv; cases ru; exact ⟨_, _, rfl, rfl, q⟩⟩
noncomputable def isG (neg : Bool) (k : PyData) (x y : PyData) : Option Bool := match k, y with
  | .none, .none => (isB k x).map fun t => neg != t
  | .bool a, .bool b => if a = b then (isB k x).map fun t => neg != t else none
  | _, _ => none
theorem isE_eq (neg : Bool) (k : PyData) (hk : k = .none ∨ ∃ c, k = .bool c) : isE neg k fa = cmpE (isG neg k) fa (cst k) := by
  funext ρ
  unfold isE cmpE cst
  cases fa ρ with
  | none => rfl
  | some r => cases r with
    | ex c => rfl
    | ok x =>
      rcases hk with rfl | ⟨c, rfl⟩
      · show lft _ = lft _; simp only [isG, Option.map_map]; rfl
      · show lft _ = lft _; simp only [isG, if_pos, Option.map_map]; rfl
theorem isG_ok {k x y : PyData} {t : Bool} (h : isG false k x y = some t) : CmpD X .Is x y t := by
  unfold isG at h
  split at h
  · obtain ⟨t', e, rfl⟩ := Option.map_eq_some_iff.mp h
    have := cmp_isN (X := X) e
    cases t' <;> exact this
  · split at h
    · rename_i hab
      subst hab
      obtain ⟨t', e, rfl⟩ := Option.map_eq_some_iff.mp h
      have := cmp_isT (X := X) e
      cases t' <;> exact this
    · cases h
  · cases h
theorem de_is_bool {k : Bool} {j} (ha : DE X a fa) : DE X (.Compare a [.Is] [.Constant (.bool k) j p] pos) (isE false (.bool k) fa) := by rw [isE_eq _ _ (.inr ⟨_, rfl⟩)]; exact de_cmp (fun _ _ _ h => isG_ok h) ha de_bool
end
end L2.L3
namespace L2.L3
open PySem PySem.Spec PyProof.Rows
section
variable {X : Cx} {a b : Expr} {elts : List Expr} {k0 : Nat} {p0 pos p : Pos} {fa fb : EF}
end
end L2.L3
namespace L2.SX
open PySem
noncomputable def Rise (xs : Array Nat) : Prop := xs.toList.Pairwise (· < ·)
theorem Rise.lt {xs : Array Nat} (h : Rise xs) {i j : Nat} (hij : i < j) (hj : j < xs.size) : xs[i] < xs[j] := by
  have := List.pairwise_iff_getElem.mp h i j (by simpa using Nat.lt_trans hij hj) (by simpa using hj) hij
  simpa using this
theorem go_is {xs : Array Nat} {j : Nat} (h : Rise xs) : ∀ (fuel lo hi : Nat), hi - lo ≤ fuel → lo ≤ hi → hi ≤ xs.size → (∀ i (hi' : i < xs.size), i < lo → xs[i] < j) → (∀ i (hi' : i < xs.size), hi ≤ i → j ≤ xs[i]) →
    SetTable.below.go xs j fuel lo hi ≤ xs.size ∧ (∀ i (hi' : i < xs.size), i < SetTable.below.go xs j fuel lo hi → xs[i] < j) ∧ ∀ i (hi' : i < xs.size), SetTable.below.go xs j fuel lo hi ≤ i → j ≤ xs[i]
  | 0, lo, hi, hf, hl, hs, h1, h2 => by
    have : lo = hi := by omega
    subst this
    unfold SetTable.below.go
    exact ⟨hs, h1, h2⟩
  | fuel + 1, lo, hi, hf, hl, hs, h1, h2 => by
    unfold SetTable.below.go
    by_cases hlt : lo < hi
    · rw [if_pos hlt]
      dsimp only
      have hm : (lo + hi) / 2 < xs.size := by omega
      have hg : xs.getD ((lo + hi) / 2) j = xs[(lo + hi) / 2] := by simp [Array.getD, hm]
      rw [hg]
      by_cases hc : xs[(lo + hi) / 2] < j
      · rw [if_pos hc]
        refine go_is h fuel _ hi (by omega) (by omega) hs (fun i hi' hlt' => ?_) h2
        by_cases he : i = (lo + hi) / 2
        · subst he; exact hc
        · exact Nat.lt_trans (h.lt (by omega) hm) hc
      · rw [if_neg hc]
        refine go_is h fuel lo _ (by omega) (by omega) (by omega) h1 (fun i hi' hge => ?_)
        by_cases he : i = (lo + hi) / 2
        · subst he; omega
        · have := h.lt (i := (lo + hi) / 2) (j := i) (by omega) hi'
          omega
    · rw [if_neg hlt]
      have : lo = hi := by omega
      subst this
      exact ⟨hs, h1, h2⟩
theorem below_is {xs : Array Nat} (h : Rise xs) (j : Nat) : SetTable.below xs j ≤ xs.size ∧ (∀ i (hi' : i < xs.size), i < SetTable.below xs j → xs[i] < j) ∧ ∀ i (hi' : i < xs.size), SetTable.below xs j ≤ i → j ≤ xs[i] :=
  go_is h _ _ _ (by omega) (Nat.zero_le _) (Nat.le_refl _) (fun _ _ z => absurd z (by omega)) (fun i hi' z => absurd z (by omega))
theorem below_next {xs : Array Nat} (h : Rise xs) {i : Nat} (hi : i < xs.size) : SetTable.below xs (xs[i] + 1) = i + 1 := by
  obtain ⟨b1, b2, b3⟩ := below_is h (xs[i] + 1)
  have c1 : ¬ SetTable.below xs (xs[i] + 1) ≤ i := fun z => by have := b3 i hi z; omega
  have c2 : ¬ i + 1 < SetTable.below xs (xs[i] + 1) := fun z => by
    have lt : i + 1 < xs.size := by omega
    have := b2 (i + 1) lt z
    have := h.lt (i := i) (j := i + 1) (by omega) lt
    omega
  omega
theorem below_zero (xs : Array Nat) (h : Rise xs) : SetTable.below xs 0 = 0 := by
  obtain ⟨b1, b2, b3⟩ := below_is h 0
  cases e : SetTable.below xs 0 with
  | zero => rfl
  | succ n =>
    have := b2 0 (by omega) (by omega)
    omega
theorem rise_put {xs : Array Nat} (h : Rise xs) {j : Nat} (hn : xs[SetTable.below xs j]? ≠ some j) : Rise (SetTable.insertAt xs (SetTable.below xs j) j) := by
  obtain ⟨b1, b2, b3⟩ := below_is h j
  unfold Rise
  rw [SetTable.toList_insertAt, List.pairwise_append]
  have ne : ∀ i (hi' : i < xs.size), SetTable.below xs j ≤ i → j < xs[i] := fun i hi' hge => by
    have a := b3 i hi' hge
    by_cases e : xs[i] = j
    · exfalso
      by_cases e2 : i = SetTable.below xs j
      · exact hn (by rw [← e2]; simp [hi', e])
      · have lt : SetTable.below xs j < i := by omega
        have := h.lt (i := SetTable.below xs j) (j := i) lt hi'
        have := b3 (SetTable.below xs j) (by omega) (Nat.le_refl _)
        omega
    · omega
  refine ⟨h.sublist (List.take_sublist _ _), ?_, fun a ha b hb => ?_⟩
  · rw [List.pairwise_cons]
    refine ⟨fun a ha => ?_, h.sublist (List.drop_sublist _ _)⟩
    obtain ⟨k, hk, e⟩ := List.mem_iff_getElem.mp ha
    rw [List.getElem_drop] at e
    subst e
    have : SetTable.below xs j + k < xs.size := by simpa using (by rw [List.length_drop, Array.length_toList] at hk; omega : SetTable.below xs j + k < xs.size)
    have := ne (SetTable.below xs j + k) this (by omega)
    simpa using this
  · obtain ⟨k, hk, e⟩ := List.mem_iff_getElem.mp ha
    rw [List.getElem_take] at e
    subst e
    rw [List.length_take, Array.length_toList] at hk
    have k1 : k < xs.size := by omega
    have ak := b2 k k1 (by omega)
    have ak' : xs.toList[k]'(by simpa using k1) < j := by simpa using ak
    rcases List.mem_cons.mp hb with rfl | hb
    · exact ak'
    · obtain ⟨k', hk', e'⟩ := List.mem_iff_getElem.mp hb
      rw [List.getElem_drop] at e'
      subst e'
      have k2 : SetTable.below xs j + k' < xs.size := by rw [List.length_drop, Array.length_toList] at hk'; omega
      have := ne (SetTable.below xs j + k') k2 (by omega)
      have : j < xs.toList[SetTable.below xs j + k']'(by simpa using k2) := by simpa using this
      omega
structure TOk (t : SetTable) (led : Bool) : Prop where
  led : t.led = led
  rise : t.plain = true → Rise t.place
theorem TOk.fresh (led : Bool) : TOk (SetTable.fresh 0 0 led) led := ⟨rfl, fun _ => by simp [SetTable.fresh, Rise]⟩
theorem TOk.standIn {t : SetTable} {led : Bool} (h : TOk t led) (n : Nat) : TOk (t.standIn n) led := ⟨h.led, fun z => by cases z⟩
theorem TOk.off {t : SetTable} {led : Bool} (h : TOk t led) : TOk { t with plain := false } led := ⟨h.led, fun z => by cases z⟩
theorem TOk.orStandIn {t : SetTable} {led : Bool} (h : TOk t led) (n : Nat) : TOk (t.orStandIn n) led := by
  unfold SetTable.orStandIn
  split
  · exact h
  · exact h.standIn n
theorem slot_free {t : SetTable} {j : Nat} (h : t.slot j = .empty ∨ t.slot j = .dummy) : t.place[SetTable.below t.place j]? ≠ some j := by
  intro z
  have : t.slot j = .live (SetTable.below t.place j) := by
    unfold SetTable.slot
    dsimp only
    rw [if_pos (by rw [z]; simp)]
  rcases h with h | h <;> (rw [this] at h; cases h)
theorem probe_free {t : SetTable} {f : Nat → Int} {h : Int} : ∀ (fuel : Nat) (p : SetTable.Probe) (j : Nat) (d : Option Nat), (∀ k, p.dummy = some k → t.slot k = .dummy) → SetTable.probe.go t f h fuel p = some (.empty j d) →
    (t.slot j = .empty) ∧ ∀ k, d = some k → t.slot k = .dummy
  | 0, p, j, d, _, e => by unfold SetTable.probe.go at e; cases e
  | fuel + 1, p, j, d, hd, e => by
    unfold SetTable.probe.go at e
    split at e
    · rename_i es
      cases (Option.some.inj e)
      exact ⟨es, hd⟩
    · rename_i es
      refine probe_free fuel _ j d (fun k hk => ?_) e
      have adv : ∀ q : SetTable.Probe, (t.advance q).dummy = q.dummy := fun q => by unfold SetTable.advance; split <;> rfl
      rw [adv] at hk
      cases hk
      exact es
    · split at e
      · cases e
      · refine probe_free fuel _ j d (fun k hk => ?_) e
        have adv : ∀ q : SetTable.Probe, (t.advance q).dummy = q.dummy := fun q => by unfold SetTable.advance; split <;> rfl
        rw [adv] at hk
        exact hd k hk
theorem TOk.layNew {t : SetTable} {led : Bool} (h : TOk t led) (es : Array (Int × Value)) (hs : Int) (x : Value) : TOk (layNew t es hs x).2.1 led := by
  unfold PySem.layNew
  split
  · rename_i slot wd e
    dsimp only
    have hput : TOk (t.put slot).1 led := by
      refine ⟨h.led, fun hp => ?_⟩
      have hr : Rise t.place := h.rise hp
      refine rise_put hr (slot_free ?_)
      unfold SetTable.freeSlot SetTable.probe at e
      split at e
      · rename_i j d em
        obtain ⟨a, b⟩ := probe_free _ _ j d (fun k hk => by simp [SetTable.probeStart] at hk) em
        cases (Option.some.inj e)
        cases d with
        | none => exact .inl a
        | some k => exact .inr (b k rfl)
      · cases e
    exact hput.orStandIn _
  · exact h.standIn _
theorem TOk.relayAll {t : SetTable} {led : Bool} (h : TOk t led) (es : Array (Int × Value)) (wanted : Nat) : TOk (relayAll t es wanted).2.1 led := by
  unfold PySem.relayAll
  split
  · rename_i t' order e
    dsimp only
    split
    · unfold SetTable.relaid SetTable.laid at e
      cases ho : SetTable.layClean (SetTable.sizeAbove wanted - 1) (es.map (·.1)) with
      | none => rw [ho] at e; cases e
      | some owner =>
        rw [ho] at e
        have e := Option.some.inj e
        have e1 := (congrArg Prod.fst e).symm
        dsimp only at e1
        subst e1
        refine ⟨h.led, fun _ => ?_⟩
        show List.Pairwise (· < ·) _
        simp only [List.toList_toArray]
        rw [List.pairwise_map, List.pairwise_filterMap]
        refine List.pairwise_lt_range.imp ?_
        intro a b hab x hx y hy
        obtain ⟨u, _, rfl⟩ := Option.map_eq_some_iff.mp hx
        obtain ⟨v, _, rfl⟩ := Option.map_eq_some_iff.mp hy
        exact hab
    · exact h.standIn _
  · exact h.standIn _
end L2.SX
namespace L2.SX
open PySem PyProof.Rows
section
variable {prog : Program} {w : World} {K : Type} [DecidableEq K]
structure Good (knd : KeyKind prog w K) (h : Heap) (a : Addr) (ks : List K) (led : Bool) : Prop where
  ex : ∃ o es ep t, h.get? a = some o ∧ o.ExactSet ∧ o.data = .set es ep t ∧ ElemsOf knd es.toList ∧ (∀ k, k ∈ ks ↔ ∃ e ∈ es.toList, knd.is k e.2 = true) ∧ es.size = ks.length ∧ t.fits es.size = true ∧ TOk t led
  nd : ks.Nodup
  few : ks.length < scanBound
noncomputable def addK (ks : List K) (k : K) : List K := if k ∈ ks then ks else ks ++ [k]
variable {knd : KeyKind prog w K} {A : Around} {E : Value → Shared → Prop} {s : Shared} {a : Addr} {ks : List K} {led : Bool}
theorem Good.keeps {h h' : Heap} (g : Good knd h a ks led) (k : ∀ o, h.get? a = some o → h'.get? a = some o) : Good knd h' a ks led := by
  obtain ⟨o, es, ep, t, ho, r⟩ := g.ex
  exact ⟨⟨o, es, ep, t, k o ho, r⟩, g.nd, g.few⟩
theorem stored {h : Heap} {o : Obj} {es es' : Array (Int × Value)} {ep : Nat} {t t' : SetTable} (ho : h.get? a = some o) (hd : o.data = .set es ep t) : (h.update a (Obj.putSet es' t')).get? a = some { o with data := .set es' (ep + 1) t' } := by
  have e := putSet_of es' t' hd
  have q := Heap.get?_update_self (Obj.putSet es' t') ho (by rw [e]; rfl)
  rw [e] at q
  exact q
theorem add_ok {k : K} {x : Value} {Q : Bool → Shared → Prop} (hkey : knd.is k x = true) (hsc : x.scannable = true) (g : Good knd s.heap a ks led) (hroom : ks.length + 1 < scanBound)
    (h : ∀ h' b, Heap.SameBut a s.heap h' → Good knd h' a (addK ks k) led → Q b { s with heap := h' }) : wpAny (model prog w) A (setAddHashed a x (knd.hash k)) Q E s := by
  obtain ⟨o, es, ep, t, ho, hex, hd, hel, hmem, hn, hf, hT⟩ := g.ex
  have hb : es.size < scanBound := by rw [hn]; exact g.few
  unfold setAddHashed setAddHashedIn
  refine wpAny_holding (wpAny_bind (wpAny_setState_of ho hd hf ?_))
  dsimp only
  rw [byScan_of hsc hb hel]
  simp only [↓reduceIte]
  unfold setAddByScan
  refine wpAny_bind (wpAny_bind (wpAny_rule (wpAny_bind (wpAny_setScan_of hkey ho hd hf hel ?_))))
  cases hr : List.findIdx? (fun e => knd.is k e.2) es.toList with
  | some j =>
    dsimp only
    obtain ⟨hj, hpj, _⟩ := List.findIdx?_eq_some_iff_getElem.mp hr
    have hk : k ∈ ks := (hmem k).mpr ⟨es.toList[j], List.getElem_mem hj, hpj⟩
    refine wpAny_pure (wpAny_pure ?_)
    have q := h s.heap false (Heap.SameBut.refl a s.heap) (by unfold addK; rw [if_pos hk]; exact g)
    exact q
  | none =>
    dsimp only
    have hk : k ∉ ks := fun z => by
      obtain ⟨e, he, hp⟩ := (hmem k).mp z
      have := List.findIdx?_eq_none_iff.mp hr e he
      rw [hp] at this
      cases this
    have gone : ∀ (b : Bool) {s₁ : Shared} {Q' : Unit → Shared → Prop}, Q' () s₁ → wpAny (model prog w) A (match b with | true => rule "set.scan.the-table-gave-way" | false => pure ()) Q' E s₁ := by
      intro b s₁ Q' q
      cases b
      · exact wpAny_pure q
      · exact wpAny_rule q
    have hperm := layNew_perm t es (knd.hash k) x
    have hfits := layNew_fits t es (knd.hash k) x
    have hTL := hT.layNew es (knd.hash k) x
    generalize layNew t es (knd.hash k) x = L at hperm hfits hTL ⊢
    obtain ⟨es1, t1, wd, gave⟩ := L
    dsimp only at hperm hfits hTL ⊢
    rw [Array.toList_push] at hperm
    have hel1 : ElemsOf knd es1.toList := (hel.push hkey hsc).perm hperm
    have hmem1 : ∀ k', k' ∈ addK ks k ↔ ∃ e ∈ es1.toList, knd.is k' e.2 = true := by
      intro k'
      unfold addK
      rw [if_neg hk, List.mem_append, List.mem_singleton, hmem k']
      constructor
      · rintro (⟨e, he, hp⟩ | rfl)
        · exact ⟨e, hperm.mem_iff.mpr (List.mem_append_left _ he), hp⟩
        · exact ⟨_, hperm.mem_iff.mpr (List.mem_append_right _ (List.mem_singleton.mpr rfl)), hkey⟩
      · rintro ⟨e, he, hp⟩
        rcases List.mem_append.mp (hperm.mem_iff.mp he) with he | he
        · exact .inl ⟨e, he, hp⟩
        · rw [List.mem_singleton] at he
          subst he
          exact .inr (knd.inj x k' k hp hkey)
    have hlen : (addK ks k).length = ks.length + 1 := by unfold addK; rw [if_neg hk]; simp
    have hsz1 : es1.size = (addK ks k).length := by rw [hlen, ← hn, ← Array.length_toList, hperm.length_eq]; simp
    have hb1 : es1.size < scanBound := by rw [hsz1, hlen]; exact hroom
    have hnd : (addK ks k).Nodup := by
      unfold addK
      rw [if_neg hk, List.nodup_append]
      exact ⟨g.nd, by simp, fun a ha b hb => by rw [List.mem_singleton] at hb; subst hb; exact fun z => hk (z ▸ ha)⟩
    have tail : ∀ {gv : Bool → Sem Unit} (hgv : ∀ (b : Bool) (s₁ : Shared) (Q' : Unit → Shared → Prop), Q' () s₁ → wpAny (model prog w) A (gv b) Q' E s₁) {t2 : SetTable}, t2.fits es1.size = true → TOk t2 led → ∀ {R : Option Bool → Shared → Prop}, (∀ h', Heap.SameBut a s.heap h' → Good knd h' a (addK ks k) led → R (some true) { s with heap := h' }) →
        wpAny (model prog w) A (do
          storeSet a es1 t2
          if (!wd && t2.tooFull) = true then do
              gv (relayAll t2 es1 (SetTable.grown es1.size)).2.2
              storeSet a (relayAll t2 es1 (SetTable.grown es1.size)).1 (relayAll t2 es1 (SetTable.grown es1.size)).2.1
              pure (some true)
            else pure (some true)) R E s := by
      intro gv hgv t2 hf2 hT2 R hR
      refine wpAny_bind (wpAny_storeSet_of ho hd ?_ (fits_of_scanBound hb1))
      have ho1 := stored (es' := es1) (t' := t2) ho hd
      have sb1 := Heap.SameBut.update s.heap a (Obj.putSet es1 t2)
      split
      · have p2 := relayAll_perm t2 es1 (SetTable.grown es1.size)
        have f2 := relayAll_fits t2 es1 (SetTable.grown es1.size)
        have hT3 := hT2.relayAll es1 (SetTable.grown es1.size)
        generalize relayAll t2 es1 (SetTable.grown es1.size) = W at p2 f2 hT3 ⊢
        obtain ⟨es2, t3, gv2⟩ := W
        dsimp only at p2 f2 hT3 ⊢
        have sz2 : es2.size = es1.size := by rw [← Array.length_toList, p2.length_eq, Array.length_toList]
        refine wpAny_bind (hgv _ _ _ ?_)
        refine wpAny_bind (wpAny_storeSet_of ho1 rfl ?_ (fits_of_scanBound (by rw [sz2]; exact hb1)))
        have ho2 := stored (a := a) (es' := es2) (t' := t3) ho1 rfl
        refine wpAny_pure (hR _ (sb1.trans (Heap.SameBut.update _ a _)) ⟨⟨_, es2, _, t3, ho2, hex, rfl, hel1.perm p2, fun k' => (hmem1 k').trans ⟨fun ⟨e, he, q⟩ => ⟨e, p2.mem_iff.mpr he, q⟩, fun ⟨e, he, q⟩ => ⟨e, p2.mem_iff.mp he, q⟩⟩, by rw [sz2]; exact hsz1, f2, hT3⟩, hnd, by rw [hlen]; exact hroom⟩)
      · exact wpAny_pure (hR _ sb1 ⟨⟨_, es1, _, t2, ho1, hex, rfl, hel1, hmem1, hsz1, hf2, hT2⟩, hnd, by rw [hlen]; exact hroom⟩)
    refine wpAny_bind (gone _ ?_)
    split
    · refine wpAny_bind ?_
      rw [hashByValue_scannable 8 hsc]
      refine wpAny_pure ?_
      split
      · refine tail (fun b s₁ Q' q => by cases b <;> first | exact wpAny_pure q | exact wpAny_rule q) hfits hTL fun h' sb gg => ?_
        dsimp only
        exact wpAny_pure (h h' true sb gg)
      · refine tail (fun b s₁ Q' q => by cases b <;> first | exact wpAny_pure q | exact wpAny_rule q) (SetTable.fits_plain_off hfits) hTL.off fun h' sb gg => ?_
        dsimp only
        exact wpAny_pure (h h' true sb gg)
    · refine wpAny_bind (wpAny_pure ?_)
      simp only [↓reduceIte]
      refine tail (fun b s₁ Q' q => by cases b <;> first | exact wpAny_pure q | exact wpAny_rule q) hfits hTL fun h' sb gg => ?_
      dsimp only
      exact wpAny_pure (h h' true sb gg)
end
section
variable {prog : Program} {w : World} {K : Type} [DecidableEq K] {knd : KeyKind prog w K} {A : Around} {R : Result → Shared → Prop} {I : Addr} {fp wr : List Addr} {G : Array GenState → Array GenState → Prop} {n : Nat} {P : Nat → Value → Prop} {St : Nat → Shared → Prop} {led : Bool}
noncomputable def metK (val : Nat → K) (i : Nat) : List K := ((List.range i).map val).foldl addK []
theorem metK_succ (val : Nat → K) (i : Nat) : metK val (i + 1) = addK (metK val i) (val i) := by unfold metK; rw [List.range_succ, List.map_append, List.foldl_append]; rfl
theorem metK_len (val : Nat → K) : ∀ i, (metK val i).length ≤ i
  | 0 => by simp [metK]
  | i + 1 => by
    have := metK_len val i
    rw [metK_succ]; unfold addK; split
    · omega
    · simp; omega
theorem loop_ok (W : WalksS prog w A.in1 I fp wr G n P St) (S : Addr) (hSf : S ∉ fp) (val : Nat → K) (hval : ∀ i v, P i v → knd.is (val i) v = true ∧ v.scannable = true)
    (hpy : ∀ i v (A' : Around) (E' : Value → Shared → Prop) (s' : Shared) (Q' : Int → Shared → Prop), P i v → Q' (knd.hash (val i)) { s' with toks := s'.toks + 1 } → wpAny (model prog w) A' (pyHash v) Q' E' s') (hb : n + 1 < scanBound) :
    ∀ (m i : Nat) (s : Shared), n - i = m → i ≤ n → St i s → Good knd s.heap S (metK val i) led → (∀ s', Moved (S :: wr) G s s' → Good knd s'.heap S (metK val n) led → R (.ok (.ret .none)) s') →
      codeAny (model prog w) A (.builtin "set.update.loop" ⟨[.ref S, .ref I], []⟩) R s := by
  have nw : S ∉ wr := fun z => hSf (W.sub _ z)
  have up : ∀ b ∈ wr, b ∈ S :: wr := fun b hb => List.mem_cons_of_mem _ hb
  intro m
  induction m with
  | zero =>
    intro i s hm hi st g hR
    obtain rfl : i = n := by omega
    refine codeAny_builtin F.entry_set_update_loop ?_
    rw [Around.under_plainId F.plain_set_update_loop _]
    show wpAny _ A.in1 (pyNext (.ref I) >>= _) _ _ s
    refine wpAny_bind (W.done s _ _ st fun s' mv => ?_)
    exact wpAny_pure (hR s' (mv.mono up) (g.keeps fun o e => mv.heap S o nw e))
  | succ m ih =>
    intro i s hm hi st g hR
    have lt : i < n := by omega
    refine codeAny_builtin F.entry_set_update_loop ?_
    rw [Around.under_plainId F.plain_set_update_loop _]
    show wpAny _ A.in1 (pyNext (.ref I) >>= _) _ _ s
    refine wpAny_bind (W.item i s _ _ lt st fun v s' pv st' mv => ?_)
    have g' := g.keeps (h' := s'.heap) fun o e => mv.heap S o nw e
    obtain ⟨hk, hsc⟩ := hval i v pv
    show wpAny _ A.in1 (holding [v] (setAdd S v) >>= _) _ _ s'
    refine wpAny_bind (wpAny_holding ?_)
    unfold setAdd
    refine wpAny_holding (wpAny_bind (hpy i v _ _ _ _ pv ?_))
    have room : (metK val i).length + 1 < scanBound := by have := metK_len val i; omega
    refine add_ok (knd := knd) (s := { s' with toks := s'.toks + 1 }) hk hsc g' room fun h' b sb g2 => ?_
    rw [← metK_succ] at g2
    refine wpAny_pure ⟨plainId_quiet F.plain_set_update_loop _, ih (i + 1) _ (by omega) lt (W.frame _ s' _ _ st' (Nat.le_succ _) fun c hc o e => ?_) g2 fun s'' mv'' g'' => ?_⟩
    · rw [sb.2 c (fun z : c = S => hSf (z ▸ hc))]
      exact e
    · refine hR s'' (Moved.trans W.gtrans ((mv.mono up).then_heap (Nat.le_succ _) fun c o hc e => ?_) mv'') g''
      rw [sb.2 c (fun z : c = S => hc (by rw [z]; exact List.mem_cons_self))]
      exact e
end
end L2.SX
namespace L2.SX
open PySem PyProof.Rows
noncomputable def ledOf (w : World) : Bool := !w.params.followText "set-order"
noncomputable abbrev newSetO (w : World) : Obj := { cls := .type "set", dict := none, data := .set #[] 0 (.fresh 0 0 (ledOf w)) }
section
variable {prog : Program} {w : World} {A : Around} {E : Value → Shared → Prop} {s : Shared} {K : Type} [DecidableEq K] {knd : KeyKind prog w K}
theorem good_new (h : Heap) : Good knd (h.push (newSetO w)) h.objs.size [] (ledOf w) :=
  ⟨⟨_, #[], 0, _, Heap.get?_push_size _ rfl, ⟨rfl, rfl, rfl⟩, rfl, fun e he => by simp at he, fun k => by simp, rfl, rfl, .fresh _⟩, List.nodup_nil, by show 0 < scanBound; decide⟩
theorem new_one (v : Value) {Q1 : Value → Shared → Prop} (h : Q1 (.ref s.heap.objs.size) { s with heap := s.heap.push (newSetO w) }) : codeAny (model prog w) A (.call (.builtin "set.__new__") ⟨[.type "set", v], []⟩) (wants Q1 E) s := by
  refine codeAny_of_tree ?_
  show wpAny _ A.in1 (checkBuiltinCall "set.__new__" ⟨[.type "set", v], []⟩ >>= fun _ => again (.builtin "set.__new__" ⟨[.type "set", v], []⟩)) _ _ s
  refine wpAny_bind (wpAny_of_eq (F.newCall_set_1 v) (wpAny_pure ⟨plainId_quiet F.plain_set_new _, codeAny_builtin F.entry_set_new ?_⟩))
  rw [Around.under_plainId F.plain_set_new _]
  unfold Builtin.«set.__new__» Builtin.Frozenset.newClass
  have sub := sub_set_self
  obtain ⟨hp, gs, dr, tk, os⟩ := s
  dsimp only
  wp_walk
  refine wpAny_askSetting (wpAny_pure ?_)
  dsimp only [newObj]
  exact wpAny_bind (wpAny_alloc (wpAny_pure (wpAny_pure h)))
theorem set_of {l : Addr} {items : Array Value} {val : Nat → K} {Q : Value → Shared → Prop} (hh : A.handled = none) (hl : s.heap.IsList l items) (hval : ∀ i v, items[i]? = some v → knd.is (val i) v = true ∧ v.scannable = true)
    (hpy : ∀ i v (A' : Around) (E' : Value → Shared → Prop) (s' : Shared) (Q' : Int → Shared → Prop), items[i]? = some v → Q' (knd.hash (val i)) { s' with toks := s'.toks + 1 } → wpAny (model prog w) A' (pyHash v) Q' E' s') (hb : items.size + 1 < scanBound)
    (h : ∀ (h' : Heap) (tk : Nat), Good knd h' s.heap.objs.size (metK val items.size) (ledOf w) → (∀ b o, b < s.heap.objs.size → s.heap.get? b = some o → h'.get? b = some o) → Q (.ref s.heap.objs.size) { s with heap := h', toks := tk }) :
    wpAny (model prog w) A (call (.type "set") [.ref l]) Q E s := by
  obtain ⟨c, tl, hmro⟩ := F.called_set.mro
  have hmade := F.called_set.made
  have hsub := F.called_set.sub
  refine wpAny_call (codeAny_of_tree ?_)
  show wpAny _ _ (callAny (.type "set") ⟨[.ref l], []⟩) _ _ _
  refine wpAny_pure ⟨Code.quiet_builtin _ (by decide +kernel), codeAny_builtin F.entry_type_call ?_⟩
  rw [Around.under_plain (weight_type_call_type "set" [.ref l] []) rfl]
  have n1 := F.called_set.notType
  have n2 := F.called_set.canCreate
  have n3 := F.typeCall_set_1 (.ref l)
  repeat (any_goals (first | assumption | wp_step))
  refine codeAny_mono (new_one (.ref l) (E := E) (Q1 := fun ob s1 => ob = .ref s.heap.objs.size ∧ s1 = { s with heap := s.heap.push (newSetO w) }) ⟨rfl, rfl⟩) fun r s1 hr => ?_
  cases r with
  | error e => exact hr
  | ok fl =>
    cases fl with
    | ret ob =>
      obtain ⟨rfl, rfl⟩ := hr
      have hS : (s.heap.push (newSetO w)).get? s.heap.objs.size = some (newSetO w) := Heap.get?_push_size _ rfl
      have hT : Shared.TypeIs { s with heap := s.heap.push (newSetO w) } (.ref s.heap.objs.size) "set" := ⟨_, hS, rfl⟩
      have k1 := F.called_set.init.lookup
      have k2 := F.called_set.init.bind (.ref s.heap.objs.size)
      repeat (any_goals (first | assumption | wp_step))
      refine codeAny_mono (codeAny_call_builtin (R := wants (fun r s2 => r = .none ∧ ∃ h' tk, s2 = { s with heap := h', toks := tk } ∧ Good knd h' s.heap.objs.size (metK val items.size) (ledOf w) ∧ ∀ b o, b < s.heap.objs.size → s.heap.get? b = some o → h'.get? b = some o) E)
        F.called_set.init.plain F.entry_set_init (check_set_init_1 hT ?_)) fun r2 s2 hr2 => ?_
      · obtain ⟨ol, g0, c0, nl, d0⟩ := hl
        obtain ⟨ocl, odc, odt, osl⟩ := ol
        dsimp only at c0 d0
        subst c0 d0
        have g1 : (s.heap.push (newSetO w)).get? l = some { cls := .type "list", dict := odc, data := .seq items nl, slots := osl } := Heap.get?_push_of_some _ g0
        have s1 := F.sub_list_set
        have s2 := F.sub_list_frozenset
        have ne : (Value.type "list" == Value.type "dict") = false := by decide
        have L1 : (s.heap.push (newSetO w)).IsList l items := ⟨_, g1, rfl, nl, rfl⟩
        unfold Builtin.«set.__init__» noKeywords Builtin.Frozenset.updateFrom
        generalize hI : pyIter = PI
        wp_walk
        subst hI
        refine wpAny_pyIter_list L1 (wpAny_bind (wpAny_runValue ?_))
        have lt : l < s.heap.objs.size := Heap.lt_size g0
        have h3 : A.in1.in1.in1.handled = none := by simp [hh]
        have nI : l ≠ (s.heap.push (newSetO w)).objs.size := by
          rw [Heap.size_push]; exact Nat.ne_of_lt (Nat.lt_succ_of_lt lt)
        have nf : s.heap.objs.size ∉ [(s.heap.push (newSetO w)).objs.size, l] := by
          rw [Heap.size_push]
          intro z
          rcases List.mem_cons.mp z with z | z
          · exact absurd z (Nat.ne_of_lt (Nat.lt_succ_self _))
          · rw [List.mem_singleton] at z
            exact absurd z (Nat.ne_of_gt lt)
        refine loop_ok (knd := knd) (led := ledOf w) ((Walks.list h3 _ l nI items).toS) s.heap.objs.size nf val hval hpy hb (items.size - 0) 0 _ (by omega) (Nat.zero_le _) ⟨⟨_, Heap.get?_push_size _ rfl, rfl, rfl⟩, L1.push _⟩ ?g0 ?gR
        case g0 => exact (good_new (knd := knd) s.heap).keeps fun o e => Heap.get?_push_of_some _ e
        case gR =>
          intro s' mv g'
          obtain ⟨h', gs', dr', tk', os'⟩ := s'
          obtain rfl : gs' = s.gens := mv.gens
          obtain rfl : dr' = s.drawn := mv.drawn
          obtain rfl : os' = s.os := mv.os
          show wpAny _ _ _ _ _ _
          refine wpAny_pure ?_
          show wpAny _ _ (ret Value.none) _ _ _
          refine wpAny_pure ⟨rfl, h', tk', rfl, g', fun b o hb' e => ?_⟩
          refine mv.heap b o (fun z => ?_) (Heap.get?_push_of_some _ (Heap.get?_push_of_some _ e))
          rcases List.mem_cons.mp z with z | z
          · exact absurd z (Nat.ne_of_lt hb')
          · rw [List.mem_singleton, Heap.size_push] at z
            exact absurd z (Nat.ne_of_lt (Nat.lt_succ_of_lt hb'))
      · cases r2 with
        | error e => exact hr2
        | ok fl2 =>
          cases fl2 with
          | ret r =>
            obtain ⟨rfl, h', tk, rfl, g', kp⟩ := hr2
            repeat (any_goals (first | assumption | wp_step))
            exact h _ _ g' kp
          | _ => exact hr2.elim
    | _ => exact hr.elim
end
end L2.SX
namespace L2.SX
open PySem PyProof.Rows
theorem slot_next : Slot "set_iterator" "__next__" "set_iterator.__next__" :=
  .of (owner := "set_iterator") (n := "__next__") (by rw [typeLookup_type, builtinLookup_eq_fast]; kernel_rfl) (by decide +kernel) (by decide +kernel) (by decide +kernel) (by first | exact .inl (by decide +kernel) | exact .inr (by decide +kernel)) (by rw [isSubtype_type]; kernel_rfl)
theorem entry_next : entryFor table "set_iterator.__next__" = some Builtin.«set_iterator.__next__» := entryFor_of_fast (by kernel_rfl)
theorem args_next (v : Value) : argsOk "set_iterator.__next__" ⟨[v], []⟩ := by unfold argsOk; kernel_rfl
theorem entry_iter : entryFor table "set.__iter__" = some Builtin.«frozenset.__iter__» := entryFor_alias (id' := "frozenset.__iter__") (by kernel_rfl) rfl (by decide +kernel) (by kernel_rfl)
noncomputable abbrev itO (f0 : Value) (i : Nat) (a : Addr) (n ep : Nat) : Obj := { cls := .type "set_iterator", data := .fields #[f0, rawInt i, .ref a, rawInt n, rawInt ep] }
structure SetAt (h : Heap) (a : Addr) (es : Array (Int × Value)) (ep : Nat) (t : SetTable) : Prop where
  ex : ∃ o, h.get? a = some o ∧ o.cls = .type "set" ∧ o.data = .set es ep t
  fits : t.fits es.size = true
section
variable {prog : Program} {w : World} {A : Around} {E : Value → Shared → Prop} {s : Shared} {a I : Addr} {es : Array (Int × Value)} {ep i : Nat} {t : SetTable}
theorem SetAt.keeps {h h' : Heap} (g : SetAt h a es ep t) (k : ∀ o, h.get? a = some o → h'.get? a = some o) : SetAt h' a es ep t := by
  obtain ⟨o, ho, r⟩ := g.ex
  exact ⟨⟨o, k o ho, r⟩, g.fits⟩
theorem SetAt.state {Q : (Array (Int × Value) × Nat × SetTable) → Shared → Prop} (g : SetAt s.heap a es ep t) (h : Q (es, ep, t) s) : wpAny (model prog w) A (setState a) Q E s := by
  obtain ⟨o, ho, _, hd⟩ := g.ex
  exact wpAny_setState_of ho hd g.fits h
theorem SetAt.entries {Q : Array (Int × Value) → Shared → Prop} (g : SetAt s.heap a es ep t) (h : Q es s) : wpAny (model prog w) A (setEntries a) Q E s := by
  unfold setEntries
  exact wpAny_bind (g.state (wpAny_pure h))
theorem next_item {f0 : Nat} {x : Value} {nx : Nat} {Q : Option Value → Shared → Prop} (hI : s.heap.get? I = some (itO (rawInt f0) i a es.size ep)) (g : SetAt s.heap a es ep t)
    (hn : ∀ (A' : Around) (E' : Value → Shared → Prop) (Q' : Option (Value × Nat) → Shared → Prop), Q' (some (x, nx)) s → wpAny (model prog w) A' (setNext a f0 i ep) Q' E' s)
    (hQ : ∀ h', h'.get? I = some (itO (rawInt nx) (i + 1) a es.size ep) → Heap.SameBut I s.heap h' → Q (some x) { s with heap := h' }) : wpAny (model prog w) A (pyNext (.ref I)) Q E s := by
  have hT : s.TypeIs (.ref I) "set_iterator" := ⟨_, hI, rfl⟩
  unfold pyNext
  refine wpAny_bind (wpAny_attempt (wpAny_callSpecial?_slot (name := Str.ofString "__next__") hT slot_next (wpAny_call_entry slot_next hT entry_next ?_ (args_next _))))
  unfold Builtin.«set_iterator.__next__»
  generalize hSE : setEntries = SE
  generalize hSN : setNext = SN
  generalize hSF : setField = SF
  wp_walk
  subst hSE hSN hSF
  refine g.entries ?_
  dsimp only
  rw [if_neg (by simp)]
  show wpAny _ A.in1 (setNext a (f0 : Int).toNat (i : Int).toNat (ep : Int).toNat >>= _) _ _ s
  rw [Int.toNat_natCast, Int.toNat_natCast, Int.toNat_natCast]
  refine wpAny_bind (hn _ _ _ ?_)
  dsimp only
  refine wpAny_bind (wpAny_setField_rec hI (by simp) fun h1 g1 s1 => ?_)
  refine wpAny_bind (wpAny_setField_rec g1 (by simp) fun h2 g2 s2 => ?_)
  refine wpAny_pure ⟨x, rfl, wpAny_pure (hQ h2 ?_ (s1.trans s2))⟩
  rw [g2]
  simp [itO, rawInt]
theorem next_end {f0 : Nat} {Q : Option Value → Shared → Prop} (hh : A.handled = none) (hI : s.heap.get? I = some (itO (rawInt f0) i a es.size ep)) (g : SetAt s.heap a es ep t)
    (hn : ∀ (A' : Around) (E' : Value → Shared → Prop) (Q' : Option (Value × Nat) → Shared → Prop), Q' none s → wpAny (model prog w) A' (setNext a f0 i ep) Q' E' s)
    (hQ : ∀ h', Heap.ExtBut I s.heap h' → Q none { s with heap := h' }) : wpAny (model prog w) A (pyNext (.ref I)) Q E s := by
  have hT : s.TypeIs (.ref I) "set_iterator" := ⟨_, hI, rfl⟩
  unfold pyNext
  refine wpAny_bind (wpAny_attempt (wpAny_callSpecial?_slot (name := Str.ofString "__next__") hT slot_next (wpAny_call_entry slot_next hT entry_next ?_ (args_next _))))
  unfold Builtin.«set_iterator.__next__»
  generalize hSE : setEntries = SE
  generalize hSN : setNext = SN
  generalize hSF : setField = SF
  generalize hNE : newExc = NE
  generalize hRN : @raiseNew = RN
  wp_walk
  subst hSE hSN hSF hNE hRN
  refine g.entries ?_
  dsimp only
  rw [if_neg (by simp)]
  show wpAny _ A.in1 (setNext a (f0 : Int).toNat (i : Int).toNat (ep : Int).toNat >>= _) _ _ s
  rw [Int.toNat_natCast, Int.toNat_natCast, Int.toNat_natCast]
  refine wpAny_bind (hn _ _ _ ?_)
  dsimp only
  refine wpAny_bind (wpAny_setField_rec hI (by simp) fun h1 g1 s1 => ?_)
  refine wpAny_bind ?_
  dsimp only [newExc, newTuple]
  refine wpAny_bind (wpAny_newObj_type ?_ (by size_fits))
  refine wpAny_bind (m := firstArgMember _ _) (wpAny_of_eq (a := Value.none) (by first | rfl | (simp only [firstArgMember]; rfl)) ?_)
  refine wpAny_newObj_type ?_ (by size_fits)
  dsimp only [raiseNew]
  refine wpAny_bind (wpAny_handled ?_)
  rw [show A.in1.handled = none from hh]
  refine wpAny_bind (wpAny_pure (wpAny_throw ?_))
  refine wpAny_bind (wpAny_isInstance (T := "StopIteration") (b := true) ⟨_, Heap.get?_push_size _ rfl, rfl⟩ isSubtype_stop ?_)
  exact wpAny_pure (hQ _ ((s1.extBut.push _).push _))
end
end L2.SX
namespace L2.SX
open PySem PyProof.Rows
section
variable {prog : Program} {w : World} {A : Around} {E : Value → Shared → Prop} {s : Shared} {a I T : Addr} {es : Array (Int × Value)} {ep i : Nat} {t : SetTable}
noncomputable abbrev plO (pl : List Nat) : Obj := { cls := .type "tuple", data := .seq (pl.map fun (k : Nat) => rawInt k).toArray }
theorem next_itemD {pl : List Nat} {p : Nat} {hx : Int} {x : Value} {Q : Option Value → Shared → Prop} (hI : s.heap.get? I = some (itO (.ref T) i a es.size ep)) (hT : s.heap.get? T = some (plO pl)) (g : SetAt s.heap a es ep t) (hp : pl[i]? = some p) (he : es[p]? = some (hx, x))
    (hQ : ∀ h', h'.get? I = some (itO (.ref T) (i + 1) a es.size ep) → Heap.SameBut I s.heap h' → Q (some x) { s with heap := h' }) : wpAny (model prog w) A (pyNext (.ref I)) Q E s := by
  have hty : s.TypeIs (.ref I) "set_iterator" := ⟨_, hI, rfl⟩
  unfold pyNext
  refine wpAny_bind (wpAny_attempt (wpAny_callSpecial?_slot (name := Str.ofString "__next__") hty slot_next (wpAny_call_entry slot_next hty entry_next ?_ (args_next _))))
  unfold Builtin.«set_iterator.__next__»
  generalize hSE : setEntries = SE
  generalize hSN : setNextDrawn = SN
  generalize hSF : setField = SF
  generalize hSI : seqItems? = SI
  wp_walk
  subst hSE hSN hSF hSI
  refine g.entries ?_
  dsimp only
  rw [if_neg (by simp)]
  show wpAny _ A.in1 (seqItems? (.ref T) >>= _) _ _ s
  refine wpAny_bind (wpAny_seqItems hT rfl ?_)
  dsimp only
  have e1 : (pl.map fun (k : Nat) => rawInt k).toArray[(i : Int).toNat]? = some (rawInt p) := by
    rw [Int.toNat_natCast, List.getElem?_toArray, List.getElem?_map, hp]; rfl
  rw [e1]
  show wpAny _ A.in1 (setNextDrawn a (p : Int).toNat (ep : Int).toNat >>= _) _ _ s
  rw [Int.toNat_natCast, Int.toNat_natCast]
  unfold setNextDrawn
  refine wpAny_bind (wpAny_bind (g.state ?_))
  dsimp only
  rw [if_neg (by simp), he]
  refine wpAny_pure ?_
  refine wpAny_bind (wpAny_setField_rec hI (by simp) fun h1 g1 s1 => ?_)
  refine wpAny_pure ⟨x, rfl, wpAny_pure (hQ h1 ?_ s1)⟩
  rw [g1]
  simp [itO, rawInt]
theorem next_endD {pl : List Nat} {Q : Option Value → Shared → Prop} (hh : A.handled = none) (hI : s.heap.get? I = some (itO (.ref T) i a es.size ep)) (hT : s.heap.get? T = some (plO pl)) (g : SetAt s.heap a es ep t) (hp : pl[i]? = none)
    (hQ : ∀ h', Heap.ExtBut I s.heap h' → Q none { s with heap := h' }) : wpAny (model prog w) A (pyNext (.ref I)) Q E s := by
  have hty : s.TypeIs (.ref I) "set_iterator" := ⟨_, hI, rfl⟩
  unfold pyNext
  refine wpAny_bind (wpAny_attempt (wpAny_callSpecial?_slot (name := Str.ofString "__next__") hty slot_next (wpAny_call_entry slot_next hty entry_next ?_ (args_next _))))
  unfold Builtin.«set_iterator.__next__»
  generalize hSE : setEntries = SE
  generalize hSF : setField = SF
  generalize hSI : seqItems? = SI
  generalize hNE : newExc = NE
  generalize hRN : @raiseNew = RN
  wp_walk
  subst hSE hSF hSI hNE hRN
  refine g.entries ?_
  dsimp only
  rw [if_neg (by simp)]
  show wpAny _ A.in1 (seqItems? (.ref T) >>= _) _ _ s
  refine wpAny_bind (wpAny_seqItems hT rfl ?_)
  dsimp only
  have e1 : (pl.map fun (k : Nat) => rawInt k).toArray[(i : Int).toNat]? = none := by
    rw [Int.toNat_natCast, List.getElem?_toArray, List.getElem?_map, hp]; rfl
  rw [e1]
  dsimp only
  refine wpAny_bind (wpAny_setField_rec hI (by simp) fun h0 g0 s0 => ?_)
  refine wpAny_bind (wpAny_setField_rec g0 (by simp) fun h1 g1 s1 => ?_)
  refine wpAny_bind ?_
  dsimp only [newExc, newTuple]
  refine wpAny_bind (wpAny_newObj_type ?_ (by size_fits))
  refine wpAny_bind (m := firstArgMember _ _) (wpAny_of_eq (a := Value.none) (by first | rfl | (simp only [firstArgMember]; rfl)) ?_)
  refine wpAny_newObj_type ?_ (by size_fits)
  dsimp only [raiseNew]
  refine wpAny_bind (wpAny_handled ?_)
  rw [show A.in1.handled = none from hh]
  refine wpAny_bind (wpAny_pure (wpAny_throw ?_))
  refine wpAny_bind (wpAny_isInstance (T := "StopIteration") (b := true) ⟨_, Heap.get?_push_size _ rfl, rfl⟩ isSubtype_stop ?_)
  exact wpAny_pure (hQ _ (((s0.trans s1).extBut.push _).push _))
theorem go_perm {α : Type} (next : Nat → Nat) : ∀ (fuel k : Nat) (left : List α) (out : Array α), left.length = fuel → (pickOrder.go next fuel k left out).toList.Perm (out.toList ++ left)
  | 0, k, left, out, h => by
    have : left = [] := List.length_eq_zero_iff.mp h
    subst this
    simp [pickOrder.go]
  | fuel + 1, k, left, out, h => by
    unfold pickOrder.go
    have lt : next k % left.length < left.length := Nat.mod_lt _ (by omega)
    rw [List.getElem?_eq_getElem lt]
    dsimp only
    refine (go_perm next fuel (k + 1) _ _ (by rw [List.length_eraseIdx, if_pos lt]; omega)).trans ?_
    rw [Array.toList_push, List.append_assoc]
    refine List.Perm.append_left _ ?_
    show (left[next k % left.length] :: left.eraseIdx (next k % left.length)).Perm left
    generalize next k % left.length = m at lt
    rw [List.eraseIdx_eq_take_drop_succ]
    have e : left = left.take m ++ left[m] :: left.drop (m + 1) := by rw [List.getElem_cons_drop, List.take_append_drop]
    refine List.Perm.trans ?_ (List.Perm.of_eq e.symm)
    exact List.perm_middle.symm
theorem pick_perm {α : Type} (next : Nat → Nat) (xs : Array α) : (pickOrder next xs).toList.Perm xs.toList := by
  unfold pickOrder
  have := go_perm next xs.size 0 xs.toList #[] (by simp)
  simpa using this
theorem walkT (hb : w.params.followText "set-order" = true) {Q : Array (Int × Value) → Shared → Prop} (g : SetAt s.heap a es ep t) (h : Q (pickOrder (w.params.setOrder a ep) es) s) : wpAny (model prog w) A (setWalk a) Q E s := by
  unfold setWalk
  refine wpAny_bind (g.state ?_)
  dsimp only
  unfold setsByText
  refine wpAny_bind (wpAny_bind (wpAny_askSetting (wpAny_pure ?_)))
  show wpAny _ _ (if w.params.followText "set-order" = true then _ else _) _ _ s
  rw [if_pos hb]
  exact wpAny_bind (wpAny_askSetting (wpAny_pure h))
theorem nextT (hb : w.params.followText "set-order" = true) {f0 : Nat} {Q : Option (Value × Nat) → Shared → Prop} (g : SetAt s.heap a es ep t) (h : Q (((pickOrder (w.params.setOrder a ep) es)[i]?).map fun e => (e.2, f0)) s) : wpAny (model prog w) A (setNext a f0 i ep) Q E s := by
  unfold setNext
  refine wpAny_bind (g.state ?_)
  dsimp only
  refine wpAny_bind ?_
  unfold setsByText
  refine wpAny_bind (wpAny_askSetting (wpAny_pure ?_))
  show wpAny _ _ (if w.params.followText "set-order" = true then _ else _) _ _ s
  rw [if_pos hb, if_neg (by simp)]
  refine wpAny_bind ?_
  exact walkT hb g (wpAny_pure h)
theorem nextC (hb : w.params.followText "set-order" = false) (hnd : (!t.plain && decide (es.size > 1)) = false) (hl : t.led = true) {f0 : Nat} {Q : Option (Value × Nat) → Shared → Prop} (g : SetAt s.heap a es ep t)
    (h : Q (match es[SetTable.below t.place f0]?, t.place[SetTable.below t.place f0]? with | some (_, x), some j => some (x, j + 1) | _, _ => none) s) : wpAny (model prog w) A (setNext a f0 i ep) Q E s := by
  unfold setNext
  refine wpAny_bind (g.state ?_)
  dsimp only
  refine wpAny_bind ?_
  unfold setsByText
  refine wpAny_bind (wpAny_askSetting (wpAny_pure ?_))
  show wpAny _ _ (if w.params.followText "set-order" = true then _ else (if (!t.plain && decide (es.size > 1)) = true then _ else _)) _ _ s
  rw [hb, if_neg (by decide), hnd, if_neg (by decide)]
  show wpAny _ _ ((if (!t.led && !es.isEmpty) = true then unsupported "set:maker-not-led" else pure PUnit.unit) >>= fun _ => _) _ _ s
  rw [hl]
  rw [if_neg (by simp)]
  exact wpAny_bind (wpAny_pure (wpAny_pure h))
end
end L2.SX
namespace L2.SX
open PySem PyProof.Rows
theorem choose_ok {M : Model} {A : Around} {E : Value → Shared → Prop} {s : Shared} {src : Source} {n : Nat} {Q : Nat → Shared → Prop} (hn : n ≠ 0) (h : ∀ k, k < n → Q k { s with drawn := s.drawn.bump src }) : wpAny M A (choose src n) Q E s := fun Γ p hΓ => by
  unfold choose
  rw [Sem.wp_choose]
  exact ⟨hn, h _ (Nat.mod_lt _ (by omega))⟩
theorem draw_ok {α : Type} {M : Model} {A : Around} {E : Value → Shared → Prop} : ∀ (n : Nat) (xs : List α) (s : Shared) (Q : List α → Shared → Prop), xs.length = n → (∀ ys d', ys.Perm xs → Q ys { s with drawn := d' }) → wpAny M A (drawOrder n xs) Q E s
  | 0, xs, s, Q, hn, h => by
    have : xs = [] := List.length_eq_zero_iff.mp hn
    subst this
    unfold drawOrder
    exact wpAny_pure (h [] s.drawn .nil)
  | n + 1, [], s, Q, hn, h => by cases hn
  | n + 1, x :: xs, s, Q, hn, h => by
    unfold drawOrder
    refine wpAny_bind (choose_ok (by simp) fun k hk => ?_)
    rw [List.getElem?_eq_getElem hk]
    dsimp only
    refine wpAny_bind (draw_ok n _ _ _ (by rw [List.length_eraseIdx, if_pos hk]; omega) fun ys d' hp => wpAny_pure (h _ d' ?_))
    refine (hp.cons _).trans ?_
    generalize hL : x :: xs = left at hk ⊢
    rw [List.eraseIdx_eq_take_drop_succ]
    have e : left = left.take k ++ left[k] :: left.drop (k + 1) := by rw [List.getElem_cons_drop, List.take_append_drop]
    exact List.perm_middle.symm.trans (List.Perm.of_eq e.symm)
theorem slot_self : Slot "set_iterator" "__iter__" "set_iterator.__iter__" :=
  .of (owner := "set_iterator") (n := "__iter__") (by rw [typeLookup_type, builtinLookup_eq_fast]; kernel_rfl) (by decide +kernel) (by decide +kernel) (by decide +kernel) (by first | exact .inl (by decide +kernel) | exact .inr (by decide +kernel)) (by rw [isSubtype_type]; kernel_rfl)
theorem entry_self : entryFor table "set_iterator.__iter__" = some Builtin.«dict_keyiterator.__iter__» := entryFor_alias (id' := "dict_keyiterator.__iter__") (by kernel_rfl) rfl (by decide +kernel) (by kernel_rfl)
theorem args_self (v : Value) : argsOk "set_iterator.__iter__" ⟨[v], []⟩ := by unfold argsOk; kernel_rfl
theorem self_iter {prog : Program} {w : World} {A : Around} {E : Value → Shared → Prop} {s : Shared} {I : Addr} {Q : Value → Shared → Prop} (hty : s.TypeIs (.ref I) "set_iterator") (h : Q (.ref I) s) : wpAny (model prog w) A (pyIter (.ref I)) Q E s := by
  refine wpAny_pyIter_slot hty slot_self (wpAny_call_entry slot_self hty entry_self ?_ (args_self _))
  show wpAny _ _ (ret (.ref I)) _ _ s
  exact wpAny_pure ⟨_, rfl, "set_iterator", _, hty, slot_next.lookup, h⟩
section
variable {prog : Program} {w : World} {E : Value → Shared → Prop} {a I T : Addr} {es : Array (Int × Value)} {ep : Nat} {t : SetTable}
theorem walksT (hb : w.params.followText "set-order" = true) (hne : a ≠ I) {A : Around} (hh : A.handled = none) : Walks prog w A I [I, a] [I] es.size (fun i v => ((pickOrder (w.params.setOrder a ep) es).toList.map (·.2))[i]? = some v)
    (fun i h => h.get? I = some (itO (rawInt 0) i a es.size ep) ∧ SetAt h a es ep t) where
  sub := fun b hb => by simp at hb; simp [hb]
  frame := fun i h h' st kp => ⟨kp I (by simp) _ st.1, st.2.keeps fun o e => kp a (by simp) o e⟩
  item := fun i s Q E hi st hQ => by
    have hl : (pickOrder (w.params.setOrder a ep) es).size = es.size := by rw [← Array.length_toList, (pick_perm _ _).length_eq, Array.length_toList]
    have hi' : i < (pickOrder (w.params.setOrder a ep) es).size := by omega
    refine next_item st.1 st.2 (x := (pickOrder (w.params.setOrder a ep) es)[i].2) (nx := 0) (fun A' E' Q' q => nextT hb st.2 (by rw [Array.getElem?_eq_getElem hi']; exact q)) fun h' g1 s1 => ?_
    refine hQ _ h' s.toks ?_ ⟨g1, st.2.keeps fun o e => s1.extBut _ _ hne e⟩ fun b o hb e => s1.extBut b o (by simpa using hb) e
    rw [List.getElem?_map, Array.getElem?_toList, Array.getElem?_eq_getElem hi']
    rfl
  done := fun s Q E st hQ => by
    have hl : (pickOrder (w.params.setOrder a ep) es).size = es.size := by rw [← Array.length_toList, (pick_perm _ _).length_eq, Array.length_toList]
    refine next_end hh st.1 st.2 (fun A' E' Q' q => nextT hb st.2 (by rw [Array.getElem?_eq_none (by omega)]; exact q)) fun h' x => hQ h' s.toks fun b o hb e => x b o (by simpa using hb) e
  self := fun i s Q E st hQ => by
    have hty : s.TypeIs (.ref I) "set_iterator" := ⟨_, st.1, rfl⟩
    exact self_iter hty hQ
noncomputable def slotAt (t : SetTable) : Nat → Nat
  | 0 => 0
  | i + 1 => t.place.getD i 0 + 1
theorem below_slotAt {n : Nat} (hr : Rise t.place) (hn : t.place.size = n) : ∀ i, i ≤ n → SetTable.below t.place (slotAt t i) = i
  | 0, _ => below_zero _ hr
  | i + 1, h => by
    have lt : i < t.place.size := by omega
    show SetTable.below t.place (t.place.getD i 0 + 1) = i + 1
    have : t.place.getD i 0 = t.place[i] := by simp [Array.getD, lt]
    rw [this]
    exact below_next hr lt
theorem walksC (hb : w.params.followText "set-order" = false) (hnd : (!t.plain && decide (es.size > 1)) = false) (hl : t.led = true) (hr : Rise t.place) (hp : t.place.size = es.size) (hne : a ≠ I) {A : Around} (hh : A.handled = none) :
    Walks prog w A I [I, a] [I] es.size (fun i v => (es.toList.map (·.2))[i]? = some v) (fun i h => i ≤ es.size ∧ h.get? I = some (itO (rawInt (slotAt t i)) i a es.size ep) ∧ SetAt h a es ep t) where
  sub := fun b hb => by simp at hb; simp [hb]
  frame := fun i h h' st kp => ⟨st.1, kp I (by simp) _ st.2.1, st.2.2.keeps fun o e => kp a (by simp) o e⟩
  item := fun i s Q E hi st hQ => by
    have hi' : i < t.place.size := by omega
    have bl := below_slotAt hr hp i (by omega)
    refine next_item st.2.1 st.2.2 (x := es[i].2) (nx := slotAt t (i + 1)) (fun A' E' Q' q => nextC hb hnd hl st.2.2 (by
      rw [bl, Array.getElem?_eq_getElem hi, Array.getElem?_eq_getElem hi']
      have : slotAt t (i + 1) = t.place[i] + 1 := by show t.place.getD i 0 + 1 = _; simp [Array.getD, hi']
      rw [this] at q
      exact q)) fun h' g1 s1 => ?_
    refine hQ _ h' s.toks ?_ ⟨hi, g1, st.2.2.keeps fun o e => s1.extBut _ _ hne e⟩ fun b o hb e => s1.extBut b o (by simpa using hb) e
    rw [List.getElem?_map, Array.getElem?_toList, Array.getElem?_eq_getElem hi]
    rfl
  done := fun s Q E st hQ => by
    have bl := below_slotAt hr hp es.size (Nat.le_refl _)
    refine next_end hh st.2.1 st.2.2 (fun A' E' Q' q => nextC hb hnd hl st.2.2 (by
      rw [bl, Array.getElem?_eq_none (Nat.le_refl _)]
      exact q)) fun h' x => hQ h' s.toks fun b o hb e => x b o (by simpa using hb) e
  self := fun i s Q E st hQ => self_iter ⟨_, st.2.1, rfl⟩ hQ
theorem walksD {pl : List Nat} (hpl : pl.Perm (List.range es.size)) (hne : a ≠ I) (hTI : T ≠ I) {A : Around} (hh : A.handled = none) :
    Walks prog w A I [I, a, T] [I] es.size (fun i v => (pl.map fun k => (es.toList.map (·.2)).getD k .none)[i]? = some v) (fun i h => h.get? I = some (itO (.ref T) i a es.size ep) ∧ h.get? T = some (plO pl) ∧ SetAt h a es ep t) where
  sub := fun b hb => by simp at hb; simp [hb]
  frame := fun i h h' st kp => ⟨kp I (by simp) _ st.1, kp T (by simp) _ st.2.1, st.2.2.keeps fun o e => kp a (by simp) o e⟩
  item := fun i s Q E hi st hQ => by
    have hlen : pl.length = es.size := by rw [hpl.length_eq, List.length_range]
    have hi' : i < pl.length := by omega
    have hm : pl[i] ∈ List.range es.size := hpl.mem_iff.mp (List.getElem_mem hi')
    have hlt : pl[i] < es.size := List.mem_range.mp hm
    refine next_itemD (p := pl[i]) (hx := es[pl[i]].1) (x := es[pl[i]].2) st.1 st.2.1 st.2.2 (List.getElem?_eq_getElem hi') (Array.getElem?_eq_getElem hlt) fun h' g1 s1 => ?_
    refine hQ _ h' s.toks ?_ ⟨g1, s1.extBut _ _ hTI st.2.1, st.2.2.keeps fun o e => s1.extBut _ _ hne e⟩ fun b o hb e => s1.extBut b o (by simpa using hb) e
    rw [List.getElem?_map, List.getElem?_eq_getElem hi']
    simp [List.getD, hlt]
  done := fun s Q E st hQ => by
    have hlen : pl.length = es.size := by rw [hpl.length_eq, List.length_range]
    exact next_endD hh st.1 st.2.1 st.2.2 (List.getElem?_eq_none (by omega)) fun h' x => hQ h' s.toks fun b o hb e => x b o (by simpa using hb) e
  self := fun i s Q E st hQ => self_iter ⟨_, st.1, rfl⟩ hQ
theorem perm_drawn {α : Type} (xs : List α) (d : α) {pl : List Nat} (h : pl.Perm (List.range xs.length)) : (pl.map fun k => xs.getD k d).Perm xs := by
  refine (h.map _).trans (List.Perm.of_eq ?_)
  apply List.ext_getElem?
  intro i
  rw [List.getElem?_map]
  by_cases hi : i < xs.length
  · rw [List.getElem?_range hi, List.getElem?_eq_getElem hi]; simp [List.getD, hi]
  · rw [List.getElem?_eq_none (by simpa using hi), List.getElem?_eq_none (by omega)]; rfl
theorem iter_set {A : Around} {s : Shared} {Q : Value → Shared → Prop} (g : SetAt s.heap a es ep t) (hT : TOk t (ledOf w)) (few : es.size ≤ sizeLine)
    (h : ∀ (h' : Heap) (d' : Drawn) (I : Addr) (vs : List Value) (fp : List Addr) (St : Nat → Heap → Prop), vs.Perm (es.toList.map (·.2)) → (∀ b o, s.heap.get? b = some o → h'.get? b = some o) → s.heap.objs.size ≤ I → I ∈ fp → (∀ b ∈ fp, b = a ∨ s.heap.objs.size ≤ b) →
      (∀ A' : Around, A'.handled = none → Walks prog w A' I fp [I] es.size (fun i v => vs[i]? = some v) St) → St 0 h' → Q (.ref I) { s with heap := h', drawn := d' }) :
    wpAny (model prog w) A (pyIter (.ref a)) Q E s := by
  obtain ⟨o, ho, hc, hd⟩ := g.ex
  have hty : s.TypeIs (.ref a) "set" := ⟨o, ho, hc⟩
  have lt : a < s.heap.objs.size := Heap.lt_size ho
  have hpl : t.place.size = es.size := by
    have := g.fits
    simp only [SetTable.fits, Bool.and_eq_true, beq_iff_eq] at this
    exact this.1
  refine wpAny_pyIter_slot hty F.slot_set_iter (wpAny_call_entry F.slot_set_iter hty entry_iter ?_ (F.args_set_iter_1 _))
  unfold Builtin.«frozenset.__iter__»
  generalize hSD : setDrawn = SD
  generalize hSE : setEpoch = SE
  generalize hSZ : Builtin.Frozenset.sizeOf = SZ
  wp_walk
  subst hSD hSE hSZ
  unfold Builtin.Frozenset.sizeOf
  refine wpAny_bind (g.entries (wpAny_pure ?_))
  have fin : ∀ (f0 : Value) (s2 : Shared), SetAt s2.heap a es ep t → Q (.ref s2.heap.objs.size) { s2 with heap := s2.heap.push (itO f0 0 a es.size ep) } →
      wpAny (model prog w) A.in1 (setEpoch a >>= fun e => newFields "set_iterator" [f0, rawInt 0, Value.ref a, rawInt (es.size : Nat), rawInt (e : Nat)] >>= fun v => ret v) (fun fin s' => ∃ v, fin = Fin.done (Flow.ret v) ∧ ∃ T' r, s'.TypeIs v T' ∧ typeLookup (Value.type T') (Str.ofString "__next__") = pure (some r) ∧ Q v s') E s2 := by
    intro f0 s2 g2 q
    refine wpAny_bind ?_
    unfold setEpoch
    refine wpAny_bind (g2.state (wpAny_pure ?_))
    refine wpAny_bind ?_
    unfold newFields
    exact wpAny_newObj_type (wpAny_pure ⟨_, rfl, "set_iterator", _, ⟨_, Heap.get?_push_size _ rfl, rfl⟩, slot_next.lookup, q⟩) (by size_fits)
  have plain : ∀ (vs : List Value) (St : Nat → Heap → Prop), vs.Perm (es.toList.map (·.2)) → (∀ A' : Around, A'.handled = none → Walks prog w A' s.heap.objs.size [s.heap.objs.size, a] [s.heap.objs.size] es.size (fun i v => vs[i]? = some v) St) →
      St 0 (s.heap.push (itO (rawInt 0) 0 a es.size ep)) → Q (.ref s.heap.objs.size) { s with heap := s.heap.push (itO (rawInt 0) 0 a es.size ep) } := by
    intro vs St hp W st
    refine h _ s.drawn s.heap.objs.size vs [s.heap.objs.size, a] St hp (fun b o e => Heap.get?_push_of_some _ e) (Nat.le_refl _) (by simp) (fun b hb => ?_) W st
    rcases List.mem_cons.mp hb with z | z
    · exact .inr (by rw [z]; exact Nat.le_refl _)
    · exact .inl (List.mem_singleton.mp z)
  have hne : a ≠ s.heap.objs.size := Nat.ne_of_lt lt
  have g1 : SetAt (s.heap.push (itO (rawInt 0) 0 a es.size ep)) a es ep t := g.keeps fun o e => Heap.get?_push_of_some _ e
  refine wpAny_bind ?_
  unfold setDrawn
  refine wpAny_bind (g.state ?_)
  dsimp only
  unfold setsByText
  refine wpAny_bind (wpAny_bind (wpAny_askSetting (wpAny_pure (wpAny_pure ?_))))
  show wpAny _ _ (if (!w.params.followText "set-order" && (!t.plain && decide (es.size > 1))) = true then _ else _) _ _ s
  cases hbt : w.params.followText "set-order" with
  | true =>
    rw [if_neg (by simp)]
    refine wpAny_bind (wpAny_pure ?_)
    exact fin (rawInt 0) s g (plain _ _ ((pick_perm _ _).map _) (fun A' hA => walksT hbt hne hA) ⟨Heap.get?_push_size _ rfl, g1⟩)
  | false =>
    have hled : t.led = true := by rw [hT.led]; unfold ledOf; rw [hbt]; rfl
    cases hdr : (!t.plain && decide (es.size > 1)) with
    | false =>
      rw [if_neg (by simp)]
      refine wpAny_bind (wpAny_pure ?_)
      have hr : Rise t.place := by
        cases hp : t.plain with
        | true => exact hT.rise hp
        | false =>
          rw [hp] at hdr
          have : ¬ es.size > 1 := by simpa using hdr
          unfold Rise
          have hl : t.place.toList.length ≤ 1 := by rw [Array.length_toList]; omega
          match t.place.toList, hl with
          | [], _ => exact .nil
          | [x], _ => exact List.pairwise_singleton _ _
      exact fin (rawInt 0) s g (plain _ _ (.refl _) (fun A' hA => walksC hbt hdr hled hr hpl hne hA) ⟨Nat.zero_le _, Heap.get?_push_size _ rfl, g1⟩)
    | true =>
      rw [if_pos (by simp)]
      refine wpAny_bind (draw_ok es.size (List.range es.size) s _ (by simp) fun pl d' hpl' => ?_)
      refine wpAny_bind ?_
      unfold newTuple
      refine wpAny_newObj_type ?_ (by
        have h1 : pl.length = es.size := by rw [hpl'.length_eq, List.length_range]
        show (pl.map fun (k : Nat) => rawInt k).toArray.size ≤ sizeLine
        rw [List.size_toArray, List.length_map, h1]
        exact few)
      have g2 : SetAt (s.heap.push (plO pl)) a es ep t := g.keeps fun o e => Heap.get?_push_of_some _ e
      refine fin (.ref s.heap.objs.size) { s with heap := s.heap.push (plO pl), drawn := d' } g2 ?_
      have sz : (s.heap.push (plO pl)).objs.size = s.heap.objs.size + 1 := Heap.size_push ..
      have hp2 : (pl.map fun k => (es.toList.map (·.2)).getD k Value.none).Perm (es.toList.map (·.2)) := perm_drawn _ _ (by simpa using hpl')
      refine h _ d' (s.heap.push (plO pl)).objs.size _ [(s.heap.push (plO pl)).objs.size, a, s.heap.objs.size] _ hp2 (fun b o e => Heap.get?_push_of_some _ (Heap.get?_push_of_some _ e)) (by rw [sz]; exact Nat.le_succ _) (by simp) (fun b hb => ?_)
        (fun A' hA => walksD (ep := ep) (t := t) hpl' (by rw [sz]; exact Nat.ne_of_lt (Nat.lt_succ_of_lt lt)) (by rw [sz]; exact Nat.ne_of_lt (Nat.lt_succ_self _)) hA) ⟨Heap.get?_push_size _ rfl, Heap.get?_push_of_some _ (Heap.get?_push_size _ rfl), g2.keeps fun o e => Heap.get?_push_of_some _ e⟩
      rcases List.mem_cons.mp hb with z | z
      · exact .inr (by rw [z, sz]; exact Nat.le_succ _)
      · rcases List.mem_cons.mp z with z | z
        · exact .inl z
        · rw [List.mem_singleton] at z; exact .inr (by rw [z]; exact Nat.le_refl _)
end
end L2.SX
namespace L2.SX
open PySem PyProof.Rows
theorem set_len : typeLookup (.type "set") "__len__" = pure (some (.builtin "set.__len__")) := by rw [typeLookup_type, builtinLookup_eq_fast]; kernel_rfl
section
variable {prog : Program} {w : World} {E : Value → Shared → Prop} {a : Addr} {es : Array (Int × Value)} {ep : Nat} {t : SetTable}
theorem collect_set {A : Around} {s : Shared} {Q : List Value → Shared → Prop} (hh : A.handled = none) (g : SetAt s.heap a es ep t) (hT : TOk t (ledOf w)) (few : es.size ≤ sizeLine)
    (hQ : ∀ (h' : Heap) (d' : Drawn) (tk : Nat) (vs : List Value), vs.Perm (es.toList.map (·.2)) → (∀ b o, s.heap.get? b = some o → h'.get? b = some o) → s.heap.objs.size < h'.objs.size → Q vs { s with heap := h', drawn := d', toks := tk }) :
    wpAny (model prog w) A (collect (.ref a)) Q E s := by
  obtain ⟨o, ho, hc, _⟩ := g.ex
  have lt : a < s.heap.objs.size := Heap.lt_size ho
  unfold collect
  refine wpAny_bind (wpAny_runValue (codeAny_builtin F.entry_proto_collect ?_))
  rw [Around.under_plainId F.plain_proto_collect _]
  show wpAny _ A.in1 (newList [] >>= fun l => again (.builtin "list.__iadd__" ⟨[l, .ref a], []⟩)) _ _ s
  refine wpAny_bind (wpAny_newObj_type ?_)
  refine wpAny_pure ⟨plainId_quiet F.plain_list_iadd _, codeAny_builtin F.entry_list_iadd ?_⟩
  rw [Around.under_plainId F.plain_list_iadd _]
  have g1 : SetAt (s.heap.push { cls := .type "list", data := .seq ([] : List Value).toArray }) a es ep t := g.keeps fun o e => Heap.get?_push_of_some _ e
  have hS1 : (s.heap.push { cls := .type "list", data := .seq ([] : List Value).toArray }).get? s.heap.objs.size = some { cls := .type "list", data := .seq ([] : List Value).toArray } := Heap.get?_push_size _ rfl
  have ty1 : Shared.TypeIs { s with heap := s.heap.push { cls := .type "list", data := .seq ([] : List Value).toArray } } (.ref a) "set" := ⟨o, Heap.get?_push_of_some _ ho, hc⟩
  show wpAny _ A.in1 (Builtin.List.listExtendWith (.ref s.heap.objs.size) (.ref a) (.ref s.heap.objs.size)) _ _ _
  unfold Builtin.List.listExtendWith
  refine wpAny_bind (wpAny_typeOf ty1 ?_)
  have e1 : Builtin.List.listSameRef (.ref s.heap.objs.size) (.ref a) = false := by simp [Builtin.List.listSameRef, Nat.ne_of_gt lt]
  have e2 : (Value.type "set" == Value.type "list") = false := by decide
  have e3 : (Value.type "set" == Value.type "tuple") = false := by decide
  simp only [e1, e2, e3, Bool.or_false, Bool.false_eq_true, if_false]
  refine wpAny_bind (iter_set (w := w) g1 hT few fun h' d' I vs fp St hp kp hI hIf hfp W st => ?_)
  have ty2 : Shared.TypeIs { s with heap := h', drawn := d' } (.ref a) "set" := ⟨o, kp a o (Heap.get?_push_of_some _ ho), hc⟩
  refine wpAny_bind (wpAny_holding ?_)
  have hint : ∀ Q' : Bool → Shared → Prop, Q' false { s with heap := h', drawn := d' } → wpAny (model prog w) A.in1 (Builtin.List.listLengthHint (.ref a)) Q' E { s with heap := h', drawn := d' } := by
    intro Q' q
    unfold Builtin.List.listLengthHint
    refine wpAny_bind (wpAny_specialOf ty2 set_len ?_)
    generalize hid : ("set.__len__" : String) = i0
    wp_delta
    rw [show splitId i0 = some ("set", "__len__") from by rw [← hid]; decide +kernel]
    rw [← hid]
    refine wpAny_bind (wpAny_isInstance (T := "set") (b := true) ty2 sub_set_self ?_)
    refine wpAny_ite_split (fun z => absurd z (by decide)) fun _ => ?_
    refine wpAny_ite_split (fun _ => ?_) fun z => absurd (by decide +kernel) z
    exact wpAny_bind (wpAny_typeOf ty2 (wpAny_pure q))
  refine hint _ ?_
  have hSf : s.heap.objs.size ∉ fp := fun hm => by
    rcases hfp _ hm with z | z
    · exact absurd z (Nat.ne_of_gt lt)
    · rw [Heap.size_push] at z; exact absurd z (Nat.not_succ_le_self _)
  refine wpAny_ite_split (fun _ => ?_) fun z => absurd (by decide +kernel) z
  have hS2 := kp _ _ hS1
  refine wpAny_bind (wpAny_rule ?_)
  refine wpAny_bind ?_
  show wpAny _ A.in1 (updateSeq s.heap.objs.size (·.push .none) >>= fun _ => updateSeq s.heap.objs.size (·.pop)) _ _ _
  refine wpAny_bind (wpAny_updateSeq hS2 rfl ?_)
  have hS3 := Heap.get?_update_self (Obj.mapSeq (·.push Value.none)) hS2 rfl
  refine wpAny_updateSeq hS3 rfl ?_
  have hS4 := Heap.get?_update_self (Obj.mapSeq (·.pop)) hS3 rfl
  have oth : ∀ b o, b ≠ s.heap.objs.size → h'.get? b = some o → ((h'.update s.heap.objs.size (Obj.mapSeq (·.push Value.none))).update s.heap.objs.size (Obj.mapSeq (·.pop))).get? b = some o :=
    fun b o hb e => by rw [Heap.get?_update_other _ _ (Ne.symm hb), Heap.get?_update_other _ _ (Ne.symm hb)]; exact e
  have W1 := W A.in1 hh
  refine wpAny_pure ⟨plainId_quiet F.plain_extend_loop _, codeAny_extend_loopS W1.toS few _ hSf _ es.size 0 _ _ _ rfl (Nat.zero_le _)
    (W1.frame 0 _ _ st fun b hb o e => oth b o (fun z => hSf (z ▸ hb)) e) hS4 (ItemsOf.nil _) fun s' acc' c' hm hS' hacc => ?_⟩
  show wpAny _ A (load s.heap.objs.size >>= _) _ _ s'
  refine wpAny_bind (wpAny_load hS' (wpAny_pure ?_))
  have hv : acc'.toList = vs := by
    have hl : vs.length = es.size := by rw [hp.length_eq]; simp
    refine List.ext_getElem? fun i => ?_
    by_cases hi : i < es.size
    · have h1 : i < acc'.size := by rw [hacc.1]; exact hi
      have h2 := hacc.2 i _ (Array.getElem?_eq_getElem h1)
      rw [h2, Array.getElem?_toList, Array.getElem?_eq_getElem h1]
    · rw [List.getElem?_eq_none (by rw [Array.length_toList, hacc.1]; omega), List.getElem?_eq_none (by rw [hl]; omega)]
  show Q acc'.toList s'
  rw [hv, Moved.eq_with hm]
  refine hQ s'.heap d' s'.toks vs hp (fun b o e => ?_) (Heap.lt_size hS')
  have hb : b ≠ s.heap.objs.size := Nat.ne_of_lt (Heap.lt_size e)
  refine hm.heap b o (fun hmem => ?_) (oth b o hb (kp b o (Heap.get?_push_of_some _ e)))
  rcases List.mem_cons.mp hmem with z | z
  · exact hb z
  · rw [List.mem_singleton] at z
    rw [Heap.size_push] at hI
    have q := Heap.lt_size e
    rw [z] at q
    exact Nat.lt_irrefl _ (Nat.lt_of_lt_of_le (Nat.lt_succ_of_lt q) hI)
end
end L2.SX
namespace L2.SX
open PySem PyProof.Rows
theorem perm_of {α : Type} [DecidableEq α] : ∀ (ks qs : List α), ks.Nodup → (∀ k ∈ ks, k ∈ qs) → qs.length = ks.length → qs.Perm ks
  | [], [], _, _, _ => .refl _
  | k :: ks, qs, hn, hm, hl => by
    have h1 := List.perm_cons_erase (hm k (by simp))
    have hn' := List.nodup_cons.mp hn
    refine h1.trans (.cons k (perm_of ks _ hn'.2 (fun x hx => ?_) ?_))
    · exact (List.mem_erase_of_ne (fun z => by rw [z] at hx; exact hn'.1 hx)).mpr (hm x (by simp [hx]))
    · have := h1.length_eq; simp only [List.length_cons] at this hl; omega
section
variable {prog : Program} {w : World} {K : Type} [DecidableEq K] {knd : KeyKind prog w K}
inductive Keys (knd : KeyKind prog w K) : List Value → List K → Prop
  | nil : Keys knd [] []
  | cons {v k vs ks} : knd.is k v = true → Keys knd vs ks → Keys knd (v :: vs) (k :: ks)
theorem Keys.len {vs ks} (h : Keys knd vs ks) : ks.length = vs.length := by induction h <;> simp [*]
theorem Keys.mem {vs ks} (h : Keys knd vs ks) {v : Value} {k : K} (hv : v ∈ vs) (e : knd.is k v = true) : k ∈ ks := by
  induction h with
  | nil => cases hv
  | cons h1 _ ih =>
    rcases List.mem_cons.mp hv with z | z
    · subst z; rw [knd.inj _ _ _ e h1]; simp
    · exact List.mem_cons_of_mem _ (ih z)
theorem keys_ex : ∀ (es : List (Int × Value)), ElemsOf knd es → ∃ qs, Keys knd (es.map (·.2)) qs
  | [], _ => ⟨[], .nil⟩
  | e :: es, h => by
    obtain ⟨qs, hq⟩ := keys_ex es fun x hx => h x (List.mem_cons_of_mem _ hx)
    obtain ⟨⟨k, hk, _⟩, _⟩ := h e (by simp)
    exact ⟨k :: qs, .cons hk hq⟩
theorem Keys.perm {vs us : List Value} (hp : us.Perm vs) : ∀ {ks}, Keys knd vs ks → ∃ qs, Keys knd us qs ∧ qs.Perm ks := by
  induction hp with
  | nil => intro ks h; exact ⟨ks, h, .refl _⟩
  | cons v _ ih =>
    intro ks h
    cases h with
    | cons h1 h2 => obtain ⟨qs, a, b⟩ := ih h2; exact ⟨_ :: qs, .cons h1 a, .cons _ b⟩
  | swap x y l =>
    intro ks h
    cases h with
    | cons h1 h2 => cases h2 with
      | cons h3 h4 => exact ⟨_, .cons h3 (.cons h1 h4), .swap ..⟩
  | trans _ _ i1 i2 =>
    intro ks h
    obtain ⟨q1, a1, b1⟩ := i2 h
    obtain ⟨q2, a2, b2⟩ := i1 a1
    exact ⟨q2, a2, b2.trans b1⟩
theorem Good.keys {h : Heap} {a : Addr} {ks : List K} {led : Bool} (g : Good knd h a ks led) : ∃ es ep t, SetAt h a es ep t ∧ TOk t led ∧ es.size = ks.length ∧ ∀ vs, vs.Perm (es.toList.map (·.2)) → ∃ qs, Keys knd vs qs ∧ qs.Perm ks := by
  obtain ⟨o, es, ep, t, ho, hx, hd, hE, hm, hl, hf, hT⟩ := g.ex
  refine ⟨es, ep, t, ⟨⟨o, ho, hx.1, hd⟩, hf⟩, hT, hl, fun vs hp => ?_⟩
  obtain ⟨qs, hq⟩ := keys_ex es.toList hE
  have h1 : qs.Perm ks := perm_of ks qs g.nd (fun k hk => by
    obtain ⟨e, he, hi⟩ := (hm k).mp hk
    exact hq.mem (List.mem_map_of_mem he) hi) (by rw [hq.len, List.length_map, Array.length_toList, hl])
  obtain ⟨q2, a2, b2⟩ := Keys.perm hp.symm.symm hq
  exact ⟨q2, a2, b2.trans h1⟩
theorem keys_ints {vs : List Value} {ks : List Int} (h : Keys (intKind prog w) vs ks) : IntsAre vs ks := by
  induction h with
  | nil => exact .nil
  | cons h1 _ ih => obtain ⟨t, rfl⟩ := Value.isInt_shape h1; exact .cons _ t ih
theorem keys_strs {vs : List Value} {ks : List Str} (h : Keys (PySem.strKind prog w) vs ks) : StrsAre vs ks := by
  induction h with
  | nil => exact .nil
  | cons h1 _ ih => obtain ⟨t, rfl⟩ := Value.isStrOf_shape h1; exact .cons _ t ih
variable {A : Around} {E : Value → Shared → Prop} {s : Shared} {a : Addr} {es : Array (Int × Value)} {ep : Nat} {t : SetTable}
theorem sorted_set {Out : Array Value → Prop} {Q : Value → Shared → Prop} (hh : A.handled = none) (g : SetAt s.heap a es ep t) (hT : TOk t (ledOf w)) (few : es.size < 64)
    (hsort : ∀ (A' : Around) (E' : Value → Shared → Prop) (s' : Shared) (l : Addr) (vs : List Value) (n : Nat) (P : Fin → Shared → Prop), vs.Perm (es.toList.map (·.2)) → s'.heap.get? l = some (seqObj "list" vs.toArray n) →
      (∀ out, Out out → P (.done (.ret .none)) { s' with heap := sortedHeap s'.heap l vs out }) → wpAny (model prog w) A' (Builtin.«list.sort» ⟨[.ref l], []⟩) P E' s')
    (h : ∀ (h' : Heap) (d' : Drawn) (tk : Nat) (D : Addr) (out : Array Value) (e : Nat), (∀ b o, s.heap.get? b = some o → h'.get? b = some o) → s.heap.objs.size ≤ D → h'.get? D = some (seqObj "list" out e) → Out out → Q (.ref D) { s with heap := h', drawn := d', toks := tk }) :
    wpAny (model prog w) A (call (.builtin "sorted") [.ref a]) Q E s := by
  have big : (64 : Nat) ≤ sizeLine := by decide
  refine Calls.call_function_entry kind_sorted plain_sorted entry_sorted (args_sorted1 _) ?_
  unfold Builtin.«sorted»
  refine wpAny_bind (m := checkCount "sorted" 1 1 _) (wpAny_pure ?_)
  refine wpAny_bind (collect_set hh g hT (Nat.le_trans (Nat.le_of_lt few) big) fun h1 d1 tk vs hp kp hlt => ?_)
  have hl : vs.length = es.size := by rw [hp.length_eq]; simp
  refine wpAny_bind (wpAny_newList ?_ (by rw [hl]; exact Nat.le_trans (Nat.le_of_lt few) big))
  have hoL : (h1.push (seqObj "list" vs.toArray 0)).get? h1.objs.size = some (seqObj "list" vs.toArray 0) := Heap.get?_push_size _ rfl
  refine wpAny_bind (wpAny_holding (wpAny_call_entry slot_list_sort ⟨_, hoL, rfl⟩ entry_list_sort (hsort _ _ _ _ vs 0 _ hp hoL fun out ho => ⟨_, rfl, ?_⟩) (args_list_sort _)))
  obtain ⟨e, he⟩ := sortedHeap_at (out := out) hoL
  refine wpAny_pure ⟨_, rfl, h _ d1 tk h1.objs.size out e (fun b o g => ?_) (Nat.le_of_lt hlt) he ho⟩
  have hb : b < h1.objs.size := Heap.lt_size (kp b o g)
  rw [sortedHeap_old (Nat.ne_of_lt hb) (by rw [Heap.size_push]; exact Nat.lt_succ_of_lt hb), Heap.get?_push_of_some _ (kp b o g)]
theorem sorted_setI {ks : List Int} {Q : Value → Shared → Prop} (hh : A.handled = none) (g : Good (intKind prog w) s.heap a ks (ledOf w)) (few : ks.length < 64)
    (h : ∀ (h' : Heap) (d' : Drawn) (tk : Nat) (D : Addr) (out : Array Value) (e : Nat), (∀ b o, s.heap.get? b = some o → h'.get? b = some o) → s.heap.objs.size ≤ D → h'.get? D = some (seqObj "list" out e) → IntsAre out.toList (L3.sortI ks) → Q (.ref D) { s with heap := h', drawn := d', toks := tk }) :
    wpAny (model prog w) A (call (.builtin "sorted") [.ref a]) Q E s := by
  obtain ⟨es, ep, t, g1, hT, hl, hv⟩ := g.keys
  refine sorted_set (Out := fun out => IntsAre out.toList (L3.sortI ks)) hh g1 hT (by rw [hl]; exact few) (fun A' E' s' l vs n P hp ho q => ?_) h
  obtain ⟨qs, hk, hq⟩ := hv vs hp
  refine list_sort_tree ho (keys_ints hk) (by rw [hp.length_eq, List.length_map, Array.length_toList, hl]; exact few) fun out ns' h1 h2 h3 => q out ?_
  rw [← L3.sortI_eq (h2.trans hq) h3]
  exact h1
end
end L2.SX
namespace L2.L3
open PySem PySem.Spec PyProof.Rows
noncomputable def EndO (X : Cx) (H0 G₀ G : Hp) (ρ : List Ent) (H : Hp) (Q : Option Int → Hp → Prop) : Re (Option Int) → Prop
  | .ok b => ∀ G' H', Grow G H G' H' → Q b H'
  | .ex c => XcOk X H0 G₀ G ρ c
noncomputable def rO (X : Cx) (f : OF) : TO := fun σ H Q => ∃ ρ r H0 G₀ G, f ρ = some r ∧ RepS X.K H0 G₀ G H σ ρ ∧ EndO X H0 G₀ G ρ H Q r
structure DO (X : Cx) (e : Option Expr) (f : OF) : Prop where
  run : PO X e (rO X f)
section
variable {X : Cx} {H0 G₀ G G1 H H1 : Hp} {ρ : List Ent} {σ : St} {a b c d e : Expr} {lo hi : Option Expr} {pos p p2 pos2 : Pos} {fa fb fc fd : EF} {fl fh : OF}
theorem bO {fa : OF} {β : Type} {k : Option Int → Mm β} {r : Re β} (R : RepS X.K H0 G₀ G H σ ρ) (e : bnd (fa ρ) k = some r) {T : Option Int → Hp → Prop} (hx : ∀ c, r = .ex c → XcOk X H0 G₀ G ρ c)
    (h : ∀ x G1 H1, Grow G H G1 H1 → RepS X.K H0 G₀ G1 H1 σ ρ → k x = some r → T x H1) : rO X fa σ H T := by
  rcases bnd_some e with ⟨x, e1, e2⟩ | ⟨c, e1, e2⟩
  · exact ⟨ρ, _, H0, G₀, G, e1, R, fun G1 H1 g1 => h x G1 H1 g1 (R.more g1) e2⟩
  · exact ⟨ρ, _, H0, G₀, G, e1, R, hx c e2⟩
theorem dO_none : DO X none oNone := ⟨fun pins s σ H Q I ⟨ρ, r, H0, G₀, G, e, R, q⟩ => by
  cases (Option.some.inj e)
  exact po_none pins s σ H Q I (q G H (.refl R.sub))⟩
theorem dO_some (ha : DE X a fa) : DO X (some a) (oSome fa) := ⟨fun pins s σ H Q I ⟨ρ, r, H0, G₀, G, e, R, q⟩ => by
  refine po_some ha.run pins s σ H Q I (bE R e (fun c z => by subst z; exact q) fun x v G1 H1 g1 R1 rv e1 => ?_)
  obtain ⟨k, ek, rfl⟩ := lft_is e1
  cases x <;> simp only [intD, Option.map] at ek <;> cases ek
  cases rv
  exact ⟨_, rfl, q G1 H1 g1⟩⟩
theorem de_sl (ha : DE X a fa) (hl : DO X lo fl) (hh : DO X hi fh) : DE X (.Subscript a (.Slice lo hi none p2) pos) (slE fa fl fh) := ⟨fun pins s σ H Q I ⟨ρ, r, H0, G₀, G, e, R, q⟩ =>
  pe_slice (sl_list.or sl_tup) ha.run hl.run hh.run pins s σ H Q I (bE R e q.x fun x v G1 H1 g1 R1 rv e1 => bO R1 e1 (q.more g1).x fun l G2 H2 g2 R2 e2 => bO R2 e2 ((q.more g1).more g2).x fun h G3 H3 g3 R3 e3 => by
    obtain ⟨d, ed, rfl⟩ := lft_is e3
    have g23 := g2.trans g3
    unfold slD at ed
    split at ed
    · cases (Option.some.inj ed)
      cases rv with
      | list hq r =>
        refine .inl ⟨_, _, rfl, (g23.gg.trans g23.sub).seq hq, fun l hl => q _ _ _ ((g1.trans g23).trans (.put g23.sub hl)) ?_⟩
        exact .list (.of upd_same) (cutD_rep (r.mono (g23.gg.trans (same_upd (g23.sub.free hl)))) _ _)
    · split at ed
      · cases ed
      · rename_i hw
        cases (Option.some.inj ed)
        cases rv with
        | tuple hq r =>
          refine .inr ⟨_, _, rfl, seqT (g23.gg.trans g23.sub) hq, by rw [r.length]; exact hw, fun l hl => q _ _ _ ((g1.trans g23).trans (.put g23.sub hl)) ?_⟩
          exact .tuple (.of upd_same) (cutD_rep (r.mono (g23.gg.trans (same_upd (g23.sub.free hl)))) _ _)
    · cases ed)⟩
theorem Inv.draws {pins : List (Addr × Obj)} {s : Shared} {d' : Drawn} (I : Inv X pins σ H s) : Inv X pins σ H { s with drawn := d' } := ⟨I.ok, I.os, I.bare, I.base, I.loc, I.cell, I.free, I.freeC, I.pin, I.hok, I.len⟩
noncomputable def tSset (K : PySem.W.Frag) (t : TA) : TE := fun σ H Q => t σ H fun xs H1 => (∃ a ns, xs = [.ref a] ∧ SqL K H1 a (ns.map V.int) ∧ ns.length < 64 ∧ ∀ l, H1 l = none → Q (.ref l) (upd H1 l (.lst ((sortI (dedupI ns)).map V.int)))) ∨
  ∃ a ns, xs = [.ref a] ∧ SqL K H1 a (ns.map V.str) ∧ ns.length < 64 ∧ ∀ l, H1 l = none → Q (.ref l) (upd H1 l (.lst ((sortS (dedupS ns)).map V.str)))
theorem dedup_metG {α : Type} [DecidableEq α] (d : α) (ns : List α) : SX.metK (fun i => ns.getD i d) ns.length = ns.foldl SX.addK [] := by
  unfold SX.metK
  have : (List.range ns.length).map (fun i => ns.getD i d) = ns := by
    refine List.ext_getElem? fun i => ?_
    rw [List.getElem?_map]
    by_cases h : i < ns.length
    · rw [List.getElem?_range h, List.getElem?_eq_getElem h]; simp [h]
    · rw [List.getElem?_eq_none (by simp; omega), List.getElem?_eq_none (by omega)]; rfl
  rw [this]
theorem dedup_met (ns : List Int) : SX.metK (fun i => ns.getD i 0) ns.length = dedupI ns := dedup_metG 0 ns
theorem dedup_metS (ns : List Str) : SX.metK (fun i => ns.getD i "") ns.length = dedupS ns := dedup_metG ("" : Str) ns
theorem ints_at {vs : List Value} {ns : List Int} (h : IntsAre vs ns) : ∀ (i : Nat) (v : Value), vs[i]? = some v → ∃ t : Tok, v = Value.int (ns.getD i 0) t := by
  induction h with
  | nil => intro i v e; simp at e
  | cons n t _ ih =>
    intro i v e
    cases i with
    | zero => simp at e; exact ⟨t, by simp [← e]⟩
    | succ i => simpa using ih i v (by simpa using e)
theorem strs_at {vs : List Value} {ns : List Str} (h : StrsAre vs ns) : ∀ (i : Nat) (v : Value), vs[i]? = some v → ∃ t : Tok, v = Value.str (ns.getD i "") t := by
  induction h with
  | nil => intro i v e; simp at e
  | cons n t _ ih =>
    intro i v e
    cases i with
    | zero => simp at e; exact ⟨t, by simp [← e]⟩
    | succ i => simpa using ih i v (by simpa using e)
theorem strsAre_of {ns : List Str} : ∀ {us : List Value}, Vals (ns.map V.str) us → StrsAre us ns := by
  induction ns with
  | nil => intro us r; cases r; exact .nil
  | cons n ns ih => intro us r; cases r with | cons r1 r2 => obtain ⟨t, rfl⟩ := r1; exact .cons n t (ih r2)
theorem vals_strs : ∀ {vs : List Value} {ns : List Str}, StrsAre vs ns → Vals (ns.map V.str) vs
  | _, _, .nil => .nil
  | _, _, .cons n t h => .cons ⟨t, rfl⟩ (vals_strs h)
theorem repAll_strsG {K : PySem.W.Frag} {G : Hp} : ∀ ns : List Str, RepAll K G (ns.map V.str) (ns.map .str)
  | [] => .nil
  | _ :: r => .cons (.str _) (repAll_strsG r)
theorem strsAre_len {vs : List Value} {ns : List Str} (h : StrsAre vs ns) : vs.length = ns.length := by induction h <;> simp [*]
theorem leStr_trans {a b c : Str} (h1 : leStr a b = true) (h2 : leStr b c = true) : leStr a c = true := by
  unfold leStr at *
  simp only [Bool.not_eq_true', decide_eq_false_iff_not, List.not_lt] at *
  exact List.le_trans h1 h2
theorem leStr_total (a b : Str) : (leStr a b || leStr b a) = true := by
  unfold leStr
  simp only [Bool.or_eq_true, Bool.not_eq_true', decide_eq_false_iff_not, List.not_lt]
  exact List.le_total _ _
theorem leStr_anti {a b : Str} (h1 : leStr a b = true) (h2 : leStr b a = true) : a = b := by
  unfold leStr at *
  simp only [Bool.not_eq_true', decide_eq_false_iff_not, List.not_lt] at *
  have e := List.le_antisymm h1 h2
  cases a; cases b
  congr 1
  exact Array.toList_inj.mp e
theorem sortS_perm (ns : List Str) : (sortS ns).Perm ns := List.mergeSort_perm _ _
theorem sortS_sorted (ns : List Str) : (sortS ns).Pairwise (fun a b => leStr a b = true) := List.pairwise_mergeSort (le := leStr) (fun a b c h1 h2 => leStr_trans h1 h2) leStr_total ns
theorem rising_pw : ∀ (l : List Str) (p : Str), risingS p l = true → (p :: l).Pairwise (fun a b => leStr a b = true)
  | [], p, _ => List.pairwise_singleton _ _
  | x :: r, p, h => by
    have h' : (!ltCps x.cps.toList p.cps.toList && risingS x r) = true := h
    rw [Bool.and_eq_true] at h'
    have h1 : leStr p x = true := by unfold leStr; rw [← ltCps_eq]; exact h'.1
    have ih := rising_pw r x h'.2
    refine List.pairwise_cons.mpr ⟨fun y hy => ?_, ih⟩
    rcases List.mem_cons.mp hy with z | z
    · rw [z]; exact h1
    · exact leStr_trans h1 ((List.pairwise_cons.mp ih).1 y z)
theorem sorted_pw (l : List Str) (h : sortedS l = true) : l.Pairwise (fun a b => leStr a b = true) := by
  cases l with
  | nil => exact .nil
  | cons x r => exact rising_pw r x h
theorem same_of_pw : ∀ {a b : List Str}, a.Perm b → a.Pairwise (fun a b => leStr a b = true) → b.Pairwise (fun a b => leStr a b = true) → a = b
  | [], b, hp, _, _ => by rw [List.nil_perm.mp hp]
  | x :: a, b, hp, ha, hb => by
    match b, hp, hb with
    | [], hp, _ => exact absurd hp.length_eq (by simp)
    | y :: b, hp, hb =>
      have h1 := List.pairwise_cons.mp ha
      have h2 := List.pairwise_cons.mp hb
      have e : x = y := by
        rcases List.mem_cons.mp (hp.mem_iff.mp (List.mem_cons_self (a := x) (l := a))) with z | z
        · exact z
        · rcases List.mem_cons.mp (hp.mem_iff.mpr (List.mem_cons_self (a := y) (l := b))) with q | q
          · exact q.symm
          · exact leStr_anti (h1.1 y q) (h2.1 x z)
      subst e
      rw [same_of_pw (List.Perm.cons_inv hp) h1.2 h2.2]
theorem sortS_eq {ns ms : List Str} (hp : ms.Perm ns) (hs : sortedS ms = true) : ms = sortS ns := same_of_pw (hp.trans (sortS_perm ns).symm) (sorted_pw ms hs) (sortS_sorted ns)
theorem sorted_setS {prog : Program} {w : World} {A : Around} {E : Value → Shared → Prop} {s : Shared} {a : Addr} {ks : List Str} {Q : Value → Shared → Prop} (hh : A.handled = none) (g : SX.Good (PySem.strKind prog w) s.heap a ks (SX.ledOf w)) (few : ks.length < 64)
    (h : ∀ (h' : Heap) (d' : Drawn) (tk : Nat) (D : Addr) (out : Array Value) (e : Nat), (∀ b o, s.heap.get? b = some o → h'.get? b = some o) → s.heap.objs.size ≤ D → h'.get? D = some (seqObj "list" out e) → StrsAre out.toList (sortS ks) → Q (.ref D) { s with heap := h', drawn := d', toks := tk }) :
    wpAny (model prog w) A (call (.builtin "sorted") [.ref a]) Q E s := by
  obtain ⟨es, ep, t, g1, hT, hl, hv⟩ := g.keys
  refine SX.sorted_set (Out := fun out => StrsAre out.toList (sortS ks)) hh g1 hT (by rw [hl]; exact few) (fun A' E' s' l vs n P hp ho q => ?_) h
  obtain ⟨qs, hk, hq⟩ := hv vs hp
  have hS := SX.keys_strs hk
  refine list_sort_treeK strKind_oneLt ho hS.keysOf (fun v₁ v₂ rest e => keyKind_strs (by rw [← e]; exact hS)) (by rw [hp.length_eq, List.length_map, Array.length_toList, hl]; exact few) fun st' hp' hs' => q _ ?_
  obtain ⟨ss', h1, h2, h3⟩ := sorted_out_str hS hp' hs'
  rw [← sortS_eq (h2.trans hq) h3]
  exact h1
theorem pe_sset {t : TA} (hc : X.calm = true) (h1 : Gl X "sorted") (m1 : X.mg "sorted" = none) (h2 : Gl X "set") (m2 : X.mg "set" = none) (b2 : bootBuiltins "set" = some (.type "set")) (ha : PA X [e] t) (he : starEach [e] X.env = (false, eval e X.env) :: starEach [] X.env)
    (he2 : starEach [.Call (.Name "set" p2) [e] [] pos2] X.env = (false, eval (.Call (.Name "set" p2) [e] [] pos2) X.env) :: starEach [] X.env) (hpl : ∀ q, (backTo q (starEach [] X.env)).any (·.1) = false) (hn : ∀ q, backTo q (starEach [] X.env) = []) :
    PE X (.Call (.Name "sorted" p) [.Call (.Name "set" p2) [e] [] pos2] [] pos) (tSset X.K t) := by
  intro pins s σ H Q I h
  refine wpAny_Call_Name_kw (ld_blt I h1 m1 boot_sorted ?_)
  refine callWith_builtin1 ?_ he2 (hpl _)
  rw [he2]
  show wpAny _ _ (spliced ((false, eval (.Call (.Name "set" p2) [e] [] pos2) X.env) :: backTo pos (starEach [] X.env))) _ _ s
  rw [hn]
  refine Calls.spliced_cons (wpAny_Call_Name_kw (ld_blt I h2 m2 b2 ?_))
  refine callWith_type1 (thn (ha pos2 pins s σ H _ I h) fun us s1 ⟨vs, H1, I1, r1, qq⟩ => ?_) he (hpl _)
  rcases qq with ⟨a, ns, e1, hq, h64, q⟩ | ⟨a, ns, e1, hq, h64, q⟩
  · subst e1
    obtain ⟨u, rfl, rx⟩ := vals1 r1
    cases rx
    obtain ⟨its, rv, pl, hz⟩ := I1.list hq
    have hi := intsAre_of rv
    have hd := I1.ok.hd hc
    have hl : its.length = ns.length := hi.length
    refine SX.set_of (knd := intKind X.prog X.w) (val := fun i => ns.getD i 0) hd pl.isList (fun i v e => ?_) (fun i v A' E' s' Q' e q' => ?_) ?_ fun h' tk g kp => ?_
    · obtain ⟨t, rfl⟩ := ints_at hi i v (by simpa using e)
      exact ⟨by simp [intKind, Value.isInt], rfl⟩
    · obtain ⟨t, rfl⟩ := ints_at hi i v (by simpa using e)
      exact (intKind X.prog X.w).pyHash (k := ns.getD i 0) (by simp [intKind, Value.isInt]) q'
    · have hsz : its.toArray.size = ns.length := by rw [List.size_toArray, hl]
      rw [hsz]; exact Nat.lt_of_le_of_lt h64 (by decide)
    · have hsz : its.toArray.size = ns.length := by rw [List.size_toArray, hl]
      rw [hsz, dedup_met] at g
      refine Calls.spliced_nil (SX.sorted_setI hd g ?_ fun h2 d2 tk2 D out ep k2 hs2 ho hout => ?_)
      · rw [← dedup_met]; exact Nat.lt_of_le_of_lt (SX.metK_len _ _) h64
      · have kk : ∀ b o, s1.heap.get? b = some o → h2.get? b = some o := fun b o z => k2 b o (kp b o (Heap.lt_size z) z)
        obtain ⟨so, _, _, _, hso, _⟩ := g.ex
        have lt : s1.heap.objs.size ≤ D := Nat.le_trans (Nat.le_of_lt (Heap.lt_size hso)) hs2
        have hf : H1 D = none := I1.hok.fresh lt
        refine ⟨.ref D, _, Inv.draws (I1.laid (t' := tk2) (a := D) (o := .lst ((sortI (dedupI ns)).map V.int)) kk lt ⟨?_, out.toList, ep, vals_ints hout, ?_⟩), rfl, q _ hf⟩
        · rw [List.length_map, (sortI_perm _).length_eq, ← dedup_met]
          exact Nat.le_trans (SX.metK_len _ _) (Nat.le_of_lt (small1000 (by omega)))
        · rw [ho]
  · subst e1
    obtain ⟨u, rfl, rx⟩ := vals1 r1
    cases rx
    obtain ⟨its, rv, pl, hz⟩ := I1.list hq
    have hi := strsAre_of rv
    have hd := I1.ok.hd hc
    have hl : its.length = ns.length := strsAre_len hi
    refine SX.set_of (knd := PySem.strKind X.prog X.w) (val := fun i => ns.getD i "") hd pl.isList (fun i v e => ?_) (fun i v A' E' s' Q' e q' => ?_) ?_ fun h' tk g kp => ?_
    · obtain ⟨t, rfl⟩ := strs_at hi i v (by simpa using e)
      exact ⟨by simp [PySem.strKind, Value.isStrOf], rfl⟩
    · obtain ⟨t, rfl⟩ := strs_at hi i v (by simpa using e)
      exact (PySem.strKind X.prog X.w).pyHash (k := ns.getD i "") (by simp [PySem.strKind, Value.isStrOf]) q'
    · have hsz : its.toArray.size = ns.length := by rw [List.size_toArray, hl]
      rw [hsz]; exact Nat.lt_of_le_of_lt h64 (by decide)
    · have hsz : its.toArray.size = ns.length := by rw [List.size_toArray, hl]
      rw [hsz, dedup_metS] at g
      refine Calls.spliced_nil (sorted_setS hd g ?_ fun h2 d2 tk2 D out ep k2 hs2 ho hout => ?_)
      · rw [← dedup_metS]; exact Nat.lt_of_le_of_lt (SX.metK_len _ _) h64
      · have kk : ∀ b o, s1.heap.get? b = some o → h2.get? b = some o := fun b o z => k2 b o (kp b o (Heap.lt_size z) z)
        obtain ⟨so, _, _, _, hso, _⟩ := g.ex
        have lt : s1.heap.objs.size ≤ D := Nat.le_trans (Nat.le_of_lt (Heap.lt_size hso)) hs2
        have hf : H1 D = none := I1.hok.fresh lt
        refine ⟨.ref D, _, Inv.draws (I1.laid (t' := tk2) (a := D) (o := .lst ((sortS (dedupS ns)).map V.str)) kk lt ⟨?_, out.toList, ep, vals_strs hout, ?_⟩), rfl, q _ hf⟩
        · rw [List.length_map, (sortS_perm _).length_eq, ← dedup_metS]
          exact Nat.le_trans (SX.metK_len _ _) (Nat.le_of_lt (small1000 (by omega)))
        · rw [ho]
theorem de_sset (hc : X.calm = true) (m1 : X.mg "sorted" = none) (m2 : X.mg "set" = none) (ha : DE X e fa) (h1 : Gl X "sorted" := by rfl) (h2 : Gl X "set" := by rfl) (he : starEach [e] X.env = (false, eval e X.env) :: starEach [] X.env := by rfl)
    (he2 : starEach [.Call (.Name "set" p2) [e] [] pos2] X.env = (false, eval (.Call (.Name "set" p2) [e] [] pos2) X.env) :: starEach [] X.env := by rfl) : DE X (.Call (.Name "sorted" p) [.Call (.Name "set" p2) [e] [] pos2] [] pos) (op1 ssetD fa) :=
  ⟨fun pins s σ H Q I ⟨ρ, r, H0, G₀, G, ef, R, q⟩ => pe_sset hc h1 m1 h2 m2 boot_set (pa_cons ha.run pa_nil he) he he2 (fun _ => rfl) (fun _ => rfl) pins s σ H Q I (bE R ef q.x fun x v G1 H1 g1 R1 rv e1 => by
    obtain ⟨d, ed, rfl⟩ := lft_is e1
    unfold ssetD at ed
    split at ed
    · split at ed
      · rename_i xs ns e2
        split at ed
        · rename_i h64
          cases (Option.some.inj ed)
          have := allD_is (g := .int) (fun d a q => intD_is q) e2
          subst this
          cases rv with
          | list hq r =>
            have e3 := r.ints
            subst e3
            refine .inl ⟨_, ns, rfl, g1.sub.seq hq, h64, fun l hl => q _ _ _ (g1.trans (.put g1.sub hl)) (.list (.of upd_same) (repAll_intsG _))⟩
        · cases ed
      · split at ed
        · rename_i xs _ ns e2
          split at ed
          · rename_i h64
            cases (Option.some.inj ed)
            have := allD_is (g := .str) (fun d a q => strD_is q) e2
            subst this
            cases rv with
            | list hq r =>
              have e3 := r.strs
              subst e3
              refine .inr ⟨_, ns, rfl, g1.sub.seq hq, h64, fun l hl => q _ _ _ (g1.trans (.put g1.sub hl)) (.list (.of upd_same) (repAll_strsG _))⟩
          · cases ed
        · cases ed
    · cases ed)⟩
end
end L2.L3
namespace L2.L3
open PySem PySem.Spec PyProof.Rows
theorem isTy_kit {K : PySem.W.Frag} {T : String} {x : PyData} {t : Bool} (h : isTy T x = some t) : PySem.W.kitOne K (.type (tyD x)) (.type T) = some t := by
  unfold isTy at h
  split at h <;> first | (cases h; rfl) | cases h
noncomputable def ltrD : PyData → Option (List PyData)
  | .str z => some ((lettersOf z).map .str)
  | _ => none
noncomputable def ltrI (fa : EF) : AF := fun ρ => bnd (fa ρ) fun x => lft (ltrD x)
noncomputable def powD (x y : PyData) : Option PyData := match x, y with
  | .int i, .int j => if decide (0 ≤ j) && decide (j ≤ 64) && smallI i then some (.int (i ^ j.toNat)) else none
  | _, _ => none
section
variable {X : Cx} {H0 G₀ G G1 H H1 : Hp} {ρ : List Ent} {σ : St} {a b c d e iter : Expr} {es : List Expr} {pos p p2 pos2 px : Pos} {x : Str} {fa fb fc fd : EF}
theorem de_isinst {T : String} (hm : X.mg "isinstance" = none) (hx : X.mg x = none) (hv : bootBuiltins x = some (.type T)) (ha : DE X a fa) (hn : x ≠ "__name__" := by decide) (hdb : (x == ("__debug__" : Str)) = false := by decide)
    (he : starEach [a, .Name x p2] X.env = (false, eval a X.env) :: starEach [.Name x p2] X.env := by rfl) (he2 : starEach [.Name x p2] X.env = (false, eval (.Name x p2) X.env) :: starEach [] X.env := by rfl)
    (hpl : (backTo pos (starEach [.Name x p2] X.env)).any (·.1) = false := by rfl) (hg : Gl X "isinstance" := by rfl) (hgx : Gl X x := by rfl) : DE X (.Call (.Name "isinstance" p) [a, .Name x p2] [] pos) (op1 (isD T) fa) := by
  have hc : CallR X (.builtin "isinstance") (fun xs H Q => ∃ v d t, xs = [v, .ty T] ∧ Rep X.K H v d ∧ isTy T d = some t ∧ Q (.bl t) H) := by
    intro pins s σ H xs us Q I r ⟨v, d, t, e1, rv, ht, q⟩
    subst e1
    obtain ⟨u, w', rfl, r1, r2⟩ := vals2 r
    cases r2
    exact isinst_D I rv r1 (isTy_kit ht) fun tk => ⟨.bl t, H, I.tok tk, rfl, q⟩
  exact ⟨fun pins s σ H Q I ⟨ρ, r, H0, G₀, G, e, R, q⟩ => pe_callB hc hg hm boot_isinstance (pa_cons ha.run (pa_cons (pe_bltn (v := .ty T) hgx hx hv rfl hn hdb) pa_nil he2) he) (by decide) (by decide) he hpl pins s σ H Q I (bE R e q.x fun x v G1 H1 g1 R1 rv e1 => by
    obtain ⟨d, ed, rfl⟩ := lft_is e1
    obtain ⟨t, et, rfl⟩ := Option.map_eq_some_iff.mp ed
    exact ⟨v, x, t, rfl, rv.mono g1.sub, et, q _ _ _ g1 (.bool t)⟩)⟩
theorem pow_ok (x y d : PyData) (h : powD x y = some d) : OpD X .Pow x y d := by
  unfold powD at h
  split at h
  · split at h
    · rename_i hz
      simp only [Bool.and_eq_true, decide_eq_true_eq, smallI] at hz
      cases (Option.some.inj h)
      exact opD_ofC op_pow ⟨hz.1.1, by omega, by omega⟩
    · cases h
  · cases h
theorem ltr_di (hc : X.calm = true) (h : DE X iter fa) : DI X (.Name x px) iter (ltrI fa) := ⟨fun pins s σ H R I ⟨ρ, r, H0, G₀, G, e, S, q⟩ => by
  rcases bnd_some e with ⟨x, e1, e2⟩ | ⟨c, e1, e2⟩
  · obtain ⟨ds, e3, rfl⟩ := lft_is e2
    cases x <;> simp only [ltrD] at e3 <;> cases e3
    exact (pid_str (h.pd e1) hc).run pins s σ H R I ⟨H0, G₀, G, S, q⟩
  · subst e2
    exact pi_list h.run pins s σ H R I ⟨ρ, _, H0, G₀, G, e1, S, q⟩⟩
end
end L2.L3
namespace L2.L3
open PySem PySem.Spec PyProof.Rows
section
variable {X : Cx} {H0 G₀ G G1 H H1 : Hp} {ρ : List Ent} {σ : St} {a b c d e iter : Expr} {es : List Expr} {pos p p2 pos2 px : Pos} {x : Str} {fa fb fc fd : EF}
end
section
variable {X : Cx} {H0 G₀ G G1 H H1 : Hp} {ρ : List Ent} {σ : St} {a b c d e iter : Expr} {es : List Expr} {pos p p2 pos2 px : Pos} {x : Str} {fa fb fc fd : EF}
end
end L2.L3
namespace L2.L3
open PySem PySem.Spec PyProof.Rows
section
variable {X : Cx} {a b e : Expr} {elts : List Expr} {k0 : Nat} {p0 pos p : Pos} {fa fb : EF} {st : Stmt}
end
end L2.L3
namespace L2.ZT
open PySem PyProof.Rows
section
variable {prog : Program} {w : World} {A : Around} {E : Value → Shared → Prop} {s : Shared}
variable {z TI TO c d t u : Addr} {i j : Nat} {xs ys : Array Value} {a b : Value}
end
section
variable {prog : Program} {w : World} {A : Around} {E : Value → Shared → Prop} {s : Shared}
end
end L2.ZT
namespace L2.L3
open PySem PySem.Spec PyProof.Rows
noncomputable def Itt (K : PySem.W.Frag) (l1 l2 : Addr) : It :=
  ⟨fun i H => ∃ xs ys x y, SqT K H l1 xs ∧ SqT K H l2 ys ∧ xs[i]? = some x ∧ ys[i]? = some y,
   fun i H v H' => ∃ T x y, H T = none ∧ v = .ref T ∧ H' = upd H T (.tup [x, y]) ∧ (∀ xs, SqT K H l1 xs → xs[i]? = some x) ∧ ∀ ys, SqT K H l2 ys → ys[i]? = some y,
   fun i H => ∃ xs ys, SqT K H l1 xs ∧ SqT K H l2 ys ∧ (xs.length ≤ i ∨ ys.length ≤ i)⟩
section
variable {X : Cx} {a b : Expr} {elts : List Expr} {k0 : Nat} {p0 pos p : Pos} {fa fb : EF}
end
end L2.L3
namespace L2.ST
open PySem PySem.W PyProof.Rows
section
variable {α β : Type} {lt : Nat → Nat → Bool} {n : Nat}
noncomputable def run (lt : Nat → Nat → Bool) : KasT α → α
  | .ret a => a
  | .ask i j k => run lt (k (lt i j))
end
section
variable {r : Nat → Int} {n : Nat} {p : Array Nat}
noncomputable def vl (r : Nat → Int) (p : Array Nat) (k : Nat) : Int := r (p.getD k 0)
end
end L2.ST
namespace L2.L3
open PySem
noncomputable def ltC : PyData → PyData → Bool
  | .int a, .int b => decide (a < b)
  | .str a, .str b => !leStr b a
  | _, _ => false
noncomputable def eqC : PyData → PyData → Bool
  | .int a, .int b => a == b
  | .str a, .str b => a == b
  | _, _ => false
noncomputable def ltR : List PyData → List PyData → Bool
  | a :: r, b :: s => if eqC a b then ltR r s else ltC a b
  | _, _ => false
noncomputable def ltT : PyData → PyData → Bool
  | .tuple a, .tuple b => ltR a b
  | _, _ => false
section
variable {g : List Bool} {a b c : PyData}
end
noncomputable def rk (ds : List PyData) (i : Nat) : Int := ((ds.filter fun x => ltT x (ds.getD i .none)).length : Nat)
end L2.L3
namespace L2.L3
open PySem PySem.W PyProof.Rows PySem.Calls
section
variable {prog : Program} {w : World} {A : Around} {E : Value → Shared → Prop} {s : Shared}
inductive Rows (h : Heap) : List Value → List PyData → Prop
  | nil : Rows h [] []
  | cons {v : Value} {vs : List Value} {d : PyData} {ds : List PyData} {as : List Addr} : Reads h v d as → Rows h vs ds → Rows h (v :: vs) (d :: ds)
end
end L2.L3
namespace L2.L3
open PySem PySem.W PyProof.Rows
section
variable {X : Cx} {pins : List (Addr × Obj)} {σ : List (Option V)} {H : Hp} {s : Shared}
theorem seq_parts (I : Inv X pins σ H s) {p : Addr} {vs : List V} (h : SqL X.K H p vs ∨ SqT X.K H p vs) : ∃ (its : List Value) (T : String) (o : Obj) (n : Nat), (T = "list" ∨ T = "tuple") ∧ s.heap.get? p = some o ∧ o.cls = .type T ∧ o.data = .seq its.toArray n ∧ Vals vs its := by
  rcases h with h | h
  · obtain ⟨its, rv, pl, hz⟩ := I.list h
    obtain ⟨o, ho, hc, n, hd⟩ := pl.isList
    exact ⟨its, "list", o, n, .inl rfl, ho, hc, hd, rv⟩
  · obtain ⟨its, rv, ⟨o, ho, hc, n, hd⟩, hz⟩ := I.tuple h
    exact ⟨its, "tuple", o, n, .inr rfl, ho, hc, hd, rv⟩
end
section
variable {X : Cx}
end
end L2.L3
namespace L2.L3
open PySem
theorem bnd_ok {α β : Type} {m : Mm α} {a : α} {k : α → Mm β} (h : m = some (.ok a)) : bnd m k = k a := by rw [h]; rfl
theorem bns_ok {α : Type} {m : Mm α} {ρ : List Ent} {a : α} {k : α → Option So} (h : m = some (.ok a)) : bns m ρ k = k a := by rw [h]; rfl
theorem loopC_map {α : Type} {t : Tg} {ρb : List Ent} {ft : TF} {fe : EF} (φ : α → PyData) (ρx : α → List Ent) (c : α → Bool) (v : α → PyData) : ∀ (xs : List α), (∀ x ∈ xs, tgD t ρb (φ x) = some (ρx x)) → (∀ x ∈ xs, ft (ρx x) = some (.ok (c x))) → (∀ x ∈ xs, c x = true → fe (ρx x) = some (.ok (v x))) →
    loopC t ρb ft fe (xs.map φ) = some ((xs.filter c).map v)
  | [], _, _, _ => rfl
  | x :: xs, h1, h2, h3 => by
    have ih := loopC_map φ ρx c v xs (fun y hy => h1 y (List.mem_cons_of_mem _ hy)) (fun y hy => h2 y (List.mem_cons_of_mem _ hy)) (fun y hy => h3 y (List.mem_cons_of_mem _ hy))
    have e1 := h1 x List.mem_cons_self
    have e2 := h2 x List.mem_cons_self
    rw [List.map_cons, loopC, e1]
    dsimp only
    rw [e2]
    cases hc : c x with
    | true =>
      have e3 := h3 x List.mem_cons_self hc
      dsimp only
      rw [e3]
      dsimp only
      rw [ih, List.filter_cons_of_pos hc]
      rfl
    | false =>
      dsimp only
      rw [ih, List.filter_cons_of_neg (by rw [hc]; decide)]
theorem compE_map {α : Type} {t : Tg} {cap : List (Option Nat)} {fi : AF} {ft : TF} {fe : EF} {ρ : List Ent} (φ : α → PyData) (ρx : α → List Ent) (c : α → Bool) (v : α → PyData) (xs : List α) (hi : fi ρ = some (.ok (xs.map φ))) (hz : xs.length ≤ 100000)
    (h1 : ∀ x ∈ xs, tgD t (capE cap ρ) (φ x) = some (ρx x)) (h2 : ∀ x ∈ xs, ft (ρx x) = some (.ok (c x))) (h3 : ∀ x ∈ xs, c x = true → fe (ρx x) = some (.ok (v x))) :
    compE t cap fi ft fe ρ = some (.ok (.list ((xs.filter c).map v))) := by
  unfold compE
  rw [bnd_ok hi, List.length_map, if_pos (by unfold szOk; exact decide_eq_true hz), loopC_map φ ρx c v xs h1 h2 h3]
  rfl
theorem filter_all {α : Type} {c : α → Bool} {xs : List α} (h : ∀ x ∈ xs, c x = true) : xs.filter c = xs := List.filter_eq_self.mpr h
theorem compE_all {α : Type} {t : Tg} {cap : List (Option Nat)} {fi : AF} {fe : EF} {ρ : List Ent} (φ : α → PyData) (ρx : α → List Ent) (v : α → PyData) (xs : List α) (hi : fi ρ = some (.ok (xs.map φ))) (hz : xs.length ≤ 100000)
    (h1 : ∀ x ∈ xs, tgD t (capE cap ρ) (φ x) = some (ρx x)) (h3 : ∀ x ∈ xs, fe (ρx x) = some (.ok (v x))) :
    compE t cap fi ttT fe ρ = some (.ok (.list (xs.map v))) := by
  rw [compE_map φ ρx (fun _ => true) v xs hi hz h1 (fun _ _ => rfl) (fun x hx _ => h3 x hx), filter_all (fun _ _ => rfl)]
section
variable {α β : Type} {ρ : List Ent} {fa fb fc fd : EF} {ft fu : TF} {aa : AF} {d e : PyData} {i j k : Int}
@[simp] theorem bnd_r (a : α) (k : α → Mm β) : bnd (some (.ok a)) k = k a := rfl
@[simp] theorem bnd_x (c : Str) (k : α → Mm β) : bnd (some (.ex c)) k = some (.ex c) := rfl
@[simp] theorem bns_r (a : α) (k : α → Option So) : bns (some (.ok a)) ρ k = k a := rfl
@[simp] theorem bns_x (c : Str) (k : α → Option So) : bns (some (.ex c)) ρ k = some (.xc c ρ) := rfl
@[simp] theorem lft_s (a : α) : lft (some a) = some (.ok a) := rfl
@[simp] theorem cst_e : cst d ρ = some (.ok d) := rfl
@[simp] theorem var_0 (d : PyData) (r : List Ent) : var 0 (.val d :: r) = some (.ok d) := rfl
@[simp] theorem var_s (n : Nat) (x : Ent) (r : List Ent) : var (n + 1) (x :: r) = var n r := rfl
@[simp] theorem op2_e (g : PyData → PyData → Option PyData) : op2 g fa fb ρ = bnd (fa ρ) fun x => bnd (fb ρ) fun y => lft (g x y) := rfl
@[simp] theorem op1_e (g : PyData → Option PyData) : op1 g fa ρ = bnd (fa ρ) fun x => lft (g x) := rfl
@[simp] theorem aNil_e : aNil ρ = some (.ok []) := rfl
@[simp] theorem aCons_e : aCons fa aa ρ = bnd (fa ρ) fun x => bnd (aa ρ) fun xs => some (.ok (x :: xs)) := rfl
@[simp] theorem tupE_e : tupE aa ρ = bnd (aa ρ) fun xs => lft (mkTup xs) := rfl
@[simp] theorem lstE_e : lstE aa ρ = bnd (aa ρ) fun xs => lft (mkLst xs) := rfl
@[simp] theorem szOk_e (n : Nat) : szOk n = decide (n ≤ 100000) := rfl
@[simp] theorem mkTup_e (ds : List PyData) : mkTup ds = if ds.length ≤ 100000 then some (.tuple ds) else none := by unfold mkTup szOk; by_cases h : ds.length ≤ 100000 <;> simp [h]
@[simp] theorem mkLst_e (ds : List PyData) : mkLst ds = if ds.length ≤ 100000 then some (.list ds) else none := by unfold mkLst szOk; by_cases h : ds.length ≤ 100000 <;> simp [h]
@[simp] theorem cmpE_e (g : PyData → PyData → Option Bool) : cmpE g fa fb ρ = bnd (fa ρ) fun x => bnd (fb ρ) fun y => lft ((g x y).map .bool) := rfl
@[simp] theorem cmpT_e (g : PyData → PyData → Option Bool) : cmpT g fa fb ρ = bnd (fa ρ) fun x => bnd (fb ρ) fun y => lft (g x y) := rfl
@[simp] theorem chnE_e (g g' : PyData → PyData → Option Bool) : chnE g g' fa fb fc ρ = bnd (fa ρ) fun x => bnd (fb ρ) fun y => bnd (lft (g x y)) fun t => if t then bnd (fc ρ) fun z => lft ((g' y z).map .bool) else some (.ok (.bool false)) := rfl
@[simp] theorem chnT_e (g g' : PyData → PyData → Option Bool) : chnT g g' fa fb fc ρ = bnd (fa ρ) fun x => bnd (fb ρ) fun y => bnd (lft (g x y)) fun t => if t then bnd (fc ρ) fun z => lft (g' y z) else some (.ok false) := rfl
@[simp] theorem truT_e : truT fa ρ = bnd (fa ρ) fun x => lft (truD x) := rfl
@[simp] theorem truD_b (b : Bool) : truD (.bool b) = some b := rfl
@[simp] theorem truD_l (ds : List PyData) : truD (.list ds) = some (!ds.isEmpty) := rfl
@[simp] theorem truD_t (ds : List PyData) : truD (.tuple ds) = some (!ds.isEmpty) := rfl
@[simp] theorem truD_i (i : Int) : truD (.int i) = some (i != 0) := rfl
@[simp] theorem truD_n : truD .none = some false := rfl
@[simp] theorem notT_e : notT ft ρ = bnd (ft ρ) fun t => some (.ok (!t)) := rfl
@[simp] theorem notE_e : notE fa ρ = bnd (fa ρ) fun x => lft ((boolD x).map fun t => .bool (!t)) := rfl
@[simp] theorem boolD_b (b : Bool) : boolD (.bool b) = some b := rfl
@[simp] theorem intD_i (i : Int) : intD (.int i) = some i := rfl
@[simp] theorem strD_s (i : Str) : strD (.str i) = some i := rfl
@[simp] theorem andT_e : andT ft fu ρ = bnd (ft ρ) fun t => if t then fu ρ else some (.ok false) := rfl
@[simp] theorem orT_e : orT ft fu ρ = bnd (ft ρ) fun t => if t then some (.ok true) else fu ρ := rfl
@[simp] theorem andE_e : andE fa fb ρ = bnd (fa ρ) fun x => bnd (lft (boolD x)) fun t => if t then fb ρ else some (.ok (.bool false)) := rfl
@[simp] theorem orE_e : orE fa fb ρ = bnd (fa ρ) fun x => bnd (lft (boolD x)) fun t => if t then some (.ok (.bool true)) else fb ρ := rfl
@[simp] theorem ifE_e : ifE ft fa fb ρ = bnd (ft ρ) fun t => if t then fa ρ else fb ρ := rfl
@[simp] theorem bltE_e (g : List PyData → Option PyData) : bltE g aa ρ = bnd (aa ρ) fun xs => lft (g xs) := rfl
@[simp] theorem callE_e (F : List PyData → Mm PyData) : callE F aa ρ = bnd (aa ρ) fun ds => (match F ds with | some (.ok d) => some (.ok d) | _ => none) := rfl
@[simp] theorem add_ii : addD (.int i) (.int j) = some (.int (i + j)) := rfl
@[simp] theorem sub_ii : subD (.int i) (.int j) = some (.int (i - j)) := rfl
@[simp] theorem neg_i : negD (.int i) = some (.int (-i)) := rfl
@[simp] theorem add_tt (a b : List PyData) : addD (.tuple a) (.tuple b) = if a.length + b.length ≤ 100000 then some (.tuple (a ++ b)) else none := by
  show (if szOk (a.length + b.length) = true then _ else _) = _
  by_cases h : a.length + b.length ≤ 100000 <;> simp [h]
@[simp] theorem add_ll (a b : List PyData) : addD (.list a) (.list b) = if a.length + b.length ≤ 100000 then some (.list (a ++ b)) else none := by
  show (if szOk (a.length + b.length) = true then _ else _) = _
  by_cases h : a.length + b.length ≤ 100000 <;> simp [h]
@[simp] theorem lt_ii : ltD (.int i) (.int j) = some (decide (i < j)) := rfl
@[simp] theorem le_ii : leD (.int i) (.int j) = some (decide (i ≤ j)) := rfl
@[simp] theorem gt_ii : gtD (.int i) (.int j) = some (decide (j < i)) := rfl
@[simp] theorem ge_ii : geD (.int i) (.int j) = some (decide (j ≤ i)) := rfl
@[simp] theorem eq_ii : eqD (.int i) (.int j) = some (decide (i = j)) := rfl
@[simp] theorem ne_ii : neD (.int i) (.int j) = some (!decide (i = j)) := rfl
@[simp] theorem eq_ss (a b : Str) : eqD (.str a) (.str b) = some (decide (a = b)) := rfl
@[simp] theorem ne_ss (a b : Str) : neD (.str a) (.str b) = some (!decide (a = b)) := rfl
@[simp] theorem eq_bb (a b : Bool) : eqD (.bool a) (.bool b) = some (decide (a = b)) := rfl
@[simp] theorem ne_bb (a b : Bool) : neD (.bool a) (.bool b) = some (!decide (a = b)) := rfl
@[simp] theorem mod_ii : modD (.int i) (.int j) = if 0 < j then some (.int (i % j)) else none := rfl
@[simp] theorem fdv_ii : fdvD (.int i) (.int j) = if 0 < j ∧ j < 1073741824 then some (.int (i / j)) else none := rfl
theorem mul_iiR (h1 : -(2 ^ 64) < j) (h2 : j < 2 ^ 64) : mulD (.int i) (.int j) = some (.int (i * j)) := by
  show (if (smallI i || smallI j) = true then _ else _) = _
  rw [if_pos]; simp [smallI]; right; omega
theorem mul_iiL (h1 : -(2 ^ 64) < i) (h2 : i < 2 ^ 64) : mulD (.int i) (.int j) = some (.int (i * j)) := by
  show (if (smallI i || smallI j) = true then _ else _) = _
  rw [if_pos]; simp [smallI]; left; omega
@[simp] theorem len_l (xs : List PyData) : lenD [.list xs] = some (.int xs.length) := rfl
@[simp] theorem len_t (xs : List PyData) : lenD [.tuple xs] = some (.int xs.length) := rfl
@[simp] theorem max_ii : maxD [.int i, .int j] = some (.int (max i j)) := rfl
@[simp] theorem min_ii : minD [.int i, .int j] = some (.int (min i j)) := rfl
@[simp] theorem tup_l (xs : List PyData) : tupD [.list xs] = some (.tuple xs) := rfl
@[simp] theorem tup_t (xs : List PyData) : tupD [.tuple xs] = some (.tuple xs) := rfl
@[simp] theorem lst_l (xs : List PyData) : lstD [.list xs] = some (.list xs) := rfl
@[simp] theorem lst_t (xs : List PyData) : lstD [.tuple xs] = some (.list xs) := rfl
@[simp] theorem int_b (b : Bool) : intC [.bool b] = some (.int (if b then 1 else 0)) := rfl
@[simp] theorem seqI_e : seqI fa ρ = bnd (fa ρ) fun x => lft (seqD x) := rfl
@[simp] theorem seqD_l (ds : List PyData) : seqD (.list ds) = some ds := rfl
@[simp] theorem seqD_t (ds : List PyData) : seqD (.tuple ds) = some ds := rfl
@[simp] theorem ixD_t (ds : List PyData) : ixD (.tuple ds) (.int i) = atI ds i := rfl
@[simp] theorem ixD_l (ds : List PyData) : ixD (.list ds) (.int i) = atI ds i := rfl
theorem atI_nn {xs : List α} (n : Nat) : atI xs (n : Int) = xs[n]? := by
  unfold atI ixN
  rw [if_pos (by omega)]
  by_cases h : n < xs.length
  · rw [if_pos (by omega)]; simp
  · rw [if_neg (by omega)]; rw [List.getElem?_eq_none (by omega)]; rfl
@[simp] theorem at_0 (a : α) (r : List α) : atI (a :: r) 0 = some a := by
  unfold atI ixN
  rw [if_pos (by decide), if_pos (by simp <;> omega)]; rfl
@[simp] theorem at_1 (a b : α) (r : List α) : atI (a :: b :: r) 1 = some b := by
  unfold atI ixN
  rw [if_pos (by decide), if_pos (by simp <;> omega)]; rfl
@[simp] theorem at_2 (a b c : α) (r : List α) : atI (a :: b :: c :: r) 2 = some c := by
  unfold atI ixN
  rw [if_pos (by decide), if_pos (by simp <;> omega)]; rfl
@[simp] theorem at_3 (a b c d : α) (r : List α) : atI (a :: b :: c :: d :: r) 3 = some d := by
  unfold atI ixN
  rw [if_pos (by decide), if_pos (by simp <;> omega)]; rfl
@[simp] theorem nilS_e : nilS ρ = some (.nx ρ) := rfl
@[simp] theorem retS_e : retS fa ρ = bns (fa ρ) ρ fun d => some (.rt d) := rfl
@[simp] theorem exprS_e : exprS fa ρ = bns (fa ρ) ρ fun _ => some (.nx ρ) := rfl
@[simp] theorem setS_e (i : Nat) : setS i fa ρ = bns (fa ρ) ρ fun d => some (.nx (ρ.set i (.val d))) := rfl
@[simp] theorem unpS_e (t : Tg) : unpS t fa ρ = bns (fa ρ) ρ fun d => (tgD t ρ d).map So.nx := rfl
@[simp] theorem ifS_e (f g : SF) : ifS ft f g ρ = bns (ft ρ) ρ fun t => if t then f ρ else g ρ := rfl
@[simp] theorem forS_e (t : Tg) (fb : SF) : forS t aa fb ρ = bns (aa ρ) ρ fun ds => loopS t fb ds ρ := rfl
@[simp] theorem newS_e (i : Nat) : newS i aa ρ = bns (aa ρ) ρ fun ds => if ds.length ≤ 100000 then some (.nx (ρ.set i (.lst ds))) else none := by
  unfold newS szOk; cases aa ρ with
  | none => rfl
  | some r => cases r with
    | ok ds => by_cases h : ds.length ≤ 100000 <;> simp [bns, h]
    | ex c => rfl
theorem seqS_nx {f g : SF} {ρ' : List Ent} (h : f ρ = some (.nx ρ')) : seqS f g ρ = g ρ' := by unfold seqS; rw [h]
theorem seqS_rt {f g : SF} (h : f ρ = some (.rt d)) : seqS f g ρ = some (.rt d) := by unfold seqS; rw [h]
@[simp] theorem tg_nm (i : Nat) : tgD (.nm i) ρ d = some (ρ.set i (.val d)) := rfl
@[simp] theorem tg_tp2 (i j : Nat) (a b : PyData) : tgD (.tp [i, j]) ρ (.tuple [a, b]) = some ((ρ.set i (.val a)).set j (.val b)) := rfl
@[simp] theorem tg_tp3 (i j k : Nat) (a b c : PyData) : tgD (.tp [i, j, k]) ρ (.tuple [a, b, c]) = some (((ρ.set i (.val a)).set j (.val b)).set k (.val c)) := rfl
@[simp] theorem tg_tp4 (i j k l : Nat) (a b c d : PyData) : tgD (.tp [i, j, k, l]) ρ (.tuple [a, b, c, d]) = some ((((ρ.set i (.val a)).set j (.val b)).set k (.val c)).set l (.val d)) := rfl
end
end L2.L3
namespace L2.L3
open PySem
theorem loopS_inv {α : Type} {t : Tg} {fb : SF} (φ : α → PyData) (P : Nat → List Ent → Prop) : ∀ (xs : List α) (i : Nat) (ρ : List Ent), P i ρ →
    (∀ (j : Nat) (x : α) (ρ : List Ent), xs[j]? = some x → P (i + j) ρ → ∃ ρ1 ρ2, tgD t ρ (φ x) = some ρ1 ∧ (fb ρ1 = some (.nx ρ2) ∨ fb ρ1 = some (.ct ρ2)) ∧ P (i + j + 1) ρ2) →
    ∃ ρ', loopS t fb (xs.map φ) ρ = some (.nx ρ') ∧ P (i + xs.length) ρ'
  | [], i, ρ, h, _ => ⟨ρ, rfl, by simpa using h⟩
  | x :: xs, i, ρ, h, turn => by
    obtain ⟨ρ1, ρ2, e1, e2, h2⟩ := turn 0 x ρ rfl (by simpa using h)
    obtain ⟨ρ', e3, h3⟩ := loopS_inv φ P xs (i + 1) ρ2 (by simpa using h2) (fun j y ρ hy hp => by
      have e : i + 1 + j = i + (j + 1) := by omega
      rw [e] at hp ⊢
      exact turn (j + 1) y ρ (by simpa using hy) hp)
    refine ⟨ρ', ?_, by rw [List.length_cons, show i + (xs.length + 1) = i + 1 + xs.length by omega]; exact h3⟩
    rw [List.map_cons, loopS, e1]
    dsimp only
    rcases e2 with e2 | e2 <;> (rw [e2]; exact e3)
theorem loopS_all {α : Type} {t : Tg} {fb : SF} (φ : α → PyData) (P : List Ent → Prop) (xs : List α) (ρ : List Ent) (h : P ρ)
    (turn : ∀ x ∈ xs, ∀ ρ, P ρ → ∃ ρ1 ρ2, tgD t ρ (φ x) = some ρ1 ∧ (fb ρ1 = some (.nx ρ2) ∨ fb ρ1 = some (.ct ρ2)) ∧ P ρ2) : ∃ ρ', loopS t fb (xs.map φ) ρ = some (.nx ρ') ∧ P ρ' :=
  loopS_inv φ (fun _ => P) xs 0 ρ h fun j x ρ hx hp => turn x (List.mem_of_getElem? hx) ρ hp
theorem appS_at {i : Nat} {fa : EF} {ρ : List Ent} {ds : List PyData} {d : PyData} (h : ρ[i]? = some (.lst ds)) (ha : fa ρ = some (.ok d)) (hz : ds.length ≤ 100000) : appS i fa ρ = some (.nx (ρ.set i (.lst (ds ++ [d])))) := by
  unfold appS
  rw [h]
  dsimp only
  rw [bns_ok ha, if_pos (by unfold szOk; exact decide_eq_true hz)]
theorem rng1_at {fa : EF} {ρ : List Ent} {n : Int} (h : fa ρ = some (.ok (.int n))) (h1 : -1000000000 ≤ n) (h2 : n ≤ 1000000000) : rng1 fa ρ = some (.ok (rangeD 0 n.toNat)) := by
  unfold rng1
  rw [h]
  dsimp only
  rw [if_pos]
  simp [inRng]; omega
end L2.L3
namespace L2.L3
open PySem PySem.W PyProof.Rows
section
variable {X : Cx} {e : Expr} {fa : EF} {x : Str} {pos : Pos}
noncomputable def dfE (g : PyData → PyData → Option PyData) (fa fb : EF) : EF := fun ρ => match fa ρ, fb ρ with
  | some (.ok x), some (.ok y) => lft (g x y)
  | _, _ => none
noncomputable def extX (i : Nat) (fa : EF) : SF := fun ρ => match ρ[i]? with
  | some (.lst ds) => bns (fa ρ) ρ fun d => (match seqD d with
    | some es => if szOk (ds.length + es.length) then some (.nx (ρ.set i (.lst (ds ++ es)))) else none
    | none => none)
  | _ => none
noncomputable def rExtX (K : PySem.W.Frag) : V → List V → Hp → VK → Prop := fun x vs H Q => ∃ l b xs zs, x = .ref l ∧ vs = [.ref b] ∧ H l = some (.lst xs) ∧ (SqL K H b zs ∨ SqT K H b zs) ∧ xs.length + zs.length ≤ sizeLine ∧ Q .non (upd H l (.lst (xs ++ zs)))
theorem mt_extX : MtM X "list.extend" (rExtX X.K) := by
  intro pins s σ H x vs v us Q I rx rv h
  obtain ⟨l, b, xs, zs, rfl, rfl, hH, hB, hz, q⟩ := h
  cases rx
  obtain ⟨u, rfl, ru⟩ := rv.one
  cases ru
  obtain ⟨z, its, n, r, hl, e⟩ := I.lstM hH
  obtain ⟨its2, T, o, n2, hT, ho, hc, hd, r2⟩ := seq_parts I hB
  have hl2 := r2.length
  have hl1 := r.length
  have hsz : its.toArray.size + its2.toArray.size ≤ sizeLine := by rw [List.size_toArray, List.size_toArray]; omega
  have hlong : ¬ (!its.toArray.isEmpty && Builtin.List.listTooLong (its.toArray.size + its2.toArray.size)) = true := by
    rw [notLongL hsz, Bool.and_false]
    exact Bool.false_ne_true
  refine wpAny_call_entry F.slot_list_extend ⟨_, e, rfl⟩ F.entry_list_extend ?_ (F.args_list_extend_2 _ _)
  show wpAny _ _ (Builtin.List.listExtendWith (.ref l) (.ref b) .none) _ _ s
  unfold Builtin.List.listExtendWith
  refine wpAny_bind (wpAny_typeOf (T := T) ⟨o, ho, hc⟩ ?_)
  rw [if_pos (by rcases hT with rfl | rfl <;> simp)]
  refine wpAny_bind (listItems_at ho hd ?_)
  refine wpAny_bind (listItems_at e rfl ?_)
  rw [if_neg hlong]
  refine wpAny_bind (listUpdate_at e rfl ?_ (by rw [List.size_toArray]; omega) (by rw [Array.size_append]; omega))
  refine wpAny_pure ⟨_, rfl, .non, _, I.lset (its' := its ++ its2) (t' := s.toks) hH e (by simp) (r.append r2) ?_, rfl, q⟩
  rw [List.length_append]
  omega
theorem ds_extX (i : Nat) {p ap cp : Pos} (h : DE X e fa) (hN : X.N[i]? = some x := by rfl)
    (hv : Vis X.env.scope x := by first | exact Or.inl rfl | exact Or.inr (Or.inl rfl) | exact Or.inr (Or.inr rfl)) (hd : (x == ("__debug__" : Str)) = false := by decide) (hcd : (x == ("__classdict__" : Str)) = false := by decide)
    (hbase : attributeBase (.Name x p) "extend" X.env (eval (.Name x p) X.env) = eval (.Name x p) X.env := by rfl)
    (hfew : ((backTo cp (starEach (e :: []) X.env)).all (fun x => !x.1) && (backToKw cp (keywordEach [] X.env)).all (fun x => x.1.isSome) && decide ((e :: []).length + ([] : List Keyword).length + (if ([] : List Keyword).isEmpty then 0 else 1) < 30)) = true := by rfl)
    (hline : (ap.endLine == cp.line) = true := by rfl) (hst : starEach (e :: []) X.env = (false, eval e X.env) :: starEach [] X.env := by rfl) (hplain : (backTo cp (starEach [] X.env)).any (·.1) = false := by rfl)
    (hsw : swapsWith (.Call (.Attribute (.Name x p) "extend" ap) [e] [] cp) none pos.line X.env = pure false := by rfl) :
    DS X (.Expr (.Call (.Attribute (.Name x p) "extend" ap) [e] [] cp) pos) (extX i fa) := ⟨fun pins s σ H D I ⟨ρ, o, H0, G₀, G, ef, R, q⟩ =>
  ps_expr (pe_bm PySem.F.plainAttrs_list PySem.F.slot_list_extend PySem.F.type_list_extend mt_extX (pe_var hN hv hd hcd) (pa_cons h.run pa_nil hst) hbase hfew hline hst hplain) hsw pins s σ H D I (by
    unfold extX at ef
    split at ef
    · rename_i ds hi
      obtain ⟨a, xs, e1, h1, h2, h3, r⟩ := R.own hi
      refine ⟨.ref a, e1, .inl ⟨rfl, xs, .of h1⟩, sE R ef q fun d v G1 H1 g1 R1 rv e2 q1 => ?_⟩
      split at e2
      · rename_i es he
        split at e2
        · rename_i hz
          cases (Option.some.inj e2)
          obtain ⟨b, zs, rfl, hq, r'⟩ := seq_rep g1.sub he rv
          exact ⟨a, _, xs, _, rfl, rfl, g1.hh.lst h1, hq, by rw [r.length, r'.length]; exact sz_le hz, q1 G1 _ σ (.refl _) (R1.wrote hi e1 ((r.mono g1.gg).append r'))⟩
        · cases e2
      · cases e2
    · cases ef)⟩
end
end L2.L3
namespace L2.L3
open PySem PySem.Spec PyProof.Rows
theorem vals_texts : ∀ {ns : List Str} {us : List Value}, Vals (ns.map V.str) us → ∃ l : List (Str × Tok), us = strValues l ∧ l.map (·.1) = ns
  | [], _, .nil => ⟨[], rfl, rfl⟩
  | n :: ns, _, .cons ⟨t, e⟩ r => by
    subst e
    obtain ⟨l, rfl, e2⟩ := vals_texts r
    exact ⟨(n, t) :: l, rfl, by rw [List.map_cons, e2]⟩
theorem texts_vals : ∀ l : List (Str × Tok), Vals ((l.map (·.1)).map V.str) (strValues l)
  | [] => .nil
  | p :: l => .cons ⟨p.2, rfl⟩ (texts_vals l)
section
variable {X : Cx} {o e : Expr} {fo fa : EF} {apos cpos : Pos}
theorem mt_split : MtM X "str.split" (fun x vs H Q => ∃ (z y : Str), x = .str z ∧ vs = [.str y] ∧ (y.length == 0) = false ∧ z.length ≤ sizeLine ∧ (Txt.split z y).length ≤ sizeLine ∧ ∀ l, H l = none → Q (.ref l) (upd H l (.lst ((Txt.split z y).map V.str)))) := by
  intro pins s σ H x vs v us Q I rx rv ⟨z, y, e1, e2, hy, hz, hn, q⟩
  subst e1 e2
  obtain ⟨t, rfl⟩ := rx
  obtain ⟨u, rfl, t', rfl⟩ := rv.one
  have fin : ∀ (l : List (Str × Tok)) (tk : Nat), l.map (·.1) = Txt.split z y → EP X pins σ Q (.ref s.heap.objs.size) { s with heap := s.heap.push { cls := .type "list", data := .seq (strValues l).toArray }, toks := tk } := fun l tk e => by
    refine ⟨.ref s.heap.objs.size, _, I.laid (t' := tk) (fun b o e => Heap.get?_push_of_some _ e) (Nat.le_refl _) (show ObjOk X.prog X.w _ _ _ (.lst ((Txt.split z y).map V.str)) from ⟨by rw [List.length_map]; exact hn, strValues l, 0, ?_, Heap.get?_push_size _ rfl⟩), rfl, q _ (I.hok.fresh (Nat.le_refl _))⟩
    rw [← e]; exact texts_vals l
  cases h1 : (decide (z.length < y.length) || decide (Builtin.Str.strKind z < Builtin.Str.strKind y))
  · cases hf : (Builtin.Str.occurrences z y 0 z.length (z.length + 1)).isEmpty
    · have es : Txt.split z y = Builtin.Str.partsBetween z (Builtin.Str.occurrences z y 0 z.length (z.length + 1)) y.length := by
        unfold Txt.split; rw [if_neg (by rw [h1]; decide), if_neg (by rw [hf]; decide)]
      refine call_meets F.slot_str_split (typeIs_str _ _ _) F.entry_str_split (F.args_str_split_2 _ _) (meets_str_split_sep z y t t' h1 hy hf hz (by rw [← es]; exact hn)) ?_
      show EP X pins σ Q (.ref s.heap.objs.size) _
      rw [strsFrom_eq]
      exact fin (numbered s.toks _) _ ((numbered_texts _ _).trans es.symm)
    · have es : Txt.split z y = [z] := by unfold Txt.split; rw [if_neg (by rw [h1]; decide), if_pos hf]
      refine call_meets F.slot_str_split (typeIs_str _ _ _) F.entry_str_split (F.args_str_split_2 _ _) (meets_str_split_not_found z y t t' h1 hy hf) ?_
      exact fin [(z, t)] s.toks es.symm
  · have es : Txt.split z y = [z] := by unfold Txt.split; rw [if_pos h1]
    refine call_meets F.slot_str_split (typeIs_str _ _ _) F.entry_str_split (F.args_str_split_2 _ _) (meets_str_split_cannot_occur z y t t' h1) ?_
    exact fin [(z, t)] s.toks es.symm
theorem mt_join : MtM X "str.join" (fun x vs H Q => ∃ (z : Str) (p : Addr) (ns : List Str), x = .str z ∧ vs = [.ref p] ∧ SqL X.K H p (ns.map V.str) ∧ JoinOk z ns = true ∧ Q (.str (Txt.join z ns)) H) := by
  intro pins s σ H x vs v us Q I rx rv ⟨z, p, ns, e1, e2, hq, hok, q⟩
  subst e1 e2
  obtain ⟨t, rfl⟩ := rx
  obtain ⟨u, rfl, e⟩ := rv.one
  cases e
  obtain ⟨its, r1, p1, _⟩ := I.list hq
  obtain ⟨l, rfl, el⟩ := vals_texts r1
  subst el
  unfold JoinOk at hok
  rw [Bool.not_eq_true'] at hok
  refine call_meets F.slot_str_join (typeIs_str _ _ _) F.entry_str_join (F.args_str_join_2 _ _) (meets_str_join_list z t p l hok) ⟨p1.isList, post_join (Q := fun v s' => wants (EP X pins σ Q) X.xe (.ok (.ret v)) s') l ⟨joinFit_length hok, fun t' k => ?_⟩⟩
  exact ⟨.str _, H, I.tok _, ⟨_, rfl⟩, q⟩
noncomputable def splD (x y : PyData) : Option PyData := match x, y with
  | .str z, .str y => if (y.length != 0) && szOk z.length && szOk (Txt.split z y).length then some (.list ((Txt.split z y).map .str)) else none
  | _, _ => none
noncomputable def joiD (x y : PyData) : Option PyData := match x, y with
  | .str z, .list xs => (match allD strD xs with | some ns => if JoinOk z ns then some (.str (Txt.join z ns)) else none | none => none)
  | _, _ => none
theorem de_split (ho : DE X o fo) (ha : DE X e fa)
    (hbase : attributeBase o "split" X.env (eval o X.env) = eval o X.env := by rfl)
    (hfew : ((backTo cpos (starEach (e :: []) X.env)).all (fun x => !x.1) && (backToKw cpos (keywordEach [] X.env)).all (fun x => x.1.isSome) && decide ((e :: []).length + ([] : List Keyword).length + (if ([] : List Keyword).isEmpty then 0 else 1) < 30)) = true := by rfl)
    (hline : (apos.endLine == cpos.line) = true := by rfl) (hst : starEach (e :: []) X.env = (false, eval e X.env) :: starEach [] X.env := by rfl) (hplain : (backTo cpos (starEach [] X.env)).any (·.1) = false := by rfl) :
    DE X (.Call (.Attribute o "split" apos) [e] [] cpos) (dfE splD fo fa) := de_of fun ρ r h => by
  unfold dfE at h
  split at h
  · rename_i x y ea eb
    obtain ⟨d, ed, rfl⟩ := lft_is h
    refine ⟨d, rfl, ?_⟩
    unfold splD at ed
    split at ed
    · rename_i z y
      split at ed
      · rename_i hz
        cases (Option.some.inj ed)
        rw [Bool.and_eq_true, Bool.and_eq_true] at hz
        exact pd_bm F.plainAttrs_str F.slot_str_split F.type_str_split mt_split (ho.pd ea) (pad_cons (ha.pd eb) pad_nil hst) (fun x G H s r => by cases r; rfl) (fun x vs G H Q s r rs q => by
          cases r
          cases rs with
          | cons r1 r2 =>
            cases r1; cases r2
            exact ⟨z, y, rfl, rfl, by simpa using hz.1.1, sz_le hz.1.2, sz_le hz.2, fun l hl => q _ _ _ (.put s hl) (.list (.of upd_same) (repAll_strsG _))⟩) hbase hfew hline hst hplain
      · cases ed
    · cases ed
  · cases h
theorem de_join (ho : DE X o fo) (ha : DE X e fa)
    (hbase : attributeBase o "join" X.env (eval o X.env) = eval o X.env := by rfl)
    (hfew : ((backTo cpos (starEach (e :: []) X.env)).all (fun x => !x.1) && (backToKw cpos (keywordEach [] X.env)).all (fun x => x.1.isSome) && decide ((e :: []).length + ([] : List Keyword).length + (if ([] : List Keyword).isEmpty then 0 else 1) < 30)) = true := by rfl)
    (hline : (apos.endLine == cpos.line) = true := by rfl) (hst : starEach (e :: []) X.env = (false, eval e X.env) :: starEach [] X.env := by rfl) (hplain : (backTo cpos (starEach [] X.env)).any (·.1) = false := by rfl) :
    DE X (.Call (.Attribute o "join" apos) [e] [] cpos) (dfE joiD fo fa) := de_of fun ρ r h => by
  unfold dfE at h
  split at h
  · rename_i x y ea eb
    obtain ⟨d, ed, rfl⟩ := lft_is h
    refine ⟨d, rfl, ?_⟩
    unfold joiD at ed
    split at ed
    · rename_i z xs
      split at ed
      · rename_i ns ei
        split at ed
        · rename_i hz
          have hx := allD_is (g := PyData.str) (fun d a q => strD_is q) ei
          subst hx
          cases (Option.some.inj ed)
          exact pd_bm F.plainAttrs_str F.slot_str_join F.type_str_join mt_join (ho.pd ea) (pad_cons (ha.pd eb) pad_nil hst) (fun x G H s r => by cases r; rfl) (fun x vs G H Q s r rs q => by
            cases r
            cases rs with
            | cons r1 r2 =>
              cases r2
              cases r1 with
              | list hq ra =>
                have e := ra.strs
                subst e
                exact ⟨z, _, ns, rfl, rfl, s.seq hq, hz, q _ G H (.refl s) (.str _)⟩) hbase hfew hline hst hplain
        · cases ed
      · cases ed
    · cases ed
  · cases h
noncomputable def fmtD (x : PyData) : Option PyData := match x with
  | .str z => if szOk z.length then some (.str z) else none
  | .int i => if smallI i then some (.str (toString i : String)) else none
  | _ => none
theorem small_log {i : Int} (h : smallI i = true) : i.natAbs.log2 < 1920 := by
  unfold smallI at h
  rw [Bool.and_eq_true, decide_eq_true_eq, decide_eq_true_eq] at h
  have : i.natAbs < 2 ^ 64 := by omega
  by_cases z : i.natAbs = 0
  · rw [z]; decide
  · exact Nat.lt_trans ((Nat.log2_lt z).mpr this) (by decide)
theorem de_fmt {pos : Pos} (ha : DE X e fa) : DE X (.FormattedValue e (-1) none pos) (op1 fmtD fa) := ⟨fun pins s σ H Q I ⟨ρ, r, H0, G₀, G, ef, R, q⟩ => by
  refine wpAny_FormattedValue_plain (wpAny_mono (ha.run pins s σ H (fun v H1 => ∃ G1 d, Grow G H G1 H1 ∧ Rep X.K G1 v d ∧ lft (fmtD d) = some r) I ?_) (fun u s1 ⟨v, H1, I1, rv, G1, d, g1, rd, ed⟩ => ?_) fun _ _ x => x)
  · exact bE R ef q.x fun d v G1 H1 g1 R1 rd ed => ⟨G1, d, g1, rd, ed⟩
  · obtain ⟨d', ed', rfl⟩ := lft_is ed
    unfold fmtD at ed'
    split at ed'
    · rename_i z
      split at ed'
      · rename_i hz
        cases (Option.some.inj ed')
        cases rd
        obtain ⟨t, rfl⟩ := rv
        have Qs := q (.str z) G1 H1 g1 (.str z)
        exact wpAny_formatField_str ⟨.str z, H1, I1, ⟨_, rfl⟩, Qs⟩ ⟨.str z, H1, I1.tok _, ⟨_, rfl⟩, Qs⟩ (sz_le hz)
      · cases ed'
    · rename_i i
      split at ed'
      · rename_i hz
        cases (Option.some.inj ed')
        cases rd
        obtain ⟨t, rfl⟩ := rv
        exact wpAny_formatField_int (small_log hz) ⟨.str _, H1, I1.tok _, ⟨_, rfl⟩, q (.str _) G1 H1 g1 (.str _)⟩
      · cases ed'
    · cases ed'⟩
noncomputable def catS (acc : Str) (ns : List Str) : Str := ns.foldl (· ++ ·) acc
theorem cat_len : ∀ (ns : List Str) (acc : Str), acc.length ≤ (catS acc ns).length
  | [], _ => Nat.le_refl _
  | n :: ns, acc => by
    refine Nat.le_trans ?_ (cat_len ns (acc ++ n))
    rw [strLen_append]; omega
structure DJ (X : Cx) (es : List Expr) (f : AF) : Prop where
  run : ∀ (pins : List (Addr × Obj)) (s : Shared) (σ : St) (H : Hp) (acc : Str) (Q : Str → Hp → Prop) (ρ : List Ent) (ds : List PyData) (ns : List Str) (H0 G₀ G : Hp), Inv X pins σ H s → f ρ = some (.ok ds) → allD strD ds = some ns → RepS X.K H0 G₀ G H σ ρ → (catS acc ns).length ≤ sizeLine →
    (∀ G' H', Grow G H G' H' → Q (catS acc ns) H') → Joins (model X.prog X.w) X.A X.xe (evalEach es X.env) acc (fun out s1 => ∃ H', Inv X pins σ H' s1 ∧ Q out H') s
theorem dj_nil : DJ X [] aNil := ⟨fun pins s σ H acc Q ρ ds ns H0 G₀ G I ef ea R hz q => by
  cases (Option.some.inj ef)
  cases (Option.some.inj ea)
  exact ⟨H, I, q G H (.refl R.sub)⟩⟩
theorem dj_cons {es : List Expr} {fe : EF} {fs : AF} (h : DE X e fe) (hs : DJ X es fs) : DJ X (e :: es) (aCons fe fs) := ⟨fun pins s σ H acc Q ρ ds ns H0 G₀ G I ef ea R hz q => by
  rw [aCons_e] at ef
  cases hfe : fe ρ with
  | none => rw [hfe] at ef; cases ef
  | some r =>
    cases r with
    | ex c => rw [hfe] at ef; cases ef
    | ok d =>
      rw [hfe, bnd_r] at ef
      cases hfs : fs ρ with
      | none => rw [hfs] at ef; cases ef
      | some r2 =>
        cases r2 with
        | ex c => rw [hfs] at ef; cases ef
        | ok ds' =>
          rw [hfs, bnd_r] at ef
          cases (Option.some.inj ef)
          have hx := allD_is (g := PyData.str) (fun d a q => strD_is q) ea
          cases ns with
          | nil => cases hx
          | cons n ns =>
            rw [List.map_cons, List.cons.injEq] at hx
            obtain ⟨hd, ht⟩ := hx
            subst hd ht
            show wpAny _ _ (eval e X.env) _ _ s
            refine wpAny_mono ((h.pd hfe).run H0 G₀ G pins s σ H (fun v H1 => ∃ G1, Grow G H G1 H1 ∧ v = .str n) I R (fun v G1 H1 g1 rv => ⟨G1, g1, by cases rv; rfl⟩)) (fun u s1 ⟨v, H1, I1, ru, G1, g1, ev⟩ => ?_) fun _ _ x => x
            subst ev
            obtain ⟨t, rfl⟩ := ru
            refine ⟨n, t, rfl, Nat.le_trans (cat_len ns (acc ++ n)) hz, ?_⟩
            exact hs.run pins s1 σ H1 (acc ++ n) Q ρ _ ns H0 G₀ G1 I1 hfs (allD_map (g := .str) (fun _ => rfl) ns) (R.more g1) hz fun G' H' g => q G' H' (g1.trans g)⟩
noncomputable def jnE (fa : AF) : EF := fun ρ => match fa ρ with
  | some (.ok ds) => (match allD strD ds with
    | some ns => if szOk (catS Str.empty ns).length then some (.ok (.str (catS Str.empty ns))) else none
    | none => none)
  | _ => none
theorem de_joined {a b : Expr} {es : List Expr} {f : AF} {pos : Pos} (h : DJ X (a :: b :: es) f) : DE X (.JoinedStr (a :: b :: es) pos) (jnE f) := de_of fun ρ r ef => by
  unfold jnE at ef
  split at ef
  · rename_i ds hds
    split at ef
    · rename_i ns hns
      split at ef
      · rename_i hz
        cases (Option.some.inj ef)
        refine ⟨_, rfl, ⟨fun H0 G₀ G pins s σ H Q I R k => ?_⟩⟩
        refine wpAny_JoinedStr ?_
        have J := h.run pins s σ H Str.empty (fun out H' => out = catS Str.empty ns ∧ Q (.str out) H') ρ ds ns H0 G₀ G I hds hns R (sz_le hz) fun G' H' g => ⟨rfl, k _ G' H' g (.str _)⟩
        have mono : ∀ (parts : List (Sem Value)) (acc : Str) (s : Shared) (P P' : Str → Shared → Prop), (∀ o s, P o s → P' o s) → Joins (model X.prog X.w) X.A X.xe parts acc P s → Joins (model X.prog X.w) X.A X.xe parts acc P' s := by
          intro parts
          induction parts with
          | nil => intro acc s P P' hp j; exact hp _ _ j
          | cons x rest ih =>
            intro acc s P P' hp j
            exact wpAny_mono j (fun v s1 ⟨y, t, e1, e2, e3⟩ => ⟨y, t, e1, e2, ih _ _ _ _ hp e3⟩) fun _ _ x => x
        refine mono _ _ _ _ _ (fun out s1 ⟨H', I', eo, qo⟩ => ?_) J
        subst eo
        exact ⟨sz_le hz, .str _, H', I'.tok _, ⟨_, rfl⟩, qo⟩
      · cases ef
    · cases ef
  · cases ef
end
end L2.L3
namespace L2.L3
open PySem PySem.Spec PyProof.Rows
noncomputable def cutS (x : Str) (lo hi : Option Int) : Str :=
  if ((Builtin.Str.strSliceIndices lo hi 1 x.length).length == x.length) = true then x else ⟨((Builtin.Str.strSliceIndices lo hi 1 x.length).filterMap (x.cps[·]?)).toArray⟩
theorem part_ex {v : Value} {o : Option Int} (p : IsPart v o) : ∃ l : Option (Int × Tok), v = partValue l ∧ l.map (·.1) = o := by
  cases p with
  | none => exact ⟨none, rfl, rfl⟩
  | int i t => exact ⟨some (i, t), rfl, rfl⟩
section
variable {X : Cx} {a : Expr} {lo hi : Option Expr} {fa : EF} {fl fh : OF} {pos p2 : Pos}
theorem sl_str : SlR X (fun x lo hi H Q => ∃ z : Str, x = .str z ∧ (cutS z lo hi).length ≤ sizeLine ∧ Q (.str (cutS z lo hi)) H) := by
  intro pins s σ H x v vl vu lo hi sl Q I rx hs pl pu h
  obtain ⟨z, rfl, hz, q⟩ := h
  obtain ⟨t, rfl⟩ := rx
  obtain ⟨l, rfl, el⟩ := part_ex pl
  obtain ⟨u, rfl, eu⟩ := part_ex pu
  refine ⟨"str", _, F.slot_str_getitem.lookup, typeIs_str _ _ _, ?_⟩
  refine wpAny_getItem_str_slice (l := l) (u := u) (st := none) hs (by decide) ?_
  unfold sliceMade slicePicked
  show Made.post (if ((1 : Int) == 1 && (Builtin.Str.strSliceIndices (l.map (·.1)) (u.map (·.1)) 1 z.length).length == z.length) = true then _ else _) _ s
  rw [el, eu]
  unfold cutS at hz q
  by_cases c : ((Builtin.Str.strSliceIndices lo hi 1 z.length).length == z.length) = true
  · rw [if_pos c] at hz q
    rw [if_pos (by rw [c]; rfl)]
    exact ⟨.str z, H, I, ⟨t, rfl⟩, q⟩
  · rw [if_neg c] at hz q
    rw [if_neg (by simpa using c)]
    exact ⟨hz, .str _, H, I.tok _, ⟨_, rfl⟩, q⟩
noncomputable def slY (x : PyData) (lo hi : Option Int) : Option PyData := match x with
  | .str z => if szOk (cutS z lo hi).length then some (.str (cutS z lo hi)) else none
  | x => slD x lo hi
noncomputable def slYE (fa : EF) (lo hi : OF) : EF := fun ρ => bnd (fa ρ) fun x => bnd (lo ρ) fun l => bnd (hi ρ) fun h => lft (slY x l h)
theorem de_slY (ha : DE X a fa) (hl : DO X lo fl) (hh : DO X hi fh) : DE X (.Subscript a (.Slice lo hi none p2) pos) (slYE fa fl fh) := ⟨fun pins s σ H Q I ⟨ρ, r, H0, G₀, G, e, R, q⟩ =>
  pe_slice (sl_str.or (sl_list.or sl_tup)) ha.run hl.run hh.run pins s σ H Q I (bE R e q.x fun x v G1 H1 g1 R1 rv e1 => bO R1 e1 (q.more g1).x fun l G2 H2 g2 R2 e2 => bO R2 e2 ((q.more g1).more g2).x fun h G3 H3 g3 R3 e3 => by
    obtain ⟨d, ed, rfl⟩ := lft_is e3
    have g23 := g2.trans g3
    unfold slY at ed
    split at ed
    · split at ed
      · rename_i hz
        cases (Option.some.inj ed)
        cases rv
        exact .inl ⟨_, rfl, sz_le hz, q _ _ _ (g1.trans g23) (.str _)⟩
      · cases ed
    · unfold slD at ed
      split at ed
      · cases (Option.some.inj ed)
        cases rv with
        | list hq r =>
          refine .inr (.inl ⟨_, _, rfl, (g23.gg.trans g23.sub).seq hq, fun l hl => q _ _ _ ((g1.trans g23).trans (.put g23.sub hl)) ?_⟩)
          exact .list (.of upd_same) (cutD_rep (r.mono (g23.gg.trans (same_upd (g23.sub.free hl)))) _ _)
      · split at ed
        · cases ed
        · rename_i hw
          cases (Option.some.inj ed)
          cases rv with
          | tuple hq r =>
            refine .inr (.inr ⟨_, _, rfl, seqT (g23.gg.trans g23.sub) hq, by rw [r.length]; exact hw, fun l hl => q _ _ _ ((g1.trans g23).trans (.put g23.sub hl)) ?_⟩)
            exact .tuple (.of upd_same) (cutD_rep (r.mono (g23.gg.trans (same_upd (g23.sub.free hl)))) _ _)
      · cases ed)⟩
noncomputable def strC (ds : List PyData) : Option PyData := match ds with
  | [.int i] => if smallI i then some (.str (toString i : String)) else none
  | _ => none
theorem str_ok (ds : List PyData) (d : PyData) (h : strC ds = some d) : CallD X (.type "str") ds d := by
  unfold strC at h; split at h
  · split at h
    · rename_i i hz
      cases (Option.some.inj h)
      exact ⟨_, call_str_int, fun vs G H Q s r q => by
        cases r with | cons r rr => cases rr; cases r; exact ⟨i, rfl, small_log hz, q _ G H (.refl s) (.str _)⟩⟩
    · cases h
  · cases h
theorem boot_str : bootBuiltins "str" = some (.type "str") := by kernel_rfl
end
end L2.L3
namespace L2.L3
open PySem PySem.Spec PySem.Calls PyProof.Rows
section
variable {P : Program} {w : World} {K : PySem.W.Frag} {mg : Str → Option Value} {base : Heap}
end
end L2.L3
namespace L2.L3
open PySem PySem.Spec PySem.Calls PyProof.Rows
section
variable {X : Cx} {pins : List (Addr × Obj)} {σ : St} {H H0 G₀ G : Hp} {s : Shared} {ρ : List Ent}
end
end L2.L3
namespace L2.L3
open PySem PySem.W PyProof.Rows PySem.Calls
section
variable {prog : Program} {w : World} {A : Around} {E : Value → Shared → Prop} {s : Shared}
end
end L2.L3
namespace L2.L3
open PySem PySem.W PyProof.Rows PySem.Calls
section
variable {prog : Program} {w : World} {A : Around} {E : Value → Shared → Prop} {s : Shared}
end
end L2.L3
namespace L2.L3
open PySem PySem.Spec PySem.Calls PyProof.Rows
section
variable {X : Cx} {pins : List (Addr × Obj)} {σ : St} {H H0 G₀ G : Hp} {s : Shared} {ρ : List Ent}
end
end L2.L3
namespace L2.L3
open PySem PySem.Spec PySem.Calls PyProof.Rows
section
variable {P : Program} {w : World} {K : PySem.W.Frag} {mg : Str → Option Value} {base : Heap} {x : Str} {k : Nat} {ps N : List Str}
end
theorem lam_none {K : PySem.W.Frag} (h1 : PySem.W.tabIn K "in_ending_order" = none) (h2 : PySem.W.tabIn K "in_laying_order" = none) : ∀ x ∈ lamNames, PySem.W.tabIn K x = none := fun x hx => by
  unfold lamNames at hx
  rcases List.mem_cons.mp hx with rfl | hx
  · exact h1
  · obtain rfl := List.mem_singleton.mp hx; exact h2
theorem all_cons {α : Type} {p : α → Prop} {a : α} {l : List α} (h : p a) (t : ∀ x ∈ l, p x) : ∀ x ∈ a :: l, p x := List.forall_mem_cons.mpr ⟨h, t⟩
theorem no_tabs {K : PySem.W.Frag} {H : Hp} (h : ∀ x ∈ lamNames, PySem.W.tabIn K x = none) : ∀ x ∈ lamNames, ∀ c P, PySem.W.tabIn K x = some (c, P) → Tab P (lamQ x) H := fun x hx c P e => by rw [h x hx] at e; cases e
theorem no_tbl {H : Hp} (hO : Only H) : NoT H := fun b ps e => by
  rcases hO b with z | ⟨o, xs, z⟩ <;> rw [z] at e <;> cases e
end L2.L3
namespace L2.L3
open PySem
theorem atI_getD {α : Type} {xs : List α} {p : Int} (h0 : 0 ≤ p) (h1 : p < xs.length) (dflt : α) : atI xs p = some (xs.getD p.toNat dflt) := by
  have e : ((p.toNat : Nat) : Int) = p := by omega
  have lt : p.toNat < xs.length := by omega
  have q := atI_nn (xs := xs) p.toNat
  rw [e] at q
  rw [q]
  simp [List.getD, List.getElem?_eq_getElem lt]
theorem getD_map {α β : Type} (f : α → β) (xs : List α) (i : Nat) (d : α) : (xs.map f).getD i (f d) = f (xs.getD i d) := by
  simp only [List.getD, List.getElem?_map]
  cases xs[i]? <;> rfl
theorem atI_map {α β : Type} (f : α → β) {xs : List α} {p : Int} (h0 : 0 ≤ p) (h1 : p < xs.length) (dflt : α) : atI (xs.map f) p = some (f (xs.getD p.toNat dflt)) := by
  rw [atI_getD h0 (by rw [List.length_map]; exact h1) (f dflt), getD_map]
noncomputable def cellOf (ns : List Int) (k : Int) : Int :=
  if k < ns.length then ns.getD k.toNat 0 else if ns = [] then 0 else ns.getD (k % (ns.length : Int)).toNat 0 * 31 + k
noncomputable def drawnOf (ns : List Int) (k : Int) : Int := (cellOf ns k + 6151 * (k + 1)) * 40692 % 2147483399
noncomputable def pickOf (ns : List Int) (k many : Int) : Int := (drawnOf ns k * drawnOf ns k + drawnOf ns k / 31) % 2147483629 % many
theorem pick_lo (ns : List Int) (k : Int) {many : Int} (h : 0 < many) : 0 ≤ pickOf ns k many := Int.emod_nonneg _ (by omega)
theorem pick_hi (ns : List Int) (k : Int) {many : Int} (h : 0 < many) : pickOf ns k many < many := Int.emod_lt_of_pos _ h
noncomputable def nameTab : List Str := ["a", "b", "cc", "d", "e", "fx", "g", "h", "i", "jjjj"]
noncomputable def spanOf (ns : List Int) (at' : Int) : Int := ([12, 30, 30, 200] : List Int).getD (pickOf ns at' 4).toNat 0
theorem span_is (ns : List Int) (at' : Int) : spanOf ns at' = 12 ∨ spanOf ns at' = 30 ∨ spanOf ns at' = 200 := by
  have h0 := pick_lo ns at' (many := 4) (by decide)
  have h1 := pick_hi ns at' (many := 4) (by decide)
  unfold spanOf
  generalize pickOf ns at' 4 = p at h0 h1
  have : p = 0 ∨ p = 1 ∨ p = 2 ∨ p = 3 := by omega
  rcases this with rfl | rfl | rfl | rfl <;> simp
noncomputable def sizeTop (ns : List Int) (at' : Int) (k : Nat) : Int := ([3, 8, spanOf ns at'] : List Int).getD (pickOf ns (at' + 12 + 3 * (k : Int)) 3).toNat 0
theorem sizeTop_is (ns : List Int) (at' : Int) (k : Nat) : 0 < sizeTop ns at' k ∧ sizeTop ns at' k ≤ 200 := by
  have h0 := pick_lo ns (at' + 12 + 3 * (k : Int)) (many := 3) (by decide)
  have h1 := pick_hi ns (at' + 12 + 3 * (k : Int)) (many := 3) (by decide)
  have hs := span_is ns at'
  unfold sizeTop
  generalize pickOf ns (at' + 12 + 3 * (k : Int)) 3 = p at h0 h1
  have : p = 0 ∨ p = 1 ∨ p = 2 := by omega
  rcases this with rfl | rfl | rfl <;> simp <;> omega
noncomputable def beginOf (ns : List Int) (at' : Int) (k : Nat) : Int := pickOf ns (at' + 10 + 3 * (k : Int)) (spanOf ns at')
noncomputable def sizeOf' (ns : List Int) (at' : Int) (k : Nat) : Int := 1 + pickOf ns (at' + 11 + 3 * (k : Int)) (sizeTop ns at' k)
noncomputable def mkMt (ns : List Int) (at' : Int) (k : Nat) : Mt := (nameTab.getD k "", beginOf ns at' k, beginOf ns at' k + sizeOf' ns at' k)
noncomputable def manyOf (ns : List Int) (at' most : Int) : Nat := (pickOf ns (at' + 1) (most + 1)).toNat
noncomputable def sheetOf (ns : List Int) (at' most : Int) : List Mt := (List.range (manyOf ns at' most)).map (mkMt ns at')
theorem many_le {ns : List Int} {at' most : Int} (h : 0 ≤ most) : ((manyOf ns at' most : Nat) : Int) ≤ most := by
  have h0 := pick_lo ns (at' + 1) (many := most + 1) (by omega)
  have h1 := pick_hi ns (at' + 1) (many := most + 1) (by omega)
  unfold manyOf
  omega
theorem sheet_len (ns : List Int) (at' most : Int) : (sheetOf ns at' most).length = manyOf ns at' most := by simp [sheetOf]
theorem begin_is (ns : List Int) (at' : Int) (k : Nat) : 0 ≤ beginOf ns at' k ∧ beginOf ns at' k < 200 := by
  have hs := span_is ns at'
  have h0 := pick_lo ns (at' + 10 + 3 * (k : Int)) (many := spanOf ns at') (by omega)
  have h1 := pick_hi ns (at' + 10 + 3 * (k : Int)) (many := spanOf ns at') (by omega)
  unfold beginOf
  omega
theorem size_is (ns : List Int) (at' : Int) (k : Nat) : 1 ≤ sizeOf' ns at' k ∧ sizeOf' ns at' k ≤ 200 := by
  have hs := sizeTop_is ns at' k
  have h0 := pick_lo ns (at' + 11 + 3 * (k : Int)) (many := sizeTop ns at' k) hs.1
  have h1 := pick_hi ns (at' + 11 + 3 * (k : Int)) (many := sizeTop ns at' k) hs.1
  unfold sizeOf'
  omega
theorem nameTab_nodup : nameTab.Nodup := by decide +kernel
theorem nameTab_ok : ∀ x ∈ nameTab, PyData.strOk x = true := by decide +kernel
structure SheetOk (s : List Mt) : Prop where
  few : s.length ≤ 10
  names : s.map (·.1) = nameTab.take s.length
  times : ∀ m ∈ s, 0 ≤ m.2.1 ∧ m.2.1 < m.2.2 ∧ m.2.2 < 400
theorem sheet_ok (ns : List Int) (at' : Int) {most : Int} (h0 : 0 ≤ most) (h1 : most ≤ 10) : SheetOk (sheetOf ns at' most) := by
  have hm := many_le (ns := ns) (at' := at') h0
  refine ⟨by rw [sheet_len]; omega, ?_, fun m hm' => ?_⟩
  · rw [sheet_len]
    have hl : manyOf ns at' most ≤ nameTab.length := by show _ ≤ 10; omega
    unfold sheetOf
    rw [List.map_map]
    apply List.ext_getElem?
    intro i
    rw [List.getElem?_map]
    by_cases hi : i < manyOf ns at' most
    · rw [List.getElem?_range hi, List.getElem?_take_of_lt hi]
      have hi' : i < nameTab.length := by omega
      simp [mkMt, List.getD, List.getElem?_eq_getElem hi']
    · rw [List.getElem?_eq_none (by simpa using hi), List.getElem?_eq_none (by simp; omega)]
      rfl
  · unfold sheetOf at hm'
    obtain ⟨k, _, rfl⟩ := List.mem_map.mp hm'
    have hb := begin_is ns at' k
    have hs := size_is ns at' k
    simp only [mkMt]
    omega
theorem SheetOk.name_ok {s : List Mt} (S : SheetOk s) : ∀ m ∈ s, PyData.strOk m.1 = true := fun m hm => by
  have : m.1 ∈ s.map (·.1) := List.mem_map.mpr ⟨m, hm, rfl⟩
  rw [S.names] at this
  exact nameTab_ok _ (List.mem_of_mem_take this)
theorem SheetOk.nodup {s : List Mt} (S : SheetOk s) : (s.map (·.1)).Nodup := by
  rw [S.names]
  exact nameTab_nodup.sublist (List.take_sublist _ _)
noncomputable abbrev dN (ns : List Int) : PyData := .list (ns.map .int)
theorem sh_list {ds : List PyData} {n : Nat} (h1 : ∀ d ∈ ds, PyData.canLay0 d = true) (h2 : ∀ d ∈ ds, PyData.depth d ≤ n) (h3 : n < 64) : SeqAt.shaped (.list ds) = true := by
  refine shaped_of (n := n + 1) ?_ ?_ h3
  · rw [PyData.canLay0]; exact canLayAll_of h1
  · rw [PyData.depth]; have := depthAll_of h2; omega
theorem sh_tuple {ds : List PyData} {n : Nat} (h1 : ∀ d ∈ ds, PyData.canLay0 d = true) (h2 : ∀ d ∈ ds, PyData.depth d ≤ n) (h3 : n < 64) : SeqAt.shaped (.tuple ds) = true := by
  refine shaped_of (n := n + 1) ?_ ?_ h3
  · rw [PyData.canLay0]; exact canLayAll_of h1
  · rw [PyData.depth]; have := depthAll_of h2; omega
theorem sh_ints (ns : List Int) : SeqAt.shaped (.list (ns.map .int)) = true := sh_list (n := 1) (fun d hd => by obtain ⟨i, _, rfl⟩ := List.mem_map.mp hd; simp [PyData.canLay0]) (fun d hd => by obtain ⟨i, _, rfl⟩ := List.mem_map.mp hd; simp [PyData.depth]) (by decide)
theorem eq_lists {a b : List PyData} (h1 : SeqAt.shaped (.list a) = true) (h2 : SeqAt.shaped (.list b) = true) : eqD (.list a) (.list b) = some (PyData.eqvAll a b) := by
  show (if (SeqAt.shaped (.list a) && SeqAt.shaped (.list b)) = true then some (PyData.eqv (.list a) (.list b)) else none) = _
  rw [h1, h2, if_pos (by rfl), eqv_list]
theorem ne_tuples {a b : List PyData} (h1 : SeqAt.shaped (.tuple a) = true) (h2 : SeqAt.shaped (.tuple b) = true) : neD (.tuple a) (.tuple b) = some (!PyData.eqvAll a b) := by
  show (if (SeqAt.shaped (.tuple a) && SeqAt.shaped (.tuple b)) = true then some (!PyData.eqv (.tuple a) (.tuple b)) else none) = _
  rw [h1, h2, if_pos (by rfl), eqv_tuple]
theorem sh_nil : SeqAt.shaped (.list []) = true := by decide +kernel
theorem eqv_nil (ds : List PyData) : PyData.eqvAll ds [] = ds.isEmpty := by cases ds <;> simp [PyData.eqvAll]
theorem eq_nil {ds : List PyData} (h : SeqAt.shaped (.list ds) = true) : eqD (.list ds) (.list []) = some ds.isEmpty := by rw [eq_lists h sh_nil, eqv_nil]
noncomputable abbrev t1_l_cell : TF := cmpT ltD (var 1) (bltE lenD (aCons (var 0) aNil))
noncomputable abbrev t2_l_cell : TF := cmpT eqD (var 0) (lstE aNil)
noncomputable def f_l_cell : SF := (seqS (ifS t1_l_cell (retS (op2 ixD (var 0) (var 1))) nilS) (seqS (ifS t2_l_cell (retS (cst (.int 0))) nilS) (retS (op2 addD (op2 mulD (op2 ixD (var 0) (op2 modD (var 1) (bltE lenD (aCons (var 0) aNil)))) (cst (.int 31))) (var 1)))))
noncomputable def F_l_cell : List PyData → Mm PyData := runD 2 2 f_l_cell
noncomputable def f_l_pick : SF := (seqS (setS 3 (op2 modD (op2 mulD (op2 addD (callE F_l_cell (aCons (var 0) (aCons (var 1) aNil))) (op2 mulD (cst (.int 6151)) (op2 addD (var 1) (cst (.int 1))))) (cst (.int 40692))) (cst (.int 2147483399)))) (retS (op2 modD (op2 modD (op2 addD (op2 mulD (var 3) (var 3)) (op2 fdvD (var 3) (cst (.int 31)))) (cst (.int 2147483629))) (var 2))))
noncomputable def F_l_pick : List PyData → Mm PyData := runD 4 3 f_l_pick
noncomputable abbrev b1_l_sheet : SF := seqS (setS 7 (callE F_l_pick (aCons (var 0) (aCons (op2 addD (op2 addD (var 1) (cst (.int 10))) (op2 mulD (cst (.int 3)) (var 6))) (aCons (var 3) aNil))))) (seqS (setS 8 (op2 addD (cst (.int 1)) (callE F_l_pick (aCons (var 0) (aCons (op2 addD (op2 addD (var 1) (cst (.int 11))) (op2 mulD (cst (.int 3)) (var 6))) (aCons (op2 ixD (lstE (aCons (cst (.int 3)) (aCons (cst (.int 8)) (aCons (var 3) aNil)))) (callE F_l_pick (aCons (var 0) (aCons (op2 addD (op2 addD (var 1) (cst (.int 12))) (op2 mulD (cst (.int 3)) (var 6))) (aCons (cst (.int 3)) aNil))))) aNil)))))) (appS 5 (tupE (aCons (op2 ixD (var 4) (var 6)) (aCons (var 7) (aCons (op2 addD (var 7) (var 8)) aNil))))))
noncomputable def f_l_sheet : SF := (seqS (setS 3 (op2 ixD (lstE (aCons (cst (.int 12)) (aCons (cst (.int 30)) (aCons (cst (.int 30)) (aCons (cst (.int 200)) aNil))))) (callE F_l_pick (aCons (var 0) (aCons (var 1) (aCons (cst (.int 4)) aNil)))))) (seqS (setS 4 (lstE (aCons (cst (.str "a")) (aCons (cst (.str "b")) (aCons (cst (.str "cc")) (aCons (cst (.str "d")) (aCons (cst (.str "e")) (aCons (cst (.str "fx")) (aCons (cst (.str "g")) (aCons (cst (.str "h")) (aCons (cst (.str "i")) (aCons (cst (.str "jjjj")) aNil)))))))))))) (seqS (newS 5 aNil) (seqS (forS (.nm 6) (rng1 (callE F_l_pick (aCons (var 0) (aCons (op2 addD (var 1) (cst (.int 1))) (aCons (op2 addD (var 2) (cst (.int 1))) aNil))))) b1_l_sheet) (frzS 5 (retS (bltE tupD (aCons (var 5) aNil))))))))
noncomputable def F_l_sheet : List PyData → Mm PyData := runD 9 3 f_l_sheet
theorem runD_ok {m n : Nat} {f : SF} {ds : List PyData} {d : PyData} (hl : ds.length = n) (h : f (startN m ds) = some (.rt d)) : runD m n f ds = some (.ok d) := by
  unfold runD; rw [if_pos hl, h]
theorem ix_ints {ns : List Int} {p : Int} (h0 : 0 ≤ p) (h1 : p < ns.length) : ixD (.list (ns.map .int)) (.int p) = some (.int (ns.getD p.toNat 0)) := by
  show atI (ns.map PyData.int) p = _
  rw [atI_map PyData.int h0 h1 0]
theorem e_cell (ns : List Int) (k : Int) (h0 : 0 ≤ k) : F_l_cell [dN ns, .int k] = some (.ok (.int (cellOf ns k))) := by
  refine runD_ok rfl ?_
  show f_l_cell [.val (dN ns), .val (.int k)] = _
  unfold f_l_cell cellOf
  by_cases h1 : k < ns.length
  · rw [seqS_rt (d := .int (ns.getD k.toNat 0)), if_pos h1]
    simp [h1]
    rw [atI_map PyData.int h0 h1 0]
    simp
  · rw [seqS_nx (ρ' := [.val (dN ns), .val (.int k)]) (by simp [h1]), if_neg h1]
    by_cases h2 : ns = []
    · subst h2
      rw [seqS_rt (d := .int 0), if_pos rfl]
      have h : eqD (dN []) (.list []) = some true := eq_nil sh_nil
      simp [h]
    · have he : (ns.map PyData.int).isEmpty = false := by cases ns with
        | nil => exact absurd rfl h2
        | cons a r => rfl
      have h : eqD (dN ns) (.list []) = some false := by rw [eq_nil (sh_ints ns), he]
      rw [seqS_nx (ρ' := [.val (dN ns), .val (.int k)]) (by simp [h]), if_neg h2]
      have lp : (0 : Int) < (ns.length : Nat) := by cases ns with
        | nil => exact absurd rfl h2
        | cons a r => simp <;> omega
      have a1 := Int.emod_nonneg k (b := (ns.length : Int)) (by omega)
      have a2 := Int.emod_lt_of_pos k lp
      have lp' : 0 < ns.length := by omega
      have ix : ixD (dN ns) (.int (k % (ns.length : Int))) = some (.int (ns.getD (k % (ns.length : Int)).toNat 0)) := ix_ints a1 a2
      have ml : mulD (.int (ns.getD (k % (ns.length : Int)).toNat 0)) (.int 31) = some (.int (ns.getD (k % (ns.length : Int)).toNat 0 * 31)) := mul_iiR (by decide) (by decide)
      simp only [retS_e, op2_e, var_s, var_0, bnd_r, bltE_e, aCons_e, aNil_e, len_l, lft_s, mod_ii, List.length_map, if_pos lp, ix, cst_e, ml, add_ii, bns_r]
theorem drawn_lo (ns : List Int) (k : Int) : 0 ≤ drawnOf ns k ∧ drawnOf ns k < 2147483399 := ⟨Int.emod_nonneg _ (by decide), Int.emod_lt_of_pos _ (by decide)⟩
theorem e_pick (ns : List Int) (k many : Int) (h0 : 0 ≤ k) (hm : 0 < many) : F_l_pick [dN ns, .int k, .int many] = some (.ok (.int (pickOf ns k many))) := by
  refine runD_ok rfl ?_
  show f_l_pick [.val (dN ns), .val (.int k), .val (.int many), .no] = _
  have db := drawn_lo ns k
  unfold f_l_pick
  rw [seqS_nx (ρ' := [.val (dN ns), .val (.int k), .val (.int many), .val (.int (drawnOf ns k))])]
  · have hsq : mulD (.int (drawnOf ns k)) (.int (drawnOf ns k)) = some (.int (drawnOf ns k * drawnOf ns k)) := mul_iiR (by omega) (by omega)
    simp [hsq, hm, pickOf]
  · have h2 : mulD (.int 6151) (.int (k + 1)) = some (.int (6151 * (k + 1))) := mul_iiL (by decide) (by decide)
    have h3 : mulD (.int (cellOf ns k + 6151 * (k + 1))) (.int 40692) = some (.int ((cellOf ns k + 6151 * (k + 1)) * 40692)) := mul_iiR (by decide) (by decide)
    simp [e_cell ns k h0, h2, h3, drawnOf]
theorem rangeD_map (n : Nat) : rangeD 0 n = (List.range n).map fun (k : Nat) => PyData.int (k : Int) := by simp [rangeD]
theorem e_sheet (ns : List Int) (at' most : Int) (h0 : 0 ≤ at') (hm : 0 ≤ most) (hm2 : most ≤ 10) : F_l_sheet [dN ns, .int at', .int most] = some (.ok (dS (sheetOf ns at' most))) := by
  refine runD_ok rfl ?_
  show f_l_sheet [.val (dN ns), .val (.int at'), .val (.int most), .no, .no, .no, .no, .no, .no] = _
  have sp := span_is ns at'
  have ml := many_le (ns := ns) (at' := at') hm
  have p0 := pick_lo ns (at' + 1) (many := most + 1) (by omega)
  have p1 := pick_hi ns (at' + 1) (many := most + 1) (by omega)
  unfold f_l_sheet
  rw [seqS_nx (ρ' := [.val (dN ns), .val (.int at'), .val (.int most), .val (.int (spanOf ns at')), .no, .no, .no, .no, .no])]
  rotate_left
  · have h := ix_ints (ns := [12, 30, 30, 200]) (pick_lo ns at' (many := 4) (by decide)) (pick_hi ns at' (by decide))
    have h' : atI [PyData.int 12, .int 30, .int 30, .int 200] (pickOf ns at' 4) = some (.int (spanOf ns at')) := h
    simp [e_pick ns at' 4 h0 (by decide), h']
  rw [seqS_nx (ρ' := [.val (dN ns), .val (.int at'), .val (.int most), .val (.int (spanOf ns at')), .val (.list (nameTab.map .str)), .no, .no, .no, .no])]
  rotate_left
  · simp [nameTab]
  rw [seqS_nx (ρ' := [.val (dN ns), .val (.int at'), .val (.int most), .val (.int (spanOf ns at')), .val (.list (nameTab.map .str)), .lst [], .no, .no, .no])]
  rotate_left
  · simp
  -- the turns
  have hr : rng1 (callE F_l_pick (aCons (var 0) (aCons (op2 addD (var 1) (cst (.int 1))) (aCons (op2 addD (var 2) (cst (.int 1))) aNil)))) [.val (dN ns), .val (.int at'), .val (.int most), .val (.int (spanOf ns at')), .val (.list (nameTab.map .str)), .lst [], .no, .no, .no] = some (.ok ((List.range (manyOf ns at' most)).map fun (k : Nat) => PyData.int (k : Int))) := by
    rw [rng1_at (n := pickOf ns (at' + 1) (most + 1)) (by simp [e_pick ns (at' + 1) (most + 1) (by omega) (by omega)]) (by omega) (by omega), rangeD_map]
    rfl
  have turns := loopS_inv (t := .nm 6) (fun (k : Nat) => PyData.int (k : Int)) (fun m ρ => m ≤ 10 → ∃ x y z, ρ = [.val (dN ns), .val (.int at'), .val (.int most), .val (.int (spanOf ns at')), .val (.list (nameTab.map .str)), .lst ((List.range m).map fun k => dM (mkMt ns at' k)), x, y, z])
    (fb := (seqS (setS 7 (callE F_l_pick (aCons (var 0) (aCons (op2 addD (op2 addD (var 1) (cst (.int 10))) (op2 mulD (cst (.int 3)) (var 6))) (aCons (var 3) aNil))))) (seqS (setS 8 (op2 addD (cst (.int 1)) (callE F_l_pick (aCons (var 0) (aCons (op2 addD (op2 addD (var 1) (cst (.int 11))) (op2 mulD (cst (.int 3)) (var 6))) (aCons (op2 ixD (lstE (aCons (cst (.int 3)) (aCons (cst (.int 8)) (aCons (var 3) aNil)))) (callE F_l_pick (aCons (var 0) (aCons (op2 addD (op2 addD (var 1) (cst (.int 12))) (op2 mulD (cst (.int 3)) (var 6))) (aCons (cst (.int 3)) aNil))))) aNil)))))) (appS 5 (tupE (aCons (op2 ixD (var 4) (var 6)) (aCons (var 7) (aCons (op2 addD (var 7) (var 8)) aNil))))))))
    (List.range (manyOf ns at' most)) 0 [.val (dN ns), .val (.int at'), .val (.int most), .val (.int (spanOf ns at')), .val (.list (nameTab.map .str)), .lst [], .no, .no, .no] (fun _ => ⟨.no, .no, .no, rfl⟩) (by
    intro m k ρ hk hp
    have hk' : m < manyOf ns at' most ∧ k = m := by
      obtain ⟨h1, h2⟩ := List.getElem?_eq_some_iff.mp hk
      rw [List.length_range] at h1
      rw [List.getElem_range] at h2
      exact ⟨h1, h2.symm⟩
    obtain ⟨hk1, rfl⟩ := hk'
    obtain ⟨x, y, z, rfl⟩ := hp (by omega)
    rw [Nat.zero_add]
    have st := sizeTop_is ns at' k
    have e1 := e_pick ns (at' + 10 + 3 * (k : Int)) (spanOf ns at') (by omega) (by omega)
    have e2 := e_pick ns (at' + 12 + 3 * (k : Int)) 3 (by omega) (by decide)
    have e3 := e_pick ns (at' + 11 + 3 * (k : Int)) (sizeTop ns at' k) (by omega) st.1
    have h := ix_ints (ns := [3, 8, spanOf ns at']) (pick_lo ns (at' + 12 + 3 * (k : Int)) (many := 3) (by decide)) (show pickOf ns _ 3 < (3 : Int) from pick_hi ns _ (by decide))
    have h' : atI [PyData.int 3, .int 8, .int (spanOf ns at')] (pickOf ns (at' + 12 + 3 * (k : Int)) 3) = some (.int (sizeTop ns at' k)) := h
    have m3 : mulD (.int 3) (.int (k : Int)) = some (.int (3 * (k : Int))) := mul_iiL (by decide) (by decide)
    have nm : atI (nameTab.map PyData.str) (k : Int) = some (.str (nameTab.getD k "")) := by
      have := atI_map PyData.str (xs := nameTab) (p := (k : Int)) (by omega) (by show _ < (10 : Int); omega) ""
      simpa using this
    have nm' : ixD (.list (nameTab.map PyData.str)) (.int (k : Int)) = some (.str (nameTab.getD k "")) := nm
    refine ⟨_, [.val (dN ns), .val (.int at'), .val (.int most), .val (.int (spanOf ns at')), .val (.list (nameTab.map .str)), .lst ((List.range k).map (fun k => dM (mkMt ns at' k)) ++ [dM (mkMt ns at' k)]), .val (.int k), .val (.int (beginOf ns at' k)), .val (.int (sizeOf' ns at' k))], rfl, .inl ?_, fun _ => ⟨.val (.int k), .val (.int (beginOf ns at' k)), .val (.int (sizeOf' ns at' k)), by rw [List.range_succ, List.map_append]; rfl⟩⟩
    simp only [List.set]
    rw [seqS_nx (ρ' := [.val (dN ns), .val (.int at'), .val (.int most), .val (.int (spanOf ns at')), .val (.list (nameTab.map .str)), .lst ((List.range k).map fun k => dM (mkMt ns at' k)), .val (.int k), .val (.int (beginOf ns at' k)), z]) (by simp [m3, e1, beginOf])]
    rw [seqS_nx (ρ' := [.val (dN ns), .val (.int at'), .val (.int most), .val (.int (spanOf ns at')), .val (.list (nameTab.map .str)), .lst ((List.range k).map fun k => dM (mkMt ns at' k)), .val (.int k), .val (.int (beginOf ns at' k)), .val (.int (sizeOf' ns at' k))]) (by simp [m3, e2, h', e3, sizeOf'])]
    refine appS_at (ds := (List.range k).map fun k => dM (mkMt ns at' k)) rfl (d := dM (mkMt ns at' k)) ?_ (by simp; omega)
    simp only [tupE_e, aCons_e, op2_e, var_s, var_0, bnd_r, nm', lft_s, add_ii, aNil_e, mkTup_e]
    rfl)
  obtain ⟨ρ', e, hp⟩ := turns
  rw [List.length_range, Nat.zero_add] at hp
  obtain ⟨x', y', z', rfl⟩ := hp (by omega)
  rw [seqS_nx (ρ' := [.val (dN ns), .val (.int at'), .val (.int most), .val (.int (spanOf ns at')), .val (.list (nameTab.map .str)), .lst ((List.range (manyOf ns at' most)).map fun k => dM (mkMt ns at' k)), x', y', z'])]
  rotate_left
  · rw [forS_e, bns_ok hr]
    exact e
  show retS (bltE tupD (aCons (var 5) aNil)) [.val (dN ns), .val (.int at'), .val (.int most), .val (.int (spanOf ns at')), .val (.list (nameTab.map .str)), .val (.list ((List.range (manyOf ns at' most)).map fun k => dM (mkMt ns at' k))), x', y', z'] = _
  simp [sheetOf, List.map_map, Function.comp_def]
end L2.L3
namespace L2.L3
open PySem
noncomputable abbrev k1_names_of : EF := compE (.nm 0) [none] (seqI (var 0)) ttT (op2 ixD (var 0) (cst (.int 0)))
noncomputable def f_names_of : SF := (retS k1_names_of)
noncomputable def F_names_of : List PyData → Mm PyData := runD 1 1 f_names_of
noncomputable abbrev t1_is_name : TF := orT (notT (truT (op1 (isD "str") (var 0)))) (notT (chnT leD leD (cst (.int 1)) (bltE lenD (aCons (var 0) aNil)) (cst (.int 4))))
noncomputable abbrev k1_is_name : EF := compE (.nm 0) [none] (ltrI (var 0)) ttT (chnE leD leD (cst (.str "a")) (var 0) (cst (.str "z")))
noncomputable def f_is_name : SF := (seqS (ifS t1_is_name (retS (cst (.bool false))) nilS) (retS (bltE allB (aCons k1_is_name aNil))))
noncomputable def F_is_name : List PyData → Mm PyData := runD 1 1 f_is_name
noncomputable def f_is_whole : SF := (retS (andE (op1 (isD "int") (var 0)) (notE (op1 (isD "bool") (var 0)))))
noncomputable def F_is_whole : List PyData → Mm PyData := runD 1 1 f_is_whole
noncomputable def f_are_times : SF := (retS (andE (callE F_is_whole (aCons (var 0) aNil)) (andE (callE F_is_whole (aCons (var 1) aNil)) (chn3E leD ltD leD (cst (.int 0)) (var 0) (var 1) (cst (.int 480))))))
noncomputable def F_are_times : List PyData → Mm PyData := runD 2 2 f_are_times
noncomputable abbrev t1_is_meeting : TF := orT (notT (truT (op1 (isD "tuple") (var 0)))) (cmpT neD (bltE lenD (aCons (var 0) aNil)) (cst (.int 3)))
noncomputable def f_is_meeting : SF := (seqS (ifS t1_is_meeting (retS (cst (.bool false))) nilS) (retS (andE (callE F_is_name (aCons (op2 ixD (var 0) (cst (.int 0))) aNil)) (callE F_are_times (aCons (op2 ixD (var 0) (cst (.int 1))) (aCons (op2 ixD (var 0) (cst (.int 2))) aNil))))))
noncomputable def F_is_meeting : List PyData → Mm PyData := runD 1 1 f_is_meeting
noncomputable abbrev t1_is_sheet : TF := orT (notT (truT (op1 (isD "tuple") (var 0)))) (cmpT gtD (bltE lenD (aCons (var 0) aNil)) (cst (.int 16)))
noncomputable abbrev k1_is_sheet : EF := compE (.nm 0) [none] (seqI (var 0)) ttT (callE F_is_meeting (aCons (var 0) aNil))
noncomputable abbrev t2_is_sheet : TF := notT (truT (bltE allB (aCons k1_is_sheet aNil)))
noncomputable def f_is_rising : SF := (retS (cmpE eqD (var 0) (op1 ssetD (var 0))))
noncomputable def F_is_rising : List PyData → Mm PyData := runD 1 1 f_is_rising
noncomputable def f_is_sheet : SF := (seqS (ifS t1_is_sheet (retS (cst (.bool false))) nilS) (seqS (ifS t2_is_sheet (retS (cst (.bool false))) nilS) (retS (callE F_is_rising (aCons (callE F_names_of (aCons (var 0) aNil)) aNil)))))
noncomputable def F_is_sheet : List PyData → Mm PyData := runD 1 1 f_is_sheet
@[simp] theorem isE_e (neg : Bool) (k : PyData) (fa : EF) (ρ : List Ent) : isE neg k fa ρ = bnd (fa ρ) fun x => lft ((isB k x).map fun t => .bool (neg != t)) := rfl
@[simp] theorem isT_e (neg : Bool) (k : PyData) (fa : EF) (ρ : List Ent) : isT neg k fa ρ = bnd (fa ρ) fun x => lft ((isB k x).map fun t => neg != t) := rfl
@[simp] theorem isB_tt : isB (.bool true) (.bool true) = some true := rfl
@[simp] theorem isB_ff : isB (.bool false) (.bool false) = some true := rfl
@[simp] theorem isD_tt (ds : List PyData) : isD "tuple" (.tuple ds) = some (.bool true) := rfl
@[simp] theorem isD_ii (i : Int) : isD "int" (.int i) = some (.bool true) := rfl
@[simp] theorem isD_bi (i : Int) : isD "bool" (.int i) = some (.bool false) := rfl
@[simp] theorem isD_ss (i : Str) : isD "str" (.str i) = some (.bool true) := rfl
@[simp] theorem chn3E_e (g1 g2 g3 : PyData → PyData → Option Bool) (fa fb fc fd : EF) (ρ : List Ent) : chn3E g1 g2 g3 fa fb fc fd ρ = bnd (fa ρ) fun x => bnd (fb ρ) fun y => bnd (lft (g1 x y)) fun t => if t then bnd (fc ρ) fun z => bnd (lft (g2 y z)) fun u => if u then bnd (fd ρ) fun w => lft ((g3 z w).map .bool) else some (.ok (.bool false)) else some (.ok (.bool false)) := rfl
theorem all_bools (bs : List Bool) : allB [.list (bs.map .bool)] = some (.bool (bs.all id)) := by
  show (allD boolD (bs.map .bool)).map _ = _
  rw [allD_map (g := .bool) (fun _ => rfl) bs]; rfl
theorem e_times {b e : Int} (h : 0 ≤ b ∧ b < e ∧ e ≤ 480) : F_are_times [.int b, .int e] = some (.ok (.bool true)) := by
  have w : ∀ i : Int, F_is_whole [.int i] = some (.ok (.bool true)) := fun i => by kernel_rfl
  refine runD_ok rfl ?_
  show f_are_times [.val (.int b), .val (.int e)] = _
  simp [f_are_times, w, h.1, h.2.1, h.2.2]
structure MtOk (m : Mt) : Prop where
  name : F_is_name [.str m.1] = some (.ok (.bool true))
  ok : PyData.strOk m.1 = true
  times : 0 ≤ m.2.1 ∧ m.2.1 < m.2.2 ∧ m.2.2 ≤ 480
theorem e_meeting {m : Mt} (h : MtOk m) : F_is_meeting [dM m] = some (.ok (.bool true)) := by
  refine runD_ok rfl ?_
  show f_is_meeting [.val (dM m)] = _
  unfold f_is_meeting
  rw [seqS_nx (ρ' := [.val (dM m)]) (by simp)]
  simp [h.name, e_times h.times]
theorem e_names (s : List Mt) (hz : s.length ≤ 100000) : F_names_of [dS s] = some (.ok (.list ((s.map (·.1)).map .str))) := by
  refine runD_ok rfl ?_
  show f_names_of [.val (dS s)] = _
  have k1 : k1_names_of [.val (dS s)] = some (.ok (.list (s.map fun m => .str m.1))) := compE_all dM (fun m => [.val (dM m)]) (fun m => .str m.1) s (by simp) hz (fun m _ => by simp [capE]) (fun m _ => by simp)
  unfold f_names_of
  rw [retS_e, k1, List.map_map]
  rfl
theorem allI_strs (ns : List Str) (h : ns ≠ []) : allD intD (ns.map .str) = none := by
  cases ns with
  | nil => exact absurd rfl h
  | cons a r => rfl
theorem sset_strs (ns : List Str) (h : ns.length < 64) : ssetD (.list (ns.map .str)) = some (.list ((sortS (dedupS ns)).map .str)) := by
  by_cases e : ns = []
  · subst e; simp [ssetD, allD, dedupI, dedupS, sortI, sortS]
  · simp only [ssetD, allI_strs ns e, strsD_map, if_pos h]
theorem dedup_go : ∀ (ns acc : List Str), (∀ x ∈ ns, x ∉ acc) → ns.Nodup → ns.foldl (fun a n => if n ∈ a then a else a ++ [n]) acc = acc ++ ns
  | [], acc, _, _ => by simp
  | n :: ns, acc, h, hn => by
    have h' := List.nodup_cons.mp hn
    rw [List.foldl_cons, if_neg (h n (by simp)), dedup_go ns (acc ++ [n]) (fun x hx => ?_) h'.2, List.append_assoc]
    · rfl
    · simp only [List.mem_append, List.mem_singleton, not_or]
      exact ⟨h x (by simp [hx]), fun z => h'.1 (z ▸ hx)⟩
theorem dedup_same {ns : List Str} (h : ns.Nodup) : dedupS ns = ns := by unfold dedupS; rw [dedup_go ns [] (by simp) h]; rfl
theorem dedup_inv : ∀ (ns acc : List Str), acc.Nodup → (ns.foldl (fun a n => if n ∈ a then a else a ++ [n]) acc).Nodup ∧ ∀ x ∈ ns.foldl (fun a n => if n ∈ a then a else a ++ [n]) acc, x ∈ acc ∨ x ∈ ns
  | [], acc, h => ⟨h, fun x hx => .inl hx⟩
  | n :: ns, acc, h => by
    rw [List.foldl_cons]
    split
    · obtain ⟨a, b⟩ := dedup_inv ns acc h
      exact ⟨a, fun x hx => (b x hx).imp id fun z => List.mem_cons_of_mem _ z⟩
    · rename_i hn
      obtain ⟨a, b⟩ := dedup_inv ns (acc ++ [n]) (by
        rw [List.nodup_append]
        exact ⟨h, by simp, fun x hx y hy => by rw [List.mem_singleton] at hy; subst hy; exact fun z => hn (z ▸ hx)⟩)
      refine ⟨a, fun x hx => ?_⟩
      rcases b x hx with z | z
      · rcases List.mem_append.mp z with z | z
        · exact .inl z
        · exact .inr (by rw [List.mem_singleton] at z; rw [z]; simp)
      · exact .inr (List.mem_cons_of_mem _ z)
theorem dedup_mem {ns : List Str} {x : Str} (h : x ∈ dedupS ns) : x ∈ ns := ((dedup_inv ns [] .nil).2 x h).elim (fun z => by cases z) id
theorem sh_strs {ns : List Str} (h : ∀ x ∈ ns, PyData.strOk x = true) : SeqAt.shaped (.list (ns.map .str)) = true := sh_list (n := 1) (fun d hd => by obtain ⟨i, hi, rfl⟩ := List.mem_map.mp hd; simpa [PyData.canLay0] using h i hi) (fun d hd => by obtain ⟨i, _, rfl⟩ := List.mem_map.mp hd; simp [PyData.depth]) (by decide)
theorem eq_strs {a b : List Str} (h1 : ∀ x ∈ a, PyData.strOk x = true) (h2 : ∀ x ∈ b, PyData.strOk x = true) : eqD (.list (a.map .str)) (.list (b.map .str)) = some (decide (a = b)) := by rw [eq_lists (sh_strs h1) (sh_strs h2), eqvAll_strs]
theorem e_is_sheet (s : List Mt) (hz : s.length ≤ 16) (h : ∀ m ∈ s, MtOk m) : F_is_sheet [dS s] = some (.ok (.bool (decide (s.map (·.1) = sortS (dedupS (s.map (·.1))))))) := by
  refine runD_ok rfl ?_
  show f_is_sheet [.val (dS s)] = _
  have hz' : ¬ (16 : Int) < (s.length : Nat) := by omega
  have k1 : k1_is_sheet [.val (dS s)] = some (.ok (.list ((s.map fun _ => true).map .bool))) := by
    rw [show (s.map fun _ => true).map PyData.bool = s.map fun _ => PyData.bool true by simp [Function.comp_def]]
    exact compE_all dM (fun m => [.val (dM m)]) (fun _ => .bool true) s (by simp) (by omega) (fun m _ => by simp [capE]) (fun m hm => by simp [e_meeting (h m hm)])
  have ha : (s.map fun _ => true).all id = true := by simp
  have t2 : t2_is_sheet [.val (dS s)] = some (.ok false) := by
    show notT (truT (bltE allB (aCons k1_is_sheet aNil))) _ = _
    rw [notT_e, truT_e, bltE_e, aCons_e, k1]
    simp only [bnd_r, aNil_e, lft_s, all_bools, ha, truD_b, Bool.not_true]
  have ok1 : ∀ x ∈ s.map (·.1), PyData.strOk x = true := fun x hx => by obtain ⟨m, hm, rfl⟩ := List.mem_map.mp hx; exact (h m hm).ok
  unfold f_is_sheet
  rw [seqS_nx (ρ' := [.val (dS s)]) (by simp [hz']), seqS_nx (ρ' := [.val (dS s)]) (by rw [ifS_e, t2]; simp)]
  have hss := sset_strs (s.map (·.1)) (by rw [List.length_map]; omega)
  have he := eq_strs (a := s.map (·.1)) (b := sortS (dedupS (s.map (·.1)))) ok1 (fun x hx => ok1 x (dedup_mem ((sortS_perm _).mem_iff.mp hx)))
  have er : F_is_rising [.list ((s.map (·.1)).map .str)] = some (.ok (.bool (decide (s.map (·.1) = sortS (dedupS (s.map (·.1))))))) := by
    refine runD_ok rfl ?_
    show f_is_rising [.val (.list ((s.map (·.1)).map .str))] = _
    unfold f_is_rising
    rw [retS_e, cmpE_e]
    simp only [var_s, var_0, bnd_r, op1_e, hss, lft_s, he, Option.map_some, bns_r]
  rw [retS_e, callE_e, aCons_e, callE_e, aCons_e]
  simp only [var_0, bnd_r, aNil_e, e_names s (by omega), er, bns_r]
theorem e_sheet_yes (s : List Mt) (hz : s.length ≤ 16) (h : ∀ m ∈ s, MtOk m) (hn : (s.map (·.1)).Nodup) (hp : (s.map (·.1)).Pairwise (fun a b => leStr a b = true)) : F_is_sheet [dS s] = some (.ok (.bool true)) := by
  rw [e_is_sheet s hz h, dedup_same hn, decide_eq_true (same_of_pw (sortS_perm _).symm hp (sortS_sorted _))]
theorem nameTab_is : ∀ x ∈ nameTab, F_is_name [.str x] = some (.ok (.bool true)) := by
  intro x hx
  simp only [nameTab, List.mem_cons, List.not_mem_nil, or_false] at hx
  rcases hx with rfl | rfl | rfl | rfl | rfl | rfl | rfl | rfl | rfl | rfl <;> kernel_rfl
theorem nameTab_pw : nameTab.Pairwise (fun a b => leStr a b = true) := by decide +kernel
theorem SheetOk.mt {s : List Mt} (S : SheetOk s) : ∀ m ∈ s, MtOk m := fun m hm => by
  have t := S.times m hm
  have q : m.1 ∈ s.map (·.1) := List.mem_map.mpr ⟨m, hm, rfl⟩
  rw [S.names] at q
  exact ⟨nameTab_is _ (List.mem_of_mem_take q), S.name_ok m hm, by omega⟩
theorem SheetOk.pw {s : List Mt} (S : SheetOk s) : (s.map (·.1)).Pairwise (fun a b => leStr a b = true) := by rw [S.names]; exact nameTab_pw.sublist (List.take_sublist _ _)
theorem SheetOk.yes {s : List Mt} (S : SheetOk s) : F_is_sheet [dS s] = some (.ok (.bool true)) := e_sheet_yes s (by have := S.few; omega) S.mt S.nodup S.pw
end L2.L3
namespace L2.L3
open PySem
@[simp] theorem at_4 (a b c d e : α) (r : List α) : atI (a :: b :: c :: d :: e :: r) 4 = some e := by
  unfold atI ixN
  rw [if_pos (by decide), if_pos (by simp <;> omega)]; rfl
@[simp] theorem at_5 (a b c d e f : α) (r : List α) : atI (a :: b :: c :: d :: e :: f :: r) 5 = some f := by
  unfold atI ixN
  rw [if_pos (by decide), if_pos (by simp <;> omega)]; rfl
theorem call_at {F : List PyData → Mm PyData} {aa : AF} {ρ : List Ent} {ds : List PyData} {d : PyData} (ha : aa ρ = some (.ok ds)) (h : F ds = some (.ok d)) : callE F aa ρ = some (.ok d) := by
  rw [callE_e, ha, bnd_r, h]
theorem or_ff {ft fu : TF} {ρ : List Ent} (h1 : ft ρ = some (.ok false)) (h2 : fu ρ = some (.ok false)) : orT ft fu ρ = some (.ok false) := by
  rw [orT_e, h1, bnd_r, if_neg (by decide), h2]
theorem ne_at {fa fb : EF} {ρ : List Ent} {x y : PyData} {r : Bool} (ha : fa ρ = some (.ok x)) (hb : fb ρ = some (.ok y)) (h : neD x y = some r) : cmpT neD fa fb ρ = some (.ok r) := by
  rw [cmpT_e, ha, bnd_r, hb, bnd_r, h]; rfl
theorem blt_at {g : List PyData → Option PyData} {aa : AF} {ρ : List Ent} {ds : List PyData} {d : PyData} (ha : aa ρ = some (.ok ds)) (h : g ds = some d) : bltE g aa ρ = some (.ok d) := by
  rw [bltE_e, ha, bnd_r, h]; rfl
theorem seqI_at {fa : EF} {ρ : List Ent} {d : PyData} {ds : List PyData} (ha : fa ρ = some (.ok d)) (hd : seqD d = some ds) : seqI fa ρ = some (.ok ds) := by
  rw [seqI_e, ha, bnd_r, hd]; rfl
end L2.L3
namespace L2.L3
open PySem
noncomputable def prs {α : Type} : List α → List (α × α)
  | a :: b :: r => (a, b) :: prs (b :: r)
  | _ => []
end L2.L3
namespace L2.L3
open PySem
end L2.L3
namespace L2.L3
open PySem
noncomputable def goesOn (m : Int) (x : Mt) : Bool := decide (x.2.1 ≤ m) && decide (m < x.2.2)
noncomputable def namesAt (s : List Mt) (m : Int) : List Str := (s.filter (goesOn m)).map (·.1)
noncomputable def loadAt (s : List Mt) (m : Int) : Int := ((namesAt s m).length : Nat)
section
variable {s : List Mt} {lo hi : Int} {r : List Int}
end
end L2.L3
namespace L2.L3
open PySem
noncomputable def gr : List Mt → Option Int → List Mt
  | [], _ => []
  | m :: r, none => m :: gr r (some m.2.2)
  | m :: r, some e => if e ≤ m.2.1 then m :: gr r (some m.2.2) else gr r (some e)
end L2.L3
namespace L2.L3
open PySem PySem.Spec PyProof.Rows
noncomputable def insK (kf : Mt → PyData) (x : Mt) : List Mt → List Mt
  | [] => [x]
  | y :: l => if ltT (kf y) (kf x) then y :: insK kf x l else x :: y :: l
noncomputable def srtM (kf : Mt → PyData) (s : List Mt) : List Mt := s.foldr (insK kf) []
section
variable {kf : Mt → PyData}
end
end L2.L3
namespace L2.L3
open PySem PySem.Spec PyProof.Rows
theorem loop_cons {t : Tg} {fb : SF} {d : PyData} {ds : List PyData} {ρ ρ1 ρ2 : List Ent} (h1 : tgD t ρ d = some ρ1) (h2 : fb ρ1 = some (.nx ρ2)) : loopS t fb (d :: ds) ρ = loopS t fb ds ρ2 := by
  rw [loopS, h1]; dsimp only; rw [h2]
end L2.L3
namespace L2.L3
open PySem
section
variable {nm : Str} {b z v : Int} {n : Nat} {o : List Int}
end
section
variable {nm nm' : Str} {b z v b' z' v' : Int} {n n' : Nat} {o o' : List Int}
end
noncomputable abbrev ov (x y : Mt) : Prop := max x.2.1 y.2.1 < min x.2.2 y.2.2
end L2.L3
namespace L2.L3
open PySem PySem.Spec PyProof.Rows
section
variable {P : Program} {w : World} {K : PySem.W.Frag} {mg : Str → Option Value} {base : Heap} {x : Str} {k : Nat} {ps N : List Str}
end
section
variable {X : Cx} {e : Expr} {fa : EF} {pos p pos2 p2 : Pos}
end
section
variable {X : Cx} {a b : Expr} {pos p p2 pos2 : Pos} {fa : EF}
end
end L2.L3
namespace L2.SX
open PySem PyProof.Rows
section
variable {prog : Program} {w : World} {K : Type} [DecidableEq K] {knd : KeyKind prog w K} {A : Around} {E : Value → Shared → Prop} {s : Shared} {a : Addr}
theorem entry_dloop : entryFor table "dict.update.loop" = some Builtin.«dict.update.loop» := entryFor_of_tree (by kernel_rfl)
theorem plain_dloop : plainId "dict.update.loop" = true := by decide +kernel
theorem list_no_keys : typeLookup (.type "list") "keys" = pure none := am_miss_of_fast (by kernel_rfl)
theorem keys_none {xs : Array Value} {n : Nat} {sl : Array (Option Value)} {Q : Option Value → Shared → Prop} (hx : s.heap.get? a = some { cls := .type "list", dict := none, data := .seq xs n, slots := sl }) (hA : A.handled = none)
    (h : ∀ h' tk, (∀ b ob, s.heap.get? b = some ob → h'.get? b = some ob) → Q none { s with heap := h', toks := tk }) : wpAny (model prog w) A (getAttr? (.ref a) "keys") Q E s := by
  obtain ⟨hp, g, d, tk, os⟩ := s
  have hT : ∀ tk', (⟨hp, g, d, tk', os⟩ : Shared).TypeIs (.ref a) "list" := fun _ => ⟨_, hx, rfl⟩
  have f1 := sub_AttributeError
  have f3 := F.slot_list_getattribute.lookup
  have f4 := F.slot_list_getattribute.bind (.ref a)
  have f5 := am_list_getattr_none
  have hmiss := list_no_keys
  have hname : (["__module__", "__name__", "__qualname__", "__doc__", "__annotations__"] : List Str).contains "keys" = false := by decide +kernel
  have hsz : ("keys" : Str).length + 100 ≤ sizeLine := by size_fits
  generalize ("keys" : Str) = name at hmiss hname hsz ⊢
  unfold getAttr? getAttrBy? getAttrBy
  repeat (any_goals (first | assumption | exact hT _ | ((with_reducible show wpAny _ _ (call (Value.builtin "list.__getattribute__") _ _) _ _ _); refine call_meets F.slot_list_getattribute (hT _) am_entry_list_getattribute (F.args_list_getattribute_2 _ _) (meets_getattribute_miss_list a xs n sl name _ hmiss hname hsz) ⟨hx, hA, fun h' tk' e hx' => ?_⟩) | wp_step))
  obtain ⟨t', u', he⟩ := hx'.there
  show wpAny _ _ (getattributeRaised _ _ _ _ _ _ _) _ _ _
  unfold getattributeRaised
  repeat (any_goals (first | assumption | wp_step))
  exact h _ _ hx'.keeps
end
section
variable {prog : Program} {w : World} {K : Type} [DecidableEq K] {knd : KeyKind prog w K} {A : Around} {R : Result → Shared → Prop} {I : Addr} {fp wr : List Addr} {G : Array GenState → Array GenState → Prop} {n : Nat} {P : Nat → Value → Prop} {St : Nat → Shared → Prop}
theorem dloop_ok (W : WalksS prog w A.in1 I fp wr G n P St) (D : Addr) (hDf : D ∉ fp) {h₀ : Heap} (hwr : ∀ b ∈ wr, h₀.get? b = none) (hD : h₀.get? D = none) (prs : List (K × Value)) (hn : prs.length = n)
    (hval : ∀ i v, P i v → ∃ t o x kv, v = .ref t ∧ h₀.get? t = some o ∧ o.cls = .type "tuple" ∧ (∃ m, o.data = .seq #[x, kv.2] m) ∧ knd.is kv.1 x = true ∧ prs[i]? = some kv) (hsz : n ≤ sizeLine) :
    ∀ (m i : Nat) (s : Shared), n - i = m → i ≤ n → St i s → (∀ b o, h₀.get? b = some o → s.heap.get? b = some o) → s.heap.DictOf knd D (merged [] (prs.take i)) →
      (∀ s', Moved (D :: wr) G s s' → (∀ b o, h₀.get? b = some o → s'.heap.get? b = some o) → s'.heap.DictOf knd D (merged [] prs) → R (.ok (.ret .none)) s') →
      codeAny (model prog w) A (.builtin "dict.update.loop" ⟨[.ref D, .ref I, rawInt (i : Int), .none], []⟩) R s := by
  have nw : D ∉ wr := fun z => hDf (W.sub _ z)
  have up : ∀ b ∈ wr, b ∈ D :: wr := fun b hb => List.mem_cons_of_mem _ hb
  have keep : ∀ {s s' : Shared}, Moved wr G s s' → (∀ b o, h₀.get? b = some o → s.heap.get? b = some o) → ∀ b o, h₀.get? b = some o → s'.heap.get? b = some o := fun mv k b o e => mv.heap b o (fun z => by rw [hwr b z] at e; cases e) (k b o e)
  intro m
  induction m with
  | zero =>
    intro i s hm hi st kp g hR
    obtain rfl : i = n := by omega
    refine codeAny_builtin entry_dloop ?_
    rw [Around.under_plainId plain_dloop _]
    show wpAny _ A.in1 (pyNext (.ref I) >>= _) _ _ s
    refine wpAny_bind (W.done s _ _ st fun s' mv => ?_)
    show wpAny _ _ (Builtin.Dict.addKeywords D [] >>= _) _ _ _
    refine wpAny_bind (wpAny_pure (wpAny_pure (hR s' (mv.mono up) (keep mv kp) ?_)))
    rw [← hn, List.take_length] at g
    obtain ⟨o', es, ep, h1, h2⟩ := g
    exact ⟨o', es, ep, mv.heap D o' nw h1, h2⟩
  | succ m ih =>
    intro i s hm hi st kp g hR
    have lt : i < n := by omega
    refine codeAny_builtin entry_dloop ?_
    rw [Around.under_plainId plain_dloop _]
    show wpAny _ A.in1 (pyNext (.ref I) >>= _) _ _ s
    refine wpAny_bind (W.item i s _ _ lt st fun v s' pv st' mv => ?_)
    obtain ⟨t, o, x, kv, rfl, ho, hc, ⟨mm, hd⟩, hk, hp⟩ := hval i v pv
    have kp' := keep mv kp
    have g' : s'.heap.DictOf knd D (merged [] (prs.take i)) := by
      obtain ⟨o', es, ep, h1, h2⟩ := g
      exact ⟨o', es, ep, mv.heap D o' nw h1, h2⟩
    have hT : s'.TypeIs (.ref t) "tuple" := ⟨o, kp' t o ho, hc⟩
    refine wpAny_bind (wpAny_holding (wpAny_bind (wpAny_tryCatch ?_)))
    unfold Builtin.Dict.pairItems
    refine wpAny_bind (wpAny_typeOf hT ?_)
    rw [if_pos (by decide)]
    refine wpAny_bind (wpAny_seqItems (kp' t o ho) hd (wpAny_pure ?_))
    show wpAny _ _ (holding [x, kv.2] (dictSet D x kv.2)) _ _ _
    have hlen : (merged [] (prs.take i)).length ≤ sizeLine := by
      have := merged_length_le ([] : List (K × Value)) (prs.take i)
      rw [List.length_take] at this
      simp at this
      omega
    refine wpAny_holding (wpAny_dictSet_pairs hk g' (fun h' g2 sb => ?_) hlen)
    rw [← merged_take_succ _ _ _ _ hp] at g2
    refine wpAny_pure ⟨plainId_quiet plain_dloop _, ih (i + 1) _ (by omega) lt (W.frame _ s' _ _ st' (Nat.le_succ _) fun c hc' o' e => ?_) (fun b o' e => ?_) g2 fun s'' mv'' kp'' g'' => ?_⟩
    · show h'.get? c = _
      rw [sb.2 c (fun z : c = D => hDf (z ▸ hc'))]
      exact e
    · show h'.get? b = _
      rw [sb.2 b (fun z : b = D => by rw [z, hD] at e; cases e)]
      exact kp' b o' e
    · refine hR s'' (Moved.trans W.gtrans ((mv.mono up).then_heap (Nat.le_succ _) fun c o' hc' e => ?_) mv'') kp'' g''
      show h'.get? c = _
      rw [sb.2 c (fun z : c = D => hc' (by rw [z]; exact List.mem_cons_self))]
      exact e
end
section
variable {prog : Program} {w : World} {K : Type} [DecidableEq K] {knd : KeyKind prog w K} {A : Around} {E : Value → Shared → Prop} {s : Shared}
theorem dict_of {l : Addr} {items : Array Value} {n : Nat} {sl : Array (Option Value)} {prs : List (K × Value)} {Q : Value → Shared → Prop} (hh : A.handled = none) (hl : s.heap.get? l = some { cls := .type "list", dict := none, data := .seq items n, slots := sl })
    (hn : prs.length = items.size) (hval : ∀ (i : Nat) (v : Value), items[i]? = some v → ∃ (t : Addr) (o : Obj) (x : Value) (kv : K × Value), v = .ref t ∧ s.heap.get? t = some o ∧ o.cls = .type "tuple" ∧ (∃ m, o.data = .seq #[x, kv.2] m) ∧ knd.is kv.1 x = true ∧ prs[i]? = some kv) (hsz : prs.length ≤ sizeLine)
    (h : ∀ (h' : Heap) (tk : Nat), h'.DictOf knd s.heap.objs.size (merged [] prs) → (∀ b o, s.heap.get? b = some o → h'.get? b = some o) → Q (.ref s.heap.objs.size) { s with heap := h', toks := tk }) :
    wpAny (model prog w) A (call (.type "dict") [.ref l]) Q E s := by
  refine callType_codes (Q₁ := fun obj s₁ => obj = .ref s.heap.objs.size ∧ s₁ = { s with heap := s.heap.push { cls := .type "dict", data := .dict #[] } }) F.kt_called_dict (F.kt_typeCall_dict_1 _) F.entry_dict_init (kt_code_dict_new _ ⟨rfl, rfl⟩) ?_
  rintro obj s₁ ⟨rfl, rfl⟩
  have hnew : (s.heap.push { cls := .type "dict", data := .dict #[] }).DictOf knd s.heap.objs.size [] := Heap.DictOf.new s.heap
  have hl1 : (s.heap.push { cls := .type "dict", data := .dict #[] }).get? l = some { cls := .type "list", dict := none, data := .seq items n, slots := sl } := Heap.get?_push_of_some _ hl
  have hT : Shared.TypeIs { s with heap := s.heap.push { cls := .type "dict", data := .dict #[] } } (.ref l) "list" := ⟨_, hl1, rfl⟩
  have lt : l < s.heap.objs.size := Heap.lt_size hl
  refine ⟨hnew.typeIs, F.args_dict_init_2 _ _, ?_⟩
  unfold Builtin.«dict.__init__»
  refine wpAny_bind ?_
  unfold Builtin.Dict.selfAndRest
  refine wpAny_bind (wpAny_notOrdered_dict hnew.typeIs ?_)
  show wpAny _ _ (pure (s.heap.objs.size, [Value.ref l])) _ _ _
  refine wpAny_pure ?_
  show wpAny _ _ (Builtin.Dict.updateFrom "dict.__init__" s.heap.objs.size (.ref l) [] .none) _ _ _
  unfold Builtin.Dict.updateFrom
  refine wpAny_bind (wpAny_typeOf hT ?_)
  rw [if_pos (by decide)]
  refine wpAny_bind (keys_none (A := A.in1.in1) hl1 hh fun h1 tk1 k1 => ?_)
  rw [if_pos (by rfl)]
  refine wpAny_bind (wpAny_rule ?_)
  have L1 : h1.IsList l items := ⟨_, k1 _ _ hl1, rfl, n, rfl⟩
  refine wpAny_bind (wpAny_pyIter_list L1 ?_)
  have ltD : s.heap.objs.size < h1.objs.size := Heap.lt_size (k1 _ _ (Heap.get?_push_size _ rfl))
  have nI : l ≠ h1.objs.size := Nat.ne_of_lt (Nat.lt_trans lt ltD)
  have kp0 : ∀ b o, s.heap.get? b = some o → (h1.push { cls := .type "list_iterator", data := .fields #[.ref l, .int 0 0] }).get? b = some o := fun b o e => Heap.get?_push_of_some _ (k1 b o (Heap.get?_push_of_some _ e))
  refine wpAny_pure ⟨plainId_quiet plain_dloop _, ?_⟩
  refine dloop_ok (knd := knd) (A := A.in1) ((Walks.list (A := A.in1.in1) hh h1.objs.size l nI items).toS) s.heap.objs.size ?_ (h₀ := s.heap) ?_ (Heap.get?_none_of_le (Nat.le_refl _)) prs hn hval (by omega) (items.size - 0) 0 _ (by omega) (Nat.zero_le _) ⟨⟨_, Heap.get?_push_size _ rfl, rfl, rfl⟩, L1.push _⟩ kp0 ?_ ?_
  · intro z
    rcases List.mem_cons.mp z with z | z
    · exact absurd z (Nat.ne_of_lt ltD)
    · rw [List.mem_singleton] at z
      exact absurd z (Nat.ne_of_gt lt)
  · intro b hb
    rw [List.mem_singleton] at hb
    subst hb
    exact Heap.get?_none_of_le (Nat.le_of_lt ltD)
  · obtain ⟨o', es, ep, h2, h3⟩ := hnew
    exact ⟨o', es, ep, Heap.get?_push_of_some _ (k1 _ _ h2), h3⟩
  · intro s' mv kp g'
    obtain ⟨h', gs', dr', tk', os'⟩ := s'
    obtain rfl : gs' = s.gens := mv.gens
    obtain rfl : dr' = s.drawn := mv.drawn
    obtain rfl : os' = s.os := mv.os
    exact ⟨rfl, h h' tk' g' kp⟩
end
end L2.SX
namespace L2.L3
open PySem PySem.Spec PyProof.Rows
noncomputable def dKey : PyData → Option Key
  | .int i => some (.inl i)
  | .str x => some (.inr x)
  | _ => none
theorem dKey_keyD (k : Key) : dKey (keyD k) = some k := by cases k <;> rfl
theorem dKey_is {d : PyData} {k : Key} (h : dKey d = some k) : d = keyD k := by
  unfold dKey at h; split at h
  · cases h; rfl
  · cases h; rfl
  · cases h
noncomputable def pairK : PyData → Option (Key × PyData)
  | .tuple [k, v] => (dKey k).map (·, v)
  | _ => none
theorem pairK_is {d : PyData} {p : Key × PyData} (h : pairK d = some p) : d = .tuple [keyD p.1, p.2] := by
  unfold pairK at h; split at h
  · obtain ⟨k, hk, rfl⟩ := Option.map_eq_some_iff.mp h
    rw [dKey_is hk]
  · cases h
noncomputable def mkDict (kvs : List (Key × PyData)) : PyData := .dict (kvs.map fun p => (keyD p.1, p.2))
noncomputable def dictD (ds : List PyData) : Option PyData := match ds with
  | [.list xs] => match allD pairK xs with
    | some kvs => if decide (kvs.map (·.1)).Nodup && decide (kvs.length ≤ 1000) then some (mkDict kvs) else none
    | none => none
  | _ => none
noncomputable def lookK (k : Key) : List (PyData × PyData) → Option PyData
  | [] => none
  | p :: r => if dKey p.1 = some k then some p.2 else lookK k r
noncomputable def lookV (k : Key) : List (Key × V) → Option V
  | [] => none
  | p :: r => if p.1 = k then some p.2 else lookV k r
section
variable {K : PySem.W.Frag} {G : Hp}
theorem lookK_rep {k : Key} {d : PyData} : ∀ {kvs : List (Key × V)} {D : List (PyData × PyData)}, D.map (·.1) = kvs.map (fun p => keyD p.1) → RepAll K G (kvs.map (·.2)) (D.map (·.2)) → lookK k D = some d → ∃ v, lookV k kvs = some v ∧ Rep K G v d
  | [], [], _, _, h => by cases h
  | [], _ :: _, e, _, _ => by simp at e
  | _ :: _, [], e, _, _ => by simp at e
  | q :: kvs, p :: D, e, .cons r t, h => by
    rw [List.map_cons, List.map_cons, List.cons.injEq] at e
    unfold lookK at h
    unfold lookV
    rw [e.1, dKey_keyD] at h
    by_cases c : q.1 = k
    · rw [if_pos (by rw [c])] at h
      rw [if_pos c]
      cases (Option.some.inj h)
      exact ⟨_, rfl, r⟩
    · rw [if_neg (fun z => c (Option.some.inj z))] at h
      rw [if_neg c]
      exact lookK_rep e.2 t h
theorem rep_key {k : Key} {v : V} (r : Rep K G v (keyD k)) : v = kV k := by
  cases k <;> (cases r; rfl)
end
section
variable {X : Cx} {e a b : Expr} {fa fb : EF} {pos p : Pos}
theorem inv_big {pins : List (Addr × Obj)} {σ : St} {H : Hp} {s : Shared} (I : Inv X pins σ H s) : sysModules < s.heap.objs.size := by
  have h : mainGlobals < s.heap.objs.size := (I.mod.glob.keeps I.bk).lt
  exact Nat.lt_trans (by decide) h
theorem key_rel {P : Program} {w : World} {k : Key} {u : Value} (r : RelV (kV k) u) : (mixKind P w).is k u = true := by
  cases k with
  | inl i => obtain ⟨t, rfl⟩ := r; exact mixKind_int P w i t
  | inr x => obtain ⟨t, rfl⟩ := r; exact mixKind_str P w x t
theorem prs_of {pins : List (Addr × Obj)} {σ : St} {H : Hp} {s : Shared} (I : Inv X pins σ H s) : ∀ {ts : List V} {kvs : List (Key × V)} {its : List Value}, Paired (fun t (kv : Key × V) => ∃ a, t = V.ref a ∧ SqT X.K H a [kV kv.1, kv.2]) ts kvs → Vals ts its →
    ∃ prs : List (Key × Value), KV kvs prs ∧ ∀ (i : Nat) (v : Value), its[i]? = some v → ∃ (t : Addr) (o : Obj) (x : Value) (kv : Key × Value), v = .ref t ∧ s.heap.get? t = some o ∧ o.cls = .type "tuple" ∧ (∃ m, o.data = .seq #[x, kv.2] m) ∧ (mixKind X.prog X.w).is kv.1 x = true ∧ prs[i]? = some kv
  | _, _, _, .nil, .nil => ⟨[], .nil, fun i v e => by simp at e⟩
  | _, _, _, .cons ⟨a, e, hq⟩ t, .cons r rs => by
    obtain ⟨prs, h1, h2⟩ := prs_of I t rs
    subst e
    cases r
    obtain ⟨its, rv, ⟨o, ho, hc, n, hd⟩, hz⟩ := I.tuple hq
    obtain ⟨u, w, rfl, r1, r2⟩ := vals2 rv
    rename_i kv _ _ _
    refine ⟨(kv.1, w) :: prs, .cons ⟨rfl, r2⟩ h1, fun i v e => ?_⟩
    cases i with
    | zero =>
      simp at e
      exact ⟨a, o, u, (kv.1, w), e.symm, ho, hc, ⟨n, hd⟩, key_rel r1, rfl⟩
    | succ i => exact h2 i v (by simpa using e)
theorem kv_len {kvs : List (Key × V)} {vs : List (Key × Value)} (h : KV kvs vs) : kvs.length = vs.length := by
  have := congrArg List.length (kv_parts h).1
  simpa using this
theorem paired_len {α β : Type} {F : α → β → Prop} : ∀ {l : List α} {m : List β}, Paired F l m → l.length = m.length
  | _, _, .nil => rfl
  | _, _, .cons _ t => by simp [paired_len t]
theorem call_dict (hc : X.calm = true) : CallR X (.type "dict") (fun xs H Q => ∃ (p : Addr) (ts : List V) (kvs : List (Key × V)), xs = [.ref p] ∧ SqL X.K H p ts ∧ Paired (fun t (kv : Key × V) => ∃ a, t = V.ref a ∧ SqT X.K H a [kV kv.1, kv.2]) ts kvs ∧ (kvs.map (·.1)).Nodup ∧ kvs.length ≤ 1000 ∧
    ∀ l, H l = none → Q (.ref l) (upd H l (.dK kvs))) := by
  intro pins s σ H xs us Q I r ⟨p, ts, kvs, e, hq, hp, nd, hz, q⟩
  subst e
  obtain ⟨u, rfl, rx⟩ := vals1 r
  cases rx
  obtain ⟨its, rv, ⟨o, n, ho, hcl, hdc, hda⟩, _⟩ := I.list hq
  obtain ⟨prs, kv, hv⟩ := prs_of I hp rv
  obtain ⟨oc, od, odt, osl⟩ := o
  dsimp only at hcl hdc hda
  subst hcl hdc hda
  have hd := I.ok.hd hc
  have l1 := kv_len kv
  have l2 := paired_len hp
  have l3 := rv.length
  have hline : kvs.length ≤ sizeLine := Nat.le_of_lt (small1000 (by omega))
  refine SX.dict_of (knd := mixKind X.prog X.w) (prs := prs) hd ho (by rw [List.size_toArray]; omega) (fun i v e => hv i v (by simpa using e)) (by omega) fun h' tk dd kp => ?_
  have nd' : (prs.map (·.1)).Nodup := by rw [← (kv_parts kv).1]; exact nd
  rw [merged_nil_of_nodup prs nd'] at dd
  have big := inv_big I
  have ne : (s.heap.objs.size == sysModules) = false := beq_eq_false_iff_ne.mpr (Nat.ne_of_gt big)
  exact ⟨.ref s.heap.objs.size, _, I.laid (t' := tk) (a := s.heap.objs.size) (o := .dK kvs) kp (Nat.le_refl _) ⟨hline, ne, prs, kv, dd⟩, rfl, q _ I.fresh⟩
theorem pairs_rep {K : PySem.W.Frag} {G : Hp} : ∀ {ts : List V} {xs : List PyData} {ks : List (Key × PyData)}, RepAll K G ts xs → allD pairK xs = some ks → ∃ kvs : List (Key × V), Paired (fun t (kv : Key × V) => ∃ a, t = V.ref a ∧ SqT K G a [kV kv.1, kv.2]) ts kvs ∧ kvs.map (·.1) = ks.map (·.1) ∧ RepAll K G (kvs.map (·.2)) (ks.map (·.2))
  | _, _, _, .nil, h => by cases (Option.some.inj h); exact ⟨[], .nil, rfl, .nil⟩
  | _, d :: ds, ks, .cons r t, h => by
    unfold allD at h
    split at h
    · cases h
    · rename_i q hq
      obtain ⟨ks', h1, rfl⟩ := Option.map_eq_some_iff.mp h
      obtain ⟨kvs, p1, p2, p3⟩ := pairs_rep t h1
      rw [pairK_is hq] at r
      cases r with
      | tuple hs rr =>
        cases rr with | cons ra rr =>
        cases rr with | cons rb rr =>
        cases rr
        cases rep_key ra
        exact ⟨(q.1, _) :: kvs, .cons ⟨_, rfl, hs⟩ p1, by rw [List.map_cons, List.map_cons, p2], .cons rb p3⟩
theorem dict_ok (hc : X.calm = true) (ds : List PyData) (d : PyData) (h : dictD ds = some d) : CallD X (.type "dict") ds d := by
  unfold dictD at h
  split at h
  · split at h
    · rename_i xs ks e
      split at h
      · rename_i hh
        rw [Bool.and_eq_true, decide_eq_true_eq, decide_eq_true_eq] at hh
        cases (Option.some.inj h)
        exact ⟨_, call_dict hc, fun vs G H Q s r q => by
          cases r with | cons r rr => cases rr; cases r with | list hq r =>
            obtain ⟨kvs, p1, p2, p3⟩ := pairs_rep r e
            have hl : kvs.length = ks.length := by have := congrArg List.length p2; simpa using this
            refine ⟨_, _, kvs, rfl, s.seq hq, Paired.mapP p1 (fun a b ⟨t, e1, e2⟩ => ⟨t, e1, seqT s e2⟩), by rw [p2]; exact hh.1, by omega, fun l hl => ?_⟩
            refine q _ _ _ (.put s hl) (.dict upd_same ?_ ?_)
            · rw [List.map_map]
              have : ks.map ((fun x => x.1) ∘ fun p : Key × PyData => (keyD p.1, p.2)) = (ks.map (·.1)).map keyD := by rw [List.map_map]; rfl
              rw [this, ← p2, List.map_map]; rfl
            · rw [List.map_map]
              exact p3.mono (same_upd (s.free hl))⟩
      · cases h
    · cases h
  · cases h
theorem boot_dict : bootBuiltins "dict" = some (.type "dict") := by kernel_rfl
end
end L2.L3
namespace L2.L3
open PySem PySem.Spec PyProof.Rows
section
variable {X : Cx} {elt iter tg : Expr} {ifs : List Expr} {scope : Scope} {pos spos p : Pos} {N' : List Str} {cap : List (Option Nat)} {t : Tg} {fi : AF} {ft : TF} {fe : EF}
end
end L2.L3
namespace L2.L3
open PySem PySem.Spec PyProof.Rows
noncomputable abbrev kL (m : Mt) : PyData := .tuple [.int m.2.1, .int (-m.2.2), .str m.1]
noncomputable def layO (s : List Mt) : List Mt := srtM kL s
noncomputable abbrev Ly := Mt × Nat
noncomputable def taken (P : List Ly) (m : Mt) : List Int := (P.filter fun p => decide (ov m p.1)).map fun p => (p.2 : Int)
noncomputable def colOf : List Ly → Str → Nat
  | [], _ => 0
  | p :: P, x => if p.1.1 = x then p.2 else colOf P x
end L2.L3
namespace L2.L3
open PySem PySem.Spec PyProof.Rows
section
variable {L : List Mt} {P : List Ly}
end
noncomputable def mostOf (L : List Mt) : Int := if L = [] then 0 else maxI (L.map fun x => loadAt L x.2.1)
end L2.L3
namespace L2.L3
open PySem
noncomputable def grpGo : List Mt → List Mt → Int → List (List Mt)
  | [], cur, _ => [cur]
  | m :: l, cur, reach => if m.2.1 < reach then grpGo l (cur ++ [m]) (max reach m.2.2) else cur :: grpGo l [m] m.2.2
noncomputable def grpOf : List Mt → List (List Mt)
  | [] => []
  | m :: l => grpGo l [m] m.2.2
end L2.L3
namespace L2.L3
open PySem PySem.Spec PyProof.Rows
section
variable {K : PySem.W.Frag} {H0 G₀ G H : Hp} {σ : St} {ρ : List Ent}
end
end L2.L3
namespace L2.L3
open PySem PySem.Spec PyProof.Rows
section
variable {X : Cx} {rest : List Stmt} {f : SF} {fa : EF} {e : Expr} {es : List Expr} {pos : Pos}
end
end L2.L3
namespace L2.L3
open PySem PySem.Spec PyProof.Rows
section
variable {X : Cx}
end
end L2.L3
namespace L2.L3
open PySem PySem.Spec PyProof.Rows
end L2.L3
namespace L2.ZT
open PySem PyProof.Rows
section
variable {prog : Program} {w : World} {A : Around} {E : Value → Shared → Prop} {s : Shared}
variable {z TI TO c d t u : Addr} {i j : Nat} {xs ys : Array Value} {a b : Value}
end
section
variable {prog : Program} {w : World} {A : Around} {E : Value → Shared → Prop} {s : Shared}
end
end L2.ZT
namespace L2.L3
open PySem PySem.Spec PyProof.Rows
noncomputable def Itl (K : PySem.W.Frag) (l1 l2 : Addr) : It :=
  ⟨fun i H => ∃ xs ys x y, SqT K H l1 xs ∧ SqL K H l2 ys ∧ xs[i]? = some x ∧ ys[i]? = some y,
   fun i H v H' => ∃ T x y, H T = none ∧ v = .ref T ∧ H' = upd H T (.tup [x, y]) ∧ (∀ xs, SqT K H l1 xs → xs[i]? = some x) ∧ ∀ ys, SqL K H l2 ys → ys[i]? = some y,
   fun i H => ∃ xs ys, SqT K H l1 xs ∧ SqL K H l2 ys ∧ (xs.length ≤ i ∨ ys.length ≤ i)⟩
section
variable {X : Cx} {a b : Expr} {elts : List Expr} {k0 : Nat} {p0 pos p : Pos} {fa fb : EF}
end
end L2.L3
namespace L2.L3
open PySem PySem.Spec PyProof.Rows
theorem cmpT_at {g : PyData → PyData → Option Bool} {fa fb : EF} {ρ : List Ent} {x y : PyData} {r : Bool} (ha : fa ρ = some (.ok x)) (hb : fb ρ = some (.ok y)) (h : g x y = some r) : cmpT g fa fb ρ = some (.ok r) := by
  rw [cmpT_e, ha, bnd_r, hb, bnd_r, h]; rfl
theorem aCons_at {fa : EF} {aa : AF} {ρ : List Ent} {x : PyData} {xs : List PyData} (ha : fa ρ = some (.ok x)) (hb : aa ρ = some (.ok xs)) : aCons fa aa ρ = some (.ok (x :: xs)) := by
  rw [aCons_e, ha, bnd_r, hb, bnd_r]
noncomputable def prt (s : List Mt) (m : Mt) : List Mt := s.filter fun o => !decide (o.1 = m.1) && decide (ov m o)
noncomputable def gof (s : List Mt) (m : Mt) : List Mt := ((grpOf (layO s)).find? fun A => decide (m ∈ A)).getD []
noncomputable def grp (s : List Mt) (m : Mt) : List Mt := s.filter fun a => decide (a ∈ gof s m)
noncomputable def wid (s : List Mt) (m : Mt) : Int := mostOf (grp s m)
section
variable {s : List Mt}
variable (hp : ∀ m ∈ s, m.2.1 < m.2.2)
include hp
omit hp
noncomputable abbrev cl (P : List Ly) (m : Mt) : Int := (colOf P m.1 : Nat)
variable {P : List Ly}
noncomputable def lst (s : List Mt) (P : List Ly) (m : Mt) : Int := minI ((wid s m :: (prt s m).map (cl P)).filter fun c => decide (cl P m < c))
end
end L2.L3
namespace L2.L3
open PySem
noncomputable def f_day_of : SF := (retS (op2 fdvD (var 0) (cst (.int 48))))
noncomputable def F_day_of : List PyData → Mm PyData := runD 1 1 f_day_of
variable {m : Mt}
theorem e_day_of (i : Int) : F_day_of [.int i] = some (.ok (.int (i / 48))) := by
  refine runD_ok rfl ?_
  show f_day_of [.val (.int i)] = _
  simp [f_day_of]
theorem sh_dM {m : Mt} (h : PyData.strOk m.1 = true) : SeqAt.shaped (dM m) = true := sh_tuple (n := 1) (fun d hd => by
  have : d = .str m.1 ∨ d = .int m.2.1 ∨ d = .int m.2.2 := by simpa using hd
  rcases this with rfl | rfl | rfl <;> simp [PyData.canLay0, h]) (fun d hd => by
  have : d = .str m.1 ∨ d = .int m.2.1 ∨ d = .int m.2.2 := by simpa using hd
  rcases this with rfl | rfl | rfl <;> simp [PyData.depth]) (by decide)
theorem sh_dS {s : List Mt} (h : ∀ m ∈ s, PyData.strOk m.1 = true) : SeqAt.shaped (dS s) = true := sh_tuple (n := 2) (fun d hd => by
  obtain ⟨m, hm, rfl⟩ := List.mem_map.mp hd
  exact SeqAt.canLay_of_shaped (sh_dM (h m hm))) (fun d hd => by
  obtain ⟨m, hm, rfl⟩ := List.mem_map.mp hd
  rw [PyData.depth]
  have : PyData.depthAll [PyData.str m.1, .int m.2.1, .int m.2.2] ≤ 1 := depthAll_of fun d hd => by
    have : d = .str m.1 ∨ d = .int m.2.1 ∨ d = .int m.2.2 := by simpa using hd
    rcases this with rfl | rfl | rfl <;> simp [PyData.depth]
  omega) (by decide)
theorem ne_dS {a b : List Mt} (h1 : ∀ m ∈ a, PyData.strOk m.1 = true) (h2 : ∀ m ∈ b, PyData.strOk m.1 = true) : neD (dS a) (dS b) = some (!decide (a = b)) := by
  rw [ne_tuples (sh_dS h1) (sh_dS h2), eqvAll_dM]
end L2.L3
namespace L2.L3
open PySem PySem.Spec PyProof.Rows PySem.W PySem.Builtin PySem.Builtin.ObjectAttr PySem.Builtin.Getset_descriptor
noncomputable abbrev bmVE : List Value := [.type "ValueError", .type "Exception", .type "BaseException", .type "object"]
structure XCls (K : Frag) (C : Addr) : Prop where
  ex : excIn K C bmVE "ValueError.__new__" = true
  ga : findIn K (.ref C) "__getattribute__" = some (some (.builtin "BaseException.__getattribute__"))
  nga : findIn K (.ref C) "__getattr__" = some none
  cl : findIn K (.ref C) "__class__" = some (some (.builtin "object.__class__"))
  ob : mroIn K C (.type "object") = some true
theorem XCls.obj {K : Frag} {C : Addr} {h : Heap} (x : XCls K C) (X : K.In h) : ∃ bm N nm q bs hdct sn sub ab col dd k0 k1 k2 k3 k5 mN, h.get? C = some (excClassObj nm q C N bs bm hdct sn sub ab col dd k0 k1 k2 k3 k5 "ValueError.__new__") ∧ h.Ns N mN ∧ mN "__init__" = none ∧ OwnTail h bmVE bm := by
  have q := x.ex
  unfold excIn at q
  split at q
  · rename_i dd cd sl ho
    split at q
    · rename_i C' bm k0 k1 k2 k3 n k5 hm hs
      simp only [Bool.and_eq_true, beq_iff_eq, Bool.not_eq_true'] at q
      obtain ⟨⟨⟨⟨⟨rfl, rfl⟩, hdel⟩, ht⟩, hok⟩, hni⟩ := q
      obtain ⟨nm, bs, mro, ns, qn, hd, sn, sub, ab, col, del⟩ := cd
      dsimp only at hm hdel hok hni
      subst hm hdel
      have hsl : sl = #[k0, k1, k2, k3, some (.builtin "ValueError.__new__"), k5] := by
        obtain ⟨l⟩ := sl
        simp only at hs
        rw [hs]
      subst hsl
      exact ⟨bm, ns, nm, qn, bs, hd, sn, sub, ab, col, dd, k0, k1, k2, k3, k5, _, X _ _ ho, .of_isNs (isNs_of_in X hok), nsMap_none_of_in X hok hni, tail_of_in X ht⟩
    · cases q
  · cases q
section
variable {prog : Program} {w : World} {A : Around} {E : Value → Shared → Prop} {s : Shared} {K : Frag} {C D a : Addr} {ox : Obj}
theorem xc_get {R : Result → Shared → Prop} {tp : Value} (x : XCls K C) (X : K.In s.heap) (I : ExO s.heap a C ox) (h : R (.ok (.ret (.ref C))) s) :
    codeAny (model prog w) A (.call (.builtin "getset_descriptor.__get__") ⟨[.builtin "object.__class__", .ref a, tp], []⟩) R s := by
  obtain ⟨hh, g, dr, t, os⟩ := s
  have L0 := I.type (M := model prog w)
  have L1 := looks_mroIn (M := model prog w) X x.ob
  refine codeAny_call_builtin KF.slot_gs.plain KF.entry_gs (KF.slot_gs.check _ _ _ _ _ _ _ _ KF.type_class (KF.args_gs _ _ _) ?_)
  unfold Builtin.«getset_descriptor.__get__» descrGet
  rw [dga_obj]
  refine wpAny_bind (wpAny_pure ?_)
  unfold descrGetter descrCheckInstance descrNameAndClass isInstance
  simp only [KF.owner_class]
  repeat lk
  refine ⟨Code.quiet_builtin _ (by decide +kernel), codeAny_builtin KF.entry_class ?_⟩
  unfold Builtin.«object.__class__» shownTypeOf
  repeat lk
  exact h
theorem xc_entry {tk : Tok} {Q : Fin → Shared → Prop} (x : XCls K C) (X : K.In s.heap) (I : ExO s.heap a C ox) (hq : Q (.done (.ret (.ref C))) s) :
    wpAny (model prog w) A (Builtin.«object.__getattribute__» ⟨[.ref a, .str "__class__" tk], []⟩) Q E s := by
  obtain ⟨hh, g, d, t, os⟩ := s
  have L0 := I.type (M := model prog w)
  have L3 := looks_findIn (M := model prog w) X x.cl
  have hT5 : (⟨hh, g, d, t, os⟩ : Shared).TypeIs (.builtin "object.__class__") "getset_descriptor" := PySem.F.typeOf_object_class
  have f5 := PySem.F.typeOf_object_class
  have f6 := PySem.F.slot_gs_get.lookup
  have f7 := PySem.F.slot_gs_set.lookup
  repeat (any_goals (first | assumption | with_reducible refine L0.at ?_ | with_reducible refine L3.at ?_ | wp_step))
  refine xc_get x X I ?_
  repeat (any_goals (first | assumption | wp_step))
theorem xc_check {M : Model} {nameV : Value} {Q : Unit → Shared → Prop} (x : XCls K C) (X : K.In s.heap) (I : ExO s.heap a C ox) (hq : Q () s) :
    wpAny M A (checkBuiltinCall "BaseException.__getattribute__" ⟨[.ref a, nameV], []⟩) Q E s := by
  obtain ⟨bm, N, nm, q, bs, hdct, sn, sub, ab, col, dd, k0, k1, k2, k3, k5, mN, hC, hN, hni, T⟩ := x.obj X
  obtain ⟨hh, g, d, t, os⟩ := s
  have hk : builtinKind "BaseException.__getattribute__" = some .slot := by decide +kernel
  have hsplit : splitId "BaseException.__getattribute__" = some ("BaseException", "__getattribute__") := by decide +kernel
  have hcB : (Value.ref C :: bm).contains (.type "BaseException") = true := by rw [List.contains_cons, T.hasType (X := "BaseException") (b := true) rfl]; rfl
  have ha := PySem.F.args_bexc_ga (.ref a) nameV
  simp only [checkBuiltinCall, hk, hsplit]
  refine wpAny_bind ?_
  · unfold isInstance
    repeat (first | (with_reducible refine wpAny_loadPart_at I.at_ ?_; rw [I.cls]) | (with_reducible refine wpAny_isSubtype_exc hC ?_; rw [hcB]) | wp_step)
    exact hq
theorem xc_call {tk : Tok} {R : Result → Shared → Prop} (x : XCls K C) (X : K.In s.heap) (I : ExO s.heap a C ox) (hq : R (.ok (.ret (.ref C))) s) :
    codeAny (model prog w) A (.call (.builtin "BaseException.__getattribute__") ⟨[.ref a, .str "__class__" tk], []⟩) R s :=
  codeAny_call_builtin PySem.F.attrBase_ValueError.ga.plain PySem.F.entry_bexc_ga (xc_check x X I (xc_entry x X I hq))
theorem xc_by {tk : Tok} {Q : Value → Shared → Prop} (x : XCls K C) (X : K.In s.heap) (I : ExO s.heap a C ox) (hq : Q (.ref C) s) :
    wpAny (model prog w) A (getAttrBy (.ref a) (.str "__class__" tk) false) Q E s := by
  obtain ⟨hh, g, d, t, os⟩ := s
  have L0 := I.type (M := model prog w)
  have L1 := looks_findIn (M := model prog w) X x.ga
  have L2 := looks_findIn (M := model prog w) X x.nga
  have f3 := PySem.F.attrBase_ValueError.ga.bind (.ref a)
  have hx2 : (Value.builtin "BaseException.__getattribute__" == Value.builtin "object.__getattribute__") = false := by decide +kernel
  have hx1 : (onTheHeap (Value.ref C) && Value.builtin "BaseException.__getattribute__" == Value.builtin "object.__getattribute__") = false := by rw [hx2]; rfl
  repeat (any_goals (first | assumption | with_reducible refine L0.at ?_ | with_reducible refine L1.at ?_ | with_reducible refine L2.at ?_ | wp_step))
  refine xc_call x X I ?_
  repeat (any_goals (first | assumption | wp_step))
theorem xc_class {Q : Option Value → Shared → Prop} (x : XCls K C) (X : K.In s.heap) (I : ExO s.heap a C ox) (hq : Q (some (.ref C)) { s with toks := s.toks + 1 }) :
    wpAny (model prog w) A (getAttr? (.ref a) "__class__") Q E s := by
  obtain ⟨hh, g, d, t, os⟩ := s
  unfold getAttr? getAttrBy?
  exact wpAny_bind (wpAny_mkText (wpAny_bind (wpAny_attempt (xc_by (s := ⟨hh, g, d, t + 1, os⟩) x X I (wpAny_pure hq)))))
theorem xc_nested_no {c : Value} {dep : Int} {tk : Tok} {Q : Fin → Shared → Prop} (x : XCls K C) (X : K.In s.heap) (I : ExO s.heap a C ox) (hty : Looks (model prog w) s.heap (typeOf c) (.type "type")) (his : Looks (model prog w) s.heap (isType c) true)
    (hne : (Value.ref C == c) = false) (hsub : Looks (model prog w) s.heap (isSubtype (.ref C) c) false) (h : Q (.done (.ret (.bool false))) { s with toks := s.toks + 1 }) :
    wpAny (model prog w) A (Builtin.«isinstance.nested» ⟨[.ref a, c, .int dep tk], []⟩) Q E s := by
  obtain ⟨bm, N, nm, q, bs, hdct, sn, sub, ab, col, dd, k0, k1, k2, k3, k5, mN, hC, hN, hni, T⟩ := x.obj X
  have hisD : Looks (model prog w) s.heap (isType (.ref C)) true := by
    intro A' Q' E' s' k q
    unfold isType loadHead
    exact wpAny_bind (wpAny_loadPart (k _ _ hC) (wpAny_pure q))
  obtain ⟨h0, g, d, tt, os⟩ := s
  have L0 := I.type (M := model prog w)
  have LI : Looks (model prog w) h0 (isInstance (.ref a) c) false := L0.andThen hsub
  unfold Builtin.«isinstance.nested»
  refine wpAny_bind (L0.at ?_)
  rw [if_neg (fun q => by rw [hne] at q; exact Bool.noConfusion q)]
  refine wpAny_bind (hty.at ?_)
  rw [if_pos (by decide)]
  k_delta "plainIsInstance"
  refine wpAny_bind (wpAny_bind (his.at ?_))
  simp only [Bool.not_true, Bool.false_eq_true, if_false]
  refine wpAny_bind (LI.at ?_)
  simp only [Bool.false_eq_true, if_false]
  refine wpAny_bind (xc_class x X I ?_)
  refine wpAny_bind (hisD.at ?_)
  simp only [Bool.not_true, Bool.false_eq_true, if_false]
  refine wpAny_bind (wpAny_rule ?_)
  refine hsub.at ?_
  first
    | exact wpAny_pure h
    | exact wpAny_pure (wpAny_pure h)
    | exact wpAny_bind (wpAny_pure (wpAny_pure h))
theorem xc_isnot {Q : Value → Shared → Prop} (x : XCls K C) (y : XCls K D) (X : K.In s.heap) (I : ExO s.heap a C ox) (hne : C ≠ D) (hty : typeIn K (.ref D) = some (.type "type")) (hs : subIn K (.ref C) (.ref D) = some false) (h : Q (.bool false) { s with toks := s.toks + 1 }) :
    wpAny (model prog w) A (call (.builtin "isinstance") [.ref a, .ref D]) Q E s :=
  call_isinstance (S := fun _ R s => (K.In s.heap ∧ ExO s.heap a C ox) ∧ R (.ok (.ret (.bool false))) { s with toks := s.toks + 1 })
    (fun _ _ _ _ _ hs' => isinstance_outer (xc_nested_no x hs'.1.1 hs'.1.2 (looks_typeIn hs'.1.1 hty) (by
      obtain ⟨bm, N, nm, q, bs, hdct, sn, sub, ab, col, dd, k0, k1, k2, k3, k5, mN, hC, _⟩ := y.obj hs'.1.1
      intro A' Q' E' s' k q
      unfold isType loadHead
      exact wpAny_bind (wpAny_loadPart (k _ _ hC) (wpAny_pure q))) (Bool.eq_false_iff.mpr fun q => hne (Value.ref.inj (beq_iff_eq.mp q))) (looks_subIn hs'.1.1 hs) hs'.2) (by intro q; cases q)) ⟨⟨X, I⟩, h⟩
theorem xc_is {Q : Value → Shared → Prop} (X : K.In s.heap) (I : ExO s.heap a C ox) (e : isIn K (.ref C) D = true) (h : Q (.bool true) s) :
    wpAny (model prog w) A (call (.builtin "isinstance") [.ref a, .ref D]) Q E s := isi_call X (fun _ => I.type) e (by intro q; cases q) h
theorem xc_isT {T : String} {Q : Value → Shared → Prop} (X : K.In s.heap) (I : ExO s.heap a C ox) (hty : typeOf (.type T) = pure (.type "type")) (e : subIn K (.ref C) (.type T) = some true) (h : Q (.bool true) s) :
    wpAny (model prog w) A (call (.builtin "isinstance") [.ref a, .type T]) Q E s := by
  refine PyProof.Rows.call_isinstance_of ?_ (by intro q; cases q)
  obtain ⟨hh, g, d, t, os⟩ := s
  have L0 := I.type (M := model prog w)
  have L1 := looks_subIn (M := model prog w) X e
  unfold Builtin.«isinstance.nested»
  refine wpAny_bind (L0.at ?_)
  rw [if_neg (fun q => by cases beq_iff_eq.mp q)]
  refine wpAny_bind (m := typeOf (.type T)) (wpAny_of_eq hty ?_)
  rw [if_pos (by decide)]
  refine wpAny_bind (wpAny_bind (m := isType (.type T)) (wpAny_pure (a := true) ?_))
  refine wpAny_bind (m := isInstance (.ref a) (.type T)) ((L0.andThen L1).at ?_)
  exact wpAny_pure (a := true) (wpAny_pure h)
theorem xc_match {M : Model} {Q : Bool → Shared → Prop} (x : XCls K C) (y : XCls K D) (X : K.In s.heap) (I : ExO s.heap a C ox) (hs : subIn K (.ref C) (.ref D) = some true) (hq : Q true s) : wpAny M A (excMatches (.ref a) (.ref D)) Q E s := by
  obtain ⟨bm, N, nm, q, bs, hdct, sn, sub, ab, col, dd, k0, k1, k2, k3, k5, mN, hC, hN, hni, T⟩ := y.obj X
  obtain ⟨hh, g, d, t, os⟩ := s
  have L1 := looks_subIn (M := M) X hs
  have hcB : (Value.ref D :: bm).contains (.type "BaseException") = true := by rw [List.contains_cons, T.hasType (X := "BaseException") (b := true) rfl]; rfl
  have f := tc_notTuple
  unfold excMatches
  repeat (first | (with_reducible refine wpAny_loadPart_at I.at_ ?_; rw [I.cls]) | with_reducible refine wpAny_loadPart_at hC ?_ | with_reducible refine L1.at ?_ | (with_reducible refine wpAny_isSubtype_exc hC ?_; rw [hcB]) | wp_step)
  exact hq
end
end L2.L3
namespace L2.L3
open PySem PySem.Spec PyProof.Rows
section
variable {X : Cx} {pins : List (Addr × Obj)} {σ : St} {H : Hp} {s : Shared}
theorem inv_new (I : Inv X pins σ H s) {b : Addr} (h : s.heap.get? b = none) : Fresh X b := by
  refine ⟨?_, fun p hp z => ?_⟩
  · cases q : X.s₀.heap.get? b with
    | none => exact .inr rfl
    | some o =>
      refine .inl (Classical.byContradiction fun n => ?_)
      obtain ⟨o', e⟩ := I.base.there b o q n
      rw [h] at e; cases e
  · obtain ⟨e, _⟩ := I.pin p (List.mem_append_left _ hp)
    rw [z, h] at e; cases e
end
section
variable {X : Cx} {st : Stmt} {f : SF}
noncomputable def raiseS (c : Str) : SF := fun ρ => some (.xc c ρ)
theorem ds_raise {x m : Str} {C : Addr} {np sp cpos pos : Pos} {j} (hc : X.calm = true) (hE : excC X.K x = some C) (hX : XCls X.K C) (hg : Gl X x := by rfl) (hdb : (x == ("__debug__" : Str)) = false := by decide)
    (he : starEach [.Constant (.str m) j sp] X.env = (false, eval (.Constant (.str m) j sp) X.env) :: starEach [] X.env := by rfl) (hpl : (backTo cpos (starEach [] X.env)).any (·.1) = false := by rfl) :
    DS X (.Raise (some (.Call (.Name x np) [.Constant (.str m) j sp] [] cpos)) none pos) (raiseS x) := ⟨fun pins s σ H D I ⟨ρ, o, H0, G₀, G, e, R, q⟩ => by
  cases (Option.some.inj e)
  obtain ⟨bm, N, nm, qn, bs, hdct, sn, sub, ab, col, dd, k0, k1, k2, k3, k5, mN, hC, hN, hni, T⟩ := hX.obj I.mod.kin
  have hm : X.mg x = some (.ref C) := PySem.W.mg_of I.mod.kin I.mod.glob (excC_is hE)
  refine wpAny_Raise_call_subT (C := C) (nm := nm) (q := qn) (N := N) (bs := bs) (bm := bm) (hdct := hdct) (sn := sn) (sub := sub) (ab := ab) (col := col) (dd := dd) (k0 := k0) (k1 := k1) (k2 := k2) (k3 := k3) (k5 := k5)
    PySem.F.excBase_ValueError (mN := mN) (T.hasType PySem.F.excBase_ValueError.hasBase) (I.ok.hd hc) (by rw [he]; show (false || (backTo cpos (starEach [] X.env)).any (·.1)) = false; rw [hpl]; rfl) hni (ld_glob I hg hm ⟨rfl, ?_⟩ hdb)
  have h := pa_cons (X := X) (pe_str : PE X (.Constant (.str m) j sp) (tC (.str m))) pa_nil he cpos pins s σ H (fun vs H' => vs = [.str m] ∧ H' = H) I ⟨rfl, rfl⟩
  rw [he] at h ⊢
  refine Calls.evalArgs_plain (thn h fun us s2 ⟨vs, H', I2, rv, e1, e2⟩ => ?_)
  subst e1 e2
  refine ⟨rfl, by rw [← rv.length]; show 1 ≤ sizeLine; decide, I2.bk _ _ hC, hN.keeps I2.bk, T.keeps I2.bk, fun h' a hm' => ?_⟩
  obtain ⟨t, ht, _, _⟩ := hm'.there
  exact q pins { s2 with heap := h' } σ H' G _ (I2.kept (t' := s2.toks) hm'.keeps) R (.refl _) ⟨a, C, rfl, hE, .inl ⟨inv_new I2 hm'.new, hok_no I2.hok hm'.new, _, _, .ref t, ht, rfl, rfl, rfl, rfl⟩⟩⟩
end
end L2.L3
namespace L2.L3
open PySem PySem.Spec PyProof.Rows
noncomputable def runX (m n : Nat) (f : SF) (ds : List PyData) : Mm PyData := if ds.length = n then (match f (startN m ds) with
  | some (.rt d) => some (.ok d)
  | some (.nx _) => some (.ok .none)
  | some (.xc c _) => some (.ex c)
  | _ => none) else none
noncomputable def CX1 (P : Program) (w : World) : CXT := fun outer H s E e s' => ∃ a C H', e = .ref a ∧ E (.ref C) none H' ∧ s'.os = s.os ∧ AllBare s'.gens ∧ Un (frs outer) [] H H' s.heap s'.heap ∧ HOk P w H' s'.heap ∧ ExcAt (fun b => s.heap.get? b = none) H' a C s'.heap
noncomputable def EndX (K : PySem.W.Frag) (G H : Hp) (Q : VK) (E : XK) : Re PyData → Prop
  | .ok d => ∀ v G' H', Grow G H G' H' → Rep K G' v d → Q v H'
  | .ex c => ∀ C G' H', excC K c = some C → Grow G H G' H' → E (.ref C) none H'
noncomputable def spX (K : PySem.W.Frag) (F : List PyData → Mm PyData) : Sp := fun vs H Q E => ∃ G ds r, (Same G H ∧ Tabs K G H) ∧ RepAll K G vs ds ∧ F ds = some r ∧ EndX K G H Q E r
structure CalleeX (P : Program) (w : World) (K : PySem.W.Frag) (mg : Str → Option Value) (base : Heap) (x : Str) (k : Nat) (ps : List Str) (F : List PyData → Mm PyData) : Prop where
  ex : ∃ f fd, mg x = some (.ref f) ∧ PySem.W.keepIn K (.ref f) = true ∧ Binds K fd ps [] ∧ FnOk P w K mg base (CX1 P w) k f fd ps (spX K F)
section
variable {X : Cx} {pins : List (Addr × Obj)} {σ : St} {H : Hp} {s : Shared}
theorem un_after {ch : List Addr} {h' : Heap} (I : Inv X pins σ H s) (hex : X.ex = []) (un : Un (frs X.stack) ch H H s.heap h') (hch : ∀ b ∈ ch, X.s₀.heap.get? b = none) : Un X.fs [] X.H₀ H X.s₀.heap h' := by
  have nx : ∀ b : Addr, b ∉ X.ex := fun b z => by rw [hex] at z; cases z
  have neL : ∀ b o, X.s₀.heap.get? b = some o → b ≠ X.env.locals := fun b o e => Nat.ne_of_lt (Nat.lt_of_lt_of_le (Heap.lt_size e) I.ok.above)
  have nc : ∀ b o, X.s₀.heap.get? b = some o → b ∉ ch := fun b o e z => by rw [hch b z] at e; cases e
  refine ⟨fun b o e n hb _ => ?_, fun b o e n hb _ => ?_, fun b o e n _ => I.base.free b o e n (nx b), fun b o e _ => ?_, I.base.tups, I.base.frzs, I.base.tbls⟩
  · exact un.keep b o (I.base.keep b o e n hb (nx b)) (I.base.free b o e n (nx b)) (fun z => (List.mem_cons.mp (I.stkSub b z)).elim (neL b o e) hb) (nc b o e)
  · obtain ⟨sl, e1⟩ := I.base.slot b o e n hb (nx b)
    obtain ⟨sl', e2⟩ := un.any e1 (I.base.free b o e n (nx b)) (nc b o e)
    exact ⟨sl', e2⟩
  · obtain ⟨o', e1⟩ := I.base.there b o e (nx b)
    exact un.there b o' e1 (nc b o e)
end
section
variable {P : Program} {w : World} {K : PySem.W.Frag} {mg : Str → Option Value} {base : Heap} {X : Cx} {e : Expr} {es : List Expr} {pos p : Pos} {x : Str} {k : Nat} {ps N : List Str} {F : List PyData → Mm PyData}
noncomputable abbrev fcX (P : Program) (w : World) (K : PySem.W.Frag) (mg : Str → Option Value) (base : Heap) (N : List Str) (qual : Str) (scope : Scope) (f : Addr) (cd : Value) (A : Around) (outer : List Env) (s : Shared) (H : Hp) (E : XK) : Cx := cxOf (CX1 P w) P w K mg base N qual scope f cd A outer s H E
theorem fnX_den {st : Stmt} {f : SF} {fa : Addr} {fd : FuncData} (m n : Nat) (Fu : Fun K x x st fa fd) (S : FnScope N ps (defScope st)) (hm : N.length = m) (hn : ps.length = n)
    (body : ∀ (cdv : Value) (A : Around) (outer : List Env) (s : Shared) (H : Hp) (E : XK), Room k (A.deeper (envOfC x (defScope st) s.heap.objs.size fa cdv)) → DB (fcX P w K mg base N x (defScope st) fa cdv A outer s H E) (defBody st) f) :
    FnOk P w K mg base (CX1 P w) (k + 1) fa fd ps (spX K (runX m n f)) := by
  obtain ⟨oc, od, kV, doc, pm, an, cdv, ct, osl, rfl, lk, hcd⟩ := Fu.ex
  refine fn_of lk hcd S (fun vs H Q E ⟨G, ds, r, s, rv, hF, _⟩ => ?_) fun A outer s H vs Q E hr ⟨G, ds, r, sm, rv, hF, q⟩ => ?_
  · unfold runX at hF
    split at hF
    · rename_i hl; rw [rv.length, hl, hn]
    · cases hF
  · unfold runX at hF
    split at hF
    · rw [← hm, ← startE_eq] at hF
      split at hF
      · rename_i d e
        cases (Option.some.inj hF)
        exact ⟨_, (body cdv A outer s H E hr).run, startE N ds, _, H, G, G, e, startE_ok sm rv, fun v G' H' _ g rv => q v G' H' g rv⟩
      · rename_i ρ' e
        cases (Option.some.inj hF)
        exact ⟨_, (body cdv A outer s H E hr).run, startE N ds, _, H, G, G, e, startE_ok sm rv, fun G' H' σ' _ R' => q .non G' H' R'.grow .none⟩
      · rename_i c ρ' e
        cases (Option.some.inj hF)
        refine ⟨_, (body cdv A outer s H E hr).run, startE N ds, _, H, G, G, e, startE_ok sm rv, fun pins s' σ H' G' e' I R _ ⟨a, C, e1, hE, xa⟩ => ?_⟩
        subst e1
        refine leave_ok (X := fcX P w K mg base N x (defScope st) fa cdv A outer s H E) (fr := fun b => s.heap.get? b = none) I.ok.frames rfl rfl I (xa.mono fun b hb => ?_) (fun b hb => ?_) fun h' ch un hch hok x' => ?_
        · rcases hb.1 with z | z
          · cases z
          · exact z
        · cases z : s.heap.get? b with
          | none => rfl
          | some o =>
            obtain ⟨o', z'⟩ := I.base.there b o z (by intro w; cases w)
            rw [hb] at z'; cases z'
        · exact ⟨a, C, H', rfl, q C G' H' hE R.grow, I.os, I.bare, un_after I rfl un hch, hok, x'⟩
      · cases hF
    · cases hF
theorem calleeX_den {st : Stmt} {f : SF} (m n : Nat) (D : Def K mg x st) (S : FnScope N ps (defScope st)) (hm : N.length = m) (hn : ps.length = n)
    (hb : ∀ (kV doc pm : Value) (an : Option Addr) (cdv ct : Value) (us : List Value), us.length = ps.length → bindArgs (PySem.W.fnOf x x (defArgs st) (defBody st) (defScope st) .none kV doc pm an cdv ct) ⟨us, []⟩ = pure (ps.zip us))
    (body : ∀ (fa : Addr) (cdv : Value) (A : Around) (outer : List Env) (s : Shared) (H : Hp) (E : XK), Room k (A.deeper (envOfC x (defScope st) s.heap.objs.size fa cdv)) → DB (fcX P w K mg base N x (defScope st) fa cdv A outer s H E) (defBody st) f) :
    CalleeX P w K mg base x (k + 1) ps (runX m n f) := by
  obtain ⟨fa, fd, Fu, hmg⟩ := D.ex
  exact ⟨fa, fd, hmg, Fu.kp, Fu.binds hb, fnX_den m n Fu S hm hn fun cdv A outer s H E hr => body fa cdv A outer s H E hr⟩
noncomputable def callX (F : List PyData → Mm PyData) (fa : AF) : EF := fun ρ => bnd (fa ρ) F
theorem de_callX {fa : AF} (C : CalleeX X.prog X.w X.K X.mg X.base x k ps F) (hr : Room k X.A) (ha : DA X (e :: es) fa) (hg : Gl X x := by rfl) (hdb : (x == ("__debug__" : Str)) = false := by decide)
    (he : starEach (e :: es) X.env = (false, eval e X.env) :: starEach es X.env := by rfl) (hpl : (backTo pos (starEach es X.env)).any (·.1) = false := by rfl) : DE X (.Call (.Name x p) (e :: es) [] pos) (callX F fa) := ⟨fun pins s σ H Q I ⟨ρ, r, H0, G₀, G, e', R, q⟩ => by
  obtain ⟨f, fd, a, b, c, Fk⟩ := C.ex
  refine wpAny_Call_Name_kw (ld_glob I hg a ?_ hdb)
  refine PySem.W.callWith_K (h₀ := X.base) I.ok.mod.kin b (thn (ha.run pos pins s σ H (fun vs H1 => ∃ G1 ds, Grow G H G1 H1 ∧ RepS X.K H0 G₀ G1 H1 σ ρ ∧ RepAll X.K G1 vs ds ∧ F ds = some r) I (bA R e' q.x fun ds vs G1 H1 g1 R1 rv e1 => ⟨G1, ds, g1, R1, rv, e1⟩))
    fun us s1 ⟨vs, H1, I1, rv, G1, ds, g1, R1, rd, hF⟩ => ⟨I1.kIn, ?_⟩) he hpl
  have sp : spX X.K F vs H1 Q (fun cv _ H' => ∃ G' C c, cv = .ref C ∧ r = .ex c ∧ excC X.K c = some C ∧ Grow G1 H1 G' H') := by
    refine ⟨G1, ds, r, ⟨g1.sub, R1.tab⟩, rd, hF, ?_⟩
    cases r with
    | ok d => exact fun v G' H' g rv => q v G' H' (g1.trans g) rv
    | ex c => exact fun C G' H' hC g => ⟨G', C, c, rfl, rfl, hC, g⟩
  have hl : us.length = ps.length := by rw [← rv.length]; exact Fk.len _ _ _ _ sp
  refine wpAny_call (codeAny_mono (Fk.run X.A X.stack s1 H1 ⟨us, []⟩ us vs Q _ hr I1.env0 (by simpa using c s1 us I1.kIn (by simpa using hl)) rv sp) fun res s' hq => ?_)
  cases res with
  | error e2 =>
    obtain ⟨a2, C2, H2, rfl, ⟨G2, C3, c3, e3, rfl, hC, g2⟩, os, bare, un, hok, xa⟩ := hq
    cases e3
    exact q pins s' σ H2 G2 _ (I1.call' (ch := []) os un hok bare (fun b z => nomatch z)) (R1.more g2) (g1.gg.trans g2.gg) ⟨a2, C2, rfl, hC, xa.mono fun b hb => inv_new I1 hb⟩
  | ok fl =>
    cases fl with
    | ret u => exact I1.after hq
    | next => exact False.elim hq
    | brk => exact False.elim hq
    | cont => exact False.elim hq⟩
end
end L2.L3
namespace L2.L3
open PySem PySem.Spec PyProof.Rows
section
variable {K : PySem.W.Frag} {H0 G₀ G H : Hp} {σ : St} {ρ : List Ent}
theorem RepS.setNo (R : RepS K H0 G₀ G H σ ρ) (j : Nat) (o : Option V) : RepS K H0 G₀ G H (σ.set j o) (ρ.set j .no) := by
  refine ⟨R.grow, by simp [R.len], fun i o' e h1 h2 => ?_, R.inj.sub fun i e h1 h2 => ?_, R.tab⟩
  · rcases set_get h2 with ⟨_, rfl, _⟩ | ⟨n, h2⟩
    · trivial
    · rw [List.getElem?_set_ne (Ne.symm n)] at h1
      exact R.ent i o' e h1 h2
  · rcases set_get h1 with ⟨_, rfl, _⟩ | ⟨n, h1⟩
    · cases h2
    · exact ⟨h1, List.getElem?_set_ne (Ne.symm n)⟩
theorem RepS.setExc {c : Str} {a C : Addr} (R : RepS K H0 G₀ G H σ ρ) (i : Nat) (hC : excC K c = some C) (ha : H a = some (xcO a C)) : RepS K H0 G₀ G H (σ.set i (some (.ref a))) (ρ.set i (.exc c)) := by
  refine ⟨R.grow, by simp [R.len], fun j o' e h1 h2 => ?_, R.inj.sub fun j e h1 h2 => ?_, R.tab⟩
  · rcases set_get h2 with ⟨rfl, rfl, _⟩ | ⟨n, h2⟩
    · rcases set_get h1 with ⟨_, rfl, _⟩ | ⟨n, _⟩
      · exact ⟨a, C, rfl, hC, ha⟩
      · exact absurd rfl n
    · rw [List.getElem?_set_ne (Ne.symm n)] at h1
      exact R.ent j o' e h1 h2
  · rcases set_get h1 with ⟨_, rfl, _⟩ | ⟨n, h1⟩
    · cases h2
    · exact ⟨h1, List.getElem?_set_ne (Ne.symm n)⟩
end
section
variable {X : Cx} {pins : List (Addr × Obj)} {σ : St} {H : Hp} {s : Shared}
theorem name_goes {M : Model} {A : Around} {E : Value → Shared → Prop} {Q : Unit → Shared → Prop} {j : Nat} {n : Str} {pos : Pos} (I : Inv X pins σ H s) (hN : X.N.Nodup) (hj : X.N[j]? = some n) (hk : X.env.scope.names.lookup n = some .local)
    (h : ∀ s', Inv X pins (σ.set j none) H s' → Q () s') : wpAny M A (do bindName X.env n .none; unbindBehindTheSuite X.env n pos) Q E s := by
  obtain ⟨m, hn, hl⟩ := id I.loc
  obtain ⟨oL, _, _, hoL, _⟩ := id hn
  have hcls : (X.env.scope.kind == .class || (X.env.scope.kind == .module && X.env.locals != X.env.globals)) = false := by rw [I.ok.kind]; rfl
  have hjσ : j < σ.length := by rw [I.len]; exact (List.getElem?_eq_some_iff.mp hj).1
  refine wpAny_nameGoes_keeps hk hn hcls fun h' v hn' hs => ?_
  have ne0 : ∀ b o, X.s₀.heap.get? b = some o → b ≠ X.env.locals := fun b o e => Nat.ne_of_lt (Nat.lt_of_lt_of_le (Heap.lt_size e) I.ok.above)
  refine h _ ⟨I.ok, I.os, I.bare, ⟨fun b o e n hb hx => ?_, fun b o e n hb hx => ?_, I.base.free, fun b o e hx => ?_, I.base.tups, I.base.frzs, I.base.tbls⟩, ⟨_, hn', fun i y v' e1 e2 e3 => ?_⟩, fun y c e => ?_, I.free, I.freeC, fun p hp => ?_, fun b ob e => ?_, by simpa using I.len⟩
  · exact (hs.2 b (ne0 b o e)).trans (I.base.keep b o e n hb hx)
  · obtain ⟨sl, e1⟩ := I.base.slot b o e n hb hx
    exact ⟨sl, (hs.2 b (ne0 b o e)).trans e1⟩
  · obtain ⟨o', e1⟩ := I.base.there b o e hx
    exact ⟨o', (hs.2 b (ne0 b o e)).trans e1⟩
  · by_cases hi : i = j
    · subst hi
      rw [List.getElem?_set_self hjσ] at e2
      cases e2
    · rw [List.getElem?_set_ne (Ne.symm hi)] at e2
      obtain ⟨u', r', q⟩ := hl i y v' e1 e2 e3
      refine ⟨u', r', ?_⟩
      rcases q with ⟨k, e⟩ | ⟨k, c, e, z⟩
      · refine .inl ⟨k, ?_⟩
        have : y ≠ n := fun e => hi (nodup_ix hN e1 (e ▸ hj))
        simp [this, e]
      · exact .inr ⟨k, c, e, z.sameBut hs (I.cne y c e)⟩
  · obtain ⟨w', z⟩ := I.cell y c e
    exact ⟨w', z.sameBut hs (I.cne y c e)⟩
  · obtain ⟨e, n, ne, nf, d⟩ := I.pin p hp
    exact ⟨(hs.2 p.1 ne).trans e, n, ne, nf, d⟩
  · refine (I.hok b ob e).stay (fun c w' hc q => (hs.2 c ?_).trans q) (fun _ q => q) fun _ _ q => q
    rintro rfl
    rcases hc with rfl | hc
    · rw [I.free] at e; cases e
    · rw [I.free] at hc; cases hc
noncomputable abbrev Cx.tryc (X : Cx) (E : Value → Shared → Prop) (pn : List (Addr × Obj)) : Cx := { X with xe := E, pn := pn }
noncomputable abbrev Cx.suite (X : Cx) (a : Addr) : Cx := { X with A := X.A.mark (some (.ref a)), calm := false, xe := fun _ _ => False }
theorem inv_tryc (I : Inv X pins σ H s) (E : Value → Shared → Prop) : Inv (Cx.tryc X E (X.pn ++ pins)) [] σ H s :=
  ⟨⟨I.ok.mod, I.ok.kind, I.ok.glob, I.ok.blt, I.ok.above, I.ok.inj, I.ok.has, I.ok.cab, I.ok.hd, I.ok.frames, I.ok.stk, I.ok.exf, I.ok.bs, I.ok.bsz, I.ok.noex, I.ok.exfs, I.ok.funs, I.ok.frf⟩, I.os, I.bare, I.base, I.loc, I.cell, I.free, I.freeC,
    fun p hp => I.pin p (by simpa using hp), I.hok, I.len⟩
theorem inv_untryc {E : Value → Shared → Prop} {pins' : List (Addr × Obj)} (I : Inv (Cx.tryc X E (X.pn ++ pins)) pins' σ H s) : Inv X pins σ H s :=
  ⟨⟨I.ok.mod, I.ok.kind, I.ok.glob, I.ok.blt, I.ok.above, I.ok.inj, I.ok.has, I.ok.cab, I.ok.hd, I.ok.frames, I.ok.stk, I.ok.exf, I.ok.bs, I.ok.bsz, I.ok.noex, I.ok.exfs, I.ok.funs, I.ok.frf⟩, I.os, I.bare, I.base, I.loc, I.cell, I.free, I.freeC,
    fun p hp => I.pin p (List.mem_append_left _ hp), I.hok, I.len⟩
theorem inv_suite (I : Inv X pins σ H s) (a : Addr) : Inv (Cx.suite X a) pins σ H s :=
  ⟨⟨I.ok.mod, I.ok.kind, I.ok.glob, I.ok.blt, I.ok.above, I.ok.inj, I.ok.has, I.ok.cab, (fun z => nomatch z), I.ok.frames, I.ok.stk, I.ok.exf, I.ok.bs, I.ok.bsz, I.ok.noex, I.ok.exfs, I.ok.funs, I.ok.frf⟩, I.os, I.bare, I.base, I.loc, I.cell, I.free, I.freeC, I.pin, I.hok, I.len⟩
theorem inv_unsuite {a : Addr} (I : Inv (Cx.suite X a) pins σ H s) (ok : X.Ok) : Inv X pins σ H s := ⟨ok, I.os, I.bare, I.base, I.loc, I.cell, I.free, I.freeC, I.pin, I.hok, I.len⟩
end
noncomputable def tryS (i j : Nat) (cs : List Str) (f : SF) : SF := fun ρ => match f ρ with
  | some (.xc c ρ') => if cs.contains c then some (.nx (((ρ'.set j .no).set i (.exc c)).set j .no)) else none
  | r => r
section
variable {X : Cx} {body : List Stmt} {f : SF}
theorem ds_try (i j : Nat) {cs : List Str} {x n d : Str} {D : Addr} {np xp ep hpos apos pos : Pos} (hN : X.N.Nodup) (hst : X.stack = X.env :: X.outer) (hf : X.env.frame = some X.env.locals)
    (hD : excC X.K d = some D) (hXD : XCls X.K D) (hcs : ∀ c ∈ cs, ∃ C, excC X.K c = some C ∧ XCls X.K C ∧ PySem.W.subIn X.K (.ref C) (.ref D) = some true)
    (hb : ∀ E pn, DB (Cx.tryc X E pn) body f)
    (hi : X.N[i]? = some x := by rfl) (hj : X.N[j]? = some n := by rfl) (hg : Gl X d := by rfl) (hk : X.env.scope.names.lookup n = some .local := by rfl) (hx : X.env.scope.names.lookup x = some .local := by rfl)
    (hdb : (d == ("__debug__" : Str)) = false := by decide) (hnd : (n == ("__debug__" : Str)) = false := by decide) (hncd : (n == ("__classdict__" : Str)) = false := by decide)
    (hs : swapsWith (.Name n ep) (some (.Name x xp)) apos.line X.env = pure false := by rfl) :
    DS X (.Try body [.ExceptHandler (some (.Name d np)) (some n) [.Assign [.Name x xp] (.Name n ep) apos] hpos] [] [] pos) (tryS i j cs f) := ⟨fun pins s σ H DD I ⟨ρ, o, H0, G₀, G, e, R, q⟩ => by
  refine wpAny_Try_except ?_
  have go : ∀ o', f ρ = some o' → EndS (Cx.tryc X (fun e s₁ => wpAny (model X.prog X.w) X.A (noteFrame e X.env) (fun _ s₂ => wpAny (model X.prog X.w) X.A (setFlight e none) (fun _ s₃ => wpAny (model X.prog X.w) X.A (handleBy e X.env [.ExceptHandler (some (.Name d np)) (some n) [.Assign [.Name x xp] (.Name n ep) apos] hpos]) (SP X pins DD) X.xe s₃) X.xe s₂) X.xe s₁) (X.pn ++ pins)) H0 G₀ G DD o' →
      wpAny (model X.prog X.w) X.A (execs body X.env) (fun f s₁ => match f with | .next => wpAny (model X.prog X.w) X.A (execs [] X.env) (SP X pins DD) X.xe s₁ | f => SP X pins DD f s₁)
      (fun e s₁ => wpAny (model X.prog X.w) X.A (noteFrame e X.env) (fun _ s₂ => wpAny (model X.prog X.w) X.A (setFlight e none) (fun _ s₃ => wpAny (model X.prog X.w) X.A (handleBy e X.env [.ExceptHandler (some (.Name d np)) (some n) [.Assign [.Name x xp] (.Name n ep) apos] hpos]) (SP X pins DD) X.xe s₃) X.xe s₂) X.xe s₁) s := fun o' e' q' => by
    refine thn ((hb _ _).run [] s σ H DD (inv_tryc I _) ⟨ρ, o', H0, G₀, G, e', R, q'⟩) fun fl s1 z => ?_
    cases fl with
    | next => obtain ⟨σ', H', I', z⟩ := z; exact pss_nil pins s1 σ' H' DD (inv_untryc I') z
    | ret v => obtain ⟨v', σ', H', I', z⟩ := z; exact ⟨v', σ', H', inv_untryc I', z⟩
    | brk => obtain ⟨σ', H', I', z⟩ := z; exact ⟨σ', H', inv_untryc I', z⟩
    | cont => obtain ⟨σ', H', I', z⟩ := z; exact ⟨σ', H', inv_untryc I', z⟩
  unfold tryS at e
  split at e
  · rename_i c ρ' e'
    split at e
    · rename_i hc
      cases (Option.some.inj e)
      refine go _ e' fun pins' s' σ' H' G' ev I' R' sg ⟨a, C, hev, hE, xa⟩ => ?_
      subst hev
      have I1 : Inv X pins σ' H' s' := inv_untryc I'
      obtain ⟨C', hE', hXC, hsub⟩ := hcs c (by simpa using hc)
      have hE : excC X.K c = some C := hE
      rw [hE] at hE'; cases hE'
      have xa1 : ExcAt (fun b => Fresh X b ∧ ∀ p ∈ pins, p.1 ≠ b) H' a C s'.heap := xa.mono fun b hb => ⟨⟨hb.1, fun p hp => hb.2 p (List.mem_append_left _ hp)⟩, fun p hp => hb.2 p (List.mem_append_right _ hp)⟩
      have nw : ∀ b, s'.heap.get? b = none → Fresh X b ∧ ∀ p ∈ pins, p.1 ≠ b := fun b hb => ⟨inv_new I1 hb, fun p hp z => by
        obtain ⟨e, _⟩ := I1.pin p (List.mem_append_right _ hp)
        rw [z, hb] at e; cases e⟩
      refine note_ok (X := X) I1.ok.frames hst hf I1 xa1 nw fun h1 ch1 c1 x1 => ?_
      have I2 := Inv.chg I1 c1
      refine fly_ok (X := X) (s := { s' with heap := h1 }) c1.hok x1 fun h2 ch2 c2 x2 => ?_
      have I3 : Inv X pins σ' H' { s' with heap := h2 } := Inv.chg (s := { s' with heap := h1 }) I2 c2
      obtain ⟨_, _, oe, vs, xo, _⟩ := (show ExcAt _ H' a C h2 from .inr x2).ob
      have hm : X.mg d = some (.ref D) := PySem.W.mg_of I.mod.kin I.mod.glob (excC_is hD)
      refine wpAny_handleBy_cons (codeAny_handlers_test (ld_glob (X := Cx.suite X a) (inv_suite I3 a) hg hm (xc_match hXC hXD I3.kIn xo hsub ?_) hdb)) (by intro z; cases z)
      refine codeAny_handlers_suite_as ?_
      refine fly_ok (X := X) (s := { s' with heap := h2 }) c2.hok x2 fun h3 ch3 c3 x3 => ?_
      have I4 : Inv X pins σ' H' { s' with heap := h3 } := Inv.chg (s := { s' with heap := h2 }) I3 c3
      obtain ⟨fa, na, oe3, vs3, xo3, hv3⟩ := (show ExcAt _ H' a C h3 from .inr x3).ob
      have I5 : Inv X pins σ' (upd H' a (xcO a C)) { s' with heap := h3 } := Inv.track I4 fa na ⟨oe3, vs3, xo3.at_, hv3⟩ ⟨⟨oe3, xo3⟩, ⟨oe3, xo3.at_⟩, fun g1 g2 ⟨o1, y⟩ k => ⟨o1, k _ y.at_, y.cls⟩⟩
      have hjσ : j < σ'.length := by rw [I5.len]; exact (List.getElem?_eq_some_iff.mp hj).1
      refine store_ok (i := j) (v := .ref a) I5 hN hj (.inl hk) rfl (fun s4 I6 => ?_) (.inr hk)
      have run := pss_one (ps_set (X := Cx.suite X a) (pos := apos) (pos' := xp) hN hi (.inl hx) (pe_var (i := j) (pos := ep) hj (.inl hk) hnd hncd) hs (.inr hx)) pins s4 _ _ { nx := fun σ'' H'' => σ'' = (σ'.set j (some (.ref a))).set i (some (.ref a)) ∧ H'' = upd H' a (xcO a C), rt := fun _ _ => False } (inv_suite I6 a) ⟨.ref a, by rw [List.getElem?_set_self hjσ], rfl, rfl⟩
      refine wpAny_mono run (fun fl s5 z => ?_) fun _ _ z => False.elim z
      cases fl with
      | next =>
        obtain ⟨σ5, H5, I7, e5, e6⟩ := z
        subst e5 e6
        have I8 := inv_unsuite I7 I.ok
        refine name_goes I8 hN hj hk fun s6 I9 => ⟨_, _, I9, q G' _ _ sg ?_⟩
        have R1 : RepS X.K H0 G₀ G' (upd H' a (xcO a C)) σ' ρ' := R'.more (Grow.side R'.sub na)
        exact (((R1.setNo j _).setExc i hE upd_same).setNo j none)
      | ret v => obtain ⟨_, _, _, _, _, z⟩ := z; exact z.elim
      | brk => obtain ⟨_, _, _, z⟩ := z; exact z.elim
      | cont => obtain ⟨_, _, _, z⟩ := z; exact z.elim
    · cases e
  · rename_i z
    have n : ∀ c ρ', o ≠ .xc c ρ' := fun c ρ' w => z c ρ' (by rw [e, w])
    refine go o e ?_
    cases o with
    | nx ρ' => exact q
    | rt d => exact q
    | bk ρ' => exact q
    | ct ρ' => exact q
    | xc c ρ' => exact absurd rfl (n c ρ')⟩
end
end L2.L3
namespace L2.L3
open PySem PySem.Spec PyProof.Rows
noncomputable def exNames : List Str := ["NoMeeting", "NoText", "NoTime", "NoZone", "Taken", "TooMany"]
noncomputable def xclsB (K : PySem.W.Frag) (C : Addr) : Bool := PySem.W.excIn K C bmVE "ValueError.__new__" && (PySem.W.findIn K (.ref C) "__getattribute__" == some (some (.builtin "BaseException.__getattribute__"))) && (PySem.W.findIn K (.ref C) "__getattr__" == some none)
  && (PySem.W.findIn K (.ref C) "__class__" == some (some (.builtin "object.__class__"))) && (PySem.W.mroIn K C (.type "object") == some true)
noncomputable def exOkC (K : PySem.W.Frag) (S : Addr) (c : Str) : Bool := match excC K c with
  | some C => xclsB K C && (PySem.W.typeIn K (.ref C) == some (.type "type")) && (PySem.W.subIn K (.ref C) (.type "ValueError") == some true) && (PySem.W.subIn K (.ref C) (.ref S) == some true)
  | none => false
noncomputable def exOkD (K : PySem.W.Frag) (c d : Str) : Bool := c == d || match excC K c, excC K d with
  | some C, some D => (C != D) && (PySem.W.subIn K (.ref C) (.ref D) == some false)
  | _, _ => false
noncomputable def exOk (K : PySem.W.Frag) : Bool := match excC K "SheetError" with
  | some S => xclsB K S && exNames.all (exOkC K S) && (exNames.all fun c => exNames.all fun d => exOkD K c d)
  | none => false
theorem xcls_of {K : PySem.W.Frag} {C : Addr} (h : xclsB K C = true) : XCls K C := by
  simp only [xclsB, Bool.and_eq_true, beq_iff_eq] at h
  exact ⟨h.1.1.1.1, h.1.1.1.2, h.1.1.2, h.1.2, h.2⟩
structure ExF (K : PySem.W.Frag) : Prop where
  ok : exOk K = true
theorem ExF.she {K : PySem.W.Frag} (F : ExF K) : ∃ S, excC K "SheetError" = some S ∧ XCls K S ∧ ∀ c ∈ exNames, ∃ C, excC K c = some C ∧ XCls K C ∧ PySem.W.subIn K (.ref C) (.ref S) = some true := by
  have h := F.ok
  unfold exOk at h
  split at h
  · rename_i S hS
    rw [Bool.and_eq_true, Bool.and_eq_true] at h
    refine ⟨S, hS, xcls_of h.1.1, fun c hc => ?_⟩
    have h2 := List.all_eq_true.mp h.1.2 c hc
    unfold exOkC at h2
    split at h2
    · rename_i C hC
      simp only [Bool.and_eq_true, beq_iff_eq] at h2
      exact ⟨C, hC, xcls_of h2.1.1.1, h2.2⟩
    · cases h2
  · cases h
theorem ExF.one {K : PySem.W.Frag} (F : ExF K) {c : Str} (hc : c ∈ exNames) : ∃ C, excC K c = some C ∧ XCls K C ∧ PySem.W.typeIn K (.ref C) = some (.type "type") ∧ PySem.W.subIn K (.ref C) (.type "ValueError") = some true := by
  have h := F.ok
  unfold exOk at h
  split at h
  · rename_i S hS
    rw [Bool.and_eq_true, Bool.and_eq_true] at h
    have h2 := List.all_eq_true.mp h.1.2 c hc
    unfold exOkC at h2
    split at h2
    · rename_i C hC
      simp only [Bool.and_eq_true, beq_iff_eq] at h2
      exact ⟨C, hC, xcls_of h2.1.1.1, h2.1.1.2, h2.1.2⟩
    · cases h2
  · cases h
theorem ExF.two {K : PySem.W.Frag} (F : ExF K) {c d : Str} (hc : c ∈ exNames) (hd : d ∈ exNames) (n : c ≠ d) {C D : Addr} (eC : excC K c = some C) (eD : excC K d = some D) : C ≠ D ∧ PySem.W.subIn K (.ref C) (.ref D) = some false := by
  have h := F.ok
  unfold exOk at h
  split at h
  · rw [Bool.and_eq_true, Bool.and_eq_true] at h
    have h2 := List.all_eq_true.mp (List.all_eq_true.mp h.2 c hc) d hd
    unfold exOkD at h2
    rw [eC, eD] at h2
    rcases Bool.or_eq_true_iff.mp h2 with z | z
    · exact absurd (beq_iff_eq.mp z) n
    · simp only [Bool.and_eq_true, beq_iff_eq, bne_iff_ne] at z
      exact z
  · cases h
section
variable {X : Cx} {pos p p2 : Pos} {x : Str}
noncomputable def isNX (i : Nat) : TF := fun ρ => match ρ[i]? with
  | some (.exc _) => some (.ok false)
  | some (.val .none) => some (.ok true)
  | _ => none
theorem dt_isNX (i : Nat) {j} (hN : X.N[i]? = some x := by rfl) (hv : Vis X.env.scope x := by first | exact Or.inl rfl | exact Or.inr (Or.inl rfl) | exact Or.inr (Or.inr rfl)) (hd : (x == ("__debug__" : Str)) = false := by decide)
    (hcd : (x == ("__classdict__" : Str)) = false := by decide) : DT X (.Compare (.Name x p) [.Is] [.Constant .none j p2] pos) (isNX i) := ⟨fun pins s σ H Q I ⟨ρ, r, H0, G₀, G, e, R, q⟩ => by
  refine pt_cmpR op_isN (pe_var hN hv hd hcd) pe_non (nomark _) pins s σ H Q I ?_
  unfold isNX at e
  split at e
  · rename_i c hi
    cases (Option.some.inj e)
    obtain ⟨o, eo, a, C, rfl, _⟩ := R.at hi
    exact ⟨_, eo, rfl, _, rfl, q G H (.refl R.sub)⟩
  · rename_i hi
    cases (Option.some.inj e)
    obtain ⟨v, ev, rv⟩ := R.val hi
    cases rv
    exact ⟨_, ev, rfl, _, rfl, q G H (.refl R.sub)⟩
  · cases e⟩
noncomputable def isxE (i : Nat) (d : Str) : EF := fun ρ => match ρ[i]? with
  | some (.exc c) => if exNames.contains c then some (.ok (.bool (c == d))) else none
  | _ => none
theorem de_isx (i : Nat) {d : Str} (F : ExF X.K) (hm : X.mg "isinstance" = none) (hd' : d ∈ exNames := by decide) (hN : X.N[i]? = some x := by rfl) (hv : Vis X.env.scope x := by first | exact Or.inl rfl | exact Or.inr (Or.inl rfl) | exact Or.inr (Or.inr rfl)) (hd : (x == ("__debug__" : Str)) = false := by decide)
    (hcd : (x == ("__classdict__" : Str)) = false := by decide) (hdd : (d == ("__debug__" : Str)) = false := by decide)
    (he : starEach [.Name x p, .Name d p2] X.env = (false, eval (.Name x p) X.env) :: starEach [.Name d p2] X.env := by rfl) (he2 : starEach [.Name d p2] X.env = (false, eval (.Name d p2) X.env) :: starEach [] X.env := by rfl)
    (hpl : (backTo pos (starEach [.Name d p2] X.env)).any (·.1) = false := by rfl) (hg : Gl X "isinstance" := by rfl) (hgd : Gl X d := by rfl) {pi : Pos} : DE X (.Call (.Name "isinstance" pi) [.Name x p, .Name d p2] [] pos) (isxE i d) := ⟨fun pins s σ H Q I ⟨ρ, r, H0, G₀, G, e, R, q⟩ => by
  obtain ⟨D, hD, xD, tD', _⟩ := F.one hd'
  have hmd : X.mg d = some (.ref D) := PySem.W.mg_of I.mod.kin I.mod.glob (excC_is hD)
  have hc : CallR X (.builtin "isinstance") (fun xs H Q => ∃ a C c, xs = [.ref a, .ref D] ∧ c ∈ exNames ∧ excC X.K c = some C ∧ H a = some (xcO a C) ∧ Q (.bl (c == d)) H) := by
    intro pins s σ H xs us Q I r ⟨a, C, c, e1, hcn, hC, hH, q⟩
    subst e1
    obtain ⟨u, w', rfl, r1, r2⟩ := vals2 r
    cases r1; cases r2
    obtain ⟨⟨ox, xo⟩, _⟩ := I.hok a _ hH
    obtain ⟨C', hC', xC, _⟩ := F.one hcn
    rw [hC] at hC'; cases hC'
    by_cases h : c = d
    · subst h
      rw [hC] at hD; cases hD
      refine xc_is I.kIn xo (by unfold PySem.W.isIn; simp) ⟨.bl (c == c), H, I, by show Value.bool true = Value.bool (c == c); simp, q⟩
    · obtain ⟨n1, n2⟩ := F.two hcn hd' h hC hD
      exact xc_isnot xC xD I.kIn xo n1 tD' n2 ⟨.bl (c == d), H, I.tok _, by show Value.bool false = Value.bool (c == d); simp [h], q⟩
  refine pe_callB hc hg hm boot_isinstance (pa_cons (pe_var hN hv hd hcd) (pa_cons (pe_glob (v := .ref D) hgd hmd rfl hdd) pa_nil he2) he) (by decide) (by decide) he hpl pins s σ H Q I ?_
  unfold isxE at e
  split at e
  · rename_i c hi
    split at e
    · rename_i hcn
      cases (Option.some.inj e)
      obtain ⟨o, eo, a, C, rfl, hC, hH⟩ := R.at hi
      exact ⟨_, eo, a, C, c, rfl, by simpa using hcn, hC, hH, q _ G H (.refl R.sub) (.bool _)⟩
    · cases e
  · cases e⟩
noncomputable def isxV (i : Nat) : EF := fun ρ => match ρ[i]? with
  | some (.exc c) => if exNames.contains c then some (.ok (.bool true)) else none
  | _ => none
theorem ty_VE : typeOf (.type "ValueError") = pure (.type "type") := by kernel_rfl
theorem de_isxV (i : Nat) (F : ExF X.K) (hm : X.mg "isinstance" = none) (hmV : X.mg "ValueError" = none) (hN : X.N[i]? = some x := by rfl) (hv : Vis X.env.scope x := by first | exact Or.inl rfl | exact Or.inr (Or.inl rfl) | exact Or.inr (Or.inr rfl)) (hd : (x == ("__debug__" : Str)) = false := by decide)
    (hcd : (x == ("__classdict__" : Str)) = false := by decide)
    (he : starEach [.Name x p, .Name "ValueError" p2] X.env = (false, eval (.Name x p) X.env) :: starEach [.Name "ValueError" p2] X.env := by rfl) (he2 : starEach [.Name "ValueError" p2] X.env = (false, eval (.Name "ValueError" p2) X.env) :: starEach [] X.env := by rfl)
    (hpl : (backTo pos (starEach [.Name "ValueError" p2] X.env)).any (·.1) = false := by rfl) (hg : Gl X "isinstance" := by rfl) (hgd : Gl X "ValueError" := by rfl) {pi : Pos} : DE X (.Call (.Name "isinstance" pi) [.Name x p, .Name "ValueError" p2] [] pos) (isxV i) := ⟨fun pins s σ H Q I ⟨ρ, r, H0, G₀, G, e, R, q⟩ => by
  have hc : CallR X (.builtin "isinstance") (fun xs H Q => ∃ a C c, xs = [.ref a, .ty "ValueError"] ∧ c ∈ exNames ∧ excC X.K c = some C ∧ H a = some (xcO a C) ∧ Q (.bl true) H) := by
    intro pins s σ H xs us Q I r ⟨a, C, c, e1, hcn, hC, hH, q⟩
    subst e1
    obtain ⟨u, w', rfl, r1, r2⟩ := vals2 r
    cases r1; cases r2
    obtain ⟨⟨ox, xo⟩, _⟩ := I.hok a _ hH
    obtain ⟨C', hC', xC, _, sV⟩ := F.one hcn
    rw [hC] at hC'; cases hC'
    exact xc_isT I.kIn xo ty_VE sV ⟨.bl true, H, I, rfl, q⟩
  refine pe_callB hc hg hm boot_isinstance (pa_cons (pe_var hN hv hd hcd) (pa_cons (pe_bltn (v := .ty "ValueError") hgd hmV (by decide +kernel) rfl (by decide) (by decide)) pa_nil he2) he) (by decide) (by decide) he hpl pins s σ H Q I ?_
  unfold isxV at e
  split at e
  · rename_i c hi
    split at e
    · rename_i hcn
      cases (Option.some.inj e)
      obtain ⟨o, eo, a, C, rfl, hC, hH⟩ := R.at hi
      exact ⟨_, eo, a, C, c, rfl, by simpa using hcn, hC, hH, q _ G H (.refl R.sub) (.bool _)⟩
    · cases e
  · cases e⟩
end
noncomputable def runE (m : Nat) (f : SF) (c : Str) : Mm PyData := match f (.exc c :: List.replicate (m - 1) .no) with
  | some (.rt d) => some (.ok d)
  | some (.nx _) => some (.ok .none)
  | _ => none
noncomputable def spE (K : PySem.W.Frag) (F : Str → Mm PyData) : Sp := fun vs H Q _ => ∃ G c d a C, (Same G H ∧ Tabs K G H) ∧ vs = [.ref a] ∧ excC K c = some C ∧ H a = some (xcO a C) ∧ F c = some (.ok d) ∧ ∀ v G' H', Grow G H G' H' → Rep K G' v d → Q v H'
structure CalleeE (P : Program) (w : World) (K : PySem.W.Frag) (mg : Str → Option Value) (base : Heap) (x : Str) (k : Nat) (ps : List Str) (F : Str → Mm PyData) : Prop where
  ex : ∃ f fd, mg x = some (.ref f) ∧ PySem.W.keepIn K (.ref f) = true ∧ Binds K fd ps [] ∧ FnOk P w K mg base CX0 k f fd ps (spE K F)
theorem startX_ok {K : PySem.W.Frag} {G H : Hp} {N : List Str} {a C : Addr} {c : Str} (s : Same G H ∧ Tabs K G H) (hC : excC K c = some C) (hH : H a = some (xcO a C)) : RepS K H G G H (start N [.ref a]) (.exc c :: List.replicate (N.length - 1) .no) := by
  refine ⟨.refl s.1, by simp [start, Nat.add_comm], fun i o e h1 h2 => ?_, Inj.free (fun i e h2 => ?_), s.2⟩
  · cases i with
    | zero =>
      have h1 : some (some (V.ref a)) = some o := by simpa [start] using h1
      cases h1
      cases (Option.some.inj h2)
      exact ⟨a, C, rfl, hC, hH⟩
    | succ i =>
      rw [List.getElem?_cons_succ, List.getElem?_replicate] at h2
      split at h2
      · cases h2; trivial
      · cases h2
  · cases i with
    | zero => cases (Option.some.inj h2); rfl
    | succ i =>
      rw [List.getElem?_cons_succ, List.getElem?_replicate] at h2
      split at h2
      · cases h2; rfl
      · cases h2
section
variable {P : Program} {w : World} {K : PySem.W.Frag} {mg : Str → Option Value} {base : Heap} {X : Cx} {pos p p2 : Pos} {x y : Str} {k : Nat} {ps N : List Str} {F : Str → Mm PyData}
theorem calleeE_den {st : Stmt} {f : SF} (m : Nat) (D : Def K mg x st) (S : FnScope N ps (defScope st)) (hm : N.length = m) (hn : ps.length = 1)
    (hb : ∀ (kV doc pm : Value) (an : Option Addr) (cdv ct : Value) (us : List Value), us.length = ps.length → bindArgs (PySem.W.fnOf x x (defArgs st) (defBody st) (defScope st) .none kV doc pm an cdv ct) ⟨us, []⟩ = pure (ps.zip us))
    (body : ∀ (fa : Addr) (cdv : Value) (A : Around) (outer : List Env) (s : Shared) (H : Hp) (E : XK), Room k (A.deeper (envOfC x (defScope st) s.heap.objs.size fa cdv)) → DB (fcx P w K mg base N x (defScope st) fa cdv A outer s H E) (defBody st) f) :
    CalleeE P w K mg base x (k + 1) ps (runE m f) := by
  obtain ⟨fa, fd, Fu, hmg⟩ := D.ex
  refine ⟨fa, fd, hmg, Fu.kp, Fu.binds hb, Fu.ok S (fun vs H Q E ⟨G, c, d, a, C, s, e, _⟩ => by rw [e, hn]; rfl) (fun cdv A outer s H vs Q E hr ⟨G, c, d, a, C, sm, e, hC, hH, hF, q⟩ => ?_)⟩
  subst e
  unfold runE at hF
  rw [← hm] at hF
  split at hF
  · rename_i d' e
    cases (Option.some.inj hF)
    exact ⟨_, (body fa cdv A outer s H E hr).run, _, _, H, G, G, e, startX_ok sm hC hH, fun v G' H' _ g rv => q v G' H' g rv⟩
  · rename_i ρ' e
    cases (Option.some.inj hF)
    exact ⟨_, (body fa cdv A outer s H E hr).run, _, _, H, G, G, e, startX_ok sm hC hH, fun G' H' σ' _ R' => q .non G' H' R'.grow .none⟩
  · cases hF
noncomputable def callEx (F : Str → Mm PyData) (i : Nat) : EF := fun ρ => match ρ[i]? with
  | some (.exc c) => (match F c with | some (.ok d) => some (.ok d) | _ => none)
  | _ => none
theorem de_callEx (i : Nat) (C : CalleeE X.prog X.w X.K X.mg X.base x k ps F) (hr : Room k X.A) (hN : X.N[i]? = some y := by rfl) (hv : Vis X.env.scope y := by first | exact Or.inl rfl | exact Or.inr (Or.inl rfl) | exact Or.inr (Or.inr rfl)) (hd : (y == ("__debug__" : Str)) = false := by decide)
    (hcd : (y == ("__classdict__" : Str)) = false := by decide) (hg : Gl X x := by rfl) (hdb : (x == ("__debug__" : Str)) = false := by decide)
    (he : starEach [.Name y p2] X.env = (false, eval (.Name y p2) X.env) :: starEach [] X.env := by rfl) (hpl : (backTo pos (starEach [] X.env)).any (·.1) = false := by rfl) : DE X (.Call (.Name x p) [.Name y p2] [] pos) (callEx F i) := ⟨fun pins s σ H Q I ⟨ρ, r, H0, G₀, G, e, R, q⟩ => by
  obtain ⟨f, fd, a, b, c, Fk⟩ := C.ex
  refine pe_call Fk hr hg a b c .nil (pass0 (X := X)) (pa_cons (pe_var hN hv hd hcd) pa_nil he) hdb he hpl pins s σ H Q I ?_
  unfold callEx at e
  split at e
  · rename_i c' hi
    split at e
    · rename_i d hF
      cases (Option.some.inj e)
      obtain ⟨o, eo, a', C', rfl, hC, hH⟩ := R.at hi
      exact ⟨_, eo, G, c', d, a', C', ⟨R.sub, R.tab⟩, rfl, hC, hH, hF, fun v G' H' g rv => q v G' H' g rv⟩
    · cases e
  · cases e⟩
end
end L2.L3
namespace L2.L3
open PySem PySem.Spec PyProof.Rows
section
variable {X : Cx} {body : List Stmt} {f : SF}
theorem ds_raiseF {x m : Str} {np sp cpos pos : Pos} {j} (F : ExF X.K) (hc : X.calm = true) (hx : x ∈ exNames := by decide) (hg : Gl X x := by rfl) (hdb : (x == ("__debug__" : Str)) = false := by decide)
    (he : starEach [.Constant (.str m) j sp] X.env = (false, eval (.Constant (.str m) j sp) X.env) :: starEach [] X.env := by rfl) (hpl : (backTo cpos (starEach [] X.env)).any (·.1) = false := by rfl) :
    DS X (.Raise (some (.Call (.Name x np) [.Constant (.str m) j sp] [] cpos)) none pos) (raiseS x) := by
  obtain ⟨C, h1, h2, _⟩ := F.one hx
  exact ds_raise hc h1 h2 hg hdb he hpl
theorem ds_tryF (i j : Nat) {x n : Str} {np xp ep hpos apos pos : Pos} (F : ExF X.K) (hN : X.N.Nodup) (hst : X.stack = X.env :: X.outer) (hf : X.env.frame = some X.env.locals)
    (hb : ∀ E pn, DB (Cx.tryc X E pn) body f)
    (hi : X.N[i]? = some x := by rfl) (hj : X.N[j]? = some n := by rfl) (hg : Gl X "SheetError" := by rfl) (hk : X.env.scope.names.lookup n = some .local := by rfl) (hx : X.env.scope.names.lookup x = some .local := by rfl)
    (hnd : (n == ("__debug__" : Str)) = false := by decide) (hncd : (n == ("__classdict__" : Str)) = false := by decide)
    (hs : swapsWith (.Name n ep) (some (.Name x xp)) apos.line X.env = pure false := by rfl) :
    DS X (.Try body [.ExceptHandler (some (.Name "SheetError" np)) (some n) [.Assign [.Name x xp] (.Name n ep) apos] hpos] [] [] pos) (tryS i j exNames f) := by
  obtain ⟨S, h1, h2, h3⟩ := F.she
  exact ds_try i j hN hst hf h1 h2 h3 hb hi hj hg hk hx (by decide) hnd hncd hs
end
end L2.L3
namespace L2.L3
open PySem PySem.Spec PyProof.Rows
section
variable {X : Cx} {body : List Stmt} {f : SF}
end
end L2.L3
namespace L2.L3
open PySem PySem.Spec PyProof.Rows
theorem runX_ok {m n : Nat} {f : SF} {ds : List PyData} {d : PyData} (hl : ds.length = n) (h : f (startN m ds) = some (.rt d)) : runX m n f ds = some (.ok d) := by
  unfold runX; rw [if_pos hl, h]
theorem runX_ex {m n : Nat} {f : SF} {ds : List PyData} {c : Str} {ρ : List Ent} (hl : ds.length = n) (h : f (startN m ds) = some (.xc c ρ)) : runX m n f ds = some (.ex c) := by
  unfold runX; rw [if_pos hl, h]
theorem seqS_xc {f g : SF} {ρ ρ' : List Ent} {c : Str} (h : f ρ = some (.xc c ρ')) : seqS f g ρ = some (.xc c ρ') := by unfold seqS; rw [h]
theorem callX_e (F : List PyData → Mm PyData) (fa : AF) (ρ : List Ent) : callX F fa ρ = bnd (fa ρ) F := rfl
theorem callX_at {F : List PyData → Mm PyData} {fa : AF} {ρ : List Ent} {ds : List PyData} {r : Re PyData} (ha : fa ρ = some (.ok ds)) (h : F ds = some r) : callX F fa ρ = some r := by rw [callX_e, ha, bnd_r, h]
noncomputable def tmB (b e : Int) : Bool := decide (0 ≤ b) && (decide (b < e) && decide (e ≤ 480))
theorem tmB_iff {b e : Int} : tmB b e = true ↔ 0 ≤ b ∧ b < e ∧ e ≤ 480 := by unfold tmB; simp
theorem e_timesB (b e : Int) : F_are_times [.int b, .int e] = some (.ok (.bool (tmB b e))) := by
  have w : ∀ i : Int, F_is_whole [.int i] = some (.ok (.bool true)) := fun i => by kernel_rfl
  refine runD_ok rfl ?_
  show f_are_times [.val (.int b), .val (.int e)] = _
  unfold tmB
  by_cases h1 : 0 ≤ b <;> by_cases h2 : b < e <;> by_cases h3 : e ≤ 480 <;> simp [f_are_times, w, h1, h2, h3]
end L2.L3
namespace L2
open PySem PySem.Spec PyProof.Rows
end L2
namespace L2
open PySem PySem.Spec PyProof.Rows
section
variable (P : Program) (w : World)
end
section
variable {P : Program} {w : World} {H H' : Hp} {h h' : Heap} {a : Addr} {o : HO}
end
section
variable {P : Program} {w : World} {H : Hp} {h h' : Heap} {x e : Addr} {o' : HO}
end
section
variable {fs fs' ex ex' : List Addr} {H H1 H2 : Hp} {h h1 h2 h' : Heap} {a x e : Addr} {o : HO}
end
end L2
namespace L2
open PySem PySem.Spec PyProof.Rows
section
variable {X : Cx} {pins : List (Addr × Obj)} {σ : List (Option V)} {H H' : Hp} {s : Shared} {h' : Heap}
end
end L2
namespace L2
open PySem PySem.Spec PyProof.Rows
section
variable {X : Cx}
variable {a b : Expr} {ta tb : TE} {pos : Pos}
variable {tA tB' : TT} {rest : List Expr}
end
end L2
namespace L2
open PySem PySem.Spec PyProof.Rows
section
variable {X : Cx} {pins : List (Addr × Obj)} {σ : St} {H : Hp} {s : Shared} {a : Addr} {xs ys : List V}
end
section
variable {X : Cx} {pins : List (Addr × Obj)} {σ : St} {H : Hp} {s : Shared} {E : Value → Shared → Prop}
end
section
variable {X : Cx} {st : Stmt} {rest : List Stmt} {t u : TS} {e : Expr} {te : TE} {pos : Pos}
end
section
variable {X : Cx} {pos : Pos}
end
section
variable {X : Cx} {pos : Pos}
end
end L2
namespace L2
open PySem PySem.Spec PyProof.Rows
section
variable {X : Cx} {tg : Expr}
end
end L2
namespace L2
open PySem PySem.Spec PyProof.Rows
section
variable {X : Cx} {a b c : Expr} {ta tb tc : TE} {pos : Pos}
end
section
variable {X : Cx} {a b c : Expr} {ta tb tc : TE} {pos : Pos}
end
end L2
namespace L2
open PySem PySem.Spec PyProof.Rows
section
variable {prog : Program} {w : World} {A : Around} {E : Value → Shared → Prop} {s : Shared} {K : PySem.W.Frag} {x dx C f : Addr} {mA : Str → Option Value} {name : Str} {v : Value}
end
section
variable {P : Program} {w : World} {H H' : Hp} {h h' : Heap} {a C dx : Addr} {fs fs' : List (Str × V)}
end
section
variable {X : Cx} {pins : List (Addr × Obj)} {σ : St} {H : Hp} {s : Shared} {a C dx : Addr} {fs : List (Str × V)} {f : Str} {v : V} {A : Around} {E : Value → Shared → Prop}
end
section
variable {X : Cx} {o e value : Expr} {f : Str} {pos pos' tpos : Pos} {ta tv : TE}
end
section
variable {X : Cx} {pins : List (Addr × Obj)} {σ : St} {H : Hp} {s : Shared} {A : Around} {E : Value → Shared → Prop} {Q : Value → Shared → Prop} {c : Value} {b : Bool}
end
end L2
namespace L2
open PySem PySem.Spec PyProof.Rows
section
variable {X : Cx} {e : Expr} {es : List Expr} {te : TE} {t : TA} {pos : Pos}
end
section
variable {X : Cx} {pins : List (Addr × Obj)} {σ : St} {H : Hp} {s s' : Shared}
end
section
variable {X : Cx} {CX : CXT} {k : Nat} {f C : Addr} {fd : FuncData} {ps : List Str} {sp : Sp} {dvs : List V} {ds : List Value} {E : XK} {x m : Str} {p pos apos : Pos} {e o : Expr} {es : List Expr} {ta : TE} {t : TA}
end
section
variable {X : Cx} {CX : CXT} {k : Nat} {f C : Addr} {fd : FuncData} {ps ks : List Str} {sp : Sp} {E : XK} {x m : Str} {p pos apos kpos : Pos} {e o : Expr} {es : List Expr} {kws : List Keyword} {te ta : TE} {t tk : TA} {nm : Option Str}
variable {g : List Value → List Value → List Value} {gV : List V → List V → List V}
end
end L2
namespace L2
open PySem PySem.Spec PyProof.Rows
section
variable {X : Cx} {x : Str} {p pos : Pos} {e : Expr} {es : List Expr} {t : TA} {id T : String} {r : List V → Hp → VK → Prop}
end
end L2
namespace L2
open PySem PySem.Spec PyProof.Rows
section
variable {κ : Type} [DecidableEq κ]
noncomputable def valV (kvs : List (κ × V)) (k : κ) : Option V := (kvs.find? fun kv => decide (kv.1 = k)).map (·.2)
theorem valV_pos {p : κ × V} {r : List (κ × V)} {k : κ} (e : p.1 = k) : valV (p :: r) k = some p.2 := by simp [valV, List.find?_cons, e]
theorem valV_neg {p : κ × V} {r : List (κ × V)} {k : κ} (e : ¬ p.1 = k) : valV (p :: r) k = valV r k := by simp [valV, List.find?_cons, e]
theorem RelO.getD {o : Option V} {u : Option Value} {d : V} {d' : Value} (r : RelO o u) (rd : RelV d d') : RelV (o.getD d) (u.getD d') := by
  cases o with
  | none => cases u with
    | none => exact rd
    | some _ => exact (show False from r).elim
  | some _ => cases u with
    | none => exact (show False from r).elim
    | some _ => exact r
theorem KV.val {kvs : List (κ × V)} {vs : List (κ × Value)} (r : KV kvs vs) (k : κ) : RelO (valV kvs k) (valueAt vs k) := by
  unfold KV at r
  induction r with
  | nil => exact True.intro
  | @cons p q ps qs h t ih =>
    obtain ⟨h1, h2⟩ := h
    by_cases e : p.1 = k
    · have e' : q.1 = k := h1.symm.trans e
      have b : valueAt (q :: qs) k = some q.2 := by simp [valueAt, List.find?_cons, e']
      rw [valV_pos e, b]; exact h2
    · have e' : ¬ q.1 = k := fun z => e (h1.trans z)
      have b : valueAt (q :: qs) k = valueAt qs k := by simp [valueAt, List.find?_cons, e']
      rw [valV_neg e, b]; exact ih
end
theorem kV_is {P : Program} {w : World} {k : Key} {u : Value} (r : RelV (kV k) u) : (mixKind P w).is k u = true := by
  cases k with
  | inl i => obtain ⟨t, e⟩ := (show ∃ t, u = Value.int i t from r); subst e; exact mixKind_int P w i t
  | inr x => obtain ⟨t, e⟩ := (show ∃ t, u = Value.str x t from r); subst e; exact mixKind_str P w x t
theorem items_are {P : Program} {w : World} : ∀ {ks : List Key} {us : List Value}, Vals (ks.map kV) us → ItemsAre (mixKind P w) ks us
  | [], _, r => by rw [List.map_nil] at r; cases r; exact .nil
  | k :: ks, _, r => by
    rw [List.map_cons] at r
    cases r with
    | cons h t => exact .cons (kV_is h) (items_are t)
noncomputable abbrev KT (H : Hp) : List (List Key × V) → List (List Key × Addr × Value) → Prop := Paired fun p q => p.1 = q.1 ∧ H q.2.1 = some (.tup (p.1.map kV)) ∧ RelV p.2 q.2.2
theorem KT.val {H : Hp} {kvs : List (List Key × V)} {xs : List (List Key × Addr × Value)} (r : KT H kvs xs) (k : List Key) : RelO (valV kvs k) ((atKey xs k).map (·.2)) := by
  induction r with
  | nil => exact True.intro
  | @cons p q ps qs h t ih =>
    obtain ⟨h1, _, h2⟩ := h
    by_cases e : p.1 = k
    · have e' : q.1 = k := h1.symm.trans e
      have b : atKey (q :: qs) k = some q.2 := by simp [atKey, List.find?_cons, e']
      rw [valV_pos e, b]; exact h2
    · have e' : ¬ q.1 = k := fun z => e (h1.trans z)
      have b : atKey (q :: qs) k = atKey qs k := by simp [atKey, List.find?_cons, e']
      rw [valV_neg e, b]; exact ih
section
variable {P : Program} {w : World} {H : Hp} {h : Heap} {a : Addr}
theorem rd_of {u : HO} (ok : HOk P w H h) (e : Rd H a u) : ObjOk P w H h a u := e.ok ok
theorem dk_rd {kvs : List (Key × V)} (ok : HOk P w H h) (e : Rd H a (.dK kvs)) : kvs.length ≤ sizeLine ∧ (a == sysModules) = false ∧ ∃ vs, KV kvs vs ∧ h.DictOf (mixKind P w) a vs :=
  show ObjOk P w H h a (.dK kvs) from rd_of ok e
theorem key_of {ks : List Key} (ok : HOk P w H h) (e : H a = some (.tup (ks.map kV))) : (tupleKind (mixKind P w)).is h ks a := by
  obtain ⟨_, its, r, o, h1, h2, n, h3⟩ := (show ObjOk P w H h a (.tup (ks.map kV)) from ok a _ e)
  exact ⟨o, its.toArray, n, h1, h2, h3, by simpa using items_are r⟩
theorem dt_rd {kvs : List (List Key × V)} (ok : HOk P w H h) (e : Rd H a (.dT kvs)) : kvs.length ≤ sizeLine ∧ (a == sysModules) = false ∧
    ∃ xs, KT H kvs xs ∧ h.DictOfH (tupleKind (mixKind P w)) a xs := by
  obtain ⟨z, y, xs, r, o, es, ep, h1, h2, h3, h4, h5⟩ := (show ObjOk P w H h a (.dT kvs) from rd_of ok e)
  refine ⟨z, y, xs, r, o, es, ep, h1, h2, h3, h4, fun x hx => ?_, h5⟩
  have all : ∀ {l : List (List Key × V)} {m : List (List Key × Addr × Value)}, KT H l m → ∀ x ∈ m, (tupleKind (mixKind P w)).is h x.1 x.2.1 := by
    intro l m q
    induction q with
    | nil => intro x hx; exact nomatch hx
    | @cons p q ps qs hq t ih =>
      intro x hx
      rcases List.mem_cons.mp hx with e | hx
      · subst e
        exact key_of ok (by rw [← hq.1]; exact hq.2.1)
      · exact ih x hx
  exact all r x hx
end
noncomputable def DGet (H : Hp) (a : Addr) (y : V) (r : Option V) : Prop :=
  (∃ kvs k, Rd H a (.dK kvs) ∧ y = kV k ∧ r = valV kvs k) ∨ ∃ kvs k b, Rd H a (.dT kvs) ∧ y = .ref b ∧ H b = some (.tup (k.map kV)) ∧ r = valV kvs k
section
variable {X : Cx} {pins : List (Addr × Obj)} {σ : St} {H : Hp} {s : Shared} {a : Addr} {y v : V} {u r : Value} {o : Option V} {A : Around} {E : Value → Shared → Prop}
end
section
variable {X : Cx} {pins : List (Addr × Obj)} {σ : St} {H : Hp} {s : Shared} {a : Addr} {kvs : List (Key × V)} {k : Key} {u : Value} {A : Around} {E : Value → Shared → Prop}
end
section
variable {X : Cx} {o i e value : Expr} {pos pos' tpos : Pos} {td ty tv : TE}
end
section
variable {X : Cx} {pos : Pos}
end
structure M1 (X : Cx) (o : Expr) (m : Str) (apos : Pos) (e : Expr) (cpos : Pos) : Prop where
  base : attributeBase o m X.env (eval o X.env) = eval o X.env
  few : ((backTo cpos (starEach [e] X.env)).all (fun x => !x.1) && (backToKw cpos (keywordEach [] X.env)).all (fun x => x.1.isSome)
    && decide (([e] : List Expr).length + ([] : List Keyword).length + (if ([] : List Keyword).isEmpty then 0 else 1) < 30)) = true
  line : (apos.endLine == cpos.line) = true
  trees : backTo cpos (starEach [e] X.env) = [(false, eval e X.env)]
noncomputable def IsD (H : Hp) (a : Addr) : Prop := (∃ kvs, Rd H a (.dK kvs)) ∨ ∃ kvs, Rd H a (.dT kvs)
theorem isD_at {X : Cx} {pins : List (Addr × Obj)} {σ : St} {H : Hp} {s : Shared} {a : Addr} (I : Inv X pins σ H s) (d : IsD H a) :
    s.TypeIs (.ref a) "dict" ∧ (∀ b, Value.ref a = .ref b → ∃ ob, s.heap.get? b = some ob ∧ ob.dict = none) ∧ (a == sysModules) = false := by
  rcases d with ⟨kvs, e⟩ | ⟨kvs, e⟩
  · obtain ⟨_, hd, vs, _, dd⟩ := dk_rd I.hok e
    refine ⟨dd.typeIs, fun b q => ?_, hd⟩
    cases q
    obtain ⟨ob, _, _, h1, h2, _⟩ := dd
    exact ⟨ob, h1, h2.2.1⟩
  · obtain ⟨_, hd, xs, _, dd⟩ := dt_rd I.hok e
    refine ⟨dd.typeIs, fun b q => ?_, hd⟩
    cases q
    obtain ⟨ob, _, _, h1, h2, _⟩ := dd
    exact ⟨ob, h1, h2.2.1⟩
section
variable {X : Cx} {pins : List (Addr × Obj)} {σ : St} {H : Hp} {s : Shared} {a : Addr} {y d : V} {u r : Value} {o : Option V} {A : Around} {E : Value → Shared → Prop}
theorem d_get1 {Q : Value → Shared → Prop} (hu : A.units + 1 < cLine) (I : Inv X pins σ H s) (g : DGet H a y o) (ry : RelV y u) (h : ∀ w' s', Inv X pins σ H s' → RelV (o.getD .non) w' → Q w' s') :
    wpAny (model X.prog X.w) A (call (.builtin "dict.get") [.ref a, u]) Q E s := by
  rcases g with ⟨kvs, k, e, ey, l⟩ | ⟨kvs, k, b, e, ey, eb, l⟩
  · subst ey
    obtain ⟨z, hd, vs, rel, dd⟩ := dk_rd I.hok e
    refine call_meetsIn PySem.F.slot_dict_get dd.typeIs PySem.F.entry_dict_get (PySem.F.args_dict_get_2 _ _) (meets_dict_get (mixKind X.prog X.w) a (kV_is ry) hd) ⟨_, dd.mapOf, h _ _ (I.tok _) ?_⟩
    rw [l]
    exact (rel.val k).getD rfl
  · subst ey
    cases (show u = Value.ref b from ry)
    obtain ⟨z, hd, xs, rel, dd⟩ := dt_rd I.hok e
    refine call_meetsIn PySem.F.slot_dict_get dd.typeIs PySem.F.entry_dict_get (PySem.F.args_dict_get_2 _ _) (meetsH_dict_get (tupleKind (mixKind X.prog X.w)) a b hd) ⟨tupleKind_room_in1 hu, k, xs, key_of I.hok eb, dd, h _ _ (I.tok _) ?_⟩
    rw [l]
    exact (rel.val k).getD rfl
end
noncomputable def tDGet1 (td ty : TE) : TE := fun σ H Q => td σ H fun x H1 => ∃ a, x = .ref a ∧ IsD H1 a ∧ ty σ H1 fun y H2 => ∃ o, DGet H2 a y o ∧ Q (o.getD .non) H2
section
variable {X : Cx} {o e f : Expr} {apos cpos : Pos} {td ty tx : TE}
theorem pe_dget1 (hu : X.A.units + 1 < cLine) (ho : PE X o td) (he : PE X e ty) (m : M1 X o "get" apos e cpos) : PE X (.Call (.Attribute o "get" apos) [e] [] cpos) (tDGet1 td ty) := by
  intro pins s σ H Q I h
  refine wpAny_Call_method m.base m.few m.line PySem.F.plainAttrs_dict PySem.F.slot_dict_get PySem.F.type_dict_get (thn (ho pins s σ H _ I h) fun u s1 ⟨x, H1, I1, rx, a, ex, d, q1⟩ => ?_)
  subst ex
  obtain rfl : u = Value.ref a := rx
  obtain ⟨t1, t2, _⟩ := isD_at I1 d
  refine ⟨t1, t2, ?_⟩
  rw [m.trees]
  refine Calls.callWith_builtin rfl (Calls.evalArgs_plain (Calls.spliced_cons (thn (he pins s1 σ H1 _ I1 q1) fun iv s2 ⟨y, H2, I2, ry, ov, g, q2⟩ => Calls.spliced_nil ?_)))
  exact d_get1 hu I2 g ry fun w' s3 I3 rw' => ⟨_, H2, I3, rw', q2⟩
end
section
variable {X : Cx} {pins : List (Addr × Obj)} {σ : St} {H : Hp} {s : Shared} {a : Addr} {kvs : List (Key × V)} {A : Around} {E : Value → Shared → Prop}
end
section
variable {X : Cx} {pins : List (Addr × Obj)} {σ : St} {H : Hp} {s : Shared} {a : Addr} {y : V} {u : Value} {A : Around} {E : Value → Shared → Prop}
end
end L2
namespace Att
open PySem PySem.W PySem.Calls PyProof.Rows
section
variable {prog : Program} {w : World} {A : Around} {E : Value → Shared → Prop} {s : Shared} {K : Frag}
end
end Att
namespace L2
open PySem PySem.Spec PyProof.Rows
end L2
namespace L2
open PySem PySem.Spec PyProof.Rows
end L2
namespace L2
open PySem PySem.Spec PyProof.Rows
section
variable {P : Program} {w : World} {K : PySem.W.Frag} {mg : Str → Option Value} {base : Heap}
end
section
variable {X : Cx}
end
section
variable {κ : Type} [DecidableEq κ]
end
end L2
namespace L2.L3
open PySem PySem.Spec PyProof.Rows
section
variable {X : Cx} {e a b : Expr} {fa fb : EF} {pos p p2 p3 : Pos}
end
end L2.L3
namespace L2.L3
open PySem PySem.Spec PyProof.Rows
section
variable {X : Cx} {a e kx o f : Expr} {fa fk fv fd fx : EF} {pos p p2 : Pos}
end
noncomputable def getZ (D : List (PyData × PyData)) (k z : PyData) : Option PyData := match dKey k with
  | some k => some ((lookK k D).getD z)
  | none => none
noncomputable def getE1 (fd fk : EF) : EF := fun ρ => bnd (fd ρ) fun x => match x with
  | .dict D => bnd (fk ρ) fun k => lft (getZ D k .none)
  | _ => none
theorem valV_look {k : Key} : ∀ kvs : List (Key × V), valV kvs k = lookV k kvs
  | [] => rfl
  | p :: r => by
    unfold lookV
    by_cases c : p.1 = k
    · rw [if_pos c, valV_pos c]
    · rw [if_neg c, valV_neg c, valV_look r]
theorem lookK_none {k : Key} : ∀ {kvs : List (Key × V)} {D : List (PyData × PyData)}, D.map (·.1) = kvs.map (fun p => keyD p.1) → lookK k D = none → lookV k kvs = none
  | [], _, _, _ => rfl
  | p :: r, [], h, _ => by simp at h
  | p :: r, q :: D, h, e => by
    rw [List.map_cons, List.map_cons, List.cons.injEq] at h
    unfold lookK at e
    unfold lookV
    split at e
    · cases e
    · rename_i c
      rw [h.1, dKey_keyD] at c
      rw [if_neg fun z => c (by rw [z])]
      exact lookK_none h.2 e
theorem look_get {K : PySem.W.Frag} {G : Hp} {k : Key} {kvs : List (Key × V)} {D : List (PyData × PyData)} {z : PyData} {zv : V} (h : D.map (·.1) = kvs.map (fun p => keyD p.1)) (r : RepAll K G (kvs.map (·.2)) (D.map (·.2))) (rz : Rep K G zv z) : Rep K G ((valV kvs k).getD zv) ((lookK k D).getD z) := by
  rw [valV_look]
  cases e : lookK k D with
  | none => rw [lookK_none h e]; exact rz
  | some d =>
    obtain ⟨v, ev, rv⟩ := lookK_rep h r e
    rw [ev]; exact rv
section
variable {X : Cx} {o e f : Expr} {fd fk fx : EF} {ap cp : Pos}
theorem de_get1 (hu : X.A.units + 64 < cLine) (ho : DE X o fd) (hk : DE X e fk) (m : M1 X o "get" ap e cp := by exact ⟨rfl, rfl, rfl, rfl⟩) : DE X (.Call (.Attribute o "get" ap) [e] [] cp) (getE1 fd fk) := ⟨fun pins s σ H Q I ⟨ρ, r, H0, G₀, G, ef, R, q⟩ =>
  pe_dget1 (by omega) ho.run hk.run m pins s σ H Q I (bE R ef q.x fun x v G1 H1 g1 R1 rv e1 => by
    split at e1
    · rename_i D
      cases rv with
      | dict h e0 rr =>
        rename_i a kvs
        refine ⟨a, rfl, .inl ⟨kvs, .inl (g1.sub _ _ h)⟩, bE R1 e1 (q.more g1).x fun k u G2 H2 g2 R2 ru e2 => ?_⟩
        obtain ⟨d, ed, rfl⟩ := lft_is e2
        unfold getZ at ed
        split at ed
        · rename_i key hk'
          cases (Option.some.inj ed)
          rw [dKey_is hk'] at ru
          cases rep_key ru
          have h3 := g2.sub _ _ (g2.gg _ _ h)
          exact ⟨_, .inl ⟨kvs, key, .inl h3, rfl, rfl⟩, q _ _ _ (g1.trans g2) (look_get e0 (rr.mono g2.gg) .none)⟩
        · cases ed
    · cases e1)⟩
end
end L2.L3
namespace L2.L3
open PySem PySem.Spec PyProof.Rows
noncomputable abbrev k1_row_of : EF := compE (.nm 0) [none, some 1] (seqI (slE (var 2) (oSome (cst (.int 1))) oNone)) ttT (getE1 (var 1) (var 0))
noncomputable def f_row_of : SF := (seqS (setS 2 (dfE splD (var 0) (cst (.str " ")))) (retS (bltE tupD (aCons (op2 addD (slE (var 2) oNone (oSome (cst (.int 1)))) k1_row_of) aNil))))
noncomputable def F_row_of : List PyData → Mm PyData := runD 3 2 f_row_of
noncomputable def f_moment_text : SF := (seqS (setS 1 (callE F_day_of (aCons (var 0) aNil))) (seqS (setS 2 (op2 modD (var 0) (cst (.int 48)))) (retS (jnE (aCons (op1 fmtD (var 1)) (aCons (cst (.str ":")) (aCons (op1 fmtD (var 2)) aNil)))))))
noncomputable def F_moment_text : List PyData → Mm PyData := runD 3 1 f_moment_text
noncomputable abbrev t1_readX : TF := notT (truT (op1 (isD "str") (var 0)))
noncomputable abbrev k1_readX : EF := compE (.nm 0) [none] (rng1 (op2 addD (cst (.int 480)) (cst (.int 1)))) ttT (tupE (aCons (callE F_moment_text (aCons (var 0) aNil)) (aCons (var 0) aNil)))
noncomputable abbrev k2_readX : EF := compE (.nm 0) [none, some 1] (seqI (slE (var 2) oNone (oSome (op1 negD (cst (.int 1)))))) ttT (callE F_row_of (aCons (var 0) (aCons (var 1) aNil)))
noncomputable abbrev t2_readX : TF := orT (cmpT neD (op2 ixD (var 2) (op1 negD (cst (.int 1)))) (cst (.str ""))) (notT (truT (callE F_is_sheet (aCons (var 3) aNil))))
noncomputable def f_readX : SF := (seqS (ifS t1_readX (raiseS "NoText") nilS) (seqS (setS 1 (bltE dictD (aCons k1_readX aNil))) (seqS (setS 2 (dfE splD (var 0) (cst (.str "\n")))) (seqS (setS 3 (bltE tupD (aCons k2_readX aNil))) (seqS (ifS t2_readX (raiseS "NoText") nilS) (retS (var 3)))))))
noncomputable def F_readX : List PyData → Mm PyData := runX 4 1 f_readX
noncomputable def f_line_of : SF := (seqS (setS 1 (op2 ixD (var 0) (cst (.int 0)))) (seqS (setS 2 (callE F_moment_text (aCons (op2 ixD (var 0) (cst (.int 1))) aNil))) (seqS (setS 3 (callE F_moment_text (aCons (op2 ixD (var 0) (cst (.int 2))) aNil))) (retS (jnE (aCons (op1 fmtD (var 1)) (aCons (cst (.str " ")) (aCons (op1 fmtD (var 2)) (aCons (cst (.str " ")) (aCons (op1 fmtD (var 3)) (aCons (cst (.str "\n")) aNil)))))))))))
noncomputable def F_line_of : List PyData → Mm PyData := runD 4 1 f_line_of
noncomputable abbrev k1_written : EF := compE (.nm 0) [none] (seqI (var 0)) ttT (callE F_line_of (aCons (var 0) aNil))
noncomputable def f_written : SF := (retS (dfE joiD (cst (.str "")) k1_written))
noncomputable def F_written : List PyData → Mm PyData := runD 1 1 f_written
noncomputable def mtx (m : Int) : Str := catS Str.empty [Str.ofString (toString (m / 48)), ":", Str.ofString (toString (m % 48))]
noncomputable def valL : List Nat → Nat → Nat → Bool → Nat
  | [], a, b, _ => a * 48 + b
  | c :: l, a, b, k => if c = 58 then valL l a b true else if k then valL l a (b * 10 + (c - 48)) true else valL l (a * 10 + (c - 48)) b false
noncomputable def valS (t : Str) : Nat := valL t.cps.toList 0 0 false
theorem mtx_all : (List.range 481).all (fun m => decide ((mtx (m : Int)).length ≤ 5) && decide (valS (mtx (m : Int)) = m) && (mtx (m : Int)).cps.toList.all (fun c => decide (c ≠ 32) && decide (c ≠ 10) && decide (c < 128))) = true := by decide +kernel
theorem mtx_at {m : Nat} (h : m < 481) : (mtx (m : Int)).length ≤ 5 ∧ valS (mtx (m : Int)) = m ∧ ∀ c ∈ (mtx (m : Int)).cps.toList, c ≠ 32 ∧ c ≠ 10 ∧ c < 128 := by
  have := List.all_eq_true.mp mtx_all m (List.mem_range.mpr h)
  rw [Bool.and_eq_true, Bool.and_eq_true, decide_eq_true_eq, decide_eq_true_eq] at this
  refine ⟨this.1.1, this.1.2, fun c hc => ?_⟩
  have := List.all_eq_true.mp this.2 c hc
  simp only [Bool.and_eq_true, decide_eq_true_eq] at this
  exact ⟨this.1.1, this.1.2, this.2⟩
theorem mtx_i {m : Int} (h0 : 0 ≤ m) (h1 : m ≤ 480) : (mtx m).length ≤ 5 ∧ ((valS (mtx m) : Nat) : Int) = m ∧ ∀ c ∈ (mtx m).cps.toList, c ≠ 32 ∧ c ≠ 10 ∧ c < 128 := by
  have h := mtx_at (m := m.toNat) (by omega)
  rw [show ((m.toNat : Nat) : Int) = m by omega] at h
  exact ⟨h.1, by have := h.2.1; omega, h.2.2⟩
theorem e_mtx {m : Int} (h0 : 0 ≤ m) (h1 : m ≤ 480) : F_moment_text [.int m] = some (.ok (.str (mtx m))) := by
  have hl := (mtx_i h0 h1).1
  have s1 : smallI (m / 48) = true := by unfold smallI; simp only [Bool.and_eq_true, decide_eq_true_eq]; omega
  have s2 : smallI (m % 48) = true := by unfold smallI; simp only [Bool.and_eq_true, decide_eq_true_eq]; omega
  refine runD_ok rfl ?_
  show f_moment_text [.val (.int m), .no, .no] = _
  unfold f_moment_text
  rw [seqS_nx (ρ' := [.val (.int m), .val (.int (m / 48)), .no]) (by rw [setS_e, call_at (ds := [.int m]) rfl (e_day_of m)]; rfl)]
  rw [seqS_nx (ρ' := [.val (.int m), .val (.int (m / 48)), .val (.int (m % 48))]) (by simp)]
  have a1 : op1 fmtD (var 1) [.val (.int m), .val (.int (m / 48)), .val (.int (m % 48))] = some (.ok (.str (Str.ofString (toString (m / 48))))) := by
    show lft (if smallI (m / 48) = true then _ else none) = _
    rw [if_pos s1]; rfl
  have a2 : op1 fmtD (var 2) [.val (.int m), .val (.int (m / 48)), .val (.int (m % 48))] = some (.ok (.str (Str.ofString (toString (m % 48))))) := by
    show lft (if smallI (m % 48) = true then _ else none) = _
    rw [if_pos s2]; rfl
  rw [retS_e]
  unfold jnE
  rw [aCons_at a1 (aCons_at rfl (aCons_at a2 rfl))]
  show bns (if szOk (mtx m).length = true then some (Re.ok (PyData.str (mtx m))) else none) _ _ = _
  rw [if_pos (by unfold szOk; exact decide_eq_true (by omega))]; rfl
noncomputable def momD : List (PyData × PyData) := (List.range 481).map fun (m : Nat) => (.str (mtx (m : Int)), .int (m : Int))
noncomputable def mom (t : Str) : Option Int := if valS t < 481 ∧ mtx (valS t : Nat) = t then some (valS t : Nat) else none
theorem look_app (k : Key) : ∀ (a b : List (PyData × PyData)), lookK k (a ++ b) = (lookK k a).or (lookK k b)
  | [], b => by simp [lookK]
  | p :: a, b => by
    show (if dKey p.1 = some k then some p.2 else lookK k (a ++ b)) = Option.or (if dKey p.1 = some k then some p.2 else lookK k a) (lookK k b)
    split
    · rfl
    · exact look_app k a b
theorem look_rng (t : Str) : ∀ n, n ≤ 481 → lookK (.inr t) ((List.range n).map fun (m : Nat) => ((.str (mtx (m : Int)), .int (m : Int)) : PyData × PyData)) = if valS t < n ∧ mtx (valS t : Nat) = t then some (.int (valS t : Nat)) else none
  | 0, _ => by simp [lookK]
  | n + 1, h => by
    rw [List.range_succ, List.map_append, look_app, look_rng t n (by omega)]
    show Option.or _ (if some (Sum.inr (mtx (n : Int)) : Key) = some (.inr t) then some (PyData.int (n : Int)) else none) = _
    by_cases c : mtx (n : Int) = t
    · have v : valS t = n := by rw [← c]; exact (mtx_at (by omega)).2.1
      rw [if_neg (fun z => by have := z.1; omega), if_pos (by rw [c]), v, if_pos ⟨by omega, c⟩]; rfl
    · rw [if_neg (fun z => c (Sum.inr.inj (Option.some.inj z)))]
      by_cases d : valS t < n ∧ mtx (valS t : Nat) = t
      · rw [if_pos d, if_pos ⟨by omega, d.2⟩]; rfl
      · rw [if_neg d, if_neg]
        · rfl
        · rintro ⟨d1, d2⟩
          by_cases z : valS t = n
          · rw [z] at d2; exact c d2
          · exact d ⟨by omega, d2⟩
theorem look_mom (t : Str) : lookK (.inr t) momD = (mom t).map .int := by
  unfold momD mom
  rw [look_rng t 481 (Nat.le_refl _)]
  split <;> rfl
theorem mom_is {t : Str} {m : Int} (h : mom t = some m) : 0 ≤ m ∧ m ≤ 480 ∧ mtx m = t := by
  unfold mom at h
  split at h
  · rename_i c
    cases h
    exact ⟨by omega, by omega, c.2⟩
  · cases h
theorem mom_mtx {m : Int} (h0 : 0 ≤ m) (h1 : m ≤ 480) : mom (mtx m) = some m := by
  have h := mtx_i h0 h1
  unfold mom
  rw [if_pos ⟨by have := h.2.1; omega, by rw [h.2.1]⟩, h.2.1]
theorem e_momD {x1 x2 x3 x0 : Ent} : bltE dictD (aCons k1_readX aNil) [x0, x1, x2, x3] = some (.ok (.dict momD)) := by
  have k1 : k1_readX [x0, x1, x2, x3] = some (.ok (.list ((List.range 481).map fun (m : Nat) => .tuple [.str (mtx (m : Int)), .int (m : Int)]))) :=
    compE_all (fun (k : Nat) => PyData.int (0 + (k : Int))) (fun k => [.val (.int (k : Int))]) (fun m => .tuple [.str (mtx (m : Int)), .int (m : Int)]) (List.range 481) (rng1_at (n := 481) rfl (by decide) (by decide)) (by decide) (fun k _ => by simp [capE]) (fun k hk => by
      have hk := List.mem_range.mp hk
      unfold tupE
      rw [aCons_at (call_at (ds := [.int (k : Int)]) rfl (e_mtx (by omega) (by omega))) (aCons_at rfl rfl)]; rfl)
  have al : allD pairK ((List.range 481).map fun (m : Nat) => .tuple [.str (mtx (m : Int)), .int (m : Int)]) = some ((List.range 481).map fun (m : Nat) => ((.inr (mtx (m : Int)) : Key), PyData.int (m : Int))) := by
    have := allD_map (f := pairK) (g := fun p : Key × PyData => .tuple [keyD p.1, p.2]) (fun p => by
      show (dKey (keyD p.1)).map (fun k => (k, p.2)) = _
      rw [dKey_keyD]; rfl) ((List.range 481).map fun (m : Nat) => ((.inr (mtx (m : Int)) : Key), PyData.int (m : Int)))
    rw [List.map_map] at this
    exact this
  have nd : (((List.range 481).map fun (m : Nat) => ((.inr (mtx (m : Int)) : Key), PyData.int (m : Int))).map (·.1)).Nodup := by
    rw [List.map_map, List.nodup_iff_pairwise_ne, List.pairwise_map]
    refine (List.nodup_iff_pairwise_ne.mp List.nodup_range).imp_of_mem fun {a b} ha hb h z => h ?_
    have e : mtx (a : Int) = mtx (b : Int) := Sum.inr.inj z
    have h1 := (mtx_at (List.mem_range.mp ha)).2.1
    have h2 := (mtx_at (List.mem_range.mp hb)).2.1
    rw [← h1, ← h2, e]
  refine blt_at (ds := [.list ((List.range 481).map fun (m : Nat) => .tuple [.str (mtx (m : Int)), .int (m : Int)])]) (by rw [aCons_e, k1]; rfl) ?_
  unfold dictD
  dsimp only
  rw [al]
  dsimp only
  rw [if_pos (by rw [Bool.and_eq_true, decide_eq_true_eq, decide_eq_true_eq]; exact ⟨nd, by rw [List.length_map, List.length_range]; omega⟩)]
  unfold mkDict momD
  rw [List.map_map]; rfl
end L2.L3
namespace L2.L3
open PySem PySem.Spec PyProof.Rows
theorem join_one (c x : Str) : Str.join c [x] = x := rfl
theorem join_two (c x y : Str) (r : List Str) : Str.join c (x :: y :: r) = x ++ c ++ Str.join c (y :: r) := rfl
theorem cps_app (a b : Str) : (a ++ b).cps.toList = a.cps.toList ++ b.cps.toList := by
  rw [show (a ++ b).cps = a.cps ++ b.cps from rfl, Array.toList_append]
theorem str_ext {a b : Str} (h : a.cps.toList = b.cps.toList) : a = b := by
  cases a; cases b; congr; exact Array.toList_inj.mp h
theorem free_two {c : Nat} : ∀ {p q a b : List Nat}, c ∉ p → c ∉ q → p ++ c :: a = q ++ c :: b → p = q ∧ a = b
  | [], [], _, _, _, _, h => ⟨rfl, (List.cons.inj h).2⟩
  | [], y :: q, _, _, _, hq, h => absurd (by rw [(List.cons.inj h).1]; simp) hq
  | x :: p, [], _, _, hp, _, h => absurd (by rw [← (List.cons.inj h).1]; simp) hp
  | x :: p, y :: q, a, b, hp, hq, h => by
    obtain ⟨e1, e2⟩ := List.cons.inj h
    obtain ⟨e3, e4⟩ := free_two (fun z => hp (List.mem_cons_of_mem _ z)) (fun z => hq (List.mem_cons_of_mem _ z)) e2
    exact ⟨by rw [e1, e3], e4⟩
theorem join_L (c : Nat) (x y : Str) (r : List Str) : (Str.join ⟨#[c]⟩ (x :: y :: r)).cps.toList = x.cps.toList ++ c :: (Str.join ⟨#[c]⟩ (y :: r)).cps.toList := by
  rw [join_two, cps_app, cps_app, List.append_assoc]; rfl
theorem join_inj (c : Nat) : ∀ (ps qs : List Str), ps ≠ [] → qs ≠ [] → (∀ p ∈ ps, c ∉ p.cps.toList) → (∀ p ∈ qs, c ∉ p.cps.toList) → Str.join ⟨#[c]⟩ ps = Str.join ⟨#[c]⟩ qs → ps = qs
  | [], _, h, _, _, _, _ => absurd rfl h
  | _, [], _, h, _, _, _ => absurd rfl h
  | [p], [q], _, _, _, _, h => by rw [join_one, join_one] at h; rw [h]
  | [p], q :: q2 :: r, _, _, hp, _, h => by
    rw [join_one] at h
    exact absurd (by rw [h, join_L]; simp) (hp p (by simp))
  | p :: p2 :: r, [q], _, _, _, hq, h => by
    rw [join_one] at h
    exact absurd (by rw [← h, join_L]; simp) (hq q (by simp))
  | p :: p2 :: r, q :: q2 :: r', _, _, hp, hq, h => by
    have e := congrArg (fun z : Str => z.cps.toList) h
    rw [join_L, join_L] at e
    obtain ⟨e1, e2⟩ := free_two (hp p (by simp)) (hq q (by simp)) e
    rw [str_ext e1, join_inj c (p2 :: r) (q2 :: r') (by simp) (by simp) (fun x hx => hp x (List.mem_cons_of_mem _ hx)) (fun x hx => hq x (List.mem_cons_of_mem _ hx)) (str_ext e2)]
theorem split_ne (x y : Str) : Txt.split x y ≠ [] := by
  unfold Txt.split
  split
  · simp
  · split
    · simp
    · rw [StrLaws.partsBetween_eq]
      obtain ⟨p, r, e⟩ := StrLaws.partsFrom_ne x y.length 0 (Builtin.Str.occurrences x y 0 x.length (x.length + 1))
      rw [e]; simp
theorem split_is {c : Nat} {x : Str} {ps : List Str} (h : Str.join ⟨#[c]⟩ ps = x) (ne : ps ≠ []) (hf : ∀ p ∈ ps, c ∉ p.cps.toList) : Txt.split x ⟨#[c]⟩ = ps :=
  join_inj c _ _ (split_ne _ _) ne (StrLaws.split_free x c) hf (by rw [StrLaws.join_split, h])
theorem join_part (c : Str) : ∀ (ps : List Str), ∀ p ∈ ps, p.length ≤ (Str.join c ps).length
  | [], _, h => nomatch h
  | [x], p, h => by rw [List.mem_singleton.mp h]; exact Nat.le_refl _
  | x :: y :: r, p, h => by
    rw [join_two, strLen_append, strLen_append]
    rcases List.mem_cons.mp h with rfl | h
    · omega
    · have := join_part c (y :: r) p h; omega
theorem join_many (c : Nat) : ∀ (ps : List Str), ps.length ≤ (Str.join ⟨#[c]⟩ ps).length + 1
  | [] => Nat.zero_le _
  | [x] => by simp
  | x :: y :: r => by
    have := join_many c (y :: r)
    have e : (⟨#[c]⟩ : Str).length = 1 := rfl
    rw [join_two, strLen_append, strLen_append, e, List.length_cons]
    omega
theorem split_len (x : Str) (c : Nat) : (Txt.split x ⟨#[c]⟩).length ≤ x.length + 1 := by
  have := join_many c (Txt.split x ⟨#[c]⟩)
  rwa [StrLaws.join_split] at this
theorem split_part {x y p : Str} (h : p ∈ Txt.split x y) : p.length ≤ x.length := by
  have := join_part y _ p h
  rwa [StrLaws.join_split] at this
theorem sp_eq : Str.ofString " " = ⟨#[32]⟩ := by decide +kernel
theorem nl_eq : Str.ofString "\n" = ⟨#[10]⟩ := by decide +kernel
theorem spl_at {x : Str} {c : Nat} (h : x.length ≤ 10000) : splD (.str x) (.str ⟨#[c]⟩) = some (.list ((Txt.split x ⟨#[c]⟩).map .str)) := by
  have l := split_len x c
  show (if ((⟨#[c]⟩ : Str).length != 0 && szOk x.length && szOk (Txt.split x ⟨#[c]⟩).length) = true then _ else none) = _
  rw [if_pos]
  rw [Bool.and_eq_true, Bool.and_eq_true]
  exact ⟨⟨rfl, by unfold szOk; exact decide_eq_true (by omega)⟩, by unfold szOk; exact decide_eq_true (by omega)⟩
noncomputable abbrev sp : Str := ⟨#[32]⟩
noncomputable abbrev nl : Str := ⟨#[10]⟩
noncomputable def momV (t : Str) : PyData := ((mom t).map PyData.int).getD .none
noncomputable def rowD (ps : List Str) : PyData := .tuple ((ps.take 1).map .str ++ (ps.drop 1).map momV)
theorem e_row {l : Str} (hl : l.length ≤ 10000) : F_row_of [.str l, .dict momD] = some (.ok (rowD (Txt.split l sp))) := by
  have ln := split_len l 32
  refine runD_ok rfl ?_
  show f_row_of [.val (.str l), .val (.dict momD), .no] = _
  unfold f_row_of
  rw [seqS_nx (ρ' := [.val (.str l), .val (.dict momD), .val (.list ((Txt.split l sp).map .str))]) (by
    rw [setS_e]
    unfold dfE
    show bns (lft (splD (.str l) (.str (Str.ofString " ")))) _ _ = _
    rw [sp_eq, spl_at hl]; rfl)]
  generalize Txt.split l sp = ps at ln
  have d1 : slE (var 2) (oSome (cst (.int 1))) oNone [.val (.str l), .val (.dict momD), .val (.list (ps.map .str))] = some (.ok (.list ((ps.drop 1).map .str))) := by
    show lft (some (PyData.list (cutD (ps.map .str) (some 1) none))) = _
    rw [cutD_from _ (by decide), List.map_drop]; rfl
  have d2 : slE (var 2) oNone (oSome (cst (.int 1))) [.val (.str l), .val (.dict momD), .val (.list (ps.map .str))] = some (.ok (.list ((ps.take 1).map .str))) := by
    show lft (some (PyData.list (cutD (ps.map .str) none (some 1)))) = _
    rw [cutD_upto _ (by decide), List.map_take]; rfl
  have k1 : k1_row_of [.val (.str l), .val (.dict momD), .val (.list (ps.map .str))] = some (.ok (.list ((ps.drop 1).map momV))) :=
    compE_all PyData.str (fun t => [.val (.str t), .val (.dict momD)]) momV (ps.drop 1) (seqI_at d1 rfl) (by rw [List.length_drop]; omega) (fun t _ => by simp [capE]) (fun t _ => by
      show lft (some ((lookK (.inr t) momD).getD .none)) = _
      rw [look_mom]; rfl)
  have ad : op2 addD (slE (var 2) oNone (oSome (cst (.int 1)))) k1_row_of [.val (.str l), .val (.dict momD), .val (.list (ps.map .str))] = some (.ok (.list ((ps.take 1).map .str ++ (ps.drop 1).map momV))) := by
    rw [op2_e, d2, bnd_r, k1, bnd_r, add_ll, if_pos (by rw [List.length_map, List.length_map, List.length_take, List.length_drop]; omega)]; rfl
  rw [retS_e, blt_at (ds := [.list ((ps.take 1).map .str ++ (ps.drop 1).map momV)]) (by rw [aCons_e, ad]; rfl) (tup_l _)]; rfl
noncomputable def rowsT (t : Str) : List PyData := (Txt.split t nl).dropLast.map fun l => rowD (Txt.split l sp)
theorem cut_last (ds : List PyData) : cutD ds none (some (-1)) = ds.dropLast := by
  unfold cutD
  rw [List.dropLast_eq_take]
  show ((ds.drop 0).take ((-1 + (ds.length : Int)).toNat - 0)) = _
  rw [List.drop_zero, Nat.sub_zero, show (-1 + (ds.length : Int)).toNat = ds.length - 1 by omega]
theorem last_is {ds : List PyData} (h : ds ≠ []) : atI ds (-1) = some (ds.getLast h) := by
  conv => lhs; rw [← List.dropLast_concat_getLast h]
  exact atI_last _ _
theorem e_read {t : Str} (ht : t.length ≤ 10000) {b : Bool} (hb : F_is_sheet [.tuple (rowsT t)] = some (.ok (.bool b))) : F_readX [.str t] =
    if (Txt.split t nl).getLast (split_ne _ _) = Str.empty ∧ b = true then some (.ok (.tuple (rowsT t))) else some (.ex "NoText") := by
  have ln : (Txt.split t nl).length ≤ t.length + 1 := split_len t 10
  have ne := split_ne t nl
  have s1 : ifS t1_readX (raiseS "NoText") nilS [.val (.str t), .no, .no, .no] = some (.nx [.val (.str t), .no, .no, .no]) := rfl
  have s2 : setS 1 (bltE dictD (aCons k1_readX aNil)) [.val (.str t), .no, .no, .no] = some (.nx [.val (.str t), .val (.dict momD), .no, .no]) := by rw [setS_e, e_momD]; rfl
  have s3 : setS 2 (dfE splD (var 0) (cst (.str "\n"))) [.val (.str t), .val (.dict momD), .no, .no] = some (.nx [.val (.str t), .val (.dict momD), .val (.list ((Txt.split t nl).map .str)), .no]) := by
    rw [setS_e]
    unfold dfE
    show bns (lft (splD (.str t) (.str (Str.ofString "\n")))) _ _ = _
    rw [nl_eq, spl_at ht]; rfl
  have d1 : slE (var 2) oNone (oSome (op1 negD (cst (.int 1)))) [.val (.str t), .val (.dict momD), .val (.list ((Txt.split t nl).map .str)), .no] = some (.ok (.list ((Txt.split t nl).dropLast.map .str))) := by
    show lft (some (PyData.list (cutD ((Txt.split t nl).map .str) none (some (-1))))) = _
    rw [cut_last, ← List.map_dropLast]; rfl
  have k2 : k2_readX [.val (.str t), .val (.dict momD), .val (.list ((Txt.split t nl).map .str)), .no] = some (.ok (.list (rowsT t))) :=
    compE_all PyData.str (fun l => [.val (.str l), .val (.dict momD)]) (fun l => rowD (Txt.split l sp)) (Txt.split t nl).dropLast (seqI_at d1 rfl) (by rw [List.length_dropLast]; omega) (fun l _ => by simp [capE]) (fun l hl => by
      have := split_part (List.dropLast_subset _ hl)
      exact call_at (ds := [.str l, .dict momD]) rfl (e_row (by omega)))
  have s4 : setS 3 (bltE tupD (aCons k2_readX aNil)) [.val (.str t), .val (.dict momD), .val (.list ((Txt.split t nl).map .str)), .no] = some (.nx [.val (.str t), .val (.dict momD), .val (.list ((Txt.split t nl).map .str)), .val (.tuple (rowsT t))]) := by
    rw [setS_e, blt_at (ds := [.list (rowsT t)]) (by rw [aCons_e, k2]; rfl) (tup_l _)]; rfl
  have l1 : op2 ixD (var 2) (op1 negD (cst (.int 1))) [.val (.str t), .val (.dict momD), .val (.list ((Txt.split t nl).map .str)), .val (.tuple (rowsT t))] = some (.ok (.str ((Txt.split t nl).getLast ne))) := by
    show lft (atI ((Txt.split t nl).map PyData.str) (-1)) = _
    rw [last_is (by simpa using ne), List.getLast_map]; rfl
  have t2 : t2_readX [.val (.str t), .val (.dict momD), .val (.list ((Txt.split t nl).map .str)), .val (.tuple (rowsT t))] = some (.ok (!(decide ((Txt.split t nl).getLast ne = Str.empty) && b))) := by
    rw [show t2_readX = orT _ _ from rfl, orT_e, cmpT_at (x := .str ((Txt.split t nl).getLast ne)) (y := .str "") l1 rfl (ne_ss _ _), bnd_r]
    have z : notT (truT (callE F_is_sheet (aCons (var 3) aNil))) [.val (.str t), .val (.dict momD), .val (.list ((Txt.split t nl).map .str)), .val (.tuple (rowsT t))] = some (.ok (!b)) := by
      show bnd (bnd (callE F_is_sheet (aCons (var 3) aNil) _) _) _ = _
      rw [call_at (ds := [.tuple (rowsT t)]) rfl hb]; rfl
    rw [z]
    rw [show (Str.ofString "") = Str.empty from by decide +kernel]
    by_cases c : (Txt.split t nl).getLast ne = Str.empty
    · rw [decide_eq_true c]; rfl
    · rw [decide_eq_false c]; rfl
  have fin : F_readX [.str t] = runX 4 1 f_readX [.str t] := rfl
  by_cases c : (Txt.split t nl).getLast ne = Str.empty ∧ b = true
  · rw [if_pos c]
    refine runX_ok rfl ?_
    show f_readX [.val (.str t), .no, .no, .no] = _
    unfold f_readX
    rw [seqS_nx s1, seqS_nx s2, seqS_nx s3, seqS_nx s4, seqS_nx (by rw [ifS_e, t2, decide_eq_true c.1, c.2]; rfl)]; rfl
  · rw [if_neg c]
    refine runX_ex (ρ := [.val (.str t), .val (.dict momD), .val (.list ((Txt.split t nl).map .str)), .val (.tuple (rowsT t))]) rfl ?_
    show f_readX [.val (.str t), .no, .no, .no] = _
    unfold f_readX
    rw [seqS_nx s1, seqS_nx s2, seqS_nx s3, seqS_nx s4]
    have c' : (!(decide ((Txt.split t nl).getLast ne = Str.empty) && b)) = true := by
      cases b with
      | false => simp
      | true => simpa using fun z => c ⟨z, rfl⟩
    exact seqS_xc (by rw [ifS_e, t2, c']; rfl)
noncomputable def nmB (z : Str) : Bool := decide (1 ≤ z.length) && decide (z.length ≤ 4) && (lettersOf z).all fun l => leStr "a" l && leStr l "z"
theorem e_nameB {z : Str} (hz : z.length ≤ 100000) : F_is_name [.str z] = some (.ok (.bool (nmB z))) := by
  have t1 : t1_is_name [.val (.str z)] = some (.ok (!(decide (1 ≤ z.length) && decide (z.length ≤ 4)))) := by
    have e : t1_is_name [.val (.str z)] = bnd (bnd (some (.ok (decide ((1 : Int) ≤ (z.length : Nat))))) fun t => if t then some (.ok (decide (((z.length : Nat) : Int) ≤ 4))) else some (.ok false)) fun t => some (.ok (!t)) := by
      have q : bltE lenD (aCons (var 0) aNil) [.val (.str z)] = some (.ok (.int (z.length : Nat))) := by
        show lft (if szOk z.length = true then some (PyData.int (z.length : Nat)) else none) = _
        rw [if_pos (by unfold szOk; exact decide_eq_true hz)]; rfl
      show bnd (bnd (bltE lenD (aCons (var 0) aNil) [.val (.str z)]) _) _ = _
      rw [q]; rfl
    rw [e]
    have q1 : decide ((1 : Int) ≤ (z.length : Nat)) = decide (1 ≤ z.length) := by by_cases c : 1 ≤ z.length <;> simp [c] <;> omega
    have q2 : decide (((z.length : Nat) : Int) ≤ 4) = decide (z.length ≤ 4) := by by_cases c : z.length ≤ 4 <;> simp [c] <;> omega
    rw [q1, q2]
    by_cases c : 1 ≤ z.length <;> simp [c]
  refine runD_ok rfl ?_
  show f_is_name [.val (.str z)] = _
  unfold f_is_name nmB
  cases hc : (decide (1 ≤ z.length) && decide (z.length ≤ 4)) with
  | false =>
    rw [hc] at t1
    refine (seqS_rt (d := .bool false) (by rw [ifS_e, t1]; rfl)).trans ?_
    rfl
  | true =>
    rw [hc] at t1
    rw [seqS_nx (ρ' := [.val (.str z)]) (by rw [ifS_e, t1]; rfl)]
    have hl : z.length ≤ 4 := by rw [Bool.and_eq_true, decide_eq_true_eq, decide_eq_true_eq] at hc; exact hc.2
    have k1 : k1_is_name [.val (.str z)] = some (.ok (.list (((lettersOf z).map fun l => leStr "a" l && leStr l "z").map .bool))) := by
      rw [List.map_map]
      refine compE_all PyData.str (fun l => [.val (.str l)]) _ (lettersOf z) rfl (by unfold lettersOf; rw [List.length_map, Array.length_toList]; exact Nat.le_trans hl (by decide)) (fun l _ => by simp [capE]) (fun l _ => ?_)
      have e : chnE leD leD (cst (.str "a")) (var 0) (cst (.str "z")) [.val (.str l)] = bnd (some (.ok (leStr "a" l))) fun t => if t then some (.ok (.bool (leStr l "z"))) else some (.ok (.bool false)) := rfl
      rw [e, bnd_r]
      show _ = some (Re.ok (PyData.bool (leStr "a" l && leStr l "z")))
      cases leStr "a" l <;> rfl
    rw [retS_e, blt_at (ds := [.list (((lettersOf z).map fun l => leStr "a" l && leStr l "z").map .bool)]) (by rw [aCons_e, k1]; rfl) (all_bools _), bns_r, List.all_map]
    rfl
theorem nm_letters {z : Str} (h : nmB z = true) : z.length ≤ 4 ∧ ∀ c ∈ z.cps.toList, 97 ≤ c ∧ c ≤ 122 := by
  unfold nmB at h
  rw [Bool.and_eq_true, Bool.and_eq_true, decide_eq_true_eq, decide_eq_true_eq] at h
  refine ⟨h.1.2, fun c hc => ?_⟩
  have := List.all_eq_true.mp h.2 ⟨#[c]⟩ (List.mem_map.mpr ⟨c, hc, rfl⟩)
  rw [Bool.and_eq_true] at this
  obtain ⟨h1, h2⟩ := this
  have e1 : (Str.ofString "a").cps.toList = [97] := by decide +kernel
  have e2 : (Str.ofString "z").cps.toList = [122] := by decide +kernel
  unfold leStr at h1 h2
  rw [e1] at h1
  rw [e2] at h2
  have h1 : ¬ ([c] < [97]) := by simpa using h1
  have h2 : ¬ ([122] < [c]) := by simpa using h2
  constructor
  · refine Nat.le_of_not_lt fun z => h1 ?_
    exact List.Lex.rel z
  · refine Nat.le_of_not_lt fun z => h2 ?_
    exact List.Lex.rel z
theorem nm_ok {z : Str} (h : nmB z = true) : PyData.strOk z = true := by
  have h2 := (nm_letters h).2
  unfold PyData.strOk
  rw [← Array.all_toList]
  rw [List.all_eq_true]
  intro c hc
  have := h2 c hc
  exact decide_eq_true (by omega)
noncomputable def mtP (ps : List Str) : Option Mt := match ps with
  | [a, b, c] => if nmB a then (match mom b, mom c with | some x, some y => if tmB x y then some (a, x, y) else none | _, _ => none) else none
  | _ => none
theorem e_timesV (b c : Str) : F_are_times [momV b, momV c] = some (.ok (.bool (match mom b, mom c with | some x, some y => tmB x y | _, _ => false))) := by
  unfold momV
  cases mom b with
  | none =>
    cases mom c with
    | none => kernel_rfl
    | some y => exact runD_ok rfl rfl
  | some x =>
    cases mom c with
    | none => exact runD_ok rfl rfl
    | some y => exact e_timesB x y
theorem e_meet_row {ps : List Str} (ne : ps ≠ []) (hp : ∀ p ∈ ps, p.length ≤ 10000) : F_is_meeting [rowD ps] = some (.ok (.bool (mtP ps).isSome)) := by
  have ln : ((ps.take 1).map PyData.str ++ (ps.drop 1).map momV).length = ps.length := by rw [List.length_append, List.length_map, List.length_map, List.length_take, List.length_drop]; omega
  have t1 : t1_is_meeting [.val (rowD ps)] = some (.ok (decide (ps.length ≠ 3))) := by
    have e : t1_is_meeting [.val (rowD ps)] = some (.ok (!decide (((((ps.take 1).map PyData.str ++ (ps.drop 1).map momV).length : Nat) : Int) = 3))) := rfl
    rw [e, ln]
    by_cases c : ps.length = 3 <;> simp [c] <;> omega
  refine runD_ok rfl ?_
  show f_is_meeting [.val (rowD ps)] = _
  unfold f_is_meeting
  by_cases c : ps.length = 3
  · rw [seqS_nx (ρ' := [.val (rowD ps)]) (by rw [ifS_e, t1, decide_eq_false (by simpa using c)]; rfl)]
    match ps, c with
    | [a, b, c], _ =>
      have n := call_at (F := F_is_name) (aa := aCons (op2 ixD (var 0) (cst (.int 0))) aNil) (ρ := [.val (rowD [a, b, c])]) (ds := [.str a]) rfl (e_nameB (Nat.le_trans (hp a (by simp)) (by decide)))
      have w := call_at (F := F_are_times) (aa := aCons (op2 ixD (var 0) (cst (.int 1))) (aCons (op2 ixD (var 0) (cst (.int 2))) aNil)) (ρ := [.val (rowD [a, b, c])]) (ds := [momV b, momV c]) rfl (e_timesV b c)
      rw [retS_e]
      have an : andE (callE F_is_name (aCons (op2 ixD (var 0) (cst (.int 0))) aNil)) (callE F_are_times (aCons (op2 ixD (var 0) (cst (.int 1))) (aCons (op2 ixD (var 0) (cst (.int 2))) aNil))) [.val (rowD [a, b, c])] = some (.ok (.bool (mtP [a, b, c]).isSome)) := by
        have em : mtP [a, b, c] = if nmB a then (match mom b, mom c with | some x, some y => if tmB x y then some (a, x, y) else none | _, _ => none) else none := rfl
        rw [andE_e, n, bnd_r, em]
        cases nmB a with
        | false => rfl
        | true =>
          rw [show lft (boolD (.bool true)) = some (.ok true) from rfl, bnd_r, if_pos rfl, w]
          cases mom b with
          | none => rfl
          | some x =>
            cases mom c with
            | none => rfl
            | some y =>
              dsimp only
              cases tmB x y <;> rfl
      rw [an]; rfl
  · refine (seqS_rt (d := .bool false) (by rw [ifS_e, t1, decide_eq_true c]; rfl)).trans ?_
    have : mtP ps = none := by
      unfold mtP
      split
      · exact absurd rfl c
      · rfl
    rw [this]; rfl
noncomputable def lineOf (m : Mt) : Str := Str.join sp [m.1, mtx m.2.1, mtx m.2.2]
theorem mtP_is {ps : List Str} {m : Mt} (h : mtP ps = some m) : rowD ps = dM m ∧ MtOk m ∧ nmB m.1 = true ∧ Str.join sp ps = lineOf m := by
  unfold mtP at h
  split at h
  · rename_i a b c
    split at h
    · rename_i ha
      split at h
      · rename_i x y hx hy
        split at h
        · rename_i ht
          cases h
          obtain ⟨x1, x2, x3⟩ := mom_is hx
          obtain ⟨y1, y2, y3⟩ := mom_is hy
          have tt := tmB_iff.mp ht
          refine ⟨?_, ⟨by rw [e_nameB (Nat.le_trans (nm_letters ha).1 (by decide)), ha], nm_ok ha, tt⟩, ha, ?_⟩
          · show PyData.tuple [.str a, momV b, momV c] = .tuple [.str a, .int x, .int y]
            unfold momV
            rw [hx, hy]; rfl
          · unfold lineOf
            rw [x3, y3]
        · cases h
      · cases h
    · cases h
  · cases h
theorem rows_mts : ∀ (L : List (List Str)), (∀ ps ∈ L, (mtP ps).isSome = true) → ∃ s : List Mt, L.map mtP = s.map some
  | [], _ => ⟨[], rfl⟩
  | ps :: L, h => by
    obtain ⟨s, e⟩ := rows_mts L fun x hx => h x (List.mem_cons_of_mem _ hx)
    obtain ⟨m, hm⟩ := Option.isSome_iff_exists.mp (h ps (by simp))
    exact ⟨m :: s, by rw [List.map_cons, List.map_cons, e, hm]⟩
theorem mts_rows : ∀ {L : List (List Str)} {s : List Mt}, L.map mtP = s.map some → L.map rowD = s.map dM ∧ (∀ m ∈ s, MtOk m ∧ nmB m.1 = true) ∧ L.map (Str.join sp) = s.map lineOf
  | [], [], _ => ⟨rfl, (fun _ h => nomatch h), rfl⟩
  | [], _ :: _, h => by simp at h
  | _ :: _, [], h => by simp at h
  | ps :: L, m :: s, h => by
    rw [List.map_cons, List.map_cons, List.cons.injEq] at h
    obtain ⟨a, b, c⟩ := mts_rows h.2
    obtain ⟨d, e, f, g⟩ := mtP_is h.1
    refine ⟨by rw [List.map_cons, List.map_cons, a, d], fun x hx => ?_, by rw [List.map_cons, List.map_cons, c, g]⟩
    rcases List.mem_cons.mp hx with rfl | hx
    · exact ⟨e, f⟩
    · exact b x hx
theorem e_sheet_rows (L : List (List Str)) (hz : L.length ≤ 10001) (hne : ∀ ps ∈ L, ps ≠ []) (hp : ∀ ps ∈ L, ∀ p ∈ ps, p.length ≤ 10000) : ∃ b, F_is_sheet [.tuple (L.map rowD)] = some (.ok (.bool b)) ∧ (b = true → ∃ s : List Mt, s.length ≤ 16 ∧ L.map mtP = s.map some) := by
  have t1 : t1_is_sheet [.val (.tuple (L.map rowD))] = some (.ok (decide (16 < L.length))) := by
    have e : t1_is_sheet [.val (.tuple (L.map rowD))] = some (.ok (decide ((16 : Int) < ((L.map rowD).length : Nat)))) := rfl
    rw [e, List.length_map]
    by_cases c : 16 < L.length <;> simp [c] <;> omega
  by_cases c : 16 < L.length
  · refine ⟨false, runD_ok rfl ?_, fun z => by cases z⟩
    show f_is_sheet [.val (.tuple (L.map rowD))] = _
    unfold f_is_sheet
    exact seqS_rt (by rw [ifS_e, t1, decide_eq_true c]; rfl)
  · by_cases a : ∀ ps ∈ L, (mtP ps).isSome = true
    · obtain ⟨s, e⟩ := rows_mts L a
      obtain ⟨r1, r2, r3⟩ := mts_rows e
      have hl : L.length = s.length := by have := congrArg List.length e; simpa using this
      refine ⟨_, by rw [r1]; exact e_is_sheet s (by omega) fun m hm => (r2 m hm).1, fun _ => ⟨s, by omega, e⟩⟩
    · refine ⟨false, runD_ok rfl ?_, fun z => by cases z⟩
      show f_is_sheet [.val (.tuple (L.map rowD))] = _
      unfold f_is_sheet
      rw [seqS_nx (ρ' := [.val (.tuple (L.map rowD))]) (by rw [ifS_e, t1, decide_eq_false c]; rfl)]
      have k1 : k1_is_sheet [.val (.tuple (L.map rowD))] = some (.ok (.list ((L.map fun ps => (mtP ps).isSome).map .bool))) := by
        rw [List.map_map]
        exact compE_all rowD (fun ps => [.val (rowD ps)]) _ L rfl (by omega) (fun ps _ => by simp [capE]) (fun ps hq => call_at (ds := [rowD ps]) rfl (e_meet_row (hne ps hq) (hp ps hq)))
      have ha : (L.map fun ps => (mtP ps).isSome).all id = false := by
        rw [Bool.eq_false_iff]
        intro z
        rw [List.all_map, List.all_eq_true] at z
        exact a fun ps hp => z ps hp
      have t2 : t2_is_sheet [.val (.tuple (L.map rowD))] = some (.ok true) := by
        show notT (truT (bltE allB (aCons k1_is_sheet aNil))) _ = _
        rw [notT_e, truT_e, bltE_e, aCons_e, k1]
        simp only [bnd_r, aNil_e, lft_s, all_bools, ha, truD_b, Bool.not_false]
      exact seqS_rt (by rw [ifS_e, t2]; rfl)
end L2.L3
namespace L2.L3
open PySem PySem.Spec PyProof.Rows
theorem catL : ∀ (xs : List Str) (a : Str), (catS a xs).cps.toList = a.cps.toList ++ (xs.map fun x => x.cps.toList).flatten
  | [], a => by simp [catS]
  | x :: xs, a => by
    show (catS (a ++ x) xs).cps.toList = _
    rw [catL xs (a ++ x), cps_app, List.map_cons, List.flatten_cons, List.append_assoc]
noncomputable def lineN (m : Mt) : Str := lineOf m ++ nl
noncomputable def txO (s : List Mt) : Str := catS Str.empty (s.map lineN)
theorem tx_join : ∀ s : List Mt, txO s = Str.join nl (s.map lineOf ++ [Str.empty])
  | [] => rfl
  | m :: s => by
    refine str_ext ?_
    have ih := congrArg (fun z : Str => z.cps.toList) (tx_join s)
    unfold txO at ih ⊢
    rw [catL] at ih ⊢
    rw [List.map_cons, List.map_cons, List.flatten_cons, List.map_cons, List.cons_append]
    cases s with
    | nil =>
      show Str.empty.cps.toList ++ ((lineN m).cps.toList ++ []) = (Str.join nl (lineOf m :: Str.empty :: [])).cps.toList
      rw [join_two, cps_app, cps_app, join_one]
      unfold lineN
      rw [cps_app]
      simp [Str.empty]
    | cons m2 s =>
      have e : (m2 :: s).map lineOf ++ [Str.empty] = lineOf m2 :: (s.map lineOf ++ [Str.empty]) := rfl
      rw [e] at ih ⊢
      rw [join_two, cps_app, cps_app, ← ih]
      show Str.empty.cps.toList ++ ((lineOf m ++ nl).cps.toList ++ _) = _
      rw [cps_app]
      rfl
structure WOk (m : Mt) : Prop where
  nm : m.1.length ≤ 4
  t1 : 0 ≤ m.2.1 ∧ m.2.1 ≤ 480
  t2 : 0 ≤ m.2.2 ∧ m.2.2 ≤ 480
theorem line_len {m : Mt} (h : WOk m) : (lineN m).length ≤ 17 := by
  have a := (mtx_i h.t1.1 h.t1.2).1
  have b := (mtx_i h.t2.1 h.t2.2).1
  have c := h.nm
  have e1 : (sp : Str).length = 1 := rfl
  have e2 : (nl : Str).length = 1 := rfl
  unfold lineN lineOf
  rw [strLen_append, join_two, join_two, join_one, strLen_append, strLen_append, strLen_append, strLen_append, e1, e2]
  omega
theorem catS_len (B : Nat) : ∀ (xs : List Str) (a : Str), (∀ x ∈ xs, x.length ≤ B) → (catS a xs).length ≤ a.length + B * xs.length
  | [], a, _ => by simp [catS]
  | x :: xs, a, h => by
    have := catS_len B xs (a ++ x) fun y hy => h y (List.mem_cons_of_mem _ hy)
    rw [strLen_append] at this
    have hx := h x (by simp)
    show (catS (a ++ x) xs).length ≤ _
    rw [List.length_cons, Nat.mul_succ]
    omega
theorem tx_len {s : List Mt} (h : ∀ m ∈ s, WOk m) : (txO s).length ≤ 17 * s.length := by
  have := catS_len 17 (s.map lineN) Str.empty fun x hx => by obtain ⟨m, hm, rfl⟩ := List.mem_map.mp hx; exact line_len (h m hm)
  have e : Str.empty.length = 0 := rfl
  rw [e, List.length_map] at this
  unfold txO; omega
theorem e_line {m : Mt} (h : WOk m) : F_line_of [dM m] = some (.ok (.str (lineN m))) := by
  have a := (mtx_i h.t1.1 h.t1.2).1
  have b := (mtx_i h.t2.1 h.t2.2).1
  have c := h.nm
  have ll := line_len h
  have fm : ∀ (z : Str), z.length ≤ 100 → fmtD (.str z) = some (.str z) := fun z hz => by
    show (if szOk z.length = true then some (PyData.str z) else none) = _
    rw [if_pos (by unfold szOk; exact decide_eq_true (by omega))]
  refine runD_ok rfl ?_
  show f_line_of [.val (dM m), .no, .no, .no] = _
  unfold f_line_of
  rw [seqS_nx (ρ' := [.val (dM m), .val (.str m.1), .no, .no]) rfl]
  rw [seqS_nx (ρ' := [.val (dM m), .val (.str m.1), .val (.str (mtx m.2.1)), .no]) (by rw [setS_e, call_at (ds := [.int m.2.1]) rfl (e_mtx h.t1.1 h.t1.2)]; rfl)]
  rw [seqS_nx (ρ' := [.val (dM m), .val (.str m.1), .val (.str (mtx m.2.1)), .val (.str (mtx m.2.2))]) (by rw [setS_e, call_at (ds := [.int m.2.2]) rfl (e_mtx h.t2.1 h.t2.2)]; rfl)]
  have a1 : op1 fmtD (var 1) [.val (dM m), .val (.str m.1), .val (.str (mtx m.2.1)), .val (.str (mtx m.2.2))] = some (.ok (.str m.1)) := by
    show lft (fmtD (.str m.1)) = _; rw [fm _ (by omega)]; rfl
  have a2 : op1 fmtD (var 2) [.val (dM m), .val (.str m.1), .val (.str (mtx m.2.1)), .val (.str (mtx m.2.2))] = some (.ok (.str (mtx m.2.1))) := by
    show lft (fmtD (.str (mtx m.2.1))) = _; rw [fm _ (by omega)]; rfl
  have a3 : op1 fmtD (var 3) [.val (dM m), .val (.str m.1), .val (.str (mtx m.2.1)), .val (.str (mtx m.2.2))] = some (.ok (.str (mtx m.2.2))) := by
    show lft (fmtD (.str (mtx m.2.2))) = _; rw [fm _ (by omega)]; rfl
  have ec : catS Str.empty [m.1, Str.ofString " ", mtx m.2.1, Str.ofString " ", mtx m.2.2, Str.ofString "\n"] = lineN m := by
    refine str_ext ?_
    unfold lineN lineOf
    rw [catL, sp_eq, nl_eq, cps_app, join_two, join_two, join_one]
    simp only [cps_app, List.map_cons, List.map_nil, List.flatten_cons, List.flatten_nil, List.append_nil, List.append_assoc]
    rfl
  rw [retS_e]
  unfold jnE
  rw [aCons_at a1 (aCons_at rfl (aCons_at a2 (aCons_at rfl (aCons_at a3 (aCons_at rfl rfl)))))]
  show bns (if szOk (catS Str.empty [m.1, Str.ofString " ", mtx m.2.1, Str.ofString " ", mtx m.2.2, Str.ofString "\n"]).length = true then some (Re.ok (PyData.str (catS Str.empty [m.1, Str.ofString " ", mtx m.2.1, Str.ofString " ", mtx m.2.2, Str.ofString "\n"]))) else none) _ _ = _
  rw [ec, if_pos (by unfold szOk; exact decide_eq_true (by omega))]; rfl
theorem join_cat : ∀ (xs : List Str), Str.join Str.empty xs = catS Str.empty xs
  | [] => rfl
  | [x] => by refine str_ext ?_; rw [catL, join_one]; simp; rfl
  | x :: y :: r => by
    have ih := congrArg (fun z : Str => z.cps.toList) (join_cat (y :: r))
    refine str_ext ?_
    rw [catL] at ih
    rw [join_two, cps_app, cps_app, ih, catL]
    simp [List.append_assoc]
    rfl
theorem e_written {s : List Mt} (h : ∀ m ∈ s, WOk m) (hz : s.length ≤ 100) : F_written [dS s] = some (.ok (.str (txO s))) := by
  refine runD_ok rfl ?_
  show f_written [.val (dS s)] = _
  have k1 : k1_written [.val (dS s)] = some (.ok (.list ((s.map lineN).map .str))) := by
    rw [List.map_map]
    exact compE_all dM (fun m => [.val (dM m)]) _ s (by simp) (by omega) (fun m _ => by simp [capE]) (fun m hm => call_at (ds := [dM m]) rfl (e_line (h m hm)))
  have jo : JoinOk Str.empty (s.map lineN) = true := by
    unfold JoinOk
    rw [StrLaws.joinFits (B := 17) (fun y hy => by obtain ⟨m, hm, rfl⟩ := List.mem_map.mp hy; exact line_len (h m hm)) (by
      have e : Str.empty.length = 0 := rfl
      rw [List.length_map, e]; omega)]; rfl
  unfold f_written
  rw [retS_e]
  unfold dfE
  rw [k1]
  show bns (lft (joiD (.str (Str.ofString "")) (.list ((s.map lineN).map .str)))) _ _ = _
  have ej : joiD (.str (Str.ofString "")) (.list ((s.map lineN).map .str)) = some (.str (txO s)) := by
    unfold joiD
    dsimp only
    rw [allD_map (g := .str) (fun _ => rfl) (s.map lineN)]
    dsimp only
    rw [show Str.ofString "" = Str.empty from by decide +kernel, if_pos jo]
    unfold Txt.join
    rw [StrLaws.glued_eq_join, join_cat]; rfl
  rw [ej]; rfl
theorem line_free {m : Mt} (hn : nmB m.1 = true) (h : WOk m) : (∀ p ∈ [m.1, mtx m.2.1, mtx m.2.2], 32 ∉ p.cps.toList) ∧ 10 ∉ (lineOf m).cps.toList := by
  have n := (nm_letters hn).2
  have a := (mtx_i h.t1.1 h.t1.2).2.2
  have b := (mtx_i h.t2.1 h.t2.2).2.2
  refine ⟨fun p hp z => ?_, fun z => ?_⟩
  · have : p = m.1 ∨ p = mtx m.2.1 ∨ p = mtx m.2.2 := by simpa using hp
    rcases this with rfl | rfl | rfl
    · have := n _ z; omega
    · exact (a _ z).1 rfl
    · exact (b _ z).1 rfl
  · unfold lineOf at z
    rw [join_two, join_two, join_one, cps_app, cps_app, cps_app, cps_app] at z
    simp only [List.mem_append] at z
    rcases z with (z | z) | (z | z) | z
    · have := n _ z; omega
    · have : (10 : Nat) ∈ [32] := z
      simp at this
    · exact (a _ z).2.1 rfl
    · have : (10 : Nat) ∈ [32] := z
      simp at this
    · exact (b _ z).2.1 rfl
theorem split_text {s : List Mt} (hn : ∀ m ∈ s, nmB m.1 = true) (h : ∀ m ∈ s, WOk m) : Txt.split (txO s) nl = s.map lineOf ++ [Str.empty] := by
  refine split_is (tx_join s).symm (by simp) fun p hp => ?_
  rcases List.mem_append.mp hp with hp | hp
  · obtain ⟨m, hm, rfl⟩ := List.mem_map.mp hp
    exact (line_free (hn m hm) (h m hm)).2
  · rw [List.mem_singleton.mp hp]; simp [Str.empty]
theorem rows_text {s : List Mt} (hn : ∀ m ∈ s, nmB m.1 = true) (h : ∀ m ∈ s, WOk m) : rowsT (txO s) = s.map dM := by
  unfold rowsT
  rw [split_text hn h, List.dropLast_concat, List.map_map]
  refine List.map_congr_left fun m hm => ?_
  show rowD (Txt.split (lineOf m) sp) = dM m
  rw [show Txt.split (lineOf m) sp = [m.1, mtx m.2.1, mtx m.2.2] from split_is (c := 32) rfl (by simp) (line_free (hn m hm) (h m hm)).1]
  show PyData.tuple [.str m.1, momV (mtx m.2.1), momV (mtx m.2.2)] = _
  unfold momV
  rw [mom_mtx (h m hm).t1.1 (h m hm).t1.2, mom_mtx (h m hm).t2.1 (h m hm).t2.2]; rfl
theorem e_read_text {s : List Mt} (hn : ∀ m ∈ s, nmB m.1 = true) (h : ∀ m ∈ s, WOk m) (hz : s.length ≤ 100) (hs : F_is_sheet [dS s] = some (.ok (.bool true))) : F_readX [.str (txO s)] = some (.ok (dS s)) := by
  have l := tx_len h
  have e := e_read (t := txO s) (by omega) (b := true) (by rw [rows_text hn h]; exact hs)
  rw [e, if_pos, rows_text hn h]
  refine ⟨?_, rfl⟩
  have g : ∀ (L : List Str) (hL : L ≠ []), L = s.map lineOf ++ [Str.empty] → L.getLast hL = Str.empty := fun L hL e => by subst e; simp
  exact g _ _ (split_text hn h)
theorem read_back {t : Str} {s : List Mt} (hl : (Txt.split t nl).getLast (split_ne _ _) = Str.empty) (e : ((Txt.split t nl).dropLast.map fun l => Txt.split l sp).map (Str.join sp) = s.map lineOf) : txO s = t := by
  have e2 : (Txt.split t nl).dropLast = s.map lineOf := by
    rw [← e, List.map_map]
    conv => lhs; rw [← List.map_id (Txt.split t nl).dropLast]
    exact List.map_congr_left fun l _ => (StrLaws.join_split l sp).symm
  rw [tx_join, ← e2, ← hl, List.dropLast_concat_getLast, StrLaws.join_split]
theorem cutS_len (x : Str) (lo hi : Option Int) : (cutS x lo hi).length ≤ x.length := by
  unfold cutS
  split
  · exact Nat.le_refl _
  · show ((Builtin.Str.strSliceIndices lo hi 1 x.length).filterMap (x.cps[·]?)).toArray.size ≤ _
    rw [List.size_toArray]
    refine Nat.le_trans (List.length_filterMap_le _ _) ?_
    unfold Builtin.Str.strSliceIndices sliceRange
    rw [List.length_map, List.length_range]
    dsimp only
    cases lo with
    | none =>
      cases hi with
      | none => simp; split <;> omega
      | some j => simp; split <;> split <;> omega
    | some i =>
      cases hi with
      | none => simp; split <;> split <;> omega
      | some j => simp; split <;> split <;> split <;> omega
end L2.L3
namespace L2.L3
open PySem PySem.Spec PyProof.Rows
noncomputable def blD : PyData → Option Bool
  | .bool b => some b
  | _ => none
theorem blD_is {d : PyData} {b : Bool} (h : blD d = some b) : d = .bool b := by
  unfold blD at h
  split at h
  · cases h; rfl
  · cases h
noncomputable def cntD (x y : PyData) : Option PyData := match x, y with
  | .list xs, .int k => (match allD intD xs with | some ns => some (.int (ns.count k : Nat)) | none => none)
  | .list xs, .bool c => (match allD blD xs with | some bs => some (.int (bs.count c : Nat)) | none => none)
  | _, _ => none
noncomputable def idxB (x y : PyData) : Option PyData := match x, y with
  | .list xs, .bool c => (match allD blD xs with | some bs => if c ∈ bs then some (.int (bs.idxOf c : Nat)) else none | none => none)
  | _, _ => none
theorem vals_bools : ∀ {bs : List Bool} {us : List Value}, Vals (bs.map V.bl) us → us = bs.map Value.bool
  | [], _, .nil => rfl
  | b :: bs, _, .cons r t => by cases r; rw [List.map_cons, vals_bools t]
theorem countP_int (k : Int) : ∀ {us : List Value} {ns : List Int}, Vals (ns.map V.int) us → us.countP (isInt k) = ns.count k
  | _, [], .nil => rfl
  | _, n :: ns, .cons ⟨t, e⟩ r => by
    subst e
    rw [List.countP_cons, List.count_cons, countP_int k r]
    rfl
section
variable {X : Cx} {o e : Expr} {fo fa : EF} {apos cpos : Pos}
theorem mt_countI : MtM X "list.count" (fun x vs H Q => ∃ (p : Addr) (ns : List Int) (k : Int), x = .ref p ∧ vs = [.int k] ∧ SqL X.K H p (ns.map V.int) ∧ Q (.int (ns.count k : Nat)) H) := by
  intro pins s σ H x vs v us Q I rx rv ⟨p, ns, k, e1, e2, hq, q⟩
  subst e1 e2
  cases rx
  obtain ⟨u, rfl, t, rfl⟩ := rv.one
  obtain ⟨its, r1, p1, hz⟩ := I.list hq
  obtain ⟨⟨c1, d1, t1, sl1⟩, n1, g1, k1, _, m1⟩ := p1
  dsimp only at k1 m1
  subst k1 m1
  have hi := intsAre_of r1
  refine call_meets F.slot_list_count ⟨_, g1, rfl⟩ F.entry_list_count (F.args_list_count_2 _ _)
    (SeqAt.list_countAt p its.toArray n1 d1 sl1 (.int k t) (isInt k)) ⟨g1, fun y hy => (eq_isInt k t hi y (by simpa using hy)).at _ _, ⟨.int _, H, I.tok _, ⟨_, rfl⟩, ?_⟩⟩
  have : (its.toArray.toList.countP (isInt k) : Nat) = ns.count k := by simpa using countP_int k r1
  rw [this]; exact q
noncomputable def isBl (c : Bool) : Value → Bool
  | .bool b => b == c
  | _ => false
theorem mt_countB : MtM X "list.count" (fun x vs H Q => ∃ (p : Addr) (bs : List Bool) (c : Bool), x = .ref p ∧ vs = [.bl c] ∧ SqL X.K H p (bs.map V.bl) ∧ Q (.int (bs.count c : Nat)) H) := by
  intro pins s σ H x vs v us Q I rx rv ⟨p, bs, c, e1, e2, hq, q⟩
  subst e1 e2
  cases rx
  obtain ⟨u, rfl, rfl⟩ := rv.one
  obtain ⟨its, r1, p1, hz⟩ := I.list hq
  obtain ⟨⟨c1, d1, t1, sl1⟩, n1, g1, k1, _, m1⟩ := p1
  dsimp only at k1 m1
  subst k1 m1
  have hi := vals_bools r1
  subst hi
  refine call_meets F.slot_list_count ⟨_, g1, rfl⟩ F.entry_list_count (F.args_list_count_2 _ _)
    (SeqAt.list_countAt p (bs.map Value.bool).toArray n1 d1 sl1 (.bool c) (isBl c)) ⟨g1, fun y hy => ?_, ⟨.int _, H, I.tok _, ⟨_, rfl⟩, ?_⟩⟩
  · obtain ⟨b, _, rfl⟩ := List.mem_map.mp (show y ∈ bs.map Value.bool by simpa using hy)
    exact SeqAt.EqAt.bool_bool b c
  · have : ((bs.map Value.bool).toArray.toList.countP (isBl c) : Nat) = bs.count c := by
      rw [List.countP_map]
      rfl
    rw [this]; exact q
theorem mt_indexB : MtM X "list.index" (fun x vs H Q => ∃ (p : Addr) (bs : List Bool) (c : Bool), x = .ref p ∧ vs = [.bl c] ∧ SqL X.K H p (bs.map V.bl) ∧ c ∈ bs ∧ Q (.int (bs.idxOf c : Nat)) H) := by
  intro pins s σ H x vs v us Q I rx rv ⟨p, bs, c, e1, e2, hq, hc, q⟩
  subst e1 e2
  cases rx
  obtain ⟨u, rfl, rfl⟩ := rv.one
  obtain ⟨its, r1, p1, hz⟩ := I.list hq
  obtain ⟨⟨c1, d1, t1, sl1⟩, n1, g1, k1, _, m1⟩ := p1
  dsimp only at k1 m1
  subst k1 m1
  have hi := vals_bools r1
  subst hi
  have lt : bs.idxOf c < bs.length := List.idxOf_lt_length_iff.mpr hc
  rw [List.length_map] at hz
  have hz2 : (sizeLine : Nat) < 2 ^ 62 := by rw [sizeLine_eq]; decide
  refine call_meets F.slot_list_index ⟨_, g1, rfl⟩ F.entry_list_index (F.args_list_index_2 _ _)
    (SeqAt.list_indexAt p (bs.map Value.bool).toArray n1 d1 sl1 (.bool c) (isBl c) (bs.idxOf c) (by simpa using lt) (by omega) ?_ ?_) ⟨g1, fun y hy => ?_, ⟨.int _, H, I.tok _, ⟨_, rfl⟩, q⟩⟩
  · have := List.getElem_idxOf lt
    simpa [isBl] using this
  · intro j hjs hlt
    have h1 : j < bs.length := by simpa using hjs
    have := List.not_of_lt_findIdx (p := (· == c)) (xs := bs) hlt
    simpa [isBl] using this
  · obtain ⟨b, _, rfl⟩ := List.mem_map.mp (show y ∈ bs.map Value.bool by simpa using hy)
    exact SeqAt.EqAt.bool_bool b c
theorem de_count (ho : DE X o fo) (ha : DE X e fa)
    (hbase : attributeBase o "count" X.env (eval o X.env) = eval o X.env := by rfl)
    (hfew : ((backTo cpos (starEach (e :: []) X.env)).all (fun x => !x.1) && (backToKw cpos (keywordEach [] X.env)).all (fun x => x.1.isSome) && decide ((e :: []).length + ([] : List Keyword).length + (if ([] : List Keyword).isEmpty then 0 else 1) < 30)) = true := by rfl)
    (hline : (apos.endLine == cpos.line) = true := by rfl) (hst : starEach (e :: []) X.env = (false, eval e X.env) :: starEach [] X.env := by rfl) (hplain : (backTo cpos (starEach [] X.env)).any (·.1) = false := by rfl) :
    DE X (.Call (.Attribute o "count" apos) [e] [] cpos) (dfE cntD fo fa) := de_of fun ρ r h => by
  unfold dfE at h
  split at h
  · rename_i x y ea eb
    obtain ⟨d, ed, rfl⟩ := lft_is h
    refine ⟨d, rfl, ?_⟩
    unfold cntD at ed
    split at ed
    · rename_i xs k
      split at ed
      · rename_i ns ei
        have hx := allD_is (g := PyData.int) (fun d a q => intD_is q) ei
        subst hx
        cases (Option.some.inj ed)
        exact pd_bm F.plainAttrs_list F.slot_list_count F.type_list_count mt_countI (ho.pd ea) (pad_cons (ha.pd eb) pad_nil hst) (fun x G H s r => by cases r with | list hq _ => exact .inl ⟨rfl, _, s.seq hq⟩) (fun x vs G H Q s r rs q => by
          cases r with
          | list hq ra =>
            have e := ra.ints
            subst e
            cases rs with
            | cons r1 r2 => cases r1; cases r2; exact ⟨_, ns, k, rfl, rfl, s.seq hq, q _ G H (.refl s) (.int _)⟩) hbase hfew hline hst hplain
      · cases ed
    · rename_i xs c
      split at ed
      · rename_i bs ei
        have hx := allD_is (g := PyData.bool) (fun d a q => blD_is q) ei
        subst hx
        cases (Option.some.inj ed)
        exact pd_bm F.plainAttrs_list F.slot_list_count F.type_list_count mt_countB (ho.pd ea) (pad_cons (ha.pd eb) pad_nil hst) (fun x G H s r => by cases r with | list hq _ => exact .inl ⟨rfl, _, s.seq hq⟩) (fun x vs G H Q s r rs q => by
          cases r with
          | list hq ra =>
            have e := ra.bools
            subst e
            cases rs with
            | cons r1 r2 => cases r1; cases r2; exact ⟨_, bs, c, rfl, rfl, s.seq hq, q _ G H (.refl s) (.int _)⟩) hbase hfew hline hst hplain
      · cases ed
    · cases ed
  · cases h
theorem de_indexB (ho : DE X o fo) (ha : DE X e fa)
    (hbase : attributeBase o "index" X.env (eval o X.env) = eval o X.env := by rfl)
    (hfew : ((backTo cpos (starEach (e :: []) X.env)).all (fun x => !x.1) && (backToKw cpos (keywordEach [] X.env)).all (fun x => x.1.isSome) && decide ((e :: []).length + ([] : List Keyword).length + (if ([] : List Keyword).isEmpty then 0 else 1) < 30)) = true := by rfl)
    (hline : (apos.endLine == cpos.line) = true := by rfl) (hst : starEach (e :: []) X.env = (false, eval e X.env) :: starEach [] X.env := by rfl) (hplain : (backTo cpos (starEach [] X.env)).any (·.1) = false := by rfl) :
    DE X (.Call (.Attribute o "index" apos) [e] [] cpos) (dfE idxB fo fa) := de_of fun ρ r h => by
  unfold dfE at h
  split at h
  · rename_i x y ea eb
    obtain ⟨d, ed, rfl⟩ := lft_is h
    refine ⟨d, rfl, ?_⟩
    unfold idxB at ed
    split at ed
    · rename_i xs c
      split at ed
      · rename_i bs ei
        split at ed
        · rename_i hk
          have hx := allD_is (g := PyData.bool) (fun d a q => blD_is q) ei
          subst hx
          cases (Option.some.inj ed)
          exact pd_bm F.plainAttrs_list F.slot_list_index F.type_list_index mt_indexB (ho.pd ea) (pad_cons (ha.pd eb) pad_nil hst) (fun x G H s r => by cases r with | list hq _ => exact .inl ⟨rfl, _, s.seq hq⟩) (fun x vs G H Q s r rs q => by
            cases r with
            | list hq ra =>
              have e := ra.bools
              subst e
              cases rs with
              | cons r1 r2 => cases r1; cases r2; exact ⟨_, bs, c, rfl, rfl, s.seq hq, hk, q _ G H (.refl s) (.int _)⟩) hbase hfew hline hst hplain
        · cases ed
      · cases ed
    · cases ed
  · cases h
end
end L2.L3
namespace L2.L3
open PySem PySem.Spec PyProof.Rows
section
variable {X : Cx} {b : Expr} {fb : EF} {p pos : Pos}
end
end L2.L3
namespace L2.L3
open PySem PySem.Spec PyProof.Rows
noncomputable abbrev b1_l_text : SF := seqS (setS 1 (op2 addD (op2 addD (op2 addD (op2 addD (op2 addD (var 1) (var 2)) (cst (.str " "))) (bltE strC (aCons (op2 fdvD (var 3) (cst (.int 48))) aNil))) (cst (.str ":"))) (bltE strC (aCons (op2 modD (var 3) (cst (.int 48))) aNil)))) (setS 1 (op2 addD (op2 addD (op2 addD (op2 addD (op2 addD (var 1) (cst (.str " "))) (bltE strC (aCons (op2 fdvD (var 4) (cst (.int 48))) aNil))) (cst (.str ":"))) (bltE strC (aCons (op2 modD (var 4) (cst (.int 48))) aNil))) (cst (.str "\n"))))
noncomputable def f_l_text : SF := (seqS (setS 1 (cst (.str ""))) (seqS (forS (.tp [2, 3, 4]) (seqI (var 0)) b1_l_text) (retS (var 1))))
noncomputable def F_l_text : List PyData → Mm PyData := runD 5 1 f_l_text
noncomputable abbrev t1_l_word : TF := thT (orT (cmpT neD (dfE cntD (var 1) (cst (.bool true))) (cst (.int 1))) (notT (truT (isxV 0))))
noncomputable def f_l_word : SF := (seqS (newS 1 (aCons (isxE 0 "NoMeeting") (aCons (isxE 0 "NoText") (aCons (isxE 0 "NoTime") (aCons (isxE 0 "NoZone") aNil))))) (seqS (extX 1 (lstE (aCons (isxE 0 "Taken") (aCons (isxE 0 "TooMany") aNil)))) (seqS (ifS t1_l_word (retS (cst (.str "wrong"))) nilS) (frzS 1 (retS (op2 ixD (lstE (aCons (cst (.str "no meeting")) (aCons (cst (.str "no text")) (aCons (cst (.str "no time")) (aCons (cst (.str "no zone")) (aCons (cst (.str "taken")) (aCons (cst (.str "too many")) aNil))))))) (dfE idxB (var 1) (cst (.bool true)))))))))
noncomputable def F_l_word : Str → Mm PyData := runE 2 f_l_word
noncomputable abbrev b1_l_holds : SF := setS 2 (callX F_readX (aCons (var 0) aNil))
noncomputable abbrev t1_l_holds : TF := isNX 1
noncomputable def f_l_holds : SF := (seqS (setS 1 (cst .none)) (seqS (setS 2 (cst .none)) (seqS (tryS 1 3 exNames b1_l_holds) (seqS (ifS t1_l_holds (retS (andE (isE false (.bool true) (callE F_is_sheet (aCons (var 2) aNil))) (cmpE eqD (callE F_l_text (aCons (var 2) aNil)) (var 0)))) nilS) (retS (cmpE eqD (callEx F_l_word 1) (cst (.str "no text"))))))))
noncomputable def F_l_holds : List PyData → Mm PyData := runD 4 1 f_l_holds
noncomputable abbrev t1_l_spoilt : TF := cmpT ltD (var 6) (cst (.int 2))
noncomputable abbrev t2_l_spoilt : TF := cmpT eqD (var 6) (cst (.int 2))
noncomputable abbrev t3_l_spoilt : TF := cmpT ltD (var 6) (cst (.int 5))
noncomputable abbrev t4_l_spoilt : TF := cmpT eqD (var 6) (cst (.int 5))
noncomputable abbrev t5_l_spoilt : TF := cmpT eqD (var 6) (cst (.int 6))
noncomputable def f_l_spoilt : SF := (seqS (setS 3 (op2 modD (var 1) (op2 addD (bltE lenD (aCons (var 0) aNil)) (cst (.int 1))))) (seqS (setS 4 (op2 ixD (var 2) (op2 modD (op2 fdvD (var 1) (cst (.int 1000))) (bltE lenD (aCons (var 2) aNil))))) (seqS (setS 5 (op2 addD (op2 addD (var 3) (cst (.int 1))) (op2 modD (op2 fdvD (var 1) (cst (.int 7))) (cst (.int 9))))) (seqS (setS 6 (op2 modD (op2 fdvD (var 1) (cst (.int 100000))) (cst (.int 8)))) (seqS (ifS t1_l_spoilt (retS (op2 addD (op2 addD (slYE (var 0) oNone (oSome (var 3))) (var 4)) (slYE (var 0) (oSome (var 3)) oNone))) nilS) (seqS (ifS t2_l_spoilt (retS (op2 addD (slYE (var 0) oNone (oSome (var 3))) (slYE (var 0) (oSome (op2 addD (var 3) (cst (.int 1)))) oNone))) nilS) (seqS (ifS t3_l_spoilt (retS (op2 addD (op2 addD (slYE (var 0) oNone (oSome (var 3))) (var 4)) (slYE (var 0) (oSome (op2 addD (var 3) (cst (.int 1)))) oNone))) nilS) (seqS (ifS t4_l_spoilt (retS (op2 addD (slYE (var 0) oNone (oSome (var 3))) (slYE (var 0) (oSome (var 5)) oNone))) nilS) (seqS (ifS t5_l_spoilt (retS (op2 addD (slYE (var 0) oNone (oSome (var 5))) (slYE (var 0) (oSome (var 3)) oNone))) nilS) (retS (op2 ixD (lstE (aCons (op2 addD (var 0) (cst (.str " "))) (aCons (op2 addD (cst (.str " ")) (var 0)) (aCons (op2 addD (slYE (var 0) (oSome (var 3)) oNone) (slYE (var 0) oNone (oSome (var 3)))) (aCons (cst (.str "")) (aCons (op2 addD (var 0) (var 0)) aNil)))))) (op2 modD (var 1) (cst (.int 5))))))))))))))
noncomputable def F_l_spoilt : List PyData → Mm PyData := runD 7 3 f_l_spoilt
noncomputable abbrev t1_law : TF := orT (cmpT neD (callE F_written (aCons (var 1) aNil)) (var 2)) (cmpT neD (callX F_readX (aCons (var 2) aNil)) (var 1))
noncomputable abbrev t2_law : TF := notT (truT (callE F_l_holds (aCons (callE F_l_spoilt (aCons (var 2) (aCons (callE F_l_pick (aCons (var 0) (aCons (op2 addD (cst (.int 100)) (var 3)) (aCons (op2 powD (cst (.int 10)) (cst (.int 9))) aNil)))) (aCons (cst (.str "ab 0123:9\ncc-")) aNil)))) aNil)))
noncomputable abbrev b1_law : SF := ifS t2_law (retS (cst (.bool false))) nilS
noncomputable abbrev t3_law : TF := notT (truT (callE F_l_holds (aCons (dfE joiD (cst (.str "\n")) (op2 addD (slE (var 4) oNone (oSome (var 5))) (slE (var 4) (oSome (op2 addD (var 5) (cst (.int 1)))) oNone))) aNil)))
noncomputable def f_law : SF := (seqS (setS 1 (callE F_l_sheet (aCons (var 0) (aCons (cst (.int 0)) (aCons (cst (.int 8)) aNil))))) (seqS (setS 2 (callE F_l_text (aCons (var 1) aNil))) (seqS (ifS t1_law (retS (cst (.bool false))) nilS) (seqS (forS (.nm 3) (rng1 (cst (.int 4))) b1_law) (seqS (setS 4 (dfE splD (var 2) (cst (.str "\n")))) (seqS (setS 5 (callE F_l_pick (aCons (var 0) (aCons (cst (.int 110)) (aCons (bltE lenD (aCons (var 4) aNil)) aNil))))) (seqS (ifS t3_law (retS (cst (.bool false))) nilS) (seqS (setS 6 (op2 addD (op2 addD (slE (var 4) oNone (oSome (var 5))) (slE (var 4) (oSome (var 5)) (oSome (op2 addD (var 5) (cst (.int 1)))))) (slE (var 4) (oSome (var 5)) oNone))) (retS (callE F_l_holds (aCons (dfE joiD (cst (.str "\n")) (var 6)) aNil)))))))))))
noncomputable def F_law : List PyData → Mm PyData := runD 7 1 f_law
theorem add_str {a b : Str} (h : a.length + b.length ≤ 100000) : addD (.str a) (.str b) = some (.str (a ++ b)) := by
  show (if szOk (a.length + b.length) = true then some (PyData.str (a ++ b)) else none) = _
  rw [if_pos (by unfold szOk; exact decide_eq_true h)]
theorem addE_str {fa fb : EF} {ρ : List Ent} {a b : Str} (ha : fa ρ = some (.ok (.str a))) (hb : fb ρ = some (.ok (.str b))) (h : a.length + b.length ≤ 100000) : op2 addD fa fb ρ = some (.ok (.str (a ++ b))) := by
  rw [op2_e, ha, bnd_r, hb, bnd_r, add_str h]; rfl
theorem e_strC {m k : Int} (h0 : 0 ≤ m) (h1 : m ≤ 480) : strC [.int (m / 48)] = some (.str (Str.ofString (toString (m / 48)))) ∧ strC [.int (m % 48)] = some (.str (Str.ofString (toString (m % 48)))) := by
  have s1 : smallI (m / 48) = true := by unfold smallI; simp only [Bool.and_eq_true, decide_eq_true_eq]; omega
  have s2 : smallI (m % 48) = true := by unfold smallI; simp only [Bool.and_eq_true, decide_eq_true_eq]; omega
  constructor
  · show (if smallI (m / 48) = true then _ else none) = _
    rw [if_pos s1]
  · show (if smallI (m % 48) = true then _ else none) = _
    rw [if_pos s2]
theorem mtx_parts (m : Int) : (Str.ofString (toString (m / 48))).length + (Str.ofString (toString (m % 48))).length + 1 = (mtx m).length := by
  unfold mtx catS
  simp only [List.foldl_cons, List.foldl_nil, strLen_append]
  have e1 : Str.empty.length = 0 := rfl
  have e2 : (Str.ofString ":").length = 1 := by decide +kernel
  rw [e1, e2]; omega
theorem line_eq (acc : Str) (m : Mt) : ((((((((((acc ++ m.1) ++ Str.ofString " ") ++ Str.ofString (toString (m.2.1 / 48))) ++ Str.ofString ":") ++ Str.ofString (toString (m.2.1 % 48))) ++ Str.ofString " ") ++ Str.ofString (toString (m.2.2 / 48))) ++ Str.ofString ":") ++ Str.ofString (toString (m.2.2 % 48))) ++ Str.ofString "\n") = acc ++ lineN m := by
  refine str_ext ?_
  unfold lineN lineOf mtx
  rw [cps_app acc, cps_app (Str.join _ _), join_two, join_two, join_one]
  simp only [cps_app, catL, sp_eq, nl_eq, List.map_cons, List.map_nil, List.flatten_cons, List.flatten_nil, List.append_nil, List.append_assoc]
  simp [Str.empty]
theorem five_add {fa fb fc fd fe fg : EF} {ρ : List Ent} {a b c d e g : Str} (ha : fa ρ = some (.ok (.str a))) (hb : fb ρ = some (.ok (.str b))) (hc : fc ρ = some (.ok (.str c))) (hd : fd ρ = some (.ok (.str d))) (he : fe ρ = some (.ok (.str e))) (hg : fg ρ = some (.ok (.str g)))
    (h : a.length + b.length + c.length + d.length + e.length + g.length ≤ 100000) : op2 addD (op2 addD (op2 addD (op2 addD (op2 addD fa fb) fc) fd) fe) fg ρ = some (.ok (.str (a ++ b ++ c ++ d ++ e ++ g))) := by
  refine addE_str (addE_str (addE_str (addE_str (addE_str ha hb ?_) hc ?_) hd ?_) he ?_) hg ?_
  · omega
  · rw [strLen_append]; omega
  · rw [strLen_append, strLen_append]; omega
  · rw [strLen_append, strLen_append, strLen_append]; omega
  · rw [strLen_append, strLen_append, strLen_append, strLen_append]; omega
theorem turn_text {S : Ent} {m : Mt} (h : WOk m) {acc : Str} (hl : acc.length ≤ 5000) : b1_l_text [S, .val (.str acc), .val (.str m.1), .val (.int m.2.1), .val (.int m.2.2)] = some (.nx [S, .val (.str (acc ++ lineN m)), .val (.str m.1), .val (.int m.2.1), .val (.int m.2.2)]) := by
  have p1 := mtx_parts m.2.1
  have p2 := mtx_parts m.2.2
  have q1 := (mtx_i h.t1.1 h.t1.2).1
  have q2 := (mtx_i h.t2.1 h.t2.2).1
  have qn := h.nm
  obtain ⟨c1, c2⟩ := e_strC (k := 0) h.t1.1 h.t1.2
  obtain ⟨d1, d2⟩ := e_strC (k := 0) h.t2.1 h.t2.2
  have e1 : (Str.ofString " ").length = 1 := by decide +kernel
  have e2 : (Str.ofString ":").length = 1 := by decide +kernel
  have e3 : (Str.ofString "\n").length = 1 := by decide +kernel
  rw [← line_eq acc m]
  generalize Str.ofString (toString (m.2.1 / 48)) = A at p1 c1 ⊢
  generalize Str.ofString (toString (m.2.1 % 48)) = B at p1 c2 ⊢
  generalize Str.ofString (toString (m.2.2 / 48)) = C at p2 d1 ⊢
  generalize Str.ofString (toString (m.2.2 % 48)) = D at p2 d2 ⊢
  rw [show b1_l_text [S, .val (.str acc), .val (.str m.1), .val (.int m.2.1), .val (.int m.2.2)] = _ from seqS_nx (ρ' := [S, .val (.str (acc ++ m.1 ++ Str.ofString " " ++ A ++ Str.ofString ":" ++ B)), .val (.str m.1), .val (.int m.2.1), .val (.int m.2.2)]) (by
    rw [setS_e, five_add (a := acc) (b := m.1) (c := Str.ofString " ") (d := A) (e := Str.ofString ":") (g := B) rfl rfl rfl (blt_at (ds := [.int (m.2.1 / 48)]) (by simp) c1) rfl (blt_at (ds := [.int (m.2.1 % 48)]) (by simp) c2) (by omega)]
    rfl)]
  have hl2 : (acc ++ m.1 ++ Str.ofString " " ++ A ++ Str.ofString ":" ++ B).length ≤ 6000 := by rw [strLen_append, strLen_append, strLen_append, strLen_append, strLen_append]; omega
  generalize acc ++ m.1 ++ Str.ofString " " ++ A ++ Str.ofString ":" ++ B = T at hl2
  rw [setS_e, five_add (a := T) (b := Str.ofString " ") (c := C) (d := Str.ofString ":") (e := D) (g := Str.ofString "\n") rfl rfl (blt_at (ds := [.int (m.2.2 / 48)]) (by simp) d1) rfl (blt_at (ds := [.int (m.2.2 % 48)]) (by simp) d2) rfl (by omega)]
  rfl
theorem loop_text {S : Ent} : ∀ (s : List Mt) (acc : Str) (x2 x3 x4 : Ent), (∀ m ∈ s, WOk m) → acc.length + 17 * s.length ≤ 5000 → ∃ y2 y3 y4, loopS (.tp [2, 3, 4]) b1_l_text (s.map dM) [S, .val (.str acc), x2, x3, x4] = some (.nx [S, .val (.str (catS acc (s.map lineN))), y2, y3, y4])
  | [], acc, x2, x3, x4, _, _ => ⟨x2, x3, x4, rfl⟩
  | m :: s, acc, x2, x3, x4, h, hl => by
    have hm := h m (by simp)
    have ll := line_len hm
    rw [List.length_cons] at hl
    obtain ⟨y2, y3, y4, e⟩ := loop_text (S := S) s (acc ++ lineN m) (.val (.str m.1)) (.val (.int m.2.1)) (.val (.int m.2.2)) (fun x hx => h x (List.mem_cons_of_mem _ hx)) (by rw [strLen_append]; omega)
    refine ⟨y2, y3, y4, ?_⟩
    rw [List.map_cons, loop_cons (ρ1 := [S, .val (.str acc), .val (.str m.1), .val (.int m.2.1), .val (.int m.2.2)]) rfl (turn_text hm (by omega))]
    exact e
theorem e_text {s : List Mt} (h : ∀ m ∈ s, WOk m) (hz : s.length ≤ 100) : F_l_text [dS s] = some (.ok (.str (txO s))) := by
  refine runD_ok rfl ?_
  show f_l_text [.val (dS s), .no, .no, .no, .no] = _
  unfold f_l_text
  rw [seqS_nx (ρ' := [.val (dS s), .val (.str Str.empty), .no, .no, .no]) (by
    rw [setS_e]
    show bns (some (Re.ok (PyData.str (Str.ofString "")))) _ _ = _
    rw [show Str.ofString "" = Str.empty from by decide +kernel]; rfl)]
  obtain ⟨y2, y3, y4, e⟩ := loop_text (S := .val (dS s)) s Str.empty .no .no .no h (by
    have : Str.empty.length = 0 := rfl
    omega)
  rw [seqS_nx (ρ' := [.val (dS s), .val (.str (txO s)), y2, y3, y4]) (by rw [forS_e, seqI_at (d := dS s) rfl rfl, bns_r]; exact e)]
  rfl
end L2.L3
namespace L2.L3
open PySem PySem.Spec PyProof.Rows
theorem w_text : F_l_word "NoText" = some (.ok (.str "no text")) := by kernel_rfl
theorem nt_in : exNames.contains "NoText" = true := by decide +kernel
theorem mt_w {m : Mt} (h : MtOk m ∧ nmB m.1 = true) : WOk m := ⟨(nm_letters h.2).1, by have := h.1.times; omega, by have := h.1.times; omega⟩
theorem try_okG {F : List PyData → Mm PyData} {t : Str} {d : PyData} (er : F [.str t] = some (.ok d)) : tryS 1 3 exNames (setS 2 (callX F (aCons (var 0) aNil))) [.val (.str t), .val .none, .val .none, .no] = some (.nx [.val (.str t), .val .none, .val d, .no]) := by
  have e : setS 2 (callX F (aCons (var 0) aNil)) [.val (.str t), .val .none, .val .none, .no] = some (.nx [.val (.str t), .val .none, .val d, .no]) := by
    rw [setS_e, callX_at (ds := [.str t]) rfl er]; rfl
  unfold tryS
  rw [e]
theorem try_noG {F : List PyData → Mm PyData} {t : Str} (er : F [.str t] = some (.ex "NoText")) : tryS 1 3 exNames (setS 2 (callX F (aCons (var 0) aNil))) [.val (.str t), .val .none, .val .none, .no] = some (.nx [.val (.str t), .exc "NoText", .val .none, .no]) := by
  have e : setS 2 (callX F (aCons (var 0) aNil)) [.val (.str t), .val .none, .val .none, .no] = some (.xc "NoText" [.val (.str t), .val .none, .val .none, .no]) := by
    rw [setS_e, callX_at (ds := [.str t]) rfl er]; rfl
  unfold tryS
  rw [e]
  generalize hN : Str.ofString "NoText" = N
  show (if exNames.contains N = true then _ else _) = _
  rw [if_pos (by rw [← hN]; exact nt_in)]; rfl
theorem try_ok {t : Str} {d : PyData} (er : F_readX [.str t] = some (.ok d)) : tryS 1 3 exNames b1_l_holds [.val (.str t), .val .none, .val .none, .no] = some (.nx [.val (.str t), .val .none, .val d, .no]) := try_okG er
theorem try_no {t : Str} (er : F_readX [.str t] = some (.ex "NoText")) : tryS 1 3 exNames b1_l_holds [.val (.str t), .val .none, .val .none, .no] = some (.nx [.val (.str t), .exc "NoText", .val .none, .no]) := try_noG er
theorem end_no {t : Str} : seqS (ifS t1_l_holds (retS (andE (isE false (.bool true) (callE F_is_sheet (aCons (var 2) aNil))) (cmpE eqD (callE F_l_text (aCons (var 2) aNil)) (var 0)))) nilS) (retS (cmpE eqD (callEx F_l_word 1) (cst (.str "no text")))) [.val (.str t), .exc "NoText", .val .none, .no] = some (.rt (.bool true)) := by
  have w : F_l_word "NoText" = some (.ok (.str "no text")) := w_text
  generalize Str.ofString "NoText" = N at w ⊢
  generalize Str.ofString "no text" = M at w ⊢
  rw [seqS_nx (ρ' := [.val (.str t), .exc N, .val .none, .no]) rfl, retS_e, cmpE_e,
    show callEx F_l_word 1 [.val (.str t), .exc N, .val .none, .no] = some (.ok (.str M)) from by unfold callEx; dsimp only [List.getElem?_cons_succ, List.getElem?_cons_zero]; rw [w]]
  rw [bnd_r]
  show bns (lft ((some (decide (M = M))).map PyData.bool)) _ _ = _
  rw [decide_eq_true rfl]; rfl
theorem end_ok {t : Str} {s : List Mt} {d : PyData} (hb : F_is_sheet [d] = some (.ok (.bool true))) (e1 : F_l_text [d] = some (.ok (.str t))) : seqS (ifS t1_l_holds (retS (andE (isE false (.bool true) (callE F_is_sheet (aCons (var 2) aNil))) (cmpE eqD (callE F_l_text (aCons (var 2) aNil)) (var 0)))) nilS) (retS (cmpE eqD (callEx F_l_word 1) (cst (.str "no text")))) [.val (.str t), .val .none, .val d, .no] = some (.rt (.bool true)) := by
  refine seqS_rt ?_
  rw [ifS_e, show t1_l_holds [.val (.str t), .val .none, .val d, .no] = some (.ok true) from rfl, bns_r, if_pos rfl, retS_e, andE_e]
  have a1 : isE false (.bool true) (callE F_is_sheet (aCons (var 2) aNil)) [.val (.str t), .val .none, .val d, .no] = some (.ok (.bool true)) := by
    rw [isE_e, call_at (ds := [d]) rfl hb]; rfl
  have a2 : cmpE eqD (callE F_l_text (aCons (var 2) aNil)) (var 0) [.val (.str t), .val .none, .val d, .no] = some (.ok (.bool true)) := by
    rw [cmpE_e, call_at (ds := [d]) rfl e1, bnd_r]
    show bnd (some (Re.ok (PyData.str t))) _ = _
    rw [bnd_r]
    show lft ((some (decide (t = t))).map PyData.bool) = _
    rw [decide_eq_true rfl]; rfl
  rw [a1, bnd_r]
  rw [show lft (boolD (.bool true)) = some (.ok true) from rfl, bnd_r, if_pos rfl, a2]; rfl
theorem e_holds {t : Str} (ht : t.length ≤ 10000) : F_l_holds [.str t] = some (.ok (.bool true)) := by
  have ln : (Txt.split t nl).length ≤ t.length + 1 := split_len t 10
  have eR : rowsT t = ((Txt.split t nl).dropLast.map fun l => Txt.split l sp).map rowD := by unfold rowsT; rw [List.map_map]; rfl
  obtain ⟨b, hb, hs⟩ := e_sheet_rows ((Txt.split t nl).dropLast.map fun l => Txt.split l sp) (by rw [List.length_map, List.length_dropLast]; omega) (fun ps hp => by
    obtain ⟨l, _, rfl⟩ := List.mem_map.mp hp; exact split_ne _ _) (fun ps hp p hq => by
    obtain ⟨l, hl, rfl⟩ := List.mem_map.mp hp
    have h1 := split_part (List.dropLast_subset _ hl)
    have h2 := split_part hq
    omega)
  rw [← eR] at hb
  have er := e_read ht hb
  refine runD_ok rfl ?_
  show f_l_holds [.val (.str t), .no, .no, .no] = _
  unfold f_l_holds
  rw [seqS_nx (ρ' := [.val (.str t), .val .none, .no, .no]) rfl, seqS_nx (ρ' := [.val (.str t), .val .none, .val .none, .no]) rfl]
  by_cases c : (Txt.split t nl).getLast (split_ne _ _) = Str.empty ∧ b = true
  · rw [if_pos c] at er
    obtain ⟨s, hz, em⟩ := hs c.2
    obtain ⟨r1, r2, r3⟩ := mts_rows em
    have hw : ∀ m ∈ s, WOk m := fun m hm => mt_w (r2 m hm)
    rw [seqS_nx (try_ok er)]
    refine end_ok (s := s) (by rw [hb, c.2]) ?_
    rw [eR, r1, ← read_back c.1 r3]
    exact e_text hw (by omega)
  · rw [if_neg c] at er
    rw [seqS_nx (try_no er)]
    exact end_no
end L2.L3
namespace L2.L3
open PySem PySem.Spec PyProof.Rows
theorem slY_at {fa : EF} {lo hi : OF} {ρ : List Ent} {x : Str} {l h : Option Int} (ha : fa ρ = some (.ok (.str x))) (hl : lo ρ = some (.ok l)) (hh : hi ρ = some (.ok h)) (hz : x.length ≤ 10000) : ∃ z, slYE fa lo hi ρ = some (.ok (.str z)) ∧ z.length ≤ x.length := by
  have c := cutS_len x l h
  refine ⟨cutS x l h, ?_, c⟩
  unfold slYE
  rw [ha, bnd_r, hl, bnd_r, hh, bnd_r]
  show lft (if szOk (cutS x l h).length = true then some (PyData.str (cutS x l h)) else none) = _
  rw [if_pos (by unfold szOk; exact decide_eq_true (by omega))]; rfl
noncomputable abbrev sg : Str := "ab 0123:9\ncc-"
theorem sg_at {k : Nat} (h : k < 13) : ∃ z : Str, ixD (.str sg) (.int (k : Int)) = some (.str z) ∧ z.length ≤ 1 := by
  have hl : sg.cps.toList.length = 13 := by decide +kernel
  have h1 : szOk sg.length = true := by decide +kernel
  refine ⟨⟨#[sg.cps.toList[k]'(by omega)]⟩, ?_, Nat.le_refl _⟩
  show (if szOk sg.length = true then (atI sg.cps.toList (k : Int)).map (fun c => PyData.str ⟨#[c]⟩) else none) = _
  rw [if_pos h1, atI_nn, List.getElem?_eq_getElem (by omega)]; rfl
theorem e_spoilt {t : Str} {c : Int} (h0 : 0 ≤ c) (ht : t.length ≤ 1000) : ∃ z, F_l_spoilt [.str t, .int c, .str sg] = some (.ok (.str z)) ∧ z.length ≤ 10000 := by
  have ls : lenD [.str sg] = some (.int 13) := by kernel_rfl
  have lt : lenD [.str t] = some (.int (t.length : Nat)) := by
    show (if szOk t.length = true then some (PyData.int (t.length : Nat)) else none) = _
    rw [if_pos (by unfold szOk; exact decide_eq_true (by omega))]
  have m1 : 0 ≤ c % ((t.length : Nat) + 1 : Int) := Int.emod_nonneg _ (by omega)
  obtain ⟨g, hg, gl⟩ := sg_at (k := (c / 1000 % 13).toNat) (by have := Int.emod_nonneg (c / 1000) (b := 13) (by decide); have := Int.emod_lt_of_pos (c / 1000) (b := 13) (by decide); omega)
  rw [show (((c / 1000 % 13).toNat : Nat) : Int) = c / 1000 % 13 from by have := Int.emod_nonneg (c / 1000) (b := 13) (by decide); omega] at hg
  have s3 : setS 3 (op2 modD (var 1) (op2 addD (bltE lenD (aCons (var 0) aNil)) (cst (.int 1)))) [.val (.str t), .val (.int c), .val (.str sg), .no, .no, .no, .no] = some (.nx [.val (.str t), .val (.int c), .val (.str sg), .val (.int (c % ((t.length : Nat) + 1 : Int))), .no, .no, .no]) := by
    have e : bltE lenD (aCons (var 0) aNil) [.val (.str t), .val (.int c), .val (.str sg), .no, .no, .no, .no] = some (.ok (.int (t.length : Nat))) := blt_at (ds := [.str t]) rfl lt
    rw [setS_e, op2_e, op2_e, e]
    show bns (lft (modD (.int c) (.int ((t.length : Nat) + 1 : Int)))) _ _ = _
    rw [mod_ii, if_pos (by omega)]; rfl
  have s4 : setS 4 (op2 ixD (var 2) (op2 modD (op2 fdvD (var 1) (cst (.int 1000))) (bltE lenD (aCons (var 2) aNil)))) [.val (.str t), .val (.int c), .val (.str sg), .val (.int (c % ((t.length : Nat) + 1 : Int))), .no, .no, .no] = some (.nx [.val (.str t), .val (.int c), .val (.str sg), .val (.int (c % ((t.length : Nat) + 1 : Int))), .val (.str g), .no, .no]) := by
    have e : bltE lenD (aCons (var 2) aNil) [.val (.str t), .val (.int c), .val (.str sg), .val (.int (c % ((t.length : Nat) + 1 : Int))), .no, .no, .no] = some (.ok (.int 13)) := blt_at (ds := [.str sg]) rfl ls
    have e2 : op2 modD (op2 fdvD (var 1) (cst (.int 1000))) (bltE lenD (aCons (var 2) aNil)) [.val (.str t), .val (.int c), .val (.str sg), .val (.int (c % ((t.length : Nat) + 1 : Int))), .no, .no, .no] = some (.ok (.int (c / 1000 % 13))) := by
      rw [op2_e, e]
      show bnd (lft (fdvD (.int c) (.int 1000))) _ = _
      rw [fdv_ii, if_pos (by decide)]
      show lft (modD (.int (c / 1000)) (.int 13)) = _
      rw [mod_ii, if_pos (by decide)]; rfl
    rw [setS_e, op2_e, e2]
    show bns (lft (ixD (.str sg) (.int (c / 1000 % 13)))) _ _ = _
    rw [hg]; rfl
  generalize hat : c % ((t.length : Nat) + 1 : Int) = at' at s3 s4 m1
  have s5 : setS 5 (op2 addD (op2 addD (var 3) (cst (.int 1))) (op2 modD (op2 fdvD (var 1) (cst (.int 7))) (cst (.int 9)))) [.val (.str t), .val (.int c), .val (.str sg), .val (.int at'), .val (.str g), .no, .no] = some (.nx [.val (.str t), .val (.int c), .val (.str sg), .val (.int at'), .val (.str g), .val (.int (at' + 1 + c / 7 % 9)), .no]) := by simp
  have s6 : setS 6 (op2 modD (op2 fdvD (var 1) (cst (.int 100000))) (cst (.int 8))) [.val (.str t), .val (.int c), .val (.str sg), .val (.int at'), .val (.str g), .val (.int (at' + 1 + c / 7 % 9)), .no] = some (.nx [.val (.str t), .val (.int c), .val (.str sg), .val (.int at'), .val (.str g), .val (.int (at' + 1 + c / 7 % 9)), .val (.int (c / 100000 % 8))]) := by simp
  generalize at' + 1 + c / 7 % 9 = on at s5 s6
  generalize c / 100000 % 8 = w at s6
  let ρ : List Ent := [.val (.str t), .val (.int c), .val (.str sg), .val (.int at'), .val (.str g), .val (.int on), .val (.int w)]
  have ix5 : 0 ≤ c % 5 ∧ c % 5 < 5 := ⟨Int.emod_nonneg _ (by decide), Int.emod_lt_of_pos _ (by decide)⟩
  -- the slices
  obtain ⟨a1, ea1, la1⟩ := slY_at (fa := var 0) (lo := oNone) (hi := oSome (var 3)) (ρ := ρ) (x := t) (l := none) (h := some at') rfl rfl rfl (by omega)
  obtain ⟨a2, ea2, la2⟩ := slY_at (fa := var 0) (lo := oSome (var 3)) (hi := oNone) (ρ := ρ) (x := t) (l := some at') (h := none) rfl rfl rfl (by omega)
  obtain ⟨a3, ea3, la3⟩ := slY_at (fa := var 0) (lo := oSome (op2 addD (var 3) (cst (.int 1)))) (hi := oNone) (ρ := ρ) (x := t) (l := some (at' + 1)) (h := none) rfl rfl rfl (by omega)
  obtain ⟨a4, ea4, la4⟩ := slY_at (fa := var 0) (lo := oSome (var 5)) (hi := oNone) (ρ := ρ) (x := t) (l := some on) (h := none) rfl rfl rfl (by omega)
  obtain ⟨a5, ea5, la5⟩ := slY_at (fa := var 0) (lo := oNone) (hi := oSome (var 5)) (ρ := ρ) (x := t) (l := none) (h := some on) rfl rfl rfl (by omega)
  have t1 : t1_l_spoilt ρ = some (.ok (decide (w < 2))) := rfl
  have t2 : t2_l_spoilt ρ = some (.ok (decide (w = 2))) := rfl
  have t3 : t3_l_spoilt ρ = some (.ok (decide (w < 5))) := rfl
  have t4 : t4_l_spoilt ρ = some (.ok (decide (w = 5))) := rfl
  have t5 : t5_l_spoilt ρ = some (.ok (decide (w = 6))) := rfl
  have fin : ∀ z : Str, z.length ≤ 10000 → f_l_spoilt [.val (.str t), .val (.int c), .val (.str sg), .no, .no, .no, .no] = some (.rt (.str z)) → ∃ z, F_l_spoilt [.str t, .int c, .str sg] = some (.ok (.str z)) ∧ z.length ≤ 10000 := fun z hz e => ⟨z, runD_ok rfl e, hz⟩
  have go : ∀ {r : Option So}, f_l_spoilt [.val (.str t), .val (.int c), .val (.str sg), .no, .no, .no, .no] = r ↔ _ = r := fun {r} => by
    unfold f_l_spoilt
    rw [seqS_nx s3, seqS_nx s4, seqS_nx s5, seqS_nx s6]
  by_cases c1 : w < 2
  · refine fin (a1 ++ g ++ a2) (by rw [strLen_append, strLen_append]; omega) (go.mpr (seqS_rt ?_))
    rw [ifS_e, t1, decide_eq_true c1, bns_r, if_pos rfl, retS_e, addE_str (addE_str ea1 (b := g) rfl (by omega)) ea2 (by rw [strLen_append]; omega)]; rfl
  have n1 : ifS t1_l_spoilt (retS (op2 addD (op2 addD (slYE (var 0) oNone (oSome (var 3))) (var 4)) (slYE (var 0) (oSome (var 3)) oNone))) nilS ρ = some (.nx ρ) := by rw [ifS_e, t1, decide_eq_false c1]; rfl
  by_cases c2 : w = 2
  · refine fin (a1 ++ a3) (by rw [strLen_append]; omega) (go.mpr ?_)
    rw [seqS_nx n1]
    refine seqS_rt ?_
    rw [ifS_e, t2, decide_eq_true c2, bns_r, if_pos rfl, retS_e, addE_str ea1 ea3 (by omega)]; rfl
  have n2 : ifS t2_l_spoilt (retS (op2 addD (slYE (var 0) oNone (oSome (var 3))) (slYE (var 0) (oSome (op2 addD (var 3) (cst (.int 1)))) oNone))) nilS ρ = some (.nx ρ) := by rw [ifS_e, t2, decide_eq_false c2]; rfl
  by_cases c3 : w < 5
  · refine fin (a1 ++ g ++ a3) (by rw [strLen_append, strLen_append]; omega) (go.mpr ?_)
    rw [seqS_nx n1, seqS_nx n2]
    refine seqS_rt ?_
    rw [ifS_e, t3, decide_eq_true c3, bns_r, if_pos rfl, retS_e, addE_str (addE_str ea1 (b := g) rfl (by omega)) ea3 (by rw [strLen_append]; omega)]; rfl
  have n3 : ifS t3_l_spoilt (retS (op2 addD (op2 addD (slYE (var 0) oNone (oSome (var 3))) (var 4)) (slYE (var 0) (oSome (op2 addD (var 3) (cst (.int 1)))) oNone))) nilS ρ = some (.nx ρ) := by rw [ifS_e, t3, decide_eq_false c3]; rfl
  by_cases c4 : w = 5
  · refine fin (a1 ++ a4) (by rw [strLen_append]; omega) (go.mpr ?_)
    rw [seqS_nx n1, seqS_nx n2, seqS_nx n3]
    refine seqS_rt ?_
    rw [ifS_e, t4, decide_eq_true c4, bns_r, if_pos rfl, retS_e, addE_str ea1 ea4 (by omega)]; rfl
  have n4 : ifS t4_l_spoilt (retS (op2 addD (slYE (var 0) oNone (oSome (var 3))) (slYE (var 0) (oSome (var 5)) oNone))) nilS ρ = some (.nx ρ) := by rw [ifS_e, t4, decide_eq_false c4]; rfl
  by_cases c5 : w = 6
  · refine fin (a5 ++ a2) (by rw [strLen_append]; omega) (go.mpr ?_)
    rw [seqS_nx n1, seqS_nx n2, seqS_nx n3, seqS_nx n4]
    refine seqS_rt ?_
    rw [ifS_e, t5, decide_eq_true c5, bns_r, if_pos rfl, retS_e, addE_str ea5 ea2 (by omega)]; rfl
  have n5 : ifS t5_l_spoilt (retS (op2 addD (slYE (var 0) oNone (oSome (var 5))) (slYE (var 0) (oSome (var 3)) oNone))) nilS ρ = some (.nx ρ) := by rw [ifS_e, t5, decide_eq_false c5]; rfl
  have l1 : (Str.ofString " ").length = 1 := by decide +kernel
  have l0 : (Str.ofString "").length = 0 := by decide +kernel
  have ls' : lstE (aCons (op2 addD (var 0) (cst (.str " "))) (aCons (op2 addD (cst (.str " ")) (var 0)) (aCons (op2 addD (slYE (var 0) (oSome (var 3)) oNone) (slYE (var 0) oNone (oSome (var 3)))) (aCons (cst (.str "")) (aCons (op2 addD (var 0) (var 0)) aNil))))) ρ = some (.ok (.list ([t ++ Str.ofString " ", Str.ofString " " ++ t, a2 ++ a1, Str.ofString "", t ++ t].map .str))) := by
    unfold lstE
    rw [aCons_at (addE_str (a := t) (b := Str.ofString " ") rfl rfl (by omega)) (aCons_at (addE_str (a := Str.ofString " ") (b := t) rfl rfl (by omega)) (aCons_at (addE_str ea2 ea1 (by omega)) (aCons_at rfl (aCons_at (addE_str (a := t) (b := t) rfl rfl (by omega)) rfl))))]; rfl
  have hk := atI_map (xs := [t ++ Str.ofString " ", Str.ofString " " ++ t, a2 ++ a1, Str.ofString "", t ++ t]) PyData.str ix5.1 (by exact ix5.2) Str.empty
  have hin : ([t ++ Str.ofString " ", Str.ofString " " ++ t, a2 ++ a1, Str.ofString "", t ++ t].getD (c % 5).toNat Str.empty).length ≤ 10000 := by
    have : (c % 5).toNat = 0 ∨ (c % 5).toNat = 1 ∨ (c % 5).toNat = 2 ∨ (c % 5).toNat = 3 ∨ (c % 5).toNat = 4 := by omega
    rcases this with e | e | e | e | e <;> rw [e]
    · show (t ++ Str.ofString " ").length ≤ _
      rw [strLen_append]; omega
    · show (Str.ofString " " ++ t).length ≤ _
      rw [strLen_append]; omega
    · show (a2 ++ a1).length ≤ _
      rw [strLen_append]; omega
    · show (Str.ofString "").length ≤ _
      omega
    · show (t ++ t).length ≤ _
      rw [strLen_append]; omega
  refine fin _ hin (go.mpr ?_)
  rw [seqS_nx n1, seqS_nx n2, seqS_nx n3, seqS_nx n4, seqS_nx n5, retS_e, op2_e, ls', bnd_r]
  have m5 : op2 modD (var 1) (cst (.int 5)) ρ = some (.ok (.int (c % 5))) := by
    show lft (modD (.int c) (.int 5)) = _
    rw [mod_ii, if_pos (by decide)]; rfl
  rw [m5, bnd_r, ixD_l, hk]; rfl
end L2.L3
namespace L2.L3
open PySem PySem.Spec PyProof.Rows
theorem tab_nm : ∀ x ∈ nameTab, nmB x = true := by decide +kernel
theorem SheetOk.nm {s : List Mt} (S : SheetOk s) : ∀ m ∈ s, nmB m.1 = true := fun m hm => by
  have : m.1 ∈ s.map (·.1) := List.mem_map.mpr ⟨m, hm, rfl⟩
  rw [S.names] at this
  exact tab_nm _ (List.mem_of_mem_take this)
theorem SheetOk.wok {s : List Mt} (S : SheetOk s) : ∀ m ∈ s, WOk m := fun m hm => mt_w ⟨S.mt m hm, S.nm m hm⟩
theorem cut_strs (ns : List Str) (lo hi : Option Int) : ∃ qs : List Str, cutD (ns.map .str) lo hi = qs.map .str ∧ qs.length ≤ ns.length ∧ ∀ q ∈ qs, q ∈ ns := by
  unfold cutD
  rw [List.length_map]
  refine ⟨(ns.drop (HT.sIx ns.length 0 lo)).take (HT.sIx ns.length ns.length hi - HT.sIx ns.length 0 lo), ?_, ?_, fun q hq => ?_⟩
  · rw [← List.map_drop, ← List.map_take]
  · rw [List.length_take, List.length_drop]; omega
  · exact List.mem_of_mem_drop (List.mem_of_mem_take hq)
theorem sl_strs {fa : EF} {lo hi : OF} {ρ : List Ent} {ns : List Str} {l h : Option Int} (ha : fa ρ = some (.ok (.list (ns.map .str)))) (hl : lo ρ = some (.ok l)) (hh : hi ρ = some (.ok h)) : ∃ qs : List Str, slE fa lo hi ρ = some (.ok (.list (qs.map .str))) ∧ qs.length ≤ ns.length ∧ ∀ q ∈ qs, q ∈ ns := by
  obtain ⟨qs, e, h1, h2⟩ := cut_strs ns l h
  refine ⟨qs, ?_, h1, h2⟩
  unfold slE
  rw [ha, bnd_r, hl, bnd_r, hh, bnd_r]
  show lft (some (PyData.list (cutD (ns.map .str) l h))) = _
  rw [e]; rfl
theorem add_strs {fa fb : EF} {ρ : List Ent} {a b : List Str} (ha : fa ρ = some (.ok (.list (a.map .str)))) (hb : fb ρ = some (.ok (.list (b.map .str)))) (h : a.length + b.length ≤ 100000) : op2 addD fa fb ρ = some (.ok (.list ((a ++ b).map .str))) := by
  rw [op2_e, ha, bnd_r, hb, bnd_r, add_ll, if_pos (by rw [List.length_map, List.length_map]; exact h), List.map_append]; rfl
theorem e_join {qs : List Str} (hz : qs.length ≤ 40) (hB : ∀ q ∈ qs, q.length ≤ 200) : ∃ z : Str, joiD (.str (Str.ofString "\n")) (.list (qs.map .str)) = some (.str z) ∧ z.length ≤ 10000 := by
  have l1 : (Str.ofString "\n").length = 1 := by decide +kernel
  have jo : JoinOk (Str.ofString "\n") qs = true := by
    unfold JoinOk
    rw [StrLaws.joinFits (B := 200) hB (by rw [l1]; omega)]; rfl
  refine ⟨Txt.join (Str.ofString "\n") qs, ?_, ?_⟩
  · unfold joiD
    dsimp only
    rw [allD_map (g := .str) (fun _ => rfl) qs]
    dsimp only
    rw [if_pos jo]
  · unfold Txt.join
    rw [StrLaws.glued_eq_join]
    have h1 := StrLaws.join_length_le (Str.ofString "\n") qs
    have h2 := StrLaws.sumLen_le qs hB
    rw [l1] at h1
    omega
noncomputable abbrev st8 (ns : List Int) (s : List Mt) (t : Str) (x3 x4 x5 x6 : Ent) : List Ent := [.val (dN ns), .val (dS s), .val (.str t), x3, x4, x5, x6]
theorem ne_self {t : Str} : neD (.str t) (.str t) = some false := by rw [ne_ss, decide_eq_true rfl]; rfl
theorem turn8 {ns : List Int} {s : List Mt} {t : Str} (ht : t.length ≤ 1000) {k : Nat} {x4 x5 x6 : Ent} : b1_law (st8 ns s t (.val (.int (k : Int))) x4 x5 x6) = some (.nx (st8 ns s t (.val (.int (k : Int))) x4 x5 x6)) := by
  have p := e_pick ns (100 + (k : Int)) 1000000000 (by omega) (by decide)
  have lo := pick_lo ns (100 + (k : Int)) (many := 1000000000) (by decide)
  generalize pickOf ns (100 + (k : Int)) 1000000000 = c at p lo
  obtain ⟨z, ez, lz⟩ := e_spoilt (t := t) lo ht
  have e1 : callE F_l_pick (aCons (var 0) (aCons (op2 addD (cst (.int 100)) (var 3)) (aCons (op2 powD (cst (.int 10)) (cst (.int 9))) aNil))) (st8 ns s t (.val (.int (k : Int))) x4 x5 x6) = some (.ok (.int c)) := call_at (ds := [dN ns, .int (100 + (k : Int)), .int 1000000000]) rfl p
  have e2 : callE F_l_spoilt (aCons (var 2) (aCons (callE F_l_pick (aCons (var 0) (aCons (op2 addD (cst (.int 100)) (var 3)) (aCons (op2 powD (cst (.int 10)) (cst (.int 9))) aNil)))) (aCons (cst (.str "ab 0123:9\ncc-")) aNil))) (st8 ns s t (.val (.int (k : Int))) x4 x5 x6) = some (.ok (.str z)) :=
    call_at (ds := [.str t, .int c, .str sg]) (aCons_at rfl (aCons_at e1 (aCons_at rfl rfl))) ez
  have t2 : t2_law (st8 ns s t (.val (.int (k : Int))) x4 x5 x6) = some (.ok false) := by
    show bnd (bnd (callE F_l_holds (aCons _ aNil) _) _) _ = _
    rw [call_at (ds := [.str z]) (aCons_at e2 rfl) (e_holds lz)]; rfl
  show ifS t2_law _ _ _ = _
  rw [ifS_e, t2]; rfl
theorem e_law (ns : List Int) (hl : ns.length ≤ 63) : F_law [dN ns] = some (.ok (.bool true)) := by
  have S := sheet_ok ns 0 (most := 8) (by omega) (by omega)
  have es := e_sheet ns 0 8 (by omega) (by omega) (by omega)
  generalize sheetOf ns 0 8 = s at S es
  have few := S.few
  have hw := S.wok
  have hn := S.nm
  have tl := tx_len hw
  have et := e_text hw (by omega)
  have ew := e_written hw (by omega)
  have er := e_read_text hn hw (by omega) S.yes
  have sp' := spl_at (x := txO s) (c := 10) (by omega)
  have ll : (Txt.split (txO s) ⟨#[10]⟩).length ≤ 11 := by
    rw [show Txt.split (txO s) ⟨#[10]⟩ = s.map lineOf ++ [Str.empty] from split_text hn hw, List.length_append, List.length_map]; simp; omega
  have lp : ∀ p ∈ Txt.split (txO s) ⟨#[10]⟩, p.length ≤ 200 := fun p hp => by have := split_part hp; omega
  have l0 : 0 < (Txt.split (txO s) ⟨#[10]⟩).length := List.length_pos_iff.mpr (split_ne _ _)
  generalize Txt.split (txO s) ⟨#[10]⟩ = L at sp' ll lp l0
  generalize txO s = t at tl et ew er sp'
  refine runD_ok rfl ?_
  show f_law [.val (dN ns), .no, .no, .no, .no, .no, .no] = _
  unfold f_law
  rw [seqS_nx (ρ' := [.val (dN ns), .val (dS s), .no, .no, .no, .no, .no]) (by rw [setS_e, call_at (ds := [dN ns, .int 0, .int 8]) rfl es]; rfl)]
  rw [seqS_nx (ρ' := st8 ns s t .no .no .no .no) (by rw [setS_e, call_at (ds := [dS s]) rfl et]; rfl)]
  have t1 : t1_law (st8 ns s t .no .no .no .no) = some (.ok false) := or_ff (ne_at (x := .str t) (y := .str t) (call_at (ds := [dS s]) rfl ew) rfl ne_self) (ne_at (x := dS s) (y := dS s) (callX_at (ds := [.str t]) rfl er) rfl (by rw [ne_dS S.name_ok S.name_ok, decide_eq_true rfl]; rfl))
  rw [seqS_nx (ρ' := st8 ns s t .no .no .no .no) (by rw [ifS_e, t1]; rfl)]
  have Lp : ∃ ρ', loopS (.nm 3) b1_law ((List.range 4).map fun (r : Nat) => PyData.int (0 + (r : Int))) (st8 ns s t .no .no .no .no) = some (.nx ρ') ∧ ∃ y, ρ' = st8 ns s t y .no .no .no := by
    refine loopS_all (fun (r : Nat) => PyData.int (0 + (r : Int))) (fun ρ' => ∃ y, ρ' = st8 ns s t y .no .no .no) _ _ ⟨_, rfl⟩ ?_
    rintro j hj _ ⟨y, rfl⟩
    rw [Int.zero_add]
    exact ⟨_, _, rfl, .inl (turn8 (by omega)), _, rfl⟩
  obtain ⟨_, e, y, rfl⟩ := Lp
  rw [seqS_nx (by rw [forS_e, rng1_at (n := 4) rfl (by decide) (by decide), bns_r]; exact e)]
  rw [seqS_nx (ρ' := st8 ns s t y (.val (.list (L.map .str))) .no .no) (by
    rw [setS_e]
    unfold dfE
    show bns (lft (splD (.str t) (.str (Str.ofString "\n")))) _ _ = _
    rw [nl_eq, sp']; rfl)]
  have pm : (0 : Int) < ((L.map PyData.str).length : Nat) := by rw [List.length_map]; omega
  have p5 := e_pick ns 110 ((L.map PyData.str).length : Nat) (by decide) pm
  generalize pickOf ns 110 ((L.map PyData.str).length : Nat) = v at p5
  rw [seqS_nx (ρ' := st8 ns s t y (.val (.list (L.map .str))) (.val (.int v)) .no) (by
    rw [setS_e, call_at (ds := [dN ns, .int 110, .int ((L.map PyData.str).length : Nat)]) rfl p5]; rfl)]
  obtain ⟨q1, f1, g1, h1⟩ := sl_strs (fa := var 4) (lo := oNone) (hi := oSome (var 5)) (ρ := st8 ns s t y (.val (.list (L.map .str))) (.val (.int v)) .no) (ns := L) (l := none) (h := some v) rfl rfl rfl
  obtain ⟨q2, f2, g2, h2⟩ := sl_strs (fa := var 4) (lo := oSome (op2 addD (var 5) (cst (.int 1)))) (hi := oNone) (ρ := st8 ns s t y (.val (.list (L.map .str))) (.val (.int v)) .no) (ns := L) (l := some (v + 1)) (h := none) rfl rfl rfl
  obtain ⟨q3, f3, g3, h3⟩ := sl_strs (fa := var 4) (lo := oSome (var 5)) (hi := oSome (op2 addD (var 5) (cst (.int 1)))) (ρ := st8 ns s t y (.val (.list (L.map .str))) (.val (.int v)) .no) (ns := L) (l := some v) (h := some (v + 1)) rfl rfl rfl
  obtain ⟨q4, f4, g4, h4⟩ := sl_strs (fa := var 4) (lo := oSome (var 5)) (hi := oNone) (ρ := st8 ns s t y (.val (.list (L.map .str))) (.val (.int v)) .no) (ns := L) (l := some v) (h := none) rfl rfl rfl
  obtain ⟨z1, j1, k1⟩ := e_join (qs := q1 ++ q2) (by rw [List.length_append]; omega) (fun q hq => by
    rcases List.mem_append.mp hq with h | h
    · exact lp q (h1 q h)
    · exact lp q (h2 q h))
  have t3 : t3_law (st8 ns s t y (.val (.list (L.map .str))) (.val (.int v)) .no) = some (.ok false) := by
    have e3 : dfE joiD (cst (.str "\n")) (op2 addD (slE (var 4) oNone (oSome (var 5))) (slE (var 4) (oSome (op2 addD (var 5) (cst (.int 1)))) oNone)) (st8 ns s t y (.val (.list (L.map .str))) (.val (.int v)) .no) = some (.ok (.str z1)) := by
      unfold dfE
      rw [add_strs f1 f2 (by omega)]
      show lft (joiD (.str (Str.ofString "\n")) (.list ((q1 ++ q2).map .str))) = _
      rw [j1]; rfl
    show bnd (bnd (callE F_l_holds (aCons _ aNil) _) _) _ = _
    rw [call_at (ds := [.str z1]) (aCons_at e3 rfl) (e_holds k1)]; rfl
  rw [seqS_nx (ρ' := st8 ns s t y (.val (.list (L.map .str))) (.val (.int v)) .no) (by rw [ifS_e, t3]; rfl)]
  rw [seqS_nx (ρ' := st8 ns s t y (.val (.list (L.map .str))) (.val (.int v)) (.val (.list ((q1 ++ q3 ++ q4).map .str)))) (by
    rw [setS_e, add_strs (add_strs f1 f3 (by omega)) f4 (by rw [List.length_append]; omega)]; rfl)]
  obtain ⟨z2, j2, k2⟩ := e_join (qs := q1 ++ q3 ++ q4) (by rw [List.length_append, List.length_append]; omega) (fun q hq => by
    rcases List.mem_append.mp hq with h | h
    · rcases List.mem_append.mp h with h | h
      · exact lp q (h1 q h)
      · exact lp q (h3 q h)
    · exact lp q (h4 q h))
  have e4 : dfE joiD (cst (.str "\n")) (var 6) (st8 ns s t y (.val (.list (L.map .str))) (.val (.int v)) (.val (.list ((q1 ++ q3 ++ q4).map .str)))) = some (.ok (.str z2)) := by
    unfold dfE
    show lft (joiD (.str (Str.ofString "\n")) (.list ((q1 ++ q3 ++ q4).map .str))) = _
    rw [j2]; rfl
  rw [retS_e, call_at (ds := [.str z2]) (aCons_at e4 rfl) (e_holds k2)]; rfl
end L2.L3
namespace L2.L3
theorem len1 {α : Type} {l : List α} (h : l.length = 1) : ∃ a, l = [a] := by
  cases l with
  | nil => cases h
  | cons a l => cases l with
    | nil => exact ⟨a, rfl⟩
    | cons b l => simp at h
theorem lenS {α : Type} {l : List α} {n : Nat} (h : l.length = n + 1) : ∃ a r, l = a :: r ∧ r.length = n := by
  cases l with
  | nil => cases h
  | cons a r => exact ⟨a, r, rfl, by simpa using h⟩
theorem len2 {α : Type} {l : List α} (h : l.length = 2) : ∃ a b, l = [a, b] := by
  obtain ⟨a, r, rfl, k⟩ := lenS h; obtain ⟨b, rfl⟩ := len1 k; exact ⟨a, b, rfl⟩
theorem len3 {α : Type} {l : List α} (h : l.length = 3) : ∃ a b c, l = [a, b, c] := by
  obtain ⟨a, r, rfl, k⟩ := lenS h; obtain ⟨b, c, rfl⟩ := len2 k; exact ⟨a, b, c, rfl⟩
end L2.L3
namespace L2.L3
open PySem PySem.Spec PyProof.Rows
section
variable {X : Cx} {a b e kx o f : Expr} {fa fk fv fd fx : EF} {pos p p2 p3 ap cp : Pos}
end
end L2.L3
namespace L2.L3
open PySem PySem.Spec PyProof.Rows
section
variable {X : Cx}
end
end L2.L3
namespace L2.L3
open PySem PySem.Spec PyProof.Rows
section
variable {X : Cx} {e b : Expr} {es : List Expr} {pos p p0 p1 lp sp : Pos} {x y : Str} {k k' : Nat} {ps ps' : List Str} {F F' : List PyData → Mm PyData} {fa : AF} {fb : EF}
end
end L2.L3
namespace HT
open PySem PySem.Spec PyProof.Rows
section
variable {prog : Program} {w : World} {A : Around} {E : Value → Shared → Prop} {s : Shared}
end
end HT
namespace L2
open PySem PySem.Spec PyProof.Rows
end L2
namespace L2.L3
open PySem PySem.Spec PyProof.Rows
section
variable {X : Cx} {a : Expr} {lo hi : Option Expr} {fa : EF} {fl fh : OF} {pos p2 : Pos}
end
end L2.L3
namespace L2.L3
open PySem PySem.Spec PyProof.Rows
noncomputable def top (i : Nat) : Stmt := PySem.Challenge.pw_daysheet_k80_whole_texts.main.body.getD i (.Pass ⟨0, 0, 0, 0⟩)
structure Blt (mg : Str → Option Value) : Prop where
  b_ValueError : mg "ValueError" = none
  b_all : mg "all" = none
  b_bool : mg "bool" = none
  b_dict : mg "dict" = none
  b_int : mg "int" = none
  b_isinstance : mg "isinstance" = none
  b_len : mg "len" = none
  b_range : mg "range" = none
  b_set : mg "set" = none
  b_sorted : mg "sorted" = none
  b_str : mg "str" = none
  b_tuple : mg "tuple" = none
  k_DAY : ∃ t : Tok, mg "DAY" = some (.int 48 t)
  k_LAST_END : ∃ t : Tok, mg "LAST_END" = some (.int 480 t)
  k_LONGEST_NAME : ∃ t : Tok, mg "LONGEST_NAME" = some (.int 4 t)
  k_MOST_MEETINGS : ∃ t : Tok, mg "MOST_MEETINGS" = some (.int 16 t)
section
variable {P : Program} {w : World} {K : PySem.W.Frag} {mg : Str → Option Value} {base : Heap}
noncomputable abbrev s_l_cell : Stmt := top 29
theorem sc_l_cell : FnScope ["_law_script", "_law_k"] ["_law_script", "_law_k"] (defScope s_l_cell) := ⟨rfl, rfl, rfl, by decide +kernel, rfl, by decide +kernel, by decide +kernel⟩
theorem c_l_cell (D : Def K mg "_law_cell" s_l_cell) (B : Blt mg) (XF : ExF K)  : CalleeM P w K mg base "_law_cell" 1 ["_law_script", "_law_k"] F_l_cell := by
  refine callee_den 2 2 D sc_l_cell rfl rfl (fun _ _ _ _ _ _ us hl => by obtain ⟨_, _, rfl⟩ := len2 hl; rfl) (fun fa cdv A outer s H E hr => ?_)
  exact (db_cons (ds_if (dt_cmp lt_ok (de_var 1) (de_callB len_ok B.b_len boot_len (da_cons (de_var 0) da_nil))) (db_one (ds_ret (de_ix (de_var 0) (de_var 1)))) db_nil) (db_cons (ds_if (dt_cmp (eq_ok hr.units) (de_var 0) (de_lst da_nil)) (db_one (ds_ret de_int)) db_nil) (db_one (ds_ret (de_bin add_ok (de_bin mul_ok (de_ix (de_var 0) (de_bin mod_ok (de_var 1) (de_callB len_ok B.b_len boot_len (da_cons (de_var 0) da_nil)))) de_int) (de_var 1))))))
noncomputable abbrev s_l_pick : Stmt := top 30
theorem sc_l_pick : FnScope ["_law_script", "_law_k", "_law_many", "_law_drawn"] ["_law_script", "_law_k", "_law_many"] (defScope s_l_pick) := ⟨rfl, rfl, rfl, by decide +kernel, rfl, by decide +kernel, by decide +kernel⟩
theorem c_l_pick (D : Def K mg "_law_pick" s_l_pick) (B : Blt mg) (XF : ExF K) (C_l_cell : CalleeM P w K mg base "_law_cell" 1 ["_law_script", "_law_k"] F_l_cell) : CalleeM P w K mg base "_law_pick" 2 ["_law_script", "_law_k", "_law_many"] F_l_pick := by
  refine callee_den 4 3 D sc_l_pick rfl rfl (fun _ _ _ _ _ _ us hl => by obtain ⟨_, _, _, rfl⟩ := len3 hl; rfl) (fun fa cdv A outer s H E hr => ?_)
  exact (db_cons (ds_set 3 sc_l_pick.nd (de_bin mod_ok (de_bin mul_ok (de_bin add_ok (de_call C_l_cell (hr.mono (by decide)) (da_cons (de_var 0) (da_cons (de_var 1) da_nil))) (de_bin mul_ok de_int (de_bin add_ok (de_var 1) de_int))) de_int) de_int)) (db_one (ds_ret (de_bin mod_ok (de_bin mod_ok (de_bin add_ok (de_bin mul_ok (de_var 3) (de_var 3)) (de_bin fdv_ok (de_var 3) de_int)) de_int) (de_var 2)))))
noncomputable abbrev s_l_sheet : Stmt := top 31
theorem sc_l_sheet : FnScope ["_law_script", "_law_at", "_law_most", "_law_span", "_law_names", "_law_made", "_law_k", "_law_begin", "_law_size"] ["_law_script", "_law_at", "_law_most"] (defScope s_l_sheet) := ⟨rfl, rfl, rfl, by decide +kernel, rfl, by decide +kernel, by decide +kernel⟩
theorem c_l_sheet (D : Def K mg "_law_sheet" s_l_sheet) (B : Blt mg) (XF : ExF K) (C_l_pick : CalleeM P w K mg base "_law_pick" 2 ["_law_script", "_law_k", "_law_many"] F_l_pick) : CalleeM P w K mg base "_law_sheet" 3 ["_law_script", "_law_at", "_law_most"] F_l_sheet := by
  refine callee_den 9 3 D sc_l_sheet rfl rfl (fun _ _ _ _ _ _ us hl => by obtain ⟨_, _, _, rfl⟩ := len3 hl; rfl) (fun fa cdv A outer s H E hr => ?_)
  exact (db_cons (ds_set 3 sc_l_sheet.nd (de_ix (de_lst (da_cons de_int (da_cons de_int (da_cons de_int (da_cons de_int da_nil))))) (de_call C_l_pick (hr.mono (by decide)) (da_cons (de_var 0) (da_cons (de_var 1) (da_cons de_int da_nil)))))) (db_cons (ds_set 4 sc_l_sheet.nd (de_lst (da_cons de_str (da_cons de_str (da_cons de_str (da_cons de_str (da_cons de_str (da_cons de_str (da_cons de_str (da_cons de_str (da_cons de_str (da_cons de_str da_nil)))))))))))) (db_cons (ds_new 5 sc_l_sheet.nd da_nil) (db_cons (ds_for PassesOwn.never rfl (di_rng1 B.b_range (de_call C_l_pick (hr.mono (by decide)) (da_cons (de_var 0) (da_cons (de_bin add_ok (de_var 1) de_int) (da_cons (de_bin add_ok (de_var 2) de_int) da_nil))))) (dg_name 6 sc_l_sheet.nd) (db_cons (ds_set 7 sc_l_sheet.nd (de_call C_l_pick (hr.mono (by decide)) (da_cons (de_var 0) (da_cons (de_bin add_ok (de_bin add_ok (de_var 1) de_int) (de_bin mul_ok de_int (de_var 6))) (da_cons (de_var 3) da_nil))))) (db_cons (ds_set 8 sc_l_sheet.nd (de_bin add_ok de_int (de_call C_l_pick (hr.mono (by decide)) (da_cons (de_var 0) (da_cons (de_bin add_ok (de_bin add_ok (de_var 1) de_int) (de_bin mul_ok de_int (de_var 6))) (da_cons (de_ix (de_lst (da_cons de_int (da_cons de_int (da_cons (de_var 3) da_nil)))) (de_call C_l_pick (hr.mono (by decide)) (da_cons (de_var 0) (da_cons (de_bin add_ok (de_bin add_ok (de_var 1) de_int) (de_bin mul_ok de_int (de_var 6))) (da_cons de_int da_nil))))) da_nil)))))) (db_one (ds_app 5 (de_tup (da_cons (de_ix (de_var 4) (de_var 6)) (da_cons (de_var 7) (da_cons (de_bin add_ok (de_var 7) (de_var 8)) da_nil))))))))) (db_frz 5 (db_one (ds_ret (de_callT tup_ok B.b_tuple boot_tuple (da_cons (de_var 5) da_nil)))))))))
noncomputable abbrev s_l_text : Stmt := top 34
theorem sc_l_text : FnScope ["_law_sheet_here", "_law_text_here", "_law_name", "_law_begin", "_law_end"] ["_law_sheet_here"] (defScope s_l_text) := ⟨rfl, rfl, rfl, by decide +kernel, rfl, by decide +kernel, by decide +kernel⟩
theorem c_l_text (D : Def K mg "_law_text" s_l_text) (B : Blt mg) (XF : ExF K)  : CalleeM P w K mg base "_law_text" 1 ["_law_sheet_here"] F_l_text := by
  refine callee_den 5 1 D sc_l_text rfl rfl (fun _ _ _ _ _ _ us hl => by obtain ⟨_, rfl⟩ := len1 hl; rfl) (fun fa cdv A outer s H E hr => ?_)
  exact (db_cons (ds_set 1 sc_l_text.nd de_str) (db_cons (ds_for PassesOwn.never rfl (di_seq (de_var 0)) (dg_tup rfl (dgs_cons 2 sc_l_text.nd (dgs_cons 3 sc_l_text.nd (dgs_cons 4 sc_l_text.nd dgs_nil)))) (db_cons (ds_set 1 sc_l_text.nd (de_bin add_ok (de_bin add_ok (de_bin add_ok (de_bin add_ok (de_bin add_ok (de_var 1) (de_var 2)) de_str) (de_callT str_ok B.b_str boot_str (da_cons (de_bin fdv_ok (de_var 3) de_int) da_nil))) de_str) (de_callT str_ok B.b_str boot_str (da_cons (de_bin mod_ok (de_var 3) de_int) da_nil)))) (db_one (ds_set 1 sc_l_text.nd (de_bin add_ok (de_bin add_ok (de_bin add_ok (de_bin add_ok (de_bin add_ok (de_var 1) de_str) (de_callT str_ok B.b_str boot_str (da_cons (de_bin fdv_ok (de_var 4) de_int) da_nil))) de_str) (de_callT str_ok B.b_str boot_str (da_cons (de_bin mod_ok (de_var 4) de_int) da_nil))) de_str))))) (db_one (ds_ret (de_var 1)))))
noncomputable abbrev s_row_of : Stmt := top 26
theorem sc_row_of : FnScope ["line", "moments", "parts"] ["line", "moments"] (defScope s_row_of) := ⟨rfl, rfl, rfl, by decide +kernel, rfl, by decide +kernel, by decide +kernel⟩
theorem c_row_of (D : Def K mg "row_of" s_row_of) (B : Blt mg) (XF : ExF K)  : CalleeM P w K mg base "row_of" 1 ["line", "moments"] F_row_of := by
  refine callee_den 3 2 D sc_row_of rfl rfl (fun _ _ _ _ _ _ us hl => by obtain ⟨_, _, rfl⟩ := len2 hl; rfl) (fun fa cdv A outer s H E hr => ?_)
  have nd1 : (["part", "moments"] : List Str).Nodup := by decide +kernel
  exact (db_cons (ds_set 2 sc_row_of.nd (de_split (de_var 0) de_str)) (db_one (ds_ret (de_callT tup_ok B.b_tuple boot_tuple (da_cons (de_bin add_ok (de_sl (de_var 2) dO_none (dO_some de_int)) (de_comp (N' := ["part", "moments"]) (cap := [none, some 1]) rfl (blk_of (so := defScope s_row_of) (NN := ["line", "moments", "parts"]) rfl rfl (by decide +kernel)) (di_seq (de_sl (de_var 2) (dO_some de_int) dO_none)) (by decide +kernel) (fun _ _ _ _ => (dg_name 0 nd1)) (fun _ _ _ _ => dts_nil) (fun _ _ _ _ => (de_get1 hr.units (de_var 1) (de_var 0))))) da_nil)))))
noncomputable abbrev s_is_rising : Stmt := top 14
theorem sc_is_rising : FnScope ["row"] ["row"] (defScope s_is_rising) := ⟨rfl, rfl, rfl, by decide +kernel, rfl, by decide +kernel, by decide +kernel⟩
theorem c_is_rising (D : Def K mg "is_rising" s_is_rising) (B : Blt mg) (XF : ExF K)  : CalleeM P w K mg base "is_rising" 1 ["row"] F_is_rising := by
  refine callee_den 1 1 D sc_is_rising rfl rfl (fun _ _ _ _ _ _ us hl => by obtain ⟨_, rfl⟩ := len1 hl; rfl) (fun fa cdv A outer s H E hr => ?_)
  exact (db_one (ds_ret (de_cmp (eq_ok hr.units) (de_var 0) (de_sset rfl B.b_sorted B.b_set (de_var 0)))))
noncomputable abbrev s_names_of : Stmt := top 18
theorem sc_names_of : FnScope ["sheet"] ["sheet"] (defScope s_names_of) := ⟨rfl, rfl, rfl, by decide +kernel, rfl, by decide +kernel, by decide +kernel⟩
theorem c_names_of (D : Def K mg "names_of" s_names_of) (B : Blt mg) (XF : ExF K)  : CalleeM P w K mg base "names_of" 1 ["sheet"] F_names_of := by
  refine callee_den 1 1 D sc_names_of rfl rfl (fun _ _ _ _ _ _ us hl => by obtain ⟨_, rfl⟩ := len1 hl; rfl) (fun fa cdv A outer s H E hr => ?_)
  have nd1 : (["meeting"] : List Str).Nodup := by decide +kernel
  exact (db_one (ds_ret (de_comp (N' := ["meeting"]) (cap := [none]) rfl (blk_of (so := defScope s_names_of) (NN := ["sheet"]) rfl rfl (by decide +kernel)) (di_seq (de_var 0)) (by decide +kernel) (fun _ _ _ _ => (dg_name 0 nd1)) (fun _ _ _ _ => dts_nil) (fun _ _ _ _ => (de_ix (de_var 0) de_int)))))
noncomputable abbrev s_is_name : Stmt := top 13
theorem sc_is_name : FnScope ["thing"] ["thing"] (defScope s_is_name) := ⟨rfl, rfl, rfl, by decide +kernel, rfl, by decide +kernel, by decide +kernel⟩
theorem c_is_name (D : Def K mg "is_name" s_is_name) (B : Blt mg) (XF : ExF K)  : CalleeM P w K mg base "is_name" 1 ["thing"] F_is_name := by
  refine callee_den 1 1 D sc_is_name rfl rfl (fun _ _ _ _ _ _ us hl => by obtain ⟨_, rfl⟩ := len1 hl; rfl) (fun fa cdv A outer s H E hr => ?_)
  have nd1 : (["letter"] : List Str).Nodup := by decide +kernel
  exact (db_cons (ds_if (DW.dt (dw_or (dt_not (dt_tru (de_isinst B.b_isinstance B.b_str boot_str (de_var 0)))) (dw_or1 (dt_not (dt_chn le_ok le_ok de_int (de_callB len_ok B.b_len boot_len (da_cons (de_var 0) da_nil)) (de_globI rfl (B.k_LONGEST_NAME))))))) (db_one (ds_ret de_bool)) db_nil) (db_one (ds_ret (de_callB (all_ok rfl) B.b_all boot_all (da_cons (de_comp (N' := ["letter"]) (cap := [none]) rfl (blk_of (so := defScope s_is_name) (NN := ["thing"]) rfl rfl (by decide +kernel)) (ltr_di rfl (de_var 0)) (by decide +kernel) (fun _ _ _ _ => (dg_name 0 nd1)) (fun _ _ _ _ => dts_nil) (fun _ _ _ _ => (de_chn le_ok le_ok de_str (de_var 0) de_str))) da_nil)))))
noncomputable abbrev s_is_whole : Stmt := top 12
theorem sc_is_whole : FnScope ["thing"] ["thing"] (defScope s_is_whole) := ⟨rfl, rfl, rfl, by decide +kernel, rfl, by decide +kernel, by decide +kernel⟩
theorem c_is_whole (D : Def K mg "is_whole" s_is_whole) (B : Blt mg) (XF : ExF K)  : CalleeM P w K mg base "is_whole" 1 ["thing"] F_is_whole := by
  refine callee_den 1 1 D sc_is_whole rfl rfl (fun _ _ _ _ _ _ us hl => by obtain ⟨_, rfl⟩ := len1 hl; rfl) (fun fa cdv A outer s H E hr => ?_)
  exact (db_one (ds_ret (de_and (de_isinst B.b_isinstance B.b_int boot_int (de_var 0)) (de_one (de_not (de_isinst B.b_isinstance B.b_bool boot_bool (de_var 0)))))))
noncomputable abbrev s_are_times : Stmt := top 15
theorem sc_are_times : FnScope ["begin", "end"] ["begin", "end"] (defScope s_are_times) := ⟨rfl, rfl, rfl, by decide +kernel, rfl, by decide +kernel, by decide +kernel⟩
theorem c_are_times (D : Def K mg "are_times" s_are_times) (B : Blt mg) (XF : ExF K) (C_is_whole : CalleeM P w K mg base "is_whole" 1 ["thing"] F_is_whole) : CalleeM P w K mg base "are_times" 2 ["begin", "end"] F_are_times := by
  refine callee_den 2 2 D sc_are_times rfl rfl (fun _ _ _ _ _ _ us hl => by obtain ⟨_, _, rfl⟩ := len2 hl; rfl) (fun fa cdv A outer s H E hr => ?_)
  exact (db_one (ds_ret (de_and (de_call C_is_whole (hr.mono (by decide)) (da_cons (de_var 0) da_nil)) (de_and (de_call C_is_whole (hr.mono (by decide)) (da_cons (de_var 1) da_nil)) (de_one (de_chn3 le_ok lt_ok le_ok de_int (de_var 0) (de_var 1) (de_globI rfl (B.k_LAST_END))))))))
noncomputable abbrev s_is_meeting : Stmt := top 16
theorem sc_is_meeting : FnScope ["thing"] ["thing"] (defScope s_is_meeting) := ⟨rfl, rfl, rfl, by decide +kernel, rfl, by decide +kernel, by decide +kernel⟩
theorem c_is_meeting (D : Def K mg "is_meeting" s_is_meeting) (B : Blt mg) (XF : ExF K) (C_is_name : CalleeM P w K mg base "is_name" 1 ["thing"] F_is_name) (C_are_times : CalleeM P w K mg base "are_times" 2 ["begin", "end"] F_are_times) : CalleeM P w K mg base "is_meeting" 3 ["thing"] F_is_meeting := by
  refine callee_den 1 1 D sc_is_meeting rfl rfl (fun _ _ _ _ _ _ us hl => by obtain ⟨_, rfl⟩ := len1 hl; rfl) (fun fa cdv A outer s H E hr => ?_)
  exact (db_cons (ds_if (DW.dt (dw_or (dt_not (dt_tru (de_isinst B.b_isinstance B.b_tuple boot_tuple (de_var 0)))) (dw_or1 (dt_cmp (ne_ok hr.units) (de_callB len_ok B.b_len boot_len (da_cons (de_var 0) da_nil)) de_int)))) (db_one (ds_ret de_bool)) db_nil) (db_one (ds_ret (de_and (de_call C_is_name (hr.mono (by decide)) (da_cons (de_ix (de_var 0) de_int) da_nil)) (de_one (de_call C_are_times (hr.mono (by decide)) (da_cons (de_ix (de_var 0) de_int) (da_cons (de_ix (de_var 0) de_int) da_nil))))))))
noncomputable abbrev s_is_sheet : Stmt := top 17
theorem sc_is_sheet : FnScope ["thing"] ["thing"] (defScope s_is_sheet) := ⟨rfl, rfl, rfl, by decide +kernel, rfl, by decide +kernel, by decide +kernel⟩
theorem c_is_sheet (D : Def K mg "is_sheet" s_is_sheet) (B : Blt mg) (XF : ExF K) (C_is_meeting : CalleeM P w K mg base "is_meeting" 3 ["thing"] F_is_meeting) (C_names_of : CalleeM P w K mg base "names_of" 1 ["sheet"] F_names_of) (C_is_rising : CalleeM P w K mg base "is_rising" 1 ["row"] F_is_rising) : CalleeM P w K mg base "is_sheet" 4 ["thing"] F_is_sheet := by
  refine callee_den 1 1 D sc_is_sheet rfl rfl (fun _ _ _ _ _ _ us hl => by obtain ⟨_, rfl⟩ := len1 hl; rfl) (fun fa cdv A outer s H E hr => ?_)
  have nd1 : (["part"] : List Str).Nodup := by decide +kernel
  exact (db_cons (ds_if (DW.dt (dw_or (dt_not (dt_tru (de_isinst B.b_isinstance B.b_tuple boot_tuple (de_var 0)))) (dw_or1 (dt_cmp gt_ok (de_callB len_ok B.b_len boot_len (da_cons (de_var 0) da_nil)) (de_globI rfl (B.k_MOST_MEETINGS)))))) (db_one (ds_ret de_bool)) db_nil) (db_cons (ds_if (dt_not (dt_tru (de_callB (all_ok rfl) B.b_all boot_all (da_cons (de_comp (N' := ["part"]) (cap := [none]) rfl (blk_of (so := defScope s_is_sheet) (NN := ["thing"]) rfl rfl (by decide +kernel)) (di_seq (de_var 0)) (by decide +kernel) (fun _ _ _ _ => (dg_name 0 nd1)) (fun _ _ _ _ => dts_nil) (fun _ _ _ _ => (de_call C_is_meeting (hr.mono (by decide)) (da_cons (de_var 0) da_nil)))) da_nil)))) (db_one (ds_ret de_bool)) db_nil) (db_one (ds_ret (de_call C_is_rising (hr.mono (by decide)) (da_cons (de_call C_names_of (hr.mono (by decide)) (da_cons (de_var 0) da_nil)) da_nil))))))
noncomputable abbrev s_day_of : Stmt := top 21
theorem sc_day_of : FnScope ["moment"] ["moment"] (defScope s_day_of) := ⟨rfl, rfl, rfl, by decide +kernel, rfl, by decide +kernel, by decide +kernel⟩
theorem c_day_of (D : Def K mg "day_of" s_day_of) (B : Blt mg) (XF : ExF K)  : CalleeM P w K mg base "day_of" 1 ["moment"] F_day_of := by
  refine callee_den 1 1 D sc_day_of rfl rfl (fun _ _ _ _ _ _ us hl => by obtain ⟨_, rfl⟩ := len1 hl; rfl) (fun fa cdv A outer s H E hr => ?_)
  exact (db_one (ds_ret (de_bin fdv_ok (de_var 0) (de_globI rfl (B.k_DAY)))))
noncomputable abbrev s_moment_text : Stmt := top 23
theorem sc_moment_text : FnScope ["moment", "day", "place"] ["moment"] (defScope s_moment_text) := ⟨rfl, rfl, rfl, by decide +kernel, rfl, by decide +kernel, by decide +kernel⟩
theorem c_moment_text (D : Def K mg "moment_text" s_moment_text) (B : Blt mg) (XF : ExF K) (C_day_of : CalleeM P w K mg base "day_of" 1 ["moment"] F_day_of) : CalleeM P w K mg base "moment_text" 2 ["moment"] F_moment_text := by
  refine callee_den 3 1 D sc_moment_text rfl rfl (fun _ _ _ _ _ _ us hl => by obtain ⟨_, rfl⟩ := len1 hl; rfl) (fun fa cdv A outer s H E hr => ?_)
  exact (db_cons (ds_set 1 sc_moment_text.nd (de_call C_day_of (hr.mono (by decide)) (da_cons (de_var 0) da_nil))) (db_cons (ds_set 2 sc_moment_text.nd (de_bin mod_ok (de_var 0) (de_globI rfl (B.k_DAY)))) (db_one (ds_ret (de_joined (dj_cons (de_fmt (de_var 1)) (dj_cons de_str (dj_cons (de_fmt (de_var 2)) dj_nil))))))))
noncomputable abbrev s_readX : Stmt := top 27
theorem sc_readX : FnScope ["text", "moments", "lines", "sheet"] ["text"] (defScope s_readX) := ⟨rfl, rfl, rfl, by decide +kernel, rfl, by decide +kernel, by decide +kernel⟩
theorem c_readX (D : Def K mg "read" s_readX) (B : Blt mg) (XF : ExF K) (C_moment_text : CalleeM P w K mg base "moment_text" 2 ["moment"] F_moment_text) (C_row_of : CalleeM P w K mg base "row_of" 1 ["line", "moments"] F_row_of) (C_is_sheet : CalleeM P w K mg base "is_sheet" 4 ["thing"] F_is_sheet) : CalleeX P w K mg base "read" 5 ["text"] F_readX := by
  refine calleeX_den 4 1 D sc_readX rfl rfl (fun _ _ _ _ _ _ us hl => by obtain ⟨_, rfl⟩ := len1 hl; rfl) (fun fa cdv A outer s H E hr => ?_)
  have nd1 : (["moment"] : List Str).Nodup := by decide +kernel
  have nd2 : (["line", "moments"] : List Str).Nodup := by decide +kernel
  exact (db_cons (ds_if (dt_not (dt_tru (de_isinst B.b_isinstance B.b_str boot_str (de_var 0)))) (db_one (ds_raiseF XF rfl)) db_nil) (db_cons (ds_set 1 sc_readX.nd (de_callT (dict_ok rfl) B.b_dict boot_dict (da_cons (de_comp (N' := ["moment"]) (cap := [none]) rfl (blk_of (so := defScope s_readX) (NN := ["text", "moments", "lines", "sheet"]) rfl rfl (by decide +kernel)) (di_rng1 B.b_range (de_bin add_ok (de_globI rfl (B.k_LAST_END)) de_int)) (by decide +kernel) (fun _ _ _ _ => (dg_name 0 nd1)) (fun _ _ _ _ => dts_nil) (fun _ _ _ _ => (de_tup (da_cons (de_call C_moment_text (hr.mono (by decide)) (da_cons (de_var 0) da_nil)) (da_cons (de_var 0) da_nil))))) da_nil))) (db_cons (ds_set 2 sc_readX.nd (de_split (de_var 0) de_str)) (db_cons (ds_set 3 sc_readX.nd (de_callT tup_ok B.b_tuple boot_tuple (da_cons (de_comp (N' := ["line", "moments"]) (cap := [none, some 1]) rfl (blk_of (so := defScope s_readX) (NN := ["text", "moments", "lines", "sheet"]) rfl rfl (by decide +kernel)) (di_seq (de_sl (de_var 2) dO_none (dO_some (de_neg de_int)))) (by decide +kernel) (fun _ _ _ _ => (dg_name 0 nd2)) (fun _ _ _ _ => dts_nil) (fun _ _ _ _ => (de_call C_row_of (hr.mono (by decide)) (da_cons (de_var 0) (da_cons (de_var 1) da_nil))))) da_nil))) (db_cons (ds_if (DW.dt (dw_or (dt_cmp (ne_ok hr.units) (de_ix (de_var 2) (de_neg de_int)) de_str) (dw_or1 (dt_not (dt_tru (de_call C_is_sheet (hr.mono (by decide)) (da_cons (de_var 3) da_nil))))))) (db_one (ds_raiseF XF rfl)) db_nil) (db_one (ds_ret (de_var 3))))))))
noncomputable abbrev s_l_word : Stmt := top 33
theorem sc_l_word : FnScope ["_law_kept", "_law_kinds"] ["_law_kept"] (defScope s_l_word) := ⟨rfl, rfl, rfl, by decide +kernel, rfl, by decide +kernel, by decide +kernel⟩
theorem c_l_word (D : Def K mg "_law_word" s_l_word) (B : Blt mg) (XF : ExF K)  : CalleeE P w K mg base "_law_word" 1 ["_law_kept"] F_l_word := by
  refine calleeE_den 2 D sc_l_word rfl rfl (fun _ _ _ _ _ _ us hl => by obtain ⟨_, rfl⟩ := len1 hl; rfl) (fun fa cdv A outer s H E hr => ?_)
  exact (db_cons (ds_new 1 sc_l_word.nd (da_cons (de_isx 0 XF B.b_isinstance) (da_cons (de_isx 0 XF B.b_isinstance) (da_cons (de_isx 0 XF B.b_isinstance) (da_cons (de_isx 0 XF B.b_isinstance) da_nil))))) (db_cons (ds_extX 1 (de_lst (da_cons (de_isx 0 XF B.b_isinstance) (da_cons (de_isx 0 XF B.b_isinstance) da_nil)))) (db_cons (ds_if (dt_th (DW.dt (dw_or (dt_cmp (ne_ok hr.units) (de_count (de_var 1) de_bool) de_int) (dw_or1 (dt_not (dt_tru (de_isxV 0 XF B.b_isinstance B.b_ValueError))))))) (db_one (ds_ret de_str)) db_nil) (db_frz 1 (db_one (ds_ret (de_ix (de_lst (da_cons de_str (da_cons de_str (da_cons de_str (da_cons de_str (da_cons de_str (da_cons de_str da_nil))))))) (de_indexB (de_var 1) de_bool))))))))
noncomputable abbrev s_l_holds : Stmt := top 35
theorem sc_l_holds : FnScope ["_law_text_here", "_law_kept", "_law_answer", "e"] ["_law_text_here"] (defScope s_l_holds) := ⟨rfl, rfl, rfl, by decide +kernel, rfl, by decide +kernel, by decide +kernel⟩
theorem c_l_holds (D : Def K mg "_law_holds" s_l_holds) (B : Blt mg) (XF : ExF K) (C_readX : CalleeX P w K mg base "read" 5 ["text"] F_readX) (C_is_sheet : CalleeM P w K mg base "is_sheet" 4 ["thing"] F_is_sheet) (C_l_text : CalleeM P w K mg base "_law_text" 1 ["_law_sheet_here"] F_l_text) (C_l_word : CalleeE P w K mg base "_law_word" 1 ["_law_kept"] F_l_word) : CalleeM P w K mg base "_law_holds" 6 ["_law_text_here"] F_l_holds := by
  refine callee_den 4 1 D sc_l_holds rfl rfl (fun _ _ _ _ _ _ us hl => by obtain ⟨_, rfl⟩ := len1 hl; rfl) (fun fa cdv A outer s H E hr => ?_)
  exact (db_cons (ds_set 1 sc_l_holds.nd de_none) (db_cons (ds_set 2 sc_l_holds.nd de_none) (db_cons (ds_tryF 1 3 XF sc_l_holds.nd rfl rfl (fun _ _ => (db_one (ds_set 2 sc_l_holds.nd (de_callX C_readX (hr.mono (by decide)) (da_cons (de_var 0) da_nil)))))) (db_cons (ds_if (dt_isNX 1) (db_one (ds_ret (de_and (de_is_bool (de_call C_is_sheet (hr.mono (by decide)) (da_cons (de_var 2) da_nil))) (de_one (de_cmp (eq_ok hr.units) (de_call C_l_text (hr.mono (by decide)) (da_cons (de_var 2) da_nil)) (de_var 0)))))) db_nil) (db_one (ds_ret (de_cmp (eq_ok hr.units) (de_callEx 1 C_l_word (hr.mono (by decide))) de_str)))))))
noncomputable abbrev s_line_of : Stmt := top 24
theorem sc_line_of : FnScope ["meeting", "name", "begin", "end"] ["meeting"] (defScope s_line_of) := ⟨rfl, rfl, rfl, by decide +kernel, rfl, by decide +kernel, by decide +kernel⟩
theorem c_line_of (D : Def K mg "line_of" s_line_of) (B : Blt mg) (XF : ExF K) (C_moment_text : CalleeM P w K mg base "moment_text" 2 ["moment"] F_moment_text) : CalleeM P w K mg base "line_of" 3 ["meeting"] F_line_of := by
  refine callee_den 4 1 D sc_line_of rfl rfl (fun _ _ _ _ _ _ us hl => by obtain ⟨_, rfl⟩ := len1 hl; rfl) (fun fa cdv A outer s H E hr => ?_)
  exact (db_cons (ds_set 1 sc_line_of.nd (de_ix (de_var 0) de_int)) (db_cons (ds_set 2 sc_line_of.nd (de_call C_moment_text (hr.mono (by decide)) (da_cons (de_ix (de_var 0) de_int) da_nil))) (db_cons (ds_set 3 sc_line_of.nd (de_call C_moment_text (hr.mono (by decide)) (da_cons (de_ix (de_var 0) de_int) da_nil))) (db_one (ds_ret (de_joined (dj_cons (de_fmt (de_var 1)) (dj_cons de_str (dj_cons (de_fmt (de_var 2)) (dj_cons de_str (dj_cons (de_fmt (de_var 3)) (dj_cons de_str dj_nil))))))))))))
noncomputable abbrev s_written : Stmt := top 25
theorem sc_written : FnScope ["sheet"] ["sheet"] (defScope s_written) := ⟨rfl, rfl, rfl, by decide +kernel, rfl, by decide +kernel, by decide +kernel⟩
theorem c_written (D : Def K mg "written" s_written) (B : Blt mg) (XF : ExF K) (C_line_of : CalleeM P w K mg base "line_of" 3 ["meeting"] F_line_of) : CalleeM P w K mg base "written" 4 ["sheet"] F_written := by
  refine callee_den 1 1 D sc_written rfl rfl (fun _ _ _ _ _ _ us hl => by obtain ⟨_, rfl⟩ := len1 hl; rfl) (fun fa cdv A outer s H E hr => ?_)
  have nd1 : (["meeting"] : List Str).Nodup := by decide +kernel
  exact (db_one (ds_ret (de_join de_str (de_comp (N' := ["meeting"]) (cap := [none]) rfl (blk_of (so := defScope s_written) (NN := ["sheet"]) rfl rfl (by decide +kernel)) (di_seq (de_var 0)) (by decide +kernel) (fun _ _ _ _ => (dg_name 0 nd1)) (fun _ _ _ _ => dts_nil) (fun _ _ _ _ => (de_call C_line_of (hr.mono (by decide)) (da_cons (de_var 0) da_nil)))))))
noncomputable abbrev s_l_spoilt : Stmt := top 32
theorem sc_l_spoilt : FnScope ["_law_text_here", "_law_cell_here", "_law_signs", "_law_at", "_law_sign", "_law_on", "_law_way"] ["_law_text_here", "_law_cell_here", "_law_signs"] (defScope s_l_spoilt) := ⟨rfl, rfl, rfl, by decide +kernel, rfl, by decide +kernel, by decide +kernel⟩
theorem c_l_spoilt (D : Def K mg "_law_spoilt" s_l_spoilt) (B : Blt mg) (XF : ExF K)  : CalleeM P w K mg base "_law_spoilt" 1 ["_law_text_here", "_law_cell_here", "_law_signs"] F_l_spoilt := by
  refine callee_den 7 3 D sc_l_spoilt rfl rfl (fun _ _ _ _ _ _ us hl => by obtain ⟨_, _, _, rfl⟩ := len3 hl; rfl) (fun fa cdv A outer s H E hr => ?_)
  exact (db_cons (ds_set 3 sc_l_spoilt.nd (de_bin mod_ok (de_var 1) (de_bin add_ok (de_callB len_ok B.b_len boot_len (da_cons (de_var 0) da_nil)) de_int))) (db_cons (ds_set 4 sc_l_spoilt.nd (de_ix (de_var 2) (de_bin mod_ok (de_bin fdv_ok (de_var 1) de_int) (de_callB len_ok B.b_len boot_len (da_cons (de_var 2) da_nil))))) (db_cons (ds_set 5 sc_l_spoilt.nd (de_bin add_ok (de_bin add_ok (de_var 3) de_int) (de_bin mod_ok (de_bin fdv_ok (de_var 1) de_int) de_int))) (db_cons (ds_set 6 sc_l_spoilt.nd (de_bin mod_ok (de_bin fdv_ok (de_var 1) de_int) de_int)) (db_cons (ds_if (dt_cmp lt_ok (de_var 6) de_int) (db_one (ds_ret (de_bin add_ok (de_bin add_ok (de_slY (de_var 0) dO_none (dO_some (de_var 3))) (de_var 4)) (de_slY (de_var 0) (dO_some (de_var 3)) dO_none)))) db_nil) (db_cons (ds_if (dt_cmp (eq_ok hr.units) (de_var 6) de_int) (db_one (ds_ret (de_bin add_ok (de_slY (de_var 0) dO_none (dO_some (de_var 3))) (de_slY (de_var 0) (dO_some (de_bin add_ok (de_var 3) de_int)) dO_none)))) db_nil) (db_cons (ds_if (dt_cmp lt_ok (de_var 6) de_int) (db_one (ds_ret (de_bin add_ok (de_bin add_ok (de_slY (de_var 0) dO_none (dO_some (de_var 3))) (de_var 4)) (de_slY (de_var 0) (dO_some (de_bin add_ok (de_var 3) de_int)) dO_none)))) db_nil) (db_cons (ds_if (dt_cmp (eq_ok hr.units) (de_var 6) de_int) (db_one (ds_ret (de_bin add_ok (de_slY (de_var 0) dO_none (dO_some (de_var 3))) (de_slY (de_var 0) (dO_some (de_var 5)) dO_none)))) db_nil) (db_cons (ds_if (dt_cmp (eq_ok hr.units) (de_var 6) de_int) (db_one (ds_ret (de_bin add_ok (de_slY (de_var 0) dO_none (dO_some (de_var 5))) (de_slY (de_var 0) (dO_some (de_var 3)) dO_none)))) db_nil) (db_one (ds_ret (de_ix (de_lst (da_cons (de_bin add_ok (de_var 0) de_str) (da_cons (de_bin add_ok de_str (de_var 0)) (da_cons (de_bin add_ok (de_slY (de_var 0) (dO_some (de_var 3)) dO_none) (de_slY (de_var 0) dO_none (dO_some (de_var 3)))) (da_cons de_str (da_cons (de_bin add_ok (de_var 0) (de_var 0)) da_nil)))))) (de_bin mod_ok (de_var 1) de_int)))))))))))))
noncomputable abbrev s_law : Stmt := top 36
theorem sc_law : FnScope ["_law_script", "_law_sheet_here", "_law_text_here", "_law_k", "_law_lines", "_law_place", "_law_twice"] ["_law_script"] (defScope s_law) := ⟨rfl, rfl, rfl, by decide +kernel, rfl, by decide +kernel, by decide +kernel⟩
theorem c_law {fa : Addr} {fd : FuncData} (Fu : Fun K "law" "law" s_law fa fd) (B : Blt mg) (XF : ExF K) (C_l_sheet : CalleeM P w K mg base "_law_sheet" 3 ["_law_script", "_law_at", "_law_most"] F_l_sheet) (C_l_text : CalleeM P w K mg base "_law_text" 1 ["_law_sheet_here"] F_l_text) (C_written : CalleeM P w K mg base "written" 4 ["sheet"] F_written) (C_readX : CalleeX P w K mg base "read" 5 ["text"] F_readX) (C_l_pick : CalleeM P w K mg base "_law_pick" 2 ["_law_script", "_law_k", "_law_many"] F_l_pick) (C_l_spoilt : CalleeM P w K mg base "_law_spoilt" 1 ["_law_text_here", "_law_cell_here", "_law_signs"] F_l_spoilt) (C_l_holds : CalleeM P w K mg base "_law_holds" 6 ["_law_text_here"] F_l_holds) : FnOk P w K mg base CX0 7 fa fd ["_law_script"] (spD K fun ds d => F_law ds = some (.ok d)) := by
  refine fn_den 7 1 Fu sc_law rfl rfl (fun cdv A outer s H E hr => ?_)
  exact (db_cons (ds_set 1 sc_law.nd (de_call C_l_sheet (hr.mono (by decide)) (da_cons (de_var 0) (da_cons de_int (da_cons de_int da_nil))))) (db_cons (ds_set 2 sc_law.nd (de_call C_l_text (hr.mono (by decide)) (da_cons (de_var 1) da_nil))) (db_cons (ds_if (DW.dt (dw_or (dt_cmp (ne_ok hr.units) (de_call C_written (hr.mono (by decide)) (da_cons (de_var 1) da_nil)) (de_var 2)) (dw_or1 (dt_cmp (ne_ok hr.units) (de_callX C_readX (hr.mono (by decide)) (da_cons (de_var 2) da_nil)) (de_var 1))))) (db_one (ds_ret de_bool)) db_nil) (db_cons (ds_for PassesOwn.never rfl (di_rng1 B.b_range de_int) (dg_name 3 sc_law.nd) (db_one (ds_if (dt_not (dt_tru (de_call C_l_holds (hr.mono (by decide)) (da_cons (de_call C_l_spoilt (hr.mono (by decide)) (da_cons (de_var 2) (da_cons (de_call C_l_pick (hr.mono (by decide)) (da_cons (de_var 0) (da_cons (de_bin add_ok de_int (de_var 3)) (da_cons (de_bin pow_ok de_int de_int) da_nil)))) (da_cons de_str da_nil)))) da_nil)))) (db_one (ds_ret de_bool)) db_nil))) (db_cons (ds_set 4 sc_law.nd (de_split (de_var 2) de_str)) (db_cons (ds_set 5 sc_law.nd (de_call C_l_pick (hr.mono (by decide)) (da_cons (de_var 0) (da_cons de_int (da_cons (de_callB len_ok B.b_len boot_len (da_cons (de_var 4) da_nil)) da_nil))))) (db_cons (ds_if (dt_not (dt_tru (de_call C_l_holds (hr.mono (by decide)) (da_cons (de_join de_str (de_bin add_ok (de_sl (de_var 4) dO_none (dO_some (de_var 5))) (de_sl (de_var 4) (dO_some (de_bin add_ok (de_var 5) de_int)) dO_none))) da_nil)))) (db_one (ds_ret de_bool)) db_nil) (db_cons (ds_set 6 sc_law.nd (de_bin add_ok (de_bin add_ok (de_sl (de_var 4) dO_none (dO_some (de_var 5))) (de_sl (de_var 4) (dO_some (de_var 5)) (dO_some (de_bin add_ok (de_var 5) de_int)))) (de_sl (de_var 4) (dO_some (de_var 5)) dO_none))) (db_one (ds_ret (de_call C_l_holds (hr.mono (by decide)) (da_cons (de_join de_str (de_var 6)) da_nil))))))))))))
end
theorem blt_mk {K : PySem.W.Frag} {h : Heap} {mg : Str → Option Value} {t0 : Tok} {t1 : Tok} {t2 : Tok} {t3 : Tok} (X : K.In h) (G : h.Ns mainGlobals mg) (z0 : PySem.W.nsIn K mainGlobals "ValueError" = some none) (z1 : PySem.W.nsIn K mainGlobals "all" = some none) (z2 : PySem.W.nsIn K mainGlobals "bool" = some none) (z3 : PySem.W.nsIn K mainGlobals "dict" = some none) (z4 : PySem.W.nsIn K mainGlobals "int" = some none) (z5 : PySem.W.nsIn K mainGlobals "isinstance" = some none) (z6 : PySem.W.nsIn K mainGlobals "len" = some none) (z7 : PySem.W.nsIn K mainGlobals "range" = some none) (z8 : PySem.W.nsIn K mainGlobals "set" = some none) (z9 : PySem.W.nsIn K mainGlobals "sorted" = some none) (z10 : PySem.W.nsIn K mainGlobals "str" = some none) (z11 : PySem.W.nsIn K mainGlobals "tuple" = some none) (y0 : PySem.W.nsIn K mainGlobals "DAY" = some (some (.int 48 t0))) (y1 : PySem.W.nsIn K mainGlobals "LAST_END" = some (some (.int 480 t1))) (y2 : PySem.W.nsIn K mainGlobals "LONGEST_NAME" = some (some (.int 4 t2))) (y3 : PySem.W.nsIn K mainGlobals "MOST_MEETINGS" = some (some (.int 16 t3))) : Blt mg :=
  ⟨PySem.W.mg_none_of X G z0, PySem.W.mg_none_of X G z1, PySem.W.mg_none_of X G z2, PySem.W.mg_none_of X G z3, PySem.W.mg_none_of X G z4, PySem.W.mg_none_of X G z5, PySem.W.mg_none_of X G z6, PySem.W.mg_none_of X G z7, PySem.W.mg_none_of X G z8, PySem.W.mg_none_of X G z9, PySem.W.mg_none_of X G z10, PySem.W.mg_none_of X G z11, ⟨_, PySem.W.mg_of X G y0⟩, ⟨_, PySem.W.mg_of X G y1⟩, ⟨_, PySem.W.mg_of X G y2⟩, ⟨_, PySem.W.mg_of X G y3⟩⟩
theorem walk {l : PySem.W.OpenLaw} {q : Program} {loose : List Str} {XP : (Str → Option Value) → Heap → Prop} {YP : World → Heap → Prop} {d : DefRec} {K : Params → PySem.W.Frag} (hn : l.most = some 63) (hdf : d.params.defaults = []) (hL : ∀ (w : World), ∀ x ∈ lamNames, PySem.W.tabIn (K w.params) x = none)
    (hY : ∀ (w : World) (h : Heap), YP w h → (K w.params).In h)
    (F : ∀ (w : World) (mg : Str → Option Value) (fa : Addr) (h : Heap), (K w.params).In h → h.Ns mainGlobals mg → mg d.name = some (.ref fa) →
      ∃ fd : FuncData, (∀ (s : Shared) (u : Value), BindsTo s fd ⟨[u], []⟩ [("_law_script", u)]) ∧ ∀ base : Heap, (K w.params).In base → base.Ns mainGlobals mg → FnOk l.prog w (K w.params) mg base CX0 7 fa fd ["_law_script"] (spD (K w.params) fun ds d => F_law ds = some (.ok d))) :
    PySem.W.WalkO q loose XP YP l.row.toRowW d [] (fun f vs => PySem.call f vs) :=
  L2.walk_of (n := 63) (k := 7) (x := "_law_script") (CX := fun _ => CX0) (sp := fun w => spD (K w.params) fun ds d => F_law ds = some (.ok d)) hn (by decide) hdf ⟨rfl, by decide, by decide⟩ hY F
    (fun w H a ns hl hO hS => ⟨H, [dN ns], .bool true, ⟨.refl _, no_tabs (hL w), no_tbl hO⟩, .cons (.list hS (repAll_intsG ns)) .nil, e_law ns hl, fun v G' H' _ r => by cases r; rfl⟩) fun _ _ _ _ _ z => z
theorem law_mk {l : PySem.W.OpenLaw} {w : World} {K : PySem.W.Frag} {h : Heap} {mg : Str → Option Value} {fa f4 : Addr} (X : K.In h) (G : h.Ns mainGlobals mg) (hfa : mg "law" = some (.ref fa)) {od4 an4 : Option Addr} {sl4 : Array (Option Value)} {oc4 kV4 dc4 pm4 cd4 ct4 : Value}
    (B : Blt mg) (XF : ExF K) (D0 : Def K mg "_law_cell" s_l_cell) (D1 : Def K mg "_law_pick" s_l_pick) (D2 : Def K mg "_law_sheet" s_l_sheet) (D3 : Def K mg "_law_text" s_l_text) (D4 : Def K mg "row_of" s_row_of) (D5 : Def K mg "is_rising" s_is_rising) (D6 : Def K mg "names_of" s_names_of) (D7 : Def K mg "is_name" s_is_name) (D8 : Def K mg "is_whole" s_is_whole) (D9 : Def K mg "are_times" s_are_times) (D10 : Def K mg "is_meeting" s_is_meeting) (D11 : Def K mg "is_sheet" s_is_sheet) (D12 : Def K mg "day_of" s_day_of) (D13 : Def K mg "moment_text" s_moment_text) (D14 : Def K mg "read" s_readX) (D15 : Def K mg "_law_word" s_l_word) (D16 : Def K mg "_law_holds" s_l_holds) (D17 : Def K mg "line_of" s_line_of) (D18 : Def K mg "written" s_written) (D19 : Def K mg "_law_spoilt" s_l_spoilt)
    (a4 : PySem.W.nsIn K mainGlobals "law" = some (some (.ref f4))) (l4 : K.lookup f4 = some ⟨oc4, od4, .func (PySem.W.fnOf "law" "law" (defArgs s_law) (defBody s_law) (defScope s_law) .none kV4 dc4 pm4 an4 cd4 ct4), sl4⟩) (c4 : PySem.W.codeIn K cd4 "law" = true) (k4 : PySem.W.keepIn K (.ref f4) = true) :
    ∃ fd : FuncData, (∀ (s : Shared) (v : Value), BindsTo s fd ⟨[v], []⟩ [("_law_script", v)]) ∧ ∀ base : Heap, K.In base → base.Ns mainGlobals mg → FnOk l.prog w K mg base CX0 7 fa fd ["_law_script"] (spD K fun ds d => F_law ds = some (.ok d)) := by
  have e := hfa.symm.trans (PySem.W.mg_of X G a4)
  cases e
  refine ⟨PySem.W.fnOf "law" "law" (defArgs s_law) (defBody s_law) (defScope s_law) .none kV4 dc4 pm4 an4 cd4 ct4, fun s v => .of_eq rfl, fun base kb nb => ?_⟩
  have C_l_cell := c_l_cell (P := l.prog) (w := w) (base := base) D0 B XF
  have C_l_pick := c_l_pick (P := l.prog) (w := w) (base := base) D1 B XF  C_l_cell
  have C_l_sheet := c_l_sheet (P := l.prog) (w := w) (base := base) D2 B XF  C_l_pick
  have C_l_text := c_l_text (P := l.prog) (w := w) (base := base) D3 B XF
  have C_row_of := c_row_of (P := l.prog) (w := w) (base := base) D4 B XF
  have C_is_rising := c_is_rising (P := l.prog) (w := w) (base := base) D5 B XF
  have C_names_of := c_names_of (P := l.prog) (w := w) (base := base) D6 B XF
  have C_is_name := c_is_name (P := l.prog) (w := w) (base := base) D7 B XF
  have C_is_whole := c_is_whole (P := l.prog) (w := w) (base := base) D8 B XF
  have C_are_times := c_are_times (P := l.prog) (w := w) (base := base) D9 B XF  C_is_whole
  have C_is_meeting := c_is_meeting (P := l.prog) (w := w) (base := base) D10 B XF  C_is_name C_are_times
  have C_is_sheet := c_is_sheet (P := l.prog) (w := w) (base := base) D11 B XF  C_is_meeting C_names_of C_is_rising
  have C_day_of := c_day_of (P := l.prog) (w := w) (base := base) D12 B XF
  have C_moment_text := c_moment_text (P := l.prog) (w := w) (base := base) D13 B XF  C_day_of
  have C_readX := c_readX (P := l.prog) (w := w) (base := base) D14 B XF  C_moment_text C_row_of C_is_sheet
  have C_l_word := c_l_word (P := l.prog) (w := w) (base := base) D15 B XF
  have C_l_holds := c_l_holds (P := l.prog) (w := w) (base := base) D16 B XF  C_readX C_is_sheet C_l_text C_l_word
  have C_line_of := c_line_of (P := l.prog) (w := w) (base := base) D17 B XF  C_moment_text
  have C_written := c_written (P := l.prog) (w := w) (base := base) D18 B XF  C_line_of
  have C_l_spoilt := c_l_spoilt (P := l.prog) (w := w) (base := base) D19 B XF
  exact c_law (fun_mk (st := s_law) l4 c4 k4) B XF C_l_sheet C_l_text C_written C_readX C_l_pick C_l_spoilt C_l_holds
end L2.L3
open PySem PySem.W PyProof.Rows
set_option maxRecDepth 100000 in
set_option maxHeartbeats 0 in
theorem PySem.Challenge.cw_daysheet_k80_whole_texts_holds : PySem.Challenge.rw_daysheet_k80_whole_texts.Holds := by
  w_on; o_law; k_head; (case hw => w_witness2)
  k_fill
  refine L2.L3.walk (l := PySem.Challenge.rw_daysheet_k80_whole_texts) rfl rfl (fun w => L2.L3.lam_none (by kernel_rfl) (by kernel_rfl)) (fun w h Y => PySem.W.kIn_of Y) ?F
  case F =>
    intro w mg fa h KX G hmg
    refine' L2.L3.law_mk KX G hmg ?B ?XF ?D0 ?D1 ?D2 ?D3 ?D4 ?D5 ?D6 ?D7 ?D8 ?D9 ?D10 ?D11 ?D12 ?D13 ?D14 ?D15 ?D16 ?D17 ?D18 ?D19 ?a4 ?l4 ?c4 ?k4
    (case XF => exact ⟨by kernel_rfl⟩)
    (case a4 => k_is); (case l4 => k_is); (case c4 => k_is); (case k4 => k_is)
    (case B => (refine' L2.L3.blt_mk KX G ?z0 ?z1 ?z2 ?z3 ?z4 ?z5 ?z6 ?z7 ?z8 ?z9 ?z10 ?z11 ?y0 ?y1 ?y2 ?y3; (case z0 => k_is); (case z1 => k_is); (case z2 => k_is); (case z3 => k_is); (case z4 => k_is); (case z5 => k_is); (case z6 => k_is); (case z7 => k_is); (case z8 => k_is); (case z9 => k_is); (case z10 => k_is); (case z11 => k_is); (case y0 => k_is); (case y1 => k_is); (case y2 => k_is); (case y3 => k_is)))
    (case D0 => (refine' L2.L3.def_mk KX G ?a ?l ?c ?k; (case a => k_is); (case l => k_is); (case c => k_is); (case k => k_is)))
    (case D1 => (refine' L2.L3.def_mk KX G ?a ?l ?c ?k; (case a => k_is); (case l => k_is); (case c => k_is); (case k => k_is)))
    (case D2 => (refine' L2.L3.def_mk KX G ?a ?l ?c ?k; (case a => k_is); (case l => k_is); (case c => k_is); (case k => k_is)))
    (case D3 => (refine' L2.L3.def_mk KX G ?a ?l ?c ?k; (case a => k_is); (case l => k_is); (case c => k_is); (case k => k_is)))
    (case D4 => (refine' L2.L3.def_mk KX G ?a ?l ?c ?k; (case a => k_is); (case l => k_is); (case c => k_is); (case k => k_is)))
    (case D5 => (refine' L2.L3.def_mk KX G ?a ?l ?c ?k; (case a => k_is); (case l => k_is); (case c => k_is); (case k => k_is)))
    (case D6 => (refine' L2.L3.def_mk KX G ?a ?l ?c ?k; (case a => k_is); (case l => k_is); (case c => k_is); (case k => k_is)))
    (case D7 => (refine' L2.L3.def_mk KX G ?a ?l ?c ?k; (case a => k_is); (case l => k_is); (case c => k_is); (case k => k_is)))
    (case D8 => (refine' L2.L3.def_mk KX G ?a ?l ?c ?k; (case a => k_is); (case l => k_is); (case c => k_is); (case k => k_is)))
    (case D9 => (refine' L2.L3.def_mk KX G ?a ?l ?c ?k; (case a => k_is); (case l => k_is); (case c => k_is); (case k => k_is)))
    (case D10 => (refine' L2.L3.def_mk KX G ?a ?l ?c ?k; (case a => k_is); (case l => k_is); (case c => k_is); (case k => k_is)))
    (case D11 => (refine' L2.L3.def_mk KX G ?a ?l ?c ?k; (case a => k_is); (case l => k_is); (case c => k_is); (case k => k_is)))
    (case D12 => (refine' L2.L3.def_mk KX G ?a ?l ?c ?k; (case a => k_is); (case l => k_is); (case c => k_is); (case k => k_is)))
    (case D13 => (refine' L2.L3.def_mk KX G ?a ?l ?c ?k; (case a => k_is); (case l => k_is); (case c => k_is); (case k => k_is)))
    (case D14 => (refine' L2.L3.def_mk KX G ?a ?l ?c ?k; (case a => k_is); (case l => k_is); (case c => k_is); (case k => k_is)))
    (case D15 => (refine' L2.L3.def_mk KX G ?a ?l ?c ?k; (case a => k_is); (case l => k_is); (case c => k_is); (case k => k_is)))
    (case D16 => (refine' L2.L3.def_mk KX G ?a ?l ?c ?k; (case a => k_is); (case l => k_is); (case c => k_is); (case k => k_is)))
    (case D17 => (refine' L2.L3.def_mk KX G ?a ?l ?c ?k; (case a => k_is); (case l => k_is); (case c => k_is); (case k => k_is)))
    (case D18 => (refine' L2.L3.def_mk KX G ?a ?l ?c ?k; (case a => k_is); (case l => k_is); (case c => k_is); (case k => k_is)))
    (case D19 => (refine' L2.L3.def_mk KX G ?a ?l ?c ?k; (case a => k_is); (case l => k_is); (case c => k_is); (case k => k_is)))

