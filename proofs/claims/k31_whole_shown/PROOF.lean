import PyProof.Rows.All
import Wide.All
import OpenK.AllK
import Wide.FinOn
import Lean
import PyProof.EqAt
import PyProof.EqKinds
import PyProof.TupleCall
import PySem.Challenge.RW_daysheet_k31_whole_shown
set_option Elab.async false
set_option linter.all false
set_option maxRecDepth 100000
set_option maxHeartbeats 4000000
namespace L2
open PySem PySem.Spec PyProof.Rows
noncomputable abbrev Key := Sum Int Str
noncomputable def keyIs : Key → Value → Bool
  | .inl k, v => Value.isInt k v
  | .inr x, v => Value.isStrOf x v
noncomputable def keyH (w : World) : Key → Int
  | .inl k => hashInt k
  | .inr x => hashStr w x
theorem keyIs_shape : ∀ {k : Key} {v : Value}, keyIs k v = true → (∃ i t, k = Sum.inl i ∧ v = Value.int i t) ∨ (∃ x t, k = Sum.inr x ∧ v = Value.str x t)
  | .inl i, v, h => by
    obtain ⟨t, e⟩ := Value.isInt_shape (k := i) (v := v) h
    exact .inl ⟨i, t, rfl, e⟩
  | .inr x, v, h => by
    obtain ⟨t, e⟩ := Value.isStrOf_shape (x := x) (v := v) h
    exact .inr ⟨x, t, rfl, e⟩
theorem keyIs_int (i : Int) (t : Tok) : keyIs (.inl i) (.int i t) = true := by simp [keyIs, Value.isInt]
theorem keyIs_str (x : Str) (t : Tok) : keyIs (.inr x) (.str x t) = true := by simp [keyIs, Value.isStrOf]
theorem key_ll (a b : Int) : decide ((Sum.inl a : Key) = Sum.inl b) = (a == b) := by
  by_cases e : a = b
  · subst e; simp
  · have h : ¬ (Sum.inl a : Key) = Sum.inl b := fun q => e (Sum.inl.inj q)
    rw [decide_eq_false h]
    exact (beq_eq_false_iff_ne.mpr e).symm
theorem key_rr (a b : Str) : decide ((Sum.inr a : Key) = Sum.inr b) = decide (a = b) := by
  by_cases e : a = b
  · subst e; simp
  · have h : ¬ (Sum.inr a : Key) = Sum.inr b := fun q => e (Sum.inr.inj q)
    rw [decide_eq_false h, decide_eq_false e]
theorem key_lr (a : Int) (b : Str) : decide ((Sum.inl a : Key) = Sum.inr b) = false := decide_eq_false (fun q => nomatch q)
theorem key_rl (a : Str) (b : Int) : decide ((Sum.inr a : Key) = Sum.inl b) = false := decide_eq_false (fun q => nomatch q)
noncomputable def mixKind (prog : Program) (w : World) : PySem.KeyKind prog w Key where
  is := keyIs
  hash := keyH w
  inj := fun v a b ha hb => by
    rcases keyIs_shape ha with ⟨i, t, rfl, rfl⟩ | ⟨x, t, rfl, rfl⟩
    · rcases keyIs_shape hb with ⟨j, u, rfl, e⟩ | ⟨y, u, rfl, e⟩
      · injection e with e1 _; rw [e1]
      · exact nomatch e
    · rcases keyIs_shape hb with ⟨j, u, rfl, e⟩ | ⟨y, u, rfl, e⟩
      · exact nomatch e
      · injection e with e1 _; rw [e1]
  byValue := fun k v h => by
    rcases keyIs_shape h with ⟨i, t, rfl, rfl⟩ | ⟨x, t, rfl, rfl⟩ <;> rfl
  pyHash := fun hv h => by
    rcases keyIs_shape hv with ⟨i, t, rfl, rfl⟩ | ⟨x, t, rfl, rfl⟩
    · exact wpAny_pyHash_int h
    · exact wpAny_pyHash_str h
  eqBool := fun hu hv h => by
    rcases keyIs_shape hu with ⟨i, t, rfl, rfl⟩ | ⟨x, t, rfl, rfl⟩
    · rcases keyIs_shape hv with ⟨j, u, rfl, rfl⟩ | ⟨y, u, rfl, rfl⟩
      · rw [key_ll] at h; exact wpAny_eqBool_int h
      · rw [key_lr] at h; exact SeqAt.EqAt.int_str i t y u _ _ _ _ h
    · rcases keyIs_shape hv with ⟨j, u, rfl, rfl⟩ | ⟨y, u, rfl, rfl⟩
      · rw [key_rl] at h; exact SeqAt.EqAt.str_int x t j u _ _ _ _ h
      · rw [key_rr] at h; exact wpAny_eqBool_str h
  «strs» := fun k x t v h => by
    rcases keyIs_shape h with ⟨i, u, rfl, e⟩ | ⟨y, u, rfl, e⟩
    · exact nomatch e
    · injection e with e1 _
      subst e1
      cases v <;> rfl
theorem mixKind_int (prog : Program) (w : World) (i : Int) (t : Tok) : (mixKind prog w).is (.inl i) (.int i t) = true := keyIs_int i t
theorem mixKind_str (prog : Program) (w : World) (x : Str) (t : Tok) : (mixKind prog w).is (.inr x) (.str x t) = true := keyIs_str x t
end L2
namespace L2
open PySem PySem.Spec PyProof.Rows
inductive V where
  | non | bl (b : Bool) | int (i : Int) | str (x : Str) | byt (b : Array UInt8) | flt (b : UInt64) | ref (a : Addr) | ty (n : String)
  deriving DecidableEq
noncomputable def RelV : V → Value → Prop
  | .non, u => u = Value.none
  | .bl b, u => u = Value.bool b
  | .int i, u => ∃ t, u = Value.int i t
  | .str x, u => ∃ t, u = Value.str x t
  | .byt b, u => ∃ t, u = Value.bytes b t
  | .flt b, u => ∃ t, u = Value.float b t
  | .ref a, u => u = Value.ref a
  | .ty n, u => u = Value.type n
noncomputable abbrev Vals : List V → List Value → Prop := Paired RelV
theorem Vals.length {xs : List V} {us : List Value} (r : Vals xs us) : xs.length = us.length := Paired.length r
theorem Vals.get : ∀ {xs : List V} {us : List Value} {i : Nat} {x : V}, Vals xs us → xs[i]? = some x → ∃ u, us[i]? = some u ∧ RelV x u
  | _, _, _, _, .nil, e => by simp at e
  | _, _, 0, _, .cons r _, e => by simp at e; subst e; exact ⟨_, rfl, r⟩
  | _, _, i + 1, x, .cons _ t, e => by
    obtain ⟨u, h1, h2⟩ := Vals.get (i := i) (x := x) t (by simpa using e)
    exact ⟨u, by simpa using h1, h2⟩
theorem Vals.append : ∀ {xs ys : List V} {us ws : List Value}, Vals xs us → Vals ys ws → Vals (xs ++ ys) (us ++ ws)
  | _, _, _, _, .nil, s => s
  | _, _, _, _, .cons r t, s => .cons r (Vals.append t s)
theorem Vals.take : ∀ {xs : List V} {us : List Value} (n : Nat), Vals xs us → Vals (xs.take n) (us.take n)
  | _, _, 0, _ => .nil
  | _, _, _ + 1, .nil => .nil
  | _, _, n + 1, .cons r t => .cons r (Vals.take n t)
theorem Vals.drop : ∀ {xs : List V} {us : List Value} (n : Nat), Vals xs us → Vals (xs.drop n) (us.drop n)
  | _, _, 0, r => r
  | _, _, _ + 1, .nil => .nil
  | _, _, n + 1, .cons _ t => Vals.drop n t
noncomputable def RelO : Option V → Option Value → Prop
  | some v, some u => RelV v u
  | none, none => True
  | _, _ => False
noncomputable def KV {κ : Type} : List (κ × V) → List (κ × Value) → Prop := Paired fun (p : κ × V) (q : κ × Value) => p.1 = q.1 ∧ RelV p.2 q.2
noncomputable def kV : Key → V
  | .inl i => .int i
  | .inr x => .str x
inductive HO where
  | lst (xs : List V)
  | tup (xs : List V)
  | dK (kvs : List (Key × V)) | dT (kvs : List (List Key × V))
  | set (S : Int → Bool) (n : Nat)
  | ins (C dx : Addr) (fs : List (Str × V))
  | own (x : Addr)
  | xd (fs : List (Str × V))
  | met (f x : Addr)
  | rng (lo hi : Int)
  | frz (o : Obj) (u : HO)
  | tbl (ps : Str × Array Value)
  | ext (φ : Heap → Prop)
noncomputable abbrev Hp := Addr → Option HO
noncomputable def upd (H : Hp) (a : Addr) (o : HO) : Hp := fun b => if b = a then some o else H b
theorem upd_same {H : Hp} {a : Addr} {o : HO} : upd H a o a = some o := by unfold upd; rw [if_pos rfl]
theorem upd_ne {H : Hp} {a b : Addr} {o : HO} (h : b ≠ a) : upd H a o b = H b := by unfold upd; rw [if_neg h]
theorem ne_of {H : Hp} {a b : Addr} {o u : HO} (h : H a = some o) (h' : H b = some u) (d : o ≠ u) : a ≠ b := by
  intro e; subst e; rw [h] at h'; exact d (Option.some.inj h')
theorem ne_of_none {H : Hp} {a b : Addr} {o : HO} (h : H a = some o) (h' : H b = none) : a ≠ b := by
  intro e; subst e; rw [h] at h'; cases h'
section
variable (P : Program) (w : World)
noncomputable def ObjOk (H : Hp) (h : Heap) (a : Addr) : HO → Prop
  | .lst xs => xs.length ≤ sizeLine ∧ ∃ (its : List Value) (n : Nat), Vals xs its ∧ h.get? a = some { cls := .type "list", data := .seq its.toArray n }
  | .tup xs => xs.length ≤ sizeLine ∧ ∃ its : List Value, Vals xs its ∧ IsTup h a its.toArray
  | .dK kvs => kvs.length ≤ sizeLine ∧ (a == sysModules) = false ∧ ∃ vs, KV kvs vs ∧ h.DictOf (mixKind P w) a vs
  | .dT kvs => kvs.length ≤ sizeLine ∧ (a == sysModules) = false ∧ ∃ xs : List (List Key × Addr × Value),
      Paired (fun (p : List Key × V) (q : List Key × Addr × Value) => p.1 = q.1 ∧ H q.2.1 = some (.tup (p.1.map kV)) ∧ RelV p.2 q.2.2) kvs xs ∧
      ∃ o es ep, h.get? a = some o ∧ o.ExactDict ∧ o.data = .dict es ep ∧ es.toList = xs.map (entryOfKey (tupleKind (mixKind P w))) ∧ (xs.map (·.1)).Nodup
  | .set S n => h.SetOf (intKind P w) a S n
  | .ins C dx fs => H dx = some (.own a) ∧ fs.length ≤ 1000 ∧ dx ≠ a ∧ h.get? a = some (PySem.W.instObj C dx) ∧
      ∃ mA, h.Ns1 dx mA ∧ (∀ f, RelO (fs.lookup f) (mA f)) ∧ PySem.Within mA (fs.map (·.1))
  | .own _ => ∃ o, h.get? a = some o
  | .xd fs => ∃ mA, h.Ns1 a mA ∧ ∀ f, RelO (fs.lookup f) (mA f)
  | .rng lo hi => ∃ t u v, h.get? a = some { cls := .type "range", data := .fields #[.int lo t, .int hi u, .int 1 v] }
  | .frz o u => h.get? a = some o ∧ ObjOk H h a u
  | .tbl ps => h.get? a = some { cls := .none, data := .fields ps.2 }
  | .met f x => h.get? a = some (PySem.W.methodObj (.ref f) (.ref x))
  | .ext φ => φ h ∧ (∃ o, h.get? a = some o) ∧ ∀ h1 h2 : Heap, φ h1 → (∀ o, h1.get? a = some o → h2.get? a = some o) → φ h2
noncomputable def HOk (H : Hp) (h : Heap) : Prop := ∀ a o, H a = some o → ObjOk P w H h a o
end
section
variable {P : Program} {w : World} {H H' : Hp} {h h' : Heap} {a : Addr} {o : HO}
theorem ObjOk.lt (x : ObjOk P w H h a o) : a < h.objs.size := by
  cases o with
  | lst xs => obtain ⟨_, _, _, _, e⟩ := x; exact Heap.lt_size e
  | tup xs => obtain ⟨_, _, _, p⟩ := x; exact p.lt
  | dK kvs => obtain ⟨_, _, _, _, o, _, _, e, _⟩ := x; exact Heap.lt_size e
  | dT kvs => obtain ⟨_, _, _, _, o, _, _, e, _⟩ := x; exact Heap.lt_size e
  | set S n => obtain ⟨o, _, _, _, e, _⟩ := x; exact Heap.lt_size e
  | ins C dx fs => obtain ⟨_, _, _, e, _⟩ := x; exact Heap.lt_size e
  | own y => obtain ⟨_, e⟩ := x; exact Heap.lt_size e
  | xd fs => obtain ⟨_, ⟨_, _, _, e, _⟩, _⟩ := x; exact Heap.lt_size e
  | rng lo hi => obtain ⟨_, _, _, e⟩ := x; exact Heap.lt_size e
  | frz ob u => obtain ⟨e, _⟩ := x; exact Heap.lt_size e
  | tbl ps => exact Heap.lt_size (show h.get? a = some _ from x)
  | met f y => exact Heap.lt_size (show h.get? a = some _ from x)
  | ext φ => obtain ⟨_, ⟨_, e⟩, _⟩ := x; exact Heap.lt_size e
theorem Paired.mapP {α β : Type} {F G : α → β → Prop} : ∀ {l₁ : List α} {l₂ : List β}, Paired F l₁ l₂ → (∀ a b, F a b → G a b) → Paired G l₁ l₂
  | _, _, .nil, _ => .nil
  | _, _, .cons r t, f => .cons (f _ _ r) (Paired.mapP t f)
theorem ObjOk.stay (x : ObjOk P w H h a o) (k : ∀ b u, (b = a ∨ H b = some (.own a)) → h.get? b = some u → h'.get? b = some u)
    (ho : ∀ b, H b = some (.own a) → H' b = some (.own a)) (ht : ∀ b xs, H b = some (.tup xs) → H' b = some (.tup xs)) : ObjOk P w H' h' a o := by
  induction o with
  | lst xs => obtain ⟨z, its, n, r, e⟩ := x; exact ⟨z, its, n, r, k _ _ (.inl rfl) e⟩
  | tup xs => obtain ⟨z, its, r, ob, e, c⟩ := x; exact ⟨z, its, r, ob, k _ _ (.inl rfl) e, c⟩
  | dK kvs => obtain ⟨z, y, vs, r, ob, es, ep, e, c⟩ := x; exact ⟨z, y, vs, r, ob, es, ep, k _ _ (.inl rfl) e, c⟩
  | dT kvs =>
    obtain ⟨z, y, xs, r, ob, es, ep, e, c⟩ := x
    exact ⟨z, y, xs, Paired.mapP r fun p q z => ⟨z.1, ht _ _ z.2.1, z.2.2⟩, ob, es, ep, k _ _ (.inl rfl) e, c⟩
  | set S n => obtain ⟨ob, es, ep, t, e, c⟩ := x; exact ⟨ob, es, ep, t, k _ _ (.inl rfl) e, c⟩
  | ins C dx fs =>
    obtain ⟨d, z, ne, e, mA, ⟨od, es, ep, e2, c⟩, r⟩ := x
    exact ⟨ho _ d, z, ne, k _ _ (.inl rfl) e, mA, ⟨od, es, ep, k _ _ (.inr d) e2, c⟩, r⟩
  | own y => obtain ⟨ob, e⟩ := x; exact ⟨ob, k _ _ (.inl rfl) e⟩
  | xd fs => obtain ⟨mA, ⟨od, es, ep, e, c⟩, r⟩ := x; exact ⟨mA, ⟨od, es, ep, k _ _ (.inl rfl) e, c⟩, r⟩
  | rng lo hi => obtain ⟨t, u, v, e⟩ := x; exact ⟨t, u, v, k _ _ (.inl rfl) e⟩
  | frz ob u ih => obtain ⟨e, q⟩ := x; exact ⟨k _ _ (.inl rfl) e, ih q⟩
  | tbl ps =>
    have e : h.get? a = some { cls := .none, data := .fields ps.2 } := x
    show h'.get? a = some { cls := .none, data := .fields ps.2 }
    exact k a _ (.inl rfl) e
  | met f y =>
    have e : h.get? a = some (PySem.W.methodObj (.ref f) (.ref y)) := x
    show h'.get? a = some (PySem.W.methodObj (.ref f) (.ref y))
    exact k a _ (.inl rfl) e
  | ext φ => obtain ⟨p, ⟨o, e⟩, st⟩ := x; exact ⟨st _ _ p fun o q => k _ _ (.inl rfl) q, ⟨o, k _ _ (.inl rfl) e⟩, st⟩
theorem HOk.lt (x : HOk P w H h) (e : H a = some o) : a < h.objs.size := (x a o e).lt
theorem HOk.fresh (x : HOk P w H h) (e : h.objs.size ≤ a) : H a = none := by
  cases q : H a with
  | none => rfl
  | some u => exact absurd (Nat.lt_of_lt_of_le (x.lt q) e) (Nat.lt_irrefl _)
theorem HOk.kept (x : HOk P w H h) (k : ∀ b u, h.get? b = some u → h'.get? b = some u) : HOk P w H h' := fun a o e =>
  (x a o e).stay (fun b u _ q => k b u q) (fun _ q => q) fun _ _ q => q
theorem HOk.laid (x : HOk P w H h) (k : ∀ b u, h.get? b = some u → h'.get? b = some u) (hp : h.objs.size ≤ a) (new : ObjOk P w (upd H a o) h' a o) : HOk P w (upd H a o) h' := fun b u e => by
  have hn := x.fresh hp
  by_cases hb : b = a
  · subst hb; rw [upd_same] at e; cases e; exact new
  · rw [upd_ne hb] at e
    exact (x b u e).stay (fun c v _ q => k c v q) (fun c q => by rw [upd_ne (ne_of_none q hn)]; exact q) fun c xs q => by rw [upd_ne (ne_of_none q hn)]; exact q
end
noncomputable def Rd (H : Hp) (a : Addr) (u : HO) : Prop := H a = some u ∨ ∃ o, H a = some (.frz o u)
theorem Rd.ok {P : Program} {w : World} {H : Hp} {h : Heap} {a : Addr} {u : HO} (r : Rd H a u) (x : HOk P w H h) : ObjOk P w H h a u := by
  rcases r with r | ⟨o, r⟩
  · exact x a u r
  · obtain ⟨_, q⟩ := x a _ r
    exact q
noncomputable def Mut : Option HO → Prop
  | some (.lst _) => True
  | some (.dK _) => True
  | some (.dT _) => True
  | some (.set _ _) => True
  | some (.ins _ _ _) => True
  | some (.ext _) => True
  | _ => False
section
variable {P : Program} {w : World} {H : Hp} {h h' : Heap} {x e : Addr} {o' : HO}
theorem HOk.write (ok : HOk P w H h) (mu : Mut (H x)) (he : e = x ∨ H e = some (.own x)) (k : ∀ b u, b ≠ e → h.get? b = some u → h'.get? b = some u) (heo : ∃ u, h'.get? e = some u)
    (new : ObjOk P w (upd H x o') h' x o') : HOk P w (upd H x o') h' := fun b u q => by
  have nown : ∀ c y, H c = some (.own y) → c ≠ x := fun c y r z => by subst z; rw [r] at mu; exact mu
  have ntup : ∀ c xs, H c = some (.tup xs) → c ≠ x := fun c xs r z => by subst z; rw [r] at mu; exact mu
  by_cases hb : b = x
  · subst hb; rw [upd_same] at q; cases q; exact new
  · rw [upd_ne hb] at q
    by_cases hbe : b = e
    · have q' : H b = some (.own x) := by
        rcases he with z | z
        · exact absurd (hbe.trans z) hb
        · rw [hbe]; exact z
      rw [q] at q'; cases q'
      obtain ⟨v, hv⟩ := heo
      exact ⟨v, by rw [hbe]; exact hv⟩
    · refine (ok b u q).stay (fun c v hc r => k c v ?_ r) (fun c r => by rw [upd_ne (nown c b r)]; exact r) fun c xs r => by rw [upd_ne (ntup c xs r)]; exact r
      rcases hc with rfl | hc
      · exact hbe
      · rintro rfl
        rcases he with z | z
        · exact nown c b hc z
        · rw [hc] at z; cases z; exact hb rfl
end
structure Un (fs ex : List Addr) (H H' : Hp) (h h' : Heap) : Prop where
  keep : ∀ b o, h.get? b = some o → H b = none → b ∉ fs → b ∉ ex → h'.get? b = some o
  slot : ∀ b o, h.get? b = some o → H b = none → b ∈ fs → b ∉ ex → ∃ sl, h'.get? b = some { o with slots := sl }
  free : ∀ b o, h.get? b = some o → H b = none → b ∉ ex → H' b = none
  there : ∀ b o, h.get? b = some o → b ∉ ex → ∃ o', h'.get? b = some o'
  tups : ∀ b xs, H b = some (.tup xs) → H' b = some (.tup xs)
  frzs : ∀ b o u, H b = some (.frz o u) → H' b = some (.frz o u)
  tbls : ∀ b ps, H b = some (.tbl ps) → ∃ more, H' b = some (.tbl (ps.1, ps.2 ++ more))
section
variable {fs fs' ex ex' : List Addr} {H H1 H2 : Hp} {h h1 h2 h' : Heap} {a x e : Addr} {o : HO}
theorem Un.any (u : Un fs ex H H1 h h1) {b : Addr} {ob : Obj} (q : h.get? b = some ob) (n : H b = none) (hx : b ∉ ex) : ∃ sl, h1.get? b = some { ob with slots := sl } := by
  by_cases hb : b ∈ fs
  · exact u.slot b ob q n hb hx
  · exact ⟨ob.slots, u.keep b ob q n hb hx⟩
theorem Un.kept (k : ∀ b u, h.get? b = some u → h'.get? b = some u) : Un fs ex H H h h' :=
  ⟨fun b ob q _ _ _ => k b ob q, fun b ob q _ _ _ => ⟨ob.slots, k b ob q⟩, fun _ _ _ n _ => n, fun b ob q _ => ⟨ob, k b ob q⟩, fun _ _ q => q, fun _ _ _ q => q, fun _ ps q => ⟨#[], by rw [q]; simp⟩⟩
theorem Un.refl : Un fs ex H H h h := Un.kept fun _ _ q => q
theorem Un.laid (k : ∀ b u, h.get? b = some u → h'.get? b = some u) (hp : h.objs.size ≤ a) (hn : H a = none) : Un fs ex H (upd H a o) h h' where
  keep := fun b u q _ _ _ => k b u q
  slot := fun b u q _ _ _ => ⟨u.slots, k b u q⟩
  free := fun b u q n _ => by rw [upd_ne (Nat.ne_of_lt (Nat.lt_of_lt_of_le (Heap.lt_size q) hp))]; exact n
  there := fun b u q _ => ⟨u, k b u q⟩
  tups := fun b xs q => by rw [upd_ne (ne_of_none q hn)]; exact q
  frzs := fun b u xs q => by rw [upd_ne (ne_of_none q hn)]; exact q
  tbls := fun b ps q => ⟨#[], by rw [upd_ne (ne_of_none q hn), q]; simp⟩
theorem Un.write (mu : Mut (H x)) (he : e = x ∨ H e = some (.own x)) (k : ∀ b u, b ≠ e → h.get? b = some u → h'.get? b = some u) (heo : ∃ u, h'.get? e = some u) : Un fs ex H (upd H x o) h h' := by
  have hx : ∀ b, H b = none → b ≠ x := fun b n z => by subst z; rw [n] at mu; exact mu
  have hb : ∀ b, H b = none → b ≠ e := fun b n z => by
    subst z
    rcases he with r | r
    · exact hx b n r
    · rw [n] at r; cases r
  have hm : ∀ b u, H b = some u → ¬ Mut (some u) → b ≠ x := fun b u q nm z => by subst z; rw [q] at mu; exact nm mu
  refine ⟨fun b u q n _ _ => k b u (hb b n) q, fun b u q n _ _ => ⟨u.slots, k b u (hb b n) q⟩, fun b u q n _ => by rw [upd_ne (hx b n)]; exact n, fun b u q _ => ?_,
    fun b xs q => by rw [upd_ne (hm b _ q fun z => z)]; exact q, fun b u xs q => by rw [upd_ne (hm b _ q fun z => z)]; exact q, fun b ps q => ⟨#[], by rw [upd_ne (hm b _ q fun z => z), q]; simp⟩⟩
  by_cases hbe : b = e
  · subst hbe; exact heo
  · exact ⟨u, k b u hbe q⟩
end
noncomputable def trk (h : Heap) (H : Hp) : List Addr := (List.range h.objs.size).filter fun a => (H a).isSome
noncomputable def hidT (h : Heap) (H : Hp) : Heap := PySem.W.hideAll h (trk h H)
theorem hidT_size (h : Heap) (H : Hp) : (hidT h H).objs.size = h.objs.size := PySem.W.hideAll_size _ _
theorem hidT_get {h : Heap} {H : Hp} {b : Addr} {o : Obj} (e : h.get? b = some o) (n : H b = none) : (hidT h H).get? b = some o :=
  PySem.W.hideAll_get _ e fun hm => by
    have q : (H b).isSome = true := (List.mem_filter.mp hm).2
    rw [n] at q; simp at q
theorem of_hidT {h : Heap} {H : Hp} {b : Addr} {o : Obj} (e : (hidT h H).get? b = some o) : h.get? b = some o ∧ H b = none := by
  have e' : h.get? b = some o := PySem.W.of_hideAll (trk h H) e
  refine ⟨e', ?_⟩
  cases q : H b with
  | none => rfl
  | some x =>
    have hm : b ∈ trk h H := List.mem_filter.mpr ⟨List.mem_range.mpr (Heap.lt_size e'), by simp [q]⟩
    have z : (hidT h H).get? b = none := PySem.W.hideAll_none (trk h H) hm
    rw [z] at e; cases e
noncomputable def allNews (g h : Heap) (L : Addr) : List (Addr × Obj) := (List.range h.objs.size).filterMap fun a => if a = L ∨ (g.get? a).isSome = true then none else (h.get? a).map fun o => (a, o)
noncomputable def rest (g h : Heap) (L d : Addr) : List (Addr × Obj) := (allNews g h L).filter fun p => decide (p.1 ≠ d)
end L2
namespace L2
open PySem PySem.Spec PyProof.Rows
structure Mod (K : PySem.W.Frag) (mg : Str → Option Value) (base : Heap) : Prop where
  kin : K.In base
  glob : base.Ns mainGlobals mg
  blt : ∃ mb, base.Ns builtinsNs mb ∧ ∀ x : Str, x ≠ "__name__" → mb x = bootBuiltins x
  nolimit : base.NoLimit
structure Cx where
  prog : Program
  w : World
  K : PySem.W.Frag
  mg : Str → Option Value
  base : Heap
  A : Around
  N : List Str
  s₀ : Shared
  H₀ : Hp
  env : Env
  outer : List Env
  stack : List Env
  ex : List Addr
  fn : Str → Bool
  calm : Bool
  pn : List (Addr × Obj)
  xe : Value → Shared → Prop
noncomputable def frs (l : List Env) : List Addr := l.filterMap (·.frame)
noncomputable abbrev Cx.fs (X : Cx) : List Addr := frs X.outer
noncomputable def Vis (sc : Scope) (x : Str) : Prop := sc.names.lookup x = some .local ∨ sc.names.lookup x = some .cell ∨ sc.names.lookup x = some .free
noncomputable def Loc (sc : Scope) (x : Str) : Prop := sc.names.lookup x = some .local ∨ sc.names.lookup x = some .cell
noncomputable def Look (env : Env) (h : Heap) (m : Str → Option Value) (x : Str) (u : Value) : Prop :=
  (env.kindOf x = some .local ∧ m x = some u) ∨ ((env.kindOf x = some .cell ∨ env.kindOf x = some .free) ∧ ∃ c, env.cells.lookup x = some c ∧ h.IsCell c (some u))
structure Cx.Ok (X : Cx) : Prop where
  mod : Mod X.K X.mg X.base
  kind : X.env.scope.kind = .function
  glob : X.env.globals = mainGlobals
  blt : X.env.builtins = builtinsNs
  above : X.s₀.heap.objs.size ≤ X.env.locals
  inj : ∀ x y c, X.env.cells.lookup x = some c → X.env.cells.lookup y = some c → x = y
  has : ∀ x, (X.env.kindOf x = some .cell ∨ X.env.kindOf x = some .free) → ∃ c, X.env.cells.lookup x = some c
  cab : ∀ x c, X.fn x = true → X.env.cells.lookup x = some c → X.s₀.heap.objs.size ≤ c
  hd : X.calm = true → X.A.handled = none
  frames : X.A.frames = some X.stack
  stk : X.stack = X.outer ∨ (X.stack = X.env :: X.outer ∧ X.env.frame = some X.env.locals)
  exf : ∀ b ∈ X.ex, b ≠ X.env.locals ∧ ∀ x c, X.env.cells.lookup x = some c → c ≠ b
  bs : ∀ b o, X.base.get? b = some o → X.s₀.heap.get? b = some o ∧ X.H₀ b = none
  bsz : X.base.objs.size ≤ X.s₀.heap.objs.size
  noex : ∀ b o, X.base.get? b = some o → b ∉ X.ex
  exfs : ∀ b ∈ X.ex, b ∉ X.fs
  funs : X.s₀.heap.FunFrames X.base X.outer
  frf : ∀ b ∈ X.fs, X.H₀ b = none
structure Inv (X : Cx) (pins : List (Addr × Obj)) (σ : List (Option V)) (H : Hp) (s : Shared) : Prop where
  ok : X.Ok
  os : s.os = X.s₀.os
  bare : AllBare s.gens
  base : Un X.fs X.ex X.H₀ H X.s₀.heap s.heap
  loc : ∃ m, s.heap.Ns X.env.locals m ∧ ∀ (i : Nat) (x : Str) (v : V), X.N[i]? = some x → σ[i]? = some (some v) → Vis X.env.scope x → ∃ u, RelV v u ∧ Look X.env s.heap m x u
  cell : ∀ x c, X.env.cells.lookup x = some c → ∃ v, s.heap.IsCell c v
  free : H X.env.locals = none
  freeC : ∀ x c, X.env.cells.lookup x = some c → H c = none
  pin : ∀ p ∈ X.pn ++ pins, s.heap.get? p.1 = some p.2 ∧ H p.1 = none ∧ p.1 ≠ X.env.locals ∧ p.1 ∉ X.fs ∧ ∀ v, p.2.data ≠ .cell v
  hok : HOk X.prog X.w H s.heap
  len : σ.length = X.N.length
section
variable {X : Cx} {pins : List (Addr × Obj)} {σ : List (Option V)} {H H' : Hp} {s : Shared} {h' : Heap}
theorem Cx.Ok.nofr (ok : X.Ok) {b : Addr} {o : Obj} (e : X.base.get? b = some o) : b ∉ X.fs := fun hb => by
  have := (ok.funs.mem hb).1
  rw [e] at this; cases this
theorem Inv.bs (I : Inv X pins σ H s) : ∀ b o, X.base.get? b = some o → s.heap.get? b = some o ∧ H b = none := fun b o e =>
  ⟨I.base.keep b o (I.ok.bs b o e).1 (I.ok.bs b o e).2 (I.ok.nofr e) (I.ok.noex b o e), I.base.free b o (I.ok.bs b o e).1 (I.ok.bs b o e).2 (I.ok.noex b o e)⟩
theorem Inv.bk (I : Inv X pins σ H s) : ∀ b o, X.base.get? b = some o → s.heap.get? b = some o := fun b o e => (I.bs b o e).1
theorem Inv.mod (I : Inv X pins σ H s) : Mod X.K X.mg X.base := I.ok.mod
theorem Inv.kIn (I : Inv X pins σ H s) : X.K.In s.heap := I.ok.mod.kin.keeps I.bk
theorem Inv.lt (I : Inv X pins σ H s) : X.env.locals < s.heap.objs.size := let ⟨_, hn, _⟩ := I.loc; hn.lt
theorem Inv.sz (I : Inv X pins σ H s) : X.s₀.heap.objs.size ≤ s.heap.objs.size := Nat.le_trans I.ok.above (Nat.le_of_lt I.lt)
theorem Inv.nofs (I : Inv X pins σ H s) {a : Addr} (h : s.heap.objs.size ≤ a) : a ∉ X.fs := fun hb => by
  obtain ⟨_, o, ho, _⟩ := I.ok.funs.mem hb
  exact absurd (Nat.lt_of_lt_of_le (Heap.lt_size ho) (Nat.le_trans I.sz h)) (Nat.lt_irrefl _)
theorem Inv.cne (I : Inv X pins σ H s) : ∀ x c, X.env.cells.lookup x = some c → c ≠ X.env.locals := fun x c e z => by
  obtain ⟨v, o, ho, hd⟩ := I.cell x c e
  obtain ⟨m, ⟨o', es, ep, ho', hd', _⟩, _⟩ := I.loc
  rw [z, ho'] at ho; cases ho; rw [hd'] at hd; cases hd
theorem Inv.funs (I : Inv X pins σ H s) : s.heap.FunFrames X.base X.outer := by
  have all : ∀ (l : List Env), (∀ b ∈ frs l, b ∈ X.fs) → X.s₀.heap.FunFrames X.base l → s.heap.FunFrames X.base l := by
    intro l
    induction l with
    | nil => intro _ _; trivial
    | cons env r ih =>
      intro hs hl
      obtain ⟨hk, ⟨L, o, hf, hn, ho, hd⟩, hr⟩ := hl
      have hL : L ∈ X.fs := hs L (by unfold frs; rw [List.filterMap_cons, hf]; exact List.mem_cons_self)
      obtain ⟨sl, e⟩ := I.base.slot L o ho (I.ok.frf L hL) hL fun z => I.ok.exfs L z hL
      exact ⟨hk, ⟨L, _, hf, hn, e, hd⟩, ih (fun b hb => hs b (by unfold frs; rw [List.filterMap_cons, hf]; exact List.mem_cons_of_mem _ hb)) hr⟩
  exact all X.outer (fun _ hb => hb) I.ok.funs
theorem Inv.stack (I : Inv X pins σ H s) : s.heap.FunFrames X.base X.stack := by
  rcases I.ok.stk with e | ⟨e, hf⟩
  · rw [e]; exact I.funs
  · rw [e]
    obtain ⟨m, hn, _⟩ := I.loc
    refine .cons (by rw [I.ok.kind]; decide) hf hn ?_ I.funs
    exact Heap.get?_none_of_le (Nat.le_trans I.ok.bsz I.ok.above)
theorem Inv.stkSub (I : Inv X pins σ H s) : ∀ b ∈ frs X.stack, b ∈ X.env.locals :: X.fs := fun b hb => by
  rcases I.ok.stk with e | ⟨e, hf⟩
  · rw [e] at hb; exact List.mem_cons_of_mem _ hb
  · rw [e] at hb
    unfold frs at hb
    rw [List.filterMap_cons, hf] at hb
    exact hb
theorem Inv.stkFree (I : Inv X pins σ H s) : ∀ b ∈ frs X.stack, H b = none := fun b hb => by
  rcases List.mem_cons.mp (I.stkSub b hb) with e | hb
  · rw [e]; exact I.free
  · obtain ⟨_, o, ho, _⟩ := I.ok.funs.mem hb
    exact I.base.free b o ho (I.ok.frf b hb) fun z => I.ok.exfs b z hb
theorem Inv.step {g' : Array GenState} {t' : Nat} {d' : Drawn} {ch : List Addr} (I : Inv X pins σ H s)
    (hch : ∀ b ∈ ch, (b ∈ X.ex ∨ X.s₀.heap.objs.size ≤ b) ∧ b ≠ X.env.locals ∧ (∀ x c, X.env.cells.lookup x = some c → c ≠ b) ∧ ∀ p ∈ X.pn ++ pins, p.1 ≠ b)
    (keep : ∀ b o, b ≠ X.env.locals → b ∉ X.fs → b ∉ ch → s.heap.get? b = some o → H b = none → h'.get? b = some o)
    (slot : ∀ b o, b ≠ X.env.locals → b ∈ X.fs → b ∉ ch → s.heap.get? b = some o → H b = none → ∃ sl, h'.get? b = some { o with slots := sl }) (free : ∀ b o, b ∉ ch → s.heap.get? b = some o → H b = none → H' b = none)
    (there : ∀ b o, b ∉ ch → s.heap.get? b = some o → ∃ o', h'.get? b = some o')
    (tups : ∀ b xs, H b = some (.tup xs) → H' b = some (.tup xs)) (frzs : ∀ b o u, H b = some (.frz o u) → H' b = some (.frz o u)) (tbls : ∀ b ps, H b = some (.tbl ps) → ∃ more, H' b = some (.tbl (ps.1, ps.2 ++ more)))
    (ns : ∀ m, s.heap.Ns X.env.locals m → h'.Ns X.env.locals m) (hok : HOk X.prog X.w H' h') (hg : AllBare g') :
    Inv X pins σ H' { s with heap := h', gens := g', drawn := d', toks := t' } := by
  have neL : ∀ b o, X.s₀.heap.get? b = some o → b ≠ X.env.locals := fun b o e => Nat.ne_of_lt (Nat.lt_of_lt_of_le (Heap.lt_size e) I.ok.above)
  have neC : ∀ b o, X.s₀.heap.get? b = some o → b ∉ X.ex → b ∉ ch := fun b o e hx hb => by
    rcases (hch b hb).1 with z | z
    · exact hx z
    · exact absurd (Nat.lt_of_lt_of_le (Heap.lt_size e) z) (Nat.lt_irrefl _)
  have cellK : ∀ x c, X.env.cells.lookup x = some c → ∀ v, s.heap.IsCell c v → h'.IsCell c v := fun x c e v ⟨o, ho, hd⟩ => by
    have nch : c ∉ ch := fun z => (hch c z).2.2.1 x c e rfl
    by_cases hc : c ∈ X.fs
    · obtain ⟨sl, q⟩ := slot c o (I.cne x c e) hc nch ho (I.freeC x c e)
      exact ⟨_, q, hd⟩
    · exact ⟨o, keep c o (I.cne x c e) hc nch ho (I.freeC x c e), hd⟩
  refine ⟨I.ok, I.os, hg, ⟨fun b o e n hb hx => ?_, fun b o e n hb hx => ?_, fun b o e n hx => ?_, fun b o e hx => ?_, fun b xs e => tups b xs (I.base.tups b xs e), fun b o xs e => frzs b o xs (I.base.frzs b o xs e), fun b ps e => ?_⟩, ?_, fun x c e => ?_, ?_, fun x c e => ?_, fun p hp => ?_, hok, I.len⟩
  · exact keep b o (neL b o e) hb (neC b o e hx) (I.base.keep b o e n hb hx) (I.base.free b o e n hx)
  · obtain ⟨sl, e1⟩ := I.base.slot b o e n hb hx
    obtain ⟨sl', e2⟩ := slot b _ (neL b o e) hb (neC b o e hx) e1 (I.base.free b o e n hx)
    exact ⟨sl', e2⟩
  · obtain ⟨o', e1⟩ := I.base.there b o e hx
    exact free b o' (neC b o e hx) e1 (I.base.free b o e n hx)
  · obtain ⟨o', e1⟩ := I.base.there b o e hx
    exact there b o' (neC b o e hx) e1
  · obtain ⟨m1, e1⟩ := I.base.tbls b ps e
    obtain ⟨m2, e2⟩ := tbls b _ e1
    exact ⟨m1 ++ m2, by rw [e2]; simp [Array.append_assoc]⟩
  · obtain ⟨m, hn, hl⟩ := I.loc
    refine ⟨m, ns m hn, fun i x v e1 e2 e3 => ?_⟩
    obtain ⟨u, r, l⟩ := hl i x v e1 e2 e3
    refine ⟨u, r, ?_⟩
    rcases l with l | ⟨k, c, e, z⟩
    · exact .inl l
    · exact .inr ⟨k, c, e, cellK x c e _ z⟩
  · obtain ⟨v, z⟩ := I.cell x c e
    exact ⟨v, cellK x c e v z⟩
  · obtain ⟨m, ⟨o, _, _, ho, _⟩, _⟩ := I.loc
    exact free _ o (fun z => (hch _ z).2.1 rfl) ho I.free
  · obtain ⟨v, o, ho, hd⟩ := I.cell x c e
    exact free c o (fun z => (hch c z).2.2.1 x c e rfl) ho (I.freeC x c e)
  · obtain ⟨e, n, ne, nf, d⟩ := I.pin p hp
    have nch : p.1 ∉ ch := fun z => (hch p.1 z).2.2.2 p hp rfl
    exact ⟨keep p.1 p.2 ne nf nch e n, free p.1 p.2 nch e n, ne, nf, d⟩
theorem Inv.un {t' : Nat} (I : Inv X pins σ H s) (u : Un X.fs [] H H' s.heap h') (hok : HOk X.prog X.w H' h') : Inv X pins σ H' { s with heap := h', toks := t' } := by
  obtain ⟨m, ⟨o, es, ep, ho, r⟩, _⟩ := id I.loc
  obtain ⟨sl, hL⟩ := u.any ho I.free (by simp)
  exact I.step (g' := s.gens) (d' := s.drawn) (ch := []) (fun _ z => nomatch z) (fun b o _ hb _ e n => u.keep b o e n hb (by simp)) (fun b o _ hb _ e n => u.slot b o e n hb (by simp)) (fun b o _ e n => u.free b o e n (by simp)) (fun b o _ e => u.there b o e (by simp)) u.tups u.frzs u.tbls (fun m' hm => by
    obtain ⟨o', es', ep', ho', r'⟩ := hm
    rw [ho] at ho'; cases ho'
    exact ⟨_, es', ep', hL, r'⟩) hok I.bare
theorem Inv.call {g' : Array GenState} {t' : Nat} {d' : Drawn} {ch : List Addr} (I : Inv X pins σ H s) (u : Un (frs X.stack) ch H H' s.heap h') (hok : HOk X.prog X.w H' h') (hg : AllBare g')
    (hch : ∀ b ∈ ch, (b ∈ X.ex ∨ X.s₀.heap.objs.size ≤ b) ∧ b ≠ X.env.locals ∧ (∀ x c, X.env.cells.lookup x = some c → c ≠ b) ∧ ∀ p ∈ X.pn ++ pins, p.1 ≠ b) :
    Inv X pins σ H' { s with heap := h', gens := g', drawn := d', toks := t' } := by
  obtain ⟨m, ⟨o, es, ep, ho, r⟩, _⟩ := id I.loc
  obtain ⟨sl, hL⟩ := u.any ho I.free fun z => (hch _ z).2.1 rfl
  exact I.step (ch := ch) hch (fun b o hL hb hc e n => u.keep b o e n (fun z => (List.mem_cons.mp (I.stkSub b z)).elim hL hb) hc) (fun b o _ _ hc e n => u.any e n hc) (fun b o hc e n => u.free b o e n hc) (fun b o hc e => u.there b o e hc) u.tups u.frzs u.tbls (fun m' hm => by
    obtain ⟨o', es', ep', ho', r'⟩ := hm
    rw [ho] at ho'; cases ho'
    exact ⟨_, es', ep', hL, r'⟩) hok hg
theorem Inv.turned {t' : Nat} {it : Addr} (I : Inv X pins σ H s) (k : ∀ b o, b ≠ it → s.heap.get? b = some o → h'.get? b = some o) (hn : H it = none) (hL : it ≠ X.env.locals)
    (h1 : it ∈ X.ex ∨ X.s₀.heap.objs.size ≤ it) (h2 : ∀ x c, X.env.cells.lookup x = some c → c ≠ it) (h3 : ∀ p ∈ X.pn ++ pins, p.1 ≠ it) : Inv X pins σ H { s with heap := h', toks := t' } := by
  have nit : ∀ b u, H b = some u → b ≠ it := fun b u e z => by rw [z, hn] at e; cases e
  refine I.step (g' := s.gens) (d' := s.drawn) (ch := [it]) (fun b hb => ?_) (fun b o _ _ hc e _ => k b o (fun z => hc (by simp [z])) e) (fun b o _ _ hc e _ => ⟨o.slots, k b o (fun z => hc (by simp [z])) e⟩) (fun _ _ _ _ n => n)
    (fun b o hc e => ⟨o, k b o (fun z => hc (by simp [z])) e⟩) (fun _ _ e => e) (fun _ _ _ e => e) (fun b ps e => ⟨#[], by rw [e]; simp⟩) (fun m hm => ?_) (fun b u e => ?_) I.bare
  · have e : b = it := by simpa using hb
    subst e
    exact ⟨h1, hL, h2, h3⟩
  · obtain ⟨o, es, ep, ho, r⟩ := hm
    exact ⟨o, es, ep, k _ o (Ne.symm hL) ho, r⟩
  · refine (I.hok b u e).stay (fun c v hc q => k c v ?_ q) (fun _ q => q) fun _ _ q => q
    rcases hc with z | z
    · rw [z]; exact nit b u e
    · exact nit c _ z
theorem Inv.tok (I : Inv X pins σ H s) (t : Nat) : Inv X pins σ H { s with toks := t } := I.un (h' := s.heap) (t' := t) Un.refl I.hok
theorem Inv.kept {t' : Nat} (I : Inv X pins σ H s) (k : ∀ b u, s.heap.get? b = some u → h'.get? b = some u) : Inv X pins σ H { s with heap := h', toks := t' } := I.un (Un.kept k) (I.hok.kept k)
theorem Inv.laid {a : Addr} {o : HO} {t' : Nat} (I : Inv X pins σ H s) (k : ∀ b u, s.heap.get? b = some u → h'.get? b = some u) (hp : s.heap.objs.size ≤ a) (new : ObjOk X.prog X.w (upd H a o) h' a o) :
    Inv X pins σ (upd H a o) { s with heap := h', toks := t' } := I.un (Un.laid k hp (I.hok.fresh hp)) (I.hok.laid k hp new)
theorem Inv.write {x e : Addr} {o : HO} {t' : Nat} (I : Inv X pins σ H s) (mu : Mut (H x)) (he : e = x ∨ H e = some (.own x)) (k : ∀ b u, b ≠ e → s.heap.get? b = some u → h'.get? b = some u) (heo : ∃ u, h'.get? e = some u)
    (new : ObjOk X.prog X.w (upd H x o) h' x o) : Inv X pins σ (upd H x o) { s with heap := h', toks := t' } := I.un (Un.write mu he k heo) (I.hok.write mu he k heo new)
theorem Inv.pins_of {pins' : List (Addr × Obj)} (I : Inv X pins σ H s) (h : ∀ p ∈ pins', s.heap.get? p.1 = some p.2 ∧ H p.1 = none ∧ p.1 ≠ X.env.locals ∧ p.1 ∉ X.fs ∧ ∀ v, p.2.data ≠ .cell v) : Inv X pins' σ H s :=
  ⟨I.ok, I.os, I.bare, I.base, I.loc, I.cell, I.free, I.freeC, fun p hp => (List.mem_append.mp hp).elim (fun z => I.pin p (List.mem_append_left _ z)) (h p), I.hok, I.len⟩
theorem nodup_ix {N : List Str} (hN : N.Nodup) {i j : Nat} {x : Str} (a : N[i]? = some x) (b : N[j]? = some x) : i = j := by
  obtain ⟨h1, e1⟩ := List.getElem?_eq_some_iff.mp a
  obtain ⟨h2, e2⟩ := List.getElem?_eq_some_iff.mp b
  exact (List.getElem_inj hN).mp (e1.trans e2.symm)
theorem store_ok2 {M : Model} {A : Around} {E : Value → Shared → Prop} {i : Nat} {x : Str} {v : V} {u : Value} {Q : Unit → Shared → Prop} (I : Inv X pins σ H s) (hN : X.N.Nodup) (hi : X.N[i]? = some x) (hx : Loc X.env.scope x) (r : RelV v u)
    (h : ∀ s', Inv X pins (σ.set i (some v)) H s' → (∃ a, Heap.SameBut a s.heap s'.heap ∧ (a = X.env.locals ∨ X.env.cells.lookup x = some a)) → Q () s') (hf : X.fn x = true ∨ X.env.scope.names.lookup x = some .local := by first | exact .inl rfl | exact .inr rfl | assumption) : wpAny M A (storeName X.env x u) Q E s := by
  obtain ⟨m, hn, hl⟩ := id I.loc
  have hcls : (X.env.scope.kind == .class || (X.env.scope.kind == .module && X.env.locals != X.env.globals)) = false := by rw [I.ok.kind]; rfl
  have hiσ : i < σ.length := by rw [I.len]; exact (List.getElem?_eq_some_iff.mp hi).1
  have cne := I.cne
  have tracked : ∀ {a : Addr} {h' : Heap}, (∃ o, s.heap.get? a = some o ∧ H a = none) → Heap.SameBut a s.heap h' → HOk X.prog X.w H h' := fun {a h'} ha hs b ob e => by
    obtain ⟨_, _, hfree⟩ := ha
    refine (I.hok b ob e).stay (fun c w' hc q => (hs.2 c ?_).trans q) (fun _ q => q) fun _ _ q => q
    rintro rfl
    rcases hc with rfl | hc
    · rw [hfree] at e; cases e
    · rw [hfree] at hc; cases hc
  rcases hx with hk | hk
  · refine wpAny_storeName_local hk hn (fun h' hn' hs => ?_) hcls
    obtain ⟨oL, _, _, hoL, _⟩ := id hn
    refine h _ ⟨I.ok, I.os, I.bare, ⟨fun b o e n hb hx => ?_, fun b o e n hb hx => ?_, I.base.free, fun b o e hx => ?_, I.base.tups, I.base.frzs, I.base.tbls⟩, ⟨_, hn', fun j y v' e1 e2 e3 => ?_⟩, fun y c e => ?_, I.free, I.freeC, fun p hp => ?_, tracked ⟨oL, hoL, I.free⟩ hs, by simpa using I.len⟩ ⟨_, hs, .inl rfl⟩
    · exact (hs.2 b (Nat.ne_of_lt (Nat.lt_of_lt_of_le (Heap.lt_size e) I.ok.above))).trans (I.base.keep b o e n hb hx)
    · obtain ⟨sl, e1⟩ := I.base.slot b o e n hb hx
      exact ⟨sl, (hs.2 b (Nat.ne_of_lt (Nat.lt_of_lt_of_le (Heap.lt_size e) I.ok.above))).trans e1⟩
    · obtain ⟨o', e1⟩ := I.base.there b o e hx
      exact ⟨o', (hs.2 b (Nat.ne_of_lt (Nat.lt_of_lt_of_le (Heap.lt_size e) I.ok.above))).trans e1⟩
    · by_cases hj : j = i
      · subst hj
        rw [hi] at e1; cases e1
        rw [List.getElem?_set_self hiσ] at e2
        cases e2
        exact ⟨u, r, .inl ⟨hk, by simp⟩⟩
      · rw [List.getElem?_set_ne (Ne.symm hj)] at e2
        obtain ⟨u', r', q⟩ := hl j y v' e1 e2 e3
        refine ⟨u', r', ?_⟩
        rcases q with ⟨k, e⟩ | ⟨k, c, e, z⟩
        · refine .inl ⟨k, ?_⟩
          have : y ≠ x := fun e => hj (nodup_ix hN e1 (e ▸ hi))
          simp [this, e]
        · exact .inr ⟨k, c, e, z.sameBut hs (cne y c e)⟩
    · obtain ⟨w', z⟩ := I.cell y c e
      exact ⟨w', z.sameBut hs (cne y c e)⟩
    · obtain ⟨e, n, ne, nf, d⟩ := I.pin p hp
      exact ⟨(hs.2 p.1 ne).trans e, n, ne, nf, d⟩
  · have hfn : X.fn x = true := by
      rcases hf with z | z
      · exact z
      · rw [z] at hk; cases hk
    obtain ⟨c, hc⟩ := I.ok.has x (.inl hk)
    obtain ⟨w', z⟩ := I.cell x c hc
    refine wpAny_storeName_cell I.ok.kind hk hc z (fun h' hc' hs => ?_)
    obtain ⟨oc, hoc, hocd⟩ := id z
    refine h { s with heap := h' } ⟨I.ok, I.os, I.bare, ⟨fun b o e n hb hx => ?_, fun b o e n hb hx => ?_, I.base.free, fun b o e hx => ?_, I.base.tups, I.base.frzs, I.base.tbls⟩, ⟨m, hn.sameBut hs (Ne.symm (cne x c hc)), fun j y v' e1 e2 e3 => ?_⟩, fun y c' e => ?_, I.free, I.freeC, fun p hp => ?_, tracked ⟨oc, hoc, I.freeC x c hc⟩ hs, by simpa using I.len⟩ ⟨c, hs, .inr hc⟩
    · exact (hs.2 b (Nat.ne_of_lt (Nat.lt_of_lt_of_le (Heap.lt_size e) (I.ok.cab x c hfn hc)))).trans (I.base.keep b o e n hb hx)
    · obtain ⟨sl, e1⟩ := I.base.slot b o e n hb hx
      exact ⟨sl, (hs.2 b (Nat.ne_of_lt (Nat.lt_of_lt_of_le (Heap.lt_size e) (I.ok.cab x c hfn hc)))).trans e1⟩
    · obtain ⟨o', e1⟩ := I.base.there b o e hx
      exact ⟨o', (hs.2 b (Nat.ne_of_lt (Nat.lt_of_lt_of_le (Heap.lt_size e) (I.ok.cab x c hfn hc)))).trans e1⟩
    · by_cases hj : j = i
      · subst hj
        rw [hi] at e1; cases e1
        rw [List.getElem?_set_self hiσ] at e2
        cases e2
        exact ⟨u, r, .inr ⟨.inl hk, c, hc, hc'⟩⟩
      · rw [List.getElem?_set_ne (Ne.symm hj)] at e2
        obtain ⟨u', r', q⟩ := hl j y v' e1 e2 e3
        refine ⟨u', r', ?_⟩
        rcases q with q | ⟨k, c', e, z'⟩
        · exact .inl q
        · refine .inr ⟨k, c', e, z'.sameBut hs ?_⟩
          rintro rfl
          exact hj (nodup_ix hN e1 (I.ok.inj _ _ _ e hc ▸ hi))
    · by_cases hcc : c' = c
      · subst hcc; exact ⟨_, hc'⟩
      · obtain ⟨w2, z2⟩ := I.cell y c' e
        exact ⟨w2, z2.sameBut hs hcc⟩
    · obtain ⟨e, n, ne, nf, d⟩ := I.pin p hp
      refine ⟨(hs.2 p.1 ?_).trans e, n, ne, nf, d⟩
      intro q
      rw [q, hoc] at e
      have q' : oc = p.2 := Option.some.inj e
      exact d w' (by rw [← q']; exact hocd)
theorem store_ok {M : Model} {A : Around} {E : Value → Shared → Prop} {i : Nat} {x : Str} {v : V} {u : Value} {Q : Unit → Shared → Prop} (I : Inv X pins σ H s) (hN : X.N.Nodup) (hi : X.N[i]? = some x) (hx : Loc X.env.scope x) (r : RelV v u)
    (h : ∀ s', Inv X pins (σ.set i (some v)) H s' → Q () s') (hf : X.fn x = true ∨ X.env.scope.names.lookup x = some .local := by first | exact .inl rfl | exact .inr rfl | assumption) : wpAny M A (storeName X.env x u) Q E s :=
  store_ok2 I hN hi hx r (fun s' I' _ => h s' I') hf
theorem Inv.call' {s' : Shared} {ch : List Addr} (I : Inv X pins σ H s) (ho : s'.os = s.os) (u : Un (frs X.stack) ch H H' s.heap s'.heap) (hok : HOk X.prog X.w H' s'.heap) (hg : AllBare s'.gens)
    (hch : ∀ b ∈ ch, (b ∈ X.ex ∨ X.s₀.heap.objs.size ≤ b) ∧ b ≠ X.env.locals ∧ (∀ x c, X.env.cells.lookup x = some c → c ≠ b) ∧ ∀ p ∈ X.pn ++ pins, p.1 ≠ b) : Inv X pins σ H' s' := by
  obtain ⟨h', g', d', t', o'⟩ := s'
  have e : o' = s.os := ho
  subst e
  exact I.call (g' := g') (t' := t') (d' := d') u hok hg hch
end
noncomputable abbrev XK := Value → Option Addr → Hp → Prop
noncomputable abbrev St := List (Option V)
noncomputable abbrev VK := V → Hp → Prop
noncomputable abbrev TE := St → Hp → VK → Prop
noncomputable abbrev TT := St → Hp → (Bool → Hp → Prop) → Prop
noncomputable abbrev TA := St → Hp → (List V → Hp → Prop) → Prop
structure Ends where
  nx : St → Hp → Prop
  rt : VK
  bk : St → Hp → Prop := fun _ _ => False
  ct : St → Hp → Prop := fun _ _ => False
noncomputable abbrev TS := Ends → St → Hp → Prop
noncomputable def EP (X : Cx) (pins : List (Addr × Obj)) (σ : St) (Q : VK) (u : Value) (s' : Shared) : Prop := ∃ v H', Inv X pins σ H' s' ∧ RelV v u ∧ Q v H'
noncomputable def TP (X : Cx) (pins : List (Addr × Obj)) (σ : St) (Q : Bool → Hp → Prop) (b : Bool) (s' : Shared) : Prop := ∃ H', Inv X pins σ H' s' ∧ Q b H'
noncomputable def AP (X : Cx) (pins : List (Addr × Obj)) (σ : St) (Q : List V → Hp → Prop) (us : List Value) (s' : Shared) : Prop := ∃ vs H', Inv X pins σ H' s' ∧ Vals vs us ∧ Q vs H'
noncomputable def SP (X : Cx) (pins : List (Addr × Obj)) (D : Ends) (f : Flow) (s' : Shared) : Prop :=
  match f with
  | .next => ∃ σ' H', Inv X pins σ' H' s' ∧ D.nx σ' H'
  | .brk => ∃ σ' H', Inv X pins σ' H' s' ∧ D.bk σ' H'
  | .cont => ∃ σ' H', Inv X pins σ' H' s' ∧ D.ct σ' H'
  | .ret u => ∃ v σ' H', Inv X pins σ' H' s' ∧ RelV v u ∧ D.rt v H'
noncomputable def PE (X : Cx) (e : Expr) (t : TE) : Prop :=
  ∀ (pins : List (Addr × Obj)) (s : Shared) (σ : St) (H : Hp) (Q : VK), Inv X pins σ H s → t σ H Q → wpAny (model X.prog X.w) X.A (eval e X.env) (EP X pins σ Q) X.xe s
noncomputable def PT (X : Cx) (e : Expr) (t : TT) : Prop :=
  ∀ (pins : List (Addr × Obj)) (s : Shared) (σ : St) (H : Hp) (Q : Bool → Hp → Prop), Inv X pins σ H s → t σ H Q → wpAny (model X.prog X.w) X.A (isTrue e X.env (eval e X.env)) (TP X pins σ Q) X.xe s
noncomputable def PW (X : Cx) (e : Expr) (t : TT) : Prop :=
  ∀ (whole : Sem Value) (pins : List (Addr × Obj)) (s : Shared) (σ : St) (H : Hp) (Q : Bool → Hp → Prop), Inv X pins σ H s → t σ H Q → wpAny (model X.prog X.w) X.A (isTrue e X.env whole) (TP X pins σ Q) X.xe s
noncomputable def PA (X : Cx) (es : List Expr) (t : TA) : Prop :=
  ∀ (pos : Pos) (pins : List (Addr × Obj)) (s : Shared) (σ : St) (H : Hp) (Q : List V → Hp → Prop), Inv X pins σ H s → t σ H Q → wpAny (model X.prog X.w) X.A (spliced (backTo pos (starEach es X.env))) (AP X pins σ Q) X.xe s
noncomputable def PS (X : Cx) (st : Stmt) (t : TS) : Prop :=
  ∀ (pins : List (Addr × Obj)) (s : Shared) (σ : St) (H : Hp) (D : Ends), Inv X pins σ H s → t D σ H → wpAny (model X.prog X.w) X.A (exec st X.env) (SP X pins D) X.xe s
noncomputable def PSs (X : Cx) (st : List Stmt) (t : TS) : Prop :=
  ∀ (pins : List (Addr × Obj)) (s : Shared) (σ : St) (H : Hp) (D : Ends), Inv X pins σ H s → t D σ H → wpAny (model X.prog X.w) X.A (execs st X.env) (SP X pins D) X.xe s
theorem thn {α : Type} {t : Sem α} {Q Q' : α → Shared → Prop} {M : Model} {A : Around} {E : Value → Shared → Prop} {s : Shared} (h : wpAny M A t Q E s) (hQ : ∀ a s, Q a s → Q' a s) : wpAny M A t Q' E s := wpAny_mono h hQ fun _ _ x => x
end L2
namespace L2
open PySem PySem.Spec PyProof.Rows
section
variable {X : Cx}
noncomputable def tVar (i : Nat) : TE := fun σ H Q => ∃ v, σ[i]? = some (some v) ∧ Q v H
noncomputable def tC (v : V) : TE := fun _ H Q => Q v H
theorem pe_var {i : Nat} {x : Str} {pos : Pos} (hN : X.N[i]? = some x) (hv : Vis X.env.scope x) (hd : (x == ("__debug__" : Str)) = false := by decide) (hcd : (x == ("__classdict__" : Str)) = false := by decide) : PE X (.Name x pos) (tVar i) := by
  intro pins s σ H Q I h
  obtain ⟨v, e, h⟩ := h
  obtain ⟨m, hn, hl⟩ := I.loc
  obtain ⟨u, r, l⟩ := hl i x v hN e hv
  have fin : EP X pins σ Q u s := ⟨v, H, I, r, h⟩
  rcases l with ⟨hk, hm⟩ | ⟨hk, c, hc, hcell⟩
  · exact wpAny_Name (wpAny_loadName_local I.ok.kind hk hn hm fin) hd
  · rcases hk with hk | hk
    · exact wpAny_Name (wpAny_loadName_cell I.ok.kind hk hc hcell fin) hd
    · exact wpAny_Name (wpAny_loadName_free I.ok.kind hk hc hcell fin hcd) hd
theorem pe_int {i j pos} : PE X (.Constant (.int i) j pos) (tC (.int i)) := fun _ _ _ H _ I h => wpAny_Constant_int ⟨.int i, H, I.tok _, ⟨_, rfl⟩, h⟩
theorem pe_bl {b j pos} : PE X (.Constant (.bool b) j pos) (tC (.bl b)) := fun _ _ _ H _ I h => Constant_bool ⟨.bl b, H, I, rfl, h⟩
theorem pe_non {j pos} : PE X (.Constant .none j pos) (tC .non) := fun _ _ _ H _ I h => Constant_none ⟨.non, H, I, rfl, h⟩
noncomputable def Gl (X : Cx) (x : Str) : Prop := X.env.kindOf x = some .globalImplicit
theorem ld_glob {E : Value → Shared → Prop} {pins : List (Addr × Obj)} {s : Shared} {σ : St} {H : Hp} {x : Str} {u : Value} {pos : Pos} {Q : Value → Shared → Prop} (I : Inv X pins σ H s) (hg : Gl X x) (hm : X.mg x = some u) (h : Q u s)
    (hd : (x == ("__debug__" : Str)) = false := by decide) : wpAny (model X.prog X.w) X.A (eval (.Name x pos) X.env) Q E s :=
  Calls.Name_function_global I.ok.kind hg (Calls.loadGlobal_global (by rw [I.ok.glob]; exact I.mod.glob.keeps I.bk) hm h) hd
theorem ld_blt {E : Value → Shared → Prop} {pins : List (Addr × Obj)} {s : Shared} {σ : St} {H : Hp} {x : Str} {u : Value} {pos : Pos} {Q : Value → Shared → Prop} (I : Inv X pins σ H s) (hg : Gl X x) (hm : X.mg x = none) (hv : bootBuiltins x = some u) (h : Q u s)
    (hn : x ≠ "__name__" := by decide) (hd : (x == ("__debug__" : Str)) = false := by decide) : wpAny (model X.prog X.w) X.A (eval (.Name x pos) X.env) Q E s := by
  obtain ⟨mb, h1, h2⟩ := I.mod.blt
  exact Calls.Name_function_global I.ok.kind hg (Calls.loadGlobal_builtin (by rw [I.ok.glob]; exact I.mod.glob.keeps I.bk) hm (by rw [I.ok.blt]; exact h1.keeps I.bk) ((h2 x hn).trans hv) h) hd
theorem pe_glob {x : Str} {v : V} {u : Value} {pos : Pos} (hg : Gl X x) (hm : X.mg x = some u) (r : RelV v u) (hd : (x == ("__debug__" : Str)) = false := by decide) : PE X (.Name x pos) (tC v) :=
  fun _ _ _ H _ I h => ld_glob I hg hm ⟨v, H, I, r, h⟩ hd
theorem pe_bltn {x : Str} {v : V} {u : Value} {pos : Pos} (hg : Gl X x) (hm : X.mg x = none) (hv : bootBuiltins x = some u) (r : RelV v u) (hn : x ≠ "__name__" := by decide) (hd : (x == ("__debug__" : Str)) = false := by decide) : PE X (.Name x pos) (tC v) :=
  fun _ _ _ H _ I h => ld_blt I hg hm hv ⟨v, H, I, r, h⟩ hn hd
variable {a b : Expr} {ta tb : TE} {pos : Pos}
noncomputable def tB (t : TE) : TT := fun σ H Q => t σ H fun x H1 => ∃ c, x = .bl c ∧ Q c H1
variable {tA tB' : TT} {rest : List Expr}
noncomputable def tAnd (t u : TT) : TT := fun σ H Q => t σ H fun c H1 => if c = true then u σ H1 Q else Q false H1
noncomputable def tOr (t u : TT) : TT := fun σ H Q => t σ H fun c H1 => if c = true then Q true H1 else u σ H1 Q
noncomputable def tNot (t : TT) : TT := fun σ H Q => t σ H fun c H1 => Q (!c) H1
theorem pw_and1 (ha : PT X a tA) : PW X (.BoolOp .And [a] pos) tA := by
  intro wh pins s σ H Q I h
  refine isTrue_and (thn (ha pins s σ H Q I h) fun c s1 e => ?_)
  cases c with
  | true => exact isTrue_and_nil e
  | false => exact e
theorem pw_or1 (ha : PT X a tA) : PW X (.BoolOp .Or [a] pos) tA := by
  intro wh pins s σ H Q I h
  refine isTrue_or (thn (ha pins s σ H Q I h) fun c s1 e => ?_)
  cases c with
  | false => exact isTrue_or_nil e
  | true => exact e
theorem pw_and (ha : PT X a tA) (hb : PW X (.BoolOp .And (b :: rest) pos) tB') : PW X (.BoolOp .And (a :: b :: rest) pos) (tAnd tA tB') := by
  intro wh pins s σ H Q I h
  refine isTrue_and (thn (ha pins s σ H _ I h) fun c s1 ⟨H1, I1, q1⟩ => ?_)
  cases c with
  | true => exact hb wh pins s1 σ H1 Q I1 q1
  | false => exact ⟨H1, I1, q1⟩
theorem pw_or (ha : PT X a tA) (hb : PW X (.BoolOp .Or (b :: rest) pos) tB') : PW X (.BoolOp .Or (a :: b :: rest) pos) (tOr tA tB') := by
  intro wh pins s σ H Q I h
  refine isTrue_or (thn (ha pins s σ H _ I h) fun c s1 ⟨H1, I1, q1⟩ => ?_)
  cases c with
  | true => exact ⟨H1, I1, q1⟩
  | false => exact hb wh pins s1 σ H1 Q I1 q1
theorem pt_not (ha : PT X a tA) : PT X (.UnaryOp .Not a pos) (tNot tA) := by
  intro pins s σ H Q I h
  exact isTrue_not (ha pins s σ H (fun c H1 => Q (!c) H1) I h)
noncomputable def tAndV (ta tb : TE) : TE := fun σ H Q => ta σ H fun x H1 => ∃ c, x = .bl c ∧ if c = true then tb σ H1 Q else Q (.bl false) H1
noncomputable def tNotV (ta : TE) : TE := fun σ H Q => ta σ H fun x H1 => ∃ c, x = .bl c ∧ Q (.bl (!c)) H1
theorem pe_one {op} {t : TE} (h : PE X a t) : PE X (.BoolOp op [a] pos) t := fun pins s σ H Q I hw => BoolOp_one (h pins s σ H Q I hw)
theorem pe_and (ha : PE X a ta) (hb : PE X (.BoolOp .And (b :: rest) pos) tb) : PE X (.BoolOp .And (a :: b :: rest) pos) (tAndV ta tb) := by
  intro pins s σ H Q I h
  refine BoolOp_and (thn (ha pins s σ H _ I h) fun v s1 ⟨x, H1, I1, r1, q1⟩ => ?_)
  obtain ⟨c, rfl, q1⟩ := q1
  cases r1
  refine wpAny_truthy_bool ?_
  cases c with
  | true => exact hb pins s1 σ H1 Q I1 q1
  | false => exact ⟨.bl false, H1, I1, rfl, q1⟩
theorem pe_not (ha : PE X a ta) : PE X (.UnaryOp .Not a pos) (tNotV ta) := by
  intro pins s σ H Q I h
  refine UnaryOp_ (thn (ha pins s σ H _ I h) fun v s1 ⟨x, H1, I1, r1, q1⟩ => ?_)
  obtain ⟨c, rfl, q1⟩ := q1
  cases r1
  exact not_of (wpAny_truthy_bool ⟨.bl (!c), H1, I1, rfl, q1⟩)
end
end L2
namespace L2
open PySem PySem.Spec PyProof.Rows
noncomputable def SqL (K : PySem.W.Frag) (H : Hp) (a : Addr) (xs : List V) : Prop :=
  Rd H a (.lst xs) ∨
    ∃ (o : Obj) (its : Array Value) (n : Nat), K.lookup a = some o ∧ o.cls = .type "list" ∧ o.dict = none ∧ o.data = .seq its n ∧ its.size ≤ sizeLine ∧ Vals xs its.toList
noncomputable def SqT (K : PySem.W.Frag) (H : Hp) (a : Addr) (xs : List V) : Prop :=
  Rd H a (.tup xs) ∨
    ∃ (o : Obj) (its : Array Value) (n : Nat), K.lookup a = some o ∧ o.cls = .type "tuple" ∧ o.data = .seq its n ∧ its.size ≤ sizeLine ∧ Vals xs its.toList
noncomputable def absV : Value → Option V
  | .none => some .non
  | .bool b => some (.bl b)
  | .int i _ => some (.int i)
  | .str x _ => some (.str x)
  | .bytes b _ => some (.byt b)
  | .float b _ => some (.flt b)
  | .ref a => some (.ref a)
  | .type n => some (.ty n)
  | _ => none
theorem RelV.abs {x : V} {u : Value} (r : RelV x u) : absV u = some x := by
  cases x with
  | non => cases r; rfl
  | bl _ => cases r; rfl
  | int _ => obtain ⟨t, rfl⟩ := r; rfl
  | str _ => obtain ⟨t, rfl⟩ := r; rfl
  | byt _ => obtain ⟨t, rfl⟩ := r; rfl
  | flt _ => obtain ⟨t, rfl⟩ := r; rfl
  | ref _ => cases r; rfl
  | ty _ => cases r; rfl
theorem RelV.inj {x y : V} {u : Value} (r : RelV x u) (q : RelV y u) : x = y := Option.some.inj (r.abs.symm.trans q.abs)
theorem Vals.inj : ∀ {xs ys : List V} {us : List Value}, Vals xs us → Vals ys us → xs = ys
  | _, _, _, .nil, .nil => rfl
  | _, _, _, .cons r t, .cons r' t' => by rw [r.inj r', Vals.inj t t']
section
variable {X : Cx} {pins : List (Addr × Obj)} {σ : St} {H : Hp} {s : Shared} {a : Addr} {xs ys : List V}
theorem SqL.of {K : PySem.W.Frag} (h : H a = some (.lst xs)) : SqL K H a xs := .inl (.inl h)
theorem SqT.of {K : PySem.W.Frag} (h : H a = some (.tup xs)) : SqT K H a xs := .inl (.inl h)
theorem Inv.list (I : Inv X pins σ H s) (h : SqL X.K H a xs) : ∃ its : List Value, Vals xs its ∧ PlainL s.heap a its.toArray ∧ xs.length ≤ sizeLine := by
  rcases h with h | ⟨o, its, n, hk, hc, hd, hs, hz, r⟩
  · obtain ⟨z, its, n, r, e⟩ := h.ok I.hok
    exact ⟨its, r, ⟨_, n, e, rfl, rfl, rfl⟩, z⟩
  · refine ⟨its.toList, r, ⟨o, n, I.kIn a o hk, hc, hd, by simpa using hs⟩, ?_⟩
    have e := r.length
    simp only [Array.length_toList] at e
    omega
theorem Inv.tuple (I : Inv X pins σ H s) (h : SqT X.K H a xs) : ∃ its : List Value, Vals xs its ∧ IsTup s.heap a its.toArray ∧ xs.length ≤ sizeLine := by
  rcases h with h | ⟨o, its, n, hk, hc, hs, hz, r⟩
  · obtain ⟨z, its, r, p⟩ := h.ok I.hok
    exact ⟨its, r, p, z⟩
  · refine ⟨its.toList, r, ⟨o, I.kIn a o hk, hc, n, by simpa using hs⟩, ?_⟩
    have e := r.length
    simp only [Array.length_toList] at e
    omega
theorem Inv.list_inj (I : Inv X pins σ H s) (h : SqL X.K H a xs) (h' : SqL X.K H a ys) : xs = ys := by
  obtain ⟨its, r, ⟨o, n, e, _, _, d⟩, _⟩ := I.list h
  obtain ⟨its', r', ⟨o', n', e', _, _, d'⟩, _⟩ := I.list h'
  rw [e] at e'; cases e'
  rw [d] at d'
  injection d' with d1 _
  have : its = its' := by simpa using congrArg Array.toList d1
  subst this
  exact r.inj r'
theorem Inv.tuple_inj (I : Inv X pins σ H s) (h : SqT X.K H a xs) (h' : SqT X.K H a ys) : xs = ys := by
  obtain ⟨its, r, ⟨o, e, _, n, d⟩, _⟩ := I.tuple h
  obtain ⟨its', r', ⟨o', e', _, n', d'⟩, _⟩ := I.tuple h'
  rw [e] at e'; cases e'
  rw [d] at d'
  injection d' with d1 _
  have : its = its' := by simpa using congrArg Array.toList d1
  subst this
  exact r.inj r'
end
noncomputable abbrev Cx.wish (X : Cx) (E : Value → Shared → Prop) : Cx := { X with xe := E }
noncomputable abbrev Cx.nox (X : Cx) : Cx := X.wish fun _ _ => False
theorem Cx.Ok.wish {X : Cx} (ok : X.Ok) (E : Value → Shared → Prop) : (X.wish E).Ok :=
  ⟨ok.mod, ok.kind, ok.glob, ok.blt, ok.above, ok.inj, ok.has, ok.cab, ok.hd, ok.frames, ok.stk, ok.exf, ok.bs, ok.bsz, ok.noex, ok.exfs, ok.funs, ok.frf⟩
theorem Cx.Ok.unwish {X : Cx} {E : Value → Shared → Prop} (ok : (X.wish E).Ok) : X.Ok :=
  ⟨ok.mod, ok.kind, ok.glob, ok.blt, ok.above, ok.inj, ok.has, ok.cab, ok.hd, ok.frames, ok.stk, ok.exf, ok.bs, ok.bsz, ok.noex, ok.exfs, ok.funs, ok.frf⟩
section
variable {X : Cx} {pins : List (Addr × Obj)} {σ : St} {H : Hp} {s : Shared} {E : Value → Shared → Prop}
theorem Inv.wish (I : Inv X pins σ H s) (E : Value → Shared → Prop) : Inv (X.wish E) pins σ H s := ⟨I.ok.wish E, I.os, I.bare, I.base, I.loc, I.cell, I.free, I.freeC, I.pin, I.hok, I.len⟩
theorem Inv.unwish (I : Inv (X.wish E) pins σ H s) : Inv X pins σ H s := ⟨I.ok.unwish, I.os, I.bare, I.base, I.loc, I.cell, I.free, I.freeC, I.pin, I.hok, I.len⟩
theorem SP.unwish {D : Ends} {f : Flow} {s' : Shared} (h : SP (X.wish E) pins D f s') : SP X pins D f s' := by
  cases f with
  | next => obtain ⟨σ', H', I, q⟩ := h; exact ⟨σ', H', I.unwish, q⟩
  | brk => obtain ⟨σ', H', I, q⟩ := h; exact ⟨σ', H', I.unwish, q⟩
  | cont => obtain ⟨σ', H', I, q⟩ := h; exact ⟨σ', H', I.unwish, q⟩
  | ret u => obtain ⟨v, σ', H', I, r, q⟩ := h; exact ⟨v, σ', H', I.unwish, r, q⟩
theorem PSs.nox {st : List Stmt} {t : TS} (h : PSs X.nox st t) : PSs X st t := fun pins s σ H D I hw =>
  wpAny_mono (h pins s σ H D (I.wish _) hw) (fun _ _ q => q.unwish) fun _ _ z => False.elim z
end
section
variable {X : Cx} {st : Stmt} {rest : List Stmt} {t u : TS} {e : Expr} {te : TE} {pos : Pos}
noncomputable def tNext : TS := fun D σ H => D.nx σ H
theorem pss_nil : PSs X [] tNext := fun _ _ σ H _ I h => wpAny_execs_nil ⟨σ, H, I, h⟩
theorem pss_one (h1 : PS X st t) : PSs X [st] t := by
  intro pins s σ H D I h
  refine wpAny_execs_cons (thn (h1 pins s σ H D I h) fun f s1 q => ?_)
  cases f with
  | next => exact wpAny_execs_nil q
  | ret v => exact q
  | brk => exact q
  | cont => exact q
noncomputable def tBreak : TS := fun D σ H => D.bk σ H
theorem ps_break : PS X (.Break pos) tBreak := fun _ _ σ H _ I h => wpAny_Break ⟨σ, H, I, h⟩
theorem Inv.quiet {pins : List (Addr × Obj)} {σ : St} {H : Hp} {s : Shared} (I : Inv X pins σ H s) : interactive X.env = false := by simp [interactive, I.ok.kind]
noncomputable def tDrop (te : TE) : TS := fun D σ H => te σ H fun _ H1 => D.nx σ H1
theorem ps_expr (he : PE X e te) (hs : swapsWith e none pos.line X.env = pure false := by rfl) : PS X (.Expr e pos) (tDrop te) := by
  intro pins s σ H D I h
  exact wpAny_Expr_any (thn (he pins s σ H _ I h) fun v s1 ⟨x, H1, I1, r1, q1⟩ => ⟨σ, H1, I1, q1⟩) I.quiet hs
noncomputable def tRet (te : TE) : TS := fun D σ H => te σ H D.rt
theorem ps_ret (he : PE X e te) : PS X (.Return (some e) pos) (tRet te) := by
  intro pins s σ H D I h
  exact wpAny_Return_some (thn (he pins s σ H _ I h) fun v s1 ⟨x, H1, I1, r1, q1⟩ => ⟨x, σ, H1, I1, r1, q1⟩)
noncomputable def tIfS (c : TT) (t u : TS) : TS := fun D σ H => c σ H fun b H1 => if b = true then t D σ H1 else u D σ H1
theorem ps_if {c : Expr} {a b : List Stmt} {tc : TT} (hc : PT X c tc) (ha : PSs X a t) (hb : PSs X b u) : PS X (.If c a b pos) (tIfS tc t u) := by
  intro pins s σ H D I h
  refine wpAny_If (thn (hc pins s σ H _ I h) fun d s1 ⟨H1, I1, q1⟩ => ?_)
  cases d with
  | true => exact ha pins s1 σ H1 D I1 q1
  | false => exact hb pins s1 σ H1 D I1 q1
end
noncomputable abbrev TG := V → St → Hp → (St → Hp → Prop) → Prop
noncomputable abbrev TGs := List V → St → Hp → (St → Hp → Prop) → Prop
noncomputable def PG (X : Cx) (target : Expr) (t : TG) : Prop :=
  ∀ (pins : List (Addr × Obj)) (s : Shared) (σ : St) (H : Hp) (v : V) (u : Value) (Q : St → Hp → Prop), Inv X pins σ H s → RelV v u → t v σ H Q →
    wpAny (model X.prog X.w) X.A (assign target X.env u) (fun _ s' => ∃ σ' H', Inv X pins σ' H' s' ∧ Q σ' H') X.xe s
noncomputable def PGs (X : Cx) (ts : List Expr) (t : TGs) : Prop :=
  ∀ (pins : List (Addr × Obj)) (s : Shared) (σ : St) (H : Hp) (vs : List V) (us : List Value) (Q : St → Hp → Prop), Inv X pins σ H s → Vals vs us → t vs σ H Q →
    wpAny (model X.prog X.w) X.A (assignInOrder ((assignEach ts X.env).map (·.2)) us) (fun _ s' => ∃ σ' H', Inv X pins σ' H' s' ∧ Q σ' H') X.xe s
section
variable {X : Cx} {pos : Pos}
noncomputable def gName (i : Nat) : TG := fun v σ H Q => Q (σ.set i (some v)) H
theorem pg_name {i : Nat} {x : Str} (hN : X.N.Nodup) (hi : X.N[i]? = some x) (hx : Loc X.env.scope x) (hf : X.fn x = true ∨ X.env.scope.names.lookup x = some .local := by first | exact .inl rfl | exact .inr rfl | assumption) : PG X (.Name x pos) (gName i) := by
  intro pins s σ H v u Q I r h
  exact wpAny_assign_Name (store_ok I hN hi hx r (fun s' I' => ⟨_, H, I', h⟩) hf)
noncomputable def gNil : TGs := fun vs σ H Q => vs = [] ∧ Q σ H
noncomputable def gCons (t : TG) (u : TGs) : TGs := fun vs σ H Q => ∃ v r, vs = v :: r ∧ t v σ H fun σ' H' => u r σ' H' Q
theorem pgs_nil : PGs X [] gNil := by
  intro pins s σ H vs us Q I r h
  obtain ⟨e, h⟩ := h
  subst e
  cases r
  exact assignInOrder_nil ⟨σ, H, I, h⟩
theorem pgs_cons {e : Expr} {es : List Expr} {t : TG} {u : TGs} (h1 : PG X e t) (h2 : PGs X es u)
    (hs : (assignEach (e :: es) X.env).map (·.2) = assign e X.env :: (assignEach es X.env).map (·.2) := by rfl) : PGs X (e :: es) (gCons t u) := by
  intro pins s σ H vs us Q I r h
  obtain ⟨v, vr, e1, h⟩ := h
  subst e1
  cases r with
  | cons r rr =>
    rw [hs]
    refine assignInOrder_cons (thn (h1 pins s σ H _ _ _ I r h) fun _ s1 ⟨σ1, H1, I1, q1⟩ => ?_)
    exact h2 pins s1 σ1 H1 _ _ Q I1 rr q1
noncomputable def gTup (K : PySem.W.Frag) (n : Nat) (t : TGs) : TG := fun v σ H Q => ∃ a xs, v = .ref a ∧ SqT K H a xs ∧ xs.length = n ∧ t xs σ H Q
theorem pg_tup {es : List Expr} {k : Nat} {t : TGs} {n : Nat} (hc : X.calm = true) (h : PGs X es t)
    (hn : (assignEach es X.env).length = n := by rfl) (hst : (assignEach es X.env).findIdx? (·.1) = none := by rfl) : PG X (.Tuple es k pos) (gTup X.K n t) := by
  intro pins s σ H v u Q I r hw
  obtain ⟨a, xs, e1, hq, hl, hw⟩ := hw
  subst e1
  cases r
  obtain ⟨its, rv, ht, hz⟩ := I.tuple hq
  refine assign_Tuple_tuple (I.ok.hd hc) ht (by simp [hn, ← hl, rv.length]) hst fun h' hx => ?_
  have I1 : Inv X pins σ H { s with heap := h' } := I.kept (t' := s.toks) fun b o e => hx b o (Nat.ne_of_lt (Heap.lt_size e)) e
  exact h pins _ σ H xs _ Q I1 (by simpa using rv) hw
noncomputable def tAsg (te : TE) (g : TG) : TS := fun D σ H => te σ H fun x H1 => g x σ H1 D.nx
theorem ps_asg {tg e : Expr} {te : TE} {g : TG} (he : PE X e te) (hg : PG X tg g) (hs : swapsWithSole [tg] e pos.line X.env = pure false := by rfl) (hw : swappedStores [tg] e X.env = pure none := by rfl)
    (h1 : (assignEach [tg] X.env).map (·.2) = [assign tg X.env] := by rfl) : PS X (.Assign [tg] e pos) (tAsg te g) := by
  intro pins s σ H D I h
  refine wpAny_Assign_stores (thn (he pins s σ H _ I h) fun v s1 ⟨x, H1, I1, r1, q1⟩ => ?_) hs hw
  rw [h1]
  exact thn (hg pins s1 σ H1 x v _ I1 r1 q1) fun _ s2 q => q
theorem ps_set {i : Nat} {x : Str} {e : Expr} {te : TE} {pos' : Pos} (hN : X.N.Nodup) (hi : X.N[i]? = some x) (hx : Loc X.env.scope x) (he : PE X e te) (hs : swapsWith e (some (.Name x pos')) pos.line X.env = pure false := by rfl) (hf : X.fn x = true ∨ X.env.scope.names.lookup x = some .local := by first | exact .inl rfl | exact .inr rfl | assumption) :
    PS X (.Assign [.Name x pos'] e pos) (tAsg te (gName i)) := by
  intro pins s σ H D I h
  refine wpAny_Assign_Name (thn (he pins s σ H _ I h) fun v s1 ⟨y, H1, I1, r1, q1⟩ => ?_) hs
  exact store_ok I1 hN hi hx r1 (fun s2 I2 => ⟨_, H1, I2, q1⟩) hf
end
section
variable {X : Cx} {pos : Pos}
end
structure It where
  go : Nat → Hp → Prop
  yld : Nat → Hp → V → Hp → Prop
  stop : Nat → Hp → Prop
noncomputable def FpOk (X : Cx) (pins : List (Addr × Obj)) (H : Hp) (b : Addr) : Prop :=
  H b = none ∧ b ≠ X.env.locals ∧ b ∉ X.fs ∧ (b ∈ X.ex ∨ X.s₀.heap.objs.size ≤ b) ∧ (∀ x c, X.env.cells.lookup x = some c → c ≠ b) ∧ ∀ p ∈ X.pn ++ pins, p.1 ≠ b
theorem Inv.fpOk {X : Cx} {pins : List (Addr × Obj)} {σ : St} {H H' : Hp} {s : Shared} {b : Addr} (I : Inv X pins σ H s) (hb : s.heap.objs.size ≤ b) (hn : H' b = none) : FpOk X pins H' b := by
  refine ⟨hn, Nat.ne_of_gt (Nat.lt_of_lt_of_le I.lt hb), I.nofs hb, .inr (Nat.le_trans I.sz hb), fun x c e z => ?_, fun p hp z => ?_⟩
  · obtain ⟨v, q⟩ := I.cell x c e
    exact absurd (Nat.lt_of_lt_of_le q.lt (by rw [z]; exact hb)) (Nat.lt_irrefl _)
  · exact absurd (Nat.lt_of_lt_of_le (Heap.lt_size (I.pin p hp).1) (by rw [z]; exact hb)) (Nat.lt_irrefl _)
structure Turn (P : Program) (w : World) (K : PySem.W.Frag) (tg : Expr) (J : It) (fp : List Addr) (it : Addr) (tn : Nat → Heap → Prop) : Prop where
  mem : it ∈ fp
  obj : ∀ i h, tn i h → ∀ b ∈ fp, ∃ o, h.get? b = some o ∧ ∀ v, o.data ≠ .cell v
  keep : ∀ i h h', tn i h → (∀ b ∈ fp, ∀ o, h.get? b = some o → h'.get? b = some o) → tn i h'
  item : ∀ (X : Cx), X.prog = P → X.w = w → X.K = K → X.calm = true → ∀ (i : Nat) (pins : List (Addr × Obj)) (s : Shared) (σ : St) (H : Hp) (E : Value → Shared → Prop), Inv X pins σ H s → (∀ b ∈ fp, FpOk X pins H b) → tn i s.heap → J.go i H →
    wpAny (model P w) X.A (pyNext (.ref it)) (fun r s1 => ∃ u, r = some u ∧
      wpAny (model P w) X.A (letOwnedTupleGo tg (.ref it) u) (fun _ s2 => ∃ x H', Inv X pins σ H' s2 ∧ RelV x u ∧ J.yld i H x H' ∧ tn (i + 1) s2.heap ∧ ∀ b ∈ fp, H' b = none) E s1) E s
  done : ∀ (X : Cx), X.prog = P → X.w = w → X.K = K → X.calm = true → ∀ (i : Nat) (pins : List (Addr × Obj)) (s : Shared) (σ : St) (H : Hp) (E : Value → Shared → Prop), Inv X pins σ H s → (∀ b ∈ fp, FpOk X pins H b) → tn i s.heap → J.stop i H →
    wpAny (model P w) X.A (pyNext (.ref it)) (fun r s1 => r = none ∧ Inv X pins σ H s1) E s
  self : ∀ (A : Around) (i : Nat) (s : Shared) (Q : Value → Shared → Prop) (E : Value → Shared → Prop), tn i s.heap → Q (.ref it) s → wpAny (model P w) A (pyIter (.ref it)) Q E s
noncomputable abbrev TI := St → Hp → (It → Hp → Prop) → Prop
noncomputable def PIE (X : Cx) (pins : List (Addr × Obj)) (σ : St) (tg : Expr) (R : It → Hp → Prop) (itv : Value) (s2 : Shared) : Prop :=
  ∃ (it : Addr) (fp : List Addr) (tn : Nat → Heap → Prop) (J : It) (H' : Hp), itv = .ref it ∧ Inv X pins σ H' s2 ∧ Turn X.prog X.w X.K tg J fp it tn ∧ tn 0 s2.heap ∧ (∀ b ∈ fp, FpOk X pins H' b) ∧ R J H'
noncomputable def PI (X : Cx) (tg iter : Expr) (wi : TI) : Prop :=
  ∀ (pins : List (Addr × Obj)) (s : Shared) (σ : St) (H : Hp) (R : It → Hp → Prop), Inv X pins σ H s → wi σ H R →
    wpAny (model X.prog X.w) X.A (eval iter X.env) (fun v s1 => wpAny (model X.prog X.w) X.A (pyIter v) (PIE X pins σ tg R) X.xe s1) X.xe s
theorem go_of {M : Model} {A : Around} {E : Value → Shared → Prop} {s : Shared} {tg : Expr} {it : Addr} {u : Value} {o : Obj} {n : String} {vs : Array Value} {Q : Unit → Shared → Prop} (ho : s.heap.get? it = some o) (hc : o.cls = .type n) (hd : o.data = .fields vs)
    (hn : ["enumerate", "zip", "dict_itemiterator", "dict_reverseitemiterator", "odict_iterator", "itertools.zip_longest", "itertools.pairwise"].contains n = false) (hQ : Q () s) : wpAny M A (letOwnedTupleGo tg (.ref it) u) Q E s := by
  unfold letOwnedTupleGo
  cases tg <;> first
    | exact wpAny_pure hQ
    | (cases u <;> first
        | exact wpAny_pure hQ
        | (refine wpAny_bind (wpAny_load ho ?_)
           rw [hc, hd]
           show wpAny M A (if (["enumerate", "zip", "dict_itemiterator", "dict_reverseitemiterator", "odict_iterator", "itertools.zip_longest", "itertools.pairwise"].contains n && vs[0]? == some (rawInt _)) = true then _ else _) Q E s
           rw [if_neg (by intro h; rw [hn, Bool.false_and] at h; cases h)]
           exact wpAny_pure hQ))
noncomputable def Itl (K : PySem.W.Frag) (a : Addr) : It :=
  ⟨fun i H => ∃ xs x, SqL K H a xs ∧ xs[i]? = some x, fun i H x H' => H' = H ∧ ∀ xs, SqL K H a xs → xs[i]? = some x, fun i H => ∃ xs, SqL K H a xs ∧ xs.length ≤ i⟩
noncomputable def Itt (K : PySem.W.Frag) (a : Addr) : It :=
  ⟨fun i H => ∃ xs x, SqT K H a xs ∧ xs[i]? = some x, fun i H x H' => H' = H ∧ ∀ xs, SqT K H a xs → xs[i]? = some x, fun i H => ∃ xs, SqT K H a xs ∧ xs.length ≤ i⟩
noncomputable def Itr (lo : Int) (n : Nat) : It := ⟨fun i _ => i < n, fun i H x H' => H' = H ∧ x = .int (lo + i), fun i _ => n ≤ i⟩
theorem turn_list {P : Program} {w : World} {K : PySem.W.Frag} {tg : Expr} (a it : Addr) : Turn P w K tg (Itl K a) [it] it (fun i h => h.IsListIter it a i) where
  mem := by simp
  obj := fun i h st b hb => by
    have e : b = it := by simpa using hb
    subst e
    obtain ⟨o, e, c, d⟩ := st
    exact ⟨o, e, fun v z => by rw [d] at z; cases z⟩
  keep := fun i h h' st k => st.at fun o e => k it (by simp) o e
  item := by
    intro X hP hw hK hc i pins s σ H E I hf st hg
    subst hP hw hK
    obtain ⟨xs, x, hq, hx⟩ := hg
    obtain ⟨its, rv, p, hz⟩ := I.list hq
    obtain ⟨u, hu, ru⟩ := rv.get hx
    obtain ⟨f0, f1, f2, f3, f4, f5⟩ := hf it (by simp)
    refine wpAny_pyNext_list_item st p.isList (x := u) (by simpa using hu) fun h' st' sb => ?_
    have I1 : Inv X pins σ H { s with heap := h' } := I.turned (t' := s.toks) (fun b o hb e => (sb.2 b hb).trans e) f0 f1 f3 f4 f5
    obtain ⟨o, e, c, d⟩ := id st'
    exact ⟨u, rfl, go_of (s := { s with heap := h' }) e c d (by decide) ⟨x, H, I1, ru, ⟨rfl, fun ys hy => by rw [I.list_inj hy hq]; exact hx⟩, st', fun b hb => (hf b hb).1⟩⟩
  done := by
    intro X hP hw hK hc i pins s σ H E I hf st hg
    subst hP hw hK
    obtain ⟨xs, hq, hx⟩ := hg
    obtain ⟨its, rv, p, hz⟩ := I.list hq
    obtain ⟨f0, f1, f2, f3, f4, f5⟩ := hf it (by simp)
    have hl := rv.length
    exact wpAny_pyNext_list_end (I.ok.hd hc) st p.isList (by simp; omega) fun h' eb => ⟨rfl, I.turned (t' := s.toks) (fun b o hb e => eb b o hb e) f0 f1 f3 f4 f5⟩
  self := fun _ _ _ _ _ st h => wpAny_pyIter_listiter st h
theorem turn_tuple {P : Program} {w : World} {K : PySem.W.Frag} {tg : Expr} (a it : Addr) : Turn P w K tg (Itt K a) [it] it (fun i h => h.IsTupleIter it a i) where
  mem := by simp
  obj := fun i h st b hb => by
    have e : b = it := by simpa using hb
    subst e
    obtain ⟨o, e, c, d⟩ := st
    exact ⟨o, e, fun v z => by rw [d] at z; cases z⟩
  keep := fun i h h' st k => st.at fun o e => k it (by simp) o e
  item := by
    intro X hP hw hK hc i pins s σ H E I hf st hg
    subst hP hw hK
    obtain ⟨xs, x, hq, hx⟩ := hg
    obtain ⟨its, rv, p, hz⟩ := I.tuple hq
    obtain ⟨u, hu, ru⟩ := rv.get hx
    obtain ⟨f0, f1, f2, f3, f4, f5⟩ := hf it (by simp)
    refine wpAny_pyNext_tuple_item st (show s.heap.IsTuple a its.toArray from p) (x := u) (by simpa using hu) fun h' st' sb => ?_
    have I1 : Inv X pins σ H { s with heap := h' } := I.turned (t' := s.toks) (fun b o hb e => (sb.2 b hb).trans e) f0 f1 f3 f4 f5
    obtain ⟨o, e, c, d⟩ := id st'
    exact ⟨u, rfl, go_of (s := { s with heap := h' }) e c d (by decide) ⟨x, H, I1, ru, ⟨rfl, fun ys hy => by rw [I.tuple_inj hy hq]; exact hx⟩, st', fun b hb => (hf b hb).1⟩⟩
  done := by
    intro X hP hw hK hc i pins s σ H E I hf st hg
    subst hP hw hK
    obtain ⟨xs, hq, hx⟩ := hg
    obtain ⟨its, rv, p, hz⟩ := I.tuple hq
    obtain ⟨f0, f1, f2, f3, f4, f5⟩ := hf it (by simp)
    have hl := rv.length
    exact wpAny_pyNext_tuple_end (I.ok.hd hc) st (show s.heap.IsTuple a its.toArray from p) (by simp; omega) fun h' eb => ⟨rfl, I.turned (t' := s.toks) (fun b o hb e => eb b o hb e) f0 f1 f3 f4 f5⟩
  self := fun _ _ _ _ _ st h => wpAny_pyIter_tupleiter st h
theorem turn_range {P : Program} {w : World} {K : PySem.W.Frag} {tg : Expr} (it : Addr) (lo : Int) (n : Nat) : Turn P w K tg (Itr lo n) [it] it (fun i h => IsRangeIter h it (lo + (i : Nat) * 1) ((n : Int) - (i : Nat)) 1) where
  mem := by simp
  obj := fun i h st b hb => by
    have e : b = it := by simpa using hb
    subst e
    exact ⟨_, st, fun v z => by
      have z' : Data.fields _ = Data.cell v := z
      cases z'⟩
  keep := fun i h h' st k => k it (by simp) _ st
  item := by
    intro X hP hw hK hc i pins s σ H E I hf st hg
    subst hP hw hK
    obtain ⟨f0, f1, f2, f3, f4, f5⟩ := hf it (by simp)
    have W := Walks.range (prog := X.prog) (w := X.w) (I.ok.hd hc) it lo 1 n
    refine W.item i s _ _ hg st fun v h' tk hv st' kk => ?_
    obtain ⟨t, rfl⟩ := hv
    have I1 : Inv X pins σ H { s with heap := h', toks := tk } := I.turned (fun b o hb e => kk b o (by simpa using hb) e) f0 f1 f3 f4 f5
    refine ⟨_, rfl, go_of (s := { s with heap := h', toks := tk }) (n := "range_iterator") st' rfl rfl (by decide) ⟨.int (lo + i), H, I1, ⟨t, ?_⟩, ⟨rfl, rfl⟩, st', fun b hb => (hf b hb).1⟩⟩
    rw [Int.mul_one]
  done := by
    intro X hP hw hK hc i pins s σ H E I hf st hg
    subst hP hw hK
    obtain ⟨f0, f1, f2, f3, f4, f5⟩ := hf it (by simp)
    exact wpAny_pyNext_range_end (I.ok.hd hc) st (by have : n ≤ i := hg; omega) fun h' eb => ⟨rfl, I.turned (t' := s.toks) (fun b o hb e => eb b o hb e) f0 f1 f3 f4 f5⟩
  self := fun _ _ _ _ _ st h => wpAny_pyIter_rangeiter st h
end L2
namespace L2
open PySem PySem.Spec PyProof.Rows
section
variable {X : Cx} {tg : Expr}
noncomputable def iList (K : PySem.W.Frag) (tl : TE) : TI := fun σ H R => tl σ H fun x H1 => ∃ a, x = .ref a ∧ (∃ xs, SqL K H1 a xs) ∧ R (Itl K a) H1
noncomputable def iTup (K : PySem.W.Frag) (tl : TE) : TI := fun σ H R => tl σ H fun x H1 => ∃ a, x = .ref a ∧ (∃ xs, SqT K H1 a xs) ∧ R (Itt K a) H1
theorem pi_list {l : Expr} {tl : TE} (hl : PE X l tl) : PI X tg l (iList X.K tl) := by
  intro pins s σ H R I h
  refine thn (hl pins s σ H _ I h) fun v s1 ⟨x, H1, I1, r1, q1⟩ => ?_
  obtain ⟨a, e, ⟨xs, hq⟩, q⟩ := q1
  subst e
  cases r1
  obtain ⟨its, rv, p, hz⟩ := I1.list hq
  refine wpAny_pyIter_list p.isList ?_
  refine ⟨s1.heap.objs.size, [s1.heap.objs.size], _, _, H1, rfl, I1.kept (t' := s1.toks) fun b o e => Heap.get?_push_of_some _ e, turn_list a _, ⟨_, Heap.get?_push_size _ rfl, rfl, rfl⟩, fun b hb => ?_, q⟩
  have e : b = s1.heap.objs.size := by simpa using hb
  subst e
  exact I1.fpOk (Nat.le_refl _) (I1.hok.fresh (Nat.le_refl _))
theorem pi_tup {l : Expr} {tl : TE} (hl : PE X l tl) : PI X tg l (iTup X.K tl) := by
  intro pins s σ H R I h
  refine thn (hl pins s σ H _ I h) fun v s1 ⟨x, H1, I1, r1, q1⟩ => ?_
  obtain ⟨a, e, ⟨xs, hq⟩, q⟩ := q1
  subst e
  cases r1
  obtain ⟨its, rv, p, hz⟩ := I1.tuple hq
  refine wpAny_pyIter_tuple (show s1.heap.IsTuple a its.toArray from p) ?_
  refine ⟨s1.heap.objs.size, [s1.heap.objs.size], _, _, H1, rfl, I1.kept (t' := s1.toks) fun b o e => Heap.get?_push_of_some _ e, turn_tuple a _, ⟨_, Heap.get?_push_size _ rfl, rfl, rfl⟩, fun b hb => ?_, q⟩
  have e : b = s1.heap.objs.size := by simpa using hb
  subst e
  exact I1.fpOk (Nat.le_refl _) (I1.hok.fresh (Nat.le_refl _))
theorem range_it {pins : List (Addr × Obj)} {σ : St} {H : Hp} {s : Shared} {R : It → Hp → Prop} {E : Value → Shared → Prop} {lo hi : Int} {t u v : Tok} {tk : Nat} (I : Inv X pins σ H s) (h1 : -(2 ^ 62) ≤ lo) (h2 : lo < 2 ^ 62) (h3 : -(2 ^ 62) ≤ hi) (h4 : hi < 2 ^ 62)
    (q : R (Itr lo (hi - lo).toNat) H) : wpAny (model X.prog X.w) X.A (pyIter (.ref s.heap.objs.size)) (PIE X pins σ tg R) E { s with heap := s.heap.push { cls := .type "range", data := .fields #[.int lo t, .int hi u, .int 1 v] }, toks := tk } := by
  refine wpAny_pyIter_range (IsRange.new ..) (small_one h1 h2 h3 h4) ?_
  have I1 : Inv X pins σ H { s with heap := s.heap.push { cls := .type "range", data := .fields #[.int lo t, .int hi u, .int 1 v] }, toks := tk } := I.kept fun b o e => Heap.get?_push_of_some _ e
  refine ⟨(s.heap.push { cls := .type "range", data := .fields #[.int lo t, .int hi u, .int 1 v] }).objs.size, [(s.heap.push { cls := .type "range", data := .fields #[.int lo t, .int hi u, .int 1 v] }).objs.size], _, _, H, rfl,
    I1.kept (t' := tk) fun b o e => Heap.get?_push_of_some _ e, turn_range _ lo (hi - lo).toNat, ?_, fun b hb => ?_, q⟩
  · have e1 : lo + ((0 : Nat) : Int) * 1 = lo := by simp
    have e2 : (((hi - lo).toNat : Nat) : Int) - ((0 : Nat) : Int) = Builtin.Range.rangeSize lo hi 1 := by rw [rangeSize_one]; split <;> omega
    show IsRangeIter _ _ (lo + ((0 : Nat) : Int) * 1) ((((hi - lo).toNat : Nat) : Int) - ((0 : Nat) : Int)) 1
    rw [e1, e2]
    exact Heap.get?_push_size _ rfl
  · have e : b = (s.heap.push { cls := .type "range", data := .fields #[.int lo t, .int hi u, .int 1 v] }).objs.size := by simpa using hb
    subst e
    exact I1.fpOk (Nat.le_refl _) (I1.hok.fresh (Nat.le_refl _))
noncomputable def iRng1 (ta : TA) : TI := fun σ H R => ta σ H fun vs H1 => ∃ j : Int, vs = [.int j] ∧ -(2 ^ 62) ≤ j ∧ j < 2 ^ 62 ∧ R (Itr 0 j.toNat) H1
noncomputable def iRng2 (ta : TA) : TI := fun σ H R => ta σ H fun vs H1 => ∃ i j : Int, vs = [.int i, .int j] ∧ (-(2 ^ 62) ≤ i ∧ i < 2 ^ 62 ∧ -(2 ^ 62) ≤ j ∧ j < 2 ^ 62) ∧ R (Itr i (j - i).toNat) H1
theorem pi_range1 {a : Expr} {ta : TA} {p pos : Pos} (hg : Gl X "range") (hm : X.mg "range" = none) (ha : PA X [a] ta) (hs : starEach [a] X.env = [(false, eval a X.env)] := by rfl) : PI X tg (.Call (.Name "range" p) [a] [] pos) (iRng1 ta) := by
  intro pins s σ H R I h
  refine Call_ (ld_blt I hg hm boot_range (PyProof.Rows.callWith_type1 (thn (ha pos pins s σ H _ I h) fun us s1 ⟨vs, H1, I1, r1, q1⟩ => ?_) hs rfl))
  obtain ⟨j, e, q1, q2, q⟩ := q1
  subst e
  cases r1 with
  | cons r rr =>
    cases rr
    obtain ⟨t, rfl⟩ := r
    exact call_range_1 (range_it I1 (by omega) (by omega) q1 q2 (by simpa using q))
theorem pi_range2 {a b : Expr} {ta : TA} {p pos : Pos} (hg : Gl X "range") (hm : X.mg "range" = none) (ha : PA X [a, b] ta) (hs : starEach [a, b] X.env = [(false, eval a X.env), (false, eval b X.env)] := by rfl) (hs2 : starEach [b] X.env = [(false, eval b X.env)] := by rfl) :
    PI X tg (.Call (.Name "range" p) [a, b] [] pos) (iRng2 ta) := by
  intro pins s σ H R I h
  refine Call_ (ld_blt I hg hm boot_range (PyProof.Rows.callWith_type1 (thn (ha pos pins s σ H _ I h) fun us s1 ⟨vs, H1, I1, r1, q1⟩ => ?_) (by rw [hs, hs2]) (by rw [hs2]; rfl)))
  obtain ⟨i, j, e, ⟨q1, q2, q3, q4⟩, q⟩ := q1
  subst e
  cases r1 with
  | cons r rr =>
    cases rr with
    | cons r' rr =>
      cases rr
      obtain ⟨t, rfl⟩ := r
      obtain ⟨t', rfl⟩ := r'
      exact call_range_2 (range_it I1 q1 q2 q3 q4 q)
noncomputable def tFor (wi : TI) (g : TG) (tb : TS) : TS := fun D σ H => wi σ H fun J H1 => ∃ W : Nat → Nat → St → Hp → Prop, (∃ m, W 0 m σ H1) ∧ ∀ i m σ H, W i m σ H →
  (J.stop i H ∧ D.nx σ H) ∨ (J.go i H ∧ ∃ N : St → Hp → Prop, (∀ σ' H', N σ' H' → ∃ m', m' < m ∧ W (i + 1) m' σ' H') ∧ ∀ x H', J.yld i H x H' → g x σ H' fun σ2 H2 => tb { D with nx := N, ct := N, bk := D.nx } σ2 H2)
noncomputable def pinsAt (fp : List Addr) (h : Heap) : List (Addr × Obj) := fp.filterMap fun b => (h.get? b).map fun o => (b, o)
theorem mem_pinsAt {fp : List Addr} {h : Heap} {b : Addr} {o : Obj} (hb : b ∈ fp) (e : h.get? b = some o) : (b, o) ∈ pinsAt fp h := List.mem_filterMap.mpr ⟨b, hb, by rw [e]; rfl⟩
theorem of_pinsAt {fp : List Addr} {h : Heap} {p : Addr × Obj} (hp : p ∈ pinsAt fp h) : p.1 ∈ fp ∧ h.get? p.1 = some p.2 := by
  obtain ⟨b, hb, e⟩ := List.mem_filterMap.mp hp
  cases q : h.get? b with
  | none => rw [q] at e; cases e
  | some o =>
    rw [q] at e
    have e' : (b, o) = p := Option.some.inj e
    subst e'
    exact ⟨hb, q⟩
theorem Inv.pinned {pins : List (Addr × Obj)} {σ : St} {H : Hp} {s : Shared} {fp : List Addr} (I : Inv X pins σ H s) (hf : ∀ b ∈ fp, FpOk X pins H b) (ho : ∀ b ∈ fp, ∃ o, s.heap.get? b = some o ∧ ∀ v, o.data ≠ .cell v) : Inv X (pins ++ pinsAt fp s.heap) σ H s :=
  I.pins_of fun p hp => (List.mem_append.mp hp).elim (fun z => I.pin p (List.mem_append_right _ z)) fun z => by
    obtain ⟨hb, e⟩ := of_pinsAt z
    obtain ⟨f0, f1, f2, _⟩ := hf p.1 hb
    obtain ⟨o, e', d⟩ := ho p.1 hb
    rw [e] at e'; cases e'
    exact ⟨e, f0, f1, f2, d⟩
theorem Inv.unpinned {pins pl : List (Addr × Obj)} {σ : St} {H : Hp} {s : Shared} (I : Inv X (pins ++ pl) σ H s) : Inv X pins σ H s := I.pins_of fun p hp => I.pin p (List.mem_append_right _ (List.mem_append_left _ hp))
theorem ps_for {iter : Expr} {body : List Stmt} {wi : TI} {g : TG} {tb : TS} {pos : Pos} (hp : PassesOwn (model X.prog X.w) X.A X.env X.xe) (hc : X.calm = true) (hi : PI X tg iter wi) (hg : PG X tg g) (hb : PSs X body tb)
    (hs : ∀ x, foldedSetIterable iter X.env x = pure x := by intro _; rfl) : PS X (.For tg iter body [] pos) (tFor wi g tb) := by
  intro pins s σ H D I h
  refine wpAny_For (thn (hi pins s σ H _ I h) fun v s1 h1 => thn h1 fun itv s2 h2 => ?_) hs
  obtain ⟨it, fp, tn, J, H2, e, I2, T, st2, f2, W, ⟨m0, w0⟩, turn⟩ := h2
  subst e
  -- what stays true of the iterator's objects through the loop
  have stat : ∀ {H' : Hp}, (∀ b ∈ fp, H' b = none) → ∀ b ∈ fp, FpOk X pins H' b := fun hn b hb => ⟨hn b hb, (f2 b hb).2⟩
  refine codeAny_forLoop_any (fun n s' => ∃ i σ' H', Inv X pins σ' H' s' ∧ tn i s'.heap ∧ (∀ b ∈ fp, H' b = none) ∧ W i n σ' H') ?_ m0 ⟨0, σ, H2, I2, st2, fun b hb => (f2 b hb).1, w0⟩
  rintro n s3 ⟨i, σ3, H3, I3, st3, fr3, w3⟩
  rcases turn i n σ3 H3 w3 with ⟨stop, qn⟩ | ⟨go, N, hN, step⟩
  · refine wpAny_passesOwn hp (thn (T.done X rfl rfl rfl hc i pins s3 σ3 H3 X.xe I3 (stat fr3) st3 stop) fun r s4 ⟨hr, I4⟩ => ?_)
    subst hr
    exact wpAny_execs_nil ⟨σ3, H3, I4, qn⟩
  · refine wpAny_passesOwn hp (thn (T.item X rfl rfl rfl hc i pins s3 σ3 H3 X.xe I3 (stat fr3) st3 go) fun r s4 ⟨u, hr, h4⟩ => ?_)
    subst hr
    refine wpAny_passesOwn hp (thn h4 fun _ s5 ⟨x, H5, I5, r5, y5, st5, fr5⟩ => ?_)
    have I5' := I5.pinned (stat fr5) (T.obj _ _ st5)
    refine wpAny_passesOwn hp (thn (hg _ s5 σ3 H5 x u _ I5' r5 (step x H5 y5)) fun _ s6 ⟨σ6, H6, I6, q6⟩ => ?_)
    refine wpAny_passesOwn hp (thn (hb _ s6 σ6 H6 _ I6 q6) fun f s7 q7 => ?_)
    have again : ∀ {σ7 : St} {H7 : Hp}, Inv X (pins ++ pinsAt fp s5.heap) σ7 H7 s7 → N σ7 H7 → ∃ m, m < n ∧ ∃ i σ' H', Inv X pins σ' H' s7 ∧ tn i s7.heap ∧ (∀ b ∈ fp, H' b = none) ∧ W i m σ' H' := fun {σ7 H7} I7 n7 => by
      obtain ⟨m', hm, w7⟩ := hN σ7 H7 n7
      refine ⟨m', hm, i + 1, σ7, H7, I7.unpinned, T.keep _ _ _ st5 fun b hb o e => (I7.pin (b, o) (List.mem_append_right _ (List.mem_append_right _ (mem_pinsAt hb e)))).1, fun b hb => ?_, w7⟩
      obtain ⟨o, e, d⟩ := T.obj _ _ st5 b hb
      exact (I7.pin (b, o) (List.mem_append_right _ (List.mem_append_right _ (mem_pinsAt hb e)))).2.1
    cases f with
    | next => obtain ⟨σ7, H7, I7, n7⟩ := q7; exact again I7 n7
    | cont => obtain ⟨σ7, H7, I7, n7⟩ := q7; exact again I7 n7
    | brk => obtain ⟨σ7, H7, I7, q7⟩ := q7; exact ⟨σ7, H7, I7.unpinned, q7⟩
    | ret v => obtain ⟨x7, σ7, H7, I7, r7, q7⟩ := q7; exact ⟨x7, σ7, H7, I7.unpinned, r7, q7⟩
end
end L2
namespace L2
open PySem PySem.Spec PyProof.Rows
noncomputable abbrev R2 := V → V → Hp → VK → Prop
noncomputable def OpR (X : Cx) (f : Value → Value → Sem Value) (r : R2) : Prop :=
  ∀ (pins : List (Addr × Obj)) (s : Shared) (σ : St) (H : Hp) (x y : V) (v u : Value) (Q : VK), Inv X pins σ H s → RelV x v → RelV y u → r x y H Q →
    wpAny (model X.prog X.w) X.A (f v u) (EP X pins σ Q) X.xe s
noncomputable def UnR (X : Cx) (f : Value → Sem Value) (r : V → Hp → VK → Prop) : Prop :=
  ∀ (pins : List (Addr × Obj)) (s : Shared) (σ : St) (H : Hp) (x : V) (v : Value) (Q : VK), Inv X pins σ H s → RelV x v → r x H Q →
    wpAny (model X.prog X.w) X.A (f v) (EP X pins σ Q) X.xe s
noncomputable def CallR (X : Cx) (f : Value) (r : List V → Hp → VK → Prop) : Prop :=
  ∀ (pins : List (Addr × Obj)) (s : Shared) (σ : St) (H : Hp) (xs : List V) (us : List Value) (Q : VK), Inv X pins σ H s → Vals xs us → r xs H Q →
    wpAny (model X.prog X.w) X.A (call f us) (EP X pins σ Q) X.xe s
noncomputable def TruR (X : Cx) (r : V → Hp → (Bool → Hp → Prop) → Prop) : Prop :=
  ∀ (pins : List (Addr × Obj)) (s : Shared) (σ : St) (H : Hp) (x : V) (v : Value) (Q : Bool → Hp → Prop), Inv X pins σ H s → RelV x v → r x H Q →
    wpAny (model X.prog X.w) X.A (truthy v) (TP X pins σ Q) X.xe s
noncomputable def tOp (r : R2) (ta tb : TE) : TE := fun σ H Q => ta σ H fun x H1 => tb σ H1 fun y H2 => r x y H2 Q
noncomputable def tUn (r : V → Hp → VK → Prop) (ta : TE) : TE := fun σ H Q => ta σ H fun x H1 => r x H1 Q
noncomputable def rI (C : Int → Int → Prop) (g : Int → Int → V) : R2 := fun x y H Q => ∃ i j, x = .int i ∧ y = .int j ∧ C i j ∧ Q (g i j) H
noncomputable def rI0 (g : Int → Int → V) : R2 := fun x y H Q => ∃ i j, x = .int i ∧ y = .int j ∧ Q (g i j) H
noncomputable def rU (g : Int → V) : V → Hp → VK → Prop := fun x H Q => ∃ i, x = .int i ∧ Q (g i) H
section
variable {X : Cx} {a b c : Expr} {ta tb tc : TE} {pos : Pos}
theorem binT (ha : PE X a ta) (hb : PE X b tb) {pins : List (Addr × Obj)} {s : Shared} {σ : St} {H : Hp} {R : V → V → Hp → Prop} (I : Inv X pins σ H s)
    (h : ta σ H fun x H1 => tb σ H1 fun y H2 => R x y H2) {Q : Value → Shared → Prop} {f : Value → Value → Sem Value}
    (hf : ∀ v u s2 x y H2, Inv X pins σ H2 s2 → RelV x v → RelV y u → R x y H2 → wpAny (model X.prog X.w) X.A (f v u) Q X.xe s2) :
    wpAny (model X.prog X.w) X.A (eval a X.env) (fun v s₁ => wpAny (model X.prog X.w) X.A (eval b X.env) (fun u s₂ => wpAny (model X.prog X.w) X.A (f v u) Q X.xe s₂) X.xe s₁) X.xe s := by
  refine thn (ha pins s σ H _ I h) fun v s1 ⟨x, H1, I1, r1, q1⟩ => ?_
  refine thn (hb pins s1 σ H1 _ I1 q1) fun u s2 ⟨y, H2, I2, r2, q2⟩ => ?_
  exact hf v u s2 x y H2 I2 r1 r2 q2
theorem pe_op {op : Operator} {r : R2} (ho : OpR X (binaryOp op) r) (ha : PE X a ta) (hb : PE X b tb) : PE X (.BinOp a op b pos) (tOp r ta tb) := by
  intro pins s σ H Q I h
  exact wpAny_BinOp (binT ha hb I h fun v u s2 x y H2 I2 rx ry q => ho pins s2 σ H2 x y v u Q I2 rx ry q)
theorem pe_un {op : UnaryOp} {r : V → Hp → VK → Prop} (ho : UnR X (unaryOp op) r) (ha : PE X a ta) : PE X (.UnaryOp op a pos) (tUn r ta) := by
  intro pins s σ H Q I h
  exact UnaryOp_ (thn (ha pins s σ H _ I h) fun v s1 ⟨x, H1, I1, r1, q1⟩ => ho pins s1 σ H1 x v Q I1 r1 q1)
theorem opI {f : Value → Value → Sem Value} {C : Int → Int → Prop} {g : Int → Int → Int}
    (rule : ∀ (i j : Int) (t u : Tok) (s : Shared) (Q : Value → Shared → Prop) (E : Value → Shared → Prop), C i j → Q (.int (g i j) s.toks) { s with toks := s.toks + 1 } → wpAny (model X.prog X.w) X.A (f (.int i t) (.int j u)) Q E s) :
    OpR X f (rI C fun i j => .int (g i j)) := by
  intro pins s σ H x y v u Q I rx ry h
  obtain ⟨i, j, rfl, rfl, hc, q⟩ := h
  obtain ⟨t, rfl⟩ := rx
  obtain ⟨t', rfl⟩ := ry
  exact rule i j t t' s _ _ hc ⟨.int (g i j), H, I.tok _, ⟨_, rfl⟩, q⟩
theorem opI0 {f : Value → Value → Sem Value} {g : Int → Int → Int}
    (rule : ∀ (i j : Int) (t u : Tok) (s : Shared) (Q : Value → Shared → Prop) (E : Value → Shared → Prop), Q (.int (g i j) s.toks) { s with toks := s.toks + 1 } → wpAny (model X.prog X.w) X.A (f (.int i t) (.int j u)) Q E s) :
    OpR X f (rI0 fun i j => .int (g i j)) := by
  intro pins s σ H x y v u Q I rx ry h
  obtain ⟨i, j, rfl, rfl, q⟩ := h
  obtain ⟨t, rfl⟩ := rx
  obtain ⟨t', rfl⟩ := ry
  exact rule i j t t' s _ _ ⟨.int (g i j), H, I.tok _, ⟨_, rfl⟩, q⟩
theorem opB0 {f : Value → Value → Sem Value} {g : Int → Int → Bool}
    (rule : ∀ (i j : Int) (t u : Tok) (s : Shared) (Q : Value → Shared → Prop) (E : Value → Shared → Prop), Q (.bool (g i j)) s → wpAny (model X.prog X.w) X.A (f (.int i t) (.int j u)) Q E s) :
    OpR X f (rI0 fun i j => .bl (g i j)) := by
  intro pins s σ H x y v u Q I rx ry h
  obtain ⟨i, j, rfl, rfl, q⟩ := h
  obtain ⟨t, rfl⟩ := rx
  obtain ⟨t', rfl⟩ := ry
  exact rule i j t t' s _ _ ⟨.bl (g i j), H, I, rfl, q⟩
noncomputable def CDiv (i j : Int) : Prop := 0 < j ∧ j < 1073741824
noncomputable def CMul (i j : Int) : Prop := (-(2 ^ 64) < i ∧ i < 2 ^ 64) ∨ (-(2 ^ 64) < j ∧ j < 2 ^ 64)
theorem CMul.ok {i j : Int} (h : CMul i j) : IntMulOk i j := by
  rcases h with ⟨h1, h2⟩ | ⟨h1, h2⟩
  · exact .of_left (intBits_le_64 h1 h2)
  · exact .of_right (intBits_le_64 h1 h2)
theorem op_add : OpR X (binaryOp .Add) (rI0 fun i j => .int (i + j)) := opI0 fun _ _ _ _ _ _ _ q => add_int q
theorem op_sub : OpR X (binaryOp .Sub) (rI0 fun i j => .int (i - j)) := opI0 fun _ _ _ _ _ _ _ q => sub_int q
theorem op_mul : OpR X (binaryOp .Mult) (rI CMul fun i j => .int (i * j)) := opI fun _ _ _ _ _ _ _ hc q => mul_int q hc.ok
theorem op_fdiv : OpR X (binaryOp .FloorDiv) (rI CDiv fun i j => .int (i / j)) := opI fun i j _ _ _ _ _ hc q => by
  have h1 : (0 : Int) < j := hc.1
  have h2 : j < 1073741824 := hc.2
  exact floordiv_int (by omega) (by rw [Int.fdiv_eq_ediv_of_nonneg i (by omega)]; exact q) (.inl (PyProof.noPylong_small (by omega)))
theorem op_mod : OpR X (binaryOp .Mod) (rI (fun _ j => 0 < j) fun i j => .int (i % j)) := opI fun i j _ _ _ _ _ hc q => by
  have h1 : (0 : Int) < j := hc
  exact mod_int' (by omega) (by rw [Int.fmod_eq_emod_of_nonneg i (by omega)]; exact q)
theorem unI {f : Value → Sem Value} {g : Int → Int}
    (rule : ∀ (i : Int) (t : Tok) (s : Shared) (Q : Value → Shared → Prop) (E : Value → Shared → Prop), Q (.int (g i) s.toks) { s with toks := s.toks + 1 } → wpAny (model X.prog X.w) X.A (f (.int i t)) Q E s) :
    UnR X f (rU fun i => .int (g i)) := by
  intro pins s σ H x v Q I rx h
  obtain ⟨i, rfl, q⟩ := h
  obtain ⟨t, rfl⟩ := rx
  exact rule i t s _ _ ⟨.int (g i), H, I.tok _, ⟨_, rfl⟩, q⟩
theorem un_neg : UnR X (unaryOp .USub) (rU fun i => .int (-i)) := unI fun _ _ _ _ _ q => neg_int q
end
noncomputable def scal : V → V → Bool
  | .non, .non => true | .non, .int _ => true | .int _, .non => true | .non, .bl _ => true | .bl _, .non => true | .non, .str _ => true | .str _, .non => true
  | .int _, .int _ => true | .bl _, .bl _ => true | .str _, .str _ => true | .byt _, .byt _ => true
  | .int _, .str _ => true | .str _, .int _ => true | .bl _, .str _ => true | .str _, .bl _ => true
  | _, _ => false
noncomputable def rEq : R2 := fun x y H Q => scal x y = true ∧ Q (.bl (decide (x = y))) H
noncomputable def rNe : R2 := fun x y H Q => scal x y = true ∧ Q (.bl (!decide (x = y))) H
theorem dec_int {i j : Int} : decide (V.int i = V.int j) = (i == j) := by
  rw [Bool.eq_iff_iff]
  simp
theorem dec_bl {i j : Bool} : decide (V.bl i = V.bl j) = (i == j) := by
  rw [Bool.eq_iff_iff]
  simp
theorem dec_str {i j : Str} : decide (V.str i = V.str j) = (i == j) := by
  rw [Bool.eq_iff_iff]
  simp
theorem dec_byt {i j : Array UInt8} : decide (V.byt i = V.byt j) = (i.toList == j.toList) := by
  rw [Bool.eq_iff_iff]
  cases i
  cases j
  simp
section
variable {X : Cx} {a b c : Expr} {ta tb tc : TE} {pos : Pos}
theorem fin_bl {pins : List (Addr × Obj)} {σ : St} {H : Hp} {s : Shared} {Q : VK} {k k' : Bool} (I : Inv X pins σ H s) (q : Q (.bl k) H) (e : k = k') : EP X pins σ Q (.bool k') s := by
  subst e
  exact ⟨.bl k, H, I, rfl, q⟩
theorem op_eq : OpR X (compareOp .Eq) rEq := by
  intro pins s σ H x y v u Q I rx ry h
  obtain ⟨hs, q⟩ := h
  cases x with
  | non =>
    cases rx
    cases y with
    | non => cases ry; exact PySem.EqNone.eq_none_none (fin_bl I q (by simp))
    | bl j => cases ry; exact PySem.EqNone.eq_none_bool (fin_bl I q (by simp))
    | int j => obtain ⟨t', rfl⟩ := ry; exact PySem.EqNone.eq_none_int (fin_bl I q (by simp))
    | str j => obtain ⟨t', rfl⟩ := ry; exact PySem.EqNone.eq_none_str (fin_bl I q (by simp))
    | _ => exact absurd (show false = true from hs) Bool.false_ne_true
  | bl i =>
    cases rx
    cases y with
    | non => cases ry; exact PySem.EqNone.eq_bool_none (fin_bl I q (by simp))
    | bl j => cases ry; exact eq_bool (fin_bl I q dec_bl)
    | str j => obtain ⟨t', rfl⟩ := ry; exact PySem.EqMixed.eq_bool_str (fin_bl I q (by simp))
    | _ => exact absurd (show false = true from hs) Bool.false_ne_true
  | int i =>
    obtain ⟨t, rfl⟩ := rx
    cases y with
    | non => cases ry; exact PySem.EqNone.eq_int_none (fin_bl I q (by simp))
    | int j => obtain ⟨t', rfl⟩ := ry; exact eq_int (fin_bl I q dec_int)
    | str j => obtain ⟨t', rfl⟩ := ry; exact PySem.EqMixed.eq_int_str (fin_bl I q (by simp))
    | _ => exact absurd (show false = true from hs) Bool.false_ne_true
  | str i =>
    obtain ⟨t, rfl⟩ := rx
    cases y with
    | non => cases ry; exact PySem.EqNone.eq_str_none (fin_bl I q (by simp))
    | bl j => cases ry; exact PySem.EqMixed.eq_str_bool (fin_bl I q (by simp))
    | int j => obtain ⟨t', rfl⟩ := ry; exact PySem.EqMixed.eq_str_int (fin_bl I q (by simp))
    | str j => obtain ⟨t', rfl⟩ := ry; exact eq_str (fin_bl I q dec_str)
    | _ => exact absurd (show false = true from hs) Bool.false_ne_true
  | byt i =>
    obtain ⟨t, rfl⟩ := rx
    cases y with
    | byt j => obtain ⟨t', rfl⟩ := ry; exact PySem.W.eq_bytes (fin_bl I q dec_byt)
    | _ => exact absurd (show false = true from hs) Bool.false_ne_true
  | _ => cases y <;> exact absurd (show false = true from hs) Bool.false_ne_true
theorem op_ne : OpR X (compareOp .NotEq) rNe := by
  intro pins s σ H x y v u Q I rx ry h
  obtain ⟨hs, q⟩ := h
  cases x with
  | non =>
    cases rx
    cases y with
    | non => cases ry; exact PySem.EqNone.ne_none_none (fin_bl I q (by simp))
    | bl j => cases ry; exact PySem.EqNone.ne_none_bool (fin_bl I q (by simp))
    | int j => obtain ⟨t', rfl⟩ := ry; exact PySem.EqNone.ne_none_int (fin_bl I q (by simp))
    | str j => obtain ⟨t', rfl⟩ := ry; exact PySem.EqNone.ne_none_str (fin_bl I q (by simp))
    | _ => exact absurd (show false = true from hs) Bool.false_ne_true
  | bl i =>
    cases rx
    cases y with
    | non => cases ry; exact PySem.EqNone.ne_bool_none (fin_bl I q (by simp))
    | bl j => cases ry; exact ne_bool (fin_bl I q (congrArg not dec_bl))
    | str j => obtain ⟨t', rfl⟩ := ry; exact PySem.EqMixed.ne_bool_str (fin_bl I q (by simp))
    | _ => exact absurd (show false = true from hs) Bool.false_ne_true
  | int i =>
    obtain ⟨t, rfl⟩ := rx
    cases y with
    | non => cases ry; exact PySem.EqNone.ne_int_none (fin_bl I q (by simp))
    | int j => obtain ⟨t', rfl⟩ := ry; exact ne_int (fin_bl I q (congrArg not dec_int))
    | str j => obtain ⟨t', rfl⟩ := ry; exact PySem.EqMixed.ne_int_str (fin_bl I q (by simp))
    | _ => exact absurd (show false = true from hs) Bool.false_ne_true
  | str i =>
    obtain ⟨t, rfl⟩ := rx
    cases y with
    | non => cases ry; exact PySem.EqNone.ne_str_none (fin_bl I q (by simp))
    | bl j => cases ry; exact PySem.EqMixed.ne_str_bool (fin_bl I q (by simp))
    | int j => obtain ⟨t', rfl⟩ := ry; exact PySem.EqMixed.ne_str_int (fin_bl I q (by simp))
    | str j => obtain ⟨t', rfl⟩ := ry; exact ne_str (fin_bl I q (congrArg not dec_str))
    | _ => exact absurd (show false = true from hs) Bool.false_ne_true
  | byt i =>
    obtain ⟨t, rfl⟩ := rx
    cases y with
    | byt j => obtain ⟨t', rfl⟩ := ry; exact PySem.W.ne_bytes (fin_bl I q (congrArg not dec_byt))
    | _ => exact absurd (show false = true from hs) Bool.false_ne_true
  | _ => cases y <;> exact absurd (show false = true from hs) Bool.false_ne_true
theorem op_lt : OpR X (compareOp .Lt) (rI0 fun i j => .bl (decide (i < j))) := opB0 fun _ _ _ _ _ _ _ q => lt_int q
theorem op_le : OpR X (compareOp .LtE) (rI0 fun i j => .bl (decide (i ≤ j))) := opB0 fun _ _ _ _ _ _ _ q => le_int q
theorem op_isN : OpR X (compareOp .Is) (fun x y H Q => y = .non ∧ Q (.bl (decide (x = .non))) H) := by
  intro pins s σ H x y v u Q I rx ry h
  obtain ⟨rfl, q⟩ := h
  cases ry
  refine is_none_gen (fin_bl I q ?_)
  cases x <;> first
    | (cases rx; rfl)
    | (obtain ⟨t, rfl⟩ := rx; rfl)
theorem nomark (b : Expr) {op : CmpOp} (h : op ≠ .In := by decide) (h2 : op ≠ .NotIn := by decide) : behindInMarks op b = false := by
  have e1 : (op == CmpOp.In) = false := by cases op <;> first | rfl | exact absurd rfl h
  have e2 : (op == CmpOp.NotIn) = false := by cases op <;> first | rfl | exact absurd rfl h2
  cases b <;> simp [behindInMarks, e1, e2]
theorem pe_cmpR {op : CmpOp} {r : R2} (ho : OpR X (compareOp op) r) (ha : PE X a ta) (hb : PE X b tb) (hm : behindInMarks op b = false) : PE X (.Compare a [op] [b] pos) (tOp r ta tb) := by
  intro pins s σ H Q I h
  exact wpAny_Compare1 (binT ha hb I h fun v u s2 x y H2 I2 rx ry q => ho pins s2 σ H2 x y v u Q I2 rx ry q) hm
noncomputable def tTest (t : TE) : TT := fun σ H Q => t σ H fun x H' => ∃ k, x = .bl k ∧ Q k H'
theorem pt_cmpR {op : CmpOp} {r : R2} (ho : OpR X (compareOp op) r) (ha : PE X a ta) (hb : PE X b tb) (hm : behindInMarks op b = false) : PT X (.Compare a [op] [b] pos) (tTest (tOp r ta tb)) := by
  intro pins s σ H Q I h
  refine wpAny_isTrue_Compare1 (thn (ha pins s σ H _ I h) fun v s1 ⟨x, H1, I1, r1, q1⟩ => thn (hb pins s1 σ H1 _ I1 q1) fun u s2 ⟨y, H2, I2, r2, q2⟩ =>
    thn (ho pins s2 σ H2 x y v u _ I2 r1 r2 q2) fun c s3 ⟨z, H3, I3, r3, k, e, q3⟩ => ?_) hm
  subst e
  cases r3
  exact wpAny_truthy_bool ⟨H3, I3, q3⟩
noncomputable def tChain (r r' : R2) (ta tb tc : TE) : TE := fun σ H Q => ta σ H fun x H1 => tb σ H1 fun y H2 => r x y H2 fun z H3 => ∃ k, z = .bl k ∧
  (if k = true then tc σ H3 fun w' H4 => r' y w' H4 Q else Q (.bl false) H3)
theorem pe_chain {op op' : CmpOp} {r r' : R2} (ho : OpR X (compareOp op) r) (ho' : OpR X (compareOp op') r') (ha : PE X a ta) (hb : PE X b tb) (hc : PE X c tc)
    (hm : lastMarks [op, op'] [b, c] = false := by with_unfolding_all rfl) : PE X (.Compare a [op, op'] [b, c] pos) (tChain r r' ta tb tc) := by
  intro pins s σ H Q I h
  refine Compare_chain (thn (ha pins s σ H _ I h) fun v s1 ⟨x, H1, I1, r1, q1⟩ => chain_link (thn (hb pins s1 σ H1 _ I1 q1) fun u s2 ⟨y, H2, I2, r2, q2⟩ =>
    thn (ho pins s2 σ H2 x y v u _ I2 r1 r2 q2) fun d s3 ⟨z, H3, I3, r3, k, e, q3⟩ => ?_)) hm
  subst e
  cases r3
  refine wpAny_truthy_bool ?_
  cases k with
  | false => exact ite_ff ⟨.bl false, H3, I3, rfl, q3⟩
  | true => exact ite_tt (chain_last (thn (hc pins s3 σ H3 _ I3 q3) fun w' s4 ⟨z', H4, I4, r4, q4⟩ => ho' pins s4 σ H4 y z' u w' Q I4 r2 r4 q4))
theorem pt_chain {op op' : CmpOp} {r r' : R2} (ho : OpR X (compareOp op) r) (ho' : OpR X (compareOp op') r') (ha : PE X a ta) (hb : PE X b tb) (hc : PE X c tc)
    (hm : lastMarks [op, op'] [b, c] = false := by with_unfolding_all rfl) : PT X (.Compare a [op, op'] [b, c] pos) (tTest (tChain r r' ta tb tc)) := by
  intro pins s σ H Q I h
  refine isTrue_chain (thn (ha pins s σ H _ I h) fun v s1 ⟨x, H1, I1, r1, q1⟩ => test_link (thn (hb pins s1 σ H1 _ I1 q1) fun u s2 ⟨y, H2, I2, r2, q2⟩ =>
    thn (ho pins s2 σ H2 x y v u _ I2 r1 r2 q2) fun d s3 ⟨z, H3, I3, r3, k, e, q3⟩ => ?_)) hm
  subst e
  cases r3
  refine wpAny_truthy_bool ?_
  cases k with
  | false =>
    obtain ⟨k', e', q'⟩ := q3
    cases e'
    exact ite_ff ⟨H3, I3, q'⟩
  | true =>
    refine ite_tt (test_last (thn (hc pins s3 σ H3 _ I3 q3) fun w' s4 ⟨z', H4, I4, r4, q4⟩ => thn (ho' pins s4 σ H4 y z' u w' _ I4 r2 r4 q4) fun d' s5 ⟨z2, H5, I5, r5, k2, e2, q5⟩ => ?_))
    subst e2
    cases r5
    exact wpAny_truthy_bool ⟨H5, I5, q5⟩
noncomputable def TruV (K : PySem.W.Frag) (x : V) (H : Hp) (k : Bool) : Prop :=
  match x with
  | .non => k = false
  | .bl b => k = b
  | .int i => k = (i != 0)
  | .str y => y.length ≤ sizeLine ∧ k = ((y.length : Int) != 0)
  | .byt y => y.size ≤ sizeLine ∧ k = ((y.size : Int) != 0)
  | .ref p => (∃ xs, SqL K H p xs ∧ k = !xs.isEmpty) ∨ (∃ xs, SqT K H p xs ∧ k = !xs.isEmpty) ∨ ∃ kvs, H p = some (.dK kvs) ∧ k = !kvs.isEmpty
  | _ => False
theorem isEmpty_kv {κ : Type} {kvs : List (κ × V)} {vs : List (κ × Value)} (r : KV kvs vs) : (!vs.isEmpty) = !kvs.isEmpty := by
  cases r <;> rfl
theorem isEmpty_of {xs : List V} {its : List Value} (r : Vals xs its) : (!its.toArray.isEmpty) = !xs.isEmpty := by
  cases r <;> simp
theorem line63 : (sizeLine : Nat) < 2 ^ 63 := by rw [sizeLine_eq]; decide
theorem tru_ok : TruR X (fun x H Q => ∃ k, TruV X.K x H k ∧ Q k H) := by
  intro pins s σ H x v Q I rx h
  obtain ⟨k, e, q⟩ := h
  have hl := line63
  have hs : sizeLine = 16777216 := sizeLine_eq
  cases x with
  | non =>
    cases rx
    have e' : k = false := e
    subst e'
    exact truthy_none ⟨H, I, q⟩
  | bl b =>
    cases rx
    have e' : k = b := e
    subst e'
    exact wpAny_truthy_bool ⟨H, I, q⟩
  | int i =>
    obtain ⟨t, rfl⟩ := rx
    have e' : k = (i != 0) := e
    subst e'
    exact PySem.P.truthy_int ⟨H, I, q⟩
  | str y =>
    obtain ⟨t, rfl⟩ := rx
    obtain ⟨hy, e'⟩ : y.length ≤ sizeLine ∧ k = ((y.length : Int) != 0) := e
    subst e'
    exact PySem.P.truthy_str (by omega) ⟨H, I.tok _, q⟩
  | byt y =>
    obtain ⟨t, rfl⟩ := rx
    obtain ⟨hy, e'⟩ : y.size ≤ sizeLine ∧ k = ((y.size : Int) != 0) := e
    subst e'
    exact PySem.W.truthy_bytes (by omega) ⟨H, I.tok _, q⟩
  | ref p =>
    cases rx
    have e' : (∃ xs, SqL X.K H p xs ∧ k = !xs.isEmpty) ∨ (∃ xs, SqT X.K H p xs ∧ k = !xs.isEmpty) ∨ ∃ kvs, H p = some (.dK kvs) ∧ k = !kvs.isEmpty := e
    rcases e' with ⟨xs, hx, e'⟩ | ⟨xs, hx, e'⟩ | ⟨kvs, hx, e'⟩
    · subst e'
      obtain ⟨its, r, pl, hz⟩ := I.list hx
      have hlen := r.length
      exact wpAny_truthy_list pl.isList (by simp only [List.size_toArray]; omega) ⟨H, I.tok _, by rw [isEmpty_of r]; exact q⟩
    · subst e'
      obtain ⟨its, r, pl, hz⟩ := I.tuple hx
      have hlen := r.length
      exact truthy_tuple pl (by simp only [List.size_toArray]; omega) ⟨H, I.tok _, by rw [isEmpty_of r]; exact q⟩
    · subst e'
      obtain ⟨hz, hS, vs, r, m⟩ : kvs.length ≤ sizeLine ∧ (p == sysModules) = false ∧ ∃ vs, KV kvs vs ∧ s.heap.DictOf (mixKind X.prog X.w) p vs := I.hok p _ hx
      have hlen : kvs.length = vs.length := Paired.length r
      exact wpAny_truthy_dict hS m (by omega) ⟨H, I.tok _, by rw [isEmpty_kv r]; exact q⟩
  | _ => exact (show False from e).elim
theorem pt_truth (ha : PE X a ta) (he : ∀ whole, isTrue a X.env whole = (do let v ← whole; standAt a.pos; holding [v] (truthy v))) :
    PT X a (fun σ H Q => ta σ H fun x H' => ∃ k, TruV X.K x H' k ∧ Q k H') := by
  intro pins s σ H Q I h
  exact isTrue_plain (thn (ha pins s σ H _ I h) fun v s1 ⟨x, H1, I1, r1, q1⟩ => tru_ok pins s1 σ H1 x v Q I1 r1 q1) (he _)
theorem op_add_str : OpR X (binaryOp .Add) (fun x y H Q => ∃ i j, x = .str i ∧ y = .str j ∧ i.length + j.length ≤ sizeLine ∧ Q (.str (i ++ j)) H) := by
  intro pins s σ H x y v u Q I rx ry h
  obtain ⟨i, j, rfl, rfl, hz, q⟩ := h
  obtain ⟨t, rfl⟩ := rx
  obtain ⟨t', rfl⟩ := ry
  exact add_str (fun t' tk => ⟨.str (i ++ j), H, I.tok _, ⟨_, rfl⟩, q⟩) hz
theorem vals1 {x : V} {us : List Value} (r : Vals [x] us) : ∃ u, us = [u] ∧ RelV x u := by
  cases r with
  | cons r1 r2 => cases r2; exact ⟨_, rfl, r1⟩
theorem vals2 {x y : V} {us : List Value} (r : Vals [x, y] us) : ∃ u w', us = [u, w'] ∧ RelV x u ∧ RelV y w' := by
  cases r with
  | cons r1 r2 =>
    cases r2 with
    | cons r3 r4 => cases r4; exact ⟨_, _, rfl, r1, r3⟩
theorem call_max2 (hc : X.calm = true) : CallR X (.builtin "max") (fun xs H Q => ∃ i j, xs = [.int i, .int j] ∧ Q (.int (if j > i then j else i)) H) := by
  intro pins s σ H xs us Q I r h
  obtain ⟨i, j, rfl, q⟩ := h
  obtain ⟨u, w', rfl, ⟨t, rfl⟩, ⟨t', rfl⟩⟩ := vals2 r
  refine max_two_ints (I.ok.hd hc) fun h' tk k => ⟨_, H, I.kept k, ?_, q⟩
  by_cases hj : j > i
  · rw [if_pos hj, if_pos hj]; exact ⟨_, rfl⟩
  · rw [if_neg hj, if_neg hj]; exact ⟨_, rfl⟩
theorem call_min2 (hc : X.calm = true) : CallR X (.builtin "min") (fun xs H Q => ∃ i j, xs = [.int i, .int j] ∧ Q (.int (if j < i then j else i)) H) := by
  intro pins s σ H xs us Q I r h
  obtain ⟨i, j, rfl, q⟩ := h
  obtain ⟨u, w', rfl, ⟨t, rfl⟩, ⟨t', rfl⟩⟩ := vals2 r
  refine min_two_ints (I.ok.hd hc) fun h' tk k => ⟨_, H, I.kept k, ?_, q⟩
  by_cases hj : j < i
  · rw [if_pos hj, if_pos hj]; exact ⟨_, rfl⟩
  · rw [if_neg hj, if_neg hj]; exact ⟨_, rfl⟩
end
end L2
namespace L2
open PySem PySem.Spec PyProof.Rows
structure ObjM (h : Heap) (x dx C : Addr) (mA : Str → Option Value) : Prop where
  obj : h.get? x = some (PySem.W.instObj C dx)
  ns : h.Ns1 dx mA
  ne : dx ≠ x
theorem lookIn_ns {h : Heap} {dx : Addr} {mA : Str → Option Value} (n : h.Ns1 dx mA) : ∃ od, h.get? dx = some od ∧ ∀ name, PySem.W.lookIn name od = some (mA name) := by
  obtain ⟨o, es, ep, ho, hd, hk, _, hm⟩ := n
  refine ⟨o, ho, fun name => ?_⟩
  have e := hm name
  unfold nsFind findBy at e
  rw [← Array.find?_toList] at e
  unfold PySem.W.lookIn
  rw [hd]
  dsimp only
  split
  · rename_i y q
    rw [q] at e
    exact congrArg some e
  · rename_i q
    rw [q] at e
    have a : es.toList.any (·.refKey) = false := by
      rw [List.any_eq_false]
      intro y hy
      obtain ⟨z, t, hkey⟩ := hk y (Array.mem_toList_iff.mp hy)
      simp [DictEntry.refKey, hkey]
    have a' : ¬ es.toList.any (·.refKey) = true := by rw [a]; exact Bool.false_ne_true
    rw [if_neg a']
    exact congrArg some e
theorem ObjM.look {h : Heap} {x dx C : Addr} {mA : Str → Option Value} (I : ObjM h x dx C mA) : ∃ od, PySem.W.InstAt h x (PySem.W.instObj C dx) C (some od) ∧ ∀ name, PySem.W.lookIn name od = some (mA name) :=
  let ⟨od, ho, hl⟩ := lookIn_ns I.ns
  ⟨od, ⟨I.obj, rfl, rfl, ho⟩, hl⟩
section
variable {prog : Program} {w : World} {A : Around} {E : Value → Shared → Prop} {s : Shared} {K : PySem.W.Frag} {x dx C f : Addr} {mA : Str → Option Value} {name : Str} {v : Value}
end
section
variable {P : Program} {w : World} {H H' : Hp} {h h' : Heap} {a C dx : Addr} {fs fs' : List (Str × V)}
theorem ins_get (hok : HOk P w H h) (e : H a = some (.ins C dx fs)) : ∃ mA, ObjM h a dx C mA ∧ (∀ f, RelO (fs.lookup f) (mA f)) ∧ PySem.Within mA (fs.map (·.1)) ∧ fs.length ≤ 1000 ∧ H dx = some (.own a) := by
  obtain ⟨d, z, ne, ob, mA, n, r, q⟩ := (show ObjOk P w H h a (.ins C dx fs) from hok a _ e)
  exact ⟨mA, ⟨ob, n, ne⟩, r, q, z, d⟩
end
structure Cls (K : PySem.W.Frag) (C : Addr) : Prop where
  pg : PySem.W.plainGet K C Str.empty = true
  hd : PySem.W.hasDictIn K C = true
  po : PySem.W.plainOver K C = true
  sa : PySem.W.findIn K (.ref C) "__setattr__" = some (some (.builtin "object.__setattr__"))
theorem Cls.get {K : PySem.W.Frag} {C : Addr} (c : Cls K C) (f : Str) : PySem.W.plainGet K C f = true := c.pg
section
variable {X : Cx} {pins : List (Addr × Obj)} {σ : St} {H : Hp} {s : Shared} {a C dx : Addr} {fs : List (Str × V)} {f : Str} {v : V} {A : Around} {E : Value → Shared → Prop}
end
section
variable {X : Cx} {o e value : Expr} {f : Str} {pos pos' tpos : Pos} {ta tv : TE}
end
section
variable {X : Cx} {pins : List (Addr × Obj)} {σ : St} {H : Hp} {s : Shared} {A : Around} {E : Value → Shared → Prop} {Q : Value → Shared → Prop} {c : Value} {b : Bool}
inductive TyOf (K : PySem.W.Frag) (H : Hp) : V → Value → Prop where
  | non : TyOf K H .non (.type "NoneType")
  | bl (x : Bool) : TyOf K H (.bl x) (.type "bool")
  | int (i : Int) : TyOf K H (.int i) (.type "int")
  | str (x : Str) : TyOf K H (.str x) (.type "str")
  | flt (x : UInt64) : TyOf K H (.flt x) (.type "float")
  | lst {a : Addr} {xs : List V} (e : H a = some (.lst xs)) : TyOf K H (.ref a) (.type "list")
  | frz {a : Addr} {o : Obj} {xs : List V} (e : H a = some (.frz o (.lst xs))) : TyOf K H (.ref a) (.type "list")
  | tup {a : Addr} {xs : List V} (e : H a = some (.tup xs)) : TyOf K H (.ref a) (.type "tuple")
  | dK {a : Addr} {kvs : List (Key × V)} (e : H a = some (.dK kvs)) : TyOf K H (.ref a) (.type "dict")
  | dT {a : Addr} {kvs : List (List Key × V)} (e : H a = some (.dT kvs)) : TyOf K H (.ref a) (.type "dict")
  | ins {a C dx : Addr} {fs : List (Str × V)} (e : H a = some (.ins C dx fs)) (cl : Cls K C) (ha : PySem.W.findIn K (.ref C) "__class__" = some (some (.builtin "object.__class__")))
      (hn : PySem.W.specialIn K (.builtin "object.__class__") "__get__" = some (some (.builtin "getset_descriptor.__get__"))) (htk : PySem.W.takesIn K (.builtin "object.__class__") = some true)
      (hm : PySem.W.mroIn K C (.type "object") = some true) : TyOf K H (.ref a) (.ref C)
theorem isinst_ok {x : V} {u t : Value} (I : Inv X pins σ H s) (rx : RelV x u) (ty : TyOf X.K H x t) (e : PySem.W.kitOne X.K t c = some b) (h : ∀ tk, Q (.bool b) { s with toks := tk }) :
    wpAny (model X.prog X.w) A (call (.builtin "isinstance") [u, c]) Q E s := by
  cases ty with
  | non => cases (show u = Value.none from rx); exact PySem.W.kia_one PySem.W.kitx_none I.kIn True.intro e (fun z => nomatch z) h
  | bl y => cases (show u = Value.bool y from rx); exact PySem.W.kia_one PySem.W.kitx_bool I.kIn True.intro e (fun z => nomatch z) h
  | int i => obtain ⟨t, q⟩ := (show ∃ t, u = Value.int i t from rx); cases q; exact PySem.W.kia_one PySem.W.kitx_int I.kIn True.intro e (fun z => nomatch z) h
  | str y => obtain ⟨t, q⟩ := (show ∃ t, u = Value.str y t from rx); cases q; exact PySem.W.kia_one PySem.W.kitx_str I.kIn True.intro e (fun z => nomatch z) h
  | flt y => obtain ⟨t, q⟩ := (show ∃ t, u = Value.float y t from rx); cases q; exact PySem.W.kia_one PySem.W.kitx_float I.kIn True.intro e (fun z => nomatch z) h
  | @lst a xs ea =>
    cases (show u = Value.ref a from rx)
    obtain ⟨_, _, n, _, h1⟩ := (show ObjOk X.prog X.w H s.heap a (.lst xs) from I.hok a _ ea)
    exact PySem.W.kia_one PySem.W.kitx_list I.kIn ⟨_, h1, rfl⟩ e (fun z => nomatch z) h
  | @frz a ob xs ea =>
    cases (show u = Value.ref a from rx)
    obtain ⟨_, _, _, n, _, h1⟩ := (show ObjOk X.prog X.w H s.heap a (.frz ob (.lst xs)) from I.hok a _ ea)
    exact PySem.W.kia_one PySem.W.kitx_list I.kIn ⟨_, h1, rfl⟩ e (fun z => nomatch z) h
  | @tup a xs ea =>
    cases (show u = Value.ref a from rx)
    obtain ⟨_, _, _, p⟩ := (show ObjOk X.prog X.w H s.heap a (.tup xs) from I.hok a _ ea)
    obtain ⟨o, h1, h2, _⟩ := p
    exact PySem.W.kia_one PySem.W.kitx_tuple I.kIn ⟨o, h1, h2⟩ e (fun z => nomatch z) h
  | @dK a kvs ea =>
    cases (show u = Value.ref a from rx)
    obtain ⟨_, _, vs, _, p⟩ := (show ObjOk X.prog X.w H s.heap a (.dK kvs) from I.hok a _ ea)
    obtain ⟨o, es, ep, h1, h2, _⟩ := p
    exact PySem.W.kia_one PySem.W.kitx_dict I.kIn ⟨o, h1, h2.1⟩ e (fun z => nomatch z) h
  | @dT a kvs ea =>
    cases (show u = Value.ref a from rx)
    obtain ⟨_, _, xs, _, o, es, ep, h1, h2, _⟩ := (show ObjOk X.prog X.w H s.heap a (.dT kvs) from I.hok a _ ea)
    exact PySem.W.kia_one PySem.W.kitx_dict I.kIn ⟨o, h1, h2.1⟩ e (fun z => nomatch z) h
  | @ins a C dx fs ea cl ha hn htk hm =>
    cases (show u = Value.ref a from rx)
    obtain ⟨mA, O, _⟩ := ins_get I.hok ea
    obtain ⟨od, J, _⟩ := O.look
    exact PySem.W.kia_one (PySem.W.kitx_own (cl.get _) cl.hd ha hn htk hm) I.kIn J e (fun z => nomatch z) h
end
end L2
namespace L2
open PySem PySem.Spec PyProof.Rows
structure Room (k : Nat) (A : Around) : Prop where
  hd : A.handled = none
  dp : A.depth + 3 * k + 5 < recursionLimit
  un : A.units + 16 * k + 200 < cLine
theorem Room.mono {j k : Nat} {A : Around} (r : Room k A) (h : j ≤ k) : Room j A := ⟨r.hd, by have := r.dp; omega, by have := r.un; omega⟩
theorem Room.deeper {k : Nat} {A : Around} (r : Room (k + 1) A) (env : Env) : Room k (A.deeper env) :=
  ⟨r.hd, by have := r.dp; show A.depth + 1 + 3 * k + 5 < _; omega, by have := r.un; show A.units + 3 + 16 * k + 200 < _; omega⟩
theorem Room.depth {k : Nat} {A : Around} (r : Room k A) : A.depth < recursionLimit := by have := r.dp; omega
theorem Room.units {k : Nat} {A : Around} (r : Room k A) : A.units + 64 < cLine := by have := r.un; omega
noncomputable def tNil : TA := fun _ H Q => Q [] H
noncomputable def tCons (ta : TE) (tr : TA) : TA := fun σ H Q => ta σ H fun x H1 => tr σ H1 fun xs H2 => Q (x :: xs) H2
section
variable {X : Cx} {e : Expr} {es : List Expr} {te : TE} {t : TA} {pos : Pos}
theorem pa_nil : PA X [] tNil := fun _ _ _ _ H Q I h => Calls.spliced_nil ⟨[], H, I, .nil, h⟩
theorem pa_cons (ha : PE X e te) (hr : PA X es t) (hs : starEach (e :: es) X.env = (false, eval e X.env) :: starEach es X.env := by rfl) : PA X (e :: es) (tCons te t) := by
  intro pos pins s σ H Q I h
  rw [hs]
  show wpAny _ _ (spliced ((false, eval e X.env) :: backTo pos (starEach es X.env))) _ _ s
  refine Calls.spliced_cons (thn (ha pins s σ H _ I h) fun u s1 ⟨x, H1, I1, r1, q1⟩ => ?_)
  exact thn (hr pos pins s1 σ H1 _ I1 q1) fun us s2 ⟨xs, H2, I2, r2, q2⟩ => ⟨x :: xs, H2, I2, .cons r1 r2, q2⟩
noncomputable def tTup (t : TA) : TE := fun σ H Q => t σ H fun xs H1 => xs.length ≤ sizeLine ∧ ∀ p, H1 p = none → Q (.ref p) (upd H1 p (.tup xs))
noncomputable def tLst (t : TA) : TE := fun σ H Q => t σ H fun xs H1 => xs.length ≤ sizeLine ∧ ∀ p, H1 p = none → Q (.ref p) (upd H1 p (.lst xs))
theorem pe_tup {x1} (h : PA X es t) : PE X (.Tuple es x1 pos) (tTup t) := by
  intro pins s σ H Q I hq
  refine wpAny_Tuple_spliced (thn (h pos pins s σ H _ I hq) fun us s1 ⟨xs, H1, I1, r, z, q⟩ => ⟨by rw [← r.length]; exact z, ?_⟩)
  have hf : H1 s1.heap.objs.size = none := I1.hok.fresh (Nat.le_refl _)
  refine ⟨.ref s1.heap.objs.size, upd H1 s1.heap.objs.size (.tup xs), I1.laid (t' := s1.toks) (fun b u e => Heap.get?_push_of_some _ e) (Nat.le_refl _) ?_, rfl, q _ hf⟩
  exact ⟨z, us, r, ⟨_, Heap.get?_push_size _ rfl, rfl, _, rfl⟩⟩
theorem pe_lst (h : PA X es t) : PE X (.List es pos) (tLst t) := by
  intro pins s σ H Q I hq
  refine wpAny_List_spliced (thn (h pos pins s σ H _ I hq) fun us s1 ⟨xs, H1, I1, r, z, q⟩ => ⟨by rw [← r.length]; exact z, ?_⟩)
  have hf : H1 s1.heap.objs.size = none := I1.hok.fresh (Nat.le_refl _)
  refine ⟨.ref s1.heap.objs.size, upd H1 s1.heap.objs.size (.lst xs), I1.laid (t' := s1.toks) (fun b u e => Heap.get?_push_of_some _ e) (Nat.le_refl _) ?_, rfl, q _ hf⟩
  exact ⟨z, us, 0, r, Heap.get?_push_size _ rfl⟩
end
noncomputable abbrev Sp := List V → Hp → VK → XK → Prop
noncomputable abbrev CXT := List Env → Hp → Shared → XK → Value → Shared → Prop
structure Env0 (P : Program) (w : World) (K : PySem.W.Frag) (mg : Str → Option Value) (base : Heap) (A : Around) (outer : List Env) (s : Shared) (H : Hp) : Prop where
  frames : A.frames = some outer
  mod : Mod K mg base
  bs : ∀ b o, base.get? b = some o → s.heap.get? b = some o ∧ H b = none
  bsz : base.objs.size ≤ s.heap.objs.size
  funs : s.heap.FunFrames base outer
  frf : ∀ b ∈ frs outer, H b = none
  hok : HOk P w H s.heap
  bare : AllBare s.gens
noncomputable def CE (outer : List Env) (P : Program) (w : World) (H : Hp) (s : Shared) (Q : VK) (u : Value) (s' : Shared) : Prop :=
  ∃ v H', s'.os = s.os ∧ AllBare s'.gens ∧ Un (frs outer) [] H H' s.heap s'.heap ∧ HOk P w H' s'.heap ∧ RelV v u ∧ Q v H'
noncomputable def CR (CX : CXT) (outer : List Env) (P : Program) (w : World) (H : Hp) (s : Shared) (Q : VK) (E : XK) (r : Result) (s' : Shared) : Prop :=
  match r with
  | .ok (.ret u) => CE outer P w H s Q u s'
  | .ok _ => False
  | .error e => CX outer H s E e s'
structure FnOk (P : Program) (w : World) (K : PySem.W.Frag) (mg : Str → Option Value) (base : Heap) (CX : CXT) (k : Nat) (f : Addr) (fd : FuncData) (ps : List Str) (sp : Sp) : Prop where
  len : ∀ vs H Q E, sp vs H Q E → vs.length = ps.length
  run : ∀ (A : Around) (outer : List Env) (s : Shared) (H : Hp) (args : Args) (us : List Value) (vs : List V) (Q : VK) (E : XK), Room k A → Env0 P w K mg base A outer s H → BindsTo s fd args (ps.zip us) → Vals vs us → sp vs H Q E →
    codeAny (model P w) A (.call (.ref f) args) (CR CX outer P w H s Q E) s
section
variable {X : Cx} {pins : List (Addr × Obj)} {σ : St} {H : Hp} {s s' : Shared}
theorem Inv.env0 (I : Inv X pins σ H s) : Env0 X.prog X.w X.K X.mg X.base X.A X.stack s H :=
  ⟨I.ok.frames, I.ok.mod, I.bs, Nat.le_trans I.ok.bsz I.sz, I.stack, I.stkFree, I.hok, I.bare⟩
theorem Inv.after {Q : VK} {u : Value} (I : Inv X pins σ H s) (h : CE X.stack X.prog X.w H s Q u s') : EP X pins σ Q u s' := by
  obtain ⟨v, H', os, bare, un, hok, r, q⟩ := h
  obtain ⟨hh, g, d, t, os'⟩ := s'
  obtain rfl : os' = s.os := os
  exact ⟨v, H', I.call (h' := hh) (g' := g) (d' := d) (t' := t) (ch := []) un hok bare (fun b z => absurd z (by simp)), r, q⟩
end
noncomputable def tCall (sp : Sp) (dvs : List V) (E : XK) (t : TA) : TE := fun σ H Q => t σ H fun vs H1 => sp (vs ++ dvs) H1 Q E
noncomputable def Binds (K : PySem.W.Frag) (fd : FuncData) (ps : List Str) (ds : List Value) : Prop :=
  ∀ (s : Shared) (us : List Value), K.In s.heap → (us ++ ds).length = ps.length → BindsTo s fd ⟨us, []⟩ (ps.zip (us ++ ds))
theorem Binds.all {K : PySem.W.Frag} {fd : FuncData} {ps : List Str} (h : ∀ us : List Value, us.length = ps.length → bindArgs fd ⟨us, []⟩ = pure (ps.zip us)) : Binds K fd ps [] := fun s us _ hl => by
  rw [List.append_nil] at hl ⊢
  exact .of_eq (h us hl)
noncomputable def Passes (CX : CXT) (X : Cx) (E : XK) : Prop := ∀ (pins : List (Addr × Obj)) (σ : St) (H : Hp) (s : Shared) (e : Value) (s' : Shared), Inv X pins σ H s → CX X.stack H s E e s' → X.xe e s'
section
variable {X : Cx} {CX : CXT} {k : Nat} {f C : Addr} {fd : FuncData} {ps : List Str} {sp : Sp} {dvs : List V} {ds : List Value} {E : XK} {x m : Str} {p pos apos : Pos} {e o : Expr} {es : List Expr} {ta : TE} {t : TA}
theorem run_fn {pins : List (Addr × Obj)} {σ : St} {H : Hp} {s : Shared} {Q : VK} {us : List Value} {vs : List V} (F : FnOk X.prog X.w X.K X.mg X.base CX k f fd ps sp) (hr : Room k X.A) (hb : Binds X.K fd ps ds) (hd : Vals dvs ds) (hx : Passes CX X E)
    (I : Inv X pins σ H s) (r : Vals vs us) (h : sp (vs ++ dvs) H Q E) : wpAny (model X.prog X.w) X.A (call (.ref f) us) (EP X pins σ Q) X.xe s := by
  have r2 : Vals (vs ++ dvs) (us ++ ds) := r.append hd
  have hl : (us ++ ds).length = ps.length := by rw [← r2.length]; exact F.len _ _ _ _ h
  refine wpAny_call (codeAny_mono (F.run X.A X.stack s H ⟨us, []⟩ (us ++ ds) (vs ++ dvs) Q E hr I.env0 (hb s us I.kIn hl) r2 h) fun r s' hq => ?_)
  cases r with
  | error e => exact hx pins σ H s e s' I hq
  | ok fl =>
    cases fl with
    | ret u => exact I.after hq
    | next => exact False.elim hq
    | brk => exact False.elim hq
    | cont => exact False.elim hq
theorem pe_call (F : FnOk X.prog X.w X.K X.mg X.base CX k f fd ps sp) (hr : Room k X.A) (hg : Gl X x) (hm : X.mg x = some (.ref f)) (hk : PySem.W.keepIn X.K (.ref f) = true) (hb : Binds X.K fd ps ds) (hd : Vals dvs ds) (hx : Passes CX X E)
    (ha : PA X (e :: es) t) (hdb : (x == ("__debug__" : Str)) = false := by decide) (he : starEach (e :: es) X.env = (false, eval e X.env) :: starEach es X.env := by rfl) (hpl : (backTo pos (starEach es X.env)).any (·.1) = false := by rfl) :
    PE X (.Call (.Name x p) (e :: es) [] pos) (tCall sp dvs E t) := by
  intro pins s σ H Q I h
  refine wpAny_Call_Name_kw (ld_glob I hg hm ?_ hdb)
  refine PySem.W.callWith_K (h₀ := X.base) I.ok.mod.kin hk (thn (ha pos pins s σ H _ I h) fun us s1 ⟨vs, H1, I1, r, q⟩ => ⟨I1.kIn, ?_⟩) he hpl
  exact run_fn F hr hb hd hx I1 r q
end
section
variable {X : Cx} {CX : CXT} {k : Nat} {f C : Addr} {fd : FuncData} {ps ks : List Str} {sp : Sp} {E : XK} {x m : Str} {p pos apos kpos : Pos} {e o : Expr} {es : List Expr} {kws : List Keyword} {te ta : TE} {t tk : TA} {nm : Option Str}
variable {g : List Value → List Value → List Value} {gV : List V → List V → List V}
end
structure FnScope (N P : List Str) (sc : Scope) : Prop where
  kind : sc.kind = .function
  co : sc.isCoroutine = false
  gen : sc.isGenerator = false
  nd : N.Nodup
  pre : N.take P.length = P
  par : ∀ x ∈ P, sc.names.lookup x = some .local ∨ sc.names.lookup x = some .cell
  nofree : ∀ y ∈ sc.names, y.2 ≠ .free
theorem bindL_out {kindOf : Str → Option NameKind} {x : Str} : ∀ {binds : List (Str × Value)} {m : Str → Option Value}, (∀ v, (x, v) ∉ binds) → bindL kindOf binds m x = m x
  | [], _, _ => rfl
  | (n, v) :: r, m, h => by
    unfold bindL
    rw [bindL_out fun w hw => h w (List.mem_cons_of_mem _ hw)]
    split
    · have : x ≠ n := by rintro rfl; exact h v List.mem_cons_self
      simp [this]
    · rfl
theorem bindC_out {kindOf : Str → Option NameKind} {x : Str} : ∀ {binds : List (Str × Value)} {m : Str → Option Value}, (∀ v, (x, v) ∉ binds) → bindC kindOf binds m x = m x
  | [], _, _ => rfl
  | (n, v) :: r, m, h => by
    unfold bindC
    rw [bindC_out fun w hw => h w (List.mem_cons_of_mem _ hw)]
    split
    · rfl
    · have : x ≠ n := by rintro rfl; exact h v List.mem_cons_self
      simp [this]
theorem bindL_get {kindOf : Str → Option NameKind} {x : Str} {v : Value} : ∀ {P : List Str} {vs : List Value} {i : Nat} {m : Str → Option Value}, P.Nodup → P[i]? = some x → vs[i]? = some v → kindOf x = some .local →
    bindL kindOf (P.zip vs) m x = some v
  | [], _, _, _, _, h, _, _ => by simp at h
  | _ :: _, [], _, _, _, _, h, _ => by simp at h
  | p :: P, w :: vs, 0, m, nd, h1, h2, hk => by
    simp at h1 h2; subst h1; subst h2
    show bindL kindOf ((p, w) :: P.zip vs) m p = _
    unfold bindL
    rw [bindL_out fun v hv => (List.nodup_cons.mp nd).1 (List.of_mem_zip hv).1, if_pos hk]
    simp
  | p :: P, w :: vs, i + 1, m, nd, h1, h2, hk => by
    show bindL kindOf ((p, w) :: P.zip vs) m x = _
    unfold bindL
    exact bindL_get (i := i) (List.nodup_cons.mp nd).2 (by simpa using h1) (by simpa using h2) hk
theorem bindC_get {kindOf : Str → Option NameKind} {x : Str} {v : Value} : ∀ {P : List Str} {vs : List Value} {i : Nat} {m : Str → Option Value}, P.Nodup → P[i]? = some x → vs[i]? = some v → kindOf x ≠ some .local →
    bindC kindOf (P.zip vs) m x = some v
  | [], _, _, _, _, h, _, _ => by simp at h
  | _ :: _, [], _, _, _, _, h, _ => by simp at h
  | p :: P, w :: vs, 0, m, nd, h1, h2, hk => by
    simp at h1 h2; subst h1; subst h2
    show bindC kindOf ((p, w) :: P.zip vs) m p = _
    unfold bindC
    rw [bindC_out fun v hv => (List.nodup_cons.mp nd).1 (List.of_mem_zip hv).1, if_neg hk]
    simp
  | p :: P, w :: vs, i + 1, m, nd, h1, h2, hk => by
    show bindC kindOf ((p, w) :: P.zip vs) m x = _
    unfold bindC
    exact bindC_get (i := i) (List.nodup_cons.mp nd).2 (by simpa using h1) (by simpa using h2) hk
noncomputable def start (N : List Str) (vs : List V) : St := vs.map some ++ List.replicate (N.length - vs.length) none
noncomputable def cxOf (CX : CXT) (P : Program) (w : World) (K : PySem.W.Frag) (mg : Str → Option Value) (base : Heap) (N : List Str) (qual : Str) (scope : Scope) (f : Addr) (cd : Value) (A : Around) (outer : List Env) (s : Shared) (H : Hp) (E : XK) : Cx where
  prog := P
  w := w
  K := K
  mg := mg
  base := base
  A := A.deeper (envOfC qual scope s.heap.objs.size f cd)
  N := N
  s₀ := s
  H₀ := H
  env := envOfC qual scope s.heap.objs.size f cd
  outer := outer
  stack := envOfC qual scope s.heap.objs.size f cd :: outer
  ex := []
  calm := true
  fn := fun _ => true
  pn := []
  xe := fun e s' => wpAny (model P w) (A.deeper (envOfC qual scope s.heap.objs.size f cd)) (leaving (envOfC qual scope s.heap.objs.size f cd) e) (fun _ s'' => CX outer H s E e s'') (fun e' s'' => CX outer H s E e' s'') s'
theorem cell_has {sc : Scope} {n : Nat} {x : Str} (h : sc.names.lookup x = some .cell) : ∃ c, (cellsFrom n sc.names []).lookup x = some c := by
  have q := PySem.W.cellsFrom_some sc.names n [] (.inl h)
  exact Option.isSome_iff_exists.mp q
theorem inv_start {CX : CXT} {P : Program} {w : World} {K : PySem.W.Frag} {mg : Str → Option Value} {base : Heap} {N ps : List Str} {qual : Str} {scope : Scope} {f : Addr} {cd : Value} {A : Around} {outer : List Env} {s s1 : Shared} {H : Hp} {E : XK} {us : List Value} {vs : List V}
    (S : FnScope N ps scope) (hd : A.handled = none) (e0 : Env0 P w K mg base A outer s H) (hl : vs.length = ps.length) (r : Vals vs us)
    (x : InCallC s s.heap.objs.size (bindL (envOfC qual scope s.heap.objs.size f cd).kindOf (ps.zip us) fun _ => none) (cellsFrom (s.heap.objs.size + 1) scope.names []) (bindC (envOfC qual scope s.heap.objs.size f cd).kindOf (ps.zip us) fun _ => none) s1) :
    Inv (cxOf CX P w K mg base N qual scope f cd A outer s H E) [] (start N vs) H s1 := by
  have hpl : ps.length ≤ N.length := by have := congrArg List.length S.pre; rw [List.length_take] at this; omega
  obtain ⟨h1, tk, rfl, hk⟩ := x.done
  have noA : ∀ b : Addr, b ∉ (cxOf CX P w K mg base N qual scope f cd A outer s H E).ex := fun b z => absurd (show b ∈ ([] : List Addr) from z) (by simp)
  refine ⟨⟨e0.mod, S.kind, rfl, rfl, Nat.le_refl _, fun y z c h1 h2 => ?_, fun y hy => ?_, fun y c _ h => ?_, fun _ => hd, Around.frames_deeper e0.frames, .inr ⟨rfl, rfl⟩, fun b z => absurd z (noA b), e0.bs, e0.bsz, fun b _ _ => noA b, fun b z => absurd z (noA b), e0.funs, e0.frf⟩,
    rfl, e0.bare, Un.kept hk, ⟨_, x.toInCall.ns, fun i y v h1 h2 h3 => ?_⟩, fun y c h => ⟨_, x.cell y c h⟩, e0.hok.fresh (Nat.le_refl _), fun y c h => ?_, fun p hp => absurd (show p ∈ ([] : List (Addr × Obj)) from hp) (by simp), e0.hok.kept hk, ?_⟩
  · exact name_of_addr x.apart (PySem.mem_of_lookup h1) (PySem.mem_of_lookup h2)
  · have hy : scope.names.lookup y = some .cell ∨ scope.names.lookup y = some .free := hy
    rcases hy with hy | hy
    · exact cell_has hy
    · exact absurd rfl (S.nofree _ (PySem.mem_of_lookup hy))
  · exact Nat.le_of_lt (x.above y c (PySem.mem_of_lookup h))
  · have hi : i < vs.length := by
      unfold start at h2
      by_cases hi : i < vs.length
      · exact hi
      · rw [List.getElem?_append_right (by simpa using hi)] at h2
        rw [List.getElem?_replicate] at h2
        split at h2 <;> cases h2
    have ha : vs[i]? = some v := by
      unfold start at h2
      rw [List.getElem?_append_left (by simpa using hi), List.getElem?_map] at h2
      cases e : vs[i]? with
      | none => rw [e] at h2; cases h2
      | some a => rw [e] at h2; cases h2; rfl
    obtain ⟨u, hu, rv⟩ := r.get ha
    have hp : ps[i]? = some y := by
      rw [← S.pre, List.getElem?_take_of_lt (by omega)]; exact h1
    have ndP : ps.Nodup := by rw [← S.pre]; exact S.nd.sublist (List.take_sublist _ _)
    refine ⟨u, rv, ?_⟩
    rcases S.par y (List.mem_of_getElem? hp) with k | k
    · exact .inl ⟨k, bindL_get ndP hp hu k⟩
    · obtain ⟨c, e⟩ := cell_has (n := s.heap.objs.size + 1) k
      refine .inr ⟨.inl k, c, e, ?_⟩
      have q := x.cell y c e
      rw [bindC_get ndP hp hu (by show scope.names.lookup y ≠ _; rw [k]; decide)] at q
      exact q
  · exact e0.hok.fresh (Nat.le_of_lt (x.above y c (PySem.mem_of_lookup h)))
  · unfold start
    show _ = N.length
    rw [List.length_append, List.length_map, List.length_replicate]
    omega
theorem fn_of {CX : CXT} {P : Program} {w : World} {K : PySem.W.Frag} {mg : Str → Option Value} {base : Heap} {k : Nat} {f : Addr} {name qual : Str} {params : Arguments} {body : List Stmt} {scope : Scope} {dV kV doc pm cdv ct oc : Value} {an od : Option Addr}
    {osl : Array (Option Value)} {N ps : List Str} {sp : Sp} (lk : K.lookup f = some ⟨oc, od, .func (PySem.W.fnOf name qual params body scope dV kV doc pm an cdv ct), osl⟩) (hcd : PySem.W.codeIn K cdv qual = true) (S : FnScope N ps scope)
    (len : ∀ vs H Q E, sp vs H Q E → vs.length = ps.length)
    (hbody : ∀ (A : Around) (outer : List Env) (s : Shared) (H : Hp) (vs : List V) (Q : VK) (E : XK), Room k (A.deeper (envOfC qual scope s.heap.objs.size f cdv)) → sp vs H Q E →
      ∃ t, PSs (cxOf CX P w K mg base N qual scope f cdv A outer s H E) body t ∧ t { nx := fun _ H' => Q .non H', rt := Q } (start N vs) H) :
    FnOk P w K mg base CX (k + 1) f (PySem.W.fnOf name qual params body scope dV kV doc pm an cdv ct) ps sp := by
  refine ⟨len, fun A outer s H args us vs Q E hr e0 hb r hsp => ?_⟩
  have hl := len _ _ _ _ hsp
  have KX : K.In s.heap := e0.mod.kin.keeps fun b o e => (e0.bs b o e).1
  have lim : s.heap.NoLimit := e0.mod.nolimit.keeps fun b o e => (e0.bs b o e).1
  have hkind : ∀ y ∈ ps.zip us, scope.names.lookup y.1 = some .local ∨ (scope.names.lookup y.1 = some .cell ∧ ((cellsFrom (s.heap.objs.size + 1) scope.names []).lookup y.1).isSome = true) := fun ⟨n, v⟩ hy => by
    rcases S.par n (List.of_mem_zip hy).1 with q | q
    · exact .inl q
    · exact .inr ⟨q, PySem.W.cellsFrom_some _ _ _ (.inl q)⟩
  refine codeAny_call_function hr.depth (KX _ _ lk) rfl S.co S.gen rfl (PySem.W.codeRec_of KX hcd) (hb _ _ _ _ ?_)
  refine wpAny_newFunctionEnv_cells S.kind hkind fun env he s1 x => ?_
  subst he
  refine ⟨lim.keeps x.toInCall.keep, codeAny_func ?_⟩
  obtain ⟨t, ht, hq⟩ := hbody A outer s H vs Q E (hr.deeper _) hsp
  have I : Inv (cxOf CX P w K mg base N qual scope f cdv A outer s H E) [] (start N vs) H s1 := inv_start S hr.hd e0 hl r x
  refine wpAny_mono (ht [] s1 (start N vs) H _ I hq) (fun fl s' hs => ?_) fun e s' hs => hs
  have fin : ∀ {σ' : St} {H' : Hp} {v : V} {u : Value}, Inv (cxOf CX P w K mg base N qual scope f cdv A outer s H E) [] σ' H' s' → RelV v u → Q v H' → CE outer P w H s Q u s' :=
    fun {σ' H' v u} J rv q => ⟨v, H', J.os, J.bare, J.base, J.hok, rv, q⟩
  cases fl with
  | ret u =>
    obtain ⟨v, σ', H', J, rv, q⟩ := hs
    exact fin J rv q
  | next =>
    obtain ⟨σ', H', J, q⟩ := hs
    exact fin (v := V.non) (u := Value.none) J rfl q
  | brk =>
    obtain ⟨_, _, _, q⟩ := hs
    exact False.elim q
  | cont =>
    obtain ⟨_, _, _, q⟩ := hs
    exact False.elim q
end L2
namespace L2
open PySem PySem.Spec PyProof.Rows
section
variable {X : Cx} {x : Str} {p pos : Pos} {e : Expr} {es : List Expr} {t : TA} {id T : String} {r : List V → Hp → VK → Prop}
noncomputable def tCB (r : List V → Hp → VK → Prop) (t : TA) : TE := fun σ H Q => t σ H fun vs H1 => r vs H1 Q
theorem pe_callB (hc : CallR X (.builtin id) r) (hg : Gl X x) (hm : X.mg x = none) (hv : bootBuiltins x = some (.builtin id)) (ha : PA X (e :: es) t) (hn : x ≠ "__name__" := by decide) (hdb : (x == ("__debug__" : Str)) = false := by decide)
    (he : starEach (e :: es) X.env = (false, eval e X.env) :: starEach es X.env := by rfl) (hpl : (backTo pos (starEach es X.env)).any (·.1) = false := by rfl) : PE X (.Call (.Name x p) (e :: es) [] pos) (tCB r t) := by
  intro pins s σ H Q I h
  refine wpAny_Call_Name_kw (ld_blt I hg hm hv ?_ hn hdb)
  exact PyProof.Rows.callWith_builtin1 (thn (ha pos pins s σ H _ I h) fun us s1 ⟨vs, H1, I1, r1, q1⟩ => hc pins s1 σ H1 vs us Q I1 r1 q1) he hpl
theorem pe_callTy (hc : CallR X (.type T) r) (hg : Gl X x) (hm : X.mg x = none) (hv : bootBuiltins x = some (.type T)) (ha : PA X (e :: es) t) (hn : x ≠ "__name__" := by decide) (hdb : (x == ("__debug__" : Str)) = false := by decide)
    (he : starEach (e :: es) X.env = (false, eval e X.env) :: starEach es X.env := by rfl) (hpl : (backTo pos (starEach es X.env)).any (·.1) = false := by rfl) : PE X (.Call (.Name x p) (e :: es) [] pos) (tCB r t) := by
  intro pins s σ H Q I h
  refine wpAny_Call_Name_kw (ld_blt I hg hm hv ?_ hn hdb)
  exact PyProof.Rows.callWith_type1 (thn (ha pos pins s σ H _ I h) fun us s1 ⟨vs, H1, I1, r1, q1⟩ => hc pins s1 σ H1 vs us Q I1 r1 q1) he hpl
end
end L2
namespace HT
open PySem PyProof.Rows
section
open PySem.SeqAt
open PySem.AutoSeq1 (wpAny_loadPart')
open PySem.MeetsSeq PySem.MeetsSeq2 PySem.MeetsSeq3
end
section
variable {prog : Program} {w : World} {A : Around} {E : Value → Shared → Prop} {s : Shared}
theorem cat_tup {t b : Addr} {vs ws : List Value} {Q : Value → Shared → Prop} (ht : IsTup s.heap t vs.toArray) (hb : IsTup s.heap b ws.toArray) (hv : vs ≠ [])
    (h1 : ws = [] → Q (.ref t) s) (h2 : ws ≠ [] → Q (.ref s.heap.objs.size) { s with heap := s.heap.push { cls := .type "tuple", data := .seq (vs ++ ws).toArray } })
    (hsz : vs.length + ws.length ≤ sizeLine) : wpAny (model prog w) A (binaryOp .Add (.ref t) (.ref b)) Q E s := by
  obtain ⟨⟨cls, dd, data, sl⟩, ho, hc, n, hd⟩ := id ht
  obtain ⟨⟨cls2, dd2, data2, sl2⟩, ho2, hc2, n2, hd2⟩ := id hb
  simp only at hc hd hc2 hd2
  subst hc hd hc2 hd2
  have e : vs.toArray ++ ws.toArray = (vs ++ ws).toArray := by simp
  by_cases hw : ws = []
  · exact concat_meets ⟨_, ho, rfl⟩ ⟨_, ho2, rfl⟩ noFill_tuple_add seq_tuple_add PySem.F.slot_tuple_add PySem.F.entry_tuple_add (PySem.F.args_tuple_add_2 _ _)
      (tuple_addW1 t b vs.toArray ws.toArray n n2 dd dd2 sl sl2 (by simpa using hv) (by simp [hw])) ⟨ho, ho2, h1 hw⟩
  · refine concat_meets ⟨_, ho, rfl⟩ ⟨_, ho2, rfl⟩ noFill_tuple_add seq_tuple_add PySem.F.slot_tuple_add PySem.F.entry_tuple_add (PySem.F.args_tuple_add_2 _ _)
      (tuple_addW2 t b vs.toArray ws.toArray n n2 dd dd2 sl sl2 (by simpa using hv) (by simpa using hw) (by rw [List.size_toArray, List.size_toArray]; exact hsz)) ⟨ho, ho2, ?_⟩
    rw [e]
    exact h2 hw
noncomputable def sIx (n d : Nat) : Option Int → Nat
  | none => d
  | some v => if v < 0 then (v + (n : Int)).toNat else min v.toNat n
theorem sIx_le (n d : Nat) (hd : d ≤ n) (o : Option Int) : sIx n d o ≤ n := by
  cases o with
  | none => exact hd
  | some v =>
    show (if v < 0 then (v + (n : Int)).toNat else min v.toNat n) ≤ n
    by_cases hv : v < 0
    · rw [if_pos hv]; omega
    · rw [if_neg hv]; exact Nat.min_le_right _ _
theorem clip_eq (v : Int) (n d : Nat) : (if v < 0 then max (v + (n : Int)) 0 else min v (n : Int)) = ((sIx n d (some v) : Nat) : Int) := by
  show (if v < 0 then max (v + (n : Int)) 0 else min v (n : Int)) = (((if v < 0 then (v + (n : Int)).toNat else min v.toNat n) : Nat) : Int)
  by_cases hv : v < 0
  · simp only [if_pos hv]; omega
  · simp only [if_neg hv]; omega
theorem adjust_gen (lo hi : Option Int) (n : Nat) : Builtin.Slice.sliceAdjust lo hi 1 (n : Int) = (((sIx n 0 lo : Nat) : Int), ((sIx n n hi : Nat) : Int)) := by
  have h1 : ¬ ((1 : Int) < 0) := by omega
  unfold Builtin.Slice.sliceAdjust
  simp only [h1, if_false]
  refine Prod.ext ?_ ?_
  · cases lo with
    | none => rfl
    | some v => exact clip_eq v n 0
  · cases hi with
    | none => rfl
    | some v => exact clip_eq v n n
theorem places_gen (i j : Nat) : Builtin.Slice.slicePlaces (i : Int) (j : Int) 1 = j - i := by
  unfold Builtin.Slice.slicePlaces
  have h1 : (1 : Int) > 0 := by omega
  simp only [h1, if_true, Int.ediv_one]
  split <;> omega
theorem slicePart_ {v : Value} {o : Option Int} {Q : Option Int → Shared → Prop} (p : IsPart v o) (h : Q o s) : wpAny (model prog w) A (Builtin.Slice.slicePartIndex v) Q E s := by
  cases p with
  | none => exact slicePart_none h
  | int i t => exact slicePart_int h
theorem sliceApplied_gen {sl : Addr} {vl vu : Value} {lo hi : Option Int} {n : Nat} {Q : Int × Int × Nat → Shared → Prop} (hs : s.heap.IsSliceOf sl vl vu .none) (pl : IsPart vl lo) (pu : IsPart vu hi)
    (h : Q (((sIx n 0 lo : Nat) : Int), 1, sIx n n hi - sIx n 0 lo) s) : wpAny (model prog w) A (Builtin.Slice.sliceApplied (.ref sl) (pure (n : Int))) Q E s := by
  obtain ⟨os, hos, hcs, hds⟩ := id hs
  unfold Builtin.Slice.sliceApplied Builtin.Slice.sliceFields
  refine wpAny_bind (wpAny_bind (wpAny_field hos hds (x := vl) rfl (wpAny_bind (wpAny_field hos hds (x := vu) rfl (wpAny_bind (wpAny_field hos hds (x := .none) rfl (wpAny_pure ?_)))))))
  refine wpAny_bind (slicePart_none ?_)
  show wpAny _ _ (if ((1 : Int) == 0) = true then _ else _) _ _ s
  rw [if_neg (by decide)]
  refine wpAny_bind (slicePart_ pl (wpAny_bind (slicePart_ pu (wpAny_bind (wpAny_pure ?_)))))
  show wpAny _ _ (match Builtin.Slice.sliceAdjust lo hi 1 (n : Int) with | (lo, hi) => pure (lo, (1 : Int), Builtin.Slice.slicePlaces lo hi 1)) _ _ s
  rw [adjust_gen lo hi n]
  show wpAny _ _ (pure (((sIx n 0 lo : Nat) : Int), (1 : Int), Builtin.Slice.slicePlaces ((sIx n 0 lo : Nat) : Int) ((sIx n n hi : Nat) : Int) 1)) _ _ s
  rw [places_gen]
  exact wpAny_pure h
theorem pick_gen (xs : Array Value) (i k : Nat) : ((List.range k).filterMap fun (m : Nat) => xs[((i : Int) + (m : Int) * 1).toNat]?).toArray = ((xs.toList.drop i).take k).toArray := by
  have e : (fun (m : Nat) => xs[((i : Int) + (m : Int) * 1).toNat]?) = fun m => xs[i + m]? := by
    funext m
    have : ((i : Int) + (m : Int) * 1).toNat = i + m := by omega
    rw [this]
  rw [e]
  have := pick_run xs i k
  rw [List.filterMap_map] at this
  have e2 : ((fun x => xs[x]?) ∘ fun x => i + x) = fun m => xs[i + m]? := rfl
  rw [e2] at this
  rw [this]
theorem getItem_tuple_cut {t sl : Addr} {items : Array Value} {vl vu : Value} {lo hi : Option Int} {Q : Value → Shared → Prop} (ht : IsTup s.heap t items) (hs : s.heap.IsSliceOf sl vl vu .none) (pl : IsPart vl lo) (pu : IsPart vu hi)
    (hw : ¬ (sIx items.size 0 lo = 0 ∧ sIx items.size items.size hi = items.size))
    (h : Q (.ref s.heap.objs.size) { s with heap := s.heap.push { cls := .type "tuple", data := .seq ((items.toList.drop (sIx items.size 0 lo)).take (sIx items.size items.size hi - sIx items.size 0 lo)).toArray } })
    (hsz : items.size ≤ sizeLine) : wpAny (model prog w) A (getItem (.ref t) (.ref sl)) Q E s := by
  have htake : sizeOk (.seq ((items.toList.drop (sIx items.size 0 lo)).take (sIx items.size items.size hi - sIx items.size 0 lo)).toArray) := by
    show ((items.toList.drop (sIx items.size 0 lo)).take (sIx items.size items.size hi - sIx items.size 0 lo)).toArray.size ≤ sizeLine
    rw [List.size_toArray, List.length_take, List.length_drop, Array.length_toList]
    omega
  have hj : sIx items.size items.size hi ≤ items.size := sIx_le _ _ (Nat.le_refl _) hi
  obtain ⟨os, hos, hcs, hds⟩ := id hs
  have hTs : s.TypeIs (.ref sl) "slice" := ⟨os, hos, hcs⟩
  unfold getItem
  try with_reducible refine wpAny_holding ?_
  first | refine wpAny_bind (wpAny_pure ?_) | skip
  refine wpAny_bind (wpAny_sequenceKey ht.typeIs (by decide) ?_)
  refine wpAny_bind (wpAny_callSpecial?_slot (name := Str.ofString "__getitem__") ht.typeIs PyProof.Rows.slot_tuple_getitem
    (wpAny_call_entry PyProof.Rows.slot_tuple_getitem ht.typeIs entry_tuple_getitem ?_ (args_tuple_getitem _ _)))
  show wpAny _ _ (Builtin.Tuple.tupleItemsOf (.ref t) >>= _) _ _ s
  refine wpAny_bind (tupleItemsOf_ ht ?_)
  refine wpAny_bind (wpAny_typeOf hTs ?_)
  rw [if_pos (by decide)]
  refine wpAny_bind (sliceApplied_gen hs pl pu ?_)
  have hno : ¬ ((((sIx items.size 0 lo : Nat) : Int) == 0 && (1 : Int) == 1 && (sIx items.size items.size hi - sIx items.size 0 lo) == items.size) = true) := by
    intro q
    rw [Bool.and_eq_true, Bool.and_eq_true] at q
    have q1 : ((sIx items.size 0 lo : Nat) : Int) = 0 := eq_of_beq q.1.1
    have q2 : sIx items.size items.size hi - sIx items.size 0 lo = items.size := eq_of_beq q.2
    exact hw ⟨by omega, by omega⟩
  show wpAny _ _ (if (((sIx items.size 0 lo : Nat) : Int) == 0 && (1 : Int) == 1 && (sIx items.size items.size hi - sIx items.size 0 lo) == items.size) = true then _ else _) _ _ s
  rw [if_neg hno, pick_gen]
  first
    | exact wpAny_bind (m := Builtin.Tuple.tupleExact _) (wpAny_newObj_type (wpAny_pure ⟨_, rfl, wpAny_pure h⟩) htake)
    | exact wpAny_bind (m := Builtin.Tuple.tupleExact _) (wpAny_newObj_type (wpAny_bind (wpAny_pure (wpAny_pure ⟨_, rfl, wpAny_pure h⟩))) htake)
    | exact wpAny_bind (wpAny_bind (m := Builtin.Tuple.tupleExact _) (wpAny_newObj_type (wpAny_pure (wpAny_pure ⟨_, rfl, wpAny_pure h⟩)) htake))
    | exact wpAny_bind (wpAny_bind (m := Builtin.Tuple.tupleExact _) (wpAny_newObj_type (wpAny_pure ⟨_, rfl, wpAny_pure h⟩) htake))
end
end HT
namespace L2
open PySem PySem.Spec PyProof.Rows
noncomputable abbrev TO := St → Hp → (Option Int → Hp → Prop) → Prop
noncomputable def PO (X : Cx) (e : Option Expr) (t : TO) : Prop :=
  ∀ (pins : List (Addr × Obj)) (s : Shared) (σ : St) (H : Hp) (Q : Option Int → Hp → Prop), Inv X pins σ H s → t σ H Q →
    wpAny (model X.prog X.w) X.A (evalPart e X.env) (fun u s' => ∃ o H', Inv X pins σ H' s' ∧ IsPart u o ∧ Q o H') X.xe s
noncomputable def tNoPart : TO := fun _ H Q => Q none H
noncomputable def tPart (t : TE) : TO := fun σ H Q => t σ H fun x H1 => ∃ i, x = .int i ∧ Q (some i) H1
theorem intsAre_of {ns : List Int} : ∀ {us : List Value}, Vals (ns.map V.int) us → IntsAre us ns := by
  induction ns with
  | nil => intro us r; rw [List.map_nil] at r; cases r; exact .nil
  | cons n ns ih =>
    intro us r
    rw [List.map_cons] at r
    cases r with
    | cons r1 r2 =>
      obtain ⟨t, e⟩ := r1
      subst e
      exact .cons n t (ih r2)
section
variable {X : Cx} {e : Expr} {te : TE} {lo hi : Option Expr} {tl th : TO} {pos p2 : Pos}
theorem po_none : PO X none tNoPart := by
  intro pins s σ H Q I h
  rw [evalPart_none]
  exact wpAny_pure ⟨none, H, I, .none, h⟩
theorem po_some (h : PE X e te) : PO X (some e) (tPart te) := by
  intro pins s σ H Q I hw
  rw [evalPart_some]
  refine thn (h pins s σ H _ I hw) fun u s1 ⟨x, H1, I1, r1, q1⟩ => ?_
  obtain ⟨i, rfl, q⟩ := q1
  obtain ⟨t, rfl⟩ := r1
  exact ⟨some i, H1, I1, .int i t, q⟩
noncomputable def SlR (X : Cx) (r : V → Option Int → Option Int → Hp → VK → Prop) : Prop :=
  ∀ (pins : List (Addr × Obj)) (s : Shared) (σ : St) (H : Hp) (x : V) (v vl vu : Value) (lo hi : Option Int) (sl : Addr) (Q : VK), Inv X pins σ H s → RelV x v → s.heap.IsSliceOf sl vl vu .none → IsPart vl lo → IsPart vu hi → r x lo hi H Q →
    ∃ T id, typeLookup (.type T) "__getitem__" = pure (some (.builtin id)) ∧ s.TypeIs v T ∧ wpAny (model X.prog X.w) X.A (getItem v (.ref sl)) (EP X pins σ Q) X.xe s
theorem SlR.or {r r' : V → Option Int → Option Int → Hp → VK → Prop} (h : SlR X r) (h' : SlR X r') : SlR X (fun x lo hi H Q => r x lo hi H Q ∨ r' x lo hi H Q) := by
  intro pins s σ H x v vl vu lo hi sl Q I rx hs pl pu q
  rcases q with q | q
  · exact h pins s σ H x v vl vu lo hi sl Q I rx hs pl pu q
  · exact h' pins s σ H x v vl vu lo hi sl Q I rx hs pl pu q
noncomputable def tSl (r : V → Option Int → Option Int → Hp → VK → Prop) (te : TE) (tl th : TO) : TE := fun σ H Q => te σ H fun x H1 => tl σ H1 fun l H2 => th σ H2 fun u H3 => r x l u H3 Q
theorem pe_slice {r : V → Option Int → Option Int → Hp → VK → Prop} (hr : SlR X r) (he : PE X e te) (hl : PO X lo tl) (hu : PO X hi th) : PE X (.Subscript e (.Slice lo hi none p2) pos) (tSl r te tl th) := by
  intro pins s σ H Q I h
  refine Subscript_ (thn (he pins s σ H _ I h) fun v s1 ⟨x, H1, I1, r1, q1⟩ => ?_)
  refine wpAny_Slice (thn (hl pins s1 σ H1 _ I1 q1) fun vl s2 ⟨l, H2, I2, pl, q2⟩ => thn (hu pins s2 σ H2 _ I2 q2) fun vu s3 ⟨u, H3, I3, pu, q3⟩ => ?_)
  rw [evalPart_none]
  refine wpAny_pure ?_
  have I4 : Inv X pins σ H3 { s3 with heap := s3.heap.push { cls := .type "slice", data := .fields #[vl, vu, .none] } } := I3.kept (t' := s3.toks) fun b ob q => Heap.get?_push_of_some _ q
  obtain ⟨T, id, hT, ht, hg⟩ := hr pins { s3 with heap := s3.heap.push { cls := .type "slice", data := .fields #[vl, vu, .none] } } σ H3 x v vl vu l u s3.heap.objs.size Q I4 r1 (Heap.IsSliceOf.new ..) pl pu q3
  show wpAny (model X.prog X.w) X.A (subscriptTail e (.Slice lo hi none p2) v (.ref s3.heap.objs.size)) (EP X pins σ Q) X.xe { s3 with heap := s3.heap.push { cls := .type "slice", data := .fields #[vl, vu, .none] } }
  exact tail_any (ops := [.ref s3.heap.objs.size, v]) ht hT hg (by with_unfolding_all rfl)
noncomputable def cutV (xs : List V) (lo hi : Option Int) : List V := (xs.drop (HT.sIx xs.length 0 lo)).take (HT.sIx xs.length xs.length hi - HT.sIx xs.length 0 lo)
theorem cutV_length (xs : List V) (lo hi : Option Int) : (cutV xs lo hi).length ≤ xs.length := by
  unfold cutV
  rw [List.length_take, List.length_drop]
  omega
noncomputable def rSlT (K : PySem.W.Frag) : V → Option Int → Option Int → Hp → VK → Prop := fun x lo hi H Q => ∃ a xs, x = .ref a ∧ SqT K H a xs ∧
  ¬ (HT.sIx xs.length 0 lo = 0 ∧ HT.sIx xs.length xs.length hi = xs.length) ∧ ∀ p, H p = none → Q (.ref p) (upd H p (.tup (cutV xs lo hi)))
theorem sl_tup : SlR X (rSlT X.K) := by
  intro pins s σ H x v vl vu lo hi sl Q I rx hs pl pu h
  obtain ⟨a, xs, rfl, hx, hw, q⟩ := h
  cases rx
  obtain ⟨its, r, ht, hz⟩ := I.tuple hx
  have hlen : its.toArray.size = xs.length := by rw [List.size_toArray]; exact r.length.symm
  refine ⟨"tuple", _, PyProof.Rows.slot_tuple_getitem.lookup, ht.typeIs, ?_⟩
  refine HT.getItem_tuple_cut ht hs pl pu (by rw [hlen]; exact hw) ?_ (by rw [hlen]; exact hz)
  rw [hlen]
  refine ⟨.ref s.heap.objs.size, _, I.laid (t' := s.toks) (o := .tup (cutV xs lo hi)) (fun b ob q => Heap.get?_push_of_some _ q) (Nat.le_refl _) ?_, rfl, q _ (I.hok.fresh (Nat.le_refl _))⟩
  exact ⟨Nat.le_trans (cutV_length xs lo hi) hz, _, (r.drop (HT.sIx xs.length 0 lo)).take (HT.sIx xs.length xs.length hi - HT.sIx xs.length 0 lo), IsTup.new _ _⟩
noncomputable def rCatT (K : PySem.W.Frag) : R2 := fun x y H Q => ∃ a b xs ys, x = .ref a ∧ y = .ref b ∧ SqT K H a xs ∧ SqT K H b ys ∧ xs ≠ [] ∧ xs.length + ys.length ≤ sizeLine ∧
  (ys = [] → Q (.ref a) H) ∧ (ys ≠ [] → ∀ p, H p = none → Q (.ref p) (upd H p (.tup (xs ++ ys))))
theorem Vals.nil_iff {xs : List V} {us : List Value} (r : Vals xs us) : us = [] ↔ xs = [] := by
  cases r with
  | nil => simp
  | cons _ _ => simp
theorem op_catT : OpR X (binaryOp .Add) (rCatT X.K) := by
  intro pins s σ H x y v u Q I rx ry h
  obtain ⟨a, b, xs, ys, rfl, rfl, ha, hb, hx, hz, q1, q2⟩ := h
  cases rx
  cases ry
  obtain ⟨its, r1, p1, _⟩ := I.tuple ha
  obtain ⟨its2, r2, p2, _⟩ := I.tuple hb
  refine HT.cat_tup p1 p2 (fun z => hx (r1.nil_iff.mp z)) (fun z => ⟨.ref a, H, I, rfl, q1 (r2.nil_iff.mp z)⟩) (fun z => ?_) (by rw [← r1.length, ← r2.length]; exact hz)
  refine ⟨.ref s.heap.objs.size, _, I.laid (t' := s.toks) (o := .tup (xs ++ ys)) (fun b ob q => Heap.get?_push_of_some _ q) (Nat.le_refl _) ?_, rfl, q2 (fun w => z (r2.nil_iff.mpr w)) _ (I.hok.fresh (Nat.le_refl _))⟩
  exact ⟨by rw [List.length_append]; exact hz, _, r1.append r2, IsTup.new _ _⟩
end
end L2
namespace L2
open PySem PySem.Spec PyProof.Rows
noncomputable def ixN (n : Nat) (i : Int) : Option Nat := if 0 ≤ i then (if i < n then some i.toNat else none) else if -(n : Int) ≤ i then some (i + n).toNat else none
noncomputable def atI {α : Type} (xs : List α) (i : Int) : Option α := (ixN xs.length i).bind fun j => xs[j]?
theorem ixN_seq {n : Nat} {i : Int} {j : Nat} (h : ixN n i = some j) : seqIndex? i n = some j ∧ j < n ∧ -(n : Int) ≤ i ∧ i < n := by
  unfold ixN at h
  by_cases h0 : 0 ≤ i
  · rw [if_pos h0] at h
    by_cases h1 : i < n
    · rw [if_pos h1] at h
      have e : i.toNat = j := Option.some.inj h
      exact ⟨by rw [seqIndex_of h0 h1, e], by omega, by omega, h1⟩
    · rw [if_neg h1] at h; cases h
  · rw [if_neg h0] at h
    by_cases h1 : -(n : Int) ≤ i
    · rw [if_pos h1] at h
      have e : (i + n).toNat = j := Option.some.inj h
      exact ⟨by rw [seqIndex_neg (by omega) h1, e], by omega, h1, by omega⟩
    · rw [if_neg h1] at h; cases h
theorem atI_get {α : Type} {xs : List α} {i : Int} {v : α} (h : atI xs i = some v) : ∃ j, seqIndex? i xs.length = some j ∧ xs[j]? = some v ∧ j < xs.length ∧ -(xs.length : Int) ≤ i ∧ i < xs.length := by
  unfold atI at h
  cases e : ixN xs.length i with
  | none => rw [e] at h; cases h
  | some j =>
    rw [e] at h
    obtain ⟨h1, h2, h3, h4⟩ := ixN_seq e
    exact ⟨j, h1, h, h2, h3, h4⟩
noncomputable def PlainIx (b : Expr) : Prop := ∀ o i, subscripted b false o i = operate [o, i] (getItem o i)
noncomputable def IxR (X : Cx) (r : R2) : Prop :=
  ∀ (value slice : Expr) (pins : List (Addr × Obj)) (s : Shared) (σ : St) (H : Hp) (x y : V) (v u : Value) (Q : VK), Inv X pins σ H s → RelV x v → RelV y u → r x y H Q →
    subscripted slice false v u = operate [v, u] (getItem v u) → wpAny (model X.prog X.w) X.A (subscriptTail value slice v u) (EP X pins σ Q) X.xe s
noncomputable def MtR (X : Cx) (id : String) (r : V → List V → Hp → VK → Prop) : Prop :=
  ∀ (pins : List (Addr × Obj)) (s : Shared) (σ : St) (H : Hp) (x : V) (xs : List V) (v : Value) (us : List Value) (Q : VK), Inv X pins σ H s → RelV x v → Vals xs us → r x xs H Q →
    wpAny (model X.prog X.w) X.A (call (.builtin id) (v :: us)) (EP X pins σ Q) X.xe s
section
variable {X : Cx} {a b : Expr} {ta tb : TE} {pos : Pos}
theorem IxR.or {r r' : R2} (h : IxR X r) (h' : IxR X r') : IxR X (fun x y H Q => r x y H Q ∨ r' x y H Q) := by
  intro value slice pins s σ H x y v u Q I rx ry q hs
  rcases q with q | q
  · exact h value slice pins s σ H x y v u Q I rx ry q hs
  · exact h' value slice pins s σ H x y v u Q I rx ry q hs
theorem pe_ix {r : R2} (hr : IxR X r) (ha : PE X a ta) (hb : PE X b tb) (hs : PlainIx b) : PE X (.Subscript a b pos) (tOp r ta tb) := by
  intro pins s σ H Q I h
  exact Subscript_ (binT ha hb I h fun v u s2 x y H2 I2 rx ry q => hr a b pins s2 σ H2 x y v u Q I2 rx ry q (hs _ _))
noncomputable def rIxL (K : PySem.W.Frag) : R2 := fun x y H Q => ∃ p xs i v, x = .ref p ∧ y = .int i ∧ SqL K H p xs ∧ atI xs i = some v ∧ Q v H
noncomputable def rIxT (K : PySem.W.Frag) : R2 := fun x y H Q => ∃ p xs i v, x = .ref p ∧ y = .int i ∧ SqT K H p xs ∧ atI xs i = some v ∧ Q v H
noncomputable def rIxS : R2 := fun x y H Q => ∃ z i c, x = .str z ∧ y = .int i ∧ z.length ≤ sizeLine ∧ atI z.cps.toList i = some c ∧ Q (.str ⟨#[c]⟩) H
theorem ix_list : IxR X (rIxL X.K) := by
  intro value slice pins s σ H x y v u Q I rx ry h hs
  obtain ⟨p, xs, i, z, rfl, rfl, hq, he, q⟩ := h
  cases rx
  obtain ⟨t, rfl⟩ := ry
  obtain ⟨its, r, pl, hz⟩ := I.list hq
  obtain ⟨j, h1, h2, h3, h4, h5⟩ := atI_get he
  obtain ⟨w, ew, rw'⟩ := r.get h2
  have hl := r.length
  have hn := line63
  have fin : EP X pins σ Q w s := ⟨z, H, I, rw', q⟩
  by_cases h0 : 0 ≤ i
  · have hj : i.toNat = j := by
      rw [seqIndex_of h0 h5] at h1
      exact Option.some.inj h1
    exact item_listR pl.isList h0 (by omega) (by rw [hj]; simpa using ew) fin hs
  · have hj : (i + (its.toArray.size : Int)).toNat = j := by
      rw [seqIndex_neg (by omega) h4] at h1
      rw [List.size_toArray, ← hl]
      exact Option.some.inj h1
    exact subscriptTail_builtinR (x := w) pl.isList.typeIs slot_list_getitem.lookup
      (wpAny_getItem_list_neg (Q := fun r s' => r = w ∧ EP X pins σ Q r s') pl.isList (by omega) (by rw [List.size_toArray] <;> omega) (by omega) (by rw [hj]; simpa using ew) ⟨rfl, fin⟩) hs
theorem ix_tup : IxR X (rIxT X.K) := by
  intro value slice pins s σ H x y v u Q I rx ry h hs
  obtain ⟨p, xs, i, z, rfl, rfl, hq, he, q⟩ := h
  cases rx
  obtain ⟨t, rfl⟩ := ry
  obtain ⟨its, r, pl, hz⟩ := I.tuple hq
  obtain ⟨j, h1, h2, h3, h4, h5⟩ := atI_get he
  obtain ⟨w, ew, rw'⟩ := r.get h2
  have hl := r.length
  have hn := line63
  have fin : EP X pins σ Q w s := ⟨z, H, I, rw', q⟩
  exact subscriptTail_builtinR (x := w) pl.typeIs slot_tuple_getitem.lookup
    (getItem_tuple (j := j) (Q := fun r s' => r = w ∧ EP X pins σ Q r s') pl (by omega) (by omega) (by rw [List.size_toArray, ← hl]; exact h1) (by simpa using ew) ⟨rfl, fin⟩) hs
theorem ix_str : IxR X rIxS := by
  intro value slice pins s σ H x y v u Q I rx ry h hs
  obtain ⟨z, i, c, rfl, rfl, hz, he, q⟩ := h
  obtain ⟨t, rfl⟩ := rx
  obtain ⟨t', rfl⟩ := ry
  obtain ⟨j, h1, h2, h3, h4, h5⟩ := atI_get he
  have hl : z.cps.toList.length = z.length := by simp [Str.length]
  rw [hl] at h1 h4 h5
  have hn := line63
  exact tail_any (typeIs_str s z t) slot_str_getitem.lookup (getItem_str (c := c) (by
    have e1 : decide (i < -(2 ^ 63 : Int)) = false := decide_eq_false (by omega)
    have e2 : decide (i ≥ 2 ^ 63) = false := decide_eq_false (by omega)
    rw [e1, e2, Bool.or_false]) (by rw [h1]; simpa using h2) ⟨.str ⟨#[c]⟩, H, I.tok _, ⟨_, rfl⟩, q⟩) hs
noncomputable def rIx (K : PySem.W.Frag) : R2 := fun x y H Q => rIxL K x y H Q ∨ rIxT K x y H Q ∨ rIxS x y H Q
theorem ix_seq : IxR X (rIx X.K) := ix_list.or (ix_tup.or ix_str)
theorem slice_bounds (lo hi : Option Int) (n : Nat) : (sliceBounds lo hi none n).1 = ((HT.sIx n 0 lo : Nat) : Int) ∧ (sliceBounds lo hi none n).2.1 = ((HT.sIx n n hi : Nat) : Int) ∧ (sliceBounds lo hi none n).2.2 = 1 := by
  refine ⟨?_, ?_, rfl⟩
  · cases lo with
    | none => simp [sliceBounds, HT.sIx]
    | some i =>
      simp only [sliceBounds, HT.sIx, Option.getD_none, show (1 : Int) > 0 by decide, if_true]
      by_cases h : i < 0
      · simp only [h, if_true] <;> omega
      · simp only [h, if_false] <;> omega
  · cases hi with
    | none => simp [sliceBounds, HT.sIx]
    | some i =>
      simp only [sliceBounds, HT.sIx, Option.getD_none, show (1 : Int) > 0 by decide, if_true]
      by_cases h : i < 0
      · simp only [h, if_true] <;> omega
      · simp only [h, if_false] <;> omega
theorem slicePick_cut (its : List Value) (lo hi : Option Int) : slicePick its.toArray lo hi none = ((its.drop (HT.sIx its.length 0 lo)).take (HT.sIx its.length its.length hi - HT.sIx its.length 0 lo)).toArray := by
  obtain ⟨h1, h2, h3⟩ := slice_bounds lo hi its.toArray.size
  unfold slicePick
  rw [h1, h2, h3]
  simp only [sliceRange_one, pick_run, List.size_toArray] <;> rfl
noncomputable def rSlL (K : PySem.W.Frag) : V → Option Int → Option Int → Hp → VK → Prop := fun x lo hi H Q => ∃ a xs, x = .ref a ∧ SqL K H a xs ∧ ∀ p, H p = none → Q (.ref p) (upd H p (.lst (cutV xs lo hi)))
theorem sl_list : SlR X (rSlL X.K) := by
  intro pins s σ H x v vl vu lo hi sl Q I rx hs pl pu h
  obtain ⟨a, xs, rfl, hx, q⟩ := h
  cases rx
  obtain ⟨its, r, ht, hz⟩ := I.list hx
  have hlen := r.length
  refine ⟨"list", _, slot_list_getitem.lookup, ht.isList.typeIs, ?_⟩
  refine wpAny_getItem_list_slice ht.isList hs pl pu .none (by simp) ?_ (by rw [List.size_toArray] <;> omega)
  rw [slicePick_cut, ← hlen]
  refine ⟨.ref s.heap.objs.size, _, I.laid (t' := s.toks) (o := .lst (cutV xs lo hi)) (fun b ob q => Heap.get?_push_of_some _ q) (Nat.le_refl _) ?_, rfl, q _ (I.hok.fresh (Nat.le_refl _))⟩
  exact ⟨Nat.le_trans (cutV_length xs lo hi) hz, _, 0, (r.drop (HT.sIx xs.length 0 lo)).take (HT.sIx xs.length xs.length hi - HT.sIx xs.length 0 lo), Heap.get?_push_size _ rfl⟩
noncomputable def flatV : V → Bool
  | .non => true
  | .bl _ => true
  | .int _ => true
  | .str _ => true
  | _ => false
noncomputable def eqV : V → V → Bool
  | .non, .non => true
  | .bl a, .bl b => a == b
  | .bl a, .int b => (if a then 1 else 0) == b
  | .int a, .bl b => a == (if b then 1 else 0)
  | .int a, .int b => a == b
  | .str a, .str b => a == b
  | _, _ => false
theorem eqAt_V {A : Around} {s : Shared} {y x : V} {u v : Value} (ry : RelV y u) (rx : RelV x v) (fy : flatV y = true) (fx : flatV x = true) : SeqAt.EqAt A s u v (eqV y x) := by
  cases y with
  | non =>
    cases ry
    cases x with
    | non => cases rx; exact SeqAt.EqAt.same _
    | bl b => cases rx; exact SeqAt.EqAt.none_bool b
    | int b => obtain ⟨t, rfl⟩ := rx; exact SeqAt.EqAt.none_int b t
    | str b => obtain ⟨t, rfl⟩ := rx; exact SeqAt.EqAt.none_str b t
    | _ => exact absurd (show false = true from fx) Bool.false_ne_true
  | bl a =>
    cases ry
    cases x with
    | non => cases rx; exact SeqAt.EqAt.bool_none a
    | bl b => cases rx; exact SeqAt.EqAt.bool_bool a b
    | int b => obtain ⟨t, rfl⟩ := rx; exact SeqAt.EqAt.bool_int a b t
    | str b => obtain ⟨t, rfl⟩ := rx; exact SeqAt.EqAt.bool_str a b t
    | _ => exact absurd (show false = true from fx) Bool.false_ne_true
  | int a =>
    obtain ⟨t', rfl⟩ := ry
    cases x with
    | non => cases rx; exact SeqAt.EqAt.int_none a t'
    | bl b => cases rx; exact SeqAt.EqAt.int_bool a t' b
    | int b => obtain ⟨t, rfl⟩ := rx; exact SeqAt.EqAt.int_int a t' b t
    | str b => obtain ⟨t, rfl⟩ := rx; exact SeqAt.EqAt.int_str a t' b t
    | _ => exact absurd (show false = true from fx) Bool.false_ne_true
  | str a =>
    obtain ⟨t', rfl⟩ := ry
    cases x with
    | non => cases rx; exact SeqAt.EqAt.str_none a t'
    | bl b => cases rx; exact SeqAt.EqAt.str_bool a t' b
    | int b => obtain ⟨t, rfl⟩ := rx; exact SeqAt.EqAt.str_int a t' b t
    | str b => obtain ⟨t, rfl⟩ := rx; exact SeqAt.EqAt.str_str a t' b t
    | _ => exact absurd (show false = true from fx) Bool.false_ne_true
  | _ => exact absurd (show false = true from fy) Bool.false_ne_true
noncomputable def eqU (x : V) (u : Value) : Bool := match u with
  | .none => eqV .non x
  | .bool b => eqV (.bl b) x
  | .int i _ => eqV (.int i) x
  | .str z _ => eqV (.str z) x
  | _ => false
theorem eqU_of {x y : V} {u : Value} (r : RelV y u) (f : flatV y = true) : eqU x u = eqV y x := by
  cases y with
  | non => cases r; rfl
  | bl b => cases r; rfl
  | int i => obtain ⟨t, rfl⟩ := r; rfl
  | str z => obtain ⟨t, rfl⟩ := r; rfl
  | _ => exact absurd (show false = true from f) Bool.false_ne_true
theorem any_eqU {x : V} : ∀ {xs : List V} {us : List Value}, Vals xs us → xs.all flatV = true → us.any (eqU x) = xs.any fun y => eqV y x
  | _, _, .nil, _ => rfl
  | y :: xs, u :: us, .cons r t, f => by
    rw [List.all_cons, Bool.and_eq_true] at f
    rw [List.any_cons, List.any_cons, eqU_of r f.1, any_eqU t f.2]
theorem mem_eqAt {A : Around} {s : Shared} {x : V} {v : Value} (rx : RelV x v) (fx : flatV x = true) : ∀ {xs : List V} {us : List Value}, Vals xs us → xs.all flatV = true → ∀ u ∈ us, SeqAt.EqAt A s u v (eqU x u)
  | _, _, .nil, _ => fun u hu => by cases hu
  | y :: xs, u :: us, .cons r t, f => fun u' hu => by
    rw [List.all_cons, Bool.and_eq_true] at f
    rcases List.mem_cons.mp hu with rfl | hu
    · rw [eqU_of r f.1]; exact eqAt_V r rx f.1 fx
    · exact mem_eqAt rx fx t f.2 u' hu
noncomputable def inV (x : V) (xs : List V) : Bool := xs.any fun y => eqV y x
noncomputable def rIn (K : PySem.W.Frag) (neg : Bool) : R2 := fun x y H Q => ∃ p xs, y = .ref p ∧ (SqL K H p xs ∨ SqT K H p xs) ∧ flatV x = true ∧ xs.all flatV = true ∧ Q (.bl (if neg then !inV x xs else inV x xs)) H
theorem op_notIn_seq : OpR X (compareOp .NotIn) (rIn X.K true) := by
  intro pins s σ H x y v u Q I rx ry h
  obtain ⟨p, xs, rfl, hq, fx, fs, q⟩ := h
  cases ry
  rcases hq with hq | hq
  · obtain ⟨its, r, pl, hz⟩ := I.list hq
    refine SeqAt.notIn_listAt (eqU x) pl.isList (fun w hw => mem_eqAt rx fx r fs w (by simpa using hw)) ⟨.bl _, H, I, rfl, ?_⟩
    rw [show its.toArray.any (eqU x) = its.any (eqU x) by simp, any_eqU r fs]
    exact q
  · obtain ⟨its, r, pl, hz⟩ := I.tuple hq
    refine SeqAt.notIn_tupleAt (eqU x) pl (fun w hw => mem_eqAt rx fx r fs w (by simpa using hw)) ⟨.bl _, H, I, rfl, ?_⟩
    rw [show its.toArray.any (eqU x) = its.any (eqU x) by simp, any_eqU r fs]
    exact q
theorem call_len_seq : CallR X (.builtin "len") (fun xs H Q => ∃ p ys, xs = [.ref p] ∧ (SqL X.K H p ys ∨ SqT X.K H p ys) ∧ Q (.int ys.length) H) := by
  intro pins s σ H xs us Q I r h
  obtain ⟨p, ys, rfl, hq, q⟩ := h
  obtain ⟨u, rfl, rx⟩ := vals1 r
  cases rx
  have hn := line63
  rcases hq with hq | hq
  · obtain ⟨its, r', pl, hz⟩ := I.list hq
    have hlen := r'.length
    exact Calls.call_len_list pl.isList (by simp only [List.size_toArray] <;> omega) ⟨.int ys.length, H, I.tok _, ⟨s.toks + 1, by rw [List.size_toArray, hlen]⟩, q⟩
  · obtain ⟨its, r', pl, hz⟩ := I.tuple hq
    have hlen := r'.length
    exact len_tuple pl (by simp only [List.size_toArray] <;> omega) ⟨.int ys.length, H, I.tok _, ⟨s.toks + 1, by rw [List.size_toArray, hlen]⟩, q⟩
theorem call_len_str : CallR X (.builtin "len") (fun xs H Q => ∃ z, xs = [.str z] ∧ z.length ≤ sizeLine ∧ Q (.int z.length) H) := by
  intro pins s σ H xs us Q I r h
  obtain ⟨z, rfl, hz, q⟩ := h
  obtain ⟨u, rfl, t, rfl⟩ := vals1 r
  have hn := line63
  exact len_str (by omega) ⟨.int z.length, H, I.tok _, ⟨_, rfl⟩, q⟩
theorem call_tuple_of : CallR X (.type "tuple") (fun xs H Q => ∃ p ys, xs = [.ref p] ∧ ((SqL X.K H p ys ∧ ∀ l, H l = none → Q (.ref l) (upd H l (.tup ys))) ∨ (SqT X.K H p ys ∧ Q (.ref p) H))) := by
  intro pins s σ H xs us Q I r h
  obtain ⟨p, ys, rfl, h⟩ := h
  obtain ⟨u, rfl, rx⟩ := vals1 r
  cases rx
  rcases h with ⟨hq, q⟩ | ⟨hq, q⟩
  · obtain ⟨its, r', pl, hz⟩ := I.list hq
    have hlen := r'.length
    refine call_tuple_list pl.isList (fun h' kp => ?_) (by simp only [List.size_toArray] <;> omega)
    have I1 : Inv X pins σ H { s with heap := h' } := I.kept (t' := s.toks) kp
    have I2 : Inv X pins σ (upd H h'.objs.size (.tup ys)) { s with heap := h'.push { cls := .type "tuple", data := .seq its.toArray } } :=
      I1.laid (t' := s.toks) (fun b o e => Heap.get?_push_of_some _ e) (Nat.le_refl _) (show ObjOk X.prog X.w _ _ _ (.tup ys) from ⟨hz, its, r', IsTup.new _ _⟩)
    exact ⟨.ref h'.objs.size, _, I2, rfl, q _ (I1.hok.fresh (Nat.le_refl _))⟩
  · obtain ⟨its, r', pl, hz⟩ := I.tuple hq
    exact call_tuple_same pl ⟨.ref p, H, I, rfl, q⟩
noncomputable def tyV (K : PySem.W.Frag) (T : String) (x : V) (H : Hp) : Prop := match x with
  | .str _ => T = "str"
  | .int _ => T = "int"
  | .ref p => (T = "list" ∧ ∃ xs, SqL K H p xs) ∨ (T = "tuple" ∧ ∃ o, K.lookup p = some o ∧ o.cls = .type "tuple" ∧ o.dict = none) ∨
      (T = "dict" ∧ ((∃ kvs, H p = some (.dK kvs)) ∨ ∃ kvs, H p = some (.dT kvs))) ∨ (T = "set" ∧ ∃ S n, H p = some (.set S n))
  | _ => False
theorem tyV_is {pins : List (Addr × Obj)} {σ : St} {H : Hp} {s : Shared} {T : String} {x : V} {v : Value} (I : Inv X pins σ H s) (r : RelV x v) (ty : tyV X.K T x H) :
    s.TypeIs v T ∧ ∀ a, v = .ref a → ∃ ob, s.heap.get? a = some ob ∧ ob.dict = none := by
  cases x with
  | str z =>
    obtain ⟨t, rfl⟩ := r
    cases (show T = "str" from ty)
    exact ⟨typeIs_str s z t, fun _ e => nomatch e⟩
  | int i =>
    obtain ⟨t, rfl⟩ := r
    cases (show T = "int" from ty)
    exact ⟨typeIs_int s i t, fun _ e => nomatch e⟩
  | ref p =>
    cases r
    rcases ty with ⟨rfl, xs, hq⟩ | ⟨rfl, o, hk, hc, hd⟩ | ⟨rfl, hk⟩ | ⟨rfl, S, n, hk⟩
    · obtain ⟨its, _, pl, _⟩ := I.list hq
      refine ⟨pl.isList.typeIs, fun a e => ?_⟩
      cases e
      obtain ⟨o, n, e, c, hd, _⟩ := pl
      exact ⟨o, e, hd⟩
    · refine ⟨⟨o, I.kIn p o hk, hc⟩, fun a e => ?_⟩
      cases e
      exact ⟨o, I.kIn _ o hk, hd⟩
    · have z : ∃ o, s.heap.get? p = some o ∧ o.ExactDict := by
        rcases hk with ⟨kvs, hk⟩ | ⟨kvs, hk⟩
        · obtain ⟨_, _, _, _, o, _, _, e, ex, _⟩ := I.hok p _ hk
          exact ⟨o, e, ex⟩
        · obtain ⟨_, _, _, _, o, _, _, e, ex, _⟩ := I.hok p _ hk
          exact ⟨o, e, ex⟩
      obtain ⟨o, e, ex⟩ := z
      refine ⟨⟨o, e, ex.1⟩, fun a e2 => ?_⟩
      cases e2
      exact ⟨o, e, ex.2.1⟩
    · obtain ⟨o, _, _, _, e, ex, _⟩ := I.hok p _ hk
      refine ⟨⟨o, e, ex.1⟩, fun a e2 => ?_⟩
      cases e2
      exact ⟨o, e, ex.2.1⟩
  | _ => exact False.elim ty
noncomputable def tBM (K : PySem.W.Frag) (T : String) (r : V → List V → Hp → VK → Prop) (to : TE) (t : TA) : TE := fun σ H Q => to σ H fun x H1 => tyV K T x H1 ∧ t σ H1 fun xs H2 => r x xs H2 Q
variable {o e : Expr} {es : List Expr} {to : TE} {t : TA} {name : Str} {apos cpos : Pos} {T id : String} {r : V → List V → Hp → VK → Prop}
theorem pe_bm (pa : PlainAttrs T) (slot : Slot T name id) (hty : typeOf (.builtin id) = pure (.type "method_descriptor")) (hm : MtR X id r) (ho : PE X o to) (ha : PA X (e :: es) t)
    (hbase : attributeBase o name X.env (eval o X.env) = eval o X.env := by rfl)
    (hfew : ((backTo cpos (starEach (e :: es) X.env)).all (fun x => !x.1) && (backToKw cpos (keywordEach [] X.env)).all (fun x => x.1.isSome)
      && decide ((e :: es).length + ([] : List Keyword).length + (if ([] : List Keyword).isEmpty then 0 else 1) < 30)) = true := by rfl)
    (hline : (apos.endLine == cpos.line) = true := by rfl) (hs : starEach (e :: es) X.env = (false, eval e X.env) :: starEach es X.env := by rfl) (hplain : (backTo cpos (starEach es X.env)).any (·.1) = false := by rfl) :
    PE X (.Call (.Attribute o name apos) (e :: es) [] cpos) (tBM X.K T r to t) := by
  intro pins s σ H Q I h
  refine wpAny_Call_method_late hbase hfew hline rfl (thn (ho pins s σ H _ I h) fun v s1 ⟨x, H1, I1, r1, ty, q1⟩ => ?_)
  obtain ⟨h1, h2⟩ := tyV_is I1 r1 ty
  refine ⟨T, id, pa, slot, hty, h1, h2, ?_⟩
  have hA := ha cpos pins s1 σ H1 _ I1 q1
  rw [hs] at hA ⊢
  refine Calls.callWith_builtin (by show (false || (backTo cpos (starEach es X.env)).any (·.1)) = false; rw [hplain] <;> rfl) (Calls.evalArgs_plain ?_)
  exact thn hA fun us s2 ⟨vs, H2, I2, r2, q2⟩ => hm pins s2 σ H2 x vs v us Q I2 r1 r2 q2
end
end L2
namespace L2
open PySem PySem.Spec PyProof.Rows
noncomputable def MtM (X : Cx) (id : String) (r : V → List V → Hp → VK → Prop) : Prop :=
  ∀ (pins : List (Addr × Obj)) (s : Shared) (σ : St) (H : Hp) (x : V) (xs : List V) (v : Value) (us : List Value) (Q : VK), Inv X pins σ H s → RelV x v → Vals xs us → r x xs H Q →
    wpAny (model X.prog X.w) X.A (call (.builtin id) (v :: us)) (EP X pins σ Q) X.xe s
theorem Vals.one : ∀ {x : V} {us : List Value}, Vals [x] us → ∃ u, us = [u] ∧ RelV x u
  | _, _, .cons r .nil => ⟨_, rfl, r⟩
section
variable {X : Cx} {pins : List (Addr × Obj)} {σ : St} {H : Hp} {s : Shared} {l b : Addr} {xs ys zs : List V}
theorem Inv.lset {its its' : List Value} {n : Nat} {f : Array Value → Array Value} {t' : Nat} (I : Inv X pins σ H s) (hH : H l = some (.lst xs))
    (e : s.heap.get? l = some { cls := .type "list", data := .seq its.toArray n }) (hf : f its.toArray = its'.toArray) (hv : Vals ys its') (hz : ys.length ≤ sizeLine) :
    Inv X pins σ (upd H l (.lst ys)) { s with heap := s.heap.update l (Obj.mapSeq f), toks := t' } := by
  have q := PySem.IsL.update e f
  rw [hf] at q
  refine I.write (x := l) (e := l) (by rw [hH]; exact trivial) (.inl rfl) (fun b' u hb hu => (Heap.get?_update_other s.heap (Obj.mapSeq f) (Ne.symm hb)).trans hu) ⟨_, q⟩ ?_
  exact ⟨hz, its', _, hv, q⟩
theorem Inv.lnew {its : List Value} {t' : Nat} (I : Inv X pins σ H s) (hv : Vals ys its) (hz : ys.length ≤ sizeLine) :
    Inv X pins σ (upd H s.heap.objs.size (.lst ys)) { s with heap := s.heap.push { cls := .type "list", data := .seq its.toArray }, toks := t' } :=
  I.laid (fun _ _ q => Heap.get?_push_of_some _ q) (Nat.le_refl _) ⟨hz, its, 0, hv, Heap.get?_push_size _ rfl⟩
theorem Inv.fresh (I : Inv X pins σ H s) : H s.heap.objs.size = none := I.hok.fresh (Nat.le_refl _)
theorem Inv.lstM (I : Inv X pins σ H s) (hH : H l = some (.lst xs)) : xs.length ≤ sizeLine ∧ ∃ (its : List Value) (n : Nat), Vals xs its ∧ xs.length = its.length ∧ s.heap.get? l = some { cls := .type "list", data := .seq its.toArray n } := by
  obtain ⟨z, its, n, r, e⟩ := I.hok l _ hH
  exact ⟨z, its, n, r, r.length, e⟩
end
section
variable {X : Cx}
noncomputable def rAppend : V → List V → Hp → VK → Prop := fun x vs H Q => ∃ l xs y, x = .ref l ∧ vs = [y] ∧ H l = some (.lst xs) ∧ xs.length < sizeLine ∧ Q .non (upd H l (.lst (xs ++ [y])))
theorem mt_append : MtM X "list.append" rAppend := by
  intro pins s σ H x vs v us Q I rx rv h
  obtain ⟨l, xs, y, rfl, rfl, hH, hz, q⟩ := h
  cases rx
  obtain ⟨u, rfl, ru⟩ := rv.one
  obtain ⟨z, its, n, r, hl, e⟩ := I.lstM hH
  refine call_meets F.slot_list_append ⟨_, e, rfl⟩ F.entry_list_append (F.args_list_append_2 _ _) (PySem.list_append l its.toArray n u (by rw [List.size_toArray]; omega)) ⟨e, ?_⟩
  refine ⟨.non, _, I.lset (its' := its ++ [u]) hH e (by simp) (r.append (.cons ru .nil)) ?_, rfl, q⟩
  rw [List.length_append, List.length_singleton]
  omega
end
section
variable {prog : Program} {w : World} {A : Around} {E : Value → Shared → Prop} {s : Shared}
end
section
variable {X : Cx}
end
end L2
namespace Att
open PySem PySem.W PySem.Calls PyProof.Rows
theorem ints_of_wellAll {P : Params} {h : Heap} : ∀ (ns : List Int) (vs : List Value), WellAll P h vs (ns.map WData.int) → IntsAre vs ns := by
  intro ns
  induction ns with
  | nil =>
    intro vs w
    rw [List.map_nil] at w
    cases w
    exact .nil
  | cons n ns ih =>
    intro vs w
    rw [List.map_cons] at w
    cases w with
    | cons a b =>
      cases a
      exact .cons _ _ (ih _ b)
theorem script_of {l : OpenLaw} {n : Nat} (hn : l.most = some n) {P : Params} {h : Heap} {args : List WData} {vals : List Value}
    (hpre : l.row.toRowW.claim.pre args = true) (hwl : WellAll P h vals args) :
    ∃ a vs ns, vals = [Value.ref a] ∧ args = [WData.list (ns.map WData.int)] ∧ h.get? a = some { cls := .type "list", data := .seq vs.toArray } ∧ IntsAre vs ns ∧ ns.length ≤ n := by
  have hsh : WShape.hasAll [] args [.list .int] = true := (pre_splitW hpre).1
  have hc : l.pre.holds [] { args := args } = true := (pre_splitW hpre).2
  obtain ⟨d, r, rfl, h1, h2⟩ := hasAllW_cons hsh
  obtain rfl := hasAllW_nil h2
  obtain ⟨xs, rfl, h3⟩ := hasW_list h1
  obtain ⟨ns, rfl⟩ := items_int h3
  have hlen : ns.length ≤ n := by
    unfold OpenLaw.pre at hc
    have h4 : (WTm.not (.lt (.lit (.int (n : Int))) (.len (.arg 0)))).holds [] { args := [.list (ns.map .int)] } = true := by
      have h4 := (holds_andW hc).1
      rw [hn] at h4
      exact h4
    have h5 := condW_of h4 (w_not (w_lt w_lit (w_len_list (w_arg rfl))))
    rw [List.length_map] at h5
    refine Nat.le_of_not_lt fun q => ?_
    have q' : (n : Int) < ((ns.length : Nat) : Int) := by omega
    first
      | (rw [decide_eq_true q'] at h5; exact absurd h5 (by decide))
      | (simp at h5; omega)
  cases hwl with
  | cons w1 w2 =>
    cases w2
    cases w1 with
    | list ho hall => exact ⟨_, _, ns, rfl, rfl, ho, ints_of_wellAll ns _ hall, hlen⟩
theorem post_true (l : OpenLaw) (args : List WData) : l.row.toRowW.claim.post args (.bool true) args = true :=
  postW_of (r := l.row.toRowW) (X := (true == true))
    (show WShape.has [] (.bool true) .bool = true by first | rfl | decide | simp [WShape.has, WShape.arms, WShape.armsAll])
    (show (WTm.eq .res (.lit (.bool true))).value [] { args := args, res := some (.bool true), after := args } = some (.bool (true == true)) from w_eq_bool (w_res rfl) w_lit) rfl
theorem attach_call {l : OpenLaw} {n : Nat} {q : Program} {loose : List Str} {XP : (Str → Option Value) → Heap → Prop} {YP : World → Heap → Prop} {d : DefRec}
    (hn : l.most = some n) (hdf : d.params.defaults = [])
    (call : ∀ (w : World) (s₀ s₁ : Shared) (mg mb : Str → Option Value) (fa : Addr) (o : Obj) (pm cd doc : Value) (a : Addr) (vs : List Value) (ns : List Int),
      Ground q loose [] XP w s₀ mg mb s₁.heap → YP w s₁.heap →
      s₁.heap.get? fa = some o → o.data = .func (docDef d.name d.params d.body d.scope pm cd doc) → s₁.heap.CodeRec cd d.name → mg d.name = some (.ref fa) →
      s₁.heap.get? a = some { cls := .type "list", data := .seq vs.toArray } → IntsAre vs ns → ns.length ≤ n → s₁.gens = #[] →
      codeAny (model l.prog w) callerA (.call (.ref fa) ⟨[.ref a], []⟩) (fun r s' => r = .ok (.ret (.bool true)) ∧ OldK s₁.heap s'.heap ∧ s'.os = s₁.os ∧ AllBare s'.gens) s₁) :
    WalkO q loose XP YP l.row.toRowW d [] (fun f vs => PySem.call f vs) := by
  intro w s₀ s₁ mg mb G Y fa o pm cd doc dV kV ho hd hcd hD hmg hg args vals as hpre hlay hrd hwl hlo
  obtain rfl : dV = .none := Dflts.none hD hdf
  obtain rfl : kV = .none := Dflts.noKw hD
  obtain ⟨a, vs, ns, rfl, rfl, hobj, hints, hlen⟩ := script_of hn hpre hwl
  refine enter_call (codeAny_mono (call w s₀ s₁ mg mb fa o pm cd doc a vs ns G Y ho (fd_plain hd) hcd hmg hobj hints hlen hg) fun r s' hq => ?_)
  obtain ⟨rfl, h2, h3, h4⟩ := hq
  exact ⟨.inl ⟨.bool true, .bool true, [], rfl, fun _ => rfl, .bool true, post_true l _, fun _ => ⟨List.Pairwise.nil, fun _ hm => (nomatch hm)⟩⟩, h2, h3, h4⟩
section
variable {prog : Program} {w : World} {A : Around} {E : Value → Shared → Prop} {s : Shared} {K : Frag}
end
end Att
namespace L2
open PySem PySem.Spec PyProof.Rows
theorem vals_ints : ∀ {vs : List Value} {ns : List Int}, IntsAre vs ns → Vals (ns.map V.int) vs
  | _, _, .nil => .nil
  | _, _, .cons n t h => .cons ⟨t, rfl⟩ (vals_ints h)
noncomputable def Only (H : Hp) : Prop := ∀ b, H b = none ∨ ∃ o xs, H b = some (.frz o (.lst xs))
theorem law_call {P : Program} {w : World} {K : PySem.W.Frag} {mg mb : Str → Option Value} {CX : CXT} {k : Nat} {fa a : Addr} {fd : FuncData} {x : Str} {sp : Sp} {s₁ : Shared} {vs : List Value} {ns : List Int}
    (KX : K.In s₁.heap) (hns : s₁.heap.Ns mainGlobals mg) (hb : s₁.heap.Ns builtinsNs mb) (hbb : ∀ x : Str, x ≠ "__name__" → mb x = bootBuiltins x) (hlim : s₁.heap.NoLimit) (hg : s₁.gens = #[])
    (ha : s₁.heap.get? a = some { cls := .type "list", data := .seq vs.toArray }) (hi : IntsAre vs ns) (hl : ns.length ≤ sizeLine) (hr : Room k callerA)
    (F : ∀ base : Heap, K.In base → base.Ns mainGlobals mg → FnOk P w K mg base CX k fa fd [x] sp) (hbind : ∀ (s : Shared) (u : Value), BindsTo s fd ⟨[u], []⟩ [(x, u)])
    (hsp : ∀ H : Hp, Only H → SqL K H a (ns.map V.int) → sp [.ref a] H (fun v _ => v = .bl true) fun _ _ _ => False)
    (hCX : ∀ H e s', CX [] H s₁ (fun _ _ _ => False) e s' → False) :
    codeAny (model P w) callerA (.call (.ref fa) ⟨[.ref a], []⟩) (fun r s' => r = .ok (.ret (.bool true)) ∧ OldK s₁.heap s'.heap ∧ s'.os = s₁.os ∧ AllBare s'.gens) s₁ := by
  have rv := vals_ints hi
  have lenV := hi.length
  -- from an abstract heap in which nothing but the script may be tracked
  have core : ∀ H : Hp, Only H → SqL K H a (ns.map V.int) → HOk P w H s₁.heap → (∀ b, H b ≠ none → b = a) → (H a ≠ none → K.lookup a = none) →
      codeAny (model P w) callerA (.call (.ref fa) ⟨[.ref a], []⟩) (fun r s' => r = .ok (.ret (.bool true)) ∧ OldK s₁.heap s'.heap ∧ s'.os = s₁.os ∧ AllBare s'.gens) s₁ := by
    intro H hO hS hok hA hK
    have base_of : ∀ {b : Addr} {o : Obj}, s₁.heap.get? b = some o → H b = none → (hidT s₁.heap H).get? b = some o := fun e n => hidT_get e n
    have noA : ∀ {b : Addr} {o : Obj} {es : Array DictEntry} {ep : Nat}, s₁.heap.get? b = some o → o.data = .dict es ep → H b = none := fun {b o es ep} e d => by
      cases q : H b with
      | none => rfl
      | some u =>
        have e' : b = a := hA b (by rw [q]; simp)
        subst e'
        rw [ha] at e; cases e
        have d' : Data.seq vs.toArray _ = Data.dict es ep := d
        cases d'
    have nsK : ∀ {b : Addr} {m : Str → Option Value}, s₁.heap.Ns b m → (hidT s₁.heap H).Ns b m := fun {b m} ⟨o, es, ep, e, d, r⟩ => ⟨o, es, ep, base_of e (noA e d), d, r⟩
    have hKb : K.In (hidT s₁.heap H) := fun b o e => base_of (KX b o e) (by
      cases q : H b with
      | none => rfl
      | some u =>
        have e' : b = a := hA b (by rw [q]; simp)
        subst e'
        rw [hK (by rw [q]; simp)] at e; cases e)
    have hM : Mod K mg (hidT s₁.heap H) := ⟨hKb, nsK hns, ⟨mb, nsK hb, hbb⟩, let ⟨mc, h1, h2⟩ := hlim; ⟨mc, nsK h1, h2⟩⟩
    have e0 : Env0 P w K mg (hidT s₁.heap H) callerA [] s₁ H := ⟨rfl, hM, fun b o e => of_hidT e, Nat.le_of_eq (hidT_size _ _), trivial, fun b hb => absurd (show b ∈ ([] : List Addr) from hb) (by simp), hok, .of_eq hg⟩
    refine codeAny_mono ((F _ hKb (nsK hns)).run callerA [] s₁ H ⟨[.ref a], []⟩ [.ref a] [.ref a] _ _ hr e0 (hbind s₁ (.ref a)) (.cons rfl .nil) (hsp H hO hS)) fun r s' h => ?_
    cases r with
    | error e => exact (hCX H e s' h).elim
    | ok fl =>
      cases fl with
      | next => exact False.elim h
      | brk => exact False.elim h
      | cont => exact False.elim h
      | ret u =>
        obtain ⟨v, H', os, bare, un, hok', r', q⟩ := h
        have q' : v = .bl true := q
        subst q'
        obtain rfl : u = Value.bool true := r'
        refine ⟨rfl, OldK.of_keep fun b o e => ?_, os, bare⟩
        cases q : H b with
        | none => exact un.keep b o e q (by intro z; exact absurd (show b ∈ ([] : List Addr) from z) (by simp)) (by simp)
        | some u =>
          rcases hO b with z | ⟨ob, xs, z⟩
          · rw [q] at z; cases z
          · have z2 := un.frzs b ob _ z
            obtain ⟨e1, _⟩ := hok b _ z
            obtain ⟨e2, _⟩ := hok' b _ z2
            rw [e] at e1; cases e1
            exact e2
  cases hk : K.lookup a with
  | some o =>
    -- the script is one of the module's own objects
    have e := KX a o hk
    rw [ha] at e
    cases e
    refine core (fun _ => none) (fun _ => .inl rfl) (.inr ⟨_, vs.toArray, _, hk, rfl, rfl, rfl, by rw [List.size_toArray, lenV]; exact hl, by simpa using rv⟩) (fun b u z => by have z' : (none : Option HO) = some u := z; cases z') (fun b z => absurd rfl z) fun z => absurd rfl z
  | none =>
    refine core (fun b => if b = a then some (.frz { cls := .type "list", data := .seq vs.toArray } (.lst (ns.map V.int))) else none) (fun b => ?_) (.inl (.inr ⟨{ cls := .type "list", data := .seq vs.toArray }, if_pos rfl⟩)) (fun b u z => ?_) (fun b z => ?_) fun _ => hk
    · by_cases hb : b = a
      · exact .inr ⟨_, _, if_pos hb⟩
      · exact .inl (if_neg hb)
    · by_cases hb : b = a
      · have z' := (if_pos hb).symm.trans z
        cases z'
        subst hb
        exact ⟨ha, by rw [List.length_map]; exact hl, vs, _, rv, ha⟩
      · have z' := (if_neg hb).symm.trans z
        cases z'
    · by_cases hb : b = a
      · exact hb
      · exact absurd (if_neg hb) z
end L2
namespace L2
open PySem PySem.Spec PyProof.Rows
theorem walk_of {l : PySem.W.OpenLaw} {n k : Nat} {q : Program} {loose : List Str} {XP : (Str → Option Value) → Heap → Prop} {YP : World → Heap → Prop} {d : DefRec} {K : Params → PySem.W.Frag} {CX : World → CXT} {sp : World → Sp} {x : Str}
    (hn : l.most = some n) (hn2 : n ≤ sizeLine) (hdf : d.params.defaults = []) (hr : Room k callerA)
    (hY : ∀ (w : World) (h : Heap), YP w h → (K w.params).In h)
    (F : ∀ (w : World) (mg : Str → Option Value) (fa : Addr) (h : Heap), (K w.params).In h → h.Ns mainGlobals mg → mg d.name = some (.ref fa) →
      ∃ fd : FuncData, (∀ (s : Shared) (u : Value), BindsTo s fd ⟨[u], []⟩ [(x, u)]) ∧
        ∀ base : Heap, (K w.params).In base → base.Ns mainGlobals mg → FnOk l.prog w (K w.params) mg base (CX w) k fa fd [x] (sp w))
    (hsp : ∀ (w : World) (H : Hp) (a : Addr) (ns : List Int), ns.length ≤ n → Only H → SqL (K w.params) H a (ns.map V.int) → sp w [.ref a] H (fun v _ => v = .bl true) fun _ _ _ => False)
    (hCX : ∀ (w : World) (H : Hp) (s : Shared) (e : Value) (s' : Shared), CX w [] H s (fun _ _ _ => False) e s' → False) :
    PySem.W.WalkO q loose XP YP l.row.toRowW d [] (fun f vs => PySem.call f vs) := by
  refine Att.attach_call hn hdf fun w s₀ s₁ mg mb fa o pm cd doc a vs ns G Y ho hd hcd hmg hobj hints hlen hg => ?_
  have KX := hY w _ Y
  obtain ⟨fd, hb, hF⟩ := F w mg fa _ KX G.T.g hmg
  exact law_call KX G.T.g G.T.b G.T.builtins G.T.nolimit hg hobj hints (Nat.le_trans hlen hn2) hr hF hb (fun H hO hS => hsp w H a ns hlen hO hS) fun H e s' => hCX w H s₁ e s'
end L2
namespace L2
open PySem PySem.Spec PyProof.Rows
noncomputable def defArgs (s : Stmt) : Arguments := match s with
  | .FunctionDef _ a _ _ _ _ _ _ _ _ => a
  | _ => { posonlyargs := [], args := [], vararg := none, kwonlyargs := [], kw_defaults := [], kwarg := none, defaults := [] }
noncomputable def defBody (s : Stmt) : List Stmt := match s with
  | .FunctionDef _ _ b _ _ _ _ _ _ _ => b
  | _ => []
noncomputable def defScope (s : Stmt) : Scope := match s with
  | .FunctionDef _ _ _ _ _ _ sc _ _ _ => sc
  | _ => { kind := .function, names := [], isGenerator := false, isCoroutine := false }
noncomputable abbrev CX0 : CXT := fun _ _ _ _ _ _ => False
noncomputable abbrev E0 : XK := fun _ _ _ => False
theorem pass0 {X : Cx} : Passes CX0 X E0 := fun _ _ _ _ _ _ _ h => h.elim
structure Fun (K : PySem.W.Frag) (x qual : Str) (st : Stmt) (f : Addr) (fd : FuncData) : Prop where
  ex : ∃ (oc : Value) (od : Option Addr) (kV doc pm : Value) (an : Option Addr) (cdv ct : Value) (osl : Array (Option Value)),
    fd = PySem.W.fnOf x qual (defArgs st) (defBody st) (defScope st) .none kV doc pm an cdv ct ∧ K.lookup f = some ⟨oc, od, .func fd, osl⟩ ∧ PySem.W.codeIn K cdv qual = true
  kp : PySem.W.keepIn K (.ref f) = true
section
variable {P : Program} {w : World} {K : PySem.W.Frag} {mg : Str → Option Value} {base : Heap}
theorem Fun.ok {x qual : Str} {st : Stmt} {f : Addr} {fd : FuncData} {N ps : List Str} {k : Nat} {sp : Sp} (F : Fun K x qual st f fd) (S : FnScope N ps (defScope st)) (len : ∀ vs H Q E, sp vs H Q E → vs.length = ps.length)
    (hbody : ∀ (cdv : Value) (A : Around) (outer : List Env) (s : Shared) (H : Hp) (vs : List V) (Q : VK) (E : XK), Room k (A.deeper (envOfC qual (defScope st) s.heap.objs.size f cdv)) → sp vs H Q E →
      ∃ t, PSs (cxOf CX0 P w K mg base N qual (defScope st) f cdv A outer s H E).nox (defBody st) t ∧ t { nx := fun _ H' => Q .non H', rt := Q } (start N vs) H) : FnOk P w K mg base CX0 (k + 1) f fd ps sp := by
  obtain ⟨oc, od, kV, doc, pm, an, cdv, ct, osl, rfl, lk, hcd⟩ := F.ex
  refine fn_of lk hcd S len fun A outer s H vs Q E hr hsp => ?_
  obtain ⟨t, h, q⟩ := hbody cdv A outer s H vs Q E hr hsp
  exact ⟨t, h.nox, q⟩
theorem Fun.binds {x qual : Str} {st : Stmt} {f : Addr} {fd : FuncData} {ps : List Str} (F : Fun K x qual st f fd)
    (h : ∀ (kV doc pm : Value) (an : Option Addr) (cdv ct : Value) (us : List Value), us.length = ps.length → bindArgs (PySem.W.fnOf x qual (defArgs st) (defBody st) (defScope st) .none kV doc pm an cdv ct) ⟨us, []⟩ = pure (ps.zip us)) : Binds K fd ps [] := by
  obtain ⟨oc, od, kV, doc, pm, an, cdv, ct, osl, rfl, lk, hcd⟩ := F.ex
  exact .all (h kV doc pm an cdv ct)
theorem fun_mk {x qual : Str} {st : Stmt} {f : Addr} {oc : Value} {od an : Option Addr} {osl : Array (Option Value)} {kV doc pm cdv ct : Value} (l : K.lookup f = some ⟨oc, od, .func (PySem.W.fnOf x qual (defArgs st) (defBody st) (defScope st) .none kV doc pm an cdv ct), osl⟩)
    (c : PySem.W.codeIn K cdv qual = true) (k : PySem.W.keepIn K (.ref f) = true) : Fun K x qual st f (PySem.W.fnOf x qual (defArgs st) (defBody st) (defScope st) .none kV doc pm an cdv ct) := ⟨⟨oc, od, kV, doc, pm, an, cdv, ct, osl, rfl, l, c⟩, k⟩
end
theorem small1000 {n : Nat} (h : n ≤ 1000) : n < sizeLine := Nat.lt_of_le_of_lt h (by decide)
section
variable {X : Cx}
theorem pv (i : Nat) {x : Str} {pos : Pos} (hN : X.N[i]? = some x := by rfl) (hv : Vis X.env.scope x := by first | exact Or.inl rfl | exact Or.inr (Or.inl rfl) | exact Or.inr (Or.inr rfl)) (hd : (x == ("__debug__" : Str)) = false := by decide)
    (hcd : (x == ("__classdict__" : Str)) = false := by decide) : PE X (.Name x pos) (tVar i) := pe_var hN hv hd hcd
end
theorem iteF {A B : Prop} (h : B) : if false = true then A else B := by
  rw [if_neg Bool.false_ne_true]
  exact h
theorem iteT {A B : Prop} (h : A) : if true = true then A else B := by
  rw [if_pos rfl]
  exact h
noncomputable def Same (H H' : Hp) : Prop := ∀ b o, H b = some o → H' b = some o
theorem Same.refl (H : Hp) : Same H H := fun _ _ h => h
theorem Same.trans {H H1 H2 : Hp} (a : Same H H1) (b : Same H1 H2) : Same H H2 := fun c o h => b c o (a c o h)
theorem Same.free {H H' : Hp} (e : Same H H') {l : Addr} (h : H' l = Option.none) : H l = Option.none := by
  cases q : H l with
  | none => rfl
  | some o =>
    rw [e l o q] at h
    cases h
theorem Same.seq {K : PySem.W.Frag} {H H' : Hp} {a : Addr} {xs : List V} (e : Same H H') (h : SqL K H a xs) : SqL K H' a xs := by
  rcases h with (h | ⟨o, h⟩) | h
  · exact .inl (.inl (e _ _ h))
  · exact .inl (.inr ⟨o, e _ _ h⟩)
  · exact .inr h
end L2
namespace L2
open PySem PySem.Spec PyProof.Rows
theorem forIn_fold {α β : Type} {l : List α} {f : α → β → Sem (ForInStep β)} {g : α → β → β} : ∀ (c : β), (∀ x ∈ l, ∀ c, f x c = pure (.yield (g x c))) → (forIn l c f : Sem β) = pure (l.foldl (fun c x => g x c) c) := by
  induction l with
  | nil => intro c _; rfl
  | cons x r ih =>
    intro c h
    rw [List.forIn_cons, h x List.mem_cons_self]
    exact ih _ fun y hy => h y (List.mem_cons_of_mem _ hy)
noncomputable def clStep (env : Env) (p : Str × NameKind) (cs : List (Str × Addr)) : List (Str × Addr) :=
  if p.2 = .free then (match env.cells.lookup p.1 with | some a => (p.1, a) :: cs | none => cs) else cs
noncomputable def clOf (scope : Scope) (env : Env) : List (Str × Addr) := scope.names.foldl (fun cs p => clStep env p cs) []
theorem clOf_closure {scope : Scope} {env : Env} (h : ∀ p ∈ scope.names, p.2 = .free → ∃ c, env.cells.lookup p.1 = some c) : closureFor scope env = pure (clOf scope env) := by
  simp only [closureFor]
  rw [forIn_fold (g := clStep env) [] (fun x hx c => by
    obtain ⟨n, kind⟩ := x
    by_cases hk : kind = .free
    · subst hk
      obtain ⟨a, e⟩ := h _ hx rfl
      have e' : env.cells.lookup n = some a := e
      simp [clStep, e', cellOf]
      try rfl
    · have hb : (kind == NameKind.free) = false := by simpa using hk
      simp [clStep, hb, hk])]
  rfl
theorem cl_go {env : Env} : ∀ (names : List (Str × NameKind)) (cs : List (Str × Addr)), (∀ x c, (x, c) ∈ cs → env.cells.lookup x = some c) →
    ∀ x c, (x, c) ∈ names.foldl (fun cs p => clStep env p cs) cs → env.cells.lookup x = some c
  | [], cs, h => h
  | p :: r, cs, h => by
    refine cl_go r _ ?_
    intro x c hx
    unfold clStep at hx
    dsimp only at hx
    split at hx
    · split at hx
      · rename_i a e
        rcases List.mem_cons.mp hx with z | z
        · cases z; exact e
        · exact h x c z
      · exact h x c hx
    · exact h x c hx
theorem cl_more {env : Env} {q : Str × Addr} : ∀ (names : List (Str × NameKind)) (cs : List (Str × Addr)), q ∈ cs → q ∈ names.foldl (fun cs p => clStep env p cs) cs
  | [], _, h => h
  | p :: r, cs, h => by
    refine cl_more r _ ?_
    unfold clStep
    dsimp only
    split
    · split
      · exact List.mem_cons_of_mem _ h
      · exact h
    · exact h
theorem cl_has {env : Env} {x : Str} {c : Addr} (e : env.cells.lookup x = some c) : ∀ (names : List (Str × NameKind)) (cs : List (Str × Addr)), (x, NameKind.free) ∈ names → (x, c) ∈ names.foldl (fun cs p => clStep env p cs) cs
  | [], _, h => by simp at h
  | p :: r, cs, h => by
    rcases List.mem_cons.mp h with z | z
    · subst z
      refine cl_more r _ ?_
      unfold clStep
      dsimp only
      rw [if_pos rfl, e]
      exact List.mem_cons_self
    · exact cl_has e r _ z
theorem lookup_some_of_mem {α : Type} {x : Str} {c : α} : ∀ {l : List (Str × α)}, (x, c) ∈ l → ∃ c', l.lookup x = some c'
  | [], h => by simp at h
  | (y, d) :: r, h => by
    by_cases e : x = y
    · subst e; exact ⟨d, by simp [List.lookup_cons]⟩
    · have hb : (x == y) = false := by simpa using e
      rcases List.mem_cons.mp h with z | z
      · cases z; exact absurd rfl e
      · obtain ⟨c', q⟩ := lookup_some_of_mem z
        exact ⟨c', by simp [List.lookup_cons, hb, q]⟩
theorem clOf_of {scope : Scope} {env : Env} {x : Str} {c : Addr} (h : (clOf scope env).lookup x = some c) : env.cells.lookup x = some c :=
  cl_go scope.names [] (fun _ _ z => by simp at z) x c (PySem.mem_of_lookup h)
theorem clOf_has {scope : Scope} {env : Env} {x : Str} {c : Addr} (hx : (x, NameKind.free) ∈ scope.names) (e : env.cells.lookup x = some c) : (clOf scope env).lookup x = some c := by
  obtain ⟨c', q⟩ := lookup_some_of_mem (cl_has e scope.names [] hx)
  have := clOf_of (scope := scope) q
  rw [e] at this
  cases this
  exact q
theorem lookup_relabel_free {env : Env} (hf : env.scope.kind = .function) : ∀ {names : List (Str × NameKind)} {x : Str}, names.lookup x = some .free → env.kindOf x = some .cell →
    (names.map fun (n, k) => if (k == NameKind.free && env.scope.kind == .function && env.kindOf n == some .cell) then (n, NameKind.cell) else (n, k)).lookup x = some .cell
  | [], _, h, _ => by simp at h
  | (n, k) :: r, x, h, hk => by
    have ih := @lookup_relabel_free env hf r x
    show List.lookup x ((if (k == NameKind.free && env.scope.kind == .function && env.kindOf n == some .cell) = true then (n, NameKind.cell) else (n, k)) :: _) = _
    cases hx : x == n with
    | true =>
      simp only [List.lookup_cons, hx] at h
      have e : x = n := by simpa using hx
      subst e
      cases h
      have hc : (NameKind.free == NameKind.free && env.scope.kind == .function && env.kindOf x == some NameKind.cell) = true := by rw [hf, hk]; rfl
      rw [if_pos hc]
      simp [List.lookup_cons]
    | false =>
      simp only [List.lookup_cons, hx] at h
      by_cases hc : (k == NameKind.free && env.scope.kind == .function && env.kindOf n == some .cell) = true
      · rw [if_pos hc]; simp only [List.lookup_cons, hx]; exact ih h hk
      · rw [if_neg hc]; simp only [List.lookup_cons, hx]; exact ih h hk
theorem cells_app : ∀ (names : List (Str × NameKind)) (n : Nat) (acc cl : List (Str × Addr)), cellsFrom n names (acc ++ cl) = cellsFrom n names acc ++ cl
  | [], _, _, _ => rfl
  | (x, k) :: r, n, acc, cl => by
    unfold cellsFrom
    split
    · exact cells_app r (n + 1) ((x, n) :: acc) cl
    · exact cells_app r n acc cl
theorem cells_split (names : List (Str × NameKind)) (n : Nat) (cl : List (Str × Addr)) {x : Str} {c : Addr} (h : (cellsFrom n names cl).lookup x = some c) :
    (cellsFrom n names []).lookup x = some c ∨ ((cellsFrom n names []).lookup x = none ∧ cl.lookup x = some c) := by
  have e := cells_app names n [] cl
  rw [List.nil_append] at e
  rw [e, List.lookup_append] at h
  cases q : (cellsFrom n names []).lookup x with
  | some d => rw [q] at h; exact .inl h
  | none => rw [q] at h; exact .inr ⟨rfl, h⟩
theorem cells_there (names : List (Str × NameKind)) (n : Nat) (cl : List (Str × Addr)) {x : Str} {c : Addr} (h : cl.lookup x = some c) : ∃ d, (cellsFrom n names cl).lookup x = some d := by
  have e := cells_app names n [] cl
  rw [List.nil_append] at e
  rw [e, List.lookup_append]
  cases q : (cellsFrom n names []).lookup x with
  | some d => exact ⟨d, rfl⟩
  | none => exact ⟨c, h⟩
theorem cells_later (names : List (Str × NameKind)) (n : Nat) (cl : List (Str × Addr)) {x : Str} {c : Addr} (h0 : (cellsFrom n names []).lookup x = none) (h : cl.lookup x = some c) : (cellsFrom n names cl).lookup x = some c := by
  have e := cells_app names n [] cl
  rw [List.nil_append] at e
  rw [e, List.lookup_append, h0]
  exact h
theorem cells_first (names : List (Str × NameKind)) (n : Nat) (cl : List (Str × Addr)) {x : Str} {c : Addr} (h : (cellsFrom n names []).lookup x = some c) : (cellsFrom n names cl).lookup x = some c := by
  have e := cells_app names n [] cl
  rw [List.nil_append] at e
  rw [e, List.lookup_append, h]
  rfl
theorem cells_mem : ∀ (names : List (Str × NameKind)) (n : Nat) (acc : List (Str × Addr)) {x : Str} {c : Addr}, (x, c) ∈ cellsFrom n names acc → (x, c) ∈ acc ∨ (x, NameKind.cell) ∈ names
  | [], _, _, _, _, h => .inl h
  | (y, k) :: r, n, acc, x, c, h => by
    unfold cellsFrom at h
    split at h
    · rename_i hk
      have hk' : k = .cell := by simpa using hk
      rcases cells_mem r (n + 1) ((y, n) :: acc) h with z | z
      · rcases List.mem_cons.mp z with z | z
        · cases z; subst hk'; exact .inr List.mem_cons_self
        · exact .inl z
      · exact .inr (List.mem_cons_of_mem _ z)
    · rcases cells_mem r n acc h with z | z
      · exact .inl z
      · exact .inr (List.mem_cons_of_mem _ z)
theorem blk_env {M : Model} {A : Around} {E : Value → Shared → Prop} {s : Shared} {scope : Scope} {globals : Addr} {cl : List (Str × Addr)} {qual : Str} {env : Env} {Q : Env → Shared → Prop}
    (hQ : Q (newEnv scope s.heap.objs.size globals (cellsFrom (s.heap.objs.size + 1) scope.names cl) qual none .none (some env) builtinsNs) { s with heap := pushCells (s.heap.push { cls := .type "dict", data := .dict #[] }) scope.names }) :
    wpAny M A (newFunctionEnv scope globals cl [] qual none .none (some env)) Q E s := by
  simp only [newFunctionEnv, Option.isSome_some, if_true]
  refine wpAny_bind (wpAny_alloc ?_)
  refine wpAny_bind (wpAny_layCells _ (fun name kind cells => by cases hkc : kind == NameKind.cell <;> simp [hkc]) _ _ _ _ ?_)
  rw [show ({ s with heap := s.heap.push { cls := .type "dict", data := .dict #[] } } : Shared).heap.objs.size = s.heap.objs.size + 1 from Heap.size_push ..]
  refine wpAny_bind (wpAny_pure ?_)
  exact wpAny_pure hQ
structure Blk (X : Cx) (scope : Scope) (N' : List Str) (cap : List (Option Nat)) : Prop where
  kind : scope.kind = .function
  cells : ∀ y ∈ scope.names, y.2 = .cell → scope.names.lookup y.1 = some .cell
  names : ∀ y ∈ scope.names, y.2 = .local → scope.names.lookup y.1 = some .local
  free : ∀ y ∈ scope.names, y.2 = .free → X.env.kindOf y.1 = some .cell
  caps : ∀ (i j : Nat), cap[i]? = some (some j) → ∃ x, N'[i]? = some x ∧ X.N[j]? = some x ∧ scope.names.lookup x = some .free
  len : cap.length = N'.length
  nd : N'.Nodup
noncomputable def capSt (cap : List (Option Nat)) (σ : St) : St := cap.map fun o => match o with
  | some j => (σ[j]?).getD none
  | none => none
noncomputable def blkCx (X : Cx) (scope : Scope) (N' : List Str) (C : Addr) (s₃ : Shared) (H₃ : Hp) (fp : List Addr) : Cx :=
  { X with env := compEnvC scope (cellsFrom (C + 1) scope.names (clOf scope X.env)) C X.env, N := N', s₀ := s₃, H₀ := H₃, outer := X.stack, ex := fp, fn := fun x => decide (scope.names.lookup x = some .cell), pn := [], xe := fun _ _ => False }
theorem blk_inv {X : Cx} {scope : Scope} {N' : List Str} {cap : List (Option Nat)} {pins : List (Addr × Obj)} {σ : St} {H : Hp} {s : Shared} {fp : List Addr} {h' : Heap} {tk : Nat} {m' : Str → Option Value}
    (B : Blk X scope N' cap) (I : Inv X pins σ H s) (hf : ∀ b ∈ fp, FpOk X pins H b) (hlt : ∀ b ∈ fp, b < s.heap.objs.size)
    (hn : h'.Ns s.heap.objs.size m') (hk : ∀ b o, s.heap.get? b = some o → h'.get? b = some o) (ow : CellsOk h' (s.heap.objs.size + 1) (cellsFrom (s.heap.objs.size + 1) scope.names [])) :
    Inv (blkCx X scope N' s.heap.objs.size s H fp) [] (capSt cap σ) H { s with heap := h', toks := tk } := by
  have cl : ∀ x c, (clOf scope X.env).lookup x = some c → X.env.cells.lookup x = some c := fun x c h => clOf_of h
  have hsz : ∀ x c, X.env.cells.lookup x = some c → c < s.heap.objs.size := fun x c e => by
    obtain ⟨v, q⟩ := I.cell x c e
    exact q.lt
  have own : ∀ x c, (cellsFrom (s.heap.objs.size + 1) scope.names []).lookup x = some c → h'.IsCell c none ∧ s.heap.objs.size < c := fun x c e => by
    obtain ⟨q1, q2⟩ := ow.empty x c (PySem.mem_of_lookup e)
    exact ⟨q1, Nat.lt_of_lt_of_le (Nat.lt_succ_self _) q2⟩
  refine ⟨⟨I.ok.mod, B.kind, I.ok.glob, I.ok.blt, Nat.le_refl _, ?_, ?_, ?_, I.ok.hd, I.ok.frames, .inl rfl, ?_, I.bs, Nat.le_trans I.ok.bsz I.sz, ?_, ?_, I.stack, I.stkFree⟩,
    rfl, I.bare, Un.kept hk, ⟨m', hn, ?_⟩, ?_, I.hok.fresh (Nat.le_refl _), ?_, ?_, I.hok.kept hk, ?_⟩
  · intro x y c h1 h2
    rcases cells_split _ _ _ h1 with a1 | ⟨_, a1⟩ <;> rcases cells_split _ _ _ h2 with a2 | ⟨_, a2⟩
    · exact name_of_addr ow.apart (PySem.mem_of_lookup a1) (PySem.mem_of_lookup a2)
    · exact absurd (hsz y c (cl y c a2)) (Nat.not_lt_of_lt (own x c a1).2)
    · exact absurd (hsz x c (cl x c a1)) (Nat.not_lt_of_lt (own y c a2).2)
    · exact I.ok.inj x y c (cl x c a1) (cl y c a2)
  · intro x hx
    have hx : (relabel scope X.env).names.lookup x = some .cell ∨ (relabel scope X.env).names.lookup x = some .free := hx
    have key : ∃ k, (relabel scope X.env).names.lookup x = some k ∧ (k = .cell ∨ k = .free) := by
      rcases hx with h | h
      · exact ⟨_, h, .inl rfl⟩
      · exact ⟨_, h, .inr rfl⟩
    obtain ⟨k, hk1, hk2⟩ := key
    obtain ⟨⟨n, k0⟩, hm, he⟩ := List.mem_map.mp (PySem.mem_of_lookup hk1)
    have fr : (k0 = .free ∨ k0 = .cell) ∧ n = x := by
      dsimp only at he
      by_cases hc : (k0 == NameKind.free && X.env.scope.kind == .function && X.env.kindOf n == some .cell) = true
      · rw [if_pos hc] at he
        cases he
        simp only [Bool.and_eq_true] at hc
        exact ⟨.inl (by simpa using hc.1.1), rfl⟩
      · rw [if_neg hc] at he
        cases he
        rcases hk2 with z | z
        · exact ⟨.inr z, rfl⟩
        · exact ⟨.inl z, rfl⟩
    obtain ⟨hk0, rfl⟩ := fr
    rcases hk0 with rfl | rfl
    · obtain ⟨c, e⟩ := I.ok.has n (.inl (B.free _ hm rfl))
      exact cells_there _ _ _ (clOf_has hm e)
    · obtain ⟨c, e⟩ := cell_has (sc := scope) (n := s.heap.objs.size + 1) (B.cells _ hm rfl)
      exact ⟨c, cells_first _ _ _ e⟩
  · intro x c hx e
    have hx : scope.names.lookup x = some .cell := of_decide_eq_true hx
    rcases cells_split _ _ _ e with e | ⟨n0, _⟩
    · exact Nat.le_of_lt (own x c e).2
    · obtain ⟨d, q⟩ := cell_has (sc := scope) (n := s.heap.objs.size + 1) hx
      rw [q] at n0; cases n0
  · intro b hb
    refine ⟨Nat.ne_of_lt (hlt b hb), fun x c e => ?_⟩
    rcases cells_split _ _ _ e with e | ⟨_, e⟩
    · exact fun z => absurd (hlt b hb) (Nat.not_lt_of_lt (by rw [← z]; exact (own x c e).2))
    · exact (hf b hb).2.2.2.2.1 x c (cl x c e)
  · intro b o e hb
    rcases (hf b hb).2.2.2.1 with z | z
    · exact I.ok.noex b o e z
    · exact absurd (Nat.lt_of_lt_of_le (Heap.lt_size e) (Nat.le_trans I.ok.bsz z)) (Nat.lt_irrefl _)
  · intro b hb hfs
    rcases List.mem_cons.mp (I.stkSub b hfs) with z | z
    · exact (hf b hb).2.1 z
    · exact (hf b hb).2.2.1 z
  · intro i x v e1 e2 _
    have e1 : N'[i]? = some x := e1
    have e2 : (capSt cap σ)[i]? = some (some v) := e2
    unfold capSt at e2
    rw [List.getElem?_map] at e2
    cases hc : cap[i]? with
    | none => rw [hc] at e2; cases e2
    | some o =>
      rw [hc] at e2
      cases o with
      | none => cases e2
      | some j =>
        have e3 : (σ[j]?).getD none = some v := Option.some.inj e2
        have e4 : σ[j]? = some (some v) := by
          cases q : σ[j]? with
          | none => rw [q] at e3; cases e3
          | some w' => rw [q] at e3; have : w' = some v := e3; rw [this]
        obtain ⟨y, h1, h2, h3⟩ := B.caps i j hc
        rw [e1] at h1
        cases h1
        have hcell : X.env.kindOf x = some .cell := B.free _ (PySem.mem_of_lookup h3) rfl
        obtain ⟨m, _, hl⟩ := I.loc
        obtain ⟨u, r, l⟩ := hl j x v h2 e4 (.inr (.inl hcell))
        refine ⟨u, r, ?_⟩
        rcases l with ⟨k, _⟩ | ⟨_, c, e, z⟩
        · rw [hcell] at k; cases k
        · refine .inr ⟨.inl ?_, c, cells_later _ _ _ ?_ (clOf_has (PySem.mem_of_lookup h3) e), ?_⟩
          · exact lookup_relabel_free I.ok.kind h3 hcell
          · cases q : (cellsFrom (s.heap.objs.size + 1) scope.names []).lookup x with
            | none => rfl
            | some d =>
              rcases cells_mem _ _ _ (PySem.mem_of_lookup q) with z | z
              · cases z
              · rw [B.cells _ z rfl] at h3; cases h3
          · obtain ⟨o, q1, q2⟩ := z
            exact ⟨o, hk c o q1, q2⟩
  · intro x c e
    rcases cells_split _ _ _ e with e | ⟨_, e⟩
    · exact ⟨none, (own x c e).1⟩
    · obtain ⟨v, o, q1, q2⟩ := I.cell x c (cl x c e)
      exact ⟨v, o, hk c o q1, q2⟩
  · intro x c e
    rcases cells_split _ _ _ e with e | ⟨_, e⟩
    · exact I.hok.fresh (Nat.le_of_lt (own x c e).2)
    · exact I.freeC x c (cl x c e)
  · intro p hp
    exact absurd (show p ∈ ([] : List (Addr × Obj)) from hp) (by simp)
  · show (capSt cap σ).length = N'.length
    unfold capSt
    rw [List.length_map]
    exact B.len
noncomputable def PTs (X : Cx) (ifs : List Expr) (t : TT) : Prop :=
  ∀ (pins : List (Addr × Obj)) (s : Shared) (σ : St) (H : Hp) (Q : Bool → Hp → Prop), Inv X pins σ H s → t σ H Q →
    wpAny (model X.prog X.w) X.A (forIn ifs true fun c r => if r = true then do let ok ← isTrue c X.env (eval c X.env); pure (ForInStep.yield ok) else pure (ForInStep.yield r)) (TP X pins σ Q) X.xe s
noncomputable def tAll : TT := fun _ H Q => Q true H
theorem pts_nil {X : Cx} : PTs X [] tAll := fun _ _ _ H _ I h => wpAny_tests_nil ⟨H, I, h⟩
theorem pts_one {X : Cx} {c : Expr} {t : TT} (h : PT X c t) : PTs X [c] t := fun pins s σ H Q I hw => wpAny_tests_one (h pins s σ H Q I hw)
noncomputable def TComp (J : It) (g : TG) (tc : TT) (te : TE) (σ₀ : St) (H : Hp) (Q : VK) : Prop :=
  ∃ W : Addr → Nat → Nat → List V → St → Hp → Prop, ∀ D, H D = none → (∃ m, W D 0 m [] σ₀ (upd H D (.lst []))) ∧ ∀ i m ys σ1 H1, W D i m ys σ1 H1 → H1 D = some (.lst ys) →
    (J.stop i H1 ∧ Q (.ref D) H1) ∨ (J.go i H1 ∧ ∀ x H2, J.yld i H1 x H2 → g x σ1 H2 fun σ3 H3 => tc σ3 H3 fun b H4 =>
      if b = true then te σ3 H4 fun v H5 => H5 D = some (.lst ys) ∧ ys.length < sizeLine ∧ ∃ m', m' < m ∧ W D (i + 1) m' (ys ++ [v]) σ3 (upd H5 D (.lst (ys ++ [v])))
      else H4 D = some (.lst ys) ∧ ∃ m', m' < m ∧ W D (i + 1) m' ys σ3 H4)
theorem comp_run {X : Cx} {elt iter tg : Expr} {ifs : List Expr} {scope : Scope} {pos : Pos} {N' : List Str} {cap : List (Option Nat)} {pins : List (Addr × Obj)} {σ : St} {H : Hp} {s : Shared} {J : It} {it : Addr} {fp : List Addr} {tn : Nat → Heap → Prop}
    {g : TG} {tc : TT} {te : TE} {Q : VK} {RR : Value → Addr → Result → Shared → Prop} (hc : X.calm = true) (B : Blk X scope N' cap) (I : Inv X pins σ H s) (T : Turn X.prog X.w X.K tg J fp it tn) (st : tn 0 s.heap) (hf : ∀ b ∈ fp, FpOk X pins H b)
    (hg : ∀ C s₃ H₃ fp, PG (blkCx X scope N' C s₃ H₃ fp) tg g) (ht : ∀ C s₃ H₃ fp, PTs (blkCx X scope N' C s₃ H₃ fp) ifs tc) (he : ∀ C s₃ H₃ fp, PE (blkCx X scope N' C s₃ H₃ fp) elt te)
    (w : TComp J g tc te (capSt cap σ) H Q)
    (fin : ∀ D C s' H' m', s.heap.get? C = none → s.heap.objs.size ≤ C → s'.heap.Ns C m' → H' C = none → Inv X pins σ H' s' → Q (.ref D) H' → RR (.ref D) C (.ok .next) s') :
    wpAny (model X.prog X.w) X.A (newList []) (fun acc s₃ => wpAny (model X.prog X.w) X.A (newFunctionEnv scope X.env.globals (clOf scope X.env) [] X.env.qual none .none (some X.env)) (fun cenv s₄ =>
      codeAny (model X.prog X.w) X.A (.compStart (.ListComp elt [⟨tg, iter, ifs, 0⟩] scope pos) 0 (.ref it) acc { cenv with scope := relabel scope X.env }) (RR acc cenv.locals) s₄) X.xe s₃) X.xe s := by
  refine wpAny_newObj_type (blk_env ?_)
  dsimp only
  obtain ⟨W, hW⟩ := w
  have hD : H s.heap.objs.size = none := I.hok.fresh (Nat.le_refl _)
  obtain ⟨⟨m0, w0⟩, turn⟩ := hW s.heap.objs.size hD
  have I3 : Inv X pins σ (upd H s.heap.objs.size (.lst [])) { s with heap := s.heap.push { cls := .type "list", data := .seq ([] : List Value).toArray } } := I.lnew (its := []) (ys := []) (t' := s.toks) .nil (Nat.zero_le _)
  generalize hH2 : s.heap.push { cls := .type "list", dict := none, data := .seq ([] : List Value).toArray } = H2 at I3 ⊢
  have hC : H2.objs.size = s.heap.objs.size + 1 := by rw [← hH2, Heap.size_push]
  have lt3 : ∀ b ∈ fp, b < s.heap.objs.size := fun b hb => by
    obtain ⟨o, e, _⟩ := T.obj 0 _ st b hb
    exact Heap.lt_size e
  have hf3 : ∀ b ∈ fp, FpOk X pins (upd H s.heap.objs.size (.lst [])) b := fun b hb => by
    refine ⟨?_, (hf b hb).2⟩
    rw [upd_ne (Nat.ne_of_lt (lt3 b hb))]
    exact (hf b hb).1
  have ow : CellsOk (pushCells (H2.push { cls := .type "dict", data := .dict #[] }) scope.names) (H2.objs.size + 1) (cellsFrom (H2.objs.size + 1) scope.names []) := by
    have ok := cellsFrom_ok scope.names (H2.push { cls := .type "dict", data := .dict #[] }) (H2.objs.size + 1) [] ⟨fun _ _ hm => (nomatch hm), List.Pairwise.nil⟩ (by rw [Heap.size_push]; exact Nat.le_refl _)
    rw [Heap.size_push] at ok
    exact ok
  have hns₁ : (pushCells (H2.push { cls := .type "dict", data := .dict #[] }) scope.names).Ns H2.objs.size fun _ => none := (Heap.Ns.new H2 (.type "dict")).keeps (pushCells_keeps _ _)
  have keep : ∀ b o, H2.get? b = some o → (pushCells (H2.push { cls := .type "dict", data := .dict #[] }) scope.names).get? b = some o := fun b o e => pushCells_keeps _ _ b o (Heap.get?_push_of_some _ e)
  generalize pushCells (H2.push { cls := .type "dict", data := .dict #[] }) scope.names = h₁ at ow hns₁ keep ⊢
  have I4 : Inv (blkCx X scope N' H2.objs.size { s with heap := H2 } (upd H s.heap.objs.size (.lst [])) fp) [] (capSt cap σ) (upd H s.heap.objs.size (.lst [])) { s with heap := h₁ } :=
    blk_inv (s := { s with heap := H2 }) B I3 hf3 (fun b hb => by show b < H2.objs.size; rw [hC]; exact Nat.lt_succ_of_lt (lt3 b hb)) hns₁ keep ow
  have st4 : tn 0 h₁ := T.keep 0 _ _ st fun b hb o e => keep b o (by rw [← hH2]; exact Heap.get?_push_of_some _ e)
  have loop : ∀ s₅ : Shared, s₅ = { s with heap := h₁ } →
      codeAny (model X.prog X.w) X.A (.compLoop (.ListComp elt [⟨tg, iter, ifs, 0⟩] scope pos) 0 (.ref it) (.ref s.heap.objs.size) (compEnvC scope (cellsFrom (H2.objs.size + 1) scope.names (clOf scope X.env)) H2.objs.size X.env))
        (RR (.ref s.heap.objs.size) H2.objs.size) s₅ := by
    rintro s₅ rfl
    refine codeAny_loop rfl (fun n s' => ∃ i ys σ' H', Inv (blkCx X scope N' H2.objs.size { s with heap := H2 } (upd H s.heap.objs.size (.lst [])) fp) [] σ' H' s' ∧ tn i s'.heap ∧ (∀ b ∈ fp, H' b = none) ∧ H' s.heap.objs.size = some (.lst ys) ∧ W s.heap.objs.size i n ys σ' H') ?_ m0
      ⟨0, [], _, _, I4, st4, fun b hb => (hf3 b hb).1, upd_same, w0⟩
    rintro n s6 ⟨i, ys, σ6, H6, I6, st6, fr6, hD6, w6⟩
    show wpAny _ X.A ((compTurn (.ListComp elt [⟨tg, iter, ifs, 0⟩] scope pos) 0 (.ref it) (.ref s.heap.objs.size) (compEnvC scope (cellsFrom (H2.objs.size + 1) scope.names (clOf scope X.env)) H2.objs.size X.env)).onRaise (fun x => do noteFrame x (compEnvC scope (cellsFrom (H2.objs.size + 1) scope.names (clOf scope X.env)) H2.objs.size X.env); theTreesLotGoes x)) _ _ s6
    refine wpAny_noted ?_
    rw [compTurn_list]
    have stat : ∀ {H' : Hp}, (∀ b ∈ fp, H' b = none) → ∀ b ∈ fp, FpOk (blkCx X scope N' H2.objs.size { s with heap := H2 } (upd H s.heap.objs.size (.lst [])) fp) [] H' b := fun hn b hb =>
      ⟨hn b hb, Nat.ne_of_lt (by show b < H2.objs.size; rw [hC]; exact Nat.lt_succ_of_lt (lt3 b hb)), I4.ok.exfs b hb, .inl hb, fun x c e => (I4.ok.exf b hb).2 x c e, fun p hp => absurd (show p ∈ ([] : List (Addr × Obj)) from hp) (by simp)⟩
    rcases turn i n ys σ6 H6 w6 hD6 with ⟨stop, qn⟩ | ⟨go, step⟩
    · refine wpAny_bind (wpAny_standAt (wpAny_bind (thn (T.done (blkCx X scope N' H2.objs.size { s with heap := H2 } (upd H s.heap.objs.size (.lst [])) fp) rfl rfl rfl hc i [] s6 _ H6 _ I6 (stat fr6) st6 stop) fun r s7 ⟨hr, I7⟩ => ?_)))
      subst hr
      refine wpAny_pure ?_
      obtain ⟨m7, hn7, _⟩ := I7.loc
      refine fin _ _ s7 H6 m7 ?_ ?_ hn7 I7.free ?_ qn
      · exact Heap.get?_none_of_le (by rw [hC]; exact Nat.le_succ _)
      · rw [hC]; exact Nat.le_succ _
      · refine I3.call' (ch := fp) ?_ ?_ I7.hok I7.bare fun b hb => ?_
        · exact I7.os
        · exact I7.base
        · obtain ⟨f0, f1, f2, f3, f4, f5⟩ := hf3 b hb
          exact ⟨f3, f1, f4, f5⟩
    · refine wpAny_bind (wpAny_standAt (wpAny_bind (thn (T.item (blkCx X scope N' H2.objs.size { s with heap := H2 } (upd H s.heap.objs.size (.lst [])) fp) rfl rfl rfl hc i [] s6 _ H6 _ I6 (stat fr6) st6 go) fun r s7 ⟨u, hr, h7⟩ => ?_)))
      subst hr
      refine wpAny_bind (thn h7 fun _ s8 ⟨x, H8, I8, r8, y8, st8, fr8⟩ => ?_)
      have I8' := I8.pinned (stat fr8) (T.obj _ _ st8)
      have bad : ∀ {α : Type} {t : Sem α} {Q' : α → Shared → Prop} {s' : Shared} {E : Value → Shared → Prop}, wpAny (model X.prog X.w) X.A t Q' (fun _ _ => False) s' → wpAny (model X.prog X.w) X.A t Q' E s' := fun h => wpAny_mono h (fun _ _ q => q) fun _ _ z => z.elim
      refine wpAny_bind (bad (thn (hg _ _ _ _ _ s8 _ H8 x u _ I8' r8 (step x H8 y8)) fun _ s9 ⟨σ9, H9, I9, q9⟩ => ?_))
      refine bad ?_
      refine wpAny_bind (thn (ht _ _ _ _ _ s9 σ9 H9 _ I9 q9) fun ok s10 ⟨H10, I10, q10⟩ => ?_)
      have again : ∀ {σ' : St} {H' : Hp} {ys' : List V} {s' : Shared} {m' : Nat}, Inv (blkCx X scope N' H2.objs.size { s with heap := H2 } (upd H s.heap.objs.size (.lst [])) fp) ([] ++ pinsAt fp s8.heap) σ' H' s' → H' s.heap.objs.size = some (.lst ys') →
          m' < n → W s.heap.objs.size (i + 1) m' ys' σ' H' →
          ∃ m, m < n ∧ ∃ i ys σ' H', Inv (blkCx X scope N' H2.objs.size { s with heap := H2 } (upd H s.heap.objs.size (.lst [])) fp) [] σ' H' s' ∧ tn i s'.heap ∧ (∀ b ∈ fp, H' b = none) ∧ H' s.heap.objs.size = some (.lst ys) ∧ W s.heap.objs.size i m ys σ' H' := fun {σ' H' ys' s' m'} J' hD' hm' w' => by
        refine ⟨m', hm', i + 1, ys', σ', H', J'.unpinned, T.keep _ _ _ st8 fun b hb o e => (J'.pin (b, o) (List.mem_append_right _ (List.mem_append_right _ (mem_pinsAt hb e)))).1, fun b hb => ?_, hD', w'⟩
        obtain ⟨o, e, d⟩ := T.obj _ _ st8 b hb
        exact (J'.pin (b, o) (List.mem_append_right _ (List.mem_append_right _ (mem_pinsAt hb e)))).2.1
      cases ok with
      | false =>
        obtain ⟨hD10, m', hm', w'⟩ := q10
        exact wpAny_pure ⟨rfl, again I10 hD10 hm' w'⟩
      | true =>
        refine wpAny_bind (wpAny_bind (thn (he _ _ _ _ _ s10 σ9 H10 _ I10 q10) fun y s11 ⟨v, H11, I11, r11, hD11, hlen, m', hm', w'⟩ => ?_))
        refine wpAny_bind (thn (mt_append (X := blkCx X scope N' H2.objs.size { s with heap := H2 } (upd H s.heap.objs.size (.lst [])) fp) _ s11 σ9 H11 (.ref s.heap.objs.size) [v] (.ref s.heap.objs.size) [y] (fun _ H' => H' = upd H11 s.heap.objs.size (.lst (ys ++ [v]))) I11 rfl (.cons r11 .nil) ⟨_, _, _, rfl, rfl, hD11, hlen, rfl⟩) fun _ s12 ⟨_, H12, I12, _, e12⟩ => ?_)
        subst e12
        exact wpAny_pure (wpAny_pure ⟨rfl, again I12 upd_same hm' w'⟩)
  exact codeAny_compStart_list (loop _ rfl) (T.self _ 0 _ _ _ st4 (loop _ rfl))
end L2
namespace L2
open PySem PySem.Spec PyProof.Rows
noncomputable def tComp (wi : TI) (cap : List (Option Nat)) (g : TG) (tc : TT) (te : TE) : TE := fun σ H Q => wi σ H fun J H1 => TComp J g tc te (capSt cap σ) H1 Q
section
variable {X : Cx} {elt iter tg : Expr} {ifs : List Expr} {scope : Scope} {pos spos : Pos} {N' : List Str} {cap : List (Option Nat)} {wi : TI} {g : TG} {tc : TT} {te : TE}
theorem pe_comp (hc : X.calm = true) (B : Blk X scope N' cap) (hi : PI X tg iter wi)
    (hg : ∀ C s₃ H₃ fp, PG (blkCx X scope N' C s₃ H₃ fp) tg g) (ht : ∀ C s₃ H₃ fp, PTs (blkCx X scope N' C s₃ H₃ fp) ifs tc) (he : ∀ C s₃ H₃ fp, PE (blkCx X scope N' C s₃ H₃ fp) elt te)
    (hs : ∀ x, foldedSetIterable iter X.env x = pure x := by intro _; rfl) : PE X (.ListComp elt [⟨tg, iter, ifs, 0⟩] scope pos) (tComp wi cap g tc te) := by
  intro pins s σ H Q I h
  rw [eval_ListComp]
  refine wpAny_comprehension_free (use := none) rfl hs (clOf_closure fun p hp hk => I.ok.has p.1 (.inl (B.free p hp hk))) B.kind B.names ?_
  refine thn (hi pins s σ H _ I h) fun v s1 h1 => thn h1 fun itv s2 ⟨it, fp, tn, J, H2, e, I2, T, st2, f2, w⟩ => ?_
  subst e
  refine comp_run (RR := fun acc C => compPost (model X.prog X.w) X.A X.xe none (EP X pins σ Q) acc C) hc B I2 T st2 f2 hg ht he w ?_
  intro D C s' H' m' hC hCs hn hCf I' q
  refine ⟨m', hn, fun h'' hs'' => ⟨.ref D, H', ?_, rfl, q⟩⟩
  refine I'.turned (t' := s'.toks) (it := C) (fun b o hb e => hs''.extBut b o hb e) hCf ?_ (.inr (Nat.le_trans I2.sz hCs)) ?_ ?_
  · exact Nat.ne_of_gt (Nat.lt_of_lt_of_le I2.lt hCs)
  · intro x c e z
    obtain ⟨v, q⟩ := I2.cell x c e
    exact absurd (Nat.lt_of_lt_of_le q.lt (by rw [z]; exact hCs)) (Nat.lt_irrefl _)
  · intro p hp z
    exact absurd (Nat.lt_of_lt_of_le (Heap.lt_size (I2.pin p hp).1) (by rw [z]; exact hCs)) (Nat.lt_irrefl _)
theorem ps_setC {i : Nat} {x : Str} {pos' : Pos} (hN : X.N.Nodup) (hxi : X.N[i]? = some x) (hx : X.env.scope.names.lookup x = some .local) (hc : X.calm = true) (B : Blk X scope N' cap) (hi : PI X tg iter wi)
    (hg : ∀ C s₃ H₃ fp, PG (blkCx X scope N' C s₃ H₃ fp) tg g) (ht : ∀ C s₃ H₃ fp, PTs (blkCx X scope N' C s₃ H₃ fp) ifs tc) (he : ∀ C s₃ H₃ fp, PE (blkCx X scope N' C s₃ H₃ fp) elt te)
    (hsw : swapsWith (.ListComp elt [⟨tg, iter, ifs, 0⟩] scope pos) (some (.Name x pos')) spos.line X.env = pure true)
    (hs : ∀ x, foldedSetIterable iter X.env x = pure x := by intro _; rfl) :
    PS X (.Assign [.Name x pos'] (.ListComp elt [⟨tg, iter, ifs, 0⟩] scope pos) spos) (tAsg (tComp wi cap g tc te) (gName i)) := by
  intro pins s σ H Dn I h
  rw [exec_Assign_Name_used _ _ _ _ hsw]
  refine wpAny_bind (wpAny_standAt (wpAny_bind ?_))
  show wpAny _ X.A (do let _ ← comprehension (.ListComp elt [⟨tg, iter, ifs, 0⟩] scope pos) scope X.env _ (newList []) false (eval iter X.env) (some (assign (.Name x pos') X.env))) _ _ s
  refine wpAny_bind (wpAny_mono (wpAny_comprehension_free (use := some (assign (.Name x pos') X.env)) (Q := fun _ s' => SP X pins Dn .next s') rfl hs (clOf_closure fun p hp hk => I.ok.has p.1 (.inl (B.free p hp hk))) B.kind B.names ?_) (fun _ s' hq => wpAny_pure (wpAny_pure hq)) fun _ _ e => e)
  refine thn (hi pins s σ H _ I h) fun v s1 h1 => thn h1 fun itv s2 ⟨it, fp, tn, J, H2, e, I2, T, st2, f2, w⟩ => ?_
  subst e
  refine comp_run (RR := fun acc C => compPost (model X.prog X.w) X.A X.xe (some (assign (.Name x pos') X.env)) (fun _ s' => SP X pins Dn .next s') acc C) hc B I2 T st2 f2 hg ht he w ?_
  intro D C s' H' m' hC hCs hn hCf I' q
  have nL : C ≠ X.env.locals := Nat.ne_of_gt (Nat.lt_of_lt_of_le I2.lt hCs)
  have nC : ∀ y c, X.env.cells.lookup y = some c → c ≠ C := fun y c e z => by
    obtain ⟨v, q⟩ := I2.cell y c e
    exact absurd (Nat.lt_of_lt_of_le q.lt (by rw [z]; exact hCs)) (Nat.lt_irrefl _)
  show wpAny _ X.A (assign (.Name x pos') X.env (.ref D)) _ _ _
  refine wpAny_assign_Name (store_ok2 (v := .ref D) I' hN hxi (.inl hx) rfl (fun s3 I3 ⟨a, hsb, ha⟩ => ?_) (.inr hx))
  have ne : C ≠ a := by
    rcases ha with z | z
    · rw [z]; exact nL
    · exact fun y => nC x a z y.symm
  refine ⟨m', hn.sameBut hsb ne, fun h'' hs'' => ⟨_, H', ?_, q⟩⟩
  refine I3.turned (t' := s3.toks) (it := C) (fun b o hb e => hs''.extBut b o hb e) hCf nL (.inr (Nat.le_trans I2.sz hCs)) nC ?_
  intro p hp z
  exact absurd (Nat.lt_of_lt_of_le (Heap.lt_size (I2.pin p hp).1) (by rw [z]; exact hCs)) (Nat.lt_irrefl _)
end
end L2
namespace L2.L3
open PySem PySem.Spec PyProof.Rows PySem.W
noncomputable def excC (K : Frag) (c : Str) : Option Addr := match nsIn K mainGlobals c with
  | some (some (.ref C)) => some C
  | _ => none
structure ExO (h : Heap) (a C : Addr) (ox : Obj) : Prop where
  at_ : h.get? a = some ox
  cls : ox.cls = .ref C
end L2.L3
namespace L2.L3
open PySem PySem.Spec PyProof.Rows
noncomputable def keyD : Key → PyData
  | .inl i => .int i
  | .inr x => .str x
mutual
inductive Rep (K : PySem.W.Frag) (G : Hp) : V → PyData → Prop
  | none : Rep K G .non .none
  | bool (b : Bool) : Rep K G (.bl b) (.bool b)
  | int (i : Int) : Rep K G (.int i) (.int i)
  | str (x : Str) : Rep K G (.str x) (.str x)
  | list {a : Addr} {xs : List V} {ds : List PyData} : SqL K G a xs → RepAll K G xs ds → Rep K G (.ref a) (.list ds)
  | tuple {a : Addr} {xs : List V} {ds : List PyData} : SqT K G a xs → RepAll K G xs ds → Rep K G (.ref a) (.tuple ds)
  | dict {a : Addr} {kvs : List (Key × V)} {D : List (PyData × PyData)} : G a = some (.dK kvs) → D.map (·.1) = kvs.map (fun p => keyD p.1) → RepAll K G (kvs.map (·.2)) (D.map (·.2)) → Rep K G (.ref a) (.dict D)
inductive RepAll (K : PySem.W.Frag) (G : Hp) : List V → List PyData → Prop
  | nil : RepAll K G [] []
  | cons {v : V} {vs : List V} {d : PyData} {ds : List PyData} : Rep K G v d → RepAll K G vs ds → RepAll K G (v :: vs) (d :: ds)
end
theorem seqT {K : PySem.W.Frag} {H H' : Hp} {a : Addr} {xs : List V} (e : Same H H') (h : SqT K H a xs) : SqT K H' a xs := by
  rcases h with (h | ⟨o, h⟩) | h
  · exact .inl (.inl (e _ _ h))
  · exact .inl (.inr ⟨o, e _ _ h⟩)
  · exact .inr h
section
variable {K : PySem.W.Frag} {G G' : Hp}
mutual
theorem Rep.mono (s : Same G G') : ∀ {v : V} {d : PyData}, Rep K G v d → Rep K G' v d
  | _, _, .none => .none
  | _, _, .bool b => .bool b
  | _, _, .int i => .int i
  | _, _, .str x => .str x
  | _, _, .list h r => .list (s.seq h) (RepAll.mono s r)
  | _, _, .tuple h r => .tuple (seqT s h) (RepAll.mono s r)
  | _, _, .dict h e r => .dict (s _ _ h) e (RepAll.mono s r)
theorem RepAll.mono (s : Same G G') : ∀ {vs : List V} {ds : List PyData}, RepAll K G vs ds → RepAll K G' vs ds
  | _, _, .nil => .nil
  | _, _, .cons r t => .cons (Rep.mono s r) (RepAll.mono s t)
end
theorem RepAll.length : ∀ {vs : List V} {ds : List PyData}, RepAll K G vs ds → vs.length = ds.length
  | _, _, .nil => rfl
  | _, _, .cons _ t => by simp [RepAll.length t]
theorem RepAll.get : ∀ {vs : List V} {ds : List PyData} {i : Nat} {d : PyData}, RepAll K G vs ds → ds[i]? = some d → ∃ v, vs[i]? = some v ∧ Rep K G v d
  | _, _, _, _, .nil, e => by simp at e
  | _, _, 0, _, .cons r _, e => by simp at e; subst e; exact ⟨_, rfl, r⟩
  | _, _, i + 1, d, .cons _ t, e => by
    obtain ⟨u, h1, h2⟩ := RepAll.get (i := i) (d := d) t (by simpa using e)
    exact ⟨u, by simpa using h1, h2⟩
theorem RepAll.append : ∀ {vs ws : List V} {ds es : List PyData}, RepAll K G vs ds → RepAll K G ws es → RepAll K G (vs ++ ws) (ds ++ es)
  | _, _, _, _, .nil, h => h
  | _, _, _, _, .cons r t, h => .cons r (RepAll.append t h)
theorem RepAll.take : ∀ {vs : List V} {ds : List PyData} (n : Nat), RepAll K G vs ds → RepAll K G (vs.take n) (ds.take n)
  | _, _, 0, _ => .nil
  | _, _, _ + 1, .nil => .nil
  | _, _, n + 1, .cons r t => .cons r (RepAll.take n t)
theorem RepAll.drop : ∀ {vs : List V} {ds : List PyData} (n : Nat), RepAll K G vs ds → RepAll K G (vs.drop n) (ds.drop n)
  | _, _, 0, r => r
  | _, _, _ + 1, .nil => .nil
  | _, _, n + 1, .cons _ t => RepAll.drop n t
theorem RepAll.ints : ∀ {vs : List V} {ns : List Int}, RepAll K G vs (ns.map .int) → vs = ns.map V.int
  | [], [], _ => rfl
  | _, [], .nil => rfl
  | _, n :: r, .cons (.int _) t => by rw [RepAll.ints (ns := r) t]; rfl
theorem RepAll.strs : ∀ {vs : List V} {ns : List Str}, RepAll K G vs (ns.map .str) → vs = ns.map V.str
  | [], [], _ => rfl
  | _, [], .nil => rfl
  | _, n :: r, .cons (.str _) t => by rw [RepAll.strs (ns := r) t]; rfl
theorem RepAll.bools : ∀ {vs : List V} {ns : List Bool}, RepAll K G vs (ns.map .bool) → vs = ns.map V.bl
  | [], [], _ => rfl
  | _, [], .nil => rfl
  | _, n :: r, .cons (.bool _) t => by rw [RepAll.bools (ns := r) t]; rfl
end
section
variable {P : Program} {w : World}
theorem kv_parts : ∀ {kvs : List (Key × V)} {vs : List (Key × Value)}, KV kvs vs → kvs.map (·.1) = vs.map (·.1) ∧ Vals (kvs.map (·.2)) (vs.map (·.2))
  | _, _, .nil => ⟨rfl, .nil⟩
  | _, _, .cons h t => by
    obtain ⟨a, b⟩ := kv_parts t
    exact ⟨by rw [List.map_cons, List.map_cons, a, h.1], .cons h.2 b⟩
theorem pairs_parts {h : Heap} : ∀ {es : List DictEntry} {vs : List (Key × Value)}, Pairs (mixKind P w) es vs → (∃ as, ReadsAll h (es.map (·.key)) (vs.map fun p => keyD p.1) as) ∧ es.map (·.val) = vs.map (·.2)
  | _, _, .nil => ⟨⟨_, .nil⟩, rfl⟩
  | e :: es, kv :: vs, .cons hk hv t => by
    obtain ⟨⟨as, a⟩, b⟩ := pairs_parts (h := h) t
    refine ⟨?_, by rw [List.map_cons, List.map_cons, b, hv]⟩
    rcases keyIs_shape (show keyIs kv.1 e.key = true from hk) with ⟨i, t, e1, e2⟩ | ⟨x, t, e1, e2⟩
    · refine ⟨_, .cons (as := []) (by dsimp only; rw [e1, e2]; exact .int i t) a⟩
    · refine ⟨_, .cons (as := []) (by dsimp only; rw [e1, e2]; exact .str x t) a⟩
end
section
variable {X : Cx} {pins : List (Addr × Obj)} {σ : St} {H : Hp} {s : Shared}
mutual
theorem Rep.reads (I : Inv X pins σ H s) : ∀ {v : V} {d : PyData} {u : Value}, Rep X.K H v d → RelV v u → ∃ as, Reads s.heap u d as
  | _, _, _, .none, r => by cases r; exact ⟨_, .none⟩
  | _, _, _, .bool b, r => by cases r; exact ⟨_, .bool b⟩
  | _, _, _, .int i, r => by obtain ⟨t, rfl⟩ := r; exact ⟨_, .int i t⟩
  | _, _, _, .str x, r => by obtain ⟨t, rfl⟩ := r; exact ⟨_, .str x t⟩
  | _, _, _, .list h q, r => by
    cases r
    obtain ⟨its, rv, ⟨o, n, e, hc, _, hd⟩, _⟩ := I.list h
    obtain ⟨as, z⟩ := RepAll.reads I q rv
    exact ⟨_, .list e hc hd (by simpa using z)⟩
  | _, _, _, .tuple h q, r => by
    cases r
    obtain ⟨its, rv, ⟨o, e, hc, n, hd⟩, _⟩ := I.tuple h
    obtain ⟨as, z⟩ := RepAll.reads I q rv
    exact ⟨_, .tuple e hc hd (by simpa using z)⟩
  | _, _, _, .dict h e0 q, r => by
    cases r
    obtain ⟨hz, hS, vs, kv, o, es, ep, e, hex, hd, _, hp, _⟩ := I.hok _ _ h
    obtain ⟨a1, a2⟩ := kv_parts kv
    obtain ⟨⟨as, b1⟩, b2⟩ := pairs_parts (h := s.heap) hp
    obtain ⟨bs, z⟩ := RepAll.reads I q a2
    refine ⟨_, .dict e hex.1 hd (as := as) (bs := bs) ?_ (by rw [b2]; exact z)⟩
    rw [e0, show (fun p : Key × V => keyD p.1) = keyD ∘ (·.1) from rfl, ← List.map_map, a1, List.map_map]; exact b1
theorem RepAll.reads (I : Inv X pins σ H s) : ∀ {vs : List V} {ds : List PyData} {us : List Value}, RepAll X.K H vs ds → Vals vs us → ∃ as, ReadsAll s.heap us ds as
  | _, _, _, .nil, .nil => ⟨_, .nil⟩
  | _, _, _, .cons r t, .cons q w => by
    obtain ⟨as, a⟩ := Rep.reads I r q
    obtain ⟨bs, b⟩ := RepAll.reads I t w
    exact ⟨_, .cons a b⟩
end
end
noncomputable def lamNames : List Str := ["in_ending_order", "in_laying_order"]
noncomputable def lamQ (x : Str) : Str := x ++ ".<locals>." ++ "<lambda>"
noncomputable def cdO (c : Addr) (q : Str) : HO := .ext fun h => h.CodeRec (.ref c) q
noncomputable def Tab (P : Addr) (q : Str) (H : Hp) : Prop :=
  ∃ ps, H P = some (.tbl (q, ps)) ∧ TriplesOk ps.toList ∧ ∀ pos cv, codeAmong pos ps.toList = some cv → ∃ c, cv = .ref c ∧ H c = some (cdO c q)
noncomputable def NoT (G : Hp) : Prop := ∀ b ps, G b ≠ some (.tbl ps)
noncomputable def Tabs (K : PySem.W.Frag) (G H : Hp) : Prop := (∀ x ∈ lamNames, ∀ c P, PySem.W.tabIn K x = some (c, P) → Tab P (lamQ x) H) ∧ NoT G
theorem NoT.upd {G : Hp} {a : Addr} {o : HO} (n : NoT G) (h : ∀ ps, o ≠ .tbl ps) : NoT (L2.upd G a o) := fun b ps e => by
  by_cases hb : b = a
  · subst hb; rw [upd_same] at e; cases e; exact h _ rfl
  · rw [upd_ne hb] at e; exact n b ps e
theorem Tab.same {P : Addr} {q : Str} {H H' : Hp} (t : Tab P q H) (s : Same H H') : Tab P q H' := by
  obtain ⟨ps, h1, h2, h3⟩ := t
  refine ⟨ps, s _ _ h1, h2, fun pos cv e => ?_⟩
  obtain ⟨c, e1, e2⟩ := h3 pos cv e
  exact ⟨c, e1, s _ _ e2⟩
theorem Tab.wr {P a : Addr} {q : Str} {H : Hp} {xs : List V} {o : HO} (t : Tab P q H) (h : H a = some (.lst xs)) : Tab P q (upd H a o) := by
  obtain ⟨ps, h1, h2, h3⟩ := t
  refine ⟨ps, by rw [upd_ne (ne_of h1 h (by nofun))]; exact h1, h2, fun pos cv e => ?_⟩
  obtain ⟨c, e1, e2⟩ := h3 pos cv e
  exact ⟨c, e1, by rw [upd_ne (ne_of e2 h (by unfold cdO; nofun))]; exact e2⟩
structure Sm (H H' : Hp) : Prop where
  keep : ∀ b o, H b = some o → (∀ ps, o ≠ .tbl ps) → H' b = some o
  tbl : ∀ b ps, H b = some (.tbl ps) → ∃ ps', H' b = some (.tbl ps')
  tab : ∀ P q, Tab P q H → Tab P q H'
theorem Sm.of {H H' : Hp} (s : Same H H') : Sm H H' := ⟨fun b o h _ => s b o h, fun b ps h => ⟨ps, s _ _ h⟩, fun P q t => t.same s⟩
theorem Sm.refl (H : Hp) : Sm H H := .of (.refl _)
theorem Sm.trans {H H1 H2 : Hp} (a : Sm H H1) (b : Sm H1 H2) : Sm H H2 := ⟨fun c o h n => b.keep c o (a.keep c o h n) n, fun c ps h => by
  obtain ⟨p1, h1⟩ := a.tbl c ps h
  exact b.tbl c p1 h1, fun P q t => b.tab P q (a.tab P q t)⟩
theorem Sm.ne {H H' : Hp} (s : Sm H H') {b : Addr} {o : HO} (h : H b = some o) : ∃ o', H' b = some o' := by
  cases o with
  | tbl ps => obtain ⟨p, e⟩ := s.tbl b ps h; exact ⟨_, e⟩
  | _ => exact ⟨_, s.keep b _ h (by nofun)⟩
theorem Sm.free {H H' : Hp} (s : Sm H H') {l : Addr} (h : H' l = none) : H l = none := by
  cases q : H l with
  | none => rfl
  | some o =>
    obtain ⟨o', e⟩ := s.ne q
    rw [h] at e; cases e
theorem Sm.lst {H H' : Hp} (s : Sm H H') {l : Addr} {xs : List V} (h : H l = some (.lst xs)) : H' l = some (.lst xs) := s.keep l _ h (by nofun)
theorem Sm.wr {H H' : Hp} (s : Sm H H') {l : Addr} {xs : List V} {o : HO} (h0 : H l = none) (h : H' l = some (.lst xs)) : Sm H (upd H' l o) :=
  ⟨fun b u e n => by rw [upd_ne (ne_of_none e h0)]; exact s.keep b u e n, fun b ps e => by rw [upd_ne (ne_of_none e h0)]; exact s.tbl b ps e, fun P q t => (s.tab P q t).wr h⟩
theorem Tabs.wr {K : PySem.W.Frag} {G H : Hp} {a : Addr} {xs : List V} {o : HO} (t : Tabs K G H) (h : H a = some (.lst xs)) : Tabs K G (upd H a o) := ⟨fun x hx c P e => (t.1 x hx c P e).wr h, t.2⟩
structure Grow (G H G' H' : Hp) : Prop where
  gg : Same G G'
  hh : Sm H H'
  sub : Same G' H'
  new : ∀ a, G a = none → H a ≠ none → G' a = none
  nt : NoT G → NoT G'
theorem Tabs.more {K : PySem.W.Frag} {G H G' H' : Hp} (t : Tabs K G H) (g : Grow G H G' H') : Tabs K G' H' := ⟨fun x hx c P e => g.hh.tab _ _ (t.1 x hx c P e), g.nt t.2⟩
theorem Grow.refl {G H : Hp} (s : Same G H) : Grow G H G H := ⟨.refl _, .refl _, s, fun _ e _ => e, id⟩
theorem Grow.trans {G H G1 H1 G2 H2 : Hp} (a : Grow G H G1 H1) (b : Grow G1 H1 G2 H2) : Grow G H G2 H2 :=
  ⟨a.gg.trans b.gg, a.hh.trans b.hh, b.sub, fun c e n => b.new c (a.new c e n) (fun z => by
    cases q : H c with
    | none => exact n q
    | some o => obtain ⟨o', e'⟩ := a.hh.ne q; rw [e'] at z; cases z), fun n => b.nt (a.nt n)⟩
theorem same_upd {H : Hp} {p : Addr} {o : HO} (h : H p = none) : Same H (upd H p o) := fun b u e => by rw [upd_ne (ne_of_none e h)]; exact e
theorem same_both {G H : Hp} {p : Addr} {o : HO} (s : Same G H) : Same (upd G p o) (upd H p o) := fun b u e => by
  by_cases hb : b = p
  · subst hb; rw [upd_same] at e ⊢; exact e
  · rw [upd_ne hb] at e ⊢; exact s b u e
theorem Grow.put {G H : Hp} {p : Addr} {o : HO} (s : Same G H) (h : H p = none) (ho : ∀ ps, o ≠ .tbl ps := by nofun) : Grow G H (upd G p o) (upd H p o) :=
  ⟨same_upd (s.free h), .of (same_upd h), same_both s, fun a e n => by rw [upd_ne (fun z => n (by rw [z]; exact h))]; exact e, fun n => n.upd ho⟩
theorem Grow.side {G H : Hp} {p : Addr} {o : HO} (s : Same G H) (h : H p = none) : Grow G H G (upd H p o) :=
  ⟨.refl _, .of (same_upd h), s.trans (same_upd h), fun a e _ => e, id⟩
inductive Ent where
  | no
  | val (d : PyData)
  | lst (ds : List PyData)
  | exc (c : Str)
  | nst (dss : List (List PyData))
  | dct (kvs : List (Key × PyData))
noncomputable def xcO (a C : Addr) : HO := .ext fun h => ∃ ox, ExO h a C ox
noncomputable def InOk (K : PySem.W.Frag) (H0 G H : Hp) (b : Addr) (ds : List PyData) : Prop := ∃ xs, H b = some (.lst xs) ∧ G b = none ∧ H0 b = none ∧ RepAll K G xs ds
noncomputable def DctOk (K : PySem.W.Frag) (G : Hp) (vs : List (Key × V)) (kvs : List (Key × PyData)) : Prop := vs.map (·.1) = kvs.map (·.1) ∧ RepAll K G (vs.map (·.2)) (kvs.map (·.2))
theorem DctOk.mono {K : PySem.W.Frag} {G G' : Hp} {vs : List (Key × V)} {kvs : List (Key × PyData)} (h : DctOk K G vs kvs) (s : Same G G') : DctOk K G' vs kvs := ⟨h.1, h.2.mono s⟩
noncomputable def EntOk (K : PySem.W.Frag) (H0 G H : Hp) (o : Option V) : Ent → Prop
  | .no => True
  | .val d => ∃ v, o = some v ∧ Rep K G v d
  | .lst ds => ∃ a xs, o = some (.ref a) ∧ H a = some (.lst xs) ∧ G a = none ∧ H0 a = none ∧ RepAll K G xs ds
  | .exc c => ∃ a C, o = some (.ref a) ∧ excC K c = some C ∧ H a = some (xcO a C)
  | .nst dss => ∃ a bs, o = some (.ref a) ∧ H a = some (.lst (bs.map V.ref)) ∧ G a = none ∧ H0 a = none ∧ a ∉ bs ∧ bs.Nodup ∧ Paired (InOk K H0 G H) bs dss
  | .dct kvs => ∃ a vs, o = some (.ref a) ∧ H a = some (.dK vs) ∧ G a = none ∧ H0 a = none ∧ DctOk K G vs kvs
noncomputable def isOwn : Ent → Bool
  | .lst _ => true
  | .nst _ => true
  | .dct _ => true
  | _ => false
structure Inj (H : Hp) (σ : St) (ρ : List Ent) : Prop where
  two : ∀ (i j : Nat) (a : Addr) (ds es : List PyData), i ≠ j → σ[i]? = some (some (.ref a)) → ρ[i]? = some (.lst ds) → σ[j]? = some (some (.ref a)) → ρ[j]? = some (.lst es) → False
  mix : ∀ (i j : Nat) (a a' : Addr) (ds : List PyData) (dss : List (List PyData)), σ[i]? = some (some (.ref a)) → ρ[i]? = some (.lst ds) → σ[j]? = some (some (.ref a')) → ρ[j]? = some (.nst dss) → a ≠ a' ∧ ∀ vs, H a' = some (.lst vs) → V.ref a ∉ vs
  one : ∀ (i j : Nat) (dss ess : List (List PyData)), ρ[i]? = some (.nst dss) → ρ[j]? = some (.nst ess) → i = j
  oneD : ∀ (i j : Nat) (ks ls : List (Key × PyData)), ρ[i]? = some (.dct ks) → ρ[j]? = some (.dct ls) → i = j
theorem Inj.sub {H : Hp} {σ σ' : St} {ρ ρ' : List Ent} (I : Inj H σ ρ) (h : ∀ (i : Nat) (e : Ent), ρ'[i]? = some e → isOwn e = true → ρ[i]? = some e ∧ σ'[i]? = σ[i]?) : Inj H σ' ρ' := by
  refine ⟨fun i j a ds es n h1 h2 h3 h4 => ?_, fun i j a a' ds dss h1 h2 h3 h4 => ?_, fun i j dss ess h1 h2 => ?_, fun i j ks ls h1 h2 => I.oneD i j ks ls (h i _ h1 rfl).1 (h j _ h2 rfl).1⟩
  · obtain ⟨x1, x2⟩ := h i _ h2 rfl
    obtain ⟨y1, y2⟩ := h j _ h4 rfl
    rw [x2] at h1; rw [y2] at h3
    exact I.two i j a ds es n h1 x1 h3 y1
  · obtain ⟨x1, x2⟩ := h i _ h2 rfl
    obtain ⟨y1, y2⟩ := h j _ h4 rfl
    rw [x2] at h1; rw [y2] at h3
    exact I.mix i j a a' ds dss h1 x1 h3 y1
  · exact I.one i j dss ess (h i _ h1 rfl).1 (h j _ h2 rfl).1
theorem Inj.other {H H' : Hp} {σ : St} {ρ : List Ent} (I : Inj H σ ρ) (h : ∀ (j : Nat) (a' : Addr) (dss : List (List PyData)), σ[j]? = some (some (.ref a')) → ρ[j]? = some (.nst dss) → ∀ vs, H' a' = some (.lst vs) → H a' = some (.lst vs)) : Inj H' σ ρ :=
  ⟨I.two, fun i j a a' ds dss h1 h2 h3 h4 => ⟨(I.mix i j a a' ds dss h1 h2 h3 h4).1, fun vs e => (I.mix i j a a' ds dss h1 h2 h3 h4).2 vs (h j a' dss h3 h4 vs e)⟩, I.one, I.oneD⟩
theorem Inj.free {H : Hp} {σ : St} {ρ : List Ent} (h : ∀ (i : Nat) (e : Ent), ρ[i]? = some e → isOwn e = false) : Inj H σ ρ :=
  ⟨fun i j a ds es n h1 h2 h3 h4 => Bool.noConfusion (h i _ h2), fun i j a a' ds dss h1 h2 h3 h4 => Bool.noConfusion (h i _ h2), fun i j dss ess h1 h2 => Bool.noConfusion (h i _ h1), fun i j ks ls h1 h2 => Bool.noConfusion (h i _ h1)⟩
theorem paired_mem {α β : Type} {F F' : α → β → Prop} : ∀ {l : List α} {m : List β}, Paired F l m → (∀ a b, a ∈ l → F a b → F' a b) → Paired F' l m
  | _, _, .nil, _ => .nil
  | _, _, .cons r t, h => .cons (h _ _ List.mem_cons_self r) (paired_mem t fun a b ha => h a b (List.mem_cons_of_mem _ ha))
theorem paired_in {α β : Type} {F : α → β → Prop} {a : α} : ∀ {l : List α} {m : List β}, Paired F l m → a ∈ l → ∃ b, F a b
  | _, _, .cons r t, h => by
    rcases List.mem_cons.mp h with rfl | h
    · exact ⟨_, r⟩
    · exact paired_in t h
structure RepS (K : PySem.W.Frag) (H0 G₀ G H : Hp) (σ : St) (ρ : List Ent) : Prop where
  grow : Grow G₀ H0 G H
  len : σ.length = ρ.length
  ent : ∀ (i : Nat) (o : Option V) (e : Ent), σ[i]? = some o → ρ[i]? = some e → EntOk K H0 G H o e
  inj : Inj H σ ρ
  tab : Tabs K G H
theorem EntOk.more {K : PySem.W.Frag} {H0 G H G' H' : Hp} {o : Option V} {e : Ent} (g : Grow G H G' H') (h : EntOk K H0 G H o e) : EntOk K H0 G' H' o e := by
  cases e with
  | no => trivial
  | val d => obtain ⟨v, e, r⟩ := h; exact ⟨v, e, r.mono g.gg⟩
  | lst ds =>
    obtain ⟨a, xs, e, h1, h2, h3, r⟩ := h
    exact ⟨a, xs, e, g.hh.lst h1, g.new a h2 (by rw [h1]; simp), h3, r.mono g.gg⟩
  | exc c => obtain ⟨a, C, e, h1, h2⟩ := h; exact ⟨a, C, e, h1, g.hh.keep a _ h2 (by unfold xcO; nofun)⟩
  | nst dss =>
    obtain ⟨a, bs, e, h1, h2, h3, h4, h5, r⟩ := h
    exact ⟨a, bs, e, g.hh.lst h1, g.new a h2 (by rw [h1]; simp), h3, h4, h5, Paired.mapP r fun b ds ⟨xs, x1, x2, x3, x4⟩ => ⟨xs, g.hh.lst x1, g.new b x2 (by rw [x1]; simp), x3, x4.mono g.gg⟩⟩
  | dct kvs =>
    obtain ⟨a, vs, e, h1, h2, h3, r⟩ := h
    exact ⟨a, vs, e, g.hh.keep a _ h1 (by nofun), g.new a h2 (by rw [h1]; simp), h3, r.mono g.gg⟩
section
variable {K : PySem.W.Frag} {H0 G₀ G H G' H' : Hp} {σ : St} {ρ : List Ent}
theorem RepS.more (R : RepS K H0 G₀ G H σ ρ) (g : Grow G H G' H') : RepS K H0 G₀ G' H' σ ρ :=
  ⟨R.grow.trans g, R.len, fun i o e h1 h2 => (R.ent i o e h1 h2).more g, R.inj.other (fun j a' dss h1 h2 vs e => by
    obtain ⟨a, bs, e1, e2, _⟩ := R.ent j _ _ h1 h2
    cases e1
    rw [g.hh.lst e2] at e
    cases e
    exact e2), R.tab.more g⟩
theorem RepS.sub (R : RepS K H0 G₀ G H σ ρ) : Same G H := R.grow.sub
theorem RepS.at {i : Nat} {e : Ent} (R : RepS K H0 G₀ G H σ ρ) (h : ρ[i]? = some e) : ∃ o, σ[i]? = some o ∧ EntOk K H0 G H o e := by
  have hi : i < σ.length := by rw [R.len]; exact (List.getElem?_eq_some_iff.mp h).1
  exact ⟨σ[i], by simp [hi], R.ent i _ e (by simp [hi]) h⟩
theorem RepS.val {i : Nat} {d : PyData} (R : RepS K H0 G₀ G H σ ρ) (h : ρ[i]? = some (.val d)) : ∃ v, σ[i]? = some (some v) ∧ Rep K G v d := by
  obtain ⟨o, e, v, rfl, r⟩ := R.at h
  exact ⟨v, e, r⟩
theorem RepS.own {i : Nat} {ds : List PyData} (R : RepS K H0 G₀ G H σ ρ) (h : ρ[i]? = some (.lst ds)) : ∃ a xs, σ[i]? = some (some (.ref a)) ∧ H a = some (.lst xs) ∧ G a = none ∧ H0 a = none ∧ RepAll K G xs ds := by
  obtain ⟨o, e, a, xs, rfl, r⟩ := R.at h
  exact ⟨a, xs, e, r⟩
theorem set_get {α : Type} {l : List α} {i j : Nat} {x y : α} (h : (l.set i x)[j]? = some y) : (j = i ∧ y = x ∧ i < l.length) ∨ (j ≠ i ∧ l[j]? = some y) := by
  by_cases e : j = i
  · subst e
    have hl : j < l.length := by
      have := (List.getElem?_eq_some_iff.mp h).1
      simpa using this
    rw [List.getElem?_set_self hl] at h
    exact .inl ⟨rfl, (Option.some.inj h).symm, hl⟩
  · rw [List.getElem?_set_ne (Ne.symm e)] at h
    exact .inr ⟨e, h⟩
theorem RepS.set {i : Nat} {v : V} {d : PyData} (R : RepS K H0 G₀ G H σ ρ) (r : Rep K G v d) : RepS K H0 G₀ G H (σ.set i (some v)) (ρ.set i (.val d)) := by
  refine ⟨R.grow, by simp [R.len], fun j o e h1 h2 => ?_, R.inj.sub fun j e h1 h2 => ?_, R.tab⟩
  · rcases set_get h1 with ⟨rfl, rfl, _⟩ | ⟨n, h1⟩
    · rcases set_get h2 with ⟨_, rfl, _⟩ | ⟨n, _⟩
      · exact ⟨v, rfl, r⟩
      · exact absurd rfl n
    · rcases set_get h2 with ⟨z, _⟩ | ⟨_, h2⟩
      · exact absurd z n
      · exact R.ent j o e h1 h2
  · rcases set_get h1 with ⟨_, rfl, _⟩ | ⟨n, h1⟩
    · cases h2
    · exact ⟨h1, List.getElem?_set_ne (Ne.symm n)⟩
theorem RepS.freeze {i : Nat} {ds : List PyData} (R : RepS K H0 G₀ G H σ ρ) (h : ρ[i]? = some (.lst ds)) : ∃ G', Same G G' ∧ RepS K H0 G₀ G' H σ (ρ.set i (.val (.list ds))) := by
  obtain ⟨a, xs, e, h1, h2, h3, r⟩ := R.own h
  have gg : Same G (upd G a (.lst xs)) := same_upd h2
  refine ⟨upd G a (.lst xs), gg, ⟨⟨R.grow.gg.trans gg, R.grow.hh, fun b o q => ?_, fun b q n => ?_, fun n => (R.grow.nt n).upd (by nofun)⟩, by simp [R.len], fun j o e' q1 q2 => ?_, R.inj.sub fun j e h1 h2 => ?_, R.tab.1, R.tab.2.upd (by nofun)⟩⟩
  · by_cases hb : b = a
    · subst hb; rw [upd_same] at q; cases q; exact h1
    · rw [upd_ne hb] at q; exact R.sub b o q
  · have nb : b ≠ a := fun z => n (by rw [z]; exact h3)
    rw [upd_ne nb]; exact R.grow.new b q n
  · rcases set_get q2 with ⟨rfl, rfl, _⟩ | ⟨nj, q2⟩
    · rw [e] at q1; cases q1
      exact ⟨.ref a, rfl, .list (.of upd_same) (r.mono gg)⟩
    · have E := R.ent j o e' q1 q2
      cases e' with
      | no => trivial
      | val d => obtain ⟨v, z, rv⟩ := E; exact ⟨v, z, rv.mono gg⟩
      | lst es =>
        obtain ⟨b, ys, z, g1, g2, g3, rv⟩ := E
        have nb : b ≠ a := fun w => by
          subst w z
          exact R.inj.two j i b es ds nj q1 q2 e h
        exact ⟨b, ys, z, g1, by rw [upd_ne nb]; exact g2, g3, rv.mono gg⟩
      | exc c => exact E
      | nst dss =>
        obtain ⟨b, bs, z, g1, g2, g3, g4, g5, rv⟩ := E
        subst z
        obtain ⟨m1, m2⟩ := R.inj.mix i j a b ds dss e h q1 q2
        have ni : ∀ c ∈ bs, c ≠ a := fun c hc w => m2 _ g1 (by subst w; exact List.mem_map.mpr ⟨c, hc, rfl⟩)
        exact ⟨b, bs, rfl, g1, by rw [upd_ne (Ne.symm m1)]; exact g2, g3, g4, g5, paired_mem rv fun c dd hc ⟨xs', x1, x2, x3, x4⟩ => ⟨xs', x1, by rw [upd_ne (ni c hc)]; exact x2, x3, x4.mono gg⟩⟩
      | dct kvs =>
        obtain ⟨b, vs, z, g1, g2, g3, rv⟩ := E
        exact ⟨b, vs, z, g1, by rw [upd_ne (ne_of g1 h1 (by nofun))]; exact g2, g3, rv.mono gg⟩
  · rcases set_get h1 with ⟨_, rfl, _⟩ | ⟨n, h1⟩
    · cases h2
    · exact ⟨h1, rfl⟩
theorem RepS.wrote {i : Nat} {a : Addr} {ds ds' : List PyData} {xs : List V} (R : RepS K H0 G₀ G H σ ρ) (h : ρ[i]? = some (.lst ds)) (e : σ[i]? = some (some (.ref a))) (r : RepAll K G xs ds') : RepS K H0 G₀ G (upd H a (.lst xs)) σ (ρ.set i (.lst ds')) := by
  obtain ⟨a', xs', e', h1, h2, h3, _⟩ := R.own h
  rw [e] at e'; cases e'
  refine ⟨⟨R.grow.gg, R.grow.hh.wr h3 h1, fun b o q => ?_, fun b q n => R.grow.new b q n, R.grow.nt⟩, by simp [R.len], fun j o e' q1 q2 => ?_, ⟨fun j k b es fs hjk q1 q2 q3 q4 => ?_, fun j k b a' es dss q1 q2 q3 q4 => ?_, fun j k dss ess q1 q2 => ?_, fun j k ks ls q1 q2 => ?_⟩, R.tab.wr h1⟩
  · rw [upd_ne (ne_of_none q h2)]; exact R.sub b o q
  · rcases set_get q2 with ⟨rfl, rfl, _⟩ | ⟨nj, q2⟩
    · rw [e] at q1; cases q1
      exact ⟨a, xs, rfl, upd_same, h2, h3, r⟩
    · have E := R.ent j o e' q1 q2
      cases e' with
      | no => trivial
      | val d => exact E
      | lst es =>
        obtain ⟨b, ys, z, g1, g2, g3, rv⟩ := E
        have nb : b ≠ a := fun w => by
          subst w z
          exact R.inj.two j i b es ds nj q1 q2 e h
        exact ⟨b, ys, z, by rw [upd_ne nb]; exact g1, g2, g3, rv⟩
      | exc c => obtain ⟨b, C, z, g1, g2⟩ := E; exact ⟨b, C, z, g1, by rw [upd_ne (ne_of g2 h1 (by unfold xcO; nofun))]; exact g2⟩
      | nst dss =>
        obtain ⟨b, bs, z, g1, g2, g3, g4, g5, rv⟩ := E
        subst z
        obtain ⟨m1, m2⟩ := R.inj.mix i j a b ds dss e h q1 q2
        have ni : ∀ c ∈ bs, c ≠ a := fun c hc w => m2 _ g1 (by subst w; exact List.mem_map.mpr ⟨c, hc, rfl⟩)
        exact ⟨b, bs, rfl, by rw [upd_ne (Ne.symm m1)]; exact g1, g2, g3, g4, g5, paired_mem rv fun c dd hc ⟨xs', x1, x2, x3, x4⟩ => ⟨xs', by rw [upd_ne (ni c hc)]; exact x1, x2, x3, x4⟩⟩
      | dct kvs =>
        obtain ⟨b, vs, z, g1, g2, g3, rv⟩ := E
        exact ⟨b, vs, z, by rw [upd_ne (ne_of g1 h1 (by nofun))]; exact g1, g2, g3, rv⟩
  · rcases set_get q2 with ⟨rfl, _, _⟩ | ⟨n2, q2⟩
    · rcases set_get q4 with ⟨z, _, _⟩ | ⟨n4, q4⟩
      · exact hjk z.symm
      · exact R.inj.two j k b ds fs hjk q1 h q3 q4
    · rcases set_get q4 with ⟨z, _, _⟩ | ⟨n4, q4⟩
      · subst z; exact R.inj.two j k b es ds hjk q1 ‹ρ[j]? = some (Ent.lst es)› q3 h
      · exact R.inj.two j k b es fs hjk q1 ‹ρ[j]? = some (Ent.lst es)› q3 q4
  · rcases set_get q4 with ⟨_, z, _⟩ | ⟨_, q4⟩
    · cases z
    · have old : ∃ fs, ρ[j]? = some (.lst fs) := by
        rcases set_get q2 with ⟨rfl, _, _⟩ | ⟨_, q2⟩
        · exact ⟨_, h⟩
        · exact ⟨_, q2⟩
      obtain ⟨fs, q2⟩ := old
      obtain ⟨m1, m2⟩ := R.inj.mix j k b a' fs dss q1 q2 q3 q4
      have m3 := (R.inj.mix i k a a' ds dss e h q3 q4).1
      exact ⟨m1, fun vs z => m2 vs (by rw [upd_ne (Ne.symm m3)] at z; exact z)⟩
  · rcases set_get q1 with ⟨_, z, _⟩ | ⟨_, q1⟩
    · cases z
    · rcases set_get q2 with ⟨_, z, _⟩ | ⟨_, q2⟩
      · cases z
      · exact R.inj.one j k dss ess q1 q2
  · rcases set_get q1 with ⟨_, z, _⟩ | ⟨_, q1⟩
    · cases z
    · rcases set_get q2 with ⟨_, z, _⟩ | ⟨_, q2⟩
      · cases z
      · exact R.inj.oneD j k ks ls q1 q2
theorem RepS.fresh {i : Nat} {p : Addr} {ds : List PyData} {xs : List V} (R : RepS K H0 G₀ G H σ ρ) (h : H p = none) (r : RepAll K G xs ds) : RepS K H0 G₀ G (upd H p (.lst xs)) (σ.set i (some (.ref p))) (ρ.set i (.lst ds)) := by
  have R' := R.more (Grow.side (o := .lst xs) R.sub h)
  refine ⟨R'.grow, by simp [R.len], fun j o e h1 h2 => ?_, ⟨fun j k a es fs hjk h1 h2 h3 h4 => ?_, fun j k b a' es dss q1 q2 q3 q4 => ?_, fun j k dss ess q1 q2 => ?_, fun j k ks ls q1 q2 => ?_⟩, R'.tab⟩
  · rcases set_get h1 with ⟨rfl, rfl, _⟩ | ⟨n, h1⟩
    · rcases set_get h2 with ⟨_, rfl, _⟩ | ⟨n, _⟩
      · exact ⟨p, xs, rfl, upd_same, R.sub.free h, R.grow.hh.free h, r⟩
      · exact absurd rfl n
    · rcases set_get h2 with ⟨z, _⟩ | ⟨_, h2⟩
      · exact absurd z n
      · exact R'.ent j o e h1 h2
  · have old : ∀ j es, j ≠ i → σ[j]? = some (some (.ref p)) → ρ[j]? = some (.lst es) → False := fun j es _ q1 q2 => by
      obtain ⟨b, ys, e, g1, _⟩ := R.own q2
      rw [q1] at e; cases e
      rw [h] at g1; cases g1
    rcases set_get h2 with ⟨rfl, _, _⟩ | ⟨n2, h2⟩
    · rcases set_get h1 with ⟨_, z, _⟩ | ⟨n, _⟩
      · cases z
        rcases set_get h4 with ⟨z, _, _⟩ | ⟨n4, h4⟩
        · exact hjk z.symm
        · rw [List.getElem?_set_ne (Ne.symm n4)] at h3
          exact old k fs n4 h3 h4
      · exact absurd rfl n
    · rw [List.getElem?_set_ne (Ne.symm n2)] at h1
      rcases set_get h4 with ⟨zk, _, _⟩ | ⟨n4, h4⟩
      · subst zk
        rcases set_get h3 with ⟨_, z, _⟩ | ⟨n, _⟩
        · cases z; exact old j es n2 h1 ‹ρ[j]? = some (Ent.lst es)›
        · exact absurd rfl n
      · rw [List.getElem?_set_ne (Ne.symm n4)] at h3
        exact R.inj.two j k a es fs hjk h1 h2 h3 h4
  · rcases set_get q4 with ⟨_, z, _⟩ | ⟨n4, q4⟩
    · cases z
    · rw [List.getElem?_set_ne (Ne.symm n4)] at q3
      obtain ⟨a1, bs, z, g1, g2, g3, g4, g5, rv⟩ := R.ent k _ _ q3 q4
      have z' : a' = a1 := by cases z; rfl
      subst z'
      have pa : a' ≠ p := ne_of_none g1 h
      have pb : V.ref p ∉ bs.map V.ref := fun z => by
        obtain ⟨c, hc, e⟩ := List.mem_map.mp z
        cases e
        obtain ⟨dd, ⟨xs', x1, _⟩⟩ := paired_in rv hc
        rw [h] at x1; cases x1
      rcases set_get q2 with ⟨rfl, _, _⟩ | ⟨n2, q2⟩
      · rcases set_get q1 with ⟨_, z, _⟩ | ⟨n, _⟩
        · cases z
          exact ⟨Ne.symm pa, fun vs e => by rw [upd_ne pa, g1] at e; cases e; exact pb⟩
        · exact absurd rfl n
      · rw [List.getElem?_set_ne (Ne.symm n2)] at q1
        obtain ⟨m1, m2⟩ := R.inj.mix j k b a' es dss q1 q2 q3 q4
        exact ⟨m1, fun vs e => m2 vs (by rw [upd_ne pa] at e; exact e)⟩
  · rcases set_get q1 with ⟨_, z, _⟩ | ⟨_, q1⟩
    · cases z
    · rcases set_get q2 with ⟨_, z, _⟩ | ⟨_, q2⟩
      · cases z
      · exact R.inj.one j k dss ess q1 q2
  · rcases set_get q1 with ⟨_, z, _⟩ | ⟨_, q1⟩
    · cases z
    · rcases set_get q2 with ⟨_, z, _⟩ | ⟨_, q2⟩
      · cases z
      · exact R.inj.oneD j k ks ls q1 q2
theorem RepS.ownD {i : Nat} {kvs : List (Key × PyData)} (R : RepS K H0 G₀ G H σ ρ) (h : ρ[i]? = some (.dct kvs)) : ∃ a vs, σ[i]? = some (some (.ref a)) ∧ H a = some (.dK vs) ∧ G a = none ∧ H0 a = none ∧ DctOk K G vs kvs := by
  obtain ⟨o, e, a, vs, rfl, r⟩ := R.at h
  exact ⟨a, vs, e, r⟩
theorem Tab.wrD {P a : Addr} {q : Str} {H : Hp} {vs : List (Key × V)} {o : HO} (t : Tab P q H) (h : H a = some (.dK vs)) : Tab P q (upd H a o) := by
  obtain ⟨ps, h1, h2, h3⟩ := t
  refine ⟨ps, by rw [upd_ne (ne_of h1 h (by nofun))]; exact h1, h2, fun pos cv e => ?_⟩
  obtain ⟨c, e1, e2⟩ := h3 pos cv e
  exact ⟨c, e1, by rw [upd_ne (ne_of e2 h (by unfold cdO; nofun))]; exact e2⟩
theorem Sm.wrD {H H' : Hp} (s : Sm H H') {l : Addr} {vs : List (Key × V)} {o : HO} (h0 : H l = none) (h : H' l = some (.dK vs)) : Sm H (upd H' l o) :=
  ⟨fun b u e n => by rw [upd_ne (ne_of_none e h0)]; exact s.keep b u e n, fun b ps e => by rw [upd_ne (ne_of_none e h0)]; exact s.tbl b ps e, fun P q t => (s.tab P q t).wrD h⟩
theorem Tabs.wrD {K : PySem.W.Frag} {G H : Hp} {a : Addr} {vs : List (Key × V)} {o : HO} (t : Tabs K G H) (h : H a = some (.dK vs)) : Tabs K G (upd H a o) := ⟨fun x hx c P e => (t.1 x hx c P e).wrD h, t.2⟩
theorem RepS.freezeD {i : Nat} {kvs : List (Key × PyData)} (R : RepS K H0 G₀ G H σ ρ) (h : ρ[i]? = some (.dct kvs)) : ∃ G', Same G G' ∧ RepS K H0 G₀ G' H σ (ρ.set i (.val (.dict (kvs.map fun p => (keyD p.1, p.2))))) := by
  obtain ⟨a, vs, e, h1, h2, h3, r⟩ := R.ownD h
  have gg : Same G (upd G a (.dK vs)) := same_upd h2
  refine ⟨upd G a (.dK vs), gg, ⟨⟨R.grow.gg.trans gg, R.grow.hh, fun b o q => ?_, fun b q n => ?_, fun n => (R.grow.nt n).upd (by nofun)⟩, by simp [R.len], fun j o e' q1 q2 => ?_, R.inj.sub fun j e h1 h2 => ?_, R.tab.1, R.tab.2.upd (by nofun)⟩⟩
  · by_cases hb : b = a
    · subst hb; rw [upd_same] at q; cases q; exact h1
    · rw [upd_ne hb] at q; exact R.sub b o q
  · have nb : b ≠ a := fun z => n (by rw [z]; exact h3)
    rw [upd_ne nb]; exact R.grow.new b q n
  · rcases set_get q2 with ⟨rfl, rfl, _⟩ | ⟨nj, q2⟩
    · rw [e] at q1; cases q1
      refine ⟨.ref a, rfl, .dict (kvs := vs) upd_same ?_ ?_⟩
      · rw [List.map_map]
        have := congrArg (List.map keyD) r.1
        rw [List.map_map, List.map_map] at this
        exact this.symm
      · rw [List.map_map]; exact r.2.mono gg
    · have E := R.ent j o e' q1 q2
      cases e' with
      | no => trivial
      | val d => obtain ⟨v, z, rv⟩ := E; exact ⟨v, z, rv.mono gg⟩
      | lst es =>
        obtain ⟨b, ys, z, g1, g2, g3, rv⟩ := E
        exact ⟨b, ys, z, g1, by rw [upd_ne (ne_of g1 h1 (by nofun))]; exact g2, g3, rv.mono gg⟩
      | exc c => exact E
      | nst dss =>
        obtain ⟨b, bs, z, g1, g2, g3, g4, g5, rv⟩ := E
        exact ⟨b, bs, z, g1, by rw [upd_ne (ne_of g1 h1 (by nofun))]; exact g2, g3, g4, g5, paired_mem rv fun c dd hc ⟨xs', x1, x2, x3, x4⟩ => ⟨xs', x1, by rw [upd_ne (ne_of x1 h1 (by nofun))]; exact x2, x3, x4.mono gg⟩⟩
      | dct ks => exact absurd (R.inj.oneD j i ks kvs q2 h) nj
  · rcases set_get h1 with ⟨_, rfl, _⟩ | ⟨n, h1⟩
    · cases h2
    · exact ⟨h1, rfl⟩
theorem RepS.wroteD {i : Nat} {a : Addr} {kvs kvs' : List (Key × PyData)} {vs : List (Key × V)} (R : RepS K H0 G₀ G H σ ρ) (h : ρ[i]? = some (.dct kvs)) (e : σ[i]? = some (some (.ref a))) (r : DctOk K G vs kvs') : RepS K H0 G₀ G (upd H a (.dK vs)) σ (ρ.set i (.dct kvs')) := by
  obtain ⟨a', xs', e', h1, h2, h3, _⟩ := R.ownD h
  rw [e] at e'; cases e'
  refine ⟨⟨R.grow.gg, R.grow.hh.wrD h3 h1, fun b o q => ?_, fun b q n => R.grow.new b q n, R.grow.nt⟩, by simp [R.len], fun j o e' q1 q2 => ?_, ⟨fun j k b es fs hjk q1 q2 q3 q4 => ?_, fun j k b a' es dss q1 q2 q3 q4 => ?_, fun j k dss ess q1 q2 => ?_, fun j k ks ls q1 q2 => ?_⟩, R.tab.wrD h1⟩
  · rw [upd_ne (ne_of_none q h2)]; exact R.sub b o q
  · rcases set_get q2 with ⟨rfl, rfl, _⟩ | ⟨nj, q2⟩
    · rw [e] at q1; cases q1
      exact ⟨a, vs, rfl, upd_same, h2, h3, r⟩
    · have E := R.ent j o e' q1 q2
      cases e' with
      | no => trivial
      | val d => exact E
      | lst es =>
        obtain ⟨b, ys, z, g1, g2, g3, rv⟩ := E
        exact ⟨b, ys, z, by rw [upd_ne (ne_of g1 h1 (by nofun))]; exact g1, g2, g3, rv⟩
      | exc c => obtain ⟨b, C, z, g1, g2⟩ := E; exact ⟨b, C, z, g1, by rw [upd_ne (ne_of g2 h1 (by unfold xcO; nofun))]; exact g2⟩
      | nst dss =>
        obtain ⟨b, bs, z, g1, g2, g3, g4, g5, rv⟩ := E
        exact ⟨b, bs, z, by rw [upd_ne (ne_of g1 h1 (by nofun))]; exact g1, g2, g3, g4, g5, paired_mem rv fun c dd hc ⟨xs', x1, x2, x3, x4⟩ => ⟨xs', by rw [upd_ne (ne_of x1 h1 (by nofun))]; exact x1, x2, x3, x4⟩⟩
      | dct ks => exact absurd (R.inj.oneD j i ks kvs q2 h) nj
  · rcases set_get q2 with ⟨_, z, _⟩ | ⟨_, q2⟩
    · cases z
    · rcases set_get q4 with ⟨_, z, _⟩ | ⟨_, q4⟩
      · cases z
      · exact R.inj.two j k b es fs hjk q1 q2 q3 q4
  · rcases set_get q2 with ⟨_, z, _⟩ | ⟨_, q2⟩
    · cases z
    · rcases set_get q4 with ⟨_, z, _⟩ | ⟨_, q4⟩
      · cases z
      · obtain ⟨m1, m2⟩ := R.inj.mix j k b a' es dss q1 q2 q3 q4
        refine ⟨m1, fun ws z => m2 ws ?_⟩
        by_cases n : a' = a
        · subst n; rw [upd_same] at z; cases z
        · rw [upd_ne n] at z; exact z
  · rcases set_get q1 with ⟨_, z, _⟩ | ⟨_, q1⟩
    · cases z
    · rcases set_get q2 with ⟨_, z, _⟩ | ⟨_, q2⟩
      · cases z
      · exact R.inj.one j k dss ess q1 q2
  · have old : ∀ (j : Nat) (ks : List (Key × PyData)), (ρ.set i (.dct kvs'))[j]? = some (.dct ks) → ∃ ks', ρ[j]? = some (.dct ks') := fun j ks q => by
      rcases set_get q with ⟨rfl, _, _⟩ | ⟨_, q⟩
      · exact ⟨_, h⟩
      · exact ⟨_, q⟩
    obtain ⟨k1, q1⟩ := old j ks q1
    obtain ⟨k2, q2⟩ := old k ls q2
    exact R.inj.oneD j k k1 k2 q1 q2
theorem RepS.freshD {i : Nat} {p : Addr} {kvs : List (Key × PyData)} {vs : List (Key × V)} (R : RepS K H0 G₀ G H σ ρ) (h : H p = none) (hno : ∀ (j : Nat) (ks : List (Key × PyData)), ρ[j]? = some (.dct ks) → j = i) (r : DctOk K G vs kvs) : RepS K H0 G₀ G (upd H p (.dK vs)) (σ.set i (some (.ref p))) (ρ.set i (.dct kvs)) := by
  have R' := R.more (Grow.side (o := .dK vs) R.sub h)
  refine ⟨R'.grow, by simp [R.len], fun j o e h1 h2 => ?_, ⟨fun j k a es fs hjk h1 h2 h3 h4 => ?_, fun j k b a' es dss q1 q2 q3 q4 => ?_, fun j k dss ess q1 q2 => ?_, fun j k ks ls q1 q2 => ?_⟩, R'.tab⟩
  · rcases set_get h1 with ⟨rfl, rfl, _⟩ | ⟨n, h1⟩
    · rcases set_get h2 with ⟨_, rfl, _⟩ | ⟨n, _⟩
      · exact ⟨p, vs, rfl, upd_same, R.sub.free h, R.grow.hh.free h, r⟩
      · exact absurd rfl n
    · rcases set_get h2 with ⟨z, _⟩ | ⟨_, h2⟩
      · exact absurd z n
      · exact R'.ent j o e h1 h2
  · rcases set_get h2 with ⟨_, z, _⟩ | ⟨n2, h2⟩
    · cases z
    · rcases set_get h4 with ⟨_, z, _⟩ | ⟨n4, h4⟩
      · cases z
      · rw [List.getElem?_set_ne (Ne.symm n2)] at h1
        rw [List.getElem?_set_ne (Ne.symm n4)] at h3
        exact R'.inj.two j k a es fs hjk h1 h2 h3 h4
  · rcases set_get q2 with ⟨_, z, _⟩ | ⟨n2, q2⟩
    · cases z
    · rcases set_get q4 with ⟨_, z, _⟩ | ⟨n4, q4⟩
      · cases z
      · rw [List.getElem?_set_ne (Ne.symm n2)] at q1
        rw [List.getElem?_set_ne (Ne.symm n4)] at q3
        exact R'.inj.mix j k b a' es dss q1 q2 q3 q4
  · rcases set_get q1 with ⟨_, z, _⟩ | ⟨_, q1⟩
    · cases z
    · rcases set_get q2 with ⟨_, z, _⟩ | ⟨_, q2⟩
      · cases z
      · exact R.inj.one j k dss ess q1 q2
  · have all : ∀ (j : Nat) (ks : List (Key × PyData)), (ρ.set i (.dct kvs))[j]? = some (.dct ks) → j = i := fun j ks q => by
      rcases set_get q with ⟨z, _, _⟩ | ⟨_, q⟩
      · exact z
      · exact hno j ks q
    rw [all j ks q1, all k ls q2]
end
structure PD (X : Cx) (e : Expr) (ρ : List Ent) (d : PyData) : Prop where
  run : ∀ (H0 G₀ G : Hp) (pins : List (Addr × Obj)) (s : Shared) (σ : St) (H : Hp) (Q : VK), Inv X pins σ H s → RepS X.K H0 G₀ G H σ ρ → (∀ v G' H', Grow G H G' H' → Rep X.K G' v d → Q v H') →
    wpAny (model X.prog X.w) X.A (eval e X.env) (EP X pins σ Q) X.xe s
structure PTD (X : Cx) (e : Expr) (ρ : List Ent) (b : Bool) : Prop where
  run : ∀ (H0 G₀ G : Hp) (pins : List (Addr × Obj)) (s : Shared) (σ : St) (H : Hp) (Q : Bool → Hp → Prop), Inv X pins σ H s → RepS X.K H0 G₀ G H σ ρ → (∀ G' H', Grow G H G' H' → Q b H') →
    wpAny (model X.prog X.w) X.A (isTrue e X.env (eval e X.env)) (TP X pins σ Q) X.xe s
structure PAD (X : Cx) (es : List Expr) (ρ : List Ent) (ds : List PyData) : Prop where
  run : ∀ (H0 G₀ G : Hp) (pos : Pos) (pins : List (Addr × Obj)) (s : Shared) (σ : St) (H : Hp) (Q : List V → Hp → Prop), Inv X pins σ H s → RepS X.K H0 G₀ G H σ ρ → (∀ vs G' H', Grow G H G' H' → RepAll X.K G' vs ds → Q vs H') →
    wpAny (model X.prog X.w) X.A (spliced (backTo pos (starEach es X.env))) (AP X pins σ Q) X.xe s
noncomputable def tD (X : Cx) (ρ : List Ent) (d : PyData) : TE := fun σ H Q => ∃ H0 G₀ G, RepS X.K H0 G₀ G H σ ρ ∧ ∀ v G' H', Grow G H G' H' → Rep X.K G' v d → Q v H'
noncomputable def tTD (X : Cx) (ρ : List Ent) (b : Bool) : TT := fun σ H Q => ∃ H0 G₀ G, RepS X.K H0 G₀ G H σ ρ ∧ ∀ G' H', Grow G H G' H' → Q b H'
noncomputable def tAD (X : Cx) (ρ : List Ent) (ds : List PyData) : TA := fun σ H Q => ∃ H0 G₀ G, RepS X.K H0 G₀ G H σ ρ ∧ ∀ vs G' H', Grow G H G' H' → RepAll X.K G' vs ds → Q vs H'
section
variable {X : Cx} {e a b c : Expr} {es : List Expr} {ρ : List Ent} {d da db dc : PyData} {ds : List PyData} {pos p : Pos}
theorem PD.pe (h : PD X e ρ d) : PE X e (tD X ρ d) := fun pins s σ H Q I ⟨H0, G₀, G, R, k⟩ => h.run H0 G₀ G pins s σ H Q I R k
theorem PTD.pt {b : Bool} (h : PTD X e ρ b) : PT X e (tTD X ρ b) := fun pins s σ H Q I ⟨H0, G₀, G, R, k⟩ => h.run H0 G₀ G pins s σ H Q I R k
theorem PAD.pa (h : PAD X es ρ ds) : PA X es (tAD X ρ ds) := fun pos pins s σ H Q I ⟨H0, G₀, G, R, k⟩ => h.run H0 G₀ G pos pins s σ H Q I R k
theorem PD.of {t : TE} (h : PE X e t) (k : ∀ H0 G₀ G σ H Q, RepS X.K H0 G₀ G H σ ρ → (∀ v G' H', Grow G H G' H' → Rep X.K G' v d → Q v H') → t σ H Q) : PD X e ρ d :=
  ⟨fun H0 G₀ G pins s σ H Q I R q => h pins s σ H Q I (k H0 G₀ G σ H Q R q)⟩
theorem pd_int {i : Int} {j} : PD X (.Constant (.int i) j pos) ρ (.int i) := .of pe_int fun _ _ _ _ _ _ R q => q _ _ _ (.refl R.sub) (.int i)
theorem pd_bool {x : Bool} {j} : PD X (.Constant (.bool x) j pos) ρ (.bool x) := .of pe_bl fun _ _ _ _ _ _ R q => q _ _ _ (.refl R.sub) (.bool x)
theorem pd_none {j} : PD X (.Constant .none j pos) ρ .none := .of pe_non fun _ _ _ _ _ _ R q => q _ _ _ (.refl R.sub) .none
theorem pd_var (i : Nat) {x : Str} (h : ρ[i]? = some (.val d)) (hN : X.N[i]? = some x := by rfl) (hv : Vis X.env.scope x := by first | exact Or.inl rfl | exact Or.inr (Or.inl rfl) | exact Or.inr (Or.inr rfl)) (hd : (x == ("__debug__" : Str)) = false := by decide)
    (hcd : (x == ("__classdict__" : Str)) = false := by decide) : PD X (.Name x pos) ρ d := .of (pe_var hN hv hd hcd) fun H0 G₀ G σ H Q R q => by
  obtain ⟨v, e, r⟩ := R.val h
  exact ⟨v, e, q v G H (.refl R.sub) r⟩
theorem pd_globI {x : Str} {i : Int} {t : Tok} (hg : Gl X x) (hm : X.mg x = some (.int i t)) (hd : (x == ("__debug__" : Str)) = false := by decide) : PD X (.Name x pos) ρ (.int i) :=
  .of (pe_glob (v := .int i) hg hm ⟨t, rfl⟩ hd) fun _ _ _ _ _ _ R q => q _ _ _ (.refl R.sub) (.int i)
end
end L2.L3
namespace L2.L3
open PySem PySem.Spec PyProof.Rows
section
variable {X : Cx} {e a b c : Expr} {es : List Expr} {ρ : List Ent} {d da db dc : PyData} {ds : List PyData} {pos p : Pos}
theorem pad_nil : PAD X [] ρ [] := ⟨fun H0 G₀ G pos pins s σ H Q I R q => pa_nil pos pins s σ H Q I (q [] G H (.refl R.sub) .nil)⟩
theorem pad_cons (ha : PD X e ρ d) (hr : PAD X es ρ ds) (hs : starEach (e :: es) X.env = (false, eval e X.env) :: starEach es X.env := by rfl) : PAD X (e :: es) ρ (d :: ds) := by
  refine ⟨?_⟩
  intro H0 G₀ G pos pins s σ H Q I R q
  exact pa_cons ha.pe hr.pa hs pos pins s σ H Q I ⟨H0, G₀, G, R, fun x G1 H1 g1 r1 => ⟨H0, G₀, G1, R.more g1, fun xs G2 H2 g2 r2 => q _ G2 H2 (g1.trans g2) (.cons (r1.mono g2.gg) r2)⟩⟩
structure CmpD (X : Cx) (op : CmpOp) (da db : PyData) (t : Bool) : Prop where
  ex : ∃ r : R2, OpR X (compareOp op) r ∧ ∀ x y G H Q, Same G H → Rep X.K G x da → Rep X.K G y db → Q (V.bl t) H → r x y H Q
theorem cmp_lt {i j : Int} : CmpD X .Lt (.int i) (.int j) (decide (i < j)) := ⟨_, op_lt, fun x y G H Q _ rx ry q => by cases rx; cases ry; exact ⟨_, _, rfl, rfl, q⟩⟩
theorem cmp_le {i j : Int} : CmpD X .LtE (.int i) (.int j) (decide (i ≤ j)) := ⟨_, op_le, fun x y G H Q _ rx ry q => by cases rx; cases ry; exact ⟨_, _, rfl, rfl, q⟩⟩
noncomputable def rEqD (X : Cx) (da db : PyData) (neg : Bool) : R2 := fun x y H Q => Rep X.K H x da ∧ Rep X.K H y db ∧ SeqAt.shaped da = true ∧ SeqAt.shaped db = true ∧ Q (.bl (if neg then !PyData.eqv da db else PyData.eqv da db)) H
theorem op_eqD (hu : X.A.units + 64 < cLine) (da db : PyData) : OpR X (compareOp .Eq) (rEqD X da db false) := by
  intro pins s σ H x y v u Q I rx ry ⟨r1, r2, h1, h2, q⟩
  obtain ⟨as, w1⟩ := r1.reads I rx
  obtain ⟨bs, w2⟩ := r2.reads I ry
  exact eq_dataH w1 w2 h1 h2 hu ⟨.bl _, H, I, rfl, q⟩
theorem op_neD (hu : X.A.units + 64 < cLine) (da db : PyData) : OpR X (compareOp .NotEq) (rEqD X da db true) := by
  intro pins s σ H x y v u Q I rx ry ⟨r1, r2, h1, h2, q⟩
  obtain ⟨as, w1⟩ := r1.reads I rx
  obtain ⟨bs, w2⟩ := r2.reads I ry
  exact ne_dataH w1 w2 h1 h2 hu ⟨.bl _, H, I, rfl, q⟩
theorem cmp_eq (hu : X.A.units + 64 < cLine) (h1 : SeqAt.shaped da = true) (h2 : SeqAt.shaped db = true) : CmpD X .Eq da db (PyData.eqv da db) :=
  ⟨_, op_eqD hu da db, fun x y G H Q s rx ry q => ⟨rx.mono s, ry.mono s, h1, h2, q⟩⟩
theorem cmp_ne (hu : X.A.units + 64 < cLine) (h1 : SeqAt.shaped da = true) (h2 : SeqAt.shaped db = true) : CmpD X .NotEq da db (!PyData.eqv da db) :=
  ⟨_, op_neD hu da db, fun x y G H Q s rx ry q => ⟨rx.mono s, ry.mono s, h1, h2, q⟩⟩
variable {rest : List Expr}
theorem atI_rep {K : PySem.W.Frag} {G : Hp} {xs : List V} {ds : List PyData} {i : Int} {d : PyData} (r : RepAll K G xs ds) (h : atI ds i = some d) : ∃ v, atI xs i = some v ∧ Rep K G v d := by
  unfold atI at h ⊢
  rw [r.length]
  cases e : ixN ds.length i with
  | none => rw [e] at h; cases h
  | some j =>
    rw [e] at h
    exact r.get h
noncomputable def spD (K : PySem.W.Frag) (F : List PyData → PyData → Prop) : Sp := fun vs H Q _ => ∃ G ds d, (Same G H ∧ Tabs K G H) ∧ RepAll K G vs ds ∧ F ds d ∧ ∀ v G' H', Grow G H G' H' → Rep K G' v d → Q v H'
end
end L2.L3
namespace L2.L3
open PySem PySem.Spec PyProof.Rows
noncomputable def Walk (K : PySem.W.Frag) (J : It) (G : Hp) (ds : List PyData) : Prop :=
  ∀ (i : Nat) (G' H' : Hp), Same G G' → Same G' H' → (∀ d, ds[i]? = some d → J.go i H' ∧ ∀ x H2, J.yld i H' x H2 → ∃ G2, Grow G' H' G2 H2 ∧ Rep K G2 x d) ∧ (ds.length ≤ i → J.stop i H')
noncomputable def tID (K : PySem.W.Frag) (ρ : List Ent) (ds : List PyData) : TI := fun σ H R => ∃ H0 G₀ G, RepS K H0 G₀ G H σ ρ ∧ ∀ J G' H', Grow G H G' H' → Walk K J G' ds → R J H'
structure PID (X : Cx) (tg iter : Expr) (ρ : List Ent) (ds : List PyData) : Prop where
  run : PI X tg iter (tID X.K ρ ds)
theorem walk_list {K : PySem.W.Frag} {G : Hp} {a : Addr} {xs : List V} {ds : List PyData} (hq : SqL K G a xs) (r : RepAll K G xs ds) : Walk K (Itl K a) G ds := by
  intro i G' H' s1 s2
  refine ⟨fun d e => ?_, fun hl => ⟨xs, (s1.trans s2).seq hq, by rw [r.length]; exact hl⟩⟩
  obtain ⟨v, ev, rv⟩ := r.get e
  refine ⟨⟨xs, v, (s1.trans s2).seq hq, ev⟩, fun x H2 ⟨e2, y⟩ => ?_⟩
  subst e2
  have z := y xs ((s1.trans s2).seq hq)
  rw [ev] at z
  cases z
  exact ⟨G', .refl s2, rv.mono s1⟩
theorem walk_tup {K : PySem.W.Frag} {G : Hp} {a : Addr} {xs : List V} {ds : List PyData} (hq : SqT K G a xs) (r : RepAll K G xs ds) : Walk K (Itt K a) G ds := by
  intro i G' H' s1 s2
  refine ⟨fun d e => ?_, fun hl => ⟨xs, seqT (s1.trans s2) hq, by rw [r.length]; exact hl⟩⟩
  obtain ⟨v, ev, rv⟩ := r.get e
  refine ⟨⟨xs, v, seqT (s1.trans s2) hq, ev⟩, fun x H2 ⟨e2, y⟩ => ?_⟩
  subst e2
  have z := y xs (seqT (s1.trans s2) hq)
  rw [ev] at z
  cases z
  exact ⟨G', .refl s2, rv.mono s1⟩
noncomputable def rangeD (lo : Int) (n : Nat) : List PyData := (List.range n).map fun (k : Nat) => .int (lo + (k : Int))
theorem walk_rng {K : PySem.W.Frag} {G : Hp} (lo : Int) (n : Nat) : Walk K (Itr lo n) G (rangeD lo n) := by
  intro i G' H' s1 s2
  unfold rangeD
  refine ⟨fun d e => ?_, fun hl => by rw [List.length_map, List.length_range] at hl; exact hl⟩
  rw [List.getElem?_map] at e
  by_cases hi : i < n
  · rw [List.getElem?_range hi] at e
    cases e
    refine ⟨hi, fun x H2 ⟨e1, e2⟩ => ?_⟩
    subst e1 e2
    exact ⟨G', .refl s2, .int _⟩
  · rw [List.getElem?_eq_none (by simpa using hi)] at e
    cases e
section
variable {X : Cx} {tg iter a b : Expr} {ρ : List Ent} {ds : List PyData} {p pos : Pos}
theorem PI.imp {wi wi' : TI} (h : PI X tg iter wi) (k : ∀ σ H R, wi' σ H R → wi σ H R) : PI X tg iter wi' := fun pins s σ H R I w => h pins s σ H R I (k σ H R w)
theorem pid_list (h : PD X iter ρ (.list ds)) : PID X tg iter ρ ds := ⟨PI.imp (pi_list h.pe) fun σ H R ⟨H0, G₀, G, S, q⟩ => ⟨H0, G₀, G, S, fun v G1 H1 g1 r1 => by
  cases r1 with
  | list hq r => exact ⟨_, rfl, ⟨_, g1.sub.seq hq⟩, q _ _ _ g1 (walk_list hq r)⟩⟩⟩
theorem pid_tup (h : PD X iter ρ (.tuple ds)) : PID X tg iter ρ ds := ⟨PI.imp (pi_tup h.pe) fun σ H R ⟨H0, G₀, G, S, q⟩ => ⟨H0, G₀, G, S, fun v G1 H1 g1 r1 => by
  cases r1 with
  | tuple hq r => exact ⟨_, rfl, ⟨_, seqT g1.sub hq⟩, q _ _ _ g1 (walk_tup hq r)⟩⟩⟩
theorem pid_range1 {n : Int} (hm : X.mg "range" = none) (ha : PD X a ρ (.int n)) (h1 : -(2 ^ 62) ≤ n) (h2 : n < 2 ^ 62) (hs : starEach [a] X.env = [(false, eval a X.env)] := by rfl) (hs' : starEach [a] X.env = (false, eval a X.env) :: starEach [] X.env := by rfl) (hg : Gl X "range" := by rfl) :
    PID X tg (.Call (.Name "range" p) [a] [] pos) ρ (rangeD 0 n.toNat) :=
  ⟨PI.imp (pi_range1 hg hm (pad_cons ha pad_nil hs').pa hs) fun σ H R ⟨H0, G₀, G, S, q⟩ => ⟨H0, G₀, G, S, fun vs G1 H1 g1 r1 => by
    cases r1 with
    | cons r rr =>
      cases rr
      cases r
      exact ⟨n, rfl, h1, h2, q _ _ _ g1 (walk_rng 0 n.toNat)⟩⟩⟩
theorem pid_range2 {m n : Int} (hm : X.mg "range" = none) (ha : PD X a ρ (.int m)) (hb : PD X b ρ (.int n)) (h1 : -(2 ^ 62) ≤ m) (h2 : m < 2 ^ 62) (h3 : -(2 ^ 62) ≤ n) (h4 : n < 2 ^ 62)
    (hs : starEach [a, b] X.env = [(false, eval a X.env), (false, eval b X.env)] := by rfl) (hs2 : starEach [b] X.env = [(false, eval b X.env)] := by rfl)
    (hs' : starEach [a, b] X.env = (false, eval a X.env) :: starEach [b] X.env := by rfl) (hs2' : starEach [b] X.env = (false, eval b X.env) :: starEach [] X.env := by rfl) (hg : Gl X "range" := by rfl) :
    PID X tg (.Call (.Name "range" p) [a, b] [] pos) ρ (rangeD m (n - m).toNat) :=
  ⟨PI.imp (pi_range2 hg hm (pad_cons ha (pad_cons hb pad_nil hs2') hs').pa hs hs2) fun σ H R ⟨H0, G₀, G, S, q⟩ => ⟨H0, G₀, G, S, fun vs G1 H1 g1 r1 => by
    cases r1 with
    | cons r rr =>
      cases rr with
      | cons r' rr =>
        cases rr
        cases r
        cases r'
        exact ⟨m, n, rfl, ⟨h1, h2, h3, h4⟩, q _ _ _ g1 (walk_rng m _)⟩⟩⟩
end
noncomputable def tGD (K : PySem.W.Frag) (ρ : List Ent) (d : PyData) (ρ' : List Ent) : TG := fun v σ H Q => ∃ H0 G₀ G, RepS K H0 G₀ G H σ ρ ∧ Rep K G v d ∧ ∀ σ', RepS K H0 G₀ G H σ' ρ' → Q σ' H
noncomputable def tGsD (K : PySem.W.Frag) (ρ : List Ent) (ds : List PyData) (ρ' : List Ent) : TGs := fun vs σ H Q => ∃ H0 G₀ G, RepS K H0 G₀ G H σ ρ ∧ RepAll K G vs ds ∧ ∀ σ', RepS K H0 G₀ G H σ' ρ' → Q σ' H
structure PGD (X : Cx) (tg : Expr) (ρ : List Ent) (d : PyData) (ρ' : List Ent) : Prop where
  run : PG X tg (tGD X.K ρ d ρ')
structure PGsD (X : Cx) (ts : List Expr) (ρ : List Ent) (ds : List PyData) (ρ' : List Ent) : Prop where
  run : PGs X ts (tGsD X.K ρ ds ρ')
section
variable {X : Cx} {e : Expr} {es : List Expr} {ρ ρ1 ρ2 : List Ent} {d : PyData} {ds : List PyData} {pos : Pos}
theorem pgd_name (i : Nat) {x : Str} (hN : X.N.Nodup) (hi : X.N[i]? = some x := by rfl) (hx : Loc X.env.scope x := by first | exact Or.inl rfl | exact Or.inr rfl) (hf : X.fn x = true ∨ X.env.scope.names.lookup x = some .local := by first | exact .inl rfl | exact .inr rfl) :
    PGD X (.Name x pos) ρ d (ρ.set i (.val d)) := ⟨fun pins s σ H v u Q I r ⟨H0, G₀, G, S, rv, q⟩ => pg_name hN hi hx hf pins s σ H v u Q I r (q _ (S.set rv))⟩
theorem pgsd_nil : PGsD X [] ρ [] ρ := ⟨fun pins s σ H vs us Q I r ⟨H0, G₀, G, S, rv, q⟩ => by
  cases rv
  exact pgs_nil pins s σ H [] us Q I r ⟨rfl, q σ S⟩⟩
theorem pgsd_cons (h1 : PGD X e ρ d ρ1) (h2 : PGsD X es ρ1 ds ρ2) (hs : (assignEach (e :: es) X.env).map (·.2) = assign e X.env :: (assignEach es X.env).map (·.2) := by rfl) : PGsD X (e :: es) ρ (d :: ds) ρ2 := ⟨fun pins s σ H vs us Q I r ⟨H0, G₀, G, S, rv, q⟩ => by
  cases rv with
  | cons r1 r2 => exact pgs_cons h1.run h2.run hs pins s σ H _ us Q I r ⟨_, _, rfl, H0, G₀, G, S, r1, fun σ' S' => ⟨H0, G₀, G, S', r2, q⟩⟩⟩
theorem pgd_tup {k : Nat} (hc : X.calm = true) (h : PGsD X es ρ ds ρ1) (hn : (assignEach es X.env).length = ds.length := by rfl) (hst : (assignEach es X.env).findIdx? (·.1) = none := by rfl) : PGD X (.Tuple es k pos) ρ (.tuple ds) ρ1 := ⟨fun pins s σ H v u Q I r ⟨H0, G₀, G, S, rv, q⟩ => by
  cases rv with
  | tuple hq rr => exact pg_tup hc h.run hn hst pins s σ H _ u Q I r ⟨_, _, rfl, seqT S.sub hq, rr.length, H0, G₀, G, S, rr, q⟩⟩
end
inductive Out where
  | nx (ρ : List Ent)
  | rt (d : PyData)
  | bk (ρ : List Ent)
  | ct (ρ : List Ent)
noncomputable def OutOk (K : PySem.W.Frag) (H0 G₀ G : Hp) (D : Ends) : Out → Prop
  | .nx ρ => ∀ G' H' σ', Same G G' → RepS K H0 G₀ G' H' σ' ρ → D.nx σ' H'
  | .rt d => ∀ v G' H', Same G G' → Grow G₀ H0 G' H' → Rep K G' v d → D.rt v H'
  | .bk ρ => ∀ G' H' σ', Same G G' → RepS K H0 G₀ G' H' σ' ρ → D.bk σ' H'
  | .ct ρ => ∀ G' H' σ', Same G G' → RepS K H0 G₀ G' H' σ' ρ → D.ct σ' H'
noncomputable def tSD (K : PySem.W.Frag) (ρ : List Ent) (o : Out) : TS := fun D σ H => ∃ H0 G₀ G, RepS K H0 G₀ G H σ ρ ∧ OutOk K H0 G₀ G D o
structure PSD (X : Cx) (st : Stmt) (ρ : List Ent) (o : Out) : Prop where
  run : PS X st (tSD X.K ρ o)
inductive Weak : List Ent → List Ent → Prop
  | nil : Weak [] []
  | keep {e : Ent} {a b : List Ent} : Weak a b → Weak (e :: a) (e :: b)
  | no {e : Ent} {a b : List Ent} : Weak a b → Weak (e :: a) (.no :: b)
theorem Weak.refl : ∀ ρ : List Ent, Weak ρ ρ
  | [] => .nil
  | _ :: r => .keep (Weak.refl r)
theorem Weak.at : ∀ {a b : List Ent} {i : Nat} {e : Ent}, Weak a b → b[i]? = some e → e = .no ∨ a[i]? = some e
  | _, _, _, _, .nil, h => by simp at h
  | _, _, 0, e, .keep _, h => .inr (by simpa using h)
  | _, _, 0, e, .no _, h => .inl (by simpa using h.symm)
  | _, _, i + 1, e, .keep w, h => by
    rcases Weak.at (i := i) w (by simpa using h) with z | z
    · exact .inl z
    · exact .inr (by simpa using z)
  | _, _, i + 1, e, .no w, h => by
    rcases Weak.at (i := i) w (by simpa using h) with z | z
    · exact .inl z
    · exact .inr (by simpa using z)
theorem Weak.length : ∀ {a b : List Ent}, Weak a b → a.length = b.length
  | _, _, .nil => rfl
  | _, _, .keep w => by simp [Weak.length w]
  | _, _, .no w => by simp [Weak.length w]
theorem RepS.weak {K : PySem.W.Frag} {H0 G₀ G H : Hp} {σ : St} {ρ ρ' : List Ent} (R : RepS K H0 G₀ G H σ ρ) (w : Weak ρ ρ') : RepS K H0 G₀ G H σ ρ' := by
  refine ⟨R.grow, R.len.trans w.length, fun i o e h1 h2 => ?_, R.inj.sub fun i e h1 h2 => ?_, R.tab⟩
  · rcases w.at h2 with z | z
    · subst z; trivial
    · exact R.ent i o e h1 z
  · rcases w.at h1 with z | z
    · subst z; cases h2
    · exact ⟨z, rfl⟩
section
variable {X : Cx} {st : Stmt} {rest : List Stmt} {ρ ρ1 ρ2 : List Ent} {o : Out} {e c : Expr} {d : PyData} {ds : List PyData} {pos : Pos}
theorem PSD.of {t : TS} (h : PS X st t) (k : ∀ H0 G₀ G σ H D, RepS X.K H0 G₀ G H σ ρ → OutOk X.K H0 G₀ G D o → t D σ H) : PSD X st ρ o := ⟨fun pins s σ H D I ⟨H0, G₀, G, S, q⟩ => h pins s σ H D I (k H0 G₀ G σ H D S q)⟩
end
noncomputable def capE (cap : List (Option Nat)) (ρ : List Ent) : List Ent := cap.map fun o => match o with
  | some j => (match ρ[j]? with | some (.val d) => .val d | _ => .no)
  | none => .no
theorem capE_free (cap : List (Option Nat)) (ρ : List Ent) : ∀ (i : Nat) (e : Ent), (capE cap ρ)[i]? = some e → isOwn e = false := fun i e h => by
  unfold capE at h
  rw [List.getElem?_map] at h
  cases hc : cap[i]? with
  | none => rw [hc] at h; cases h
  | some c =>
    rw [hc] at h
    cases c with
    | none => cases h; rfl
    | some j =>
      have h2 : (match ρ[j]? with | some (Ent.val d) => Ent.val d | _ => Ent.no) = e := Option.some.inj h
      cases hr : ρ[j]? with
      | none => rw [hr] at h2; subst h2; rfl
      | some q => rw [hr] at h2; cases q <;> (subst h2; rfl)
theorem RepS.cap {K : PySem.W.Frag} {H0 G₀ G H : Hp} {σ : St} {ρ : List Ent} (R : RepS K H0 G₀ G H σ ρ) (cap : List (Option Nat)) : RepS K H G G H (capSt cap σ) (capE cap ρ) := by
  refine ⟨.refl R.sub, by simp [capSt, capE], fun i o e h1 h2 => ?_, Inj.free (capE_free cap ρ), R.tab⟩
  · unfold capSt at h1
    unfold capE at h2
    rw [List.getElem?_map] at h1 h2
    cases hc : cap[i]? with
    | none => rw [hc] at h1; cases h1
    | some c =>
      rw [hc] at h1 h2
      cases c with
      | none => cases h2; trivial
      | some j =>
        have h1 : (σ[j]?).getD none = o := Option.some.inj h1
        have h2 : (match ρ[j]? with | some (Ent.val d) => Ent.val d | _ => Ent.no) = e := Option.some.inj h2
        cases hr : ρ[j]? with
        | none => rw [hr] at h2; subst h2; trivial
        | some q =>
          rw [hr] at h2
          cases q with
          | no => subst h2; trivial
          | lst ds => subst h2; trivial
          | exc c => subst h2; trivial
          | nst dss => subst h2; trivial
          | dct kvs => subst h2; trivial
          | val d =>
            subst h2
            obtain ⟨v, e, r⟩ := R.val hr
            rw [e] at h1
            subst h1
            exact ⟨v, rfl, r⟩
section
variable {X : Cx} {elt iter tg : Expr} {ifs : List Expr} {scope : Scope} {pos spos : Pos} {N' : List Str} {cap : List (Option Nat)} {ρ ρb : List Ent} {α : Type} {xs : List α} {φ f : α → PyData} {cnd : α → Bool} {ρx : α → List Ent}
structure PTsD (X : Cx) (ifs : List Expr) (ρ : List Ent) (b : Bool) : Prop where
  run : PTs X ifs (tTD X ρ b)
theorem ptsd_nil : PTsD X [] ρ true := ⟨fun pins s σ H Q I ⟨H0, G₀, G, R, q⟩ => pts_nil pins s σ H Q I (q G H (.refl R.sub))⟩
theorem ptsd_one {c : Expr} {t : Bool} (h : PTD X c ρ t) : PTsD X [c] ρ t := ⟨pts_one h.pt⟩
noncomputable def gU (K : PySem.W.Frag) (xs : List α) (φ : α → PyData) (ρb : List Ent) (ρx : α → List Ent) : TG := fun v σ H Q => ∃ x ∈ xs, tGD K ρb (φ x) (ρx x) v σ H Q
noncomputable def tU (K : PySem.W.Frag) (xs : List α) (ρx : α → List Ent) (cnd : α → Bool) : TT := fun σ H Q => ∃ x ∈ xs, ∃ H0 G₀ G, RepS K H0 G₀ G H σ (ρx x) ∧ ∀ G' H', Grow G H G' H' → Q (cnd x) H'
noncomputable def eU (K : PySem.W.Frag) (xs : List α) (ρx : α → List Ent) (cnd : α → Bool) (f : α → PyData) : TE := fun σ H Q => ∃ x ∈ xs, cnd x = true ∧ ∃ H0 G₀ G, RepS K H0 G₀ G H σ (ρx x) ∧ ∀ v G' H', Grow G H G' H' → Rep K G' v (f x) → Q v H'
theorem tcomp_new {K : PySem.W.Frag} {J : It} {H0 G₀ G H : Hp} {σ : St} {Q : VK} (R : RepS K H0 G₀ G H σ ρ) (wk : Walk K J G (xs.map φ)) (hb : Weak (capE cap ρ) ρb) (hw : ∀ x ∈ xs, Weak (ρx x) ρb) (hz : xs.length ≤ sizeLine)
    (q : ∀ D ys G' H', Grow G H G' H' → G' D = some (.lst ys) → H D = none → RepAll K G' ys ((xs.filter cnd).map f) → Q (.ref D) H') : TComp J (gU K xs φ ρb ρx) (tU K xs ρx cnd) (eU K xs ρx cnd f) (capSt cap σ) H Q := by
  refine ⟨fun D i m ys σ' H' => m = xs.length - i ∧ i ≤ xs.length ∧ ∃ G', RepS K H G G' H' σ' ρb ∧ G' D = none ∧ RepAll K G' ys (((xs.take i).filter cnd).map f), fun D hD => ⟨⟨xs.length, by simp, Nat.zero_le _, G, ?_, R.sub.free hD, by simpa using RepAll.nil⟩, ?_⟩⟩
  · exact ((R.cap cap).more (.side R.sub hD)).weak hb
  · rintro i m ys σ1 H1 ⟨rfl, hi, G1, R1, hG1, ra⟩ hD1
    obtain ⟨wgo, wstop⟩ := wk i G1 H1 R1.grow.gg R1.sub
    by_cases hlt : i < xs.length
    · have hx : xs[i]? = some xs[i] := List.getElem?_eq_getElem hlt
      have hm : xs[i] ∈ xs := List.getElem_mem hlt
      obtain ⟨go, yl⟩ := wgo (φ xs[i]) (by rw [List.getElem?_map, hx]; rfl)
      have tk : (xs.take (i + 1)).filter cnd = (xs.take i).filter cnd ++ (if cnd xs[i] = true then [xs[i]] else []) := by
        rw [List.take_succ, hx, List.filter_append]
        cases hcx : cnd xs[i] <;> simp [hcx]
      refine .inr ⟨go, fun x H2 y => ?_⟩
      obtain ⟨G2, g2, rx⟩ := yl x H2 y
      refine ⟨xs[i], hm, H, G, G2, R1.more g2, rx, fun σ3 R3 => ⟨xs[i], hm, H, G, G2, R3, fun G4 H4 g4 => ?_⟩⟩
      have g14 := g2.trans g4
      have hD4 : H4 D = some (.lst ys) := g14.hh.lst hD1
      have hG4 : G4 D = none := g14.new D hG1 (by rw [hD1]; simp)
      dsimp only
      by_cases hcx : cnd xs[i] = true
      · rw [if_pos hcx]
        refine ⟨xs[i], hm, hcx, H, G, G4, R3.more g4, fun v G5 H5 g5 rv => ?_⟩
        have hD5 : H5 D = some (.lst ys) := g5.hh.lst hD4
        have hG5 : G5 D = none := g5.new D hG4 (by rw [hD4]; simp)
        have hlen : ys.length < sizeLine := by
          have h1 := ra.length
          have h2 : (((xs.take i).filter cnd).map f).length ≤ i := by
            rw [List.length_map]
            exact Nat.le_trans (List.length_filter_le _ _) (by rw [List.length_take]; omega)
          omega
        refine ⟨hD5, hlen, xs.length - (i + 1), by omega, rfl, hlt, G5, ?_, hG5, ?_⟩
        · have R5 : RepS K H G G5 H5 σ3 ρb := ((R3.more g4).more g5).weak (hw _ hm)
          -- the list at D has one item more; nothing else speaks of D
          have noOwn : ∀ (j : Nat) (e : Ent), ρb[j]? = some e → isOwn e = false := fun j e h2 => by
            rcases hb.at h2 with z' | z'
            · rw [z']; rfl
            · exact capE_free cap ρ j e z'
          have hHD : H D = none := hD
          refine ⟨⟨R5.grow.gg, R5.grow.hh.wr hHD hD5, fun b o e => ?_, R5.grow.new, R5.grow.nt⟩, R5.len, fun j o e h1 h2 => ?_, Inj.free (fun j e h2 => noOwn j e h2), R5.tab.wr hD5⟩
          · rw [upd_ne (ne_of_none e hG5)]; exact R5.sub b o e
          · have E := R5.ent j o e h1 h2
            cases e with
            | no => trivial
            | val d => exact E
            | exc c => obtain ⟨b, C, z, g1, g2⟩ := E; exact ⟨b, C, z, g1, by rw [upd_ne (ne_of g2 hD5 (by unfold xcO; nofun))]; exact g2⟩
            | lst es => have := noOwn j _ h2; cases this
            | nst dss => have := noOwn j _ h2; cases this
            | dct kvs => have := noOwn j _ h2; cases this
        · rw [tk, if_pos hcx, List.map_append]
          exact (ra.mono ((g14.trans g5).gg)).append (.cons rv .nil)
      · rw [if_neg hcx]
        refine ⟨hD4, xs.length - (i + 1), by omega, rfl, hlt, G4, (R3.more g4).weak (hw _ hm), hG4, ?_⟩
        rw [tk, if_neg hcx, List.append_nil]
        exact ra.mono g14.gg
    · refine .inl ⟨wstop (by rw [List.length_map]; omega), ?_⟩
      have hi' : i = xs.length := by omega
      subst hi'
      rw [List.take_length] at ra
      have sD : Same G1 (upd G1 D (.lst ys)) := same_upd hG1
      refine q D ys (upd G1 D (.lst ys)) H1 ⟨R1.grow.gg.trans sD, R1.grow.hh, fun b o e => ?_, fun b e n => ?_, fun n => (R1.grow.nt n).upd (by nofun)⟩ upd_same hD (ra.mono sD)
      · by_cases hbD : b = D
        · subst hbD; rw [upd_same] at e; cases e; exact hD1
        · rw [upd_ne hbD] at e; exact R1.sub b o e
      · rw [upd_ne (fun z => n (by rw [z]; exact hD))]
        exact R1.grow.new b e n
theorem tcomp_of {K : PySem.W.Frag} {J : It} {H0 G₀ G H : Hp} {σ : St} {Q : VK} (R : RepS K H0 G₀ G H σ ρ) (wk : Walk K J G (xs.map φ)) (hb : Weak (capE cap ρ) ρb) (hw : ∀ x ∈ xs, Weak (ρx x) ρb) (hz : xs.length ≤ sizeLine)
    (q : ∀ v G' H', Grow G H G' H' → Rep K G' v (.list ((xs.filter cnd).map f)) → Q v H') : TComp J (gU K xs φ ρb ρx) (tU K xs ρx cnd) (eU K xs ρx cnd f) (capSt cap σ) H Q :=
  tcomp_new R wk hb hw hz fun D ys G' H' g h _ ra => q _ G' H' g (.list (.of h) ra)
theorem pd_comp (hc : X.calm = true) (B : Blk X scope N' cap) (hi : PID X tg iter ρ (xs.map φ)) (hb : Weak (capE cap ρ) ρb) (hw : ∀ x ∈ xs, Weak (ρx x) ρb) (hz : xs.length ≤ sizeLine)
    (hg : ∀ C s₃ H₃ fp x, x ∈ xs → PGD (blkCx X scope N' C s₃ H₃ fp) tg ρb (φ x) (ρx x))
    (ht : ∀ C s₃ H₃ fp x, x ∈ xs → PTsD (blkCx X scope N' C s₃ H₃ fp) ifs (ρx x) (cnd x))
    (he : ∀ C s₃ H₃ fp x, x ∈ xs → cnd x = true → PD (blkCx X scope N' C s₃ H₃ fp) elt (ρx x) (f x))
    (hs : ∀ x, foldedSetIterable iter X.env x = pure x := by intro _; rfl) : PD X (.ListComp elt [⟨tg, iter, ifs, 0⟩] scope pos) ρ (.list ((xs.filter cnd).map f)) :=
  .of (pe_comp (g := gU X.K xs φ ρb ρx) (tc := tU X.K xs ρx cnd) (te := eU X.K xs ρx cnd f) hc B hi.run (fun C s₃ H₃ fp pins s σ H v u Q I r ⟨x, hx, q⟩ => (hg C s₃ H₃ fp x hx).run pins s σ H v u Q I r q)
    (fun C s₃ H₃ fp pins s σ H Q I ⟨x, hx, q⟩ => (ht C s₃ H₃ fp x hx).run pins s σ H Q I q) (fun C s₃ H₃ fp pins s σ H Q I ⟨x, hx, hcx, H0, G₀, G, R, q⟩ => (he C s₃ H₃ fp x hx hcx).run H0 G₀ G pins s σ H Q I R q) hs)
    fun H0 G₀ G σ H Q R q => ⟨H0, G₀, G, R, fun J G' H' g wk => tcomp_of (R.more g) wk hb hw hz fun v G2 H2 g2 r2 => q v G2 H2 (g.trans g2) r2⟩
theorem psd_setC (i : Nat) {x : Str} {p : Pos} (hN : X.N.Nodup) (hc : X.calm = true) (B : Blk X scope N' cap) (hi : PID X tg iter ρ (xs.map φ)) (hb : Weak (capE cap ρ) ρb) (hw : ∀ x ∈ xs, Weak (ρx x) ρb) (hz : xs.length ≤ sizeLine)
    (hg : ∀ C s₃ H₃ fp x, x ∈ xs → PGD (blkCx X scope N' C s₃ H₃ fp) tg ρb (φ x) (ρx x))
    (ht : ∀ C s₃ H₃ fp x, x ∈ xs → PTsD (blkCx X scope N' C s₃ H₃ fp) ifs (ρx x) (cnd x))
    (he : ∀ C s₃ H₃ fp x, x ∈ xs → cnd x = true → PD (blkCx X scope N' C s₃ H₃ fp) elt (ρx x) (f x))
    (hxi : X.N[i]? = some x := by rfl) (hx : X.env.scope.names.lookup x = some .local := by rfl)
    (hsw : swapsWith (.ListComp elt [⟨tg, iter, ifs, 0⟩] scope pos) (some (.Name x p)) spos.line X.env = pure true := by rfl)
    (hs : ∀ x, foldedSetIterable iter X.env x = pure x := by intro _; rfl) : PSD X (.Assign [.Name x p] (.ListComp elt [⟨tg, iter, ifs, 0⟩] scope pos) spos) ρ (.nx (ρ.set i (.val (.list ((xs.filter cnd).map f))))) :=
  .of (ps_setC (g := gU X.K xs φ ρb ρx) (tc := tU X.K xs ρx cnd) (te := eU X.K xs ρx cnd f) hN hxi hx hc B hi.run (fun C s₃ H₃ fp pins s σ H v u Q I r ⟨x, hx, q⟩ => (hg C s₃ H₃ fp x hx).run pins s σ H v u Q I r q)
    (fun C s₃ H₃ fp pins s σ H Q I ⟨x, hx, q⟩ => (ht C s₃ H₃ fp x hx).run pins s σ H Q I q) (fun C s₃ H₃ fp pins s σ H Q I ⟨x, hx, hcx, H0, G₀, G, R, q⟩ => (he C s₃ H₃ fp x hx hcx).run H0 G₀ G pins s σ H Q I R q) hsw hs)
    fun H0 G₀ G σ H D R q => ⟨H0, G₀, G, R, fun J G' H' g wk => tcomp_of (R.more g) wk hb hw hz fun v G2 H2 g2 r2 => q G2 H2 _ (g.gg.trans g2.gg) (((R.more g).more g2).set r2)⟩
end
noncomputable def startE (N : List Str) (ds : List PyData) : List Ent := ds.map .val ++ List.replicate (N.length - ds.length) .no
theorem startE_ok {K : PySem.W.Frag} {G H : Hp} {N : List Str} {vs : List V} {ds : List PyData} (s : Same G H ∧ Tabs K G H) (r : RepAll K G vs ds) : RepS K H G G H (start N vs) (startE N ds) := by
  have hl := r.length
  refine ⟨.refl s.1, by simp [start, startE, hl], fun i o e h1 h2 => ?_, Inj.free (fun i e h2 => ?_), s.2⟩
  · unfold startE at h2
    unfold start at h1
    by_cases hi : i < ds.length
    · rw [List.getElem?_append_left (by simpa using hi), List.getElem?_map] at h2
      rw [List.getElem?_append_left (by simp; omega), List.getElem?_map] at h1
      rw [List.getElem?_eq_getElem hi] at h2
      obtain ⟨v, ev, rv⟩ := r.get (List.getElem?_eq_getElem hi)
      rw [ev] at h1
      cases h1; cases h2
      exact ⟨v, rfl, rv⟩
    · rw [List.getElem?_append_right (by simpa using hi), List.getElem?_replicate] at h2
      split at h2
      · cases h2; trivial
      · cases h2
  · unfold startE at h2
    by_cases hi : i < ds.length
    · rw [List.getElem?_append_left (by simpa using hi), List.getElem?_map, List.getElem?_eq_getElem hi] at h2
      cases h2; rfl
    · rw [List.getElem?_append_right (by simpa using hi), List.getElem?_replicate] at h2
      split at h2
      · cases h2; rfl
      · cases h2
section
variable {P : Program} {w : World} {K : PySem.W.Frag} {mg : Str → Option Value} {base : Heap}
noncomputable abbrev fcx (P : Program) (w : World) (K : PySem.W.Frag) (mg : Str → Option Value) (base : Heap) (N : List Str) (qual : Str) (scope : Scope) (f : Addr) (cd : Value) (A : Around) (outer : List Env) (s : Shared) (H : Hp) (E : XK) : Cx := (cxOf CX0 P w K mg base N qual scope f cd A outer s H E).nox
end
end L2.L3
namespace L2.L3
open PySem PySem.Spec PyProof.Rows
section
variable {prog : Program} {w : World} {A : Around} {E : Value → Shared → Prop} {s : Shared} {l : Addr} {us : List Value} {ns : List Int} {Q : Value → Shared → Prop}
theorem items_of (hi : IntsAre us ns) : ∃ xs : Array (Int × Tok), us.toArray = intItems xs ∧ ns = xs.toList.map (·.1) := by
  obtain ⟨xs, e⟩ := hi.allInts.items
  exact ⟨xs, e, by rw [← hi.numsOf, ← nums_intItems, ← e]⟩
theorem mx_ints (hh : A.handled = none) (hl : s.heap.IsList l us.toArray) (hi : IntsAre us ns) (hne : ns ≠ [])
    (h : ∀ h' M t tk, (∀ b o, s.heap.get? b = some o → h'.get? b = some o) → M ∈ ns → (∀ a, a ∈ ns → a ≤ M) → Q (.int M t) { s with heap := h', toks := tk }) :
    wpAny (model prog w) A (call (.builtin "max") [.ref l]) Q E s := by
  obtain ⟨xs, e, hns⟩ := items_of hi
  have hpos : 0 < xs.size := by
    cases hx : ns with
    | nil => exact absurd hx hne
    | cons a r =>
      have : ns.length = xs.size := by rw [hns]; simp
      rw [← this, hx]; simp
  rw [e] at hl
  refine max_intList hh hl hpos fun v h' tk hv kp => ?_
  obtain ⟨t, rfl⟩ := intItems_at hv
  have best := argBest_gt (numAt xs) (xs.size - 1)
  refine h h' _ t tk kp ?_ fun a ha => ?_
  · rw [hns, numAt_eq]
    exact getD_mem (by rw [List.length_map, Array.length_toList]; have := best.1; omega)
  · rw [hns] at ha
    obtain ⟨j, hj, rfl⟩ := mem_getD ha
    rw [List.length_map, Array.length_toList] at hj
    rw [← numAt_eq]
    exact best.2 j (by omega)
theorem mn_ints (hh : A.handled = none) (hl : s.heap.IsList l us.toArray) (hi : IntsAre us ns) (hne : ns ≠ [])
    (h : ∀ h' M t tk, (∀ b o, s.heap.get? b = some o → h'.get? b = some o) → M ∈ ns → (∀ a, a ∈ ns → M ≤ a) → Q (.int M t) { s with heap := h', toks := tk }) :
    wpAny (model prog w) A (call (.builtin "min") [.ref l]) Q E s := by
  obtain ⟨xs, e, hns⟩ := items_of hi
  have hpos : 0 < xs.size := by
    cases hx : ns with
    | nil => exact absurd hx hne
    | cons a r =>
      have : ns.length = xs.size := by rw [hns]; simp
      rw [← this, hx]; simp
  rw [e] at hl
  refine min_intList hh hl hpos fun v h' tk hv kp => ?_
  obtain ⟨t, rfl⟩ := intItems_at hv
  have best := argBest_lt (numAt xs) (xs.size - 1)
  refine h h' _ t tk kp ?_ fun a ha => ?_
  · rw [hns, numAt_eq]
    exact getD_mem (by rw [List.length_map, Array.length_toList]; have := best.1; omega)
  · rw [hns] at ha
    obtain ⟨j, hj, rfl⟩ := mem_getD ha
    rw [List.length_map, Array.length_toList] at hj
    rw [← numAt_eq]
    exact best.2 j (by omega)
end
section
variable {X : Cx}
theorem call_maxL (hc : X.calm = true) : CallR X (.builtin "max") (fun xs H Q => ∃ p ns, xs = [.ref p] ∧ SqL X.K H p (ns.map V.int) ∧ ns ≠ [] ∧ ∀ M, M ∈ ns → (∀ a, a ∈ ns → a ≤ M) → Q (.int M) H) := by
  intro pins s σ H xs us Q I r ⟨p, ns, e, hq, hne, q⟩
  subst e
  obtain ⟨u, rfl, rx⟩ := vals1 r
  cases rx
  obtain ⟨its, rv, pl, hz⟩ := I.list hq
  exact mx_ints (I.ok.hd hc) pl.isList (intsAre_of rv) hne fun h' M t tk kp m1 m2 => ⟨.int M, H, I.kept kp, ⟨t, rfl⟩, q M m1 m2⟩
theorem call_minL (hc : X.calm = true) : CallR X (.builtin "min") (fun xs H Q => ∃ p ns, xs = [.ref p] ∧ SqL X.K H p (ns.map V.int) ∧ ns ≠ [] ∧ ∀ M, M ∈ ns → (∀ a, a ∈ ns → M ≤ a) → Q (.int M) H) := by
  intro pins s σ H xs us Q I r ⟨p, ns, e, hq, hne, q⟩
  subst e
  obtain ⟨u, rfl, rx⟩ := vals1 r
  cases rx
  obtain ⟨its, rv, pl, hz⟩ := I.list hq
  exact mn_ints (I.ok.hd hc) pl.isList (intsAre_of rv) hne fun h' M t tk kp m1 m2 => ⟨.int M, H, I.kept kp, ⟨t, rfl⟩, q M m1 m2⟩
variable {e a b c : Expr} {es : List Expr} {ρ : List Ent} {d : PyData} {ds : List PyData} {pos p : Pos}
noncomputable def maxI : List Int → Int
  | [] => 0
  | a :: r => r.foldl max a
noncomputable def minI : List Int → Int
  | [] => 0
  | a :: r => r.foldl min a
theorem foldl_max_ge : ∀ (r : List Int) (a : Int), a ≤ r.foldl max a ∧ ∀ b ∈ r, b ≤ r.foldl max a
  | [], a => ⟨Int.le_refl _, fun _ h => by cases h⟩
  | x :: r, a => by
    have ih := foldl_max_ge r (max a x)
    rw [List.foldl_cons]
    refine ⟨by have := ih.1; omega, fun b hb => ?_⟩
    rcases List.mem_cons.mp hb with rfl | hb
    · have := ih.1; omega
    · exact ih.2 b hb
theorem foldl_max_mem : ∀ (r : List Int) (a : Int), r.foldl max a = a ∨ r.foldl max a ∈ r
  | [], a => .inl rfl
  | x :: r, a => by
    rw [List.foldl_cons]
    rcases foldl_max_mem r (max a x) with h | h
    · by_cases hx : a ≤ x
      · right; rw [h]; simp [Int.max_def, hx]
      · left; rw [h]; simp [Int.max_def, hx]
    · exact .inr (List.mem_cons_of_mem _ h)
theorem maxI_eq {ns : List Int} {M : Int} (h1 : M ∈ ns) (h2 : ∀ a, a ∈ ns → a ≤ M) : M = maxI ns := by
  cases ns with
  | nil => cases h1
  | cons a r =>
    show M = r.foldl max a
    have g := foldl_max_ge r a
    have m := foldl_max_mem r a
    apply Int.le_antisymm
    · rcases List.mem_cons.mp h1 with rfl | h1
      · exact g.1
      · exact g.2 M h1
    · rcases m with m | m
      · rw [m]; exact h2 a List.mem_cons_self
      · exact h2 _ (List.mem_cons_of_mem _ m)
theorem foldl_min_le : ∀ (r : List Int) (a : Int), r.foldl min a ≤ a ∧ ∀ b ∈ r, r.foldl min a ≤ b
  | [], a => ⟨Int.le_refl _, fun _ h => by cases h⟩
  | x :: r, a => by
    have ih := foldl_min_le r (min a x)
    rw [List.foldl_cons]
    refine ⟨by have := ih.1; omega, fun b hb => ?_⟩
    rcases List.mem_cons.mp hb with rfl | hb
    · have := ih.1; omega
    · exact ih.2 b hb
theorem foldl_min_mem : ∀ (r : List Int) (a : Int), r.foldl min a = a ∨ r.foldl min a ∈ r
  | [], a => .inl rfl
  | x :: r, a => by
    rw [List.foldl_cons]
    rcases foldl_min_mem r (min a x) with h | h
    · by_cases hx : a ≤ x
      · left; rw [h]; simp [Int.min_def, hx]
      · right; rw [h]; simp [Int.min_def, hx]
    · exact .inr (List.mem_cons_of_mem _ h)
theorem minI_eq {ns : List Int} {M : Int} (h1 : M ∈ ns) (h2 : ∀ a, a ∈ ns → M ≤ a) : M = minI ns := by
  cases ns with
  | nil => cases h1
  | cons a r =>
    show M = r.foldl min a
    have g := foldl_min_le r a
    have m := foldl_min_mem r a
    apply Int.le_antisymm
    · rcases m with m | m
      · rw [m]; exact h2 a List.mem_cons_self
      · exact h2 _ (List.mem_cons_of_mem _ m)
    · rcases List.mem_cons.mp h1 with rfl | h1
      · exact g.1
      · exact g.2 M h1
noncomputable def rCatS (K : PySem.W.Frag) : R2 := fun x y H Q => ∃ l b xs zs, x = .ref l ∧ y = .ref b ∧ SqL K H l xs ∧ SqL K H b zs ∧ xs.length + zs.length ≤ sizeLine ∧ ∀ p, H p = none → Q (.ref p) (upd H p (.lst (xs ++ zs)))
end
end L2.L3
namespace L2.L3
open PySem PySem.Spec PyProof.Rows
noncomputable def blkOk (so : Scope) (NN : List Str) (scope : Scope) (N' : List Str) (cap : List (Option Nat)) : Bool :=
  decide (scope.kind = .function) && scope.names.all (fun y => decide (y.2 = .cell → scope.names.lookup y.1 = some .cell)) && scope.names.all (fun y => decide (y.2 = .local → scope.names.lookup y.1 = some .local))
    && scope.names.all (fun y => decide (y.2 = .free → so.names.lookup y.1 = some .cell))
    && (List.range cap.length).all (fun i => match cap[i]? with
      | some (some j) => (match N'[i]?, NN[j]? with | some x, some y => decide (x = y ∧ scope.names.lookup x = some .free) | _, _ => false)
      | _ => true)
    && decide (cap.length = N'.length) && decide N'.Nodup
theorem blk_of {X : Cx} {scope so : Scope} {N' NN : List Str} {cap : List (Option Nat)} (hs : X.env.scope = so) (hN : X.N = NN) (h : blkOk so NN scope N' cap = true) : Blk X scope N' cap := by
  unfold blkOk at h
  simp only [Bool.and_eq_true, decide_eq_true_eq, List.all_eq_true] at h
  obtain ⟨⟨⟨⟨⟨⟨h1, h2⟩, h3⟩, h4⟩, h5⟩, h6⟩, h7⟩ := h
  refine ⟨h1, h2, h3, fun y hy hk => ?_, fun i j hij => ?_, h6, h7⟩
  · show X.env.scope.names.lookup y.1 = some .cell
    rw [hs]
    exact h4 y hy hk
  · have hi : i < cap.length := (List.getElem?_eq_some_iff.mp hij).1
    have q := h5 i (List.mem_range.mpr hi)
    rw [hij] at q
    dsimp only at q
    cases e1 : N'[i]? with
    | none => rw [e1] at q; cases q
    | some x =>
      rw [e1] at q
      cases e2 : NN[j]? with
      | none => rw [e2] at q; cases q
      | some y =>
        rw [e2] at q
        have q' : x = y ∧ scope.names.lookup x = some .free := of_decide_eq_true q
        exact ⟨x, rfl, by rw [hN, e2, q'.1], q'.2⟩
section
variable {X : Cx} {e a b c : Expr} {es : List Expr} {ρ : List Ent} {d da db dc : PyData} {ds : List PyData} {pos p : Pos}
end
noncomputable abbrev Mt := Str × Int × Int
end L2.L3
namespace L2.L3
open PySem PySem.Spec PyProof.Rows
section
variable {prog : Program} {w : World} {A : Around} {R : Result → Shared → Prop} {I S : Addr} {fp wr : List Addr} {n : Nat} {P : Nat → Value → Prop} {St : Nat → Heap → Prop} {kw : List (Str × Value)}
end
end L2.L3
namespace L2.L3
open PySem PySem.Spec PyProof.Rows
section
variable {prog : Program} {w : World} {A : Around} {E : Value → Shared → Prop} {s : Shared} {l : Addr} {us : List Value} {ns : List Int} {Q : Value → Shared → Prop}
end
end L2.L3
namespace L2.L3
open PySem PySem.Spec PyProof.Rows
section
variable {X : Cx} {a b : Expr} {ρ : List Ent} {db : PyData} {pos p kp : Pos}
end
end L2.L3
namespace L2.L3
open PySem PySem.Spec PyProof.Rows
section
variable {X : Cx}
theorem op_catS : OpR X (binaryOp .Add) (rCatS X.K) := by
  intro pins s σ H x y v u Q I rx ry ⟨l, b, xs, zs, e1, e2, h1, h2, hz, q⟩
  subst e1 e2
  cases rx
  cases ry
  obtain ⟨its, r1, p1, _⟩ := I.list h1
  obtain ⟨its2, r2, p2, _⟩ := I.list h2
  obtain ⟨⟨c1, d1, t1, sl1⟩, n1, g1, k1, _, m1⟩ := p1
  obtain ⟨⟨c2, d2, t2, sl2⟩, n2, g2, k2, _, m2⟩ := p2
  dsimp only at k1 m1 k2 m2
  subst k1 m1 k2 m2
  have hz' : its.toArray.size + its2.toArray.size ≤ sizeLine := by rw [List.size_toArray, List.size_toArray, ← r1.length, ← r2.length]; exact hz
  refine concat_meets ⟨_, g1, rfl⟩ ⟨_, g2, rfl⟩ noFill_list_add seq_list_add F.slot_list_add F.entry_list_add (F.args_list_add_2 _ _) (list_addW l b _ _ n1 n2 d1 d2 sl1 sl2 hz') ⟨g1, g2, ?_⟩
  have ea : its.toArray ++ its2.toArray = (its ++ its2).toArray := by simp
  rw [ea]
  exact ⟨.ref _, _, I.lnew (t' := s.toks) (r1.append r2) (by rw [List.length_append]; exact hz), rfl, q _ I.fresh⟩
noncomputable def rCatU (K : PySem.W.Frag) : R2 := fun x y H Q => ∃ l b xs zs, x = .ref l ∧ y = .ref b ∧ SqT K H l xs ∧ SqT K H b zs ∧ xs.length + zs.length ≤ sizeLine ∧
  (xs = [] → Q (.ref b) H) ∧ (xs ≠ [] → zs = [] → Q (.ref l) H) ∧ (xs ≠ [] → zs ≠ [] → ∀ p, H p = none → Q (.ref p) (upd H p (.tup (xs ++ zs))))
theorem op_catU : OpR X (binaryOp .Add) (rCatU X.K) := by
  intro pins s σ H x y v u Q I rx ry ⟨l, b, xs, zs, e1, e2, h1, h2, hz, q0, q1, q2⟩
  by_cases hx : xs = []
  · subst e1 e2
    cases rx
    cases ry
    obtain ⟨its, r1, p1, _⟩ := I.tuple h1
    obtain ⟨its2, r2, p2, _⟩ := I.tuple h2
    obtain ⟨⟨c1, d1, t1, sl1⟩, g1, k1, n1, m1⟩ := p1
    obtain ⟨⟨c2, d2, t2, sl2⟩, g2, k2, n2, m2⟩ := p2
    dsimp only at k1 m1 k2 m2
    subst k1 m1 k2 m2
    have hi : its = [] := by
      subst hx
      cases r1
      rfl
    refine concat_meets ⟨_, g1, rfl⟩ ⟨_, g2, rfl⟩ noFill_tuple_add seq_tuple_add F.slot_tuple_add F.entry_tuple_add (F.args_tuple_add_2 _ _) (tuple_addW0 l b _ _ n1 n2 d1 d2 sl1 sl2 (by rw [hi]; rfl)) ⟨g1, g2, ?_⟩
    exact ⟨.ref b, H, I, rfl, q0 hx⟩
  · exact op_catT pins s σ H x y v u Q I rx ry ⟨l, b, xs, zs, e1, e2, h1, h2, hx, hz, q1 hx, q2 hx⟩
variable {e a b c o : Expr} {es : List Expr} {ρ : List Ent} {d da db dc : PyData} {ds : List PyData} {pos p : Pos}
theorem pd_bm {T id : String} {name : Str} {r : V → List V → Hp → VK → Prop} {apos cpos : Pos} (pa : PlainAttrs T) (slot : Slot T name id) (hty : typeOf (.builtin id) = pure (.type "method_descriptor")) (hm : MtR X id r)
    (ho : PD X o ρ da) (ha : PAD X (e :: es) ρ ds) (ht : ∀ x G H, Same G H → Rep X.K G x da → tyV X.K T x H)
    (k : ∀ x vs G H Q, Same G H → Rep X.K G x da → RepAll X.K G vs ds → (∀ v G' H', Grow G H G' H' → Rep X.K G' v d → Q v H') → r x vs H Q)
    (hbase : attributeBase o name X.env (eval o X.env) = eval o X.env := by rfl)
    (hfew : ((backTo cpos (starEach (e :: es) X.env)).all (fun x => !x.1) && (backToKw cpos (keywordEach [] X.env)).all (fun x => x.1.isSome)
      && decide ((e :: es).length + ([] : List Keyword).length + (if ([] : List Keyword).isEmpty then 0 else 1) < 30)) = true := by rfl)
    (hline : (apos.endLine == cpos.line) = true := by rfl) (hs : starEach (e :: es) X.env = (false, eval e X.env) :: starEach es X.env := by rfl) (hplain : (backTo cpos (starEach es X.env)).any (·.1) = false := by rfl) :
    PD X (.Call (.Attribute o name apos) (e :: es) [] cpos) ρ d :=
  .of (pe_bm pa slot hty hm ho.pe ha.pa hbase hfew hline hs hplain) fun H0 G₀ G σ H Q R q => ⟨H0, G₀, G, R, fun x G1 H1 g1 r1 => ⟨ht x G1 H1 g1.sub r1, H0, G₀, G1, R.more g1, fun vs G2 H2 g2 r2 =>
    k x vs G2 H2 Q g2.sub (r1.mono g2.gg) r2 fun v G3 H3 g3 r3 => q v G3 H3 (g1.trans (g2.trans g3)) r3⟩⟩
theorem cmp_eqI {i j : Int} : CmpD X .Eq (.int i) (.int j) (decide (i = j)) := ⟨_, op_eq, fun x y G H Q _ rx ry q => by cases rx; cases ry; exact ⟨rfl, by simpa using q⟩⟩
theorem cmp_neI {i j : Int} : CmpD X .NotEq (.int i) (.int j) (!decide (i = j)) := ⟨_, op_ne, fun x y G H Q _ rx ry q => by cases rx; cases ry; exact ⟨rfl, by simpa using q⟩⟩
theorem cmp_eqS {i j : Str} : CmpD X .Eq (.str i) (.str j) (decide (i = j)) := ⟨_, op_eq, fun x y G H Q _ rx ry q => by cases rx; cases ry; exact ⟨rfl, by simpa using q⟩⟩
theorem cmp_neS {i j : Str} : CmpD X .NotEq (.str i) (.str j) (!decide (i = j)) := ⟨_, op_ne, fun x y G H Q _ rx ry q => by cases rx; cases ry; exact ⟨rfl, by simpa using q⟩⟩
theorem cmp_eqB {i j : Bool} : CmpD X .Eq (.bool i) (.bool j) (decide (i = j)) := ⟨_, op_eq, fun x y G H Q _ rx ry q => by cases rx; cases ry; exact ⟨rfl, by simpa using q⟩⟩
theorem cmp_neB {i j : Bool} : CmpD X .NotEq (.bool i) (.bool j) (!decide (i = j)) := ⟨_, op_ne, fun x y G H Q _ rx ry q => by cases rx; cases ry; exact ⟨rfl, by simpa using q⟩⟩
end
end L2.L3
namespace L2.L3
open PySem PySem.Spec PyProof.Rows
structure Callee (P : Program) (w : World) (K : PySem.W.Frag) (mg : Str → Option Value) (base : Heap) (x : Str) (k : Nat) (ps : List Str) (Fn : List PyData → PyData → Prop) : Prop where
  ex : ∃ f fd, mg x = some (.ref f) ∧ PySem.W.keepIn K (.ref f) = true ∧ Binds K fd ps [] ∧ FnOk P w K mg base CX0 k f fd ps (spD K Fn)
structure Def (K : PySem.W.Frag) (mg : Str → Option Value) (x : Str) (st : Stmt) : Prop where
  ex : ∃ f fd, Fun K x x st f fd ∧ mg x = some (.ref f)
theorem def_mk {K : PySem.W.Frag} {h : Heap} {mg : Str → Option Value} {x : Str} {st : Stmt} {f : Addr} {oc : Value} {od an : Option Addr} {sl : Array (Option Value)} {kV doc pm cdv ct : Value} (X : K.In h) (G : h.Ns mainGlobals mg)
    (a : PySem.W.nsIn K mainGlobals x = some (some (.ref f))) (l : K.lookup f = some ⟨oc, od, .func (PySem.W.fnOf x x (defArgs st) (defBody st) (defScope st) .none kV doc pm an cdv ct), sl⟩) (c : PySem.W.codeIn K cdv x = true) (k : PySem.W.keepIn K (.ref f) = true) :
    Def K mg x st := ⟨f, _, fun_mk l c k, PySem.W.mg_of X G a⟩
section
variable {P : Program} {w : World} {K : PySem.W.Frag} {mg : Str → Option Value} {base : Heap} {X : Cx} {e : Expr} {es : List Expr} {ρ : List Ent} {d : PyData} {ds : List PyData} {pos p : Pos} {x : Str} {k : Nat} {ps N : List Str} {Fn : List PyData → PyData → Prop}
end
theorem eqv_list (a b : List PyData) : PyData.eqv (.list a) (.list b) = PyData.eqvAll a b := by rw [PyData.eqv]
theorem eqv_tuple (a b : List PyData) : PyData.eqv (.tuple a) (.tuple b) = PyData.eqvAll a b := by rw [PyData.eqv]
theorem eqvAll_ints : ∀ a b : List Int, PyData.eqvAll (a.map .int) (b.map .int) = decide (a = b)
  | [], [] => by simp [PyData.eqvAll]
  | [], _ :: _ => by simp [PyData.eqvAll]
  | _ :: _, [] => by simp [PyData.eqvAll]
  | x :: a, y :: b => by
    have ih := eqvAll_ints a b
    simp only [List.map_cons, PyData.eqvAll, ih, PyData.eqv]
    by_cases h : x = y
    · subst h; by_cases h2 : a = b <;> simp [h2]
    · simp [h]
theorem canLayAll_of {ds : List PyData} (h : ∀ d ∈ ds, PyData.canLay0 d = true) : PyData.canLayAll0 ds = true := by
  induction ds with
  | nil => rfl
  | cons d r ih =>
    rw [PyData.canLayAll0, h d List.mem_cons_self, ih fun e he => h e (List.mem_cons_of_mem _ he)]
    rfl
theorem depthAll_of {ds : List PyData} {n : Nat} (h : ∀ d ∈ ds, PyData.depth d ≤ n) : PyData.depthAll ds ≤ n := by
  induction ds with
  | nil => simp [PyData.depthAll]
  | cons d r ih =>
    have h1 := h d List.mem_cons_self
    have h2 := ih fun e he => h e (List.mem_cons_of_mem _ he)
    simp only [PyData.depthAll]
    omega
theorem shaped_of {d : PyData} {n : Nat} (h1 : PyData.canLay0 d = true) (h2 : PyData.depth d ≤ n) (h3 : n ≤ 64) : SeqAt.shaped d = true := by
  unfold SeqAt.shaped
  rw [h1, Bool.true_and]
  exact decide_eq_true (Nat.le_trans h2 h3)
end L2.L3
namespace L2.L3
open PySem PySem.Spec PyProof.Rows
section
variable {X : Cx} {e a b c o : Expr} {es : List Expr} {ρ : List Ent} {d da db dc : PyData} {ds : List PyData} {pos p p2 : Pos}
noncomputable def cutD (xs : List PyData) (lo hi : Option Int) : List PyData := (xs.drop (HT.sIx xs.length 0 lo)).take (HT.sIx xs.length xs.length hi - HT.sIx xs.length 0 lo)
theorem cutD_rep {K : PySem.W.Frag} {G : Hp} {xs : List V} (r : RepAll K G xs ds) (lo hi : Option Int) : RepAll K G (cutV xs lo hi) (cutD ds lo hi) := by
  unfold cutV cutD
  rw [r.length]
  exact (r.drop _).take _
theorem inV_ints {ns : List Int} {i : Int} : inV (.int i) (ns.map V.int) = decide (i ∈ ns) := by
  unfold inV
  induction ns with
  | nil => rfl
  | cons a r ih =>
    rw [List.map_cons, List.any_cons, ih]
    have e : eqV (.int a) (.int i) = decide (a = i) := rfl
    rw [e]
    by_cases h : a = i
    · subst h; simp
    · have h' : ¬ i = a := fun z => h z.symm
      simp [h, h']
theorem inV_strs {ns : List Str} {i : Str} : inV (.str i) (ns.map V.str) = decide (i ∈ ns) := by
  unfold inV
  induction ns with
  | nil => rfl
  | cons a r ih =>
    rw [List.map_cons, List.any_cons, ih]
    have e : eqV (.str a) (.str i) = (a == i) := rfl
    rw [e]
    by_cases h : a = i
    · subst h; simp
    · have h' : ¬ i = a := fun z => h z.symm
      simp [h, h']
theorem flat_ints (ns : List Int) : (ns.map V.int).all flatV = true := by simp [flatV]
theorem flat_strs (ns : List Str) : (ns.map V.str).all flatV = true := by simp [flatV]
end
end L2.L3
namespace L2.L3
open PySem PySem.Spec PyProof.Rows
noncomputable def tyD : PyData → String
  | .none => "NoneType"
  | .bool _ => "bool"
  | .int _ => "int"
  | .str _ => "str"
  | .list _ => "list"
  | .tuple _ => "tuple"
  | .dict _ => "dict"
example (K : PySem.W.Frag) : PySem.W.kitOne K (.type "int") (.type "int") = some true := by rfl
example (K : PySem.W.Frag) : PySem.W.kitOne K (.type "bool") (.type "int") = some true := by rfl
example (K : PySem.W.Frag) : PySem.W.kitOne K (.type "str") (.type "int") = some false := by rfl
section
variable {X : Cx} {e a b c o : Expr} {es : List Expr} {ρ : List Ent} {d da db dc : PyData} {ds : List PyData} {pos p p2 : Pos}
theorem isinst_D {pins : List (Addr × Obj)} {σ : St} {H : Hp} {s : Shared} {A : Around} {E : Value → Shared → Prop} {Q : Value → Shared → Prop} {cv u : Value} {t : Bool} {v : V} (I : Inv X pins σ H s) (r : Rep X.K H v d) (rx : RelV v u)
    (e : PySem.W.kitOne X.K (.type (tyD d)) cv = some t) (h : ∀ tk, Q (.bool t) { s with toks := tk }) : wpAny (model X.prog X.w) A (call (.builtin "isinstance") [u, cv]) Q E s := by
  cases r with
  | none => exact isinst_ok I rx .non e h
  | bool x => exact isinst_ok I rx (.bl x) e h
  | int x => exact isinst_ok I rx (.int x) e h
  | str x => exact isinst_ok I rx (.str x) e h
  | list hq ra =>
    cases rx
    obtain ⟨its, _, ⟨o, n, e1, e2, _⟩, _⟩ := I.list hq
    exact PySem.W.kia_one PySem.W.kitx_list I.kIn ⟨o, e1, e2⟩ e (fun z => nomatch z) h
  | tuple hq ra =>
    cases rx
    obtain ⟨its, _, ⟨o, e1, e2, _⟩, _⟩ := I.tuple hq
    exact PySem.W.kia_one PySem.W.kitx_tuple I.kIn ⟨o, e1, e2⟩ e (fun z => nomatch z) h
  | dict hq _ _ => exact isinst_ok I rx (.dK hq) e h
end
end L2.L3
namespace L2.L3
open PySem PySem.Spec PyProof.Rows
theorem vals_bl : ∀ {bs : List Bool} {us : List Value}, Vals (bs.map V.bl) us → us = bs.map Value.bool
  | [], _, r => by cases r; rfl
  | b :: bs, _, r => by
    cases r with
    | cons r1 r2 => cases r1; rw [vals_bl r2]; rfl
theorem range_all (bs : List Bool) : ((List.range bs.length).all fun i => bs.getD i false) = bs.all id := by
  rw [Bool.eq_iff_iff]
  simp only [List.all_eq_true, List.mem_range]
  constructor
  · intro h b hb
    obtain ⟨i, hi, rfl⟩ := List.mem_iff_getElem.mp hb
    have := h i hi
    simpa [List.getD, List.getElem?_eq_getElem hi] using this
  · intro h i hi
    have := h bs[i] (List.getElem_mem hi)
    simpa [List.getD, List.getElem?_eq_getElem hi] using this
section
variable {X : Cx} {e a b c o : Expr} {es : List Expr} {ρ : List Ent} {d da db dc : PyData} {ds : List PyData} {pos p p2 : Pos}
theorem call_allL (hc : X.calm = true) : CallR X (.builtin "all") (fun xs H Q => ∃ (p : Addr) (bs : List Bool), xs = [.ref p] ∧ SqL X.K H p (bs.map V.bl) ∧ Q (.bl (bs.all id)) H) := by
  intro pins s σ H xs us Q I r ⟨p, bs, e, hq, q⟩
  subst e
  obtain ⟨u, rfl, rx⟩ := vals1 r
  cases rx
  obtain ⟨its, rv, pl, hz⟩ := I.list hq
  have ev := vals_bl rv
  subst ev
  have hl := pl.isList
  have lt : p < s.heap.objs.size := by obtain ⟨o, g, _⟩ := hl; exact Heap.lt_size g
  refine call_all_walk (wpAny_pyIter_list hl ?_)
  refine ⟨s.heap.objs.size, _, _, _, _, _, fun i => bs.getD i false, rfl, Walks.list (A := X.A.in1) (I.ok.hd hc) _ p (Nat.ne_of_lt lt) (bs.map Value.bool).toArray, ⟨⟨_, Heap.get?_push_size _ rfl, rfl, rfl⟩, hl.push _⟩, fun i v s' Q' E' hP hQ => ?_, fun h' tk kp => ?_⟩
  · have hP : (bs.map Value.bool).toArray[i]? = some v := hP
    rw [List.getElem?_toArray, List.getElem?_map] at hP
    cases eb : bs[i]? with
    | none => rw [eb] at hP; cases hP
    | some b =>
      rw [eb] at hP
      cases hP
      refine wpAny_truthy_bool ?_
      have : bs.getD i false = b := by rw [List.getD, eb]; rfl
      rw [← this]
      exact hQ
  · have sz : (bs.map Value.bool).toArray.size = bs.length := by simp
    rw [sz, range_all]
    refine ⟨.bl _, H, I.kept (fun b o g => kp b o ?_ (Heap.get?_push_of_some _ g)), rfl, q⟩
    intro hb
    have z : b = s.heap.objs.size := by simpa using hb
    exact absurd (Heap.lt_size g) (by rw [z]; exact Nat.lt_irrefl _)
theorem repAll_intsG {K : PySem.W.Frag} {G : Hp} : ∀ ns : List Int, RepAll K G (ns.map V.int) (ns.map .int)
  | [] => .nil
  | _ :: r => .cons (.int _) (repAll_intsG r)
noncomputable def sortI (ns : List Int) : List Int := ns.mergeSort (fun a b => decide (a ≤ b))
theorem sortI_perm (ns : List Int) : (sortI ns).Perm ns := List.mergeSort_perm _ _
theorem sortI_sorted (ns : List Int) : (sortI ns).Pairwise (· ≤ ·) := by
  have h := List.pairwise_mergeSort (le := fun (a b : Int) => decide (a ≤ b)) (fun a b c h1 h2 => by simp only [decide_eq_true_eq] at *; omega) (fun a b => by simp only [Bool.or_eq_true, decide_eq_true_eq]; omega) ns
  exact h.imp fun h => by simpa using h
theorem sortI_eq {ns ms : List Int} (hp : ms.Perm ns) (hs : ms.Pairwise (· ≤ ·)) : ms = sortI ns := PySem.W.ksm_same (hp.trans (sortI_perm ns).symm) hs (sortI_sorted ns)
end
end L2.L3
namespace L2.L3
open PySem PySem.Spec PyProof.Rows
section
variable {X : Cx} {iter a b : Expr} {ρ : List Ent} {p pos px : Pos} {x : Str}
theorem cmp_leS {i j : Str} : CmpD X .LtE (.str i) (.str j) (!decide (j.cps.toList < i.cps.toList)) := ⟨fun x y H Q => ∃ i j, x = V.str i ∧ y = V.str j ∧ Q (.bl (!decide (j.cps.toList < i.cps.toList))) H, by
  intro pins s σ H x y v u Q I rx ry ⟨i, j, e1, e2, q⟩
  subst e1 e2
  obtain ⟨t, rfl⟩ := rx
  obtain ⟨t', rfl⟩ := ry
  exact PySem.P.le_str ⟨.bl _, H, I, rfl, q⟩, fun x y G H Q _ rx ry q => by cases rx; cases ry; exact ⟨_, _, rfl, rfl, q⟩⟩
end
end L2.L3
namespace L2.L3
open PySem PySem.Spec PyProof.Rows
noncomputable def Fresh (X : Cx) (b : Addr) : Prop := (b ∈ X.ex ∨ X.s₀.heap.get? b = none) ∧ ∀ p ∈ X.pn, p.1 ≠ b
noncomputable def ExcF (fr : Addr → Prop) (fl : Value) (H : Hp) (a C : Addr) (h : Heap) : Prop :=
  fr a ∧ H a = none ∧ ∃ oe vs a0 T oT ts, h.get? a = some oe ∧ oe.cls = .ref C ∧ oe.data = .fields vs ∧ vs[0]? = some a0 ∧
    vs[1]? = some (.ref T) ∧ fr T ∧ H T = none ∧ T ≠ a ∧ h.get? T = some oT ∧ oT.data = .fields ts ∧ ts[3]? = some fl
noncomputable def ExcAt (fr : Addr → Prop) (H : Hp) (a C : Addr) (h : Heap) : Prop :=
  (fr a ∧ H a = none ∧ ∃ oe vs a0, h.get? a = some oe ∧ oe.cls = .ref C ∧ oe.data = .fields vs ∧ vs[0]? = some a0 ∧ vs[1]? = some .none) ∨ ExcF fr .none H a C h
noncomputable def ExcIs (X : Cx) (c : Str) (e : Value) (H : Hp) (s : Shared) : Prop := ∃ a C, e = .ref a ∧ excC X.K c = some C ∧ ExcAt (Fresh X) H a C s.heap
section
variable {X : Cx} {pins : List (Addr × Obj)} {σ : List (Option V)} {H H' : Hp} {s : Shared} {h' : Heap} {a C : Addr} {fr : Addr → Prop}
end
end L2.L3
namespace L2.L3
open PySem PySem.Spec PyProof.Rows
inductive Re (α : Type) where
  | ok (a : α)
  | ex (c : Str)
noncomputable abbrev Mm (α : Type) := Option (Re α)
noncomputable abbrev ret {α : Type} (a : α) : Mm α := some (.ok a)
noncomputable def bnd {α β : Type} (m : Mm α) (k : α → Mm β) : Mm β := match m with
  | some (.ok a) => k a
  | some (.ex c) => some (.ex c)
  | none => none
noncomputable def lft {α : Type} (o : Option α) : Mm α := match o with
  | some a => some (.ok a)
  | none => none
noncomputable abbrev EF := List Ent → Mm PyData
noncomputable abbrev TF := List Ent → Mm Bool
noncomputable abbrev AF := List Ent → Mm (List PyData)
section
variable {α β : Type}
theorem bnd_some {m : Mm α} {k : α → Mm β} {r : Re β} (h : bnd m k = some r) : (∃ a, m = some (.ok a) ∧ k a = some r) ∨ ∃ c, m = some (.ex c) ∧ r = .ex c := by
  match m, h with
  | some (.ok a), h => exact .inl ⟨a, rfl, h⟩
  | some (.ex c), h => exact .inr ⟨c, rfl, (Option.some.inj h).symm⟩
  | none, h => cases h
theorem lft_is {o : Option α} {r : Re α} (h : lft o = some r) : ∃ a, o = some a ∧ r = .ok a := by
  match o, h with
  | some a, h => exact ⟨a, rfl, (Option.some.inj h).symm⟩
  | none, h => cases h
end
noncomputable def XcOk (X : Cx) (H0 G₀ G : Hp) (ρ : List Ent) (c : Str) : Prop :=
  ∀ (pins : List (Addr × Obj)) (s' : Shared) (σ : St) (H' G' : Hp) (e : Value), Inv X pins σ H' s' → RepS X.K H0 G₀ G' H' σ ρ → Same G G' → ExcIs X c e H' s' → X.xe e s'
theorem XcOk.mono {X : Cx} {H0 G₀ G G' : Hp} {ρ : List Ent} {c : Str} (h : XcOk X H0 G₀ G ρ c) (s : Same G G') : XcOk X H0 G₀ G' ρ c :=
  fun pins s' σ H' G2 e I R g x => h pins s' σ H' G2 e I R (s.trans g) x
noncomputable def EndE (X : Cx) (H0 G₀ G : Hp) (ρ : List Ent) (H : Hp) (Q : VK) : Re PyData → Prop
  | .ok d => ∀ v G' H', Grow G H G' H' → Rep X.K G' v d → Q v H'
  | .ex c => XcOk X H0 G₀ G ρ c
noncomputable def EndT (X : Cx) (H0 G₀ G : Hp) (ρ : List Ent) (H : Hp) (Q : Bool → Hp → Prop) : Re Bool → Prop
  | .ok b => ∀ G' H', Grow G H G' H' → Q b H'
  | .ex c => XcOk X H0 G₀ G ρ c
noncomputable def EndA (X : Cx) (H0 G₀ G : Hp) (ρ : List Ent) (H : Hp) (Q : List V → Hp → Prop) : Re (List PyData) → Prop
  | .ok ds => ∀ vs G' H', Grow G H G' H' → RepAll X.K G' vs ds → Q vs H'
  | .ex c => XcOk X H0 G₀ G ρ c
noncomputable def rE (X : Cx) (f : EF) : TE := fun σ H Q => ∃ ρ r H0 G₀ G, f ρ = some r ∧ RepS X.K H0 G₀ G H σ ρ ∧ EndE X H0 G₀ G ρ H Q r
noncomputable def rT (X : Cx) (f : TF) : TT := fun σ H Q => ∃ ρ r H0 G₀ G, f ρ = some r ∧ RepS X.K H0 G₀ G H σ ρ ∧ EndT X H0 G₀ G ρ H Q r
noncomputable def rA (X : Cx) (f : AF) : TA := fun σ H Q => ∃ ρ r H0 G₀ G, f ρ = some r ∧ RepS X.K H0 G₀ G H σ ρ ∧ EndA X H0 G₀ G ρ H Q r
structure DE (X : Cx) (e : Expr) (f : EF) : Prop where
  run : PE X e (rE X f)
structure DT (X : Cx) (e : Expr) (f : TF) : Prop where
  run : PT X e (rT X f)
structure DW (X : Cx) (e : Expr) (f : TF) : Prop where
  run : PW X e (rT X f)
structure DA (X : Cx) (es : List Expr) (f : AF) : Prop where
  run : PA X es (rA X f)
section
variable {X : Cx} {H0 G₀ G G1 H H1 : Hp} {ρ : List Ent} {σ : St}
theorem EndE.more {Q : VK} {r : Re PyData} (q : EndE X H0 G₀ G ρ H Q r) (g : Grow G H G1 H1) : EndE X H0 G₀ G1 ρ H1 Q r := by
  cases r with
  | ok d => exact fun v G' H' g' rv => q v G' H' (g.trans g') rv
  | ex c => exact XcOk.mono q g.gg
theorem EndT.more {Q : Bool → Hp → Prop} {r : Re Bool} (q : EndT X H0 G₀ G ρ H Q r) (g : Grow G H G1 H1) : EndT X H0 G₀ G1 ρ H1 Q r := by
  cases r with
  | ok d => exact fun G' H' g' => q G' H' (g.trans g')
  | ex c => exact XcOk.mono q g.gg
theorem EndA.more {Q : List V → Hp → Prop} {r : Re (List PyData)} (q : EndA X H0 G₀ G ρ H Q r) (g : Grow G H G1 H1) : EndA X H0 G₀ G1 ρ H1 Q r := by
  cases r with
  | ok d => exact fun v G' H' g' rv => q v G' H' (g.trans g') rv
  | ex c => exact XcOk.mono q g.gg
theorem bE {fa : EF} {β : Type} {k : PyData → Mm β} {r : Re β} (R : RepS X.K H0 G₀ G H σ ρ) (e : bnd (fa ρ) k = some r) {T : VK} (hx : ∀ c, r = .ex c → XcOk X H0 G₀ G ρ c)
    (h : ∀ x v G1 H1, Grow G H G1 H1 → RepS X.K H0 G₀ G1 H1 σ ρ → Rep X.K G1 v x → k x = some r → T v H1) : rE X fa σ H T := by
  rcases bnd_some e with ⟨x, e1, e2⟩ | ⟨c, e1, e2⟩
  · exact ⟨ρ, _, H0, G₀, G, e1, R, fun v G1 H1 g1 rv => h x v G1 H1 g1 (R.more g1) rv e2⟩
  · exact ⟨ρ, _, H0, G₀, G, e1, R, hx c e2⟩
theorem bT {fa : TF} {β : Type} {k : Bool → Mm β} {r : Re β} (R : RepS X.K H0 G₀ G H σ ρ) (e : bnd (fa ρ) k = some r) {T : Bool → Hp → Prop} (hx : ∀ c, r = .ex c → XcOk X H0 G₀ G ρ c)
    (h : ∀ x G1 H1, Grow G H G1 H1 → RepS X.K H0 G₀ G1 H1 σ ρ → k x = some r → T x H1) : rT X fa σ H T := by
  rcases bnd_some e with ⟨x, e1, e2⟩ | ⟨c, e1, e2⟩
  · exact ⟨ρ, _, H0, G₀, G, e1, R, fun G1 H1 g1 => h x G1 H1 g1 (R.more g1) e2⟩
  · exact ⟨ρ, _, H0, G₀, G, e1, R, hx c e2⟩
theorem bA {fa : AF} {β : Type} {k : List PyData → Mm β} {r : Re β} (R : RepS X.K H0 G₀ G H σ ρ) (e : bnd (fa ρ) k = some r) {T : List V → Hp → Prop} (hx : ∀ c, r = .ex c → XcOk X H0 G₀ G ρ c)
    (h : ∀ x v G1 H1, Grow G H G1 H1 → RepS X.K H0 G₀ G1 H1 σ ρ → RepAll X.K G1 v x → k x = some r → T v H1) : rA X fa σ H T := by
  rcases bnd_some e with ⟨x, e1, e2⟩ | ⟨c, e1, e2⟩
  · exact ⟨ρ, _, H0, G₀, G, e1, R, fun v G1 H1 g1 rv => h x v G1 H1 g1 (R.more g1) rv e2⟩
  · exact ⟨ρ, _, H0, G₀, G, e1, R, hx c e2⟩
theorem EndE.x {Q : VK} {r : Re PyData} (q : EndE X H0 G₀ G ρ H Q r) : ∀ c, r = .ex c → XcOk X H0 G₀ G ρ c := fun c e => by subst e; exact q
theorem EndT.x {Q : Bool → Hp → Prop} {r : Re Bool} (q : EndT X H0 G₀ G ρ H Q r) : ∀ c, r = .ex c → XcOk X H0 G₀ G ρ c := fun c e => by subst e; exact q
theorem EndA.x {Q : List V → Hp → Prop} {r : Re (List PyData)} (q : EndA X H0 G₀ G ρ H Q r) : ∀ c, r = .ex c → XcOk X H0 G₀ G ρ c := fun c e => by subst e; exact q
end
section
variable {X : Cx} {e a b c : Expr} {es : List Expr} {pos p : Pos} {fa fb fc : EF}
theorem de_of {f : EF} (h : ∀ ρ r, f ρ = some r → ∃ d, r = .ok d ∧ PD X e ρ d) : DE X e f := ⟨fun pins s σ H Q I ⟨ρ, r, H0, G₀, G, ef, R, q⟩ => by
  obtain ⟨d, rfl, hd⟩ := h ρ r ef
  exact hd.run H0 G₀ G pins s σ H Q I R q⟩
theorem DE.pd {f : EF} (h : DE X e f) {ρ : List Ent} {d : PyData} (q : f ρ = some (.ok d)) : PD X e ρ d := ⟨fun H0 G₀ G pins s σ H Q I R k => h.run pins s σ H Q I ⟨ρ, _, H0, G₀, G, q, R, k⟩⟩
theorem DT.ptd {f : TF} (h : DT X e f) {ρ : List Ent} {d : Bool} (q : f ρ = some (.ok d)) : PTD X e ρ d := ⟨fun H0 G₀ G pins s σ H Q I R k => h.run pins s σ H Q I ⟨ρ, _, H0, G₀, G, q, R, k⟩⟩
noncomputable def cst (d : PyData) : EF := fun _ => some (.ok d)
noncomputable def var (i : Nat) : EF := fun ρ => match ρ[i]? with
  | some (.val d) => some (.ok d)
  | _ => none
theorem de_int {i : Int} {j} : DE X (.Constant (.int i) j pos) (cst (.int i)) := de_of fun ρ r e => ⟨_, (Option.some.inj e).symm, pd_int⟩
theorem de_bool {x : Bool} {j} : DE X (.Constant (.bool x) j pos) (cst (.bool x)) := de_of fun ρ r e => ⟨_, (Option.some.inj e).symm, pd_bool⟩
theorem de_none {j} : DE X (.Constant .none j pos) (cst .none) := de_of fun ρ r e => ⟨_, (Option.some.inj e).symm, pd_none⟩
theorem de_globI {x : Str} {i : Int} (hg : Gl X x) (hm : ∃ t, X.mg x = some (.int i t)) (hd : (x == ("__debug__" : Str)) = false := by decide) : DE X (.Name x pos) (cst (.int i)) := de_of fun ρ r e => ⟨_, (Option.some.inj e).symm, by
  obtain ⟨t, hm⟩ := hm
  exact pd_globI hg hm hd⟩
theorem var_is {i : Nat} {ρ : List Ent} {r : Re PyData} (h : var i ρ = some r) : ∃ d, r = .ok d ∧ ρ[i]? = some (.val d) := by
  unfold var at h
  split at h
  · rename_i d e; exact ⟨d, (Option.some.inj h).symm, e⟩
  · cases h
theorem de_var (i : Nat) {x : Str} (hN : X.N[i]? = some x := by rfl) (hv : Vis X.env.scope x := by first | exact Or.inl rfl | exact Or.inr (Or.inl rfl) | exact Or.inr (Or.inr rfl)) (hd : (x == ("__debug__" : Str)) = false := by decide)
    (hcd : (x == ("__classdict__" : Str)) = false := by decide) : DE X (.Name x pos) (var i) := de_of fun ρ r e => by
  obtain ⟨d, e1, e2⟩ := var_is e
  exact ⟨d, e1, pd_var i e2 hN hv hd hcd⟩
structure OpD (X : Cx) (op : Operator) (x y d : PyData) : Prop where
  ex : ∃ r : R2, OpR X (binaryOp op) r ∧ ∀ v u G H Q, Same G H → Rep X.K G v x → Rep X.K G u y → (∀ w G' H', Grow G H G' H' → Rep X.K G' w d → Q w H') → r v u H Q
noncomputable def op2 (g : PyData → PyData → Option PyData) (fa fb : EF) : EF := fun ρ => bnd (fa ρ) fun x => bnd (fb ρ) fun y => lft (g x y)
theorem opR_any {f : Value → Value → Sem Value} : OpR X f (fun v u H Q => ∃ r, OpR X f r ∧ r v u H Q) := fun pins s σ H x y v u Q I rx ry ⟨_, h, q⟩ => h pins s σ H x y v u Q I rx ry q
theorem de_bin {op : Operator} {g : PyData → PyData → Option PyData} (hg : ∀ x y d, g x y = some d → OpD X op x y d) (ha : DE X a fa) (hb : DE X b fb) : DE X (.BinOp a op b pos) (op2 g fa fb) :=
  ⟨fun pins s σ H Q I ⟨ρ, r, H0, G₀, G, e, R, q⟩ => pe_op opR_any ha.run hb.run pins s σ H Q I (bE R e q.x fun x v G1 H1 g1 R1 rv e1 => bE R1 e1 (q.more g1).x fun y u G2 H2 g2 R2 ru e2 => by
    obtain ⟨d, ed, rfl⟩ := lft_is e2
    obtain ⟨r, h1, h2⟩ := (hg x y d ed).ex
    exact ⟨r, h1, h2 v u G2 H2 Q g2.sub (rv.mono g2.gg) ru fun w G' H' g' rw' => q w G' H' ((g1.trans g2).trans g') rw'⟩)⟩
noncomputable def aNil : AF := fun _ => some (.ok [])
noncomputable def aCons (f : EF) (g : AF) : AF := fun ρ => bnd (f ρ) fun x => bnd (g ρ) fun xs => some (.ok (x :: xs))
theorem da_nil : DA X [] aNil := ⟨fun pos pins s σ H Q I ⟨ρ, r, H0, G₀, G, e, R, q⟩ => pa_nil pos pins s σ H Q I (by
  cases (Option.some.inj e); exact q [] G H (.refl R.sub) .nil)⟩
theorem da_cons {f : AF} (ha : DE X e fa) (hr : DA X es f) (hs : starEach (e :: es) X.env = (false, eval e X.env) :: starEach es X.env := by rfl) : DA X (e :: es) (aCons fa f) :=
  ⟨fun pos pins s σ H Q I ⟨ρ, r, H0, G₀, G, e, R, q⟩ => pa_cons ha.run hr.run hs pos pins s σ H Q I (bE R e q.x fun x v G1 H1 g1 R1 rv e1 => bA R1 e1 (q.more g1).x fun ys us G2 H2 g2 R2 ru e2 => by
    cases (Option.some.inj e2)
    exact q _ G2 H2 (g1.trans g2) (.cons (rv.mono g2.gg) ru))⟩
noncomputable def szOk (n : Nat) : Bool := decide (n ≤ 100000)
theorem sz_le {n : Nat} (h : szOk n = true) : n ≤ sizeLine := Nat.le_trans (of_decide_eq_true h) (by decide)
theorem sz_lt {n : Nat} (h : szOk n = true) : n < sizeLine := Nat.lt_of_le_of_lt (of_decide_eq_true h) (by decide)
noncomputable def mkTup (ds : List PyData) : Option PyData := if szOk ds.length then some (.tuple ds) else none
noncomputable def mkLst (ds : List PyData) : Option PyData := if szOk ds.length then some (.list ds) else none
noncomputable def tupE (f : AF) : EF := fun ρ => bnd (f ρ) fun xs => lft (mkTup xs)
noncomputable def lstE (f : AF) : EF := fun ρ => bnd (f ρ) fun xs => lft (mkLst xs)
theorem mkTup_is {ds : List PyData} {d : PyData} (h : mkTup ds = some d) : d = .tuple ds ∧ ds.length ≤ sizeLine := by
  unfold mkTup at h
  split at h
  · rename_i z; exact ⟨(Option.some.inj h).symm, sz_le z⟩
  · cases h
theorem mkLst_is {ds : List PyData} {d : PyData} (h : mkLst ds = some d) : d = .list ds ∧ ds.length ≤ sizeLine := by
  unfold mkLst at h
  split at h
  · rename_i z; exact ⟨(Option.some.inj h).symm, sz_le z⟩
  · cases h
theorem de_tup {x1} {f : AF} (h : DA X es f) : DE X (.Tuple es x1 pos) (tupE f) := ⟨fun pins s σ H Q I ⟨ρ, r, H0, G₀, G, e, R, q⟩ => pe_tup h.run pins s σ H Q I (bA R e q.x fun xs vs G1 H1 g1 R1 rv e1 => by
  obtain ⟨d, ed, rfl⟩ := lft_is e1
  obtain ⟨rfl, hz⟩ := mkTup_is ed
  exact ⟨by rw [rv.length]; exact hz, fun p hp => q _ _ _ (g1.trans (.put g1.sub hp)) (.tuple (.of upd_same) (rv.mono (same_upd (g1.sub.free hp))))⟩)⟩
theorem de_lst {f : AF} (h : DA X es f) : DE X (.List es pos) (lstE f) := ⟨fun pins s σ H Q I ⟨ρ, r, H0, G₀, G, e, R, q⟩ => pe_lst h.run pins s σ H Q I (bA R e q.x fun xs vs G1 H1 g1 R1 rv e1 => by
  obtain ⟨d, ed, rfl⟩ := lft_is e1
  obtain ⟨rfl, hz⟩ := mkLst_is ed
  exact ⟨by rw [rv.length]; exact hz, fun p hp => q _ _ _ (g1.trans (.put g1.sub hp)) (.list (.of upd_same) (rv.mono (same_upd (g1.sub.free hp))))⟩)⟩
noncomputable def cmpE (g : PyData → PyData → Option Bool) (fa fb : EF) : EF := fun ρ => bnd (fa ρ) fun x => bnd (fb ρ) fun y => lft ((g x y).map .bool)
noncomputable def cmpT (g : PyData → PyData → Option Bool) (fa fb : EF) : TF := fun ρ => bnd (fa ρ) fun x => bnd (fb ρ) fun y => lft (g x y)
theorem de_cmp {op : CmpOp} {g : PyData → PyData → Option Bool} (hg : ∀ x y t, g x y = some t → CmpD X op x y t) (ha : DE X a fa) (hb : DE X b fb) (hm : behindInMarks op b = false := by first | exact nomark _ | with_unfolding_all rfl) : DE X (.Compare a [op] [b] pos) (cmpE g fa fb) :=
  ⟨fun pins s σ H Q I ⟨ρ, r, H0, G₀, G, e, R, q⟩ => pe_cmpR opR_any ha.run hb.run hm pins s σ H Q I (bE R e q.x fun x v G1 H1 g1 R1 rv e1 => bE R1 e1 (q.more g1).x fun y u G2 H2 g2 R2 ru e2 => by
    obtain ⟨d, ed, rfl⟩ := lft_is e2
    obtain ⟨t, et, rfl⟩ := Option.map_eq_some_iff.mp ed
    obtain ⟨r, h1, h2⟩ := (hg x y t et).ex
    exact ⟨r, h1, h2 v u G2 H2 Q g2.sub (rv.mono g2.gg) ru (q _ _ _ (g1.trans g2) (.bool _))⟩)⟩
theorem dt_cmp {op : CmpOp} {g : PyData → PyData → Option Bool} (hg : ∀ x y t, g x y = some t → CmpD X op x y t) (ha : DE X a fa) (hb : DE X b fb) (hm : behindInMarks op b = false := by first | exact nomark _ | with_unfolding_all rfl) : DT X (.Compare a [op] [b] pos) (cmpT g fa fb) :=
  ⟨fun pins s σ H Q I ⟨ρ, r, H0, G₀, G, e, R, q⟩ => pt_cmpR opR_any ha.run hb.run hm pins s σ H Q I (bE R e q.x fun x v G1 H1 g1 R1 rv e1 => bE R1 e1 (q.more g1).x fun y u G2 H2 g2 R2 ru e2 => by
    obtain ⟨t, et, rfl⟩ := lft_is e2
    obtain ⟨r, h1, h2⟩ := (hg x y t et).ex
    exact ⟨r, h1, h2 v u G2 H2 _ g2.sub (rv.mono g2.gg) ru ⟨_, rfl, q _ _ (g1.trans g2)⟩⟩)⟩
noncomputable def chnE (g g' : PyData → PyData → Option Bool) (fa fb fc : EF) : EF := fun ρ => bnd (fa ρ) fun x => bnd (fb ρ) fun y => bnd (lft (g x y)) fun t => if t then bnd (fc ρ) fun z => lft ((g' y z).map .bool) else some (.ok (.bool false))
noncomputable def chnT (g g' : PyData → PyData → Option Bool) (fa fb fc : EF) : TF := fun ρ => bnd (fa ρ) fun x => bnd (fb ρ) fun y => bnd (lft (g x y)) fun t => if t then bnd (fc ρ) fun z => lft (g' y z) else some (.ok false)
theorem de_chn {op op' : CmpOp} {g g' : PyData → PyData → Option Bool} (hg : ∀ x y t, g x y = some t → CmpD X op x y t) (hg' : ∀ x y t, g' x y = some t → CmpD X op' x y t) (ha : DE X a fa) (hb : DE X b fb) (hc : DE X c fc)
    (hm : lastMarks [op, op'] [b, c] = false := by with_unfolding_all rfl) : DE X (.Compare a [op, op'] [b, c] pos) (chnE g g' fa fb fc) :=
  ⟨fun pins s σ H Q I ⟨ρ, r, H0, G₀, G, e, R, q⟩ => pe_chain opR_any opR_any ha.run hb.run hc.run hm pins s σ H Q I (bE R e q.x fun x v G1 H1 g1 R1 rv e1 => bE R1 e1 (q.more g1).x fun y u G2 H2 g2 R2 ru e2 => by
    rcases bnd_some e2 with ⟨t, et, e3⟩ | ⟨c, et, _⟩
    · obtain ⟨t', et', z⟩ := lft_is et
      cases z
      obtain ⟨r1, h1, h2⟩ := (hg x y _ et').ex
      refine ⟨r1, h1, h2 v u G2 H2 _ g2.sub (rv.mono g2.gg) ru ⟨_, rfl, ?_⟩⟩
      cases t with
      | false => rw [if_neg (by decide)] at e3 ⊢; cases (Option.some.inj e3); exact q _ _ _ (g1.trans g2) (.bool _)
      | true =>
        rw [if_pos rfl] at e3 ⊢
        exact bE R2 e3 ((q.more g1).more g2).x fun z w G3 H3 g3 R3 rw' e4 => by
          obtain ⟨d, ed, rfl⟩ := lft_is e4
          obtain ⟨t, et, rfl⟩ := Option.map_eq_some_iff.mp ed
          obtain ⟨r2, h3, h4⟩ := (hg' y z t et).ex
          exact ⟨r2, h3, h4 u w G3 H3 Q g3.sub (ru.mono g3.gg) rw' (q _ _ _ ((g1.trans g2).trans g3) (.bool _))⟩
    · obtain ⟨_, _, z⟩ := lft_is et; cases z)⟩
theorem dt_chn {op op' : CmpOp} {g g' : PyData → PyData → Option Bool} (hg : ∀ x y t, g x y = some t → CmpD X op x y t) (hg' : ∀ x y t, g' x y = some t → CmpD X op' x y t) (ha : DE X a fa) (hb : DE X b fb) (hc : DE X c fc)
    (hm : lastMarks [op, op'] [b, c] = false := by with_unfolding_all rfl) : DT X (.Compare a [op, op'] [b, c] pos) (chnT g g' fa fb fc) :=
  ⟨fun pins s σ H Q I ⟨ρ, r, H0, G₀, G, e, R, q⟩ => pt_chain opR_any opR_any ha.run hb.run hc.run hm pins s σ H Q I (bE R e q.x fun x v G1 H1 g1 R1 rv e1 => bE R1 e1 (q.more g1).x fun y u G2 H2 g2 R2 ru e2 => by
    rcases bnd_some e2 with ⟨t, et, e3⟩ | ⟨c, et, _⟩
    · obtain ⟨t', et', z⟩ := lft_is et
      cases z
      obtain ⟨r1, h1, h2⟩ := (hg x y _ et').ex
      refine ⟨r1, h1, h2 v u G2 H2 _ g2.sub (rv.mono g2.gg) ru ⟨_, rfl, ?_⟩⟩
      cases t with
      | false => rw [if_neg (by decide)] at e3; cases (Option.some.inj e3); exact iteF ⟨false, rfl, q _ _ (g1.trans g2)⟩
      | true =>
        rw [if_pos rfl] at e3
        refine iteT ?_
        exact bE R2 e3 ((q.more g1).more g2).x fun z w G3 H3 g3 R3 rw' e4 => by
          obtain ⟨t, et, rfl⟩ := lft_is e4
          obtain ⟨r2, h3, h4⟩ := (hg' y z t et).ex
          exact ⟨r2, h3, h4 u w G3 H3 _ g3.sub (ru.mono g3.gg) rw' ⟨_, rfl, q _ _ ((g1.trans g2).trans g3)⟩⟩
    · obtain ⟨_, _, z⟩ := lft_is et; cases z)⟩
end
end L2.L3
namespace L2.L3
open PySem PySem.Spec PyProof.Rows
section
variable {X : Cx} {e a b c : Expr} {es rest : List Expr} {pos p : Pos} {fa fb fc : EF} {ft fu : TF}
noncomputable def truD : PyData → Option Bool
  | .none => some false
  | .bool b => some b
  | .int i => some (i != 0)
  | .str x => if szOk x.length then some ((x.length : Int) != 0) else none
  | .list ds => some (!ds.isEmpty)
  | .tuple ds => some (!ds.isEmpty)
  | .dict _ => none
theorem rep_empty {K : PySem.W.Frag} {G : Hp} {vs : List V} {ds : List PyData} (r : RepAll K G vs ds) : ds.isEmpty = vs.isEmpty := by
  have h := r.length
  cases vs <;> cases ds <;> simp at h ⊢
theorem tru_rep {K : PySem.W.Frag} {G H : Hp} {v : V} {d : PyData} {t : Bool} (s : Same G H) (r : Rep K G v d) (h : truD d = some t) : TruV K v H t := by
  cases r with
  | none => exact (Option.some.inj h).symm
  | bool b => exact (Option.some.inj h).symm
  | int i => exact (Option.some.inj h).symm
  | str x =>
    have h : (if szOk x.length = true then some ((x.length : Int) != 0) else none) = some t := h
    split at h
    · rename_i z; exact ⟨sz_le z, (Option.some.inj h).symm⟩
    · cases h
  | list hq r => exact .inl ⟨_, s.seq hq, by rw [← rep_empty r]; exact (Option.some.inj h).symm⟩
  | tuple hq r => exact .inr (.inl ⟨_, seqT s hq, by rw [← rep_empty r]; exact (Option.some.inj h).symm⟩)
  | dict _ _ _ => cases h
noncomputable def truT (fa : EF) : TF := fun ρ => bnd (fa ρ) fun x => lft (truD x)
theorem dt_tru (ha : DE X a fa) (he : ∀ whole, isTrue a X.env whole = (do let v ← whole; standAt a.pos; holding [v] (truthy v)) := by intro _; rfl) : DT X a (truT fa) :=
  ⟨fun pins s σ H Q I ⟨ρ, r, H0, G₀, G, e, R, q⟩ => pt_truth ha.run he pins s σ H Q I (bE R e q.x fun x v G1 H1 g1 R1 rv e1 => by
    obtain ⟨t, et, rfl⟩ := lft_is e1
    exact ⟨t, tru_rep g1.sub rv et, q _ _ g1⟩)⟩
noncomputable def notT (ft : TF) : TF := fun ρ => bnd (ft ρ) fun t => some (.ok (!t))
theorem dt_not (ha : DT X a ft) : DT X (.UnaryOp .Not a pos) (notT ft) :=
  ⟨fun pins s σ H Q I ⟨ρ, r, H0, G₀, G, e, R, q⟩ => pt_not ha.run pins s σ H Q I (bT R e q.x fun t G1 H1 g1 R1 e1 => by
    cases (Option.some.inj e1); exact q _ _ g1)⟩
noncomputable def boolD : PyData → Option Bool
  | .bool b => some b
  | _ => none
noncomputable def notE (fa : EF) : EF := fun ρ => bnd (fa ρ) fun x => lft ((boolD x).map fun t => .bool (!t))
theorem boolD_is {d : PyData} {t : Bool} (h : boolD d = some t) : d = .bool t := by
  cases d <;> first | (cases h; done) | (cases (Option.some.inj h); rfl)
theorem de_not (ha : DE X a fa) : DE X (.UnaryOp .Not a pos) (notE fa) :=
  ⟨fun pins s σ H Q I ⟨ρ, r, H0, G₀, G, e, R, q⟩ => pe_not ha.run pins s σ H Q I (bE R e q.x fun x v G1 H1 g1 R1 rv e1 => by
    obtain ⟨d, ed, rfl⟩ := lft_is e1
    obtain ⟨t, et, rfl⟩ := Option.map_eq_some_iff.mp ed
    cases boolD_is et
    cases rv
    exact ⟨_, rfl, q _ _ _ g1 (.bool _)⟩)⟩
noncomputable def andT (f g : TF) : TF := fun ρ => bnd (f ρ) fun t => if t then g ρ else some (.ok false)
noncomputable def orT (f g : TF) : TF := fun ρ => bnd (f ρ) fun t => if t then some (.ok true) else g ρ
theorem dw_and1 (ha : DT X a ft) : DW X (.BoolOp .And [a] pos) ft := ⟨pw_and1 ha.run⟩
theorem dw_or1 (ha : DT X a ft) : DW X (.BoolOp .Or [a] pos) ft := ⟨pw_or1 ha.run⟩
theorem dw_and (ha : DT X a ft) (hb : DW X (.BoolOp .And (b :: rest) pos) fu) : DW X (.BoolOp .And (a :: b :: rest) pos) (andT ft fu) :=
  ⟨fun wh pins s σ H Q I ⟨ρ, r, H0, G₀, G, e, R, q⟩ => pw_and ha.run hb.run wh pins s σ H Q I (bT R e q.x fun t G1 H1 g1 R1 e1 => by
    cases t with
    | true => rw [if_pos rfl] at e1 ⊢; exact ⟨ρ, r, H0, G₀, G1, e1, R1, q.more g1⟩
    | false => rw [if_neg (by decide)] at e1 ⊢; cases (Option.some.inj e1); exact q _ _ g1)⟩
theorem dw_or (ha : DT X a ft) (hb : DW X (.BoolOp .Or (b :: rest) pos) fu) : DW X (.BoolOp .Or (a :: b :: rest) pos) (orT ft fu) :=
  ⟨fun wh pins s σ H Q I ⟨ρ, r, H0, G₀, G, e, R, q⟩ => pw_or ha.run hb.run wh pins s σ H Q I (bT R e q.x fun t G1 H1 g1 R1 e1 => by
    cases t with
    | true => rw [if_pos rfl] at e1 ⊢; cases (Option.some.inj e1); exact q _ _ g1
    | false => rw [if_neg (by decide)] at e1 ⊢; exact ⟨ρ, r, H0, G₀, G1, e1, R1, q.more g1⟩)⟩
theorem DW.dt (h : DW X e ft) : DT X e ft := ⟨h.run _⟩
noncomputable def andE (f g : EF) : EF := fun ρ => bnd (f ρ) fun x => bnd (lft (boolD x)) fun t => if t then g ρ else some (.ok (.bool false))
noncomputable def orE (f g : EF) : EF := fun ρ => bnd (f ρ) fun x => bnd (lft (boolD x)) fun t => if t then some (.ok (.bool true)) else g ρ
theorem de_one {op} (ha : DE X a fa) : DE X (.BoolOp op [a] pos) fa := ⟨pe_one ha.run⟩
theorem de_and (ha : DE X a fa) (hb : DE X (.BoolOp .And (b :: rest) pos) fb) : DE X (.BoolOp .And (a :: b :: rest) pos) (andE fa fb) :=
  ⟨fun pins s σ H Q I ⟨ρ, r, H0, G₀, G, e, R, q⟩ => pe_and ha.run hb.run pins s σ H Q I (bE R e q.x fun x v G1 H1 g1 R1 rv e1 => by
    rcases bnd_some e1 with ⟨t, et, e2⟩ | ⟨c, et, _⟩
    · obtain ⟨t', et', z⟩ := lft_is et
      cases z
      cases boolD_is et'
      cases rv
      refine ⟨t, rfl, ?_⟩
      cases t with
      | true => rw [if_pos rfl] at e2 ⊢; exact ⟨ρ, r, H0, G₀, G1, e2, R1, q.more g1⟩
      | false => rw [if_neg (by decide)] at e2 ⊢; cases (Option.some.inj e2); exact q _ _ _ g1 (.bool _)
    · obtain ⟨_, _, z⟩ := lft_is et; cases z)⟩
noncomputable def ifE (f : TF) (fa fb : EF) : EF := fun ρ => bnd (f ρ) fun t => if t then fa ρ else fb ρ
noncomputable def ixD (x i : PyData) : Option PyData := match x, i with
  | .tuple ds, .int k => atI ds k
  | .list ds, .int k => atI ds k
  | .str z, .int k => if szOk z.length then (atI z.cps.toList k).map fun c => .str ⟨#[c]⟩ else none
  | _, _ => none
theorem ixD_rep {K : PySem.W.Frag} {G H : Hp} {v u : V} {x i d : PyData} {Q : VK} (s : Same G H) (rv : Rep K G v x) (ru : Rep K G u i) (h : ixD x i = some d) (q : ∀ w, Rep K G w d → Q w H) : rIx K v u H Q := by
  cases ru with
  | int k =>
    cases rv with
    | tuple hq r =>
      obtain ⟨w, e, rw'⟩ := atI_rep r (show atI _ k = some d from h)
      exact .inr (.inl ⟨_, _, _, w, rfl, rfl, seqT s hq, e, q w rw'⟩)
    | list hq r =>
      obtain ⟨w, e, rw'⟩ := atI_rep r (show atI _ k = some d from h)
      exact .inl ⟨_, _, _, w, rfl, rfl, s.seq hq, e, q w rw'⟩
    | str z =>
      have h : (if szOk z.length = true then (atI z.cps.toList k).map fun c => PyData.str ⟨#[c]⟩ else none) = some d := h
      split at h
      · rename_i hz
        obtain ⟨c, ec, rfl⟩ := Option.map_eq_some_iff.mp h
        exact .inr (.inr ⟨_, _, c, rfl, rfl, sz_le hz, ec, q _ (.str _)⟩)
      · cases h
    | none => cases h
    | bool b => cases h
    | int j => cases h
    | dict _ _ _ => cases h
  | none => cases rv <;> cases h
  | bool b => cases rv <;> cases h
  | str b => cases rv <;> cases h
  | list _ _ => cases rv <;> cases h
  | tuple _ _ => cases rv <;> cases h
  | dict _ _ _ => cases rv <;> cases h
theorem de_ix (ha : DE X a fa) (hb : DE X b fb) (hs : PlainIx b := by exact fun _ _ => rfl) : DE X (.Subscript a b pos) (op2 ixD fa fb) :=
  ⟨fun pins s σ H Q I ⟨ρ, r, H0, G₀, G, e, R, q⟩ => pe_ix ix_seq ha.run hb.run hs pins s σ H Q I (bE R e q.x fun x v G1 H1 g1 R1 rv e1 => bE R1 e1 (q.more g1).x fun y u G2 H2 g2 R2 ru e2 => by
    obtain ⟨d, ed, rfl⟩ := lft_is e2
    exact ixD_rep g2.sub (rv.mono g2.gg) ru ed fun w rw' => q w _ _ (g1.trans g2) rw')⟩
structure CallD (X : Cx) (f : Value) (ds : List PyData) (d : PyData) : Prop where
  ex : ∃ r : List V → Hp → VK → Prop, CallR X f r ∧ ∀ vs G H Q, Same G H → RepAll X.K G vs ds → (∀ w G' H', Grow G H G' H' → Rep X.K G' w d → Q w H') → r vs H Q
theorem callR_any {f : Value} : CallR X f (fun vs H Q => ∃ r, CallR X f r ∧ r vs H Q) := fun pins s σ H vs us Q I rx ⟨_, h, q⟩ => h pins s σ H vs us Q I rx q
noncomputable def bltE (g : List PyData → Option PyData) (fa : AF) : EF := fun ρ => bnd (fa ρ) fun xs => lft (g xs)
theorem de_callB {id : String} {x : Str} {g : List PyData → Option PyData} {f : AF} (hd : ∀ ds d, g ds = some d → CallD X (.builtin id) ds d) (hm : X.mg x = none) (hv : bootBuiltins x = some (.builtin id)) (ha : DA X (e :: es) f) (hg : Gl X x := by rfl)
    (hn : x ≠ "__name__" := by decide) (hdb : (x == ("__debug__" : Str)) = false := by decide)
    (he : starEach (e :: es) X.env = (false, eval e X.env) :: starEach es X.env := by rfl) (hpl : (backTo pos (starEach es X.env)).any (·.1) = false := by rfl) : DE X (.Call (.Name x p) (e :: es) [] pos) (bltE g f) :=
  ⟨fun pins s σ H Q I ⟨ρ, r, H0, G₀, G, e, R, q⟩ => pe_callB callR_any hg hm hv ha.run hn hdb he hpl pins s σ H Q I (bA R e q.x fun xs vs G1 H1 g1 R1 rv e1 => by
    obtain ⟨d, ed, rfl⟩ := lft_is e1
    obtain ⟨r, h1, h2⟩ := (hd xs d ed).ex
    exact ⟨r, h1, h2 vs G1 H1 Q g1.sub rv fun w G' H' g' rw' => q w G' H' (g1.trans g') rw'⟩)⟩
theorem de_callT {T : String} {x : Str} {g : List PyData → Option PyData} {f : AF} (hd : ∀ ds d, g ds = some d → CallD X (.type T) ds d) (hm : X.mg x = none) (hv : bootBuiltins x = some (.type T)) (ha : DA X (e :: es) f) (hg : Gl X x := by rfl)
    (hn : x ≠ "__name__" := by decide) (hdb : (x == ("__debug__" : Str)) = false := by decide)
    (he : starEach (e :: es) X.env = (false, eval e X.env) :: starEach es X.env := by rfl) (hpl : (backTo pos (starEach es X.env)).any (·.1) = false := by rfl) : DE X (.Call (.Name x p) (e :: es) [] pos) (bltE g f) :=
  ⟨fun pins s σ H Q I ⟨ρ, r, H0, G₀, G, e, R, q⟩ => pe_callTy callR_any hg hm hv ha.run hn hdb he hpl pins s σ H Q I (bA R e q.x fun xs vs G1 H1 g1 R1 rv e1 => by
    obtain ⟨d, ed, rfl⟩ := lft_is e1
    obtain ⟨r, h1, h2⟩ := (hd xs d ed).ex
    exact ⟨r, h1, h2 vs G1 H1 Q g1.sub rv fun w G' H' g' rw' => q w G' H' (g1.trans g') rw'⟩)⟩
noncomputable def frzE : Ent → Ent
  | .lst ds => .val (.list ds)
  | .dct kvs => .val (.dict (kvs.map fun p => (keyD p.1, p.2)))
  | e => e
noncomputable def frzAll (ρ : List Ent) : List Ent := ρ.map frzE
noncomputable def plainD : PyData → Bool
  | .none => true
  | .bool _ => true
  | .int _ => true
  | .str _ => true
  | _ => false
theorem Rep.plain {K : PySem.W.Frag} {G G' : Hp} {v : V} {d : PyData} (h : plainD d = true) (r : Rep K G v d) : Rep K G' v d := by
  cases r with
  | none => exact .none
  | bool b => exact .bool b
  | int i => exact .int i
  | str x => exact .str x
  | list _ _ => cases h
  | tuple _ _ => cases h
  | dict _ _ _ => cases h
end
end L2.L3
namespace L2.L3
open PySem PySem.Spec PyProof.Rows
section
variable {K : PySem.W.Frag} {H0 G₀ G H : Hp} {σ : St} {ρ : List Ent}
theorem frz_step (ρ : List Ent) (n : Nat) : (∃ e, ρ[n]? = some e ∧ (ρ.take (n + 1)).map frzE ++ ρ.drop (n + 1) = ((ρ.take n).map frzE ++ ρ.drop n).set n (frzE e)) ∨ (ρ[n]? = none ∧ (ρ.take (n + 1)).map frzE ++ ρ.drop (n + 1) = (ρ.take n).map frzE ++ ρ.drop n) := by
  by_cases hn : n < ρ.length
  · refine .inl ⟨ρ[n], by simp [hn], ?_⟩
    apply List.ext_getElem?
    intro j
    rw [List.getElem?_set]
    by_cases hj : j < n
    · rw [if_neg (by omega), List.getElem?_append_left (by simp; omega), List.getElem?_append_left (by simp; omega), List.getElem?_map, List.getElem?_map, List.getElem?_take_of_lt (by omega), List.getElem?_take_of_lt (by omega)]
    · by_cases hj2 : j = n
      · subst hj2
        rw [if_pos rfl, if_pos (by simp; omega), List.getElem?_append_left (by simp; omega), List.getElem?_map, List.getElem?_take_of_lt (by omega)]
        simp [hn]
      · rw [if_neg (by omega), List.getElem?_append_right (by simp; omega), List.getElem?_append_right (by simp; omega), List.getElem?_drop, List.getElem?_drop]
        simp only [List.length_map, List.length_take]
        congr 1
        omega
  · refine .inr ⟨by simp; omega, ?_⟩
    rw [List.take_of_length_le (by omega), List.take_of_length_le (by omega), List.drop_of_length_le (by omega), List.drop_of_length_le (by omega)]
theorem RepS.frzTo (R : RepS K H0 G₀ G H σ ρ) : ∀ n : Nat, ∃ G', Same G G' ∧ RepS K H0 G₀ G' H σ ((ρ.take n).map frzE ++ ρ.drop n)
  | 0 => ⟨G, .refl _, by simpa using R⟩
  | n + 1 => by
    obtain ⟨G1, s1, R1⟩ := R.frzTo n
    rcases frz_step ρ n with ⟨e, he, eq⟩ | ⟨_, eq⟩
    · have hn : n < ρ.length := (List.getElem?_eq_some_iff.mp he).1
      have at' : ((ρ.take n).map frzE ++ ρ.drop n)[n]? = some e := by
        rw [List.getElem?_append_right (by simp; omega), List.getElem?_drop]
        simp only [List.length_map, List.length_take]
        rw [show n + (n - min n ρ.length) = n by omega]
        exact he
      rw [eq]
      cases e with
      | lst ds =>
        obtain ⟨G2, s2, R2⟩ := R1.freeze at'
        exact ⟨G2, s1.trans s2, R2⟩
      | dct kvs =>
        obtain ⟨G2, s2, R2⟩ := R1.freezeD at'
        exact ⟨G2, s1.trans s2, R2⟩
      | val d =>
        refine ⟨G1, s1, ?_⟩
        have : ((ρ.take n).map frzE ++ ρ.drop n).set n (frzE (.val d)) = (ρ.take n).map frzE ++ ρ.drop n := by
          apply List.ext_getElem?
          intro j
          rw [List.getElem?_set]
          split
          · rename_i h; subst h
            rw [at']
            have := (List.getElem?_eq_some_iff.mp at').1
            rw [if_pos this]; rfl
          · rfl
        rw [this]; exact R1
      | no =>
        refine ⟨G1, s1, ?_⟩
        have : ((ρ.take n).map frzE ++ ρ.drop n).set n (frzE .no) = (ρ.take n).map frzE ++ ρ.drop n := by
          apply List.ext_getElem?
          intro j
          rw [List.getElem?_set]
          split
          · rename_i h; subst h
            rw [at']
            have := (List.getElem?_eq_some_iff.mp at').1
            rw [if_pos this]; rfl
          · rfl
        rw [this]; exact R1
      | exc c =>
        refine ⟨G1, s1, ?_⟩
        have : ((ρ.take n).map frzE ++ ρ.drop n).set n (frzE (.exc c)) = (ρ.take n).map frzE ++ ρ.drop n := by
          apply List.ext_getElem?
          intro j
          rw [List.getElem?_set]
          split
          · rename_i h; subst h
            rw [at']
            have := (List.getElem?_eq_some_iff.mp at').1
            rw [if_pos this]; rfl
          · rfl
        rw [this]; exact R1
      | nst dss =>
        refine ⟨G1, s1, ?_⟩
        have : ((ρ.take n).map frzE ++ ρ.drop n).set n (frzE (.nst dss)) = (ρ.take n).map frzE ++ ρ.drop n := by
          apply List.ext_getElem?
          intro j
          rw [List.getElem?_set]
          split
          · rename_i h; subst h
            rw [at']
            have := (List.getElem?_eq_some_iff.mp at').1
            rw [if_pos this]; rfl
          · rfl
        rw [this]; exact R1
    · rw [eq]; exact ⟨G1, s1, R1⟩
theorem RepS.frzAll (R : RepS K H0 G₀ G H σ ρ) : ∃ G', Same G G' ∧ RepS K H0 G₀ G' H σ (frzAll ρ) := by
  obtain ⟨G', s, R'⟩ := R.frzTo ρ.length
  refine ⟨G', s, ?_⟩
  have : (ρ.take ρ.length).map frzE ++ ρ.drop ρ.length = L3.frzAll ρ := by simp [L3.frzAll]
  rw [this] at R'
  exact R'
end
section
variable {X : Cx} {e a b c : Expr} {es rest : List Expr} {pos p : Pos} {fa fb fc : EF} {ft fu : TF}
noncomputable def thE (f : EF) : EF := fun ρ => match f (frzAll ρ) with
  | some (.ok d) => if plainD d then some (.ok d) else none
  | _ => none
theorem de_th (h : DE X e fa) : DE X e (thE fa) := ⟨fun pins s σ H Q I ⟨ρ, r, H0, G₀, G, ef, R, q⟩ => by
  unfold thE at ef
  split at ef
  · rename_i d eb
    split at ef
    · rename_i hp
      cases (Option.some.inj ef)
      obtain ⟨G', s', R'⟩ := R.frzAll
      exact h.run pins s σ H Q I ⟨_, _, H0, G₀, G', eb, R', fun v G2 H2 g2 rv => q v G H2 ⟨.refl _, g2.hh, s'.trans (g2.gg.trans g2.sub), fun _ z _ => z, id⟩ (rv.plain hp)⟩
    · cases ef
  · cases ef⟩
end
inductive So where
  | nx (ρ : List Ent)
  | rt (d : PyData)
  | bk (ρ : List Ent)
  | ct (ρ : List Ent)
  | xc (c : Str) (ρ : List Ent)
noncomputable abbrev SF := List Ent → Option So
noncomputable def bns {α : Type} (m : Mm α) (ρ : List Ent) (k : α → Option So) : Option So := match m with
  | some (.ok a) => k a
  | some (.ex c) => some (.xc c ρ)
  | none => none
theorem bns_some {α : Type} {m : Mm α} {ρ : List Ent} {k : α → Option So} {r : So} (h : bns m ρ k = some r) : (∃ a, m = some (.ok a) ∧ k a = some r) ∨ ∃ c, m = some (.ex c) ∧ r = .xc c ρ := by
  match m, h with
  | some (.ok a), h => exact .inl ⟨a, rfl, h⟩
  | some (.ex c), h => exact .inr ⟨c, rfl, (Option.some.inj h).symm⟩
  | none, h => cases h
noncomputable def EndS (X : Cx) (H0 G₀ G : Hp) (D : Ends) : So → Prop
  | .nx ρ => ∀ G' H' σ', Same G G' → RepS X.K H0 G₀ G' H' σ' ρ → D.nx σ' H'
  | .rt d => ∀ v G' H', Same G G' → Grow G₀ H0 G' H' → Rep X.K G' v d → D.rt v H'
  | .bk ρ => ∀ G' H' σ', Same G G' → RepS X.K H0 G₀ G' H' σ' ρ → D.bk σ' H'
  | .ct ρ => ∀ G' H' σ', Same G G' → RepS X.K H0 G₀ G' H' σ' ρ → D.ct σ' H'
  | .xc c ρ => XcOk X H0 G₀ G ρ c
theorem EndS.mono {X : Cx} {H0 G₀ G G' : Hp} {D : Ends} {o : So} (h : EndS X H0 G₀ G D o) (s : Same G G') : EndS X H0 G₀ G' D o := by
  cases o with
  | nx ρ => exact fun G2 H' σ' s2 R => h G2 H' σ' (s.trans s2) R
  | rt d => exact fun v G2 H' s2 g r => h v G2 H' (s.trans s2) g r
  | bk ρ => exact fun G2 H' σ' s2 R => h G2 H' σ' (s.trans s2) R
  | ct ρ => exact fun G2 H' σ' s2 R => h G2 H' σ' (s.trans s2) R
  | xc c ρ => exact XcOk.mono h s
noncomputable def rS (X : Cx) (f : SF) : TS := fun D σ H => ∃ ρ o H0 G₀ G, f ρ = some o ∧ RepS X.K H0 G₀ G H σ ρ ∧ EndS X H0 G₀ G D o
structure DS (X : Cx) (st : Stmt) (f : SF) : Prop where
  run : PS X st (rS X f)
structure DB (X : Cx) (sts : List Stmt) (f : SF) : Prop where
  run : PSs X sts (rS X f)
section
variable {X : Cx} {H0 G₀ G H : Hp} {ρ : List Ent} {σ : St} {D : Ends} {o : So}
theorem sE {fa : EF} {k : PyData → Option So} (R : RepS X.K H0 G₀ G H σ ρ) (e : bns (fa ρ) ρ k = some o) (q : EndS X H0 G₀ G D o) {T : VK}
    (h : ∀ x v G1 H1, Grow G H G1 H1 → RepS X.K H0 G₀ G1 H1 σ ρ → Rep X.K G1 v x → k x = some o → EndS X H0 G₀ G1 D o → T v H1) : rE X fa σ H T := by
  rcases bns_some e with ⟨x, e1, e2⟩ | ⟨c, e1, e2⟩
  · exact ⟨ρ, _, H0, G₀, G, e1, R, fun v G1 H1 g1 rv => h x v G1 H1 g1 (R.more g1) rv e2 (q.mono g1.gg)⟩
  · subst e2; exact ⟨ρ, _, H0, G₀, G, e1, R, q⟩
theorem sA {fa : AF} {k : List PyData → Option So} (R : RepS X.K H0 G₀ G H σ ρ) (e : bns (fa ρ) ρ k = some o) (q : EndS X H0 G₀ G D o) {T : List V → Hp → Prop}
    (h : ∀ x v G1 H1, Grow G H G1 H1 → RepS X.K H0 G₀ G1 H1 σ ρ → RepAll X.K G1 v x → k x = some o → EndS X H0 G₀ G1 D o → T v H1) : rA X fa σ H T := by
  rcases bns_some e with ⟨x, e1, e2⟩ | ⟨c, e1, e2⟩
  · exact ⟨ρ, _, H0, G₀, G, e1, R, fun v G1 H1 g1 rv => h x v G1 H1 g1 (R.more g1) rv e2 (q.mono g1.gg)⟩
  · subst e2; exact ⟨ρ, _, H0, G₀, G, e1, R, q⟩
theorem sT {fa : TF} {k : Bool → Option So} (R : RepS X.K H0 G₀ G H σ ρ) (e : bns (fa ρ) ρ k = some o) (q : EndS X H0 G₀ G D o) {T : Bool → Hp → Prop}
    (h : ∀ x G1 H1, Grow G H G1 H1 → RepS X.K H0 G₀ G1 H1 σ ρ → k x = some o → EndS X H0 G₀ G1 D o → T x H1) : rT X fa σ H T := by
  rcases bns_some e with ⟨x, e1, e2⟩ | ⟨c, e1, e2⟩
  · exact ⟨ρ, _, H0, G₀, G, e1, R, fun G1 H1 g1 => h x G1 H1 g1 (R.more g1) e2 (q.mono g1.gg)⟩
  · subst e2; exact ⟨ρ, _, H0, G₀, G, e1, R, q⟩
end
section
variable {X : Cx} {st : Stmt} {rest : List Stmt} {f g : SF} {fa fb : EF} {ft : TF} {e c b : Expr} {pos : Pos}
noncomputable def nilS : SF := fun ρ => some (.nx ρ)
noncomputable def seqS (f g : SF) : SF := fun ρ => match f ρ with
  | some (.nx ρ') => g ρ'
  | r => r
theorem db_nil : DB X [] nilS := ⟨fun pins s σ H D I ⟨ρ, o, H0, G₀, G, e, R, q⟩ => pss_nil pins s σ H D I (by cases (Option.some.inj e); exact q G H σ (.refl _) R)⟩
theorem db_cons (h1 : DS X st f) (h2 : DB X rest g) : DB X (st :: rest) (seqS f g) := ⟨fun pins s σ H D I ⟨ρ, o, H0, G₀, G, e, R, q⟩ => by
  unfold seqS at e
  split at e
  · rename_i ρ' e1
    refine wpAny_execs_cons (thn (h1.run pins s σ H { D with nx := fun σ' H' => rS X g D σ' H' } I ⟨ρ, _, H0, G₀, G, e1, R, fun G' H' σ' s' R' => ⟨ρ', o, H0, G₀, G', e, R', q.mono s'⟩⟩) fun fl s1 z => ?_)
    cases fl with
    | next => obtain ⟨σ', H', I', z⟩ := z; exact h2.run pins s1 σ' H' D I' z
    | ret v => exact z
    | brk => exact z
    | cont => exact z
  · rename_i z
    have hn : ∀ ρ', o ≠ .nx ρ' := fun ρ' w => z ρ' (by rw [e, w])
    have q' : EndS X H0 G₀ G { D with nx := fun _ _ => False } o := by
      cases o with
      | nx ρ' => exact absurd rfl (hn ρ')
      | rt d => exact q
      | bk ρ' => exact q
      | ct ρ' => exact q
      | xc c ρ' => exact q
    refine wpAny_execs_cons (thn (h1.run pins s σ H { D with nx := fun _ _ => False } I ⟨ρ, o, H0, G₀, G, e, R, q'⟩) fun fl s1 z => ?_)
    cases fl with
    | next => obtain ⟨_, _, _, z⟩ := z; exact z.elim
    | ret v => exact z
    | brk => exact z
    | cont => exact z⟩
theorem db_one (h : DS X st f) : DB X [st] f := ⟨pss_one h.run⟩
noncomputable def frzS (i : Nat) (f : SF) : SF := fun ρ => match ρ[i]? with
  | some (.lst ds) => f (ρ.set i (.val (.list ds)))
  | some (.dct kvs) => f (ρ.set i (.val (.dict (kvs.map fun p => (keyD p.1, p.2)))))
  | _ => f ρ
theorem db_frz (i : Nat) (h : DB X rest f) : DB X rest (frzS i f) := ⟨fun pins s σ H D I ⟨ρ, o, H0, G₀, G, e, R, q⟩ => by
  unfold frzS at e
  split at e
  · rename_i ds hi
    obtain ⟨G', s', R'⟩ := R.freeze hi
    exact h.run pins s σ H D I ⟨_, o, H0, G₀, G', e, R', q.mono s'⟩
  · rename_i kvs hi
    obtain ⟨G', s', R'⟩ := R.freezeD hi
    exact h.run pins s σ H D I ⟨_, o, H0, G₀, G', e, R', q.mono s'⟩
  · exact h.run pins s σ H D I ⟨ρ, o, H0, G₀, G, e, R, q⟩⟩
noncomputable def brkS : SF := fun ρ => some (.bk ρ)
theorem ds_brk : DS X (.Break pos) brkS := ⟨fun pins s σ H D I ⟨ρ, o, H0, G₀, G, e, R, q⟩ => ps_break pins s σ H D I (by cases (Option.some.inj e); exact q G H σ (.refl _) R)⟩
noncomputable def retS (fa : EF) : SF := fun ρ => bns (fa ρ) ρ fun d => some (.rt d)
theorem ds_ret (h : DE X e fa) : DS X (.Return (some e) pos) (retS fa) := ⟨fun pins s σ H D I ⟨ρ, o, H0, G₀, G, e, R, q⟩ => ps_ret h.run pins s σ H D I (sE R e q fun x v G1 H1 g1 R1 rv e1 q1 => by
  cases (Option.some.inj e1); exact q1 v G1 H1 (.refl _) R1.grow rv)⟩
noncomputable def exprS (fa : EF) : SF := fun ρ => bns (fa ρ) ρ fun _ => some (.nx ρ)
theorem ds_expr (h : DE X e fa) (hs : swapsWith e none pos.line X.env = pure false := by rfl) : DS X (.Expr e pos) (exprS fa) := ⟨fun pins s σ H D I ⟨ρ, o, H0, G₀, G, e, R, q⟩ => ps_expr h.run hs pins s σ H D I (sE R e q fun x v G1 H1 g1 R1 rv e1 q1 => by
  cases (Option.some.inj e1); exact q1 G1 H1 σ (.refl _) R1)⟩
noncomputable def ifS (ft : TF) (f g : SF) : SF := fun ρ => bns (ft ρ) ρ fun t => if t then f ρ else g ρ
theorem ds_if {x y : List Stmt} (hc : DT X c ft) (ha : DB X x f) (hb : DB X y g) : DS X (.If c x y pos) (ifS ft f g) := ⟨fun pins s σ H D I ⟨ρ, o, H0, G₀, G, e, R, q⟩ => ps_if hc.run ha.run hb.run pins s σ H D I (sT R e q fun t G1 H1 g1 R1 e1 q1 => by
  cases t with
  | true => rw [if_pos rfl] at e1 ⊢; exact ⟨ρ, o, H0, G₀, G1, e1, R1, q1⟩
  | false => rw [if_neg (by decide)] at e1 ⊢; exact ⟨ρ, o, H0, G₀, G1, e1, R1, q1⟩)⟩
noncomputable def setS (i : Nat) (fa : EF) : SF := fun ρ => bns (fa ρ) ρ fun d => some (.nx (ρ.set i (.val d)))
theorem ds_set (i : Nat) {x : Str} {p : Pos} (hN : X.N.Nodup) (h : DE X e fa) (hi : X.N[i]? = some x := by rfl) (hx : Loc X.env.scope x := by first | exact Or.inl rfl | exact Or.inr rfl)
    (hs : swapsWith e (some (.Name x p)) pos.line X.env = pure false := by rfl) (hf : X.fn x = true ∨ X.env.scope.names.lookup x = some .local := by first | exact .inl rfl | exact .inr rfl) :
    DS X (.Assign [.Name x p] e pos) (setS i fa) := ⟨fun pins s σ H D I ⟨ρ, o, H0, G₀, G, e, R, q⟩ => ps_set hN hi hx h.run hs hf pins s σ H D I (sE R e q fun x v G1 H1 g1 R1 rv e1 q1 => by
  cases (Option.some.inj e1); exact q1 G1 H1 _ (.refl _) (R1.set rv))⟩
noncomputable def newS (i : Nat) (f : AF) : SF := fun ρ => bns (f ρ) ρ fun ds => if szOk ds.length then some (.nx (ρ.set i (.lst ds))) else none
theorem ds_new (i : Nat) {x : Str} {p p2 : Pos} {es : List Expr} {f : AF} (hN : X.N.Nodup) (h : DA X es f) (hi : X.N[i]? = some x := by rfl) (hx : Loc X.env.scope x := by first | exact Or.inl rfl | exact Or.inr rfl)
    (hs : swapsWith (.List es p2) (some (.Name x p)) pos.line X.env = pure false := by rfl) (hf : X.fn x = true ∨ X.env.scope.names.lookup x = some .local := by first | exact .inl rfl | exact .inr rfl) :
    DS X (.Assign [.Name x p] (.List es p2) pos) (newS i f) := ⟨fun pins s σ H D I ⟨ρ, o, H0, G₀, G, e, R, q⟩ => ps_set hN hi hx (pe_lst h.run) hs hf pins s σ H D I (sA R e q fun ds vs G1 H1 g1 R1 rv e1 q1 => by
  split at e1
  · rename_i hz
    cases (Option.some.inj e1)
    exact ⟨by rw [rv.length]; exact sz_le hz, fun a ha => q1 G1 _ _ (.refl _) (R1.fresh ha rv)⟩
  · cases e1)⟩
noncomputable def appS (i : Nat) (fa : EF) : SF := fun ρ => match ρ[i]? with
  | some (.lst ds) => bns (fa ρ) ρ fun d => if szOk ds.length then some (.nx (ρ.set i (.lst (ds ++ [d])))) else none
  | _ => none
theorem ds_app (i : Nat) {x : Str} {p ap cp : Pos} (h : DE X e fa) (hN : X.N[i]? = some x := by rfl)
    (hv : Vis X.env.scope x := by first | exact Or.inl rfl | exact Or.inr (Or.inl rfl) | exact Or.inr (Or.inr rfl)) (hd : (x == ("__debug__" : Str)) = false := by decide) (hcd : (x == ("__classdict__" : Str)) = false := by decide)
    (hbase : attributeBase (.Name x p) "append" X.env (eval (.Name x p) X.env) = eval (.Name x p) X.env := by rfl)
    (hfew : ((backTo cp (starEach (e :: []) X.env)).all (fun x => !x.1) && (backToKw cp (keywordEach [] X.env)).all (fun x => x.1.isSome) && decide ((e :: []).length + ([] : List Keyword).length + (if ([] : List Keyword).isEmpty then 0 else 1) < 30)) = true := by rfl)
    (hline : (ap.endLine == cp.line) = true := by rfl) (hst : starEach (e :: []) X.env = (false, eval e X.env) :: starEach [] X.env := by rfl) (hplain : (backTo cp (starEach [] X.env)).any (·.1) = false := by rfl)
    (hsw : swapsWith (.Call (.Attribute (.Name x p) "append" ap) [e] [] cp) none pos.line X.env = pure false := by rfl) :
    DS X (.Expr (.Call (.Attribute (.Name x p) "append" ap) [e] [] cp) pos) (appS i fa) := ⟨fun pins s σ H D I ⟨ρ, o, H0, G₀, G, ef, R, q⟩ =>
  ps_expr (pe_bm PySem.F.plainAttrs_list PySem.F.slot_list_append PySem.F.type_list_append mt_append (pe_var hN hv hd hcd) (pa_cons h.run pa_nil hst) hbase hfew hline hst hplain) hsw pins s σ H D I (by
    unfold appS at ef
    split at ef
    · rename_i ds hi
      obtain ⟨a, xs, e1, h1, h2, h3, r⟩ := R.own hi
      refine ⟨.ref a, e1, .inl ⟨rfl, xs, .of h1⟩, sE R ef q fun d v G1 H1 g1 R1 rv e2 q1 => ?_⟩
      split at e2
      · rename_i hz
        cases (Option.some.inj e2)
        exact ⟨a, xs, v, rfl, rfl, g1.hh.lst h1, by rw [r.length]; exact sz_lt hz, q1 G1 _ σ (.refl _) (R1.wrote hi e1 ((r.mono g1.gg).append (.cons rv .nil)))⟩
      · cases e2
    · cases ef)⟩
end
end L2.L3
namespace L2.L3
open PySem PySem.Spec PyProof.Rows
section
variable {X : Cx} {st : Stmt} {rest : List Stmt} {f g : SF} {fa fb : EF} {ft : TF} {e c b : Expr} {pos p : Pos}
inductive Tg where
  | nm (i : Nat)
  | tp (is : List Nat)
  | nn (i : Nat) (js : List Nat)
noncomputable def setAll : List Ent → List Nat → List PyData → List Ent
  | ρ, i :: is, d :: ds => setAll (ρ.set i (.val d)) is ds
  | ρ, _, _ => ρ
noncomputable def tgD (t : Tg) (ρ : List Ent) (d : PyData) : Option (List Ent) := match t, d with
  | .nm i, d => some (ρ.set i (.val d))
  | .tp is, .tuple ds => if is.length = ds.length then some (setAll ρ is ds) else none
  | .nn i js, .tuple [d, .tuple ds] => if js.length = ds.length then some (setAll (ρ.set i (.val d)) js ds) else none
  | _, _ => none
structure DG (X : Cx) (tg : Expr) (t : Tg) : Prop where
  run : ∀ ρ d ρ', tgD t ρ d = some ρ' → PGD X tg ρ d ρ'
structure DGs (X : Cx) (ts : List Expr) (is : List Nat) : Prop where
  run : ∀ ρ ds, is.length = ds.length → PGsD X ts ρ ds (setAll ρ is ds)
theorem dg_name (i : Nat) {x : Str} (hN : X.N.Nodup) (hi : X.N[i]? = some x := by rfl) (hx : Loc X.env.scope x := by first | exact Or.inl rfl | exact Or.inr rfl) (hf : X.fn x = true ∨ X.env.scope.names.lookup x = some .local := by first | exact .inl rfl | exact .inr rfl) :
    DG X (.Name x pos) (.nm i) := ⟨fun ρ d ρ' h => by cases (Option.some.inj h); exact pgd_name i hN hi hx hf⟩
theorem dgs_nil : DGs X [] [] := ⟨fun ρ ds h => by
  cases ds with
  | nil => exact pgsd_nil
  | cons _ _ => cases h⟩
theorem dgs_cons (i : Nat) {x : Str} {es : List Expr} {is : List Nat} (hN : X.N.Nodup) (h : DGs X es is) (hi : X.N[i]? = some x := by rfl) (hx : Loc X.env.scope x := by first | exact Or.inl rfl | exact Or.inr rfl)
    (hf : X.fn x = true ∨ X.env.scope.names.lookup x = some .local := by first | exact .inl rfl | exact .inr rfl)
    (hs : (assignEach (.Name x pos :: es) X.env).map (·.2) = assign (.Name x pos) X.env :: (assignEach es X.env).map (·.2) := by rfl) : DGs X (.Name x pos :: es) (i :: is) := ⟨fun ρ ds hl => by
  cases ds with
  | nil => cases hl
  | cons d ds => exact pgsd_cons (pgd_name i hN hi hx hf) (h.run _ ds (by simpa using hl)) hs⟩
theorem dg_tup {es : List Expr} {is : List Nat} {k : Nat} (hc : X.calm = true) (h : DGs X es is) (hn : (assignEach es X.env).length = is.length := by rfl) (hst : (assignEach es X.env).findIdx? (·.1) = none := by rfl) : DG X (.Tuple es k pos) (.tp is) := ⟨fun ρ d ρ' hq => by
  cases d with
  | tuple ds =>
    have hq : (if is.length = ds.length then some (setAll ρ is ds) else none) = some ρ' := hq
    split at hq
    · rename_i hl
      cases (Option.some.inj hq)
      exact pgd_tup hc (h.run ρ ds hl) (hn.trans hl) hst
    · cases hq
  | none => cases hq
  | bool _ => cases hq
  | int _ => cases hq
  | str _ => cases hq
  | list _ => cases hq
  | dict _ => cases hq⟩
theorem tgD_nn {i : Nat} {js : List Nat} {ρ ρ' : List Ent} {d : PyData} (h : tgD (.nn i js) ρ d = some ρ') : ∃ a ds, d = .tuple [a, .tuple ds] ∧ js.length = ds.length ∧ ρ' = setAll (ρ.set i (.val a)) js ds := by
  unfold tgD at h
  split at h
  · rename_i e; cases e
  · rename_i e; cases e
  · rename_i i' js' a ds e
    cases e
    split at h
    · rename_i hl; exact ⟨a, ds, rfl, hl, (Option.some.inj h).symm⟩
    · cases h
  · cases h
noncomputable def rG (X : Cx) (t : Tg) : TG := fun v σ H Q => ∃ ρ d ρ' H0 G₀ G, tgD t ρ d = some ρ' ∧ RepS X.K H0 G₀ G H σ ρ ∧ Rep X.K G v d ∧ ∀ σ', RepS X.K H0 G₀ G H σ' ρ' → Q σ' H
theorem DG.pg {tg : Expr} {t : Tg} (h : DG X tg t) : PG X tg (rG X t) := fun pins s σ H v u Q I r ⟨ρ, d, ρ', H0, G₀, G, e, R, rv, q⟩ => (h.run ρ d ρ' e).run pins s σ H v u Q I r ⟨H0, G₀, G, R, rv, q⟩
noncomputable def unpS (t : Tg) (fa : EF) : SF := fun ρ => bns (fa ρ) ρ fun d => (tgD t ρ d).map So.nx
theorem ds_unp {tg : Expr} {t : Tg} (h : DE X e fa) (hg : DG X tg t) (hs : swapsWithSole [tg] e pos.line X.env = pure false := by rfl) (hw : swappedStores [tg] e X.env = pure none := by rfl)
    (h1 : (assignEach [tg] X.env).map (·.2) = [assign tg X.env] := by rfl) : DS X (.Assign [tg] e pos) (unpS t fa) := ⟨fun pins s σ H D I ⟨ρ, o, H0, G₀, G, ef, R, q⟩ =>
  ps_asg h.run hg.pg hs hw h1 pins s σ H D I (sE R ef q fun d v G1 H1 g1 R1 rv e1 q1 => by
    obtain ⟨ρ', e2, rfl⟩ := Option.map_eq_some_iff.mp e1
    exact ⟨ρ, d, ρ', H0, G₀, G1, e2, R1, rv, fun σ' R' => q1 G1 H1 σ' (.refl _) R'⟩)⟩
noncomputable def EndI (X : Cx) (H0 G₀ G : Hp) (ρ : List Ent) (H : Hp) (R : It → Hp → Prop) : Re (List PyData) → Prop
  | .ok ds => ∀ J G' H', Grow G H G' H' → Walk X.K J G' ds → R J H'
  | .ex c => XcOk X H0 G₀ G ρ c
noncomputable def rIt (X : Cx) (f : AF) : TI := fun σ H R => ∃ ρ r H0 G₀ G, f ρ = some r ∧ RepS X.K H0 G₀ G H σ ρ ∧ EndI X H0 G₀ G ρ H R r
structure DI (X : Cx) (tg iter : Expr) (f : AF) : Prop where
  run : PI X tg iter (rIt X f)
theorem DI.pid {tg iter : Expr} {f : AF} (h : DI X tg iter f) {ρ : List Ent} {ds : List PyData} (e : f ρ = some (.ok ds)) : PID X tg iter ρ ds := ⟨fun pins s σ H R I ⟨H0, G₀, G, S, q⟩ => h.run pins s σ H R I ⟨ρ, _, H0, G₀, G, e, S, q⟩⟩
theorem di_of {tg iter : Expr} {f : AF} (h : ∀ ρ r, f ρ = some r → ∃ ds, r = .ok ds ∧ PID X tg iter ρ ds) : DI X tg iter f := ⟨fun pins s σ H R I ⟨ρ, r, H0, G₀, G, e, S, q⟩ => by
  obtain ⟨ds, rfl, hp⟩ := h ρ r e
  exact hp.run pins s σ H R I ⟨H0, G₀, G, S, q⟩⟩
noncomputable def seqD : PyData → Option (List PyData)
  | .list ds => some ds
  | .tuple ds => some ds
  | _ => none
noncomputable def seqI (fa : EF) : AF := fun ρ => bnd (fa ρ) fun x => lft (seqD x)
theorem di_seq {tg iter : Expr} (h : DE X iter fa) : DI X tg iter (seqI fa) := ⟨fun pins s σ H R I ⟨ρ, r, H0, G₀, G, e, S, q⟩ => by
  rcases bnd_some e with ⟨x, e1, e2⟩ | ⟨c, e1, e2⟩
  · obtain ⟨ds, e3, rfl⟩ := lft_is e2
    cases x with
    | list es => cases (Option.some.inj e3); exact (pid_list (h.pd e1)).run pins s σ H R I ⟨H0, G₀, G, S, q⟩
    | tuple es => cases (Option.some.inj e3); exact (pid_tup (h.pd e1)).run pins s σ H R I ⟨H0, G₀, G, S, q⟩
    | none => cases e3
    | bool _ => cases e3
    | int _ => cases e3
    | str _ => cases e3
    | dict _ => cases e3
  · subst e2
    exact pi_list h.run pins s σ H R I ⟨ρ, _, H0, G₀, G, e1, S, q⟩⟩
noncomputable def intD : PyData → Option Int
  | .int i => some i
  | _ => none
theorem intD_is {d : PyData} {i : Int} (h : intD d = some i) : d = .int i := by
  cases d <;> first | (cases h; done) | (cases (Option.some.inj h); rfl)
noncomputable def inRng (n : Int) : Bool := decide (-(2 ^ 62) ≤ n) && decide (n < 2 ^ 62)
theorem inRng_is {n : Int} (h : inRng n = true) : -(2 ^ 62) ≤ n ∧ n < 2 ^ 62 := by
  unfold inRng at h
  rw [Bool.and_eq_true] at h
  exact ⟨of_decide_eq_true h.1, of_decide_eq_true h.2⟩
noncomputable def rng1 (fa : EF) : AF := fun ρ => match fa ρ with
  | some (.ok (.int n)) => if inRng n then some (.ok (rangeD 0 n.toNat)) else none
  | _ => none
noncomputable def rng2 (fa fb : EF) : AF := fun ρ => match fa ρ, fb ρ with
  | some (.ok (.int m)), some (.ok (.int n)) => if inRng m && inRng n then some (.ok (rangeD m (n - m).toNat)) else none
  | _, _ => none
theorem di_rng1 {tg a : Expr} (hm : X.mg "range" = none) (h : DE X a fa) (hs : starEach [a] X.env = [(false, eval a X.env)] := by rfl) (hs' : starEach [a] X.env = (false, eval a X.env) :: starEach [] X.env := by rfl) (hg : Gl X "range" := by rfl) :
    DI X tg (.Call (.Name "range" p) [a] [] pos) (rng1 fa) := di_of fun ρ r e => by
  unfold rng1 at e
  split at e
  · rename_i n en
    split at e
    · rename_i hr
      exact ⟨_, (Option.some.inj e).symm, pid_range1 hm (h.pd en) (inRng_is hr).1 (inRng_is hr).2 hs hs' hg⟩
    · cases e
  · cases e
theorem di_rng2 {tg a b : Expr} (hm : X.mg "range" = none) (h : DE X a fa) (h' : DE X b fb)
    (hs : starEach [a, b] X.env = [(false, eval a X.env), (false, eval b X.env)] := by rfl) (hs2 : starEach [b] X.env = [(false, eval b X.env)] := by rfl)
    (hs' : starEach [a, b] X.env = (false, eval a X.env) :: starEach [b] X.env := by rfl) (hs2' : starEach [b] X.env = (false, eval b X.env) :: starEach [] X.env := by rfl) (hg : Gl X "range" := by rfl) :
    DI X tg (.Call (.Name "range" p) [a, b] [] pos) (rng2 fa fb) := di_of fun ρ r e => by
  unfold rng2 at e
  split at e
  · rename_i m n em en
    split at e
    · rename_i hr
      rw [Bool.and_eq_true] at hr
      exact ⟨_, (Option.some.inj e).symm, pid_range2 hm (h.pd em) (h'.pd en) (inRng_is hr.1).1 (inRng_is hr.1).2 (inRng_is hr.2).1 (inRng_is hr.2).2 hs hs2 hs' hs2' hg⟩
    · cases e
  · cases e
noncomputable def loopS (t : Tg) (fb : SF) : List PyData → List Ent → Option So
  | [], ρ => some (.nx ρ)
  | d :: ds, ρ => match tgD t ρ d with
    | none => none
    | some ρ1 => (match fb ρ1 with
      | some (.nx ρ2) => loopS t fb ds ρ2
      | some (.ct ρ2) => loopS t fb ds ρ2
      | some (.bk ρ2) => some (.nx ρ2)
      | some (.rt d) => some (.rt d)
      | some (.xc c ρ2) => some (.xc c ρ2)
      | none => none)
noncomputable def forS (t : Tg) (fi : AF) (fb : SF) : SF := fun ρ => bns (fi ρ) ρ fun ds => loopS t fb ds ρ
theorem ds_for {tg iter : Expr} {body : List Stmt} {t : Tg} {fi : AF} (hp : PassesOwn (model X.prog X.w) X.A X.env X.xe) (hc : X.calm = true) (hi : DI X tg iter fi) (hg : DG X tg t) (hb : DB X body g)
    (hs : ∀ x, foldedSetIterable iter X.env x = pure x := by intro _; rfl) : DS X (.For tg iter body [] pos) (forS t fi g) := ⟨fun pins s σ H D I ⟨ρ, o, H0, G₀, G, ef, R, q⟩ =>
  ps_for hp hc hi.run hg.pg hb.run hs pins s σ H D I (by
    rcases bns_some ef with ⟨ds, e1, e2⟩ | ⟨c, e1, e2⟩
    · refine ⟨ρ, _, H0, G₀, G, e1, R, fun J G1 H1 g1 wk => ?_⟩
      refine ⟨fun i m σ' H' => m = ds.length - i ∧ i ≤ ds.length ∧ ∃ ρ' G', Same G1 G' ∧ RepS X.K H0 G₀ G' H' σ' ρ' ∧ loopS t g (ds.drop i) ρ' = some o, ⟨ds.length, by simp, Nat.zero_le _, ρ, G1, .refl _, R.more g1, by simpa using e2⟩, ?_⟩
      rintro i m σ' H' ⟨rfl, hin, ρ', G', s', R', e'⟩
      obtain ⟨wgo, wstop⟩ := wk i G' H' s' R'.sub
      by_cases hlt : i < ds.length
      · rw [List.drop_eq_getElem_cons hlt] at e'
        have hx : ds[i]? = some ds[i] := List.getElem?_eq_getElem hlt
        refine .inr ⟨(wgo _ hx).1, fun σ2 H2 => ∃ ρ2 G2, Same G1 G2 ∧ RepS X.K H0 G₀ G2 H2 σ2 ρ2 ∧ loopS t g (ds.drop (i + 1)) ρ2 = some o, ?_, fun x H2 y => ?_⟩
        · rintro σ2 H2 ⟨ρ2, G2, s2, R2, e2⟩
          exact ⟨ds.length - (i + 1), by omega, rfl, hlt, ρ2, G2, s2, R2, e2⟩
        · obtain ⟨G2, g2, rx⟩ := (wgo _ hx).2 x H2 y
          unfold loopS at e'
          split at e'
          · cases e'
          · rename_i ρ1 et
            refine ⟨ρ', ds[i], ρ1, H0, G₀, G2, et, R'.more g2, rx, fun σ3 R3 => ?_⟩
            have sg : Same G1 G2 := s'.trans g2.gg
            split at e'
            · rename_i ρ2 eb
              exact ⟨ρ1, _, H0, G₀, G2, eb, R3, fun G4 H4 σ4 s4 R4 => ⟨ρ2, G4, sg.trans s4, R4, e'⟩⟩
            · rename_i ρ2 eb
              exact ⟨ρ1, _, H0, G₀, G2, eb, R3, fun G4 H4 σ4 s4 R4 => ⟨ρ2, G4, sg.trans s4, R4, e'⟩⟩
            · rename_i ρ2 eb
              cases (Option.some.inj e')
              exact ⟨ρ1, _, H0, G₀, G2, eb, R3, fun G4 H4 σ4 s4 R4 => q G4 H4 σ4 (g1.gg.trans (sg.trans s4)) R4⟩
            · rename_i d' eb
              cases (Option.some.inj e')
              exact ⟨ρ1, _, H0, G₀, G2, eb, R3, fun v G4 H4 s4 gr rv => q v G4 H4 (g1.gg.trans (sg.trans s4)) gr rv⟩
            · rename_i c' ρ2 eb
              cases (Option.some.inj e')
              exact ⟨ρ1, _, H0, G₀, G2, eb, R3, XcOk.mono q (g1.gg.trans sg)⟩
            · cases e'
      · have hi' : i = ds.length := by omega
        subst hi'
        rw [List.drop_length] at e'
        cases (Option.some.inj e')
        exact .inl ⟨wstop (Nat.le_refl _), q G' H' σ' (g1.gg.trans s') R'⟩
    · subst e2
      exact ⟨ρ, _, H0, G₀, G, e1, R, q⟩)⟩
end
end L2.L3
namespace L2.L3
open PySem PySem.Spec PyProof.Rows
noncomputable def loopC (t : Tg) (ρb : List Ent) (ft : TF) (fe : EF) : List PyData → Option (List PyData)
  | [] => some []
  | d :: ds => match tgD t ρb d with
    | none => none
    | some ρx => (match ft ρx with
      | some (.ok true) => (match fe ρx with
        | some (.ok v) => (loopC t ρb ft fe ds).map (v :: ·)
        | _ => none)
      | some (.ok false) => loopC t ρb ft fe ds
      | _ => none)
noncomputable def compE (t : Tg) (cap : List (Option Nat)) (fi : AF) (ft : TF) (fe : EF) : EF := fun ρ => bnd (fi ρ) fun ds => if szOk ds.length then lft ((loopC t (capE cap ρ) ft fe ds).map .list) else none
noncomputable def ttT : TF := fun _ => some (.ok true)
noncomputable def cX (t : Tg) (ρb : List Ent) (d : PyData) : List Ent := (tgD t ρb d).getD []
noncomputable def cT (t : Tg) (ρb : List Ent) (ft : TF) (d : PyData) : Bool := match ft (cX t ρb d) with
  | some (.ok b) => b
  | _ => false
noncomputable def cV (t : Tg) (ρb : List Ent) (fe : EF) (d : PyData) : PyData := match fe (cX t ρb d) with
  | some (.ok v) => v
  | _ => .none
theorem loopC_is {t : Tg} {ρb : List Ent} {ft : TF} {fe : EF} : ∀ {ds es : List PyData}, loopC t ρb ft fe ds = some es →
    (∀ d ∈ ds, tgD t ρb d = some (cX t ρb d) ∧ ft (cX t ρb d) = some (.ok (cT t ρb ft d)) ∧ (cT t ρb ft d = true → fe (cX t ρb d) = some (.ok (cV t ρb fe d)))) ∧ es = (ds.filter (cT t ρb ft)).map (cV t ρb fe)
  | [], es, h => by
    cases (Option.some.inj h)
    exact ⟨fun _ z => absurd z (by simp), rfl⟩
  | d :: ds, es, h => by
    unfold loopC at h
    split at h
    · cases h
    · rename_i ρx et
      have ex : cX t ρb d = ρx := by unfold cX; rw [et]; rfl
      split at h
      · rename_i e1
        have e1' : cT t ρb ft d = true := by unfold cT; rw [ex, e1]
        split at h
        · rename_i v ev
          obtain ⟨es', e3, rfl⟩ := Option.map_eq_some_iff.mp h
          obtain ⟨i1, i2⟩ := loopC_is e3
          have evv : cV t ρb fe d = v := by unfold cV; rw [ex, ev]
          refine ⟨fun d' hd => ?_, ?_⟩
          · rcases List.mem_cons.mp hd with rfl | hd
            · rw [ex, e1', evv]; exact ⟨et, e1, fun _ => ev⟩
            · exact i1 d' hd
          · rw [List.filter_cons_of_pos e1', List.map_cons, evv, i2]
        · cases h
      · rename_i e1
        have e1' : cT t ρb ft d = false := by unfold cT; rw [ex, e1]
        obtain ⟨i1, i2⟩ := loopC_is h
        refine ⟨fun d' hd => ?_, ?_⟩
        · rcases List.mem_cons.mp hd with rfl | hd
          · rw [ex, e1']; exact ⟨et, e1, fun z => by cases z⟩
          · exact i1 d' hd
        · rw [List.filter_cons_of_neg (by rw [e1']; decide), i2]
      · cases h
noncomputable def tgFree (cap : List (Option Nat)) : Tg → Bool
  | .nm i => (match cap[i]? with | some (some _) => false | _ => true)
  | .tp is => is.all fun i => match cap[i]? with | some (some _) => false | _ => true
  | .nn i js => (match cap[i]? with | some (some _) => false | _ => true) && js.all fun i => match cap[i]? with | some (some _) => false | _ => true
theorem weak_set : ∀ {a b : List Ent} {i : Nat} {e : Ent}, Weak a b → (b[i]? = some .no ∨ b[i]? = none) → Weak (a.set i e) b
  | _, _, _, _, .nil, _ => .nil
  | _ :: _, _, 0, _, .keep w, h => by
    rcases h with h | h
    · cases (Option.some.inj h); exact .no w
    · cases h
  | _ :: _, _, 0, _, .no w, _ => .no w
  | _ :: _, _, i + 1, _, .keep w, h => .keep (weak_set w (by simpa using h))
  | _ :: _, _, i + 1, _, .no w, h => .no (weak_set w (by simpa using h))
theorem capE_no {cap : List (Option Nat)} {ρ : List Ent} {i : Nat} (h : (match cap[i]? with | some (some _) => false | _ => true) = true) : (capE cap ρ)[i]? = some .no ∨ (capE cap ρ)[i]? = none := by
  unfold capE
  rw [List.getElem?_map]
  cases e : cap[i]? with
  | none => exact .inr rfl
  | some o =>
    rw [e] at h
    cases o with
    | none => exact .inl rfl
    | some j => cases h
theorem weak_all {cap : List (Option Nat)} {ρ : List Ent} : ∀ {is : List Nat} {ds : List PyData} {a : List Ent}, (is.all fun i => match cap[i]? with | some (some _) => false | _ => true) = true → Weak a (capE cap ρ) → Weak (setAll a is ds) (capE cap ρ)
  | [], ds, a, _, w => by cases ds <;> exact w
  | i :: is, [], a, _, w => w
  | i :: is, d :: ds, a, h, w => by
    rw [List.all_cons, Bool.and_eq_true] at h
    exact weak_all (is := is) (ds := ds) (a := a.set i (.val d)) h.2 (weak_set w (capE_no h.1))
theorem weak_tg {cap : List (Option Nat)} {ρ ρx : List Ent} {t : Tg} {d : PyData} (hf : tgFree cap t = true) (h : tgD t (capE cap ρ) d = some ρx) : Weak ρx (capE cap ρ) := by
  cases t with
  | nm i => cases (Option.some.inj h); exact weak_set (.refl _) (capE_no hf)
  | tp is =>
    cases d with
    | tuple ds =>
      have h : (if is.length = ds.length then some (setAll (capE cap ρ) is ds) else none) = some ρx := h
      split at h
      · cases (Option.some.inj h); exact weak_all hf (.refl _)
      · cases h
    | none => cases h
    | bool _ => cases h
    | int _ => cases h
    | str _ => cases h
    | list _ => cases h
    | dict _ => cases h
  | nn i js =>
    obtain ⟨a, ds, rfl, hl, rfl⟩ := tgD_nn h
    have hf : ((match cap[i]? with | some (some _) => false | _ => true) && js.all fun i => match cap[i]? with | some (some _) => false | _ => true) = true := hf
    rw [Bool.and_eq_true] at hf
    exact weak_all hf.2 (weak_set (.refl _) (capE_no hf.1))
section
variable {X : Cx} {elt iter tg : Expr} {ifs : List Expr} {scope : Scope} {pos spos p : Pos} {N' : List Str} {cap : List (Option Nat)} {t : Tg} {fi : AF} {ft : TF} {fe : EF}
structure DTs (X : Cx) (ifs : List Expr) (f : TF) : Prop where
  run : ∀ ρ b, f ρ = some (.ok b) → PTsD X ifs ρ b
theorem dts_nil : DTs X [] ttT := ⟨fun ρ b e => by cases (Option.some.inj e); exact ptsd_nil⟩
theorem dts_one {c : Expr} (h : DT X c ft) : DTs X [c] ft := ⟨fun ρ b e => ptsd_one (h.ptd e)⟩
theorem de_comp (hc : X.calm = true) (B : Blk X scope N' cap) (hi : DI X tg iter fi) (hf : tgFree cap t = true) (hg : ∀ C s₃ H₃ fp, DG (blkCx X scope N' C s₃ H₃ fp) tg t) (ht : ∀ C s₃ H₃ fp, DTs (blkCx X scope N' C s₃ H₃ fp) ifs ft)
    (he : ∀ C s₃ H₃ fp, DE (blkCx X scope N' C s₃ H₃ fp) elt fe) (hs : ∀ x, foldedSetIterable iter X.env x = pure x := by intro _; rfl) : DE X (.ListComp elt [⟨tg, iter, ifs, 0⟩] scope pos) (compE t cap fi ft fe) := ⟨fun pins s σ H Q I ⟨ρ, r, H0, G₀, G, e, R, q⟩ => by
  rcases bnd_some e with ⟨ds, e1, e2⟩ | ⟨c, e1, e2⟩
  · split at e2
    · rename_i hz
      obtain ⟨d, ed, rfl⟩ := lft_is e2
      obtain ⟨es, e3, rfl⟩ := Option.map_eq_some_iff.mp ed
      obtain ⟨k1, rfl⟩ := loopC_is e3
      exact (pd_comp (xs := ds) (φ := fun d => d) (ρb := capE cap ρ) (ρx := cX t (capE cap ρ)) (cnd := cT t (capE cap ρ) ft) (f := cV t (capE cap ρ) fe) hc B (by simpa using hi.pid e1) (.refl _) (fun x hx => weak_tg hf (k1 x hx).1) (sz_le hz)
        (fun C s₃ H₃ fp x hx => (hg C s₃ H₃ fp).run _ _ _ (k1 x hx).1) (fun C s₃ H₃ fp x hx => (ht C s₃ H₃ fp).run _ _ (k1 x hx).2.1) (fun C s₃ H₃ fp x hx hcx => (he C s₃ H₃ fp).pd ((k1 x hx).2.2 hcx)) hs).run H0 G₀ G pins s σ H Q I R q
    · cases e2
  · subst e2
    exact pe_comp (g := fun _ _ _ _ => False) (tc := fun _ _ _ => False) (te := fun _ _ _ => False) hc B hi.run (fun _ _ _ _ _ _ _ _ _ _ _ _ _ z => z.elim) (fun _ _ _ _ _ _ _ _ _ _ z => z.elim) (fun _ _ _ _ _ _ _ _ _ _ z => z.elim) hs pins s σ H Q I
      ⟨ρ, _, H0, G₀, G, e1, R, q⟩⟩
theorem ds_setC (i : Nat) {x : Str} (hN : X.N.Nodup) (hc : X.calm = true) (B : Blk X scope N' cap) (hi : DI X tg iter fi) (hf : tgFree cap t = true) (hg : ∀ C s₃ H₃ fp, DG (blkCx X scope N' C s₃ H₃ fp) tg t) (ht : ∀ C s₃ H₃ fp, DTs (blkCx X scope N' C s₃ H₃ fp) ifs ft)
    (he : ∀ C s₃ H₃ fp, DE (blkCx X scope N' C s₃ H₃ fp) elt fe)
    (hxi : X.N[i]? = some x := by rfl) (hx : X.env.scope.names.lookup x = some .local := by rfl)
    (hsw : swapsWith (.ListComp elt [⟨tg, iter, ifs, 0⟩] scope pos) (some (.Name x p)) spos.line X.env = pure true := by rfl)
    (hs : ∀ x, foldedSetIterable iter X.env x = pure x := by intro _; rfl) : DS X (.Assign [.Name x p] (.ListComp elt [⟨tg, iter, ifs, 0⟩] scope pos) spos) (setS i (compE t cap fi ft fe)) := ⟨fun pins s σ H D I ⟨ρ, o, H0, G₀, G, e, R, q⟩ => by
  rcases bns_some e with ⟨d, e1, e2⟩ | ⟨c, e1, e2⟩
  · cases (Option.some.inj e2)
    rcases bnd_some e1 with ⟨ds, e3, e4⟩ | ⟨c, _, e4⟩
    · split at e4
      · rename_i hz
        obtain ⟨d', ed, z⟩ := lft_is e4
        cases z
        obtain ⟨es, e5, rfl⟩ := Option.map_eq_some_iff.mp ed
        obtain ⟨k1, rfl⟩ := loopC_is e5
        exact (psd_setC i (xs := ds) (φ := fun d => d) (ρb := capE cap ρ) (ρx := cX t (capE cap ρ)) (cnd := cT t (capE cap ρ) ft) (f := cV t (capE cap ρ) fe) hN hc B (by simpa using hi.pid e3) (.refl _) (fun x hx => weak_tg hf (k1 x hx).1) (sz_le hz)
          (fun C s₃ H₃ fp x hx => (hg C s₃ H₃ fp).run _ _ _ (k1 x hx).1) (fun C s₃ H₃ fp x hx => (ht C s₃ H₃ fp).run _ _ (k1 x hx).2.1) (fun C s₃ H₃ fp x hx hcx => (he C s₃ H₃ fp).pd ((k1 x hx).2.2 hcx)) hxi hx hsw hs).run pins s σ H D I ⟨H0, G₀, G, R, q⟩
      · cases e4
    · cases e4
  · subst e2
    rcases bnd_some e1 with ⟨ds, e3, e4⟩ | ⟨c', e3, e4⟩
    · split at e4
      · obtain ⟨_, _, z⟩ := lft_is e4; cases z
      · cases e4
    · cases e4
      exact ps_setC (g := fun _ _ _ _ => False) (tc := fun _ _ _ => False) (te := fun _ _ _ => False) hN hxi hx hc B hi.run (fun _ _ _ _ _ _ _ _ _ _ _ _ _ z => z.elim) (fun _ _ _ _ _ _ _ _ _ _ z => z.elim) (fun _ _ _ _ _ _ _ _ _ _ z => z.elim) hsw hs pins s σ H D I
        ⟨ρ, _, H0, G₀, G, e3, R, q⟩⟩
end
noncomputable def startN (m : Nat) (ds : List PyData) : List Ent := ds.map .val ++ List.replicate (m - ds.length) .no
noncomputable def runD (m n : Nat) (f : SF) (ds : List PyData) : Mm PyData := if ds.length = n then (match f (startN m ds) with
  | some (.rt d) => some (.ok d)
  | some (.nx _) => some (.ok .none)
  | _ => none) else none
noncomputable abbrev CalleeM (P : Program) (w : World) (K : PySem.W.Frag) (mg : Str → Option Value) (base : Heap) (x : Str) (k : Nat) (ps : List Str) (F : List PyData → Mm PyData) : Prop :=
  Callee P w K mg base x k ps fun ds d => F ds = some (.ok d)
section
variable {P : Program} {w : World} {K : PySem.W.Frag} {mg : Str → Option Value} {base : Heap} {X : Cx} {e : Expr} {es : List Expr} {pos p : Pos} {x : Str} {k : Nat} {ps N : List Str} {F : List PyData → Mm PyData}
noncomputable def callE (F : List PyData → Mm PyData) (fa : AF) : EF := fun ρ => bnd (fa ρ) fun ds => match F ds with
  | some (.ok d) => some (.ok d)
  | _ => none
theorem de_call {fa : AF} (C : CalleeM X.prog X.w X.K X.mg X.base x k ps F) (hr : Room k X.A) (ha : DA X (e :: es) fa) (hg : Gl X x := by rfl) (hdb : (x == ("__debug__" : Str)) = false := by decide)
    (he : starEach (e :: es) X.env = (false, eval e X.env) :: starEach es X.env := by rfl) (hpl : (backTo pos (starEach es X.env)).any (·.1) = false := by rfl) : DE X (.Call (.Name x p) (e :: es) [] pos) (callE F fa) := ⟨fun pins s σ H Q I ⟨ρ, r, H0, G₀, G, e', R, q⟩ => by
  obtain ⟨f, fd, a, b, c, Fk⟩ := C.ex
  refine pe_call Fk hr hg a b c .nil (pass0 (X := X)) ha.run hdb he hpl pins s σ H Q I (bA R e' q.x fun ds vs G1 H1 g1 R1 rv e1 => ?_)
  split at e1
  · rename_i d ed
    cases (Option.some.inj e1)
    exact ⟨G1, ds, d, ⟨g1.sub, R1.tab⟩, by simpa using rv, ed, fun v G2 H2 g2 r2 => q v G2 H2 (g1.trans g2) r2⟩
  · cases e1⟩
theorem startE_eq (N : List Str) (ds : List PyData) : startE N ds = startN N.length ds := rfl
theorem fn_den {st : Stmt} {f : SF} {fa : Addr} {fd : FuncData} (m n : Nat) (Fu : Fun K x x st fa fd) (S : FnScope N ps (defScope st)) (hm : N.length = m) (hn : ps.length = n)
    (body : ∀ (cdv : Value) (A : Around) (outer : List Env) (s : Shared) (H : Hp) (E : XK), Room k (A.deeper (envOfC x (defScope st) s.heap.objs.size fa cdv)) → DB (fcx P w K mg base N x (defScope st) fa cdv A outer s H E) (defBody st) f) :
    FnOk P w K mg base CX0 (k + 1) fa fd ps (spD K fun ds d => runD m n f ds = some (.ok d)) := by
  refine Fu.ok S (fun vs H Q E ⟨G, ds, d, s, r, hF, _⟩ => ?_) (fun cdv A outer s H vs Q E hr ⟨G, ds, d, sm, r, hF, q⟩ => ?_)
  · have hF : runD m n f ds = some (.ok d) := hF
    unfold runD at hF
    split at hF
    · rename_i hl; rw [r.length, hl, hn]
    · cases hF
  · have hF : runD m n f ds = some (.ok d) := hF
    unfold runD at hF
    split at hF
    · rw [← hm, ← startE_eq] at hF
      split at hF
      · rename_i d' e
        cases (Option.some.inj hF)
        exact ⟨_, (body cdv A outer s H E hr).run, startE N ds, _, H, G, G, e, startE_ok sm r, fun v G' H' _ g rv => q v G' H' g rv⟩
      · rename_i ρ' e
        cases (Option.some.inj hF)
        exact ⟨_, (body cdv A outer s H E hr).run, startE N ds, _, H, G, G, e, startE_ok sm r, fun G' H' σ' _ R' => q .non G' H' R'.grow .none⟩
      · cases hF
    · cases hF
theorem callee_den {st : Stmt} {f : SF} (m n : Nat) (D : Def K mg x st) (S : FnScope N ps (defScope st)) (hm : N.length = m) (hn : ps.length = n)
    (hb : ∀ (kV doc pm : Value) (an : Option Addr) (cdv ct : Value) (us : List Value), us.length = ps.length → bindArgs (PySem.W.fnOf x x (defArgs st) (defBody st) (defScope st) .none kV doc pm an cdv ct) ⟨us, []⟩ = pure (ps.zip us))
    (body : ∀ (fa : Addr) (cdv : Value) (A : Around) (outer : List Env) (s : Shared) (H : Hp) (E : XK), Room k (A.deeper (envOfC x (defScope st) s.heap.objs.size fa cdv)) → DB (fcx P w K mg base N x (defScope st) fa cdv A outer s H E) (defBody st) f) :
    CalleeM P w K mg base x (k + 1) ps (runD m n f) := by
  obtain ⟨fa, fd, Fu, hmg⟩ := D.ex
  exact ⟨fa, fd, hmg, Fu.kp, Fu.binds hb, fn_den m n Fu S hm hn fun cdv A outer s H E hr => body fa cdv A outer s H E hr⟩
end
end L2.L3
namespace L2.L3
open PySem PySem.Spec PyProof.Rows
noncomputable def allD {α : Type} (f : PyData → Option α) : List PyData → Option (List α)
  | [] => some []
  | d :: ds => match f d with
    | none => none
    | some a => (allD f ds).map (a :: ·)
noncomputable def strD : PyData → Option Str
  | .str i => some i
  | _ => none
theorem strD_is {d : PyData} {i : Str} (h : strD d = some i) : d = .str i := by
  cases d <;> first | (cases h; done) | (cases (Option.some.inj h); rfl)
theorem allD_is {α : Type} {f : PyData → Option α} {g : α → PyData} (h : ∀ d a, f d = some a → d = g a) : ∀ {ds : List PyData} {as : List α}, allD f ds = some as → ds = as.map g
  | [], as, e => by cases (Option.some.inj e); rfl
  | d :: ds, as, e => by
    unfold allD at e
    split at e
    · cases e
    · rename_i a ea
      obtain ⟨as', e', rfl⟩ := Option.map_eq_some_iff.mp e
      rw [List.map_cons, ← h d a ea, allD_is h e']
theorem allD_map {α : Type} {f : PyData → Option α} {g : α → PyData} (h : ∀ a, f (g a) = some a) : ∀ as : List α, allD f (as.map g) = some as
  | [] => rfl
  | a :: as => by rw [List.map_cons, allD, h a]; show (allD f (as.map g)).map (a :: ·) = _; rw [allD_map h as]; rfl
theorem intsD_map (ns : List Int) : allD intD (ns.map .int) = some ns := allD_map (g := .int) (fun _ => rfl) ns
section
variable {X : Cx} {x y d : PyData}
theorem opD_of {op : Operator} {g : Int → Int → Int} {i j : Int} (ho : OpR X (binaryOp op) (rI0 fun i j => .int (g i j))) : OpD X op (.int i) (.int j) (.int (g i j)) := ⟨_, ho, fun v u G H Q s rv ru q => by
  cases rv; cases ru; exact ⟨_, _, rfl, rfl, q _ _ _ (.refl s) (.int _)⟩⟩
theorem opD_ofC {op : Operator} {C : Int → Int → Prop} {g : Int → Int → Int} {i j : Int} (ho : OpR X (binaryOp op) (rI C fun i j => .int (g i j))) (hc : C i j) : OpD X op (.int i) (.int j) (.int (g i j)) := ⟨_, ho, fun v u G H Q s rv ru q => by
  cases rv; cases ru; exact ⟨_, _, rfl, rfl, hc, q _ _ _ (.refl s) (.int _)⟩⟩
noncomputable def addD (x y : PyData) : Option PyData := match x, y with
  | .int i, .int j => some (.int (i + j))
  | .str i, .str j => if szOk (i.length + j.length) then some (.str (i ++ j)) else none
  | .list a, .list b => if szOk (a.length + b.length) then some (.list (a ++ b)) else none
  | .tuple a, .tuple b => if szOk (a.length + b.length) then some (.tuple (a ++ b)) else none
  | _, _ => none
theorem add_ok (x y d : PyData) (h : addD x y = some d) : OpD X .Add x y d := by
  unfold addD at h
  split at h
  · cases (Option.some.inj h); exact opD_of op_add
  · split at h
    · rename_i i j hz
      cases (Option.some.inj h)
      exact ⟨_, op_add_str, fun v u G H Q s rv ru q => by cases rv; cases ru; exact ⟨_, _, rfl, rfl, sz_le hz, q _ _ _ (.refl s) (.str _)⟩⟩
    · cases h
  · split at h
    · rename_i a b hz
      cases (Option.some.inj h)
      exact ⟨_, op_catS, fun v u G H Q s rv ru q => by
        cases rv with
        | list h1 r1 => cases ru with
          | list h2 r2 => exact ⟨_, _, _, _, rfl, rfl, s.seq h1, s.seq h2, by rw [r1.length, r2.length]; exact sz_le hz, fun l hl => q _ _ _ (.put s hl) (.list (.of upd_same) ((r1.append r2).mono (same_upd (s.free hl))))⟩⟩
    · cases h
  · split at h
    · rename_i a b hz
      cases (Option.some.inj h)
      exact ⟨_, op_catU, fun v u G H Q s rv ru q => by
        cases rv with
        | tuple h1 r1 => cases ru with
          | tuple h2 r2 =>
            refine ⟨_, _, _, _, rfl, rfl, seqT s h1, seqT s h2, by rw [r1.length, r2.length]; exact sz_le hz, fun z => ?_, fun z z2 => ?_, fun _ _ l hl => q _ _ _ (.put s hl) (.tuple (.of upd_same) ((r1.append r2).mono (same_upd (s.free hl))))⟩
            · subst z
              cases r1
              exact q _ G H (.refl s) (.tuple h2 r2)
            · subst z2
              cases r2
              exact q _ G H (.refl s) (by rw [List.append_nil]; exact .tuple h1 r1)⟩
    · cases h
  · cases h
noncomputable def subD (x y : PyData) : Option PyData := match x, y with
  | .int i, .int j => some (.int (i - j))
  | _, _ => none
theorem sub_ok (x y d : PyData) (h : subD x y = some d) : OpD X .Sub x y d := by
  unfold subD at h
  split at h
  · cases (Option.some.inj h); exact opD_of op_sub
  · cases h
noncomputable def smallI (i : Int) : Bool := decide (-(2 ^ 64) < i) && decide (i < 2 ^ 64)
theorem smallI_is {i : Int} (h : smallI i = true) : -(2 ^ 64) < i ∧ i < 2 ^ 64 := by
  unfold smallI at h
  rw [Bool.and_eq_true] at h
  exact ⟨of_decide_eq_true h.1, of_decide_eq_true h.2⟩
noncomputable def mulD (x y : PyData) : Option PyData := match x, y with
  | .int i, .int j => if smallI i || smallI j then some (.int (i * j)) else none
  | _, _ => none
theorem mul_ok (x y d : PyData) (h : mulD x y = some d) : OpD X .Mult x y d := by
  unfold mulD at h
  split at h
  · split at h
    · rename_i hz
      cases (Option.some.inj h)
      rw [Bool.or_eq_true] at hz
      exact opD_ofC op_mul (hz.imp smallI_is smallI_is)
    · cases h
  · cases h
noncomputable def modD (x y : PyData) : Option PyData := match x, y with
  | .int i, .int j => if 0 < j then some (.int (i % j)) else none
  | _, _ => none
theorem mod_ok (x y d : PyData) (h : modD x y = some d) : OpD X .Mod x y d := by
  unfold modD at h
  split at h
  · split at h
    · rename_i hz
      cases (Option.some.inj h)
      exact opD_ofC op_mod hz
    · cases h
  · cases h
noncomputable def fdvD (x y : PyData) : Option PyData := match x, y with
  | .int i, .int j => if 0 < j ∧ j < 1073741824 then some (.int (i / j)) else none
  | _, _ => none
theorem fdv_ok (x y d : PyData) (h : fdvD x y = some d) : OpD X .FloorDiv x y d := by
  unfold fdvD at h
  split at h
  · split at h
    · rename_i hz
      cases (Option.some.inj h)
      exact opD_ofC op_fdiv hz
    · cases h
  · cases h
noncomputable def ltD (x y : PyData) : Option Bool := match x, y with
  | .int i, .int j => some (decide (i < j))
  | _, _ => none
noncomputable def leD (x y : PyData) : Option Bool := match x, y with
  | .int i, .int j => some (decide (i ≤ j))
  | .str i, .str j => some (!decide (j.cps.toList < i.cps.toList))
  | _, _ => none
noncomputable def gtD (x y : PyData) : Option Bool := match x, y with
  | .int i, .int j => some (decide (j < i))
  | _, _ => none
noncomputable def geD (x y : PyData) : Option Bool := match x, y with
  | .int i, .int j => some (decide (j ≤ i))
  | _, _ => none
theorem lt_ok (x y : PyData) (t : Bool) (h : ltD x y = some t) : CmpD X .Lt x y t := by
  unfold ltD at h; split at h
  · cases (Option.some.inj h); exact cmp_lt
  · cases h
theorem le_ok (x y : PyData) (t : Bool) (h : leD x y = some t) : CmpD X .LtE x y t := by
  unfold leD at h; split at h
  · cases (Option.some.inj h); exact cmp_le
  · cases (Option.some.inj h); exact cmp_leS
  · cases h
noncomputable def eqD (x y : PyData) : Option Bool := match x, y with
  | .int i, .int j => some (decide (i = j))
  | .str i, .str j => some (decide (i = j))
  | .bool i, .bool j => some (decide (i = j))
  | x, y => if SeqAt.shaped x && SeqAt.shaped y then some (PyData.eqv x y) else none
noncomputable def neD (x y : PyData) : Option Bool := match x, y with
  | .int i, .int j => some (!decide (i = j))
  | .str i, .str j => some (!decide (i = j))
  | .bool i, .bool j => some (!decide (i = j))
  | x, y => if SeqAt.shaped x && SeqAt.shaped y then some (!PyData.eqv x y) else none
theorem eq_ok (hu : X.A.units + 64 < cLine) (x y : PyData) (t : Bool) (h : eqD x y = some t) : CmpD X .Eq x y t := by
  unfold eqD at h; split at h
  · cases (Option.some.inj h); exact cmp_eqI
  · cases (Option.some.inj h); exact cmp_eqS
  · cases (Option.some.inj h); exact cmp_eqB
  · split at h
    · rename_i hz
      rw [Bool.and_eq_true] at hz
      cases (Option.some.inj h); exact cmp_eq hu hz.1 hz.2
    · cases h
theorem ne_ok (hu : X.A.units + 64 < cLine) (x y : PyData) (t : Bool) (h : neD x y = some t) : CmpD X .NotEq x y t := by
  unfold neD at h; split at h
  · cases (Option.some.inj h); exact cmp_neI
  · cases (Option.some.inj h); exact cmp_neS
  · cases (Option.some.inj h); exact cmp_neB
  · split at h
    · rename_i hz
      rw [Bool.and_eq_true] at hz
      cases (Option.some.inj h); exact cmp_ne hu hz.1 hz.2
    · cases h
noncomputable def inD (x y : PyData) : Option Bool := match x, seqD y with
  | .int i, some ds => (allD intD ds).map fun ns => decide (i ∈ ns)
  | .str i, some ds => (allD strD ds).map fun ns => decide (i ∈ ns)
  | _, _ => none
noncomputable def ninD (x y : PyData) : Option Bool := (inD x y).map (!·)
theorem seq_rep {K : PySem.W.Frag} {G H : Hp} {v : V} {y : PyData} {ds : List PyData} (s : Same G H) (h : seqD y = some ds) (r : Rep K G v y) : ∃ p vs, v = .ref p ∧ (SqL K H p vs ∨ SqT K H p vs) ∧ RepAll K G vs ds := by
  cases r with
  | list hq r => cases (Option.some.inj h); exact ⟨_, _, rfl, .inl (s.seq hq), r⟩
  | tuple hq r => cases (Option.some.inj h); exact ⟨_, _, rfl, .inr (seqT s hq), r⟩
  | dict _ _ _ => cases h
  | none => cases h
  | bool _ => cases h
  | int _ => cases h
  | str _ => cases h
theorem nin_ok (x y : PyData) (t : Bool) (h : ninD x y = some t) : CmpD X .NotIn x y t := by
  unfold ninD at h
  obtain ⟨t', hq, rfl⟩ := Option.map_eq_some_iff.mp h
  clear h
  unfold inD at hq; split at hq
  · rename_i i ds e
    obtain ⟨ns, e2, rfl⟩ := Option.map_eq_some_iff.mp hq
    have := allD_is (g := .int) (fun d a q => intD_is q) e2
    subst this
    exact ⟨_, op_notIn_seq, fun v u G H Q s rv ru q => by
      obtain ⟨p, vs, rfl, hq, r⟩ := seq_rep s e ru
      have e3 := r.ints
      subst e3
      cases rv
      exact ⟨p, _, rfl, hq, rfl, flat_ints ns, by rw [inV_ints]; simpa using q⟩⟩
  · rename_i i ds e
    obtain ⟨ns, e2, rfl⟩ := Option.map_eq_some_iff.mp hq
    have := allD_is (g := .str) (fun d a q => strD_is q) e2
    subst this
    exact ⟨_, op_notIn_seq, fun v u G H Q s rv ru q => by
      obtain ⟨p, vs, rfl, hq, r⟩ := seq_rep s e ru
      have e3 := r.strs
      subst e3
      cases rv
      exact ⟨p, _, rfl, hq, rfl, flat_strs ns, by rw [inV_strs]; simpa using q⟩⟩
  · cases hq
noncomputable def lenD (ds : List PyData) : Option PyData := match ds with
  | [.list xs] => some (.int xs.length)
  | [.tuple xs] => some (.int xs.length)
  | [.str z] => if szOk z.length then some (.int z.length) else none
  | _ => none
theorem len_ok (ds : List PyData) (d : PyData) (h : lenD ds = some d) : CallD X (.builtin "len") ds d := by
  unfold lenD at h; split at h
  · cases (Option.some.inj h)
    exact ⟨_, call_len_seq, fun vs G H Q s r q => by
      cases r with | cons r rr => cases rr; cases r with | list hq r => exact ⟨_, _, rfl, .inl (s.seq hq), by rw [r.length]; exact q _ G H (.refl s) (.int _)⟩⟩
  · cases (Option.some.inj h)
    exact ⟨_, call_len_seq, fun vs G H Q s r q => by
      cases r with | cons r rr => cases rr; cases r with | tuple hq r => exact ⟨_, _, rfl, .inr (seqT s hq), by rw [r.length]; exact q _ G H (.refl s) (.int _)⟩⟩
  · split at h
    · rename_i hz
      cases (Option.some.inj h)
      exact ⟨_, call_len_str, fun vs G H Q s r q => by
        cases r with | cons r rr => cases rr; cases r with | str z => exact ⟨_, rfl, sz_le hz, q _ G H (.refl s) (.int _)⟩⟩
    · cases h
  · cases h
noncomputable def maxD (ds : List PyData) : Option PyData := match ds with
  | [.int i, .int j] => some (.int (max i j))
  | [.list xs] => (match allD intD xs with | some (n :: ns) => some (.int (maxI (n :: ns))) | _ => none)
  | _ => none
noncomputable def minD (ds : List PyData) : Option PyData := match ds with
  | [.int i, .int j] => some (.int (min i j))
  | [.list xs] => (match allD intD xs with | some (n :: ns) => some (.int (minI (n :: ns))) | _ => none)
  | _ => none
theorem max_ok (hc : X.calm = true) (ds : List PyData) (d : PyData) (h : maxD ds = some d) : CallD X (.builtin "max") ds d := by
  unfold maxD at h; split at h
  · rename_i i j
    cases (Option.some.inj h)
    exact ⟨_, call_max2 hc, fun vs G H Q s r q => by
      cases r with | cons r rr => cases rr with | cons r' rr => cases rr; cases r; cases r'; exact ⟨i, j, rfl, by rw [show (if j > i then j else i) = max i j by split <;> omega]; exact q _ G H (.refl s) (.int _)⟩⟩
  · split at h
    · rename_i xs n ns e
      cases (Option.some.inj h)
      have := allD_is (g := .int) (fun d a q => intD_is q) e
      subst this
      exact ⟨_, call_maxL hc, fun vs G H Q s r q => by
        cases r with | cons r rr => cases rr; cases r with | list hq r =>
          have e := r.ints
          subst e
          exact ⟨_, n :: ns, rfl, s.seq hq, by simp, fun M m1 m2 => by rw [maxI_eq m1 m2]; exact q _ G H (.refl s) (.int _)⟩⟩
    · cases h
  · cases h
theorem min_ok (hc : X.calm = true) (ds : List PyData) (d : PyData) (h : minD ds = some d) : CallD X (.builtin "min") ds d := by
  unfold minD at h; split at h
  · rename_i i j
    cases (Option.some.inj h)
    exact ⟨_, call_min2 hc, fun vs G H Q s r q => by
      cases r with | cons r rr => cases rr with | cons r' rr => cases rr; cases r; cases r'; exact ⟨i, j, rfl, by rw [show (if j < i then j else i) = min i j by split <;> omega]; exact q _ G H (.refl s) (.int _)⟩⟩
  · split at h
    · rename_i xs n ns e
      cases (Option.some.inj h)
      have := allD_is (g := .int) (fun d a q => intD_is q) e
      subst this
      exact ⟨_, call_minL hc, fun vs G H Q s r q => by
        cases r with | cons r rr => cases rr; cases r with | list hq r =>
          have e := r.ints
          subst e
          exact ⟨_, n :: ns, rfl, s.seq hq, by simp, fun M m1 m2 => by rw [minI_eq m1 m2]; exact q _ G H (.refl s) (.int _)⟩⟩
    · cases h
  · cases h
noncomputable def allB (ds : List PyData) : Option PyData := match ds with
  | [.list xs] => (allD boolD xs).map fun ns => .bool (ns.all id)
  | _ => none
theorem all_ok (hc : X.calm = true) (ds : List PyData) (d : PyData) (h : allB ds = some d) : CallD X (.builtin "all") ds d := by
  unfold allB at h; split at h
  · obtain ⟨ns, e, rfl⟩ := Option.map_eq_some_iff.mp h
    have := allD_is (g := .bool) (fun d a q => boolD_is q) e
    subst this
    exact ⟨_, call_allL hc, fun vs G H Q s r q => by
      cases r with | cons r rr => cases rr; cases r with | list hq r =>
        have e := r.bools
        subst e
        exact ⟨_, ns, rfl, s.seq hq, q _ G H (.refl s) (.bool _)⟩⟩
  · cases h
noncomputable def tupD (ds : List PyData) : Option PyData := match ds with
  | [.list xs] => some (.tuple xs)
  | [.tuple xs] => some (.tuple xs)
  | _ => none
theorem tup_ok (ds : List PyData) (d : PyData) (h : tupD ds = some d) : CallD X (.type "tuple") ds d := by
  unfold tupD at h; split at h
  · cases (Option.some.inj h)
    exact ⟨_, call_tuple_of, fun vs G H Q s r q => by
      cases r with | cons r rr => cases rr; cases r with | list hq r => exact ⟨_, _, rfl, .inl ⟨s.seq hq, fun l hl => q _ _ _ (.put s hl) (.tuple (.of upd_same) (r.mono (same_upd (s.free hl))))⟩⟩⟩
  · cases (Option.some.inj h)
    exact ⟨_, call_tuple_of, fun vs G H Q s r q => by
      cases r with | cons r rr => cases rr; cases r with | tuple hq r => exact ⟨_, _, rfl, .inr ⟨seqT s hq, q _ G H (.refl s) (.tuple hq r)⟩⟩⟩
  · cases h
noncomputable def lstD (ds : List PyData) : Option PyData := match ds with
  | [.list xs] => some (.list xs)
  | [.tuple xs] => some (.list xs)
  | _ => none
noncomputable def intC (ds : List PyData) : Option PyData := match ds with
  | [.bool b] => some (.int (if b then 1 else 0))
  | [.int i] => some (.int i)
  | _ => none
end
section
variable {X : Cx} {a b : Expr} {pos p p2 : Pos} {fa fb : EF}
noncomputable def negD : PyData → Option PyData
  | .int i => some (.int (-i))
  | _ => none
noncomputable def op1 (g : PyData → Option PyData) (fa : EF) : EF := fun ρ => bnd (fa ρ) fun x => lft (g x)
theorem de_neg (ha : DE X a fa) : DE X (.UnaryOp .USub a pos) (op1 negD fa) := ⟨fun pins s σ H Q I ⟨ρ, r, H0, G₀, G, e, R, q⟩ => pe_un un_neg ha.run pins s σ H Q I (bE R e q.x fun x v G1 H1 g1 R1 rv e1 => by
  obtain ⟨d, ed, rfl⟩ := lft_is e1
  cases x with
  | int i => cases (Option.some.inj ed); cases rv; exact ⟨_, rfl, q _ _ _ g1 (.int _)⟩
  | none => cases ed
  | bool _ => cases ed
  | str _ => cases ed
  | list _ => cases ed
  | tuple _ => cases ed
  | dict _ => cases ed)⟩
end
end L2.L3
namespace L2.L3
open PySem PySem.Spec PyProof.Rows
noncomputable def chn3E (g1 g2 g3 : PyData → PyData → Option Bool) (fa fb fc fd : EF) : EF := fun ρ => bnd (fa ρ) fun x => bnd (fb ρ) fun y => bnd (lft (g1 x y)) fun t => if t then bnd (fc ρ) fun z => bnd (lft (g2 y z)) fun u => if u then bnd (fd ρ) fun w => lft ((g3 z w).map .bool) else some (.ok (.bool false)) else some (.ok (.bool false))
noncomputable def isB (k x : PyData) : Option Bool := match k, x with
  | .none, .none => some true
  | .none, .bool _ => some false
  | .none, .int _ => some false
  | .none, .str _ => some false
  | .none, .list _ => some false
  | .none, .tuple _ => some false
  | .none, .dict _ => some false
  | .bool a, .bool b => some (b == a)
  | _, _ => none
noncomputable def isE (neg : Bool) (k : PyData) (fa : EF) : EF := fun ρ => bnd (fa ρ) fun x => lft ((isB k x).map fun t => .bool (neg != t))
noncomputable def isT (neg : Bool) (k : PyData) (fa : EF) : TF := fun ρ => bnd (fa ρ) fun x => lft ((isB k x).map fun t => neg != t)
noncomputable abbrev OF := List Ent → Mm (Option Int)
noncomputable def oNone : OF := fun _ => some (.ok none)
noncomputable def oSome (fa : EF) : OF := fun ρ => bnd (fa ρ) fun x => lft ((intD x).map some)
noncomputable def slD (x : PyData) (lo hi : Option Int) : Option PyData := match x with
  | .list ds => some (.list (cutD ds lo hi))
  | .tuple ds => if HT.sIx ds.length 0 lo = 0 ∧ HT.sIx ds.length ds.length hi = ds.length then none else some (.tuple (cutD ds lo hi))
  | _ => none
noncomputable def slE (fa : EF) (lo hi : OF) : EF := fun ρ => bnd (fa ρ) fun x => bnd (lo ρ) fun l => bnd (hi ρ) fun h => lft (slD x l h)
noncomputable def isTy (T : String) (x : PyData) : Option Bool := match T, x with
  | "int", .int _ => some true
  | "int", .bool _ => some true
  | "int", .none => some false
  | "int", .str _ => some false
  | "int", .list _ => some false
  | "int", .tuple _ => some false
  | "bool", .bool _ => some true
  | "bool", .int _ => some false
  | "bool", .none => some false
  | "bool", .str _ => some false
  | "bool", .list _ => some false
  | "bool", .tuple _ => some false
  | "str", .str _ => some true
  | "str", .int _ => some false
  | "str", .bool _ => some false
  | "str", .none => some false
  | "str", .list _ => some false
  | "str", .tuple _ => some false
  | "tuple", .tuple _ => some true
  | "tuple", .list _ => some false
  | "tuple", .str _ => some false
  | "tuple", .int _ => some false
  | "tuple", .bool _ => some false
  | "tuple", .none => some false
  | _, _ => none
noncomputable def isD (T : String) (x : PyData) : Option PyData := (isTy T x).map .bool
noncomputable def lrng2 (fa fb : EF) : EF := fun ρ => match fa ρ, fb ρ with
  | some (.ok (.int m)), some (.ok (.int n)) => if inRng m && inRng n && szOk (n - m).toNat then some (.ok (.list (rangeD m (n - m).toNat))) else none
  | _, _ => none
noncomputable def zipD (a b : List PyData) : List PyData := (a.zip b).map fun p => .tuple [p.1, p.2]
noncomputable def zipI (fa fb : EF) : AF := fun ρ => match fa ρ, fb ρ with
  | some (.ok (.list a)), some (.ok (.list b)) => some (.ok (zipD a b))
  | _, _ => none
noncomputable def stuckS : SF := fun _ => none
noncomputable def dedupI (ns : List Int) : List Int := ns.foldl (fun a n => if n ∈ a then a else a ++ [n]) []
noncomputable def dedupS (ns : List Str) : List Str := ns.foldl (fun a n => if n ∈ a then a else a ++ [n]) []
noncomputable def leStr (a b : Str) : Bool := !decide (b.cps.toList < a.cps.toList)
noncomputable def sortS (ns : List Str) : List Str := ns.mergeSort leStr
noncomputable def ssetD (x : PyData) : Option PyData := match x with
  | .list xs => (match allD intD xs with
    | some ns => if ns.length < 64 then some (.list ((sortI (dedupI ns)).map .int)) else none
    | none => (match allD strD xs with
      | some ns => if ns.length < 64 then some (.list ((sortS (dedupS ns)).map .str)) else none
      | none => none))
  | _ => none
end L2.L3
namespace L2.L3
open PySem PySem.Spec PyProof.Rows
section
variable {X : Cx} {e a b c d : Expr} {es : List Expr} {pos p p2 : Pos} {fa fb fc fd : EF}
theorem op_isB : OpR X (compareOp .Is) (fun x y H Q => ∃ c d, x = .bl c ∧ y = .bl d ∧ Q (.bl (c == d)) H) := by
  intro pins s σ H x y v u Q I rx ry ⟨c, d, e1, e2, q⟩
  subst e1 e2
  cases rx; cases ry
  exact is_bool (fin_bl I q rfl)
theorem cmp_isN {x : PyData} {t : Bool} (h : isB .none x = some t) : CmpD X .Is x .none t := ⟨_, op_isN, fun v u G H Q s rv ru q => by
  cases ru
  refine ⟨rfl, ?_⟩
  cases rv <;> (have h := Option.some.inj h; subst h; simpa using q)⟩
theorem isB_bool {c : Bool} {x : PyData} {t : Bool} (h : isB (.bool c) x = some t) : ∃ d, x = .bool d ∧ t = (d == c) := by
  cases x <;> first | (cases h; done) | (exact ⟨_, rfl, (Option.some.inj h).symm⟩)
theorem cmp_isT {c : Bool} {x : PyData} {t : Bool} (h : isB (.bool c) x = some t) : CmpD X .Is x (.bool c) t := by
  obtain ⟨d, rfl, rfl⟩ := isB_bool h
  exact ⟨_, op_isB, fun v u G H Q s rv ru q => by cases rv; cases ru; exact ⟨_, _, rfl, rfl, q⟩⟩
noncomputable def isG (neg : Bool) (k : PyData) (x y : PyData) : Option Bool := match k, y with
  | .none, .none => (isB k x).map fun t => neg != t
  | .bool a, .bool b => if a = b then (isB k x).map fun t => neg != t else none
  | _, _ => none
theorem isE_eq (neg : Bool) (k : PyData) (hk : k = .none ∨ ∃ c, k = .bool c) : isE neg k fa = cmpE (isG neg k) fa (cst k) := by
  funext ρ
  unfold isE cmpE cst
  cases fa ρ with
  | none => rfl
  | some r => cases r with
    | ex c => rfl
    | ok x =>
      rcases hk with rfl | ⟨c, rfl⟩
      · show lft _ = lft _; simp only [isG, Option.map_map]; rfl
      · show lft _ = lft _; simp only [isG, if_pos, Option.map_map]; rfl
theorem isT_eq (neg : Bool) (k : PyData) (hk : k = .none ∨ ∃ c, k = .bool c) : isT neg k fa = cmpT (isG neg k) fa (cst k) := by
  funext ρ
  unfold isT cmpT cst
  cases fa ρ with
  | none => rfl
  | some r => cases r with
    | ex c => rfl
    | ok x =>
      rcases hk with rfl | ⟨c, rfl⟩
      · rfl
      · show lft _ = lft _; simp only [isG, if_pos]
theorem isG_ok {k x y : PyData} {t : Bool} (h : isG false k x y = some t) : CmpD X .Is x y t := by
  unfold isG at h
  split at h
  · obtain ⟨t', e, rfl⟩ := Option.map_eq_some_iff.mp h
    have := cmp_isN (X := X) e
    cases t' <;> exact this
  · split at h
    · rename_i hab
      subst hab
      obtain ⟨t', e, rfl⟩ := Option.map_eq_some_iff.mp h
      have := cmp_isT (X := X) e
      cases t' <;> exact this
    · cases h
  · cases h
theorem de_is_none {j} (ha : DE X a fa) : DE X (.Compare a [.Is] [.Constant .none j p] pos) (isE false .none fa) := by rw [isE_eq _ _ (.inl rfl)]; exact de_cmp (fun _ _ _ h => isG_ok h) ha de_none
theorem dt_is_none {j} (ha : DE X a fa) : DT X (.Compare a [.Is] [.Constant .none j p] pos) (isT false .none fa) := by rw [isT_eq _ _ (.inl rfl)]; exact dt_cmp (fun _ _ _ h => isG_ok h) ha de_none
end
end L2.L3
namespace L2.L3
open PySem PySem.Spec PyProof.Rows
theorem Inv.turnNew {X : Cx} {pins : List (Addr × Obj)} {σ : St} {H : Hp} {s : Shared} {h' : Heap} {t' : Nat} {T : Addr} {xs : List V} (ch : List Addr) (I : Inv X pins σ H s) (hf : ∀ b ∈ ch, FpOk X pins H b)
    (k : ∀ b o, b ∉ ch → s.heap.get? b = some o → h'.get? b = some o) (hT : s.heap.objs.size ≤ T) (new : ObjOk X.prog X.w (upd H T (.tup xs)) h' T (.tup xs)) : Inv X pins σ (upd H T (.tup xs)) { s with heap := h', toks := t' } := by
  have nT : H T = none := I.hok.fresh hT
  have ne : ∀ b o, s.heap.get? b = some o → b ≠ T := fun b o e => Nat.ne_of_lt (Nat.lt_of_lt_of_le (Heap.lt_size e) hT)
  have up : ∀ b u, H b = some u → upd H T (.tup xs) b = some u := fun b u e => by rw [upd_ne (ne_of_none e nT)]; exact e
  refine I.step (g' := s.gens) (d' := s.drawn) (ch := ch) (fun b hb => ?_) (fun b o _ _ hc e _ => k b o hc e) (fun b o _ _ hc e _ => ⟨o.slots, k b o hc e⟩) (fun b o _ e n => by rw [upd_ne (ne b o e)]; exact n)
    (fun b o hc e => ⟨o, k b o hc e⟩) (fun b u e => up b _ e) (fun b o u e => up b _ e) (fun b ps e => ⟨#[], by rw [up b _ e]; simp⟩) (fun m hm => ?_) (fun b u e => ?_) I.bare
  · obtain ⟨f0, f1, f2, f3, f4, f5⟩ := hf b hb
    exact ⟨f3, f1, f4, f5⟩
  · obtain ⟨o, es, ep, ho, r⟩ := hm
    exact ⟨o, es, ep, k _ o (fun z => (hf _ z).2.1 rfl) ho, r⟩
  · by_cases hb : b = T
    · subst hb
      rw [upd_same] at e
      cases e
      exact new
    · rw [upd_ne hb] at e
      refine (I.hok b u e).stay (fun c v hc q => k c v (fun z => ?_) q) (fun q e' => up _ _ e') fun c v q => up _ _ q
      have f0 := (hf c z).1
      rcases hc with z' | z'
      · rw [z', e] at f0; cases f0
      · rw [z'] at f0; cases f0
theorem Inv.turnAll {X : Cx} {pins : List (Addr × Obj)} {σ : St} {H : Hp} {s : Shared} {h' : Heap} {t' : Nat} (ch : List Addr) (I : Inv X pins σ H s) (hf : ∀ b ∈ ch, FpOk X pins H b)
    (k : ∀ b o, b ∉ ch → s.heap.get? b = some o → h'.get? b = some o) : Inv X pins σ H { s with heap := h', toks := t' } := by
  refine I.step (g' := s.gens) (d' := s.drawn) (ch := ch) (fun b hb => ?_) (fun b o _ _ hc e _ => k b o hc e) (fun b o _ _ hc e _ => ⟨o.slots, k b o hc e⟩) (fun b o _ e n => n)
    (fun b o hc e => ⟨o, k b o hc e⟩) (fun b u e => e) (fun b o u e => e) (fun b ps e => ⟨#[], by rw [e]; simp⟩) (fun m hm => ?_) (fun b u e => ?_) I.bare
  · obtain ⟨f0, f1, f2, f3, f4, f5⟩ := hf b hb
    exact ⟨f3, f1, f4, f5⟩
  · obtain ⟨o, es, ep, ho, r⟩ := hm
    exact ⟨o, es, ep, k _ o (fun z => (hf _ z).2.1 rfl) ho, r⟩
  · refine (I.hok b u e).stay (fun c v hc q => k c v (fun z => ?_) q) (fun q e' => e') fun c v q => q
    have f0 := (hf c z).1
    rcases hc with z' | z'
    · rw [z', e] at f0; cases f0
    · rw [z'] at f0; cases f0
noncomputable def Itz (K : PySem.W.Frag) (l1 l2 : Addr) : It :=
  ⟨fun i H => ∃ xs ys x y, SqL K H l1 xs ∧ SqL K H l2 ys ∧ xs[i]? = some x ∧ ys[i]? = some y,
   fun i H v H' => ∃ T x y, H T = none ∧ v = .ref T ∧ H' = upd H T (.tup [x, y]) ∧ (∀ xs, SqL K H l1 xs → xs[i]? = some x) ∧ ∀ ys, SqL K H l2 ys → ys[i]? = some y,
   fun i H => ∃ xs ys, SqL K H l1 xs ∧ SqL K H l2 ys ∧ (xs.length ≤ i ∨ ys.length ≤ i)⟩
noncomputable def tnZip (z TI TO i1 i2 l1 l2 : Addr) (i : Nat) (h : Heap) : Prop := IsZip h z TI TO .none ∧ IsPair h TI (.ref i1) (.ref i2) ∧ (∃ a b, IsPair h TO a b) ∧ h.IsListIter i1 l1 i ∧ h.IsListIter i2 l2 i
theorem turn_zip {P : Program} {w : World} {K : PySem.W.Frag} {elts : List Expr} {k0 : Nat} {p0 : Pos} {z TI TO i1 i2 l1 l2 : Addr} (D : ZipApart z TI TO i1 i2 l1 l2) : Turn P w K (.Tuple elts k0 p0) (Itz K l1 l2) [z, TI, TO, i1, i2] z (tnZip z TI TO i1 i2 l1 l2) where
  mem := by simp
  obj := fun i h ⟨hz, hTI, ⟨a, b, hTO⟩, ⟨o1, g1, _, d1⟩, ⟨o2, g2, _, d2⟩⟩ c hc => by
    simp only [List.mem_cons, List.not_mem_nil, or_false] at hc
    rcases hc with rfl | rfl | rfl | rfl | rfl
    · exact ⟨_, hz, fun v q => by cases q⟩
    · exact ⟨_, hTI, fun v q => by cases q⟩
    · exact ⟨_, hTO, fun v q => by cases q⟩
    · exact ⟨o1, g1, fun v q => by rw [d1] at q; cases q⟩
    · exact ⟨o2, g2, fun v q => by rw [d2] at q; cases q⟩
  keep := fun i h h' ⟨hz, hTI, ⟨a, b, hTO⟩, h1, h2⟩ kp => ⟨kp z (by simp) _ hz, kp TI (by simp) _ hTI, ⟨a, b, kp TO (by simp) _ hTO⟩, h1.at fun o e => kp i1 (by simp) o e, h2.at fun o e => kp i2 (by simp) o e⟩
  item := by
    intro X hP hw hK hc i pins s σ H E I hf ⟨hz, hTI, ⟨a, b, hTO⟩, h1, h2⟩ ⟨xs, ys, x, y, q1, q2, ex, ey⟩
    subst hP hw hK
    obtain ⟨its, r1, p1, _⟩ := I.list q1
    obtain ⟨its2, r2, p2, _⟩ := I.list q2
    obtain ⟨u, eu, ru⟩ := r1.get ex
    obtain ⟨v, ev, rv⟩ := r2.get ey
    refine wpAny_pyNext_zip_item D hz hTI hTO h1 h2 p1.isList p2.isList (x := u) (y := v) (by rw [List.getElem?_toArray]; exact eu) (by rw [List.getElem?_toArray]; exact ev) fun h' a1 a2 a3 a4 a5 a6 hk => ⟨_, rfl, ?_⟩
    refine wpAny_letOwnedTupleGo_zip a1 fun h2' hz' hs' => ?_
    have hk2 : ∀ c o, c ∉ [z, TO, i1, i2] → s.heap.get? c = some o → h2'.get? c = some o := fun c o hc e => by
      simp only [List.mem_cons, List.not_mem_nil, or_false, not_or] at hc
      exact hs'.extBut c o hc.1 (hk c o hc.1 hc.2.1 hc.2.2.1 hc.2.2.2 e)
    have nT : s.heap.objs.size ≠ z := Nat.ne_of_gt (Heap.lt_size hz)
    have new : ObjOk X.prog X.w (upd H s.heap.objs.size (.tup [x, y])) h2' s.heap.objs.size (.tup [x, y]) :=
      ⟨by show 2 ≤ sizeLine; decide, [u, v], .cons ru (.cons rv .nil), ⟨_, hs'.extBut _ _ nT a5, rfl, _, rfl⟩⟩
    have hfT : H s.heap.objs.size = none := I.hok.fresh (Nat.le_refl _)
    refine ⟨.ref s.heap.objs.size, upd H s.heap.objs.size (.tup [x, y]), Inv.turnNew (s := s) (h' := h2') (t' := s.toks) [z, TO, i1, i2] I (fun c hc => hf c (by simp only [List.mem_cons, List.not_mem_nil, or_false] at hc ⊢; rcases hc with h | h | h | h <;> simp [h])) hk2 (Nat.le_refl _) new, rfl,
      ⟨_, x, y, hfT, rfl, rfl, fun xs' q => by rw [I.list_inj q q1]; exact ex, fun ys' q => by rw [I.list_inj q q2]; exact ey⟩, ⟨hz', hs'.extBut _ _ D.TIz (hk _ _ D.TIz D.TITO D.TIi1 D.TIi2 hTI), ⟨_, _, hs'.extBut _ _ D.TOz a2⟩, a3.extBut hs'.extBut D.i1z, a4.extBut hs'.extBut D.i2z⟩, fun c hc => ?_⟩
    obtain ⟨o, e, _⟩ : ∃ o, s.heap.get? c = some o ∧ True := by
      simp only [List.mem_cons, List.not_mem_nil, or_false] at hc
      rcases hc with rfl | rfl | rfl | rfl | rfl
      · exact ⟨_, hz, trivial⟩
      · exact ⟨_, hTI, trivial⟩
      · exact ⟨_, hTO, trivial⟩
      · obtain ⟨o, g, _⟩ := h1; exact ⟨o, g, trivial⟩
      · obtain ⟨o, g, _⟩ := h2; exact ⟨o, g, trivial⟩
    rw [upd_ne (Nat.ne_of_lt (Heap.lt_size e))]
    exact (hf c hc).1
  done := by
    intro X hP hw hK hc i pins s σ H E I hf ⟨hz, hTI, ⟨a, b, hTO⟩, h1, h2⟩ ⟨xs, ys, q1, q2, hend⟩
    subst hP hw hK
    obtain ⟨its, r1, p1, _⟩ := I.list q1
    obtain ⟨its2, r2, p2, _⟩ := I.list q2
    have l1' := r1.length
    have l2' := r2.length
    refine wpAny_pyNext_zip_end (I.ok.hd hc) D hz hTI hTO h1 h2 p1.isList p2.isList ?_ fun h' hk => ⟨rfl, Inv.turnAll (t' := s.toks) [z, TO, i1, i2] I (fun c hc => hf c (by simp only [List.mem_cons, List.not_mem_nil, or_false] at hc ⊢; rcases hc with h | h | h | h <;> simp [h])) fun c o hc e => ?_⟩
    · rcases hend with he | he
      · exact .inl (by rw [List.getElem?_toArray]; exact List.getElem?_eq_none (by omega))
      · exact .inr (by rw [List.getElem?_toArray]; exact List.getElem?_eq_none (by omega))
    · simp only [List.mem_cons, List.not_mem_nil, or_false, not_or] at hc
      exact hk c o hc.1 hc.2.1 hc.2.2.1 hc.2.2.2 e
  self := fun A i s Q E st h => wpAny_pyIter_zip st.1 h
theorem walk_zip {K : PySem.W.Frag} {G : Hp} {l1 l2 : Addr} {xs ys : List V} {ds es : List PyData} (h1 : SqL K G l1 xs) (r1 : RepAll K G xs ds) (h2 : SqL K G l2 ys) (r2 : RepAll K G ys es) : Walk K (Itz K l1 l2) G (zipD ds es) := by
  intro i G' H' s1 s2
  have a1 := (s1.trans s2).seq h1
  have a2 := (s1.trans s2).seq h2
  unfold zipD
  refine ⟨fun d e => ?_, fun hl => ⟨xs, ys, a1, a2, ?_⟩⟩
  · rw [List.getElem?_map] at e
    obtain ⟨⟨p, q⟩, e1, rfl⟩ := Option.map_eq_some_iff.mp e
    rw [List.getElem?_zip_eq_some] at e1
    obtain ⟨v, ev, rv⟩ := r1.get e1.1
    obtain ⟨u, eu, ru⟩ := r2.get e1.2
    refine ⟨⟨xs, ys, v, u, a1, a2, ev, eu⟩, fun x H2 ⟨T, x', y', hT, ex, eH, b1, b2⟩ => ?_⟩
    subst ex eH
    have b3 := b1 xs a1
    have b4 := b2 ys a2
    rw [ev] at b3
    rw [eu] at b4
    cases b3
    cases b4
    have hG : G' T = none := s2.free hT
    exact ⟨upd G' T (.tup [v, u]), .put s2 hT, .tuple (.of upd_same) (.cons ((rv.mono s1).mono (same_upd hG)) (.cons ((ru.mono s1).mono (same_upd hG)) .nil))⟩
  · rw [List.length_map, List.length_zip] at hl
    have e1 := r1.length
    have e2 := r2.length
    omega
section
variable {X : Cx} {a b : Expr} {elts : List Expr} {k0 : Nat} {p0 pos p : Pos} {fa fb : EF}
theorem di_zip (hm : X.mg "zip" = none) (ha : DE X a fa) (hb : DE X b fb) (hv : bootBuiltins "zip" = some (.type "zip") := by decide +kernel) (hs : starEach [a, b] X.env = (false, eval a X.env) :: starEach [b] X.env := by rfl) (hs2 : starEach [b] X.env = (false, eval b X.env) :: starEach [] X.env := by rfl)
    (hpl : (backTo pos (starEach [b] X.env)).any (·.1) = false := by rfl) (hg : Gl X "zip" := by rfl) : DI X (.Tuple elts k0 p0) (.Call (.Name "zip" p) [a, b] [] pos) (zipI fa fb) := di_of fun ρ r e => by
  unfold zipI at e
  split at e
  · rename_i as bs e1 e3
    refine ⟨_, (Option.some.inj e).symm, ⟨?_⟩⟩
    intro pins s σ H R I ⟨H0, G₀, G, S, q⟩
    have pa := pad_cons (ha.pd e1) (pad_cons (hb.pd e3) pad_nil hs2) hs
    refine wpAny_Call_Name_kw (ld_blt I hg hm hv ?_ (by decide) (by decide))
    refine PyProof.Rows.callWith_type1 (thn (pa.run H0 G₀ G pos pins s σ H (fun vs H' => ∃ G', Grow G H G' H' ∧ RepAll X.K G' vs [.list as, .list bs]) I S fun vs G' H' g r => ⟨G', g, r⟩) fun us s1 ⟨vs, H1, I1, r1, G1, g1, w1⟩ => ?_) hs hpl
    cases w1 with
    | cons wa wn => cases wn with
      | cons wb wn =>
        cases wn
        cases wa with
        | list hq ra => cases wb with
          | list hq2 rb =>
            obtain ⟨u, v, rfl, ru, rv⟩ := vals2 r1
            cases ru; cases rv
            obtain ⟨its, r1', p1, _⟩ := I1.list (g1.sub.seq hq)
            obtain ⟨its2, r2', p2, _⟩ := I1.list (g1.sub.seq hq2)
            refine call_zip_2 p1.isList p2.isList fun h' z1 z2 z3 z4 z5 z6 hk => ?_
            refine wpAny_pyIter_zip z1 ?_
            obtain ⟨o1, g1', _⟩ := p1.isList
            obtain ⟨o2, g2', _⟩ := p2.isList
            refine ⟨s1.heap.objs.size + 4, [s1.heap.objs.size + 4, s1.heap.objs.size + 2, s1.heap.objs.size + 3, s1.heap.objs.size, s1.heap.objs.size + 1], _, _, H1, rfl, I1.kept (h' := h') (t' := s1.toks) (fun b o e => hk b o e), turn_zip (zipApart_new (Heap.lt_size g1') (Heap.lt_size g2')), ⟨z1, z2, ⟨_, _, z3⟩, z4, z5⟩, fun c hc => ?_, q _ G1 H1 g1 (walk_zip hq ra hq2 rb)⟩
            have ge : s1.heap.objs.size ≤ c := by
              simp only [List.mem_cons, List.not_mem_nil, or_false] at hc
              rcases hc with h | h | h | h | h <;> rw [h] <;> first | exact Nat.le_add_right _ _ | exact Nat.le_refl _
            exact I1.fpOk ge (I1.hok.fresh ge)
  · cases e
end
end L2.L3
namespace L2.SX
open PySem
noncomputable def Rise (xs : Array Nat) : Prop := xs.toList.Pairwise (· < ·)
theorem Rise.lt {xs : Array Nat} (h : Rise xs) {i j : Nat} (hij : i < j) (hj : j < xs.size) : xs[i] < xs[j] := by
  have := List.pairwise_iff_getElem.mp h i j (by simpa using Nat.lt_trans hij hj) (by simpa using hj) hij
  simpa using this
theorem go_is {xs : Array Nat} {j : Nat} (h : Rise xs) : ∀ (fuel lo hi : Nat), hi - lo ≤ fuel → lo ≤ hi → hi ≤ xs.size → (∀ i (hi' : i < xs.size), i < lo → xs[i] < j) → (∀ i (hi' : i < xs.size), hi ≤ i → j ≤ xs[i]) →
    SetTable.below.go xs j fuel lo hi ≤ xs.size ∧ (∀ i (hi' : i < xs.size), i < SetTable.below.go xs j fuel lo hi → xs[i] < j) ∧ ∀ i (hi' : i < xs.size), SetTable.below.go xs j fuel lo hi ≤ i → j ≤ xs[i]
  | 0, lo, hi, hf, hl, hs, h1, h2 => by
    have : lo = hi := by omega
    subst this
    unfold SetTable.below.go
    exact ⟨hs, h1, h2⟩
  | fuel + 1, lo, hi, hf, hl, hs, h1, h2 => by
    unfold SetTable.below.go
    by_cases hlt : lo < hi
    · rw [if_pos hlt]
      dsimp only
      have hm : (lo + hi) / 2 < xs.size := by omega
      have hg : xs.getD ((lo + hi) / 2) j = xs[(lo + hi) / 2] := by simp [Array.getD, hm]
      rw [hg]
      by_cases hc : xs[(lo + hi) / 2] < j
      · rw [if_pos hc]
        refine go_is h fuel _ hi (by omega) (by omega) hs (fun i hi' hlt' => ?_) h2
        by_cases he : i = (lo + hi) / 2
        · subst he; exact hc
        · exact Nat.lt_trans (h.lt (by omega) hm) hc
      · rw [if_neg hc]
        refine go_is h fuel lo _ (by omega) (by omega) (by omega) h1 (fun i hi' hge => ?_)
        by_cases he : i = (lo + hi) / 2
        · subst he; omega
        · have := h.lt (i := (lo + hi) / 2) (j := i) (by omega) hi'
          omega
    · rw [if_neg hlt]
      have : lo = hi := by omega
      subst this
      exact ⟨hs, h1, h2⟩
theorem below_is {xs : Array Nat} (h : Rise xs) (j : Nat) : SetTable.below xs j ≤ xs.size ∧ (∀ i (hi' : i < xs.size), i < SetTable.below xs j → xs[i] < j) ∧ ∀ i (hi' : i < xs.size), SetTable.below xs j ≤ i → j ≤ xs[i] :=
  go_is h _ _ _ (by omega) (Nat.zero_le _) (Nat.le_refl _) (fun _ _ z => absurd z (by omega)) (fun i hi' z => absurd z (by omega))
theorem below_next {xs : Array Nat} (h : Rise xs) {i : Nat} (hi : i < xs.size) : SetTable.below xs (xs[i] + 1) = i + 1 := by
  obtain ⟨b1, b2, b3⟩ := below_is h (xs[i] + 1)
  have c1 : ¬ SetTable.below xs (xs[i] + 1) ≤ i := fun z => by have := b3 i hi z; omega
  have c2 : ¬ i + 1 < SetTable.below xs (xs[i] + 1) := fun z => by
    have lt : i + 1 < xs.size := by omega
    have := b2 (i + 1) lt z
    have := h.lt (i := i) (j := i + 1) (by omega) lt
    omega
  omega
theorem below_zero (xs : Array Nat) (h : Rise xs) : SetTable.below xs 0 = 0 := by
  obtain ⟨b1, b2, b3⟩ := below_is h 0
  cases e : SetTable.below xs 0 with
  | zero => rfl
  | succ n =>
    have := b2 0 (by omega) (by omega)
    omega
theorem rise_put {xs : Array Nat} (h : Rise xs) {j : Nat} (hn : xs[SetTable.below xs j]? ≠ some j) : Rise (SetTable.insertAt xs (SetTable.below xs j) j) := by
  obtain ⟨b1, b2, b3⟩ := below_is h j
  unfold Rise
  rw [SetTable.toList_insertAt, List.pairwise_append]
  have ne : ∀ i (hi' : i < xs.size), SetTable.below xs j ≤ i → j < xs[i] := fun i hi' hge => by
    have a := b3 i hi' hge
    by_cases e : xs[i] = j
    · exfalso
      by_cases e2 : i = SetTable.below xs j
      · exact hn (by rw [← e2]; simp [hi', e])
      · have lt : SetTable.below xs j < i := by omega
        have := h.lt (i := SetTable.below xs j) (j := i) lt hi'
        have := b3 (SetTable.below xs j) (by omega) (Nat.le_refl _)
        omega
    · omega
  refine ⟨h.sublist (List.take_sublist _ _), ?_, fun a ha b hb => ?_⟩
  · rw [List.pairwise_cons]
    refine ⟨fun a ha => ?_, h.sublist (List.drop_sublist _ _)⟩
    obtain ⟨k, hk, e⟩ := List.mem_iff_getElem.mp ha
    rw [List.getElem_drop] at e
    subst e
    have : SetTable.below xs j + k < xs.size := by simpa using (by rw [List.length_drop, Array.length_toList] at hk; omega : SetTable.below xs j + k < xs.size)
    have := ne (SetTable.below xs j + k) this (by omega)
    simpa using this
  · obtain ⟨k, hk, e⟩ := List.mem_iff_getElem.mp ha
    rw [List.getElem_take] at e
    subst e
    rw [List.length_take, Array.length_toList] at hk
    have k1 : k < xs.size := by omega
    have ak := b2 k k1 (by omega)
    have ak' : xs.toList[k]'(by simpa using k1) < j := by simpa using ak
    rcases List.mem_cons.mp hb with rfl | hb
    · exact ak'
    · obtain ⟨k', hk', e'⟩ := List.mem_iff_getElem.mp hb
      rw [List.getElem_drop] at e'
      subst e'
      have k2 : SetTable.below xs j + k' < xs.size := by rw [List.length_drop, Array.length_toList] at hk'; omega
      have := ne (SetTable.below xs j + k') k2 (by omega)
      have : j < xs.toList[SetTable.below xs j + k']'(by simpa using k2) := by simpa using this
      omega
structure TOk (t : SetTable) (led : Bool) : Prop where
  led : t.led = led
  rise : t.plain = true → Rise t.place
theorem TOk.fresh (led : Bool) : TOk (SetTable.fresh 0 0 led) led := ⟨rfl, fun _ => by simp [SetTable.fresh, Rise]⟩
theorem TOk.standIn {t : SetTable} {led : Bool} (h : TOk t led) (n : Nat) : TOk (t.standIn n) led := ⟨h.led, fun z => by cases z⟩
theorem TOk.off {t : SetTable} {led : Bool} (h : TOk t led) : TOk { t with plain := false } led := ⟨h.led, fun z => by cases z⟩
theorem TOk.orStandIn {t : SetTable} {led : Bool} (h : TOk t led) (n : Nat) : TOk (t.orStandIn n) led := by
  unfold SetTable.orStandIn
  split
  · exact h
  · exact h.standIn n
theorem slot_free {t : SetTable} {j : Nat} (h : t.slot j = .empty ∨ t.slot j = .dummy) : t.place[SetTable.below t.place j]? ≠ some j := by
  intro z
  have : t.slot j = .live (SetTable.below t.place j) := by
    unfold SetTable.slot
    dsimp only
    rw [if_pos (by rw [z]; simp)]
  rcases h with h | h <;> (rw [this] at h; cases h)
theorem probe_free {t : SetTable} {f : Nat → Int} {h : Int} : ∀ (fuel : Nat) (p : SetTable.Probe) (j : Nat) (d : Option Nat), (∀ k, p.dummy = some k → t.slot k = .dummy) → SetTable.probe.go t f h fuel p = some (.empty j d) →
    (t.slot j = .empty) ∧ ∀ k, d = some k → t.slot k = .dummy
  | 0, p, j, d, _, e => by unfold SetTable.probe.go at e; cases e
  | fuel + 1, p, j, d, hd, e => by
    unfold SetTable.probe.go at e
    split at e
    · rename_i es
      cases (Option.some.inj e)
      exact ⟨es, hd⟩
    · rename_i es
      refine probe_free fuel _ j d (fun k hk => ?_) e
      have adv : ∀ q : SetTable.Probe, (t.advance q).dummy = q.dummy := fun q => by unfold SetTable.advance; split <;> rfl
      rw [adv] at hk
      cases hk
      exact es
    · split at e
      · cases e
      · refine probe_free fuel _ j d (fun k hk => ?_) e
        have adv : ∀ q : SetTable.Probe, (t.advance q).dummy = q.dummy := fun q => by unfold SetTable.advance; split <;> rfl
        rw [adv] at hk
        exact hd k hk
theorem TOk.layNew {t : SetTable} {led : Bool} (h : TOk t led) (es : Array (Int × Value)) (hs : Int) (x : Value) : TOk (layNew t es hs x).2.1 led := by
  unfold PySem.layNew
  split
  · rename_i slot wd e
    dsimp only
    have hput : TOk (t.put slot).1 led := by
      refine ⟨h.led, fun hp => ?_⟩
      have hr : Rise t.place := h.rise hp
      refine rise_put hr (slot_free ?_)
      unfold SetTable.freeSlot SetTable.probe at e
      split at e
      · rename_i j d em
        obtain ⟨a, b⟩ := probe_free _ _ j d (fun k hk => by simp [SetTable.probeStart] at hk) em
        cases (Option.some.inj e)
        cases d with
        | none => exact .inl a
        | some k => exact .inr (b k rfl)
      · cases e
    exact hput.orStandIn _
  · exact h.standIn _
theorem TOk.relayAll {t : SetTable} {led : Bool} (h : TOk t led) (es : Array (Int × Value)) (wanted : Nat) : TOk (relayAll t es wanted).2.1 led := by
  unfold PySem.relayAll
  split
  · rename_i t' order e
    dsimp only
    split
    · unfold SetTable.relaid SetTable.laid at e
      cases ho : SetTable.layClean (SetTable.sizeAbove wanted - 1) (es.map (·.1)) with
      | none => rw [ho] at e; cases e
      | some owner =>
        rw [ho] at e
        have e := Option.some.inj e
        have e1 := (congrArg Prod.fst e).symm
        dsimp only at e1
        subst e1
        refine ⟨h.led, fun _ => ?_⟩
        show List.Pairwise (· < ·) _
        simp only [List.toList_toArray]
        rw [List.pairwise_map, List.pairwise_filterMap]
        refine List.pairwise_lt_range.imp ?_
        intro a b hab x hx y hy
        obtain ⟨u, _, rfl⟩ := Option.map_eq_some_iff.mp hx
        obtain ⟨v, _, rfl⟩ := Option.map_eq_some_iff.mp hy
        exact hab
    · exact h.standIn _
  · exact h.standIn _
end L2.SX
namespace L2.SX
open PySem PyProof.Rows
section
variable {prog : Program} {w : World} {K : Type} [DecidableEq K]
structure Good (knd : KeyKind prog w K) (h : Heap) (a : Addr) (ks : List K) (led : Bool) : Prop where
  ex : ∃ o es ep t, h.get? a = some o ∧ o.ExactSet ∧ o.data = .set es ep t ∧ ElemsOf knd es.toList ∧ (∀ k, k ∈ ks ↔ ∃ e ∈ es.toList, knd.is k e.2 = true) ∧ es.size = ks.length ∧ t.fits es.size = true ∧ TOk t led
  nd : ks.Nodup
  few : ks.length < scanBound
noncomputable def addK (ks : List K) (k : K) : List K := if k ∈ ks then ks else ks ++ [k]
variable {knd : KeyKind prog w K} {A : Around} {E : Value → Shared → Prop} {s : Shared} {a : Addr} {ks : List K} {led : Bool}
theorem Good.keeps {h h' : Heap} (g : Good knd h a ks led) (k : ∀ o, h.get? a = some o → h'.get? a = some o) : Good knd h' a ks led := by
  obtain ⟨o, es, ep, t, ho, r⟩ := g.ex
  exact ⟨⟨o, es, ep, t, k o ho, r⟩, g.nd, g.few⟩
theorem stored {h : Heap} {o : Obj} {es es' : Array (Int × Value)} {ep : Nat} {t t' : SetTable} (ho : h.get? a = some o) (hd : o.data = .set es ep t) : (h.update a (Obj.putSet es' t')).get? a = some { o with data := .set es' (ep + 1) t' } := by
  have e := putSet_of es' t' hd
  have q := Heap.get?_update_self (Obj.putSet es' t') ho (by rw [e]; rfl)
  rw [e] at q
  exact q
theorem add_ok {k : K} {x : Value} {Q : Bool → Shared → Prop} (hkey : knd.is k x = true) (hsc : x.scannable = true) (g : Good knd s.heap a ks led) (hroom : ks.length + 1 < scanBound)
    (h : ∀ h' b, Heap.SameBut a s.heap h' → Good knd h' a (addK ks k) led → Q b { s with heap := h' }) : wpAny (model prog w) A (setAddHashed a x (knd.hash k)) Q E s := by
  obtain ⟨o, es, ep, t, ho, hex, hd, hel, hmem, hn, hf, hT⟩ := g.ex
  have hb : es.size < scanBound := by rw [hn]; exact g.few
  unfold setAddHashed setAddHashedIn
  refine wpAny_holding (wpAny_bind (wpAny_setState_of ho hd hf ?_))
  dsimp only
  rw [byScan_of hsc hb hel]
  simp only [↓reduceIte]
  unfold setAddByScan
  refine wpAny_bind (wpAny_bind (wpAny_rule (wpAny_bind (wpAny_setScan_of hkey ho hd hf hel ?_))))
  cases hr : List.findIdx? (fun e => knd.is k e.2) es.toList with
  | some j =>
    dsimp only
    obtain ⟨hj, hpj, _⟩ := List.findIdx?_eq_some_iff_getElem.mp hr
    have hk : k ∈ ks := (hmem k).mpr ⟨es.toList[j], List.getElem_mem hj, hpj⟩
    refine wpAny_pure (wpAny_pure ?_)
    have q := h s.heap false (Heap.SameBut.refl a s.heap) (by unfold addK; rw [if_pos hk]; exact g)
    exact q
  | none =>
    dsimp only
    have hk : k ∉ ks := fun z => by
      obtain ⟨e, he, hp⟩ := (hmem k).mp z
      have := List.findIdx?_eq_none_iff.mp hr e he
      rw [hp] at this
      cases this
    have gone : ∀ (b : Bool) {s₁ : Shared} {Q' : Unit → Shared → Prop}, Q' () s₁ → wpAny (model prog w) A (match b with | true => rule "set.scan.the-table-gave-way" | false => pure ()) Q' E s₁ := by
      intro b s₁ Q' q
      cases b
      · exact wpAny_pure q
      · exact wpAny_rule q
    have hperm := layNew_perm t es (knd.hash k) x
    have hfits := layNew_fits t es (knd.hash k) x
    have hTL := hT.layNew es (knd.hash k) x
    generalize layNew t es (knd.hash k) x = L at hperm hfits hTL ⊢
    obtain ⟨es1, t1, wd, gave⟩ := L
    dsimp only at hperm hfits hTL ⊢
    rw [Array.toList_push] at hperm
    have hel1 : ElemsOf knd es1.toList := (hel.push hkey hsc).perm hperm
    have hmem1 : ∀ k', k' ∈ addK ks k ↔ ∃ e ∈ es1.toList, knd.is k' e.2 = true := by
      intro k'
      unfold addK
      rw [if_neg hk, List.mem_append, List.mem_singleton, hmem k']
      constructor
      · rintro (⟨e, he, hp⟩ | rfl)
        · exact ⟨e, hperm.mem_iff.mpr (List.mem_append_left _ he), hp⟩
        · exact ⟨_, hperm.mem_iff.mpr (List.mem_append_right _ (List.mem_singleton.mpr rfl)), hkey⟩
      · rintro ⟨e, he, hp⟩
        rcases List.mem_append.mp (hperm.mem_iff.mp he) with he | he
        · exact .inl ⟨e, he, hp⟩
        · rw [List.mem_singleton] at he
          subst he
          exact .inr (knd.inj x k' k hp hkey)
    have hlen : (addK ks k).length = ks.length + 1 := by unfold addK; rw [if_neg hk]; simp
    have hsz1 : es1.size = (addK ks k).length := by rw [hlen, ← hn, ← Array.length_toList, hperm.length_eq]; simp
    have hb1 : es1.size < scanBound := by rw [hsz1, hlen]; exact hroom
    have hnd : (addK ks k).Nodup := by
      unfold addK
      rw [if_neg hk, List.nodup_append]
      exact ⟨g.nd, by simp, fun a ha b hb => by rw [List.mem_singleton] at hb; subst hb; exact fun z => hk (z ▸ ha)⟩
    have tail : ∀ {gv : Bool → Sem Unit} (hgv : ∀ (b : Bool) (s₁ : Shared) (Q' : Unit → Shared → Prop), Q' () s₁ → wpAny (model prog w) A (gv b) Q' E s₁) {t2 : SetTable}, t2.fits es1.size = true → TOk t2 led → ∀ {R : Option Bool → Shared → Prop}, (∀ h', Heap.SameBut a s.heap h' → Good knd h' a (addK ks k) led → R (some true) { s with heap := h' }) →
        wpAny (model prog w) A (do
          storeSet a es1 t2
          if (!wd && t2.tooFull) = true then do
              gv (relayAll t2 es1 (SetTable.grown es1.size)).2.2
              storeSet a (relayAll t2 es1 (SetTable.grown es1.size)).1 (relayAll t2 es1 (SetTable.grown es1.size)).2.1
              pure (some true)
            else pure (some true)) R E s := by
      intro gv hgv t2 hf2 hT2 R hR
      refine wpAny_bind (wpAny_storeSet_of ho hd ?_ (fits_of_scanBound hb1))
      have ho1 := stored (es' := es1) (t' := t2) ho hd
      have sb1 := Heap.SameBut.update s.heap a (Obj.putSet es1 t2)
      split
      · have p2 := relayAll_perm t2 es1 (SetTable.grown es1.size)
        have f2 := relayAll_fits t2 es1 (SetTable.grown es1.size)
        have hT3 := hT2.relayAll es1 (SetTable.grown es1.size)
        generalize relayAll t2 es1 (SetTable.grown es1.size) = W at p2 f2 hT3 ⊢
        obtain ⟨es2, t3, gv2⟩ := W
        dsimp only at p2 f2 hT3 ⊢
        have sz2 : es2.size = es1.size := by rw [← Array.length_toList, p2.length_eq, Array.length_toList]
        refine wpAny_bind (hgv _ _ _ ?_)
        refine wpAny_bind (wpAny_storeSet_of ho1 rfl ?_ (fits_of_scanBound (by rw [sz2]; exact hb1)))
        have ho2 := stored (a := a) (es' := es2) (t' := t3) ho1 rfl
        refine wpAny_pure (hR _ (sb1.trans (Heap.SameBut.update _ a _)) ⟨⟨_, es2, _, t3, ho2, hex, rfl, hel1.perm p2, fun k' => (hmem1 k').trans ⟨fun ⟨e, he, q⟩ => ⟨e, p2.mem_iff.mpr he, q⟩, fun ⟨e, he, q⟩ => ⟨e, p2.mem_iff.mp he, q⟩⟩, by rw [sz2]; exact hsz1, f2, hT3⟩, hnd, by rw [hlen]; exact hroom⟩)
      · exact wpAny_pure (hR _ sb1 ⟨⟨_, es1, _, t2, ho1, hex, rfl, hel1, hmem1, hsz1, hf2, hT2⟩, hnd, by rw [hlen]; exact hroom⟩)
    refine wpAny_bind (gone _ ?_)
    split
    · refine wpAny_bind ?_
      rw [hashByValue_scannable 8 hsc]
      refine wpAny_pure ?_
      split
      · refine tail (fun b s₁ Q' q => by cases b <;> first | exact wpAny_pure q | exact wpAny_rule q) hfits hTL fun h' sb gg => ?_
        dsimp only
        exact wpAny_pure (h h' true sb gg)
      · refine tail (fun b s₁ Q' q => by cases b <;> first | exact wpAny_pure q | exact wpAny_rule q) (SetTable.fits_plain_off hfits) hTL.off fun h' sb gg => ?_
        dsimp only
        exact wpAny_pure (h h' true sb gg)
    · refine wpAny_bind (wpAny_pure ?_)
      simp only [↓reduceIte]
      refine tail (fun b s₁ Q' q => by cases b <;> first | exact wpAny_pure q | exact wpAny_rule q) hfits hTL fun h' sb gg => ?_
      dsimp only
      exact wpAny_pure (h h' true sb gg)
end
section
variable {prog : Program} {w : World} {K : Type} [DecidableEq K] {knd : KeyKind prog w K} {A : Around} {R : Result → Shared → Prop} {I : Addr} {fp wr : List Addr} {G : Array GenState → Array GenState → Prop} {n : Nat} {P : Nat → Value → Prop} {St : Nat → Shared → Prop} {led : Bool}
noncomputable def metK (val : Nat → K) (i : Nat) : List K := ((List.range i).map val).foldl addK []
theorem metK_succ (val : Nat → K) (i : Nat) : metK val (i + 1) = addK (metK val i) (val i) := by unfold metK; rw [List.range_succ, List.map_append, List.foldl_append]; rfl
theorem metK_len (val : Nat → K) : ∀ i, (metK val i).length ≤ i
  | 0 => by simp [metK]
  | i + 1 => by
    have := metK_len val i
    rw [metK_succ]; unfold addK; split
    · omega
    · simp; omega
theorem loop_ok (W : WalksS prog w A.in1 I fp wr G n P St) (S : Addr) (hSf : S ∉ fp) (val : Nat → K) (hval : ∀ i v, P i v → knd.is (val i) v = true ∧ v.scannable = true)
    (hpy : ∀ i v (A' : Around) (E' : Value → Shared → Prop) (s' : Shared) (Q' : Int → Shared → Prop), P i v → Q' (knd.hash (val i)) { s' with toks := s'.toks + 1 } → wpAny (model prog w) A' (pyHash v) Q' E' s') (hb : n + 1 < scanBound) :
    ∀ (m i : Nat) (s : Shared), n - i = m → i ≤ n → St i s → Good knd s.heap S (metK val i) led → (∀ s', Moved (S :: wr) G s s' → Good knd s'.heap S (metK val n) led → R (.ok (.ret .none)) s') →
      codeAny (model prog w) A (.builtin "set.update.loop" ⟨[.ref S, .ref I], []⟩) R s := by
  have nw : S ∉ wr := fun z => hSf (W.sub _ z)
  have up : ∀ b ∈ wr, b ∈ S :: wr := fun b hb => List.mem_cons_of_mem _ hb
  intro m
  induction m with
  | zero =>
    intro i s hm hi st g hR
    obtain rfl : i = n := by omega
    refine codeAny_builtin F.entry_set_update_loop ?_
    rw [Around.under_plainId F.plain_set_update_loop _]
    show wpAny _ A.in1 (pyNext (.ref I) >>= _) _ _ s
    refine wpAny_bind (W.done s _ _ st fun s' mv => ?_)
    exact wpAny_pure (hR s' (mv.mono up) (g.keeps fun o e => mv.heap S o nw e))
  | succ m ih =>
    intro i s hm hi st g hR
    have lt : i < n := by omega
    refine codeAny_builtin F.entry_set_update_loop ?_
    rw [Around.under_plainId F.plain_set_update_loop _]
    show wpAny _ A.in1 (pyNext (.ref I) >>= _) _ _ s
    refine wpAny_bind (W.item i s _ _ lt st fun v s' pv st' mv => ?_)
    have g' := g.keeps (h' := s'.heap) fun o e => mv.heap S o nw e
    obtain ⟨hk, hsc⟩ := hval i v pv
    show wpAny _ A.in1 (holding [v] (setAdd S v) >>= _) _ _ s'
    refine wpAny_bind (wpAny_holding ?_)
    unfold setAdd
    refine wpAny_holding (wpAny_bind (hpy i v _ _ _ _ pv ?_))
    have room : (metK val i).length + 1 < scanBound := by have := metK_len val i; omega
    refine add_ok (knd := knd) (s := { s' with toks := s'.toks + 1 }) hk hsc g' room fun h' b sb g2 => ?_
    rw [← metK_succ] at g2
    refine wpAny_pure ⟨plainId_quiet F.plain_set_update_loop _, ih (i + 1) _ (by omega) lt (W.frame _ s' _ _ st' (Nat.le_succ _) fun c hc o e => ?_) g2 fun s'' mv'' g'' => ?_⟩
    · rw [sb.2 c (fun z : c = S => hSf (z ▸ hc))]
      exact e
    · refine hR s'' (Moved.trans W.gtrans ((mv.mono up).then_heap (Nat.le_succ _) fun c o hc e => ?_) mv'') g''
      rw [sb.2 c (fun z : c = S => hc (by rw [z]; exact List.mem_cons_self))]
      exact e
end
end L2.SX
namespace L2.SX
open PySem PyProof.Rows
noncomputable def ledOf (w : World) : Bool := !w.params.followText "set-order"
noncomputable abbrev newSetO (w : World) : Obj := { cls := .type "set", dict := none, data := .set #[] 0 (.fresh 0 0 (ledOf w)) }
section
variable {prog : Program} {w : World} {A : Around} {E : Value → Shared → Prop} {s : Shared} {K : Type} [DecidableEq K] {knd : KeyKind prog w K}
theorem good_new (h : Heap) : Good knd (h.push (newSetO w)) h.objs.size [] (ledOf w) :=
  ⟨⟨_, #[], 0, _, Heap.get?_push_size _ rfl, ⟨rfl, rfl, rfl⟩, rfl, fun e he => by simp at he, fun k => by simp, rfl, rfl, .fresh _⟩, List.nodup_nil, by show 0 < scanBound; decide⟩
theorem new_one (v : Value) {Q1 : Value → Shared → Prop} (h : Q1 (.ref s.heap.objs.size) { s with heap := s.heap.push (newSetO w) }) : codeAny (model prog w) A (.call (.builtin "set.__new__") ⟨[.type "set", v], []⟩) (wants Q1 E) s := by
  refine codeAny_of_tree ?_
  show wpAny _ A.in1 (checkBuiltinCall "set.__new__" ⟨[.type "set", v], []⟩ >>= fun _ => again (.builtin "set.__new__" ⟨[.type "set", v], []⟩)) _ _ s
  refine wpAny_bind (wpAny_of_eq (F.newCall_set_1 v) (wpAny_pure ⟨plainId_quiet F.plain_set_new _, codeAny_builtin F.entry_set_new ?_⟩))
  rw [Around.under_plainId F.plain_set_new _]
  unfold Builtin.«set.__new__» Builtin.Frozenset.newClass
  have sub := sub_set_self
  obtain ⟨hp, gs, dr, tk, os⟩ := s
  dsimp only
  wp_walk
  refine wpAny_askSetting (wpAny_pure ?_)
  dsimp only [newObj]
  exact wpAny_bind (wpAny_alloc (wpAny_pure (wpAny_pure h)))
theorem set_of {l : Addr} {items : Array Value} {val : Nat → K} {Q : Value → Shared → Prop} (hh : A.handled = none) (hl : s.heap.IsList l items) (hval : ∀ i v, items[i]? = some v → knd.is (val i) v = true ∧ v.scannable = true)
    (hpy : ∀ i v (A' : Around) (E' : Value → Shared → Prop) (s' : Shared) (Q' : Int → Shared → Prop), items[i]? = some v → Q' (knd.hash (val i)) { s' with toks := s'.toks + 1 } → wpAny (model prog w) A' (pyHash v) Q' E' s') (hb : items.size + 1 < scanBound)
    (h : ∀ (h' : Heap) (tk : Nat), Good knd h' s.heap.objs.size (metK val items.size) (ledOf w) → (∀ b o, b < s.heap.objs.size → s.heap.get? b = some o → h'.get? b = some o) → Q (.ref s.heap.objs.size) { s with heap := h', toks := tk }) :
    wpAny (model prog w) A (call (.type "set") [.ref l]) Q E s := by
  obtain ⟨c, tl, hmro⟩ := F.called_set.mro
  have hmade := F.called_set.made
  have hsub := F.called_set.sub
  refine wpAny_call (codeAny_of_tree ?_)
  show wpAny _ _ (callAny (.type "set") ⟨[.ref l], []⟩) _ _ _
  refine wpAny_pure ⟨Code.quiet_builtin _ (by decide +kernel), codeAny_builtin F.entry_type_call ?_⟩
  rw [Around.under_plain (weight_type_call_type "set" [.ref l] []) rfl]
  have n1 := F.called_set.notType
  have n2 := F.called_set.canCreate
  have n3 := F.typeCall_set_1 (.ref l)
  repeat (any_goals (first | assumption | wp_step))
  refine codeAny_mono (new_one (.ref l) (E := E) (Q1 := fun ob s1 => ob = .ref s.heap.objs.size ∧ s1 = { s with heap := s.heap.push (newSetO w) }) ⟨rfl, rfl⟩) fun r s1 hr => ?_
  cases r with
  | error e => exact hr
  | ok fl =>
    cases fl with
    | ret ob =>
      obtain ⟨rfl, rfl⟩ := hr
      have hS : (s.heap.push (newSetO w)).get? s.heap.objs.size = some (newSetO w) := Heap.get?_push_size _ rfl
      have hT : Shared.TypeIs { s with heap := s.heap.push (newSetO w) } (.ref s.heap.objs.size) "set" := ⟨_, hS, rfl⟩
      have k1 := F.called_set.init.lookup
      have k2 := F.called_set.init.bind (.ref s.heap.objs.size)
      repeat (any_goals (first | assumption | wp_step))
      refine codeAny_mono (codeAny_call_builtin (R := wants (fun r s2 => r = .none ∧ ∃ h' tk, s2 = { s with heap := h', toks := tk } ∧ Good knd h' s.heap.objs.size (metK val items.size) (ledOf w) ∧ ∀ b o, b < s.heap.objs.size → s.heap.get? b = some o → h'.get? b = some o) E)
        F.called_set.init.plain F.entry_set_init (check_set_init_1 hT ?_)) fun r2 s2 hr2 => ?_
      · obtain ⟨ol, g0, c0, nl, d0⟩ := hl
        obtain ⟨ocl, odc, odt, osl⟩ := ol
        dsimp only at c0 d0
        subst c0 d0
        have g1 : (s.heap.push (newSetO w)).get? l = some { cls := .type "list", dict := odc, data := .seq items nl, slots := osl } := Heap.get?_push_of_some _ g0
        have s1 := F.sub_list_set
        have s2 := F.sub_list_frozenset
        have ne : (Value.type "list" == Value.type "dict") = false := by decide
        have L1 : (s.heap.push (newSetO w)).IsList l items := ⟨_, g1, rfl, nl, rfl⟩
        unfold Builtin.«set.__init__» noKeywords Builtin.Frozenset.updateFrom
        generalize hI : pyIter = PI
        wp_walk
        subst hI
        refine wpAny_pyIter_list L1 (wpAny_bind (wpAny_runValue ?_))
        have lt : l < s.heap.objs.size := Heap.lt_size g0
        have h3 : A.in1.in1.in1.handled = none := by simp [hh]
        have nI : l ≠ (s.heap.push (newSetO w)).objs.size := by
          rw [Heap.size_push]; exact Nat.ne_of_lt (Nat.lt_succ_of_lt lt)
        have nf : s.heap.objs.size ∉ [(s.heap.push (newSetO w)).objs.size, l] := by
          rw [Heap.size_push]
          intro z
          rcases List.mem_cons.mp z with z | z
          · exact absurd z (Nat.ne_of_lt (Nat.lt_succ_self _))
          · rw [List.mem_singleton] at z
            exact absurd z (Nat.ne_of_gt lt)
        refine loop_ok (knd := knd) (led := ledOf w) ((Walks.list h3 _ l nI items).toS) s.heap.objs.size nf val hval hpy hb (items.size - 0) 0 _ (by omega) (Nat.zero_le _) ⟨⟨_, Heap.get?_push_size _ rfl, rfl, rfl⟩, L1.push _⟩ ?g0 ?gR
        case g0 => exact (good_new (knd := knd) s.heap).keeps fun o e => Heap.get?_push_of_some _ e
        case gR =>
          intro s' mv g'
          obtain ⟨h', gs', dr', tk', os'⟩ := s'
          obtain rfl : gs' = s.gens := mv.gens
          obtain rfl : dr' = s.drawn := mv.drawn
          obtain rfl : os' = s.os := mv.os
          show wpAny _ _ _ _ _ _
          refine wpAny_pure ?_
          show wpAny _ _ (ret Value.none) _ _ _
          refine wpAny_pure ⟨rfl, h', tk', rfl, g', fun b o hb' e => ?_⟩
          refine mv.heap b o (fun z => ?_) (Heap.get?_push_of_some _ (Heap.get?_push_of_some _ e))
          rcases List.mem_cons.mp z with z | z
          · exact absurd z (Nat.ne_of_lt hb')
          · rw [List.mem_singleton, Heap.size_push] at z
            exact absurd z (Nat.ne_of_lt (Nat.lt_succ_of_lt hb'))
      · cases r2 with
        | error e => exact hr2
        | ok fl2 =>
          cases fl2 with
          | ret r =>
            obtain ⟨rfl, h', tk, rfl, g', kp⟩ := hr2
            repeat (any_goals (first | assumption | wp_step))
            exact h _ _ g' kp
          | _ => exact hr2.elim
    | _ => exact hr.elim
end
end L2.SX
namespace L2.SX
open PySem PyProof.Rows
theorem slot_next : Slot "set_iterator" "__next__" "set_iterator.__next__" :=
  .of (owner := "set_iterator") (n := "__next__") (by rw [typeLookup_type, builtinLookup_eq_fast]; kernel_rfl) (by decide +kernel) (by decide +kernel) (by decide +kernel) (by first | exact .inl (by decide +kernel) | exact .inr (by decide +kernel)) (by rw [isSubtype_type]; kernel_rfl)
theorem entry_next : entryFor table "set_iterator.__next__" = some Builtin.«set_iterator.__next__» := entryFor_of_fast (by kernel_rfl)
theorem args_next (v : Value) : argsOk "set_iterator.__next__" ⟨[v], []⟩ := by unfold argsOk; kernel_rfl
theorem entry_iter : entryFor table "set.__iter__" = some Builtin.«frozenset.__iter__» := entryFor_alias (id' := "frozenset.__iter__") (by kernel_rfl) rfl (by decide +kernel) (by kernel_rfl)
noncomputable abbrev itO (f0 : Value) (i : Nat) (a : Addr) (n ep : Nat) : Obj := { cls := .type "set_iterator", data := .fields #[f0, rawInt i, .ref a, rawInt n, rawInt ep] }
structure SetAt (h : Heap) (a : Addr) (es : Array (Int × Value)) (ep : Nat) (t : SetTable) : Prop where
  ex : ∃ o, h.get? a = some o ∧ o.cls = .type "set" ∧ o.data = .set es ep t
  fits : t.fits es.size = true
section
variable {prog : Program} {w : World} {A : Around} {E : Value → Shared → Prop} {s : Shared} {a I : Addr} {es : Array (Int × Value)} {ep i : Nat} {t : SetTable}
theorem SetAt.keeps {h h' : Heap} (g : SetAt h a es ep t) (k : ∀ o, h.get? a = some o → h'.get? a = some o) : SetAt h' a es ep t := by
  obtain ⟨o, ho, r⟩ := g.ex
  exact ⟨⟨o, k o ho, r⟩, g.fits⟩
theorem SetAt.state {Q : (Array (Int × Value) × Nat × SetTable) → Shared → Prop} (g : SetAt s.heap a es ep t) (h : Q (es, ep, t) s) : wpAny (model prog w) A (setState a) Q E s := by
  obtain ⟨o, ho, _, hd⟩ := g.ex
  exact wpAny_setState_of ho hd g.fits h
theorem SetAt.entries {Q : Array (Int × Value) → Shared → Prop} (g : SetAt s.heap a es ep t) (h : Q es s) : wpAny (model prog w) A (setEntries a) Q E s := by
  unfold setEntries
  exact wpAny_bind (g.state (wpAny_pure h))
theorem next_item {f0 : Nat} {x : Value} {nx : Nat} {Q : Option Value → Shared → Prop} (hI : s.heap.get? I = some (itO (rawInt f0) i a es.size ep)) (g : SetAt s.heap a es ep t)
    (hn : ∀ (A' : Around) (E' : Value → Shared → Prop) (Q' : Option (Value × Nat) → Shared → Prop), Q' (some (x, nx)) s → wpAny (model prog w) A' (setNext a f0 i ep) Q' E' s)
    (hQ : ∀ h', h'.get? I = some (itO (rawInt nx) (i + 1) a es.size ep) → Heap.SameBut I s.heap h' → Q (some x) { s with heap := h' }) : wpAny (model prog w) A (pyNext (.ref I)) Q E s := by
  have hT : s.TypeIs (.ref I) "set_iterator" := ⟨_, hI, rfl⟩
  unfold pyNext
  refine wpAny_bind (wpAny_attempt (wpAny_callSpecial?_slot (name := Str.ofString "__next__") hT slot_next (wpAny_call_entry slot_next hT entry_next ?_ (args_next _))))
  unfold Builtin.«set_iterator.__next__»
  generalize hSE : setEntries = SE
  generalize hSN : setNext = SN
  generalize hSF : setField = SF
  wp_walk
  subst hSE hSN hSF
  refine g.entries ?_
  dsimp only
  rw [if_neg (by simp)]
  show wpAny _ A.in1 (setNext a (f0 : Int).toNat (i : Int).toNat (ep : Int).toNat >>= _) _ _ s
  rw [Int.toNat_natCast, Int.toNat_natCast, Int.toNat_natCast]
  refine wpAny_bind (hn _ _ _ ?_)
  dsimp only
  refine wpAny_bind (wpAny_setField_rec hI (by simp) fun h1 g1 s1 => ?_)
  refine wpAny_bind (wpAny_setField_rec g1 (by simp) fun h2 g2 s2 => ?_)
  refine wpAny_pure ⟨x, rfl, wpAny_pure (hQ h2 ?_ (s1.trans s2))⟩
  rw [g2]
  simp [itO, rawInt]
theorem next_end {f0 : Nat} {Q : Option Value → Shared → Prop} (hh : A.handled = none) (hI : s.heap.get? I = some (itO (rawInt f0) i a es.size ep)) (g : SetAt s.heap a es ep t)
    (hn : ∀ (A' : Around) (E' : Value → Shared → Prop) (Q' : Option (Value × Nat) → Shared → Prop), Q' none s → wpAny (model prog w) A' (setNext a f0 i ep) Q' E' s)
    (hQ : ∀ h', Heap.ExtBut I s.heap h' → Q none { s with heap := h' }) : wpAny (model prog w) A (pyNext (.ref I)) Q E s := by
  have hT : s.TypeIs (.ref I) "set_iterator" := ⟨_, hI, rfl⟩
  unfold pyNext
  refine wpAny_bind (wpAny_attempt (wpAny_callSpecial?_slot (name := Str.ofString "__next__") hT slot_next (wpAny_call_entry slot_next hT entry_next ?_ (args_next _))))
  unfold Builtin.«set_iterator.__next__»
  generalize hSE : setEntries = SE
  generalize hSN : setNext = SN
  generalize hSF : setField = SF
  generalize hNE : newExc = NE
  generalize hRN : @raiseNew = RN
  wp_walk
  subst hSE hSN hSF hNE hRN
  refine g.entries ?_
  dsimp only
  rw [if_neg (by simp)]
  show wpAny _ A.in1 (setNext a (f0 : Int).toNat (i : Int).toNat (ep : Int).toNat >>= _) _ _ s
  rw [Int.toNat_natCast, Int.toNat_natCast, Int.toNat_natCast]
  refine wpAny_bind (hn _ _ _ ?_)
  dsimp only
  refine wpAny_bind (wpAny_setField_rec hI (by simp) fun h1 g1 s1 => ?_)
  refine wpAny_bind ?_
  dsimp only [newExc, newTuple]
  refine wpAny_bind (wpAny_newObj_type ?_ (by size_fits))
  refine wpAny_bind (m := firstArgMember _ _) (wpAny_of_eq (a := Value.none) (by first | rfl | (simp only [firstArgMember]; rfl)) ?_)
  refine wpAny_newObj_type ?_ (by size_fits)
  dsimp only [raiseNew]
  refine wpAny_bind (wpAny_handled ?_)
  rw [show A.in1.handled = none from hh]
  refine wpAny_bind (wpAny_pure (wpAny_throw ?_))
  refine wpAny_bind (wpAny_isInstance (T := "StopIteration") (b := true) ⟨_, Heap.get?_push_size _ rfl, rfl⟩ isSubtype_stop ?_)
  exact wpAny_pure (hQ _ ((s1.extBut.push _).push _))
end
end L2.SX
namespace L2.SX
open PySem PyProof.Rows
section
variable {prog : Program} {w : World} {A : Around} {E : Value → Shared → Prop} {s : Shared} {a I T : Addr} {es : Array (Int × Value)} {ep i : Nat} {t : SetTable}
noncomputable abbrev plO (pl : List Nat) : Obj := { cls := .type "tuple", data := .seq (pl.map fun (k : Nat) => rawInt k).toArray }
theorem next_itemD {pl : List Nat} {p : Nat} {hx : Int} {x : Value} {Q : Option Value → Shared → Prop} (hI : s.heap.get? I = some (itO (.ref T) i a es.size ep)) (hT : s.heap.get? T = some (plO pl)) (g : SetAt s.heap a es ep t) (hp : pl[i]? = some p) (he : es[p]? = some (hx, x))
    (hQ : ∀ h', h'.get? I = some (itO (.ref T) (i + 1) a es.size ep) → Heap.SameBut I s.heap h' → Q (some x) { s with heap := h' }) : wpAny (model prog w) A (pyNext (.ref I)) Q E s := by
  have hty : s.TypeIs (.ref I) "set_iterator" := ⟨_, hI, rfl⟩
  unfold pyNext
  refine wpAny_bind (wpAny_attempt (wpAny_callSpecial?_slot (name := Str.ofString "__next__") hty slot_next (wpAny_call_entry slot_next hty entry_next ?_ (args_next _))))
  unfold Builtin.«set_iterator.__next__»
  generalize hSE : setEntries = SE
  generalize hSN : setNextDrawn = SN
  generalize hSF : setField = SF
  generalize hSI : seqItems? = SI
  wp_walk
  subst hSE hSN hSF hSI
  refine g.entries ?_
  dsimp only
  rw [if_neg (by simp)]
  show wpAny _ A.in1 (seqItems? (.ref T) >>= _) _ _ s
  refine wpAny_bind (wpAny_seqItems hT rfl ?_)
  dsimp only
  have e1 : (pl.map fun (k : Nat) => rawInt k).toArray[(i : Int).toNat]? = some (rawInt p) := by
    rw [Int.toNat_natCast, List.getElem?_toArray, List.getElem?_map, hp]; rfl
  rw [e1]
  show wpAny _ A.in1 (setNextDrawn a (p : Int).toNat (ep : Int).toNat >>= _) _ _ s
  rw [Int.toNat_natCast, Int.toNat_natCast]
  unfold setNextDrawn
  refine wpAny_bind (wpAny_bind (g.state ?_))
  dsimp only
  rw [if_neg (by simp), he]
  refine wpAny_pure ?_
  refine wpAny_bind (wpAny_setField_rec hI (by simp) fun h1 g1 s1 => ?_)
  refine wpAny_pure ⟨x, rfl, wpAny_pure (hQ h1 ?_ s1)⟩
  rw [g1]
  simp [itO, rawInt]
theorem next_endD {pl : List Nat} {Q : Option Value → Shared → Prop} (hh : A.handled = none) (hI : s.heap.get? I = some (itO (.ref T) i a es.size ep)) (hT : s.heap.get? T = some (plO pl)) (g : SetAt s.heap a es ep t) (hp : pl[i]? = none)
    (hQ : ∀ h', Heap.ExtBut I s.heap h' → Q none { s with heap := h' }) : wpAny (model prog w) A (pyNext (.ref I)) Q E s := by
  have hty : s.TypeIs (.ref I) "set_iterator" := ⟨_, hI, rfl⟩
  unfold pyNext
  refine wpAny_bind (wpAny_attempt (wpAny_callSpecial?_slot (name := Str.ofString "__next__") hty slot_next (wpAny_call_entry slot_next hty entry_next ?_ (args_next _))))
  unfold Builtin.«set_iterator.__next__»
  generalize hSE : setEntries = SE
  generalize hSF : setField = SF
  generalize hSI : seqItems? = SI
  generalize hNE : newExc = NE
  generalize hRN : @raiseNew = RN
  wp_walk
  subst hSE hSF hSI hNE hRN
  refine g.entries ?_
  dsimp only
  rw [if_neg (by simp)]
  show wpAny _ A.in1 (seqItems? (.ref T) >>= _) _ _ s
  refine wpAny_bind (wpAny_seqItems hT rfl ?_)
  dsimp only
  have e1 : (pl.map fun (k : Nat) => rawInt k).toArray[(i : Int).toNat]? = none := by
    rw [Int.toNat_natCast, List.getElem?_toArray, List.getElem?_map, hp]; rfl
  rw [e1]
  dsimp only
  refine wpAny_bind (wpAny_setField_rec hI (by simp) fun h0 g0 s0 => ?_)
  refine wpAny_bind (wpAny_setField_rec g0 (by simp) fun h1 g1 s1 => ?_)
  refine wpAny_bind ?_
  dsimp only [newExc, newTuple]
  refine wpAny_bind (wpAny_newObj_type ?_ (by size_fits))
  refine wpAny_bind (m := firstArgMember _ _) (wpAny_of_eq (a := Value.none) (by first | rfl | (simp only [firstArgMember]; rfl)) ?_)
  refine wpAny_newObj_type ?_ (by size_fits)
  dsimp only [raiseNew]
  refine wpAny_bind (wpAny_handled ?_)
  rw [show A.in1.handled = none from hh]
  refine wpAny_bind (wpAny_pure (wpAny_throw ?_))
  refine wpAny_bind (wpAny_isInstance (T := "StopIteration") (b := true) ⟨_, Heap.get?_push_size _ rfl, rfl⟩ isSubtype_stop ?_)
  exact wpAny_pure (hQ _ (((s0.trans s1).extBut.push _).push _))
theorem go_perm {α : Type} (next : Nat → Nat) : ∀ (fuel k : Nat) (left : List α) (out : Array α), left.length = fuel → (pickOrder.go next fuel k left out).toList.Perm (out.toList ++ left)
  | 0, k, left, out, h => by
    have : left = [] := List.length_eq_zero_iff.mp h
    subst this
    simp [pickOrder.go]
  | fuel + 1, k, left, out, h => by
    unfold pickOrder.go
    have lt : next k % left.length < left.length := Nat.mod_lt _ (by omega)
    rw [List.getElem?_eq_getElem lt]
    dsimp only
    refine (go_perm next fuel (k + 1) _ _ (by rw [List.length_eraseIdx, if_pos lt]; omega)).trans ?_
    rw [Array.toList_push, List.append_assoc]
    refine List.Perm.append_left _ ?_
    show (left[next k % left.length] :: left.eraseIdx (next k % left.length)).Perm left
    generalize next k % left.length = m at lt
    rw [List.eraseIdx_eq_take_drop_succ]
    have e : left = left.take m ++ left[m] :: left.drop (m + 1) := by rw [List.getElem_cons_drop, List.take_append_drop]
    refine List.Perm.trans ?_ (List.Perm.of_eq e.symm)
    exact List.perm_middle.symm
theorem pick_perm {α : Type} (next : Nat → Nat) (xs : Array α) : (pickOrder next xs).toList.Perm xs.toList := by
  unfold pickOrder
  have := go_perm next xs.size 0 xs.toList #[] (by simp)
  simpa using this
theorem walkT (hb : w.params.followText "set-order" = true) {Q : Array (Int × Value) → Shared → Prop} (g : SetAt s.heap a es ep t) (h : Q (pickOrder (w.params.setOrder a ep) es) s) : wpAny (model prog w) A (setWalk a) Q E s := by
  unfold setWalk
  refine wpAny_bind (g.state ?_)
  dsimp only
  unfold setsByText
  refine wpAny_bind (wpAny_bind (wpAny_askSetting (wpAny_pure ?_)))
  show wpAny _ _ (if w.params.followText "set-order" = true then _ else _) _ _ s
  rw [if_pos hb]
  exact wpAny_bind (wpAny_askSetting (wpAny_pure h))
theorem nextT (hb : w.params.followText "set-order" = true) {f0 : Nat} {Q : Option (Value × Nat) → Shared → Prop} (g : SetAt s.heap a es ep t) (h : Q (((pickOrder (w.params.setOrder a ep) es)[i]?).map fun e => (e.2, f0)) s) : wpAny (model prog w) A (setNext a f0 i ep) Q E s := by
  unfold setNext
  refine wpAny_bind (g.state ?_)
  dsimp only
  refine wpAny_bind ?_
  unfold setsByText
  refine wpAny_bind (wpAny_askSetting (wpAny_pure ?_))
  show wpAny _ _ (if w.params.followText "set-order" = true then _ else _) _ _ s
  rw [if_pos hb, if_neg (by simp)]
  refine wpAny_bind ?_
  exact walkT hb g (wpAny_pure h)
theorem nextC (hb : w.params.followText "set-order" = false) (hnd : (!t.plain && decide (es.size > 1)) = false) (hl : t.led = true) {f0 : Nat} {Q : Option (Value × Nat) → Shared → Prop} (g : SetAt s.heap a es ep t)
    (h : Q (match es[SetTable.below t.place f0]?, t.place[SetTable.below t.place f0]? with | some (_, x), some j => some (x, j + 1) | _, _ => none) s) : wpAny (model prog w) A (setNext a f0 i ep) Q E s := by
  unfold setNext
  refine wpAny_bind (g.state ?_)
  dsimp only
  refine wpAny_bind ?_
  unfold setsByText
  refine wpAny_bind (wpAny_askSetting (wpAny_pure ?_))
  show wpAny _ _ (if w.params.followText "set-order" = true then _ else (if (!t.plain && decide (es.size > 1)) = true then _ else _)) _ _ s
  rw [hb, if_neg (by decide), hnd, if_neg (by decide)]
  show wpAny _ _ ((if (!t.led && !es.isEmpty) = true then unsupported "set:maker-not-led" else pure PUnit.unit) >>= fun _ => _) _ _ s
  rw [hl]
  rw [if_neg (by simp)]
  exact wpAny_bind (wpAny_pure (wpAny_pure h))
end
end L2.SX
namespace L2.SX
open PySem PyProof.Rows
theorem choose_ok {M : Model} {A : Around} {E : Value → Shared → Prop} {s : Shared} {src : Source} {n : Nat} {Q : Nat → Shared → Prop} (hn : n ≠ 0) (h : ∀ k, k < n → Q k { s with drawn := s.drawn.bump src }) : wpAny M A (choose src n) Q E s := fun Γ p hΓ => by
  unfold choose
  rw [Sem.wp_choose]
  exact ⟨hn, h _ (Nat.mod_lt _ (by omega))⟩
theorem draw_ok {α : Type} {M : Model} {A : Around} {E : Value → Shared → Prop} : ∀ (n : Nat) (xs : List α) (s : Shared) (Q : List α → Shared → Prop), xs.length = n → (∀ ys d', ys.Perm xs → Q ys { s with drawn := d' }) → wpAny M A (drawOrder n xs) Q E s
  | 0, xs, s, Q, hn, h => by
    have : xs = [] := List.length_eq_zero_iff.mp hn
    subst this
    unfold drawOrder
    exact wpAny_pure (h [] s.drawn .nil)
  | n + 1, [], s, Q, hn, h => by cases hn
  | n + 1, x :: xs, s, Q, hn, h => by
    unfold drawOrder
    refine wpAny_bind (choose_ok (by simp) fun k hk => ?_)
    rw [List.getElem?_eq_getElem hk]
    dsimp only
    refine wpAny_bind (draw_ok n _ _ _ (by rw [List.length_eraseIdx, if_pos hk]; omega) fun ys d' hp => wpAny_pure (h _ d' ?_))
    refine (hp.cons _).trans ?_
    generalize hL : x :: xs = left at hk ⊢
    rw [List.eraseIdx_eq_take_drop_succ]
    have e : left = left.take k ++ left[k] :: left.drop (k + 1) := by rw [List.getElem_cons_drop, List.take_append_drop]
    exact List.perm_middle.symm.trans (List.Perm.of_eq e.symm)
theorem slot_self : Slot "set_iterator" "__iter__" "set_iterator.__iter__" :=
  .of (owner := "set_iterator") (n := "__iter__") (by rw [typeLookup_type, builtinLookup_eq_fast]; kernel_rfl) (by decide +kernel) (by decide +kernel) (by decide +kernel) (by first | exact .inl (by decide +kernel) | exact .inr (by decide +kernel)) (by rw [isSubtype_type]; kernel_rfl)
theorem entry_self : entryFor table "set_iterator.__iter__" = some Builtin.«dict_keyiterator.__iter__» := entryFor_alias (id' := "dict_keyiterator.__iter__") (by kernel_rfl) rfl (by decide +kernel) (by kernel_rfl)
theorem args_self (v : Value) : argsOk "set_iterator.__iter__" ⟨[v], []⟩ := by unfold argsOk; kernel_rfl
theorem self_iter {prog : Program} {w : World} {A : Around} {E : Value → Shared → Prop} {s : Shared} {I : Addr} {Q : Value → Shared → Prop} (hty : s.TypeIs (.ref I) "set_iterator") (h : Q (.ref I) s) : wpAny (model prog w) A (pyIter (.ref I)) Q E s := by
  refine wpAny_pyIter_slot hty slot_self (wpAny_call_entry slot_self hty entry_self ?_ (args_self _))
  show wpAny _ _ (ret (.ref I)) _ _ s
  exact wpAny_pure ⟨_, rfl, "set_iterator", _, hty, slot_next.lookup, h⟩
section
variable {prog : Program} {w : World} {E : Value → Shared → Prop} {a I T : Addr} {es : Array (Int × Value)} {ep : Nat} {t : SetTable}
theorem walksT (hb : w.params.followText "set-order" = true) (hne : a ≠ I) {A : Around} (hh : A.handled = none) : Walks prog w A I [I, a] [I] es.size (fun i v => ((pickOrder (w.params.setOrder a ep) es).toList.map (·.2))[i]? = some v)
    (fun i h => h.get? I = some (itO (rawInt 0) i a es.size ep) ∧ SetAt h a es ep t) where
  sub := fun b hb => by simp at hb; simp [hb]
  frame := fun i h h' st kp => ⟨kp I (by simp) _ st.1, st.2.keeps fun o e => kp a (by simp) o e⟩
  item := fun i s Q E hi st hQ => by
    have hl : (pickOrder (w.params.setOrder a ep) es).size = es.size := by rw [← Array.length_toList, (pick_perm _ _).length_eq, Array.length_toList]
    have hi' : i < (pickOrder (w.params.setOrder a ep) es).size := by omega
    refine next_item st.1 st.2 (x := (pickOrder (w.params.setOrder a ep) es)[i].2) (nx := 0) (fun A' E' Q' q => nextT hb st.2 (by rw [Array.getElem?_eq_getElem hi']; exact q)) fun h' g1 s1 => ?_
    refine hQ _ h' s.toks ?_ ⟨g1, st.2.keeps fun o e => s1.extBut _ _ hne e⟩ fun b o hb e => s1.extBut b o (by simpa using hb) e
    rw [List.getElem?_map, Array.getElem?_toList, Array.getElem?_eq_getElem hi']
    rfl
  done := fun s Q E st hQ => by
    have hl : (pickOrder (w.params.setOrder a ep) es).size = es.size := by rw [← Array.length_toList, (pick_perm _ _).length_eq, Array.length_toList]
    refine next_end hh st.1 st.2 (fun A' E' Q' q => nextT hb st.2 (by rw [Array.getElem?_eq_none (by omega)]; exact q)) fun h' x => hQ h' s.toks fun b o hb e => x b o (by simpa using hb) e
  self := fun i s Q E st hQ => by
    have hty : s.TypeIs (.ref I) "set_iterator" := ⟨_, st.1, rfl⟩
    exact self_iter hty hQ
noncomputable def slotAt (t : SetTable) : Nat → Nat
  | 0 => 0
  | i + 1 => t.place.getD i 0 + 1
theorem below_slotAt {n : Nat} (hr : Rise t.place) (hn : t.place.size = n) : ∀ i, i ≤ n → SetTable.below t.place (slotAt t i) = i
  | 0, _ => below_zero _ hr
  | i + 1, h => by
    have lt : i < t.place.size := by omega
    show SetTable.below t.place (t.place.getD i 0 + 1) = i + 1
    have : t.place.getD i 0 = t.place[i] := by simp [Array.getD, lt]
    rw [this]
    exact below_next hr lt
theorem walksC (hb : w.params.followText "set-order" = false) (hnd : (!t.plain && decide (es.size > 1)) = false) (hl : t.led = true) (hr : Rise t.place) (hp : t.place.size = es.size) (hne : a ≠ I) {A : Around} (hh : A.handled = none) :
    Walks prog w A I [I, a] [I] es.size (fun i v => (es.toList.map (·.2))[i]? = some v) (fun i h => i ≤ es.size ∧ h.get? I = some (itO (rawInt (slotAt t i)) i a es.size ep) ∧ SetAt h a es ep t) where
  sub := fun b hb => by simp at hb; simp [hb]
  frame := fun i h h' st kp => ⟨st.1, kp I (by simp) _ st.2.1, st.2.2.keeps fun o e => kp a (by simp) o e⟩
  item := fun i s Q E hi st hQ => by
    have hi' : i < t.place.size := by omega
    have bl := below_slotAt hr hp i (by omega)
    refine next_item st.2.1 st.2.2 (x := es[i].2) (nx := slotAt t (i + 1)) (fun A' E' Q' q => nextC hb hnd hl st.2.2 (by
      rw [bl, Array.getElem?_eq_getElem hi, Array.getElem?_eq_getElem hi']
      have : slotAt t (i + 1) = t.place[i] + 1 := by show t.place.getD i 0 + 1 = _; simp [Array.getD, hi']
      rw [this] at q
      exact q)) fun h' g1 s1 => ?_
    refine hQ _ h' s.toks ?_ ⟨hi, g1, st.2.2.keeps fun o e => s1.extBut _ _ hne e⟩ fun b o hb e => s1.extBut b o (by simpa using hb) e
    rw [List.getElem?_map, Array.getElem?_toList, Array.getElem?_eq_getElem hi]
    rfl
  done := fun s Q E st hQ => by
    have bl := below_slotAt hr hp es.size (Nat.le_refl _)
    refine next_end hh st.2.1 st.2.2 (fun A' E' Q' q => nextC hb hnd hl st.2.2 (by
      rw [bl, Array.getElem?_eq_none (Nat.le_refl _)]
      exact q)) fun h' x => hQ h' s.toks fun b o hb e => x b o (by simpa using hb) e
  self := fun i s Q E st hQ => self_iter ⟨_, st.2.1, rfl⟩ hQ
theorem walksD {pl : List Nat} (hpl : pl.Perm (List.range es.size)) (hne : a ≠ I) (hTI : T ≠ I) {A : Around} (hh : A.handled = none) :
    Walks prog w A I [I, a, T] [I] es.size (fun i v => (pl.map fun k => (es.toList.map (·.2)).getD k .none)[i]? = some v) (fun i h => h.get? I = some (itO (.ref T) i a es.size ep) ∧ h.get? T = some (plO pl) ∧ SetAt h a es ep t) where
  sub := fun b hb => by simp at hb; simp [hb]
  frame := fun i h h' st kp => ⟨kp I (by simp) _ st.1, kp T (by simp) _ st.2.1, st.2.2.keeps fun o e => kp a (by simp) o e⟩
  item := fun i s Q E hi st hQ => by
    have hlen : pl.length = es.size := by rw [hpl.length_eq, List.length_range]
    have hi' : i < pl.length := by omega
    have hm : pl[i] ∈ List.range es.size := hpl.mem_iff.mp (List.getElem_mem hi')
    have hlt : pl[i] < es.size := List.mem_range.mp hm
    refine next_itemD (p := pl[i]) (hx := es[pl[i]].1) (x := es[pl[i]].2) st.1 st.2.1 st.2.2 (List.getElem?_eq_getElem hi') (Array.getElem?_eq_getElem hlt) fun h' g1 s1 => ?_
    refine hQ _ h' s.toks ?_ ⟨g1, s1.extBut _ _ hTI st.2.1, st.2.2.keeps fun o e => s1.extBut _ _ hne e⟩ fun b o hb e => s1.extBut b o (by simpa using hb) e
    rw [List.getElem?_map, List.getElem?_eq_getElem hi']
    simp [List.getD, hlt]
  done := fun s Q E st hQ => by
    have hlen : pl.length = es.size := by rw [hpl.length_eq, List.length_range]
    exact next_endD hh st.1 st.2.1 st.2.2 (List.getElem?_eq_none (by omega)) fun h' x => hQ h' s.toks fun b o hb e => x b o (by simpa using hb) e
  self := fun i s Q E st hQ => self_iter ⟨_, st.1, rfl⟩ hQ
theorem perm_drawn {α : Type} (xs : List α) (d : α) {pl : List Nat} (h : pl.Perm (List.range xs.length)) : (pl.map fun k => xs.getD k d).Perm xs := by
  refine (h.map _).trans (List.Perm.of_eq ?_)
  apply List.ext_getElem?
  intro i
  rw [List.getElem?_map]
  by_cases hi : i < xs.length
  · rw [List.getElem?_range hi, List.getElem?_eq_getElem hi]; simp [List.getD, hi]
  · rw [List.getElem?_eq_none (by simpa using hi), List.getElem?_eq_none (by omega)]; rfl
theorem iter_set {A : Around} {s : Shared} {Q : Value → Shared → Prop} (g : SetAt s.heap a es ep t) (hT : TOk t (ledOf w)) (few : es.size ≤ sizeLine)
    (h : ∀ (h' : Heap) (d' : Drawn) (I : Addr) (vs : List Value) (fp : List Addr) (St : Nat → Heap → Prop), vs.Perm (es.toList.map (·.2)) → (∀ b o, s.heap.get? b = some o → h'.get? b = some o) → s.heap.objs.size ≤ I → I ∈ fp → (∀ b ∈ fp, b = a ∨ s.heap.objs.size ≤ b) →
      (∀ A' : Around, A'.handled = none → Walks prog w A' I fp [I] es.size (fun i v => vs[i]? = some v) St) → St 0 h' → Q (.ref I) { s with heap := h', drawn := d' }) :
    wpAny (model prog w) A (pyIter (.ref a)) Q E s := by
  obtain ⟨o, ho, hc, hd⟩ := g.ex
  have hty : s.TypeIs (.ref a) "set" := ⟨o, ho, hc⟩
  have lt : a < s.heap.objs.size := Heap.lt_size ho
  have hpl : t.place.size = es.size := by
    have := g.fits
    simp only [SetTable.fits, Bool.and_eq_true, beq_iff_eq] at this
    exact this.1
  refine wpAny_pyIter_slot hty F.slot_set_iter (wpAny_call_entry F.slot_set_iter hty entry_iter ?_ (F.args_set_iter_1 _))
  unfold Builtin.«frozenset.__iter__»
  generalize hSD : setDrawn = SD
  generalize hSE : setEpoch = SE
  generalize hSZ : Builtin.Frozenset.sizeOf = SZ
  wp_walk
  subst hSD hSE hSZ
  unfold Builtin.Frozenset.sizeOf
  refine wpAny_bind (g.entries (wpAny_pure ?_))
  have fin : ∀ (f0 : Value) (s2 : Shared), SetAt s2.heap a es ep t → Q (.ref s2.heap.objs.size) { s2 with heap := s2.heap.push (itO f0 0 a es.size ep) } →
      wpAny (model prog w) A.in1 (setEpoch a >>= fun e => newFields "set_iterator" [f0, rawInt 0, Value.ref a, rawInt (es.size : Nat), rawInt (e : Nat)] >>= fun v => ret v) (fun fin s' => ∃ v, fin = Fin.done (Flow.ret v) ∧ ∃ T' r, s'.TypeIs v T' ∧ typeLookup (Value.type T') (Str.ofString "__next__") = pure (some r) ∧ Q v s') E s2 := by
    intro f0 s2 g2 q
    refine wpAny_bind ?_
    unfold setEpoch
    refine wpAny_bind (g2.state (wpAny_pure ?_))
    refine wpAny_bind ?_
    unfold newFields
    exact wpAny_newObj_type (wpAny_pure ⟨_, rfl, "set_iterator", _, ⟨_, Heap.get?_push_size _ rfl, rfl⟩, slot_next.lookup, q⟩) (by size_fits)
  have plain : ∀ (vs : List Value) (St : Nat → Heap → Prop), vs.Perm (es.toList.map (·.2)) → (∀ A' : Around, A'.handled = none → Walks prog w A' s.heap.objs.size [s.heap.objs.size, a] [s.heap.objs.size] es.size (fun i v => vs[i]? = some v) St) →
      St 0 (s.heap.push (itO (rawInt 0) 0 a es.size ep)) → Q (.ref s.heap.objs.size) { s with heap := s.heap.push (itO (rawInt 0) 0 a es.size ep) } := by
    intro vs St hp W st
    refine h _ s.drawn s.heap.objs.size vs [s.heap.objs.size, a] St hp (fun b o e => Heap.get?_push_of_some _ e) (Nat.le_refl _) (by simp) (fun b hb => ?_) W st
    rcases List.mem_cons.mp hb with z | z
    · exact .inr (by rw [z]; exact Nat.le_refl _)
    · exact .inl (List.mem_singleton.mp z)
  have hne : a ≠ s.heap.objs.size := Nat.ne_of_lt lt
  have g1 : SetAt (s.heap.push (itO (rawInt 0) 0 a es.size ep)) a es ep t := g.keeps fun o e => Heap.get?_push_of_some _ e
  refine wpAny_bind ?_
  unfold setDrawn
  refine wpAny_bind (g.state ?_)
  dsimp only
  unfold setsByText
  refine wpAny_bind (wpAny_bind (wpAny_askSetting (wpAny_pure (wpAny_pure ?_))))
  show wpAny _ _ (if (!w.params.followText "set-order" && (!t.plain && decide (es.size > 1))) = true then _ else _) _ _ s
  cases hbt : w.params.followText "set-order" with
  | true =>
    rw [if_neg (by simp)]
    refine wpAny_bind (wpAny_pure ?_)
    exact fin (rawInt 0) s g (plain _ _ ((pick_perm _ _).map _) (fun A' hA => walksT hbt hne hA) ⟨Heap.get?_push_size _ rfl, g1⟩)
  | false =>
    have hled : t.led = true := by rw [hT.led]; unfold ledOf; rw [hbt]; rfl
    cases hdr : (!t.plain && decide (es.size > 1)) with
    | false =>
      rw [if_neg (by simp)]
      refine wpAny_bind (wpAny_pure ?_)
      have hr : Rise t.place := by
        cases hp : t.plain with
        | true => exact hT.rise hp
        | false =>
          rw [hp] at hdr
          have : ¬ es.size > 1 := by simpa using hdr
          unfold Rise
          have hl : t.place.toList.length ≤ 1 := by rw [Array.length_toList]; omega
          match t.place.toList, hl with
          | [], _ => exact .nil
          | [x], _ => exact List.pairwise_singleton _ _
      exact fin (rawInt 0) s g (plain _ _ (.refl _) (fun A' hA => walksC hbt hdr hled hr hpl hne hA) ⟨Nat.zero_le _, Heap.get?_push_size _ rfl, g1⟩)
    | true =>
      rw [if_pos (by simp)]
      refine wpAny_bind (draw_ok es.size (List.range es.size) s _ (by simp) fun pl d' hpl' => ?_)
      refine wpAny_bind ?_
      unfold newTuple
      refine wpAny_newObj_type ?_ (by
        have h1 : pl.length = es.size := by rw [hpl'.length_eq, List.length_range]
        show (pl.map fun (k : Nat) => rawInt k).toArray.size ≤ sizeLine
        rw [List.size_toArray, List.length_map, h1]
        exact few)
      have g2 : SetAt (s.heap.push (plO pl)) a es ep t := g.keeps fun o e => Heap.get?_push_of_some _ e
      refine fin (.ref s.heap.objs.size) { s with heap := s.heap.push (plO pl), drawn := d' } g2 ?_
      have sz : (s.heap.push (plO pl)).objs.size = s.heap.objs.size + 1 := Heap.size_push ..
      have hp2 : (pl.map fun k => (es.toList.map (·.2)).getD k Value.none).Perm (es.toList.map (·.2)) := perm_drawn _ _ (by simpa using hpl')
      refine h _ d' (s.heap.push (plO pl)).objs.size _ [(s.heap.push (plO pl)).objs.size, a, s.heap.objs.size] _ hp2 (fun b o e => Heap.get?_push_of_some _ (Heap.get?_push_of_some _ e)) (by rw [sz]; exact Nat.le_succ _) (by simp) (fun b hb => ?_)
        (fun A' hA => walksD (ep := ep) (t := t) hpl' (by rw [sz]; exact Nat.ne_of_lt (Nat.lt_succ_of_lt lt)) (by rw [sz]; exact Nat.ne_of_lt (Nat.lt_succ_self _)) hA) ⟨Heap.get?_push_size _ rfl, Heap.get?_push_of_some _ (Heap.get?_push_size _ rfl), g2.keeps fun o e => Heap.get?_push_of_some _ e⟩
      rcases List.mem_cons.mp hb with z | z
      · exact .inr (by rw [z, sz]; exact Nat.le_succ _)
      · rcases List.mem_cons.mp z with z | z
        · exact .inl z
        · rw [List.mem_singleton] at z; exact .inr (by rw [z]; exact Nat.le_refl _)
end
end L2.SX
namespace L2.SX
open PySem PyProof.Rows
theorem set_len : typeLookup (.type "set") "__len__" = pure (some (.builtin "set.__len__")) := by rw [typeLookup_type, builtinLookup_eq_fast]; kernel_rfl
section
variable {prog : Program} {w : World} {E : Value → Shared → Prop} {a : Addr} {es : Array (Int × Value)} {ep : Nat} {t : SetTable}
theorem collect_set {A : Around} {s : Shared} {Q : List Value → Shared → Prop} (hh : A.handled = none) (g : SetAt s.heap a es ep t) (hT : TOk t (ledOf w)) (few : es.size ≤ sizeLine)
    (hQ : ∀ (h' : Heap) (d' : Drawn) (tk : Nat) (vs : List Value), vs.Perm (es.toList.map (·.2)) → (∀ b o, s.heap.get? b = some o → h'.get? b = some o) → s.heap.objs.size < h'.objs.size → Q vs { s with heap := h', drawn := d', toks := tk }) :
    wpAny (model prog w) A (collect (.ref a)) Q E s := by
  obtain ⟨o, ho, hc, _⟩ := g.ex
  have lt : a < s.heap.objs.size := Heap.lt_size ho
  unfold collect
  refine wpAny_bind (wpAny_runValue (codeAny_builtin F.entry_proto_collect ?_))
  rw [Around.under_plainId F.plain_proto_collect _]
  show wpAny _ A.in1 (newList [] >>= fun l => again (.builtin "list.__iadd__" ⟨[l, .ref a], []⟩)) _ _ s
  refine wpAny_bind (wpAny_newObj_type ?_)
  refine wpAny_pure ⟨plainId_quiet F.plain_list_iadd _, codeAny_builtin F.entry_list_iadd ?_⟩
  rw [Around.under_plainId F.plain_list_iadd _]
  have g1 : SetAt (s.heap.push { cls := .type "list", data := .seq ([] : List Value).toArray }) a es ep t := g.keeps fun o e => Heap.get?_push_of_some _ e
  have hS1 : (s.heap.push { cls := .type "list", data := .seq ([] : List Value).toArray }).get? s.heap.objs.size = some { cls := .type "list", data := .seq ([] : List Value).toArray } := Heap.get?_push_size _ rfl
  have ty1 : Shared.TypeIs { s with heap := s.heap.push { cls := .type "list", data := .seq ([] : List Value).toArray } } (.ref a) "set" := ⟨o, Heap.get?_push_of_some _ ho, hc⟩
  show wpAny _ A.in1 (Builtin.List.listExtendWith (.ref s.heap.objs.size) (.ref a) (.ref s.heap.objs.size)) _ _ _
  unfold Builtin.List.listExtendWith
  refine wpAny_bind (wpAny_typeOf ty1 ?_)
  have e1 : Builtin.List.listSameRef (.ref s.heap.objs.size) (.ref a) = false := by simp [Builtin.List.listSameRef, Nat.ne_of_gt lt]
  have e2 : (Value.type "set" == Value.type "list") = false := by decide
  have e3 : (Value.type "set" == Value.type "tuple") = false := by decide
  simp only [e1, e2, e3, Bool.or_false, Bool.false_eq_true, if_false]
  refine wpAny_bind (iter_set (w := w) g1 hT few fun h' d' I vs fp St hp kp hI hIf hfp W st => ?_)
  have ty2 : Shared.TypeIs { s with heap := h', drawn := d' } (.ref a) "set" := ⟨o, kp a o (Heap.get?_push_of_some _ ho), hc⟩
  refine wpAny_bind (wpAny_holding ?_)
  have hint : ∀ Q' : Bool → Shared → Prop, Q' false { s with heap := h', drawn := d' } → wpAny (model prog w) A.in1 (Builtin.List.listLengthHint (.ref a)) Q' E { s with heap := h', drawn := d' } := by
    intro Q' q
    unfold Builtin.List.listLengthHint
    refine wpAny_bind (wpAny_specialOf ty2 set_len ?_)
    generalize hid : ("set.__len__" : String) = i0
    wp_delta
    rw [show splitId i0 = some ("set", "__len__") from by rw [← hid]; decide +kernel]
    rw [← hid]
    refine wpAny_bind (wpAny_isInstance (T := "set") (b := true) ty2 sub_set_self ?_)
    refine wpAny_ite_split (fun z => absurd z (by decide)) fun _ => ?_
    refine wpAny_ite_split (fun _ => ?_) fun z => absurd (by decide +kernel) z
    exact wpAny_bind (wpAny_typeOf ty2 (wpAny_pure q))
  refine hint _ ?_
  have hSf : s.heap.objs.size ∉ fp := fun hm => by
    rcases hfp _ hm with z | z
    · exact absurd z (Nat.ne_of_gt lt)
    · rw [Heap.size_push] at z; exact absurd z (Nat.not_succ_le_self _)
  refine wpAny_ite_split (fun _ => ?_) fun z => absurd (by decide +kernel) z
  have hS2 := kp _ _ hS1
  refine wpAny_bind (wpAny_rule ?_)
  refine wpAny_bind ?_
  show wpAny _ A.in1 (updateSeq s.heap.objs.size (·.push .none) >>= fun _ => updateSeq s.heap.objs.size (·.pop)) _ _ _
  refine wpAny_bind (wpAny_updateSeq hS2 rfl ?_)
  have hS3 := Heap.get?_update_self (Obj.mapSeq (·.push Value.none)) hS2 rfl
  refine wpAny_updateSeq hS3 rfl ?_
  have hS4 := Heap.get?_update_self (Obj.mapSeq (·.pop)) hS3 rfl
  have oth : ∀ b o, b ≠ s.heap.objs.size → h'.get? b = some o → ((h'.update s.heap.objs.size (Obj.mapSeq (·.push Value.none))).update s.heap.objs.size (Obj.mapSeq (·.pop))).get? b = some o :=
    fun b o hb e => by rw [Heap.get?_update_other _ _ (Ne.symm hb), Heap.get?_update_other _ _ (Ne.symm hb)]; exact e
  have W1 := W A.in1 hh
  refine wpAny_pure ⟨plainId_quiet F.plain_extend_loop _, codeAny_extend_loopS W1.toS few _ hSf _ es.size 0 _ _ _ rfl (Nat.zero_le _)
    (W1.frame 0 _ _ st fun b hb o e => oth b o (fun z => hSf (z ▸ hb)) e) hS4 (ItemsOf.nil _) fun s' acc' c' hm hS' hacc => ?_⟩
  show wpAny _ A (load s.heap.objs.size >>= _) _ _ s'
  refine wpAny_bind (wpAny_load hS' (wpAny_pure ?_))
  have hv : acc'.toList = vs := by
    have hl : vs.length = es.size := by rw [hp.length_eq]; simp
    refine List.ext_getElem? fun i => ?_
    by_cases hi : i < es.size
    · have h1 : i < acc'.size := by rw [hacc.1]; exact hi
      have h2 := hacc.2 i _ (Array.getElem?_eq_getElem h1)
      rw [h2, Array.getElem?_toList, Array.getElem?_eq_getElem h1]
    · rw [List.getElem?_eq_none (by rw [Array.length_toList, hacc.1]; omega), List.getElem?_eq_none (by rw [hl]; omega)]
  show Q acc'.toList s'
  rw [hv, Moved.eq_with hm]
  refine hQ s'.heap d' s'.toks vs hp (fun b o e => ?_) (Heap.lt_size hS')
  have hb : b ≠ s.heap.objs.size := Nat.ne_of_lt (Heap.lt_size e)
  refine hm.heap b o (fun hmem => ?_) (oth b o hb (kp b o (Heap.get?_push_of_some _ e)))
  rcases List.mem_cons.mp hmem with z | z
  · exact hb z
  · rw [List.mem_singleton] at z
    rw [Heap.size_push] at hI
    have q := Heap.lt_size e
    rw [z] at q
    exact Nat.lt_irrefl _ (Nat.lt_of_lt_of_le (Nat.lt_succ_of_lt q) hI)
end
end L2.SX
namespace L2.SX
open PySem PyProof.Rows
theorem perm_of {α : Type} [DecidableEq α] : ∀ (ks qs : List α), ks.Nodup → (∀ k ∈ ks, k ∈ qs) → qs.length = ks.length → qs.Perm ks
  | [], [], _, _, _ => .refl _
  | k :: ks, qs, hn, hm, hl => by
    have h1 := List.perm_cons_erase (hm k (by simp))
    have hn' := List.nodup_cons.mp hn
    refine h1.trans (.cons k (perm_of ks _ hn'.2 (fun x hx => ?_) ?_))
    · exact (List.mem_erase_of_ne (fun z => by rw [z] at hx; exact hn'.1 hx)).mpr (hm x (by simp [hx]))
    · have := h1.length_eq; simp only [List.length_cons] at this hl; omega
section
variable {prog : Program} {w : World} {K : Type} [DecidableEq K] {knd : KeyKind prog w K}
inductive Keys (knd : KeyKind prog w K) : List Value → List K → Prop
  | nil : Keys knd [] []
  | cons {v k vs ks} : knd.is k v = true → Keys knd vs ks → Keys knd (v :: vs) (k :: ks)
theorem Keys.len {vs ks} (h : Keys knd vs ks) : ks.length = vs.length := by induction h <;> simp [*]
theorem Keys.mem {vs ks} (h : Keys knd vs ks) {v : Value} {k : K} (hv : v ∈ vs) (e : knd.is k v = true) : k ∈ ks := by
  induction h with
  | nil => cases hv
  | cons h1 _ ih =>
    rcases List.mem_cons.mp hv with z | z
    · subst z; rw [knd.inj _ _ _ e h1]; simp
    · exact List.mem_cons_of_mem _ (ih z)
theorem keys_ex : ∀ (es : List (Int × Value)), ElemsOf knd es → ∃ qs, Keys knd (es.map (·.2)) qs
  | [], _ => ⟨[], .nil⟩
  | e :: es, h => by
    obtain ⟨qs, hq⟩ := keys_ex es fun x hx => h x (List.mem_cons_of_mem _ hx)
    obtain ⟨⟨k, hk, _⟩, _⟩ := h e (by simp)
    exact ⟨k :: qs, .cons hk hq⟩
theorem Keys.perm {vs us : List Value} (hp : us.Perm vs) : ∀ {ks}, Keys knd vs ks → ∃ qs, Keys knd us qs ∧ qs.Perm ks := by
  induction hp with
  | nil => intro ks h; exact ⟨ks, h, .refl _⟩
  | cons v _ ih =>
    intro ks h
    cases h with
    | cons h1 h2 => obtain ⟨qs, a, b⟩ := ih h2; exact ⟨_ :: qs, .cons h1 a, .cons _ b⟩
  | swap x y l =>
    intro ks h
    cases h with
    | cons h1 h2 => cases h2 with
      | cons h3 h4 => exact ⟨_, .cons h3 (.cons h1 h4), .swap ..⟩
  | trans _ _ i1 i2 =>
    intro ks h
    obtain ⟨q1, a1, b1⟩ := i2 h
    obtain ⟨q2, a2, b2⟩ := i1 a1
    exact ⟨q2, a2, b2.trans b1⟩
theorem Good.keys {h : Heap} {a : Addr} {ks : List K} {led : Bool} (g : Good knd h a ks led) : ∃ es ep t, SetAt h a es ep t ∧ TOk t led ∧ es.size = ks.length ∧ ∀ vs, vs.Perm (es.toList.map (·.2)) → ∃ qs, Keys knd vs qs ∧ qs.Perm ks := by
  obtain ⟨o, es, ep, t, ho, hx, hd, hE, hm, hl, hf, hT⟩ := g.ex
  refine ⟨es, ep, t, ⟨⟨o, ho, hx.1, hd⟩, hf⟩, hT, hl, fun vs hp => ?_⟩
  obtain ⟨qs, hq⟩ := keys_ex es.toList hE
  have h1 : qs.Perm ks := perm_of ks qs g.nd (fun k hk => by
    obtain ⟨e, he, hi⟩ := (hm k).mp hk
    exact hq.mem (List.mem_map_of_mem he) hi) (by rw [hq.len, List.length_map, Array.length_toList, hl])
  obtain ⟨q2, a2, b2⟩ := Keys.perm hp.symm.symm hq
  exact ⟨q2, a2, b2.trans h1⟩
theorem keys_ints {vs : List Value} {ks : List Int} (h : Keys (intKind prog w) vs ks) : IntsAre vs ks := by
  induction h with
  | nil => exact .nil
  | cons h1 _ ih => obtain ⟨t, rfl⟩ := Value.isInt_shape h1; exact .cons _ t ih
theorem keys_strs {vs : List Value} {ks : List Str} (h : Keys (PySem.strKind prog w) vs ks) : StrsAre vs ks := by
  induction h with
  | nil => exact .nil
  | cons h1 _ ih => obtain ⟨t, rfl⟩ := Value.isStrOf_shape h1; exact .cons _ t ih
variable {A : Around} {E : Value → Shared → Prop} {s : Shared} {a : Addr} {es : Array (Int × Value)} {ep : Nat} {t : SetTable}
theorem sorted_set {Out : Array Value → Prop} {Q : Value → Shared → Prop} (hh : A.handled = none) (g : SetAt s.heap a es ep t) (hT : TOk t (ledOf w)) (few : es.size < 64)
    (hsort : ∀ (A' : Around) (E' : Value → Shared → Prop) (s' : Shared) (l : Addr) (vs : List Value) (n : Nat) (P : Fin → Shared → Prop), vs.Perm (es.toList.map (·.2)) → s'.heap.get? l = some (seqObj "list" vs.toArray n) →
      (∀ out, Out out → P (.done (.ret .none)) { s' with heap := sortedHeap s'.heap l vs out }) → wpAny (model prog w) A' (Builtin.«list.sort» ⟨[.ref l], []⟩) P E' s')
    (h : ∀ (h' : Heap) (d' : Drawn) (tk : Nat) (D : Addr) (out : Array Value) (e : Nat), (∀ b o, s.heap.get? b = some o → h'.get? b = some o) → s.heap.objs.size ≤ D → h'.get? D = some (seqObj "list" out e) → Out out → Q (.ref D) { s with heap := h', drawn := d', toks := tk }) :
    wpAny (model prog w) A (call (.builtin "sorted") [.ref a]) Q E s := by
  have big : (64 : Nat) ≤ sizeLine := by decide
  refine Calls.call_function_entry kind_sorted plain_sorted entry_sorted (args_sorted1 _) ?_
  unfold Builtin.«sorted»
  refine wpAny_bind (m := checkCount "sorted" 1 1 _) (wpAny_pure ?_)
  refine wpAny_bind (collect_set hh g hT (Nat.le_trans (Nat.le_of_lt few) big) fun h1 d1 tk vs hp kp hlt => ?_)
  have hl : vs.length = es.size := by rw [hp.length_eq]; simp
  refine wpAny_bind (wpAny_newList ?_ (by rw [hl]; exact Nat.le_trans (Nat.le_of_lt few) big))
  have hoL : (h1.push (seqObj "list" vs.toArray 0)).get? h1.objs.size = some (seqObj "list" vs.toArray 0) := Heap.get?_push_size _ rfl
  refine wpAny_bind (wpAny_holding (wpAny_call_entry slot_list_sort ⟨_, hoL, rfl⟩ entry_list_sort (hsort _ _ _ _ vs 0 _ hp hoL fun out ho => ⟨_, rfl, ?_⟩) (args_list_sort _)))
  obtain ⟨e, he⟩ := sortedHeap_at (out := out) hoL
  refine wpAny_pure ⟨_, rfl, h _ d1 tk h1.objs.size out e (fun b o g => ?_) (Nat.le_of_lt hlt) he ho⟩
  have hb : b < h1.objs.size := Heap.lt_size (kp b o g)
  rw [sortedHeap_old (Nat.ne_of_lt hb) (by rw [Heap.size_push]; exact Nat.lt_succ_of_lt hb), Heap.get?_push_of_some _ (kp b o g)]
theorem sorted_setI {ks : List Int} {Q : Value → Shared → Prop} (hh : A.handled = none) (g : Good (intKind prog w) s.heap a ks (ledOf w)) (few : ks.length < 64)
    (h : ∀ (h' : Heap) (d' : Drawn) (tk : Nat) (D : Addr) (out : Array Value) (e : Nat), (∀ b o, s.heap.get? b = some o → h'.get? b = some o) → s.heap.objs.size ≤ D → h'.get? D = some (seqObj "list" out e) → IntsAre out.toList (L3.sortI ks) → Q (.ref D) { s with heap := h', drawn := d', toks := tk }) :
    wpAny (model prog w) A (call (.builtin "sorted") [.ref a]) Q E s := by
  obtain ⟨es, ep, t, g1, hT, hl, hv⟩ := g.keys
  refine sorted_set (Out := fun out => IntsAre out.toList (L3.sortI ks)) hh g1 hT (by rw [hl]; exact few) (fun A' E' s' l vs n P hp ho q => ?_) h
  obtain ⟨qs, hk, hq⟩ := hv vs hp
  refine list_sort_tree ho (keys_ints hk) (by rw [hp.length_eq, List.length_map, Array.length_toList, hl]; exact few) fun out ns' h1 h2 h3 => q out ?_
  rw [← L3.sortI_eq (h2.trans hq) h3]
  exact h1
end
end L2.SX
namespace L2.L3
open PySem PySem.Spec PyProof.Rows
noncomputable def EndO (X : Cx) (H0 G₀ G : Hp) (ρ : List Ent) (H : Hp) (Q : Option Int → Hp → Prop) : Re (Option Int) → Prop
  | .ok b => ∀ G' H', Grow G H G' H' → Q b H'
  | .ex c => XcOk X H0 G₀ G ρ c
noncomputable def rO (X : Cx) (f : OF) : TO := fun σ H Q => ∃ ρ r H0 G₀ G, f ρ = some r ∧ RepS X.K H0 G₀ G H σ ρ ∧ EndO X H0 G₀ G ρ H Q r
structure DO (X : Cx) (e : Option Expr) (f : OF) : Prop where
  run : PO X e (rO X f)
section
variable {X : Cx} {H0 G₀ G G1 H H1 : Hp} {ρ : List Ent} {σ : St} {a b c d e : Expr} {lo hi : Option Expr} {pos p p2 pos2 : Pos} {fa fb fc fd : EF} {fl fh : OF}
theorem bO {fa : OF} {β : Type} {k : Option Int → Mm β} {r : Re β} (R : RepS X.K H0 G₀ G H σ ρ) (e : bnd (fa ρ) k = some r) {T : Option Int → Hp → Prop} (hx : ∀ c, r = .ex c → XcOk X H0 G₀ G ρ c)
    (h : ∀ x G1 H1, Grow G H G1 H1 → RepS X.K H0 G₀ G1 H1 σ ρ → k x = some r → T x H1) : rO X fa σ H T := by
  rcases bnd_some e with ⟨x, e1, e2⟩ | ⟨c, e1, e2⟩
  · exact ⟨ρ, _, H0, G₀, G, e1, R, fun G1 H1 g1 => h x G1 H1 g1 (R.more g1) e2⟩
  · exact ⟨ρ, _, H0, G₀, G, e1, R, hx c e2⟩
theorem dO_none : DO X none oNone := ⟨fun pins s σ H Q I ⟨ρ, r, H0, G₀, G, e, R, q⟩ => by
  cases (Option.some.inj e)
  exact po_none pins s σ H Q I (q G H (.refl R.sub))⟩
theorem dO_some (ha : DE X a fa) : DO X (some a) (oSome fa) := ⟨fun pins s σ H Q I ⟨ρ, r, H0, G₀, G, e, R, q⟩ => by
  refine po_some ha.run pins s σ H Q I (bE R e (fun c z => by subst z; exact q) fun x v G1 H1 g1 R1 rv e1 => ?_)
  obtain ⟨k, ek, rfl⟩ := lft_is e1
  cases x <;> simp only [intD, Option.map] at ek <;> cases ek
  cases rv
  exact ⟨_, rfl, q G1 H1 g1⟩⟩
theorem de_sl (ha : DE X a fa) (hl : DO X lo fl) (hh : DO X hi fh) : DE X (.Subscript a (.Slice lo hi none p2) pos) (slE fa fl fh) := ⟨fun pins s σ H Q I ⟨ρ, r, H0, G₀, G, e, R, q⟩ =>
  pe_slice (sl_list.or sl_tup) ha.run hl.run hh.run pins s σ H Q I (bE R e q.x fun x v G1 H1 g1 R1 rv e1 => bO R1 e1 (q.more g1).x fun l G2 H2 g2 R2 e2 => bO R2 e2 ((q.more g1).more g2).x fun h G3 H3 g3 R3 e3 => by
    obtain ⟨d, ed, rfl⟩ := lft_is e3
    have g23 := g2.trans g3
    unfold slD at ed
    split at ed
    · cases (Option.some.inj ed)
      cases rv with
      | list hq r =>
        refine .inl ⟨_, _, rfl, (g23.gg.trans g23.sub).seq hq, fun l hl => q _ _ _ ((g1.trans g23).trans (.put g23.sub hl)) ?_⟩
        exact .list (.of upd_same) (cutD_rep (r.mono (g23.gg.trans (same_upd (g23.sub.free hl)))) _ _)
    · split at ed
      · cases ed
      · rename_i hw
        cases (Option.some.inj ed)
        cases rv with
        | tuple hq r =>
          refine .inr ⟨_, _, rfl, seqT (g23.gg.trans g23.sub) hq, by rw [r.length]; exact hw, fun l hl => q _ _ _ ((g1.trans g23).trans (.put g23.sub hl)) ?_⟩
          exact .tuple (.of upd_same) (cutD_rep (r.mono (g23.gg.trans (same_upd (g23.sub.free hl)))) _ _)
    · cases ed)⟩
theorem Inv.draws {pins : List (Addr × Obj)} {s : Shared} {d' : Drawn} (I : Inv X pins σ H s) : Inv X pins σ H { s with drawn := d' } := ⟨I.ok, I.os, I.bare, I.base, I.loc, I.cell, I.free, I.freeC, I.pin, I.hok, I.len⟩
noncomputable def tSset (K : PySem.W.Frag) (t : TA) : TE := fun σ H Q => t σ H fun xs H1 => (∃ a ns, xs = [.ref a] ∧ SqL K H1 a (ns.map V.int) ∧ ns.length < 64 ∧ ∀ l, H1 l = none → Q (.ref l) (upd H1 l (.lst ((sortI (dedupI ns)).map V.int)))) ∨
  ∃ a ns, xs = [.ref a] ∧ SqL K H1 a (ns.map V.str) ∧ ns.length < 64 ∧ ∀ l, H1 l = none → Q (.ref l) (upd H1 l (.lst ((sortS (dedupS ns)).map V.str)))
theorem dedup_metG {α : Type} [DecidableEq α] (d : α) (ns : List α) : SX.metK (fun i => ns.getD i d) ns.length = ns.foldl SX.addK [] := by
  unfold SX.metK
  have : (List.range ns.length).map (fun i => ns.getD i d) = ns := by
    refine List.ext_getElem? fun i => ?_
    rw [List.getElem?_map]
    by_cases h : i < ns.length
    · rw [List.getElem?_range h, List.getElem?_eq_getElem h]; simp [h]
    · rw [List.getElem?_eq_none (by simp; omega), List.getElem?_eq_none (by omega)]; rfl
  rw [this]
theorem dedup_met (ns : List Int) : SX.metK (fun i => ns.getD i 0) ns.length = dedupI ns := dedup_metG 0 ns
theorem dedup_metS (ns : List Str) : SX.metK (fun i => ns.getD i "") ns.length = dedupS ns := dedup_metG ("" : Str) ns
theorem ints_at {vs : List Value} {ns : List Int} (h : IntsAre vs ns) : ∀ (i : Nat) (v : Value), vs[i]? = some v → ∃ t : Tok, v = Value.int (ns.getD i 0) t := by
  induction h with
  | nil => intro i v e; simp at e
  | cons n t _ ih =>
    intro i v e
    cases i with
    | zero => simp at e; exact ⟨t, by simp [← e]⟩
    | succ i => simpa using ih i v (by simpa using e)
theorem strs_at {vs : List Value} {ns : List Str} (h : StrsAre vs ns) : ∀ (i : Nat) (v : Value), vs[i]? = some v → ∃ t : Tok, v = Value.str (ns.getD i "") t := by
  induction h with
  | nil => intro i v e; simp at e
  | cons n t _ ih =>
    intro i v e
    cases i with
    | zero => simp at e; exact ⟨t, by simp [← e]⟩
    | succ i => simpa using ih i v (by simpa using e)
theorem strsAre_of {ns : List Str} : ∀ {us : List Value}, Vals (ns.map V.str) us → StrsAre us ns := by
  induction ns with
  | nil => intro us r; cases r; exact .nil
  | cons n ns ih => intro us r; cases r with | cons r1 r2 => obtain ⟨t, rfl⟩ := r1; exact .cons n t (ih r2)
theorem vals_strs : ∀ {vs : List Value} {ns : List Str}, StrsAre vs ns → Vals (ns.map V.str) vs
  | _, _, .nil => .nil
  | _, _, .cons n t h => .cons ⟨t, rfl⟩ (vals_strs h)
theorem repAll_strsG {K : PySem.W.Frag} {G : Hp} : ∀ ns : List Str, RepAll K G (ns.map V.str) (ns.map .str)
  | [] => .nil
  | _ :: r => .cons (.str _) (repAll_strsG r)
theorem strsAre_len {vs : List Value} {ns : List Str} (h : StrsAre vs ns) : vs.length = ns.length := by induction h <;> simp [*]
theorem leStr_trans {a b c : Str} (h1 : leStr a b = true) (h2 : leStr b c = true) : leStr a c = true := by
  unfold leStr at *
  simp only [Bool.not_eq_true', decide_eq_false_iff_not, List.not_lt] at *
  exact List.le_trans h1 h2
theorem leStr_total (a b : Str) : (leStr a b || leStr b a) = true := by
  unfold leStr
  simp only [Bool.or_eq_true, Bool.not_eq_true', decide_eq_false_iff_not, List.not_lt]
  exact List.le_total _ _
theorem leStr_anti {a b : Str} (h1 : leStr a b = true) (h2 : leStr b a = true) : a = b := by
  unfold leStr at *
  simp only [Bool.not_eq_true', decide_eq_false_iff_not, List.not_lt] at *
  have e := List.le_antisymm h1 h2
  cases a; cases b
  congr 1
  exact Array.toList_inj.mp e
theorem sortS_perm (ns : List Str) : (sortS ns).Perm ns := List.mergeSort_perm _ _
theorem sortS_sorted (ns : List Str) : (sortS ns).Pairwise (fun a b => leStr a b = true) := List.pairwise_mergeSort (le := leStr) (fun a b c h1 h2 => leStr_trans h1 h2) leStr_total ns
theorem rising_pw : ∀ (l : List Str) (p : Str), risingS p l = true → (p :: l).Pairwise (fun a b => leStr a b = true)
  | [], p, _ => List.pairwise_singleton _ _
  | x :: r, p, h => by
    have h' : (!ltCps x.cps.toList p.cps.toList && risingS x r) = true := h
    rw [Bool.and_eq_true] at h'
    have h1 : leStr p x = true := by unfold leStr; rw [← ltCps_eq]; exact h'.1
    have ih := rising_pw r x h'.2
    refine List.pairwise_cons.mpr ⟨fun y hy => ?_, ih⟩
    rcases List.mem_cons.mp hy with z | z
    · rw [z]; exact h1
    · exact leStr_trans h1 ((List.pairwise_cons.mp ih).1 y z)
theorem sorted_pw (l : List Str) (h : sortedS l = true) : l.Pairwise (fun a b => leStr a b = true) := by
  cases l with
  | nil => exact .nil
  | cons x r => exact rising_pw r x h
theorem same_of_pw : ∀ {a b : List Str}, a.Perm b → a.Pairwise (fun a b => leStr a b = true) → b.Pairwise (fun a b => leStr a b = true) → a = b
  | [], b, hp, _, _ => by rw [List.nil_perm.mp hp]
  | x :: a, b, hp, ha, hb => by
    match b, hp, hb with
    | [], hp, _ => exact absurd hp.length_eq (by simp)
    | y :: b, hp, hb =>
      have h1 := List.pairwise_cons.mp ha
      have h2 := List.pairwise_cons.mp hb
      have e : x = y := by
        rcases List.mem_cons.mp (hp.mem_iff.mp (List.mem_cons_self (a := x) (l := a))) with z | z
        · exact z
        · rcases List.mem_cons.mp (hp.mem_iff.mpr (List.mem_cons_self (a := y) (l := b))) with q | q
          · exact q.symm
          · exact leStr_anti (h1.1 y q) (h2.1 x z)
      subst e
      rw [same_of_pw (List.Perm.cons_inv hp) h1.2 h2.2]
theorem sortS_eq {ns ms : List Str} (hp : ms.Perm ns) (hs : sortedS ms = true) : ms = sortS ns := same_of_pw (hp.trans (sortS_perm ns).symm) (sorted_pw ms hs) (sortS_sorted ns)
theorem sorted_setS {prog : Program} {w : World} {A : Around} {E : Value → Shared → Prop} {s : Shared} {a : Addr} {ks : List Str} {Q : Value → Shared → Prop} (hh : A.handled = none) (g : SX.Good (PySem.strKind prog w) s.heap a ks (SX.ledOf w)) (few : ks.length < 64)
    (h : ∀ (h' : Heap) (d' : Drawn) (tk : Nat) (D : Addr) (out : Array Value) (e : Nat), (∀ b o, s.heap.get? b = some o → h'.get? b = some o) → s.heap.objs.size ≤ D → h'.get? D = some (seqObj "list" out e) → StrsAre out.toList (sortS ks) → Q (.ref D) { s with heap := h', drawn := d', toks := tk }) :
    wpAny (model prog w) A (call (.builtin "sorted") [.ref a]) Q E s := by
  obtain ⟨es, ep, t, g1, hT, hl, hv⟩ := g.keys
  refine SX.sorted_set (Out := fun out => StrsAre out.toList (sortS ks)) hh g1 hT (by rw [hl]; exact few) (fun A' E' s' l vs n P hp ho q => ?_) h
  obtain ⟨qs, hk, hq⟩ := hv vs hp
  have hS := SX.keys_strs hk
  refine list_sort_treeK strKind_oneLt ho hS.keysOf (fun v₁ v₂ rest e => keyKind_strs (by rw [← e]; exact hS)) (by rw [hp.length_eq, List.length_map, Array.length_toList, hl]; exact few) fun st' hp' hs' => q _ ?_
  obtain ⟨ss', h1, h2, h3⟩ := sorted_out_str hS hp' hs'
  rw [← sortS_eq (h2.trans hq) h3]
  exact h1
theorem pe_sset {t : TA} (hc : X.calm = true) (h1 : Gl X "sorted") (m1 : X.mg "sorted" = none) (h2 : Gl X "set") (m2 : X.mg "set" = none) (b2 : bootBuiltins "set" = some (.type "set")) (ha : PA X [e] t) (he : starEach [e] X.env = (false, eval e X.env) :: starEach [] X.env)
    (he2 : starEach [.Call (.Name "set" p2) [e] [] pos2] X.env = (false, eval (.Call (.Name "set" p2) [e] [] pos2) X.env) :: starEach [] X.env) (hpl : ∀ q, (backTo q (starEach [] X.env)).any (·.1) = false) (hn : ∀ q, backTo q (starEach [] X.env) = []) :
    PE X (.Call (.Name "sorted" p) [.Call (.Name "set" p2) [e] [] pos2] [] pos) (tSset X.K t) := by
  intro pins s σ H Q I h
  refine wpAny_Call_Name_kw (ld_blt I h1 m1 boot_sorted ?_)
  refine callWith_builtin1 ?_ he2 (hpl _)
  rw [he2]
  show wpAny _ _ (spliced ((false, eval (.Call (.Name "set" p2) [e] [] pos2) X.env) :: backTo pos (starEach [] X.env))) _ _ s
  rw [hn]
  refine Calls.spliced_cons (wpAny_Call_Name_kw (ld_blt I h2 m2 b2 ?_))
  refine callWith_type1 (thn (ha pos2 pins s σ H _ I h) fun us s1 ⟨vs, H1, I1, r1, qq⟩ => ?_) he (hpl _)
  rcases qq with ⟨a, ns, e1, hq, h64, q⟩ | ⟨a, ns, e1, hq, h64, q⟩
  · subst e1
    obtain ⟨u, rfl, rx⟩ := vals1 r1
    cases rx
    obtain ⟨its, rv, pl, hz⟩ := I1.list hq
    have hi := intsAre_of rv
    have hd := I1.ok.hd hc
    have hl : its.length = ns.length := hi.length
    refine SX.set_of (knd := intKind X.prog X.w) (val := fun i => ns.getD i 0) hd pl.isList (fun i v e => ?_) (fun i v A' E' s' Q' e q' => ?_) ?_ fun h' tk g kp => ?_
    · obtain ⟨t, rfl⟩ := ints_at hi i v (by simpa using e)
      exact ⟨by simp [intKind, Value.isInt], rfl⟩
    · obtain ⟨t, rfl⟩ := ints_at hi i v (by simpa using e)
      exact (intKind X.prog X.w).pyHash (k := ns.getD i 0) (by simp [intKind, Value.isInt]) q'
    · have hsz : its.toArray.size = ns.length := by rw [List.size_toArray, hl]
      rw [hsz]; exact Nat.lt_of_le_of_lt h64 (by decide)
    · have hsz : its.toArray.size = ns.length := by rw [List.size_toArray, hl]
      rw [hsz, dedup_met] at g
      refine Calls.spliced_nil (SX.sorted_setI hd g ?_ fun h2 d2 tk2 D out ep k2 hs2 ho hout => ?_)
      · rw [← dedup_met]; exact Nat.lt_of_le_of_lt (SX.metK_len _ _) h64
      · have kk : ∀ b o, s1.heap.get? b = some o → h2.get? b = some o := fun b o z => k2 b o (kp b o (Heap.lt_size z) z)
        obtain ⟨so, _, _, _, hso, _⟩ := g.ex
        have lt : s1.heap.objs.size ≤ D := Nat.le_trans (Nat.le_of_lt (Heap.lt_size hso)) hs2
        have hf : H1 D = none := I1.hok.fresh lt
        refine ⟨.ref D, _, Inv.draws (I1.laid (t' := tk2) (a := D) (o := .lst ((sortI (dedupI ns)).map V.int)) kk lt ⟨?_, out.toList, ep, vals_ints hout, ?_⟩), rfl, q _ hf⟩
        · rw [List.length_map, (sortI_perm _).length_eq, ← dedup_met]
          exact Nat.le_trans (SX.metK_len _ _) (Nat.le_of_lt (small1000 (by omega)))
        · rw [ho]
  · subst e1
    obtain ⟨u, rfl, rx⟩ := vals1 r1
    cases rx
    obtain ⟨its, rv, pl, hz⟩ := I1.list hq
    have hi := strsAre_of rv
    have hd := I1.ok.hd hc
    have hl : its.length = ns.length := strsAre_len hi
    refine SX.set_of (knd := PySem.strKind X.prog X.w) (val := fun i => ns.getD i "") hd pl.isList (fun i v e => ?_) (fun i v A' E' s' Q' e q' => ?_) ?_ fun h' tk g kp => ?_
    · obtain ⟨t, rfl⟩ := strs_at hi i v (by simpa using e)
      exact ⟨by simp [PySem.strKind, Value.isStrOf], rfl⟩
    · obtain ⟨t, rfl⟩ := strs_at hi i v (by simpa using e)
      exact (PySem.strKind X.prog X.w).pyHash (k := ns.getD i "") (by simp [PySem.strKind, Value.isStrOf]) q'
    · have hsz : its.toArray.size = ns.length := by rw [List.size_toArray, hl]
      rw [hsz]; exact Nat.lt_of_le_of_lt h64 (by decide)
    · have hsz : its.toArray.size = ns.length := by rw [List.size_toArray, hl]
      rw [hsz, dedup_metS] at g
      refine Calls.spliced_nil (sorted_setS hd g ?_ fun h2 d2 tk2 D out ep k2 hs2 ho hout => ?_)
      · rw [← dedup_metS]; exact Nat.lt_of_le_of_lt (SX.metK_len _ _) h64
      · have kk : ∀ b o, s1.heap.get? b = some o → h2.get? b = some o := fun b o z => k2 b o (kp b o (Heap.lt_size z) z)
        obtain ⟨so, _, _, _, hso, _⟩ := g.ex
        have lt : s1.heap.objs.size ≤ D := Nat.le_trans (Nat.le_of_lt (Heap.lt_size hso)) hs2
        have hf : H1 D = none := I1.hok.fresh lt
        refine ⟨.ref D, _, Inv.draws (I1.laid (t' := tk2) (a := D) (o := .lst ((sortS (dedupS ns)).map V.str)) kk lt ⟨?_, out.toList, ep, vals_strs hout, ?_⟩), rfl, q _ hf⟩
        · rw [List.length_map, (sortS_perm _).length_eq, ← dedup_metS]
          exact Nat.le_trans (SX.metK_len _ _) (Nat.le_of_lt (small1000 (by omega)))
        · rw [ho]
theorem de_sset (hc : X.calm = true) (m1 : X.mg "sorted" = none) (m2 : X.mg "set" = none) (ha : DE X e fa) (h1 : Gl X "sorted" := by rfl) (h2 : Gl X "set" := by rfl) (he : starEach [e] X.env = (false, eval e X.env) :: starEach [] X.env := by rfl)
    (he2 : starEach [.Call (.Name "set" p2) [e] [] pos2] X.env = (false, eval (.Call (.Name "set" p2) [e] [] pos2) X.env) :: starEach [] X.env := by rfl) : DE X (.Call (.Name "sorted" p) [.Call (.Name "set" p2) [e] [] pos2] [] pos) (op1 ssetD fa) :=
  ⟨fun pins s σ H Q I ⟨ρ, r, H0, G₀, G, ef, R, q⟩ => pe_sset hc h1 m1 h2 m2 boot_set (pa_cons ha.run pa_nil he) he he2 (fun _ => rfl) (fun _ => rfl) pins s σ H Q I (bE R ef q.x fun x v G1 H1 g1 R1 rv e1 => by
    obtain ⟨d, ed, rfl⟩ := lft_is e1
    unfold ssetD at ed
    split at ed
    · split at ed
      · rename_i xs ns e2
        split at ed
        · rename_i h64
          cases (Option.some.inj ed)
          have := allD_is (g := .int) (fun d a q => intD_is q) e2
          subst this
          cases rv with
          | list hq r =>
            have e3 := r.ints
            subst e3
            refine .inl ⟨_, ns, rfl, g1.sub.seq hq, h64, fun l hl => q _ _ _ (g1.trans (.put g1.sub hl)) (.list (.of upd_same) (repAll_intsG _))⟩
        · cases ed
      · split at ed
        · rename_i xs _ ns e2
          split at ed
          · rename_i h64
            cases (Option.some.inj ed)
            have := allD_is (g := .str) (fun d a q => strD_is q) e2
            subst this
            cases rv with
            | list hq r =>
              have e3 := r.strs
              subst e3
              refine .inr ⟨_, ns, rfl, g1.sub.seq hq, h64, fun l hl => q _ _ _ (g1.trans (.put g1.sub hl)) (.list (.of upd_same) (repAll_strsG _))⟩
          · cases ed
        · cases ed
    · cases ed)⟩
end
end L2.L3
namespace L2.L3
open PySem PySem.Spec PyProof.Rows
theorem isTy_kit {K : PySem.W.Frag} {T : String} {x : PyData} {t : Bool} (h : isTy T x = some t) : PySem.W.kitOne K (.type (tyD x)) (.type T) = some t := by
  unfold isTy at h
  split at h <;> first | (cases h; rfl) | cases h
section
variable {X : Cx} {H0 G₀ G G1 H H1 : Hp} {ρ : List Ent} {σ : St} {a b c d e iter : Expr} {es : List Expr} {pos p p2 pos2 px : Pos} {x : Str} {fa fb fc fd : EF}
theorem de_isinst {T : String} (hm : X.mg "isinstance" = none) (hx : X.mg x = none) (hv : bootBuiltins x = some (.type T)) (ha : DE X a fa) (hn : x ≠ "__name__" := by decide) (hdb : (x == ("__debug__" : Str)) = false := by decide)
    (he : starEach [a, .Name x p2] X.env = (false, eval a X.env) :: starEach [.Name x p2] X.env := by rfl) (he2 : starEach [.Name x p2] X.env = (false, eval (.Name x p2) X.env) :: starEach [] X.env := by rfl)
    (hpl : (backTo pos (starEach [.Name x p2] X.env)).any (·.1) = false := by rfl) (hg : Gl X "isinstance" := by rfl) (hgx : Gl X x := by rfl) : DE X (.Call (.Name "isinstance" p) [a, .Name x p2] [] pos) (op1 (isD T) fa) := by
  have hc : CallR X (.builtin "isinstance") (fun xs H Q => ∃ v d t, xs = [v, .ty T] ∧ Rep X.K H v d ∧ isTy T d = some t ∧ Q (.bl t) H) := by
    intro pins s σ H xs us Q I r ⟨v, d, t, e1, rv, ht, q⟩
    subst e1
    obtain ⟨u, w', rfl, r1, r2⟩ := vals2 r
    cases r2
    exact isinst_D I rv r1 (isTy_kit ht) fun tk => ⟨.bl t, H, I.tok tk, rfl, q⟩
  exact ⟨fun pins s σ H Q I ⟨ρ, r, H0, G₀, G, e, R, q⟩ => pe_callB hc hg hm boot_isinstance (pa_cons ha.run (pa_cons (pe_bltn (v := .ty T) hgx hx hv rfl hn hdb) pa_nil he2) he) (by decide) (by decide) he hpl pins s σ H Q I (bE R e q.x fun x v G1 H1 g1 R1 rv e1 => by
    obtain ⟨d, ed, rfl⟩ := lft_is e1
    obtain ⟨t, et, rfl⟩ := Option.map_eq_some_iff.mp ed
    exact ⟨v, x, t, rfl, rv.mono g1.sub, et, q _ _ _ g1 (.bool t)⟩)⟩
end
end L2.L3
namespace L2.L3
open PySem PySem.Spec PyProof.Rows
section
variable {X : Cx} {H0 G₀ G G1 H H1 : Hp} {ρ : List Ent} {σ : St} {a b c d e iter : Expr} {es : List Expr} {pos p p2 pos2 px : Pos} {x : Str} {fa fb fc fd : EF}
noncomputable def inAll (x : PyData) (ds : List PyData) : Option Bool := if SeqAt.shaped x && ds.all SeqAt.shaped then some (ds.any fun d => PyData.eqv d x) else none
noncomputable def inX (x y : PyData) : Option Bool := match x with
  | .tuple _ => (match seqD y with | some ds => inAll x ds | none => none)
  | .list _ => (match seqD y with | some ds => inAll x ds | none => none)
  | _ => inD x y
noncomputable def ninX (x y : PyData) : Option Bool := (inX x y).map (!·)
noncomputable def rInX (K : PySem.W.Frag) (neg : Bool) (dx : PyData) (ds : List PyData) : R2 := fun x y H Q => ∃ p xs, y = .ref p ∧ (SqL K H p xs ∨ SqT K H p xs) ∧ Rep K H x dx ∧ RepAll K H xs ds ∧ SeqAt.shaped dx = true ∧ ds.all SeqAt.shaped = true ∧ Q (.bl (if neg then !(ds.any fun d => PyData.eqv d dx) else ds.any fun d => PyData.eqv d dx)) H
open Classical in
theorem inX_at {pins : List (Addr × Obj)} {s : Shared} {A : Around} (I : Inv X pins σ H s) (hu : A.units + 64 < cLine) {v : Value} {dx : PyData} {bs : List Addr} (rx : Reads s.heap v dx bs) (hx : SeqAt.shaped dx = true) :
    ∀ {xs : List V} {ds : List PyData} {us : List Value}, RepAll X.K H xs ds → Vals xs us → ds.all SeqAt.shaped = true →
      (∀ u ∈ us, SeqAt.EqAt A s u v (decide (∃ d as, Reads s.heap u d as ∧ SeqAt.shaped d = true ∧ PyData.eqv d dx = true))) ∧ us.any (fun u => decide (∃ d as, Reads s.heap u d as ∧ SeqAt.shaped d = true ∧ PyData.eqv d dx = true)) = ds.any fun d => PyData.eqv d dx
  | _, _, _, .nil, .nil, _ => ⟨(fun u hm => by cases hm), rfl⟩
  | _, _, _, .cons (d := d) r rr, .cons t tt, hs => by
    rw [List.all_cons, Bool.and_eq_true] at hs
    obtain ⟨h1, h2⟩ := inX_at I hu rx hx rr tt hs.2
    obtain ⟨as, ra⟩ := r.reads I t
    have key0 : ∀ u, Reads s.heap u d as → decide (∃ d as, Reads s.heap u d as ∧ SeqAt.shaped d = true ∧ PyData.eqv d dx = true) = PyData.eqv d dx := by
      intro u ra
      cases e : PyData.eqv d dx with
      | true => exact decide_eq_true ⟨d, as, ra, hs.1, e⟩
      | false =>
        refine decide_eq_false fun ⟨d', as', r', s', e'⟩ => ?_
        rw [SeqAt.Reads.unique d d' _ _ _ (SeqAt.canLay_of_shaped hs.1) ra r'] at e
        rw [e] at e'; cases e'
    have key := key0 _ ra
    refine ⟨fun u hu' => ?_, by rw [List.any_cons, List.any_cons, key, h2]⟩
    rcases List.mem_cons.mp hu' with z | z
    · subst z
      rw [key]
      exact SeqAt.eqAt_reads d dx A s _ v as bs ra rx (SeqAt.canLay_of_shaped hs.1) (SeqAt.canLay_of_shaped hx) (SeqAt.room_of_shaped hs.1 hu)
    · exact h1 u z
open Classical in
theorem op_inX (hu : X.A.in1.units + 64 < cLine) (dx : PyData) (ds : List PyData) : OpR X (compareOp .In) (rInX X.K false dx ds) := by
  intro pins s σ H x y v u Q I rx ry h
  obtain ⟨p, xs, rfl, hq, r1, r2, h1, h2, q⟩ := h
  cases ry
  obtain ⟨bs, rb⟩ := r1.reads I rx
  rcases hq with hq | hq
  · obtain ⟨its, r, pl, hz⟩ := I.list hq
    obtain ⟨e1, e2⟩ := inX_at (A := X.A.in1) I hu rb h1 r2 r h2
    refine SeqAt.in_listAt _ pl.isList (fun w hw => e1 w (by simpa using hw)) ⟨.bl _, H, I, rfl, ?_⟩
    rw [← Array.any_toList, e2]
    exact q
  · obtain ⟨its, r, pl, hz⟩ := I.tuple hq
    obtain ⟨e1, e2⟩ := inX_at (A := X.A.in1) I hu rb h1 r2 r h2
    refine SeqAt.in_tupleAt _ pl (fun w hw => e1 w (by simpa using hw)) ⟨.bl _, H, I, rfl, ?_⟩
    rw [← Array.any_toList, e2]
    exact q
open Classical in
theorem op_ninX (hu : X.A.in1.units + 64 < cLine) (dx : PyData) (ds : List PyData) : OpR X (compareOp .NotIn) (rInX X.K true dx ds) := by
  intro pins s σ H x y v u Q I rx ry h
  obtain ⟨p, xs, rfl, hq, r1, r2, h1, h2, q⟩ := h
  cases ry
  obtain ⟨bs, rb⟩ := r1.reads I rx
  rcases hq with hq | hq
  · obtain ⟨its, r, pl, hz⟩ := I.list hq
    obtain ⟨e1, e2⟩ := inX_at (A := X.A.in1) I hu rb h1 r2 r h2
    refine SeqAt.notIn_listAt _ pl.isList (fun w hw => e1 w (by simpa using hw)) ⟨.bl _, H, I, rfl, ?_⟩
    rw [← Array.any_toList, e2]
    exact q
  · obtain ⟨its, r, pl, hz⟩ := I.tuple hq
    obtain ⟨e1, e2⟩ := inX_at (A := X.A.in1) I hu rb h1 r2 r h2
    refine SeqAt.notIn_tupleAt _ pl (fun w hw => e1 w (by simpa using hw)) ⟨.bl _, H, I, rfl, ?_⟩
    rw [← Array.any_toList, e2]
    exact q
theorem inAll_ok {hu : X.A.in1.units + 64 < cLine} {x y : PyData} {ds : List PyData} {t : Bool} (e : seqD y = some ds) (h : inAll x ds = some t) : CmpD X .In x y t ∧ CmpD X .NotIn x y (!t) := by
  unfold inAll at h
  split at h
  · rename_i hz
    rw [Bool.and_eq_true] at hz
    cases (Option.some.inj h)
    refine ⟨⟨_, op_inX hu x ds, fun v u G H Q s rv ru q => ?_⟩, ⟨_, op_ninX hu x ds, fun v u G H Q s rv ru q => ?_⟩⟩
    · obtain ⟨p, vs, rfl, hq, r⟩ := seq_rep s e ru
      exact ⟨p, vs, rfl, hq, rv.mono s, r.mono s, hz.1, hz.2, q⟩
    · obtain ⟨p, vs, rfl, hq, r⟩ := seq_rep s e ru
      exact ⟨p, vs, rfl, hq, rv.mono s, r.mono s, hz.1, hz.2, q⟩
  · cases h
theorem ninX_ok (hu : X.A.in1.units + 64 < cLine) (x y : PyData) (t : Bool) (h : ninX x y = some t) : CmpD X .NotIn x y t := by
  unfold ninX at h
  obtain ⟨t', hq, rfl⟩ := Option.map_eq_some_iff.mp h
  unfold inX at hq
  split at hq
  · split at hq
    · rename_i ds e; exact (inAll_ok (hu := hu) e hq).2
    · cases hq
  · split at hq
    · rename_i ds e; exact (inAll_ok (hu := hu) e hq).2
    · cases hq
  · exact nin_ok x y _ (by unfold ninD; rw [hq]; rfl)
end
theorem _root_.L2.Room.units1 {k : Nat} {A : Around} (r : Room k A) : A.in1.units + 64 < cLine := by
  have := r.un
  show A.units + 1 + 64 < cLine
  omega
theorem vals_range {lo : Int} {n : Nat} {acc : Array Value} (h : ItemsOf (fun i v => ∃ t, v = .int (lo + i * 1) t) acc n) : Vals (((List.range n).map fun (k : Nat) => lo + (k : Int)).map V.int) acc.toList := by
  have key : ∀ (m : Nat) (l : List Value) (o : Nat), l.length = m → (∀ (i : Nat) (v : Value), l[i]? = some v → ∃ t : Tok, v = Value.int (lo + ((o + i : Nat) : Int) * 1) t) → Vals (((List.range' o m).map fun (k : Nat) => lo + (k : Int)).map V.int) l := by
    intro m
    induction m with
    | zero => intro l o hl _; rw [List.length_eq_zero_iff.mp hl]; exact .nil
    | succ m ih =>
      intro l o hl hv
      match l, hl with
      | v :: l, hl =>
        rw [List.range'_succ]
        obtain ⟨t, e⟩ := hv 0 v rfl
        refine .cons ⟨t, ?_⟩ (ih l (o + 1) (by simpa using hl) fun i u hu => ?_)
        · rw [e]; simp
        · obtain ⟨t', e'⟩ := hv (i + 1) u (by simpa using hu)
          exact ⟨t', by rw [e', show o + (i + 1) = o + 1 + i by omega]⟩
  have := key n acc.toList 0 (by rw [Array.length_toList]; exact h.1) fun i v e => by
    rw [Array.getElem?_toList] at e
    simpa using h.2 i v e
  rw [List.range_eq_range']
  exact this
section
variable {X : Cx} {H0 G₀ G G1 H H1 : Hp} {ρ : List Ent} {σ : St} {a b c d e iter : Expr} {es : List Expr} {pos p p2 pos2 px : Pos} {x : Str} {fa fb fc fd : EF}
noncomputable def rngV (lo : Int) (n : Nat) : List V := ((List.range n).map fun (k : Nat) => lo + (k : Int)).map V.int
theorem rngV_rep {K : PySem.W.Frag} {G : Hp} (lo : Int) (n : Nat) : RepAll K G (rngV lo n) (rangeD lo n) := by
  have := repAll_intsG (K := K) (G := G) ((List.range n).map fun (k : Nat) => lo + (k : Int))
  unfold rngV rangeD
  rw [List.map_map (g := PyData.int)] at this
  exact this
noncomputable def tLrng (t : TA) : TE := fun σ H Q => t σ H fun xs H1 => ∃ m n : Int, (xs = [.int m, .int n]) ∧ inRng m = true ∧ inRng n = true ∧ szOk (n - m).toNat = true ∧ ∀ l, H1 l = none → Q (.ref l) (upd H1 l (.lst (rngV m (n - m).toNat)))
theorem pe_lrng2 {t : TA} (hc : X.calm = true) (h1 : Gl X "list") (m1 : X.mg "list" = none) (h2 : Gl X "range") (m2 : X.mg "range" = none) (ha : PA X [a, b] t) (he : starEach [a, b] X.env = (false, eval a X.env) :: starEach [b] X.env)
    (hpl1 : ∀ q, (backTo q (starEach [b] X.env)).any (·.1) = false) (he2 : starEach [.Call (.Name "range" p2) [a, b] [] pos2] X.env = (false, eval (.Call (.Name "range" p2) [a, b] [] pos2) X.env) :: starEach [] X.env) (hpl : ∀ q, (backTo q (starEach [] X.env)).any (·.1) = false) (hn : ∀ q, backTo q (starEach [] X.env) = []) :
    PE X (.Call (.Name "list" p) [.Call (.Name "range" p2) [a, b] [] pos2] [] pos) (tLrng t) := by
  intro pins s σ H Q I h
  refine wpAny_Call_Name_kw (ld_blt I h1 m1 boot_list ?_)
  refine callWith_type1 ?_ he2 (hpl _)
  rw [he2]
  show wpAny _ _ (spliced ((false, eval (.Call (.Name "range" p2) [a, b] [] pos2) X.env) :: backTo pos (starEach [] X.env))) _ _ s
  rw [hn]
  refine Calls.spliced_cons (wpAny_Call_Name_kw (ld_blt I h2 m2 boot_range ?_))
  refine callWith_type1 (thn (ha pos2 pins s σ H _ I h) fun us s1 ⟨vs, H1, I1, r1, m, n, e1, q1, q2, q3, q⟩ => ?_) he (hpl1 _)
  subst e1
  obtain ⟨u, u', rfl, ru, ru'⟩ := vals2 r1
  obtain ⟨t, rfl⟩ := ru
  obtain ⟨t', rfl⟩ := ru'
  have b1 := inRng_is q1
  have b2 := inRng_is q2
  have hz := of_decide_eq_true q3
  refine call_range_2 ?_
  refine Calls.spliced_nil (call_list_range (n := (n - m).toNat) (I1.ok.hd hc) (IsRange.new ..) (small_one b1.1 b1.2 b2.1 b2.2) (by rw [rangeSize_one]; split <;> omega) (Nat.le_trans hz (by decide)) fun h' tk acc c' kp ho hi => ?_)
  have sz : (s1.heap.push { cls := .type "range", data := .fields #[.int m t, .int n t', .int 1 s1.toks] }).objs.size = s1.heap.objs.size + 1 := Heap.size_push ..
  have lt : s1.heap.objs.size ≤ (s1.heap.push { cls := .type "range", data := .fields #[.int m t, .int n t', .int 1 s1.toks] }).objs.size := by rw [sz]; exact Nat.le_succ _
  have hf := I1.hok.fresh lt
  refine ⟨.ref _, _, I1.laid (t' := tk) (o := .lst (rngV m (n - m).toNat)) (fun b o e => kp b o (Heap.get?_push_of_some _ e)) lt ⟨?_, acc.toList, c', vals_range hi, ?_⟩, rfl, q _ hf⟩
  · unfold rngV; rw [List.length_map, List.length_map, List.length_range]; exact sz_le q3
  · rw [ho]
theorem de_lrng2 (m1 : X.mg "list" = none) (m2 : X.mg "range" = none) (ha : DE X a fa) (hb : DE X b fb) (hc : X.calm = true := by rfl) (h1 : Gl X "list" := by rfl) (h2 : Gl X "range" := by rfl) (he : starEach [a, b] X.env = (false, eval a X.env) :: starEach [b] X.env := by rfl) (heb : starEach [b] X.env = (false, eval b X.env) :: starEach [] X.env := by rfl)
    (hpl1 : ∀ q, (backTo q (starEach [b] X.env)).any (·.1) = false := by exact fun _ => rfl) (he2 : starEach [.Call (.Name "range" p2) [a, b] [] pos2] X.env = (false, eval (.Call (.Name "range" p2) [a, b] [] pos2) X.env) :: starEach [] X.env := by rfl) :
    DE X (.Call (.Name "list" p) [.Call (.Name "range" p2) [a, b] [] pos2] [] pos) (lrng2 fa fb) :=
  ⟨fun pins s σ H Q I ⟨ρ, r, H0, G₀, G, ef, R, q⟩ => by
    unfold lrng2 at ef
    split at ef
    · rename_i m n ea eb
      split at ef
      · rename_i hz
        simp only [Bool.and_eq_true] at hz
        cases (Option.some.inj ef)
        refine pe_lrng2 hc h1 m1 h2 m2 (pa_cons ha.run (pa_cons hb.run pa_nil heb) he) he hpl1 he2 (fun _ => rfl) (fun _ => rfl) pins s σ H Q I ⟨ρ, _, H0, G₀, G, ea, R, fun v G1 H1 g1 rv => ⟨ρ, _, H0, G₀, G1, eb, R.more g1, fun v2 G2 H2 g2 rv2 => ?_⟩⟩
        cases rv
        cases rv2
        exact ⟨m, n, rfl, hz.1.1, hz.1.2, hz.2, fun l hl => q _ _ _ ((g1.trans g2).trans (.put g2.sub hl)) (.list (.of upd_same) (rngV_rep _ _))⟩
      · cases ef
    · cases ef⟩
end
end L2.L3
namespace L2.L3
open PySem PySem.Spec PyProof.Rows
noncomputable def enumD (ds : List PyData) : List PyData := (List.range ds.length).map fun (k : Nat) => .tuple [.int (k : Int), ds.getD k .none]
noncomputable def enumI (fa : EF) : AF := fun ρ => match fa ρ with
  | some (.ok (.list a)) => some (.ok (enumD a))
  | _ => none
noncomputable def Itn (K : PySem.W.Frag) (l : Addr) : It :=
  ⟨fun i H => ∃ xs x, SqL K H l xs ∧ xs[i]? = some x,
   fun i H v H' => ∃ T x, H T = none ∧ v = .ref T ∧ H' = upd H T (.tup [.int (i : Int), x]) ∧ ∀ xs, SqL K H l xs → xs[i]? = some x,
   fun i H => ∃ xs, SqL K H l xs ∧ xs.length ≤ i⟩
noncomputable def tnEnum (e it l : Addr) (i : Nat) (h : Heap) : Prop := (∃ old, IsEnum h e it i old) ∧ h.IsListIter it l i
theorem turn_enum {P : Program} {w : World} {K : PySem.W.Frag} {elts : List Expr} {k0 : Nat} {p0 : Pos} {e it l : Addr} (hne : e ≠ it) : Turn P w K (.Tuple elts k0 p0) (Itn K l) [e, it] e (tnEnum e it l) where
  mem := by simp
  obj := fun i h ⟨⟨old, he⟩, ⟨o1, g1, _, d1⟩⟩ c hc => by
    simp only [List.mem_cons, List.not_mem_nil, or_false] at hc
    rcases hc with rfl | rfl
    · exact ⟨_, he, fun v q => by cases q⟩
    · exact ⟨o1, g1, fun v q => by rw [d1] at q; cases q⟩
  keep := fun i h h' ⟨⟨old, he⟩, h1⟩ kp => ⟨⟨old, kp e (by simp) _ he⟩, h1.at fun o q => kp it (by simp) o q⟩
  item := by
    intro X hP hw hK hc i pins s σ H E I hf ⟨⟨old, he⟩, h1⟩ ⟨xs, x, q1, ex⟩
    subst hP hw hK
    obtain ⟨its, r1, p1, _⟩ := I.list q1
    obtain ⟨u, eu, ru⟩ := r1.get ex
    refine wpAny_pyNext_enum_item he h1 p1.isList (x := u) (by rw [List.getElem?_toArray]; exact eu) hne fun h' a1 a2 a3 a4 hk => ⟨_, rfl, ?_⟩
    refine wpAny_letOwnedTupleGo_enum a1 fun h2' hz' hs' => ?_
    have hk2 : ∀ c o, c ∉ [e, it] → s.heap.get? c = some o → h2'.get? c = some o := fun c o hc q => by
      simp only [List.mem_cons, List.not_mem_nil, or_false, not_or] at hc
      exact hs'.extBut c o hc.1 (hk c o hc.1 hc.2 q)
    have nT : s.heap.objs.size ≠ e := Nat.ne_of_gt (Heap.lt_size he)
    have new : ObjOk X.prog X.w (upd H s.heap.objs.size (.tup [.int (i : Int), x])) h2' s.heap.objs.size (.tup [.int (i : Int), x]) :=
      ⟨by show 2 ≤ sizeLine; decide, [.int i s.toks, u], .cons ⟨_, rfl⟩ (.cons ru .nil), ⟨_, hs'.extBut _ _ nT a3, rfl, _, rfl⟩⟩
    have hfT : H s.heap.objs.size = none := I.hok.fresh (Nat.le_refl _)
    refine ⟨.ref s.heap.objs.size, upd H s.heap.objs.size (.tup [.int (i : Int), x]), Inv.turnNew (s := s) (h' := h2') (t' := s.toks + 1) [e, it] I (fun c hc => hf c hc) hk2 (Nat.le_refl _) new, rfl,
      ⟨_, x, hfT, rfl, rfl, fun xs' q => by rw [I.list_inj q q1]; exact ex⟩, ⟨⟨u, hz'⟩, a2.extBut hs'.extBut (Ne.symm hne)⟩, fun c hc => ?_⟩
    obtain ⟨o, q, _⟩ : ∃ o, s.heap.get? c = some o ∧ True := by
      simp only [List.mem_cons, List.not_mem_nil, or_false] at hc
      rcases hc with rfl | rfl
      · exact ⟨_, he, trivial⟩
      · obtain ⟨o, g, _⟩ := h1; exact ⟨o, g, trivial⟩
    rw [upd_ne (Nat.ne_of_lt (Heap.lt_size q))]
    exact (hf c hc).1
  done := by
    intro X hP hw hK hc i pins s σ H E I hf ⟨⟨old, he⟩, h1⟩ ⟨xs, q1, hend⟩
    subst hP hw hK
    obtain ⟨its, r1, p1, _⟩ := I.list q1
    have l1' := r1.length
    refine wpAny_pyNext_enum_end (I.ok.hd hc) he h1 p1.isList (by rw [List.getElem?_toArray]; exact List.getElem?_eq_none (by omega)) fun h' hk => ⟨rfl, Inv.turnAll (t' := s.toks) [e, it] I (fun c hc => hf c hc) fun c o hc q => ?_⟩
    simp only [List.mem_cons, List.not_mem_nil, or_false, not_or] at hc
    exact hk c o hc.2 q
  self := fun A i s Q E ⟨⟨old, he⟩, _⟩ h => wpAny_pyIter_enum he h
theorem enum_at (ds : List PyData) (i : Nat) : (enumD ds)[i]? = (ds[i]?).map fun d => .tuple [.int (i : Int), d] := by
  unfold enumD
  rw [List.getElem?_map]
  by_cases h : i < ds.length
  · rw [List.getElem?_range h, List.getElem?_eq_getElem h]; simp [h]
  · rw [List.getElem?_eq_none (by simp; omega), List.getElem?_eq_none (by omega)]; rfl
theorem walk_enum {K : PySem.W.Frag} {G : Hp} {l : Addr} {xs : List V} {ds : List PyData} (h1 : SqL K G l xs) (r1 : RepAll K G xs ds) : Walk K (Itn K l) G (enumD ds) := by
  intro i G' H' s1 s2
  have a1 := (s1.trans s2).seq h1
  refine ⟨fun d e => ?_, fun hl => ⟨xs, a1, ?_⟩⟩
  · rw [enum_at] at e
    obtain ⟨p, e1, rfl⟩ := Option.map_eq_some_iff.mp e
    obtain ⟨v, ev, rv⟩ := r1.get e1
    refine ⟨⟨xs, v, a1, ev⟩, fun x H2 ⟨T, x', hT, ex, eH, b1⟩ => ?_⟩
    subst ex eH
    have b3 := b1 xs a1
    rw [ev] at b3
    cases b3
    have hG : G' T = none := s2.free hT
    exact ⟨upd G' T (.tup [.int (i : Int), v]), .put s2 hT, .tuple (.of upd_same) (.cons (.int _) (.cons ((rv.mono s1).mono (same_upd hG)) .nil))⟩
  · unfold enumD at hl
    rw [List.length_map, List.length_range] at hl
    have e1 := r1.length
    omega
section
variable {X : Cx} {a b e : Expr} {elts : List Expr} {k0 : Nat} {p0 pos p : Pos} {fa fb : EF} {st : Stmt}
theorem di_enum (hm : X.mg "enumerate" = none) (ha : DE X a fa) (hs : starEach [a] X.env = (false, eval a X.env) :: starEach [] X.env := by rfl)
    (hpl : (backTo pos (starEach [] X.env)).any (·.1) = false := by rfl) (hg : Gl X "enumerate" := by rfl) : DI X (.Tuple elts k0 p0) (.Call (.Name "enumerate" p) [a] [] pos) (enumI fa) := di_of fun ρ r e => by
  unfold enumI at e
  split at e
  · rename_i as e1
    refine ⟨_, (Option.some.inj e).symm, ⟨?_⟩⟩
    intro pins s σ H R I ⟨H0, G₀, G, S, q⟩
    have pa := pad_cons (ha.pd e1) pad_nil hs
    refine wpAny_Call_Name_kw (ld_blt I hg hm boot_enumerate ?_ (by decide) (by decide))
    refine PyProof.Rows.callWith_type1 (thn (pa.run H0 G₀ G pos pins s σ H (fun vs H' => ∃ G', Grow G H G' H' ∧ RepAll X.K G' vs [.list as]) I S fun vs G' H' g r => ⟨G', g, r⟩) fun us s1 ⟨vs, H1, I1, r1, G1, g1, w1⟩ => ?_) hs hpl
    cases w1 with
    | cons wa wn =>
      cases wn
      cases wa with
      | list hq ra =>
        obtain ⟨u, rfl, ru⟩ := vals1 r1
        cases ru
        obtain ⟨its, r1', p1, _⟩ := I1.list (g1.sub.seq hq)
        refine call_enumerate_list p1.isList fun h' z1 z2 z3 hk => ?_
        refine wpAny_pyIter_enum z1 ?_
        refine ⟨s1.heap.objs.size + 1, [s1.heap.objs.size + 1, s1.heap.objs.size], _, _, H1, rfl, I1.kept (h' := h') (t' := s1.toks) (fun b o e => hk b o e), turn_enum (Nat.succ_ne_self _), ⟨⟨_, z1⟩, z2⟩, fun c hc => ?_, q _ G1 H1 g1 (walk_enum hq ra)⟩
        have ge : s1.heap.objs.size ≤ c := by
          simp only [List.mem_cons, List.not_mem_nil, or_false] at hc
          rcases hc with h | h <;> rw [h] <;> first | exact Nat.le_add_right _ _ | exact Nat.le_refl _
        exact I1.fpOk ge (I1.hok.fresh ge)
  · cases e
theorem ds_stuck : DS X st stuckS := ⟨fun pins s σ H D I ⟨ρ, o, H0, G₀, G, e, R, q⟩ => by cases e⟩
end
end L2.L3
namespace L2.ZT
open PySem PyProof.Rows
section
variable {prog : Program} {w : World} {A : Around} {E : Value → Shared → Prop} {s : Shared}
theorem tup_next {c t : Addr} {i : Nat} {xs : Array Value} {x : Value} {Q : Value → Shared → Prop} (hc : s.heap.IsTupleIter c t i) (ht : s.heap.IsTuple t xs) (hx : xs[i]? = some x)
    (q : ∀ k, k.IsTupleIter c t (i + 1) → Heap.SameBut c s.heap k → Q x { s with heap := k }) : wpAny (model prog w) A (Builtin.SmallTypes.nextOf (.ref c)) Q E s := by
  obtain ⟨oc, gc, ec, dc⟩ := id hc
  obtain ⟨ot, gt, _, nt, dt⟩ := ht
  unfold Builtin.SmallTypes.nextOf
  refine wpAny_bind (wpAny_callSpecial?_slot (name := Str.ofString "__next__") hc.typeIs F.slot_tuple_iterator_next (wpAny_call_entry F.slot_tuple_iterator_next hc.typeIs F.entry_tuple_iterator_next ?_ (F.args_tuple_iterator_next_1 _)))
  show wpAny _ _ (field (.ref c) 0 >>= _) _ _ s
  refine wpAny_bind (wpAny_field gc dc (x := .ref t) rfl ?_)
  show wpAny _ _ (if (Value.ref t == Value.none) = true then _ else _) _ _ s
  rw [if_neg (fun z => by cases z)]
  show wpAny _ _ (field (.ref c) 1 >>= _) _ _ s
  refine wpAny_bind (wpAny_field gc dc (x := .int i 0) rfl ?_)
  show wpAny _ _ (seqItems? (.ref t) >>= _) _ _ s
  refine wpAny_bind (wpAny_seqItems gt dt ?_)
  simp only [Int.toNat_natCast, hx]
  refine wpAny_bind (wpAny_setField gc dc (by simp) (wpAny_pure ⟨x, rfl, wpAny_pure (q _ ?_ (Heap.SameBut.update ..))⟩))
  refine ⟨_, Heap.get?_update_self _ gc (Obj.isFreed_of_fields (Obj.data_mapFields dc _)), (Obj.cls_mapFields ..).trans ec, ?_⟩
  rw [Obj.data_mapFields dc]
  simp [rawInt]
theorem tup_stop {c t : Addr} {i : Nat} {xs : Array Value} {Q : Value → Shared → Prop} (hh : A.handled = none) (hc : s.heap.IsTupleIter c t i) (ht : s.heap.IsTuple t xs) (hx : xs[i]? = none)
    (q : ∀ k e, Heap.ExtBut c s.heap k → (∃ o, k.get? e = some o ∧ o.cls = .type "StopIteration") → E (.ref e) { s with heap := k }) : wpAny (model prog w) A (Builtin.SmallTypes.nextOf (.ref c)) Q E s := by
  obtain ⟨oc, gc, ec, dc⟩ := id hc
  obtain ⟨ot, gt, _, nt, dt⟩ := ht
  unfold Builtin.SmallTypes.nextOf
  refine wpAny_bind (wpAny_callSpecial?_slot (name := Str.ofString "__next__") hc.typeIs F.slot_tuple_iterator_next (wpAny_call_entry F.slot_tuple_iterator_next hc.typeIs F.entry_tuple_iterator_next ?_ (F.args_tuple_iterator_next_1 _)))
  show wpAny _ _ (field (.ref c) 0 >>= _) _ _ s
  refine wpAny_bind (wpAny_field gc dc (x := .ref t) rfl ?_)
  show wpAny _ _ (if (Value.ref t == Value.none) = true then _ else _) _ _ s
  rw [if_neg (fun z => by cases z)]
  show wpAny _ _ (field (.ref c) 1 >>= _) _ _ s
  refine wpAny_bind (wpAny_field gc dc (x := .int i 0) rfl ?_)
  show wpAny _ _ (seqItems? (.ref t) >>= _) _ _ s
  refine wpAny_bind (wpAny_seqItems gt dt ?_)
  simp only [Int.toNat_natCast, hx]
  refine wpAny_bind (wpAny_rule (wpAny_bind (wpAny_setField gc dc (by simp) ?_)))
  unfold Builtin.SmallTypes.stopIteration
  refine wpAny_bind ?_
  simp only [newExc, newTuple]
  refine wpAny_bind (wpAny_newObj_type ?_ (by size_fits))
  refine wpAny_bind (m := firstArgMember _ _) (wpAny_of_eq (a := Value.none) (by simp only [firstArgMember]; rfl) ?_)
  refine wpAny_newObj_type ?_ (by size_fits)
  simp only [raiseNew]
  refine wpAny_bind (wpAny_handled ?_)
  rw [show A.in1.handled = none from hh]
  refine wpAny_bind (wpAny_pure (wpAny_throw (q _ _ ?_ ⟨_, Heap.get?_push_size _ rfl, rfl⟩)))
  exact ((Heap.SameBut.update ..).extBut.push _).push _
variable {z TI TO c d t u : Addr} {i j : Nat} {xs ys : Array Value} {a b : Value}
theorem item_tt {x y : Value} {Q : Value → Shared → Prop} (D : ZipApart z TI TO c d t u) (hz : IsZip s.heap z TI TO .none) (hI : IsPair s.heap TI (.ref c) (.ref d)) (hO : IsPair s.heap TO a b)
    (hc : s.heap.IsTupleIter c t i) (hd : s.heap.IsTupleIter d u j) (ht : s.heap.IsTuple t xs) (hu : s.heap.IsTuple u ys) (hx : xs[i]? = some x) (hy : ys[j]? = some y)
    (q : ∀ k, IsZip k z TI TO (rawInt s.heap.objs.size) → IsPair k TO x y → k.IsTupleIter c t (i + 1) → k.IsTupleIter d u (j + 1) → IsPair k s.heap.objs.size x y → k.objs.size = s.heap.objs.size + 1 →
      (∀ e o, e ≠ z → e ≠ TO → e ≠ c → e ≠ d → s.heap.get? e = some o → k.get? e = some o) → Q (.ref s.heap.objs.size) { s with heap := k }) :
    wpAny (model prog w) A (Builtin.«zip.__next__» ⟨[.ref z], []⟩) (fun fin s' => ∃ v, fin = .done (.ret v) ∧ Q v s') E s := by
  show wpAny _ _ (field (.ref z) 2 >>= _) _ _ s
  refine wpAny_bind (wpAny_field hz rfl (x := Value.bool false) rfl ?_)
  show wpAny _ _ (field (.ref z) 3 >>= _) _ _ s
  refine wpAny_bind (wpAny_field hz rfl (x := Value.ref TI) rfl ?_)
  refine wpAny_bind (wpAny_seqItems hI rfl ?_)
  show wpAny _ _ (Builtin.SmallTypes.ownedTupleIsFree (.ref z) >>= _) _ _ s
  refine wpAny_bind ?_
  unfold Builtin.SmallTypes.ownedTupleIsFree
  refine wpAny_bind (wpAny_field hz rfl (x := Value.none) rfl (wpAny_pure ?_))
  simp only [if_true]
  refine wpAny_bind (wpAny_rule (wpAny_bind (wpAny_field hz rfl (x := Value.ref TO) rfl (wpAny_bind (wpAny_setField_rec hz (by simp) fun ka za sa => ?_)))))
  replace za : IsZip ka z TI TO .ellipsis := za
  refine wpAny_bind ?_
  simp only [List.zipIdx_cons, List.zipIdx_nil, List.forIn_cons, List.forIn_nil]
  refine wpAny_bind (wpAny_bind (wpAny_onRaise ?_))
  show wpAny _ _ (Builtin.SmallTypes.nextOf (.ref c) >>= _) _ _ _
  refine wpAny_bind (tup_next (hc.extBut sa.extBut D.i1z) (ht.extBut sa.extBut D.l1z) hx fun kb cb sb => wpAny_pure ?_)
  have ob : IsPair kb TO a b := sb.extBut _ _ D.TOi1 (sa.extBut _ _ D.TOz hO)
  refine wpAny_bind (wpAny_seqItems ob rfl (wpAny_bind (wpAny_updateSeq_pair ob fun kc oc sc => ?_)))
  replace oc : IsPair kc TO x b := oc
  refine wpAny_bind (wpAny_letGo (wpAny_pure (wpAny_bind (wpAny_bind (wpAny_onRaise ?_)))))
  show wpAny _ _ (Builtin.SmallTypes.nextOf (.ref d) >>= _) _ _ _
  have dc : kc.IsTupleIter d u j := ((hd.extBut sa.extBut D.i2z).extBut sb.extBut D.i12.symm).extBut sc.extBut D.TOi2.symm
  have uc : kc.IsTuple u ys := ((hu.extBut sa.extBut D.l2z).extBut sb.extBut D.l2i1).extBut sc.extBut D.l2TO
  refine wpAny_bind (tup_next dc uc hy fun kd dd sd => wpAny_pure ?_)
  have od : IsPair kd TO x b := sd.extBut _ _ D.TOi2 oc
  refine wpAny_bind (wpAny_seqItems od rfl (wpAny_bind (wpAny_updateSeq_pair od fun ke oe se => ?_)))
  replace oe : IsPair ke TO x y := oe
  refine wpAny_bind (wpAny_letGo (wpAny_pure (wpAny_pure (wpAny_bind (wpAny_seqItems oe rfl (wpAny_bind (wpAny_newTuple ?_)))))))
  have sz : ke.objs.size = s.heap.objs.size := by rw [se.1, sd.1, sc.1, sb.1, sa.1]
  have ze : IsZip ke z TI TO .ellipsis := se.extBut _ _ D.TOz.symm (sd.extBut _ _ D.i2z.symm (sc.extBut _ _ D.TOz.symm (sb.extBut _ _ D.i1z.symm za)))
  have kp : ∀ e o, e ≠ z → e ≠ TO → e ≠ c → e ≠ d → s.heap.get? e = some o → ke.get? e = some o := fun e o n1 n2 n3 n4 g =>
    se.extBut _ _ n2 (sd.extBut _ _ n4 (sc.extBut _ _ n2 (sb.extBut _ _ n3 (sa.extBut _ _ n1 g))))
  have ce : ke.IsTupleIter c t (i + 1) := ((cb.extBut sc.extBut D.TOi1.symm).extBut sd.extBut D.i12).extBut se.extBut D.TOi1.symm
  have de : ke.IsTupleIter d u (j + 1) := dd.extBut se.extBut D.TOi2.symm
  have zl : z < ke.objs.size := Heap.lt_size ze
  show wpAny _ _ (Builtin.SmallTypes.ownedTupleHandOut (.ref z) (.ref ke.objs.size) >>= _) _ _ _
  refine wpAny_bind ?_
  unfold Builtin.SmallTypes.ownedTupleHandOut
  have zf : IsZip (ke.push { cls := .type "tuple", data := .seq #[x, y] }) z TI TO .ellipsis := Heap.get?_push_of_some _ ze
  refine wpAny_bind (wpAny_setField_rec zf (by simp) fun kg zg sg => ?_)
  replace zg : IsZip kg z TI TO (rawInt ke.objs.size) := zg
  refine wpAny_setField_rec zg (by simp) fun kh zh sh => ?_
  replace zh : IsZip kh z TI TO (rawInt ke.objs.size) := zh
  have up : ∀ e o, e ≠ z → ke.get? e = some o → kh.get? e = some o := fun e o n g => sh.extBut _ _ n (sg.extBut _ _ n (Heap.get?_push_of_some _ g))
  have th : IsPair kh ke.objs.size x y := sh.extBut _ _ (Nat.ne_of_gt zl) (sg.extBut _ _ (Nat.ne_of_gt zl) (Heap.get?_push_size _ rfl))
  have lh : kh.objs.size = ke.objs.size + 1 := by rw [sh.1, sg.1, Heap.size_push]
  rw [sz] at zh th lh
  refine wpAny_pure ⟨_, rfl, ?_⟩
  show Q (.ref ke.objs.size) _
  rw [sz]
  exact q kh zh (up _ _ D.TOz oe) (ce.at fun o g => up _ o D.i1z g) (de.at fun o g => up _ o D.i2z g) th lh fun e o n1 n2 n3 n4 g => up e o n1 (kp e o n1 n2 n3 n4 g)
theorem stop_tt {Q : Fin → Shared → Prop} (hh : A.handled = none) (D : ZipApart z TI TO c d t u) (hz : IsZip s.heap z TI TO .none) (hI : IsPair s.heap TI (.ref c) (.ref d)) (hO : IsPair s.heap TO a b)
    (hc : s.heap.IsTupleIter c t i) (hd : s.heap.IsTupleIter d u j) (ht : s.heap.IsTuple t xs) (hu : s.heap.IsTuple u ys) (hend : xs[i]? = none ∨ ys[j]? = none)
    (q : ∀ k e, (∀ f o, f ≠ z → f ≠ TO → f ≠ c → f ≠ d → s.heap.get? f = some o → k.get? f = some o) → (∃ o, k.get? e = some o ∧ o.cls = .type "StopIteration") → E (.ref e) { s with heap := k }) :
    wpAny (model prog w) A (Builtin.«zip.__next__» ⟨[.ref z], []⟩) Q E s := by
  show wpAny _ _ (field (.ref z) 2 >>= _) _ _ s
  refine wpAny_bind (wpAny_field hz rfl (x := Value.bool false) rfl ?_)
  show wpAny _ _ (field (.ref z) 3 >>= _) _ _ s
  refine wpAny_bind (wpAny_field hz rfl (x := Value.ref TI) rfl ?_)
  refine wpAny_bind (wpAny_seqItems hI rfl ?_)
  show wpAny _ _ (Builtin.SmallTypes.ownedTupleIsFree (.ref z) >>= _) _ _ s
  refine wpAny_bind ?_
  unfold Builtin.SmallTypes.ownedTupleIsFree
  refine wpAny_bind (wpAny_field hz rfl (x := Value.none) rfl (wpAny_pure ?_))
  simp only [if_true]
  refine wpAny_bind (wpAny_rule (wpAny_bind (wpAny_field hz rfl (x := Value.ref TO) rfl (wpAny_bind (wpAny_setField_rec hz (by simp) fun ka za sa => ?_)))))
  replace za : IsZip ka z TI TO .ellipsis := za
  refine wpAny_bind ?_
  simp only [List.zipIdx_cons, List.zipIdx_nil, List.forIn_cons, List.forIn_nil]
  refine wpAny_bind (wpAny_bind (wpAny_onRaise ?_))
  show wpAny _ _ (Builtin.SmallTypes.nextOf (.ref c) >>= _) _ _ _
  cases hx : xs[i]? with
  | none =>
    refine wpAny_bind (tup_stop hh (hc.extBut sa.extBut D.i1z) (ht.extBut sa.extBut D.l1z) hx fun kb e sb he => ?_)
    obtain ⟨oe, ge, ee⟩ := he
    have zb : IsZip kb z TI TO .ellipsis := sb _ _ D.i1z.symm za
    have ne : e ≠ z := fun x => by rw [x, zb] at ge; cases ge; simp at ee
    exact wpAny_setField_rec zb (by simp) fun kc _ sc => q kc e (fun f o n1 _ n3 _ g => sc.extBut _ _ n1 (sb _ _ n3 (sa.extBut _ _ n1 g))) ⟨oe, sc.extBut _ _ ne ge, ee⟩
  | some x =>
    have hy : ys[j]? = none := by
      rcases hend with h | h
      · rw [hx] at h; cases h
      · exact h
    refine wpAny_bind (tup_next (hc.extBut sa.extBut D.i1z) (ht.extBut sa.extBut D.l1z) hx fun kb cb sb => wpAny_pure ?_)
    have ob : IsPair kb TO a b := sb.extBut _ _ D.TOi1 (sa.extBut _ _ D.TOz hO)
    refine wpAny_bind (wpAny_seqItems ob rfl (wpAny_bind (wpAny_updateSeq_pair ob fun kc oc sc => ?_)))
    refine wpAny_bind (wpAny_letGo (wpAny_pure (wpAny_bind (wpAny_bind (wpAny_onRaise ?_)))))
    show wpAny _ _ (Builtin.SmallTypes.nextOf (.ref d) >>= _) _ _ _
    have dc : kc.IsTupleIter d u j := ((hd.extBut sa.extBut D.i2z).extBut sb.extBut D.i12.symm).extBut sc.extBut D.TOi2.symm
    have uc : kc.IsTuple u ys := ((hu.extBut sa.extBut D.l2z).extBut sb.extBut D.l2i1).extBut sc.extBut D.l2TO
    refine wpAny_bind (tup_stop hh dc uc hy fun kd e sd he => ?_)
    obtain ⟨oe, ge, ee⟩ := he
    have zd : IsZip kd z TI TO .ellipsis := sd _ _ D.i2z.symm (sc.extBut _ _ D.TOz.symm (sb.extBut _ _ D.i1z.symm za))
    have ne : e ≠ z := fun x => by rw [x, zd] at ge; cases ge; simp at ee
    exact wpAny_setField_rec zd (by simp) fun ke _ se => q ke e (fun f o n1 n2 n3 n4 g => se.extBut _ _ n1 (sd _ _ n4 (sc.extBut _ _ n2 (sb.extBut _ _ n3 (sa.extBut _ _ n1 g))))) ⟨oe, se.extBut _ _ ne ge, ee⟩
theorem next_tt {x y : Value} {Q : Option Value → Shared → Prop} (D : ZipApart z TI TO c d t u) (hz : IsZip s.heap z TI TO .none) (hI : IsPair s.heap TI (.ref c) (.ref d)) (hO : IsPair s.heap TO a b)
    (hc : s.heap.IsTupleIter c t i) (hd : s.heap.IsTupleIter d u j) (ht : s.heap.IsTuple t xs) (hu : s.heap.IsTuple u ys) (hx : xs[i]? = some x) (hy : ys[j]? = some y)
    (q : ∀ k, IsZip k z TI TO (rawInt s.heap.objs.size) → IsPair k TO x y → k.IsTupleIter c t (i + 1) → k.IsTupleIter d u (j + 1) → IsPair k s.heap.objs.size x y → k.objs.size = s.heap.objs.size + 1 →
      (∀ e o, e ≠ z → e ≠ TO → e ≠ c → e ≠ d → s.heap.get? e = some o → k.get? e = some o) → Q (some (.ref s.heap.objs.size)) { s with heap := k }) : wpAny (model prog w) A (pyNext (.ref z)) Q E s := by
  have ty : s.TypeIs (.ref z) "zip" := ⟨_, hz, rfl⟩
  unfold pyNext
  exact wpAny_bind (wpAny_attempt (wpAny_callSpecial?_slot (name := Str.ofString "__next__") ty F.slot_zip_next (wpAny_call_entry F.slot_zip_next ty F.entry_zip_next (item_tt D hz hI hO hc hd ht hu hx hy fun k a1 a2 a3 a4 a5 a6 a7 => wpAny_pure (q k a1 a2 a3 a4 a5 a6 a7)) (F.args_zip_next_1 _))))
theorem last_tt {Q : Option Value → Shared → Prop} (hh : A.handled = none) (D : ZipApart z TI TO c d t u) (hz : IsZip s.heap z TI TO .none) (hI : IsPair s.heap TI (.ref c) (.ref d)) (hO : IsPair s.heap TO a b)
    (hc : s.heap.IsTupleIter c t i) (hd : s.heap.IsTupleIter d u j) (ht : s.heap.IsTuple t xs) (hu : s.heap.IsTuple u ys) (hend : xs[i]? = none ∨ ys[j]? = none)
    (q : ∀ k, (∀ f o, f ≠ z → f ≠ TO → f ≠ c → f ≠ d → s.heap.get? f = some o → k.get? f = some o) → Q none { s with heap := k }) : wpAny (model prog w) A (pyNext (.ref z)) Q E s := by
  have ty : s.TypeIs (.ref z) "zip" := ⟨_, hz, rfl⟩
  unfold pyNext
  refine wpAny_bind (wpAny_attempt (wpAny_callSpecial?_slot (name := Str.ofString "__next__") ty F.slot_zip_next (wpAny_call_entry F.slot_zip_next ty F.entry_zip_next (stop_tt hh D hz hI hO hc hd ht hu hend fun k e hk he => ?_) (F.args_zip_next_1 _))))
  obtain ⟨oe, ge, ee⟩ := he
  exact wpAny_bind (wpAny_isInstance (T := "StopIteration") (b := true) ⟨oe, ge, ee⟩ isSubtype_stop (wpAny_pure (q _ hk)))
end
noncomputable abbrev itT (l : Addr) : Obj := { cls := .type "tuple_iterator", data := .fields #[.ref l, .int 0 0] }
noncomputable abbrev zA (h : Heap) (l : Addr) : Heap := h.push (itT l)
noncomputable abbrev zB (h : Heap) (l m : Addr) : Heap := (zA h l).push (itT m)
noncomputable abbrev zC (h : Heap) (l m : Addr) : Heap := (zB h l m).push { cls := .type "tuple", data := .seq #[.ref h.objs.size, .ref (zA h l).objs.size] }
noncomputable abbrev zD (h : Heap) (l m : Addr) : Heap := (zC h l m).push { cls := .type "tuple", data := .seq #[.none, .none] }
noncomputable abbrev zE (h : Heap) (l m : Addr) : Heap := (zD h l m).push { cls := .type "zip", data := .fields #[.none, .bool false, .bool false, .ref (zB h l m).objs.size, .ref (zC h l m).objs.size] }
theorem new_tt (l m : Addr) (xs ys : Array Value) : Meets (Builtin.«zip.__new__» ⟨[.type "zip", .ref l, .ref m], []⟩) (fun _ R s => s.heap.IsTuple l xs ∧ s.heap.IsTuple m ys ∧ R (.ok (.ret (.ref (zD s.heap l m).objs.size))) { s with heap := zE s.heap l m }) :=
  .of_wp fun prog w A R s h => by
    obtain ⟨hp, g, d, tk, os⟩ := s
    obtain ⟨ha, hb, h⟩ := h
    have sub := sub_zip
    have tA : Heap.IsTuple (Shared.heap ⟨hp, g, d, tk, os⟩) l xs := ha
    have tB : Heap.IsTuple (Shared.heap ⟨hp.push (itT l), g, d, tk, os⟩) m ys := Heap.IsTuple.push hb _
    wp_walk using wpAny_pyIter_tuple tA, wpAny_pyIter_tuple tB
    exact ⟨_, rfl, h⟩
section
variable {prog : Program} {w : World} {A : Around} {E : Value → Shared → Prop} {s : Shared}
theorem call_tt {l m : Addr} {xs ys : Array Value} {Q : Value → Shared → Prop} (ha : s.heap.IsTuple l xs) (hb : s.heap.IsTuple m ys)
    (q : ∀ k, IsZip k (s.heap.objs.size + 4) (s.heap.objs.size + 2) (s.heap.objs.size + 3) .none → IsPair k (s.heap.objs.size + 2) (.ref s.heap.objs.size) (.ref (s.heap.objs.size + 1)) → IsPair k (s.heap.objs.size + 3) .none .none →
      k.IsTupleIter s.heap.objs.size l 0 → k.IsTupleIter (s.heap.objs.size + 1) m 0 → (∀ c o, s.heap.get? c = some o → k.get? c = some o) → Q (.ref (s.heap.objs.size + 4)) { s with heap := k }) :
    wpAny (model prog w) A (call (.type "zip") [.ref l, .ref m]) Q E s := by
  refine callType_new F.called_zip (by decide) (F.typeCall_zip_2 _ _) (F.newCall_zip_2 _ _) (fun obj => F.args_object_init_3 obj _ _) F.entry_zip_new (new_tt l m xs ys) ⟨ha, hb, ?_⟩
  have n1 : (zA s.heap l).objs.size = s.heap.objs.size + 1 := Heap.size_push ..
  have n2 : (zB s.heap l m).objs.size = s.heap.objs.size + 2 := by rw [Heap.size_push, n1]
  have n3 : (zC s.heap l m).objs.size = s.heap.objs.size + 3 := by rw [Heap.size_push, n2]
  have n4 : (zD s.heap l m).objs.size = s.heap.objs.size + 4 := by rw [Heap.size_push, n3]
  have v5 : (zE s.heap l m).get? (zD s.heap l m).objs.size = some _ := Heap.get?_push_size _ rfl
  have v4 : (zE s.heap l m).get? (zC s.heap l m).objs.size = some _ := Heap.get?_push_of_some _ (Heap.get?_push_size _ rfl)
  have v3 : (zE s.heap l m).get? (zB s.heap l m).objs.size = some _ := Heap.get?_push_of_some _ (Heap.get?_push_of_some _ (Heap.get?_push_size _ rfl))
  have v2 : (zE s.heap l m).get? (zA s.heap l).objs.size = some _ := Heap.get?_push_of_some _ (Heap.get?_push_of_some _ (Heap.get?_push_of_some _ (Heap.get?_push_size _ rfl)))
  have v1 : (zE s.heap l m).get? s.heap.objs.size = some _ := Heap.get?_push_of_some _ (Heap.get?_push_of_some _ (Heap.get?_push_of_some _ (Heap.get?_push_of_some _ (Heap.get?_push_size _ rfl))))
  show _ ∧ _
  rw [n2, n3, n4] at v5
  rw [n1, n2] at v3
  rw [n3] at v4
  rw [n1] at v2
  rw [n4]
  exact ⟨⟨_, v5, rfl⟩, q _ v5 v3 v4 ⟨_, v1, rfl, rfl⟩ ⟨_, v2, rfl, rfl⟩ fun c o g => Heap.get?_push_of_some _ (Heap.get?_push_of_some _ (Heap.get?_push_of_some _ (Heap.get?_push_of_some _ (Heap.get?_push_of_some _ g))))⟩
end
end L2.ZT
namespace L2.L3
open PySem PySem.Spec PyProof.Rows
noncomputable def Itt (K : PySem.W.Frag) (l1 l2 : Addr) : It :=
  ⟨fun i H => ∃ xs ys x y, SqT K H l1 xs ∧ SqT K H l2 ys ∧ xs[i]? = some x ∧ ys[i]? = some y,
   fun i H v H' => ∃ T x y, H T = none ∧ v = .ref T ∧ H' = upd H T (.tup [x, y]) ∧ (∀ xs, SqT K H l1 xs → xs[i]? = some x) ∧ ∀ ys, SqT K H l2 ys → ys[i]? = some y,
   fun i H => ∃ xs ys, SqT K H l1 xs ∧ SqT K H l2 ys ∧ (xs.length ≤ i ∨ ys.length ≤ i)⟩
noncomputable def tnZt (z TI TO i1 i2 l1 l2 : Addr) (i : Nat) (h : Heap) : Prop := IsZip h z TI TO .none ∧ IsPair h TI (.ref i1) (.ref i2) ∧ (∃ a b, IsPair h TO a b) ∧ h.IsTupleIter i1 l1 i ∧ h.IsTupleIter i2 l2 i
noncomputable def zipT (fa fb : EF) : AF := fun ρ => match fa ρ, fb ρ with
  | some (.ok (.tuple a)), some (.ok (.tuple b)) => some (.ok (zipD a b))
  | _, _ => none
theorem turn_zt {P : Program} {w : World} {K : PySem.W.Frag} {elts : List Expr} {k0 : Nat} {p0 : Pos} {z TI TO i1 i2 l1 l2 : Addr} (D : ZipApart z TI TO i1 i2 l1 l2) : Turn P w K (.Tuple elts k0 p0) (Itt K l1 l2) [z, TI, TO, i1, i2] z (tnZt z TI TO i1 i2 l1 l2) where
  mem := by simp
  obj := fun i h ⟨hz, hTI, ⟨a, b, hTO⟩, ⟨o1, g1, _, d1⟩, ⟨o2, g2, _, d2⟩⟩ c hc => by
    simp only [List.mem_cons, List.not_mem_nil, or_false] at hc
    rcases hc with rfl | rfl | rfl | rfl | rfl
    · exact ⟨_, hz, fun v q => by cases q⟩
    · exact ⟨_, hTI, fun v q => by cases q⟩
    · exact ⟨_, hTO, fun v q => by cases q⟩
    · exact ⟨o1, g1, fun v q => by rw [d1] at q; cases q⟩
    · exact ⟨o2, g2, fun v q => by rw [d2] at q; cases q⟩
  keep := fun i h h' ⟨hz, hTI, ⟨a, b, hTO⟩, h1, h2⟩ kp => ⟨kp z (by simp) _ hz, kp TI (by simp) _ hTI, ⟨a, b, kp TO (by simp) _ hTO⟩, h1.at fun o e => kp i1 (by simp) o e, h2.at fun o e => kp i2 (by simp) o e⟩
  item := by
    intro X hP hw hK hc i pins s σ H E I hf ⟨hz, hTI, ⟨a, b, hTO⟩, h1, h2⟩ ⟨xs, ys, x, y, q1, q2, ex, ey⟩
    subst hP hw hK
    obtain ⟨its, r1, p1, _⟩ := I.tuple q1
    obtain ⟨its2, r2, p2, _⟩ := I.tuple q2
    obtain ⟨u, eu, ru⟩ := r1.get ex
    obtain ⟨v, ev, rv⟩ := r2.get ey
    refine ZT.next_tt D hz hTI hTO h1 h2 p1 p2 (x := u) (y := v) (by rw [List.getElem?_toArray]; exact eu) (by rw [List.getElem?_toArray]; exact ev) fun h' a1 a2 a3 a4 a5 a6 hk => ⟨_, rfl, ?_⟩
    refine wpAny_letOwnedTupleGo_zip a1 fun h2' hz' hs' => ?_
    have hk2 : ∀ c o, c ∉ [z, TO, i1, i2] → s.heap.get? c = some o → h2'.get? c = some o := fun c o hc e => by
      simp only [List.mem_cons, List.not_mem_nil, or_false, not_or] at hc
      exact hs'.extBut c o hc.1 (hk c o hc.1 hc.2.1 hc.2.2.1 hc.2.2.2 e)
    have nT : s.heap.objs.size ≠ z := Nat.ne_of_gt (Heap.lt_size hz)
    have new : ObjOk X.prog X.w (upd H s.heap.objs.size (.tup [x, y])) h2' s.heap.objs.size (.tup [x, y]) :=
      ⟨by show 2 ≤ sizeLine; decide, [u, v], .cons ru (.cons rv .nil), ⟨_, hs'.extBut _ _ nT a5, rfl, _, rfl⟩⟩
    have hfT : H s.heap.objs.size = none := I.hok.fresh (Nat.le_refl _)
    refine ⟨.ref s.heap.objs.size, upd H s.heap.objs.size (.tup [x, y]), Inv.turnNew (s := s) (h' := h2') (t' := s.toks) [z, TO, i1, i2] I (fun c hc => hf c (by simp only [List.mem_cons, List.not_mem_nil, or_false] at hc ⊢; rcases hc with h | h | h | h <;> simp [h])) hk2 (Nat.le_refl _) new, rfl,
      ⟨_, x, y, hfT, rfl, rfl, fun xs' q => by rw [I.tuple_inj q q1]; exact ex, fun ys' q => by rw [I.tuple_inj q q2]; exact ey⟩, ⟨hz', hs'.extBut _ _ D.TIz (hk _ _ D.TIz D.TITO D.TIi1 D.TIi2 hTI), ⟨_, _, hs'.extBut _ _ D.TOz a2⟩, a3.extBut hs'.extBut D.i1z, a4.extBut hs'.extBut D.i2z⟩, fun c hc => ?_⟩
    obtain ⟨o, e, _⟩ : ∃ o, s.heap.get? c = some o ∧ True := by
      simp only [List.mem_cons, List.not_mem_nil, or_false] at hc
      rcases hc with rfl | rfl | rfl | rfl | rfl
      · exact ⟨_, hz, trivial⟩
      · exact ⟨_, hTI, trivial⟩
      · exact ⟨_, hTO, trivial⟩
      · obtain ⟨o, g, _⟩ := h1; exact ⟨o, g, trivial⟩
      · obtain ⟨o, g, _⟩ := h2; exact ⟨o, g, trivial⟩
    rw [upd_ne (Nat.ne_of_lt (Heap.lt_size e))]
    exact (hf c hc).1
  done := by
    intro X hP hw hK hc i pins s σ H E I hf ⟨hz, hTI, ⟨a, b, hTO⟩, h1, h2⟩ ⟨xs, ys, q1, q2, hend⟩
    subst hP hw hK
    obtain ⟨its, r1, p1, _⟩ := I.tuple q1
    obtain ⟨its2, r2, p2, _⟩ := I.tuple q2
    have l1' := r1.length
    have l2' := r2.length
    refine ZT.last_tt (I.ok.hd hc) D hz hTI hTO h1 h2 p1 p2 ?_ fun h' hk => ⟨rfl, Inv.turnAll (t' := s.toks) [z, TO, i1, i2] I (fun c hc => hf c (by simp only [List.mem_cons, List.not_mem_nil, or_false] at hc ⊢; rcases hc with h | h | h | h <;> simp [h])) fun c o hc e => ?_⟩
    · rcases hend with he | he
      · exact .inl (by rw [List.getElem?_toArray]; exact List.getElem?_eq_none (by omega))
      · exact .inr (by rw [List.getElem?_toArray]; exact List.getElem?_eq_none (by omega))
    · simp only [List.mem_cons, List.not_mem_nil, or_false, not_or] at hc
      exact hk c o hc.1 hc.2.1 hc.2.2.1 hc.2.2.2 e
  self := fun A i s Q E st h => wpAny_pyIter_zip st.1 h
theorem walk_zt {K : PySem.W.Frag} {G : Hp} {l1 l2 : Addr} {xs ys : List V} {ds es : List PyData} (h1 : SqT K G l1 xs) (r1 : RepAll K G xs ds) (h2 : SqT K G l2 ys) (r2 : RepAll K G ys es) : Walk K (Itt K l1 l2) G (zipD ds es) := by
  intro i G' H' s1 s2
  have a1 := seqT (s1.trans s2) h1
  have a2 := seqT (s1.trans s2) h2
  unfold zipD
  refine ⟨fun d e => ?_, fun hl => ⟨xs, ys, a1, a2, ?_⟩⟩
  · rw [List.getElem?_map] at e
    obtain ⟨⟨p, q⟩, e1, rfl⟩ := Option.map_eq_some_iff.mp e
    rw [List.getElem?_zip_eq_some] at e1
    obtain ⟨v, ev, rv⟩ := r1.get e1.1
    obtain ⟨u, eu, ru⟩ := r2.get e1.2
    refine ⟨⟨xs, ys, v, u, a1, a2, ev, eu⟩, fun x H2 ⟨T, x', y', hT, ex, eH, b1, b2⟩ => ?_⟩
    subst ex eH
    have b3 := b1 xs a1
    have b4 := b2 ys a2
    rw [ev] at b3
    rw [eu] at b4
    cases b3
    cases b4
    have hG : G' T = none := s2.free hT
    exact ⟨upd G' T (.tup [v, u]), .put s2 hT, .tuple (.of upd_same) (.cons ((rv.mono s1).mono (same_upd hG)) (.cons ((ru.mono s1).mono (same_upd hG)) .nil))⟩
  · rw [List.length_map, List.length_zip] at hl
    have e1 := r1.length
    have e2 := r2.length
    omega
section
variable {X : Cx} {a b : Expr} {elts : List Expr} {k0 : Nat} {p0 pos p : Pos} {fa fb : EF}
theorem di_zt0 (hm : X.mg "zip" = none) (ha : DE X a fa) (hb : DE X b fb) (hv : bootBuiltins "zip" = some (.type "zip") := by decide +kernel) (hs : starEach [a, b] X.env = (false, eval a X.env) :: starEach [b] X.env := by rfl) (hs2 : starEach [b] X.env = (false, eval b X.env) :: starEach [] X.env := by rfl)
    (hpl : (backTo pos (starEach [b] X.env)).any (·.1) = false := by rfl) (hg : Gl X "zip" := by rfl) : DI X (.Tuple elts k0 p0) (.Call (.Name "zip" p) [a, b] [] pos) (zipT fa fb) := di_of fun ρ r e => by
  unfold zipT at e
  split at e
  · rename_i as bs e1 e3
    refine ⟨_, (Option.some.inj e).symm, ⟨?_⟩⟩
    intro pins s σ H R I ⟨H0, G₀, G, S, q⟩
    have pa := pad_cons (ha.pd e1) (pad_cons (hb.pd e3) pad_nil hs2) hs
    refine wpAny_Call_Name_kw (ld_blt I hg hm hv ?_ (by decide) (by decide))
    refine PyProof.Rows.callWith_type1 (thn (pa.run H0 G₀ G pos pins s σ H (fun vs H' => ∃ G', Grow G H G' H' ∧ RepAll X.K G' vs [.tuple as, .tuple bs]) I S fun vs G' H' g r => ⟨G', g, r⟩) fun us s1 ⟨vs, H1, I1, r1, G1, g1, w1⟩ => ?_) hs hpl
    cases w1 with
    | cons wa wn => cases wn with
      | cons wb wn =>
        cases wn
        cases wa with
        | tuple hq ra => cases wb with
          | tuple hq2 rb =>
            obtain ⟨u, v, rfl, ru, rv⟩ := vals2 r1
            cases ru; cases rv
            obtain ⟨its, r1', p1, _⟩ := I1.tuple (seqT g1.sub hq)
            obtain ⟨its2, r2', p2, _⟩ := I1.tuple (seqT g1.sub hq2)
            refine ZT.call_tt p1 p2 fun h' z1 z2 z3 z4 z5 hk => ?_
            refine wpAny_pyIter_zip z1 ?_
            obtain ⟨o1, g1', _⟩ := p1
            obtain ⟨o2, g2', _⟩ := p2
            refine ⟨s1.heap.objs.size + 4, [s1.heap.objs.size + 4, s1.heap.objs.size + 2, s1.heap.objs.size + 3, s1.heap.objs.size, s1.heap.objs.size + 1], _, _, H1, rfl, I1.kept (h' := h') (t' := s1.toks) (fun b o e => hk b o e), turn_zt (zipApart_new (Heap.lt_size g1') (Heap.lt_size g2')), ⟨z1, z2, ⟨_, _, z3⟩, z4, z5⟩, fun c hc => ?_, q _ G1 H1 g1 (walk_zt hq ra hq2 rb)⟩
            have ge : s1.heap.objs.size ≤ c := by
              simp only [List.mem_cons, List.not_mem_nil, or_false] at hc
              rcases hc with h | h | h | h | h <;> rw [h] <;> first | exact Nat.le_add_right _ _ | exact Nat.le_refl _
            exact I1.fpOk ge (I1.hok.fresh ge)
  · cases e
noncomputable def zipX (fa fb : EF) : AF := fun ρ => match zipI fa fb ρ with
  | some r => some r
  | none => zipT fa fb ρ
theorem di_zipX (hm : X.mg "zip" = none) (ha : DE X a fa) (hb : DE X b fb) (hs : starEach [a, b] X.env = (false, eval a X.env) :: starEach [b] X.env := by rfl) (hs2 : starEach [b] X.env = (false, eval b X.env) :: starEach [] X.env := by rfl)
    (hpl : (backTo pos (starEach [b] X.env)).any (·.1) = false := by rfl) (hg : Gl X "zip" := by rfl) : DI X (.Tuple elts k0 p0) (.Call (.Name "zip" p) [a, b] [] pos) (zipX fa fb) := ⟨fun pins s σ H R I ⟨ρ, r, H0, G₀, G, e, S, q⟩ => by
  unfold zipX at e
  split at e
  · rename_i r' e1
    cases (Option.some.inj e)
    exact (di_zip hm ha hb (by decide +kernel) hs hs2 hpl hg).run pins s σ H R I ⟨ρ, _, H0, G₀, G, e1, S, q⟩
  · exact (di_zt0 hm ha hb (by decide +kernel) hs hs2 hpl hg).run pins s σ H R I ⟨ρ, _, H0, G₀, G, e, S, q⟩⟩
end
end L2.L3
namespace L2.L3
open PySem
theorem bnd_ok {α β : Type} {m : Mm α} {a : α} {k : α → Mm β} (h : m = some (.ok a)) : bnd m k = k a := by rw [h]; rfl
theorem bns_ok {α : Type} {m : Mm α} {ρ : List Ent} {a : α} {k : α → Option So} (h : m = some (.ok a)) : bns m ρ k = k a := by rw [h]; rfl
theorem loopC_map {α : Type} {t : Tg} {ρb : List Ent} {ft : TF} {fe : EF} (φ : α → PyData) (ρx : α → List Ent) (c : α → Bool) (v : α → PyData) : ∀ (xs : List α), (∀ x ∈ xs, tgD t ρb (φ x) = some (ρx x)) → (∀ x ∈ xs, ft (ρx x) = some (.ok (c x))) → (∀ x ∈ xs, c x = true → fe (ρx x) = some (.ok (v x))) →
    loopC t ρb ft fe (xs.map φ) = some ((xs.filter c).map v)
  | [], _, _, _ => rfl
  | x :: xs, h1, h2, h3 => by
    have ih := loopC_map φ ρx c v xs (fun y hy => h1 y (List.mem_cons_of_mem _ hy)) (fun y hy => h2 y (List.mem_cons_of_mem _ hy)) (fun y hy => h3 y (List.mem_cons_of_mem _ hy))
    have e1 := h1 x List.mem_cons_self
    have e2 := h2 x List.mem_cons_self
    rw [List.map_cons, loopC, e1]
    dsimp only
    rw [e2]
    cases hc : c x with
    | true =>
      have e3 := h3 x List.mem_cons_self hc
      dsimp only
      rw [e3]
      dsimp only
      rw [ih, List.filter_cons_of_pos hc]
      rfl
    | false =>
      dsimp only
      rw [ih, List.filter_cons_of_neg (by rw [hc]; decide)]
theorem compE_map {α : Type} {t : Tg} {cap : List (Option Nat)} {fi : AF} {ft : TF} {fe : EF} {ρ : List Ent} (φ : α → PyData) (ρx : α → List Ent) (c : α → Bool) (v : α → PyData) (xs : List α) (hi : fi ρ = some (.ok (xs.map φ))) (hz : xs.length ≤ 100000)
    (h1 : ∀ x ∈ xs, tgD t (capE cap ρ) (φ x) = some (ρx x)) (h2 : ∀ x ∈ xs, ft (ρx x) = some (.ok (c x))) (h3 : ∀ x ∈ xs, c x = true → fe (ρx x) = some (.ok (v x))) :
    compE t cap fi ft fe ρ = some (.ok (.list ((xs.filter c).map v))) := by
  unfold compE
  rw [bnd_ok hi, List.length_map, if_pos (by unfold szOk; exact decide_eq_true hz), loopC_map φ ρx c v xs h1 h2 h3]
  rfl
theorem filter_all {α : Type} {c : α → Bool} {xs : List α} (h : ∀ x ∈ xs, c x = true) : xs.filter c = xs := List.filter_eq_self.mpr h
theorem compE_all {α : Type} {t : Tg} {cap : List (Option Nat)} {fi : AF} {fe : EF} {ρ : List Ent} (φ : α → PyData) (ρx : α → List Ent) (v : α → PyData) (xs : List α) (hi : fi ρ = some (.ok (xs.map φ))) (hz : xs.length ≤ 100000)
    (h1 : ∀ x ∈ xs, tgD t (capE cap ρ) (φ x) = some (ρx x)) (h3 : ∀ x ∈ xs, fe (ρx x) = some (.ok (v x))) :
    compE t cap fi ttT fe ρ = some (.ok (.list (xs.map v))) := by
  rw [compE_map φ ρx (fun _ => true) v xs hi hz h1 (fun _ _ => rfl) (fun x hx _ => h3 x hx), filter_all (fun _ _ => rfl)]
section
variable {α β : Type} {ρ : List Ent} {fa fb fc fd : EF} {ft fu : TF} {aa : AF} {d e : PyData} {i j k : Int}
@[simp] theorem bnd_r (a : α) (k : α → Mm β) : bnd (some (.ok a)) k = k a := rfl
@[simp] theorem bnd_x (c : Str) (k : α → Mm β) : bnd (some (.ex c)) k = some (.ex c) := rfl
@[simp] theorem bns_r (a : α) (k : α → Option So) : bns (some (.ok a)) ρ k = k a := rfl
@[simp] theorem bns_x (c : Str) (k : α → Option So) : bns (some (.ex c)) ρ k = some (.xc c ρ) := rfl
@[simp] theorem lft_s (a : α) : lft (some a) = some (.ok a) := rfl
@[simp] theorem cst_e : cst d ρ = some (.ok d) := rfl
@[simp] theorem var_0 (d : PyData) (r : List Ent) : var 0 (.val d :: r) = some (.ok d) := rfl
@[simp] theorem var_s (n : Nat) (x : Ent) (r : List Ent) : var (n + 1) (x :: r) = var n r := rfl
@[simp] theorem op2_e (g : PyData → PyData → Option PyData) : op2 g fa fb ρ = bnd (fa ρ) fun x => bnd (fb ρ) fun y => lft (g x y) := rfl
@[simp] theorem op1_e (g : PyData → Option PyData) : op1 g fa ρ = bnd (fa ρ) fun x => lft (g x) := rfl
@[simp] theorem aNil_e : aNil ρ = some (.ok []) := rfl
@[simp] theorem aCons_e : aCons fa aa ρ = bnd (fa ρ) fun x => bnd (aa ρ) fun xs => some (.ok (x :: xs)) := rfl
@[simp] theorem tupE_e : tupE aa ρ = bnd (aa ρ) fun xs => lft (mkTup xs) := rfl
@[simp] theorem lstE_e : lstE aa ρ = bnd (aa ρ) fun xs => lft (mkLst xs) := rfl
@[simp] theorem szOk_e (n : Nat) : szOk n = decide (n ≤ 100000) := rfl
@[simp] theorem mkTup_e (ds : List PyData) : mkTup ds = if ds.length ≤ 100000 then some (.tuple ds) else none := by unfold mkTup szOk; by_cases h : ds.length ≤ 100000 <;> simp [h]
@[simp] theorem mkLst_e (ds : List PyData) : mkLst ds = if ds.length ≤ 100000 then some (.list ds) else none := by unfold mkLst szOk; by_cases h : ds.length ≤ 100000 <;> simp [h]
@[simp] theorem cmpE_e (g : PyData → PyData → Option Bool) : cmpE g fa fb ρ = bnd (fa ρ) fun x => bnd (fb ρ) fun y => lft ((g x y).map .bool) := rfl
@[simp] theorem cmpT_e (g : PyData → PyData → Option Bool) : cmpT g fa fb ρ = bnd (fa ρ) fun x => bnd (fb ρ) fun y => lft (g x y) := rfl
@[simp] theorem chnE_e (g g' : PyData → PyData → Option Bool) : chnE g g' fa fb fc ρ = bnd (fa ρ) fun x => bnd (fb ρ) fun y => bnd (lft (g x y)) fun t => if t then bnd (fc ρ) fun z => lft ((g' y z).map .bool) else some (.ok (.bool false)) := rfl
@[simp] theorem chnT_e (g g' : PyData → PyData → Option Bool) : chnT g g' fa fb fc ρ = bnd (fa ρ) fun x => bnd (fb ρ) fun y => bnd (lft (g x y)) fun t => if t then bnd (fc ρ) fun z => lft (g' y z) else some (.ok false) := rfl
@[simp] theorem truT_e : truT fa ρ = bnd (fa ρ) fun x => lft (truD x) := rfl
@[simp] theorem truD_b (b : Bool) : truD (.bool b) = some b := rfl
@[simp] theorem truD_l (ds : List PyData) : truD (.list ds) = some (!ds.isEmpty) := rfl
@[simp] theorem truD_t (ds : List PyData) : truD (.tuple ds) = some (!ds.isEmpty) := rfl
@[simp] theorem truD_i (i : Int) : truD (.int i) = some (i != 0) := rfl
@[simp] theorem truD_n : truD .none = some false := rfl
@[simp] theorem notT_e : notT ft ρ = bnd (ft ρ) fun t => some (.ok (!t)) := rfl
@[simp] theorem notE_e : notE fa ρ = bnd (fa ρ) fun x => lft ((boolD x).map fun t => .bool (!t)) := rfl
@[simp] theorem boolD_b (b : Bool) : boolD (.bool b) = some b := rfl
@[simp] theorem intD_i (i : Int) : intD (.int i) = some i := rfl
@[simp] theorem strD_s (i : Str) : strD (.str i) = some i := rfl
@[simp] theorem andT_e : andT ft fu ρ = bnd (ft ρ) fun t => if t then fu ρ else some (.ok false) := rfl
@[simp] theorem orT_e : orT ft fu ρ = bnd (ft ρ) fun t => if t then some (.ok true) else fu ρ := rfl
@[simp] theorem andE_e : andE fa fb ρ = bnd (fa ρ) fun x => bnd (lft (boolD x)) fun t => if t then fb ρ else some (.ok (.bool false)) := rfl
@[simp] theorem orE_e : orE fa fb ρ = bnd (fa ρ) fun x => bnd (lft (boolD x)) fun t => if t then some (.ok (.bool true)) else fb ρ := rfl
@[simp] theorem ifE_e : ifE ft fa fb ρ = bnd (ft ρ) fun t => if t then fa ρ else fb ρ := rfl
@[simp] theorem bltE_e (g : List PyData → Option PyData) : bltE g aa ρ = bnd (aa ρ) fun xs => lft (g xs) := rfl
@[simp] theorem callE_e (F : List PyData → Mm PyData) : callE F aa ρ = bnd (aa ρ) fun ds => (match F ds with | some (.ok d) => some (.ok d) | _ => none) := rfl
@[simp] theorem add_ii : addD (.int i) (.int j) = some (.int (i + j)) := rfl
@[simp] theorem sub_ii : subD (.int i) (.int j) = some (.int (i - j)) := rfl
@[simp] theorem neg_i : negD (.int i) = some (.int (-i)) := rfl
@[simp] theorem add_tt (a b : List PyData) : addD (.tuple a) (.tuple b) = if a.length + b.length ≤ 100000 then some (.tuple (a ++ b)) else none := by
  show (if szOk (a.length + b.length) = true then _ else _) = _
  by_cases h : a.length + b.length ≤ 100000 <;> simp [h]
@[simp] theorem add_ll (a b : List PyData) : addD (.list a) (.list b) = if a.length + b.length ≤ 100000 then some (.list (a ++ b)) else none := by
  show (if szOk (a.length + b.length) = true then _ else _) = _
  by_cases h : a.length + b.length ≤ 100000 <;> simp [h]
@[simp] theorem lt_ii : ltD (.int i) (.int j) = some (decide (i < j)) := rfl
@[simp] theorem le_ii : leD (.int i) (.int j) = some (decide (i ≤ j)) := rfl
@[simp] theorem gt_ii : gtD (.int i) (.int j) = some (decide (j < i)) := rfl
@[simp] theorem ge_ii : geD (.int i) (.int j) = some (decide (j ≤ i)) := rfl
@[simp] theorem eq_ii : eqD (.int i) (.int j) = some (decide (i = j)) := rfl
@[simp] theorem ne_ii : neD (.int i) (.int j) = some (!decide (i = j)) := rfl
@[simp] theorem eq_ss (a b : Str) : eqD (.str a) (.str b) = some (decide (a = b)) := rfl
@[simp] theorem ne_ss (a b : Str) : neD (.str a) (.str b) = some (!decide (a = b)) := rfl
@[simp] theorem eq_bb (a b : Bool) : eqD (.bool a) (.bool b) = some (decide (a = b)) := rfl
@[simp] theorem ne_bb (a b : Bool) : neD (.bool a) (.bool b) = some (!decide (a = b)) := rfl
@[simp] theorem mod_ii : modD (.int i) (.int j) = if 0 < j then some (.int (i % j)) else none := rfl
@[simp] theorem fdv_ii : fdvD (.int i) (.int j) = if 0 < j ∧ j < 1073741824 then some (.int (i / j)) else none := rfl
theorem mul_iiR (h1 : -(2 ^ 64) < j) (h2 : j < 2 ^ 64) : mulD (.int i) (.int j) = some (.int (i * j)) := by
  show (if (smallI i || smallI j) = true then _ else _) = _
  rw [if_pos]; simp [smallI]; right; omega
theorem mul_iiL (h1 : -(2 ^ 64) < i) (h2 : i < 2 ^ 64) : mulD (.int i) (.int j) = some (.int (i * j)) := by
  show (if (smallI i || smallI j) = true then _ else _) = _
  rw [if_pos]; simp [smallI]; left; omega
@[simp] theorem len_l (xs : List PyData) : lenD [.list xs] = some (.int xs.length) := rfl
@[simp] theorem len_t (xs : List PyData) : lenD [.tuple xs] = some (.int xs.length) := rfl
@[simp] theorem max_ii : maxD [.int i, .int j] = some (.int (max i j)) := rfl
@[simp] theorem min_ii : minD [.int i, .int j] = some (.int (min i j)) := rfl
@[simp] theorem tup_l (xs : List PyData) : tupD [.list xs] = some (.tuple xs) := rfl
@[simp] theorem tup_t (xs : List PyData) : tupD [.tuple xs] = some (.tuple xs) := rfl
@[simp] theorem lst_l (xs : List PyData) : lstD [.list xs] = some (.list xs) := rfl
@[simp] theorem lst_t (xs : List PyData) : lstD [.tuple xs] = some (.list xs) := rfl
@[simp] theorem int_b (b : Bool) : intC [.bool b] = some (.int (if b then 1 else 0)) := rfl
@[simp] theorem seqI_e : seqI fa ρ = bnd (fa ρ) fun x => lft (seqD x) := rfl
@[simp] theorem seqD_l (ds : List PyData) : seqD (.list ds) = some ds := rfl
@[simp] theorem seqD_t (ds : List PyData) : seqD (.tuple ds) = some ds := rfl
@[simp] theorem ixD_t (ds : List PyData) : ixD (.tuple ds) (.int i) = atI ds i := rfl
@[simp] theorem ixD_l (ds : List PyData) : ixD (.list ds) (.int i) = atI ds i := rfl
theorem atI_nn {xs : List α} (n : Nat) : atI xs (n : Int) = xs[n]? := by
  unfold atI ixN
  rw [if_pos (by omega)]
  by_cases h : n < xs.length
  · rw [if_pos (by omega)]; simp
  · rw [if_neg (by omega)]; rw [List.getElem?_eq_none (by omega)]; rfl
@[simp] theorem at_0 (a : α) (r : List α) : atI (a :: r) 0 = some a := by
  unfold atI ixN
  rw [if_pos (by decide), if_pos (by simp <;> omega)]; rfl
@[simp] theorem at_1 (a b : α) (r : List α) : atI (a :: b :: r) 1 = some b := by
  unfold atI ixN
  rw [if_pos (by decide), if_pos (by simp <;> omega)]; rfl
@[simp] theorem at_2 (a b c : α) (r : List α) : atI (a :: b :: c :: r) 2 = some c := by
  unfold atI ixN
  rw [if_pos (by decide), if_pos (by simp <;> omega)]; rfl
@[simp] theorem at_3 (a b c d : α) (r : List α) : atI (a :: b :: c :: d :: r) 3 = some d := by
  unfold atI ixN
  rw [if_pos (by decide), if_pos (by simp <;> omega)]; rfl
theorem at_last (xs : List α) (a : α) : atI (xs ++ [a]) (-1) = some a := by
  unfold atI ixN
  rw [if_neg (by decide), if_pos (by simp; omega)]
  have e : (-1 + (((xs ++ [a]).length : Nat) : Int)).toNat = xs.length := by simp; omega
  rw [e]
  simp
@[simp] theorem nilS_e : nilS ρ = some (.nx ρ) := rfl
@[simp] theorem retS_e : retS fa ρ = bns (fa ρ) ρ fun d => some (.rt d) := rfl
@[simp] theorem exprS_e : exprS fa ρ = bns (fa ρ) ρ fun _ => some (.nx ρ) := rfl
@[simp] theorem setS_e (i : Nat) : setS i fa ρ = bns (fa ρ) ρ fun d => some (.nx (ρ.set i (.val d))) := rfl
@[simp] theorem unpS_e (t : Tg) : unpS t fa ρ = bns (fa ρ) ρ fun d => (tgD t ρ d).map So.nx := rfl
@[simp] theorem ifS_e (f g : SF) : ifS ft f g ρ = bns (ft ρ) ρ fun t => if t then f ρ else g ρ := rfl
@[simp] theorem forS_e (t : Tg) (fb : SF) : forS t aa fb ρ = bns (aa ρ) ρ fun ds => loopS t fb ds ρ := rfl
@[simp] theorem newS_e (i : Nat) : newS i aa ρ = bns (aa ρ) ρ fun ds => if ds.length ≤ 100000 then some (.nx (ρ.set i (.lst ds))) else none := by
  unfold newS szOk; cases aa ρ with
  | none => rfl
  | some r => cases r with
    | ok ds => by_cases h : ds.length ≤ 100000 <;> simp [bns, h]
    | ex c => rfl
theorem seqS_nx {f g : SF} {ρ' : List Ent} (h : f ρ = some (.nx ρ')) : seqS f g ρ = g ρ' := by unfold seqS; rw [h]
theorem seqS_rt {f g : SF} (h : f ρ = some (.rt d)) : seqS f g ρ = some (.rt d) := by unfold seqS; rw [h]
@[simp] theorem tg_nm (i : Nat) : tgD (.nm i) ρ d = some (ρ.set i (.val d)) := rfl
@[simp] theorem tg_tp2 (i j : Nat) (a b : PyData) : tgD (.tp [i, j]) ρ (.tuple [a, b]) = some ((ρ.set i (.val a)).set j (.val b)) := rfl
@[simp] theorem tg_tp3 (i j k : Nat) (a b c : PyData) : tgD (.tp [i, j, k]) ρ (.tuple [a, b, c]) = some (((ρ.set i (.val a)).set j (.val b)).set k (.val c)) := rfl
@[simp] theorem tg_tp4 (i j k l : Nat) (a b c d : PyData) : tgD (.tp [i, j, k, l]) ρ (.tuple [a, b, c, d]) = some ((((ρ.set i (.val a)).set j (.val b)).set k (.val c)).set l (.val d)) := rfl
end
end L2.L3
namespace L2.L3
open PySem
theorem loopS_inv {α : Type} {t : Tg} {fb : SF} (φ : α → PyData) (P : Nat → List Ent → Prop) : ∀ (xs : List α) (i : Nat) (ρ : List Ent), P i ρ →
    (∀ (j : Nat) (x : α) (ρ : List Ent), xs[j]? = some x → P (i + j) ρ → ∃ ρ1 ρ2, tgD t ρ (φ x) = some ρ1 ∧ (fb ρ1 = some (.nx ρ2) ∨ fb ρ1 = some (.ct ρ2)) ∧ P (i + j + 1) ρ2) →
    ∃ ρ', loopS t fb (xs.map φ) ρ = some (.nx ρ') ∧ P (i + xs.length) ρ'
  | [], i, ρ, h, _ => ⟨ρ, rfl, by simpa using h⟩
  | x :: xs, i, ρ, h, turn => by
    obtain ⟨ρ1, ρ2, e1, e2, h2⟩ := turn 0 x ρ rfl (by simpa using h)
    obtain ⟨ρ', e3, h3⟩ := loopS_inv φ P xs (i + 1) ρ2 (by simpa using h2) (fun j y ρ hy hp => by
      have e : i + 1 + j = i + (j + 1) := by omega
      rw [e] at hp ⊢
      exact turn (j + 1) y ρ (by simpa using hy) hp)
    refine ⟨ρ', ?_, by rw [List.length_cons, show i + (xs.length + 1) = i + 1 + xs.length by omega]; exact h3⟩
    rw [List.map_cons, loopS, e1]
    dsimp only
    rcases e2 with e2 | e2 <;> (rw [e2]; exact e3)
theorem loopS_all {α : Type} {t : Tg} {fb : SF} (φ : α → PyData) (P : List Ent → Prop) (xs : List α) (ρ : List Ent) (h : P ρ)
    (turn : ∀ x ∈ xs, ∀ ρ, P ρ → ∃ ρ1 ρ2, tgD t ρ (φ x) = some ρ1 ∧ (fb ρ1 = some (.nx ρ2) ∨ fb ρ1 = some (.ct ρ2)) ∧ P ρ2) : ∃ ρ', loopS t fb (xs.map φ) ρ = some (.nx ρ') ∧ P ρ' :=
  loopS_inv φ (fun _ => P) xs 0 ρ h fun j x ρ hx hp => turn x (List.mem_of_getElem? hx) ρ hp
theorem appS_at {i : Nat} {fa : EF} {ρ : List Ent} {ds : List PyData} {d : PyData} (h : ρ[i]? = some (.lst ds)) (ha : fa ρ = some (.ok d)) (hz : ds.length ≤ 100000) : appS i fa ρ = some (.nx (ρ.set i (.lst (ds ++ [d])))) := by
  unfold appS
  rw [h]
  dsimp only
  rw [bns_ok ha, if_pos (by unfold szOk; exact decide_eq_true hz)]
theorem rng1_at {fa : EF} {ρ : List Ent} {n : Int} (h : fa ρ = some (.ok (.int n))) (h1 : -1000000000 ≤ n) (h2 : n ≤ 1000000000) : rng1 fa ρ = some (.ok (rangeD 0 n.toNat)) := by
  unfold rng1
  rw [h]
  dsimp only
  rw [if_pos]
  simp [inRng]; omega
theorem rng2_at {fa fb : EF} {ρ : List Ent} {m n : Int} (h : fa ρ = some (.ok (.int m))) (h' : fb ρ = some (.ok (.int n))) (h1 : -1000000000 ≤ n) (h2 : n ≤ 1000000000) (h3 : -1000000000 ≤ m) (h4 : m ≤ 1000000000) : rng2 fa fb ρ = some (.ok (rangeD m (n - m).toNat)) := by
  unfold rng2
  rw [h, h']
  dsimp only
  rw [if_pos]
  simp [inRng]; omega
end L2.L3
namespace L2.L3
open PySem
theorem atI_getD {α : Type} {xs : List α} {p : Int} (h0 : 0 ≤ p) (h1 : p < xs.length) (dflt : α) : atI xs p = some (xs.getD p.toNat dflt) := by
  have e : ((p.toNat : Nat) : Int) = p := by omega
  have lt : p.toNat < xs.length := by omega
  have q := atI_nn (xs := xs) p.toNat
  rw [e] at q
  rw [q]
  simp [List.getD, List.getElem?_eq_getElem lt]
theorem getD_map {α β : Type} (f : α → β) (xs : List α) (i : Nat) (d : α) : (xs.map f).getD i (f d) = f (xs.getD i d) := by
  simp only [List.getD, List.getElem?_map]
  cases xs[i]? <;> rfl
theorem atI_map {α β : Type} (f : α → β) {xs : List α} {p : Int} (h0 : 0 ≤ p) (h1 : p < xs.length) (dflt : α) : atI (xs.map f) p = some (f (xs.getD p.toNat dflt)) := by
  rw [atI_getD h0 (by rw [List.length_map]; exact h1) (f dflt), getD_map]
noncomputable def cellOf (ns : List Int) (k : Int) : Int :=
  if k < ns.length then ns.getD k.toNat 0 else if ns = [] then 0 else ns.getD (k % (ns.length : Int)).toNat 0 * 31 + k
noncomputable def drawnOf (ns : List Int) (k : Int) : Int := (cellOf ns k + 6151 * (k + 1)) * 40692 % 2147483399
noncomputable def pickOf (ns : List Int) (k many : Int) : Int := (drawnOf ns k * drawnOf ns k + drawnOf ns k / 31) % 2147483629 % many
theorem pick_lo (ns : List Int) (k : Int) {many : Int} (h : 0 < many) : 0 ≤ pickOf ns k many := Int.emod_nonneg _ (by omega)
theorem pick_hi (ns : List Int) (k : Int) {many : Int} (h : 0 < many) : pickOf ns k many < many := Int.emod_lt_of_pos _ h
noncomputable abbrev dN (ns : List Int) : PyData := .list (ns.map .int)
theorem sh_list {ds : List PyData} {n : Nat} (h1 : ∀ d ∈ ds, PyData.canLay0 d = true) (h2 : ∀ d ∈ ds, PyData.depth d ≤ n) (h3 : n < 64) : SeqAt.shaped (.list ds) = true := by
  refine shaped_of (n := n + 1) ?_ ?_ h3
  · rw [PyData.canLay0]; exact canLayAll_of h1
  · rw [PyData.depth]; have := depthAll_of h2; omega
theorem sh_tuple {ds : List PyData} {n : Nat} (h1 : ∀ d ∈ ds, PyData.canLay0 d = true) (h2 : ∀ d ∈ ds, PyData.depth d ≤ n) (h3 : n < 64) : SeqAt.shaped (.tuple ds) = true := by
  refine shaped_of (n := n + 1) ?_ ?_ h3
  · rw [PyData.canLay0]; exact canLayAll_of h1
  · rw [PyData.depth]; have := depthAll_of h2; omega
theorem sh_ints (ns : List Int) : SeqAt.shaped (.list (ns.map .int)) = true := sh_list (n := 1) (fun d hd => by obtain ⟨i, _, rfl⟩ := List.mem_map.mp hd; simp [PyData.canLay0]) (fun d hd => by obtain ⟨i, _, rfl⟩ := List.mem_map.mp hd; simp [PyData.depth]) (by decide)
theorem eq_lists {a b : List PyData} (h1 : SeqAt.shaped (.list a) = true) (h2 : SeqAt.shaped (.list b) = true) : eqD (.list a) (.list b) = some (PyData.eqvAll a b) := by
  show (if (SeqAt.shaped (.list a) && SeqAt.shaped (.list b)) = true then some (PyData.eqv (.list a) (.list b)) else none) = _
  rw [h1, h2, if_pos (by rfl), eqv_list]
theorem ne_lists {a b : List PyData} (h1 : SeqAt.shaped (.list a) = true) (h2 : SeqAt.shaped (.list b) = true) : neD (.list a) (.list b) = some (!PyData.eqvAll a b) := by
  show (if (SeqAt.shaped (.list a) && SeqAt.shaped (.list b)) = true then some (!PyData.eqv (.list a) (.list b)) else none) = _
  rw [h1, h2, if_pos (by rfl), eqv_list]
theorem ne_tuples {a b : List PyData} (h1 : SeqAt.shaped (.tuple a) = true) (h2 : SeqAt.shaped (.tuple b) = true) : neD (.tuple a) (.tuple b) = some (!PyData.eqvAll a b) := by
  show (if (SeqAt.shaped (.tuple a) && SeqAt.shaped (.tuple b)) = true then some (!PyData.eqv (.tuple a) (.tuple b)) else none) = _
  rw [h1, h2, if_pos (by rfl), eqv_tuple]
theorem eq_ints (a b : List Int) : eqD (.list (a.map .int)) (.list (b.map .int)) = some (decide (a = b)) := by rw [eq_lists (sh_ints a) (sh_ints b), eqvAll_ints]
theorem ne_ints (a b : List Int) : neD (.list (a.map .int)) (.list (b.map .int)) = some (!decide (a = b)) := by rw [ne_lists (sh_ints a) (sh_ints b), eqvAll_ints]
theorem sh_nil : SeqAt.shaped (.list []) = true := by decide +kernel
theorem eqv_nil (ds : List PyData) : PyData.eqvAll ds [] = ds.isEmpty := by cases ds <;> simp [PyData.eqvAll]
theorem eq_nil {ds : List PyData} (h : SeqAt.shaped (.list ds) = true) : eqD (.list ds) (.list []) = some ds.isEmpty := by rw [eq_lists h sh_nil, eqv_nil]
theorem ne_nil {ds : List PyData} (h : SeqAt.shaped (.list ds) = true) : neD (.list ds) (.list []) = some (!ds.isEmpty) := by rw [ne_lists h sh_nil, eqv_nil]
noncomputable abbrev t1_l_cell : TF := cmpT ltD (var 1) (bltE lenD (aCons (var 0) aNil))
noncomputable abbrev t2_l_cell : TF := cmpT eqD (var 0) (lstE aNil)
noncomputable def f_l_cell : SF := (seqS (ifS t1_l_cell (retS (op2 ixD (var 0) (var 1))) nilS) (seqS (ifS t2_l_cell (retS (cst (.int 0))) nilS) (retS (op2 addD (op2 mulD (op2 ixD (var 0) (op2 modD (var 1) (bltE lenD (aCons (var 0) aNil)))) (cst (.int 31))) (var 1)))))
noncomputable def F_l_cell : List PyData → Mm PyData := runD 2 2 f_l_cell
noncomputable def f_l_pick : SF := (seqS (setS 3 (op2 modD (op2 mulD (op2 addD (callE F_l_cell (aCons (var 0) (aCons (var 1) aNil))) (op2 mulD (cst (.int 6151)) (op2 addD (var 1) (cst (.int 1))))) (cst (.int 40692))) (cst (.int 2147483399)))) (retS (op2 modD (op2 modD (op2 addD (op2 mulD (var 3) (var 3)) (op2 fdvD (var 3) (cst (.int 31)))) (cst (.int 2147483629))) (var 2))))
noncomputable def F_l_pick : List PyData → Mm PyData := runD 4 3 f_l_pick
theorem runD_ok {m n : Nat} {f : SF} {ds : List PyData} {d : PyData} (hl : ds.length = n) (h : f (startN m ds) = some (.rt d)) : runD m n f ds = some (.ok d) := by
  unfold runD; rw [if_pos hl, h]
theorem ix_ints {ns : List Int} {p : Int} (h0 : 0 ≤ p) (h1 : p < ns.length) : ixD (.list (ns.map .int)) (.int p) = some (.int (ns.getD p.toNat 0)) := by
  show atI (ns.map PyData.int) p = _
  rw [atI_map PyData.int h0 h1 0]
theorem e_cell (ns : List Int) (k : Int) (h0 : 0 ≤ k) : F_l_cell [dN ns, .int k] = some (.ok (.int (cellOf ns k))) := by
  refine runD_ok rfl ?_
  show f_l_cell [.val (dN ns), .val (.int k)] = _
  unfold f_l_cell cellOf
  by_cases h1 : k < ns.length
  · rw [seqS_rt (d := .int (ns.getD k.toNat 0)), if_pos h1]
    simp [h1]
    rw [atI_map PyData.int h0 h1 0]
    simp
  · rw [seqS_nx (ρ' := [.val (dN ns), .val (.int k)]) (by simp [h1]), if_neg h1]
    by_cases h2 : ns = []
    · subst h2
      rw [seqS_rt (d := .int 0), if_pos rfl]
      have h : eqD (dN []) (.list []) = some true := eq_nil sh_nil
      simp [h]
    · have he : (ns.map PyData.int).isEmpty = false := by cases ns with
        | nil => exact absurd rfl h2
        | cons a r => rfl
      have h : eqD (dN ns) (.list []) = some false := by rw [eq_nil (sh_ints ns), he]
      rw [seqS_nx (ρ' := [.val (dN ns), .val (.int k)]) (by simp [h]), if_neg h2]
      have lp : (0 : Int) < (ns.length : Nat) := by cases ns with
        | nil => exact absurd rfl h2
        | cons a r => simp <;> omega
      have a1 := Int.emod_nonneg k (b := (ns.length : Int)) (by omega)
      have a2 := Int.emod_lt_of_pos k lp
      have lp' : 0 < ns.length := by omega
      have ix : ixD (dN ns) (.int (k % (ns.length : Int))) = some (.int (ns.getD (k % (ns.length : Int)).toNat 0)) := ix_ints a1 a2
      have ml : mulD (.int (ns.getD (k % (ns.length : Int)).toNat 0)) (.int 31) = some (.int (ns.getD (k % (ns.length : Int)).toNat 0 * 31)) := mul_iiR (by decide) (by decide)
      simp only [retS_e, op2_e, var_s, var_0, bnd_r, bltE_e, aCons_e, aNil_e, len_l, lft_s, mod_ii, List.length_map, if_pos lp, ix, cst_e, ml, add_ii, bns_r]
theorem drawn_lo (ns : List Int) (k : Int) : 0 ≤ drawnOf ns k ∧ drawnOf ns k < 2147483399 := ⟨Int.emod_nonneg _ (by decide), Int.emod_lt_of_pos _ (by decide)⟩
theorem e_pick (ns : List Int) (k many : Int) (h0 : 0 ≤ k) (hm : 0 < many) : F_l_pick [dN ns, .int k, .int many] = some (.ok (.int (pickOf ns k many))) := by
  refine runD_ok rfl ?_
  show f_l_pick [.val (dN ns), .val (.int k), .val (.int many), .no] = _
  have db := drawn_lo ns k
  unfold f_l_pick
  rw [seqS_nx (ρ' := [.val (dN ns), .val (.int k), .val (.int many), .val (.int (drawnOf ns k))])]
  · have hsq : mulD (.int (drawnOf ns k)) (.int (drawnOf ns k)) = some (.int (drawnOf ns k * drawnOf ns k)) := mul_iiR (by omega) (by omega)
    simp [hsq, hm, pickOf]
  · have h2 : mulD (.int 6151) (.int (k + 1)) = some (.int (6151 * (k + 1))) := mul_iiL (by decide) (by decide)
    have h3 : mulD (.int (cellOf ns k + 6151 * (k + 1))) (.int 40692) = some (.int ((cellOf ns k + 6151 * (k + 1)) * 40692)) := mul_iiR (by decide) (by decide)
    simp [e_cell ns k h0, h2, h3, drawnOf]
theorem rangeD_map (n : Nat) : rangeD 0 n = (List.range n).map fun (k : Nat) => PyData.int (k : Int) := by simp [rangeD]
end L2.L3
namespace L2.L3
open PySem
noncomputable def f_is_whole : SF := (retS (andE (op1 (isD "int") (var 0)) (notE (op1 (isD "bool") (var 0)))))
noncomputable def F_is_whole : List PyData → Mm PyData := runD 1 1 f_is_whole
noncomputable def f_is_rising : SF := (retS (cmpE eqD (var 0) (op1 ssetD (var 0))))
noncomputable def F_is_rising : List PyData → Mm PyData := runD 1 1 f_is_rising
@[simp] theorem isE_e (neg : Bool) (k : PyData) (fa : EF) (ρ : List Ent) : isE neg k fa ρ = bnd (fa ρ) fun x => lft ((isB k x).map fun t => .bool (neg != t)) := rfl
@[simp] theorem isT_e (neg : Bool) (k : PyData) (fa : EF) (ρ : List Ent) : isT neg k fa ρ = bnd (fa ρ) fun x => lft ((isB k x).map fun t => neg != t) := rfl
@[simp] theorem isB_tt : isB (.bool true) (.bool true) = some true := rfl
@[simp] theorem isB_ff : isB (.bool false) (.bool false) = some true := rfl
@[simp] theorem isD_tt (ds : List PyData) : isD "tuple" (.tuple ds) = some (.bool true) := rfl
@[simp] theorem isD_ii (i : Int) : isD "int" (.int i) = some (.bool true) := rfl
@[simp] theorem isD_bi (i : Int) : isD "bool" (.int i) = some (.bool false) := rfl
@[simp] theorem isD_ss (i : Str) : isD "str" (.str i) = some (.bool true) := rfl
@[simp] theorem chn3E_e (g1 g2 g3 : PyData → PyData → Option Bool) (fa fb fc fd : EF) (ρ : List Ent) : chn3E g1 g2 g3 fa fb fc fd ρ = bnd (fa ρ) fun x => bnd (fb ρ) fun y => bnd (lft (g1 x y)) fun t => if t then bnd (fc ρ) fun z => bnd (lft (g2 y z)) fun u => if u then bnd (fd ρ) fun w => lft ((g3 z w).map .bool) else some (.ok (.bool false)) else some (.ok (.bool false)) := rfl
theorem all_bools (bs : List Bool) : allB [.list (bs.map .bool)] = some (.bool (bs.all id)) := by
  show (allD boolD (bs.map .bool)).map _ = _
  rw [allD_map (g := .bool) (fun _ => rfl) bs]; rfl
end L2.L3
namespace L2.L3
open PySem
theorem dedupI_go : ∀ (ns acc : List Int), (∀ x ∈ ns, x ∉ acc) → ns.Nodup → ns.foldl (fun a n => if n ∈ a then a else a ++ [n]) acc = acc ++ ns
  | [], acc, _, _ => by simp
  | n :: ns, acc, h, hn => by
    have h' := List.nodup_cons.mp hn
    rw [List.foldl_cons, if_neg (h n (by simp)), dedupI_go ns (acc ++ [n]) (fun x hx => ?_) h'.2, List.append_assoc]
    · rfl
    · simp only [List.mem_append, List.mem_singleton, not_or]
      exact ⟨h x (by simp [hx]), fun z => h'.1 (z ▸ hx)⟩
theorem rising_same {ns : List Int} (h : ns.Pairwise (· < ·)) : sortI (dedupI ns) = ns := by
  have nd : ns.Nodup := List.nodup_iff_pairwise_ne.mpr (h.imp fun h => by omega)
  have e : dedupI ns = ns := by unfold dedupI; rw [dedupI_go ns [] (by simp) nd]; rfl
  rw [e, ← sortI_eq (List.Perm.refl ns) (h.imp fun h => by omega)]
theorem sset_int (ns : List Int) (h : ns.length < 64) : ssetD (.list (ns.map .int)) = some (.list ((sortI (dedupI ns)).map .int)) := by
  simp only [ssetD, intsD_map, if_pos h]
theorem e_whole (i : Int) : F_is_whole [.int i] = some (.ok (.bool true)) := by kernel_rfl
theorem e_rising {ns : List Int} (hl : ns.length < 64) (h : ns.Pairwise (· < ·)) : F_is_rising [.list (ns.map .int)] = some (.ok (.bool true)) := by
  refine runD_ok rfl ?_
  show f_is_rising [.val (.list (ns.map .int))] = _
  unfold f_is_rising
  rw [retS_e]
  simp only [bnd_r, cmpE_e, var_0, op1_e, sset_int ns hl, lft_s, rising_same h, eq_ints, decide_true, Option.map_some, bns_r]
@[simp] theorem at_4 (a b c d e : α) (r : List α) : atI (a :: b :: c :: d :: e :: r) 4 = some e := by
  unfold atI ixN
  rw [if_pos (by decide), if_pos (by simp <;> omega)]; rfl
@[simp] theorem at_5 (a b c d e f : α) (r : List α) : atI (a :: b :: c :: d :: e :: f :: r) 5 = some f := by
  unfold atI ixN
  rw [if_pos (by decide), if_pos (by simp <;> omega)]; rfl
theorem nin_ints (i : Int) (ns : List Int) : ninX (.int i) (.list (ns.map .int)) = some (!decide (i ∈ ns)) := by
  show (Option.map _ (allD intD (ns.map .int))).map _ = _
  rw [intsD_map]; rfl
theorem sh_pairI (a b : Int) : SeqAt.shaped (.tuple [.int a, .int b]) = true := sh_tuple (n := 1) (fun d hd => by
  have : d = .int a ∨ d = .int b := by simpa using hd
  rcases this with rfl | rfl <;> simp [PyData.canLay0]) (fun d hd => by
  have : d = .int a ∨ d = .int b := by simpa using hd
  rcases this with rfl | rfl <;> simp [PyData.depth]) (by decide)
theorem ne_pairI (a b c d : Int) : neD (.tuple [.int a, .int b]) (.tuple [.int c, .int d]) = some (!(decide (a = c) && decide (b = d))) := by
  rw [ne_tuples (sh_pairI a b) (sh_pairI c d)]
  rw [Option.some.injEq, Bool.eq_iff_iff]
  simp [PyData.eqvAll, PyData.eqv]
theorem call_at {F : List PyData → Mm PyData} {aa : AF} {ρ : List Ent} {ds : List PyData} {d : PyData} (ha : aa ρ = some (.ok ds)) (h : F ds = some (.ok d)) : callE F aa ρ = some (.ok d) := by
  rw [callE_e, ha, bnd_r, h]
theorem ne_at {fa fb : EF} {ρ : List Ent} {x y : PyData} {r : Bool} (ha : fa ρ = some (.ok x)) (hb : fb ρ = some (.ok y)) (h : neD x y = some r) : cmpT neD fa fb ρ = some (.ok r) := by
  rw [cmpT_e, ha, bnd_r, hb, bnd_r, h]; rfl
theorem blt_at {g : List PyData → Option PyData} {aa : AF} {ρ : List Ent} {ds : List PyData} {d : PyData} (ha : aa ρ = some (.ok ds)) (h : g ds = some d) : bltE g aa ρ = some (.ok d) := by
  rw [bltE_e, ha, bnd_r, h]; rfl
theorem seqI_at {fa : EF} {ρ : List Ent} {d : PyData} {ds : List PyData} (ha : fa ρ = some (.ok d)) (hd : seqD d = some ds) : seqI fa ρ = some (.ok ds) := by
  rw [seqI_e, ha, bnd_r, hd]; rfl
end L2.L3
namespace L2.L3
open PySem
noncomputable abbrev k1_l_zone : EF := compE (.nm 0) [none, some 1, some 0] (rng1 (callE F_l_pick (aCons (var 0) (aCons (var 1) (aCons (cst (.int 4)) aNil))))) ttT (callE F_l_pick (aCons (var 2) (aCons (op2 addD (op2 addD (var 1) (cst (.int 10))) (var 0)) (aCons (cst (.int 120)) aNil))))
noncomputable abbrev b1_l_zone : SF := seqS (setS 6 (thE (op2 addD (op2 ixD (op2 ixD (var 3) (op1 negD (cst (.int 1)))) (cst (.int 1))) (op2 ixD (lstE (aCons (cst (.int 1)) (aCons (op1 negD (cst (.int 1))) (aCons (cst (.int 2)) (aCons (op1 negD (cst (.int 2))) (aCons (cst (.int 0)) (aCons (cst (.int 5)) aNil))))))) (callE F_l_pick (aCons (var 0) (aCons (op2 addD (op2 addD (var 1) (cst (.int 20))) (var 4)) (aCons (cst (.int 6)) aNil)))))))) (appS 3 (tupE (aCons (var 5) (aCons (bltE maxD (aCons (op1 negD (cst (.int 24))) (aCons (bltE minD (aCons (cst (.int 24)) (aCons (var 6) aNil))) aNil))) aNil))))
noncomputable def f_l_zone : SF := (seqS (setS 2 (op1 ssetD k1_l_zone)) (seqS (newS 3 (aCons (tupE (aCons (cst .none) (aCons (op2 subD (callE F_l_pick (aCons (var 0) (aCons (op2 addD (var 1) (cst (.int 1))) (aCons (cst (.int 25)) aNil)))) (cst (.int 12))) aNil))) aNil)) (seqS (forS (.tp [4, 5]) (enumI (var 2)) b1_l_zone) (frzS 3 (retS (bltE tupD (aCons (var 3) aNil)))))))
noncomputable def F_l_zone : List PyData → Mm PyData := runD 7 2 f_l_zone
noncomputable abbrev t1_is_row : TF := orT (notT (truT (op1 (isD "tuple") (var 0)))) (cmpT neD (bltE lenD (aCons (var 0) aNil)) (cst (.int 2)))
noncomputable def f_is_row : SF := (seqS (ifS t1_is_row (retS (cst (.bool false))) nilS) (retS (andE (callE F_is_whole (aCons (op2 ixD (var 0) (cst (.int 1))) aNil)) (chnE leD leD (op1 negD (cst (.int 24))) (op2 ixD (var 0) (cst (.int 1))) (cst (.int 24))))))
noncomputable def F_is_row : List PyData → Mm PyData := runD 1 1 f_is_row
noncomputable abbrev t1_is_zone : TF := orT (notT (truT (op1 (isD "tuple") (var 0)))) (notT (chnT leD leD (cst (.int 1)) (bltE lenD (aCons (var 0) aNil)) (cst (.int 5))))
noncomputable abbrev k1_is_zone : EF := compE (.nm 0) [none] (seqI (var 0)) ttT (callE F_is_row (aCons (var 0) aNil))
noncomputable abbrev t2_is_zone : TF := notT (truT (bltE allB (aCons k1_is_zone aNil)))
noncomputable abbrev k2_is_zone : EF := compE (.tp [0, 1]) [none, none] (seqI (slE (var 0) (oSome (cst (.int 1))) oNone)) ttT (var 0)
noncomputable abbrev k3_is_zone : EF := compE (.nm 0) [none] (seqI (var 1)) ttT (callE F_is_whole (aCons (var 0) aNil))
noncomputable def f_is_zone : SF := (seqS (ifS t1_is_zone (retS (cst (.bool false))) nilS) (seqS (ifS t2_is_zone (retS (cst (.bool false))) nilS) (seqS (setS 1 k2_is_zone) (retS (andE (isE false (.none) (op2 ixD (op2 ixD (var 0) (cst (.int 0))) (cst (.int 0)))) (andE (bltE allB (aCons k3_is_zone aNil)) (callE F_is_rising (aCons (var 1) aNil))))))))
noncomputable def F_is_zone : List PyData → Mm PyData := runD 2 1 f_is_zone
noncomputable abbrev t1_refuse_no_zone : TF := notT (truT (callE F_is_zone (aCons (var 0) aNil)))
noncomputable def f_refuse_no_zone : SF := (ifS t1_refuse_no_zone stuckS nilS)
noncomputable def F_refuse_no_zone : List PyData → Mm PyData := runD 1 1 f_refuse_no_zone
noncomputable abbrev t1_shown_at : TF := cmpT leD (var 3) (var 1)
noncomputable abbrev b1_shown_at : SF := ifS t1_shown_at (setS 2 (var 4)) nilS
noncomputable def f_shown_at : SF := (seqS (exprS (callE F_refuse_no_zone (aCons (var 0) aNil))) (seqS (setS 2 (op2 ixD (op2 ixD (var 0) (cst (.int 0))) (cst (.int 1)))) (seqS (forS (.tp [3, 4]) (seqI (slE (var 0) (oSome (cst (.int 1))) oNone)) b1_shown_at) (retS (op2 addD (var 1) (var 2))))))
noncomputable def F_shown_at : List PyData → Mm PyData := runD 5 2 f_shown_at
noncomputable abbrev t1_jumps : TF := cmpT neD (op2 ixD (var 3) (cst (.int 1))) (op2 ixD (var 2) (cst (.int 1)))
noncomputable abbrev b1_jumps : SF := ifS t1_jumps (appS 1 (tupE (aCons (op2 ixD (var 3) (cst (.int 0))) (aCons (op2 subD (op2 ixD (var 3) (cst (.int 1))) (op2 ixD (var 2) (cst (.int 1)))) aNil)))) nilS
noncomputable def f_jumps : SF := (seqS (exprS (callE F_refuse_no_zone (aCons (var 0) aNil))) (seqS (newS 1 aNil) (seqS (forS (.tp [2, 3]) (zipX (var 0) (slE (var 0) (oSome (cst (.int 1))) oNone)) b1_jumps) (frzS 1 (retS (var 1))))))
noncomputable def F_jumps : List PyData → Mm PyData := runD 4 1 f_jumps
noncomputable abbrev k1_moments_shown : EF := compE (.tp [0, 1]) [none, none, some 1] (seqI (var 0)) ttT (op2 subD (var 2) (var 1))
noncomputable abbrev k2_moments_shown : EF := compE (.nm 0) [none, some 1, some 0] (seqI (var 2)) (cmpT eqD (callE F_shown_at (aCons (var 2) (aCons (var 0) aNil))) (var 1)) (var 0)
noncomputable def f_moments_shown : SF := (seqS (exprS (callE F_refuse_no_zone (aCons (var 0) aNil))) (seqS (setS 2 (op1 ssetD k1_moments_shown)) (retS k2_moments_shown)))
noncomputable def F_moments_shown : List PyData → Mm PyData := runD 3 2 f_moments_shown
noncomputable abbrev t1_first_shown : TF := truT (var 2)
noncomputable abbrev k1_first_shown : EF := compE (.tp [0, 1]) [none, none, some 1, some 0] (seqI (callE F_jumps (aCons (var 0) aNil))) (chnT ltD ltD (callE F_shown_at (aCons (var 3) (aCons (op2 subD (var 0) (cst (.int 1))) aNil))) (var 2) (callE F_shown_at (aCons (var 3) (aCons (var 0) aNil)))) (var 0)
noncomputable def f_first_shown : SF := (seqS (setS 2 (callE F_moments_shown (aCons (var 0) (aCons (var 1) aNil)))) (seqS (ifS t1_first_shown (retS (op2 ixD (var 2) (cst (.int 0)))) nilS) (seqS (setS 3 k1_first_shown) (retS (op2 ixD (var 3) (cst (.int 0)))))))
noncomputable def F_first_shown : List PyData → Mm PyData := runD 4 2 f_first_shown
noncomputable abbrev Zn := Int × List (Int × Int)
noncomputable abbrev dRw (r : Int × Int) : PyData := .tuple [.int r.1, .int r.2]
noncomputable abbrev dZ (z : Zn) : PyData := .tuple (.tuple [.none, .int z.1] :: z.2.map dRw)
structure ZOk (z : Zn) : Prop where
  few : z.2.length ≤ 4
  head : -24 ≤ z.1 ∧ z.1 ≤ 24
  more : ∀ r ∈ z.2, -24 ≤ r.2 ∧ r.2 ≤ 24
  rise : (z.2.map (·.1)).Pairwise (· < ·)
theorem e_row {r : PyData} {i : Int} (h : -24 ≤ i ∧ i ≤ 24) : F_is_row [.tuple [r, .int i]] = some (.ok (.bool true)) := by
  refine runD_ok rfl ?_
  show f_is_row [.val (.tuple [r, .int i])] = _
  unfold f_is_row
  rw [seqS_nx (ρ' := [.val (.tuple [r, .int i])]) (by simp)]
  simp [e_whole, h.1, h.2]
theorem cut_tail (a : PyData) (r : List PyData) : slD (.tuple (a :: r)) (some 1) none = some (.tuple r) := by
  have e : HT.sIx (r.length + 1) 0 (some 1) = 1 := by unfold HT.sIx; simp
  have e2 : HT.sIx (r.length + 1) (r.length + 1) none = r.length + 1 := rfl
  simp only [slD, List.length_cons, e, e2, cutD]
  simp
theorem tail_at {f : EF} {ρ : List Ent} {z : Zn} (h : f ρ = some (.ok (dZ z))) : slE f (oSome (cst (.int 1))) oNone ρ = some (.ok (.tuple (z.2.map dRw))) := by
  unfold slE
  rw [bnd_ok h]
  simp only [oSome, cst_e, bnd_r, intD_i, Option.map_some, lft_s, oNone, cut_tail]
theorem k3_whole (S : Ent) (ms : List Int) (h : ms.length ≤ 1000) : k3_is_zone [S, .val (.list (ms.map .int))] = some (.ok (.list ((ms.map fun _ => true).map .bool))) := by
  rw [show (ms.map fun _ => true).map PyData.bool = ms.map fun _ => PyData.bool true by simp [Function.comp_def]]
  exact compE_all PyData.int (fun i => [.val (.int i)]) (fun _ => .bool true) ms (by simp) (by omega) (fun i _ => by simp [capE]) (fun i _ => by simp [e_whole])
theorem e_is_zone {z : Zn} (Z : ZOk z) : F_is_zone [dZ z] = some (.ok (.bool true)) := by
  have few := Z.few
  refine runD_ok rfl ?_
  show f_is_zone [.val (dZ z), .no] = _
  have k1 : k1_is_zone [.val (dZ z), .no] = some (.ok (.list (((none :: z.2.map some : List (Option (Int × Int))).map fun _ => true).map .bool))) := by
    rw [show ((none :: z.2.map some : List (Option (Int × Int))).map fun _ => true).map PyData.bool = (none :: z.2.map some : List (Option (Int × Int))).map fun _ => PyData.bool true by simp [Function.comp_def]]
    refine compE_all (fun o : Option (Int × Int) => match o with | none => .tuple [.none, .int z.1] | some r => dRw r) (fun o => [.val (match o with | none => .tuple [.none, .int z.1] | some r => dRw r)]) (fun _ => .bool true) (none :: z.2.map some) (by simp [Function.comp_def]) (by simp; omega) (fun o _ => by simp [capE]) (fun o ho => ?_)
    rcases List.mem_cons.mp ho with rfl | ho
    · simp [e_row Z.head]
    · obtain ⟨r, hr, rfl⟩ := List.mem_map.mp ho
      simp [e_row (Z.more r hr)]
  have ha : ((none :: z.2.map some : List (Option (Int × Int))).map fun _ => true).all id = true := by simp
  have t2 : t2_is_zone [.val (dZ z), .no] = some (.ok false) := by
    show notT (truT (bltE allB (aCons k1_is_zone aNil))) _ = _
    rw [notT_e, truT_e, bltE_e, aCons_e, k1]
    simp only [bnd_r, aNil_e, lft_s, all_bools, ha, truD_b, Bool.not_true]
  have k2 : k2_is_zone [.val (dZ z), .no] = some (.ok (.list ((z.2.map (·.1)).map .int))) := by
    rw [List.map_map]
    exact compE_all dRw (fun r => [.val (.int r.1), .val (.int r.2)]) (fun r => .int r.1) z.2 (by rw [seqI_e, tail_at (z := z) (by simp)]; simp) (by omega) (fun r _ => by simp [capE]) (fun r _ => by simp)
  unfold f_is_zone
  have c0 : (1 : Int) ≤ (z.2.length : Nat) + 1 := by omega
  have c1 : ((z.2.length : Nat) : Int) + 1 ≤ 5 := by omega
  rw [seqS_nx (ρ' := [.val (dZ z), .no]) (by simp [c0, c1]), seqS_nx (ρ' := [.val (dZ z), .no]) (by rw [ifS_e, t2]; rfl)]
  rw [seqS_nx (ρ' := [.val (dZ z), .val (.list ((z.2.map (·.1)).map .int))]) (by rw [setS_e, k2]; rfl)]
  have er := e_rising (by rw [List.length_map]; omega : (z.2.map (·.1)).length < 64) Z.rise
  have k3 := k3_whole (.val (dZ z)) (z.2.map (·.1)) (by rw [List.length_map]; omega)
  clear k2
  generalize z.2.map (·.1) = ms at *
  have hb : (ms.map fun _ => true).all id = true := by simp
  rw [retS_e, andE_e, andE_e, bltE_e, aCons_e, k3]
  simp only [isE_e, op2_e, var_s, var_0, cst_e, bnd_r, ixD_t, at_0, lft_s, isB, Option.map_some, boolD_b, aNil_e, all_bools, hb, callE_e, aCons_e, er]
  rfl
theorem e_refuse {z : Zn} (Z : ZOk z) : F_refuse_no_zone [dZ z] = some (.ok .none) := by
  have h : f_refuse_no_zone [.val (dZ z)] = some (.nx [.val (dZ z)]) := by
    unfold f_refuse_no_zone
    simp [e_is_zone Z]
  show runD 1 1 f_refuse_no_zone [dZ z] = _
  unfold runD
  rw [if_pos (show [dZ z].length = 1 from rfl), show startN 1 [dZ z] = [.val (dZ z)] from rfl, h]
noncomputable def addOf (z : Zn) (m : Int) : Int := z.2.foldl (fun a r => if r.1 ≤ m then r.2 else a) z.1
theorem e_shown {z : Zn} (Z : ZOk z) (m : Int) : F_shown_at [dZ z, .int m] = some (.ok (.int (m + addOf z m))) := by
  refine runD_ok rfl ?_
  show f_shown_at [.val (dZ z), .val (.int m), .no, .no, .no] = _
  unfold f_shown_at
  rw [seqS_nx (ρ' := [.val (dZ z), .val (.int m), .no, .no, .no]) (by simp [e_refuse Z])]
  rw [seqS_nx (ρ' := [.val (dZ z), .val (.int m), .val (.int z.1), .no, .no]) (by simp)]
  have lp := loopS_inv (t := .tp [3, 4]) (fb := b1_shown_at) dRw (fun i ρ => ∃ x y, ρ = [.val (dZ z), .val (.int m), .val (.int ((z.2.take i).foldl (fun a r => if r.1 ≤ m then r.2 else a) z.1)), x, y]) z.2 0 [.val (dZ z), .val (.int m), .val (.int z.1), .no, .no] ⟨.no, .no, rfl⟩ (fun j r ρ hj ⟨x, y, e⟩ => by
    subst e
    have tk : z.2.take (0 + j + 1) = z.2.take (0 + j) ++ [r] := by rw [Nat.zero_add, List.take_add_one, hj]; rfl
    refine ⟨[.val (dZ z), .val (.int m), .val (.int ((z.2.take (0 + j)).foldl (fun a r => if r.1 ≤ m then r.2 else a) z.1)), .val (.int r.1), .val (.int r.2)], [.val (dZ z), .val (.int m), .val (.int (if r.1 ≤ m then r.2 else (z.2.take (0 + j)).foldl (fun a r => if r.1 ≤ m then r.2 else a) z.1)), .val (.int r.1), .val (.int r.2)], rfl, .inl ?_, .val (.int r.1), .val (.int r.2), by rw [tk, List.foldl_append]; rfl⟩
    by_cases h : r.1 ≤ m <;> simp [h])
  obtain ⟨ρ', e1, x, y, e2⟩ := lp
  rw [Nat.zero_add, List.take_length] at e2
  subst e2
  rw [seqS_nx (ρ' := [.val (dZ z), .val (.int m), .val (.int (addOf z m)), x, y]) (by rw [forS_e, bns_ok (a := z.2.map dRw) (by rw [seqI_e, tail_at (z := z) (by simp)]; simp)]; exact e1)]
  simp
noncomputable def prs2 : PyData → Int → List (Int × Int) → List ((PyData × Int) × (Int × Int))
  | _, _, [] => []
  | p, a, r :: rs => ((p, a), r) :: prs2 (dRw r) r.2 rs
theorem prs2_zip : ∀ (rs : List (Int × Int)) (p : PyData) (a : Int), zipD (p :: rs.map dRw) (rs.map dRw) = (prs2 p a rs).map fun q => .tuple [q.1.1, dRw q.2]
  | [], p, a => rfl
  | r :: rs, p, a => by
    have ih := prs2_zip rs (dRw r) r.2
    simp only [zipD, List.map_cons, List.zip_cons_cons, prs2] at ih ⊢
    rw [ih]
theorem prs2_ok : ∀ (rs : List (Int × Int)) (x : PyData) (a : Int), ∀ q ∈ prs2 (.tuple [x, .int a]) a rs, ∃ y, q.1.1 = .tuple [y, .int q.1.2]
  | [], _, _, q, h => by cases h
  | r :: rs, x, a, q, h => by
    rcases List.mem_cons.mp h with rfl | h
    · exact ⟨x, rfl⟩
    · exact prs2_ok rs (.int r.1) r.2 q h
noncomputable abbrev hd0 (z : Zn) : PyData := .tuple [.none, .int z.1]
noncomputable def jumpsOn (l : List ((PyData × Int) × (Int × Int))) : List (Int × Int) := (l.filter fun q => !decide (q.2.2 = q.1.2)).map fun q => (q.2.1, q.2.2 - q.1.2)
theorem e_jumps {z : Zn} (Z : ZOk z) : F_jumps [dZ z] = some (.ok (.list ((jumpsOn (prs2 (hd0 z) z.1 z.2)).map dRw))) := by
  have few := Z.few
  have lq : ∀ (rs : List (Int × Int)) (p : PyData) (a : Int), (prs2 p a rs).length = rs.length := by
    intro rs
    induction rs with
    | nil => intro p a; rfl
    | cons r rs ih => intro p a; simp [prs2, ih]
  refine runD_ok rfl ?_
  show f_jumps [.val (dZ z), .no, .no, .no] = _
  unfold f_jumps
  rw [seqS_nx (ρ' := [.val (dZ z), .no, .no, .no]) (by simp [e_refuse Z])]
  rw [seqS_nx (ρ' := [.val (dZ z), .lst [], .no, .no]) (by simp)]
  have ok := prs2_ok z.2 .none z.1
  generalize hP : prs2 (hd0 z) z.1 z.2 = P at ok
  have hPl : P.length ≤ 4 := by rw [← hP, lq]; exact few
  have lp := loopS_inv (t := .tp [2, 3]) (fb := b1_jumps) (fun q : (PyData × Int) × (Int × Int) => .tuple [q.1.1, dRw q.2]) (fun i ρ => ∃ x y, ρ = [.val (dZ z), .lst ((jumpsOn (P.take i)).map dRw), x, y]) P 0 [.val (dZ z), .lst [], .no, .no] ⟨.no, .no, rfl⟩ (fun j q ρ hj ⟨x, y, e⟩ => by
    subst e
    have hm := List.mem_of_getElem? hj
    obtain ⟨w, hw⟩ := ok q hm
    have tk : P.take (0 + j + 1) = P.take (0 + j) ++ [q] := by rw [Nat.zero_add, List.take_add_one, hj]; rfl
    have lz : ((jumpsOn (P.take (0 + j))).map dRw).length ≤ 100000 := by
      unfold jumpsOn
      rw [List.length_map, List.length_map]
      exact Nat.le_trans (List.length_filter_le _ _) (by rw [List.length_take]; omega)
    generalize hA : (jumpsOn (P.take (0 + j))).map dRw = A at lz
    refine ⟨[.val (dZ z), .lst A, .val q.1.1, .val (dRw q.2)], [.val (dZ z), .lst (A ++ if q.2.2 = q.1.2 then [] else [dRw (q.2.1, q.2.2 - q.1.2)]), .val q.1.1, .val (dRw q.2)], rfl, .inl ?_, .val q.1.1, .val (dRw q.2), ?_⟩
    · rw [hw]
      by_cases h : q.2.2 = q.1.2
      · simp [h]
      · have t1 : t1_jumps [.val (dZ z), .lst A, .val (.tuple [w, .int q.1.2]), .val (dRw q.2)] = some (.ok true) := by simp [h]
        show ifS t1_jumps _ _ _ = _
        rw [ifS_e, t1]
        simp only [bns_r, if_true]
        rw [appS_at (ds := A) (d := dRw (q.2.1, q.2.2 - q.1.2)) rfl (by simp) lz]
        simp [h]
    · rw [tk]
      unfold jumpsOn at hA ⊢
      rw [List.filter_append, List.map_append, List.map_append, hA]
      by_cases h : q.2.2 = q.1.2 <;> simp [h])
  obtain ⟨ρ', e1, x, y, e2⟩ := lp
  rw [Nat.zero_add, List.take_length] at e2
  subst e2
  have hz : zipX (var 0) (slE (var 0) (oSome (cst (.int 1))) oNone) [.val (dZ z), .lst [], .no, .no] = some (.ok (P.map fun q => .tuple [q.1.1, dRw q.2])) := by
    unfold zipX zipI zipT
    rw [tail_at (z := z) (by simp)]
    simp only [var_0]
    rw [prs2_zip z.2 (hd0 z) z.1, hP]
  rw [seqS_nx (ρ' := [.val (dZ z), .lst ((jumpsOn P).map dRw), x, y]) (by rw [forS_e, bns_ok hz]; exact e1)]
  rfl
noncomputable def likely (z : Zn) (s : Int) : List Int := sortI (dedupI ((z.1 :: z.2.map (·.2)).map fun a => s - a))
noncomputable def momOf (z : Zn) (s : Int) : List Int := (likely z s).filter fun m => decide (m + addOf z m = s)
theorem e_moments {z : Zn} (Z : ZOk z) (s : Int) : F_moments_shown [dZ z, .int s] = some (.ok (.list ((momOf z s).map .int))) := by
  have few := Z.few
  refine runD_ok rfl ?_
  show f_moments_shown [.val (dZ z), .val (.int s), .no] = _
  unfold f_moments_shown
  rw [seqS_nx (ρ' := [.val (dZ z), .val (.int s), .no]) (by simp [e_refuse Z])]
  have k1 : k1_moments_shown [.val (dZ z), .val (.int s), .no] = some (.ok (.list (((z.1 :: z.2.map (·.2)).map fun a => s - a).map .int))) := by
    have := compE_all (t := .tp [0, 1]) (cap := [none, none, some 1]) (fi := seqI (var 0)) (fe := op2 subD (var 2) (var 1)) (ρ := [.val (dZ z), .val (.int s), .no]) (fun q : PyData × Int => .tuple [q.1, .int q.2]) (fun q => [.val q.1, .val (.int q.2), .val (.int s)]) (fun q => .int (s - q.2)) ((.none, z.1) :: z.2.map fun r => (.int r.1, r.2))
      (by simp [Function.comp_def]) (by simp; omega) (fun q _ => by simp [capE]) (fun q _ => by simp)
    refine Eq.trans this ?_
    simp [Function.comp_def]
  have ln : ((z.1 :: z.2.map (·.2)).map fun a => s - a).length < 64 := by simp; omega
  rw [seqS_nx (ρ' := [.val (dZ z), .val (.int s), .val (.list ((likely z s).map .int))]) (by
    rw [setS_e, op1_e, k1]
    simp only [bnd_r, sset_int _ ln, lft_s, bns_r]
    rfl)]
  have ll : (likely z s).length ≤ 100000 := by
    unfold likely
    rw [(sortI_perm _).length_eq]
    have h : ∀ (ns acc : List Int), (ns.foldl (fun a n => if n ∈ a then a else a ++ [n]) acc).length ≤ acc.length + ns.length := by
      intro ns
      induction ns with
      | nil => intro acc; simp
      | cons n r ih =>
        intro acc
        rw [List.foldl_cons]
        refine Nat.le_trans (ih _) ?_
        split <;> simp <;> omega
    have := h ((z.1 :: z.2.map (·.2)).map fun a => s - a) []
    unfold dedupI
    simp only [List.length_nil] at this
    omega
  have k2 : k2_moments_shown [.val (dZ z), .val (.int s), .val (.list ((likely z s).map .int))] = some (.ok (.list ((momOf z s).map .int))) :=
    compE_map PyData.int (fun m => [.val (.int m), .val (.int s), .val (dZ z)]) (fun m => decide (m + addOf z m = s)) PyData.int (likely z s) (by simp) ll (fun m _ => by simp [capE]) (fun m _ => by simp [e_shown Z]) (fun m _ _ => by simp)
  rw [retS_e, k2]
  rfl
noncomputable abbrev fz (m : Int) (a : Int) (rs : List (Int × Int)) : Int := rs.foldl (fun a r => if r.1 ≤ m then r.2 else a) a
theorem fz_mem (m : Int) : ∀ (rs : List (Int × Int)) (a : Int), fz m a rs = a ∨ fz m a rs ∈ rs.map (·.2)
  | [], a => .inl rfl
  | r :: rs, a => by
    show fz m (if r.1 ≤ m then r.2 else a) rs = a ∨ fz m (if r.1 ≤ m then r.2 else a) rs ∈ _
    rcases fz_mem m rs (if r.1 ≤ m then r.2 else a) with h | h
    · rw [h]
      split
      · exact .inr (by simp)
      · exact .inl rfl
    · exact .inr (by rw [List.map_cons]; exact List.mem_cons_of_mem _ h)
theorem fz_none (m : Int) : ∀ (rs : List (Int × Int)) (a : Int), (∀ r ∈ rs, m < r.1) → fz m a rs = a
  | [], a, _ => rfl
  | r :: rs, a, h => by
    show fz m (if r.1 ≤ m then r.2 else a) rs = a
    have := h r (by simp)
    rw [if_neg (by omega)]
    exact fz_none m rs a fun x hx => h x (List.mem_cons_of_mem _ hx)
theorem fz_jump (m : Int) : ∀ (rs : List (Int × Int)) (p : PyData) (a : Int), (rs.map (·.1)).Pairwise (· < ·) → fz (m + 1) a rs ≠ fz m a rs → ∃ q ∈ prs2 p a rs, q.2.1 = m + 1 ∧ q.2.2 ≠ q.1.2
  | [], p, a, _, h => absurd rfl h
  | r :: rs, p, a, hp, h => by
    rw [List.map_cons, List.pairwise_cons] at hp
    have hlt : ∀ x ∈ rs, r.1 < x.1 := fun x hx => hp.1 x.1 (List.mem_map.mpr ⟨x, hx, rfl⟩)
    have h' : fz (m + 1) (if r.1 ≤ m + 1 then r.2 else a) rs ≠ fz m (if r.1 ≤ m then r.2 else a) rs := h
    by_cases h1 : r.1 ≤ m
    · rw [if_pos h1, if_pos (by omega)] at h'
      obtain ⟨q, hq, e⟩ := fz_jump m rs (dRw r) r.2 hp.2 h'
      exact ⟨q, List.mem_cons_of_mem _ hq, e⟩
    · by_cases h2 : r.1 = m + 1
      · rw [if_pos (by omega), if_neg h1, fz_none (m + 1) rs r.2 (fun x hx => by have := hlt x hx; omega), fz_none m rs a (fun x hx => by have := hlt x hx; omega)] at h'
        exact ⟨((p, a), r), by simp [prs2], h2, h'⟩
      · rw [if_neg (by omega), if_neg h1, fz_none (m + 1) rs a (fun x hx => by have := hlt x hx; omega), fz_none m rs a (fun x hx => by have := hlt x hx; omega)] at h'
        exact absurd rfl h'
theorem dedupI_mem : ∀ (ns acc : List Int) (x : Int), (x ∈ acc ∨ x ∈ ns) → x ∈ ns.foldl (fun a n => if n ∈ a then a else a ++ [n]) acc
  | [], acc, x, h => h.elim id (fun z => by cases z)
  | n :: ns, acc, x, h => by
    rw [List.foldl_cons]
    refine dedupI_mem ns _ x ?_
    rcases h with h | h
    · left; split
      · exact h
      · exact List.mem_append_left _ h
    · rcases List.mem_cons.mp h with rfl | h
      · left; split
        · assumption
        · simp
      · exact .inr h
theorem mom_mem (z : Zn) (m : Int) : m ∈ momOf z (m + addOf z m) := by
  unfold momOf likely
  rw [List.mem_filter]
  refine ⟨(sortI_perm _).mem_iff.mpr (dedupI_mem _ _ _ (.inr (List.mem_map.mpr ⟨addOf z m, ?_, by omega⟩))), by simp⟩
  rcases fz_mem m z.2 z.1 with h | h
  · rw [show addOf z m = z.1 from h]; simp
  · exact List.mem_cons_of_mem _ h
theorem e_first {z : Zn} (Z : ZOk z) {s m : Int} {r : List Int} (h : momOf z s = m :: r) : F_first_shown [dZ z, .int s] = some (.ok (.int m)) := by
  refine runD_ok rfl ?_
  show f_first_shown [.val (dZ z), .val (.int s), .no, .no] = _
  unfold f_first_shown
  rw [seqS_nx (ρ' := [.val (dZ z), .val (.int s), .val (.list ((m :: r).map .int)), .no]) (by simp [e_moments Z, h]), seqS_rt (d := .int m)]
  simp
noncomputable def stepOf (ns : List Int) (at' : Int) (k : Nat) : Int := ([1, -1, 2, -2, 0, 5] : List Int).getD (pickOf ns (at' + 20 + (k : Int)) 6).toNat 0
noncomputable def zRows (ns : List Int) (at' : Int) : Int → Nat → List Int → List (Int × Int)
  | _, _, [] => []
  | a, k, m :: ms => (m, max (-24) (min 24 (a + stepOf ns at' k))) :: zRows ns at' (max (-24) (min 24 (a + stepOf ns at' k))) (k + 1) ms
noncomputable def zMoms (ns : List Int) (at' : Int) : List Int := sortI (dedupI ((List.range (pickOf ns at' 4).toNat).map fun (k : Nat) => pickOf ns (at' + 10 + (k : Int)) 120))
noncomputable def zoneOf (ns : List Int) (at' : Int) : Zn := (pickOf ns (at' + 1) 25 - 12, zRows ns at' (pickOf ns (at' + 1) 25 - 12) 0 (zMoms ns at'))
theorem zRows_moms (ns : List Int) (at' : Int) : ∀ (ms : List Int) (a : Int) (k : Nat), (zRows ns at' a k ms).map (·.1) = ms
  | [], _, _ => rfl
  | m :: ms, a, k => by simp [zRows, zRows_moms ns at' ms]
theorem zRows_more (ns : List Int) (at' : Int) : ∀ (ms : List Int) (a : Int) (k : Nat), ∀ r ∈ zRows ns at' a k ms, -24 ≤ r.2 ∧ r.2 ≤ 24
  | [], _, _, r, h => by cases h
  | m :: ms, a, k, r, h => by
    rcases List.mem_cons.mp h with rfl | h
    · simp only; omega
    · exact zRows_more ns at' ms _ _ r h
theorem dedupI_nodup : ∀ (ns acc : List Int), acc.Nodup → (ns.foldl (fun a n => if n ∈ a then a else a ++ [n]) acc).Nodup ∧ (ns.foldl (fun a n => if n ∈ a then a else a ++ [n]) acc).length ≤ acc.length + ns.length
  | [], acc, h => ⟨h, by simp⟩
  | n :: ns, acc, h => by
    rw [List.foldl_cons]
    split
    · obtain ⟨a, b⟩ := dedupI_nodup ns acc h
      exact ⟨a, by simp only [List.length_cons]; omega⟩
    · rename_i hn
      obtain ⟨a, b⟩ := dedupI_nodup ns (acc ++ [n]) (by
        rw [List.nodup_append]
        exact ⟨h, by simp, fun x hx y hy => by rw [List.mem_singleton] at hy; subst hy; exact fun z => hn (z ▸ hx)⟩)
      refine ⟨a, ?_⟩
      simp only [List.length_append, List.length_cons, List.length_nil] at b ⊢
      omega
theorem zone_ok (ns : List Int) (at' : Int) : ZOk (zoneOf ns at') := by
  have p0 := pick_lo ns at' (many := 4) (by decide)
  have p1 := pick_hi ns at' (many := 4) (by decide)
  have q0 := pick_lo ns (at' + 1) (many := 25) (by decide)
  have q1 := pick_hi ns (at' + 1) (many := 25) (by decide)
  have nd := dedupI_nodup ((List.range (pickOf ns at' 4).toNat).map fun (k : Nat) => pickOf ns (at' + 10 + (k : Int)) 120) [] .nil
  have hm := zRows_moms ns at' (zMoms ns at') (pickOf ns (at' + 1) 25 - 12) 0
  refine ⟨?_, ?_, zRows_more ns at' _ _ _, ?_⟩
  · have : (zoneOf ns at').2.length = (zMoms ns at').length := by rw [← hm, List.length_map]; rfl
    rw [this]
    unfold zMoms
    rw [(sortI_perm _).length_eq]
    have h2 := nd.2
    simp only [List.length_nil, List.length_map, List.length_range] at h2
    unfold dedupI
    omega
  · unfold zoneOf; simp only; omega
  · show ((zoneOf ns at').2.map (·.1)).Pairwise _
    rw [show (zoneOf ns at').2.map (·.1) = zMoms ns at' from hm]
    have h1 := sortI_sorted (dedupI ((List.range (pickOf ns at' 4).toNat).map fun (k : Nat) => pickOf ns (at' + 10 + (k : Int)) 120))
    have h2 : (zMoms ns at').Nodup := (sortI_perm _).nodup_iff.mpr nd.1
    exact (h1.and (List.nodup_iff_pairwise_ne.mp h2)).imp fun ⟨a, b⟩ => by omega
noncomputable def zLast (ns : List Int) (at' : Int) : Int → Nat → List Int → Int
  | a, _, [] => a
  | a, k, _ :: ms => zLast ns at' (max (-24) (min 24 (a + stepOf ns at' k))) (k + 1) ms
theorem zRows_app (ns : List Int) (at' : Int) (m : Int) : ∀ (ms : List Int) (a : Int) (k : Nat), zRows ns at' a k (ms ++ [m]) = zRows ns at' a k ms ++ [(m, max (-24) (min 24 (zLast ns at' a k ms + stepOf ns at' (k + ms.length))))]
  | [], a, k => rfl
  | x :: ms, a, k => by
    have ih := zRows_app ns at' m ms (max (-24) (min 24 (a + stepOf ns at' k))) (k + 1)
    simp only [List.cons_append, zRows, ih, zLast, List.length_cons]
    rw [show k + 1 + ms.length = k + (ms.length + 1) by omega]
theorem zLast_at (ns : List Int) (at' : Int) : ∀ (ms : List Int) (a : Int) (k : Nat) (p : PyData), ∃ x l, (.tuple [p, .int a] : PyData) :: (zRows ns at' a k ms).map dRw = l ++ [.tuple [x, .int (zLast ns at' a k ms)]]
  | [], a, k, p => ⟨p, [], rfl⟩
  | m :: ms, a, k, p => by
    obtain ⟨x, l, e⟩ := zLast_at ns at' ms (max (-24) (min 24 (a + stepOf ns at' k))) (k + 1) (.int m)
    refine ⟨x, .tuple [p, .int a] :: l, ?_⟩
    exact congrArg (List.cons (PyData.tuple [p, .int a])) e
theorem zMoms_len (ns : List Int) (at' : Int) : (zMoms ns at').length ≤ 3 := by
  have p0 := pick_lo ns at' (many := 4) (by decide)
  have p1 := pick_hi ns at' (many := 4) (by decide)
  have nd := dedupI_nodup ((List.range (pickOf ns at' 4).toNat).map fun (k : Nat) => pickOf ns (at' + 10 + (k : Int)) 120) [] .nil
  unfold zMoms
  rw [(sortI_perm _).length_eq]
  have h2 := nd.2
  simp only [List.length_nil, List.length_map, List.length_range] at h2
  unfold dedupI
  omega
theorem enum_map (ms : List Int) : enumD (ms.map .int) = (List.range ms.length).map fun (k : Nat) => .tuple [.int (k : Int), .int (ms.getD k 0)] := by
  unfold enumD
  rw [List.length_map]
  refine List.map_congr_left fun k hk => ?_
  have := List.mem_range.mp hk
  simp [List.getD, this]
theorem e_zone (ns : List Int) (at' : Int) (h0 : 0 ≤ at') : F_l_zone [dN ns, .int at'] = some (.ok (dZ (zoneOf ns at'))) := by
  have p0 := pick_lo ns at' (many := 4) (by decide)
  have p1 := pick_hi ns at' (many := 4) (by decide)
  refine runD_ok rfl ?_
  show f_l_zone [.val (dN ns), .val (.int at'), .no, .no, .no, .no, .no] = _
  unfold f_l_zone
  have k1 : k1_l_zone [.val (dN ns), .val (.int at'), .no, .no, .no, .no, .no] = some (.ok (.list (((List.range (pickOf ns at' 4).toNat).map fun (k : Nat) => pickOf ns (at' + 10 + (k : Int)) 120).map .int))) := by
    rw [List.map_map]
    exact compE_all (fun (k : Nat) => PyData.int (k : Int)) (fun k => [.val (.int (k : Int)), .val (.int at'), .val (dN ns)]) (fun k => .int (pickOf ns (at' + 10 + (k : Int)) 120)) (List.range (pickOf ns at' 4).toNat) (by
      rw [rng1_at (n := pickOf ns at' 4) (by simp [e_pick ns at' 4 h0 (by decide)]) (by omega) (by omega), rangeD_map]) (by simp; omega) (fun k _ => by simp [capE]) (fun k _ => by simp [e_pick ns (at' + 10 + (k : Int)) 120 (by omega) (by decide)])
  have ln : ((List.range (pickOf ns at' 4).toNat).map fun (k : Nat) => pickOf ns (at' + 10 + (k : Int)) 120).length < 64 := by simp; omega
  rw [seqS_nx (ρ' := [.val (dN ns), .val (.int at'), .val (.list ((zMoms ns at').map .int)), .no, .no, .no, .no]) (by
    rw [setS_e, op1_e, k1]
    simp only [bnd_r, sset_int _ ln, lft_s, bns_r]
    rfl)]
  have lz := zMoms_len ns at'
  have zo : zoneOf ns at' = (pickOf ns (at' + 1) 25 - 12, zRows ns at' (pickOf ns (at' + 1) 25 - 12) 0 (zMoms ns at')) := rfl
  have ep := e_pick ns (at' + 1) 25 (by omega) (by decide)
  generalize hA : pickOf ns (at' + 1) 25 - 12 = A at zo
  rw [seqS_nx (ρ' := [.val (dN ns), .val (.int at'), .val (.list ((zMoms ns at').map .int)), .lst [.tuple [.none, .int A]], .no, .no, .no]) (by simp [ep, hA])]
  generalize zMoms ns at' = M at lz zo
  have lp := loopS_inv (t := .tp [4, 5]) (fb := b1_l_zone) (fun (k : Nat) => PyData.tuple [.int (k : Int), .int (M.getD k 0)]) (fun i ρ => ∃ x y u, ρ = [.val (dN ns), .val (.int at'), .val (.list (M.map .int)), .lst (.tuple [.none, .int A] :: (zRows ns at' A 0 (M.take i)).map dRw), x, y, u]) (List.range M.length) 0 [.val (dN ns), .val (.int at'), .val (.list (M.map .int)), .lst [.tuple [.none, .int A]], .no, .no, .no] ⟨.no, .no, .no, rfl⟩ (fun j k ρ hj ⟨x, y, u, e⟩ => by
    subst e
    obtain ⟨h1, h2⟩ := List.getElem?_eq_some_iff.mp hj
    have hk : k = j := by simpa using h2.symm
    have hj' : j < M.length := by simpa using h1
    subst hk
    have gt : M[k]? = some (M.getD k 0) := by simp [List.getD, hj']
    have tk : M.take (0 + k + 1) = M.take (0 + k) ++ [M.getD k 0] := by rw [Nat.zero_add, List.take_add_one, gt]; rfl
    have tl : (M.take (0 + k)).length = k := by rw [List.length_take]; omega
    obtain ⟨w, l, hl⟩ := zLast_at ns at' (M.take (0 + k)) A 0 .none
    have hz : (l ++ [PyData.tuple [w, .int (zLast ns at' A 0 (M.take (0 + k)))]]).length ≤ 100000 := by
      rw [← hl, List.length_cons, List.length_map]
      have := congrArg List.length (zRows_moms ns at' (M.take (0 + k)) A 0)
      rw [List.length_map] at this
      omega
    have q0 := pick_lo ns (at' + 20 + (k : Int)) (many := 6) (by decide)
    have q1 := pick_hi ns (at' + 20 + (k : Int)) (many := 6) (by decide)
    have e6 : atI [PyData.int 1, .int (-1), .int 2, .int (-2), .int 0, .int 5] (pickOf ns (at' + 20 + (k : Int)) 6) = some (.int (stepOf ns at' k)) := atI_map PyData.int (xs := [1, -1, 2, -2, 0, 5]) q0 q1 0
    generalize hzl : zLast ns at' A 0 (M.take (0 + k)) = Z at hl hz
    have e3 : thE (op2 addD (op2 ixD (op2 ixD (var 3) (op1 negD (cst (.int 1)))) (cst (.int 1))) (op2 ixD (lstE (aCons (cst (.int 1)) (aCons (op1 negD (cst (.int 1))) (aCons (cst (.int 2)) (aCons (op1 negD (cst (.int 2))) (aCons (cst (.int 0)) (aCons (cst (.int 5)) aNil))))))) (callE F_l_pick (aCons (var 0) (aCons (op2 addD (op2 addD (var 1) (cst (.int 20))) (var 4)) (aCons (cst (.int 6)) aNil)))))) [.val (dN ns), .val (.int at'), .val (.list (M.map .int)), .lst (l ++ [.tuple [w, .int Z]]), .val (.int (k : Int)), .val (.int (M.getD k 0)), u] = some (.ok (.int (Z + stepOf ns at' k))) := by
      simp [thE, frzAll, frzE, at_last, plainD, e_pick ns (at' + 20 + (k : Int)) 6 (by omega) (by decide), e6]
    refine ⟨[.val (dN ns), .val (.int at'), .val (.list (M.map .int)), .lst (.tuple [.none, .int A] :: (zRows ns at' A 0 (M.take (0 + k))).map dRw), .val (.int (k : Int)), .val (.int (M.getD k 0)), u], [.val (dN ns), .val (.int at'), .val (.list (M.map .int)), .lst (.tuple [.none, .int A] :: (zRows ns at' A 0 (M.take (0 + k + 1))).map dRw), .val (.int (k : Int)), .val (.int (M.getD k 0)), .val (.int (Z + stepOf ns at' k))], rfl, .inl ?_, _, _, _, rfl⟩
    rw [tk, zRows_app, tl, hzl, List.map_append, ← List.cons_append, hl, Nat.zero_add]
    show seqS (setS 6 _) _ _ = _
    rw [seqS_nx (ρ' := [.val (dN ns), .val (.int at'), .val (.list (M.map .int)), .lst (l ++ [.tuple [w, .int Z]]), .val (.int (k : Int)), .val (.int (M.getD k 0)), .val (.int (Z + stepOf ns at' k))]) (by rw [setS_e, e3]; rfl)]
    rw [appS_at (ds := l ++ [.tuple [w, .int Z]]) (d := dRw (M.getD k 0, max (-24) (min 24 (Z + stepOf ns at' k)))) rfl (by simp) hz]
    rfl)
  obtain ⟨ρ', e1, x, y, u, e2⟩ := lp
  rw [Nat.zero_add, List.length_range, List.take_length] at e2
  subst e2
  rw [seqS_nx (ρ' := [.val (dN ns), .val (.int at'), .val (.list (M.map .int)), .lst (.tuple [.none, .int A] :: (zRows ns at' A 0 M).map dRw), x, y, u]) (by
    rw [forS_e, bns_ok (a := (List.range M.length).map fun (k : Nat) => PyData.tuple [.int (k : Int), .int (M.getD k 0)]) (by unfold enumI; simp [enum_map])]
    exact e1)]
  rw [zo]
  rfl
end L2.L3
namespace L2
open PySem PySem.Spec PyProof.Rows
end L2
namespace L2
open PySem PySem.Spec PyProof.Rows
section
variable (P : Program) (w : World)
end
section
variable {P : Program} {w : World} {H H' : Hp} {h h' : Heap} {a : Addr} {o : HO}
end
section
variable {P : Program} {w : World} {H : Hp} {h h' : Heap} {x e : Addr} {o' : HO}
end
section
variable {fs fs' ex ex' : List Addr} {H H1 H2 : Hp} {h h1 h2 h' : Heap} {a x e : Addr} {o : HO}
end
end L2
namespace L2
open PySem PySem.Spec PyProof.Rows
section
variable {X : Cx} {pins : List (Addr × Obj)} {σ : List (Option V)} {H H' : Hp} {s : Shared} {h' : Heap}
end
end L2
namespace L2
open PySem PySem.Spec PyProof.Rows
section
variable {X : Cx}
variable {a b : Expr} {ta tb : TE} {pos : Pos}
variable {tA tB' : TT} {rest : List Expr}
end
end L2
namespace L2
open PySem PySem.Spec PyProof.Rows
section
variable {X : Cx} {pins : List (Addr × Obj)} {σ : St} {H : Hp} {s : Shared} {a : Addr} {xs ys : List V}
end
section
variable {X : Cx} {pins : List (Addr × Obj)} {σ : St} {H : Hp} {s : Shared} {E : Value → Shared → Prop}
end
section
variable {X : Cx} {st : Stmt} {rest : List Stmt} {t u : TS} {e : Expr} {te : TE} {pos : Pos}
end
section
variable {X : Cx} {pos : Pos}
end
section
variable {X : Cx} {pos : Pos}
end
end L2
namespace L2
open PySem PySem.Spec PyProof.Rows
section
variable {X : Cx} {tg : Expr}
end
end L2
namespace L2
open PySem PySem.Spec PyProof.Rows
section
variable {X : Cx} {a b c : Expr} {ta tb tc : TE} {pos : Pos}
end
section
variable {X : Cx} {a b c : Expr} {ta tb tc : TE} {pos : Pos}
end
end L2
namespace L2
open PySem PySem.Spec PyProof.Rows
section
variable {prog : Program} {w : World} {A : Around} {E : Value → Shared → Prop} {s : Shared} {K : PySem.W.Frag} {x dx C f : Addr} {mA : Str → Option Value} {name : Str} {v : Value}
end
section
variable {P : Program} {w : World} {H H' : Hp} {h h' : Heap} {a C dx : Addr} {fs fs' : List (Str × V)}
end
section
variable {X : Cx} {pins : List (Addr × Obj)} {σ : St} {H : Hp} {s : Shared} {a C dx : Addr} {fs : List (Str × V)} {f : Str} {v : V} {A : Around} {E : Value → Shared → Prop}
end
section
variable {X : Cx} {o e value : Expr} {f : Str} {pos pos' tpos : Pos} {ta tv : TE}
end
section
variable {X : Cx} {pins : List (Addr × Obj)} {σ : St} {H : Hp} {s : Shared} {A : Around} {E : Value → Shared → Prop} {Q : Value → Shared → Prop} {c : Value} {b : Bool}
end
end L2
namespace L2
open PySem PySem.Spec PyProof.Rows
section
variable {X : Cx} {e : Expr} {es : List Expr} {te : TE} {t : TA} {pos : Pos}
end
section
variable {X : Cx} {pins : List (Addr × Obj)} {σ : St} {H : Hp} {s s' : Shared}
end
section
variable {X : Cx} {CX : CXT} {k : Nat} {f C : Addr} {fd : FuncData} {ps : List Str} {sp : Sp} {dvs : List V} {ds : List Value} {E : XK} {x m : Str} {p pos apos : Pos} {e o : Expr} {es : List Expr} {ta : TE} {t : TA}
end
section
variable {X : Cx} {CX : CXT} {k : Nat} {f C : Addr} {fd : FuncData} {ps ks : List Str} {sp : Sp} {E : XK} {x m : Str} {p pos apos kpos : Pos} {e o : Expr} {es : List Expr} {kws : List Keyword} {te ta : TE} {t tk : TA} {nm : Option Str}
variable {g : List Value → List Value → List Value} {gV : List V → List V → List V}
end
end L2
namespace L2
open PySem PySem.Spec PyProof.Rows
section
variable {X : Cx} {x : Str} {p pos : Pos} {e : Expr} {es : List Expr} {t : TA} {id T : String} {r : List V → Hp → VK → Prop}
end
end L2
namespace L2
open PySem PySem.Spec PyProof.Rows
section
variable {κ : Type} [DecidableEq κ]
noncomputable def valV (kvs : List (κ × V)) (k : κ) : Option V := (kvs.find? fun kv => decide (kv.1 = k)).map (·.2)
noncomputable def putK (kvs : List (κ × V)) (k : κ) (v : V) : List (κ × V) :=
  if (kvs.any fun kv => decide (kv.1 = k)) = true then kvs.map (fun kv => if kv.1 = k then (kv.1, v) else kv) else kvs ++ [(k, v)]
theorem valV_pos {p : κ × V} {r : List (κ × V)} {k : κ} (e : p.1 = k) : valV (p :: r) k = some p.2 := by simp [valV, List.find?_cons, e]
theorem valV_neg {p : κ × V} {r : List (κ × V)} {k : κ} (e : ¬ p.1 = k) : valV (p :: r) k = valV r k := by simp [valV, List.find?_cons, e]
theorem valV_any (k : κ) : ∀ kvs : List (κ × V), (kvs.any fun kv => decide (kv.1 = k)) = (valV kvs k).isSome
  | [] => rfl
  | p :: r => by
    rw [List.any_cons]
    by_cases e : p.1 = k
    · simp only [valV_pos e, decide_eq_true e, Bool.true_or, Option.isSome_some]
    · rw [valV_neg e, decide_eq_false e, Bool.false_or]; exact valV_any k r
theorem length_putK (kvs : List (κ × V)) (k : κ) (v : V) : (putK kvs k v).length ≤ kvs.length + 1 := by
  unfold putK
  split
  · rw [List.length_map]; omega
  · rw [List.length_append, List.length_cons, List.length_nil]; omega
theorem RelO.isSome_eq {o : Option V} {u : Option Value} (r : RelO o u) : o.isSome = u.isSome := by
  cases o with
  | none => cases u with
    | none => rfl
    | some _ => exact (show False from r).elim
  | some _ => cases u with
    | none => exact (show False from r).elim
    | some _ => rfl
theorem RelO.getD {o : Option V} {u : Option Value} {d : V} {d' : Value} (r : RelO o u) (rd : RelV d d') : RelV (o.getD d) (u.getD d') := by
  cases o with
  | none => cases u with
    | none => exact rd
    | some _ => exact (show False from r).elim
  | some _ => cases u with
    | none => exact (show False from r).elim
    | some _ => exact r
theorem KV.val {kvs : List (κ × V)} {vs : List (κ × Value)} (r : KV kvs vs) (k : κ) : RelO (valV kvs k) (valueAt vs k) := by
  unfold KV at r
  induction r with
  | nil => exact True.intro
  | @cons p q ps qs h t ih =>
    obtain ⟨h1, h2⟩ := h
    by_cases e : p.1 = k
    · have e' : q.1 = k := h1.symm.trans e
      have b : valueAt (q :: qs) k = some q.2 := by simp [valueAt, List.find?_cons, e']
      rw [valV_pos e, b]; exact h2
    · have e' : ¬ q.1 = k := fun z => e (h1.trans z)
      have b : valueAt (q :: qs) k = valueAt qs k := by simp [valueAt, List.find?_cons, e']
      rw [valV_neg e, b]; exact ih
theorem KV.any {kvs : List (κ × V)} {vs : List (κ × Value)} (r : KV kvs vs) (k : κ) : (kvs.any fun kv => decide (kv.1 = k)) = vs.any fun kv => decide (kv.1 = k) := by
  unfold KV at r
  induction r with
  | nil => rfl
  | cons h t ih => rw [List.any_cons, List.any_cons, ih, h.1]
theorem KV.repl {kvs : List (κ × V)} {vs : List (κ × Value)} (r : KV kvs vs) (k : κ) {y : V} {u : Value} (ry : RelV y u) :
    KV (kvs.map fun kv => if kv.1 = k then (kv.1, y) else kv) (vs.map fun kv => if kv.1 = k then (kv.1, u) else kv) := by
  unfold KV at r ⊢
  induction r with
  | nil => exact .nil
  | @cons p q ps qs h t ih =>
    rw [List.map_cons, List.map_cons]
    refine .cons ?_ ih
    obtain ⟨h1, h2⟩ := h
    by_cases e : p.1 = k
    · rw [if_pos e, if_pos (h1.symm.trans e)]; exact ⟨h1, ry⟩
    · rw [if_neg e, if_neg (fun z => e (h1.trans z))]; exact ⟨h1, h2⟩
theorem KV.put {kvs : List (κ × V)} {vs : List (κ × Value)} (r : KV kvs vs) (k : κ) {y : V} {u : Value} (ry : RelV y u) : KV (putK kvs k y) (stored vs k u) := by
  unfold putK stored
  rw [r.any k]
  by_cases e : (vs.any fun kv => decide (kv.1 = k)) = true
  · rw [if_pos e, if_pos e]; exact r.repl k ry
  · rw [if_neg e, if_neg e]; exact Paired.snoc r ⟨rfl, ry⟩
theorem KV.length {kvs : List (κ × V)} {vs : List (κ × Value)} (r : KV kvs vs) : kvs.length = vs.length := Paired.length r
end
theorem kV_is {P : Program} {w : World} {k : Key} {u : Value} (r : RelV (kV k) u) : (mixKind P w).is k u = true := by
  cases k with
  | inl i => obtain ⟨t, e⟩ := (show ∃ t, u = Value.int i t from r); subst e; exact mixKind_int P w i t
  | inr x => obtain ⟨t, e⟩ := (show ∃ t, u = Value.str x t from r); subst e; exact mixKind_str P w x t
theorem items_are {P : Program} {w : World} : ∀ {ks : List Key} {us : List Value}, Vals (ks.map kV) us → ItemsAre (mixKind P w) ks us
  | [], _, r => by rw [List.map_nil] at r; cases r; exact .nil
  | k :: ks, _, r => by
    rw [List.map_cons] at r
    cases r with
    | cons h t => exact .cons (kV_is h) (items_are t)
noncomputable abbrev KT (H : Hp) : List (List Key × V) → List (List Key × Addr × Value) → Prop := Paired fun p q => p.1 = q.1 ∧ H q.2.1 = some (.tup (p.1.map kV)) ∧ RelV p.2 q.2.2
theorem KT.val {H : Hp} {kvs : List (List Key × V)} {xs : List (List Key × Addr × Value)} (r : KT H kvs xs) (k : List Key) : RelO (valV kvs k) ((atKey xs k).map (·.2)) := by
  induction r with
  | nil => exact True.intro
  | @cons p q ps qs h t ih =>
    obtain ⟨h1, _, h2⟩ := h
    by_cases e : p.1 = k
    · have e' : q.1 = k := h1.symm.trans e
      have b : atKey (q :: qs) k = some q.2 := by simp [atKey, List.find?_cons, e']
      rw [valV_pos e, b]; exact h2
    · have e' : ¬ q.1 = k := fun z => e (h1.trans z)
      have b : atKey (q :: qs) k = atKey qs k := by simp [atKey, List.find?_cons, e']
      rw [valV_neg e, b]; exact ih
theorem KT.repl {H : Hp} {kvs : List (List Key × V)} {xs : List (List Key × Addr × Value)} (r : KT H kvs xs) (k : List Key) {y : V} {u : Value} (ry : RelV y u) :
    KT H (kvs.map fun kv => if kv.1 = k then (kv.1, y) else kv) (xs.map (putAt k u)) := by
  induction r with
  | nil => exact .nil
  | @cons p q ps qs h t ih =>
    rw [List.map_cons, List.map_cons]
    refine .cons ?_ ih
    obtain ⟨h1, h2, h3⟩ := h
    unfold putAt
    by_cases e : p.1 = k
    · rw [if_pos e, if_pos (h1.symm.trans e)]; exact ⟨h1, h2, ry⟩
    · rw [if_neg e, if_neg (fun z => e (h1.trans z))]; exact ⟨h1, h2, h3⟩
theorem KT.put {H : Hp} {kvs : List (List Key × V)} {xs : List (List Key × Addr × Value)} (r : KT H kvs xs) (k : List Key) {b : Addr} {y : V} {u : Value} (hb : H b = some (.tup (k.map kV))) (ry : RelV y u) :
    KT H (putK kvs k y) (storedH xs k b u) := by
  have e : (kvs.any fun kv => decide (kv.1 = k)) = (atKey xs k).isSome := by
    rw [valV_any, (r.val k).isSome_eq, Option.isSome_map]
  unfold putK storedH
  rw [e]
  by_cases q : (atKey xs k).isSome = true
  · rw [if_pos q, if_pos q]; exact r.repl k ry
  · rw [if_neg q, if_neg q]; exact Paired.snoc r ⟨rfl, hb, ry⟩
theorem KT.keeps {H H' : Hp} {kvs : List (List Key × V)} {xs : List (List Key × Addr × Value)} (r : KT H kvs xs) (ht : ∀ b ys, H b = some (.tup ys) → H' b = some (.tup ys)) : KT H' kvs xs :=
  Paired.mapP r fun _ _ z => ⟨z.1, ht _ _ z.2.1, z.2.2⟩
section
variable {P : Program} {w : World} {H : Hp} {h : Heap} {a : Addr}
theorem rd_of {u : HO} (ok : HOk P w H h) (e : Rd H a u) : ObjOk P w H h a u := e.ok ok
theorem dk_rd {kvs : List (Key × V)} (ok : HOk P w H h) (e : Rd H a (.dK kvs)) : kvs.length ≤ sizeLine ∧ (a == sysModules) = false ∧ ∃ vs, KV kvs vs ∧ h.DictOf (mixKind P w) a vs :=
  show ObjOk P w H h a (.dK kvs) from rd_of ok e
theorem dk_of {kvs : List (Key × V)} (ok : HOk P w H h) (e : H a = some (.dK kvs)) : kvs.length ≤ sizeLine ∧ (a == sysModules) = false ∧ ∃ vs, KV kvs vs ∧ h.DictOf (mixKind P w) a vs := dk_rd ok (.inl e)
theorem key_of {ks : List Key} (ok : HOk P w H h) (e : H a = some (.tup (ks.map kV))) : (tupleKind (mixKind P w)).is h ks a := by
  obtain ⟨_, its, r, o, h1, h2, n, h3⟩ := (show ObjOk P w H h a (.tup (ks.map kV)) from ok a _ e)
  exact ⟨o, its.toArray, n, h1, h2, h3, by simpa using items_are r⟩
theorem dt_rd {kvs : List (List Key × V)} (ok : HOk P w H h) (e : Rd H a (.dT kvs)) : kvs.length ≤ sizeLine ∧ (a == sysModules) = false ∧
    ∃ xs, KT H kvs xs ∧ h.DictOfH (tupleKind (mixKind P w)) a xs := by
  obtain ⟨z, y, xs, r, o, es, ep, h1, h2, h3, h4, h5⟩ := (show ObjOk P w H h a (.dT kvs) from rd_of ok e)
  refine ⟨z, y, xs, r, o, es, ep, h1, h2, h3, h4, fun x hx => ?_, h5⟩
  have all : ∀ {l : List (List Key × V)} {m : List (List Key × Addr × Value)}, KT H l m → ∀ x ∈ m, (tupleKind (mixKind P w)).is h x.1 x.2.1 := by
    intro l m q
    induction q with
    | nil => intro x hx; exact nomatch hx
    | @cons p q ps qs hq t ih =>
      intro x hx
      rcases List.mem_cons.mp hx with e | hx
      · subst e
        exact key_of ok (by rw [← hq.1]; exact hq.2.1)
      · exact ih x hx
  exact all r x hx
theorem dt_of {kvs : List (List Key × V)} (ok : HOk P w H h) (e : H a = some (.dT kvs)) : kvs.length ≤ sizeLine ∧ (a == sysModules) = false ∧
    ∃ xs, KT H kvs xs ∧ h.DictOfH (tupleKind (mixKind P w)) a xs := dt_rd ok (.inl e)
end
noncomputable def DGet (H : Hp) (a : Addr) (y : V) (r : Option V) : Prop :=
  (∃ kvs k, Rd H a (.dK kvs) ∧ y = kV k ∧ r = valV kvs k) ∨ ∃ kvs k b, Rd H a (.dT kvs) ∧ y = .ref b ∧ H b = some (.tup (k.map kV)) ∧ r = valV kvs k
noncomputable def DPut (H : Hp) (a : Addr) (y v : V) (H' : Hp) : Prop :=
  (∃ kvs k, H a = some (.dK kvs) ∧ y = kV k ∧ kvs.length < sizeLine ∧ H' = upd H a (.dK (putK kvs k v))) ∨
  ∃ kvs k b, H a = some (.dT kvs) ∧ y = .ref b ∧ H b = some (.tup (k.map kV)) ∧ kvs.length < sizeLine ∧ H' = upd H a (.dT (putK kvs k v))
section
variable {X : Cx} {pins : List (Addr × Obj)} {σ : St} {H : Hp} {s : Shared} {a : Addr} {y v : V} {u r : Value} {o : Option V} {A : Around} {E : Value → Shared → Prop}
theorem Inv.big (I : Inv X pins σ H s) : sysModules < s.heap.objs.size := by
  have h : mainGlobals < s.heap.objs.size := (I.mod.glob.keeps I.bk).lt
  exact Nat.lt_trans (by decide) h
theorem d_write {h' : Heap} {t' : Nat} {ob : HO} (I : Inv X pins σ H s) (mu : Mut (H a)) (hs : Heap.SameBut a s.heap h') (he : ∃ q, h'.get? a = some q) (new : ObjOk X.prog X.w (upd H a ob) h' a ob) :
    Inv X pins σ (upd H a ob) { s with heap := h', toks := t' } :=
  I.write (x := a) (e := a) mu (.inl rfl) (fun b q hb z => (hs.2 b hb).trans z) he new
theorem dk_new {P : Program} {w : World} {H' : Hp} {h' : Heap} {kvs : List (Key × V)} {vs : List (Key × Value)} (z : kvs.length ≤ sizeLine) (hd : (a == sysModules) = false) (rel : KV kvs vs) (dd : h'.DictOf (mixKind P w) a vs) :
    ObjOk P w H' h' a (.dK kvs) := ⟨z, hd, vs, rel, dd⟩
theorem d_setItem {H' : Hp} {Q : Unit → Shared → Prop} (hu : A.units + 1 < cLine) (I : Inv X pins σ H s) (g : DPut H a y v H') (ry : RelV y u) (rv : RelV v r) (h : ∀ s', Inv X pins σ H' s' → Q () s') :
    wpAny (model X.prog X.w) A (setItem (.ref a) u r) Q E s := by
  rcases g with ⟨kvs, k, e, ey, l, eH⟩ | ⟨kvs, k, b, e, ey, eb, l, eH⟩
  · subst ey eH
    obtain ⟨z, hd, vs, rel, dd⟩ := dk_of I.hok e
    have hz : vs.length ≤ sizeLine := by rw [← rel.length]; exact z
    have hl : (putK kvs k v).length ≤ sizeLine := by have := length_putK kvs k v; omega
    refine wpAny_setItem_pairs (hsz := hz) (kV_is ry) dd fun h' dd' hs => h _ ?_
    have he : ∃ q, h'.get? a = some q := let ⟨q, _, _, hq, _⟩ := dd'; ⟨q, hq⟩
    exact d_write I (by rw [e]; exact True.intro) hs he (dk_new hl hd (rel.put k rv) dd')
  · subst ey eH
    cases (show u = Value.ref b from ry)
    obtain ⟨z, hd, xs, rel, dd⟩ := dt_of I.hok e
    have hz : xs.length ≤ sizeLine := by rw [← Paired.length rel]; exact z
    have hl : (putK kvs k v).length ≤ sizeLine := by have := length_putK kvs k v; omega
    refine wpAny_setItem_heap (hsz := hz) (tupleKind_room_in1 hu) (key_of I.hok eb) dd fun h' dd' hs => h _ ?_
    obtain ⟨q, es, ep, hq, h2, h3, h4, _, h5⟩ := dd'
    refine d_write I (by rw [e]; exact True.intro) hs ⟨q, hq⟩ ⟨hl, hd, _, (rel.put k eb rv).keeps fun c ys ec => ?_, q, es, ep, hq, h2, h3, h4, h5⟩
    rw [upd_ne (ne_of ec e (fun z => nomatch z))]
    exact ec
end
section
variable {X : Cx} {pins : List (Addr × Obj)} {σ : St} {H : Hp} {s : Shared} {a : Addr} {kvs : List (Key × V)} {k : Key} {u : Value} {A : Around} {E : Value → Shared → Prop}
end
noncomputable def sDPut (td ty tv : TE) : TS := fun D σ H => tv σ H fun v H1 => td σ H1 fun x H2 => ty σ H2 fun y H3 => ∃ a H4, x = .ref a ∧ DPut H3 a y v H4 ∧ D.nx σ H4
section
variable {X : Cx} {o i e value : Expr} {pos pos' tpos : Pos} {td ty tv : TE}
theorem ps_dput (hu : X.A.units + 1 < cLine) (ho : PE X o td) (hi : PE X i ty) (hv : PE X value tv) (hs : swapsWith value (some (.Subscript o i pos')) pos.line X.env = pure false) :
    PS X (.Assign [.Subscript o i pos'] value pos) (sDPut td ty tv) := by
  intro pins s σ H D I h
  refine wpAny_Assign_Subscript (thn (hv pins s σ H _ I h) fun r s1 ⟨v, H1, I1, rv, q1⟩ => thn (ho pins s1 σ H1 _ I1 q1) fun u s2 ⟨x, H2, I2, rx, q2⟩ => thn (hi pins s2 σ H2 _ I2 q2) fun iv s3 ⟨y, H3, I3, ry, a, H4, ex, g, q3⟩ => ?_) hs
  subst ex
  obtain rfl : u = Value.ref a := rx
  exact d_setItem hu I3 g ry rv fun s4 I4 => ⟨σ, H4, I4, q3⟩
end
theorem dk_empty {P : Program} {w : World} {H : Hp} (h : Heap) (hb : sysModules < h.objs.size) : ObjOk P w H (h.push { cls := .type "dict", data := .dict #[] }) h.objs.size (.dK []) :=
  ⟨Nat.zero_le _, beq_eq_false_iff_ne.mpr (Ne.symm (Nat.ne_of_lt hb)), [], .nil, Heap.DictOf.new h⟩
noncomputable def tDNewK : TE := fun _ H Q => ∀ p, H p = none → Q (.ref p) (upd H p (.dK []))
section
variable {X : Cx} {pos : Pos}
theorem pe_dnewK : PE X (.Dict [] [] pos) tDNewK := fun pins s σ H Q I h =>
  wpAny_Dict_empty ⟨.ref s.heap.objs.size, _, I.laid (a := s.heap.objs.size) (o := .dK []) (t' := s.toks) (fun _ _ q => Heap.get?_push_of_some _ q) (Nat.le_refl _) (dk_empty s.heap I.big), rfl, h _ (I.hok.fresh (Nat.le_refl _))⟩
end
structure M2 (X : Cx) (o : Expr) (m : Str) (apos : Pos) (e f : Expr) (cpos : Pos) : Prop where
  base : attributeBase o m X.env (eval o X.env) = eval o X.env
  few : ((backTo cpos (starEach [e, f] X.env)).all (fun x => !x.1) && (backToKw cpos (keywordEach [] X.env)).all (fun x => x.1.isSome)
    && decide (([e, f] : List Expr).length + ([] : List Keyword).length + (if ([] : List Keyword).isEmpty then 0 else 1) < 30)) = true
  line : (apos.endLine == cpos.line) = true
  trees : backTo cpos (starEach [e, f] X.env) = [(false, eval e X.env), (false, eval f X.env)]
noncomputable def IsD (H : Hp) (a : Addr) : Prop := (∃ kvs, Rd H a (.dK kvs)) ∨ ∃ kvs, Rd H a (.dT kvs)
theorem isD_at {X : Cx} {pins : List (Addr × Obj)} {σ : St} {H : Hp} {s : Shared} {a : Addr} (I : Inv X pins σ H s) (d : IsD H a) :
    s.TypeIs (.ref a) "dict" ∧ (∀ b, Value.ref a = .ref b → ∃ ob, s.heap.get? b = some ob ∧ ob.dict = none) ∧ (a == sysModules) = false := by
  rcases d with ⟨kvs, e⟩ | ⟨kvs, e⟩
  · obtain ⟨_, hd, vs, _, dd⟩ := dk_rd I.hok e
    refine ⟨dd.typeIs, fun b q => ?_, hd⟩
    cases q
    obtain ⟨ob, _, _, h1, h2, _⟩ := dd
    exact ⟨ob, h1, h2.2.1⟩
  · obtain ⟨_, hd, xs, _, dd⟩ := dt_rd I.hok e
    refine ⟨dd.typeIs, fun b q => ?_, hd⟩
    cases q
    obtain ⟨ob, _, _, h1, h2, _⟩ := dd
    exact ⟨ob, h1, h2.2.1⟩
section
variable {X : Cx} {pins : List (Addr × Obj)} {σ : St} {H : Hp} {s : Shared} {a : Addr} {y d : V} {u r : Value} {o : Option V} {A : Around} {E : Value → Shared → Prop}
theorem d_get2 {Q : Value → Shared → Prop} (hu : A.units + 1 < cLine) (I : Inv X pins σ H s) (g : DGet H a y o) (ry : RelV y u) (rd : RelV d r) (h : ∀ w' s', Inv X pins σ H s' → RelV (o.getD d) w' → Q w' s') :
    wpAny (model X.prog X.w) A (call (.builtin "dict.get") [.ref a, u, r]) Q E s := by
  rcases g with ⟨kvs, k, e, ey, l⟩ | ⟨kvs, k, b, e, ey, eb, l⟩
  · subst ey
    obtain ⟨z, hd, vs, rel, dd⟩ := dk_rd I.hok e
    refine call_meetsIn PySem.F.slot_dict_get dd.typeIs PySem.F.entry_dict_get (PySem.F.args_dict_get_3 _ _ _) (meets_dict_get_default (mixKind X.prog X.w) a (kV_is ry) hd r) ⟨_, dd.mapOf, h _ _ (I.tok _) ?_⟩
    rw [l]
    exact (rel.val k).getD rd
  · subst ey
    cases (show u = Value.ref b from ry)
    obtain ⟨z, hd, xs, rel, dd⟩ := dt_rd I.hok e
    refine call_meetsIn PySem.F.slot_dict_get dd.typeIs PySem.F.entry_dict_get (PySem.F.args_dict_get_3 _ _ _) (meetsH_dict_get_default (tupleKind (mixKind X.prog X.w)) a b hd r) ⟨tupleKind_room_in1 hu, k, xs, key_of I.hok eb, dd, h _ _ (I.tok _) ?_⟩
    rw [l]
    exact (rel.val k).getD rd
end
noncomputable def tDGet2 (td ty tx : TE) : TE := fun σ H Q => td σ H fun x H1 => ∃ a, x = .ref a ∧ IsD H1 a ∧ ty σ H1 fun y H2 => tx σ H2 fun z H3 => ∃ o, DGet H3 a y o ∧ Q (o.getD z) H3
section
variable {X : Cx} {o e f : Expr} {apos cpos : Pos} {td ty tx : TE}
theorem pe_dget2 (hu : X.A.units + 1 < cLine) (ho : PE X o td) (he : PE X e ty) (hf : PE X f tx) (m : M2 X o "get" apos e f cpos) : PE X (.Call (.Attribute o "get" apos) [e, f] [] cpos) (tDGet2 td ty tx) := by
  intro pins s σ H Q I h
  refine wpAny_Call_method m.base m.few m.line PySem.F.plainAttrs_dict PySem.F.slot_dict_get PySem.F.type_dict_get (thn (ho pins s σ H _ I h) fun u s1 ⟨x, H1, I1, rx, a, ex, d, q1⟩ => ?_)
  subst ex
  obtain rfl : u = Value.ref a := rx
  obtain ⟨t1, t2, _⟩ := isD_at I1 d
  refine ⟨t1, t2, ?_⟩
  rw [m.trees]
  refine Calls.callWith_builtin rfl (Calls.evalArgs_plain (Calls.spliced_cons (thn (he pins s1 σ H1 _ I1 q1) fun iv s2 ⟨y, H2, I2, ry, q2⟩ =>
    Calls.spliced_cons (thn (hf pins s2 σ H2 _ I2 q2) fun fv s3 ⟨z, H3, I3, rz, ov, g, q3⟩ => Calls.spliced_nil ?_))))
  exact d_get2 hu I3 g ry rz fun w' s4 I4 rw' => ⟨_, H3, I4, rw', q3⟩
end
section
variable {X : Cx} {pins : List (Addr × Obj)} {σ : St} {H : Hp} {s : Shared} {a : Addr} {kvs : List (Key × V)} {A : Around} {E : Value → Shared → Prop}
end
section
variable {X : Cx} {pins : List (Addr × Obj)} {σ : St} {H : Hp} {s : Shared} {a : Addr} {y : V} {u : Value} {A : Around} {E : Value → Shared → Prop}
end
end L2
namespace Att
open PySem PySem.W PySem.Calls PyProof.Rows
section
variable {prog : Program} {w : World} {A : Around} {E : Value → Shared → Prop} {s : Shared} {K : Frag}
end
end Att
namespace L2
open PySem PySem.Spec PyProof.Rows
end L2
namespace L2
open PySem PySem.Spec PyProof.Rows
end L2
namespace L2
open PySem PySem.Spec PyProof.Rows
section
variable {P : Program} {w : World} {K : PySem.W.Frag} {mg : Str → Option Value} {base : Heap}
end
section
variable {X : Cx}
end
section
variable {κ : Type} [DecidableEq κ]
end
end L2
namespace L2.L3
open PySem PySem.Spec PyProof.Rows
section
variable {P : Program} {w : World} {K : PySem.W.Frag} {mg : Str → Option Value} {base : Heap} {x : Str} {k : Nat} {ps N : List Str}
end
section
variable {X : Cx} {e : Expr} {fa : EF} {pos p pos2 p2 : Pos}
end
section
variable {X : Cx} {a b : Expr} {pos p p2 pos2 : Pos} {fa : EF}
end
end L2.L3
namespace L2.SX
open PySem PyProof.Rows
section
variable {prog : Program} {w : World} {K : Type} [DecidableEq K] {knd : KeyKind prog w K} {A : Around} {E : Value → Shared → Prop} {s : Shared} {a : Addr}
end
section
variable {prog : Program} {w : World} {K : Type} [DecidableEq K] {knd : KeyKind prog w K} {A : Around} {R : Result → Shared → Prop} {I : Addr} {fp wr : List Addr} {G : Array GenState → Array GenState → Prop} {n : Nat} {P : Nat → Value → Prop} {St : Nat → Shared → Prop}
end
section
variable {prog : Program} {w : World} {K : Type} [DecidableEq K] {knd : KeyKind prog w K} {A : Around} {E : Value → Shared → Prop} {s : Shared}
end
end L2.SX
namespace L2.L3
open PySem PySem.Spec PyProof.Rows
noncomputable def dKey : PyData → Option Key
  | .int i => some (.inl i)
  | .str x => some (.inr x)
  | _ => none
theorem dKey_keyD (k : Key) : dKey (keyD k) = some k := by cases k <;> rfl
theorem dKey_is {d : PyData} {k : Key} (h : dKey d = some k) : d = keyD k := by
  unfold dKey at h; split at h
  · cases h; rfl
  · cases h; rfl
  · cases h
noncomputable def lookK (k : Key) : List (PyData × PyData) → Option PyData
  | [] => none
  | p :: r => if dKey p.1 = some k then some p.2 else lookK k r
noncomputable def lookV (k : Key) : List (Key × V) → Option V
  | [] => none
  | p :: r => if p.1 = k then some p.2 else lookV k r
section
variable {K : PySem.W.Frag} {G : Hp}
theorem lookK_rep {k : Key} {d : PyData} : ∀ {kvs : List (Key × V)} {D : List (PyData × PyData)}, D.map (·.1) = kvs.map (fun p => keyD p.1) → RepAll K G (kvs.map (·.2)) (D.map (·.2)) → lookK k D = some d → ∃ v, lookV k kvs = some v ∧ Rep K G v d
  | [], [], _, _, h => by cases h
  | [], _ :: _, e, _, _ => by simp at e
  | _ :: _, [], e, _, _ => by simp at e
  | q :: kvs, p :: D, e, .cons r t, h => by
    rw [List.map_cons, List.map_cons, List.cons.injEq] at e
    unfold lookK at h
    unfold lookV
    rw [e.1, dKey_keyD] at h
    by_cases c : q.1 = k
    · rw [if_pos (by rw [c])] at h
      rw [if_pos c]
      cases (Option.some.inj h)
      exact ⟨_, rfl, r⟩
    · rw [if_neg (fun z => c (Option.some.inj z))] at h
      rw [if_neg c]
      exact lookK_rep e.2 t h
theorem rep_key {k : Key} {v : V} (r : Rep K G v (keyD k)) : v = kV k := by
  cases k <;> (cases r; rfl)
end
section
variable {X : Cx} {e a b : Expr} {fa fb : EF} {pos p : Pos}
end
end L2.L3
namespace L2.L3
open PySem PySem.Spec PyProof.Rows
section
variable {X : Cx} {elt iter tg : Expr} {ifs : List Expr} {scope : Scope} {pos spos p : Pos} {N' : List Str} {cap : List (Option Nat)} {t : Tg} {fi : AF} {ft : TF} {fe : EF}
end
end L2.L3
namespace L2.L3
open PySem PySem.Spec PyProof.Rows
section
variable {X : Cx} {e a b : Expr} {fa fb : EF} {pos p p2 p3 : Pos}
end
end L2.L3
namespace L2.L3
open PySem PySem.Spec PyProof.Rows
noncomputable def noD (i : Nat) (ρ : List Ent) : Bool := (List.range ρ.length).all fun j => j == i || (match ρ[j]? with | some (.dct _) => false | _ => true)
theorem noD_is {i : Nat} {ρ : List Ent} (h : noD i ρ = true) : ∀ (j : Nat) (ks : List (Key × PyData)), ρ[j]? = some (.dct ks) → j = i := fun j ks hj => by
  have := List.all_eq_true.mp h j (List.mem_range.mpr (List.getElem?_eq_some_iff.mp hj).1)
  rw [hj] at this
  simpa using this
noncomputable def newD (i : Nat) : SF := fun ρ => if noD i ρ then some (.nx (ρ.set i (.dct []))) else none
noncomputable def putKD (kvs : List (Key × PyData)) (k : Key) (d : PyData) : List (Key × PyData) :=
  if (kvs.any fun kv => decide (kv.1 = k)) = true then kvs.map (fun kv => if kv.1 = k then (kv.1, d) else kv) else kvs ++ [(k, d)]
noncomputable def putDS (i : Nat) (fk fv : EF) : SF := fun ρ => match ρ[i]? with
  | some (.dct kvs) => bns (fv ρ) ρ fun d => bns (fk ρ) ρ fun k => (match dKey k with
    | some k => if szOk kvs.length then some (.nx (ρ.set i (.dct (putKD kvs k d)))) else none
    | none => none)
  | _ => none
theorem any_keys {β γ : Type} {k : Key} : ∀ {vs : List (Key × β)} {kvs : List (Key × γ)}, vs.map (·.1) = kvs.map (·.1) → (vs.any fun kv => decide (kv.1 = k)) = kvs.any fun kv => decide (kv.1 = k)
  | [], [], _ => rfl
  | [], _ :: _, h => by simp at h
  | _ :: _, [], h => by simp at h
  | a :: vs, b :: kvs, h => by
    rw [List.map_cons, List.map_cons, List.cons.injEq] at h
    rw [List.any_cons, List.any_cons, any_keys h.2, h.1]
theorem DctOk.repl {K : PySem.W.Frag} {G : Hp} {k : Key} {v : V} {d : PyData} (r : Rep K G v d) : ∀ {vs : List (Key × V)} {kvs : List (Key × PyData)}, DctOk K G vs kvs → DctOk K G (vs.map fun kv => if kv.1 = k then (kv.1, v) else kv) (kvs.map fun kv => if kv.1 = k then (kv.1, d) else kv)
  | [], [], h => h
  | [], _ :: _, h => by have := h.1; simp at this
  | _ :: _, [], h => by have := h.1; simp at this
  | a :: vs, b :: kvs, ⟨h1, h2⟩ => by
    rw [List.map_cons, List.map_cons, List.cons.injEq] at h1
    rw [List.map_cons, List.map_cons] at h2
    cases h2 with
    | cons ra rr =>
      obtain ⟨i1, i2⟩ := DctOk.repl (k := k) r (vs := vs) (kvs := kvs) ⟨h1.2, rr⟩
      by_cases c : b.1 = k
      · have c' : a.1 = k := h1.1.trans c
        refine ⟨?_, ?_⟩
        · simp only [List.map_cons, if_pos c, if_pos c', i1, h1.1]
        · simp only [List.map_cons, if_pos c, if_pos c']
          exact .cons r i2
      · have c' : ¬ a.1 = k := fun z => c (h1.1.symm.trans z)
        refine ⟨?_, ?_⟩
        · simp only [List.map_cons, if_neg c, if_neg c', i1, h1.1]
        · simp only [List.map_cons, if_neg c, if_neg c']
          exact .cons ra i2
theorem DctOk.put {K : PySem.W.Frag} {G : Hp} {k : Key} {v : V} {d : PyData} {vs : List (Key × V)} {kvs : List (Key × PyData)} (h : DctOk K G vs kvs) (r : Rep K G v d) : DctOk K G (putK vs k v) (putKD kvs k d) := by
  unfold putK putKD
  rw [any_keys h.1]
  split
  · exact DctOk.repl r h
  · refine ⟨by rw [List.map_append, List.map_append, h.1]; rfl, ?_⟩
    rw [List.map_append, List.map_append]
    exact h.2.append (.cons r .nil)
theorem DctOk.len {K : PySem.W.Frag} {G : Hp} {vs : List (Key × V)} {kvs : List (Key × PyData)} (h : DctOk K G vs kvs) : vs.length = kvs.length := by
  have := congrArg List.length h.1
  simpa using this
section
variable {X : Cx} {a e kx o f : Expr} {fa fk fv fd fx : EF} {pos p p2 : Pos}
theorem ds_newD (i : Nat) {x : Str} {p p2 : Pos} (hN : X.N.Nodup) (hi : X.N[i]? = some x := by rfl) (hx : Loc X.env.scope x := by first | exact Or.inl rfl | exact Or.inr rfl)
    (hs : swapsWith (.Dict [] [] p2) (some (.Name x p)) pos.line X.env = pure false := by rfl) (hf : X.fn x = true ∨ X.env.scope.names.lookup x = some .local := by first | exact .inl rfl | exact .inr rfl) :
    DS X (.Assign [.Name x p] (.Dict [] [] p2) pos) (newD i) := ⟨fun pins s σ H D I ⟨ρ, o, H0, G₀, G, e, R, q⟩ => ps_set hN hi hx pe_dnewK hs hf pins s σ H D I (by
  unfold newD at e
  split at e
  · rename_i hz
    cases (Option.some.inj e)
    exact fun a ha => q G _ _ (.refl _) (R.freshD ha (noD_is hz) ⟨rfl, .nil⟩)
  · cases e)⟩
theorem ds_putD (i : Nat) {x : Str} {xp kp : Pos} (hu : X.A.units + 64 < cLine) (hv : DE X e fv) (hk : DE X kx fk) (hN : X.N[i]? = some x := by rfl)
    (hvi : Vis X.env.scope x := by first | exact Or.inl rfl | exact Or.inr (Or.inl rfl) | exact Or.inr (Or.inr rfl)) (hd : (x == ("__debug__" : Str)) = false := by decide) (hcd : (x == ("__classdict__" : Str)) = false := by decide)
    (hs : swapsWith e (some (.Subscript (.Name x xp) kx kp)) pos.line X.env = pure false := by rfl) :
    DS X (.Assign [.Subscript (.Name x xp) kx kp] e pos) (putDS i fk fv) := ⟨fun pins s σ H D I ⟨ρ, o, H0, G₀, G, ef, R, q⟩ =>
  ps_dput (by omega) (pe_var hN hvi hd hcd) hk.run hv.run hs pins s σ H D I (by
    unfold putDS at ef
    split at ef
    · rename_i kvs hi
      obtain ⟨a, vs, e1, _⟩ := R.ownD hi
      refine sE R ef q fun d v G1 H1 g1 R1 rv e2 q1 => ⟨.ref a, e1, sE R1 e2 q1 fun k u G2 H2 g2 R2 ru e3 q2 => ?_⟩
      split at e3
      · rename_i key hk'
        split at e3
        · rename_i hz
          cases (Option.some.inj e3)
          obtain ⟨a', vs', e1', h1, h2, h3, r⟩ := R2.ownD hi
          rw [e1] at e1'; cases e1'
          rw [dKey_is hk'] at ru
          cases rep_key ru
          exact ⟨a, _, rfl, .inl ⟨vs', key, h1, rfl, by rw [r.len]; exact sz_lt hz, rfl⟩, q2 G2 _ σ (.refl _) (R2.wroteD hi e1 (r.put (rv.mono g2.gg)))⟩
        · cases e3
      · cases e3
    · cases ef)⟩
end
noncomputable def getZ (D : List (PyData × PyData)) (k z : PyData) : Option PyData := match dKey k with
  | some k => some ((lookK k D).getD z)
  | none => none
noncomputable def getE2 (fd fk fx : EF) : EF := fun ρ => bnd (fd ρ) fun x => match x with
  | .dict D => bnd (fk ρ) fun k => bnd (fx ρ) fun z => lft (getZ D k z)
  | _ => none
theorem valV_look {k : Key} : ∀ kvs : List (Key × V), valV kvs k = lookV k kvs
  | [] => rfl
  | p :: r => by
    unfold lookV
    by_cases c : p.1 = k
    · rw [if_pos c, valV_pos c]
    · rw [if_neg c, valV_neg c, valV_look r]
theorem lookK_none {k : Key} : ∀ {kvs : List (Key × V)} {D : List (PyData × PyData)}, D.map (·.1) = kvs.map (fun p => keyD p.1) → lookK k D = none → lookV k kvs = none
  | [], _, _, _ => rfl
  | p :: r, [], h, _ => by simp at h
  | p :: r, q :: D, h, e => by
    rw [List.map_cons, List.map_cons, List.cons.injEq] at h
    unfold lookK at e
    unfold lookV
    split at e
    · cases e
    · rename_i c
      rw [h.1, dKey_keyD] at c
      rw [if_neg fun z => c (by rw [z])]
      exact lookK_none h.2 e
theorem look_get {K : PySem.W.Frag} {G : Hp} {k : Key} {kvs : List (Key × V)} {D : List (PyData × PyData)} {z : PyData} {zv : V} (h : D.map (·.1) = kvs.map (fun p => keyD p.1)) (r : RepAll K G (kvs.map (·.2)) (D.map (·.2))) (rz : Rep K G zv z) : Rep K G ((valV kvs k).getD zv) ((lookK k D).getD z) := by
  rw [valV_look]
  cases e : lookK k D with
  | none => rw [lookK_none h e]; exact rz
  | some d =>
    obtain ⟨v, ev, rv⟩ := lookK_rep h r e
    rw [ev]; exact rv
section
variable {X : Cx} {o e f : Expr} {fd fk fx : EF} {ap cp : Pos}
theorem de_get2 (hu : X.A.units + 64 < cLine) (ho : DE X o fd) (hk : DE X e fk) (hx : DE X f fx) (m : M2 X o "get" ap e f cp := by exact ⟨rfl, rfl, rfl, rfl⟩) : DE X (.Call (.Attribute o "get" ap) [e, f] [] cp) (getE2 fd fk fx) := ⟨fun pins s σ H Q I ⟨ρ, r, H0, G₀, G, ef, R, q⟩ =>
  pe_dget2 (by omega) ho.run hk.run hx.run m pins s σ H Q I (bE R ef q.x fun x v G1 H1 g1 R1 rv e1 => by
    split at e1
    · rename_i D
      cases rv with
      | dict h e0 rr =>
        rename_i a kvs
        refine ⟨a, rfl, .inl ⟨kvs, .inl (g1.sub _ _ h)⟩, bE R1 e1 (q.more g1).x fun k u G2 H2 g2 R2 ru e2 => bE R2 e2 ((q.more g1).more g2).x fun z w G3 H3 g3 R3 rw e3 => ?_⟩
        obtain ⟨d, ed, rfl⟩ := lft_is e3
        unfold getZ at ed
        split at ed
        · rename_i key hk'
          cases (Option.some.inj ed)
          rw [dKey_is hk'] at ru
          cases rep_key ru
          have g23 := g2.trans g3
          have h3 := g23.sub _ _ (g23.gg _ _ h)
          exact ⟨_, .inl ⟨kvs, key, .inl h3, rfl, rfl⟩, q _ _ _ (g1.trans g23) (look_get e0 (rr.mono g23.gg) rw)⟩
        · cases ed
    · cases e1)⟩
end
end L2.L3
namespace L2.ST
open PySem PySem.W PyProof.Rows
section
variable {α β : Type} {lt : Nat → Nat → Bool} {n : Nat}
noncomputable def run (lt : Nat → Nat → Bool) : KasT α → α
  | .ret a => a
  | .ask i j k => run lt (k (lt i j))
end
section
variable {r : Nat → Int} {n : Nat} {p : Array Nat}
noncomputable def vl (r : Nat → Int) (p : Array Nat) (k : Nat) : Int := r (p.getD k 0)
end
end L2.ST
namespace L2.L3
open PySem
noncomputable def ltC : PyData → PyData → Bool
  | .int a, .int b => decide (a < b)
  | .str a, .str b => !leStr b a
  | _, _ => false
noncomputable def eqC : PyData → PyData → Bool
  | .int a, .int b => a == b
  | .str a, .str b => a == b
  | _, _ => false
noncomputable def ltR : List PyData → List PyData → Bool
  | a :: r, b :: s => if eqC a b then ltR r s else ltC a b
  | _, _ => false
noncomputable def ltT : PyData → PyData → Bool
  | .tuple a, .tuple b => ltR a b
  | _, _ => false
section
variable {g : List Bool} {a b c : PyData}
end
end L2.L3
namespace L2.L3
open PySem PySem.W PyProof.Rows PySem.Calls
section
variable {prog : Program} {w : World} {A : Around} {E : Value → Shared → Prop} {s : Shared}
inductive Rows (h : Heap) : List Value → List PyData → Prop
  | nil : Rows h [] []
  | cons {v : Value} {vs : List Value} {d : PyData} {ds : List PyData} {as : List Addr} : Reads h v d as → Rows h vs ds → Rows h (v :: vs) (d :: ds)
end
end L2.L3
namespace L2.L3
open PySem PySem.W PyProof.Rows
section
variable {X : Cx} {pins : List (Addr × Obj)} {σ : List (Option V)} {H : Hp} {s : Shared}
end
section
variable {X : Cx}
end
end L2.L3
namespace L2.L3
open PySem PySem.W PyProof.Rows
section
variable {X : Cx} {e : Expr} {fa : EF} {x : Str} {pos : Pos}
noncomputable def dfE (g : PyData → PyData → Option PyData) (fa fb : EF) : EF := fun ρ => match fa ρ, fb ρ with
  | some (.ok x), some (.ok y) => lft (g x y)
  | _, _ => none
end
theorem df_at {g : PyData → PyData → Option PyData} {fa fb : EF} {ρ : List Ent} {x y d : PyData} (ha : fa ρ = some (.ok x)) (hb : fb ρ = some (.ok y)) (h : g x y = some d) : dfE g fa fb ρ = some (.ok d) := by
  unfold dfE
  rw [ha, hb]
  dsimp only
  rw [h]; rfl
end L2.L3
namespace L2.L3
open PySem PySem.Spec PyProof.Rows
noncomputable def blD : PyData → Option Bool
  | .bool b => some b
  | _ => none
theorem blD_is {d : PyData} {b : Bool} (h : blD d = some b) : d = .bool b := by
  unfold blD at h
  split at h
  · cases h; rfl
  · cases h
noncomputable def cntD (x y : PyData) : Option PyData := match x, y with
  | .list xs, .int k => (match allD intD xs with | some ns => some (.int (ns.count k : Nat)) | none => none)
  | .list xs, .bool c => (match allD blD xs with | some bs => some (.int (bs.count c : Nat)) | none => none)
  | _, _ => none
theorem vals_bools : ∀ {bs : List Bool} {us : List Value}, Vals (bs.map V.bl) us → us = bs.map Value.bool
  | [], _, .nil => rfl
  | b :: bs, _, .cons r t => by cases r; rw [List.map_cons, vals_bools t]
theorem countP_int (k : Int) : ∀ {us : List Value} {ns : List Int}, Vals (ns.map V.int) us → us.countP (isInt k) = ns.count k
  | _, [], .nil => rfl
  | _, n :: ns, .cons ⟨t, e⟩ r => by
    subst e
    rw [List.countP_cons, List.count_cons, countP_int k r]
    rfl
section
variable {X : Cx} {o e : Expr} {fo fa : EF} {apos cpos : Pos}
theorem mt_countI : MtM X "list.count" (fun x vs H Q => ∃ (p : Addr) (ns : List Int) (k : Int), x = .ref p ∧ vs = [.int k] ∧ SqL X.K H p (ns.map V.int) ∧ Q (.int (ns.count k : Nat)) H) := by
  intro pins s σ H x vs v us Q I rx rv ⟨p, ns, k, e1, e2, hq, q⟩
  subst e1 e2
  cases rx
  obtain ⟨u, rfl, t, rfl⟩ := rv.one
  obtain ⟨its, r1, p1, hz⟩ := I.list hq
  obtain ⟨⟨c1, d1, t1, sl1⟩, n1, g1, k1, _, m1⟩ := p1
  dsimp only at k1 m1
  subst k1 m1
  have hi := intsAre_of r1
  refine call_meets F.slot_list_count ⟨_, g1, rfl⟩ F.entry_list_count (F.args_list_count_2 _ _)
    (SeqAt.list_countAt p its.toArray n1 d1 sl1 (.int k t) (isInt k)) ⟨g1, fun y hy => (eq_isInt k t hi y (by simpa using hy)).at _ _, ⟨.int _, H, I.tok _, ⟨_, rfl⟩, ?_⟩⟩
  have : (its.toArray.toList.countP (isInt k) : Nat) = ns.count k := by simpa using countP_int k r1
  rw [this]; exact q
noncomputable def isBl (c : Bool) : Value → Bool
  | .bool b => b == c
  | _ => false
theorem mt_countB : MtM X "list.count" (fun x vs H Q => ∃ (p : Addr) (bs : List Bool) (c : Bool), x = .ref p ∧ vs = [.bl c] ∧ SqL X.K H p (bs.map V.bl) ∧ Q (.int (bs.count c : Nat)) H) := by
  intro pins s σ H x vs v us Q I rx rv ⟨p, bs, c, e1, e2, hq, q⟩
  subst e1 e2
  cases rx
  obtain ⟨u, rfl, rfl⟩ := rv.one
  obtain ⟨its, r1, p1, hz⟩ := I.list hq
  obtain ⟨⟨c1, d1, t1, sl1⟩, n1, g1, k1, _, m1⟩ := p1
  dsimp only at k1 m1
  subst k1 m1
  have hi := vals_bools r1
  subst hi
  refine call_meets F.slot_list_count ⟨_, g1, rfl⟩ F.entry_list_count (F.args_list_count_2 _ _)
    (SeqAt.list_countAt p (bs.map Value.bool).toArray n1 d1 sl1 (.bool c) (isBl c)) ⟨g1, fun y hy => ?_, ⟨.int _, H, I.tok _, ⟨_, rfl⟩, ?_⟩⟩
  · obtain ⟨b, _, rfl⟩ := List.mem_map.mp (show y ∈ bs.map Value.bool by simpa using hy)
    exact SeqAt.EqAt.bool_bool b c
  · have : ((bs.map Value.bool).toArray.toList.countP (isBl c) : Nat) = bs.count c := by
      rw [List.countP_map]
      rfl
    rw [this]; exact q
theorem de_count (ho : DE X o fo) (ha : DE X e fa)
    (hbase : attributeBase o "count" X.env (eval o X.env) = eval o X.env := by rfl)
    (hfew : ((backTo cpos (starEach (e :: []) X.env)).all (fun x => !x.1) && (backToKw cpos (keywordEach [] X.env)).all (fun x => x.1.isSome) && decide ((e :: []).length + ([] : List Keyword).length + (if ([] : List Keyword).isEmpty then 0 else 1) < 30)) = true := by rfl)
    (hline : (apos.endLine == cpos.line) = true := by rfl) (hst : starEach (e :: []) X.env = (false, eval e X.env) :: starEach [] X.env := by rfl) (hplain : (backTo cpos (starEach [] X.env)).any (·.1) = false := by rfl) :
    DE X (.Call (.Attribute o "count" apos) [e] [] cpos) (dfE cntD fo fa) := de_of fun ρ r h => by
  unfold dfE at h
  split at h
  · rename_i x y ea eb
    obtain ⟨d, ed, rfl⟩ := lft_is h
    refine ⟨d, rfl, ?_⟩
    unfold cntD at ed
    split at ed
    · rename_i xs k
      split at ed
      · rename_i ns ei
        have hx := allD_is (g := PyData.int) (fun d a q => intD_is q) ei
        subst hx
        cases (Option.some.inj ed)
        exact pd_bm F.plainAttrs_list F.slot_list_count F.type_list_count mt_countI (ho.pd ea) (pad_cons (ha.pd eb) pad_nil hst) (fun x G H s r => by cases r with | list hq _ => exact .inl ⟨rfl, _, s.seq hq⟩) (fun x vs G H Q s r rs q => by
          cases r with
          | list hq ra =>
            have e := ra.ints
            subst e
            cases rs with
            | cons r1 r2 => cases r1; cases r2; exact ⟨_, ns, k, rfl, rfl, s.seq hq, q _ G H (.refl s) (.int _)⟩) hbase hfew hline hst hplain
      · cases ed
    · rename_i xs c
      split at ed
      · rename_i bs ei
        have hx := allD_is (g := PyData.bool) (fun d a q => blD_is q) ei
        subst hx
        cases (Option.some.inj ed)
        exact pd_bm F.plainAttrs_list F.slot_list_count F.type_list_count mt_countB (ho.pd ea) (pad_cons (ha.pd eb) pad_nil hst) (fun x G H s r => by cases r with | list hq _ => exact .inl ⟨rfl, _, s.seq hq⟩) (fun x vs G H Q s r rs q => by
          cases r with
          | list hq ra =>
            have e := ra.bools
            subst e
            cases rs with
            | cons r1 r2 => cases r1; cases r2; exact ⟨_, bs, c, rfl, rfl, s.seq hq, q _ G H (.refl s) (.int _)⟩) hbase hfew hline hst hplain
      · cases ed
    · cases ed
  · cases h
end
end L2.L3
namespace L2.L3
open PySem PySem.Spec PyProof.Rows
section
variable {X : Cx} {b : Expr} {fb : EF} {p pos : Pos}
end
end L2.L3
namespace L2.L3
open PySem PySem.Spec PySem.Calls PyProof.Rows
section
variable {P : Program} {w : World} {K : PySem.W.Frag} {mg : Str → Option Value} {base : Heap}
end
end L2.L3
namespace L2.L3
open PySem PySem.Spec PySem.Calls PyProof.Rows
section
variable {X : Cx} {pins : List (Addr × Obj)} {σ : St} {H H0 G₀ G : Hp} {s : Shared} {ρ : List Ent}
end
end L2.L3
namespace L2.L3
open PySem PySem.W PyProof.Rows PySem.Calls
section
variable {prog : Program} {w : World} {A : Around} {E : Value → Shared → Prop} {s : Shared}
end
end L2.L3
namespace L2.L3
open PySem PySem.W PyProof.Rows PySem.Calls
section
variable {prog : Program} {w : World} {A : Around} {E : Value → Shared → Prop} {s : Shared}
end
end L2.L3
namespace L2.L3
open PySem PySem.Spec PySem.Calls PyProof.Rows
section
variable {X : Cx} {pins : List (Addr × Obj)} {σ : St} {H H0 G₀ G : Hp} {s : Shared} {ρ : List Ent}
end
end L2.L3
namespace L2.L3
open PySem PySem.Spec PySem.Calls PyProof.Rows
section
variable {P : Program} {w : World} {K : PySem.W.Frag} {mg : Str → Option Value} {base : Heap} {x : Str} {k : Nat} {ps N : List Str}
end
theorem lam_none {K : PySem.W.Frag} (h1 : PySem.W.tabIn K "in_ending_order" = none) (h2 : PySem.W.tabIn K "in_laying_order" = none) : ∀ x ∈ lamNames, PySem.W.tabIn K x = none := fun x hx => by
  unfold lamNames at hx
  rcases List.mem_cons.mp hx with rfl | hx
  · exact h1
  · obtain rfl := List.mem_singleton.mp hx; exact h2
theorem all_cons {α : Type} {p : α → Prop} {a : α} {l : List α} (h : p a) (t : ∀ x ∈ l, p x) : ∀ x ∈ a :: l, p x := List.forall_mem_cons.mpr ⟨h, t⟩
theorem no_tabs {K : PySem.W.Frag} {H : Hp} (h : ∀ x ∈ lamNames, PySem.W.tabIn K x = none) : ∀ x ∈ lamNames, ∀ c P, PySem.W.tabIn K x = some (c, P) → Tab P (lamQ x) H := fun x hx c P e => by rw [h x hx] at e; cases e
theorem no_tbl {H : Hp} (hO : Only H) : NoT H := fun b ps e => by
  rcases hO b with z | ⟨o, xs, z⟩ <;> rw [z] at e <;> cases e
end L2.L3
namespace L2.L3
open PySem
end L2.L3
namespace L2.L3
open PySem
end L2.L3
namespace L2.L3
open PySem
noncomputable def goesOn (m : Int) (x : Mt) : Bool := decide (x.2.1 ≤ m) && decide (m < x.2.2)
noncomputable def namesAt (s : List Mt) (m : Int) : List Str := (s.filter (goesOn m)).map (·.1)
noncomputable def loadAt (s : List Mt) (m : Int) : Int := ((namesAt s m).length : Nat)
section
variable {s : List Mt} {lo hi : Int} {r : List Int}
end
end L2.L3
namespace L2.L3
open PySem
noncomputable def gr : List Mt → Option Int → List Mt
  | [], _ => []
  | m :: r, none => m :: gr r (some m.2.2)
  | m :: r, some e => if e ≤ m.2.1 then m :: gr r (some m.2.2) else gr r (some e)
end L2.L3
namespace L2.L3
open PySem PySem.Spec PyProof.Rows
noncomputable def insK (kf : Mt → PyData) (x : Mt) : List Mt → List Mt
  | [] => [x]
  | y :: l => if ltT (kf y) (kf x) then y :: insK kf x l else x :: y :: l
noncomputable def srtM (kf : Mt → PyData) (s : List Mt) : List Mt := s.foldr (insK kf) []
section
variable {kf : Mt → PyData}
end
end L2.L3
namespace L2.L3
open PySem PySem.Spec PyProof.Rows
end L2.L3
namespace L2.L3
open PySem
section
variable {nm : Str} {b z v : Int} {n : Nat} {o : List Int}
end
section
variable {nm nm' : Str} {b z v b' z' v' : Int} {n n' : Nat} {o o' : List Int}
end
noncomputable abbrev ov (x y : Mt) : Prop := max x.2.1 y.2.1 < min x.2.2 y.2.2
end L2.L3
namespace L2.L3
open PySem PySem.Spec PyProof.Rows
noncomputable abbrev kL (m : Mt) : PyData := .tuple [.int m.2.1, .int (-m.2.2), .str m.1]
noncomputable def layO (s : List Mt) : List Mt := srtM kL s
noncomputable abbrev Ly := Mt × Nat
noncomputable def colOf : List Ly → Str → Nat
  | [], _ => 0
  | p :: P, x => if p.1.1 = x then p.2 else colOf P x
end L2.L3
namespace L2.L3
open PySem PySem.Spec PyProof.Rows
theorem nodup_len {α : Type} [DecidableEq α] : ∀ {l m : List α}, l.Nodup → (∀ x ∈ l, x ∈ m) → l.length ≤ m.length
  | [], m, _, _ => Nat.zero_le _
  | a :: r, m, nd, h => by
    rw [List.nodup_cons] at nd
    have ha := h a (by simp)
    have := nodup_len (l := r) (m := m.erase a) nd.2 fun x hx => (List.mem_erase_of_ne (fun z : x = a => nd.1 (by rw [← z]; exact hx))).mpr (h x (List.mem_cons_of_mem _ hx))
    rw [List.length_erase_of_mem ha] at this
    have hp : 0 < m.length := List.length_pos_of_mem ha
    rw [List.length_cons]; omega
section
variable {L : List Mt} {P : List Ly}
end
noncomputable def mostOf (L : List Mt) : Int := if L = [] then 0 else maxI (L.map fun x => loadAt L x.2.1)
end L2.L3
namespace L2.L3
open PySem
noncomputable def grpGo : List Mt → List Mt → Int → List (List Mt)
  | [], cur, _ => [cur]
  | m :: l, cur, reach => if m.2.1 < reach then grpGo l (cur ++ [m]) (max reach m.2.2) else cur :: grpGo l [m] m.2.2
noncomputable def grpOf : List Mt → List (List Mt)
  | [] => []
  | m :: l => grpGo l [m] m.2.2
end L2.L3
namespace L2.L3
open PySem PySem.Spec PyProof.Rows
section
variable {K : PySem.W.Frag} {H0 G₀ G H : Hp} {σ : St} {ρ : List Ent}
end
end L2.L3
namespace L2.L3
open PySem PySem.Spec PyProof.Rows
section
variable {X : Cx} {rest : List Stmt} {f : SF} {fa : EF} {e : Expr} {es : List Expr} {pos : Pos}
end
end L2.L3
namespace L2.L3
open PySem PySem.Spec PyProof.Rows
section
variable {X : Cx}
end
end L2.L3
namespace L2.L3
open PySem PySem.Spec PyProof.Rows
end L2.L3
namespace L2.ZT
open PySem PyProof.Rows
section
variable {prog : Program} {w : World} {A : Around} {E : Value → Shared → Prop} {s : Shared}
variable {z TI TO c d t u : Addr} {i j : Nat} {xs ys : Array Value} {a b : Value}
end
section
variable {prog : Program} {w : World} {A : Around} {E : Value → Shared → Prop} {s : Shared}
end
end L2.ZT
namespace L2.L3
open PySem PySem.Spec PyProof.Rows
noncomputable def Itl (K : PySem.W.Frag) (l1 l2 : Addr) : It :=
  ⟨fun i H => ∃ xs ys x y, SqT K H l1 xs ∧ SqL K H l2 ys ∧ xs[i]? = some x ∧ ys[i]? = some y,
   fun i H v H' => ∃ T x y, H T = none ∧ v = .ref T ∧ H' = upd H T (.tup [x, y]) ∧ (∀ xs, SqT K H l1 xs → xs[i]? = some x) ∧ ∀ ys, SqL K H l2 ys → ys[i]? = some y,
   fun i H => ∃ xs ys, SqT K H l1 xs ∧ SqL K H l2 ys ∧ (xs.length ≤ i ∨ ys.length ≤ i)⟩
section
variable {X : Cx} {a b : Expr} {elts : List Expr} {k0 : Nat} {p0 pos p : Pos} {fa fb : EF}
end
end L2.L3
namespace L2.L3
open PySem PySem.Spec PyProof.Rows
theorem op2_at {g : PyData → PyData → Option PyData} {fa fb : EF} {ρ : List Ent} {x y d : PyData} (ha : fa ρ = some (.ok x)) (hb : fb ρ = some (.ok y)) (h : g x y = some d) : op2 g fa fb ρ = some (.ok d) := by
  rw [op2_e, ha, bnd_r, hb, bnd_r, h]; rfl
theorem cmpT_at {g : PyData → PyData → Option Bool} {fa fb : EF} {ρ : List Ent} {x y : PyData} {r : Bool} (ha : fa ρ = some (.ok x)) (hb : fb ρ = some (.ok y)) (h : g x y = some r) : cmpT g fa fb ρ = some (.ok r) := by
  rw [cmpT_e, ha, bnd_r, hb, bnd_r, h]; rfl
theorem chnT_at {g g' : PyData → PyData → Option Bool} {fa fb fc : EF} {ρ : List Ent} {x y z : PyData} {r q : Bool} (ha : fa ρ = some (.ok x)) (hb : fb ρ = some (.ok y)) (h : g x y = some r) (hc : fc ρ = some (.ok z)) (h' : g' y z = some q) : chnT g g' fa fb fc ρ = some (.ok (r && q)) := by
  rw [chnT_e, ha, bnd_r, hb, bnd_r, h, lft_s, bnd_r, hc, bnd_r, h']; cases r <;> rfl
theorem aCons_at {fa : EF} {aa : AF} {ρ : List Ent} {x : PyData} {xs : List PyData} (ha : fa ρ = some (.ok x)) (hb : aa ρ = some (.ok xs)) : aCons fa aa ρ = some (.ok (x :: xs)) := by
  rw [aCons_e, ha, bnd_r, hb, bnd_r]
noncomputable def prt (s : List Mt) (m : Mt) : List Mt := s.filter fun o => !decide (o.1 = m.1) && decide (ov m o)
noncomputable def gof (s : List Mt) (m : Mt) : List Mt := ((grpOf (layO s)).find? fun A => decide (m ∈ A)).getD []
noncomputable def grp (s : List Mt) (m : Mt) : List Mt := s.filter fun a => decide (a ∈ gof s m)
noncomputable def wid (s : List Mt) (m : Mt) : Int := mostOf (grp s m)
section
variable {s : List Mt}
variable (hp : ∀ m ∈ s, m.2.1 < m.2.2)
include hp
omit hp
noncomputable abbrev cl (P : List Ly) (m : Mt) : Int := (colOf P m.1 : Nat)
variable {P : List Ly}
noncomputable def lst (s : List Mt) (P : List Ly) (m : Mt) : Int := minI ((wid s m :: (prt s m).map (cl P)).filter fun c => decide (cl P m < c))
end
end L2.L3
namespace L2.L3
open PySem PySem.Spec PyProof.Rows
noncomputable abbrev k1_l_added : EF := compE (.tp [0, 1]) [none, none, some 1] (seqI (var 0)) (orT (isT false (.none) (var 0)) (cmpT leD (var 0) (var 2))) (var 1)
noncomputable def f_l_added : SF := (retS (op2 ixD k1_l_added (op1 negD (cst (.int 1)))))
noncomputable def F_l_added : List PyData → Mm PyData := runD 2 2 f_l_added
noncomputable abbrev k1_l_once : EF := compE (.nm 0) [none, some 1] (seqI (var 2)) ttT (op2 addD (var 0) (callE F_l_added (aCons (var 1) (aCons (var 0) aNil))))
noncomputable abbrev k2_l_once : EF := compE (.tp [0, 1]) [none, none, some 6] (zipX (var 2) (var 3)) (cmpT eqD (var 1) (var 2)) (var 0)
noncomputable abbrev t1_l_once : TF := cmpT neD (callE F_moments_shown (aCons (var 1) (aCons (var 6) aNil))) (var 7)
noncomputable abbrev t2_l_once : TF := andT (cmpT neD (var 7) (lstE aNil)) (cmpT neD (var 8) (op2 ixD (var 7) (cst (.int 0))))
noncomputable abbrev t3_l_once : TF := andT (cmpT eqD (var 7) (lstE aNil)) (notT (chnT ltD ltD (callE F_shown_at (aCons (var 1) (aCons (op2 subD (var 8) (cst (.int 1))) aNil))) (var 6) (callE F_shown_at (aCons (var 1) (aCons (var 8) aNil)))))
noncomputable abbrev t4_l_once : TF := cmpT eqD (var 7) (lstE aNil)
noncomputable abbrev k3_l_once : EF := compE (.tp [0, 1]) [none, none, some 8] (zipX (var 2) (var 3)) (cmpT ltD (var 0) (var 2)) (var 1)
noncomputable abbrev k4_l_once : EF := compE (.nm 0) [none, some 9, some 6] (rng1 (op2 subD (bltE lenD (aCons (var 9) aNil)) (cst (.int 1)))) (chnT ltD ltD (op2 ixD (var 1) (var 0)) (var 2) (op2 ixD (var 1) (op2 addD (var 0) (cst (.int 1))))) (var 0)
noncomputable abbrev t5_l_once : TF := cmpT neD (var 10) (lstE aNil)
noncomputable abbrev t6_l_once : TF := cmpT ninX (var 11) (callE F_moments_shown (aCons (var 1) (aCons (callE F_shown_at (aCons (var 1) (aCons (var 11) aNil))) aNil)))
noncomputable abbrev b1_l_once : SF := seqS (setS 5 (op2 ixD (op2 ixD (op2 addD (slE (var 1) (oSome (cst (.int 1))) oNone) (tupE (aCons (tupE (aCons (cst (.int 60)) (aCons (cst (.int 0)) aNil))) aNil))) (callE F_l_pick (aCons (var 0) (aCons (op2 addD (cst (.int 100)) (var 4)) (aCons (bltE lenD (aCons (var 1) aNil)) aNil))))) (cst (.int 0)))) (seqS (setS 6 (op2 subD (op2 addD (var 5) (callE F_l_pick (aCons (var 0) (aCons (op2 addD (cst (.int 110)) (var 4)) (aCons (cst (.int 41)) aNil))))) (cst (.int 20)))) (seqS (setS 7 k2_l_once) (seqS (ifS t1_l_once (retS (cst (.bool false))) nilS) (seqS (setS 8 (callE F_first_shown (aCons (var 1) (aCons (var 6) aNil)))) (seqS (ifS t2_l_once (retS (cst (.bool false))) nilS) (seqS (ifS t3_l_once (retS (cst (.bool false))) nilS) (seqS (ifS t4_l_once (seqS (setS 9 k3_l_once) (seqS (setS 10 k4_l_once) (ifS t5_l_once (retS (cst (.bool false))) nilS))) nilS) (seqS (setS 11 (op2 subD (op2 addD (var 5) (callE F_l_pick (aCons (var 0) (aCons (op2 addD (cst (.int 120)) (var 4)) (aCons (cst (.int 21)) aNil))))) (cst (.int 10)))) (ifS t6_l_once (retS (cst (.bool false))) nilS)))))))))
noncomputable abbrev t7_l_once : TF := cmpT eqD (bltE lenD (aCons (callE F_jumps (aCons (var 1) aNil)) aNil)) (cst (.int 1))
noncomputable abbrev b2_l_once : SF := putDS 14 (var 15) (thE (op2 addD (getE2 (var 14) (var 15) (cst (.int 0))) (cst (.int 1))))
noncomputable abbrev k5_l_once : EF := compE (.nm 0) [none, some 14] (rng2 (op2 subD (var 12) (cst (.int 30))) (op2 addD (var 12) (cst (.int 30)))) ttT (getE2 (var 1) (var 0) (cst (.int 0)))
noncomputable abbrev t8_l_once : TF := cmpT neD (tupE (aCons (dfE cntD (var 16) (cst (.int 0))) (aCons (dfE cntD (var 16) (cst (.int 2))) aNil))) (tupE (aCons (bltE maxD (aCons (var 13) (aCons (cst (.int 0)) aNil))) (aCons (bltE maxD (aCons (op2 subD (cst (.int 0)) (var 13)) (aCons (cst (.int 0)) aNil))) aNil)))
noncomputable def f_l_once : SF := (seqS (setS 1 (callE F_l_zone (aCons (var 0) (aCons (cst (.int 0)) aNil)))) (seqS (setS 2 (lrng2 (op1 negD (cst (.int 60))) (cst (.int 190)))) (seqS (setS 3 k1_l_once) (seqS (forS (.nm 4) (rng1 (cst (.int 6))) b1_l_once) (seqS (ifS t7_l_once (seqS (unpS (.tp [12, 13]) (op2 ixD (callE F_jumps (aCons (var 1) aNil)) (cst (.int 0)))) (seqS (newD 14) (seqS (forS (.nm 15) (seqI (var 3)) b2_l_once) (frzS 14 (seqS (setS 16 k5_l_once) (ifS t8_l_once (retS (cst (.bool false))) nilS)))))) nilS) (retS (cst (.bool true))))))))
noncomputable def F_l_once : List PyData → Mm PyData := runD 17 1 f_l_once
noncomputable abbrev k1_law : EF := compE (.nm 0) [none, some 1] (seqI (var 0)) ttT (op2 addD (var 0) (op2 mulD (cst (.int 7919)) (var 1)))
noncomputable abbrev t1_law : TF := notT (truT (callE F_l_once (aCons k1_law aNil)))
noncomputable abbrev t2_law : TF := cmpT eqD (var 0) (lstE aNil)
noncomputable abbrev b1_law : SF := seqS (ifS t1_law (retS (cst (.bool false))) nilS) (ifS t2_law brkS nilS)
noncomputable def f_law : SF := (seqS (forS (.nm 1) (rng1 (cst (.int 3))) b1_law) (retS (cst (.bool true))))
noncomputable def F_law : List PyData → Mm PyData := runD 2 1 f_law
theorem fz_cons_ge {m a : Int} {r : Int × Int} {t : List (Int × Int)} (h : r.1 ≤ m) : fz m a (r :: t) = fz m r.2 t := by
  show List.foldl _ (if r.1 ≤ m then r.2 else a) t = _
  rw [if_pos h]
theorem last_at (l : List PyData) (x : PyData) : atI (l ++ [x]) (-1) = some x := by
  unfold atI ixN
  rw [if_neg (by decide), if_pos (by simp <;> omega)]
  simp only [List.length_append, List.length_cons, List.length_nil, Nat.zero_add, Option.bind_some]
  rw [show (-1 + ((l.length + 1 : Nat) : Int)).toNat = l.length by omega]
  simp
theorem fz_last (m : Int) : ∀ (rs : List (Int × Int)) (a : Int), ∃ l, a :: (rs.filter fun r => decide (r.1 ≤ m)).map (·.2) = l ++ [fz m a rs]
  | [], a => ⟨[], rfl⟩
  | r :: t, a => by
    by_cases h : r.1 ≤ m
    · obtain ⟨l, e⟩ := fz_last m t r.2
      refine ⟨a :: l, ?_⟩
      rw [List.filter_cons, if_pos (by simpa using h), List.map_cons, e, fz_cons_ge h]; rfl
    · obtain ⟨l, e⟩ := fz_last m t a
      refine ⟨l, ?_⟩
      rw [List.filter_cons, if_neg (by simpa using h), e]
      show _ = l ++ [List.foldl _ (if r.1 ≤ m then r.2 else a) t]
      rw [if_neg h]
theorem e_added {z : Zn} (Z : ZOk z) (m : Int) : F_l_added [dZ z, .int m] = some (.ok (.int (addOf z m))) := by
  have few := Z.few
  refine runD_ok rfl ?_
  show f_l_added [.val (dZ z), .val (.int m)] = _
  obtain ⟨l, hl⟩ := fz_last m z.2 z.1
  have k1 : k1_l_added [.val (dZ z), .val (.int m)] = some (.ok (.list ((l ++ [addOf z m]).map .int))) := by
    have := compE_map (t := .tp [0, 1]) (cap := [none, none, some 1]) (fi := seqI (var 0)) (ft := orT (isT false (.none) (var 0)) (cmpT leD (var 0) (var 2))) (fe := var 1) (ρ := [.val (dZ z), .val (.int m)])
      (fun o : Option (Int × Int) => match o with | none => .tuple [.none, .int z.1] | some r => dRw r) (fun o => match o with | none => [.val .none, .val (.int z.1), .val (.int m)] | some r => [.val (.int r.1), .val (.int r.2), .val (.int m)])
      (fun o => match o with | none => true | some r => decide (r.1 ≤ m)) (fun o => match o with | none => .int z.1 | some r => .int r.2) (none :: z.2.map some) (by simp [Function.comp_def]) (by simp; omega) (fun o _ => by cases o <;> simp [capE]) (fun o _ => by
        cases o with
        | none => rfl
        | some r =>
          have h1 : isT false .none (var 0) [.val (.int r.1), .val (.int r.2), .val (.int m)] = some (.ok false) := rfl
          rw [orT_e, h1, bnd_r, if_neg (by decide)]
          simp) (fun o _ _ => by cases o <;> rfl)
    refine Eq.trans this ?_
    rw [show l ++ [addOf z m] = z.1 :: (z.2.filter fun r => decide (r.1 ≤ m)).map (·.2) from hl.symm]
    rw [List.filter_cons, if_pos rfl, List.filter_map]
    simp [Function.comp_def]
  unfold f_l_added
  rw [retS_e, op2_e, k1, bnd_r]
  show bns (bnd (some (.ok (.int (-1)))) fun y => lft (ixD _ y)) _ _ = _
  rw [bnd_r, ixD_l, List.map_append, show [addOf z m].map PyData.int = [.int (addOf z m)] from rfl, last_at]; rfl
theorem eq_of_rising {a b : List Int} (ha : a.Pairwise (· < ·)) (hb : b.Pairwise (· < ·)) (h : ∀ x, x ∈ a ↔ x ∈ b) : a = b := by
  have na : a.Nodup := List.nodup_iff_pairwise_ne.mpr (ha.imp fun h => by omega)
  have nb : b.Nodup := List.nodup_iff_pairwise_ne.mpr (hb.imp fun h => by omega)
  have l1 := nodup_len na fun x hx => (h x).mp hx
  have l2 := nodup_len nb fun x hx => (h x).mpr hx
  have p : a.Perm b := SX.perm_of b a nb (fun x hx => (h x).mpr hx) (by omega)
  rw [sortI_eq p (ha.imp fun h => by omega), ← sortI_eq (List.Perm.refl b) (hb.imp fun h => by omega)]
noncomputable def Mo : List Int := (List.range 250).map fun (i : Nat) => (-60 + (i : Int))
theorem mem_Mo {m : Int} : m ∈ Mo ↔ -60 ≤ m ∧ m < 190 := by
  unfold Mo
  rw [List.mem_map]
  constructor
  · rintro ⟨i, hi, rfl⟩
    have := List.mem_range.mp hi
    omega
  · rintro ⟨h1, h2⟩
    exact ⟨(m + 60).toNat, List.mem_range.mpr (by omega), by omega⟩
theorem Mo_rise : Mo.Pairwise (· < ·) := by
  unfold Mo
  rw [List.pairwise_map]
  exact List.pairwise_lt_range.imp fun h => by omega
theorem Mo_len : Mo.length = 250 := by unfold Mo; simp
noncomputable abbrev sh (z : Zn) (m : Int) : Int := m + addOf z m
theorem add_bd {z : Zn} (Z : ZOk z) (m : Int) : -24 ≤ addOf z m ∧ addOf z m ≤ 24 := by
  rcases fz_mem m z.2 z.1 with h | h
  · have e : addOf z m = z.1 := h
    rw [e]; exact Z.head
  · have h : addOf z m ∈ z.2.map (·.2) := h
    obtain ⟨r, hr, e⟩ := List.mem_map.mp h
    rw [← e]; exact Z.more r hr
noncomputable def dueOf (z : Zn) (t : Int) : List Int := Mo.filter fun m => decide (sh z m = t)
theorem mom_due {z : Zn} (Z : ZOk z) {t : Int} (h1 : -20 ≤ t) (h2 : t ≤ 139) : momOf z t = dueOf z t := by
  refine eq_of_rising ?_ (Mo_rise.filter _) fun m => ?_
  · unfold momOf likely
    refine List.Pairwise.filter _ ?_
    have h := sortI_sorted (dedupI ((z.1 :: z.2.map (·.2)).map fun a => t - a))
    have n : (sortI (dedupI ((z.1 :: z.2.map (·.2)).map fun a => t - a))).Nodup := (sortI_perm _).nodup_iff.mpr (dedupI_nodup _ [] .nil).1
    exact (h.and (List.nodup_iff_pairwise_ne.mp n)).imp fun ⟨a, b⟩ => by omega
  · unfold dueOf
    rw [List.mem_filter, mem_Mo, decide_eq_true_eq]
    constructor
    · intro hm
      have e := of_decide_eq_true (List.mem_filter.mp hm).2
      have := add_bd Z m
      exact ⟨by omega, e⟩
    · rintro ⟨_, e⟩
      rw [← e]; exact mom_mem z m
theorem first_up {P : Int → Prop} [DecidablePred P] : ∀ (n : Nat) (lo : Int), ¬ P lo → P (lo + n) → ∃ f, lo < f ∧ f ≤ lo + n ∧ P f ∧ ∀ m, lo ≤ m → m < f → ¬ P m
  | 0, lo, h1, h2 => absurd (by simpa using h2) h1
  | n + 1, lo, h1, h2 => by
    by_cases c : P (lo + 1)
    · refine ⟨lo + 1, by omega, by omega, c, fun m m1 m2 => ?_⟩
      rw [show m = lo by omega]; exact h1
    · obtain ⟨f, a, b, d, e⟩ := first_up n (lo + 1) c (by rw [show lo + 1 + (n : Int) = lo + ((n + 1 : Nat) : Int) by omega]; exact h2)
      refine ⟨f, by omega, by omega, d, fun m m1 m2 => ?_⟩
      by_cases z : m = lo
      · rw [z]; exact h1
      · exact e m (by omega) m2
noncomputable abbrev Jm (z : Zn) : List (Int × Int) := jumpsOn (prs2 (hd0 z) z.1 z.2)
theorem prs2_rows : ∀ (rs : List (Int × Int)) (p : PyData) (a : Int), (prs2 p a rs).map (·.2) = rs
  | [], _, _ => rfl
  | r :: rs, p, a => by
    show r :: (prs2 (dRw r) r.2 rs).map (·.2) = _
    rw [prs2_rows rs]
theorem jumps_sub (z : Zn) : ((Jm z).map (·.1)).Sublist (z.2.map (·.1)) := by
  have e : (Jm z).map (·.1) = (((prs2 (hd0 z) z.1 z.2).filter fun q => !decide (q.2.2 = q.1.2)).map (·.2)).map (·.1) := by
    unfold Jm jumpsOn
    rw [List.map_map, List.map_map]; rfl
  rw [e]
  have := (List.filter_sublist (l := prs2 (hd0 z) z.1 z.2) (p := fun q => !decide (q.2.2 = q.1.2))).map (·.2)
  rw [prs2_rows] at this
  exact this.map _
theorem jumps_len {z : Zn} (Z : ZOk z) : (Jm z).length ≤ 4 := by
  have := (jumps_sub z).length_le
  rw [List.length_map, List.length_map] at this
  have := Z.few
  omega
theorem jump_at {z : Zn} (Z : ZOk z) {f : Int} (h : addOf z f ≠ addOf z (f - 1)) : ∃ r ∈ Jm z, r.1 = f := by
  obtain ⟨q, hq, e, n⟩ := fz_jump (f - 1) z.2 (hd0 z) z.1 Z.rise (by rw [show f - 1 + 1 = f by omega]; exact h)
  refine ⟨(q.2.1, q.2.2 - q.1.2), List.mem_map.mpr ⟨q, List.mem_filter.mpr ⟨hq, by simp [n]⟩, rfl⟩, by dsimp only; omega⟩
theorem first_none {z : Zn} (Z : ZOk z) {t : Int} (h1 : -20 ≤ t) (h2 : t ≤ 139) (hd : dueOf z t = []) : ∃ f, F_first_shown [dZ z, .int t] = some (.ok (.int f)) ∧ -60 < f ∧ f < 190 ∧ sh z (f - 1) < t ∧ t < sh z f ∧ ∀ m < f, sh z m < t := by
  have no : ∀ m, -60 ≤ m → m < 190 → sh z m ≠ t := fun m m1 m2 e => by
    have : m ∈ dueOf z t := List.mem_filter.mpr ⟨mem_Mo.mpr ⟨m1, m2⟩, decide_eq_true e⟩
    rw [hd] at this; cases this
  have b1 := add_bd Z (-60)
  have b2 := add_bd Z 189
  obtain ⟨f, f1, f2, f3, f4⟩ := first_up (P := fun m => t < sh z m) 249 (-60) (by show ¬ t < -60 + addOf z (-60); omega) (by show t < (-60 + ((249 : Nat) : Int)) + addOf z (-60 + ((249 : Nat) : Int)); rw [show (-60 : Int) + ((249 : Nat) : Int) = 189 by rfl]; omega)
  have below : ∀ m < f, sh z m < t := fun m hm => by
    by_cases c : -60 ≤ m
    · have := f4 m c hm
      have := no m c (by omega)
      omega
    · have := add_bd Z m
      show m + addOf z m < t
      omega
  have up : t < sh z f := f3
  have dn := below (f - 1) (by omega)
  refine ⟨f, ?_, f1, by omega, dn, up, below⟩
  have hmo : momOf z t = [] := by rw [mom_due Z h1 h2]; exact hd
  have jl := jumps_len Z
  have jf : ∃ r ∈ Jm z, r.1 = f := jump_at Z (by
    have u : t < f + addOf z f := up
    have d : f - 1 + addOf z (f - 1) < t := dn
    omega)
  generalize hps : ((Jm z).filter fun r => decide (sh z (r.1 - 1) < t) && decide (t < sh z r.1)) = ps
  have hf : ∃ r, ps.head? = some r ∧ r.1 = f := by
    obtain ⟨r0, hr0, e0⟩ := jf
    have hin : r0 ∈ ps := by rw [← hps]; exact List.mem_filter.mpr ⟨hr0, by rw [e0, Bool.and_eq_true, decide_eq_true_eq, decide_eq_true_eq]; exact ⟨dn, up⟩⟩
    cases hp : ps with
    | nil => rw [hp] at hin; cases hin
    | cons r rest =>
      refine ⟨r, rfl, ?_⟩
      have hr : r ∈ ps := by rw [hp]; simp
      have ge : ∀ q ∈ ps, f ≤ q.1 := fun q hq => by
        rw [← hps] at hq
        have := (List.mem_filter.mp hq).2
        rw [Bool.and_eq_true, decide_eq_true_eq, decide_eq_true_eq] at this
        apply Classical.byContradiction
        intro z'
        have := below q.1 (by omega)
        omega
      have g1 := ge r hr
      rw [hp] at hin
      rcases List.mem_cons.mp hin with z' | z'
      · rw [← z']; exact e0
      · have rise : (ps.map (·.1)).Pairwise (· < ·) := by
          rw [← hps]
          exact (Z.rise.sublist (jumps_sub z)).sublist (List.filter_sublist.map _)
        rw [hp, List.map_cons, List.pairwise_cons] at rise
        have := rise.1 r0.1 (List.mem_map_of_mem z')
        omega
  obtain ⟨r, hr, er⟩ := hf
  refine runD_ok rfl ?_
  show f_first_shown [.val (dZ z), .val (.int t), .no, .no] = _
  unfold f_first_shown
  rw [seqS_nx (ρ' := [.val (dZ z), .val (.int t), .val (.list []), .no]) (by rw [setS_e, call_at (ds := [dZ z, .int t]) rfl (e_moments Z t), hmo]; rfl)]
  rw [seqS_nx (ρ' := [.val (dZ z), .val (.int t), .val (.list []), .no]) rfl]
  have k1 : k1_first_shown [.val (dZ z), .val (.int t), .val (.list []), .no] = some (.ok (.list (ps.map fun r => .int r.1))) := by
    rw [← hps]
    exact compE_map dRw (fun r => [.val (.int r.1), .val (.int r.2), .val (.int t), .val (dZ z)]) (fun r => decide (sh z (r.1 - 1) < t) && decide (t < sh z r.1)) (fun r => .int r.1) (Jm z) (seqI_at (call_at (ds := [dZ z]) rfl (e_jumps Z)) rfl) (by omega) (fun r _ => rfl) (fun r _ => chnT_at (x := .int (sh z (r.1 - 1))) (y := .int t) (z := .int (sh z r.1)) (call_at (ds := [dZ z, .int (r.1 - 1)]) rfl (e_shown Z (r.1 - 1))) rfl lt_ii (call_at (ds := [dZ z, .int r.1]) rfl (e_shown Z r.1)) lt_ii) (fun r _ _ => rfl)
  rw [seqS_nx (ρ' := [.val (dZ z), .val (.int t), .val (.list []), .val (.list (ps.map fun r => .int r.1))]) (by rw [setS_e, k1]; rfl)]
  cases hp : ps with
  | nil => rw [hp] at hr; cases hr
  | cons q rest =>
    rw [hp] at hr
    cases hr
    rw [retS_e]
    have ix : ixD (.list (.int r.1 :: rest.map fun r => .int r.1)) (.int 0) = some (.int f) := by rw [ixD_l, at_0, er]
    show bns (lft (ixD (.list (.int r.1 :: rest.map fun r => .int r.1)) (.int 0))) _ _ = _
    rw [ix]; rfl
theorem prs2_mem : ∀ (rs : List (Int × Int)) (p : PyData) (a : Int), ∀ q ∈ prs2 p a rs, q.2 ∈ rs := fun rs p a q hq => by
  have := List.mem_map_of_mem (f := (·.2)) hq
  rw [prs2_rows] at this
  exact this
theorem prs2_vals : ∀ (rs : List (Int × Int)) (p : PyData) (a : Int), (rs.map (·.1)).Pairwise (· < ·) → ∀ q ∈ prs2 p a rs, fz q.2.1 a rs = q.2.2 ∧ fz (q.2.1 - 1) a rs = q.1.2
  | [], p, a, _, q, hq => by cases hq
  | r :: t, p, a, hr, q, hq => by
    rw [List.map_cons, List.pairwise_cons] at hr
    have lt : ∀ x ∈ t, r.1 < x.1 := fun x hx => hr.1 x.1 (List.mem_map_of_mem hx)
    have hq : q ∈ ((p, a), r) :: prs2 (dRw r) r.2 t := hq
    rcases List.mem_cons.mp hq with rfl | hq
    · refine ⟨?_, ?_⟩
      · show fz r.1 a (r :: t) = r.2
        rw [fz_cons_ge (Int.le_refl _)]
        exact fz_none _ t r.2 lt
      · show List.foldl _ (if r.1 ≤ r.1 - 1 then r.2 else a) t = a
        rw [if_neg (by omega)]
        exact fz_none _ t a fun x hx => by have := lt x hx; show r.1 - 1 < x.1; omega
    · obtain ⟨i1, i2⟩ := prs2_vals t (dRw r) r.2 hr.2 q hq
      have := lt q.2 (prs2_mem t _ _ q hq)
      rw [fz_cons_ge (by omega), fz_cons_ge (by omega)]
      exact ⟨i1, i2⟩
theorem one_jump {z : Zn} (Z : ZOk z) {b by' : Int} (h : Jm z = [(b, by')]) : (∀ m, m < b → addOf z m = addOf z (b - 1)) ∧ (∀ m, b ≤ m → addOf z m = addOf z (b - 1) + by') ∧ b ∈ z.2.map (·.1) := by
  have hin : (b, by') ∈ Jm z := by rw [h]; simp
  obtain ⟨q, hq, e⟩ := List.mem_map.mp hin
  obtain ⟨hq, _⟩ := List.mem_filter.mp hq
  have v := prs2_vals z.2 (hd0 z) z.1 Z.rise q hq
  have e1 : q.2.1 = b := congrArg Prod.fst e
  have e2 : q.2.2 - q.1.2 = by' := congrArg Prod.snd e
  rw [e1] at v
  have v1 : addOf z b = q.2.2 := v.1
  have v2 : addOf z (b - 1) = q.1.2 := v.2
  have step : ∀ m, m ≠ b → addOf z m = addOf z (m - 1) := fun m hm => by
    apply Classical.byContradiction
    intro n
    obtain ⟨r, hr, er⟩ := jump_at Z n
    rw [h, List.mem_singleton] at hr
    rw [hr] at er
    exact hm er.symm
  have down : ∀ n : Nat, addOf z (b - 1 - n) = addOf z (b - 1) := by
    intro n
    induction n with
    | zero => simp
    | succ n ih =>
      have := step (b - 1 - n) (by omega)
      rw [show b - 1 - ((n + 1 : Nat) : Int) = b - 1 - (n : Int) - 1 by omega, ← this, ih]
  have up : ∀ n : Nat, addOf z (b + n) = addOf z b := by
    intro n
    induction n with
    | zero => simp
    | succ n ih =>
      have := step (b + ((n + 1 : Nat) : Int)) (by omega)
      rw [this, show b + ((n + 1 : Nat) : Int) - 1 = b + (n : Int) by omega, ih]
  refine ⟨fun m hm => ?_, fun m hm => ?_, ?_⟩
  · have := down (b - 1 - m).toNat
    rwa [show b - 1 - (((b - 1 - m).toNat : Nat) : Int) = m by omega] at this
  · have := up (m - b).toNat
    rw [show b + (((m - b).toNat : Nat) : Int) = m by omega] at this
    omega
  · rw [← e1]; exact List.mem_map_of_mem (prs2_mem _ _ _ q hq)
theorem cnt_of {z : Zn} (Z : ZOk z) {b by' : Int} (h : Jm z = [(b, by')]) (hb : 0 ≤ b ∧ b < 120) {t : Int} (ht : b - 30 ≤ t ∧ t < b + 30) :
    (Mo.map (sh z)).count t = (if t < b + addOf z (b - 1) then 1 else 0) + (if b + addOf z (b - 1) + by' ≤ t then 1 else 0) := by
  obtain ⟨h1, h2, _⟩ := one_jump Z h
  have a1 := add_bd Z (b - 1)
  have a2 := add_bd Z b
  rw [h2 b (Int.le_refl _)] at a2
  generalize addOf z (b - 1) = a0 at *
  have e : Mo.filter (fun m => decide (sh z m = t)) = (if t < b + a0 then [t - a0] else []) ++ (if b + a0 + by' ≤ t then [t - a0 - by'] else []) := by
    refine eq_of_rising (Mo_rise.filter _) ?_ fun m => ?_
    · split <;> split
      · simp; omega
      · simp
      · simp
      · simp
    · rw [List.mem_filter, mem_Mo, decide_eq_true_eq, List.mem_append]
      constructor
      · rintro ⟨m1, m2⟩
        have m2 : m + addOf z m = t := m2
        by_cases c : m < b
        · rw [h1 m c] at m2
          left; rw [if_pos (by omega)]; simp; omega
        · rw [h2 m (by omega)] at m2
          right; rw [if_pos (by omega)]; simp; omega
      · rintro (q | q)
        · split at q
          · rename_i c
            rw [List.mem_singleton] at q
            have : m < b := by omega
            exact ⟨by omega, by show m + addOf z m = t; rw [h1 m this]; omega⟩
          · cases q
        · split at q
          · rename_i c
            rw [List.mem_singleton] at q
            have : b ≤ m := by omega
            exact ⟨by omega, by show m + addOf z m = t; rw [h2 m this]; omega⟩
          · cases q
  have c : (Mo.map (sh z)).count t = (Mo.filter fun m => decide (sh z m = t)).length := by
    rw [List.count, List.countP_map, List.countP_eq_length_filter]
    congr 2
  rw [c, e, List.length_append]
  split <;> split <;> rfl
theorem cr (p q : Nat) : ∀ n : Nat, ((List.range n).countP fun i => decide (p ≤ i) && decide (i < q)) = min q n - p
  | 0 => by simp
  | n + 1 => by
    rw [List.range_succ, List.countP_append, cr p q n]
    by_cases h1 : p ≤ n <;> by_cases h2 : n < q <;> simp [List.countP_cons, h1, h2] <;> omega
noncomputable abbrev dD (kvs : List (Key × PyData)) : List (PyData × PyData) := kvs.map fun p => (keyD p.1, p.2)
theorem look_cons (k : Key) (p : Key × PyData) (kvs : List (Key × PyData)) : lookK k (dD (p :: kvs)) = if p.1 = k then some p.2 else lookK k (dD kvs) := by
  show (if dKey (keyD p.1) = some k then some p.2 else lookK k (dD kvs)) = _
  rw [dKey_keyD]
  by_cases c : p.1 = k
  · rw [if_pos (by rw [c]), if_pos c]
  · rw [if_neg (fun z => c (Option.some.inj z)), if_neg c]
theorem look_put (k k0 : Key) (d : PyData) (kvs : List (Key × PyData)) : lookK k (dD (putKD kvs k0 d)) = if k = k0 then some d else lookK k (dD kvs) := by
  have repl : ∀ kvs : List (Key × PyData), (kvs.any fun kv => decide (kv.1 = k0)) = true → lookK k (dD (kvs.map fun kv => if kv.1 = k0 then (kv.1, d) else kv)) = if k = k0 then some d else lookK k (dD kvs) := by
    intro kvs
    induction kvs with
    | nil => intro h; simp at h
    | cons p kvs ih =>
      intro h
      rw [List.map_cons, look_cons, look_cons]
      by_cases c : p.1 = k0
      · rw [if_pos c]
        by_cases c2 : k = k0
        · subst c2; rw [if_pos c, if_pos rfl]
        · rw [if_neg (fun z : p.1 = k => c2 (z.symm.trans c)), if_neg (fun z : p.1 = k => c2 (z.symm.trans c)), if_neg c2]
          by_cases hh : (kvs.any fun kv => decide (kv.1 = k0)) = true
          · rw [ih hh, if_neg c2]
          · have same : (kvs.map fun kv => if kv.1 = k0 then (kv.1, d) else kv) = kvs := by
              rw [List.map_congr_left (g := id) fun q hq => ?_, List.map_id]
              rw [if_neg fun z => hh (List.any_eq_true.mpr ⟨q, hq, decide_eq_true z⟩)]; rfl
            rw [same]
      · rw [if_neg c]
        have hh : (kvs.any fun kv => decide (kv.1 = k0)) = true := by
          rw [List.any_cons, decide_eq_false c, Bool.false_or] at h; exact h
        rw [ih hh]
        by_cases c2 : k = k0
        · subst c2; rw [if_pos rfl, if_pos rfl, if_neg c]
        · rw [if_neg c2, if_neg c2]
  have app : ∀ kvs : List (Key × PyData), ¬ (kvs.any fun kv => decide (kv.1 = k0)) = true → lookK k (dD (kvs ++ [(k0, d)])) = if k = k0 then some d else lookK k (dD kvs) := by
    intro kvs
    induction kvs with
    | nil =>
      intro _
      rw [List.nil_append, look_cons]
      by_cases c : k = k0
      · rw [if_pos c.symm, if_pos c]
      · rw [if_neg (Ne.symm c), if_neg c]
    | cons p kvs ih =>
      intro h
      rw [List.any_cons, Bool.or_eq_true, not_or, decide_eq_true_eq] at h
      rw [List.cons_append, look_cons, look_cons, ih h.2]
      by_cases c : k = k0
      · subst c; rw [if_neg h.1, if_pos rfl, if_pos rfl]
      · rw [if_neg c, if_neg c]
  unfold putKD
  split
  · rename_i h; exact repl kvs h
  · rename_i h; exact app kvs h
theorem put_len (kvs : List (Key × PyData)) (k : Key) (d : PyData) : (putKD kvs k d).length ≤ kvs.length + 1 := by
  unfold putKD; split <;> simp
theorem zip_maps {α : Type} (f g : α → PyData) (l : List α) : zipD (l.map f) (l.map g) = l.map fun a => .tuple [f a, g a] := by
  unfold zipD
  rw [List.zip_map', List.map_map]; rfl
theorem zipX_l {fa fb : EF} {ρ : List Ent} {a b : List PyData} (ha : fa ρ = some (.ok (.list a))) (hb : fb ρ = some (.ok (.list b))) : zipX fa fb ρ = some (.ok (zipD a b)) := by
  unfold zipX
  have : zipI fa fb ρ = some (.ok (zipD a b)) := by unfold zipI; rw [ha, hb]
  rw [this]
noncomputable def ND (e : Ent) : Prop := ∀ ks, e ≠ .dct ks
theorem nd_val {d : PyData} : ND (.val d) := fun ks h => nomatch h
theorem nd_no : ND .no := fun ks h => nomatch h
theorem noD_of {i : Nat} {ρ : List Ent} (h : ∀ e ∈ ρ, ND e) : noD i ρ = true := by
  unfold noD
  rw [List.all_eq_true]
  intro j hj
  have hj := List.mem_range.mp hj
  rw [List.getElem?_eq_getElem hj, Bool.or_eq_true]
  right
  have := h ρ[j] (List.getElem_mem hj)
  split
  · rename_i ks e
    exact absurd (Option.some.inj e) (this ks)
  · rfl
noncomputable abbrev shD (z : Zn) : PyData := .list ((Mo.map (sh z)).map .int)
noncomputable abbrev so (ns : List Int) (z : Zn) (x4 x5 x6 x7 x8 x9 x10 x11 x12 x13 x14 x15 x16 : Ent) : List Ent := [.val (dN ns), .val (dZ z), .val (.list (Mo.map .int)), .val (shD z), x4, x5, x6, x7, x8, x9, x10, x11, x12, x13, x14, x15, x16]
section
variable {ns : List Int} {z : Zn} (Z : ZOk z) (hb : ∀ r ∈ z.2, 0 ≤ r.1 ∧ r.1 < 120) (h3 : z.2.length ≤ 3) {x4 x5 x6 x7 x8 x9 x10 x11 x12 x13 x14 x15 x16 : Ent}
include Z
theorem zip_so : zipX (var 2) (var 3) (so ns z x4 x5 x6 x7 x8 x9 x10 x11 x12 x13 x14 x15 x16) = some (.ok (Mo.map fun m => .tuple [.int m, .int (sh z m)])) := by
  rw [zipX_l (a := Mo.map .int) (b := (Mo.map (sh z)).map .int) rfl rfl, List.map_map, zip_maps]; rfl
include hb h3
theorem turn31 (k : Nat) (n9 : ND x9) (n10 : ND x10) : ∃ y5 y6 y7 y8 y9 y10 y11, b1_l_once (so ns z (.val (.int (k : Int))) x5 x6 x7 x8 x9 x10 x11 x12 x13 x14 x15 x16) = some (.nx (so ns z (.val (.int (k : Int))) y5 y6 y7 y8 y9 y10 y11 x12 x13 x14 x15 x16)) ∧ ND y5 ∧ ND y6 ∧ ND y7 ∧ ND y8 ∧ ND y9 ∧ ND y10 ∧ ND y11 := by
  have ep := e_pick ns (100 + (k : Int)) ((z.2.length + 1 : Nat) : Int) (by omega) (by omega)
  have p0 := pick_lo ns (100 + (k : Int)) (many := ((z.2.length + 1 : Nat) : Int)) (by omega); have p1 := pick_hi ns (100 + (k : Int)) (many := ((z.2.length + 1 : Nat) : Int)) (by omega)
  have eq := e_pick ns (110 + (k : Int)) 41 (by omega) (by decide)
  have q0 := pick_lo ns (110 + (k : Int)) (many := 41) (by decide); have q1 := pick_hi ns (110 + (k : Int)) (many := 41) (by decide)
  have ew := e_pick ns (120 + (k : Int)) 21 (by omega) (by decide)
  generalize pickOf ns (100 + (k : Int)) ((z.2.length + 1 : Nat) : Int) = p at *
  generalize pickOf ns (110 + (k : Int)) 41 = q at *
  generalize pickOf ns (120 + (k : Int)) 21 = w at *
  have hlen : ((z.2 ++ [((60 : Int), (0 : Int))]).map dRw).length = z.2.length + 1 := by simp
  obtain ⟨r, hr, hrb⟩ : ∃ r : Int × Int, atI ((z.2 ++ [((60 : Int), (0 : Int))]).map dRw) p = some (dRw r) ∧ 0 ≤ r.1 ∧ r.1 < 120 := by
    have hp : p.toNat < (z.2 ++ [((60 : Int), (0 : Int))]).length := by simp; omega
    refine ⟨(z.2 ++ [((60 : Int), (0 : Int))])[p.toNat], ?_, ?_⟩
    · unfold atI ixN
      rw [if_pos p0, if_pos (by rw [hlen]; omega)]
      simp only [Option.bind_some]
      rw [List.getElem?_map, List.getElem?_eq_getElem hp]; rfl
    · rcases List.mem_append.mp (List.getElem_mem hp) with h | h
      · exact hb _ h
      · rw [List.mem_singleton.mp h]; decide
  show ∃ y5 y6 y7 y8 y9 y10 y11, seqS (setS 5 _) _ _ = _ ∧ _
  have c1 : op2 ixD (op2 ixD (op2 addD (slE (var 1) (oSome (cst (.int 1))) oNone) (tupE (aCons (tupE (aCons (cst (.int 60)) (aCons (cst (.int 0)) aNil))) aNil))) (callE F_l_pick (aCons (var 0) (aCons (op2 addD (cst (.int 100)) (var 4)) (aCons (bltE lenD (aCons (var 1) aNil)) aNil))))) (cst (.int 0)) (so ns z (.val (.int (k : Int))) x5 x6 x7 x8 x9 x10 x11 x12 x13 x14 x15 x16) = some (.ok (.int r.1)) := by
    refine op2_at (op2_at (x := .tuple ((z.2 ++ [((60 : Int), (0 : Int))]).map dRw)) (y := .int p) (d := dRw r) ?_ ?_ (by rw [ixD_t, hr])) rfl rfl
    · refine op2_at (tail_at (z := z) rfl) (y := .tuple [dRw (60, 0)]) rfl ?_
      rw [add_tt, if_pos (by simp; omega), List.map_append]; rfl
    · exact call_at (ds := [dN ns, .int (100 + (k : Int)), .int ((z.2.length + 1 : Nat) : Int)]) (aCons_at rfl (aCons_at rfl (aCons_at (blt_at (ds := [dZ z]) rfl (by rw [len_t]; simp)) rfl))) ep
  rw [seqS_nx (ρ' := so ns z (.val (.int (k : Int))) (.val (.int r.1)) x6 x7 x8 x9 x10 x11 x12 x13 x14 x15 x16) (by rw [setS_e, c1]; rfl)]
  obtain ⟨t, ht⟩ : ∃ t : Int, t = r.1 + q - 20 := ⟨_, rfl⟩
  rw [seqS_nx (ρ' := so ns z (.val (.int (k : Int))) (.val (.int r.1)) (.val (.int t)) x7 x8 x9 x10 x11 x12 x13 x14 x15 x16) (by
    rw [setS_e, op2_at (x := .int (r.1 + q)) (y := .int 20) (d := .int t) (op2_at (x := .int r.1) rfl (call_at (ds := [dN ns, .int (110 + (k : Int)), .int 41]) rfl eq) rfl) rfl (by rw [sub_ii, ht])]; rfl)]
  have t1' : -20 ≤ t := by omega
  have t2' : t ≤ 139 := by omega
  have k2 : k2_l_once (so ns z (.val (.int (k : Int))) (.val (.int r.1)) (.val (.int t)) x7 x8 x9 x10 x11 x12 x13 x14 x15 x16) = some (.ok (.list ((dueOf z t).map .int))) :=
    compE_map (fun m : Int => .tuple [.int m, .int (sh z m)]) (fun m => [.val (.int m), .val (.int (sh z m)), .val (.int t)]) (fun m => decide (sh z m = t)) PyData.int Mo (zip_so Z) (by rw [Mo_len]; omega) (fun m _ => rfl) (fun m _ => rfl) (fun m _ _ => rfl)
  rw [seqS_nx (ρ' := so ns z (.val (.int (k : Int))) (.val (.int r.1)) (.val (.int t)) (.val (.list ((dueOf z t).map .int))) x8 x9 x10 x11 x12 x13 x14 x15 x16) (by rw [setS_e, k2]; rfl)]
  have tt1 : t1_l_once (so ns z (.val (.int (k : Int))) (.val (.int r.1)) (.val (.int t)) (.val (.list ((dueOf z t).map .int))) x8 x9 x10 x11 x12 x13 x14 x15 x16) = some (.ok false) :=
    ne_at (x := .list ((dueOf z t).map .int)) (y := .list ((dueOf z t).map .int)) (call_at (ds := [dZ z, .int t]) rfl (by rw [e_moments Z t, mom_due Z t1' t2'])) rfl (by rw [ne_ints, decide_eq_true rfl]; rfl)
  rw [seqS_nx (ρ' := so ns z (.val (.int (k : Int))) (.val (.int r.1)) (.val (.int t)) (.val (.list ((dueOf z t).map .int))) x8 x9 x10 x11 x12 x13 x14 x15 x16) (by rw [ifS_e, tt1]; rfl)]
  -- what comes behind, in both cases
  have fin : ∀ y8 y9 y10 : Ent, ∃ y11, ND y11 ∧ seqS (setS 11 (op2 subD (op2 addD (var 5) (callE F_l_pick (aCons (var 0) (aCons (op2 addD (cst (.int 120)) (var 4)) (aCons (cst (.int 21)) aNil))))) (cst (.int 10)))) (ifS t6_l_once (retS (cst (.bool false))) nilS) (so ns z (.val (.int (k : Int))) (.val (.int r.1)) (.val (.int t)) (.val (.list ((dueOf z t).map .int))) y8 y9 y10 x11 x12 x13 x14 x15 x16) = some (.nx (so ns z (.val (.int (k : Int))) (.val (.int r.1)) (.val (.int t)) (.val (.list ((dueOf z t).map .int))) y8 y9 y10 y11 x12 x13 x14 x15 x16)) := by
    intro y8 y9 y10
    obtain ⟨m, hm⟩ : ∃ m : Int, m = r.1 + w - 10 := ⟨_, rfl⟩
    refine ⟨.val (.int m), nd_val, ?_⟩
    rw [seqS_nx (ρ' := so ns z (.val (.int (k : Int))) (.val (.int r.1)) (.val (.int t)) (.val (.list ((dueOf z t).map .int))) y8 y9 y10 (.val (.int m)) x12 x13 x14 x15 x16) (by
      rw [setS_e, op2_at (x := .int (r.1 + w)) (y := .int 10) (d := .int m) (op2_at (x := .int r.1) rfl (call_at (ds := [dN ns, .int (120 + (k : Int)), .int 21]) rfl ew) rfl) rfl (by rw [sub_ii, hm])]; rfl)]
    have t6 : t6_l_once (so ns z (.val (.int (k : Int))) (.val (.int r.1)) (.val (.int t)) (.val (.list ((dueOf z t).map .int))) y8 y9 y10 (.val (.int m)) x12 x13 x14 x15 x16) = some (.ok false) := by
      refine cmpT_at (x := .int m) (y := .list ((momOf z (sh z m)).map .int)) rfl (call_at (ds := [dZ z, .int (sh z m)]) (aCons_at rfl (aCons_at (call_at (ds := [dZ z, .int m]) rfl (e_shown Z m)) rfl)) (e_moments Z _)) ?_
      rw [nin_ints, decide_eq_true (mom_mem z m)]; rfl
    rw [ifS_e, t6]; rfl
  cases hd : dueOf z t with
  | cons d rest =>
    rw [hd] at fin
    have ef := e_first Z (s := t) (m := d) (r := rest) (by rw [mom_due Z t1' t2', hd])
    rw [seqS_nx (ρ' := so ns z (.val (.int (k : Int))) (.val (.int r.1)) (.val (.int t)) (.val (.list ((d :: rest).map .int))) (.val (.int d)) x9 x10 x11 x12 x13 x14 x15 x16) (by rw [setS_e, call_at (ds := [dZ z, .int t]) rfl ef]; rfl)]
    have nn : neD (.list ((d :: rest).map .int)) (.list []) = some true := by rw [ne_nil (sh_ints _)]; rfl
    have en : eqD (.list ((d :: rest).map .int)) (.list []) = some false := by rw [eq_nil (sh_ints _)]; rfl
    have t2 : t2_l_once (so ns z (.val (.int (k : Int))) (.val (.int r.1)) (.val (.int t)) (.val (.list ((d :: rest).map .int))) (.val (.int d)) x9 x10 x11 x12 x13 x14 x15 x16) = some (.ok false) := by
      show andT _ _ _ = _
      rw [andT_e, cmpT_at (x := .list ((d :: rest).map .int)) (y := .list []) rfl rfl nn, bnd_r, if_pos rfl]
      exact ne_at (x := .int d) (y := .int d) rfl (op2_at (x := .list ((d :: rest).map .int)) (y := .int 0) rfl rfl (by rw [ixD_l, List.map_cons, at_0])) (by rw [ne_ii]; simp)
    have t3 : t3_l_once (so ns z (.val (.int (k : Int))) (.val (.int r.1)) (.val (.int t)) (.val (.list ((d :: rest).map .int))) (.val (.int d)) x9 x10 x11 x12 x13 x14 x15 x16) = some (.ok false) := by
      show andT _ _ _ = _
      rw [andT_e, cmpT_at (x := .list ((d :: rest).map .int)) (y := .list []) rfl rfl en, bnd_r, if_neg (by decide)]
    have t4 : t4_l_once (so ns z (.val (.int (k : Int))) (.val (.int r.1)) (.val (.int t)) (.val (.list ((d :: rest).map .int))) (.val (.int d)) x9 x10 x11 x12 x13 x14 x15 x16) = some (.ok false) := cmpT_at (x := .list ((d :: rest).map .int)) (y := .list []) rfl rfl en
    rw [seqS_nx (ρ' := so ns z (.val (.int (k : Int))) (.val (.int r.1)) (.val (.int t)) (.val (.list ((d :: rest).map .int))) (.val (.int d)) x9 x10 x11 x12 x13 x14 x15 x16) (by rw [ifS_e, t2]; rfl)]
    rw [seqS_nx (ρ' := so ns z (.val (.int (k : Int))) (.val (.int r.1)) (.val (.int t)) (.val (.list ((d :: rest).map .int))) (.val (.int d)) x9 x10 x11 x12 x13 x14 x15 x16) (by rw [ifS_e, t3]; rfl)]
    rw [seqS_nx (ρ' := so ns z (.val (.int (k : Int))) (.val (.int r.1)) (.val (.int t)) (.val (.list ((d :: rest).map .int))) (.val (.int d)) x9 x10 x11 x12 x13 x14 x15 x16) (by rw [ifS_e, t4]; rfl)]
    obtain ⟨y11, n11, e⟩ := fin (.val (.int d)) x9 x10
    exact ⟨_, _, _, _, _, _, _, e, nd_val, nd_val, nd_val, nd_val, n9, n10, n11⟩
  | nil =>
    rw [hd] at fin
    obtain ⟨f, ef, f1, f2, dn, up, below⟩ := first_none Z t1' t2' hd
    rw [seqS_nx (ρ' := so ns z (.val (.int (k : Int))) (.val (.int r.1)) (.val (.int t)) (.val (.list [])) (.val (.int f)) x9 x10 x11 x12 x13 x14 x15 x16) (by rw [List.map_nil, setS_e, call_at (ds := [dZ z, .int t]) rfl ef]; rfl)]
    have nn : neD (.list []) (.list []) = some false := by rw [ne_nil sh_nil]; rfl
    have en : eqD (.list []) (.list []) = some true := by rw [eq_nil sh_nil]; rfl
    have t2 : t2_l_once (so ns z (.val (.int (k : Int))) (.val (.int r.1)) (.val (.int t)) (.val (.list [])) (.val (.int f)) x9 x10 x11 x12 x13 x14 x15 x16) = some (.ok false) := by
      show andT _ _ _ = _
      rw [andT_e, cmpT_at (x := .list []) (y := .list []) rfl rfl nn, bnd_r, if_neg (by decide)]
    have t3 : t3_l_once (so ns z (.val (.int (k : Int))) (.val (.int r.1)) (.val (.int t)) (.val (.list [])) (.val (.int f)) x9 x10 x11 x12 x13 x14 x15 x16) = some (.ok false) := by
      show andT _ _ _ = _
      rw [andT_e, cmpT_at (x := .list []) (y := .list []) rfl rfl en, bnd_r, if_pos rfl, notT_e]
      rw [chnT_at (x := .int (sh z (f - 1))) (y := .int t) (z := .int (sh z f)) (call_at (ds := [dZ z, .int (f - 1)]) rfl (e_shown Z (f - 1))) rfl lt_ii (call_at (ds := [dZ z, .int f]) rfl (e_shown Z f)) lt_ii, decide_eq_true dn, decide_eq_true up]
      rfl
    have t4 : t4_l_once (so ns z (.val (.int (k : Int))) (.val (.int r.1)) (.val (.int t)) (.val (.list [])) (.val (.int f)) x9 x10 x11 x12 x13 x14 x15 x16) = some (.ok true) := cmpT_at (x := .list []) (y := .list []) rfl rfl en
    rw [seqS_nx (ρ' := so ns z (.val (.int (k : Int))) (.val (.int r.1)) (.val (.int t)) (.val (.list [])) (.val (.int f)) x9 x10 x11 x12 x13 x14 x15 x16) (by rw [ifS_e, t2]; rfl)]
    rw [seqS_nx (ρ' := so ns z (.val (.int (k : Int))) (.val (.int r.1)) (.val (.int t)) (.val (.list [])) (.val (.int f)) x9 x10 x11 x12 x13 x14 x15 x16) (by rw [ifS_e, t3]; rfl)]
    generalize hah : (Mo.filter fun m => decide (m < f)).map (sh z) = ah
    have ahl : ah.length ≤ 250 := by
      rw [← hah, List.length_map]
      have := List.length_filter_le (fun m => decide (m < f)) Mo
      rw [Mo_len] at this
      exact this
    have ahb : ∀ v ∈ ah, v < t := fun v hv => by
      rw [← hah] at hv
      obtain ⟨m, hm, rfl⟩ := List.mem_map.mp hv
      exact below m (of_decide_eq_true (List.mem_filter.mp hm).2)
    have k3 : k3_l_once (so ns z (.val (.int (k : Int))) (.val (.int r.1)) (.val (.int t)) (.val (.list [])) (.val (.int f)) x9 x10 x11 x12 x13 x14 x15 x16) = some (.ok (.list (ah.map .int))) := by
      rw [← hah, List.map_map]
      exact compE_map (fun m : Int => .tuple [.int m, .int (sh z m)]) (fun m => [.val (.int m), .val (.int (sh z m)), .val (.int f)]) (fun m => decide (m < f)) (fun m => .int (sh z m)) Mo (zip_so Z) (by rw [Mo_len]; omega) (fun m _ => rfl) (fun m _ => rfl) (fun m _ _ => rfl)
    have k4 : k4_l_once (so ns z (.val (.int (k : Int))) (.val (.int r.1)) (.val (.int t)) (.val (.list [])) (.val (.int f)) (.val (.list (ah.map .int))) x10 x11 x12 x13 x14 x15 x16) = some (.ok (.list [])) := by
      have rg : rng1 (op2 subD (bltE lenD (aCons (var 9) aNil)) (cst (.int 1))) (so ns z (.val (.int (k : Int))) (.val (.int r.1)) (.val (.int t)) (.val (.list [])) (.val (.int f)) (.val (.list (ah.map .int))) x10 x11 x12 x13 x14 x15 x16) = some (.ok (rangeD 0 (((ah.length : Nat) : Int) - 1).toNat)) :=
        rng1_at (op2_at (x := .int ((ah.length : Nat) : Int)) (y := .int 1) (blt_at (ds := [.list (ah.map .int)]) rfl (by rw [len_l, List.length_map])) rfl sub_ii) (by omega) (by omega)
      have := compE_map (t := .nm 0) (cap := [none, some 9, some 6]) (fi := rng1 (op2 subD (bltE lenD (aCons (var 9) aNil)) (cst (.int 1)))) (ft := chnT ltD ltD (op2 ixD (var 1) (var 0)) (var 2) (op2 ixD (var 1) (op2 addD (var 0) (cst (.int 1))))) (fe := var 0) (ρ := so ns z (.val (.int (k : Int))) (.val (.int r.1)) (.val (.int t)) (.val (.list [])) (.val (.int f)) (.val (.list (ah.map .int))) x10 x11 x12 x13 x14 x15 x16)
        (fun (i : Nat) => PyData.int (0 + (i : Int))) (fun i => [.val (.int (0 + (i : Int))), .val (.list (ah.map .int)), .val (.int t)]) (fun _ => false) (fun i => .int (0 + (i : Int))) (List.range (((ah.length : Nat) : Int) - 1).toNat) rg (by rw [List.length_range]; omega) (fun i _ => rfl) (fun i hi => by
          have hi := List.mem_range.mp hi
          have at' : ∀ j : Nat, (hj : j < ah.length) → ixD (.list (ah.map .int)) (.int (j : Int)) = some (.int ah[j]) := fun j hj => by
            rw [ixD_l]
            unfold atI ixN
            rw [if_pos (by omega), if_pos (by rw [List.length_map]; omega)]
            simp only [Option.bind_some, Int.toNat_natCast]
            rw [List.getElem?_map, List.getElem?_eq_getElem hj]; rfl
          rw [Int.zero_add, chnT_at (x := .int ah[i]) (y := .int t) (z := .int ah[i + 1]) (op2_at (x := .list (ah.map .int)) (y := .int (i : Int)) rfl rfl (at' i (by omega))) rfl lt_ii (op2_at (x := .list (ah.map .int)) (y := .int ((i + 1 : Nat) : Int)) rfl (op2_at (x := .int (i : Int)) (y := .int 1) rfl rfl rfl) (at' (i + 1) (by omega))) lt_ii]
          have l2 := ahb ah[i + 1] (List.getElem_mem _)
          rw [decide_eq_false (show ¬ t < ah[i + 1] by omega), Bool.and_false]) (fun i _ _ => rfl)
      rw [List.filter_eq_nil_iff.mpr (fun _ _ => by decide)] at this
      exact this
    have t5 : t5_l_once (so ns z (.val (.int (k : Int))) (.val (.int r.1)) (.val (.int t)) (.val (.list [])) (.val (.int f)) (.val (.list (ah.map .int))) (.val (.list [])) x11 x12 x13 x14 x15 x16) = some (.ok false) := ne_at (x := .list []) (y := .list []) rfl rfl nn
    rw [seqS_nx (ρ' := so ns z (.val (.int (k : Int))) (.val (.int r.1)) (.val (.int t)) (.val (.list [])) (.val (.int f)) (.val (.list (ah.map .int))) (.val (.list [])) x11 x12 x13 x14 x15 x16) (by
      rw [ifS_e, t4, bns_r, if_pos rfl]
      rw [seqS_nx (ρ' := so ns z (.val (.int (k : Int))) (.val (.int r.1)) (.val (.int t)) (.val (.list [])) (.val (.int f)) (.val (.list (ah.map .int))) x10 x11 x12 x13 x14 x15 x16) (by rw [setS_e, k3]; rfl)]
      rw [seqS_nx (ρ' := so ns z (.val (.int (k : Int))) (.val (.int r.1)) (.val (.int t)) (.val (.list [])) (.val (.int f)) (.val (.list (ah.map .int))) (.val (.list [])) x11 x12 x13 x14 x15 x16) (by rw [setS_e, k4]; rfl)]
      rw [ifS_e, t5]; rfl)]
    obtain ⟨y11, n11, e⟩ := fin (.val (.int f)) (.val (.list (ah.map .int))) (.val (.list []))
    exact ⟨_, _, _, _, _, _, _, e, nd_val, nd_val, nd_val, nd_val, nd_val, nd_val, n11⟩
end
theorem rows_bd (ns : List Int) (at' : Int) : ∀ r ∈ (zoneOf ns at').2, 0 ≤ r.1 ∧ r.1 < 120 := fun r hr => by
  have h : r.1 ∈ (zoneOf ns at').2.map (·.1) := List.mem_map_of_mem hr
  rw [show (zoneOf ns at').2.map (·.1) = zMoms ns at' from zRows_moms ns at' (zMoms ns at') _ 0] at h
  unfold zMoms at h
  rw [(sortI_perm _).mem_iff] at h
  have sub : ∀ (l acc : List Int) (x : Int), x ∈ l.foldl (fun a n => if n ∈ a then a else a ++ [n]) acc → x ∈ acc ∨ x ∈ l := by
    intro l
    induction l with
    | nil => intro acc x h; exact .inl h
    | cons a l ih =>
      intro acc x h
      rw [List.foldl_cons] at h
      rcases ih _ x h with h | h
      · split at h
        · exact .inl h
        · rcases List.mem_append.mp h with h | h
          · exact .inl h
          · rw [List.mem_singleton.mp h]; exact .inr (by simp)
      · exact .inr (List.mem_cons_of_mem _ h)
  rcases sub _ [] r.1 h with h | h
  · cases h
  · obtain ⟨k, _, e⟩ := List.mem_map.mp h
    rw [← e]
    exact ⟨pick_lo ns _ (by decide), pick_hi ns _ (by decide)⟩
theorem cnt_ints (l : List Int) (k : Int) : cntD (.list (l.map .int)) (.int k) = some (.int (l.count k : Nat)) := by
  show (match allD intD (l.map .int) with | some ns => some (PyData.int (ns.count k : Nat)) | none => none) = _
  rw [intsD_map]
theorem e_once31 (ns : List Int) : F_l_once [dN ns] = some (.ok (.bool true)) := by
  have ez := e_zone ns 0 (by decide)
  have Z := zone_ok ns 0
  have hb := rows_bd ns 0
  have h3 : (zoneOf ns 0).2.length ≤ 3 := by
    have e : ((zoneOf ns 0).2.map (·.1)).length = (zMoms ns 0).length := by
      rw [show (zoneOf ns 0).2.map (·.1) = zMoms ns 0 from zRows_moms ns 0 (zMoms ns 0) _ 0]
    rw [List.length_map] at e
    rw [e]; exact zMoms_len ns 0
  generalize zoneOf ns 0 = z at *
  refine runD_ok rfl ?_
  show f_l_once [.val (dN ns), .no, .no, .no, .no, .no, .no, .no, .no, .no, .no, .no, .no, .no, .no, .no, .no] = _
  unfold f_l_once
  rw [seqS_nx (ρ' := [.val (dN ns), .val (dZ z), .no, .no, .no, .no, .no, .no, .no, .no, .no, .no, .no, .no, .no, .no, .no]) (by rw [setS_e, call_at (ds := [dN ns, .int 0]) rfl ez]; rfl)]
  have rM : rangeD (-60) 250 = Mo.map .int := by unfold rangeD Mo; rw [List.map_map]; rfl
  rw [seqS_nx (ρ' := [.val (dN ns), .val (dZ z), .val (.list (Mo.map .int)), .no, .no, .no, .no, .no, .no, .no, .no, .no, .no, .no, .no, .no, .no]) (by
    rw [setS_e, show lrng2 (op1 negD (cst (.int 60))) (cst (.int 190)) [.val (dN ns), .val (dZ z), .no, .no, .no, .no, .no, .no, .no, .no, .no, .no, .no, .no, .no, .no, .no] = some (.ok (.list (rangeD (-60) 250))) from rfl, rM]; rfl)]
  have k1 : k1_l_once [.val (dN ns), .val (dZ z), .val (.list (Mo.map .int)), .no, .no, .no, .no, .no, .no, .no, .no, .no, .no, .no, .no, .no, .no] = some (.ok (shD z)) := by
    show _ = some (Re.ok (PyData.list ((Mo.map (sh z)).map .int)))
    rw [List.map_map]
    exact compE_all PyData.int (fun m => [.val (.int m), .val (dZ z)]) (fun m => .int (sh z m)) Mo rfl (by rw [Mo_len]; omega) (fun m _ => rfl) (fun m _ => op2_at (x := .int m) rfl (call_at (ds := [dZ z, .int m]) rfl (e_added Z m)) rfl)
  rw [seqS_nx (ρ' := so ns z .no .no .no .no .no .no .no .no .no .no .no .no .no) (by rw [setS_e, k1]; rfl)]
  obtain ⟨ρ', e1, y4, y5, y6, y7, y8, y9, y10, y11, e2, n4, n5, n6, n7, n8, n9, n10, n11⟩ := loopS_all (t := .nm 4) (fb := b1_l_once) (fun (k : Nat) => PyData.int (0 + (k : Int))) (fun ρ => ∃ y4 y5 y6 y7 y8 y9 y10 y11, ρ = so ns z y4 y5 y6 y7 y8 y9 y10 y11 .no .no .no .no .no ∧ ND y4 ∧ ND y5 ∧ ND y6 ∧ ND y7 ∧ ND y8 ∧ ND y9 ∧ ND y10 ∧ ND y11) (List.range 6) (so ns z .no .no .no .no .no .no .no .no .no .no .no .no .no) ⟨_, _, _, _, _, _, _, _, rfl, nd_no, nd_no, nd_no, nd_no, nd_no, nd_no, nd_no, nd_no⟩ (by
    rintro k _ ρ ⟨y4, y5, y6, y7, y8, y9, y10, y11, rfl, n4, n5, n6, n7, n8, n9, n10, n11⟩
    obtain ⟨a5, a6, a7, a8, a9, a10, a11, e, m5, m6, m7, m8, m9, m10, m11⟩ := turn31 (ns := ns) Z hb h3 (x5 := y5) (x6 := y6) (x7 := y7) (x8 := y8) (x9 := y9) (x10 := y10) (x11 := y11) (x12 := .no) (x13 := .no) (x14 := .no) (x15 := .no) (x16 := .no) k n9 n10
    refine ⟨so ns z (.val (.int (k : Int))) y5 y6 y7 y8 y9 y10 y11 .no .no .no .no .no, _, by rw [Int.zero_add]; rfl, .inl e, _, _, _, _, _, _, _, _, rfl, nd_val, m5, m6, m7, m8, m9, m10, m11⟩)
  subst e2
  rw [seqS_nx (ρ' := so ns z y4 y5 y6 y7 y8 y9 y10 y11 .no .no .no .no .no) (by rw [forS_e, rng1_at (n := 6) rfl (by decide) (by decide), bns_r]; exact e1)]
  have jl := jumps_len Z
  have t7 : t7_l_once (so ns z y4 y5 y6 y7 y8 y9 y10 y11 .no .no .no .no .no) = some (.ok (decide (((Jm z).length : Int) = 1))) :=
    cmpT_at (x := .int ((Jm z).length : Nat)) (y := .int 1) (blt_at (ds := [.list ((Jm z).map dRw)]) (aCons_at (call_at (ds := [dZ z]) rfl (e_jumps Z)) rfl) (by rw [len_l, List.length_map])) rfl eq_ii
  by_cases c7 : (Jm z).length = 1
  rotate_left
  · rw [seqS_nx (ρ' := so ns z y4 y5 y6 y7 y8 y9 y10 y11 .no .no .no .no .no) (by rw [ifS_e, t7, decide_eq_false (by omega)]; rfl)]
    rfl
  obtain ⟨⟨b, by'⟩, hJ⟩ := List.length_eq_one_iff.mp c7
  have hbb : 0 ≤ b ∧ b < 120 := by
    obtain ⟨r, hr, e⟩ := List.mem_map.mp (one_jump Z hJ).2.2
    rw [← e]; exact hb r hr
  suffices main : ∃ ρ2, ifS t7_l_once (seqS (unpS (.tp [12, 13]) (op2 ixD (callE F_jumps (aCons (var 1) aNil)) (cst (.int 0)))) (seqS (newD 14) (seqS (forS (.nm 15) (seqI (var 3)) b2_l_once) (frzS 14 (seqS (setS 16 k5_l_once) (ifS t8_l_once (retS (cst (.bool false))) nilS)))))) nilS (so ns z y4 y5 y6 y7 y8 y9 y10 y11 .no .no .no .no .no) = some (.nx ρ2) by
    obtain ⟨ρ2, e⟩ := main
    rw [seqS_nx e]; rfl
  rw [ifS_e, t7, decide_eq_true (by omega), bns_r, if_pos rfl]
  have u1 : op2 ixD (callE F_jumps (aCons (var 1) aNil)) (cst (.int 0)) (so ns z y4 y5 y6 y7 y8 y9 y10 y11 .no .no .no .no .no) = some (.ok (dRw (b, by'))) :=
    op2_at (x := .list ((Jm z).map dRw)) (y := .int 0) (call_at (ds := [dZ z]) rfl (e_jumps Z)) rfl (by rw [hJ, ixD_l, List.map_cons, at_0])
  rw [seqS_nx (ρ' := so ns z y4 y5 y6 y7 y8 y9 y10 y11 (.val (.int b)) (.val (.int by')) .no .no .no) (by unfold unpS; rw [u1]; rfl)]
  rw [seqS_nx (ρ' := so ns z y4 y5 y6 y7 y8 y9 y10 y11 (.val (.int b)) (.val (.int by')) (.dct []) .no .no) (by
    unfold newD
    rw [if_pos (noD_of fun e he => ?_)]
    · rfl
    · simp only [List.mem_cons, List.not_mem_nil, or_false] at he
      rcases he with rfl | rfl | rfl | rfl | rfl | rfl | rfl | rfl | rfl | rfl | rfl | rfl | rfl | rfl | rfl | rfl | rfl <;> first | assumption | exact nd_val | exact nd_no)]
  have lp := loopS_inv (t := .nm 15) (fb := b2_l_once) PyData.int (fun i ρ => ∃ kvs x15, ρ = so ns z y4 y5 y6 y7 y8 y9 y10 y11 (.val (.int b)) (.val (.int by')) (.dct kvs) x15 .no ∧ kvs.length ≤ i ∧ ∀ t : Int, (lookK (.inl t) (dD kvs)).getD (.int 0) = .int ((((Mo.map (sh z)).take i).count t : Nat) : Int)) (Mo.map (sh z)) 0 (so ns z y4 y5 y6 y7 y8 y9 y10 y11 (.val (.int b)) (.val (.int by')) (.dct []) .no .no) ⟨[], .no, rfl, by simp, fun t => by simp [lookK]⟩ (by
    rintro j v ρ hj ⟨kvs, x15, rfl, hl, hc⟩
    have jl' := (List.getElem?_eq_some_iff.mp hj).1
    rw [List.length_map, Mo_len] at jl'
    rw [Nat.zero_add] at hl hc
    have fvE : thE (op2 addD (getE2 (var 14) (var 15) (cst (.int 0))) (cst (.int 1))) (so ns z y4 y5 y6 y7 y8 y9 y10 y11 (.val (.int b)) (.val (.int by')) (.dct kvs) (.val (.int v)) .no) = some (.ok (.int (((((Mo.map (sh z)).take j).count v : Nat) : Int) + 1))) := by
      have g2 : getE2 (var 14) (var 15) (cst (.int 0)) (frzAll (so ns z y4 y5 y6 y7 y8 y9 y10 y11 (.val (.int b)) (.val (.int by')) (.dct kvs) (.val (.int v)) .no)) = some (.ok (.int ((((Mo.map (sh z)).take j).count v : Nat) : Int))) := by
        show lft (some ((lookK (.inl v) (dD kvs)).getD (.int 0))) = _
        rw [hc v]; rfl
      unfold thE
      rw [op2_at g2 (y := .int 1) rfl rfl]; rfl
    refine ⟨so ns z y4 y5 y6 y7 y8 y9 y10 y11 (.val (.int b)) (.val (.int by')) (.dct kvs) (.val (.int v)) .no, so ns z y4 y5 y6 y7 y8 y9 y10 y11 (.val (.int b)) (.val (.int by')) (.dct (putKD kvs (.inl v) (.int (((((Mo.map (sh z)).take j).count v : Nat) : Int) + 1)))) (.val (.int v)) .no, rfl, .inl ?_, putKD kvs (.inl v) (.int (((((Mo.map (sh z)).take j).count v : Nat) : Int) + 1)), .val (.int v), rfl, by have := put_len kvs (.inl v) (.int (((((Mo.map (sh z)).take j).count v : Nat) : Int) + 1)); omega, fun t => ?_⟩
    · show putDS 14 _ _ _ = _
      unfold putDS
      dsimp only [List.getElem?_cons_succ, List.getElem?_cons_zero]
      rw [fvE, bns_r]
      show bns (some (Re.ok (PyData.int v))) _ _ = _
      rw [bns_r]
      show (if szOk kvs.length = true then _ else _) = _
      rw [if_pos (by unfold szOk; exact decide_eq_true (by omega))]; rfl
    · rw [look_put, Nat.zero_add, List.take_succ, hj, List.count_append]
      by_cases e : t = v
      · subst e
        rw [if_pos rfl]
        simp
      · rw [if_neg (fun w => e (Sum.inl.inj w)), hc t]
        have : (Option.some v).toList.count t = 0 := by simp [Ne.symm e]
        rw [this]; rfl)
  obtain ⟨ρ3, e3, kvs, x15, rfl, hl, hc⟩ := lp
  rw [Nat.zero_add] at hc
  rw [List.take_length] at hc
  rw [seqS_nx (ρ' := so ns z y4 y5 y6 y7 y8 y9 y10 y11 (.val (.int b)) (.val (.int by')) (.dct kvs) x15 .no) (by rw [forS_e, seqI_at (d := shD z) rfl rfl, bns_r]; exact e3)]
  show ∃ ρ2, seqS (setS 16 k5_l_once) _ (so ns z y4 y5 y6 y7 y8 y9 y10 y11 (.val (.int b)) (.val (.int by')) (.val (.dict (dD kvs))) x15 .no) = _
  generalize hCs : ((List.range 60).map fun (i : Nat) => ((((Mo.map (sh z)).count (b - 30 + (i : Int)) : Nat) : Int))) = Cs
  have k5 : k5_l_once (so ns z y4 y5 y6 y7 y8 y9 y10 y11 (.val (.int b)) (.val (.int by')) (.val (.dict (dD kvs))) x15 .no) = some (.ok (.list (Cs.map .int))) := by
    rw [← hCs, List.map_map]
    have rg : rng2 (op2 subD (var 12) (cst (.int 30))) (op2 addD (var 12) (cst (.int 30))) (so ns z y4 y5 y6 y7 y8 y9 y10 y11 (.val (.int b)) (.val (.int by')) (.val (.dict (dD kvs))) x15 .no) = some (.ok ((List.range 60).map fun (i : Nat) => .int (b - 30 + (i : Int)))) := by
      rw [rng2_at (m := b - 30) (n := b + 30) rfl rfl (by omega) (by omega) (by omega) (by omega), show (b + 30 - (b - 30)).toNat = 60 by omega]; rfl
    exact compE_all (fun (i : Nat) => PyData.int (b - 30 + (i : Int))) (fun i => [.val (.int (b - 30 + (i : Int))), .val (.dict (dD kvs))]) (fun i => .int ((((Mo.map (sh z)).count (b - 30 + (i : Int)) : Nat) : Int))) (List.range 60) rg (by simp) (fun i _ => rfl) (fun i _ => by
      show lft (some ((lookK (.inl (b - 30 + (i : Int))) (dD kvs)).getD (.int 0))) = _
      rw [hc]; rfl)
  rw [seqS_nx (ρ' := so ns z y4 y5 y6 y7 y8 y9 y10 y11 (.val (.int b)) (.val (.int by')) (.val (.dict (dD kvs))) x15 (.val (.list (Cs.map .int)))) (by rw [setS_e, k5]; rfl)]
  have a1 := add_bd Z (b - 1)
  have a2 := add_bd Z b
  rw [(one_jump Z hJ).2.1 b (Int.le_refl _)] at a2
  have cs : ∀ i ∈ List.range 60, (Mo.map (sh z)).count (b - 30 + (i : Int)) = (if i < (30 + addOf z (b - 1)).toNat then 1 else 0) + (if (30 + addOf z (b - 1) + by').toNat ≤ i then 1 else 0) := fun i hi => by
    have hi := List.mem_range.mp hi
    rw [cnt_of Z hJ hbb (by omega)]
    congr 1
    · by_cases c : i < (30 + addOf z (b - 1)).toNat
      · rw [if_pos c, if_pos (by omega)]
      · rw [if_neg c, if_neg (by omega)]
    · by_cases c : (30 + addOf z (b - 1) + by').toNat ≤ i
      · rw [if_pos c, if_pos (by omega)]
      · rw [if_neg c, if_neg (by omega)]
  generalize addOf z (b - 1) = a0 at *
  have c0 : ((Cs.count 0 : Nat) : Int) = max by' 0 := by
    have : Cs.count 0 = (List.range 60).countP fun i => decide ((30 + a0).toNat ≤ i) && decide (i < (30 + a0 + by').toNat) := by
      rw [← hCs, List.count, List.countP_map]
      refine List.countP_congr fun i hi => ?_
      show ((((Mo.map (sh z)).count (b - 30 + (i : Int)) : Nat) : Int) == 0) = true ↔ _
      rw [cs i hi]
      by_cases h1 : i < (30 + a0).toNat <;> by_cases h2 : (30 + a0 + by').toNat ≤ i <;> simp [h1, h2] <;> omega
    rw [this, cr]
    omega
  have c2 : ((Cs.count 2 : Nat) : Int) = max (0 - by') 0 := by
    have : Cs.count 2 = (List.range 60).countP fun i => decide ((30 + a0 + by').toNat ≤ i) && decide (i < (30 + a0).toNat) := by
      rw [← hCs, List.count, List.countP_map]
      refine List.countP_congr fun i hi => ?_
      show ((((Mo.map (sh z)).count (b - 30 + (i : Int)) : Nat) : Int) == 2) = true ↔ _
      rw [cs i hi]
      by_cases h1 : i < (30 + a0).toNat <;> by_cases h2 : (30 + a0 + by').toNat ≤ i <;> simp [h1, h2] <;> omega
    rw [this, cr]
    omega
  have t8 : t8_l_once (so ns z y4 y5 y6 y7 y8 y9 y10 y11 (.val (.int b)) (.val (.int by')) (.val (.dict (dD kvs))) x15 (.val (.list (Cs.map .int)))) = some (.ok false) := by
    have l1 : tupE (aCons (dfE cntD (var 16) (cst (.int 0))) (aCons (dfE cntD (var 16) (cst (.int 2))) aNil)) (so ns z y4 y5 y6 y7 y8 y9 y10 y11 (.val (.int b)) (.val (.int by')) (.val (.dict (dD kvs))) x15 (.val (.list (Cs.map .int)))) = some (.ok (.tuple [.int (max by' 0), .int (max (0 - by') 0)])) := by
      rw [tupE_e, aCons_at (df_at (x := .list (Cs.map .int)) (y := .int 0) rfl rfl (by rw [cnt_ints, c0])) (aCons_at (df_at (x := .list (Cs.map .int)) (y := .int 2) rfl rfl (by rw [cnt_ints, c2])) rfl)]; rfl
    have l2 : tupE (aCons (bltE maxD (aCons (var 13) (aCons (cst (.int 0)) aNil))) (aCons (bltE maxD (aCons (op2 subD (cst (.int 0)) (var 13)) (aCons (cst (.int 0)) aNil))) aNil)) (so ns z y4 y5 y6 y7 y8 y9 y10 y11 (.val (.int b)) (.val (.int by')) (.val (.dict (dD kvs))) x15 (.val (.list (Cs.map .int)))) = some (.ok (.tuple [.int (max by' 0), .int (max (0 - by') 0)])) := rfl
    exact ne_at l1 l2 (by rw [ne_pairI, decide_eq_true rfl, decide_eq_true rfl]; rfl)
  exact ⟨_, by rw [ifS_e, t8]; rfl⟩
theorem e_turnL (ns : List Int) (hl : ns.length ≤ 63) (t : Int) : b1_law [.val (dN ns), .val (.int t)] = some (if ns = [] then .bk [.val (dN ns), .val (.int t)] else .nx [.val (dN ns), .val (.int t)]) := by
  have k1 : k1_law [.val (dN ns), .val (.int t)] = some (.ok (dN (ns.map fun n => n + 7919 * t))) := by
    show _ = some (Re.ok (PyData.list ((ns.map fun n => n + 7919 * t).map .int)))
    rw [List.map_map]
    exact compE_all PyData.int (fun n => [.val (.int n), .val (.int t)]) (fun n => .int (n + 7919 * t)) ns (by simp) (by omega) (fun n _ => by simp [capE]) (fun n _ => by simp [mul_iiL (show -(2 ^ 64) < (7919 : Int) by decide) (show (7919 : Int) < 2 ^ 64 by decide)])
  have t1 : t1_law [.val (dN ns), .val (.int t)] = some (.ok false) := by
    show notT (truT (callE F_l_once (aCons k1_law aNil))) _ = _
    rw [notT_e, truT_e, callE_e, aCons_e, k1]
    simp only [bnd_r, aNil_e, e_once31, truD_b, lft_s, Bool.not_true]
  have t2 : t2_law [.val (dN ns), .val (.int t)] = some (.ok ns.isEmpty) := by
    show cmpT eqD (var 0) (lstE aNil) _ = _
    rw [cmpT_e]
    simp only [var_0, bnd_r, lstE_e, aNil_e, mkLst_e, List.length_nil, lft_s]
    rw [if_pos (by decide)]
    simp only [lft_s, bnd_r]
    rw [show dN ns = .list (ns.map .int) from rfl, eq_nil (sh_ints ns), List.isEmpty_map]
    rfl
  rw [show b1_law = seqS (ifS t1_law (retS (cst (.bool false))) nilS) (ifS t2_law brkS nilS) from rfl, seqS_nx (ρ' := [.val (dN ns), .val (.int t)]) (by rw [ifS_e, t1]; rfl), ifS_e, t2]
  cases ns with
  | nil => rfl
  | cons a r => rfl
theorem e_law (ns : List Int) (hl : ns.length ≤ 63) : F_law [dN ns] = some (.ok (.bool true)) := by
  refine runD_ok rfl ?_
  show f_law [.val (dN ns), .no] = _
  unfold f_law
  have lp : ∃ x, loopS (.nm 1) b1_law (rangeD 0 3) [.val (dN ns), .no] = some (.nx [.val (dN ns), x]) := by
    by_cases h : ns = []
    · refine ⟨.val (.int 0), ?_⟩
      show loopS (.nm 1) b1_law (.int 0 :: _) _ = _
      rw [loopS, tg_nm]
      dsimp only [List.set]
      rw [e_turnL ns hl 0, if_pos h]
    · obtain ⟨ρ', e1, x, e2⟩ := loopS_all (t := .nm 1) (fb := b1_law) (fun (k : Nat) => PyData.int (k : Int)) (fun ρ => ∃ x, ρ = [.val (dN ns), x]) (List.range 3) [.val (dN ns), .no] ⟨_, rfl⟩ (fun k _ ρ ⟨x, e⟩ => by
        subst e
        exact ⟨_, _, rfl, .inl (by show b1_law [.val (dN ns), .val (.int (k : Int))] = _; rw [e_turnL ns hl, if_neg h]), _, rfl⟩)
      subst e2
      exact ⟨x, by rw [rangeD_map]; exact e1⟩
  obtain ⟨x, lp⟩ := lp
  rw [seqS_nx (ρ' := [.val (dN ns), x]) (by rw [forS_e, rng1_at (n := 3) (by simp) (by decide) (by decide)]; exact lp)]
  simp
end L2.L3
namespace L2.L3
theorem len1 {α : Type} {l : List α} (h : l.length = 1) : ∃ a, l = [a] := by
  cases l with
  | nil => cases h
  | cons a l => cases l with
    | nil => exact ⟨a, rfl⟩
    | cons b l => simp at h
theorem lenS {α : Type} {l : List α} {n : Nat} (h : l.length = n + 1) : ∃ a r, l = a :: r ∧ r.length = n := by
  cases l with
  | nil => cases h
  | cons a r => exact ⟨a, r, rfl, by simpa using h⟩
theorem len2 {α : Type} {l : List α} (h : l.length = 2) : ∃ a b, l = [a, b] := by
  obtain ⟨a, r, rfl, k⟩ := lenS h; obtain ⟨b, rfl⟩ := len1 k; exact ⟨a, b, rfl⟩
theorem len3 {α : Type} {l : List α} (h : l.length = 3) : ∃ a b c, l = [a, b, c] := by
  obtain ⟨a, r, rfl, k⟩ := lenS h; obtain ⟨b, c, rfl⟩ := len2 k; exact ⟨a, b, c, rfl⟩
end L2.L3
namespace L2.L3
open PySem PySem.Spec PyProof.Rows
noncomputable def top (i : Nat) : Stmt := PySem.Challenge.pw_daysheet_k31_whole_shown.main.body.getD i (.Pass ⟨0, 0, 0, 0⟩)
structure Blt (mg : Str → Option Value) : Prop where
  b_all : mg "all" = none
  b_bool : mg "bool" = none
  b_enumerate : mg "enumerate" = none
  b_int : mg "int" = none
  b_isinstance : mg "isinstance" = none
  b_len : mg "len" = none
  b_list : mg "list" = none
  b_max : mg "max" = none
  b_min : mg "min" = none
  b_range : mg "range" = none
  b_set : mg "set" = none
  b_sorted : mg "sorted" = none
  b_tuple : mg "tuple" = none
  b_zip : mg "zip" = none
  k_MOST_MORE : ∃ t : Tok, mg "MOST_MORE" = some (.int 24 t)
  k_MOST_ROWS : ∃ t : Tok, mg "MOST_ROWS" = some (.int 5 t)
section
variable {P : Program} {w : World} {K : PySem.W.Frag} {mg : Str → Option Value} {base : Heap}
noncomputable abbrev s_l_cell : Stmt := top 17
theorem sc_l_cell : FnScope ["_law_script", "_law_k"] ["_law_script", "_law_k"] (defScope s_l_cell) := ⟨rfl, rfl, rfl, by decide +kernel, rfl, by decide +kernel, by decide +kernel⟩
theorem c_l_cell (D : Def K mg "_law_cell" s_l_cell) (B : Blt mg)  : CalleeM P w K mg base "_law_cell" 1 ["_law_script", "_law_k"] F_l_cell := by
  refine callee_den 2 2 D sc_l_cell rfl rfl (fun _ _ _ _ _ _ us hl => by obtain ⟨_, _, rfl⟩ := len2 hl; rfl) (fun fa cdv A outer s H E hr => ?_)
  exact (db_cons (ds_if (dt_cmp lt_ok (de_var 1) (de_callB len_ok B.b_len boot_len (da_cons (de_var 0) da_nil))) (db_one (ds_ret (de_ix (de_var 0) (de_var 1)))) db_nil) (db_cons (ds_if (dt_cmp (eq_ok hr.units) (de_var 0) (de_lst da_nil)) (db_one (ds_ret de_int)) db_nil) (db_one (ds_ret (de_bin add_ok (de_bin mul_ok (de_ix (de_var 0) (de_bin mod_ok (de_var 1) (de_callB len_ok B.b_len boot_len (da_cons (de_var 0) da_nil)))) de_int) (de_var 1))))))
noncomputable abbrev s_l_pick : Stmt := top 18
theorem sc_l_pick : FnScope ["_law_script", "_law_k", "_law_many", "_law_drawn"] ["_law_script", "_law_k", "_law_many"] (defScope s_l_pick) := ⟨rfl, rfl, rfl, by decide +kernel, rfl, by decide +kernel, by decide +kernel⟩
theorem c_l_pick (D : Def K mg "_law_pick" s_l_pick) (B : Blt mg) (C_l_cell : CalleeM P w K mg base "_law_cell" 1 ["_law_script", "_law_k"] F_l_cell) : CalleeM P w K mg base "_law_pick" 2 ["_law_script", "_law_k", "_law_many"] F_l_pick := by
  refine callee_den 4 3 D sc_l_pick rfl rfl (fun _ _ _ _ _ _ us hl => by obtain ⟨_, _, _, rfl⟩ := len3 hl; rfl) (fun fa cdv A outer s H E hr => ?_)
  exact (db_cons (ds_set 3 sc_l_pick.nd (de_bin mod_ok (de_bin mul_ok (de_bin add_ok (de_call C_l_cell (hr.mono (by decide)) (da_cons (de_var 0) (da_cons (de_var 1) da_nil))) (de_bin mul_ok de_int (de_bin add_ok (de_var 1) de_int))) de_int) de_int)) (db_one (ds_ret (de_bin mod_ok (de_bin mod_ok (de_bin add_ok (de_bin mul_ok (de_var 3) (de_var 3)) (de_bin fdv_ok (de_var 3) de_int)) de_int) (de_var 2)))))
noncomputable abbrev s_l_zone : Stmt := top 19
theorem sc_l_zone : FnScope ["_law_script", "_law_at", "_law_moments", "_law_made", "_law_k", "_law_moment", "_law_more"] ["_law_script", "_law_at"] (defScope s_l_zone) := ⟨rfl, rfl, rfl, by decide +kernel, rfl, by decide +kernel, by decide +kernel⟩
theorem c_l_zone (D : Def K mg "_law_zone" s_l_zone) (B : Blt mg) (C_l_pick : CalleeM P w K mg base "_law_pick" 2 ["_law_script", "_law_k", "_law_many"] F_l_pick) : CalleeM P w K mg base "_law_zone" 3 ["_law_script", "_law_at"] F_l_zone := by
  refine callee_den 7 2 D sc_l_zone rfl rfl (fun _ _ _ _ _ _ us hl => by obtain ⟨_, _, rfl⟩ := len2 hl; rfl) (fun fa cdv A outer s H E hr => ?_)
  have nd1 : (["_law_k", "_law_at", "_law_script"] : List Str).Nodup := by decide +kernel
  exact (db_cons (ds_set 2 sc_l_zone.nd (de_sset rfl B.b_sorted B.b_set (de_comp (N' := ["_law_k", "_law_at", "_law_script"]) (cap := [none, some 1, some 0]) rfl (blk_of (so := defScope s_l_zone) (NN := ["_law_script", "_law_at", "_law_moments", "_law_made", "_law_k", "_law_moment", "_law_more"]) rfl rfl (by decide +kernel)) (di_rng1 B.b_range (de_call C_l_pick (hr.mono (by decide)) (da_cons (de_var 0) (da_cons (de_var 1) (da_cons de_int da_nil))))) (by decide +kernel) (fun _ _ _ _ => (dg_name 0 nd1)) (fun _ _ _ _ => dts_nil) (fun _ _ _ _ => (de_call C_l_pick (hr.mono (by decide)) (da_cons (de_var 2) (da_cons (de_bin add_ok (de_bin add_ok (de_var 1) de_int) (de_var 0)) (da_cons de_int da_nil)))))))) (db_cons (ds_new 3 sc_l_zone.nd (da_cons (de_tup (da_cons de_none (da_cons (de_bin sub_ok (de_call C_l_pick (hr.mono (by decide)) (da_cons (de_var 0) (da_cons (de_bin add_ok (de_var 1) de_int) (da_cons de_int da_nil)))) de_int) da_nil))) da_nil)) (db_cons (ds_for PassesOwn.never rfl (di_enum B.b_enumerate (de_var 2)) (dg_tup rfl (dgs_cons 4 sc_l_zone.nd (dgs_cons 5 sc_l_zone.nd dgs_nil))) (db_cons (ds_set 6 sc_l_zone.nd (de_th (de_bin add_ok (de_ix (de_ix (de_var 3) (de_neg de_int)) de_int) (de_ix (de_lst (da_cons de_int (da_cons (de_neg de_int) (da_cons de_int (da_cons (de_neg de_int) (da_cons de_int (da_cons de_int da_nil))))))) (de_call C_l_pick (hr.mono (by decide)) (da_cons (de_var 0) (da_cons (de_bin add_ok (de_bin add_ok (de_var 1) de_int) (de_var 4)) (da_cons de_int da_nil)))))))) (db_one (ds_app 3 (de_tup (da_cons (de_var 5) (da_cons (de_callB (max_ok rfl) B.b_max boot_max (da_cons (de_neg de_int) (da_cons (de_callB (min_ok rfl) B.b_min boot_min (da_cons de_int (da_cons (de_var 6) da_nil))) da_nil))) da_nil))))))) (db_frz 3 (db_one (ds_ret (de_callT tup_ok B.b_tuple boot_tuple (da_cons (de_var 3) da_nil))))))))
noncomputable abbrev s_is_rising : Stmt := top 5
theorem sc_is_rising : FnScope ["row"] ["row"] (defScope s_is_rising) := ⟨rfl, rfl, rfl, by decide +kernel, rfl, by decide +kernel, by decide +kernel⟩
theorem c_is_rising (D : Def K mg "is_rising" s_is_rising) (B : Blt mg)  : CalleeM P w K mg base "is_rising" 1 ["row"] F_is_rising := by
  refine callee_den 1 1 D sc_is_rising rfl rfl (fun _ _ _ _ _ _ us hl => by obtain ⟨_, rfl⟩ := len1 hl; rfl) (fun fa cdv A outer s H E hr => ?_)
  exact (db_one (ds_ret (de_cmp (eq_ok hr.units) (de_var 0) (de_sset rfl B.b_sorted B.b_set (de_var 0)))))
noncomputable abbrev s_is_whole : Stmt := top 4
theorem sc_is_whole : FnScope ["thing"] ["thing"] (defScope s_is_whole) := ⟨rfl, rfl, rfl, by decide +kernel, rfl, by decide +kernel, by decide +kernel⟩
theorem c_is_whole (D : Def K mg "is_whole" s_is_whole) (B : Blt mg)  : CalleeM P w K mg base "is_whole" 1 ["thing"] F_is_whole := by
  refine callee_den 1 1 D sc_is_whole rfl rfl (fun _ _ _ _ _ _ us hl => by obtain ⟨_, rfl⟩ := len1 hl; rfl) (fun fa cdv A outer s H E hr => ?_)
  exact (db_one (ds_ret (de_and (de_isinst B.b_isinstance B.b_int boot_int (de_var 0)) (de_one (de_not (de_isinst B.b_isinstance B.b_bool boot_bool (de_var 0)))))))
noncomputable abbrev s_is_row : Stmt := top 9
theorem sc_is_row : FnScope ["thing"] ["thing"] (defScope s_is_row) := ⟨rfl, rfl, rfl, by decide +kernel, rfl, by decide +kernel, by decide +kernel⟩
theorem c_is_row (D : Def K mg "is_row" s_is_row) (B : Blt mg) (C_is_whole : CalleeM P w K mg base "is_whole" 1 ["thing"] F_is_whole) : CalleeM P w K mg base "is_row" 2 ["thing"] F_is_row := by
  refine callee_den 1 1 D sc_is_row rfl rfl (fun _ _ _ _ _ _ us hl => by obtain ⟨_, rfl⟩ := len1 hl; rfl) (fun fa cdv A outer s H E hr => ?_)
  exact (db_cons (ds_if (DW.dt (dw_or (dt_not (dt_tru (de_isinst B.b_isinstance B.b_tuple boot_tuple (de_var 0)))) (dw_or1 (dt_cmp (ne_ok hr.units) (de_callB len_ok B.b_len boot_len (da_cons (de_var 0) da_nil)) de_int)))) (db_one (ds_ret de_bool)) db_nil) (db_one (ds_ret (de_and (de_call C_is_whole (hr.mono (by decide)) (da_cons (de_ix (de_var 0) de_int) da_nil)) (de_one (de_chn le_ok le_ok (de_neg (de_globI rfl (B.k_MOST_MORE))) (de_ix (de_var 0) de_int) (de_globI rfl (B.k_MOST_MORE))))))))
noncomputable abbrev s_is_zone : Stmt := top 10
theorem sc_is_zone : FnScope ["thing", "moments"] ["thing"] (defScope s_is_zone) := ⟨rfl, rfl, rfl, by decide +kernel, rfl, by decide +kernel, by decide +kernel⟩
theorem c_is_zone (D : Def K mg "is_zone" s_is_zone) (B : Blt mg) (C_is_row : CalleeM P w K mg base "is_row" 2 ["thing"] F_is_row) (C_is_whole : CalleeM P w K mg base "is_whole" 1 ["thing"] F_is_whole) (C_is_rising : CalleeM P w K mg base "is_rising" 1 ["row"] F_is_rising) : CalleeM P w K mg base "is_zone" 3 ["thing"] F_is_zone := by
  refine callee_den 2 1 D sc_is_zone rfl rfl (fun _ _ _ _ _ _ us hl => by obtain ⟨_, rfl⟩ := len1 hl; rfl) (fun fa cdv A outer s H E hr => ?_)
  have nd1 : (["part"] : List Str).Nodup := by decide +kernel
  have nd2 : (["moment", "more"] : List Str).Nodup := by decide +kernel
  have nd3 : (["moment"] : List Str).Nodup := by decide +kernel
  exact (db_cons (ds_if (DW.dt (dw_or (dt_not (dt_tru (de_isinst B.b_isinstance B.b_tuple boot_tuple (de_var 0)))) (dw_or1 (dt_not (dt_chn le_ok le_ok de_int (de_callB len_ok B.b_len boot_len (da_cons (de_var 0) da_nil)) (de_globI rfl (B.k_MOST_ROWS))))))) (db_one (ds_ret de_bool)) db_nil) (db_cons (ds_if (dt_not (dt_tru (de_callB (all_ok rfl) B.b_all boot_all (da_cons (de_comp (N' := ["part"]) (cap := [none]) rfl (blk_of (so := defScope s_is_zone) (NN := ["thing", "moments"]) rfl rfl (by decide +kernel)) (di_seq (de_var 0)) (by decide +kernel) (fun _ _ _ _ => (dg_name 0 nd1)) (fun _ _ _ _ => dts_nil) (fun _ _ _ _ => (de_call C_is_row (hr.mono (by decide)) (da_cons (de_var 0) da_nil)))) da_nil)))) (db_one (ds_ret de_bool)) db_nil) (db_cons (ds_setC 1 sc_is_zone.nd (N' := ["moment", "more"]) (cap := [none, none]) rfl (blk_of (so := defScope s_is_zone) (NN := ["thing", "moments"]) rfl rfl (by decide +kernel)) (di_seq (de_sl (de_var 0) (dO_some de_int) dO_none)) (by decide +kernel) (fun _ _ _ _ => (dg_tup rfl (dgs_cons 0 nd2 (dgs_cons 1 nd2 dgs_nil)))) (fun _ _ _ _ => dts_nil) (fun _ _ _ _ => (de_var 0))) (db_one (ds_ret (de_and (de_is_none (de_ix (de_ix (de_var 0) de_int) de_int)) (de_and (de_callB (all_ok rfl) B.b_all boot_all (da_cons (de_comp (N' := ["moment"]) (cap := [none]) rfl (blk_of (so := defScope s_is_zone) (NN := ["thing", "moments"]) rfl rfl (by decide +kernel)) (di_seq (de_var 1)) (by decide +kernel) (fun _ _ _ _ => (dg_name 0 nd3)) (fun _ _ _ _ => dts_nil) (fun _ _ _ _ => (de_call C_is_whole (hr.mono (by decide)) (da_cons (de_var 0) da_nil)))) da_nil)) (de_one (de_call C_is_rising (hr.mono (by decide)) (da_cons (de_var 1) da_nil))))))))))
noncomputable abbrev s_refuse_no_zone : Stmt := top 11
theorem sc_refuse_no_zone : FnScope ["thing"] ["thing"] (defScope s_refuse_no_zone) := ⟨rfl, rfl, rfl, by decide +kernel, rfl, by decide +kernel, by decide +kernel⟩
theorem c_refuse_no_zone (D : Def K mg "refuse_no_zone" s_refuse_no_zone) (B : Blt mg) (C_is_zone : CalleeM P w K mg base "is_zone" 3 ["thing"] F_is_zone) : CalleeM P w K mg base "refuse_no_zone" 4 ["thing"] F_refuse_no_zone := by
  refine callee_den 1 1 D sc_refuse_no_zone rfl rfl (fun _ _ _ _ _ _ us hl => by obtain ⟨_, rfl⟩ := len1 hl; rfl) (fun fa cdv A outer s H E hr => ?_)
  exact (db_one (ds_if (dt_not (dt_tru (de_call C_is_zone (hr.mono (by decide)) (da_cons (de_var 0) da_nil)))) (db_one ds_stuck) db_nil))
noncomputable abbrev s_shown_at : Stmt := top 12
theorem sc_shown_at : FnScope ["zone", "moment", "added", "begin", "more"] ["zone", "moment"] (defScope s_shown_at) := ⟨rfl, rfl, rfl, by decide +kernel, rfl, by decide +kernel, by decide +kernel⟩
theorem c_shown_at (D : Def K mg "shown_at" s_shown_at) (B : Blt mg) (C_refuse_no_zone : CalleeM P w K mg base "refuse_no_zone" 4 ["thing"] F_refuse_no_zone) : CalleeM P w K mg base "shown_at" 5 ["zone", "moment"] F_shown_at := by
  refine callee_den 5 2 D sc_shown_at rfl rfl (fun _ _ _ _ _ _ us hl => by obtain ⟨_, _, rfl⟩ := len2 hl; rfl) (fun fa cdv A outer s H E hr => ?_)
  exact (db_cons (ds_expr (de_call C_refuse_no_zone (hr.mono (by decide)) (da_cons (de_var 0) da_nil))) (db_cons (ds_set 2 sc_shown_at.nd (de_ix (de_ix (de_var 0) de_int) de_int)) (db_cons (ds_for PassesOwn.never rfl (di_seq (de_sl (de_var 0) (dO_some de_int) dO_none)) (dg_tup rfl (dgs_cons 3 sc_shown_at.nd (dgs_cons 4 sc_shown_at.nd dgs_nil))) (db_one (ds_if (dt_cmp le_ok (de_var 3) (de_var 1)) (db_one (ds_set 2 sc_shown_at.nd (de_var 4))) db_nil))) (db_one (ds_ret (de_bin add_ok (de_var 1) (de_var 2)))))))
noncomputable abbrev s_moments_shown : Stmt := top 14
theorem sc_moments_shown : FnScope ["zone", "shown", "likely"] ["zone", "shown"] (defScope s_moments_shown) := ⟨rfl, rfl, rfl, by decide +kernel, rfl, by decide +kernel, by decide +kernel⟩
theorem c_moments_shown (D : Def K mg "moments_shown" s_moments_shown) (B : Blt mg) (C_refuse_no_zone : CalleeM P w K mg base "refuse_no_zone" 4 ["thing"] F_refuse_no_zone) (C_shown_at : CalleeM P w K mg base "shown_at" 5 ["zone", "moment"] F_shown_at) : CalleeM P w K mg base "moments_shown" 6 ["zone", "shown"] F_moments_shown := by
  refine callee_den 3 2 D sc_moments_shown rfl rfl (fun _ _ _ _ _ _ us hl => by obtain ⟨_, _, rfl⟩ := len2 hl; rfl) (fun fa cdv A outer s H E hr => ?_)
  have nd1 : (["moment", "more", "shown"] : List Str).Nodup := by decide +kernel
  have nd2 : (["moment", "shown", "zone"] : List Str).Nodup := by decide +kernel
  exact (db_cons (ds_expr (de_call C_refuse_no_zone (hr.mono (by decide)) (da_cons (de_var 0) da_nil))) (db_cons (ds_set 2 sc_moments_shown.nd (de_sset rfl B.b_sorted B.b_set (de_comp (N' := ["moment", "more", "shown"]) (cap := [none, none, some 1]) rfl (blk_of (so := defScope s_moments_shown) (NN := ["zone", "shown", "likely"]) rfl rfl (by decide +kernel)) (di_seq (de_var 0)) (by decide +kernel) (fun _ _ _ _ => (dg_tup rfl (dgs_cons 0 nd1 (dgs_cons 1 nd1 dgs_nil)))) (fun _ _ _ _ => dts_nil) (fun _ _ _ _ => (de_bin sub_ok (de_var 2) (de_var 1)))))) (db_one (ds_ret (de_comp (N' := ["moment", "shown", "zone"]) (cap := [none, some 1, some 0]) rfl (blk_of (so := defScope s_moments_shown) (NN := ["zone", "shown", "likely"]) rfl rfl (by decide +kernel)) (di_seq (de_var 2)) (by decide +kernel) (fun _ _ _ _ => (dg_name 0 nd2)) (fun _ _ _ _ => (dts_one (dt_cmp (eq_ok hr.units) (de_call C_shown_at (hr.mono (by decide)) (da_cons (de_var 2) (da_cons (de_var 0) da_nil))) (de_var 1)))) (fun _ _ _ _ => (de_var 0)))))))
noncomputable abbrev s_jumps : Stmt := top 13
theorem sc_jumps : FnScope ["zone", "told", "ahead", "row"] ["zone"] (defScope s_jumps) := ⟨rfl, rfl, rfl, by decide +kernel, rfl, by decide +kernel, by decide +kernel⟩
theorem c_jumps (D : Def K mg "jumps" s_jumps) (B : Blt mg) (C_refuse_no_zone : CalleeM P w K mg base "refuse_no_zone" 4 ["thing"] F_refuse_no_zone) : CalleeM P w K mg base "jumps" 5 ["zone"] F_jumps := by
  refine callee_den 4 1 D sc_jumps rfl rfl (fun _ _ _ _ _ _ us hl => by obtain ⟨_, rfl⟩ := len1 hl; rfl) (fun fa cdv A outer s H E hr => ?_)
  exact (db_cons (ds_expr (de_call C_refuse_no_zone (hr.mono (by decide)) (da_cons (de_var 0) da_nil))) (db_cons (ds_new 1 sc_jumps.nd da_nil) (db_cons (ds_for PassesOwn.never rfl (di_zipX B.b_zip (de_var 0) (de_sl (de_var 0) (dO_some de_int) dO_none)) (dg_tup rfl (dgs_cons 2 sc_jumps.nd (dgs_cons 3 sc_jumps.nd dgs_nil))) (db_one (ds_if (dt_cmp (ne_ok hr.units) (de_ix (de_var 3) de_int) (de_ix (de_var 2) de_int)) (db_one (ds_app 1 (de_tup (da_cons (de_ix (de_var 3) de_int) (da_cons (de_bin sub_ok (de_ix (de_var 3) de_int) (de_ix (de_var 2) de_int)) da_nil))))) db_nil))) (db_frz 1 (db_one (ds_ret (de_var 1)))))))
noncomputable abbrev s_first_shown : Stmt := top 15
theorem sc_first_shown : FnScope ["zone", "shown", "moments", "passing"] ["zone", "shown"] (defScope s_first_shown) := ⟨rfl, rfl, rfl, by decide +kernel, rfl, by decide +kernel, by decide +kernel⟩
theorem c_first_shown (D : Def K mg "first_shown" s_first_shown) (B : Blt mg) (C_moments_shown : CalleeM P w K mg base "moments_shown" 6 ["zone", "shown"] F_moments_shown) (C_jumps : CalleeM P w K mg base "jumps" 5 ["zone"] F_jumps) (C_shown_at : CalleeM P w K mg base "shown_at" 5 ["zone", "moment"] F_shown_at) : CalleeM P w K mg base "first_shown" 7 ["zone", "shown"] F_first_shown := by
  refine callee_den 4 2 D sc_first_shown rfl rfl (fun _ _ _ _ _ _ us hl => by obtain ⟨_, _, rfl⟩ := len2 hl; rfl) (fun fa cdv A outer s H E hr => ?_)
  have nd1 : (["moment", "by", "shown", "zone"] : List Str).Nodup := by decide +kernel
  exact (db_cons (ds_set 2 sc_first_shown.nd (de_call C_moments_shown (hr.mono (by decide)) (da_cons (de_var 0) (da_cons (de_var 1) da_nil)))) (db_cons (ds_if (dt_tru (de_var 2)) (db_one (ds_ret (de_ix (de_var 2) de_int))) db_nil) (db_cons (ds_setC 3 sc_first_shown.nd (N' := ["moment", "by", "shown", "zone"]) (cap := [none, none, some 1, some 0]) rfl (blk_of (so := defScope s_first_shown) (NN := ["zone", "shown", "moments", "passing"]) rfl rfl (by decide +kernel)) (di_seq (de_call C_jumps (hr.mono (by decide)) (da_cons (de_var 0) da_nil))) (by decide +kernel) (fun _ _ _ _ => (dg_tup rfl (dgs_cons 0 nd1 (dgs_cons 1 nd1 dgs_nil)))) (fun _ _ _ _ => (dts_one (dt_chn lt_ok lt_ok (de_call C_shown_at (hr.mono (by decide)) (da_cons (de_var 3) (da_cons (de_bin sub_ok (de_var 0) de_int) da_nil))) (de_var 2) (de_call C_shown_at (hr.mono (by decide)) (da_cons (de_var 3) (da_cons (de_var 0) da_nil)))))) (fun _ _ _ _ => (de_var 0))) (db_one (ds_ret (de_ix (de_var 3) de_int))))))
noncomputable abbrev s_l_added : Stmt := top 20
theorem sc_l_added : FnScope ["_law_zone_here", "_law_moment"] ["_law_zone_here", "_law_moment"] (defScope s_l_added) := ⟨rfl, rfl, rfl, by decide +kernel, rfl, by decide +kernel, by decide +kernel⟩
theorem c_l_added (D : Def K mg "_law_added" s_l_added) (B : Blt mg)  : CalleeM P w K mg base "_law_added" 1 ["_law_zone_here", "_law_moment"] F_l_added := by
  refine callee_den 2 2 D sc_l_added rfl rfl (fun _ _ _ _ _ _ us hl => by obtain ⟨_, _, rfl⟩ := len2 hl; rfl) (fun fa cdv A outer s H E hr => ?_)
  have nd1 : (["_law_begin", "_law_more", "_law_moment"] : List Str).Nodup := by decide +kernel
  exact (db_one (ds_ret (de_ix (de_comp (N' := ["_law_begin", "_law_more", "_law_moment"]) (cap := [none, none, some 1]) rfl (blk_of (so := defScope s_l_added) (NN := ["_law_zone_here", "_law_moment"]) rfl rfl (by decide +kernel)) (di_seq (de_var 0)) (by decide +kernel) (fun _ _ _ _ => (dg_tup rfl (dgs_cons 0 nd1 (dgs_cons 1 nd1 dgs_nil)))) (fun _ _ _ _ => (dts_one (DW.dt (dw_or (dt_is_none (de_var 0)) (dw_or1 (dt_cmp le_ok (de_var 0) (de_var 2))))))) (fun _ _ _ _ => (de_var 1))) (de_neg de_int))))
noncomputable abbrev s_l_once : Stmt := top 21
theorem sc_l_once : FnScope ["_law_script", "_law_zone_here", "_law_moments", "_law_shown", "_law_k", "_law_place", "_law_time", "_law_due", "_law_first", "_law_ahead", "_law_rises", "_law_moment", "_law_begin", "_law_by", "_law_counts", "_law_told", "_law_some"] ["_law_script"] (defScope s_l_once) := ⟨rfl, rfl, rfl, by decide +kernel, rfl, by decide +kernel, by decide +kernel⟩
theorem c_l_once (D : Def K mg "_law_once" s_l_once) (B : Blt mg) (C_l_zone : CalleeM P w K mg base "_law_zone" 3 ["_law_script", "_law_at"] F_l_zone) (C_l_added : CalleeM P w K mg base "_law_added" 1 ["_law_zone_here", "_law_moment"] F_l_added) (C_l_pick : CalleeM P w K mg base "_law_pick" 2 ["_law_script", "_law_k", "_law_many"] F_l_pick) (C_moments_shown : CalleeM P w K mg base "moments_shown" 6 ["zone", "shown"] F_moments_shown) (C_first_shown : CalleeM P w K mg base "first_shown" 7 ["zone", "shown"] F_first_shown) (C_shown_at : CalleeM P w K mg base "shown_at" 5 ["zone", "moment"] F_shown_at) (C_jumps : CalleeM P w K mg base "jumps" 5 ["zone"] F_jumps) : CalleeM P w K mg base "_law_once" 8 ["_law_script"] F_l_once := by
  refine callee_den 17 1 D sc_l_once rfl rfl (fun _ _ _ _ _ _ us hl => by obtain ⟨_, rfl⟩ := len1 hl; rfl) (fun fa cdv A outer s H E hr => ?_)
  have nd1 : (["_law_moment", "_law_zone_here"] : List Str).Nodup := by decide +kernel
  have nd2 : (["_law_moment", "_law_told", "_law_time"] : List Str).Nodup := by decide +kernel
  have nd3 : (["_law_moment", "_law_told", "_law_first"] : List Str).Nodup := by decide +kernel
  have nd4 : (["_law_k", "_law_ahead", "_law_time"] : List Str).Nodup := by decide +kernel
  have nd5 : (["_law_time", "_law_counts"] : List Str).Nodup := by decide +kernel
  exact (db_cons (ds_set 1 sc_l_once.nd (de_call C_l_zone (hr.mono (by decide)) (da_cons (de_var 0) (da_cons de_int da_nil)))) (db_cons (ds_set 2 sc_l_once.nd (de_lrng2 B.b_list B.b_range (de_neg de_int) de_int)) (db_cons (ds_setC 3 sc_l_once.nd (N' := ["_law_moment", "_law_zone_here"]) (cap := [none, some 1]) rfl (blk_of (so := defScope s_l_once) (NN := ["_law_script", "_law_zone_here", "_law_moments", "_law_shown", "_law_k", "_law_place", "_law_time", "_law_due", "_law_first", "_law_ahead", "_law_rises", "_law_moment", "_law_begin", "_law_by", "_law_counts", "_law_told", "_law_some"]) rfl rfl (by decide +kernel)) (di_seq (de_var 2)) (by decide +kernel) (fun _ _ _ _ => (dg_name 0 nd1)) (fun _ _ _ _ => dts_nil) (fun _ _ _ _ => (de_bin add_ok (de_var 0) (de_call C_l_added (hr.mono (by decide)) (da_cons (de_var 1) (da_cons (de_var 0) da_nil)))))) (db_cons (ds_for PassesOwn.never rfl (di_rng1 B.b_range de_int) (dg_name 4 sc_l_once.nd) (db_cons (ds_set 5 sc_l_once.nd (de_ix (de_ix (de_bin add_ok (de_sl (de_var 1) (dO_some de_int) dO_none) (de_tup (da_cons (de_tup (da_cons de_int (da_cons de_int da_nil))) da_nil))) (de_call C_l_pick (hr.mono (by decide)) (da_cons (de_var 0) (da_cons (de_bin add_ok de_int (de_var 4)) (da_cons (de_callB len_ok B.b_len boot_len (da_cons (de_var 1) da_nil)) da_nil))))) de_int)) (db_cons (ds_set 6 sc_l_once.nd (de_bin sub_ok (de_bin add_ok (de_var 5) (de_call C_l_pick (hr.mono (by decide)) (da_cons (de_var 0) (da_cons (de_bin add_ok de_int (de_var 4)) (da_cons de_int da_nil))))) de_int)) (db_cons (ds_setC 7 sc_l_once.nd (N' := ["_law_moment", "_law_told", "_law_time"]) (cap := [none, none, some 6]) rfl (blk_of (so := defScope s_l_once) (NN := ["_law_script", "_law_zone_here", "_law_moments", "_law_shown", "_law_k", "_law_place", "_law_time", "_law_due", "_law_first", "_law_ahead", "_law_rises", "_law_moment", "_law_begin", "_law_by", "_law_counts", "_law_told", "_law_some"]) rfl rfl (by decide +kernel)) (di_zipX B.b_zip (de_var 2) (de_var 3)) (by decide +kernel) (fun _ _ _ _ => (dg_tup rfl (dgs_cons 0 nd2 (dgs_cons 1 nd2 dgs_nil)))) (fun _ _ _ _ => (dts_one (dt_cmp (eq_ok hr.units) (de_var 1) (de_var 2)))) (fun _ _ _ _ => (de_var 0))) (db_cons (ds_if (dt_cmp (ne_ok hr.units) (de_call C_moments_shown (hr.mono (by decide)) (da_cons (de_var 1) (da_cons (de_var 6) da_nil))) (de_var 7)) (db_one (ds_ret de_bool)) db_nil) (db_cons (ds_set 8 sc_l_once.nd (de_call C_first_shown (hr.mono (by decide)) (da_cons (de_var 1) (da_cons (de_var 6) da_nil)))) (db_cons (ds_if (DW.dt (dw_and (dt_cmp (ne_ok hr.units) (de_var 7) (de_lst da_nil)) (dw_and1 (dt_cmp (ne_ok hr.units) (de_var 8) (de_ix (de_var 7) de_int))))) (db_one (ds_ret de_bool)) db_nil) (db_cons (ds_if (DW.dt (dw_and (dt_cmp (eq_ok hr.units) (de_var 7) (de_lst da_nil)) (dw_and1 (dt_not (dt_chn lt_ok lt_ok (de_call C_shown_at (hr.mono (by decide)) (da_cons (de_var 1) (da_cons (de_bin sub_ok (de_var 8) de_int) da_nil))) (de_var 6) (de_call C_shown_at (hr.mono (by decide)) (da_cons (de_var 1) (da_cons (de_var 8) da_nil)))))))) (db_one (ds_ret de_bool)) db_nil) (db_cons (ds_if (dt_cmp (eq_ok hr.units) (de_var 7) (de_lst da_nil)) (db_cons (ds_set 9 sc_l_once.nd (de_comp (N' := ["_law_moment", "_law_told", "_law_first"]) (cap := [none, none, some 8]) rfl (blk_of (so := defScope s_l_once) (NN := ["_law_script", "_law_zone_here", "_law_moments", "_law_shown", "_law_k", "_law_place", "_law_time", "_law_due", "_law_first", "_law_ahead", "_law_rises", "_law_moment", "_law_begin", "_law_by", "_law_counts", "_law_told", "_law_some"]) rfl rfl (by decide +kernel)) (di_zipX B.b_zip (de_var 2) (de_var 3)) (by decide +kernel) (fun _ _ _ _ => (dg_tup rfl (dgs_cons 0 nd3 (dgs_cons 1 nd3 dgs_nil)))) (fun _ _ _ _ => (dts_one (dt_cmp lt_ok (de_var 0) (de_var 2)))) (fun _ _ _ _ => (de_var 1)))) (db_cons (ds_setC 10 sc_l_once.nd (N' := ["_law_k", "_law_ahead", "_law_time"]) (cap := [none, some 9, some 6]) rfl (blk_of (so := defScope s_l_once) (NN := ["_law_script", "_law_zone_here", "_law_moments", "_law_shown", "_law_k", "_law_place", "_law_time", "_law_due", "_law_first", "_law_ahead", "_law_rises", "_law_moment", "_law_begin", "_law_by", "_law_counts", "_law_told", "_law_some"]) rfl rfl (by decide +kernel)) (di_rng1 B.b_range (de_bin sub_ok (de_callB len_ok B.b_len boot_len (da_cons (de_var 9) da_nil)) de_int)) (by decide +kernel) (fun _ _ _ _ => (dg_name 0 nd4)) (fun _ _ _ _ => (dts_one (dt_chn lt_ok lt_ok (de_ix (de_var 1) (de_var 0)) (de_var 2) (de_ix (de_var 1) (de_bin add_ok (de_var 0) de_int))))) (fun _ _ _ _ => (de_var 0))) (db_one (ds_if (dt_cmp (ne_ok hr.units) (de_var 10) (de_lst da_nil)) (db_one (ds_ret de_bool)) db_nil)))) db_nil) (db_cons (ds_set 11 sc_l_once.nd (de_bin sub_ok (de_bin add_ok (de_var 5) (de_call C_l_pick (hr.mono (by decide)) (da_cons (de_var 0) (da_cons (de_bin add_ok de_int (de_var 4)) (da_cons de_int da_nil))))) de_int)) (db_one (ds_if (dt_cmp (ninX_ok hr.units1) (de_var 11) (de_call C_moments_shown (hr.mono (by decide)) (da_cons (de_var 1) (da_cons (de_call C_shown_at (hr.mono (by decide)) (da_cons (de_var 1) (da_cons (de_var 11) da_nil))) da_nil)))) (db_one (ds_ret de_bool)) db_nil)))))))))))) (db_cons (ds_if (dt_cmp (eq_ok hr.units) (de_callB len_ok B.b_len boot_len (da_cons (de_call C_jumps (hr.mono (by decide)) (da_cons (de_var 1) da_nil)) da_nil)) de_int) (db_cons (ds_unp (de_ix (de_call C_jumps (hr.mono (by decide)) (da_cons (de_var 1) da_nil)) de_int) (dg_tup rfl (dgs_cons 12 sc_l_once.nd (dgs_cons 13 sc_l_once.nd dgs_nil)))) (db_cons (ds_newD 14 sc_l_once.nd) (db_cons (ds_for PassesOwn.never rfl (di_seq (de_var 3)) (dg_name 15 sc_l_once.nd) (db_one (ds_putD 14 hr.units (de_th (de_bin add_ok (de_get2 hr.units (de_var 14) (de_var 15) de_int) de_int)) (de_var 15)))) (db_frz 14 (db_cons (ds_setC 16 sc_l_once.nd (N' := ["_law_time", "_law_counts"]) (cap := [none, some 14]) rfl (blk_of (so := defScope s_l_once) (NN := ["_law_script", "_law_zone_here", "_law_moments", "_law_shown", "_law_k", "_law_place", "_law_time", "_law_due", "_law_first", "_law_ahead", "_law_rises", "_law_moment", "_law_begin", "_law_by", "_law_counts", "_law_told", "_law_some"]) rfl rfl (by decide +kernel)) (di_rng2 B.b_range (de_bin sub_ok (de_var 12) de_int) (de_bin add_ok (de_var 12) de_int)) (by decide +kernel) (fun _ _ _ _ => (dg_name 0 nd5)) (fun _ _ _ _ => dts_nil) (fun _ _ _ _ => (de_get2 hr.units (de_var 1) (de_var 0) de_int))) (db_one (ds_if (dt_cmp (ne_ok hr.units) (de_tup (da_cons (de_count (de_var 16) de_int) (da_cons (de_count (de_var 16) de_int) da_nil))) (de_tup (da_cons (de_callB (max_ok rfl) B.b_max boot_max (da_cons (de_var 13) (da_cons de_int da_nil))) (da_cons (de_callB (max_ok rfl) B.b_max boot_max (da_cons (de_bin sub_ok de_int (de_var 13)) (da_cons de_int da_nil))) da_nil)))) (db_one (ds_ret de_bool)) db_nil))))))) db_nil) (db_one (ds_ret de_bool)))))))
noncomputable abbrev s_law : Stmt := top 22
theorem sc_law : FnScope ["_law_script", "_law_turn"] ["_law_script"] (defScope s_law) := ⟨rfl, rfl, rfl, by decide +kernel, rfl, by decide +kernel, by decide +kernel⟩
theorem c_law {fa : Addr} {fd : FuncData} (Fu : Fun K "law" "law" s_law fa fd) (B : Blt mg) (C_l_once : CalleeM P w K mg base "_law_once" 8 ["_law_script"] F_l_once) : FnOk P w K mg base CX0 9 fa fd ["_law_script"] (spD K fun ds d => F_law ds = some (.ok d)) := by
  refine fn_den 2 1 Fu sc_law rfl rfl (fun cdv A outer s H E hr => ?_)
  have nd1 : (["_law_cell_here", "_law_turn"] : List Str).Nodup := by decide +kernel
  exact (db_cons (ds_for PassesOwn.never rfl (di_rng1 B.b_range de_int) (dg_name 1 sc_law.nd) (db_cons (ds_if (dt_not (dt_tru (de_call C_l_once (hr.mono (by decide)) (da_cons (de_comp (N' := ["_law_cell_here", "_law_turn"]) (cap := [none, some 1]) rfl (blk_of (so := defScope s_law) (NN := ["_law_script", "_law_turn"]) rfl rfl (by decide +kernel)) (di_seq (de_var 0)) (by decide +kernel) (fun _ _ _ _ => (dg_name 0 nd1)) (fun _ _ _ _ => dts_nil) (fun _ _ _ _ => (de_bin add_ok (de_var 0) (de_bin mul_ok de_int (de_var 1))))) da_nil)))) (db_one (ds_ret de_bool)) db_nil) (db_one (ds_if (dt_cmp (eq_ok hr.units) (de_var 0) (de_lst da_nil)) (db_one ds_brk) db_nil)))) (db_one (ds_ret de_bool)))
end
theorem blt_mk {K : PySem.W.Frag} {h : Heap} {mg : Str → Option Value} {t0 : Tok} {t1 : Tok} (X : K.In h) (G : h.Ns mainGlobals mg) (z0 : PySem.W.nsIn K mainGlobals "all" = some none) (z1 : PySem.W.nsIn K mainGlobals "bool" = some none) (z2 : PySem.W.nsIn K mainGlobals "enumerate" = some none) (z3 : PySem.W.nsIn K mainGlobals "int" = some none) (z4 : PySem.W.nsIn K mainGlobals "isinstance" = some none) (z5 : PySem.W.nsIn K mainGlobals "len" = some none) (z6 : PySem.W.nsIn K mainGlobals "list" = some none) (z7 : PySem.W.nsIn K mainGlobals "max" = some none) (z8 : PySem.W.nsIn K mainGlobals "min" = some none) (z9 : PySem.W.nsIn K mainGlobals "range" = some none) (z10 : PySem.W.nsIn K mainGlobals "set" = some none) (z11 : PySem.W.nsIn K mainGlobals "sorted" = some none) (z12 : PySem.W.nsIn K mainGlobals "tuple" = some none) (z13 : PySem.W.nsIn K mainGlobals "zip" = some none) (y0 : PySem.W.nsIn K mainGlobals "MOST_MORE" = some (some (.int 24 t0))) (y1 : PySem.W.nsIn K mainGlobals "MOST_ROWS" = some (some (.int 5 t1))) : Blt mg :=
  ⟨PySem.W.mg_none_of X G z0, PySem.W.mg_none_of X G z1, PySem.W.mg_none_of X G z2, PySem.W.mg_none_of X G z3, PySem.W.mg_none_of X G z4, PySem.W.mg_none_of X G z5, PySem.W.mg_none_of X G z6, PySem.W.mg_none_of X G z7, PySem.W.mg_none_of X G z8, PySem.W.mg_none_of X G z9, PySem.W.mg_none_of X G z10, PySem.W.mg_none_of X G z11, PySem.W.mg_none_of X G z12, PySem.W.mg_none_of X G z13, ⟨_, PySem.W.mg_of X G y0⟩, ⟨_, PySem.W.mg_of X G y1⟩⟩
theorem walk {l : PySem.W.OpenLaw} {q : Program} {loose : List Str} {XP : (Str → Option Value) → Heap → Prop} {YP : World → Heap → Prop} {d : DefRec} {K : Params → PySem.W.Frag} (hn : l.most = some 63) (hdf : d.params.defaults = []) (hL : ∀ (w : World), ∀ x ∈ lamNames, PySem.W.tabIn (K w.params) x = none)
    (hY : ∀ (w : World) (h : Heap), YP w h → (K w.params).In h)
    (F : ∀ (w : World) (mg : Str → Option Value) (fa : Addr) (h : Heap), (K w.params).In h → h.Ns mainGlobals mg → mg d.name = some (.ref fa) →
      ∃ fd : FuncData, (∀ (s : Shared) (u : Value), BindsTo s fd ⟨[u], []⟩ [("_law_script", u)]) ∧ ∀ base : Heap, (K w.params).In base → base.Ns mainGlobals mg → FnOk l.prog w (K w.params) mg base CX0 9 fa fd ["_law_script"] (spD (K w.params) fun ds d => F_law ds = some (.ok d))) :
    PySem.W.WalkO q loose XP YP l.row.toRowW d [] (fun f vs => PySem.call f vs) :=
  L2.walk_of (n := 63) (k := 9) (x := "_law_script") (CX := fun _ => CX0) (sp := fun w => spD (K w.params) fun ds d => F_law ds = some (.ok d)) hn (by decide) hdf ⟨rfl, by decide, by decide⟩ hY F
    (fun w H a ns hl hO hS => ⟨H, [dN ns], .bool true, ⟨.refl _, no_tabs (hL w), no_tbl hO⟩, .cons (.list hS (repAll_intsG ns)) .nil, e_law ns hl, fun v G' H' _ r => by cases r; rfl⟩) fun _ _ _ _ _ z => z
theorem law_mk {l : PySem.W.OpenLaw} {w : World} {K : PySem.W.Frag} {h : Heap} {mg : Str → Option Value} {fa f4 : Addr} (X : K.In h) (G : h.Ns mainGlobals mg) (hfa : mg "law" = some (.ref fa)) {od4 an4 : Option Addr} {sl4 : Array (Option Value)} {oc4 kV4 dc4 pm4 cd4 ct4 : Value}
    (B : Blt mg) (D0 : Def K mg "_law_cell" s_l_cell) (D1 : Def K mg "_law_pick" s_l_pick) (D2 : Def K mg "_law_zone" s_l_zone) (D3 : Def K mg "is_rising" s_is_rising) (D4 : Def K mg "is_whole" s_is_whole) (D5 : Def K mg "is_row" s_is_row) (D6 : Def K mg "is_zone" s_is_zone) (D7 : Def K mg "refuse_no_zone" s_refuse_no_zone) (D8 : Def K mg "shown_at" s_shown_at) (D9 : Def K mg "moments_shown" s_moments_shown) (D10 : Def K mg "jumps" s_jumps) (D11 : Def K mg "first_shown" s_first_shown) (D12 : Def K mg "_law_added" s_l_added) (D13 : Def K mg "_law_once" s_l_once)
    (a4 : PySem.W.nsIn K mainGlobals "law" = some (some (.ref f4))) (l4 : K.lookup f4 = some ⟨oc4, od4, .func (PySem.W.fnOf "law" "law" (defArgs s_law) (defBody s_law) (defScope s_law) .none kV4 dc4 pm4 an4 cd4 ct4), sl4⟩) (c4 : PySem.W.codeIn K cd4 "law" = true) (k4 : PySem.W.keepIn K (.ref f4) = true) :
    ∃ fd : FuncData, (∀ (s : Shared) (v : Value), BindsTo s fd ⟨[v], []⟩ [("_law_script", v)]) ∧ ∀ base : Heap, K.In base → base.Ns mainGlobals mg → FnOk l.prog w K mg base CX0 9 fa fd ["_law_script"] (spD K fun ds d => F_law ds = some (.ok d)) := by
  have e := hfa.symm.trans (PySem.W.mg_of X G a4)
  cases e
  refine ⟨PySem.W.fnOf "law" "law" (defArgs s_law) (defBody s_law) (defScope s_law) .none kV4 dc4 pm4 an4 cd4 ct4, fun s v => .of_eq rfl, fun base kb nb => ?_⟩
  have C_l_cell := c_l_cell (P := l.prog) (w := w) (base := base) D0 B
  have C_l_pick := c_l_pick (P := l.prog) (w := w) (base := base) D1 B  C_l_cell
  have C_l_zone := c_l_zone (P := l.prog) (w := w) (base := base) D2 B  C_l_pick
  have C_is_rising := c_is_rising (P := l.prog) (w := w) (base := base) D3 B
  have C_is_whole := c_is_whole (P := l.prog) (w := w) (base := base) D4 B
  have C_is_row := c_is_row (P := l.prog) (w := w) (base := base) D5 B  C_is_whole
  have C_is_zone := c_is_zone (P := l.prog) (w := w) (base := base) D6 B  C_is_row C_is_whole C_is_rising
  have C_refuse_no_zone := c_refuse_no_zone (P := l.prog) (w := w) (base := base) D7 B  C_is_zone
  have C_shown_at := c_shown_at (P := l.prog) (w := w) (base := base) D8 B  C_refuse_no_zone
  have C_moments_shown := c_moments_shown (P := l.prog) (w := w) (base := base) D9 B  C_refuse_no_zone C_shown_at
  have C_jumps := c_jumps (P := l.prog) (w := w) (base := base) D10 B  C_refuse_no_zone
  have C_first_shown := c_first_shown (P := l.prog) (w := w) (base := base) D11 B  C_moments_shown C_jumps C_shown_at
  have C_l_added := c_l_added (P := l.prog) (w := w) (base := base) D12 B
  have C_l_once := c_l_once (P := l.prog) (w := w) (base := base) D13 B  C_l_zone C_l_added C_l_pick C_moments_shown C_first_shown C_shown_at C_jumps
  exact c_law (fun_mk (st := s_law) l4 c4 k4) B C_l_once
end L2.L3
open PySem PySem.W PyProof.Rows
set_option maxRecDepth 100000 in
set_option maxHeartbeats 0 in
theorem PySem.Challenge.cw_daysheet_k31_whole_shown_holds : PySem.Challenge.rw_daysheet_k31_whole_shown.Holds := by
  w_on; o_law; k_head; (case hw => w_witness2)
  k_fill
  refine L2.L3.walk (l := PySem.Challenge.rw_daysheet_k31_whole_shown) rfl rfl (fun w => L2.L3.lam_none (by kernel_rfl) (by kernel_rfl)) (fun w h Y => PySem.W.kIn_of Y) ?F
  case F =>
    intro w mg fa h KX G hmg
    refine' L2.L3.law_mk KX G hmg ?B ?D0 ?D1 ?D2 ?D3 ?D4 ?D5 ?D6 ?D7 ?D8 ?D9 ?D10 ?D11 ?D12 ?D13 ?a4 ?l4 ?c4 ?k4
    (case a4 => k_is); (case l4 => k_is); (case c4 => k_is); (case k4 => k_is)
    (case B => (refine' L2.L3.blt_mk KX G ?z0 ?z1 ?z2 ?z3 ?z4 ?z5 ?z6 ?z7 ?z8 ?z9 ?z10 ?z11 ?z12 ?z13 ?y0 ?y1; (case z0 => k_is); (case z1 => k_is); (case z2 => k_is); (case z3 => k_is); (case z4 => k_is); (case z5 => k_is); (case z6 => k_is); (case z7 => k_is); (case z8 => k_is); (case z9 => k_is); (case z10 => k_is); (case z11 => k_is); (case z12 => k_is); (case z13 => k_is); (case y0 => k_is); (case y1 => k_is)))
    (case D0 => (refine' L2.L3.def_mk KX G ?a ?l ?c ?k; (case a => k_is); (case l => k_is); (case c => k_is); (case k => k_is)))
    (case D1 => (refine' L2.L3.def_mk KX G ?a ?l ?c ?k; (case a => k_is); (case l => k_is); (case c => k_is); (case k => k_is)))
    (case D2 => (refine' L2.L3.def_mk KX G ?a ?l ?c ?k; (case a => k_is); (case l => k_is); (case c => k_is); (case k => k_is)))
    (case D3 => (refine' L2.L3.def_mk KX G ?a ?l ?c ?k; (case a => k_is); (case l => k_is); (case c => k_is); (case k => k_is)))
    (case D4 => (refine' L2.L3.def_mk KX G ?a ?l ?c ?k; (case a => k_is); (case l => k_is); (case c => k_is); (case k => k_is)))
    (case D5 => (refine' L2.L3.def_mk KX G ?a ?l ?c ?k; (case a => k_is); (case l => k_is); (case c => k_is); (case k => k_is)))
    (case D6 => (refine' L2.L3.def_mk KX G ?a ?l ?c ?k; (case a => k_is); (case l => k_is); (case c => k_is); (case k => k_is)))
    (case D7 => (refine' L2.L3.def_mk KX G ?a ?l ?c ?k; (case a => k_is); (case l => k_is); (case c => k_is); (case k => k_is)))
    (case D8 => (refine' L2.L3.def_mk KX G ?a ?l ?c ?k; (case a => k_is); (case l => k_is); (case c => k_is); (case k => k_is)))
    (case D9 => (refine' L2.L3.def_mk KX G ?a ?l ?c ?k; (case a => k_is); (case l => k_is); (case c => k_is); (case k => k_is)))
    (case D10 => (refine' L2.L3.def_mk KX G ?a ?l ?c ?k; (case a => k_is); (case l => k_is); (case c => k_is); (case k => k_is)))
    (case D11 => (refine' L2.L3.def_mk KX G ?a ?l ?c ?k; (case a => k_is); (case l => k_is); (case c => k_is); (case k => k_is)))
    (case D12 => (refine' L2.L3.def_mk KX G ?a ?l ?c ?k; (case a => k_is); (case l => k_is); (case c => k_is); (case k => k_is)))
    (case D13 => (refine' L2.L3.def_mk KX G ?a ?l ?c ?k; (case a => k_is); (case l => k_is); (case c => k_is); (case k => k_is)))

