import PyProof.Rows.All
import Wide.All
import OpenK.AllK
import Wide.FinOn
import Lean
import PyProof.EqAt
import PyProof.EqKinds
import PyProof.TupleCall
import PySem.Challenge.RW_answertrees_k69_drawings_read
set_option compiler.extract_closed false
set_option Elab.async false
set_option linter.all false
set_option maxRecDepth 100000
namespace L2
open PySem PySem.Spec PyProof.Rows
noncomputable abbrev Key := Sum Int Str
noncomputable def keyIs : Key → Value → Bool
  | .inl k, v => Value.isInt k v
  | .inr x, v => Value.isStrOf x v
noncomputable def keyH (w : World) : Key → Int
  | .inl k => hashInt k
  | .inr x => hashStr w x
theorem keyIs_shape : ∀ {k : Key} {v : Value}, keyIs k v = true → (∃ i t, k = Sum.inl i ∧ v = Value.int i t) ∨ (∃ x t, k = Sum.inr x ∧ v = Value.str x t)
  | .inl i, v, h => by
    obtain ⟨t, e⟩ := Value.isInt_shape (k := i) (v := v) h
    exact .inl ⟨i, t, rfl, e⟩
  | .inr x, v, h => by
    obtain ⟨t, e⟩ := Value.isStrOf_shape (x := x) (v := v) h
    exact .inr ⟨x, t, rfl, e⟩
theorem keyIs_int (i : Int) (t : Tok) : keyIs (.inl i) (.int i t) = true := by simp [keyIs, Value.isInt]
theorem keyIs_str (x : Str) (t : Tok) : keyIs (.inr x) (.str x t) = true := by simp [keyIs, Value.isStrOf]
theorem key_ll (a b : Int) : decide ((Sum.inl a : Key) = Sum.inl b) = (a == b) := by
  by_cases e : a = b
  · subst e; simp
  · have h : ¬ (Sum.inl a : Key) = Sum.inl b := fun q => e (Sum.inl.inj q)
    rw [decide_eq_false h]
    exact (beq_eq_false_iff_ne.mpr e).symm
theorem key_rr (a b : Str) : decide ((Sum.inr a : Key) = Sum.inr b) = decide (a = b) := by
  by_cases e : a = b
  · subst e; simp
  · have h : ¬ (Sum.inr a : Key) = Sum.inr b := fun q => e (Sum.inr.inj q)
    rw [decide_eq_false h, decide_eq_false e]
theorem key_lr (a : Int) (b : Str) : decide ((Sum.inl a : Key) = Sum.inr b) = false := decide_eq_false (fun q => nomatch q)
theorem key_rl (a : Str) (b : Int) : decide ((Sum.inr a : Key) = Sum.inl b) = false := decide_eq_false (fun q => nomatch q)
noncomputable def mixKind (prog : Program) (w : World) : PySem.KeyKind prog w Key where
  is := keyIs
  hash := keyH w
  inj := fun v a b ha hb => by
    rcases keyIs_shape ha with ⟨i, t, rfl, rfl⟩ | ⟨x, t, rfl, rfl⟩
    · rcases keyIs_shape hb with ⟨j, u, rfl, e⟩ | ⟨y, u, rfl, e⟩
      · injection e with e1 _; rw [e1]
      · exact nomatch e
    · rcases keyIs_shape hb with ⟨j, u, rfl, e⟩ | ⟨y, u, rfl, e⟩
      · exact nomatch e
      · injection e with e1 _; rw [e1]
  byValue := fun k v h => by
    rcases keyIs_shape h with ⟨i, t, rfl, rfl⟩ | ⟨x, t, rfl, rfl⟩ <;> rfl
  pyHash := fun hv h => by
    rcases keyIs_shape hv with ⟨i, t, rfl, rfl⟩ | ⟨x, t, rfl, rfl⟩
    · exact wpAny_pyHash_int h
    · exact wpAny_pyHash_str h
  eqBool := fun hu hv h => by
    rcases keyIs_shape hu with ⟨i, t, rfl, rfl⟩ | ⟨x, t, rfl, rfl⟩
    · rcases keyIs_shape hv with ⟨j, u, rfl, rfl⟩ | ⟨y, u, rfl, rfl⟩
      · rw [key_ll] at h; exact wpAny_eqBool_int h
      · rw [key_lr] at h; exact SeqAt.EqAt.int_str i t y u _ _ _ _ h
    · rcases keyIs_shape hv with ⟨j, u, rfl, rfl⟩ | ⟨y, u, rfl, rfl⟩
      · rw [key_rl] at h; exact SeqAt.EqAt.str_int x t j u _ _ _ _ h
      · rw [key_rr] at h; exact wpAny_eqBool_str h
  «strs» := fun k x t v h => by
    rcases keyIs_shape h with ⟨i, u, rfl, e⟩ | ⟨y, u, rfl, e⟩
    · exact nomatch e
    · injection e with e1 _
      subst e1
      cases v <;> rfl
theorem mixKind_int (prog : Program) (w : World) (i : Int) (t : Tok) : (mixKind prog w).is (.inl i) (.int i t) = true := keyIs_int i t
theorem mixKind_str (prog : Program) (w : World) (x : Str) (t : Tok) : (mixKind prog w).is (.inr x) (.str x t) = true := keyIs_str x t
end L2
namespace L2
open PySem PySem.Spec PyProof.Rows
inductive V where
  | non | bl (b : Bool) | int (i : Int) | str (x : Str) | byt (b : Array UInt8) | flt (b : UInt64) | ref (a : Addr) | ty (n : String)
  deriving DecidableEq
noncomputable def RelV : V → Value → Prop
  | .non, u => u = Value.none
  | .bl b, u => u = Value.bool b
  | .int i, u => ∃ t, u = Value.int i t
  | .str x, u => ∃ t, u = Value.str x t
  | .byt b, u => ∃ t, u = Value.bytes b t
  | .flt b, u => ∃ t, u = Value.float b t
  | .ref a, u => u = Value.ref a
  | .ty n, u => u = Value.type n
noncomputable abbrev Vals : List V → List Value → Prop := Paired RelV
theorem Vals.length {xs : List V} {us : List Value} (r : Vals xs us) : xs.length = us.length := Paired.length r
theorem Vals.get : ∀ {xs : List V} {us : List Value} {i : Nat} {x : V}, Vals xs us → xs[i]? = some x → ∃ u, us[i]? = some u ∧ RelV x u
  | _, _, _, _, .nil, e => by simp at e
  | _, _, 0, _, .cons r _, e => by simp at e; subst e; exact ⟨_, rfl, r⟩
  | _, _, i + 1, x, .cons _ t, e => by
    obtain ⟨u, h1, h2⟩ := Vals.get (i := i) (x := x) t (by simpa using e)
    exact ⟨u, by simpa using h1, h2⟩
theorem Vals.set {x : V} {u : Value} (r : RelV x u) : ∀ {xs : List V} {us : List Value} (i : Nat), Vals xs us → Vals (xs.set i x) (us.set i u)
  | _, _, _, .nil => .nil
  | _, _, 0, .cons _ t => .cons r t
  | _, _, i + 1, .cons q t => .cons q (Vals.set r i t)
theorem Vals.append : ∀ {xs ys : List V} {us ws : List Value}, Vals xs us → Vals ys ws → Vals (xs ++ ys) (us ++ ws)
  | _, _, _, _, .nil, s => s
  | _, _, _, _, .cons r t, s => .cons r (Vals.append t s)
theorem Vals.take : ∀ {xs : List V} {us : List Value} (n : Nat), Vals xs us → Vals (xs.take n) (us.take n)
  | _, _, 0, _ => .nil
  | _, _, _ + 1, .nil => .nil
  | _, _, n + 1, .cons r t => .cons r (Vals.take n t)
theorem Vals.drop : ∀ {xs : List V} {us : List Value} (n : Nat), Vals xs us → Vals (xs.drop n) (us.drop n)
  | _, _, 0, r => r
  | _, _, _ + 1, .nil => .nil
  | _, _, n + 1, .cons _ t => Vals.drop n t
theorem Vals.none_of : ∀ {xs : List V} {us : List Value} {i : Nat}, Vals xs us → xs[i]? = none → us[i]? = none := fun {xs us i} r e => by
  have h1 := r.length
  have h2 : xs.length ≤ i := List.getElem?_eq_none_iff.mp e
  exact List.getElem?_eq_none_iff.mpr (by omega)
noncomputable def RelO : Option V → Option Value → Prop
  | some v, some u => RelV v u
  | none, none => True
  | _, _ => False
noncomputable def KV {κ : Type} : List (κ × V) → List (κ × Value) → Prop := Paired fun (p : κ × V) (q : κ × Value) => p.1 = q.1 ∧ RelV p.2 q.2
noncomputable def kV : Key → V
  | .inl i => .int i
  | .inr x => .str x
inductive HO where
  | lst (xs : List V)
  | tup (xs : List V)
  | dK (kvs : List (Key × V)) (ep : Nat) | dT (kvs : List (List Key × V))
  | set (S : Int → Bool) (n : Nat)
  | ins (C dx : Addr) (fs : List (Str × V))
  | own (x : Addr)
  | xd (fs : List (Str × V))
  | met (f x : Addr)
  | rng (lo hi : Int)
  | frz (o : Obj) (u : HO)
  | tbl (ps : Array Value)
  | ext (φ : Heap → Prop)
noncomputable abbrev Hp := Addr → Option HO
noncomputable def upd (H : Hp) (a : Addr) (o : HO) : Hp := fun b => if b = a then some o else H b
theorem upd_same {H : Hp} {a : Addr} {o : HO} : upd H a o a = some o := by unfold upd; rw [if_pos rfl]
theorem upd_ne {H : Hp} {a b : Addr} {o : HO} (h : b ≠ a) : upd H a o b = H b := by unfold upd; rw [if_neg h]
theorem ne_of {H : Hp} {a b : Addr} {o u : HO} (h : H a = some o) (h' : H b = some u) (d : o ≠ u) : a ≠ b := by
  intro e; subst e; rw [h] at h'; exact d (Option.some.inj h')
theorem ne_of_none {H : Hp} {a b : Addr} {o : HO} (h : H a = some o) (h' : H b = none) : a ≠ b := by
  intro e; subst e; rw [h] at h'; cases h'
section
variable (P : Program) (w : World)
noncomputable def ObjOk (H : Hp) (h : Heap) (a : Addr) : HO → Prop
  | .lst xs => xs.length ≤ sizeLine ∧ ∃ (its : List Value) (n : Nat), Vals xs its ∧ h.get? a = some { cls := .type "list", data := .seq its.toArray n }
  | .tup xs => xs.length ≤ sizeLine ∧ ∃ its : List Value, Vals xs its ∧ IsTup h a its.toArray
  | .dK kvs ep => kvs.length ≤ sizeLine ∧ (a == sysModules) = false ∧ ∃ vs, KV kvs vs ∧ h.DictAt (mixKind P w) a vs ep
  | .dT kvs => kvs.length ≤ sizeLine ∧ (a == sysModules) = false ∧ ∃ xs : List (List Key × Addr × Value),
      Paired (fun (p : List Key × V) (q : List Key × Addr × Value) => p.1 = q.1 ∧ H q.2.1 = some (.tup (p.1.map kV)) ∧ RelV p.2 q.2.2) kvs xs ∧
      ∃ o es ep, h.get? a = some o ∧ o.ExactDict ∧ o.data = .dict es ep ∧ es.toList = xs.map (entryOfKey (tupleKind (mixKind P w))) ∧ (xs.map (·.1)).Nodup
  | .set S n => h.SetOf (intKind P w) a S n
  | .ins C dx fs => H dx = some (.own a) ∧ fs.length ≤ 1000 ∧ dx ≠ a ∧ h.get? a = some (PySem.W.instObj C dx) ∧
      ∃ mA, h.Ns1 dx mA ∧ (∀ f, RelO (fs.lookup f) (mA f)) ∧ PySem.Within mA (fs.map (·.1))
  | .own _ => ∃ o, h.get? a = some o
  | .xd fs => ∃ mA, h.Ns1 a mA ∧ ∀ f, RelO (fs.lookup f) (mA f)
  | .rng lo hi => ∃ t u v, h.get? a = some { cls := .type "range", data := .fields #[.int lo t, .int hi u, .int 1 v] }
  | .frz o u => h.get? a = some o ∧ ObjOk H h a u
  | .tbl ps => h.get? a = some { cls := .none, data := .fields ps }
  | .met f x => h.get? a = some (PySem.W.methodObj (.ref f) (.ref x))
  | .ext φ => φ h ∧ (∃ o, h.get? a = some o) ∧ ∀ h1 h2 : Heap, φ h1 → (∀ o, h1.get? a = some o → h2.get? a = some o) → φ h2
noncomputable def HOk (H : Hp) (h : Heap) : Prop := ∀ a o, H a = some o → ObjOk P w H h a o
end
section
variable {P : Program} {w : World} {H H' : Hp} {h h' : Heap} {a : Addr} {o : HO}
theorem ObjOk.lt (x : ObjOk P w H h a o) : a < h.objs.size := by
  cases o with
  | lst xs => obtain ⟨_, _, _, _, e⟩ := x; exact Heap.lt_size e
  | tup xs => obtain ⟨_, _, _, p⟩ := x; exact p.lt
  | dK kvs ep => obtain ⟨_, _, _, _, o, _, e, _⟩ := x; exact Heap.lt_size e
  | dT kvs => obtain ⟨_, _, _, _, o, _, _, e, _⟩ := x; exact Heap.lt_size e
  | set S n => obtain ⟨o, _, _, _, e, _⟩ := x; exact Heap.lt_size e
  | ins C dx fs => obtain ⟨_, _, _, e, _⟩ := x; exact Heap.lt_size e
  | own y => obtain ⟨_, e⟩ := x; exact Heap.lt_size e
  | xd fs => obtain ⟨_, ⟨_, _, _, e, _⟩, _⟩ := x; exact Heap.lt_size e
  | rng lo hi => obtain ⟨_, _, _, e⟩ := x; exact Heap.lt_size e
  | frz ob u => obtain ⟨e, _⟩ := x; exact Heap.lt_size e
  | tbl ps => exact Heap.lt_size (show h.get? a = some _ from x)
  | met f y => exact Heap.lt_size (show h.get? a = some _ from x)
  | ext φ => obtain ⟨_, ⟨_, e⟩, _⟩ := x; exact Heap.lt_size e
theorem Paired.mapP {α β : Type} {F G : α → β → Prop} : ∀ {l₁ : List α} {l₂ : List β}, Paired F l₁ l₂ → (∀ a b, F a b → G a b) → Paired G l₁ l₂
  | _, _, .nil, _ => .nil
  | _, _, .cons r t, f => .cons (f _ _ r) (Paired.mapP t f)
theorem ObjOk.stay (x : ObjOk P w H h a o) (k : ∀ b u, (b = a ∨ H b = some (.own a)) → h.get? b = some u → h'.get? b = some u)
    (ho : ∀ b, H b = some (.own a) → H' b = some (.own a)) (ht : ∀ b xs, H b = some (.tup xs) → H' b = some (.tup xs)) : ObjOk P w H' h' a o := by
  induction o with
  | lst xs => obtain ⟨z, its, n, r, e⟩ := x; exact ⟨z, its, n, r, k _ _ (.inl rfl) e⟩
  | tup xs => obtain ⟨z, its, r, ob, e, c⟩ := x; exact ⟨z, its, r, ob, k _ _ (.inl rfl) e, c⟩
  | dK kvs ep => obtain ⟨z, y, vs, r, ob, es, e, c⟩ := x; exact ⟨z, y, vs, r, ob, es, k _ _ (.inl rfl) e, c⟩
  | dT kvs =>
    obtain ⟨z, y, xs, r, ob, es, ep, e, c⟩ := x
    exact ⟨z, y, xs, Paired.mapP r fun p q z => ⟨z.1, ht _ _ z.2.1, z.2.2⟩, ob, es, ep, k _ _ (.inl rfl) e, c⟩
  | set S n => obtain ⟨ob, es, ep, t, e, c⟩ := x; exact ⟨ob, es, ep, t, k _ _ (.inl rfl) e, c⟩
  | ins C dx fs =>
    obtain ⟨d, z, ne, e, mA, ⟨od, es, ep, e2, c⟩, r⟩ := x
    exact ⟨ho _ d, z, ne, k _ _ (.inl rfl) e, mA, ⟨od, es, ep, k _ _ (.inr d) e2, c⟩, r⟩
  | own y => obtain ⟨ob, e⟩ := x; exact ⟨ob, k _ _ (.inl rfl) e⟩
  | xd fs => obtain ⟨mA, ⟨od, es, ep, e, c⟩, r⟩ := x; exact ⟨mA, ⟨od, es, ep, k _ _ (.inl rfl) e, c⟩, r⟩
  | rng lo hi => obtain ⟨t, u, v, e⟩ := x; exact ⟨t, u, v, k _ _ (.inl rfl) e⟩
  | frz ob u ih => obtain ⟨e, q⟩ := x; exact ⟨k _ _ (.inl rfl) e, ih q⟩
  | tbl ps =>
    have e : h.get? a = some { cls := .none, data := .fields ps } := x
    show h'.get? a = some { cls := .none, data := .fields ps }
    exact k a _ (.inl rfl) e
  | met f y =>
    have e : h.get? a = some (PySem.W.methodObj (.ref f) (.ref y)) := x
    show h'.get? a = some (PySem.W.methodObj (.ref f) (.ref y))
    exact k a _ (.inl rfl) e
  | ext φ => obtain ⟨p, ⟨o, e⟩, st⟩ := x; exact ⟨st _ _ p fun o q => k _ _ (.inl rfl) q, ⟨o, k _ _ (.inl rfl) e⟩, st⟩
theorem HOk.lt (x : HOk P w H h) (e : H a = some o) : a < h.objs.size := (x a o e).lt
theorem HOk.fresh (x : HOk P w H h) (e : h.objs.size ≤ a) : H a = none := by
  cases q : H a with
  | none => rfl
  | some u => exact absurd (Nat.lt_of_lt_of_le (x.lt q) e) (Nat.lt_irrefl _)
theorem HOk.kept (x : HOk P w H h) (k : ∀ b u, h.get? b = some u → h'.get? b = some u) : HOk P w H h' := fun a o e =>
  (x a o e).stay (fun b u _ q => k b u q) (fun _ q => q) fun _ _ q => q
theorem HOk.laid (x : HOk P w H h) (k : ∀ b u, h.get? b = some u → h'.get? b = some u) (hp : h.objs.size ≤ a) (new : ObjOk P w (upd H a o) h' a o) : HOk P w (upd H a o) h' := fun b u e => by
  have hn := x.fresh hp
  by_cases hb : b = a
  · subst hb; rw [upd_same] at e; cases e; exact new
  · rw [upd_ne hb] at e
    exact (x b u e).stay (fun c v _ q => k c v q) (fun c q => by rw [upd_ne (ne_of_none q hn)]; exact q) fun c xs q => by rw [upd_ne (ne_of_none q hn)]; exact q
end
noncomputable def Rd (H : Hp) (a : Addr) (u : HO) : Prop := H a = some u ∨ ∃ o, H a = some (.frz o u)
theorem Rd.of {H : Hp} {a : Addr} {u : HO} (h : H a = some u) : Rd H a u := .inl h
theorem Rd.ok {P : Program} {w : World} {H : Hp} {h : Heap} {a : Addr} {u : HO} (r : Rd H a u) (x : HOk P w H h) : ObjOk P w H h a u := by
  rcases r with r | ⟨o, r⟩
  · exact x a u r
  · obtain ⟨_, q⟩ := x a _ r
    exact q
noncomputable def Mut : Option HO → Prop
  | some (.lst _) => True
  | some (.dK _ _) => True
  | some (.dT _) => True
  | some (.set _ _) => True
  | some (.ins _ _ _) => True
  | some (.ext _) => True
  | _ => False
section
variable {P : Program} {w : World} {H : Hp} {h h' : Heap} {x e : Addr} {o' : HO}
theorem HOk.write (ok : HOk P w H h) (mu : Mut (H x)) (he : e = x ∨ H e = some (.own x)) (k : ∀ b u, b ≠ e → h.get? b = some u → h'.get? b = some u) (heo : ∃ u, h'.get? e = some u)
    (new : ObjOk P w (upd H x o') h' x o') : HOk P w (upd H x o') h' := fun b u q => by
  have nown : ∀ c y, H c = some (.own y) → c ≠ x := fun c y r z => by subst z; rw [r] at mu; exact mu
  have ntup : ∀ c xs, H c = some (.tup xs) → c ≠ x := fun c xs r z => by subst z; rw [r] at mu; exact mu
  by_cases hb : b = x
  · subst hb; rw [upd_same] at q; cases q; exact new
  · rw [upd_ne hb] at q
    by_cases hbe : b = e
    · have q' : H b = some (.own x) := by
        rcases he with z | z
        · exact absurd (hbe.trans z) hb
        · rw [hbe]; exact z
      rw [q] at q'; cases q'
      obtain ⟨v, hv⟩ := heo
      exact ⟨v, by rw [hbe]; exact hv⟩
    · refine (ok b u q).stay (fun c v hc r => k c v ?_ r) (fun c r => by rw [upd_ne (nown c b r)]; exact r) fun c xs r => by rw [upd_ne (ntup c xs r)]; exact r
      rcases hc with rfl | hc
      · exact hbe
      · rintro rfl
        rcases he with z | z
        · exact nown c b hc z
        · rw [hc] at z; cases z; exact hb rfl
end
structure Un (fs ex : List Addr) (H H' : Hp) (h h' : Heap) : Prop where
  keep : ∀ b o, h.get? b = some o → H b = none → b ∉ fs → b ∉ ex → h'.get? b = some o
  slot : ∀ b o, h.get? b = some o → H b = none → b ∈ fs → b ∉ ex → ∃ sl, h'.get? b = some { o with slots := sl }
  free : ∀ b o, h.get? b = some o → H b = none → b ∉ ex → H' b = none
  there : ∀ b o, h.get? b = some o → b ∉ ex → ∃ o', h'.get? b = some o'
  tups : ∀ b xs, H b = some (.tup xs) → H' b = some (.tup xs)
  frzs : ∀ b o u, H b = some (.frz o u) → H' b = some (.frz o u)
  tbls : ∀ b ps, H b = some (.tbl ps) → ∃ more, H' b = some (.tbl (ps ++ more))
section
variable {fs fs' ex ex' : List Addr} {H H1 H2 : Hp} {h h1 h2 h' : Heap} {a x e : Addr} {o : HO}
theorem Un.any (u : Un fs ex H H1 h h1) {b : Addr} {ob : Obj} (q : h.get? b = some ob) (n : H b = none) (hx : b ∉ ex) : ∃ sl, h1.get? b = some { ob with slots := sl } := by
  by_cases hb : b ∈ fs
  · exact u.slot b ob q n hb hx
  · exact ⟨ob.slots, u.keep b ob q n hb hx⟩
theorem Un.trans (a : Un fs ex H H1 h h1) (b : Un fs ex H1 H2 h1 h2) : Un fs ex H H2 h h2 where
  keep := fun c ob q n hc hx => b.keep c ob (a.keep c ob q n hc hx) (a.free c ob q n hx) hc hx
  slot := fun c ob q n hc hx => by
    obtain ⟨sl, e1⟩ := a.slot c ob q n hc hx
    obtain ⟨sl', e2⟩ := b.slot c _ e1 (a.free c ob q n hx) hc hx
    exact ⟨sl', e2⟩
  free := fun c ob q n hx => by
    obtain ⟨o', e1⟩ := a.there c ob q hx
    exact b.free c o' e1 (a.free c ob q n hx) hx
  there := fun c ob q hx => by
    obtain ⟨o', e1⟩ := a.there c ob q hx
    exact b.there c o' e1 hx
  tups := fun c xs q => b.tups c xs (a.tups c xs q)
  frzs := fun c ob xs q => b.frzs c ob xs (a.frzs c ob xs q)
  tbls := fun c ps q => by
    obtain ⟨m1, e1⟩ := a.tbls c ps q
    obtain ⟨m2, e2⟩ := b.tbls c _ e1
    exact ⟨m1 ++ m2, by rw [e2, Array.append_assoc]⟩
theorem Un.kept (k : ∀ b u, h.get? b = some u → h'.get? b = some u) : Un fs ex H H h h' :=
  ⟨fun b ob q _ _ _ => k b ob q, fun b ob q _ _ _ => ⟨ob.slots, k b ob q⟩, fun _ _ _ n _ => n, fun b ob q _ => ⟨ob, k b ob q⟩, fun _ _ q => q, fun _ _ _ q => q, fun _ ps q => ⟨#[], by rw [q]; simp⟩⟩
theorem Un.refl : Un fs ex H H h h := Un.kept fun _ _ q => q
theorem Un.laid (k : ∀ b u, h.get? b = some u → h'.get? b = some u) (hp : h.objs.size ≤ a) (hn : H a = none) : Un fs ex H (upd H a o) h h' where
  keep := fun b u q _ _ _ => k b u q
  slot := fun b u q _ _ _ => ⟨u.slots, k b u q⟩
  free := fun b u q n _ => by rw [upd_ne (Nat.ne_of_lt (Nat.lt_of_lt_of_le (Heap.lt_size q) hp))]; exact n
  there := fun b u q _ => ⟨u, k b u q⟩
  tups := fun b xs q => by rw [upd_ne (ne_of_none q hn)]; exact q
  frzs := fun b u xs q => by rw [upd_ne (ne_of_none q hn)]; exact q
  tbls := fun b ps q => ⟨#[], by rw [upd_ne (ne_of_none q hn), q]; simp⟩
theorem Un.write (mu : Mut (H x)) (he : e = x ∨ H e = some (.own x)) (k : ∀ b u, b ≠ e → h.get? b = some u → h'.get? b = some u) (heo : ∃ u, h'.get? e = some u) : Un fs ex H (upd H x o) h h' := by
  have hx : ∀ b, H b = none → b ≠ x := fun b n z => by subst z; rw [n] at mu; exact mu
  have hb : ∀ b, H b = none → b ≠ e := fun b n z => by
    subst z
    rcases he with r | r
    · exact hx b n r
    · rw [n] at r; cases r
  have hm : ∀ b u, H b = some u → ¬ Mut (some u) → b ≠ x := fun b u q nm z => by subst z; rw [q] at mu; exact nm mu
  refine ⟨fun b u q n _ _ => k b u (hb b n) q, fun b u q n _ _ => ⟨u.slots, k b u (hb b n) q⟩, fun b u q n _ => by rw [upd_ne (hx b n)]; exact n, fun b u q _ => ?_,
    fun b xs q => by rw [upd_ne (hm b _ q fun z => z)]; exact q, fun b u xs q => by rw [upd_ne (hm b _ q fun z => z)]; exact q, fun b ps q => ⟨#[], by rw [upd_ne (hm b _ q fun z => z), q]; simp⟩⟩
  by_cases hbe : b = e
  · subst hbe; exact heo
  · exact ⟨u, k b u hbe q⟩
theorem Un.mono (u : Un fs ex H H1 h h1) (hs : ∀ b ∈ fs, b ∈ fs') (hx : ∀ b ∈ ex, b ∈ ex') : Un fs' ex' H H1 h h1 :=
  ⟨fun b ob q n hb he => u.keep b ob q n (fun z => hb (hs b z)) fun z => he (hx b z), fun _ _ q n _ he => u.any q n fun z => he (hx _ z), fun b ob q n he => u.free b ob q n fun z => he (hx b z), fun b ob q he => u.there b ob q fun z => he (hx b z), u.tups, u.frzs, u.tbls⟩
end
noncomputable def trk (h : Heap) (H : Hp) : List Addr := (List.range h.objs.size).filter fun a => (H a).isSome
noncomputable def hidT (h : Heap) (H : Hp) : Heap := PySem.W.hideAll h (trk h H)
theorem hidT_size (h : Heap) (H : Hp) : (hidT h H).objs.size = h.objs.size := PySem.W.hideAll_size _ _
theorem hidT_get {h : Heap} {H : Hp} {b : Addr} {o : Obj} (e : h.get? b = some o) (n : H b = none) : (hidT h H).get? b = some o :=
  PySem.W.hideAll_get _ e fun hm => by
    have q : (H b).isSome = true := (List.mem_filter.mp hm).2
    rw [n] at q; simp at q
theorem of_hidT {h : Heap} {H : Hp} {b : Addr} {o : Obj} (e : (hidT h H).get? b = some o) : h.get? b = some o ∧ H b = none := by
  have e' : h.get? b = some o := PySem.W.of_hideAll (trk h H) e
  refine ⟨e', ?_⟩
  cases q : H b with
  | none => rfl
  | some x =>
    have hm : b ∈ trk h H := List.mem_filter.mpr ⟨List.mem_range.mpr (Heap.lt_size e'), by simp [q]⟩
    have z : (hidT h H).get? b = none := PySem.W.hideAll_none (trk h H) hm
    rw [z] at e; cases e
noncomputable def allNews (g h : Heap) (L : Addr) : List (Addr × Obj) := (List.range h.objs.size).filterMap fun a => if a = L ∨ (g.get? a).isSome = true then none else (h.get? a).map fun o => (a, o)
noncomputable def rest (g h : Heap) (L d : Addr) : List (Addr × Obj) := (allNews g h L).filter fun p => decide (p.1 ≠ d)
end L2
namespace L2
open PySem PySem.Spec PyProof.Rows
structure Mod (K : PySem.W.Frag) (mg : Str → Option Value) (base : Heap) : Prop where
  kin : K.In base
  glob : base.Ns mainGlobals mg
  blt : ∃ mb, base.Ns builtinsNs mb ∧ ∀ x : Str, x ≠ "__name__" → mb x = bootBuiltins x
  nolimit : base.NoLimit
structure Cx where
  prog : Program
  w : World
  K : PySem.W.Frag
  mg : Str → Option Value
  base : Heap
  A : Around
  N : List Str
  s₀ : Shared
  H₀ : Hp
  env : Env
  outer : List Env
  stack : List Env
  ex : List Addr
  fn : Str → Bool
  calm : Bool
  pn : List (Addr × Obj)
  xe : Value → Shared → Prop
noncomputable def frs (l : List Env) : List Addr := l.filterMap (·.frame)
noncomputable abbrev Cx.fs (X : Cx) : List Addr := frs X.outer
noncomputable def Vis (sc : Scope) (x : Str) : Prop := sc.names.lookup x = some .local ∨ sc.names.lookup x = some .cell ∨ sc.names.lookup x = some .free
noncomputable def Loc (sc : Scope) (x : Str) : Prop := sc.names.lookup x = some .local ∨ sc.names.lookup x = some .cell
noncomputable def Look (env : Env) (h : Heap) (m : Str → Option Value) (x : Str) (u : Value) : Prop :=
  (env.kindOf x = some .local ∧ m x = some u) ∨ ((env.kindOf x = some .cell ∨ env.kindOf x = some .free) ∧ ∃ c, env.cells.lookup x = some c ∧ h.IsCell c (some u))
structure Cx.Ok (X : Cx) : Prop where
  mod : Mod X.K X.mg X.base
  kind : X.env.scope.kind = .function
  glob : X.env.globals = mainGlobals
  blt : X.env.builtins = builtinsNs
  above : X.s₀.heap.objs.size ≤ X.env.locals
  inj : ∀ x y c, X.env.cells.lookup x = some c → X.env.cells.lookup y = some c → x = y
  has : ∀ x, (X.env.kindOf x = some .cell ∨ X.env.kindOf x = some .free) → ∃ c, X.env.cells.lookup x = some c
  cab : ∀ x c, X.fn x = true → X.env.cells.lookup x = some c → X.s₀.heap.objs.size ≤ c
  hd : X.calm = true → X.A.handled = none
  frames : X.A.frames = some X.stack
  stk : X.stack = X.outer ∨ (X.stack = X.env :: X.outer ∧ X.env.frame = some X.env.locals)
  exf : ∀ b ∈ X.ex, b ≠ X.env.locals ∧ ∀ x c, X.env.cells.lookup x = some c → c ≠ b
  bs : ∀ b o, X.base.get? b = some o → X.s₀.heap.get? b = some o ∧ X.H₀ b = none
  bsz : X.base.objs.size ≤ X.s₀.heap.objs.size
  noex : ∀ b o, X.base.get? b = some o → b ∉ X.ex
  exfs : ∀ b ∈ X.ex, b ∉ X.fs
  funs : X.s₀.heap.FunFrames X.base X.outer
  frf : ∀ b ∈ X.fs, X.H₀ b = none
structure Inv (X : Cx) (pins : List (Addr × Obj)) (σ : List (Option V)) (H : Hp) (s : Shared) : Prop where
  ok : X.Ok
  os : s.os = X.s₀.os
  bare : AllBare s.gens
  base : Un X.fs X.ex X.H₀ H X.s₀.heap s.heap
  loc : ∃ m, s.heap.Ns X.env.locals m ∧ ∀ (i : Nat) (x : Str) (v : V), X.N[i]? = some x → σ[i]? = some (some v) → Vis X.env.scope x → ∃ u, RelV v u ∧ Look X.env s.heap m x u
  cell : ∀ x c, X.env.cells.lookup x = some c → ∃ v, s.heap.IsCell c v
  free : H X.env.locals = none
  freeC : ∀ x c, X.env.cells.lookup x = some c → H c = none
  pin : ∀ p ∈ X.pn ++ pins, s.heap.get? p.1 = some p.2 ∧ H p.1 = none ∧ p.1 ≠ X.env.locals ∧ p.1 ∉ X.fs ∧ ∀ v, p.2.data ≠ .cell v
  hok : HOk X.prog X.w H s.heap
  len : σ.length = X.N.length
section
variable {X : Cx} {pins : List (Addr × Obj)} {σ : List (Option V)} {H H' : Hp} {s : Shared} {h' : Heap}
theorem Cx.Ok.nofr (ok : X.Ok) {b : Addr} {o : Obj} (e : X.base.get? b = some o) : b ∉ X.fs := fun hb => by
  have := (ok.funs.mem hb).1
  rw [e] at this; cases this
theorem Inv.bs (I : Inv X pins σ H s) : ∀ b o, X.base.get? b = some o → s.heap.get? b = some o ∧ H b = none := fun b o e =>
  ⟨I.base.keep b o (I.ok.bs b o e).1 (I.ok.bs b o e).2 (I.ok.nofr e) (I.ok.noex b o e), I.base.free b o (I.ok.bs b o e).1 (I.ok.bs b o e).2 (I.ok.noex b o e)⟩
theorem Inv.bk (I : Inv X pins σ H s) : ∀ b o, X.base.get? b = some o → s.heap.get? b = some o := fun b o e => (I.bs b o e).1
theorem Inv.mod (I : Inv X pins σ H s) : Mod X.K X.mg X.base := I.ok.mod
theorem Inv.kIn (I : Inv X pins σ H s) : X.K.In s.heap := I.ok.mod.kin.keeps I.bk
theorem Inv.nolimit (I : Inv X pins σ H s) : s.heap.NoLimit := I.ok.mod.nolimit.keeps I.bk
theorem Inv.fr (I : Inv X pins σ H s) : ∃ m, Fr X.base X.env.locals s.heap m :=
  let ⟨m, hn, _⟩ := I.loc
  ⟨m, hn, I.bk, Nat.le_trans I.ok.bsz I.ok.above⟩
theorem Inv.lt (I : Inv X pins σ H s) : X.env.locals < s.heap.objs.size := let ⟨_, hn, _⟩ := I.loc; hn.lt
theorem Inv.sz (I : Inv X pins σ H s) : X.s₀.heap.objs.size ≤ s.heap.objs.size := Nat.le_trans I.ok.above (Nat.le_of_lt I.lt)
theorem Inv.nofs (I : Inv X pins σ H s) {a : Addr} (h : s.heap.objs.size ≤ a) : a ∉ X.fs := fun hb => by
  obtain ⟨_, o, ho, _⟩ := I.ok.funs.mem hb
  exact absurd (Nat.lt_of_lt_of_le (Heap.lt_size ho) (Nat.le_trans I.sz h)) (Nat.lt_irrefl _)
theorem Inv.cne (I : Inv X pins σ H s) : ∀ x c, X.env.cells.lookup x = some c → c ≠ X.env.locals := fun x c e z => by
  obtain ⟨v, o, ho, hd⟩ := I.cell x c e
  obtain ⟨m, ⟨o', es, ep, ho', hd', _⟩, _⟩ := I.loc
  rw [z, ho'] at ho; cases ho; rw [hd'] at hd; cases hd
theorem Inv.funs (I : Inv X pins σ H s) : s.heap.FunFrames X.base X.outer := by
  have all : ∀ (l : List Env), (∀ b ∈ frs l, b ∈ X.fs) → X.s₀.heap.FunFrames X.base l → s.heap.FunFrames X.base l := by
    intro l
    induction l with
    | nil => intro _ _; trivial
    | cons env r ih =>
      intro hs hl
      obtain ⟨hk, ⟨L, o, hf, hn, ho, hd⟩, hr⟩ := hl
      have hL : L ∈ X.fs := hs L (by unfold frs; rw [List.filterMap_cons, hf]; exact List.mem_cons_self)
      obtain ⟨sl, e⟩ := I.base.slot L o ho (I.ok.frf L hL) hL fun z => I.ok.exfs L z hL
      exact ⟨hk, ⟨L, _, hf, hn, e, hd⟩, ih (fun b hb => hs b (by unfold frs; rw [List.filterMap_cons, hf]; exact List.mem_cons_of_mem _ hb)) hr⟩
  exact all X.outer (fun _ hb => hb) I.ok.funs
theorem Inv.stack (I : Inv X pins σ H s) : s.heap.FunFrames X.base X.stack := by
  rcases I.ok.stk with e | ⟨e, hf⟩
  · rw [e]; exact I.funs
  · rw [e]
    obtain ⟨m, hn, _⟩ := I.loc
    refine .cons (by rw [I.ok.kind]; decide) hf hn ?_ I.funs
    exact Heap.get?_none_of_le (Nat.le_trans I.ok.bsz I.ok.above)
theorem Inv.stkSub (I : Inv X pins σ H s) : ∀ b ∈ frs X.stack, b ∈ X.env.locals :: X.fs := fun b hb => by
  rcases I.ok.stk with e | ⟨e, hf⟩
  · rw [e] at hb; exact List.mem_cons_of_mem _ hb
  · rw [e] at hb
    unfold frs at hb
    rw [List.filterMap_cons, hf] at hb
    exact hb
theorem Inv.stkFree (I : Inv X pins σ H s) : ∀ b ∈ frs X.stack, H b = none := fun b hb => by
  rcases List.mem_cons.mp (I.stkSub b hb) with e | hb
  · rw [e]; exact I.free
  · obtain ⟨_, o, ho, _⟩ := I.ok.funs.mem hb
    exact I.base.free b o ho (I.ok.frf b hb) fun z => I.ok.exfs b z hb
theorem Inv.step {g' : Array GenState} {t' : Nat} {d' : Drawn} {ch : List Addr} (I : Inv X pins σ H s)
    (hch : ∀ b ∈ ch, (b ∈ X.ex ∨ X.s₀.heap.objs.size ≤ b) ∧ b ≠ X.env.locals ∧ (∀ x c, X.env.cells.lookup x = some c → c ≠ b) ∧ ∀ p ∈ X.pn ++ pins, p.1 ≠ b)
    (keep : ∀ b o, b ≠ X.env.locals → b ∉ X.fs → b ∉ ch → s.heap.get? b = some o → H b = none → h'.get? b = some o)
    (slot : ∀ b o, b ≠ X.env.locals → b ∈ X.fs → b ∉ ch → s.heap.get? b = some o → H b = none → ∃ sl, h'.get? b = some { o with slots := sl }) (free : ∀ b o, b ∉ ch → s.heap.get? b = some o → H b = none → H' b = none)
    (there : ∀ b o, b ∉ ch → s.heap.get? b = some o → ∃ o', h'.get? b = some o')
    (tups : ∀ b xs, H b = some (.tup xs) → H' b = some (.tup xs)) (frzs : ∀ b o u, H b = some (.frz o u) → H' b = some (.frz o u)) (tbls : ∀ b ps, H b = some (.tbl ps) → ∃ more, H' b = some (.tbl (ps ++ more)))
    (ns : ∀ m, s.heap.Ns X.env.locals m → h'.Ns X.env.locals m) (hok : HOk X.prog X.w H' h') (hg : AllBare g') :
    Inv X pins σ H' { s with heap := h', gens := g', drawn := d', toks := t' } := by
  have neL : ∀ b o, X.s₀.heap.get? b = some o → b ≠ X.env.locals := fun b o e => Nat.ne_of_lt (Nat.lt_of_lt_of_le (Heap.lt_size e) I.ok.above)
  have neC : ∀ b o, X.s₀.heap.get? b = some o → b ∉ X.ex → b ∉ ch := fun b o e hx hb => by
    rcases (hch b hb).1 with z | z
    · exact hx z
    · exact absurd (Nat.lt_of_lt_of_le (Heap.lt_size e) z) (Nat.lt_irrefl _)
  have cellK : ∀ x c, X.env.cells.lookup x = some c → ∀ v, s.heap.IsCell c v → h'.IsCell c v := fun x c e v ⟨o, ho, hd⟩ => by
    have nch : c ∉ ch := fun z => (hch c z).2.2.1 x c e rfl
    by_cases hc : c ∈ X.fs
    · obtain ⟨sl, q⟩ := slot c o (I.cne x c e) hc nch ho (I.freeC x c e)
      exact ⟨_, q, hd⟩
    · exact ⟨o, keep c o (I.cne x c e) hc nch ho (I.freeC x c e), hd⟩
  refine ⟨I.ok, I.os, hg, ⟨fun b o e n hb hx => ?_, fun b o e n hb hx => ?_, fun b o e n hx => ?_, fun b o e hx => ?_, fun b xs e => tups b xs (I.base.tups b xs e), fun b o xs e => frzs b o xs (I.base.frzs b o xs e), fun b ps e => ?_⟩, ?_, fun x c e => ?_, ?_, fun x c e => ?_, fun p hp => ?_, hok, I.len⟩
  · exact keep b o (neL b o e) hb (neC b o e hx) (I.base.keep b o e n hb hx) (I.base.free b o e n hx)
  · obtain ⟨sl, e1⟩ := I.base.slot b o e n hb hx
    obtain ⟨sl', e2⟩ := slot b _ (neL b o e) hb (neC b o e hx) e1 (I.base.free b o e n hx)
    exact ⟨sl', e2⟩
  · obtain ⟨o', e1⟩ := I.base.there b o e hx
    exact free b o' (neC b o e hx) e1 (I.base.free b o e n hx)
  · obtain ⟨o', e1⟩ := I.base.there b o e hx
    exact there b o' (neC b o e hx) e1
  · obtain ⟨m1, e1⟩ := I.base.tbls b ps e
    obtain ⟨m2, e2⟩ := tbls b _ e1
    exact ⟨m1 ++ m2, by rw [e2, Array.append_assoc]⟩
  · obtain ⟨m, hn, hl⟩ := I.loc
    refine ⟨m, ns m hn, fun i x v e1 e2 e3 => ?_⟩
    obtain ⟨u, r, l⟩ := hl i x v e1 e2 e3
    refine ⟨u, r, ?_⟩
    rcases l with l | ⟨k, c, e, z⟩
    · exact .inl l
    · exact .inr ⟨k, c, e, cellK x c e _ z⟩
  · obtain ⟨v, z⟩ := I.cell x c e
    exact ⟨v, cellK x c e v z⟩
  · obtain ⟨m, ⟨o, _, _, ho, _⟩, _⟩ := I.loc
    exact free _ o (fun z => (hch _ z).2.1 rfl) ho I.free
  · obtain ⟨v, o, ho, hd⟩ := I.cell x c e
    exact free c o (fun z => (hch c z).2.2.1 x c e rfl) ho (I.freeC x c e)
  · obtain ⟨e, n, ne, nf, d⟩ := I.pin p hp
    have nch : p.1 ∉ ch := fun z => (hch p.1 z).2.2.2 p hp rfl
    exact ⟨keep p.1 p.2 ne nf nch e n, free p.1 p.2 nch e n, ne, nf, d⟩
theorem Inv.un {t' : Nat} (I : Inv X pins σ H s) (u : Un X.fs [] H H' s.heap h') (hok : HOk X.prog X.w H' h') : Inv X pins σ H' { s with heap := h', toks := t' } := by
  obtain ⟨m, ⟨o, es, ep, ho, r⟩, _⟩ := id I.loc
  obtain ⟨sl, hL⟩ := u.any ho I.free (by simp)
  exact I.step (g' := s.gens) (d' := s.drawn) (ch := []) (fun _ z => nomatch z) (fun b o _ hb _ e n => u.keep b o e n hb (by simp)) (fun b o _ hb _ e n => u.slot b o e n hb (by simp)) (fun b o _ e n => u.free b o e n (by simp)) (fun b o _ e => u.there b o e (by simp)) u.tups u.frzs u.tbls (fun m' hm => by
    obtain ⟨o', es', ep', ho', r'⟩ := hm
    rw [ho] at ho'; cases ho'
    exact ⟨_, es', ep', hL, r'⟩) hok I.bare
theorem Inv.call {g' : Array GenState} {t' : Nat} {d' : Drawn} {ch : List Addr} (I : Inv X pins σ H s) (u : Un (frs X.stack) ch H H' s.heap h') (hok : HOk X.prog X.w H' h') (hg : AllBare g')
    (hch : ∀ b ∈ ch, (b ∈ X.ex ∨ X.s₀.heap.objs.size ≤ b) ∧ b ≠ X.env.locals ∧ (∀ x c, X.env.cells.lookup x = some c → c ≠ b) ∧ ∀ p ∈ X.pn ++ pins, p.1 ≠ b) :
    Inv X pins σ H' { s with heap := h', gens := g', drawn := d', toks := t' } := by
  obtain ⟨m, ⟨o, es, ep, ho, r⟩, _⟩ := id I.loc
  obtain ⟨sl, hL⟩ := u.any ho I.free fun z => (hch _ z).2.1 rfl
  exact I.step (ch := ch) hch (fun b o hL hb hc e n => u.keep b o e n (fun z => (List.mem_cons.mp (I.stkSub b z)).elim hL hb) hc) (fun b o _ _ hc e n => u.any e n hc) (fun b o hc e n => u.free b o e n hc) (fun b o hc e => u.there b o e hc) u.tups u.frzs u.tbls (fun m' hm => by
    obtain ⟨o', es', ep', ho', r'⟩ := hm
    rw [ho] at ho'; cases ho'
    exact ⟨_, es', ep', hL, r'⟩) hok hg
theorem Inv.turned {t' : Nat} {it : Addr} (I : Inv X pins σ H s) (k : ∀ b o, b ≠ it → s.heap.get? b = some o → h'.get? b = some o) (hn : H it = none) (hL : it ≠ X.env.locals)
    (h1 : it ∈ X.ex ∨ X.s₀.heap.objs.size ≤ it) (h2 : ∀ x c, X.env.cells.lookup x = some c → c ≠ it) (h3 : ∀ p ∈ X.pn ++ pins, p.1 ≠ it) : Inv X pins σ H { s with heap := h', toks := t' } := by
  have nit : ∀ b u, H b = some u → b ≠ it := fun b u e z => by rw [z, hn] at e; cases e
  refine I.step (g' := s.gens) (d' := s.drawn) (ch := [it]) (fun b hb => ?_) (fun b o _ _ hc e _ => k b o (fun z => hc (by simp [z])) e) (fun b o _ _ hc e _ => ⟨o.slots, k b o (fun z => hc (by simp [z])) e⟩) (fun _ _ _ _ n => n)
    (fun b o hc e => ⟨o, k b o (fun z => hc (by simp [z])) e⟩) (fun _ _ e => e) (fun _ _ _ e => e) (fun b ps e => ⟨#[], by rw [e]; simp⟩) (fun m hm => ?_) (fun b u e => ?_) I.bare
  · have e : b = it := by simpa using hb
    subst e
    exact ⟨h1, hL, h2, h3⟩
  · obtain ⟨o, es, ep, ho, r⟩ := hm
    exact ⟨o, es, ep, k _ o (Ne.symm hL) ho, r⟩
  · refine (I.hok b u e).stay (fun c v hc q => k c v ?_ q) (fun _ q => q) fun _ _ q => q
    rcases hc with z | z
    · rw [z]; exact nit b u e
    · exact nit c _ z
theorem Inv.tok (I : Inv X pins σ H s) (t : Nat) : Inv X pins σ H { s with toks := t } := I.un (h' := s.heap) (t' := t) Un.refl I.hok
theorem Inv.kept {t' : Nat} (I : Inv X pins σ H s) (k : ∀ b u, s.heap.get? b = some u → h'.get? b = some u) : Inv X pins σ H { s with heap := h', toks := t' } := I.un (Un.kept k) (I.hok.kept k)
theorem Inv.laid {a : Addr} {o : HO} {t' : Nat} (I : Inv X pins σ H s) (k : ∀ b u, s.heap.get? b = some u → h'.get? b = some u) (hp : s.heap.objs.size ≤ a) (new : ObjOk X.prog X.w (upd H a o) h' a o) :
    Inv X pins σ (upd H a o) { s with heap := h', toks := t' } := I.un (Un.laid k hp (I.hok.fresh hp)) (I.hok.laid k hp new)
theorem Inv.write {x e : Addr} {o : HO} {t' : Nat} (I : Inv X pins σ H s) (mu : Mut (H x)) (he : e = x ∨ H e = some (.own x)) (k : ∀ b u, b ≠ e → s.heap.get? b = some u → h'.get? b = some u) (heo : ∃ u, h'.get? e = some u)
    (new : ObjOk X.prog X.w (upd H x o) h' x o) : Inv X pins σ (upd H x o) { s with heap := h', toks := t' } := I.un (Un.write mu he k heo) (I.hok.write mu he k heo new)
theorem Inv.weak {σ' : List (Option V)} (I : Inv X pins σ H s) (hl : σ'.length = σ.length) (w : ∀ (i : Nat) v, σ'[i]? = some (some v) → σ[i]? = some (some v)) : Inv X pins σ' H s :=
  ⟨I.ok, I.os, I.bare, I.base, let ⟨m, hn, hl'⟩ := I.loc; ⟨m, hn, fun i x v e1 e2 e3 => hl' i x v e1 (w i v e2) e3⟩, I.cell, I.free, I.freeC, I.pin, I.hok, hl.trans I.len⟩
theorem Inv.pins_of {pins' : List (Addr × Obj)} (I : Inv X pins σ H s) (h : ∀ p ∈ pins', s.heap.get? p.1 = some p.2 ∧ H p.1 = none ∧ p.1 ≠ X.env.locals ∧ p.1 ∉ X.fs ∧ ∀ v, p.2.data ≠ .cell v) : Inv X pins' σ H s :=
  ⟨I.ok, I.os, I.bare, I.base, I.loc, I.cell, I.free, I.freeC, fun p hp => (List.mem_append.mp hp).elim (fun z => I.pin p (List.mem_append_left _ z)) (h p), I.hok, I.len⟩
theorem nodup_ix {N : List Str} (hN : N.Nodup) {i j : Nat} {x : Str} (a : N[i]? = some x) (b : N[j]? = some x) : i = j := by
  obtain ⟨h1, e1⟩ := List.getElem?_eq_some_iff.mp a
  obtain ⟨h2, e2⟩ := List.getElem?_eq_some_iff.mp b
  exact (List.getElem_inj hN).mp (e1.trans e2.symm)
theorem store_ok2 {M : Model} {A : Around} {E : Value → Shared → Prop} {i : Nat} {x : Str} {v : V} {u : Value} {Q : Unit → Shared → Prop} (I : Inv X pins σ H s) (hN : X.N.Nodup) (hi : X.N[i]? = some x) (hx : Loc X.env.scope x) (r : RelV v u)
    (h : ∀ s', Inv X pins (σ.set i (some v)) H s' → (∃ a, Heap.SameBut a s.heap s'.heap ∧ (a = X.env.locals ∨ X.env.cells.lookup x = some a)) → Q () s') (hf : X.fn x = true ∨ X.env.scope.names.lookup x = some .local := by first | exact .inl rfl | exact .inr rfl | assumption) : wpAny M A (storeName X.env x u) Q E s := by
  obtain ⟨m, hn, hl⟩ := id I.loc
  have hcls : (X.env.scope.kind == .class || (X.env.scope.kind == .module && X.env.locals != X.env.globals)) = false := by rw [I.ok.kind]; rfl
  have hiσ : i < σ.length := by rw [I.len]; exact (List.getElem?_eq_some_iff.mp hi).1
  have cne := I.cne
  have tracked : ∀ {a : Addr} {h' : Heap}, (∃ o, s.heap.get? a = some o ∧ H a = none) → Heap.SameBut a s.heap h' → HOk X.prog X.w H h' := fun {a h'} ha hs b ob e => by
    obtain ⟨_, _, hfree⟩ := ha
    refine (I.hok b ob e).stay (fun c w' hc q => (hs.2 c ?_).trans q) (fun _ q => q) fun _ _ q => q
    rintro rfl
    rcases hc with rfl | hc
    · rw [hfree] at e; cases e
    · rw [hfree] at hc; cases hc
  rcases hx with hk | hk
  · refine wpAny_storeName_local hk hn (fun h' hn' hs => ?_) hcls
    obtain ⟨oL, _, _, hoL, _⟩ := id hn
    refine h _ ⟨I.ok, I.os, I.bare, ⟨fun b o e n hb hx => ?_, fun b o e n hb hx => ?_, I.base.free, fun b o e hx => ?_, I.base.tups, I.base.frzs, I.base.tbls⟩, ⟨_, hn', fun j y v' e1 e2 e3 => ?_⟩, fun y c e => ?_, I.free, I.freeC, fun p hp => ?_, tracked ⟨oL, hoL, I.free⟩ hs, by simpa using I.len⟩ ⟨_, hs, .inl rfl⟩
    · exact (hs.2 b (Nat.ne_of_lt (Nat.lt_of_lt_of_le (Heap.lt_size e) I.ok.above))).trans (I.base.keep b o e n hb hx)
    · obtain ⟨sl, e1⟩ := I.base.slot b o e n hb hx
      exact ⟨sl, (hs.2 b (Nat.ne_of_lt (Nat.lt_of_lt_of_le (Heap.lt_size e) I.ok.above))).trans e1⟩
    · obtain ⟨o', e1⟩ := I.base.there b o e hx
      exact ⟨o', (hs.2 b (Nat.ne_of_lt (Nat.lt_of_lt_of_le (Heap.lt_size e) I.ok.above))).trans e1⟩
    · by_cases hj : j = i
      · subst hj
        rw [hi] at e1; cases e1
        rw [List.getElem?_set_self hiσ] at e2
        cases e2
        exact ⟨u, r, .inl ⟨hk, by simp⟩⟩
      · rw [List.getElem?_set_ne (Ne.symm hj)] at e2
        obtain ⟨u', r', q⟩ := hl j y v' e1 e2 e3
        refine ⟨u', r', ?_⟩
        rcases q with ⟨k, e⟩ | ⟨k, c, e, z⟩
        · refine .inl ⟨k, ?_⟩
          have : y ≠ x := fun e => hj (nodup_ix hN e1 (e ▸ hi))
          simp [this, e]
        · exact .inr ⟨k, c, e, z.sameBut hs (cne y c e)⟩
    · obtain ⟨w', z⟩ := I.cell y c e
      exact ⟨w', z.sameBut hs (cne y c e)⟩
    · obtain ⟨e, n, ne, nf, d⟩ := I.pin p hp
      exact ⟨(hs.2 p.1 ne).trans e, n, ne, nf, d⟩
  · have hfn : X.fn x = true := by
      rcases hf with z | z
      · exact z
      · rw [z] at hk; cases hk
    obtain ⟨c, hc⟩ := I.ok.has x (.inl hk)
    obtain ⟨w', z⟩ := I.cell x c hc
    refine wpAny_storeName_cell I.ok.kind hk hc z (fun h' hc' hs => ?_)
    obtain ⟨oc, hoc, hocd⟩ := id z
    refine h { s with heap := h' } ⟨I.ok, I.os, I.bare, ⟨fun b o e n hb hx => ?_, fun b o e n hb hx => ?_, I.base.free, fun b o e hx => ?_, I.base.tups, I.base.frzs, I.base.tbls⟩, ⟨m, hn.sameBut hs (Ne.symm (cne x c hc)), fun j y v' e1 e2 e3 => ?_⟩, fun y c' e => ?_, I.free, I.freeC, fun p hp => ?_, tracked ⟨oc, hoc, I.freeC x c hc⟩ hs, by simpa using I.len⟩ ⟨c, hs, .inr hc⟩
    · exact (hs.2 b (Nat.ne_of_lt (Nat.lt_of_lt_of_le (Heap.lt_size e) (I.ok.cab x c hfn hc)))).trans (I.base.keep b o e n hb hx)
    · obtain ⟨sl, e1⟩ := I.base.slot b o e n hb hx
      exact ⟨sl, (hs.2 b (Nat.ne_of_lt (Nat.lt_of_lt_of_le (Heap.lt_size e) (I.ok.cab x c hfn hc)))).trans e1⟩
    · obtain ⟨o', e1⟩ := I.base.there b o e hx
      exact ⟨o', (hs.2 b (Nat.ne_of_lt (Nat.lt_of_lt_of_le (Heap.lt_size e) (I.ok.cab x c hfn hc)))).trans e1⟩
    · by_cases hj : j = i
      · subst hj
        rw [hi] at e1; cases e1
        rw [List.getElem?_set_self hiσ] at e2
        cases e2
        exact ⟨u, r, .inr ⟨.inl hk, c, hc, hc'⟩⟩
      · rw [List.getElem?_set_ne (Ne.symm hj)] at e2
        obtain ⟨u', r', q⟩ := hl j y v' e1 e2 e3
        refine ⟨u', r', ?_⟩
        rcases q with q | ⟨k, c', e, z'⟩
        · exact .inl q
        · refine .inr ⟨k, c', e, z'.sameBut hs ?_⟩
          rintro rfl
          exact hj (nodup_ix hN e1 (I.ok.inj _ _ _ e hc ▸ hi))
    · by_cases hcc : c' = c
      · subst hcc; exact ⟨_, hc'⟩
      · obtain ⟨w2, z2⟩ := I.cell y c' e
        exact ⟨w2, z2.sameBut hs hcc⟩
    · obtain ⟨e, n, ne, nf, d⟩ := I.pin p hp
      refine ⟨(hs.2 p.1 ?_).trans e, n, ne, nf, d⟩
      intro q
      rw [q, hoc] at e
      have q' : oc = p.2 := Option.some.inj e
      exact d w' (by rw [← q']; exact hocd)
theorem store_ok {M : Model} {A : Around} {E : Value → Shared → Prop} {i : Nat} {x : Str} {v : V} {u : Value} {Q : Unit → Shared → Prop} (I : Inv X pins σ H s) (hN : X.N.Nodup) (hi : X.N[i]? = some x) (hx : Loc X.env.scope x) (r : RelV v u)
    (h : ∀ s', Inv X pins (σ.set i (some v)) H s' → Q () s') (hf : X.fn x = true ∨ X.env.scope.names.lookup x = some .local := by first | exact .inl rfl | exact .inr rfl | assumption) : wpAny M A (storeName X.env x u) Q E s :=
  store_ok2 I hN hi hx r (fun s' I' _ => h s' I') hf
theorem Inv.call' {s' : Shared} {ch : List Addr} (I : Inv X pins σ H s) (ho : s'.os = s.os) (u : Un (frs X.stack) ch H H' s.heap s'.heap) (hok : HOk X.prog X.w H' s'.heap) (hg : AllBare s'.gens)
    (hch : ∀ b ∈ ch, (b ∈ X.ex ∨ X.s₀.heap.objs.size ≤ b) ∧ b ≠ X.env.locals ∧ (∀ x c, X.env.cells.lookup x = some c → c ≠ b) ∧ ∀ p ∈ X.pn ++ pins, p.1 ≠ b) : Inv X pins σ H' s' := by
  obtain ⟨h', g', d', t', o'⟩ := s'
  have e : o' = s.os := ho
  subst e
  exact I.call (g' := g') (t' := t') (d' := d') u hok hg hch
end
noncomputable abbrev XK := Value → Option Addr → Hp → Prop
noncomputable abbrev St := List (Option V)
noncomputable abbrev VK := V → Hp → Prop
noncomputable abbrev TE := St → Hp → VK → Prop
noncomputable abbrev TT := St → Hp → (Bool → Hp → Prop) → Prop
noncomputable abbrev TA := St → Hp → (List V → Hp → Prop) → Prop
structure Ends where
  nx : St → Hp → Prop
  rt : VK
  bk : St → Hp → Prop := fun _ _ => False
  ct : St → Hp → Prop := fun _ _ => False
noncomputable abbrev TS := Ends → St → Hp → Prop
noncomputable def EP (X : Cx) (pins : List (Addr × Obj)) (σ : St) (Q : VK) (u : Value) (s' : Shared) : Prop := ∃ v H', Inv X pins σ H' s' ∧ RelV v u ∧ Q v H'
noncomputable def TP (X : Cx) (pins : List (Addr × Obj)) (σ : St) (Q : Bool → Hp → Prop) (b : Bool) (s' : Shared) : Prop := ∃ H', Inv X pins σ H' s' ∧ Q b H'
noncomputable def AP (X : Cx) (pins : List (Addr × Obj)) (σ : St) (Q : List V → Hp → Prop) (us : List Value) (s' : Shared) : Prop := ∃ vs H', Inv X pins σ H' s' ∧ Vals vs us ∧ Q vs H'
noncomputable def SP (X : Cx) (pins : List (Addr × Obj)) (D : Ends) (f : Flow) (s' : Shared) : Prop :=
  match f with
  | .next => ∃ σ' H', Inv X pins σ' H' s' ∧ D.nx σ' H'
  | .brk => ∃ σ' H', Inv X pins σ' H' s' ∧ D.bk σ' H'
  | .cont => ∃ σ' H', Inv X pins σ' H' s' ∧ D.ct σ' H'
  | .ret u => ∃ v σ' H', Inv X pins σ' H' s' ∧ RelV v u ∧ D.rt v H'
noncomputable def PE (X : Cx) (e : Expr) (t : TE) : Prop :=
  ∀ (pins : List (Addr × Obj)) (s : Shared) (σ : St) (H : Hp) (Q : VK), Inv X pins σ H s → t σ H Q → wpAny (model X.prog X.w) X.A (eval e X.env) (EP X pins σ Q) X.xe s
noncomputable def PT (X : Cx) (e : Expr) (t : TT) : Prop :=
  ∀ (pins : List (Addr × Obj)) (s : Shared) (σ : St) (H : Hp) (Q : Bool → Hp → Prop), Inv X pins σ H s → t σ H Q → wpAny (model X.prog X.w) X.A (isTrue e X.env (eval e X.env)) (TP X pins σ Q) X.xe s
noncomputable def PW (X : Cx) (e : Expr) (t : TT) : Prop :=
  ∀ (whole : Sem Value) (pins : List (Addr × Obj)) (s : Shared) (σ : St) (H : Hp) (Q : Bool → Hp → Prop), Inv X pins σ H s → t σ H Q → wpAny (model X.prog X.w) X.A (isTrue e X.env whole) (TP X pins σ Q) X.xe s
theorem PW.pt {X : Cx} {e : Expr} {t : TT} (h : PW X e t) : PT X e t := h _
noncomputable def PA (X : Cx) (es : List Expr) (t : TA) : Prop :=
  ∀ (pos : Pos) (pins : List (Addr × Obj)) (s : Shared) (σ : St) (H : Hp) (Q : List V → Hp → Prop), Inv X pins σ H s → t σ H Q → wpAny (model X.prog X.w) X.A (spliced (backTo pos (starEach es X.env))) (AP X pins σ Q) X.xe s
noncomputable def PS (X : Cx) (st : Stmt) (t : TS) : Prop :=
  ∀ (pins : List (Addr × Obj)) (s : Shared) (σ : St) (H : Hp) (D : Ends), Inv X pins σ H s → t D σ H → wpAny (model X.prog X.w) X.A (exec st X.env) (SP X pins D) X.xe s
noncomputable def PSs (X : Cx) (st : List Stmt) (t : TS) : Prop :=
  ∀ (pins : List (Addr × Obj)) (s : Shared) (σ : St) (H : Hp) (D : Ends), Inv X pins σ H s → t D σ H → wpAny (model X.prog X.w) X.A (execs st X.env) (SP X pins D) X.xe s
theorem thn {α : Type} {t : Sem α} {Q Q' : α → Shared → Prop} {M : Model} {A : Around} {E : Value → Shared → Prop} {s : Shared} (h : wpAny M A t Q E s) (hQ : ∀ a s, Q a s → Q' a s) : wpAny M A t Q' E s := wpAny_mono h hQ fun _ _ x => x
end L2
namespace L2
open PySem PySem.Spec PyProof.Rows
section
variable {X : Cx}
noncomputable def tVar (i : Nat) : TE := fun σ H Q => ∃ v, σ[i]? = some (some v) ∧ Q v H
noncomputable def tC (v : V) : TE := fun _ H Q => Q v H
theorem pe_var {i : Nat} {x : Str} {pos : Pos} (hN : X.N[i]? = some x) (hv : Vis X.env.scope x) (hd : (x == ("__debug__" : Str)) = false := by decide) (hcd : (x == ("__classdict__" : Str)) = false := by decide) : PE X (.Name x pos) (tVar i) := by
  intro pins s σ H Q I h
  obtain ⟨v, e, h⟩ := h
  obtain ⟨m, hn, hl⟩ := I.loc
  obtain ⟨u, r, l⟩ := hl i x v hN e hv
  have fin : EP X pins σ Q u s := ⟨v, H, I, r, h⟩
  rcases l with ⟨hk, hm⟩ | ⟨hk, c, hc, hcell⟩
  · exact wpAny_Name (wpAny_loadName_local I.ok.kind hk hn hm fin) hd
  · rcases hk with hk | hk
    · exact wpAny_Name (wpAny_loadName_cell I.ok.kind hk hc hcell fin) hd
    · exact wpAny_Name (wpAny_loadName_free I.ok.kind hk hc hcell fin hcd) hd
theorem pe_int {i j pos} : PE X (.Constant (.int i) j pos) (tC (.int i)) := fun _ _ _ H _ I h => wpAny_Constant_int ⟨.int i, H, I.tok _, ⟨_, rfl⟩, h⟩
theorem pe_bl {b j pos} : PE X (.Constant (.bool b) j pos) (tC (.bl b)) := fun _ _ _ H _ I h => Constant_bool ⟨.bl b, H, I, rfl, h⟩
theorem pe_non {j pos} : PE X (.Constant .none j pos) (tC .non) := fun _ _ _ H _ I h => Constant_none ⟨.non, H, I, rfl, h⟩
theorem pe_str {x j pos} : PE X (.Constant (.str x) j pos) (tC (.str x)) := fun _ _ _ H _ I h => Calls.Constant_str ⟨.str x, H, I.tok _, ⟨_, rfl⟩, h⟩
noncomputable def Gl (X : Cx) (x : Str) : Prop := X.env.kindOf x = some .globalImplicit
theorem ld_glob {E : Value → Shared → Prop} {pins : List (Addr × Obj)} {s : Shared} {σ : St} {H : Hp} {x : Str} {u : Value} {pos : Pos} {Q : Value → Shared → Prop} (I : Inv X pins σ H s) (hg : Gl X x) (hm : X.mg x = some u) (h : Q u s)
    (hd : (x == ("__debug__" : Str)) = false := by decide) : wpAny (model X.prog X.w) X.A (eval (.Name x pos) X.env) Q E s :=
  Calls.Name_function_global I.ok.kind hg (Calls.loadGlobal_global (by rw [I.ok.glob]; exact I.mod.glob.keeps I.bk) hm h) hd
theorem ld_blt {E : Value → Shared → Prop} {pins : List (Addr × Obj)} {s : Shared} {σ : St} {H : Hp} {x : Str} {u : Value} {pos : Pos} {Q : Value → Shared → Prop} (I : Inv X pins σ H s) (hg : Gl X x) (hm : X.mg x = none) (hv : bootBuiltins x = some u) (h : Q u s)
    (hn : x ≠ "__name__" := by decide) (hd : (x == ("__debug__" : Str)) = false := by decide) : wpAny (model X.prog X.w) X.A (eval (.Name x pos) X.env) Q E s := by
  obtain ⟨mb, h1, h2⟩ := I.mod.blt
  exact Calls.Name_function_global I.ok.kind hg (Calls.loadGlobal_builtin (by rw [I.ok.glob]; exact I.mod.glob.keeps I.bk) hm (by rw [I.ok.blt]; exact h1.keeps I.bk) ((h2 x hn).trans hv) h) hd
theorem pe_glob {x : Str} {v : V} {u : Value} {pos : Pos} (hg : Gl X x) (hm : X.mg x = some u) (r : RelV v u) (hd : (x == ("__debug__" : Str)) = false := by decide) : PE X (.Name x pos) (tC v) :=
  fun _ _ _ H _ I h => ld_glob I hg hm ⟨v, H, I, r, h⟩ hd
theorem pe_bltn {x : Str} {v : V} {u : Value} {pos : Pos} (hg : Gl X x) (hm : X.mg x = none) (hv : bootBuiltins x = some u) (r : RelV v u) (hn : x ≠ "__name__" := by decide) (hd : (x == ("__debug__" : Str)) = false := by decide) : PE X (.Name x pos) (tC v) :=
  fun _ _ _ H _ I h => ld_blt I hg hm hv ⟨v, H, I, r, h⟩ hn hd
variable {a b : Expr} {ta tb : TE} {pos : Pos}
noncomputable def tB (t : TE) : TT := fun σ H Q => t σ H fun x H1 => ∃ c, x = .bl c ∧ Q c H1
theorem pt_val {e : Expr} {t : TE} (h : PE X e t) (he : ∀ whole, isTrue e X.env whole = (do let v ← whole; standAt e.pos; holding [v] (truthy v)) := by intro _; rfl) : PT X e (tB t) := by
  intro pins s σ H Q I hw
  refine isTrue_plain (thn (h pins s σ H _ I hw) fun v s1 ⟨x, H1, I1, r1, q1⟩ => ?_) (he _)
  obtain ⟨d, rfl, q⟩ := q1
  cases r1
  exact wpAny_truthy_bool ⟨H1, I1, q⟩
variable {tA tB' : TT} {rest : List Expr}
noncomputable def tAnd (t u : TT) : TT := fun σ H Q => t σ H fun c H1 => if c = true then u σ H1 Q else Q false H1
noncomputable def tOr (t u : TT) : TT := fun σ H Q => t σ H fun c H1 => if c = true then Q true H1 else u σ H1 Q
noncomputable def tNot (t : TT) : TT := fun σ H Q => t σ H fun c H1 => Q (!c) H1
theorem pw_and1 (ha : PT X a tA) : PW X (.BoolOp .And [a] pos) tA := by
  intro wh pins s σ H Q I h
  refine isTrue_and (thn (ha pins s σ H Q I h) fun c s1 e => ?_)
  cases c with
  | true => exact isTrue_and_nil e
  | false => exact e
theorem pw_or1 (ha : PT X a tA) : PW X (.BoolOp .Or [a] pos) tA := by
  intro wh pins s σ H Q I h
  refine isTrue_or (thn (ha pins s σ H Q I h) fun c s1 e => ?_)
  cases c with
  | false => exact isTrue_or_nil e
  | true => exact e
theorem pw_and (ha : PT X a tA) (hb : PW X (.BoolOp .And (b :: rest) pos) tB') : PW X (.BoolOp .And (a :: b :: rest) pos) (tAnd tA tB') := by
  intro wh pins s σ H Q I h
  refine isTrue_and (thn (ha pins s σ H _ I h) fun c s1 ⟨H1, I1, q1⟩ => ?_)
  cases c with
  | true => exact hb wh pins s1 σ H1 Q I1 q1
  | false => exact ⟨H1, I1, q1⟩
theorem pw_or (ha : PT X a tA) (hb : PW X (.BoolOp .Or (b :: rest) pos) tB') : PW X (.BoolOp .Or (a :: b :: rest) pos) (tOr tA tB') := by
  intro wh pins s σ H Q I h
  refine isTrue_or (thn (ha pins s σ H _ I h) fun c s1 ⟨H1, I1, q1⟩ => ?_)
  cases c with
  | true => exact ⟨H1, I1, q1⟩
  | false => exact hb wh pins s1 σ H1 Q I1 q1
theorem pt_not (ha : PT X a tA) : PT X (.UnaryOp .Not a pos) (tNot tA) := by
  intro pins s σ H Q I h
  exact isTrue_not (ha pins s σ H (fun c H1 => Q (!c) H1) I h)
noncomputable def tIf (t : TT) (ta tb : TE) : TE := fun σ H Q => t σ H fun c H1 => if c = true then ta σ H1 Q else tb σ H1 Q
theorem pe_ifExp {c : Expr} (hc : PT X c tA) (ha : PE X a ta) (hb : PE X b tb) : PE X (.IfExp c a b pos) (tIf tA ta tb) := by
  intro pins s σ H Q I h
  refine wpAny_IfExp (thn (hc pins s σ H _ I h) fun d s1 ⟨H1, I1, q1⟩ => ?_)
  cases d with
  | true => exact ha pins s1 σ H1 Q I1 q1
  | false => exact hb pins s1 σ H1 Q I1 q1
end
end L2
namespace L2
open PySem PySem.Spec PyProof.Rows
noncomputable def SqL (K : PySem.W.Frag) (H : Hp) (a : Addr) (xs : List V) : Prop :=
  Rd H a (.lst xs) ∨
    ∃ (o : Obj) (its : Array Value) (n : Nat), K.lookup a = some o ∧ o.cls = .type "list" ∧ o.dict = none ∧ o.data = .seq its n ∧ its.size ≤ sizeLine ∧ Vals xs its.toList
noncomputable def SqT (K : PySem.W.Frag) (H : Hp) (a : Addr) (xs : List V) : Prop :=
  Rd H a (.tup xs) ∨
    ∃ (o : Obj) (its : Array Value) (n : Nat), K.lookup a = some o ∧ o.cls = .type "tuple" ∧ o.data = .seq its n ∧ its.size ≤ sizeLine ∧ Vals xs its.toList
noncomputable def absV : Value → Option V
  | .none => some .non
  | .bool b => some (.bl b)
  | .int i _ => some (.int i)
  | .str x _ => some (.str x)
  | .bytes b _ => some (.byt b)
  | .float b _ => some (.flt b)
  | .ref a => some (.ref a)
  | .type n => some (.ty n)
  | _ => none
theorem RelV.abs {x : V} {u : Value} (r : RelV x u) : absV u = some x := by
  cases x with
  | non => cases r; rfl
  | bl _ => cases r; rfl
  | int _ => obtain ⟨t, rfl⟩ := r; rfl
  | str _ => obtain ⟨t, rfl⟩ := r; rfl
  | byt _ => obtain ⟨t, rfl⟩ := r; rfl
  | flt _ => obtain ⟨t, rfl⟩ := r; rfl
  | ref _ => cases r; rfl
  | ty _ => cases r; rfl
theorem RelV.inj {x y : V} {u : Value} (r : RelV x u) (q : RelV y u) : x = y := Option.some.inj (r.abs.symm.trans q.abs)
theorem Vals.inj : ∀ {xs ys : List V} {us : List Value}, Vals xs us → Vals ys us → xs = ys
  | _, _, _, .nil, .nil => rfl
  | _, _, _, .cons r t, .cons r' t' => by rw [r.inj r', Vals.inj t t']
section
variable {X : Cx} {pins : List (Addr × Obj)} {σ : St} {H : Hp} {s : Shared} {a : Addr} {xs ys : List V}
theorem SqL.of {K : PySem.W.Frag} (h : H a = some (.lst xs)) : SqL K H a xs := .inl (.inl h)
theorem SqT.of {K : PySem.W.Frag} (h : H a = some (.tup xs)) : SqT K H a xs := .inl (.inl h)
theorem Inv.list (I : Inv X pins σ H s) (h : SqL X.K H a xs) : ∃ its : List Value, Vals xs its ∧ PlainL s.heap a its.toArray ∧ xs.length ≤ sizeLine := by
  rcases h with h | ⟨o, its, n, hk, hc, hd, hs, hz, r⟩
  · obtain ⟨z, its, n, r, e⟩ := h.ok I.hok
    exact ⟨its, r, ⟨_, n, e, rfl, rfl, rfl⟩, z⟩
  · refine ⟨its.toList, r, ⟨o, n, I.kIn a o hk, hc, hd, by simpa using hs⟩, ?_⟩
    have e := r.length
    simp only [Array.length_toList] at e
    omega
theorem Inv.tuple (I : Inv X pins σ H s) (h : SqT X.K H a xs) : ∃ its : List Value, Vals xs its ∧ IsTup s.heap a its.toArray ∧ xs.length ≤ sizeLine := by
  rcases h with h | ⟨o, its, n, hk, hc, hs, hz, r⟩
  · obtain ⟨z, its, r, p⟩ := h.ok I.hok
    exact ⟨its, r, p, z⟩
  · refine ⟨its.toList, r, ⟨o, I.kIn a o hk, hc, n, by simpa using hs⟩, ?_⟩
    have e := r.length
    simp only [Array.length_toList] at e
    omega
theorem Inv.list_inj (I : Inv X pins σ H s) (h : SqL X.K H a xs) (h' : SqL X.K H a ys) : xs = ys := by
  obtain ⟨its, r, ⟨o, n, e, _, _, d⟩, _⟩ := I.list h
  obtain ⟨its', r', ⟨o', n', e', _, _, d'⟩, _⟩ := I.list h'
  rw [e] at e'; cases e'
  rw [d] at d'
  injection d' with d1 _
  have : its = its' := by simpa using congrArg Array.toList d1
  subst this
  exact r.inj r'
theorem Inv.tuple_inj (I : Inv X pins σ H s) (h : SqT X.K H a xs) (h' : SqT X.K H a ys) : xs = ys := by
  obtain ⟨its, r, ⟨o, e, _, n, d⟩, _⟩ := I.tuple h
  obtain ⟨its', r', ⟨o', e', _, n', d'⟩, _⟩ := I.tuple h'
  rw [e] at e'; cases e'
  rw [d] at d'
  injection d' with d1 _
  have : its = its' := by simpa using congrArg Array.toList d1
  subst this
  exact r.inj r'
end
noncomputable abbrev Cx.wish (X : Cx) (E : Value → Shared → Prop) : Cx := { X with xe := E }
noncomputable abbrev Cx.nox (X : Cx) : Cx := X.wish fun _ _ => False
theorem Cx.Ok.wish {X : Cx} (ok : X.Ok) (E : Value → Shared → Prop) : (X.wish E).Ok :=
  ⟨ok.mod, ok.kind, ok.glob, ok.blt, ok.above, ok.inj, ok.has, ok.cab, ok.hd, ok.frames, ok.stk, ok.exf, ok.bs, ok.bsz, ok.noex, ok.exfs, ok.funs, ok.frf⟩
theorem Cx.Ok.unwish {X : Cx} {E : Value → Shared → Prop} (ok : (X.wish E).Ok) : X.Ok :=
  ⟨ok.mod, ok.kind, ok.glob, ok.blt, ok.above, ok.inj, ok.has, ok.cab, ok.hd, ok.frames, ok.stk, ok.exf, ok.bs, ok.bsz, ok.noex, ok.exfs, ok.funs, ok.frf⟩
section
variable {X : Cx} {pins : List (Addr × Obj)} {σ : St} {H : Hp} {s : Shared} {E : Value → Shared → Prop}
theorem Inv.wish (I : Inv X pins σ H s) (E : Value → Shared → Prop) : Inv (X.wish E) pins σ H s := ⟨I.ok.wish E, I.os, I.bare, I.base, I.loc, I.cell, I.free, I.freeC, I.pin, I.hok, I.len⟩
theorem Inv.unwish (I : Inv (X.wish E) pins σ H s) : Inv X pins σ H s := ⟨I.ok.unwish, I.os, I.bare, I.base, I.loc, I.cell, I.free, I.freeC, I.pin, I.hok, I.len⟩
theorem SP.unwish {D : Ends} {f : Flow} {s' : Shared} (h : SP (X.wish E) pins D f s') : SP X pins D f s' := by
  cases f with
  | next => obtain ⟨σ', H', I, q⟩ := h; exact ⟨σ', H', I.unwish, q⟩
  | brk => obtain ⟨σ', H', I, q⟩ := h; exact ⟨σ', H', I.unwish, q⟩
  | cont => obtain ⟨σ', H', I, q⟩ := h; exact ⟨σ', H', I.unwish, q⟩
  | ret u => obtain ⟨v, σ', H', I, r, q⟩ := h; exact ⟨v, σ', H', I.unwish, r, q⟩
theorem PE.nox {e : Expr} {t : TE} (h : PE X.nox e t) : PE X e t := fun pins s σ H Q I hw =>
  wpAny_mono (h pins s σ H Q (I.wish _) hw) (fun _ _ ⟨v, H', I', r, q⟩ => ⟨v, H', I'.unwish, r, q⟩) fun _ _ z => False.elim z
theorem PT.nox {e : Expr} {t : TT} (h : PT X.nox e t) : PT X e t := fun pins s σ H Q I hw =>
  wpAny_mono (h pins s σ H Q (I.wish _) hw) (fun _ _ ⟨H', I', q⟩ => ⟨H', I'.unwish, q⟩) fun _ _ z => False.elim z
theorem PSs.nox {st : List Stmt} {t : TS} (h : PSs X.nox st t) : PSs X st t := fun pins s σ H D I hw =>
  wpAny_mono (h pins s σ H D (I.wish _) hw) (fun _ _ q => q.unwish) fun _ _ z => False.elim z
end
section
variable {X : Cx} {st : Stmt} {rest : List Stmt} {t u : TS} {e : Expr} {te : TE} {pos : Pos}
noncomputable def tNext : TS := fun D σ H => D.nx σ H
noncomputable def tSeq (t u : TS) : TS := fun D σ H => t { D with nx := u D } σ H
theorem pss_nil : PSs X [] tNext := fun _ _ σ H _ I h => wpAny_execs_nil ⟨σ, H, I, h⟩
theorem pss_cons (h1 : PS X st t) (h2 : PSs X rest u) : PSs X (st :: rest) (tSeq t u) := by
  intro pins s σ H D I h
  refine wpAny_execs_cons (thn (h1 pins s σ H { D with nx := u D } I h) fun f s1 q => ?_)
  cases f with
  | next =>
    obtain ⟨σ', H', I', q⟩ := q
    exact h2 pins s1 σ' H' D I' q
  | ret v => exact q
  | brk => exact q
  | cont => exact q
theorem pss_one (h1 : PS X st t) : PSs X [st] t := by
  intro pins s σ H D I h
  refine wpAny_execs_cons (thn (h1 pins s σ H D I h) fun f s1 q => ?_)
  cases f with
  | next => exact wpAny_execs_nil q
  | ret v => exact q
  | brk => exact q
  | cont => exact q
theorem Inv.quiet {pins : List (Addr × Obj)} {σ : St} {H : Hp} {s : Shared} (I : Inv X pins σ H s) : interactive X.env = false := by simp [interactive, I.ok.kind]
noncomputable def tDrop (te : TE) : TS := fun D σ H => te σ H fun _ H1 => D.nx σ H1
theorem ps_expr (he : PE X e te) (hs : swapsWith e none pos.line X.env = pure false := by rfl) : PS X (.Expr e pos) (tDrop te) := by
  intro pins s σ H D I h
  exact wpAny_Expr_any (thn (he pins s σ H _ I h) fun v s1 ⟨x, H1, I1, r1, q1⟩ => ⟨σ, H1, I1, q1⟩) I.quiet hs
noncomputable def tRet (te : TE) : TS := fun D σ H => te σ H D.rt
theorem ps_ret (he : PE X e te) : PS X (.Return (some e) pos) (tRet te) := by
  intro pins s σ H D I h
  exact wpAny_Return_some (thn (he pins s σ H _ I h) fun v s1 ⟨x, H1, I1, r1, q1⟩ => ⟨x, σ, H1, I1, r1, q1⟩)
noncomputable def tIfS (c : TT) (t u : TS) : TS := fun D σ H => c σ H fun b H1 => if b = true then t D σ H1 else u D σ H1
theorem ps_if {c : Expr} {a b : List Stmt} {tc : TT} (hc : PT X c tc) (ha : PSs X a t) (hb : PSs X b u) : PS X (.If c a b pos) (tIfS tc t u) := by
  intro pins s σ H D I h
  refine wpAny_If (thn (hc pins s σ H _ I h) fun d s1 ⟨H1, I1, q1⟩ => ?_)
  cases d with
  | true => exact ha pins s1 σ H1 D I1 q1
  | false => exact hb pins s1 σ H1 D I1 q1
noncomputable def tNever : TS := fun _ _ _ => False
theorem ps_never : PS X st tNever := fun _ _ _ _ _ _ h => h.elim
end
noncomputable abbrev TG := V → St → Hp → (St → Hp → Prop) → Prop
noncomputable abbrev TGs := List V → St → Hp → (St → Hp → Prop) → Prop
noncomputable def PG (X : Cx) (target : Expr) (t : TG) : Prop :=
  ∀ (pins : List (Addr × Obj)) (s : Shared) (σ : St) (H : Hp) (v : V) (u : Value) (Q : St → Hp → Prop), Inv X pins σ H s → RelV v u → t v σ H Q →
    wpAny (model X.prog X.w) X.A (assign target X.env u) (fun _ s' => ∃ σ' H', Inv X pins σ' H' s' ∧ Q σ' H') X.xe s
noncomputable def PGs (X : Cx) (ts : List Expr) (t : TGs) : Prop :=
  ∀ (pins : List (Addr × Obj)) (s : Shared) (σ : St) (H : Hp) (vs : List V) (us : List Value) (Q : St → Hp → Prop), Inv X pins σ H s → Vals vs us → t vs σ H Q →
    wpAny (model X.prog X.w) X.A (assignInOrder ((assignEach ts X.env).map (·.2)) us) (fun _ s' => ∃ σ' H', Inv X pins σ' H' s' ∧ Q σ' H') X.xe s
noncomputable abbrev TSet := V → V → V → Hp → (Hp → Prop) → Prop
noncomputable def PSet (X : Cx) (t : TSet) : Prop :=
  ∀ (pins : List (Addr × Obj)) (s : Shared) (σ : St) (H : Hp) (o i v : V) (ov iv u : Value) (Q : Hp → Prop), Inv X pins σ H s → RelV o ov → RelV i iv → RelV v u → t o i v H Q →
    wpAny (model X.prog X.w) X.A (setItem ov iv u) (fun _ s' => ∃ H', Inv X pins σ H' s' ∧ Q H') X.xe s
section
variable {X : Cx} {pos : Pos}
noncomputable def gName (i : Nat) : TG := fun v σ H Q => Q (σ.set i (some v)) H
theorem pg_name {i : Nat} {x : Str} (hN : X.N.Nodup) (hi : X.N[i]? = some x) (hx : Loc X.env.scope x) (hf : X.fn x = true ∨ X.env.scope.names.lookup x = some .local := by first | exact .inl rfl | exact .inr rfl | assumption) : PG X (.Name x pos) (gName i) := by
  intro pins s σ H v u Q I r h
  exact wpAny_assign_Name (store_ok I hN hi hx r (fun s' I' => ⟨_, H, I', h⟩) hf)
noncomputable def gNil : TGs := fun vs σ H Q => vs = [] ∧ Q σ H
noncomputable def gCons (t : TG) (u : TGs) : TGs := fun vs σ H Q => ∃ v r, vs = v :: r ∧ t v σ H fun σ' H' => u r σ' H' Q
theorem pgs_nil : PGs X [] gNil := by
  intro pins s σ H vs us Q I r h
  obtain ⟨e, h⟩ := h
  subst e
  cases r
  exact assignInOrder_nil ⟨σ, H, I, h⟩
theorem pgs_cons {e : Expr} {es : List Expr} {t : TG} {u : TGs} (h1 : PG X e t) (h2 : PGs X es u)
    (hs : (assignEach (e :: es) X.env).map (·.2) = assign e X.env :: (assignEach es X.env).map (·.2) := by rfl) : PGs X (e :: es) (gCons t u) := by
  intro pins s σ H vs us Q I r h
  obtain ⟨v, vr, e1, h⟩ := h
  subst e1
  cases r with
  | cons r rr =>
    rw [hs]
    refine assignInOrder_cons (thn (h1 pins s σ H _ _ _ I r h) fun _ s1 ⟨σ1, H1, I1, q1⟩ => ?_)
    exact h2 pins s1 σ1 H1 _ _ Q I1 rr q1
noncomputable def gTup (K : PySem.W.Frag) (n : Nat) (t : TGs) : TG := fun v σ H Q => ∃ a xs, v = .ref a ∧ SqT K H a xs ∧ xs.length = n ∧ t xs σ H Q
theorem pg_tup {es : List Expr} {k : Nat} {t : TGs} {n : Nat} (hc : X.calm = true) (h : PGs X es t)
    (hn : (assignEach es X.env).length = n := by rfl) (hst : (assignEach es X.env).findIdx? (·.1) = none := by rfl) : PG X (.Tuple es k pos) (gTup X.K n t) := by
  intro pins s σ H v u Q I r hw
  obtain ⟨a, xs, e1, hq, hl, hw⟩ := hw
  subst e1
  cases r
  obtain ⟨its, rv, ht, hz⟩ := I.tuple hq
  refine assign_Tuple_tuple (I.ok.hd hc) ht (by simp [hn, ← hl, rv.length]) hst fun h' hx => ?_
  have I1 : Inv X pins σ H { s with heap := h' } := I.kept (t' := s.toks) fun b o e => hx b o (Nat.ne_of_lt (Heap.lt_size e)) e
  exact h pins _ σ H xs _ Q I1 (by simpa using rv) hw
noncomputable def gSub (to ti : TE) (t : TSet) : TG := fun v σ H Q => to σ H fun o H1 => ti σ H1 fun i H2 => t o i v H2 fun H3 => Q σ H3
theorem pg_sub {o i : Expr} {to ti : TE} {t : TSet} (ho : PE X o to) (hi : PE X i ti) (hs : PSet X t)
    (ha : ∀ v, assign (.Subscript o i pos) X.env v = (do
      let ov ← holding [v] (eval o X.env)
      let iv ← holding [v, ov] (eval i X.env)
      standAt pos
      holding [v, ov, iv] (setItem ov iv v)
      release [v, ov, iv] []) := by intro _; rfl) : PG X (.Subscript o i pos) (gSub to ti t) := by
  intro pins s σ H v u Q I r h
  rw [ha]
  refine wpAny_bind (wpAny_holding (thn (ho pins s σ H _ I h) fun ov s1 ⟨x, H1, I1, r1, q1⟩ => ?_))
  refine wpAny_bind (wpAny_holding (thn (hi pins s1 σ H1 _ I1 q1) fun iv s2 ⟨y, H2, I2, r2, q2⟩ => ?_))
  refine wpAny_bind (wpAny_standAt (wpAny_bind (wpAny_holding (thn (hs pins s2 σ H2 x y v ov iv u _ I2 r1 r2 r q2) fun _ s3 ⟨H3, I3, q3⟩ => ?_))))
  exact wpAny_release ⟨σ, H3, I3, q3⟩
noncomputable def tAsg (te : TE) (g : TG) : TS := fun D σ H => te σ H fun x H1 => g x σ H1 D.nx
theorem ps_asg {tg e : Expr} {te : TE} {g : TG} (he : PE X e te) (hg : PG X tg g) (hs : swapsWithSole [tg] e pos.line X.env = pure false := by rfl) (hw : swappedStores [tg] e X.env = pure none := by rfl)
    (h1 : (assignEach [tg] X.env).map (·.2) = [assign tg X.env] := by rfl) : PS X (.Assign [tg] e pos) (tAsg te g) := by
  intro pins s σ H D I h
  refine wpAny_Assign_stores (thn (he pins s σ H _ I h) fun v s1 ⟨x, H1, I1, r1, q1⟩ => ?_) hs hw
  rw [h1]
  exact thn (hg pins s1 σ H1 x v _ I1 r1 q1) fun _ s2 q => q
theorem ps_set {i : Nat} {x : Str} {e : Expr} {te : TE} {pos' : Pos} (hN : X.N.Nodup) (hi : X.N[i]? = some x) (hx : Loc X.env.scope x) (he : PE X e te) (hs : swapsWith e (some (.Name x pos')) pos.line X.env = pure false := by rfl) (hf : X.fn x = true ∨ X.env.scope.names.lookup x = some .local := by first | exact .inl rfl | exact .inr rfl | assumption) :
    PS X (.Assign [.Name x pos'] e pos) (tAsg te (gName i)) := by
  intro pins s σ H D I h
  refine wpAny_Assign_Name (thn (he pins s σ H _ I h) fun v s1 ⟨y, H1, I1, r1, q1⟩ => ?_) hs
  exact store_ok I1 hN hi hx r1 (fun s2 I2 => ⟨_, H1, I2, q1⟩) hf
end
section
variable {X : Cx} {pos : Pos}
end
structure It where
  go : Nat → Hp → Prop
  yld : Nat → Hp → V → Hp → Prop
  stop : Nat → Hp → Prop
noncomputable def FpOk (X : Cx) (pins : List (Addr × Obj)) (H : Hp) (b : Addr) : Prop :=
  H b = none ∧ b ≠ X.env.locals ∧ b ∉ X.fs ∧ (b ∈ X.ex ∨ X.s₀.heap.objs.size ≤ b) ∧ (∀ x c, X.env.cells.lookup x = some c → c ≠ b) ∧ ∀ p ∈ X.pn ++ pins, p.1 ≠ b
theorem Inv.fpOk {X : Cx} {pins : List (Addr × Obj)} {σ : St} {H H' : Hp} {s : Shared} {b : Addr} (I : Inv X pins σ H s) (hb : s.heap.objs.size ≤ b) (hn : H' b = none) : FpOk X pins H' b := by
  refine ⟨hn, Nat.ne_of_gt (Nat.lt_of_lt_of_le I.lt hb), I.nofs hb, .inr (Nat.le_trans I.sz hb), fun x c e z => ?_, fun p hp z => ?_⟩
  · obtain ⟨v, q⟩ := I.cell x c e
    exact absurd (Nat.lt_of_lt_of_le q.lt (by rw [z]; exact hb)) (Nat.lt_irrefl _)
  · exact absurd (Nat.lt_of_lt_of_le (Heap.lt_size (I.pin p hp).1) (by rw [z]; exact hb)) (Nat.lt_irrefl _)
structure Turn (P : Program) (w : World) (K : PySem.W.Frag) (tg : Expr) (J : It) (fp : List Addr) (it : Addr) (tn : Nat → Heap → Prop) : Prop where
  mem : it ∈ fp
  obj : ∀ i h, tn i h → ∀ b ∈ fp, ∃ o, h.get? b = some o ∧ ∀ v, o.data ≠ .cell v
  keep : ∀ i h h', tn i h → (∀ b ∈ fp, ∀ o, h.get? b = some o → h'.get? b = some o) → tn i h'
  item : ∀ (X : Cx), X.prog = P → X.w = w → X.K = K → X.calm = true → ∀ (i : Nat) (pins : List (Addr × Obj)) (s : Shared) (σ : St) (H : Hp) (E : Value → Shared → Prop), Inv X pins σ H s → (∀ b ∈ fp, FpOk X pins H b) → tn i s.heap → J.go i H →
    wpAny (model P w) X.A (pyNext (.ref it)) (fun r s1 => ∃ u, r = some u ∧
      wpAny (model P w) X.A (letOwnedTupleGo tg (.ref it) u) (fun _ s2 => ∃ x H', Inv X pins σ H' s2 ∧ RelV x u ∧ J.yld i H x H' ∧ tn (i + 1) s2.heap ∧ ∀ b ∈ fp, H' b = none) E s1) E s
  done : ∀ (X : Cx), X.prog = P → X.w = w → X.K = K → X.calm = true → ∀ (i : Nat) (pins : List (Addr × Obj)) (s : Shared) (σ : St) (H : Hp) (E : Value → Shared → Prop), Inv X pins σ H s → (∀ b ∈ fp, FpOk X pins H b) → tn i s.heap → J.stop i H →
    wpAny (model P w) X.A (pyNext (.ref it)) (fun r s1 => r = none ∧ Inv X pins σ H s1) E s
  self : ∀ (A : Around) (i : Nat) (s : Shared) (Q : Value → Shared → Prop) (E : Value → Shared → Prop), tn i s.heap → Q (.ref it) s → wpAny (model P w) A (pyIter (.ref it)) Q E s
noncomputable abbrev TI := St → Hp → (It → Hp → Prop) → Prop
noncomputable def PIE (X : Cx) (pins : List (Addr × Obj)) (σ : St) (tg : Expr) (R : It → Hp → Prop) (itv : Value) (s2 : Shared) : Prop :=
  ∃ (it : Addr) (fp : List Addr) (tn : Nat → Heap → Prop) (J : It) (H' : Hp), itv = .ref it ∧ Inv X pins σ H' s2 ∧ Turn X.prog X.w X.K tg J fp it tn ∧ tn 0 s2.heap ∧ (∀ b ∈ fp, FpOk X pins H' b) ∧ R J H'
noncomputable def PI (X : Cx) (tg iter : Expr) (wi : TI) : Prop :=
  ∀ (pins : List (Addr × Obj)) (s : Shared) (σ : St) (H : Hp) (R : It → Hp → Prop), Inv X pins σ H s → wi σ H R →
    wpAny (model X.prog X.w) X.A (eval iter X.env) (fun v s1 => wpAny (model X.prog X.w) X.A (pyIter v) (PIE X pins σ tg R) X.xe s1) X.xe s
theorem go_of {M : Model} {A : Around} {E : Value → Shared → Prop} {s : Shared} {tg : Expr} {it : Addr} {u : Value} {o : Obj} {n : String} {vs : Array Value} {Q : Unit → Shared → Prop} (ho : s.heap.get? it = some o) (hc : o.cls = .type n) (hd : o.data = .fields vs)
    (hn : ["enumerate", "zip", "dict_itemiterator", "dict_reverseitemiterator", "odict_iterator", "itertools.zip_longest", "itertools.pairwise"].contains n = false) (hQ : Q () s) : wpAny M A (letOwnedTupleGo tg (.ref it) u) Q E s := by
  unfold letOwnedTupleGo
  cases tg <;> first
    | exact wpAny_pure hQ
    | (cases u <;> first
        | exact wpAny_pure hQ
        | (refine wpAny_bind (wpAny_load ho ?_)
           rw [hc, hd]
           show wpAny M A (if (["enumerate", "zip", "dict_itemiterator", "dict_reverseitemiterator", "odict_iterator", "itertools.zip_longest", "itertools.pairwise"].contains n && vs[0]? == some (rawInt _)) = true then _ else _) Q E s
           rw [if_neg (by intro h; rw [hn, Bool.false_and] at h; cases h)]
           exact wpAny_pure hQ))
noncomputable def Itl (K : PySem.W.Frag) (a : Addr) : It :=
  ⟨fun i H => ∃ xs x, SqL K H a xs ∧ xs[i]? = some x, fun i H x H' => H' = H ∧ ∀ xs, SqL K H a xs → xs[i]? = some x, fun i H => ∃ xs, SqL K H a xs ∧ xs.length ≤ i⟩
noncomputable def Itt (K : PySem.W.Frag) (a : Addr) : It :=
  ⟨fun i H => ∃ xs x, SqT K H a xs ∧ xs[i]? = some x, fun i H x H' => H' = H ∧ ∀ xs, SqT K H a xs → xs[i]? = some x, fun i H => ∃ xs, SqT K H a xs ∧ xs.length ≤ i⟩
noncomputable def Itr (lo : Int) (n : Nat) : It := ⟨fun i _ => i < n, fun i H x H' => H' = H ∧ x = .int (lo + i), fun i _ => n ≤ i⟩
theorem turn_list {P : Program} {w : World} {K : PySem.W.Frag} {tg : Expr} (a it : Addr) : Turn P w K tg (Itl K a) [it] it (fun i h => h.IsListIter it a i) where
  mem := by simp
  obj := fun i h st b hb => by
    have e : b = it := by simpa using hb
    subst e
    obtain ⟨o, e, c, d⟩ := st
    exact ⟨o, e, fun v z => by rw [d] at z; cases z⟩
  keep := fun i h h' st k => st.at fun o e => k it (by simp) o e
  item := by
    intro X hP hw hK hc i pins s σ H E I hf st hg
    subst hP hw hK
    obtain ⟨xs, x, hq, hx⟩ := hg
    obtain ⟨its, rv, p, hz⟩ := I.list hq
    obtain ⟨u, hu, ru⟩ := rv.get hx
    obtain ⟨f0, f1, f2, f3, f4, f5⟩ := hf it (by simp)
    refine wpAny_pyNext_list_item st p.isList (x := u) (by simpa using hu) fun h' st' sb => ?_
    have I1 : Inv X pins σ H { s with heap := h' } := I.turned (t' := s.toks) (fun b o hb e => (sb.2 b hb).trans e) f0 f1 f3 f4 f5
    obtain ⟨o, e, c, d⟩ := id st'
    exact ⟨u, rfl, go_of (s := { s with heap := h' }) e c d (by decide) ⟨x, H, I1, ru, ⟨rfl, fun ys hy => by rw [I.list_inj hy hq]; exact hx⟩, st', fun b hb => (hf b hb).1⟩⟩
  done := by
    intro X hP hw hK hc i pins s σ H E I hf st hg
    subst hP hw hK
    obtain ⟨xs, hq, hx⟩ := hg
    obtain ⟨its, rv, p, hz⟩ := I.list hq
    obtain ⟨f0, f1, f2, f3, f4, f5⟩ := hf it (by simp)
    have hl := rv.length
    exact wpAny_pyNext_list_end (I.ok.hd hc) st p.isList (by simp; omega) fun h' eb => ⟨rfl, I.turned (t' := s.toks) (fun b o hb e => eb b o hb e) f0 f1 f3 f4 f5⟩
  self := fun _ _ _ _ _ st h => wpAny_pyIter_listiter st h
theorem turn_tuple {P : Program} {w : World} {K : PySem.W.Frag} {tg : Expr} (a it : Addr) : Turn P w K tg (Itt K a) [it] it (fun i h => h.IsTupleIter it a i) where
  mem := by simp
  obj := fun i h st b hb => by
    have e : b = it := by simpa using hb
    subst e
    obtain ⟨o, e, c, d⟩ := st
    exact ⟨o, e, fun v z => by rw [d] at z; cases z⟩
  keep := fun i h h' st k => st.at fun o e => k it (by simp) o e
  item := by
    intro X hP hw hK hc i pins s σ H E I hf st hg
    subst hP hw hK
    obtain ⟨xs, x, hq, hx⟩ := hg
    obtain ⟨its, rv, p, hz⟩ := I.tuple hq
    obtain ⟨u, hu, ru⟩ := rv.get hx
    obtain ⟨f0, f1, f2, f3, f4, f5⟩ := hf it (by simp)
    refine wpAny_pyNext_tuple_item st (show s.heap.IsTuple a its.toArray from p) (x := u) (by simpa using hu) fun h' st' sb => ?_
    have I1 : Inv X pins σ H { s with heap := h' } := I.turned (t' := s.toks) (fun b o hb e => (sb.2 b hb).trans e) f0 f1 f3 f4 f5
    obtain ⟨o, e, c, d⟩ := id st'
    exact ⟨u, rfl, go_of (s := { s with heap := h' }) e c d (by decide) ⟨x, H, I1, ru, ⟨rfl, fun ys hy => by rw [I.tuple_inj hy hq]; exact hx⟩, st', fun b hb => (hf b hb).1⟩⟩
  done := by
    intro X hP hw hK hc i pins s σ H E I hf st hg
    subst hP hw hK
    obtain ⟨xs, hq, hx⟩ := hg
    obtain ⟨its, rv, p, hz⟩ := I.tuple hq
    obtain ⟨f0, f1, f2, f3, f4, f5⟩ := hf it (by simp)
    have hl := rv.length
    exact wpAny_pyNext_tuple_end (I.ok.hd hc) st (show s.heap.IsTuple a its.toArray from p) (by simp; omega) fun h' eb => ⟨rfl, I.turned (t' := s.toks) (fun b o hb e => eb b o hb e) f0 f1 f3 f4 f5⟩
  self := fun _ _ _ _ _ st h => wpAny_pyIter_tupleiter st h
theorem turn_range {P : Program} {w : World} {K : PySem.W.Frag} {tg : Expr} (it : Addr) (lo : Int) (n : Nat) : Turn P w K tg (Itr lo n) [it] it (fun i h => IsRangeIter h it (lo + (i : Nat) * 1) ((n : Int) - (i : Nat)) 1) where
  mem := by simp
  obj := fun i h st b hb => by
    have e : b = it := by simpa using hb
    subst e
    exact ⟨_, st, fun v z => by
      have z' : Data.fields _ = Data.cell v := z
      cases z'⟩
  keep := fun i h h' st k => k it (by simp) _ st
  item := by
    intro X hP hw hK hc i pins s σ H E I hf st hg
    subst hP hw hK
    obtain ⟨f0, f1, f2, f3, f4, f5⟩ := hf it (by simp)
    have W := Walks.range (prog := X.prog) (w := X.w) (I.ok.hd hc) it lo 1 n
    refine W.item i s _ _ hg st fun v h' tk hv st' kk => ?_
    obtain ⟨t, rfl⟩ := hv
    have I1 : Inv X pins σ H { s with heap := h', toks := tk } := I.turned (fun b o hb e => kk b o (by simpa using hb) e) f0 f1 f3 f4 f5
    refine ⟨_, rfl, go_of (s := { s with heap := h', toks := tk }) (n := "range_iterator") st' rfl rfl (by decide) ⟨.int (lo + i), H, I1, ⟨t, ?_⟩, ⟨rfl, rfl⟩, st', fun b hb => (hf b hb).1⟩⟩
    rw [Int.mul_one]
  done := by
    intro X hP hw hK hc i pins s σ H E I hf st hg
    subst hP hw hK
    obtain ⟨f0, f1, f2, f3, f4, f5⟩ := hf it (by simp)
    exact wpAny_pyNext_range_end (I.ok.hd hc) st (by have : n ≤ i := hg; omega) fun h' eb => ⟨rfl, I.turned (t' := s.toks) (fun b o hb e => eb b o hb e) f0 f1 f3 f4 f5⟩
  self := fun _ _ _ _ _ st h => wpAny_pyIter_rangeiter st h
end L2
namespace L2
open PySem PySem.Spec PyProof.Rows
section
variable {X : Cx} {tg : Expr}
theorem range_it {pins : List (Addr × Obj)} {σ : St} {H : Hp} {s : Shared} {R : It → Hp → Prop} {E : Value → Shared → Prop} {lo hi : Int} {t u v : Tok} {tk : Nat} (I : Inv X pins σ H s) (h1 : -(2 ^ 62) ≤ lo) (h2 : lo < 2 ^ 62) (h3 : -(2 ^ 62) ≤ hi) (h4 : hi < 2 ^ 62)
    (q : R (Itr lo (hi - lo).toNat) H) : wpAny (model X.prog X.w) X.A (pyIter (.ref s.heap.objs.size)) (PIE X pins σ tg R) E { s with heap := s.heap.push { cls := .type "range", data := .fields #[.int lo t, .int hi u, .int 1 v] }, toks := tk } := by
  refine wpAny_pyIter_range (IsRange.new ..) (small_one h1 h2 h3 h4) ?_
  have I1 : Inv X pins σ H { s with heap := s.heap.push { cls := .type "range", data := .fields #[.int lo t, .int hi u, .int 1 v] }, toks := tk } := I.kept fun b o e => Heap.get?_push_of_some _ e
  refine ⟨(s.heap.push { cls := .type "range", data := .fields #[.int lo t, .int hi u, .int 1 v] }).objs.size, [(s.heap.push { cls := .type "range", data := .fields #[.int lo t, .int hi u, .int 1 v] }).objs.size], _, _, H, rfl,
    I1.kept (t' := tk) fun b o e => Heap.get?_push_of_some _ e, turn_range _ lo (hi - lo).toNat, ?_, fun b hb => ?_, q⟩
  · have e1 : lo + ((0 : Nat) : Int) * 1 = lo := by simp
    have e2 : (((hi - lo).toNat : Nat) : Int) - ((0 : Nat) : Int) = Builtin.Range.rangeSize lo hi 1 := by rw [rangeSize_one]; split <;> omega
    show IsRangeIter _ _ (lo + ((0 : Nat) : Int) * 1) ((((hi - lo).toNat : Nat) : Int) - ((0 : Nat) : Int)) 1
    rw [e1, e2]
    exact Heap.get?_push_size _ rfl
  · have e : b = (s.heap.push { cls := .type "range", data := .fields #[.int lo t, .int hi u, .int 1 v] }).objs.size := by simpa using hb
    subst e
    exact I1.fpOk (Nat.le_refl _) (I1.hok.fresh (Nat.le_refl _))
noncomputable def iRng1 (ta : TA) : TI := fun σ H R => ta σ H fun vs H1 => ∃ j : Int, vs = [.int j] ∧ -(2 ^ 62) ≤ j ∧ j < 2 ^ 62 ∧ R (Itr 0 j.toNat) H1
theorem pi_range1 {a : Expr} {ta : TA} {p pos : Pos} (hg : Gl X "range") (hm : X.mg "range" = none) (ha : PA X [a] ta) (hs : starEach [a] X.env = [(false, eval a X.env)] := by rfl) : PI X tg (.Call (.Name "range" p) [a] [] pos) (iRng1 ta) := by
  intro pins s σ H R I h
  refine Call_ (ld_blt I hg hm boot_range (PyProof.Rows.callWith_type1 (thn (ha pos pins s σ H _ I h) fun us s1 ⟨vs, H1, I1, r1, q1⟩ => ?_) hs rfl))
  obtain ⟨j, e, q1, q2, q⟩ := q1
  subst e
  cases r1 with
  | cons r rr =>
    cases rr
    obtain ⟨t, rfl⟩ := r
    exact call_range_1 (range_it I1 (by omega) (by omega) q1 q2 (by simpa using q))
noncomputable def tFor (wi : TI) (g : TG) (tb : TS) : TS := fun D σ H => wi σ H fun J H1 => ∃ W : Nat → Nat → St → Hp → Prop, (∃ m, W 0 m σ H1) ∧ ∀ i m σ H, W i m σ H →
  (J.stop i H ∧ D.nx σ H) ∨ (J.go i H ∧ ∃ N : St → Hp → Prop, (∀ σ' H', N σ' H' → ∃ m', m' < m ∧ W (i + 1) m' σ' H') ∧ ∀ x H', J.yld i H x H' → g x σ H' fun σ2 H2 => tb { D with nx := N, ct := N, bk := D.nx } σ2 H2)
noncomputable def pinsAt (fp : List Addr) (h : Heap) : List (Addr × Obj) := fp.filterMap fun b => (h.get? b).map fun o => (b, o)
theorem mem_pinsAt {fp : List Addr} {h : Heap} {b : Addr} {o : Obj} (hb : b ∈ fp) (e : h.get? b = some o) : (b, o) ∈ pinsAt fp h := List.mem_filterMap.mpr ⟨b, hb, by rw [e]; rfl⟩
theorem of_pinsAt {fp : List Addr} {h : Heap} {p : Addr × Obj} (hp : p ∈ pinsAt fp h) : p.1 ∈ fp ∧ h.get? p.1 = some p.2 := by
  obtain ⟨b, hb, e⟩ := List.mem_filterMap.mp hp
  cases q : h.get? b with
  | none => rw [q] at e; cases e
  | some o =>
    rw [q] at e
    have e' : (b, o) = p := Option.some.inj e
    subst e'
    exact ⟨hb, q⟩
theorem Inv.pinned {pins : List (Addr × Obj)} {σ : St} {H : Hp} {s : Shared} {fp : List Addr} (I : Inv X pins σ H s) (hf : ∀ b ∈ fp, FpOk X pins H b) (ho : ∀ b ∈ fp, ∃ o, s.heap.get? b = some o ∧ ∀ v, o.data ≠ .cell v) : Inv X (pins ++ pinsAt fp s.heap) σ H s :=
  I.pins_of fun p hp => (List.mem_append.mp hp).elim (fun z => I.pin p (List.mem_append_right _ z)) fun z => by
    obtain ⟨hb, e⟩ := of_pinsAt z
    obtain ⟨f0, f1, f2, _⟩ := hf p.1 hb
    obtain ⟨o, e', d⟩ := ho p.1 hb
    rw [e] at e'; cases e'
    exact ⟨e, f0, f1, f2, d⟩
theorem Inv.unpinned {pins pl : List (Addr × Obj)} {σ : St} {H : Hp} {s : Shared} (I : Inv X (pins ++ pl) σ H s) : Inv X pins σ H s := I.pins_of fun p hp => I.pin p (List.mem_append_right _ (List.mem_append_left _ hp))
theorem ps_for {iter : Expr} {body : List Stmt} {wi : TI} {g : TG} {tb : TS} {pos : Pos} (hp : PassesOwn (model X.prog X.w) X.A X.env X.xe) (hc : X.calm = true) (hi : PI X tg iter wi) (hg : PG X tg g) (hb : PSs X body tb)
    (hs : ∀ x, foldedSetIterable iter X.env x = pure x := by intro _; rfl) : PS X (.For tg iter body [] pos) (tFor wi g tb) := by
  intro pins s σ H D I h
  refine wpAny_For (thn (hi pins s σ H _ I h) fun v s1 h1 => thn h1 fun itv s2 h2 => ?_) hs
  obtain ⟨it, fp, tn, J, H2, e, I2, T, st2, f2, W, ⟨m0, w0⟩, turn⟩ := h2
  subst e
  have stat : ∀ {H' : Hp}, (∀ b ∈ fp, H' b = none) → ∀ b ∈ fp, FpOk X pins H' b := fun hn b hb => ⟨hn b hb, (f2 b hb).2⟩
  refine codeAny_forLoop_any (fun n s' => ∃ i σ' H', Inv X pins σ' H' s' ∧ tn i s'.heap ∧ (∀ b ∈ fp, H' b = none) ∧ W i n σ' H') ?_ m0 ⟨0, σ, H2, I2, st2, fun b hb => (f2 b hb).1, w0⟩
  rintro n s3 ⟨i, σ3, H3, I3, st3, fr3, w3⟩
  rcases turn i n σ3 H3 w3 with ⟨stop, qn⟩ | ⟨go, N, hN, step⟩
  · refine wpAny_passesOwn hp (thn (T.done X rfl rfl rfl hc i pins s3 σ3 H3 X.xe I3 (stat fr3) st3 stop) fun r s4 ⟨hr, I4⟩ => ?_)
    subst hr
    exact wpAny_execs_nil ⟨σ3, H3, I4, qn⟩
  · refine wpAny_passesOwn hp (thn (T.item X rfl rfl rfl hc i pins s3 σ3 H3 X.xe I3 (stat fr3) st3 go) fun r s4 ⟨u, hr, h4⟩ => ?_)
    subst hr
    refine wpAny_passesOwn hp (thn h4 fun _ s5 ⟨x, H5, I5, r5, y5, st5, fr5⟩ => ?_)
    have I5' := I5.pinned (stat fr5) (T.obj _ _ st5)
    refine wpAny_passesOwn hp (thn (hg _ s5 σ3 H5 x u _ I5' r5 (step x H5 y5)) fun _ s6 ⟨σ6, H6, I6, q6⟩ => ?_)
    refine wpAny_passesOwn hp (thn (hb _ s6 σ6 H6 _ I6 q6) fun f s7 q7 => ?_)
    have again : ∀ {σ7 : St} {H7 : Hp}, Inv X (pins ++ pinsAt fp s5.heap) σ7 H7 s7 → N σ7 H7 → ∃ m, m < n ∧ ∃ i σ' H', Inv X pins σ' H' s7 ∧ tn i s7.heap ∧ (∀ b ∈ fp, H' b = none) ∧ W i m σ' H' := fun {σ7 H7} I7 n7 => by
      obtain ⟨m', hm, w7⟩ := hN σ7 H7 n7
      refine ⟨m', hm, i + 1, σ7, H7, I7.unpinned, T.keep _ _ _ st5 fun b hb o e => (I7.pin (b, o) (List.mem_append_right _ (List.mem_append_right _ (mem_pinsAt hb e)))).1, fun b hb => ?_, w7⟩
      obtain ⟨o, e, d⟩ := T.obj _ _ st5 b hb
      exact (I7.pin (b, o) (List.mem_append_right _ (List.mem_append_right _ (mem_pinsAt hb e)))).2.1
    cases f with
    | next => obtain ⟨σ7, H7, I7, n7⟩ := q7; exact again I7 n7
    | cont => obtain ⟨σ7, H7, I7, n7⟩ := q7; exact again I7 n7
    | brk => obtain ⟨σ7, H7, I7, q7⟩ := q7; exact ⟨σ7, H7, I7.unpinned, q7⟩
    | ret v => obtain ⟨x7, σ7, H7, I7, r7, q7⟩ := q7; exact ⟨x7, σ7, H7, I7.unpinned, r7, q7⟩
end
end L2
namespace L2
open PySem PySem.Spec PyProof.Rows
noncomputable abbrev R2 := V → V → Hp → VK → Prop
noncomputable def OpR (X : Cx) (f : Value → Value → Sem Value) (r : R2) : Prop :=
  ∀ (pins : List (Addr × Obj)) (s : Shared) (σ : St) (H : Hp) (x y : V) (v u : Value) (Q : VK), Inv X pins σ H s → RelV x v → RelV y u → r x y H Q →
    wpAny (model X.prog X.w) X.A (f v u) (EP X pins σ Q) X.xe s
noncomputable def UnR (X : Cx) (f : Value → Sem Value) (r : V → Hp → VK → Prop) : Prop :=
  ∀ (pins : List (Addr × Obj)) (s : Shared) (σ : St) (H : Hp) (x : V) (v : Value) (Q : VK), Inv X pins σ H s → RelV x v → r x H Q →
    wpAny (model X.prog X.w) X.A (f v) (EP X pins σ Q) X.xe s
noncomputable def CallR (X : Cx) (f : Value) (r : List V → Hp → VK → Prop) : Prop :=
  ∀ (pins : List (Addr × Obj)) (s : Shared) (σ : St) (H : Hp) (xs : List V) (us : List Value) (Q : VK), Inv X pins σ H s → Vals xs us → r xs H Q →
    wpAny (model X.prog X.w) X.A (call f us) (EP X pins σ Q) X.xe s
noncomputable def TruR (X : Cx) (r : V → Hp → (Bool → Hp → Prop) → Prop) : Prop :=
  ∀ (pins : List (Addr × Obj)) (s : Shared) (σ : St) (H : Hp) (x : V) (v : Value) (Q : Bool → Hp → Prop), Inv X pins σ H s → RelV x v → r x H Q →
    wpAny (model X.prog X.w) X.A (truthy v) (TP X pins σ Q) X.xe s
noncomputable def tOp (r : R2) (ta tb : TE) : TE := fun σ H Q => ta σ H fun x H1 => tb σ H1 fun y H2 => r x y H2 Q
noncomputable def tUn (r : V → Hp → VK → Prop) (ta : TE) : TE := fun σ H Q => ta σ H fun x H1 => r x H1 Q
noncomputable def rI (C : Int → Int → Prop) (g : Int → Int → V) : R2 := fun x y H Q => ∃ i j, x = .int i ∧ y = .int j ∧ C i j ∧ Q (g i j) H
noncomputable def rI0 (g : Int → Int → V) : R2 := fun x y H Q => ∃ i j, x = .int i ∧ y = .int j ∧ Q (g i j) H
noncomputable def rU (g : Int → V) : V → Hp → VK → Prop := fun x H Q => ∃ i, x = .int i ∧ Q (g i) H
section
variable {X : Cx} {a b c : Expr} {ta tb tc : TE} {pos : Pos}
theorem binT (ha : PE X a ta) (hb : PE X b tb) {pins : List (Addr × Obj)} {s : Shared} {σ : St} {H : Hp} {R : V → V → Hp → Prop} (I : Inv X pins σ H s)
    (h : ta σ H fun x H1 => tb σ H1 fun y H2 => R x y H2) {Q : Value → Shared → Prop} {f : Value → Value → Sem Value}
    (hf : ∀ v u s2 x y H2, Inv X pins σ H2 s2 → RelV x v → RelV y u → R x y H2 → wpAny (model X.prog X.w) X.A (f v u) Q X.xe s2) :
    wpAny (model X.prog X.w) X.A (eval a X.env) (fun v s₁ => wpAny (model X.prog X.w) X.A (eval b X.env) (fun u s₂ => wpAny (model X.prog X.w) X.A (f v u) Q X.xe s₂) X.xe s₁) X.xe s := by
  refine thn (ha pins s σ H _ I h) fun v s1 ⟨x, H1, I1, r1, q1⟩ => ?_
  refine thn (hb pins s1 σ H1 _ I1 q1) fun u s2 ⟨y, H2, I2, r2, q2⟩ => ?_
  exact hf v u s2 x y H2 I2 r1 r2 q2
theorem pe_op {op : Operator} {r : R2} (ho : OpR X (binaryOp op) r) (ha : PE X a ta) (hb : PE X b tb) : PE X (.BinOp a op b pos) (tOp r ta tb) := by
  intro pins s σ H Q I h
  exact wpAny_BinOp (binT ha hb I h fun v u s2 x y H2 I2 rx ry q => ho pins s2 σ H2 x y v u Q I2 rx ry q)
theorem pe_un {op : UnaryOp} {r : V → Hp → VK → Prop} (ho : UnR X (unaryOp op) r) (ha : PE X a ta) : PE X (.UnaryOp op a pos) (tUn r ta) := by
  intro pins s σ H Q I h
  exact UnaryOp_ (thn (ha pins s σ H _ I h) fun v s1 ⟨x, H1, I1, r1, q1⟩ => ho pins s1 σ H1 x v Q I1 r1 q1)
theorem opI {f : Value → Value → Sem Value} {C : Int → Int → Prop} {g : Int → Int → Int}
    (rule : ∀ (i j : Int) (t u : Tok) (s : Shared) (Q : Value → Shared → Prop) (E : Value → Shared → Prop), C i j → Q (.int (g i j) s.toks) { s with toks := s.toks + 1 } → wpAny (model X.prog X.w) X.A (f (.int i t) (.int j u)) Q E s) :
    OpR X f (rI C fun i j => .int (g i j)) := by
  intro pins s σ H x y v u Q I rx ry h
  obtain ⟨i, j, rfl, rfl, hc, q⟩ := h
  obtain ⟨t, rfl⟩ := rx
  obtain ⟨t', rfl⟩ := ry
  exact rule i j t t' s _ _ hc ⟨.int (g i j), H, I.tok _, ⟨_, rfl⟩, q⟩
theorem opI0 {f : Value → Value → Sem Value} {g : Int → Int → Int}
    (rule : ∀ (i j : Int) (t u : Tok) (s : Shared) (Q : Value → Shared → Prop) (E : Value → Shared → Prop), Q (.int (g i j) s.toks) { s with toks := s.toks + 1 } → wpAny (model X.prog X.w) X.A (f (.int i t) (.int j u)) Q E s) :
    OpR X f (rI0 fun i j => .int (g i j)) := by
  intro pins s σ H x y v u Q I rx ry h
  obtain ⟨i, j, rfl, rfl, q⟩ := h
  obtain ⟨t, rfl⟩ := rx
  obtain ⟨t', rfl⟩ := ry
  exact rule i j t t' s _ _ ⟨.int (g i j), H, I.tok _, ⟨_, rfl⟩, q⟩
theorem opB0 {f : Value → Value → Sem Value} {g : Int → Int → Bool}
    (rule : ∀ (i j : Int) (t u : Tok) (s : Shared) (Q : Value → Shared → Prop) (E : Value → Shared → Prop), Q (.bool (g i j)) s → wpAny (model X.prog X.w) X.A (f (.int i t) (.int j u)) Q E s) :
    OpR X f (rI0 fun i j => .bl (g i j)) := by
  intro pins s σ H x y v u Q I rx ry h
  obtain ⟨i, j, rfl, rfl, q⟩ := h
  obtain ⟨t, rfl⟩ := rx
  obtain ⟨t', rfl⟩ := ry
  exact rule i j t t' s _ _ ⟨.bl (g i j), H, I, rfl, q⟩
noncomputable def CMul (i j : Int) : Prop := (-(2 ^ 64) < i ∧ i < 2 ^ 64) ∨ (-(2 ^ 64) < j ∧ j < 2 ^ 64)
theorem CMul.ok {i j : Int} (h : CMul i j) : IntMulOk i j := by
  rcases h with ⟨h1, h2⟩ | ⟨h1, h2⟩
  · exact .of_left (intBits_le_64 h1 h2)
  · exact .of_right (intBits_le_64 h1 h2)
theorem op_add : OpR X (binaryOp .Add) (rI0 fun i j => .int (i + j)) := opI0 fun _ _ _ _ _ _ _ q => add_int q
theorem op_sub : OpR X (binaryOp .Sub) (rI0 fun i j => .int (i - j)) := opI0 fun _ _ _ _ _ _ _ q => sub_int q
theorem op_mul : OpR X (binaryOp .Mult) (rI CMul fun i j => .int (i * j)) := opI fun _ _ _ _ _ _ _ hc q => mul_int q hc.ok
theorem op_mod : OpR X (binaryOp .Mod) (rI (fun _ j => 0 < j) fun i j => .int (i % j)) := opI fun i j _ _ _ _ _ hc q => by
  have h1 : (0 : Int) < j := hc
  exact mod_int' (by omega) (by rw [Int.fmod_eq_emod_of_nonneg i (by omega)]; exact q)
theorem unI {f : Value → Sem Value} {g : Int → Int}
    (rule : ∀ (i : Int) (t : Tok) (s : Shared) (Q : Value → Shared → Prop) (E : Value → Shared → Prop), Q (.int (g i) s.toks) { s with toks := s.toks + 1 } → wpAny (model X.prog X.w) X.A (f (.int i t)) Q E s) :
    UnR X f (rU fun i => .int (g i)) := by
  intro pins s σ H x v Q I rx h
  obtain ⟨i, rfl, q⟩ := h
  obtain ⟨t, rfl⟩ := rx
  exact rule i t s _ _ ⟨.int (g i), H, I.tok _, ⟨_, rfl⟩, q⟩
theorem un_neg : UnR X (unaryOp .USub) (rU fun i => .int (-i)) := unI fun _ _ _ _ _ q => neg_int q
end
section
variable {X : Cx} {a b c : Expr} {ta tb tc : TE} {pos : Pos}
theorem fin_bl {pins : List (Addr × Obj)} {σ : St} {H : Hp} {s : Shared} {Q : VK} {k k' : Bool} (I : Inv X pins σ H s) (q : Q (.bl k) H) (e : k = k') : EP X pins σ Q (.bool k') s := by
  subst e
  exact ⟨.bl k, H, I, rfl, q⟩
theorem op_lt : OpR X (compareOp .Lt) (rI0 fun i j => .bl (decide (i < j))) := opB0 fun _ _ _ _ _ _ _ q => lt_int q
theorem op_le : OpR X (compareOp .LtE) (rI0 fun i j => .bl (decide (i ≤ j))) := opB0 fun _ _ _ _ _ _ _ q => le_int q
theorem op_gt : OpR X (compareOp .Gt) (rI0 fun i j => .bl (decide (j < i))) := opB0 fun _ _ _ _ _ _ _ q => gt_int q
theorem op_ge : OpR X (compareOp .GtE) (rI0 fun i j => .bl (decide (j ≤ i))) := opB0 fun _ _ _ _ _ _ _ q => ge_int q
theorem op_lt_str : OpR X (compareOp .Lt) (fun x y H Q => ∃ i j, x = .str i ∧ y = .str j ∧ Q (.bl (decide (i.cps.toList < j.cps.toList))) H) := by
  intro pins s σ H x y v u Q I rx ry h
  obtain ⟨i, j, rfl, rfl, q⟩ := h
  obtain ⟨t, rfl⟩ := rx
  obtain ⟨t', rfl⟩ := ry
  exact lt_str (fin_bl I q rfl)
theorem op_in_str : OpR X (compareOp .In) (fun x y H Q => ∃ i j, x = .str i ∧ y = .str j ∧ Q (.bl (!(Builtin.Str.occurrences j i 0 j.length 1).isEmpty)) H) := by
  intro pins s σ H x y v u Q I rx ry h
  obtain ⟨i, j, rfl, rfl, q⟩ := h
  obtain ⟨t, rfl⟩ := rx
  obtain ⟨t', rfl⟩ := ry
  exact in_str (fin_bl I q rfl)
theorem op_isN : OpR X (compareOp .Is) (fun x y H Q => y = .non ∧ Q (.bl (decide (x = .non))) H) := by
  intro pins s σ H x y v u Q I rx ry h
  obtain ⟨rfl, q⟩ := h
  cases ry
  refine is_none_gen (fin_bl I q ?_)
  cases x <;> first
    | (cases rx; rfl)
    | (obtain ⟨t, rfl⟩ := rx; rfl)
theorem op_notin_str : OpR X (compareOp .NotIn) (fun x y H Q => ∃ i j, x = .str i ∧ y = .str j ∧ Q (.bl (!(!(Builtin.Str.occurrences j i 0 j.length 1).isEmpty))) H) := by
  intro pins s σ H x y v u Q I rx ry h
  obtain ⟨i, j, rfl, rfl, q⟩ := h
  obtain ⟨t, rfl⟩ := rx
  obtain ⟨t', rfl⟩ := ry
  exact notIn_str (fin_bl I q rfl)
theorem OpR.or {f : Value → Value → Sem Value} {r r' : R2} (h : OpR X f r) (h' : OpR X f r') : OpR X f (fun x y H Q => r x y H Q ∨ r' x y H Q) := by
  intro pins s σ H x y v u Q I rx ry q
  rcases q with q | q
  · exact h pins s σ H x y v u Q I rx ry q
  · exact h' pins s σ H x y v u Q I rx ry q
theorem nomark (b : Expr) {op : CmpOp} (h : op ≠ .In := by decide) (h2 : op ≠ .NotIn := by decide) : behindInMarks op b = false := by
  have e1 : (op == CmpOp.In) = false := by cases op <;> first | rfl | exact absurd rfl h
  have e2 : (op == CmpOp.NotIn) = false := by cases op <;> first | rfl | exact absurd rfl h2
  cases b <;> simp [behindInMarks, e1, e2]
theorem pe_cmpR {op : CmpOp} {r : R2} (ho : OpR X (compareOp op) r) (ha : PE X a ta) (hb : PE X b tb) (hm : behindInMarks op b = false) : PE X (.Compare a [op] [b] pos) (tOp r ta tb) := by
  intro pins s σ H Q I h
  exact wpAny_Compare1 (binT ha hb I h fun v u s2 x y H2 I2 rx ry q => ho pins s2 σ H2 x y v u Q I2 rx ry q) hm
noncomputable def tTest (t : TE) : TT := fun σ H Q => t σ H fun x H' => ∃ k, x = .bl k ∧ Q k H'
theorem pt_cmpR {op : CmpOp} {r : R2} (ho : OpR X (compareOp op) r) (ha : PE X a ta) (hb : PE X b tb) (hm : behindInMarks op b = false) : PT X (.Compare a [op] [b] pos) (tTest (tOp r ta tb)) := by
  intro pins s σ H Q I h
  refine wpAny_isTrue_Compare1 (thn (ha pins s σ H _ I h) fun v s1 ⟨x, H1, I1, r1, q1⟩ => thn (hb pins s1 σ H1 _ I1 q1) fun u s2 ⟨y, H2, I2, r2, q2⟩ =>
    thn (ho pins s2 σ H2 x y v u _ I2 r1 r2 q2) fun c s3 ⟨z, H3, I3, r3, k, e, q3⟩ => ?_) hm
  subst e
  cases r3
  exact wpAny_truthy_bool ⟨H3, I3, q3⟩
noncomputable def tChain (r r' : R2) (ta tb tc : TE) : TE := fun σ H Q => ta σ H fun x H1 => tb σ H1 fun y H2 => r x y H2 fun z H3 => ∃ k, z = .bl k ∧
  (if k = true then tc σ H3 fun w' H4 => r' y w' H4 Q else Q (.bl false) H3)
theorem pt_chain {op op' : CmpOp} {r r' : R2} (ho : OpR X (compareOp op) r) (ho' : OpR X (compareOp op') r') (ha : PE X a ta) (hb : PE X b tb) (hc : PE X c tc)
    (hm : lastMarks [op, op'] [b, c] = false := by with_unfolding_all rfl) : PT X (.Compare a [op, op'] [b, c] pos) (tTest (tChain r r' ta tb tc)) := by
  intro pins s σ H Q I h
  refine isTrue_chain (thn (ha pins s σ H _ I h) fun v s1 ⟨x, H1, I1, r1, q1⟩ => test_link (thn (hb pins s1 σ H1 _ I1 q1) fun u s2 ⟨y, H2, I2, r2, q2⟩ =>
    thn (ho pins s2 σ H2 x y v u _ I2 r1 r2 q2) fun d s3 ⟨z, H3, I3, r3, k, e, q3⟩ => ?_)) hm
  subst e
  cases r3
  refine wpAny_truthy_bool ?_
  cases k with
  | false =>
    obtain ⟨k', e', q'⟩ := q3
    cases e'
    exact ite_ff ⟨H3, I3, q'⟩
  | true =>
    refine ite_tt (test_last (thn (hc pins s3 σ H3 _ I3 q3) fun w' s4 ⟨z', H4, I4, r4, q4⟩ => thn (ho' pins s4 σ H4 y z' u w' _ I4 r2 r4 q4) fun d' s5 ⟨z2, H5, I5, r5, k2, e2, q5⟩ => ?_))
    subst e2
    cases r5
    exact wpAny_truthy_bool ⟨H5, I5, q5⟩
noncomputable def TruV (K : PySem.W.Frag) (x : V) (H : Hp) (k : Bool) : Prop :=
  match x with
  | .non => k = false
  | .bl b => k = b
  | .int i => k = (i != 0)
  | .str y => y.length ≤ sizeLine ∧ k = ((y.length : Int) != 0)
  | .byt y => y.size ≤ sizeLine ∧ k = ((y.size : Int) != 0)
  | .ref p => (∃ xs, SqL K H p xs ∧ k = !xs.isEmpty) ∨ (∃ xs, SqT K H p xs ∧ k = !xs.isEmpty) ∨ ∃ kvs ep, H p = some (.dK kvs ep) ∧ k = !kvs.isEmpty
  | _ => False
theorem isEmpty_kv {κ : Type} {kvs : List (κ × V)} {vs : List (κ × Value)} (r : KV kvs vs) : (!vs.isEmpty) = !kvs.isEmpty := by
  cases r <;> rfl
theorem isEmpty_of {xs : List V} {its : List Value} (r : Vals xs its) : (!its.toArray.isEmpty) = !xs.isEmpty := by
  cases r <;> simp
theorem line63 : (sizeLine : Nat) < 2 ^ 63 := by rw [sizeLine_eq]; decide
theorem tru_ok : TruR X (fun x H Q => ∃ k, TruV X.K x H k ∧ Q k H) := by
  intro pins s σ H x v Q I rx h
  obtain ⟨k, e, q⟩ := h
  have hl := line63
  have hs : sizeLine = 16777216 := sizeLine_eq
  cases x with
  | non =>
    cases rx
    have e' : k = false := e
    subst e'
    exact truthy_none ⟨H, I, q⟩
  | bl b =>
    cases rx
    have e' : k = b := e
    subst e'
    exact wpAny_truthy_bool ⟨H, I, q⟩
  | int i =>
    obtain ⟨t, rfl⟩ := rx
    have e' : k = (i != 0) := e
    subst e'
    exact PySem.P.truthy_int ⟨H, I, q⟩
  | str y =>
    obtain ⟨t, rfl⟩ := rx
    obtain ⟨hy, e'⟩ : y.length ≤ sizeLine ∧ k = ((y.length : Int) != 0) := e
    subst e'
    exact PySem.P.truthy_str (by omega) ⟨H, I.tok _, q⟩
  | byt y =>
    obtain ⟨t, rfl⟩ := rx
    obtain ⟨hy, e'⟩ : y.size ≤ sizeLine ∧ k = ((y.size : Int) != 0) := e
    subst e'
    exact PySem.W.truthy_bytes (by omega) ⟨H, I.tok _, q⟩
  | ref p =>
    cases rx
    have e' : (∃ xs, SqL X.K H p xs ∧ k = !xs.isEmpty) ∨ (∃ xs, SqT X.K H p xs ∧ k = !xs.isEmpty) ∨ ∃ kvs ep, H p = some (.dK kvs ep) ∧ k = !kvs.isEmpty := e
    rcases e' with ⟨xs, hx, e'⟩ | ⟨xs, hx, e'⟩ | ⟨kvs, ep, hx, e'⟩
    · subst e'
      obtain ⟨its, r, pl, hz⟩ := I.list hx
      have hlen := r.length
      exact wpAny_truthy_list pl.isList (by simp only [List.size_toArray]; omega) ⟨H, I.tok _, by rw [isEmpty_of r]; exact q⟩
    · subst e'
      obtain ⟨its, r, pl, hz⟩ := I.tuple hx
      have hlen := r.length
      exact truthy_tuple pl (by simp only [List.size_toArray]; omega) ⟨H, I.tok _, by rw [isEmpty_of r]; exact q⟩
    · subst e'
      obtain ⟨hz, hS, vs, r, m⟩ : kvs.length ≤ sizeLine ∧ (p == sysModules) = false ∧ ∃ vs, KV kvs vs ∧ s.heap.DictAt (mixKind X.prog X.w) p vs ep := I.hok p _ hx
      have hlen : kvs.length = vs.length := Paired.length r
      exact wpAny_truthy_dict hS m.dictOf (by omega) ⟨H, I.tok _, by rw [isEmpty_kv r]; exact q⟩
  | _ => exact (show False from e).elim
theorem pt_truth (ha : PE X a ta) (he : ∀ whole, isTrue a X.env whole = (do let v ← whole; standAt a.pos; holding [v] (truthy v))) :
    PT X a (fun σ H Q => ta σ H fun x H' => ∃ k, TruV X.K x H' k ∧ Q k H') := by
  intro pins s σ H Q I h
  exact isTrue_plain (thn (ha pins s σ H _ I h) fun v s1 ⟨x, H1, I1, r1, q1⟩ => tru_ok pins s1 σ H1 x v Q I1 r1 q1) (he _)
theorem op_add_str : OpR X (binaryOp .Add) (fun x y H Q => ∃ i j, x = .str i ∧ y = .str j ∧ i.length + j.length ≤ sizeLine ∧ Q (.str (i ++ j)) H) := by
  intro pins s σ H x y v u Q I rx ry h
  obtain ⟨i, j, rfl, rfl, hz, q⟩ := h
  obtain ⟨t, rfl⟩ := rx
  obtain ⟨t', rfl⟩ := ry
  exact add_str (fun t' tk => ⟨.str (i ++ j), H, I.tok _, ⟨_, rfl⟩, q⟩) hz
theorem vals1 {x : V} {us : List Value} (r : Vals [x] us) : ∃ u, us = [u] ∧ RelV x u := by
  cases r with
  | cons r1 r2 => cases r2; exact ⟨_, rfl, r1⟩
theorem vals2 {x y : V} {us : List Value} (r : Vals [x, y] us) : ∃ u w', us = [u, w'] ∧ RelV x u ∧ RelV y w' := by
  cases r with
  | cons r1 r2 =>
    cases r2 with
    | cons r3 r4 => cases r4; exact ⟨_, _, rfl, r1, r3⟩
theorem call_abs : CallR X (.builtin "abs") (fun xs H Q => ∃ i, xs = [.int i] ∧ Q (.int (if i < 0 then -i else i)) H) := by
  intro pins s σ H xs us Q I r h
  obtain ⟨i, rfl, q⟩ := h
  obtain ⟨u, rfl, t, rfl⟩ := vals1 r
  exact call_abs_int fun u tk => ⟨.int (if i < 0 then -i else i), H, I.tok _, ⟨_, rfl⟩, q⟩
theorem call_max2 (hc : X.calm = true) : CallR X (.builtin "max") (fun xs H Q => ∃ i j, xs = [.int i, .int j] ∧ Q (.int (if j > i then j else i)) H) := by
  intro pins s σ H xs us Q I r h
  obtain ⟨i, j, rfl, q⟩ := h
  obtain ⟨u, w', rfl, ⟨t, rfl⟩, ⟨t', rfl⟩⟩ := vals2 r
  refine max_two_ints (I.ok.hd hc) fun h' tk k => ⟨_, H, I.kept k, ?_, q⟩
  by_cases hj : j > i
  · rw [if_pos hj, if_pos hj]; exact ⟨_, rfl⟩
  · rw [if_neg hj, if_neg hj]; exact ⟨_, rfl⟩
theorem call_min2 (hc : X.calm = true) : CallR X (.builtin "min") (fun xs H Q => ∃ i j, xs = [.int i, .int j] ∧ Q (.int (if j < i then j else i)) H) := by
  intro pins s σ H xs us Q I r h
  obtain ⟨i, j, rfl, q⟩ := h
  obtain ⟨u, w', rfl, ⟨t, rfl⟩, ⟨t', rfl⟩⟩ := vals2 r
  refine min_two_ints (I.ok.hd hc) fun h' tk k => ⟨_, H, I.kept k, ?_, q⟩
  by_cases hj : j < i
  · rw [if_pos hj, if_pos hj]; exact ⟨_, rfl⟩
  · rw [if_neg hj, if_neg hj]; exact ⟨_, rfl⟩
theorem call_int1 : CallR X (.type "int") (fun xs H Q => (∃ i, xs = [.int i] ∧ Q (.int i) H) ∨ ∃ k, xs = [.bl k] ∧ Q (.int (if k then 1 else 0)) H) := by
  intro pins s σ H xs us Q I r h
  rcases h with ⟨i, rfl, q⟩ | ⟨k, rfl, q⟩
  · obtain ⟨u, rfl, t, rfl⟩ := vals1 r
    exact call_int_int ⟨.int i, H, I, ⟨_, rfl⟩, q⟩
  · obtain ⟨u, rfl, r1⟩ := vals1 r
    cases r1
    exact call_int_bool ⟨.int (if k then 1 else 0), H, I.tok _, ⟨_, rfl⟩, q⟩
end
end L2
namespace L2
open PySem PySem.Spec PyProof.Rows
structure ObjM (h : Heap) (x dx C : Addr) (mA : Str → Option Value) : Prop where
  obj : h.get? x = some (PySem.W.instObj C dx)
  ns : h.Ns1 dx mA
  ne : dx ≠ x
theorem lookIn_ns {h : Heap} {dx : Addr} {mA : Str → Option Value} (n : h.Ns1 dx mA) : ∃ od, h.get? dx = some od ∧ ∀ name, PySem.W.lookIn name od = some (mA name) := by
  obtain ⟨o, es, ep, ho, hd, hk, _, hm⟩ := n
  refine ⟨o, ho, fun name => ?_⟩
  have e := hm name
  unfold nsFind findBy at e
  rw [← Array.find?_toList] at e
  unfold PySem.W.lookIn
  rw [hd]
  dsimp only
  split
  · rename_i y q
    rw [q] at e
    exact congrArg some e
  · rename_i q
    rw [q] at e
    have a : es.toList.any (·.refKey) = false := by
      rw [List.any_eq_false]
      intro y hy
      obtain ⟨z, t, hkey⟩ := hk y (Array.mem_toList_iff.mp hy)
      simp [DictEntry.refKey, hkey]
    have a' : ¬ es.toList.any (·.refKey) = true := by rw [a]; exact Bool.false_ne_true
    rw [if_neg a']
    exact congrArg some e
theorem ObjM.look {h : Heap} {x dx C : Addr} {mA : Str → Option Value} (I : ObjM h x dx C mA) : ∃ od, PySem.W.InstAt h x (PySem.W.instObj C dx) C (some od) ∧ ∀ name, PySem.W.lookIn name od = some (mA name) :=
  let ⟨od, ho, hl⟩ := lookIn_ns I.ns
  ⟨od, ⟨I.obj, rfl, rfl, ho⟩, hl⟩
section
variable {prog : Program} {w : World} {A : Around} {E : Value → Shared → Prop} {s : Shared} {K : PySem.W.Frag} {x dx C f : Addr} {mA : Str → Option Value} {name : Str} {v : Value}
end
theorem RelO.some_of {v : V} {o : Option Value} (r : RelO (some v) o) : ∃ u, o = some u ∧ RelV v u := by
  cases o with
  | none => exact (show False from r).elim
  | some u => exact ⟨u, rfl, r⟩
theorem RelO.none_of {o : Option Value} (r : RelO none o) : o = none := by
  cases o with
  | none => rfl
  | some u => exact (show False from r).elim
section
variable {P : Program} {w : World} {H H' : Hp} {h h' : Heap} {a C dx : Addr} {fs fs' : List (Str × V)}
end
structure Cls (K : PySem.W.Frag) (C : Addr) : Prop where
  pg : PySem.W.plainGet K C Str.empty = true
  hd : PySem.W.hasDictIn K C = true
  po : PySem.W.plainOver K C = true
  sa : PySem.W.findIn K (.ref C) "__setattr__" = some (some (.builtin "object.__setattr__"))
theorem Cls.get {K : PySem.W.Frag} {C : Addr} (c : Cls K C) (f : Str) : PySem.W.plainGet K C f = true := c.pg
structure Con (K : PySem.W.Frag) (C : Addr) (f : Str) (v : V) (u : Value) : Prop where
  at_ : PySem.W.findIn K (.ref C) f = some (some u)
  rel : RelV v u
  get : PySem.W.specialIn K u "__get__" = some none
  cp : PySem.W.copiedNames.contains f = false
structure Meth (K : PySem.W.Frag) (C : Addr) (m : Str) (f : Addr) : Prop where
  at_ : PySem.W.findIn K (.ref C) m = some (some (.ref f))
  fn : PySem.W.isFn K (.ref f) = true
  kp : PySem.W.keepIn K (.ref f) = true
section
variable {X : Cx} {pins : List (Addr × Obj)} {σ : St} {H : Hp} {s : Shared} {a C dx : Addr} {fs : List (Str × V)} {f : Str} {v : V} {A : Around} {E : Value → Shared → Prop}
end
section
variable {X : Cx} {o e value : Expr} {f : Str} {pos pos' tpos : Pos} {ta tv : TE}
end
section
variable {X : Cx} {pins : List (Addr × Obj)} {σ : St} {H : Hp} {s : Shared} {A : Around} {E : Value → Shared → Prop} {Q : Value → Shared → Prop} {c : Value} {b : Bool}
inductive TyOf (K : PySem.W.Frag) (H : Hp) : V → Value → Prop where
  | non : TyOf K H .non (.type "NoneType")
  | bl (x : Bool) : TyOf K H (.bl x) (.type "bool")
  | int (i : Int) : TyOf K H (.int i) (.type "int")
  | str (x : Str) : TyOf K H (.str x) (.type "str")
  | flt (x : UInt64) : TyOf K H (.flt x) (.type "float")
  | lst {a : Addr} {xs : List V} (e : H a = some (.lst xs)) : TyOf K H (.ref a) (.type "list")
  | frz {a : Addr} {o : Obj} {xs : List V} (e : H a = some (.frz o (.lst xs))) : TyOf K H (.ref a) (.type "list")
  | tup {a : Addr} {xs : List V} (e : H a = some (.tup xs)) : TyOf K H (.ref a) (.type "tuple")
  | dK {a : Addr} {kvs : List (Key × V)} {ep : Nat} (e : H a = some (.dK kvs ep)) : TyOf K H (.ref a) (.type "dict")
  | dT {a : Addr} {kvs : List (List Key × V)} (e : H a = some (.dT kvs)) : TyOf K H (.ref a) (.type "dict")
  | ins {a C dx : Addr} {fs : List (Str × V)} (e : H a = some (.ins C dx fs)) (cl : Cls K C) (ha : PySem.W.findIn K (.ref C) "__class__" = some (some (.builtin "object.__class__")))
      (hn : PySem.W.specialIn K (.builtin "object.__class__") "__get__" = some (some (.builtin "getset_descriptor.__get__"))) (htk : PySem.W.takesIn K (.builtin "object.__class__") = some true)
      (hm : PySem.W.mroIn K C (.type "object") = some true) : TyOf K H (.ref a) (.ref C)
end
end L2
namespace L2
open PySem PySem.Spec PyProof.Rows
structure Room (k : Nat) (A : Around) : Prop where
  hd : A.handled = none
  dp : A.depth + 3 * k + 5 < recursionLimit
  un : A.units + 16 * k + 200 < cLine
theorem Room.mono {j k : Nat} {A : Around} (r : Room k A) (h : j ≤ k) : Room j A := ⟨r.hd, by have := r.dp; omega, by have := r.un; omega⟩
theorem Room.deeper {k : Nat} {A : Around} (r : Room (k + 1) A) (env : Env) : Room k (A.deeper env) :=
  ⟨r.hd, by have := r.dp; show A.depth + 1 + 3 * k + 5 < _; omega, by have := r.un; show A.units + 3 + 16 * k + 200 < _; omega⟩
theorem Room.in1 {k : Nat} {A : Around} (r : Room (k + 1) A) : Room k A.in1 :=
  ⟨r.hd, by have := r.dp; show A.depth + 3 * k + 5 < _; omega, by have := r.un; show A.units + 1 + 16 * k + 200 < _; omega⟩
theorem Room.depth {k : Nat} {A : Around} (r : Room k A) : A.depth < recursionLimit := by have := r.dp; omega
theorem Room.units {k : Nat} {A : Around} (r : Room k A) : A.units + 64 < cLine := by have := r.un; omega
theorem Room.units0 {k : Nat} {A : Around} (r : Room k A) : A.units < cLine := by have := r.un; omega
noncomputable def tNil : TA := fun _ H Q => Q [] H
noncomputable def tCons (ta : TE) (tr : TA) : TA := fun σ H Q => ta σ H fun x H1 => tr σ H1 fun xs H2 => Q (x :: xs) H2
section
variable {X : Cx} {e : Expr} {es : List Expr} {te : TE} {t : TA} {pos : Pos}
theorem pa_nil : PA X [] tNil := fun _ _ _ _ H Q I h => Calls.spliced_nil ⟨[], H, I, .nil, h⟩
theorem pa_cons (ha : PE X e te) (hr : PA X es t) (hs : starEach (e :: es) X.env = (false, eval e X.env) :: starEach es X.env := by rfl) : PA X (e :: es) (tCons te t) := by
  intro pos pins s σ H Q I h
  rw [hs]
  show wpAny _ _ (spliced ((false, eval e X.env) :: backTo pos (starEach es X.env))) _ _ s
  refine Calls.spliced_cons (thn (ha pins s σ H _ I h) fun u s1 ⟨x, H1, I1, r1, q1⟩ => ?_)
  exact thn (hr pos pins s1 σ H1 _ I1 q1) fun us s2 ⟨xs, H2, I2, r2, q2⟩ => ⟨x :: xs, H2, I2, .cons r1 r2, q2⟩
noncomputable def tTup (t : TA) : TE := fun σ H Q => t σ H fun xs H1 => xs.length ≤ sizeLine ∧ ∀ p, H1 p = none → Q (.ref p) (upd H1 p (.tup xs))
noncomputable def tLst (t : TA) : TE := fun σ H Q => t σ H fun xs H1 => xs.length ≤ sizeLine ∧ ∀ p, H1 p = none → Q (.ref p) (upd H1 p (.lst xs))
theorem pe_tup {x1} (h : PA X es t) : PE X (.Tuple es x1 pos) (tTup t) := by
  intro pins s σ H Q I hq
  refine wpAny_Tuple_spliced (thn (h pos pins s σ H _ I hq) fun us s1 ⟨xs, H1, I1, r, z, q⟩ => ⟨by rw [← r.length]; exact z, ?_⟩)
  have hf : H1 s1.heap.objs.size = none := I1.hok.fresh (Nat.le_refl _)
  refine ⟨.ref s1.heap.objs.size, upd H1 s1.heap.objs.size (.tup xs), I1.laid (t' := s1.toks) (fun b u e => Heap.get?_push_of_some _ e) (Nat.le_refl _) ?_, rfl, q _ hf⟩
  exact ⟨z, us, r, ⟨_, Heap.get?_push_size _ rfl, rfl, _, rfl⟩⟩
theorem pe_lst (h : PA X es t) : PE X (.List es pos) (tLst t) := by
  intro pins s σ H Q I hq
  refine wpAny_List_spliced (thn (h pos pins s σ H _ I hq) fun us s1 ⟨xs, H1, I1, r, z, q⟩ => ⟨by rw [← r.length]; exact z, ?_⟩)
  have hf : H1 s1.heap.objs.size = none := I1.hok.fresh (Nat.le_refl _)
  refine ⟨.ref s1.heap.objs.size, upd H1 s1.heap.objs.size (.lst xs), I1.laid (t' := s1.toks) (fun b u e => Heap.get?_push_of_some _ e) (Nat.le_refl _) ?_, rfl, q _ hf⟩
  exact ⟨z, us, 0, r, Heap.get?_push_size _ rfl⟩
end
noncomputable abbrev Sp := List V → Hp → VK → XK → Prop
noncomputable abbrev CXT := List Env → Hp → Shared → XK → Value → Shared → Prop
structure Env0 (P : Program) (w : World) (K : PySem.W.Frag) (mg : Str → Option Value) (base : Heap) (A : Around) (outer : List Env) (s : Shared) (H : Hp) : Prop where
  frames : A.frames = some outer
  mod : Mod K mg base
  bs : ∀ b o, base.get? b = some o → s.heap.get? b = some o ∧ H b = none
  bsz : base.objs.size ≤ s.heap.objs.size
  funs : s.heap.FunFrames base outer
  frf : ∀ b ∈ frs outer, H b = none
  hok : HOk P w H s.heap
  bare : AllBare s.gens
noncomputable def CE (outer : List Env) (P : Program) (w : World) (H : Hp) (s : Shared) (Q : VK) (u : Value) (s' : Shared) : Prop :=
  ∃ v H', s'.os = s.os ∧ AllBare s'.gens ∧ Un (frs outer) [] H H' s.heap s'.heap ∧ HOk P w H' s'.heap ∧ RelV v u ∧ Q v H'
noncomputable def CR (CX : CXT) (outer : List Env) (P : Program) (w : World) (H : Hp) (s : Shared) (Q : VK) (E : XK) (r : Result) (s' : Shared) : Prop :=
  match r with
  | .ok (.ret u) => CE outer P w H s Q u s'
  | .ok _ => False
  | .error e => CX outer H s E e s'
structure FnOk (P : Program) (w : World) (K : PySem.W.Frag) (mg : Str → Option Value) (base : Heap) (CX : CXT) (k : Nat) (f : Addr) (fd : FuncData) (ps : List Str) (sp : Sp) : Prop where
  len : ∀ vs H Q E, sp vs H Q E → vs.length = ps.length
  run : ∀ (A : Around) (outer : List Env) (s : Shared) (H : Hp) (args : Args) (us : List Value) (vs : List V) (Q : VK) (E : XK), Room k A → Env0 P w K mg base A outer s H → BindsTo s fd args (ps.zip us) → Vals vs us → sp vs H Q E →
    codeAny (model P w) A (.call (.ref f) args) (CR CX outer P w H s Q E) s
theorem FnOk.mono {P : Program} {w : World} {K : PySem.W.Frag} {mg : Str → Option Value} {base : Heap} {CX : CXT} {j k : Nat} {f : Addr} {fd : FuncData} {ps : List Str} {sp : Sp} (F : FnOk P w K mg base CX j f fd ps sp) (h : j ≤ k) :
    FnOk P w K mg base CX k f fd ps sp := ⟨F.len, fun A outer s H args us vs Q E hr => F.run A outer s H args us vs Q E (hr.mono h)⟩
theorem FnOk.imp {P : Program} {w : World} {K : PySem.W.Frag} {mg : Str → Option Value} {base : Heap} {CX : CXT} {k : Nat} {f : Addr} {fd : FuncData} {ps : List Str} {sp sp' : Sp} (F : FnOk P w K mg base CX k f fd ps sp)
    (h : ∀ vs H Q E, sp' vs H Q E → sp vs H Q E) : FnOk P w K mg base CX k f fd ps sp' :=
  ⟨fun vs H Q E q => F.len vs H Q E (h _ _ _ _ q), fun A outer s H args us vs Q E hr he hb hv hs => F.run A outer s H args us vs Q E hr he hb hv (h _ _ _ _ hs)⟩
theorem Env0.in1 {P : Program} {w : World} {K : PySem.W.Frag} {mg : Str → Option Value} {base : Heap} {A : Around} {outer : List Env} {s : Shared} {H : Hp} (e : Env0 P w K mg base A outer s H) :
    Env0 P w K mg base A.in1 outer s H := ⟨e.frames, e.mod, e.bs, e.bsz, e.funs, e.frf, e.hok, e.bare⟩
section
variable {X : Cx} {pins : List (Addr × Obj)} {σ : St} {H : Hp} {s s' : Shared}
theorem Inv.env0 (I : Inv X pins σ H s) : Env0 X.prog X.w X.K X.mg X.base X.A X.stack s H :=
  ⟨I.ok.frames, I.ok.mod, I.bs, Nat.le_trans I.ok.bsz I.sz, I.stack, I.stkFree, I.hok, I.bare⟩
theorem Inv.after {Q : VK} {u : Value} (I : Inv X pins σ H s) (h : CE X.stack X.prog X.w H s Q u s') : EP X pins σ Q u s' := by
  obtain ⟨v, H', os, bare, un, hok, r, q⟩ := h
  obtain ⟨hh, g, d, t, os'⟩ := s'
  obtain rfl : os' = s.os := os
  exact ⟨v, H', I.call (h' := hh) (g' := g) (d' := d) (t' := t) (ch := []) un hok bare (fun b z => absurd z (by simp)), r, q⟩
end
noncomputable def tCall (sp : Sp) (dvs : List V) (E : XK) (t : TA) : TE := fun σ H Q => t σ H fun vs H1 => sp (vs ++ dvs) H1 Q E
noncomputable def Binds (K : PySem.W.Frag) (fd : FuncData) (ps : List Str) (ds : List Value) : Prop :=
  ∀ (s : Shared) (us : List Value), K.In s.heap → (us ++ ds).length = ps.length → BindsTo s fd ⟨us, []⟩ (ps.zip (us ++ ds))
theorem Binds.all {K : PySem.W.Frag} {fd : FuncData} {ps : List Str} (h : ∀ us : List Value, us.length = ps.length → bindArgs fd ⟨us, []⟩ = pure (ps.zip us)) : Binds K fd ps [] := fun s us _ hl => by
  rw [List.append_nil] at hl ⊢
  exact .of_eq (h us hl)
noncomputable def Passes (CX : CXT) (X : Cx) (E : XK) : Prop := ∀ (pins : List (Addr × Obj)) (σ : St) (H : Hp) (s : Shared) (e : Value) (s' : Shared), Inv X pins σ H s → CX X.stack H s E e s' → X.xe e s'
section
variable {X : Cx} {CX : CXT} {k : Nat} {f C : Addr} {fd : FuncData} {ps : List Str} {sp : Sp} {dvs : List V} {ds : List Value} {E : XK} {x m : Str} {p pos apos : Pos} {e o : Expr} {es : List Expr} {ta : TE} {t : TA}
theorem run_fn {pins : List (Addr × Obj)} {σ : St} {H : Hp} {s : Shared} {Q : VK} {us : List Value} {vs : List V} (F : FnOk X.prog X.w X.K X.mg X.base CX k f fd ps sp) (hr : Room k X.A) (hb : Binds X.K fd ps ds) (hd : Vals dvs ds) (hx : Passes CX X E)
    (I : Inv X pins σ H s) (r : Vals vs us) (h : sp (vs ++ dvs) H Q E) : wpAny (model X.prog X.w) X.A (call (.ref f) us) (EP X pins σ Q) X.xe s := by
  have r2 : Vals (vs ++ dvs) (us ++ ds) := r.append hd
  have hl : (us ++ ds).length = ps.length := by rw [← r2.length]; exact F.len _ _ _ _ h
  refine wpAny_call (codeAny_mono (F.run X.A X.stack s H ⟨us, []⟩ (us ++ ds) (vs ++ dvs) Q E hr I.env0 (hb s us I.kIn hl) r2 h) fun r s' hq => ?_)
  cases r with
  | error e => exact hx pins σ H s e s' I hq
  | ok fl =>
    cases fl with
    | ret u => exact I.after hq
    | next => exact False.elim hq
    | brk => exact False.elim hq
    | cont => exact False.elim hq
theorem pe_call (F : FnOk X.prog X.w X.K X.mg X.base CX k f fd ps sp) (hr : Room k X.A) (hg : Gl X x) (hm : X.mg x = some (.ref f)) (hk : PySem.W.keepIn X.K (.ref f) = true) (hb : Binds X.K fd ps ds) (hd : Vals dvs ds) (hx : Passes CX X E)
    (ha : PA X (e :: es) t) (hdb : (x == ("__debug__" : Str)) = false := by decide) (he : starEach (e :: es) X.env = (false, eval e X.env) :: starEach es X.env := by rfl) (hpl : (backTo pos (starEach es X.env)).any (·.1) = false := by rfl) :
    PE X (.Call (.Name x p) (e :: es) [] pos) (tCall sp dvs E t) := by
  intro pins s σ H Q I h
  refine wpAny_Call_Name_kw (ld_glob I hg hm ?_ hdb)
  refine PySem.W.callWith_K (h₀ := X.base) I.ok.mod.kin hk (thn (ha pos pins s σ H _ I h) fun us s1 ⟨vs, H1, I1, r, q⟩ => ⟨I1.kIn, ?_⟩) he hpl
  exact run_fn F hr hb hd hx I1 r q
structure Mk (K : PySem.W.Frag) (C f : Addr) : Prop where
  makes : PySem.W.makesIn K C = true
  init : PySem.W.findIn K (.ref C) "__init__" = some (some (.ref f))
  fn : PySem.W.isFn K (.ref f) = true
  kp : PySem.W.keepIn K (.ref C) = true
end
section
variable {X : Cx} {CX : CXT} {k : Nat} {f C : Addr} {fd : FuncData} {ps ks : List Str} {sp : Sp} {E : XK} {x m : Str} {p pos apos kpos : Pos} {e o : Expr} {es : List Expr} {kws : List Keyword} {te ta : TE} {t tk : TA} {nm : Option Str}
structure KBinds (K : PySem.W.Frag) (fd : FuncData) (ps ks : List Str) (g : List Value → List Value → List Value) (gV : List V → List V → List V) : Prop where
  to : ∀ (s : Shared) (us ws : List Value), K.In s.heap → (g us ws).length = ps.length → BindsTo s fd ⟨us, ks.zip ws⟩ (ps.zip (g us ws))
  rel : ∀ {vs : List V} {us : List Value} {zs : List V} {ws : List Value}, Vals vs us → Vals zs ws → Vals (gV vs zs) (g us ws)
variable {g : List Value → List Value → List Value} {gV : List V → List V → List V}
end
structure FnScope (N P : List Str) (sc : Scope) : Prop where
  kind : sc.kind = .function
  co : sc.isCoroutine = false
  gen : sc.isGenerator = false
  nd : N.Nodup
  pre : N.take P.length = P
  par : ∀ x ∈ P, sc.names.lookup x = some .local ∨ sc.names.lookup x = some .cell
  nofree : ∀ y ∈ sc.names, y.2 ≠ .free
theorem bindL_out {kindOf : Str → Option NameKind} {x : Str} : ∀ {binds : List (Str × Value)} {m : Str → Option Value}, (∀ v, (x, v) ∉ binds) → bindL kindOf binds m x = m x
  | [], _, _ => rfl
  | (n, v) :: r, m, h => by
    unfold bindL
    rw [bindL_out fun w hw => h w (List.mem_cons_of_mem _ hw)]
    split
    · have : x ≠ n := by rintro rfl; exact h v List.mem_cons_self
      simp [this]
    · rfl
theorem bindC_out {kindOf : Str → Option NameKind} {x : Str} : ∀ {binds : List (Str × Value)} {m : Str → Option Value}, (∀ v, (x, v) ∉ binds) → bindC kindOf binds m x = m x
  | [], _, _ => rfl
  | (n, v) :: r, m, h => by
    unfold bindC
    rw [bindC_out fun w hw => h w (List.mem_cons_of_mem _ hw)]
    split
    · rfl
    · have : x ≠ n := by rintro rfl; exact h v List.mem_cons_self
      simp [this]
theorem bindL_get {kindOf : Str → Option NameKind} {x : Str} {v : Value} : ∀ {P : List Str} {vs : List Value} {i : Nat} {m : Str → Option Value}, P.Nodup → P[i]? = some x → vs[i]? = some v → kindOf x = some .local →
    bindL kindOf (P.zip vs) m x = some v
  | [], _, _, _, _, h, _, _ => by simp at h
  | _ :: _, [], _, _, _, _, h, _ => by simp at h
  | p :: P, w :: vs, 0, m, nd, h1, h2, hk => by
    simp at h1 h2; subst h1; subst h2
    show bindL kindOf ((p, w) :: P.zip vs) m p = _
    unfold bindL
    rw [bindL_out fun v hv => (List.nodup_cons.mp nd).1 (List.of_mem_zip hv).1, if_pos hk]
    simp
  | p :: P, w :: vs, i + 1, m, nd, h1, h2, hk => by
    show bindL kindOf ((p, w) :: P.zip vs) m x = _
    unfold bindL
    exact bindL_get (i := i) (List.nodup_cons.mp nd).2 (by simpa using h1) (by simpa using h2) hk
theorem bindC_get {kindOf : Str → Option NameKind} {x : Str} {v : Value} : ∀ {P : List Str} {vs : List Value} {i : Nat} {m : Str → Option Value}, P.Nodup → P[i]? = some x → vs[i]? = some v → kindOf x ≠ some .local →
    bindC kindOf (P.zip vs) m x = some v
  | [], _, _, _, _, h, _, _ => by simp at h
  | _ :: _, [], _, _, _, _, h, _ => by simp at h
  | p :: P, w :: vs, 0, m, nd, h1, h2, hk => by
    simp at h1 h2; subst h1; subst h2
    show bindC kindOf ((p, w) :: P.zip vs) m p = _
    unfold bindC
    rw [bindC_out fun v hv => (List.nodup_cons.mp nd).1 (List.of_mem_zip hv).1, if_neg hk]
    simp
  | p :: P, w :: vs, i + 1, m, nd, h1, h2, hk => by
    show bindC kindOf ((p, w) :: P.zip vs) m x = _
    unfold bindC
    exact bindC_get (i := i) (List.nodup_cons.mp nd).2 (by simpa using h1) (by simpa using h2) hk
noncomputable def start (N : List Str) (vs : List V) : St := vs.map some ++ List.replicate (N.length - vs.length) none
noncomputable def cxOf (CX : CXT) (P : Program) (w : World) (K : PySem.W.Frag) (mg : Str → Option Value) (base : Heap) (N : List Str) (qual : Str) (scope : Scope) (f : Addr) (cd : Value) (A : Around) (outer : List Env) (s : Shared) (H : Hp) (E : XK) : Cx where
  prog := P
  w := w
  K := K
  mg := mg
  base := base
  A := A.deeper (envOfC qual scope s.heap.objs.size f cd)
  N := N
  s₀ := s
  H₀ := H
  env := envOfC qual scope s.heap.objs.size f cd
  outer := outer
  stack := envOfC qual scope s.heap.objs.size f cd :: outer
  ex := []
  calm := true
  fn := fun _ => true
  pn := []
  xe := fun e s' => wpAny (model P w) (A.deeper (envOfC qual scope s.heap.objs.size f cd)) (leaving (envOfC qual scope s.heap.objs.size f cd) e) (fun _ s'' => CX outer H s E e s'') (fun e' s'' => CX outer H s E e' s'') s'
theorem cell_has {sc : Scope} {n : Nat} {x : Str} (h : sc.names.lookup x = some .cell) : ∃ c, (cellsFrom n sc.names []).lookup x = some c := by
  have q := PySem.W.cellsFrom_some sc.names n [] (.inl h)
  exact Option.isSome_iff_exists.mp q
theorem inv_start {CX : CXT} {P : Program} {w : World} {K : PySem.W.Frag} {mg : Str → Option Value} {base : Heap} {N ps : List Str} {qual : Str} {scope : Scope} {f : Addr} {cd : Value} {A : Around} {outer : List Env} {s s1 : Shared} {H : Hp} {E : XK} {us : List Value} {vs : List V}
    (S : FnScope N ps scope) (hd : A.handled = none) (e0 : Env0 P w K mg base A outer s H) (hl : vs.length = ps.length) (r : Vals vs us)
    (x : InCallC s s.heap.objs.size (bindL (envOfC qual scope s.heap.objs.size f cd).kindOf (ps.zip us) fun _ => none) (cellsFrom (s.heap.objs.size + 1) scope.names []) (bindC (envOfC qual scope s.heap.objs.size f cd).kindOf (ps.zip us) fun _ => none) s1) :
    Inv (cxOf CX P w K mg base N qual scope f cd A outer s H E) [] (start N vs) H s1 := by
  have hpl : ps.length ≤ N.length := by have := congrArg List.length S.pre; rw [List.length_take] at this; omega
  obtain ⟨h1, tk, rfl, hk⟩ := x.done
  have noA : ∀ b : Addr, b ∉ (cxOf CX P w K mg base N qual scope f cd A outer s H E).ex := fun b z => absurd (show b ∈ ([] : List Addr) from z) (by simp)
  refine ⟨⟨e0.mod, S.kind, rfl, rfl, Nat.le_refl _, fun y z c h1 h2 => ?_, fun y hy => ?_, fun y c _ h => ?_, fun _ => hd, Around.frames_deeper e0.frames, .inr ⟨rfl, rfl⟩, fun b z => absurd z (noA b), e0.bs, e0.bsz, fun b _ _ => noA b, fun b z => absurd z (noA b), e0.funs, e0.frf⟩,
    rfl, e0.bare, Un.kept hk, ⟨_, x.toInCall.ns, fun i y v h1 h2 h3 => ?_⟩, fun y c h => ⟨_, x.cell y c h⟩, e0.hok.fresh (Nat.le_refl _), fun y c h => ?_, fun p hp => absurd (show p ∈ ([] : List (Addr × Obj)) from hp) (by simp), e0.hok.kept hk, ?_⟩
  · exact name_of_addr x.apart (PySem.mem_of_lookup h1) (PySem.mem_of_lookup h2)
  · have hy : scope.names.lookup y = some .cell ∨ scope.names.lookup y = some .free := hy
    rcases hy with hy | hy
    · exact cell_has hy
    · exact absurd rfl (S.nofree _ (PySem.mem_of_lookup hy))
  · exact Nat.le_of_lt (x.above y c (PySem.mem_of_lookup h))
  · have hi : i < vs.length := by
      unfold start at h2
      by_cases hi : i < vs.length
      · exact hi
      · rw [List.getElem?_append_right (by simpa using hi)] at h2
        rw [List.getElem?_replicate] at h2
        split at h2 <;> cases h2
    have ha : vs[i]? = some v := by
      unfold start at h2
      rw [List.getElem?_append_left (by simpa using hi), List.getElem?_map] at h2
      cases e : vs[i]? with
      | none => rw [e] at h2; cases h2
      | some a => rw [e] at h2; cases h2; rfl
    obtain ⟨u, hu, rv⟩ := r.get ha
    have hp : ps[i]? = some y := by
      rw [← S.pre, List.getElem?_take_of_lt (by omega)]; exact h1
    have ndP : ps.Nodup := by rw [← S.pre]; exact S.nd.sublist (List.take_sublist _ _)
    refine ⟨u, rv, ?_⟩
    rcases S.par y (List.mem_of_getElem? hp) with k | k
    · exact .inl ⟨k, bindL_get ndP hp hu k⟩
    · obtain ⟨c, e⟩ := cell_has (n := s.heap.objs.size + 1) k
      refine .inr ⟨.inl k, c, e, ?_⟩
      have q := x.cell y c e
      rw [bindC_get ndP hp hu (by show scope.names.lookup y ≠ _; rw [k]; decide)] at q
      exact q
  · exact e0.hok.fresh (Nat.le_of_lt (x.above y c (PySem.mem_of_lookup h)))
  · unfold start
    show _ = N.length
    rw [List.length_append, List.length_map, List.length_replicate]
    omega
theorem fn_of {CX : CXT} {P : Program} {w : World} {K : PySem.W.Frag} {mg : Str → Option Value} {base : Heap} {k : Nat} {f : Addr} {name qual : Str} {params : Arguments} {body : List Stmt} {scope : Scope} {dV kV doc pm cdv ct oc : Value} {an od : Option Addr}
    {osl : Array (Option Value)} {N ps : List Str} {sp : Sp} (lk : K.lookup f = some ⟨oc, od, .func (PySem.W.fnOf name qual params body scope dV kV doc pm an cdv ct), osl⟩) (hcd : PySem.W.codeIn K cdv qual = true) (S : FnScope N ps scope)
    (len : ∀ vs H Q E, sp vs H Q E → vs.length = ps.length)
    (hbody : ∀ (A : Around) (outer : List Env) (s : Shared) (H : Hp) (vs : List V) (Q : VK) (E : XK), Room k (A.deeper (envOfC qual scope s.heap.objs.size f cdv)) → sp vs H Q E →
      ∃ t, PSs (cxOf CX P w K mg base N qual scope f cdv A outer s H E) body t ∧ t { nx := fun _ H' => Q .non H', rt := Q } (start N vs) H) :
    FnOk P w K mg base CX (k + 1) f (PySem.W.fnOf name qual params body scope dV kV doc pm an cdv ct) ps sp := by
  refine ⟨len, fun A outer s H args us vs Q E hr e0 hb r hsp => ?_⟩
  have hl := len _ _ _ _ hsp
  have KX : K.In s.heap := e0.mod.kin.keeps fun b o e => (e0.bs b o e).1
  have lim : s.heap.NoLimit := e0.mod.nolimit.keeps fun b o e => (e0.bs b o e).1
  have hkind : ∀ y ∈ ps.zip us, scope.names.lookup y.1 = some .local ∨ (scope.names.lookup y.1 = some .cell ∧ ((cellsFrom (s.heap.objs.size + 1) scope.names []).lookup y.1).isSome = true) := fun ⟨n, v⟩ hy => by
    rcases S.par n (List.of_mem_zip hy).1 with q | q
    · exact .inl q
    · exact .inr ⟨q, PySem.W.cellsFrom_some _ _ _ (.inl q)⟩
  refine codeAny_call_function hr.depth (KX _ _ lk) rfl S.co S.gen rfl (PySem.W.codeRec_of KX hcd) (hb _ _ _ _ ?_)
  refine wpAny_newFunctionEnv_cells S.kind hkind fun env he s1 x => ?_
  subst he
  refine ⟨lim.keeps x.toInCall.keep, codeAny_func ?_⟩
  obtain ⟨t, ht, hq⟩ := hbody A outer s H vs Q E (hr.deeper _) hsp
  have I : Inv (cxOf CX P w K mg base N qual scope f cdv A outer s H E) [] (start N vs) H s1 := inv_start S hr.hd e0 hl r x
  refine wpAny_mono (ht [] s1 (start N vs) H _ I hq) (fun fl s' hs => ?_) fun e s' hs => hs
  have fin : ∀ {σ' : St} {H' : Hp} {v : V} {u : Value}, Inv (cxOf CX P w K mg base N qual scope f cdv A outer s H E) [] σ' H' s' → RelV v u → Q v H' → CE outer P w H s Q u s' :=
    fun {σ' H' v u} J rv q => ⟨v, H', J.os, J.bare, J.base, J.hok, rv, q⟩
  cases fl with
  | ret u =>
    obtain ⟨v, σ', H', J, rv, q⟩ := hs
    exact fin J rv q
  | next =>
    obtain ⟨σ', H', J, q⟩ := hs
    exact fin (v := V.non) (u := Value.none) J rfl q
  | brk =>
    obtain ⟨_, _, _, q⟩ := hs
    exact False.elim q
  | cont =>
    obtain ⟨_, _, _, q⟩ := hs
    exact False.elim q
end L2
namespace L2
open PySem PySem.Spec PyProof.Rows
section
variable {X : Cx} {x : Str} {p pos : Pos} {e : Expr} {es : List Expr} {t : TA} {id T : String} {r : List V → Hp → VK → Prop}
noncomputable def tCB (r : List V → Hp → VK → Prop) (t : TA) : TE := fun σ H Q => t σ H fun vs H1 => r vs H1 Q
theorem pe_callB (hc : CallR X (.builtin id) r) (hg : Gl X x) (hm : X.mg x = none) (hv : bootBuiltins x = some (.builtin id)) (ha : PA X (e :: es) t) (hn : x ≠ "__name__" := by decide) (hdb : (x == ("__debug__" : Str)) = false := by decide)
    (he : starEach (e :: es) X.env = (false, eval e X.env) :: starEach es X.env := by rfl) (hpl : (backTo pos (starEach es X.env)).any (·.1) = false := by rfl) : PE X (.Call (.Name x p) (e :: es) [] pos) (tCB r t) := by
  intro pins s σ H Q I h
  refine wpAny_Call_Name_kw (ld_blt I hg hm hv ?_ hn hdb)
  exact PyProof.Rows.callWith_builtin1 (thn (ha pos pins s σ H _ I h) fun us s1 ⟨vs, H1, I1, r1, q1⟩ => hc pins s1 σ H1 vs us Q I1 r1 q1) he hpl
theorem pe_callTy (hc : CallR X (.type T) r) (hg : Gl X x) (hm : X.mg x = none) (hv : bootBuiltins x = some (.type T)) (ha : PA X (e :: es) t) (hn : x ≠ "__name__" := by decide) (hdb : (x == ("__debug__" : Str)) = false := by decide)
    (he : starEach (e :: es) X.env = (false, eval e X.env) :: starEach es X.env := by rfl) (hpl : (backTo pos (starEach es X.env)).any (·.1) = false := by rfl) : PE X (.Call (.Name x p) (e :: es) [] pos) (tCB r t) := by
  intro pins s σ H Q I h
  refine wpAny_Call_Name_kw (ld_blt I hg hm hv ?_ hn hdb)
  exact PyProof.Rows.callWith_type1 (thn (ha pos pins s σ H _ I h) fun us s1 ⟨vs, H1, I1, r1, q1⟩ => hc pins s1 σ H1 vs us Q I1 r1 q1) he hpl
end
end L2
namespace HT
open PySem PyProof.Rows
section
open PySem.SeqAt
open PySem.AutoSeq1 (wpAny_loadPart')
open PySem.MeetsSeq PySem.MeetsSeq2 PySem.MeetsSeq3
end
section
variable {prog : Program} {w : World} {A : Around} {E : Value → Shared → Prop} {s : Shared}
theorem cat_tup {t b : Addr} {vs ws : List Value} {Q : Value → Shared → Prop} (ht : IsTup s.heap t vs.toArray) (hb : IsTup s.heap b ws.toArray) (hv : vs ≠ [])
    (h1 : ws = [] → Q (.ref t) s) (h2 : ws ≠ [] → Q (.ref s.heap.objs.size) { s with heap := s.heap.push { cls := .type "tuple", data := .seq (vs ++ ws).toArray } })
    (hsz : vs.length + ws.length ≤ sizeLine) : wpAny (model prog w) A (binaryOp .Add (.ref t) (.ref b)) Q E s := by
  obtain ⟨⟨cls, dd, data, sl⟩, ho, hc, n, hd⟩ := id ht
  obtain ⟨⟨cls2, dd2, data2, sl2⟩, ho2, hc2, n2, hd2⟩ := id hb
  simp only at hc hd hc2 hd2
  subst hc hd hc2 hd2
  have e : vs.toArray ++ ws.toArray = (vs ++ ws).toArray := by simp
  by_cases hw : ws = []
  · exact concat_meets ⟨_, ho, rfl⟩ ⟨_, ho2, rfl⟩ noFill_tuple_add seq_tuple_add PySem.F.slot_tuple_add PySem.F.entry_tuple_add (PySem.F.args_tuple_add_2 _ _)
      (tuple_addW1 t b vs.toArray ws.toArray n n2 dd dd2 sl sl2 (by simpa using hv) (by simp [hw])) ⟨ho, ho2, h1 hw⟩
  · refine concat_meets ⟨_, ho, rfl⟩ ⟨_, ho2, rfl⟩ noFill_tuple_add seq_tuple_add PySem.F.slot_tuple_add PySem.F.entry_tuple_add (PySem.F.args_tuple_add_2 _ _)
      (tuple_addW2 t b vs.toArray ws.toArray n n2 dd dd2 sl sl2 (by simpa using hv) (by simpa using hw) (by rw [List.size_toArray, List.size_toArray]; exact hsz)) ⟨ho, ho2, ?_⟩
    rw [e]
    exact h2 hw
noncomputable def sIx (n d : Nat) : Option Int → Nat
  | none => d
  | some v => if v < 0 then (v + (n : Int)).toNat else min v.toNat n
theorem sIx_none (n d : Nat) : sIx n d none = d := rfl
theorem sIx_le (n d : Nat) (hd : d ≤ n) (o : Option Int) : sIx n d o ≤ n := by
  cases o with
  | none => exact hd
  | some v =>
    show (if v < 0 then (v + (n : Int)).toNat else min v.toNat n) ≤ n
    by_cases hv : v < 0
    · rw [if_pos hv]; omega
    · rw [if_neg hv]; exact Nat.min_le_right _ _
theorem clip_eq (v : Int) (n d : Nat) : (if v < 0 then max (v + (n : Int)) 0 else min v (n : Int)) = ((sIx n d (some v) : Nat) : Int) := by
  show (if v < 0 then max (v + (n : Int)) 0 else min v (n : Int)) = (((if v < 0 then (v + (n : Int)).toNat else min v.toNat n) : Nat) : Int)
  by_cases hv : v < 0
  · simp only [if_pos hv]; omega
  · simp only [if_neg hv]; omega
theorem adjust_gen (lo hi : Option Int) (n : Nat) : Builtin.Slice.sliceAdjust lo hi 1 (n : Int) = (((sIx n 0 lo : Nat) : Int), ((sIx n n hi : Nat) : Int)) := by
  have h1 : ¬ ((1 : Int) < 0) := by omega
  unfold Builtin.Slice.sliceAdjust
  simp only [h1, if_false]
  refine Prod.ext ?_ ?_
  · cases lo with
    | none => rfl
    | some v => exact clip_eq v n 0
  · cases hi with
    | none => rfl
    | some v => exact clip_eq v n n
theorem places_gen (i j : Nat) : Builtin.Slice.slicePlaces (i : Int) (j : Int) 1 = j - i := by
  unfold Builtin.Slice.slicePlaces
  have h1 : (1 : Int) > 0 := by omega
  simp only [h1, if_true, Int.ediv_one]
  split <;> omega
theorem slicePart_ {v : Value} {o : Option Int} {Q : Option Int → Shared → Prop} (p : IsPart v o) (h : Q o s) : wpAny (model prog w) A (Builtin.Slice.slicePartIndex v) Q E s := by
  cases p with
  | none => exact slicePart_none h
  | int i t => exact slicePart_int h
theorem sliceApplied_gen {sl : Addr} {vl vu : Value} {lo hi : Option Int} {n : Nat} {Q : Int × Int × Nat → Shared → Prop} (hs : s.heap.IsSliceOf sl vl vu .none) (pl : IsPart vl lo) (pu : IsPart vu hi)
    (h : Q (((sIx n 0 lo : Nat) : Int), 1, sIx n n hi - sIx n 0 lo) s) : wpAny (model prog w) A (Builtin.Slice.sliceApplied (.ref sl) (pure (n : Int))) Q E s := by
  obtain ⟨os, hos, hcs, hds⟩ := id hs
  unfold Builtin.Slice.sliceApplied Builtin.Slice.sliceFields
  refine wpAny_bind (wpAny_bind (wpAny_field hos hds (x := vl) rfl (wpAny_bind (wpAny_field hos hds (x := vu) rfl (wpAny_bind (wpAny_field hos hds (x := .none) rfl (wpAny_pure ?_)))))))
  refine wpAny_bind (slicePart_none ?_)
  show wpAny _ _ (if ((1 : Int) == 0) = true then _ else _) _ _ s
  rw [if_neg (by decide)]
  refine wpAny_bind (slicePart_ pl (wpAny_bind (slicePart_ pu (wpAny_bind (wpAny_pure ?_)))))
  show wpAny _ _ (match Builtin.Slice.sliceAdjust lo hi 1 (n : Int) with | (lo, hi) => pure (lo, (1 : Int), Builtin.Slice.slicePlaces lo hi 1)) _ _ s
  rw [adjust_gen lo hi n]
  show wpAny _ _ (pure (((sIx n 0 lo : Nat) : Int), (1 : Int), Builtin.Slice.slicePlaces ((sIx n 0 lo : Nat) : Int) ((sIx n n hi : Nat) : Int) 1)) _ _ s
  rw [places_gen]
  exact wpAny_pure h
theorem pick_gen (xs : Array Value) (i k : Nat) : ((List.range k).filterMap fun (m : Nat) => xs[((i : Int) + (m : Int) * 1).toNat]?).toArray = ((xs.toList.drop i).take k).toArray := by
  have e : (fun (m : Nat) => xs[((i : Int) + (m : Int) * 1).toNat]?) = fun m => xs[i + m]? := by
    funext m
    have : ((i : Int) + (m : Int) * 1).toNat = i + m := by omega
    rw [this]
  rw [e]
  have := pick_run xs i k
  rw [List.filterMap_map] at this
  have e2 : ((fun x => xs[x]?) ∘ fun x => i + x) = fun m => xs[i + m]? := rfl
  rw [e2] at this
  rw [this]
theorem getItem_tuple_cut {t sl : Addr} {items : Array Value} {vl vu : Value} {lo hi : Option Int} {Q : Value → Shared → Prop} (ht : IsTup s.heap t items) (hs : s.heap.IsSliceOf sl vl vu .none) (pl : IsPart vl lo) (pu : IsPart vu hi)
    (hw : ¬ (sIx items.size 0 lo = 0 ∧ sIx items.size items.size hi = items.size))
    (h : Q (.ref s.heap.objs.size) { s with heap := s.heap.push { cls := .type "tuple", data := .seq ((items.toList.drop (sIx items.size 0 lo)).take (sIx items.size items.size hi - sIx items.size 0 lo)).toArray } })
    (hsz : items.size ≤ sizeLine) : wpAny (model prog w) A (getItem (.ref t) (.ref sl)) Q E s := by
  have htake : sizeOk (.seq ((items.toList.drop (sIx items.size 0 lo)).take (sIx items.size items.size hi - sIx items.size 0 lo)).toArray) := by
    show ((items.toList.drop (sIx items.size 0 lo)).take (sIx items.size items.size hi - sIx items.size 0 lo)).toArray.size ≤ sizeLine
    rw [List.size_toArray, List.length_take, List.length_drop, Array.length_toList]
    omega
  have hj : sIx items.size items.size hi ≤ items.size := sIx_le _ _ (Nat.le_refl _) hi
  obtain ⟨os, hos, hcs, hds⟩ := id hs
  have hTs : s.TypeIs (.ref sl) "slice" := ⟨os, hos, hcs⟩
  unfold getItem
  try with_reducible refine wpAny_holding ?_
  first | refine wpAny_bind (wpAny_pure ?_) | skip
  refine wpAny_bind (wpAny_sequenceKey ht.typeIs (by decide) ?_)
  refine wpAny_bind (wpAny_callSpecial?_slot (name := Str.ofString "__getitem__") ht.typeIs PyProof.Rows.slot_tuple_getitem
    (wpAny_call_entry PyProof.Rows.slot_tuple_getitem ht.typeIs entry_tuple_getitem ?_ (args_tuple_getitem _ _)))
  show wpAny _ _ (Builtin.Tuple.tupleItemsOf (.ref t) >>= _) _ _ s
  refine wpAny_bind (tupleItemsOf_ ht ?_)
  refine wpAny_bind (wpAny_typeOf hTs ?_)
  rw [if_pos (by decide)]
  refine wpAny_bind (sliceApplied_gen hs pl pu ?_)
  have hno : ¬ ((((sIx items.size 0 lo : Nat) : Int) == 0 && (1 : Int) == 1 && (sIx items.size items.size hi - sIx items.size 0 lo) == items.size) = true) := by
    intro q
    rw [Bool.and_eq_true, Bool.and_eq_true] at q
    have q1 : ((sIx items.size 0 lo : Nat) : Int) = 0 := eq_of_beq q.1.1
    have q2 : sIx items.size items.size hi - sIx items.size 0 lo = items.size := eq_of_beq q.2
    exact hw ⟨by omega, by omega⟩
  show wpAny _ _ (if (((sIx items.size 0 lo : Nat) : Int) == 0 && (1 : Int) == 1 && (sIx items.size items.size hi - sIx items.size 0 lo) == items.size) = true then _ else _) _ _ s
  rw [if_neg hno, pick_gen]
  first
    | exact wpAny_bind (m := Builtin.Tuple.tupleExact _) (wpAny_newObj_type (wpAny_pure ⟨_, rfl, wpAny_pure h⟩) htake)
    | exact wpAny_bind (m := Builtin.Tuple.tupleExact _) (wpAny_newObj_type (wpAny_bind (wpAny_pure (wpAny_pure ⟨_, rfl, wpAny_pure h⟩))) htake)
    | exact wpAny_bind (wpAny_bind (m := Builtin.Tuple.tupleExact _) (wpAny_newObj_type (wpAny_pure (wpAny_pure ⟨_, rfl, wpAny_pure h⟩)) htake))
    | exact wpAny_bind (wpAny_bind (m := Builtin.Tuple.tupleExact _) (wpAny_newObj_type (wpAny_pure ⟨_, rfl, wpAny_pure h⟩) htake))
end
end HT
namespace L2
open PySem PySem.Spec PyProof.Rows
noncomputable abbrev TO := St → Hp → (Option Int → Hp → Prop) → Prop
noncomputable def PO (X : Cx) (e : Option Expr) (t : TO) : Prop :=
  ∀ (pins : List (Addr × Obj)) (s : Shared) (σ : St) (H : Hp) (Q : Option Int → Hp → Prop), Inv X pins σ H s → t σ H Q →
    wpAny (model X.prog X.w) X.A (evalPart e X.env) (fun u s' => ∃ o H', Inv X pins σ H' s' ∧ IsPart u o ∧ Q o H') X.xe s
noncomputable def tNoPart : TO := fun _ H Q => Q none H
noncomputable def tPart (t : TE) : TO := fun σ H Q => t σ H fun x H1 => ∃ i, x = .int i ∧ Q (some i) H1
section
variable {X : Cx} {e : Expr} {te : TE} {lo hi : Option Expr} {tl th : TO} {pos p2 : Pos}
theorem po_none : PO X none tNoPart := by
  intro pins s σ H Q I h
  rw [evalPart_none]
  exact wpAny_pure ⟨none, H, I, .none, h⟩
theorem po_some (h : PE X e te) : PO X (some e) (tPart te) := by
  intro pins s σ H Q I hw
  rw [evalPart_some]
  refine thn (h pins s σ H _ I hw) fun u s1 ⟨x, H1, I1, r1, q1⟩ => ?_
  obtain ⟨i, rfl, q⟩ := q1
  obtain ⟨t, rfl⟩ := r1
  exact ⟨some i, H1, I1, .int i t, q⟩
noncomputable def SlR (X : Cx) (r : V → Option Int → Option Int → Hp → VK → Prop) : Prop :=
  ∀ (pins : List (Addr × Obj)) (s : Shared) (σ : St) (H : Hp) (x : V) (v vl vu : Value) (lo hi : Option Int) (sl : Addr) (Q : VK), Inv X pins σ H s → RelV x v → s.heap.IsSliceOf sl vl vu .none → IsPart vl lo → IsPart vu hi → r x lo hi H Q →
    ∃ T id, typeLookup (.type T) "__getitem__" = pure (some (.builtin id)) ∧ s.TypeIs v T ∧ wpAny (model X.prog X.w) X.A (getItem v (.ref sl)) (EP X pins σ Q) X.xe s
theorem SlR.or {r r' : V → Option Int → Option Int → Hp → VK → Prop} (h : SlR X r) (h' : SlR X r') : SlR X (fun x lo hi H Q => r x lo hi H Q ∨ r' x lo hi H Q) := by
  intro pins s σ H x v vl vu lo hi sl Q I rx hs pl pu q
  rcases q with q | q
  · exact h pins s σ H x v vl vu lo hi sl Q I rx hs pl pu q
  · exact h' pins s σ H x v vl vu lo hi sl Q I rx hs pl pu q
noncomputable def tSl (r : V → Option Int → Option Int → Hp → VK → Prop) (te : TE) (tl th : TO) : TE := fun σ H Q => te σ H fun x H1 => tl σ H1 fun l H2 => th σ H2 fun u H3 => r x l u H3 Q
theorem pe_slice {r : V → Option Int → Option Int → Hp → VK → Prop} (hr : SlR X r) (he : PE X e te) (hl : PO X lo tl) (hu : PO X hi th) : PE X (.Subscript e (.Slice lo hi none p2) pos) (tSl r te tl th) := by
  intro pins s σ H Q I h
  refine Subscript_ (thn (he pins s σ H _ I h) fun v s1 ⟨x, H1, I1, r1, q1⟩ => ?_)
  refine wpAny_Slice (thn (hl pins s1 σ H1 _ I1 q1) fun vl s2 ⟨l, H2, I2, pl, q2⟩ => thn (hu pins s2 σ H2 _ I2 q2) fun vu s3 ⟨u, H3, I3, pu, q3⟩ => ?_)
  rw [evalPart_none]
  refine wpAny_pure ?_
  have I4 : Inv X pins σ H3 { s3 with heap := s3.heap.push { cls := .type "slice", data := .fields #[vl, vu, .none] } } := I3.kept (t' := s3.toks) fun b ob q => Heap.get?_push_of_some _ q
  obtain ⟨T, id, hT, ht, hg⟩ := hr pins { s3 with heap := s3.heap.push { cls := .type "slice", data := .fields #[vl, vu, .none] } } σ H3 x v vl vu l u s3.heap.objs.size Q I4 r1 (Heap.IsSliceOf.new ..) pl pu q3
  show wpAny (model X.prog X.w) X.A (subscriptTail e (.Slice lo hi none p2) v (.ref s3.heap.objs.size)) (EP X pins σ Q) X.xe { s3 with heap := s3.heap.push { cls := .type "slice", data := .fields #[vl, vu, .none] } }
  exact tail_any (ops := [.ref s3.heap.objs.size, v]) ht hT hg (by with_unfolding_all rfl)
noncomputable def cutV (xs : List V) (lo hi : Option Int) : List V := (xs.drop (HT.sIx xs.length 0 lo)).take (HT.sIx xs.length xs.length hi - HT.sIx xs.length 0 lo)
theorem cutV_length (xs : List V) (lo hi : Option Int) : (cutV xs lo hi).length ≤ xs.length := by
  unfold cutV
  rw [List.length_take, List.length_drop]
  omega
noncomputable def rSlT (K : PySem.W.Frag) : V → Option Int → Option Int → Hp → VK → Prop := fun x lo hi H Q => ∃ a xs, x = .ref a ∧ SqT K H a xs ∧
  ¬ (HT.sIx xs.length 0 lo = 0 ∧ HT.sIx xs.length xs.length hi = xs.length) ∧ ∀ p, H p = none → Q (.ref p) (upd H p (.tup (cutV xs lo hi)))
theorem sl_tup : SlR X (rSlT X.K) := by
  intro pins s σ H x v vl vu lo hi sl Q I rx hs pl pu h
  obtain ⟨a, xs, rfl, hx, hw, q⟩ := h
  cases rx
  obtain ⟨its, r, ht, hz⟩ := I.tuple hx
  have hlen : its.toArray.size = xs.length := by rw [List.size_toArray]; exact r.length.symm
  refine ⟨"tuple", _, PyProof.Rows.slot_tuple_getitem.lookup, ht.typeIs, ?_⟩
  refine HT.getItem_tuple_cut ht hs pl pu (by rw [hlen]; exact hw) ?_ (by rw [hlen]; exact hz)
  rw [hlen]
  refine ⟨.ref s.heap.objs.size, _, I.laid (t' := s.toks) (o := .tup (cutV xs lo hi)) (fun b ob q => Heap.get?_push_of_some _ q) (Nat.le_refl _) ?_, rfl, q _ (I.hok.fresh (Nat.le_refl _))⟩
  exact ⟨Nat.le_trans (cutV_length xs lo hi) hz, _, (r.drop (HT.sIx xs.length 0 lo)).take (HT.sIx xs.length xs.length hi - HT.sIx xs.length 0 lo), IsTup.new _ _⟩
theorem Vals.nil_iff {xs : List V} {us : List Value} (r : Vals xs us) : us = [] ↔ xs = [] := by
  cases r with
  | nil => simp
  | cons _ _ => simp
end
end L2
namespace L2
open PySem PySem.Spec PyProof.Rows
noncomputable def ixN (n : Nat) (i : Int) : Option Nat := if 0 ≤ i then (if i < n then some i.toNat else none) else if -(n : Int) ≤ i then some (i + n).toNat else none
noncomputable def atI {α : Type} (xs : List α) (i : Int) : Option α := (ixN xs.length i).bind fun j => xs[j]?
theorem ixN_seq {n : Nat} {i : Int} {j : Nat} (h : ixN n i = some j) : seqIndex? i n = some j ∧ j < n ∧ -(n : Int) ≤ i ∧ i < n := by
  unfold ixN at h
  by_cases h0 : 0 ≤ i
  · rw [if_pos h0] at h
    by_cases h1 : i < n
    · rw [if_pos h1] at h
      have e : i.toNat = j := Option.some.inj h
      exact ⟨by rw [seqIndex_of h0 h1, e], by omega, by omega, h1⟩
    · rw [if_neg h1] at h; cases h
  · rw [if_neg h0] at h
    by_cases h1 : -(n : Int) ≤ i
    · rw [if_pos h1] at h
      have e : (i + n).toNat = j := Option.some.inj h
      exact ⟨by rw [seqIndex_neg (by omega) h1, e], by omega, h1, by omega⟩
    · rw [if_neg h1] at h; cases h
theorem atI_get {α : Type} {xs : List α} {i : Int} {v : α} (h : atI xs i = some v) : ∃ j, seqIndex? i xs.length = some j ∧ xs[j]? = some v ∧ j < xs.length ∧ -(xs.length : Int) ≤ i ∧ i < xs.length := by
  unfold atI at h
  cases e : ixN xs.length i with
  | none => rw [e] at h; cases h
  | some j =>
    rw [e] at h
    obtain ⟨h1, h2, h3, h4⟩ := ixN_seq e
    exact ⟨j, h1, h, h2, h3, h4⟩
theorem atI_nat {α : Type} {xs : List α} {j : Nat} {v : α} (h : xs[j]? = some v) : atI xs (j : Int) = some v := by
  have hj : j < xs.length := (List.getElem?_eq_some_iff.mp h).1
  have e : ixN xs.length (j : Int) = some j := by
    unfold ixN
    rw [if_pos (by omega), if_pos (by omega)]; simp
  unfold atI; rw [e]; exact h
noncomputable def PlainIx (b : Expr) : Prop := ∀ o i, subscripted b false o i = operate [o, i] (getItem o i)
noncomputable def IxR (X : Cx) (r : R2) : Prop :=
  ∀ (value slice : Expr) (pins : List (Addr × Obj)) (s : Shared) (σ : St) (H : Hp) (x y : V) (v u : Value) (Q : VK), Inv X pins σ H s → RelV x v → RelV y u → r x y H Q →
    subscripted slice false v u = operate [v, u] (getItem v u) → wpAny (model X.prog X.w) X.A (subscriptTail value slice v u) (EP X pins σ Q) X.xe s
noncomputable def MtR (X : Cx) (id : String) (r : V → List V → Hp → VK → Prop) : Prop :=
  ∀ (pins : List (Addr × Obj)) (s : Shared) (σ : St) (H : Hp) (x : V) (xs : List V) (v : Value) (us : List Value) (Q : VK), Inv X pins σ H s → RelV x v → Vals xs us → r x xs H Q →
    wpAny (model X.prog X.w) X.A (call (.builtin id) (v :: us)) (EP X pins σ Q) X.xe s
section
variable {X : Cx} {a b : Expr} {ta tb : TE} {pos : Pos}
theorem IxR.or {r r' : R2} (h : IxR X r) (h' : IxR X r') : IxR X (fun x y H Q => r x y H Q ∨ r' x y H Q) := by
  intro value slice pins s σ H x y v u Q I rx ry q hs
  rcases q with q | q
  · exact h value slice pins s σ H x y v u Q I rx ry q hs
  · exact h' value slice pins s σ H x y v u Q I rx ry q hs
theorem MtR.or {id : String} {r r' : V → List V → Hp → VK → Prop} (h : MtR X id r) (h' : MtR X id r') : MtR X id (fun x xs H Q => r x xs H Q ∨ r' x xs H Q) := by
  intro pins s σ H x xs v us Q I rx rs q
  rcases q with q | q
  · exact h pins s σ H x xs v us Q I rx rs q
  · exact h' pins s σ H x xs v us Q I rx rs q
theorem pe_ix {r : R2} (hr : IxR X r) (ha : PE X a ta) (hb : PE X b tb) (hs : PlainIx b) : PE X (.Subscript a b pos) (tOp r ta tb) := by
  intro pins s σ H Q I h
  exact Subscript_ (binT ha hb I h fun v u s2 x y H2 I2 rx ry q => hr a b pins s2 σ H2 x y v u Q I2 rx ry q (hs _ _))
noncomputable def rIxL (K : PySem.W.Frag) : R2 := fun x y H Q => ∃ p xs i v, x = .ref p ∧ y = .int i ∧ SqL K H p xs ∧ atI xs i = some v ∧ Q v H
noncomputable def rIxT (K : PySem.W.Frag) : R2 := fun x y H Q => ∃ p xs i v, x = .ref p ∧ y = .int i ∧ SqT K H p xs ∧ atI xs i = some v ∧ Q v H
noncomputable def rIxS : R2 := fun x y H Q => ∃ z i c, x = .str z ∧ y = .int i ∧ z.length ≤ sizeLine ∧ atI z.cps.toList i = some c ∧ Q (.str ⟨#[c]⟩) H
theorem ix_list : IxR X (rIxL X.K) := by
  intro value slice pins s σ H x y v u Q I rx ry h hs
  obtain ⟨p, xs, i, z, rfl, rfl, hq, he, q⟩ := h
  cases rx
  obtain ⟨t, rfl⟩ := ry
  obtain ⟨its, r, pl, hz⟩ := I.list hq
  obtain ⟨j, h1, h2, h3, h4, h5⟩ := atI_get he
  obtain ⟨w, ew, rw'⟩ := r.get h2
  have hl := r.length
  have hn := line63
  have fin : EP X pins σ Q w s := ⟨z, H, I, rw', q⟩
  by_cases h0 : 0 ≤ i
  · have hj : i.toNat = j := by
      rw [seqIndex_of h0 h5] at h1
      exact Option.some.inj h1
    exact item_listR pl.isList h0 (by omega) (by rw [hj]; simpa using ew) fin hs
  · have hj : (i + (its.toArray.size : Int)).toNat = j := by
      rw [seqIndex_neg (by omega) h4] at h1
      rw [List.size_toArray, ← hl]
      exact Option.some.inj h1
    exact subscriptTail_builtinR (x := w) pl.isList.typeIs slot_list_getitem.lookup
      (wpAny_getItem_list_neg (Q := fun r s' => r = w ∧ EP X pins σ Q r s') pl.isList (by omega) (by rw [List.size_toArray] <;> omega) (by omega) (by rw [hj]; simpa using ew) ⟨rfl, fin⟩) hs
theorem ix_tup : IxR X (rIxT X.K) := by
  intro value slice pins s σ H x y v u Q I rx ry h hs
  obtain ⟨p, xs, i, z, rfl, rfl, hq, he, q⟩ := h
  cases rx
  obtain ⟨t, rfl⟩ := ry
  obtain ⟨its, r, pl, hz⟩ := I.tuple hq
  obtain ⟨j, h1, h2, h3, h4, h5⟩ := atI_get he
  obtain ⟨w, ew, rw'⟩ := r.get h2
  have hl := r.length
  have hn := line63
  have fin : EP X pins σ Q w s := ⟨z, H, I, rw', q⟩
  exact subscriptTail_builtinR (x := w) pl.typeIs slot_tuple_getitem.lookup
    (getItem_tuple (j := j) (Q := fun r s' => r = w ∧ EP X pins σ Q r s') pl (by omega) (by omega) (by rw [List.size_toArray, ← hl]; exact h1) (by simpa using ew) ⟨rfl, fin⟩) hs
theorem ix_str : IxR X rIxS := by
  intro value slice pins s σ H x y v u Q I rx ry h hs
  obtain ⟨z, i, c, rfl, rfl, hz, he, q⟩ := h
  obtain ⟨t, rfl⟩ := rx
  obtain ⟨t', rfl⟩ := ry
  obtain ⟨j, h1, h2, h3, h4, h5⟩ := atI_get he
  have hl : z.cps.toList.length = z.length := by simp [Str.length]
  rw [hl] at h1 h4 h5
  have hn := line63
  exact tail_any (typeIs_str s z t) slot_str_getitem.lookup (getItem_str (c := c) (by
    have e1 : decide (i < -(2 ^ 63 : Int)) = false := decide_eq_false (by omega)
    have e2 : decide (i ≥ 2 ^ 63) = false := decide_eq_false (by omega)
    rw [e1, e2, Bool.or_false]) (by rw [h1]; simpa using h2) ⟨.str ⟨#[c]⟩, H, I.tok _, ⟨_, rfl⟩, q⟩) hs
theorem mapSeq_set (its : List Value) (n j : Nat) (u : Value) : Obj.mapSeq (·.setIfInBounds j u) { cls := .type "list", data := .seq its.toArray n } = { cls := .type "list", data := .seq (its.set j u).toArray n } := by
  simp [Obj.mapSeq]
theorem Inv.lst {pins : List (Addr × Obj)} {σ : St} {H : Hp} {s : Shared} {p : Addr} {xs : List V} (I : Inv X pins σ H s) (h : H p = some (.lst xs)) :
    ∃ (its : List Value) (n : Nat), Vals xs its ∧ s.heap.get? p = some { cls := .type "list", data := .seq its.toArray n } ∧ xs.length ≤ sizeLine := by
  obtain ⟨z, its, n, r, e⟩ := I.hok p _ h
  exact ⟨its, n, r, e, z⟩
theorem Inv.lstUpd {pins : List (Addr × Obj)} {σ : St} {H : Hp} {s : Shared} {p : Addr} {xs ys : List V} {its its' : List Value} {n n' : Nat} {f : Obj → Obj} (I : Inv X pins σ H s) (h : H p = some (.lst xs))
    (ho : s.heap.get? p = some { cls := .type "list", data := .seq its.toArray n }) (hf : f { cls := .type "list", data := .seq its.toArray n } = { cls := .type "list", data := .seq its'.toArray n' }) (r : Vals ys its') (hz : ys.length ≤ sizeLine) (t : Nat) :
    Inv X pins σ (upd H p (.lst ys)) { s with heap := s.heap.update p f, toks := t } := by
  have e : (s.heap.update p f).get? p = some { cls := .type "list", data := .seq its'.toArray n' } := by
    rw [Heap.get?_update_self f ho (by rw [hf] <;> rfl), hf]
  refine I.write (x := p) (e := p) (by rw [h]; trivial) (.inl rfl) (fun b u hb q => (Heap.get?_update_other _ _ (Ne.symm hb)).trans q) ⟨_, e⟩ ?_
  exact ⟨hz, its', n', r, e⟩
noncomputable def rSetL : V → V → V → Hp → (Hp → Prop) → Prop := fun o i v H Q => ∃ p xs k j, o = .ref p ∧ i = .int k ∧ H p = some (.lst xs) ∧ ixN xs.length k = some j ∧ Q (upd H p (.lst (xs.set j v)))
theorem set_list : PSet X rSetL := by
  intro pins s σ H o i v ov iv u Q I ro ri rv h
  obtain ⟨p, xs, k, j, rfl, rfl, hp, hj, q⟩ := h
  cases ro
  obtain ⟨t, rfl⟩ := ri
  obtain ⟨its, n, r, ho, hz⟩ := I.lst hp
  obtain ⟨h1, h2, h3, h4⟩ := ixN_seq hj
  have hl := r.length
  have hn := line63
  have I' : Inv X pins σ (upd H p (.lst (xs.set j v))) { s with heap := s.heap.update p (Obj.mapSeq (·.setIfInBounds j u)) } :=
    I.lstUpd hp ho (mapSeq_set its n j u) (r.set rv j) (by rw [List.length_set]; exact hz) s.toks
  by_cases h0 : 0 ≤ k
  · have hk : k.toNat = j := by
      rw [seqIndex_of h0 h4] at h1
      exact Option.some.inj h1
    exact PySem.W.ki_setAt ho h0 (by omega) (by rw [List.size_toArray, ← hl]; exact h4) (by rw [hk]; exact ⟨_, I', q⟩)
  · have hk : (k + (its.toArray.size : Int)).toNat = j := by
      rw [seqIndex_neg (by omega) h3] at h1
      rw [List.size_toArray, ← hl]
      exact Option.some.inj h1
    exact PySem.W.ki_setBack ho (by omega) (by rw [List.size_toArray, ← hl]; exact h3) (by omega) (by rw [hk]; exact ⟨_, I', q⟩)
theorem slice_bounds (lo hi : Option Int) (n : Nat) : (sliceBounds lo hi none n).1 = ((HT.sIx n 0 lo : Nat) : Int) ∧ (sliceBounds lo hi none n).2.1 = ((HT.sIx n n hi : Nat) : Int) ∧ (sliceBounds lo hi none n).2.2 = 1 := by
  refine ⟨?_, ?_, rfl⟩
  · cases lo with
    | none => simp [sliceBounds, HT.sIx]
    | some i =>
      simp only [sliceBounds, HT.sIx, Option.getD_none, show (1 : Int) > 0 by decide, if_true]
      by_cases h : i < 0
      · simp only [h, if_true] <;> omega
      · simp only [h, if_false] <;> omega
  · cases hi with
    | none => simp [sliceBounds, HT.sIx]
    | some i =>
      simp only [sliceBounds, HT.sIx, Option.getD_none, show (1 : Int) > 0 by decide, if_true]
      by_cases h : i < 0
      · simp only [h, if_true] <;> omega
      · simp only [h, if_false] <;> omega
theorem slicePick_cut (its : List Value) (lo hi : Option Int) : slicePick its.toArray lo hi none = ((its.drop (HT.sIx its.length 0 lo)).take (HT.sIx its.length its.length hi - HT.sIx its.length 0 lo)).toArray := by
  obtain ⟨h1, h2, h3⟩ := slice_bounds lo hi its.toArray.size
  unfold slicePick
  rw [h1, h2, h3]
  simp only [sliceRange_one, pick_run, List.size_toArray] <;> rfl
noncomputable def rSlL (K : PySem.W.Frag) : V → Option Int → Option Int → Hp → VK → Prop := fun x lo hi H Q => ∃ a xs, x = .ref a ∧ SqL K H a xs ∧ ∀ p, H p = none → Q (.ref p) (upd H p (.lst (cutV xs lo hi)))
theorem sl_list : SlR X (rSlL X.K) := by
  intro pins s σ H x v vl vu lo hi sl Q I rx hs pl pu h
  obtain ⟨a, xs, rfl, hx, q⟩ := h
  cases rx
  obtain ⟨its, r, ht, hz⟩ := I.list hx
  have hlen := r.length
  refine ⟨"list", _, slot_list_getitem.lookup, ht.isList.typeIs, ?_⟩
  refine wpAny_getItem_list_slice ht.isList hs pl pu .none (by simp) ?_ (by rw [List.size_toArray] <;> omega)
  rw [slicePick_cut, ← hlen]
  refine ⟨.ref s.heap.objs.size, _, I.laid (t' := s.toks) (o := .lst (cutV xs lo hi)) (fun b ob q => Heap.get?_push_of_some _ q) (Nat.le_refl _) ?_, rfl, q _ (I.hok.fresh (Nat.le_refl _))⟩
  exact ⟨Nat.le_trans (cutV_length xs lo hi) hz, _, 0, (r.drop (HT.sIx xs.length 0 lo)).take (HT.sIx xs.length xs.length hi - HT.sIx xs.length 0 lo), Heap.get?_push_size _ rfl⟩
noncomputable def flatV : V → Bool
  | .non => true
  | .bl _ => true
  | .int _ => true
  | .str _ => true
  | _ => false
noncomputable def eqV : V → V → Bool
  | .non, .non => true
  | .bl a, .bl b => a == b
  | .bl a, .int b => (if a then 1 else 0) == b
  | .int a, .bl b => a == (if b then 1 else 0)
  | .int a, .int b => a == b
  | .str a, .str b => a == b
  | _, _ => false
theorem eqAt_V {A : Around} {s : Shared} {y x : V} {u v : Value} (ry : RelV y u) (rx : RelV x v) (fy : flatV y = true) (fx : flatV x = true) : SeqAt.EqAt A s u v (eqV y x) := by
  cases y with
  | non =>
    cases ry
    cases x with
    | non => cases rx; exact SeqAt.EqAt.same _
    | bl b => cases rx; exact SeqAt.EqAt.none_bool b
    | int b => obtain ⟨t, rfl⟩ := rx; exact SeqAt.EqAt.none_int b t
    | str b => obtain ⟨t, rfl⟩ := rx; exact SeqAt.EqAt.none_str b t
    | _ => exact absurd (show false = true from fx) Bool.false_ne_true
  | bl a =>
    cases ry
    cases x with
    | non => cases rx; exact SeqAt.EqAt.bool_none a
    | bl b => cases rx; exact SeqAt.EqAt.bool_bool a b
    | int b => obtain ⟨t, rfl⟩ := rx; exact SeqAt.EqAt.bool_int a b t
    | str b => obtain ⟨t, rfl⟩ := rx; exact SeqAt.EqAt.bool_str a b t
    | _ => exact absurd (show false = true from fx) Bool.false_ne_true
  | int a =>
    obtain ⟨t', rfl⟩ := ry
    cases x with
    | non => cases rx; exact SeqAt.EqAt.int_none a t'
    | bl b => cases rx; exact SeqAt.EqAt.int_bool a t' b
    | int b => obtain ⟨t, rfl⟩ := rx; exact SeqAt.EqAt.int_int a t' b t
    | str b => obtain ⟨t, rfl⟩ := rx; exact SeqAt.EqAt.int_str a t' b t
    | _ => exact absurd (show false = true from fx) Bool.false_ne_true
  | str a =>
    obtain ⟨t', rfl⟩ := ry
    cases x with
    | non => cases rx; exact SeqAt.EqAt.str_none a t'
    | bl b => cases rx; exact SeqAt.EqAt.str_bool a t' b
    | int b => obtain ⟨t, rfl⟩ := rx; exact SeqAt.EqAt.str_int a t' b t
    | str b => obtain ⟨t, rfl⟩ := rx; exact SeqAt.EqAt.str_str a t' b t
    | _ => exact absurd (show false = true from fx) Bool.false_ne_true
  | _ => exact absurd (show false = true from fy) Bool.false_ne_true
theorem call_len_seq : CallR X (.builtin "len") (fun xs H Q => ∃ p ys, xs = [.ref p] ∧ (SqL X.K H p ys ∨ SqT X.K H p ys) ∧ Q (.int ys.length) H) := by
  intro pins s σ H xs us Q I r h
  obtain ⟨p, ys, rfl, hq, q⟩ := h
  obtain ⟨u, rfl, rx⟩ := vals1 r
  cases rx
  have hn := line63
  rcases hq with hq | hq
  · obtain ⟨its, r', pl, hz⟩ := I.list hq
    have hlen := r'.length
    exact Calls.call_len_list pl.isList (by simp only [List.size_toArray] <;> omega) ⟨.int ys.length, H, I.tok _, ⟨s.toks + 1, by rw [List.size_toArray, hlen]⟩, q⟩
  · obtain ⟨its, r', pl, hz⟩ := I.tuple hq
    have hlen := r'.length
    exact len_tuple pl (by simp only [List.size_toArray] <;> omega) ⟨.int ys.length, H, I.tok _, ⟨s.toks + 1, by rw [List.size_toArray, hlen]⟩, q⟩
theorem call_len_str : CallR X (.builtin "len") (fun xs H Q => ∃ z, xs = [.str z] ∧ z.length ≤ sizeLine ∧ Q (.int z.length) H) := by
  intro pins s σ H xs us Q I r h
  obtain ⟨z, rfl, hz, q⟩ := h
  obtain ⟨u, rfl, t, rfl⟩ := vals1 r
  have hn := line63
  exact len_str (by omega) ⟨.int z.length, H, I.tok _, ⟨_, rfl⟩, q⟩
theorem CallR.or {f : Value} {r r' : List V → Hp → VK → Prop} (h : CallR X f r) (h' : CallR X f r') : CallR X f (fun xs H Q => r xs H Q ∨ r' xs H Q) := by
  intro pins s σ H xs us Q I rs q
  rcases q with q | q
  · exact h pins s σ H xs us Q I rs q
  · exact h' pins s σ H xs us Q I rs q
theorem call_tuple_of : CallR X (.type "tuple") (fun xs H Q => ∃ p ys, xs = [.ref p] ∧ ((SqL X.K H p ys ∧ ∀ l, H l = none → Q (.ref l) (upd H l (.tup ys))) ∨ (SqT X.K H p ys ∧ Q (.ref p) H))) := by
  intro pins s σ H xs us Q I r h
  obtain ⟨p, ys, rfl, h⟩ := h
  obtain ⟨u, rfl, rx⟩ := vals1 r
  cases rx
  rcases h with ⟨hq, q⟩ | ⟨hq, q⟩
  · obtain ⟨its, r', pl, hz⟩ := I.list hq
    have hlen := r'.length
    refine call_tuple_list pl.isList (fun h' kp => ?_) (by simp only [List.size_toArray] <;> omega)
    have I1 : Inv X pins σ H { s with heap := h' } := I.kept (t' := s.toks) kp
    have I2 : Inv X pins σ (upd H h'.objs.size (.tup ys)) { s with heap := h'.push { cls := .type "tuple", data := .seq its.toArray } } :=
      I1.laid (t' := s.toks) (fun b o e => Heap.get?_push_of_some _ e) (Nat.le_refl _) (show ObjOk X.prog X.w _ _ _ (.tup ys) from ⟨hz, its, r', IsTup.new _ _⟩)
    exact ⟨.ref h'.objs.size, _, I2, rfl, q _ (I1.hok.fresh (Nat.le_refl _))⟩
  · obtain ⟨its, r', pl, hz⟩ := I.tuple hq
    exact call_tuple_same pl ⟨.ref p, H, I, rfl, q⟩
noncomputable def tyV (K : PySem.W.Frag) (T : String) (x : V) (H : Hp) : Prop := match x with
  | .str _ => T = "str"
  | .int _ => T = "int"
  | .ref p => (T = "list" ∧ ∃ xs, SqL K H p xs) ∨ (T = "tuple" ∧ ∃ o, K.lookup p = some o ∧ o.cls = .type "tuple" ∧ o.dict = none) ∨
      (T = "dict" ∧ ((∃ kvs ep, H p = some (.dK kvs ep)) ∨ ∃ kvs, H p = some (.dT kvs))) ∨ (T = "set" ∧ ∃ S n, H p = some (.set S n))
  | _ => False
theorem tyV_is {pins : List (Addr × Obj)} {σ : St} {H : Hp} {s : Shared} {T : String} {x : V} {v : Value} (I : Inv X pins σ H s) (r : RelV x v) (ty : tyV X.K T x H) :
    s.TypeIs v T ∧ ∀ a, v = .ref a → ∃ ob, s.heap.get? a = some ob ∧ ob.dict = none := by
  cases x with
  | str z =>
    obtain ⟨t, rfl⟩ := r
    cases (show T = "str" from ty)
    exact ⟨typeIs_str s z t, fun _ e => nomatch e⟩
  | int i =>
    obtain ⟨t, rfl⟩ := r
    cases (show T = "int" from ty)
    exact ⟨typeIs_int s i t, fun _ e => nomatch e⟩
  | ref p =>
    cases r
    rcases ty with ⟨rfl, xs, hq⟩ | ⟨rfl, o, hk, hc, hd⟩ | ⟨rfl, hk⟩ | ⟨rfl, S, n, hk⟩
    · obtain ⟨its, _, pl, _⟩ := I.list hq
      refine ⟨pl.isList.typeIs, fun a e => ?_⟩
      cases e
      obtain ⟨o, n, e, c, hd, _⟩ := pl
      exact ⟨o, e, hd⟩
    · refine ⟨⟨o, I.kIn p o hk, hc⟩, fun a e => ?_⟩
      cases e
      exact ⟨o, I.kIn _ o hk, hd⟩
    · have z : ∃ o, s.heap.get? p = some o ∧ o.ExactDict := by
        rcases hk with ⟨kvs, ep, hk⟩ | ⟨kvs, hk⟩
        · obtain ⟨_, _, _, _, o, _, e, ex, _⟩ := I.hok p _ hk
          exact ⟨o, e, ex⟩
        · obtain ⟨_, _, _, _, o, _, _, e, ex, _⟩ := I.hok p _ hk
          exact ⟨o, e, ex⟩
      obtain ⟨o, e, ex⟩ := z
      refine ⟨⟨o, e, ex.1⟩, fun a e2 => ?_⟩
      cases e2
      exact ⟨o, e, ex.2.1⟩
    · obtain ⟨o, _, _, _, e, ex, _⟩ := I.hok p _ hk
      refine ⟨⟨o, e, ex.1⟩, fun a e2 => ?_⟩
      cases e2
      exact ⟨o, e, ex.2.1⟩
  | _ => exact False.elim ty
noncomputable def tBM (K : PySem.W.Frag) (T : String) (r : V → List V → Hp → VK → Prop) (to : TE) (t : TA) : TE := fun σ H Q => to σ H fun x H1 => tyV K T x H1 ∧ t σ H1 fun xs H2 => r x xs H2 Q
variable {o e : Expr} {es : List Expr} {to : TE} {t : TA} {name : Str} {apos cpos : Pos} {T id : String} {r : V → List V → Hp → VK → Prop}
theorem pe_bm (pa : PlainAttrs T) (slot : Slot T name id) (hty : typeOf (.builtin id) = pure (.type "method_descriptor")) (hm : MtR X id r) (ho : PE X o to) (ha : PA X (e :: es) t)
    (hbase : attributeBase o name X.env (eval o X.env) = eval o X.env := by rfl)
    (hfew : ((backTo cpos (starEach (e :: es) X.env)).all (fun x => !x.1) && (backToKw cpos (keywordEach [] X.env)).all (fun x => x.1.isSome)
      && decide ((e :: es).length + ([] : List Keyword).length + (if ([] : List Keyword).isEmpty then 0 else 1) < 30)) = true := by rfl)
    (hline : (apos.endLine == cpos.line) = true := by rfl) (hs : starEach (e :: es) X.env = (false, eval e X.env) :: starEach es X.env := by rfl) (hplain : (backTo cpos (starEach es X.env)).any (·.1) = false := by rfl) :
    PE X (.Call (.Attribute o name apos) (e :: es) [] cpos) (tBM X.K T r to t) := by
  intro pins s σ H Q I h
  refine wpAny_Call_method_late hbase hfew hline rfl (thn (ho pins s σ H _ I h) fun v s1 ⟨x, H1, I1, r1, ty, q1⟩ => ?_)
  obtain ⟨h1, h2⟩ := tyV_is I1 r1 ty
  refine ⟨T, id, pa, slot, hty, h1, h2, ?_⟩
  have hA := ha cpos pins s1 σ H1 _ I1 q1
  rw [hs] at hA ⊢
  refine Calls.callWith_builtin (by show (false || (backTo cpos (starEach es X.env)).any (·.1)) = false; rw [hplain] <;> rfl) (Calls.evalArgs_plain ?_)
  exact thn hA fun us s2 ⟨vs, H2, I2, r2, q2⟩ => hm pins s2 σ H2 x vs v us Q I2 r1 r2 q2
end
end L2
namespace L2
open PySem PySem.Spec PyProof.Rows
noncomputable def MtM (X : Cx) (id : String) (r : V → List V → Hp → VK → Prop) : Prop :=
  ∀ (pins : List (Addr × Obj)) (s : Shared) (σ : St) (H : Hp) (x : V) (xs : List V) (v : Value) (us : List Value) (Q : VK), Inv X pins σ H s → RelV x v → Vals xs us → r x xs H Q →
    wpAny (model X.prog X.w) X.A (call (.builtin id) (v :: us)) (EP X pins σ Q) X.xe s
theorem Vals.one : ∀ {x : V} {us : List Value}, Vals [x] us → ∃ u, us = [u] ∧ RelV x u
  | _, _, .cons r .nil => ⟨_, rfl, r⟩
theorem Vals.two : ∀ {x y : V} {us : List Value}, Vals [x, y] us → ∃ u v, us = [u, v] ∧ RelV x u ∧ RelV y v
  | _, _, _, .cons r (.cons q .nil) => ⟨_, _, rfl, r, q⟩
theorem Vals.zero : ∀ {us : List Value}, Vals [] us → us = []
  | _, .nil => rfl
theorem Vals.eraseIdx : ∀ {xs : List V} {us : List Value} (i : Nat), Vals xs us → Vals (xs.eraseIdx i) (us.eraseIdx i)
  | _, _, _, .nil => .nil
  | _, _, 0, .cons _ t => t
  | _, _, i + 1, .cons r t => .cons r (Vals.eraseIdx i t)
theorem Vals.reverse {xs : List V} {us : List Value} (h : Vals xs us) : Vals xs.reverse us.reverse := by
  induction h with
  | nil => exact .nil
  | cons r t ih => rw [List.reverse_cons, List.reverse_cons]; exact Vals.append ih (.cons r .nil)
theorem Vals.rep {xs : List V} {us : List Value} (h : Vals xs us) : ∀ k : Nat, Vals (List.replicate k xs).flatten (List.replicate k us).flatten
  | 0 => .nil
  | k + 1 => by
    rw [List.replicate_succ, List.replicate_succ, List.flatten_cons, List.flatten_cons]
    exact Vals.append h (Vals.rep h k)
section
variable {X : Cx} {pins : List (Addr × Obj)} {σ : St} {H : Hp} {s : Shared} {l b : Addr} {xs ys zs : List V}
theorem Inv.lset {its its' : List Value} {n : Nat} {f : Array Value → Array Value} {t' : Nat} (I : Inv X pins σ H s) (hH : H l = some (.lst xs))
    (e : s.heap.get? l = some { cls := .type "list", data := .seq its.toArray n }) (hf : f its.toArray = its'.toArray) (hv : Vals ys its') (hz : ys.length ≤ sizeLine) :
    Inv X pins σ (upd H l (.lst ys)) { s with heap := s.heap.update l (Obj.mapSeq f), toks := t' } := by
  have q := PySem.IsL.update e f
  rw [hf] at q
  refine I.write (x := l) (e := l) (by rw [hH]; exact trivial) (.inl rfl) (fun b' u hb hu => (Heap.get?_update_other s.heap (Obj.mapSeq f) (Ne.symm hb)).trans hu) ⟨_, q⟩ ?_
  exact ⟨hz, its', _, hv, q⟩
theorem Inv.lnew {its : List Value} {t' : Nat} (I : Inv X pins σ H s) (hv : Vals ys its) (hz : ys.length ≤ sizeLine) :
    Inv X pins σ (upd H s.heap.objs.size (.lst ys)) { s with heap := s.heap.push { cls := .type "list", data := .seq its.toArray }, toks := t' } :=
  I.laid (fun _ _ q => Heap.get?_push_of_some _ q) (Nat.le_refl _) ⟨hz, its, 0, hv, Heap.get?_push_size _ rfl⟩
theorem Inv.fresh (I : Inv X pins σ H s) : H s.heap.objs.size = none := I.hok.fresh (Nat.le_refl _)
theorem Inv.lstM (I : Inv X pins σ H s) (hH : H l = some (.lst xs)) : xs.length ≤ sizeLine ∧ ∃ (its : List Value) (n : Nat), Vals xs its ∧ xs.length = its.length ∧ s.heap.get? l = some { cls := .type "list", data := .seq its.toArray n } := by
  obtain ⟨z, its, n, r, e⟩ := I.hok l _ hH
  exact ⟨z, its, n, r, r.length, e⟩
theorem notLongL {n : Nat} (h : n ≤ sizeLine) : Builtin.List.listTooLong n = false := by
  unfold Builtin.List.listTooLong
  exact decide_eq_false (by omega)
end
section
variable {X : Cx}
noncomputable def rAppend : V → List V → Hp → VK → Prop := fun x vs H Q => ∃ l xs y, x = .ref l ∧ vs = [y] ∧ H l = some (.lst xs) ∧ xs.length < sizeLine ∧ Q .non (upd H l (.lst (xs ++ [y])))
theorem mt_append : MtM X "list.append" rAppend := by
  intro pins s σ H x vs v us Q I rx rv h
  obtain ⟨l, xs, y, rfl, rfl, hH, hz, q⟩ := h
  cases rx
  obtain ⟨u, rfl, ru⟩ := rv.one
  obtain ⟨z, its, n, r, hl, e⟩ := I.lstM hH
  refine call_meets F.slot_list_append ⟨_, e, rfl⟩ F.entry_list_append (F.args_list_append_2 _ _) (PySem.list_append l its.toArray n u (by rw [List.size_toArray]; omega)) ⟨e, ?_⟩
  refine ⟨.non, _, I.lset (its' := its ++ [u]) hH e (by simp) (r.append (.cons ru .nil)) ?_, rfl, q⟩
  rw [List.length_append, List.length_singleton]
  omega
end
section
variable {prog : Program} {w : World} {A : Around} {E : Value → Shared → Prop} {s : Shared}
theorem bounds_run {a c n : Nat} (hac : a ≤ c) (hc : c ≤ n) : sliceBounds (some (a : Int)) (some (c : Int)) none n = ((a : Int), (c : Int), 1) := by
  simp only [sliceBounds, Option.getD_none]
  have h1 : ¬ ((a : Int) < 0) := by omega
  have h2 : ¬ ((c : Int) < 0) := by omega
  simp only [h1, h2, if_false, show (1 : Int) > 0 by decide, if_true]
  congr 1
  · omega
  · congr 1; omega
set_option maxRecDepth 100000 in
theorem setItem_slice {l b sl : Addr} {items new : Array Value} {n n2 : Nat} {vl vu : Value} {a c : Nat} {Q : Unit → Shared → Prop}
    (e : s.heap.get? l = some { cls := .type "list", data := .seq items n }) (e2 : s.heap.get? b = some { cls := .type "list", data := .seq new n2 }) (hne : l ≠ b)
    (hs : s.heap.IsSliceOf sl vl vu .none) (pl : IsPart vl (some (a : Int))) (pu : IsPart vu (some (c : Int))) (hac : a ≤ c) (hc : c ≤ items.size)
    (hsz : items.size + new.size ≤ sizeLine) (h : Q () { s with heap := s.heap.update l (Obj.mapSeq fun xs => xs.extract 0 a ++ new ++ xs.extract c xs.size) }) :
    wpAny (model prog w) A (setItem (.ref l) (.ref sl) (.ref b)) Q E s := by
  have hl : s.heap.IsList l items := PySem.IsL.isList e
  have hb : s.heap.IsList b new := PySem.IsL.isList e2
  obtain ⟨os, hos, hcs, hds⟩ := id hs
  have hTs : s.TypeIs (.ref sl) "slice" := ⟨os, hos, hcs⟩
  have hstep : ¬ ((rawPart none == rawInt 0) = true) := Bool.false_ne_true
  have hsame : Builtin.List.listSameRef (.ref l) (.ref b) = false := by
    unfold Builtin.List.listSameRef
    exact beq_eq_false_iff_ne.mpr hne
  have hmax : (max (a : Int) (c : Int)).toNat = c := by omega
  have hz' : ((fun xs : Array Value => xs.extract 0 a ++ new ++ xs.extract c xs.size) items).size ≤ sizeLine + 1 := by
    simp only [Array.size_append, Array.size_extract]
    omega
  unfold setItem
  try with_reducible refine wpAny_holding ?_
  first | refine wpAny_bind (wpAny_pure ?_) | skip
  refine wpAny_bind (wpAny_sequenceKey hl.typeIs (by decide) ?_)
  refine wpAny_bind (wpAny_callSpecial?_slot (name := Str.ofString "__setitem__") hl.typeIs slot_list_setitem
    (wpAny_call_entry slot_list_setitem hl.typeIs entry_list_setitem ?_ (args_list_setitem _ _ _)))
  show wpAny _ _ (Builtin.List.listSubscript? (.ref sl) >>= _) _ _ s
  refine wpAny_bind ?_
  unfold Builtin.List.listSubscript?
  refine wpAny_bind (wpAny_specialOf hTs slice_no_index ?_)
  simp only [Option.isNone_none, if_true]
  refine wpAny_pure ?_
  show wpAny _ _ (typeOf (.ref sl) >>= _) _ _ s
  refine wpAny_bind (wpAny_typeOf hTs ?_)
  first
    | rw [if_neg (by decide)]
    | refine PySem.W.KFB.if_not (by decide) ?_
  rw [listSliceParts_eq]
  refine wpAny_bind (wpAny_bind (wpAny_field hos hds (x := .none) rfl (wpAny_bind (wpAny_listPart .none ?_))))
  rw [if_neg hstep]
  refine wpAny_bind (wpAny_field hos hds (x := vl) rfl (wpAny_bind (wpAny_listPart pl ?_)))
  refine wpAny_bind (wpAny_field hos hds (x := vu) rfl (wpAny_bind (wpAny_listPart pu (wpAny_pure ?_))))
  first
    | simp only [hsame, Bool.false_eq_true, if_false]
    | refine PySem.W.KFB.if_not hsame ?_
    | (dsimp only
       rw [if_neg (by rw [hsame]; exact Bool.false_ne_true)])
  refine wpAny_bind (m := Builtin.List.listAllItems (.ref b) "must assign iterable to extended slice") ?_
  unfold Builtin.List.listAllItems
  refine wpAny_bind (wpAny_typeOf hb.typeIs ?_)
  first
    | refine PySem.W.KFB.if_so (by decide) ?_
    | rw [if_pos (by decide)]
    | simp only [beq_self_eq_true, Bool.true_or, if_true]
  unfold Builtin.List.listItems
  refine wpAny_bind (wpAny_seqItems e2 rfl (wpAny_pure ?_))
  refine wpAny_bind (wpAny_bind (wpAny_seqItems e rfl (wpAny_pure ?_)))
  refine wpAny_bind (wpAny_of_eq ((sliceIndices_raw (some (a : Int)) (some (c : Int)) none items.size (by simp)).trans (congrArg (pure : Int × Int × Int → Sem (Int × Int × Int)) (bounds_run hac hc))) ?_)
  show wpAny _ _ (if ((1 : Int) == 1) = true then _ else _) _ _ s
  rw [if_pos (by decide)]
  refine wpAny_bind (wpAny_rule ?_)
  first
    | simp only [notLongL hsz, Bool.false_eq_true, if_false]
    | refine PySem.W.KFB.if_not (notLongL hsz) ?_
  first | refine wpAny_bind (wpAny_pure ?_) | skip
  show wpAny _ _ (updateSeq l (fun xs => xs.extract 0 ((a : Int)).toNat ++ new ++ xs.extract (max (a : Int) (c : Int)).toNat xs.size) >>= _) _ _ s
  rw [hmax, Int.toNat_natCast]
  refine wpAny_bind (wpAny_updateSeq (hz := Nat.le_trans (Nat.le_add_right _ _) hsz) (_hz' := hz') e rfl ?_)
  refine wpAny_bind (wpAny_letGo ?_)
  first
    | exact wpAny_bind (wpAny_pure (wpAny_pure ⟨.none, rfl, wpAny_pure h⟩))
    | exact wpAny_pure ⟨.none, rfl, wpAny_pure h⟩
end
section
variable {X : Cx}
end
end L2
namespace Att
open PySem PySem.W PySem.Calls PyProof.Rows
theorem ints_of_wellAll {P : Params} {h : Heap} : ∀ (ns : List Int) (vs : List Value), WellAll P h vs (ns.map WData.int) → IntsAre vs ns := by
  intro ns
  induction ns with
  | nil =>
    intro vs w
    rw [List.map_nil] at w
    cases w
    exact .nil
  | cons n ns ih =>
    intro vs w
    rw [List.map_cons] at w
    cases w with
    | cons a b =>
      cases a
      exact .cons _ _ (ih _ b)
theorem script_of {l : OpenLaw} {n : Nat} (hn : l.most = some n) {P : Params} {h : Heap} {args : List WData} {vals : List Value}
    (hpre : l.row.toRowW.claim.pre args = true) (hwl : WellAll P h vals args) :
    ∃ a vs ns, vals = [Value.ref a] ∧ args = [WData.list (ns.map WData.int)] ∧ h.get? a = some { cls := .type "list", data := .seq vs.toArray } ∧ IntsAre vs ns ∧ ns.length ≤ n := by
  have hsh : WShape.hasAll [] args [.list .int] = true := (pre_splitW hpre).1
  have hc : l.pre.holds [] { args := args } = true := (pre_splitW hpre).2
  obtain ⟨d, r, rfl, h1, h2⟩ := hasAllW_cons hsh
  obtain rfl := hasAllW_nil h2
  obtain ⟨xs, rfl, h3⟩ := hasW_list h1
  obtain ⟨ns, rfl⟩ := items_int h3
  have hlen : ns.length ≤ n := by
    unfold OpenLaw.pre at hc
    have h4 : (WTm.not (.lt (.lit (.int (n : Int))) (.len (.arg 0)))).holds [] { args := [.list (ns.map .int)] } = true := by
      have h4 := (holds_andW hc).1
      rw [hn] at h4
      exact h4
    have h5 := condW_of h4 (w_not (w_lt w_lit (w_len_list (w_arg rfl))))
    rw [List.length_map] at h5
    refine Nat.le_of_not_lt fun q => ?_
    have q' : (n : Int) < ((ns.length : Nat) : Int) := by omega
    first
      | (rw [decide_eq_true q'] at h5; exact absurd h5 (by decide))
      | (simp at h5; omega)
  cases hwl with
  | cons w1 w2 =>
    cases w2
    cases w1 with
    | list ho hall => exact ⟨_, _, ns, rfl, rfl, ho, ints_of_wellAll ns _ hall, hlen⟩
theorem post_true (l : OpenLaw) (args : List WData) : l.row.toRowW.claim.post args (.bool true) args = true :=
  postW_of (r := l.row.toRowW) (X := (true == true))
    (show WShape.has [] (.bool true) .bool = true by first | rfl | decide | simp [WShape.has, WShape.arms, WShape.armsAll])
    (show (WTm.eq .res (.lit (.bool true))).value [] { args := args, res := some (.bool true), after := args } = some (.bool (true == true)) from w_eq_bool (w_res rfl) w_lit) rfl
theorem attach_call {l : OpenLaw} {n : Nat} {q : Program} {loose : List Str} {XP : (Str → Option Value) → Heap → Prop} {YP : World → Heap → Prop} {d : DefRec}
    (hn : l.most = some n) (hdf : d.params.defaults = [])
    (call : ∀ (w : World) (s₀ s₁ : Shared) (mg mb : Str → Option Value) (fa : Addr) (o : Obj) (pm cd doc : Value) (a : Addr) (vs : List Value) (ns : List Int),
      Ground q loose [] XP w s₀ mg mb s₁.heap → YP w s₁.heap →
      s₁.heap.get? fa = some o → o.data = .func (docDef d.name d.params d.body d.scope pm cd doc) → s₁.heap.CodeRec cd d.name → mg d.name = some (.ref fa) →
      s₁.heap.get? a = some { cls := .type "list", data := .seq vs.toArray } → IntsAre vs ns → ns.length ≤ n → s₁.gens = #[] →
      codeAny (model l.prog w) callerA (.call (.ref fa) ⟨[.ref a], []⟩) (fun r s' => r = .ok (.ret (.bool true)) ∧ OldK s₁.heap s'.heap ∧ s'.os = s₁.os ∧ AllBare s'.gens) s₁) :
    WalkO q loose XP YP l.row.toRowW d [] (fun f vs => PySem.call f vs) := by
  intro w s₀ s₁ mg mb G Y fa o pm cd doc dV kV ho hd hcd hD hmg hg args vals as hpre hlay hrd hwl hlo
  obtain rfl : dV = .none := Dflts.none hD hdf
  obtain rfl : kV = .none := Dflts.noKw hD
  obtain ⟨a, vs, ns, rfl, rfl, hobj, hints, hlen⟩ := script_of hn hpre hwl
  refine enter_call (codeAny_mono (call w s₀ s₁ mg mb fa o pm cd doc a vs ns G Y ho (fd_plain hd) hcd hmg hobj hints hlen hg) fun r s' hq => ?_)
  obtain ⟨rfl, h2, h3, h4⟩ := hq
  exact ⟨.inl ⟨.bool true, .bool true, [], rfl, fun _ => rfl, .bool true, post_true l _, fun _ => ⟨List.Pairwise.nil, fun _ hm => (nomatch hm)⟩⟩, h2, h3, h4⟩
section
variable {prog : Program} {w : World} {A : Around} {E : Value → Shared → Prop} {s : Shared} {K : Frag}
end
end Att
namespace L2
open PySem PySem.Spec PyProof.Rows
theorem vals_ints : ∀ {vs : List Value} {ns : List Int}, IntsAre vs ns → Vals (ns.map V.int) vs
  | _, _, .nil => .nil
  | _, _, .cons n t h => .cons ⟨t, rfl⟩ (vals_ints h)
noncomputable def Only (H : Hp) : Prop := ∀ b, H b = none ∨ ∃ o xs, H b = some (.frz o (.lst xs))
theorem law_call {P : Program} {w : World} {K : PySem.W.Frag} {mg mb : Str → Option Value} {CX : CXT} {k : Nat} {fa a : Addr} {fd : FuncData} {x : Str} {sp : Sp} {s₁ : Shared} {vs : List Value} {ns : List Int}
    (KX : K.In s₁.heap) (hns : s₁.heap.Ns mainGlobals mg) (hb : s₁.heap.Ns builtinsNs mb) (hbb : ∀ x : Str, x ≠ "__name__" → mb x = bootBuiltins x) (hlim : s₁.heap.NoLimit) (hg : s₁.gens = #[])
    (ha : s₁.heap.get? a = some { cls := .type "list", data := .seq vs.toArray }) (hi : IntsAre vs ns) (hl : ns.length ≤ sizeLine) (hr : Room k callerA)
    (F : ∀ base : Heap, K.In base → base.Ns mainGlobals mg → FnOk P w K mg base CX k fa fd [x] sp) (hbind : ∀ (s : Shared) (u : Value), BindsTo s fd ⟨[u], []⟩ [(x, u)])
    (hsp : ∀ H : Hp, Only H → SqL K H a (ns.map V.int) → sp [.ref a] H (fun v _ => v = .bl true) fun _ _ _ => False)
    (hCX : ∀ H e s', CX [] H s₁ (fun _ _ _ => False) e s' → False) :
    codeAny (model P w) callerA (.call (.ref fa) ⟨[.ref a], []⟩) (fun r s' => r = .ok (.ret (.bool true)) ∧ OldK s₁.heap s'.heap ∧ s'.os = s₁.os ∧ AllBare s'.gens) s₁ := by
  have rv := vals_ints hi
  have lenV := hi.length
  have core : ∀ H : Hp, Only H → SqL K H a (ns.map V.int) → HOk P w H s₁.heap → (∀ b, H b ≠ none → b = a) → (H a ≠ none → K.lookup a = none) →
      codeAny (model P w) callerA (.call (.ref fa) ⟨[.ref a], []⟩) (fun r s' => r = .ok (.ret (.bool true)) ∧ OldK s₁.heap s'.heap ∧ s'.os = s₁.os ∧ AllBare s'.gens) s₁ := by
    intro H hO hS hok hA hK
    have base_of : ∀ {b : Addr} {o : Obj}, s₁.heap.get? b = some o → H b = none → (hidT s₁.heap H).get? b = some o := fun e n => hidT_get e n
    have noA : ∀ {b : Addr} {o : Obj} {es : Array DictEntry} {ep : Nat}, s₁.heap.get? b = some o → o.data = .dict es ep → H b = none := fun {b o es ep} e d => by
      cases q : H b with
      | none => rfl
      | some u =>
        have e' : b = a := hA b (by rw [q]; simp)
        subst e'
        rw [ha] at e; cases e
        have d' : Data.seq vs.toArray _ = Data.dict es ep := d
        cases d'
    have nsK : ∀ {b : Addr} {m : Str → Option Value}, s₁.heap.Ns b m → (hidT s₁.heap H).Ns b m := fun {b m} ⟨o, es, ep, e, d, r⟩ => ⟨o, es, ep, base_of e (noA e d), d, r⟩
    have hKb : K.In (hidT s₁.heap H) := fun b o e => base_of (KX b o e) (by
      cases q : H b with
      | none => rfl
      | some u =>
        have e' : b = a := hA b (by rw [q]; simp)
        subst e'
        rw [hK (by rw [q]; simp)] at e; cases e)
    have hM : Mod K mg (hidT s₁.heap H) := ⟨hKb, nsK hns, ⟨mb, nsK hb, hbb⟩, let ⟨mc, h1, h2⟩ := hlim; ⟨mc, nsK h1, h2⟩⟩
    have e0 : Env0 P w K mg (hidT s₁.heap H) callerA [] s₁ H := ⟨rfl, hM, fun b o e => of_hidT e, Nat.le_of_eq (hidT_size _ _), trivial, fun b hb => absurd (show b ∈ ([] : List Addr) from hb) (by simp), hok, .of_eq hg⟩
    refine codeAny_mono ((F _ hKb (nsK hns)).run callerA [] s₁ H ⟨[.ref a], []⟩ [.ref a] [.ref a] _ _ hr e0 (hbind s₁ (.ref a)) (.cons rfl .nil) (hsp H hO hS)) fun r s' h => ?_
    cases r with
    | error e => exact (hCX H e s' h).elim
    | ok fl =>
      cases fl with
      | next => exact False.elim h
      | brk => exact False.elim h
      | cont => exact False.elim h
      | ret u =>
        obtain ⟨v, H', os, bare, un, hok', r', q⟩ := h
        have q' : v = .bl true := q
        subst q'
        obtain rfl : u = Value.bool true := r'
        refine ⟨rfl, OldK.of_keep fun b o e => ?_, os, bare⟩
        cases q : H b with
        | none => exact un.keep b o e q (by intro z; exact absurd (show b ∈ ([] : List Addr) from z) (by simp)) (by simp)
        | some u =>
          rcases hO b with z | ⟨ob, xs, z⟩
          · rw [q] at z; cases z
          · have z2 := un.frzs b ob _ z
            obtain ⟨e1, _⟩ := hok b _ z
            obtain ⟨e2, _⟩ := hok' b _ z2
            rw [e] at e1; cases e1
            exact e2
  cases hk : K.lookup a with
  | some o =>
    have e := KX a o hk
    rw [ha] at e
    cases e
    refine core (fun _ => none) (fun _ => .inl rfl) (.inr ⟨_, vs.toArray, _, hk, rfl, rfl, rfl, by rw [List.size_toArray, lenV]; exact hl, by simpa using rv⟩) (fun b u z => by have z' : (none : Option HO) = some u := z; cases z') (fun b z => absurd rfl z) fun z => absurd rfl z
  | none =>
    refine core (fun b => if b = a then some (.frz { cls := .type "list", data := .seq vs.toArray } (.lst (ns.map V.int))) else none) (fun b => ?_) (.inl (.inr ⟨{ cls := .type "list", data := .seq vs.toArray }, if_pos rfl⟩)) (fun b u z => ?_) (fun b z => ?_) fun _ => hk
    · by_cases hb : b = a
      · exact .inr ⟨_, _, if_pos hb⟩
      · exact .inl (if_neg hb)
    · by_cases hb : b = a
      · have z' := (if_pos hb).symm.trans z
        cases z'
        subst hb
        exact ⟨ha, by rw [List.length_map]; exact hl, vs, _, rv, ha⟩
      · have z' := (if_neg hb).symm.trans z
        cases z'
    · by_cases hb : b = a
      · exact hb
      · exact absurd (if_neg hb) z
end L2
namespace L2
open PySem PySem.Spec PyProof.Rows
theorem walk_of {l : PySem.W.OpenLaw} {n k : Nat} {q : Program} {loose : List Str} {XP : (Str → Option Value) → Heap → Prop} {YP : World → Heap → Prop} {d : DefRec} {K : Params → PySem.W.Frag} {CX : World → CXT} {sp : World → Sp} {x : Str}
    (hn : l.most = some n) (hn2 : n ≤ sizeLine) (hdf : d.params.defaults = []) (hr : Room k callerA)
    (hY : ∀ (w : World) (h : Heap), YP w h → (K w.params).In h)
    (F : ∀ (w : World) (mg : Str → Option Value) (fa : Addr) (h : Heap), (K w.params).In h → h.Ns mainGlobals mg → mg d.name = some (.ref fa) →
      ∃ fd : FuncData, (∀ (s : Shared) (u : Value), BindsTo s fd ⟨[u], []⟩ [(x, u)]) ∧
        ∀ base : Heap, (K w.params).In base → base.Ns mainGlobals mg → FnOk l.prog w (K w.params) mg base (CX w) k fa fd [x] (sp w))
    (hsp : ∀ (w : World) (H : Hp) (a : Addr) (ns : List Int), ns.length ≤ n → Only H → SqL (K w.params) H a (ns.map V.int) → sp w [.ref a] H (fun v _ => v = .bl true) fun _ _ _ => False)
    (hCX : ∀ (w : World) (H : Hp) (s : Shared) (e : Value) (s' : Shared), CX w [] H s (fun _ _ _ => False) e s' → False) :
    PySem.W.WalkO q loose XP YP l.row.toRowW d [] (fun f vs => PySem.call f vs) := by
  refine Att.attach_call hn hdf fun w s₀ s₁ mg mb fa o pm cd doc a vs ns G Y ho hd hcd hmg hobj hints hlen hg => ?_
  have KX := hY w _ Y
  obtain ⟨fd, hb, hF⟩ := F w mg fa _ KX G.T.g hmg
  exact law_call KX G.T.g G.T.b G.T.builtins G.T.nolimit hg hobj hints (Nat.le_trans hlen hn2) hr hF hb (fun H hO hS => hsp w H a ns hlen hO hS) fun H e s' => hCX w H s₁ e s'
end L2
namespace L2
open PySem PySem.Spec PyProof.Rows
noncomputable def defArgs (s : Stmt) : Arguments := match s with
  | .FunctionDef _ a _ _ _ _ _ _ _ _ => a
  | _ => { posonlyargs := [], args := [], vararg := none, kwonlyargs := [], kw_defaults := [], kwarg := none, defaults := [] }
noncomputable def defBody (s : Stmt) : List Stmt := match s with
  | .FunctionDef _ _ b _ _ _ _ _ _ _ => b
  | _ => []
noncomputable def defScope (s : Stmt) : Scope := match s with
  | .FunctionDef _ _ _ _ _ _ sc _ _ _ => sc
  | _ => { kind := .function, names := [], isGenerator := false, isCoroutine := false }
noncomputable abbrev CX0 : CXT := fun _ _ _ _ _ _ => False
noncomputable abbrev E0 : XK := fun _ _ _ => False
theorem pass0 {X : Cx} : Passes CX0 X E0 := fun _ _ _ _ _ _ _ h => h.elim
structure Fun (K : PySem.W.Frag) (x qual : Str) (st : Stmt) (f : Addr) (fd : FuncData) : Prop where
  ex : ∃ (oc : Value) (od : Option Addr) (kV doc pm : Value) (an : Option Addr) (cdv ct : Value) (osl : Array (Option Value)),
    fd = PySem.W.fnOf x qual (defArgs st) (defBody st) (defScope st) .none kV doc pm an cdv ct ∧ K.lookup f = some ⟨oc, od, .func fd, osl⟩ ∧ PySem.W.codeIn K cdv qual = true
  kp : PySem.W.keepIn K (.ref f) = true
section
variable {P : Program} {w : World} {K : PySem.W.Frag} {mg : Str → Option Value} {base : Heap}
theorem Fun.ok {x qual : Str} {st : Stmt} {f : Addr} {fd : FuncData} {N ps : List Str} {k : Nat} {sp : Sp} (F : Fun K x qual st f fd) (S : FnScope N ps (defScope st)) (len : ∀ vs H Q E, sp vs H Q E → vs.length = ps.length)
    (hbody : ∀ (cdv : Value) (A : Around) (outer : List Env) (s : Shared) (H : Hp) (vs : List V) (Q : VK) (E : XK), Room k (A.deeper (envOfC qual (defScope st) s.heap.objs.size f cdv)) → sp vs H Q E →
      ∃ t, PSs (cxOf CX0 P w K mg base N qual (defScope st) f cdv A outer s H E).nox (defBody st) t ∧ t { nx := fun _ H' => Q .non H', rt := Q } (start N vs) H) : FnOk P w K mg base CX0 (k + 1) f fd ps sp := by
  obtain ⟨oc, od, kV, doc, pm, an, cdv, ct, osl, rfl, lk, hcd⟩ := F.ex
  refine fn_of lk hcd S len fun A outer s H vs Q E hr hsp => ?_
  obtain ⟨t, h, q⟩ := hbody cdv A outer s H vs Q E hr hsp
  exact ⟨t, h.nox, q⟩
theorem Fun.binds {x qual : Str} {st : Stmt} {f : Addr} {fd : FuncData} {ps : List Str} (F : Fun K x qual st f fd)
    (h : ∀ (kV doc pm : Value) (an : Option Addr) (cdv ct : Value) (us : List Value), us.length = ps.length → bindArgs (PySem.W.fnOf x qual (defArgs st) (defBody st) (defScope st) .none kV doc pm an cdv ct) ⟨us, []⟩ = pure (ps.zip us)) : Binds K fd ps [] := by
  obtain ⟨oc, od, kV, doc, pm, an, cdv, ct, osl, rfl, lk, hcd⟩ := F.ex
  exact .all (h kV doc pm an cdv ct)
theorem fun_mk {x qual : Str} {st : Stmt} {f : Addr} {oc : Value} {od an : Option Addr} {osl : Array (Option Value)} {kV doc pm cdv ct : Value} (l : K.lookup f = some ⟨oc, od, .func (PySem.W.fnOf x qual (defArgs st) (defBody st) (defScope st) .none kV doc pm an cdv ct), osl⟩)
    (c : PySem.W.codeIn K cdv qual = true) (k : PySem.W.keepIn K (.ref f) = true) : Fun K x qual st f (PySem.W.fnOf x qual (defArgs st) (defBody st) (defScope st) .none kV doc pm an cdv ct) := ⟨⟨oc, od, kV, doc, pm, an, cdv, ct, osl, rfl, l, c⟩, k⟩
end
theorem hu_of {A : Around} {k : Nat} (hr : Room k A) : A.units + 1 < cLine := Nat.lt_of_le_of_lt (Nat.add_le_add_left (by decide : 1 ≤ 64) _) hr.units
section
variable {X : Cx}
theorem pv (i : Nat) {x : Str} {pos : Pos} (hN : X.N[i]? = some x := by rfl) (hv : Vis X.env.scope x := by first | exact Or.inl rfl | exact Or.inr (Or.inl rfl) | exact Or.inr (Or.inr rfl)) (hd : (x == ("__debug__" : Str)) = false := by decide)
    (hcd : (x == ("__classdict__" : Str)) = false := by decide) : PE X (.Name x pos) (tVar i) := pe_var hN hv hd hcd
end
noncomputable def Same (H H' : Hp) : Prop := ∀ b o, H b = some o → H' b = some o
theorem Same.refl (H : Hp) : Same H H := fun _ _ h => h
theorem Same.trans {H H1 H2 : Hp} (a : Same H H1) (b : Same H1 H2) : Same H H2 := fun c o h => b c o (a c o h)
theorem Same.free {H H' : Hp} (e : Same H H') {l : Addr} (h : H' l = Option.none) : H l = Option.none := by
  cases q : H l with
  | none => rfl
  | some o =>
    rw [e l o q] at h
    cases h
theorem Same.seq {K : PySem.W.Frag} {H H' : Hp} {a : Addr} {xs : List V} (e : Same H H') (h : SqL K H a xs) : SqL K H' a xs := by
  rcases h with (h | ⟨o, h⟩) | h
  · exact .inl (.inl (e _ _ h))
  · exact .inl (.inr ⟨o, e _ _ h⟩)
  · exact .inr h
end L2
set_option Elab.async false
set_option linter.all false
set_option maxRecDepth 100000
set_option maxHeartbeats 4000000
namespace L2
open PySem PySem.Spec PyProof.Rows
theorem closure_ok {env : Env} : ∀ (names : List (Str × NameKind)) (acc : List (Str × Addr)), (∀ p ∈ names, p.2 = .free → ∃ c, env.cells.lookup p.1 = some c) →
    (∀ y c, acc.lookup y = some c → env.cells.lookup y = some c) →
    ∃ cl, (forIn names acc (fun (p : Str × NameKind) (cs : List (Str × Addr)) => if (p.2 == NameKind.free) = true then (do let a ← cellOf env p.1; pure (ForInStep.yield ((p.1, a) :: cs))) else (pure (ForInStep.yield cs) : Sem _)) : Sem _) = pure cl ∧
      (∀ y c, cl.lookup y = some c → env.cells.lookup y = some c) ∧ (∀ y, (acc.lookup y).isSome = true → (cl.lookup y).isSome = true) ∧ ∀ y, (y, NameKind.free) ∈ names → (cl.lookup y).isSome = true
  | [], acc, _, h => ⟨acc, rfl, h, fun _ z => z, fun _ z => nomatch z⟩
  | (n, k) :: r, acc, hf, h => by
    by_cases hk : k = .free
    · subst hk
      obtain ⟨c, hc⟩ := hf (n, .free) List.mem_cons_self rfl
      obtain ⟨cl, e, h1, h2, h3⟩ := closure_ok r ((n, c) :: acc) (fun p hp => hf p (List.mem_cons_of_mem _ hp)) (fun y d hd => by
        rw [List.lookup_cons] at hd
        cases q : y == n with
        | true => rw [q] at hd; cases hd; rw [eq_of_beq q]; exact hc
        | false => rw [q] at hd; exact h y d hd)
      refine ⟨cl, ?_, h1, fun y hy => h2 y ?_, fun y hy => ?_⟩
      · rw [List.forIn_cons]
        have e0 : cellOf env n = pure c := by unfold cellOf; rw [hc]
        simp only [beq_self_eq_true, if_true, e0, pure_bind]
        exact e
      · rw [List.lookup_cons]
        cases q : y == n with
        | true => rfl
        | false => exact hy
      · rcases List.mem_cons.mp hy with q | q
        · cases q
          refine h2 n ?_
          rw [List.lookup_cons, beq_self_eq_true]
          rfl
        · exact h3 y q
    · obtain ⟨cl, e, h1, h2, h3⟩ := closure_ok r acc (fun p hp => hf p (List.mem_cons_of_mem _ hp)) h
      refine ⟨cl, ?_, h1, h2, fun y hy => ?_⟩
      · rw [List.forIn_cons]
        have e0 : (k == NameKind.free) = false := by simpa using hk
        simp only [e0, Bool.false_eq_true, if_false, pure_bind]
        exact e
      · rcases List.mem_cons.mp hy with q | q
        · cases q; exact absurd rfl hk
        · exact h3 y q
theorem closureFor_ok {env : Env} {scope : Scope} (hf : ∀ p ∈ scope.names, p.2 = .free → ∃ c, env.cells.lookup p.1 = some c) :
    ∃ cl, closureFor scope env = pure cl ∧ (∀ y c, cl.lookup y = some c → env.cells.lookup y = some c) ∧ ∀ y, (y, NameKind.free) ∈ scope.names → (cl.lookup y).isSome = true := by
  obtain ⟨cl, e, h1, _, h3⟩ := closure_ok (env := env) scope.names [] hf (fun y c h => by simp at h)
  refine ⟨cl, ?_, h1, h3⟩
  unfold closureFor
  have e' := congrArg (fun m : Sem (List (Str × Addr)) => m >>= fun cs => pure cs) e
  simp only [pure_bind] at e'
  rw [← e']
structure CompIn where
  cl : List (Str × Addr)
  C : Addr
  s : Shared
  H : Hp
  ex : List Addr
noncomputable def cxComp (X : Cx) (scope : Scope) (N : List Str) (c : CompIn) : Cx :=
  { X with N := N, s₀ := c.s, H₀ := c.H, env := compEnvC scope c.cl c.C X.env, outer := X.stack, stack := X.stack, ex := c.ex, fn := fun _ => false, pn := [], xe := fun _ _ => False }
noncomputable def capSt (k : Nat) (cap : List Nat) (σ : St) : St := List.replicate k none ++ cap.map fun i => (σ[i]?).getD none
noncomputable def tTrue : TT := fun _ H Q => Q true H
section
variable {prog : Program} {w : World} {A : Around} {R : Result → Shared → Prop} {s : Shared}
theorem compLoopT {elt target iter : Expr} {ifs : List Expr} {scope : Scope} {pos : Pos} {it acc : Value} {env : Env} (I : Nat → Shared → Prop)
    (turn : ∀ n s, I n s → wpAny (model prog w) A (pyNext it) (fun r s₁ => match r with
      | none => R (.ok .next) s₁
      | some v => wpAny (model prog w) A (letOwnedTupleGo target it v) (fun _ s₁' => wpAny (model prog w) A (assign target env v) (fun _ s₂ =>
          wpAny (model prog w) A (forIn ifs true fun c r => if r = true then do let ok ← isTrue c env (eval c env); pure (ForInStep.yield ok) else pure (ForInStep.yield r)) (fun ok s₃ =>
            if ok = true then wpAny (model prog w) A (eval elt env) (fun x s₄ =>
              wpAny (model prog w) A (call (.builtin "list.append") [acc, x]) (fun _ s₅ => ∃ m, m < n ∧ I m s₅) (fun _ _ => False) s₄) (fun _ _ => False) s₃
            else ∃ m, m < n ∧ I m s₃) (fun _ _ => False) s₂) (fun _ _ => False) s₁') (fun _ _ => False) s₁) (fun _ _ => False) s)
    (n : Nat) (h : I n s) :
    codeAny (model prog w) A (.compLoop (.ListComp elt [⟨target, iter, ifs, 0⟩] scope pos) 0 it acc env) R s := by
  refine codeAny_loop rfl I (fun n s hI => ?_) n h
  show wpAny _ A ((compTurn (.ListComp elt [⟨target, iter, ifs, 0⟩] scope pos) 0 it acc env).onRaise (fun x => do noteFrame x env; theTreesLotGoes x)) _ _ s
  refine wpAny_noted ?_
  refine wpAny_mono (E := fun _ _ => False) ?_ (fun _ _ q => q) (fun _ _ z => z.elim)
  rw [compTurn_list]
  refine wpAny_bind (wpAny_standAt (wpAny_bind (wpAny_mono (turn n s hI) (fun r s₁ h₁ => ?_) fun _ _ h' => h')))
  cases r with
  | none => exact wpAny_pure h₁
  | some v =>
    refine wpAny_bind (wpAny_mono h₁ (fun _ s₁' h₁' => ?_) fun _ _ h' => h')
    refine wpAny_bind (wpAny_mono h₁' (fun _ s₂ h₂ => wpAny_bind (wpAny_mono h₂ (fun ok s₃ h₃ => ?_) fun _ _ h' => h')) fun _ _ h' => h')
    cases ok with
    | false => exact wpAny_pure ⟨rfl, h₃⟩
    | true =>
      exact wpAny_bind (wpAny_bind (wpAny_mono h₃ (fun x s₄ h₄ => wpAny_bind (wpAny_mono h₄ (fun _ s₅ h₅ => wpAny_pure (wpAny_pure ⟨rfl, h₅⟩)) fun _ _ h' => h')) fun _ _ h' => h'))
end
noncomputable def PTs (X : Cx) (ifs : List Expr) (t : TT) : Prop :=
  ∀ (pins : List (Addr × Obj)) (s : Shared) (σ : St) (H : Hp) (Q : Bool → Hp → Prop), Inv X pins σ H s → t σ H Q →
    wpAny (model X.prog X.w) X.A (forIn ifs true fun c r => if r = true then do let ok ← isTrue c X.env (eval c X.env); pure (ForInStep.yield ok) else pure (ForInStep.yield r)) (TP X pins σ Q) X.xe s
theorem pts_nil {X : Cx} : PTs X [] tTrue := fun pins s σ H Q I h => wpAny_tests_nil ⟨H, I, h⟩
theorem lookup_relabel_free {env : Env} : ∀ {names : List (Str × NameKind)} {x : Str}, names.lookup x = some .free →
    (names.map fun (n, k) => if (k == NameKind.free && env.scope.kind == .function && env.kindOf n == some .cell) then (n, NameKind.cell) else (n, k)).lookup x = some .cell ∨
    (names.map fun (n, k) => if (k == NameKind.free && env.scope.kind == .function && env.kindOf n == some .cell) then (n, NameKind.cell) else (n, k)).lookup x = some .free
  | [], _, h => by simp at h
  | (n, k) :: r, x, h => by
    have ih := @lookup_relabel_free env r x
    show List.lookup x ((if (k == NameKind.free && env.scope.kind == .function && env.kindOf n == some .cell) = true then (n, NameKind.cell) else (n, k)) :: _) = _ ∨ List.lookup x ((if (k == NameKind.free && env.scope.kind == .function && env.kindOf n == some .cell) = true then (n, NameKind.cell) else (n, k)) :: _) = _
    cases hx : x == n with
    | true =>
      simp only [List.lookup_cons, hx] at h
      cases h
      by_cases hc : (NameKind.free == NameKind.free && env.scope.kind == .function && env.kindOf n == some .cell) = true
      · rw [if_pos hc]; left; simp only [List.lookup_cons, hx]
      · rw [if_neg hc]; right; simp only [List.lookup_cons, hx]
    | false =>
      simp only [List.lookup_cons, hx] at h
      by_cases hc : (k == NameKind.free && env.scope.kind == .function && env.kindOf n == some .cell) = true
      · rw [if_pos hc]; simp only [List.lookup_cons, hx]; exact ih h
      · rw [if_neg hc]; simp only [List.lookup_cons, hx]; exact ih h
theorem lookup_relabel_cf {env : Env} : ∀ {names : List (Str × NameKind)} {x : Str}, (∀ y ∈ names, y.2 ≠ .cell) →
    ((names.map fun (n, k) => if (k == NameKind.free && env.scope.kind == .function && env.kindOf n == some .cell) then (n, NameKind.cell) else (n, k)).lookup x = some .cell ∨
    (names.map fun (n, k) => if (k == NameKind.free && env.scope.kind == .function && env.kindOf n == some .cell) then (n, NameKind.cell) else (n, k)).lookup x = some .free) → (x, NameKind.free) ∈ names
  | [], _, _, h => by simp at h
  | (n, k) :: r, x, hn, h => by
    have ih := @lookup_relabel_cf env r x (fun y hy => hn y (List.mem_cons_of_mem _ hy))
    have h' : List.lookup x ((if (k == NameKind.free && env.scope.kind == .function && env.kindOf n == some .cell) = true then (n, NameKind.cell) else (n, k)) :: (r.map fun (n, k) => if (k == NameKind.free && env.scope.kind == .function && env.kindOf n == some .cell) then (n, NameKind.cell) else (n, k))) = some .cell ∨ List.lookup x ((if (k == NameKind.free && env.scope.kind == .function && env.kindOf n == some .cell) = true then (n, NameKind.cell) else (n, k)) :: (r.map fun (n, k) => if (k == NameKind.free && env.scope.kind == .function && env.kindOf n == some .cell) then (n, NameKind.cell) else (n, k))) = some .free := h
    cases hx : x == n with
    | true =>
      have e := eq_of_beq hx
      subst e
      by_cases hc : (k == NameKind.free && env.scope.kind == .function && env.kindOf x == some .cell) = true
      · have hk : k = .free := by
          have := (Bool.and_eq_true _ _ |>.mp ((Bool.and_eq_true _ _ |>.mp hc).1)).1
          exact eq_of_beq this
        subst hk
        exact List.mem_cons_self
      · rw [if_neg hc] at h'
        simp only [List.lookup_cons, hx] at h'
        have hk := hn (x, k) List.mem_cons_self
        rcases h' with z | z
        · exact absurd (Option.some.inj z) hk
        · rw [Option.some.inj z]; exact List.mem_cons_self
    | false =>
      refine List.mem_cons_of_mem _ (ih ?_)
      by_cases hc : (k == NameKind.free && env.scope.kind == .function && env.kindOf n == some .cell) = true
      · rw [if_pos hc] at h'; simp only [List.lookup_cons, hx] at h'; exact h'
      · rw [if_neg hc] at h'; simp only [List.lookup_cons, hx] at h'; exact h'
noncomputable def GoalW (J : It) (g : TG) (tt : TT) (te : TE) (l : Addr) (σ0 : St) (H0 : Hp) (Q : VK) : Prop :=
  ∃ W : Nat → Nat → St → Hp → Prop, (∃ m, W 0 m σ0 H0) ∧
      ∀ i m σ' H2, W i m σ' H2 → (J.stop i H2 ∧ Q (.ref l) H2) ∨ (J.go i H2 ∧ ∃ N : St → Hp → Prop, (∀ σ3 H3, N σ3 H3 → ∃ m', m' < m ∧ W (i + 1) m' σ3 H3) ∧
        ∀ x H3, J.yld i H2 x H3 → g x σ' H3 fun σ4 H4 => tt σ4 H4 fun b H5 => if b = true then te σ4 H5 fun y H6 => ∃ xs, H6 l = some (.lst xs) ∧ xs.length < sizeLine ∧ N σ4 (upd H6 l (.lst (xs ++ [y]))) else N σ4 H5)
noncomputable def tComp (wi : TI) (k : Nat) (cap : List Nat) (g : TG) (tt : TT) (te : TE) : TE := fun σ H Q => wi σ H fun J H1 => ∀ l, H1 l = none → GoalW J g tt te l (capSt k cap σ) (upd H1 l (.lst [])) Q
structure CompScope (X : Cx) (scope : Scope) (N : List Str) (k : Nat) (cap : List Nat) : Prop where
  kind : scope.kind = .function
  names : ∀ y ∈ scope.names, y.2 = .local → scope.names.lookup y.1 = some .local
  cell : ∀ y ∈ scope.names, y.2 ≠ .cell
  free : ∀ y ∈ scope.names, y.2 = .free → X.env.kindOf y.1 = some .cell ∨ X.env.kindOf y.1 = some .free
  len : N.length = k + cap.length
  cap : ∀ j i, cap[j]? = some i → ∃ y, N[k + j]? = some y ∧ X.N[i]? = some y ∧ scope.names.lookup y = some .free
theorem capSt_get {k : Nat} {cap : List Nat} {σ : St} {j : Nat} {v : V} (h : (capSt k cap σ)[j]? = some (some v)) : ∃ q i, j = k + q ∧ cap[q]? = some i ∧ σ[i]? = some (some v) := by
  unfold capSt at h
  by_cases hj : j < k
  · rw [List.getElem?_append_left (by simpa using hj), List.getElem?_replicate] at h
    split at h <;> cases h
  · rw [List.getElem?_append_right (by simpa using hj), List.length_replicate, List.getElem?_map] at h
    cases q : cap[j - k]? with
    | none => rw [q] at h; cases h
    | some i =>
      rw [q] at h
      have h' : (σ[i]?).getD none = some v := Option.some.inj h
      refine ⟨j - k, i, by omega, q, ?_⟩
      cases r : σ[i]? with
      | none => rw [r] at h'; cases h'
      | some o => rw [r] at h'; have : o = some v := h'; rw [this]
theorem HOk.but {P : Program} {w : World} {H : Hp} {h h' : Heap} {C : Addr} (x : HOk P w H h) (hC : H C = none) (k : ∀ b o, b ≠ C → h.get? b = some o → h'.get? b = some o) : HOk P w H h' := fun b u e => by
  have nit : ∀ b u, H b = some u → b ≠ C := fun b u e z => by rw [z, hC] at e; cases e
  refine (x b u e).stay (fun c v hc q => k c v ?_ q) (fun _ q => q) fun _ _ q => q
  rcases hc with z | z
  · rw [z]; exact nit b u e
  · exact nit c _ z
section
variable {X : Cx} {elt tg iter : Expr} {ifs : List Expr} {scope : Scope} {pos : Pos} {wi : TI} {g : TG} {tt : TT} {te : TE} {N : List Str} {k : Nat} {cap : List Nat}
theorem compOk {pins : List (Addr × Obj)} {σ : St} {H2 : Hp} {s2 : Shared} {cl : List (Str × Addr)} {C : Addr} {fp : List Addr} (S : CompScope X scope N k cap) (I2 : Inv X pins σ H2 s2)
    (hcl1 : ∀ y c, cl.lookup y = some c → X.env.cells.lookup y = some c) (hcl2 : ∀ y, (y, NameKind.free) ∈ scope.names → (cl.lookup y).isSome = true) (hC : s2.heap.objs.size ≤ C)
    (hf : ∀ b ∈ fp, FpOk X pins H2 b) (ho : ∀ b ∈ fp, b < s2.heap.objs.size) : (cxComp X scope N ⟨cl, C, s2, H2, fp⟩).Ok where
  mod := I2.ok.mod
  kind := S.kind
  glob := I2.ok.glob
  blt := I2.ok.blt
  above := hC
  inj := fun x y c h1 h2 => I2.ok.inj x y c (hcl1 x c h1) (hcl1 y c h2)
  has := fun x h => by
    have h' : (x, NameKind.free) ∈ scope.names := lookup_relabel_cf (env := X.env) S.cell h
    exact Option.isSome_iff_exists.mp (hcl2 x h')
  cab := fun _ _ z => by cases z
  hd := I2.ok.hd
  frames := I2.ok.frames
  stk := .inl rfl
  exf := fun b hb => ⟨Nat.ne_of_lt (Nat.lt_of_lt_of_le (ho b hb) hC), fun x c e => (hf b hb).2.2.2.2.1 x c (hcl1 x c e)⟩
  bs := I2.bs
  bsz := Nat.le_trans I2.ok.bsz I2.sz
  noex := fun b o e hb => by
    rcases (hf b hb).2.2.2.1 with z | z
    · exact I2.ok.noex b o e z
    · exact absurd (Nat.lt_of_lt_of_le (Heap.lt_size e) (Nat.le_trans I2.ok.bsz z)) (Nat.lt_irrefl _)
  exfs := fun b hb hb' => by
    rcases List.mem_cons.mp (I2.stkSub b hb') with z | z
    · exact (hf b hb).2.1 z
    · exact (hf b hb).2.2.1 z
  funs := I2.stack
  frf := I2.stkFree
theorem compInv {pins : List (Addr × Obj)} {σ : St} {H2 : Hp} {s2 : Shared} {cl : List (Str × Addr)} {C : Addr} {fp : List Addr} {h1 : Heap} {tk : Nat} {m0 : Str → Option Value} (S : CompScope X scope N k cap) (I2 : Inv X pins σ H2 s2)
    (hcl1 : ∀ y c, cl.lookup y = some c → X.env.cells.lookup y = some c) (hcl2 : ∀ y, (y, NameKind.free) ∈ scope.names → (cl.lookup y).isSome = true) (hC : C = s2.heap.objs.size + 1)
    (hf : ∀ b ∈ fp, FpOk X pins H2 b) (ho : ∀ b ∈ fp, b < s2.heap.objs.size) (hk : ∀ b o, s2.heap.get? b = some o → h1.get? b = some o) (hD : h1.get? s2.heap.objs.size = some { cls := .type "list", data := .seq #[] 0 }) (hns : h1.Ns C m0) :
    Inv (cxComp X scope N ⟨cl, C, s2, H2, fp⟩) [] (capSt k cap σ) (upd H2 s2.heap.objs.size (.lst [])) { s2 with heap := h1, toks := tk } := by
  have fr : H2 s2.heap.objs.size = none := I2.hok.fresh (Nat.le_refl _)
  have hCf : H2 C = none := I2.hok.fresh (hC ▸ Nat.le_succ _)
  refine ⟨compOk S I2 hcl1 hcl2 (hC ▸ Nat.le_succ _) hf ho, rfl, I2.bare, Un.laid hk (Nat.le_refl _) fr, ⟨m0, hns, fun i y v e1 e2 e3 => ?_⟩, fun x c e => ?_, ?_, fun x c e => ?_, fun p hp => absurd (show p ∈ ([] : List (Addr × Obj)) from hp) (by simp), I2.hok.laid hk (Nat.le_refl _) ?_, ?_⟩
  · obtain ⟨q, j, rfl, hj, hv⟩ := capSt_get e2
    obtain ⟨z, hz1, hz2, hz3⟩ := S.cap q j hj
    have e1' : N[k + q]? = some y := e1
    rw [hz1] at e1'
    cases e1'
    obtain ⟨m, hn, hl⟩ := I2.loc
    have hfr := S.free (y, .free) (PySem.mem_of_lookup hz3) rfl
    obtain ⟨u, r, l⟩ := hl j y v hz2 hv (by rcases hfr with z | z; exact .inr (.inl z); exact .inr (.inr z))
    refine ⟨u, r, .inr ⟨lookup_relabel_free (env := X.env) hz3, ?_⟩⟩
    obtain ⟨c, hc⟩ := Option.isSome_iff_exists.mp (hcl2 y (PySem.mem_of_lookup hz3))
    rcases l with ⟨hk', _⟩ | ⟨_, c', hc', hcell⟩
    · rcases hfr with z | z <;> (rw [hk'] at z; cases z)
    · have e := hcl1 y c hc
      rw [hc'] at e
      cases e
      obtain ⟨o, ho', hd⟩ := hcell
      exact ⟨_, hc, o, hk _ _ ho', hd⟩
  · obtain ⟨v, o, ho', hd⟩ := I2.cell x c (hcl1 x c e)
    exact ⟨v, o, hk _ _ ho', hd⟩
  · show upd H2 s2.heap.objs.size (.lst []) C = none
    rw [upd_ne (Nat.ne_of_gt (hC ▸ Nat.lt_succ_self _))]
    exact hCf
  · have e' := hcl1 x c e
    obtain ⟨v, q⟩ := I2.cell x c e'
    rw [upd_ne (Nat.ne_of_lt q.lt)]
    exact I2.freeC x c e'
  · exact ⟨Nat.zero_le _, [], 0, .nil, hD⟩
  · show (capSt k cap σ).length = N.length
    unfold capSt
    rw [List.length_append, List.length_replicate, List.length_map, S.len]
theorem pe_comp (hc : X.calm = true) (S : CompScope X scope N k cap) (hi : PI X tg iter wi) (hg : ∀ c, PG (cxComp X scope N c) tg g) (ht : ∀ c, PTs (cxComp X scope N c) ifs tt) (he : ∀ c, PE (cxComp X scope N c) elt te)
    (hs : ∀ x, foldedSetIterable iter X.env x = pure x := by intro _; rfl) : PE X (.ListComp elt [⟨tg, iter, ifs, 0⟩] scope pos) (tComp wi k cap g tt te) := by
  intro pins s σ H Q I h
  rw [eval_ListComp]
  obtain ⟨cl, hclos, hcl1, hcl2⟩ := closureFor_ok (scope := scope) (env := X.env) (fun p hp hf => I.ok.has p.1 (S.free p hp hf))
  refine wpAny_comprehension_free (use := none) rfl hs hclos S.kind S.names (thn (hi pins s σ H _ I h) fun v s1 h1 => thn h1 fun itv s2 h2 => ?_)
  obtain ⟨it, fp, tn, J, H2, e, I2, T, st2, f2, q2⟩ := h2
  subst e
  obtain ⟨W, ⟨m0, w0⟩, turn⟩ := q2 s2.heap.objs.size (I2.hok.fresh (Nat.le_refl _))
  have hob : ∀ b ∈ fp, b < s2.heap.objs.size := fun b hb => let ⟨o, e, _⟩ := T.obj _ _ st2 b hb; Heap.lt_size e
  refine wpAny_newObj_type (wpAny_newFunctionEnv S.cell (by intro y hy; simp at hy) (fun h₁ hns₁ hsb₁ => ?_) S.kind)
  dsimp only at hns₁ hsb₁ ⊢
  generalize hHH : s2.heap.push { cls := .type "list", dict := none, data := .seq ([] : List Value).toArray } = HH at hns₁ hsb₁ ⊢
  have hCC : HH.objs.size = s2.heap.objs.size + 1 := by rw [← hHH, Heap.size_push]
  have old : ∀ b o, s2.heap.get? b = some o → h₁.get? b = some o := fun b o e => hsb₁.extBut b o (Nat.ne_of_lt (hCC ▸ Nat.lt_succ_of_lt (Heap.lt_size e))) (Heap.get?_push_of_some _ (hHH ▸ Heap.get?_push_of_some _ e))
  have hD : h₁.get? s2.heap.objs.size = some { cls := .type "list", data := .seq #[] 0 } := hsb₁.extBut _ _ (Nat.ne_of_lt (hCC ▸ Nat.lt_succ_self _)) (Heap.get?_push_of_some _ (hHH ▸ Heap.get?_push_size _ rfl))
  have I4 := fun tk => compInv (tk := tk) S I2 hcl1 hcl2 hCC f2 hob old hD hns₁
  have X' := cxComp X scope N ⟨cl, HH.objs.size, s2, H2, fp⟩
  have stat : ∀ {H' : Hp}, (∀ b ∈ fp, H' b = none) → ∀ b ∈ fp, FpOk (cxComp X scope N ⟨cl, HH.objs.size, s2, H2, fp⟩) [] H' b := fun hn b hb =>
    ⟨hn b hb, Nat.ne_of_lt (hCC ▸ Nat.lt_succ_of_lt (hob b hb)), (compOk S I2 hcl1 hcl2 (hCC ▸ Nat.le_succ _) f2 hob).exfs b hb, .inl hb, fun x c e => (f2 b hb).2.2.2.2.1 x c (hcl1 x c e), fun p hp => absurd (show p ∈ ([] : List (Addr × Obj)) from hp) (by simp)⟩
  have loop : ∀ s₃ : Shared, s₃ = { s2 with heap := h₁, toks := s2.toks + ([] : List (Str × Value)).length } →
      codeAny (model X.prog X.w) X.A (.compLoop (.ListComp elt [⟨tg, iter, ifs, 0⟩] scope pos) 0 (.ref it) (.ref s2.heap.objs.size) (compEnvC scope cl HH.objs.size X.env))
        (compPost (model X.prog X.w) X.A X.xe none (EP X pins σ Q) (.ref s2.heap.objs.size) HH.objs.size) s₃ := by
    rintro s₃ rfl
    refine compLoopT (fun n s' => ∃ i σ' H', Inv (cxComp X scope N ⟨cl, HH.objs.size, s2, H2, fp⟩) [] σ' H' s' ∧ tn i s'.heap ∧ (∀ b ∈ fp, H' b = none) ∧ W i n σ' H') ?_ m0
      ⟨0, capSt k cap σ, _, I4 _, T.keep _ _ _ st2 fun b _ o e => old b o e, fun b hb => by rw [upd_ne (Nat.ne_of_lt (hob b hb))]; exact (f2 b hb).1, w0⟩
    rintro n s3 ⟨i, σ3, H3, I3, st3, fr3, w3⟩
    rcases turn i n σ3 H3 w3 with ⟨stop, qn⟩ | ⟨go, NN, hN, step⟩
    · refine thn (T.done (cxComp X scope N ⟨cl, HH.objs.size, s2, H2, fp⟩) rfl rfl rfl hc i [] s3 σ3 H3 _ I3 (stat fr3) st3 stop) fun r s4 ⟨hr, J4⟩ => ?_
      subst hr
      obtain ⟨m, hn, _⟩ := J4.loc
      refine ⟨m, hn, fun h' hs' => ?_⟩
      have keepC : ∀ b o, b ≠ HH.objs.size → s4.heap.get? b = some o → h'.get? b = some o := fun b o hb e => hs'.extBut b o hb e
      have ltC : ∀ b o, s2.heap.get? b = some o → b ≠ HH.objs.size := fun b o e => Nat.ne_of_lt (hCC ▸ Nat.lt_succ_of_lt (Heap.lt_size e))
      have u := J4.base
      have u' : Un (frs X.stack) fp H2 H3 s2.heap h' := ⟨fun b o q n hb hx => keepC b o (ltC b o q) (u.keep b o q n hb hx), fun b o q n hb hx => by
          obtain ⟨sl, e⟩ := u.slot b o q n hb hx
          exact ⟨sl, keepC b _ (ltC b o q) e⟩, u.free, fun b o q hx => by
          obtain ⟨o', e⟩ := u.there b o q hx
          exact ⟨o', keepC b _ (ltC b o q) e⟩, u.tups, u.frzs, u.tbls⟩
      refine ⟨.ref s2.heap.objs.size, H3, I2.call' (ch := fp) J4.os u' (J4.hok.but J4.free keepC) J4.bare fun b hb => ?_, rfl, qn⟩
      obtain ⟨_, f1, _, f3, f4, f5⟩ := f2 b hb
      exact ⟨f3, f1, f4, f5⟩
    · refine thn (T.item (cxComp X scope N ⟨cl, HH.objs.size, s2, H2, fp⟩) rfl rfl rfl hc i [] s3 σ3 H3 _ I3 (stat fr3) st3 go) fun r s4 ⟨u, hr, h4⟩ => ?_
      subst hr
      refine thn h4 fun _ s5 ⟨x, H5, I5, r5, y5, st5, fr5⟩ => ?_
      have I5' := I5.pinned (stat fr5) (T.obj _ _ st5)
      have again : ∀ {s7 : Shared} {σ7 : St} {H7 : Hp}, Inv (cxComp X scope N ⟨cl, HH.objs.size, s2, H2, fp⟩) ([] ++ pinsAt fp s5.heap) σ7 H7 s7 → NN σ7 H7 →
          ∃ m, m < n ∧ ∃ i σ' H', Inv (cxComp X scope N ⟨cl, HH.objs.size, s2, H2, fp⟩) [] σ' H' s7 ∧ tn i s7.heap ∧ (∀ b ∈ fp, H' b = none) ∧ W i m σ' H' := fun {s7 σ7 H7} I7 n7 => by
        obtain ⟨m', hm, w7⟩ := hN σ7 H7 n7
        refine ⟨m', hm, i + 1, σ7, H7, I7.unpinned, T.keep _ _ _ st5 fun b hb o e => (I7.pin (b, o) (List.mem_append_right _ (List.mem_append_right _ (mem_pinsAt hb e)))).1, fun b hb => ?_, w7⟩
        obtain ⟨o, e, d⟩ := T.obj _ _ st5 b hb
        exact (I7.pin (b, o) (List.mem_append_right _ (List.mem_append_right _ (mem_pinsAt hb e)))).2.1
      refine thn (hg _ _ s5 σ3 H5 x u _ I5' r5 (step x H5 y5)) fun _ s6 ⟨σ6, H6, I6, q6⟩ => ?_
      refine thn (ht _ _ s6 σ6 H6 _ I6 q6) fun b s7 ⟨H7, I7, q7⟩ => ?_
      cases b with
      | false => exact again I7 q7
      | true =>
        refine thn (he _ _ s7 σ6 H7 _ I7 q7) fun y s8 ⟨yv, H8, I8, r8, xs, hl, hz, n8⟩ => ?_
        refine thn (mt_append _ s8 σ6 H8 (.ref s2.heap.objs.size) [yv] (.ref s2.heap.objs.size) [y] (fun _ H9 => NN σ6 H9) I8 rfl (.cons r8 .nil) ⟨_, xs, yv, rfl, rfl, hl, hz, n8⟩) fun _ s9 ⟨_, H9, I9, _, q9⟩ => ?_
        exact again I9 q9
  exact codeAny_compStart_list (loop _ rfl) (T.self X.A 0 _ _ _ (T.keep _ _ _ st2 fun b _ o e => old b o e) (loop _ rfl))
end
end L2
set_option Elab.async false
set_option linter.all false
set_option maxRecDepth 100000
set_option maxHeartbeats 4000000
namespace L2
open PySem PySem.Spec PyProof.Rows
noncomputable def Its (z : Str) : It := ⟨fun i _ => i < z.cps.size, fun i H x H' => H' = H ∧ ∃ c, z.cps[i]? = some c ∧ x = .str ⟨#[c]⟩, fun i _ => z.cps.size ≤ i⟩
theorem turn_strA {P : Program} {w : World} {K : PySem.W.Frag} {tg : Expr} (z : Str) (t : Tok) (it : Addr) : Turn P w K tg (Its z) [it] it (fun i h => h.IsStrIter it "str_ascii_iterator" z t i) where
  mem := by simp
  obj := fun i h st b hb => by
    have e : b = it := by simpa using hb
    subst e
    obtain ⟨o, e, c, d⟩ := st
    exact ⟨o, e, fun v z => by rw [d] at z; cases z⟩
  keep := fun i h h' st k => let ⟨o, e, r⟩ := st; ⟨o, k it (by simp) o e, r⟩
  item := by
    intro X hP hw hK hc i pins s σ H E I hf st hg
    subst hP hw hK
    obtain ⟨f0, f1, f2, f3, f4, f5⟩ := hf it (by simp)
    have hg' : i < z.cps.size := hg
    refine wpAny_pyNext_ascii_item st (c := z.cps[i]) (by simp [hg']) fun h' st' sb => ?_
    have I1 : Inv X pins σ H { s with heap := h', toks := s.toks + 1 } := I.turned (fun b o hb e => (sb.2 b hb).trans e) f0 f1 f3 f4 f5
    obtain ⟨o, e, c, d⟩ := id st'
    exact ⟨_, rfl, go_of (s := { s with heap := h', toks := s.toks + 1 }) e c d (by decide) ⟨.str ⟨#[z.cps[i]]⟩, H, I1, ⟨_, rfl⟩, ⟨rfl, _, by simp [hg'], rfl⟩, st', fun b hb => (hf b hb).1⟩⟩
  done := by
    intro X hP hw hK hc i pins s σ H E I hf st hg
    subst hP hw hK
    obtain ⟨f0, f1, f2, f3, f4, f5⟩ := hf it (by simp)
    exact wpAny_pyNext_ascii_end (I.ok.hd hc) st (Array.getElem?_eq_none hg) fun h' eb => ⟨rfl, I.turned (t' := s.toks) (fun b o hb e => eb b o hb e) f0 f1 f3 f4 f5⟩
  self := fun A i s Q E st h => by
    refine wpAny_pyIter_slot st.typeIs F.slot_str_ascii_iterator_iter (wpAny_call_entry F.slot_str_ascii_iterator_iter st.typeIs F.entry_str_ascii_iterator_iter ?_ (F.args_str_ascii_iterator_iter_1 _))
    show wpAny _ _ (ret (.ref it)) _ _ s
    exact wpAny_pure ⟨_, rfl, "str_ascii_iterator", _, st.typeIs, F.slot_str_ascii_iterator_next.lookup, h⟩
theorem turn_strW {P : Program} {w : World} {K : PySem.W.Frag} {tg : Expr} (z : Str) (t : Tok) (it : Addr) : Turn P w K tg (Its z) [it] it (fun i h => h.IsStrIter it "str_iterator" z t i) where
  mem := by simp
  obj := fun i h st b hb => by
    have e : b = it := by simpa using hb
    subst e
    obtain ⟨o, e, c, d⟩ := st
    exact ⟨o, e, fun v z => by rw [d] at z; cases z⟩
  keep := fun i h h' st k => let ⟨o, e, r⟩ := st; ⟨o, k it (by simp) o e, r⟩
  item := by
    intro X hP hw hK hc i pins s σ H E I hf st hg
    subst hP hw hK
    obtain ⟨f0, f1, f2, f3, f4, f5⟩ := hf it (by simp)
    have hg' : i < z.cps.size := hg
    refine wpAny_pyNext_wide_item st (c := z.cps[i]) (by simp [hg']) fun h' st' sb => ?_
    have I1 : Inv X pins σ H { s with heap := h', toks := s.toks + 1 } := I.turned (fun b o hb e => (sb.2 b hb).trans e) f0 f1 f3 f4 f5
    obtain ⟨o, e, c, d⟩ := id st'
    exact ⟨_, rfl, go_of (s := { s with heap := h', toks := s.toks + 1 }) e c d (by decide) ⟨.str ⟨#[z.cps[i]]⟩, H, I1, ⟨_, rfl⟩, ⟨rfl, _, by simp [hg'], rfl⟩, st', fun b hb => (hf b hb).1⟩⟩
  done := by
    intro X hP hw hK hc i pins s σ H E I hf st hg
    subst hP hw hK
    obtain ⟨f0, f1, f2, f3, f4, f5⟩ := hf it (by simp)
    exact wpAny_pyNext_wide_end (I.ok.hd hc) st (Array.getElem?_eq_none hg) fun h' eb => ⟨rfl, I.turned (t' := s.toks) (fun b o hb e => eb b o hb e) f0 f1 f3 f4 f5⟩
  self := fun A i s Q E st h => by
    refine wpAny_pyIter_slot st.typeIs F.slot_str_iterator_iter (wpAny_call_entry F.slot_str_iterator_iter st.typeIs F.entry_str_iterator_iter ?_ (F.args_str_iterator_iter_1 _))
    show wpAny _ _ (ret (.ref it)) _ _ s
    exact wpAny_pure ⟨_, rfl, "str_iterator", _, st.typeIs, F.slot_str_iterator_next.lookup, h⟩
section
variable {X : Cx} {tg : Expr}
end
noncomputable def isBl (bs : List Bool) : List V := bs.map V.bl
theorem bl_of {bs : List Bool} {its : List Value} (r : Vals (isBl bs) its) : ∀ i : Nat, its[i]? = (bs[i]?).map Value.bool := by
  induction bs generalizing its with
  | nil => cases r; intro i; simp
  | cons b bs ih =>
    cases r with
    | cons r rr =>
      cases r
      intro i
      cases i with
      | zero => rfl
      | succ i => exact ih rr i
theorem range_all {n : Nat} {f : Nat → Bool} {l : List Bool} (hn : l.length = n) (h : ∀ i b, l[i]? = some b → f i = b) : (List.range n).all f = l.all id := by
  induction l generalizing n f with
  | nil => subst hn; rfl
  | cons b l ih =>
    subst hn
    rw [List.length_cons, List.range_succ_eq_map, List.all_cons, List.all_map, List.all_cons, h 0 b rfl, ih (n := l.length) (f := f ∘ Nat.succ) rfl fun i b e => h (i + 1) b e]
    rfl
section
variable {X : Cx}
theorem call_all (hc : X.calm = true) : CallR X (.builtin "all") (fun xs H Q => ∃ p bs, xs = [.ref p] ∧ SqL X.K H p (isBl bs) ∧ Q (.bl (bs.all id)) H) := by
  intro pins s σ H xs us Q I r h
  obtain ⟨p, bs, rfl, hq, q⟩ := h
  obtain ⟨u, rfl, rx⟩ := vals1 r
  cases rx
  obtain ⟨its, rv, pl, hz⟩ := I.list hq
  have hg := bl_of rv
  have hlen : bs.length = its.length := by have := rv.length; simpa [isBl] using this
  refine call_all_walk (wpAny_pyIter_list pl.isList ?_)
  have hlt : p < s.heap.objs.size := let ⟨o, _, e, _⟩ := pl; Heap.lt_size e
  refine ⟨s.heap.objs.size, _, _, _, _, _, fun i => (bs[i]?).getD false, rfl, Walks.list (by exact I.ok.hd hc) s.heap.objs.size p (Nat.ne_of_lt hlt) its.toArray, ⟨⟨_, Heap.get?_push_size _ rfl, rfl, rfl⟩, pl.isList.at fun o e => Heap.get?_push_of_some _ e⟩, ?_, ?_⟩
  · intro i v s' Q' E' hv hq'
    have hv' : its[i]? = some v := by simpa using hv
    rw [hg i] at hv'
    cases e : bs[i]? with
    | none => rw [e] at hv'; cases hv'
    | some b =>
      dsimp only at hq'
      rw [e] at hv' hq'
      cases hv'
      exact wpAny_truthy_bool hq'
  · intro h' tk hk
    have e1 : (List.range its.toArray.size).all (fun i => (bs[i]?).getD false) = bs.all id := range_all (by simpa using hlen) (fun i b e => by rw [e]; rfl)
    rw [e1]
    have I1 : Inv X pins σ H { s with heap := s.heap.push { cls := .type "list_iterator", data := .fields #[.ref p, .int 0 0] }, toks := s.toks } := I.kept fun b o e => Heap.get?_push_of_some _ e
    have f1 := I.fpOk (H' := H) (Nat.le_refl _) (I.hok.fresh (Nat.le_refl _))
    obtain ⟨f0, f1, f2, f3, f4, f5⟩ := f1
    exact ⟨.bl _, H, I1.turned (it := s.heap.objs.size) (fun b o hb e => hk b o (by simpa using hb) e) f0 f1 f3 f4 f5, rfl, q⟩
theorem sl_str : SlR X (fun x lo hi H Q => ∃ z, x = .str z ∧ z.length ≤ sizeLine ∧ Q (.str (Txt.slice z lo hi)) H) := by
  intro pins s σ H x v vl vu lo hi sl Q I rx hs pl pu h
  obtain ⟨z, rfl, hz, q⟩ := h
  obtain ⟨t, rfl⟩ := rx
  refine ⟨"str", _, F.slot_str_getitem.lookup, typeIs_str _ _ _, ?_⟩
  obtain ⟨o, ho, hc, hd⟩ := hs
  have fin : ∀ (t' : Tok) (k : Nat), EP X pins σ Q (.str (Txt.slice z lo hi) t') { s with toks := k } := fun t' k => ⟨.str (Txt.slice z lo hi), H, I.tok k, ⟨t', rfl⟩, q⟩
  have hle := Nat.le_trans (Txt.slice_le z lo hi) hz
  cases pl with
  | none => cases pu with
    | none => exact wpAny_getItem_str_slice (l := none) (u := none) (st := none) ⟨o, ho, hc, hd⟩ rfl (post_val_or_str ⟨hle, fun t' k => fin t' k⟩)
    | int j uj => exact wpAny_getItem_str_slice (l := none) (u := some (j, uj)) (st := none) ⟨o, ho, hc, hd⟩ rfl (post_val_or_str ⟨hle, fun t' k => fin t' k⟩)
  | int i ui => cases pu with
    | none => exact wpAny_getItem_str_slice (l := some (i, ui)) (u := none) (st := none) ⟨o, ho, hc, hd⟩ rfl (post_val_or_str ⟨hle, fun t' k => fin t' k⟩)
    | int j uj => exact wpAny_getItem_str_slice (l := some (i, ui)) (u := some (j, uj)) (st := none) ⟨o, ho, hc, hd⟩ rfl (post_val_or_str ⟨hle, fun t' k => fin t' k⟩)
theorem strs_of : ∀ {ys : List Str} {its : List Value}, Vals (ys.map V.str) its → StrsAre its ys
  | [], _, r => by cases r; exact .nil
  | y :: ys, _, r => by
    cases r with
    | cons r rr =>
      obtain ⟨t, rfl⟩ := r
      exact .cons y t (strs_of rr)
noncomputable def rJoin (K : PySem.W.Frag) : V → List V → Hp → VK → Prop := fun x vs H Q => ∃ z p ys, x = .str z ∧ vs = [.ref p] ∧ SqL K H p (ys.map V.str) ∧ (ys.map (·.length)).sum + ys.length * z.length ≤ 16777216 ∧ Q (.str (Txt.join z ys)) H
theorem mt_join : MtR X "str.join" (rJoin X.K) := by
  intro pins s σ H x vs v us Q I rx rv h
  obtain ⟨z, p, ys, rfl, rfl, hq, hz, q⟩ := h
  obtain ⟨t, rfl⟩ := rx
  obtain ⟨u, rfl, rp⟩ := vals1 rv
  cases rp
  obtain ⟨its, r, pl, _⟩ := I.list hq
  exact join_list pl.isList (by simpa using strs_of r) hz fun t' k => ⟨.str (Txt.join z ys), H, I.tok k, ⟨t', rfl⟩, q⟩
theorem op_powB : OpR X (binaryOp .Pow) (rI (fun i j => 0 ≤ j ∧ (Builtin.Int.intBits i : Int) * j ≤ 2 ^ 27) fun i j => .int (i ^ j.toNat)) := opI fun _ _ _ _ _ _ _ hc q => pow_int hc.1 hc.2 q
end
noncomputable def compChk (XN : List Str) (xs scope : Scope) (N : List Str) (k : Nat) (cap : List Nat) : Bool :=
  scope.kind == .function && (scope.names.all fun y => y.2 != .local || scope.names.lookup y.1 == some .local) && (scope.names.all fun y => y.2 != .cell) &&
  (scope.names.all fun y => y.2 != .free || xs.names.lookup y.1 == some .cell || xs.names.lookup y.1 == some .free) && N.length == k + cap.length &&
  (List.range cap.length).all fun j => match cap[j]?, N[k + j]? with
    | some i, some y => XN[i]? == some y && scope.names.lookup y == some .free
    | _, _ => false
theorem compScope_of {X : Cx} {XN : List Str} {xs scope : Scope} {N : List Str} {k : Nat} {cap : List Nat} (hN : X.N = XN) (hs : X.env.scope = xs) (h : compChk XN xs scope N k cap = true) : CompScope X scope N k cap := by
  subst hN hs
  unfold compChk at h
  simp only [Bool.and_eq_true, List.all_eq_true, Bool.or_eq_true, bne_iff_ne, ne_eq, beq_iff_eq] at h
  obtain ⟨⟨⟨⟨⟨h1, h2⟩, h3⟩, h4⟩, h5⟩, h6⟩ := h
  refine ⟨h1, fun y hy e => (h2 y hy).resolve_left (fun z => z e), h3, fun y hy e => ?_, h5, fun j i e => ?_⟩
  · rcases h4 y hy with (z | z) | z
    · exact absurd e z
    · exact .inl z
    · exact .inr z
  · have hj : j < cap.length := (List.getElem?_eq_some_iff.mp e).1
    have q := h6 j (List.mem_range.mpr hj)
    rw [e] at q
    cases r : N[k + j]? with
    | none => rw [r] at q; cases q
    | some y =>
      rw [r] at q
      simp only [Bool.and_eq_true, beq_iff_eq] at q
      exact ⟨y, rfl, q.1, q.2⟩
section
variable {X : Cx} {elt tg iter : Expr} {ifs : List Expr} {scope : Scope} {pos : Pos} {wi : TI} {g : TG} {tt : TT} {te : TE} {N : List Str} {k : Nat} {cap : List Nat} {XN : List Str} {xs : Scope}
theorem pe_lc (N : List Str) (k : Nat) (cap : List Nat) (XN : List Str) (xs : Scope) (hc : X.calm = true) (hN : X.N = XN) (hx : X.env.scope = xs) (hi : PI X tg iter wi) (chk : compChk XN xs scope N k cap = true)
    (hg : ∀ c, PG (cxComp X scope N c) tg g) (ht : ∀ c, PTs (cxComp X scope N c) ifs tt) (he : ∀ c, PE (cxComp X scope N c) elt te)
    (hs : ∀ x, foldedSetIterable iter X.env x = pure x := by intro _; rfl) : PE X (.ListComp elt [⟨tg, iter, ifs, 0⟩] scope pos) (tComp wi k cap g tt te) := pe_comp hc (compScope_of hN hx chk) hi hg ht he hs
end
section
variable {wi : TI} {k : Nat} {cap : List Nat} {g : TG} {tt : TT} {te : TE} {σ : St} {H1 : Hp} {Q : VK} {l : Addr}
end
structure Def (K : PySem.W.Frag) (mg : Str → Option Value) (x : Str) (st : Stmt) (ps : List Str) (f : Addr) (fd : FuncData) : Prop where
  F : Fun K x x st f fd
  m : mg x = some (.ref f)
  b : Binds K fd ps []
section
variable {X : Cx} {x : Str} {st : Stmt} {ps : List Str} {f : Addr} {fd : FuncData} {j k : Nat} {sp : Sp} {e : Expr} {es : List Expr} {t : TA} {p pos : Pos}
theorem pe_fn (D : Def X.K X.mg x st ps f fd) (G : FnOk X.prog X.w X.K X.mg X.base CX0 j f fd ps sp) (hr : Room k X.A) (hjk : j ≤ k) (hg : Gl X x) (ha : PA X (e :: es) t) (hdb : (x == ("__debug__" : Str)) = false := by decide)
    (he : starEach (e :: es) X.env = (false, eval e X.env) :: starEach es X.env := by rfl) (hpl : (backTo pos (starEach es X.env)).any (·.1) = false := by rfl) :
    PE X (.Call (.Name x p) (e :: es) [] pos) (tCall sp [] E0 t) := pe_call G (hr.mono hjk) hg D.m D.F.kp D.b .nil pass0 ha hdb he hpl
end
end L2
set_option Elab.async false
set_option linter.all false
set_option maxRecDepth 100000
set_option maxHeartbeats 4000000
namespace L2
open PySem PySem.Spec PyProof.Rows
noncomputable def eqLV : List V → List V → Bool
  | [], [] => true
  | x :: xs, y :: ys => eqV x y && eqLV xs ys
  | _, _ => false
theorem eqLV_len : ∀ {xs ys : List V}, xs.length ≠ ys.length → eqLV xs ys = false
  | [], [], h => absurd rfl h
  | [], _ :: _, _ => rfl
  | _ :: _, [], _ => rfl
  | x :: xs, y :: ys, h => by
    unfold eqLV
    rw [eqLV_len (xs := xs) (ys := ys) (by simpa using h), Bool.and_false]
theorem eqLV_range : ∀ {xs ys : List V}, xs.length = ys.length → (List.range xs.length).all (fun j => eqV ((xs[j]?).getD .non) ((ys[j]?).getD .non)) = eqLV xs ys
  | [], [], _ => rfl
  | [], _ :: _, h => by cases h
  | _ :: _, [], h => by cases h
  | x :: xs, y :: ys, h => by
    have ih := eqLV_range (xs := xs) (ys := ys) (by simpa using h)
    rw [List.length_cons, List.range_succ_eq_map, List.all_cons, List.all_map]
    unfold eqLV
    rw [← ih]
    rfl
theorem Vals.get' : ∀ {xs : List V} {us : List Value} {i : Nat} {u : Value}, Vals xs us → us[i]? = some u → ∃ x, xs[i]? = some x ∧ RelV x u
  | _, _, _, _, .nil, h => by simp at h
  | _, _, 0, _, .cons r _, h => by simp at h; subst h; exact ⟨_, rfl, r⟩
  | _, _, i + 1, _, .cons _ t, h => Vals.get' (i := i) t (by simpa using h)
section
variable {X : Cx} {k : Nat}
end
theorem bt_abs : bootBuiltins "abs" = some (.builtin "abs") := by decide +kernel
theorem bt_all : bootBuiltins "all" = some (.builtin "all") := by decide +kernel
theorem bt_isinstance : bootBuiltins "isinstance" = some (.builtin "isinstance") := by decide +kernel
theorem bt_len : bootBuiltins "len" = some (.builtin "len") := by decide +kernel
theorem bt_max : bootBuiltins "max" = some (.builtin "max") := by decide +kernel
theorem bt_min : bootBuiltins "min" = some (.builtin "min") := by decide +kernel
theorem bt_sorted : bootBuiltins "sorted" = some (.builtin "sorted") := by decide +kernel
theorem bt_sum : bootBuiltins "sum" = some (.builtin "sum") := by decide +kernel
theorem bt_int : bootBuiltins "int" = some (.type "int") := by decide +kernel
theorem bt_str : bootBuiltins "str" = some (.type "str") := by decide +kernel
theorem bt_tuple : bootBuiltins "tuple" = some (.type "tuple") := by decide +kernel
theorem bt_enumerate : bootBuiltins "enumerate" = some (.type "enumerate") := by decide +kernel
theorem bt_zip : bootBuiltins "zip" = some (.type "zip") := by decide +kernel
section
variable {X : Cx}
end
end L2
set_option Elab.async false
set_option linter.all false
set_option maxRecDepth 100000
set_option maxHeartbeats 4000000
namespace L2
open PySem PySem.Spec PyProof.Rows
noncomputable def But (p : Addr) (H H' : Hp) : Prop := ∀ b o, H b = some o → b ≠ p → H' b = some o
theorem But.refl {p : Addr} {H : Hp} : But p H H := fun _ _ h _ => h
theorem But.trans {p : Addr} {H H1 H2 : Hp} (a : But p H H1) (b : But p H1 H2) : But p H H2 := fun c o h n => b c o (a c o h n) n
theorem But.of {p : Addr} {H H1 : Hp} (a : Same H H1) : But p H H1 := fun c o h _ => a c o h
theorem Same.upd {H : Hp} {l : Addr} {o : HO} (h : H l = none) : Same H (upd H l o) := fun b u e => by rw [upd_ne (ne_of_none e h)]; exact e
theorem But.upd {p : Addr} {H : Hp} {o : HO} : But p H (upd H p o) := fun b u e n => by rw [upd_ne n]; exact e
theorem SqL.same {K : PySem.W.Frag} {H H' : Hp} {a : Addr} {xs : List V} (h : SqL K H a xs) (s : Same H H') : SqL K H' a xs := Same.seq s h
theorem SqT.same {K : PySem.W.Frag} {H H' : Hp} {a : Addr} {xs : List V} (h : SqT K H a xs) (s : Same H H') : SqT K H' a xs := by
  rcases h with (h | ⟨o, h⟩) | h
  · exact .inl (.inl (s _ _ h))
  · exact .inl (.inr ⟨o, s _ _ h⟩)
  · exact .inr h
theorem SqL.but {K : PySem.W.Frag} {H H' : Hp} {a p : Addr} {xs : List V} (h : SqL K H a xs) (s : But p H H') (n : a ≠ p) : SqL K H' a xs := by
  rcases h with (h | ⟨o, h⟩) | h
  · exact .inl (.inl (s _ _ h n))
  · exact .inl (.inr ⟨o, s _ _ h n⟩)
  · exact .inr h
theorem SqT.but {K : PySem.W.Frag} {H H' : Hp} {a p : Addr} {xs : List V} (h : SqT K H a xs) (s : But p H H') (n : a ≠ p) : SqT K H' a xs := by
  rcases h with (h | ⟨o, h⟩) | h
  · exact .inl (.inl (s _ _ h n))
  · exact .inl (.inr ⟨o, s _ _ h n⟩)
  · exact .inr h
theorem szl {n : Nat} (h : n ≤ 16777216) : n ≤ sizeLine := by rw [PySem.sizeLine_eq]; exact h
theorem szt {n : Nat} (h : n < 16777216) : n < sizeLine := by rw [PySem.sizeLine_eq]; exact h
theorem atI_mem {α : Type} {xs : List α} {d : Int} (h0 : 0 ≤ d) (h : d < (xs.length : Int)) : ∃ c, c ∈ xs ∧ atI xs d = some c := by
  obtain ⟨j, rfl⟩ : ∃ j : Nat, d = (j : Int) := ⟨d.toNat, by omega⟩
  have hj : j < xs.length := by omega
  exact ⟨xs[j], List.getElem_mem hj, atI_nat (by simp [hj])⟩
theorem joined {ys : List Str} : (Txt.join (Str.ofString "") ys).length ≤ (ys.map (·.length)).sum := by
  show (Builtin.Str.glued _ ys).length ≤ _
  rw [StrLaws.glued_eq_join]
  have h := StrLaws.join_length_le (Str.ofString "") ys
  have e : (Str.ofString "").length = 0 := by decide +kernel
  rw [e] at h
  omega
section
variable {k : Nat} {cap : List Nat} {g : TG} {tt : TT} {te : TE} {σ : St} {H : Hp} {Q : VK} {l : Addr}
end
theorem Same.but {H H0 H1 H2 : Hp} {p : Addr} (s : Same H H0) (n : H0 p = none) (s1 : Same H0 H1) (b : But p H1 H2) : Same H H2 := fun c o h => b c o (s1 c o (s c o h)) (ne_of_none (s c o h) n)
noncomputable def PotO (o : Option HO) : Prop := ∃ a b : Int, o = some (.lst [.int a, .int b]) ∧ 0 ≤ a ∧ 0 ≤ b ∧ b < 2147483647
noncomputable abbrev Pot (H : Hp) (p : Addr) : Prop := PotO (H p)
theorem Pot.same {H H' : Hp} {p : Addr} (h : Pot H p) (s : Same H H') : Pot H' p := let ⟨a, b, e, r⟩ := h; ⟨a, b, s _ _ e, r⟩
theorem Pot.ne {H : Hp} {p : Addr} (h : Pot H p) {l : Addr} (n : H l = none) : p ≠ l := let ⟨_, _, e, _⟩ := h; ne_of_none e n
noncomputable def spLaw (K : PySem.W.Frag) : Sp := fun vs H Q _ => ∃ (a : Addr) (ns : List Int), vs = [.ref a] ∧ SqL K H a (ns.map V.int) ∧ ns.length ≤ 63 ∧ ∀ H', Q (.bl true) H'
theorem big_pos : (0 : Int) < ((10 : Int) ^ (60 : Int).toNat) ^ (3 : Int).toNat := by decide +kernel
end L2
set_option Elab.async false
set_option linter.all false
set_option maxRecDepth 100000
set_option maxHeartbeats 4000000
namespace PySem
open Sem (wp)
open AutoSeq1 (wpAny_loadPart')
section
variable {prog : Program} {w : World} {A : Around} {E : Value → Shared → Prop} {s : Shared}
theorem ours_nextOf_tuple_item {it t : Addr} {i : Nat} {items} {x : Value} {Q : Value → Shared → Prop} (hit : s.heap.IsTupleIter it t i)
    (ht : s.heap.IsTuple t items) (hx : items[i]? = some x)
    (hQ : ∀ h', h'.IsTupleIter it t (i + 1) → Heap.SameBut it s.heap h' → Q x { s with heap := h' }) :
    wpAny (model prog w) A (Builtin.SmallTypes.nextOf (.ref it)) Q E s := by
  obtain ⟨o, ho, hc, hd⟩ := id hit
  obtain ⟨ol, hol, _, nl, hdl⟩ := ht
  unfold Builtin.SmallTypes.nextOf
  refine wpAny_bind (wpAny_callSpecial?_slot (name := Str.ofString "__next__") hit.typeIs F.slot_tuple_iterator_next
    (wpAny_call_entry F.slot_tuple_iterator_next hit.typeIs F.entry_tuple_iterator_next ?_ (F.args_tuple_iterator_next_1 _)))
  show wpAny _ _ (field (.ref it) 0 >>= _) _ _ s
  refine wpAny_bind (wpAny_field ho hd (x := .ref t) rfl ?_)
  show wpAny _ _ (if (Value.ref t == Value.none) = true then _ else _) _ _ s
  rw [if_neg (show ¬ ((Value.ref t == Value.none) = true) from Bool.false_ne_true)]
  show wpAny _ _ (field (.ref it) 1 >>= _) _ _ s
  refine wpAny_bind (wpAny_field ho hd (x := .int i 0) rfl ?_)
  show wpAny _ _ (seqItems? (.ref t) >>= _) _ _ s
  refine wpAny_bind (wpAny_seqItems hol hdl ?_)
  simp only [Int.toNat_natCast, hx]
  refine wpAny_bind (wpAny_setField ho hd (by simp) (wpAny_pure ⟨x, rfl, wpAny_pure (hQ _ ?_ (Heap.SameBut.update ..))⟩))
  exact ⟨_, Heap.get?_update_self _ ho (Obj.isFreed_of_fields (Obj.data_mapFields hd _)), (Obj.cls_mapFields ..).trans hc, by
    rw [Obj.data_mapFields hd]; simp [rawInt]⟩
theorem ours_nextOf_tuple_end {it l : Addr} {i : Nat} {items} {Q : Value → Shared → Prop} (hh : A.handled = none)
    (hit : s.heap.IsTupleIter it l i) (hl : s.heap.IsTuple l items) (hx : items[i]? = none)
    (hE : ∀ h' e, Heap.ExtBut it s.heap h' → (∃ o, h'.get? e = some o ∧ o.cls = .type "StopIteration") → E (.ref e) { s with heap := h' }) :
    wpAny (model prog w) A (Builtin.SmallTypes.nextOf (.ref it)) Q E s := by
  obtain ⟨o, ho, hc, hd⟩ := id hit
  obtain ⟨ol, hol, _, nl, hdl⟩ := hl
  unfold Builtin.SmallTypes.nextOf
  refine wpAny_bind (wpAny_callSpecial?_slot (name := Str.ofString "__next__") hit.typeIs F.slot_tuple_iterator_next
    (wpAny_call_entry F.slot_tuple_iterator_next hit.typeIs F.entry_tuple_iterator_next ?_ (F.args_tuple_iterator_next_1 _)))
  show wpAny _ _ (field (.ref it) 0 >>= _) _ _ s
  refine wpAny_bind (wpAny_field ho hd (x := .ref l) rfl ?_)
  show wpAny _ _ (if (Value.ref l == Value.none) = true then _ else _) _ _ s
  rw [if_neg (show ¬ ((Value.ref l == Value.none) = true) from Bool.false_ne_true)]
  show wpAny _ _ (field (.ref it) 1 >>= _) _ _ s
  refine wpAny_bind (wpAny_field ho hd (x := .int i 0) rfl ?_)
  show wpAny _ _ (seqItems? (.ref l) >>= _) _ _ s
  refine wpAny_bind (wpAny_seqItems hol hdl ?_)
  simp only [Int.toNat_natCast, hx]
  refine wpAny_bind (wpAny_rule (wpAny_bind (wpAny_setField ho hd (by simp) ?_)))
  show wpAny _ _ (newExc (.type "StopIteration") [] >>= _) _ _ _
  refine wpAny_bind ?_
  simp only [newExc, newTuple]
  refine wpAny_bind (wpAny_newObj_type ?_ (by size_fits))
  refine wpAny_bind (m := firstArgMember _ _) (wpAny_of_eq (a := Value.none) (by first | rfl | (simp only [firstArgMember]; rfl)) ?_)
  refine wpAny_newObj_type ?_ (by size_fits)
  simp only [raiseNew]
  refine wpAny_bind (wpAny_handled ?_)
  first | rw [show A.in1.handled = none from hh] | rw [hh]
  refine wpAny_bind (wpAny_pure (wpAny_throw ?_))
  exact hE _ _ (((Heap.SameBut.update ..).extBut.push _).push _) ⟨_, Heap.get?_push_size _ rfl, rfl⟩
end
theorem ours_Draws_tuple {prog : Program} {w : World} {A : Around} (hh : A.handled = none) (it l : Addr) (hne : l ≠ it) (items : Array Value) :
    Draws prog w A it [it, l] items.size (fun i v => items[i]? = some v) (fun i h => h.IsTupleIter it l i ∧ h.IsTuple l items) where
  live := fun _ _ st => let ⟨o, ho, _⟩ := st.1; ⟨o, ho⟩
  frame := fun _ _ _ st hk => ⟨st.1.at fun o e => hk it (by simp) o e, let ⟨o, e, r⟩ := st.2; ⟨o, hk l (by simp) o e, r⟩⟩
  item := fun i s Q E hi st hQ => by
    refine ours_nextOf_tuple_item st.1 st.2 (x := items[i]) (by simp [hi]) fun h' hit' hs' => ?_
    exact hQ _ h' s.toks (by simp [hi]) ⟨hit', st.2.extBut hs'.extBut hne⟩ hs'
  done := fun s Q E st hE => ours_nextOf_tuple_end hh st.1 st.2 (by simp) hE
theorem ours_meets_enumerate_newT (l : Addr) (items : Array Value) (n : Nat) (dct : Option Addr) (sl : Array (Option Value)) :
    Meets (Builtin.«enumerate.__new__» ⟨[.type "enumerate", .ref l], []⟩) (fun _ R s => s.heap.get? l = some { cls := .type "tuple", dict := dct, data := .seq items n, slots := sl } ∧
      R (.ok (.ret (.ref (s.heap.push { cls := .type "tuple_iterator", data := .fields #[.ref l, .int 0 0] }).objs.size)))
        { s with heap := (s.heap.push { cls := .type "tuple_iterator", data := .fields #[.ref l, .int 0 0] }).push { cls := .type "enumerate", data := .fields #[.none, .bool false, .ref s.heap.objs.size, rawInt 0, .none, .none] } }) :=
  .of_wp fun prog w A R s h => by
    obtain ⟨hp, g, d, tk, os⟩ := s; obtain ⟨hl, h⟩ := h
    have hsub := sub_enumerate
    have hL : Heap.IsTuple (Shared.heap ⟨hp, g, d, tk, os⟩) l items := ⟨_, hl, rfl, n, rfl⟩
    wp_walk using wpAny_loadPart' hl
    refine wpAny_stack_any fun st => wpAny_pure ?_
    split
    · rename_i c _ _ _ _ _
      cases (c == Value.type "enumerate")
      · wp_walk using wpAny_loadPart' hl, wpAny_pyIter_tuple hL
        exact ⟨_, rfl, h⟩
      · wp_walk using wpAny_loadPart' hl, wpAny_pyIter_tuple hL
        exact ⟨_, rfl, h⟩
    · wp_walk using wpAny_loadPart' hl, wpAny_pyIter_tuple hL
      exact ⟨_, rfl, h⟩
section
variable {prog : Program} {w : World} {A : Around} {E : Value → Shared → Prop} {s : Shared}
theorem ours_call_enumerate_tuple {l : Addr} {items : Array Value} {Q : Value → Shared → Prop} (hL : s.heap.IsTuple l items)
    (h : ∀ h', IsEnum h' (s.heap.objs.size + 1) s.heap.objs.size 0 .none → h'.IsTupleIter s.heap.objs.size l 0 → h'.objs.size = s.heap.objs.size + 2 →
      (∀ b o, s.heap.get? b = some o → h'.get? b = some o) → Q (.ref (s.heap.objs.size + 1)) { s with heap := h' }) :
    wpAny (model prog w) A (call (.type "enumerate") [.ref l]) Q E s := by
  obtain ⟨⟨c, dct, dt, sl⟩, hl, hc, n, hd⟩ := hL
  replace hc : c = .type "tuple" := hc
  replace hd : dt = .seq items n := hd
  subst hc hd
  refine callType_new F.called_enumerate (by decide) (F.typeCall_enumerate_1 _) (F.newCall_enumerate_1 _) (fun obj => F.args_object_init_2 obj _) F.entry_enumerate_new
    (ours_meets_enumerate_newT l items n dct sl) ⟨hl, ?_⟩
  have hz : (s.heap.push { cls := .type "tuple_iterator", data := .fields #[.ref l, .int 0 0] }).objs.size = s.heap.objs.size + 1 := Heap.size_push ..
  show _ ∧ _
  rw [hz]
  have he : IsEnum ((s.heap.push { cls := .type "tuple_iterator", data := .fields #[.ref l, .int 0 0] }).push
      { cls := .type "enumerate", data := .fields #[.none, .bool false, .ref s.heap.objs.size, rawInt 0, .none, .none] }) (s.heap.objs.size + 1) s.heap.objs.size 0 .none := by
    have := Heap.get?_push_size (s.heap.push { cls := .type "tuple_iterator", data := .fields #[.ref l, .int 0 0] })
      (o := { cls := .type "enumerate", data := .fields #[.none, .bool false, .ref s.heap.objs.size, rawInt 0, .none, .none] }) rfl
    rw [hz] at this; exact this
  refine ⟨⟨_, he, rfl⟩, h _ he ⟨_, Heap.get?_push_of_some _ (Heap.get?_push_size _ rfl), rfl, rfl⟩ (by rw [Heap.size_push, hz]) fun b o x => Heap.get?_push_of_some _ (Heap.get?_push_of_some _ x)⟩
end
end PySem
namespace L2
open PySem PySem.Spec PyProof.Rows
theorem Inv.turnedL {X : Cx} {pins : List (Addr × Obj)} {σ : St} {H : Hp} {s : Shared} {h' : Heap} {t' : Nat} {fp : List Addr} (I : Inv X pins σ H s) (k : ∀ b o, b ∉ fp → s.heap.get? b = some o → h'.get? b = some o) (hf : ∀ b ∈ fp, FpOk X pins H b) :
    Inv X pins σ H { s with heap := h', toks := t' } := by
  have nit : ∀ b u, H b = some u → b ∉ fp := fun b u e z => by rw [(hf b z).1] at e; cases e
  refine I.step (g' := s.gens) (d' := s.drawn) (ch := fp) (fun b hb => ?_) (fun b o _ _ hc e _ => k b o hc e) (fun b o _ _ hc e _ => ⟨o.slots, k b o hc e⟩) (fun _ _ _ _ n => n)
    (fun b o hc e => ⟨o, k b o hc e⟩) (fun _ _ e => e) (fun _ _ _ e => e) (fun b ps e => ⟨#[], by rw [e]; simp⟩) (fun m hm => ?_) (fun b u e => ?_) I.bare
  · obtain ⟨_, f1, _, f3, f4, f5⟩ := hf b hb
    exact ⟨f3, f1, f4, f5⟩
  · obtain ⟨o, es, ep, ho, r⟩ := hm
    exact ⟨o, es, ep, k _ o (fun z => (hf _ z).2.1 rfl) ho, r⟩
  · refine (I.hok b u e).stay (fun c v hc q => k c v ?_ q) (fun _ q => q) fun _ _ q => q
    rcases hc with z | z
    · rw [z]; exact nit b u e
    · exact nit c _ z
theorem Inv.un2 {X : Cx} {pins : List (Addr × Obj)} {σ : St} {H : Hp} {s : Shared} {h' : Heap} {t' : Nat} {fp : List Addr} {xs : List V} (I : Inv X pins σ H s) (k : ∀ b o, b ∉ fp → s.heap.get? b = some o → h'.get? b = some o) (hf : ∀ b ∈ fp, FpOk X pins H b)
    (hfr : H s.heap.objs.size = none) (hno : s.heap.objs.size ∉ fp) (new : ObjOk X.prog X.w (upd H s.heap.objs.size (.tup xs)) h' s.heap.objs.size (.tup xs)) (ht : ∀ b ∈ fp, ∀ o, s.heap.get? b = some o → ∃ o', h'.get? b = some o') :
    Inv X pins σ (upd H s.heap.objs.size (.tup xs)) { s with heap := h', toks := t' } := by
  have nit : ∀ b u, H b = some u → b ∉ fp := fun b u e z => by rw [(hf b z).1] at e; cases e
  have nT : ∀ b o, s.heap.get? b = some o → b ≠ s.heap.objs.size := fun b o e => Nat.ne_of_lt (Heap.lt_size e)
  refine I.step (g' := s.gens) (d' := s.drawn) (ch := fp) (fun b hb => ?_) (fun b o _ _ hc e _ => k b o hc e) (fun b o _ _ hc e _ => ⟨o.slots, k b o hc e⟩) (fun b o _ e n => by rw [upd_ne (nT b o e)]; exact n)
    (fun b o hc e => ⟨o, k b o hc e⟩) (fun b ys e => by rw [upd_ne (ne_of_none e hfr)]; exact e) (fun b o u e => by rw [upd_ne (ne_of_none e hfr)]; exact e) (fun b ps e => ⟨#[], by rw [upd_ne (ne_of_none e hfr), e]; simp⟩) (fun m hm => ?_) (fun b u e => ?_) I.bare
  · obtain ⟨_, f1, _, f3, f4, f5⟩ := hf b hb
    exact ⟨f3, f1, f4, f5⟩
  · obtain ⟨o, es, ep, ho, r⟩ := hm
    exact ⟨o, es, ep, k _ o (fun z => (hf _ z).2.1 rfl) ho, r⟩
  · by_cases hb : b = s.heap.objs.size
    · subst hb; rw [upd_same] at e; cases e; exact new
    · rw [upd_ne hb] at e
      refine (I.hok b u e).stay (fun c v hc q => k c v ?_ q) (fun c q => by rw [upd_ne (ne_of_none q hfr)]; exact q) fun c ys q => by rw [upd_ne (ne_of_none q hfr)]; exact q
      rcases hc with z | z
      · rw [z]; exact nit b u e
      · exact nit c _ z
noncomputable def Ite (K : PySem.W.Frag) (a : Addr) : It :=
  ⟨fun i H => ∃ xs x, SqT K H a xs ∧ xs[i]? = some x, fun i H v H' => ∃ t, H t = none ∧ v = .ref t ∧ ∀ xs, SqT K H a xs → ∃ x, xs[i]? = some x ∧ H' = upd H t (.tup [.int i, x]), fun i H => ∃ xs, SqT K H a xs ∧ xs.length = i⟩
theorem turn_enumT {P : Program} {w : World} {K : PySem.W.Frag} {elts : List Expr} {x1} {pos : Pos} (a it e : Addr) (hei : e ≠ it) : Turn P w K (.Tuple elts x1 pos) (Ite K a) [e, it] e (fun i h => (∃ old, IsEnum h e it i old) ∧ h.IsTupleIter it a i) where
  mem := by simp
  obj := fun i h st b hb => by
    obtain ⟨⟨old, he⟩, o, ho, c, d⟩ := st
    rcases List.mem_cons.mp hb with z | z
    · subst z; exact ⟨_, he, fun v z => by cases z⟩
    · have z : b = it := by simpa using z
      subst z; exact ⟨o, ho, fun v z => by rw [d] at z; cases z⟩
  keep := fun i h h' st k => ⟨let ⟨old, he⟩ := st.1; ⟨old, k e (by simp) _ he⟩, st.2.at fun o q => k it (by simp) o q⟩
  item := by
    intro X hP hw hK hc i pins s σ H E I hf st hg
    subst hP hw hK
    obtain ⟨xs, x, hq, hx⟩ := hg
    obtain ⟨its, rv, p, hz⟩ := I.tuple hq
    obtain ⟨u, hu, ru⟩ := rv.get hx
    obtain ⟨⟨old, he⟩, ht⟩ := st
    have hne : a ≠ it := fun z => by
      obtain ⟨o, ho, c, _⟩ := ht
      obtain ⟨o', ho', c', _⟩ := p
      subst z
      rw [ho] at ho'; cases ho'
      rw [c] at c'
      exact absurd (Value.type.inj c') (by decide)
    have hae : a ≠ e := fun z => by
      obtain ⟨o', ho', c', _⟩ := p
      subst z
      rw [he] at ho'; cases ho'
      exact absurd (Value.type.inj c') (by decide)
    have hlt : i < its.toArray.size := by have := (List.getElem?_eq_some_iff.mp hu).1; simpa using this
    refine wpAny_pyNext_enum_itemD (ours_Draws_tuple (A := X.A.in1) (by exact I.ok.hd hc) it a hne its.toArray) he ⟨ht, p⟩ hlt hei (by simp [hei, Ne.symm hae]) fun v h' tk hPv ho' st' htup hsz hk => ?_
    have ev : v = u := by
      have h1 : its[i]? = some v := by simpa using hPv
      rw [hu] at h1; exact (Option.some.inj h1).symm
    subst ev
    refine ⟨_, rfl, wpAny_letOwnedTupleGo_enum (s := { s with heap := h', toks := tk + 1 }) ho' fun h2 he2 sb => ?_⟩
    have hTe : s.heap.objs.size ≠ e := fun z => by
      have := Heap.lt_size he; rw [← z] at this; exact Nat.lt_irrefl _ this
    have hTi : s.heap.objs.size ≠ it := fun z => by
      obtain ⟨o, ho, _⟩ := ht
      have := Heap.lt_size ho; rw [← z] at this; exact Nat.lt_irrefl _ this
    have hk2 : ∀ b o, b ∉ [e, it] → s.heap.get? b = some o → h2.get? b = some o := fun b o hb q =>
      sb.extBut b o (fun z => hb (by simp [z])) (hk b o (fun z => hb (by simp [z])) (fun z => hb (by simp [z])) q)
    have I1 : Inv X pins σ H { s with heap := h2, toks := tk + 1 } := I.turnedL hk2 hf
    have hfr : H s.heap.objs.size = none := I.hok.fresh (Nat.le_refl _)
    have htup2 : h2.get? s.heap.objs.size = some { cls := .type "tuple", data := .seq #[.int i tk, v] } := sb.extBut _ _ hTe htup
    have I2 : Inv X pins σ (upd H s.heap.objs.size (.tup [.int i, x])) { s with heap := h2, toks := tk + 1 } := by
      refine I.un2 hk2 hf hfr (by simp [hTe, hTi]) ⟨by show 2 ≤ sizeLine; decide, [.int i tk, v], .cons ⟨_, rfl⟩ (.cons ru .nil), ⟨_, htup2, rfl, 0, rfl⟩⟩ (fun b hb o q => ?_)
      rcases List.mem_cons.mp hb with r | r
      · subst r; exact ⟨_, he2⟩
      · have r : b = it := by simpa using r
        subst r
        obtain ⟨o', ho', _⟩ := st'.1.extBut sb.extBut (Ne.symm hei)
        exact ⟨o', ho'⟩
    refine ⟨.ref s.heap.objs.size, _, I2, rfl, ⟨s.heap.objs.size, hfr, rfl, fun ys hy => ⟨x, by rw [I.tuple_inj hy hq]; exact hx, rfl⟩⟩, ⟨⟨_, he2⟩, st'.1.extBut sb.extBut (Ne.symm hei)⟩, fun b hb => ?_⟩
    have hbT : b ≠ s.heap.objs.size := fun z => by
      rcases List.mem_cons.mp hb with r | r
      · exact hTe (z ▸ r)
      · have r : b = it := by simpa using r
        exact hTi (z ▸ r)
    rw [upd_ne hbT]
    exact (hf b hb).1
  done := by
    intro X hP hw hK hc i pins s σ H E I hf st hg
    subst hP hw hK
    obtain ⟨xs, hq, hx⟩ := hg
    obtain ⟨its, rv, p, hz⟩ := I.tuple hq
    obtain ⟨⟨old, he⟩, ht⟩ := st
    have hl := rv.length
    have hne : a ≠ it := fun z => by
      obtain ⟨o, ho, c, _⟩ := ht
      obtain ⟨o', ho', c', _⟩ := p
      subst z
      rw [ho] at ho'; cases ho'
      rw [c] at c'
      exact absurd (Value.type.inj c') (by decide)
    have ei : (i : Nat) = its.toArray.size := by simp; omega
    subst ei
    obtain ⟨f0, f1, f2, f3, f4, f5⟩ := hf it (by simp)
    exact wpAny_pyNext_enum_endD (ours_Draws_tuple (A := X.A.in1) (by exact I.ok.hd hc) it a hne its.toArray) he ⟨ht, p⟩ fun h' eb => ⟨rfl, I.turned (t' := s.toks) (fun b o hb e => eb b o hb e) f0 f1 f3 f4 f5⟩
  self := fun _ _ _ _ _ st h => let ⟨_, he⟩ := st.1; wpAny_pyIter_enum he h
end L2
set_option Elab.async false
set_option linter.all false
set_option maxRecDepth 100000
set_option maxHeartbeats 4000000
namespace L2
open PySem PySem.Spec PyProof.Rows
section
variable {X : Cx} {elts : List Expr} {x1 : Nat} {tpos : Pos}
end
noncomputable def Itz (K : PySem.W.Frag) (a b : Addr) : It :=
  ⟨fun i H => ∃ xs ys x y, SqL K H a xs ∧ SqL K H b ys ∧ xs[i]? = some x ∧ ys[i]? = some y,
   fun i H v H' => ∃ t, H t = none ∧ v = .ref t ∧ ∀ xs ys, SqL K H a xs → SqL K H b ys → ∃ x y, xs[i]? = some x ∧ ys[i]? = some y ∧ H' = upd H t (.tup [x, y]),
   fun i H => ∃ xs ys, SqL K H a xs ∧ SqL K H b ys ∧ (xs.length ≤ i ∨ ys.length ≤ i)⟩
theorem turn_zipL {P : Program} {w : World} {K : PySem.W.Frag} {elts : List Expr} {x1} {pos : Pos} (a b z TI TO i1 i2 : Addr) (d1 : TI ≠ z) (d2 : TO ≠ z) (d3 : i1 ≠ z) (d4 : i2 ≠ z) (d5 : TI ≠ TO) (d6 : TI ≠ i1) (d7 : TI ≠ i2) (d8 : TO ≠ i1) (d9 : TO ≠ i2) (d10 : i1 ≠ i2) :
    Turn P w K (.Tuple elts x1 pos) (Itz K a b) [z, TI, TO, i1, i2] z (fun i h => IsZip h z TI TO .none ∧ IsPair h TI (.ref i1) (.ref i2) ∧ (∃ u v, IsPair h TO u v) ∧ h.IsListIter i1 a i ∧ h.IsListIter i2 b i) where
  mem := by simp
  obj := fun i h st c hb => by
    obtain ⟨hz, hTI, ⟨u, v, hTO⟩, ⟨o1, h1, _, e1⟩, ⟨o2, h2, _, e2⟩⟩ := st
    simp only [List.mem_cons, List.not_mem_nil, or_false] at hb
    rcases hb with r | r | r | r | r
    · subst r; exact ⟨_, hz, fun v z => by cases z⟩
    · subst r; exact ⟨_, hTI, fun v z => by cases z⟩
    · subst r; exact ⟨_, hTO, fun v z => by cases z⟩
    · subst r; exact ⟨o1, h1, fun v z => by rw [e1] at z; cases z⟩
    · subst r; exact ⟨o2, h2, fun v z => by rw [e2] at z; cases z⟩
  keep := fun i h h' st k => by
    obtain ⟨hz, hTI, ⟨u, v, hTO⟩, h1, h2⟩ := st
    exact ⟨k z (by simp) _ hz, k TI (by simp) _ hTI, ⟨u, v, k TO (by simp) _ hTO⟩, h1.at fun o q => k i1 (by simp) o q, h2.at fun o q => k i2 (by simp) o q⟩
  item := by
    intro X hP hw hK hc i pins s σ H E I hf st hg
    subst hP hw hK
    obtain ⟨xs, ys, x, y, hqa, hqb, hx, hy⟩ := hg
    obtain ⟨itsa, rva, pa, _⟩ := I.list hqa
    obtain ⟨itsb, rvb, pb, _⟩ := I.list hqb
    obtain ⟨u, hu, ru⟩ := rva.get hx
    obtain ⟨v, hv, rv⟩ := rvb.get hy
    obtain ⟨hz, hTI, ⟨p, q, hTO⟩, h1, h2⟩ := st
    have D : ZipApart z TI TO i1 i2 a b := by
      obtain ⟨oa, na, ea, ca, _, _⟩ := pa
      obtain ⟨ob, nb, eb, cb, _, _⟩ := pb
      obtain ⟨o1, e1, c1, _⟩ := h1
      obtain ⟨o2, e2, c2, _⟩ := h2
      have key : ∀ (r : Addr) (o : Obj) (n : String) (l : Addr) (ol : Obj), s.heap.get? r = some o → o.cls = .type n → n ≠ "list" → s.heap.get? l = some ol → ol.cls = .type "list" → l ≠ r := fun r o n l ol hr cr hn hl cl zz => by
        subst zz
        rw [hr] at hl; cases hl
        rw [cr] at cl
        exact hn (Value.type.inj cl)
      exact ⟨d1, d2, d3, d4, d5, d6, d7, d8, d9, d10, key z _ _ a oa hz rfl (by decide) ea ca, key TO _ _ a oa hTO rfl (by decide) ea ca, key i1 _ _ a oa e1 c1 (by decide) ea ca, key i2 _ _ a oa e2 c2 (by decide) ea ca,
        key z _ _ b ob hz rfl (by decide) eb cb, key TO _ _ b ob hTO rfl (by decide) eb cb, key i1 _ _ b ob e1 c1 (by decide) eb cb, key i2 _ _ b ob e2 c2 (by decide) eb cb⟩
    have lt : ∀ (r : Addr) (o : Obj), s.heap.get? r = some o → s.heap.objs.size ≠ r := fun r o e zz => by
      have := Heap.lt_size e; rw [← zz] at this; exact Nat.lt_irrefl _ this
    have n1 := lt z _ hz
    have n2 := lt TI _ hTI
    have n3 := lt TO _ hTO
    have n4 : s.heap.objs.size ≠ i1 := let ⟨o, e, _⟩ := h1; lt i1 o e
    have n5 : s.heap.objs.size ≠ i2 := let ⟨o, e, _⟩ := h2; lt i2 o e
    refine wpAny_pyNext_zip_item D hz hTI hTO h1 h2 pa.isList pb.isList (by simpa using hu) (by simpa using hv) fun h' hz' hTO' h1' h2' hT hsz hk => ?_
    refine ⟨_, rfl, wpAny_letOwnedTupleGo_zip (s := { s with heap := h' }) hz' fun hh2 hz2 sb => ?_⟩
    have hk2 : ∀ c o, c ∉ [z, TI, TO, i1, i2] → s.heap.get? c = some o → hh2.get? c = some o := fun c o hb e => by
      simp only [List.mem_cons, List.not_mem_nil, or_false, not_or] at hb
      exact sb.extBut c o hb.1 (hk c o hb.1 hb.2.2.1 hb.2.2.2.1 hb.2.2.2.2 e)
    have hfr : H s.heap.objs.size = none := I.hok.fresh (Nat.le_refl _)
    have hT2 : hh2.get? s.heap.objs.size = some { cls := .type "tuple", data := .seq #[u, v] } := sb.extBut _ _ n1 hT
    have hTI2 : IsPair hh2 TI (.ref i1) (.ref i2) := sb.extBut _ _ d1 (hk TI _ d1 d5 d6 d7 hTI)
    have hTO2 : IsPair hh2 TO u v := sb.extBut _ _ d2 hTO'
    have h12 := h1'.extBut sb.extBut d3
    have h22 := h2'.extBut sb.extBut d4
    have I2 : Inv X pins σ (upd H s.heap.objs.size (.tup [x, y])) { s with heap := hh2, toks := s.toks } := by
      refine I.un2 hk2 hf hfr (by simp [n1, n2, n3, n4, n5]) ⟨by show 2 ≤ sizeLine; decide, [u, v], .cons ru (.cons rv .nil), ⟨_, hT2, rfl, 0, rfl⟩⟩ (fun c hb o e => ?_)
      simp only [List.mem_cons, List.not_mem_nil, or_false] at hb
      rcases hb with r | r | r | r | r
      · subst r; exact ⟨_, hz2⟩
      · subst r; exact ⟨_, hTI2⟩
      · subst r; exact ⟨_, hTO2⟩
      · subst r; exact let ⟨o, e, _⟩ := h12; ⟨o, e⟩
      · subst r; exact let ⟨o, e, _⟩ := h22; ⟨o, e⟩
    refine ⟨.ref s.heap.objs.size, _, I2, rfl, ⟨s.heap.objs.size, hfr, rfl, fun xs' ys' hx' hy' => ⟨x, y, by rw [I.list_inj hx' hqa]; exact hx, by rw [I.list_inj hy' hqb]; exact hy, rfl⟩⟩, ⟨hz2, hTI2, ⟨u, v, hTO2⟩, h12, h22⟩, fun c hb => ?_⟩
    have hcT : c ≠ s.heap.objs.size := fun zz => by
      simp only [List.mem_cons, List.not_mem_nil, or_false] at hb
      rcases hb with r | r | r | r | r
      · exact n1 (zz ▸ r)
      · exact n2 (zz ▸ r)
      · exact n3 (zz ▸ r)
      · exact n4 (zz ▸ r)
      · exact n5 (zz ▸ r)
    rw [upd_ne hcT]
    exact (hf c hb).1
  done := by
    intro X hP hw hK hc i pins s σ H E I hf st hg
    subst hP hw hK
    obtain ⟨xs, ys, hqa, hqb, hend⟩ := hg
    obtain ⟨itsa, rva, pa, _⟩ := I.list hqa
    obtain ⟨itsb, rvb, pb, _⟩ := I.list hqb
    obtain ⟨hz, hTI, ⟨p, q, hTO⟩, h1, h2⟩ := st
    have l1 := rva.length
    have l2 := rvb.length
    have D : ZipApart z TI TO i1 i2 a b := by
      obtain ⟨oa, na, ea, ca, _, _⟩ := pa
      obtain ⟨ob, nb, eb, cb, _, _⟩ := pb
      obtain ⟨o1, e1, c1, _⟩ := h1
      obtain ⟨o2, e2, c2, _⟩ := h2
      have key : ∀ (r : Addr) (o : Obj) (n : String) (l : Addr) (ol : Obj), s.heap.get? r = some o → o.cls = .type n → n ≠ "list" → s.heap.get? l = some ol → ol.cls = .type "list" → l ≠ r := fun r o n l ol hr cr hn hl cl zz => by
        subst zz
        rw [hr] at hl; cases hl
        rw [cr] at cl
        exact hn (Value.type.inj cl)
      exact ⟨d1, d2, d3, d4, d5, d6, d7, d8, d9, d10, key z _ _ a oa hz rfl (by decide) ea ca, key TO _ _ a oa hTO rfl (by decide) ea ca, key i1 _ _ a oa e1 c1 (by decide) ea ca, key i2 _ _ a oa e2 c2 (by decide) ea ca,
        key z _ _ b ob hz rfl (by decide) eb cb, key TO _ _ b ob hTO rfl (by decide) eb cb, key i1 _ _ b ob e1 c1 (by decide) eb cb, key i2 _ _ b ob e2 c2 (by decide) eb cb⟩
    refine wpAny_pyNext_zip_end (I.ok.hd hc) D hz hTI hTO h1 h2 pa.isList pb.isList (hend.elim (fun r => .inl (by simp; omega)) fun r => .inr (by simp; omega)) fun h' hk => ⟨rfl, I.turnedL (t' := s.toks) (fun c o hb e => ?_) hf⟩
    simp only [List.mem_cons, List.not_mem_nil, or_false, not_or] at hb
    exact hk c o hb.1 hb.2.2.1 hb.2.2.2.1 hb.2.2.2.2 e
  self := fun _ _ _ _ _ st h => wpAny_pyIter_zip st.1 h
section
variable {X : Cx} {elts : List Expr} {x1 : Nat} {tpos : Pos}
noncomputable def iZipL (K : PySem.W.Frag) (ta : TA) : TI := fun σ H R => ta σ H fun vs H1 => ∃ a b xs ys, vs = [.ref a, .ref b] ∧ SqL K H1 a xs ∧ SqL K H1 b ys ∧ R (Itz K a b) H1
theorem pi_zipL {a b : Expr} {ta : TA} {p pos : Pos} (hg : Gl X "zip") (hm : X.mg "zip" = none) (ha : PA X [a, b] ta) (hs : starEach [a, b] X.env = [(false, eval a X.env), (false, eval b X.env)] := by rfl) (hs2 : starEach [b] X.env = [(false, eval b X.env)] := by rfl) :
    PI X (.Tuple elts x1 tpos) (.Call (.Name "zip" p) [a, b] [] pos) (iZipL X.K ta) := by
  intro pins s σ H R I h
  refine Call_ (ld_blt I hg hm bt_zip (PyProof.Rows.callWith_type1 (thn (ha pos pins s σ H _ I h) fun us s1 ⟨vs, H1, I1, r1, q1⟩ => ?_) (by rw [hs, hs2]) (by rw [hs2]; rfl)))
  obtain ⟨l1, l2, xs, ys, e, hqa, hqb, q⟩ := q1
  subst e
  obtain ⟨u, v, rfl, rx, ry⟩ := vals2 r1
  cases rx
  cases ry
  obtain ⟨itsa, rva, pa, _⟩ := I1.list hqa
  obtain ⟨itsb, rvb, pb, _⟩ := I1.list hqb
  refine call_zip_2 pa.isList pb.isList fun h' hz hTI hTO h1 h2 hsz hk => ?_
  have I2 : Inv X pins σ H1 { s1 with heap := h' } := I1.kept (t' := s1.toks) hk
  refine wpAny_pyIter_zip (s := { s1 with heap := h' }) hz ?_
  have N : ∀ m n : Nat, m ≠ n → s1.heap.objs.size + m ≠ s1.heap.objs.size + n := fun m n h e => h (Nat.add_left_cancel e)
  refine ⟨s1.heap.objs.size + 4, [s1.heap.objs.size + 4, s1.heap.objs.size + 2, s1.heap.objs.size + 3, s1.heap.objs.size + 0, s1.heap.objs.size + 1], _, _, H1, rfl, I2, turn_zipL l1 l2 (s1.heap.objs.size + 4) (s1.heap.objs.size + 2) (s1.heap.objs.size + 3) (s1.heap.objs.size + 0) (s1.heap.objs.size + 1)
    (N _ _ (by decide)) (N _ _ (by decide)) (N _ _ (by decide)) (N _ _ (by decide)) (N _ _ (by decide)) (N _ _ (by decide)) (N _ _ (by decide)) (N _ _ (by decide)) (N _ _ (by decide)) (N _ _ (by decide)), ⟨hz, hTI, ⟨_, _, hTO⟩, h1, h2⟩, fun c hb => ?_, q⟩
  have hc : s1.heap.objs.size ≤ c := by
    simp only [List.mem_cons, List.not_mem_nil, or_false] at hb
    rcases hb with r | r | r | r | r <;> (rw [r]; exact Nat.le_add_right _ _)
  exact I1.fpOk hc (I1.hok.fresh hc)
end
section
variable {k : Nat} {cap : List Nat} {g : TG} {tt : TT} {te : TE} {σ : St} {H : Hp} {Q : VK} {l : Addr}
end
end L2
set_option Elab.async false
set_option linter.all false
set_option maxRecDepth 100000
set_option maxHeartbeats 4000000
namespace L2
open PySem PySem.Spec PyProof.Rows
section
variable {X : Cx} {k : Nat}
theorem ixL (K : PySem.W.Frag) (h : X.K = K := by rfl) : IxR X (rIxL K) := h ▸ ix_list
theorem ixT (K : PySem.W.Frag) (h : X.K = K := by rfl) : IxR X (rIxT K) := h ▸ ix_tup
theorem slL (K : PySem.W.Frag) (h : X.K = K := by rfl) : SlR X (rSlL K) := h ▸ sl_list
noncomputable def rAll (K : PySem.W.Frag) : List V → Hp → VK → Prop := fun xs H Q => ∃ p bs, xs = [.ref p] ∧ SqL K H p (isBl bs) ∧ Q (.bl (bs.all id)) H
theorem allL (K : PySem.W.Frag) (hc : X.calm = true) (h : X.K = K := by rfl) : CallR X (.builtin "all") (rAll K) := h ▸ call_all hc
theorem joinK (K : PySem.W.Frag) (h : X.K = K := by rfl) : MtR X "str.join" (rJoin K) := h ▸ mt_join
theorem pg_tupK (K : PySem.W.Frag) {es : List Expr} {j : Nat} {t : TGs} {n : Nat} {pos : Pos} (hc : X.calm = true) (h : PGs X es t) (hK : X.K = K := by rfl)
    (hn : (assignEach es X.env).length = n := by rfl) (hst : (assignEach es X.env).findIdx? (·.1) = none := by rfl) : PG X (.Tuple es j pos) (gTup K n t) := hK ▸ pg_tup hc h hn hst
theorem pe_bmK (K : PySem.W.Frag) {o e : Expr} {es : List Expr} {to : TE} {t : TA} {name : Str} {apos cpos : Pos} {T id : String} {r : V → List V → Hp → VK → Prop} (pa : PlainAttrs T) (slot : Slot T name id) (hty : typeOf (.builtin id) = pure (.type "method_descriptor")) (hm : MtR X id r) (ho : PE X o to) (ha : PA X (e :: es) t) (hK : X.K = K := by rfl)
    (hbase : attributeBase o name X.env (eval o X.env) = eval o X.env := by rfl)
    (hfew : ((backTo cpos (starEach (e :: es) X.env)).all (fun x => !x.1) && (backToKw cpos (keywordEach [] X.env)).all (fun x => x.1.isSome)
      && decide ((e :: es).length + ([] : List Keyword).length + (if ([] : List Keyword).isEmpty then 0 else 1) < 30)) = true := by rfl)
    (hline : (apos.endLine == cpos.line) = true := by rfl) (hs : starEach (e :: es) X.env = (false, eval e X.env) :: starEach es X.env := by rfl) (hplain : (backTo cpos (starEach es X.env)).any (·.1) = false := by rfl) :
    PE X (.Call (.Attribute o name apos) (e :: es) [] cpos) (tBM K T r to t) := hK ▸ pe_bm pa slot hty hm ho ha hbase hfew hline hs hplain
end
end L2
set_option Elab.async false
set_option linter.all false
set_option maxRecDepth 100000
set_option maxHeartbeats 4000000
namespace L2
open PySem PySem.Spec PyProof.Rows
section
variable {X : Cx}
theorem vals_strs : ∀ (l : List (Str × Tok)), Vals ((l.map (·.1)).map V.str) (strValues l)
  | [] => .nil
  | (x, t) :: l => .cons ⟨t, rfl⟩ (vals_strs l)
noncomputable def rSplit : V → List V → Hp → VK → Prop := fun x vs H Q => ∃ z y, x = .str z ∧ vs = [.str y] ∧ (y.length == 0) = false ∧ z.length ≤ 1000000 ∧ (Txt.split z y).length ≤ 16777216 ∧ (Builtin.Str.partsBetween z (Builtin.Str.occurrences z y 0 z.length (z.length + 1)) y.length).length ≤ sizeLine ∧
  ∀ l, H l = none → Q (.ref l) (upd H l (.lst ((Txt.split z y).map V.str)))
theorem mt_split : MtR X "str.split" rSplit := by
  intro pins s σ H xv vs v us Q I rx rv h
  obtain ⟨x, y, rfl, rfl, hy, hsz, hsp, hsz2, q⟩ := h
  obtain ⟨t, rfl⟩ := rx
  obtain ⟨w', rfl, u, rfl⟩ := vals1 rv
  have hq : ∀ (l : List (Str × Tok)) (tk : Nat), l.map (·.1) = Txt.split x y → EP X pins σ Q (.ref s.heap.objs.size) { s with heap := s.heap.push { cls := .type "list", data := .seq (strValues l).toArray }, toks := tk } := fun l tk e =>
    ⟨.ref s.heap.objs.size, _, I.lnew (ys := (Txt.split x y).map V.str) (by rw [← e]; exact vals_strs l) (szl (by rw [List.length_map]; exact hsp)), rfl, q _ (I.hok.fresh (Nat.le_refl _))⟩
  cases h1 : (decide (x.length < y.length) || decide (Builtin.Str.strKind x < Builtin.Str.strKind y))
  · cases hf : (Builtin.Str.occurrences x y 0 x.length (x.length + 1)).isEmpty
    · refine call_meets F.slot_str_split (typeIs_str _ _ _) F.entry_str_split (F.args_str_split_2 _ _) (meets_str_split_sep x y t u h1 hy hf (szl (by omega)) hsz2) ?_
      show wants _ _ _ { s with toks := _, heap := s.heap.push { cls := .type "list", data := .seq (strsFrom s.toks (Builtin.Str.partsBetween x (Builtin.Str.occurrences x y 0 x.length (x.length + 1)) y.length)).toArray } }
      rw [strsFrom_eq]
      exact hq (numbered s.toks _) _ ((numbered_texts _ _).trans ((if_neg (ne_true_of_eq_false h1)).trans (if_neg (ne_true_of_eq_false hf))).symm)
    · exact call_meets F.slot_str_split (typeIs_str _ _ _) F.entry_str_split (F.args_str_split_2 _ _) (meets_str_split_not_found x y t u h1 hy hf)
        (hq [(x, t)] s.toks ((if_neg (ne_true_of_eq_false h1)).trans (if_pos hf)).symm)
  · exact call_meets F.slot_str_split (typeIs_str _ _ _) F.entry_str_split (F.args_str_split_2 _ _) (meets_str_split_cannot_occur x y t u h1)
      (hq [(x, t)] s.toks (if_pos h1).symm)
end
end L2
set_option Elab.async false
set_option linter.all false
set_option maxRecDepth 100000
set_option maxHeartbeats 4000000
namespace PM
open PySem PyProof.Rows
noncomputable def walk (sm : Nat → Nat) : List Nat → List Nat → Bool → List Nat
  | [], f, _ => f
  | c :: r, f, w => if c = 32 then walk sm r f (!f.isEmpty) else walk sm r (f ++ (if w = true then [32] else []) ++ [sm c]) false
noncomputable def step (f p : List Nat) : List Nat := if p = [] then f else f ++ (if (!f.isEmpty) = true then [32] else []) ++ p
noncomputable abbrev SP : Str := Str.ofString " "
noncomputable def W (x : Str) : Str := ⟨(walk lo1 x.cps.toList [] false).toArray⟩
theorem ext_codes {a b : Str} (h : a.cps.toList = b.cps.toList) : a = b := Str.ext' (by cases a; cases b; simp at h; exact h)
end PM
set_option Elab.async false
set_option linter.all false
set_option maxRecDepth 100000
set_option maxHeartbeats 4000000
namespace L2
open PySem PySem.Spec PyProof.Rows
inductive Kd where
  | non | bl | int | str | lst | tup | dct
  deriving DecidableEq
noncomputable def Kd.nm : Kd → String
  | .non => "NoneType" | .bl => "bool" | .int => "int" | .str => "str" | .lst => "list" | .tup => "tuple" | .dct => "dict"
noncomputable def IsK (H : Hp) (v : V) : Kd → Prop
  | .non => v = .non
  | .bl => ∃ b, v = .bl b
  | .int => ∃ i, v = .int i
  | .str => ∃ x, v = .str x
  | .lst => ∃ a xs, v = .ref a ∧ H a = some (.lst xs)
  | .tup => ∃ a xs, v = .ref a ∧ H a = some (.tup xs)
  | .dct => ∃ a kvs ep, v = .ref a ∧ H a = some (.dK kvs ep)
theorem IsK.ty {K : PySem.W.Frag} {H : Hp} {v : V} {k : Kd} (h : IsK H v k) : TyOf K H v (.type k.nm) := by
  cases k with
  | non => cases (show v = .non from h); exact .non
  | bl => obtain ⟨b, rfl⟩ := h; exact .bl b
  | int => obtain ⟨b, rfl⟩ := h; exact .int b
  | str => obtain ⟨b, rfl⟩ := h; exact .str b
  | lst => obtain ⟨a, xs, rfl, e⟩ := h; exact .lst e
  | tup => obtain ⟨a, xs, rfl, e⟩ := h; exact .tup e
  | dct => obtain ⟨a, xs, ep, rfl, e⟩ := h; exact .dK e
theorem kd_str {K : PySem.W.Frag} (k : Kd) : PySem.W.kitOne K (.type k.nm) (.type "str") = some (decide (k = .str)) := by cases k <;> kernel_rfl
theorem kd_tup {K : PySem.W.Frag} (k : Kd) : PySem.W.kitOne K (.type k.nm) (.type "tuple") = some (decide (k = .tup)) := by cases k <;> kernel_rfl
theorem kd_int {K : PySem.W.Frag} (k : Kd) : PySem.W.kitOne K (.type k.nm) (.type "int") = some (decide (k = .int) || decide (k = .bl)) := by cases k <;> kernel_rfl
theorem kd_bool {K : PySem.W.Frag} (k : Kd) : PySem.W.kitOne K (.type k.nm) (.type "bool") = some (decide (k = .bl)) := by cases k <;> kernel_rfl
theorem IsK.same {H H' : Hp} {v : V} {k : Kd} (h : IsK H v k) (s : Same H H') : IsK H' v k := by
  cases k with
  | non => exact h
  | bl => exact h
  | int => exact h
  | str => exact h
  | lst => obtain ⟨a, xs, rfl, e⟩ := h; exact ⟨a, xs, rfl, s _ _ e⟩
  | tup => obtain ⟨a, xs, rfl, e⟩ := h; exact ⟨a, xs, rfl, s _ _ e⟩
  | dct => obtain ⟨a, xs, ep, rfl, e⟩ := h; exact ⟨a, xs, ep, rfl, s _ _ e⟩
section
variable {X : Cx}
theorem op_le_str : OpR X (compareOp .LtE) (fun x y H Q => ∃ i j, x = .str i ∧ y = .str j ∧ Q (.bl (!decide (j.cps.toList < i.cps.toList))) H) := by
  intro pins s σ H x y v u Q I rx ry h
  obtain ⟨i, j, rfl, rfl, q⟩ := h
  obtain ⟨t, rfl⟩ := rx
  obtain ⟨t', rfl⟩ := ry
  exact PySem.P.le_str (fin_bl I q rfl)
end
section
variable {k : Nat} {cap : List Nat} {g : TG} {tt : TT} {te : TE} {σ : St} {H : Hp} {Q : VK} {l : Addr}
end
end L2
set_option Elab.async false
set_option linter.all false
set_option maxRecDepth 100000
set_option maxHeartbeats 4000000
namespace HT
open PySem PySem.Spec PyProof.Rows
section
variable {prog : Program} {w : World} {A : Around} {E : Value → Shared → Prop} {s : Shared}
theorem getItem_tuple_all {t sl : Addr} {items : Array Value} {vl vu : Value} {lo hi : Option Int} {Q : Value → Shared → Prop} (ht : IsTup s.heap t items) (hs : s.heap.IsSliceOf sl vl vu .none) (pl : IsPart vl lo) (pu : IsPart vu hi)
    (hw : sIx items.size 0 lo = 0 ∧ sIx items.size items.size hi = items.size) (h : Q (.ref t) s) : wpAny (model prog w) A (getItem (.ref t) (.ref sl)) Q E s := by
  obtain ⟨os, hos, hcs, hds⟩ := id hs
  have hTs : s.TypeIs (.ref sl) "slice" := ⟨os, hos, hcs⟩
  unfold getItem
  try with_reducible refine wpAny_holding ?_
  first | refine wpAny_bind (wpAny_pure ?_) | skip
  refine wpAny_bind (wpAny_sequenceKey ht.typeIs (by decide) ?_)
  refine wpAny_bind (wpAny_callSpecial?_slot (name := Str.ofString "__getitem__") ht.typeIs PyProof.Rows.slot_tuple_getitem
    (wpAny_call_entry PyProof.Rows.slot_tuple_getitem ht.typeIs entry_tuple_getitem ?_ (args_tuple_getitem _ _)))
  show wpAny _ _ (Builtin.Tuple.tupleItemsOf (.ref t) >>= _) _ _ s
  refine wpAny_bind (tupleItemsOf_ ht ?_)
  refine wpAny_bind (wpAny_typeOf hTs ?_)
  rw [if_pos (by decide)]
  refine wpAny_bind (sliceApplied_gen hs pl pu ?_)
  have hyes : (((sIx items.size 0 lo : Nat) : Int) == 0 && (1 : Int) == 1 && (sIx items.size items.size hi - sIx items.size 0 lo) == items.size) = true := by
    rw [hw.1, hw.2]; simp
  show wpAny _ _ (if (((sIx items.size 0 lo : Nat) : Int) == 0 && (1 : Int) == 1 && (sIx items.size items.size hi - sIx items.size 0 lo) == items.size) = true then _ else _) _ _ s
  rw [if_pos hyes]
  refine wpAny_bind (wpAny_bind (wpAny_typeOf ht.typeIs (wpAny_pure ?_)))
  rw [if_pos (by decide)]
  refine wpAny_bind (wpAny_rule ?_)
  first
    | exact wpAny_pure ⟨_, rfl, wpAny_pure h⟩
    | exact wpAny_bind (wpAny_pure ⟨_, rfl, wpAny_pure h⟩)
theorem cat_any {t b : Addr} {vs ws : List Value} {Q : Value → Shared → Prop} (ht : IsTup s.heap t vs.toArray) (hb : IsTup s.heap b ws.toArray)
    (h0 : vs = [] → Q (.ref b) s) (h1 : ws = [] → Q (.ref t) s) (h2 : vs ≠ [] → ws ≠ [] → Q (.ref s.heap.objs.size) { s with heap := s.heap.push { cls := .type "tuple", data := .seq (vs ++ ws).toArray } })
    (hsz : vs.length + ws.length ≤ sizeLine) : wpAny (model prog w) A (binaryOp .Add (.ref t) (.ref b)) Q E s := by
  by_cases hv : vs = []
  · obtain ⟨⟨cls, dd, data, sl⟩, ho, hc, n, hd⟩ := id ht
    obtain ⟨⟨cls2, dd2, data2, sl2⟩, ho2, hc2, n2, hd2⟩ := id hb
    simp only at hc hd hc2 hd2
    subst hc hd hc2 hd2
    exact concat_meets ⟨_, ho, rfl⟩ ⟨_, ho2, rfl⟩ noFill_tuple_add seq_tuple_add PySem.F.slot_tuple_add PySem.F.entry_tuple_add (PySem.F.args_tuple_add_2 _ _)
      (tuple_addW0 t b vs.toArray ws.toArray n n2 dd dd2 sl sl2 (by simp [hv])) ⟨ho, ho2, h0 hv⟩
  · exact cat_tup ht hb hv h1 (h2 hv) hsz
end
end HT
namespace L2
open PySem PySem.Spec PyProof.Rows
section
variable {X : Cx}
noncomputable def CDivB (i j : Int) : Prop := 0 < j ∧ j < 2 ^ 200
theorem op_fdivB : OpR X (binaryOp .FloorDiv) (rI CDivB fun i j => .int (i / j)) := opI fun i j _ _ _ _ _ hc q => by
  have h1 : (0 : Int) < j := hc.1
  have h2 : j < 2 ^ 200 := hc.2
  refine floordiv_int (by omega) (by rw [Int.fdiv_eq_ediv_of_nonneg i (by omega)]; exact q) (.inl (PyProof.noPylong_of_log2 ?_))
  have h3 : j.natAbs < 2 ^ 200 := by omega
  have h4 : j.natAbs.log2 < 200 := (Nat.log2_lt (by omega)).mpr h3
  omega
end
section
variable {k : Nat} {cap : List Nat} {g : TG} {tt : TT} {te : TE} {σ : St} {H : Hp} {Q : VK} {l : Addr}
end
end L2
set_option Elab.async false
set_option linter.all false
set_option maxRecDepth 100000
set_option maxHeartbeats 4000000
namespace L2
open PySem PySem.Spec PyProof.Rows
section
variable {κ : Type} [DecidableEq κ]
noncomputable def valV (kvs : List (κ × V)) (k : κ) : Option V := (kvs.find? fun kv => decide (kv.1 = k)).map (·.2)
noncomputable def putK (kvs : List (κ × V)) (k : κ) (v : V) : List (κ × V) :=
  if (kvs.any fun kv => decide (kv.1 = k)) = true then kvs.map (fun kv => if kv.1 = k then (kv.1, v) else kv) else kvs ++ [(k, v)]
noncomputable def dropK (kvs : List (κ × V)) (k : κ) : List (κ × V) := kvs.filter fun kv => decide (kv.1 ≠ k)
theorem valV_pos {p : κ × V} {r : List (κ × V)} {k : κ} (e : p.1 = k) : valV (p :: r) k = some p.2 := by simp [valV, List.find?_cons, e]
theorem valV_neg {p : κ × V} {r : List (κ × V)} {k : κ} (e : ¬ p.1 = k) : valV (p :: r) k = valV r k := by simp [valV, List.find?_cons, e]
theorem valV_any (k : κ) : ∀ kvs : List (κ × V), (kvs.any fun kv => decide (kv.1 = k)) = (valV kvs k).isSome
  | [] => rfl
  | p :: r => by
    rw [List.any_cons]
    by_cases e : p.1 = k
    · simp only [valV_pos e, decide_eq_true e, Bool.true_or, Option.isSome_some]
    · rw [valV_neg e, decide_eq_false e, Bool.false_or]; exact valV_any k r
theorem length_putK (kvs : List (κ × V)) (k : κ) (v : V) : (putK kvs k v).length ≤ kvs.length + 1 := by
  unfold putK
  split
  · rw [List.length_map]; omega
  · rw [List.length_append, List.length_cons, List.length_nil]; omega
theorem RelO.isSome_eq {o : Option V} {u : Option Value} (r : RelO o u) : o.isSome = u.isSome := by
  cases o with
  | none => cases u with
    | none => rfl
    | some _ => exact (show False from r).elim
  | some _ => cases u with
    | none => exact (show False from r).elim
    | some _ => rfl
theorem RelO.getD {o : Option V} {u : Option Value} {d : V} {d' : Value} (r : RelO o u) (rd : RelV d d') : RelV (o.getD d) (u.getD d') := by
  cases o with
  | none => cases u with
    | none => exact rd
    | some _ => exact (show False from r).elim
  | some _ => cases u with
    | none => exact (show False from r).elim
    | some _ => exact r
theorem KV.val {kvs : List (κ × V)} {vs : List (κ × Value)} (r : KV kvs vs) (k : κ) : RelO (valV kvs k) (valueAt vs k) := by
  unfold KV at r
  induction r with
  | nil => exact True.intro
  | @cons p q ps qs h t ih =>
    obtain ⟨h1, h2⟩ := h
    by_cases e : p.1 = k
    · have e' : q.1 = k := h1.symm.trans e
      have b : valueAt (q :: qs) k = some q.2 := by simp [valueAt, List.find?_cons, e']
      rw [valV_pos e, b]; exact h2
    · have e' : ¬ q.1 = k := fun z => e (h1.trans z)
      have b : valueAt (q :: qs) k = valueAt qs k := by simp [valueAt, List.find?_cons, e']
      rw [valV_neg e, b]; exact ih
theorem KV.any {kvs : List (κ × V)} {vs : List (κ × Value)} (r : KV kvs vs) (k : κ) : (kvs.any fun kv => decide (kv.1 = k)) = vs.any fun kv => decide (kv.1 = k) := by
  unfold KV at r
  induction r with
  | nil => rfl
  | cons h t ih => rw [List.any_cons, List.any_cons, ih, h.1]
theorem KV.repl {kvs : List (κ × V)} {vs : List (κ × Value)} (r : KV kvs vs) (k : κ) {y : V} {u : Value} (ry : RelV y u) :
    KV (kvs.map fun kv => if kv.1 = k then (kv.1, y) else kv) (vs.map fun kv => if kv.1 = k then (kv.1, u) else kv) := by
  unfold KV at r ⊢
  induction r with
  | nil => exact .nil
  | @cons p q ps qs h t ih =>
    rw [List.map_cons, List.map_cons]
    refine .cons ?_ ih
    obtain ⟨h1, h2⟩ := h
    by_cases e : p.1 = k
    · rw [if_pos e, if_pos (h1.symm.trans e)]; exact ⟨h1, ry⟩
    · rw [if_neg e, if_neg (fun z => e (h1.trans z))]; exact ⟨h1, h2⟩
theorem KV.put {kvs : List (κ × V)} {vs : List (κ × Value)} (r : KV kvs vs) (k : κ) {y : V} {u : Value} (ry : RelV y u) : KV (putK kvs k y) (stored vs k u) := by
  unfold putK stored
  rw [r.any k]
  by_cases e : (vs.any fun kv => decide (kv.1 = k)) = true
  · rw [if_pos e, if_pos e]; exact r.repl k ry
  · rw [if_neg e, if_neg e]; exact Paired.snoc r ⟨rfl, ry⟩
theorem KV.drop {kvs : List (κ × V)} {vs : List (κ × Value)} (r : KV kvs vs) (k : κ) : KV (dropK kvs k) (without vs k) := by
  unfold KV at r ⊢
  unfold dropK without
  induction r with
  | nil => exact .nil
  | @cons p q ps qs h t ih =>
    obtain ⟨h1, h2⟩ := h
    rw [List.filter_cons, List.filter_cons]
    by_cases e : p.1 = k
    · have a : ¬ decide (p.1 ≠ k) = true := by simp [e]
      have b : ¬ decide (q.1 ≠ k) = true := by simp [h1.symm.trans e]
      rw [if_neg a, if_neg b]; exact ih
    · have e' : ¬ q.1 = k := fun z => e (h1.trans z)
      have a : decide (p.1 ≠ k) = true := by simp [e]
      have b : decide (q.1 ≠ k) = true := by simp [e']
      rw [if_pos a, if_pos b]; exact .cons ⟨h1, h2⟩ ih
theorem KV.keys {kvs : List (κ × V)} {vs : List (κ × Value)} (r : KV kvs vs) : kvs.map (·.1) = vs.map (·.1) := by
  unfold KV at r
  induction r with
  | nil => rfl
  | cons h t ih => rw [List.map_cons, List.map_cons, ih, h.1]
theorem KV.length {kvs : List (κ × V)} {vs : List (κ × Value)} (r : KV kvs vs) : kvs.length = vs.length := Paired.length r
end
theorem kV_is {P : Program} {w : World} {k : Key} {u : Value} (r : RelV (kV k) u) : (mixKind P w).is k u = true := by
  cases k with
  | inl i => obtain ⟨t, e⟩ := (show ∃ t, u = Value.int i t from r); subst e; exact mixKind_int P w i t
  | inr x => obtain ⟨t, e⟩ := (show ∃ t, u = Value.str x t from r); subst e; exact mixKind_str P w x t
theorem items_are {P : Program} {w : World} : ∀ {ks : List Key} {us : List Value}, Vals (ks.map kV) us → ItemsAre (mixKind P w) ks us
  | [], _, r => by rw [List.map_nil] at r; cases r; exact .nil
  | k :: ks, _, r => by
    rw [List.map_cons] at r
    cases r with
    | cons h t => exact .cons (kV_is h) (items_are t)
noncomputable abbrev KT (H : Hp) : List (List Key × V) → List (List Key × Addr × Value) → Prop := Paired fun p q => p.1 = q.1 ∧ H q.2.1 = some (.tup (p.1.map kV)) ∧ RelV p.2 q.2.2
theorem KT.val {H : Hp} {kvs : List (List Key × V)} {xs : List (List Key × Addr × Value)} (r : KT H kvs xs) (k : List Key) : RelO (valV kvs k) ((atKey xs k).map (·.2)) := by
  induction r with
  | nil => exact True.intro
  | @cons p q ps qs h t ih =>
    obtain ⟨h1, _, h2⟩ := h
    by_cases e : p.1 = k
    · have e' : q.1 = k := h1.symm.trans e
      have b : atKey (q :: qs) k = some q.2 := by simp [atKey, List.find?_cons, e']
      rw [valV_pos e, b]; exact h2
    · have e' : ¬ q.1 = k := fun z => e (h1.trans z)
      have b : atKey (q :: qs) k = atKey qs k := by simp [atKey, List.find?_cons, e']
      rw [valV_neg e, b]; exact ih
theorem KT.repl {H : Hp} {kvs : List (List Key × V)} {xs : List (List Key × Addr × Value)} (r : KT H kvs xs) (k : List Key) {y : V} {u : Value} (ry : RelV y u) :
    KT H (kvs.map fun kv => if kv.1 = k then (kv.1, y) else kv) (xs.map (putAt k u)) := by
  induction r with
  | nil => exact .nil
  | @cons p q ps qs h t ih =>
    rw [List.map_cons, List.map_cons]
    refine .cons ?_ ih
    obtain ⟨h1, h2, h3⟩ := h
    unfold putAt
    by_cases e : p.1 = k
    · rw [if_pos e, if_pos (h1.symm.trans e)]; exact ⟨h1, h2, ry⟩
    · rw [if_neg e, if_neg (fun z => e (h1.trans z))]; exact ⟨h1, h2, h3⟩
theorem KT.put {H : Hp} {kvs : List (List Key × V)} {xs : List (List Key × Addr × Value)} (r : KT H kvs xs) (k : List Key) {b : Addr} {y : V} {u : Value} (hb : H b = some (.tup (k.map kV))) (ry : RelV y u) :
    KT H (putK kvs k y) (storedH xs k b u) := by
  have e : (kvs.any fun kv => decide (kv.1 = k)) = (atKey xs k).isSome := by
    rw [valV_any, (r.val k).isSome_eq, Option.isSome_map]
  unfold putK storedH
  rw [e]
  by_cases q : (atKey xs k).isSome = true
  · rw [if_pos q, if_pos q]; exact r.repl k ry
  · rw [if_neg q, if_neg q]; exact Paired.snoc r ⟨rfl, hb, ry⟩
theorem KT.keeps {H H' : Hp} {kvs : List (List Key × V)} {xs : List (List Key × Addr × Value)} (r : KT H kvs xs) (ht : ∀ b ys, H b = some (.tup ys) → H' b = some (.tup ys)) : KT H' kvs xs :=
  Paired.mapP r fun _ _ z => ⟨z.1, ht _ _ z.2.1, z.2.2⟩
noncomputable def RdK (H : Hp) (a : Addr) (kvs : List (Key × V)) : Prop := ∃ ep, Rd H a (.dK kvs ep)
noncomputable def IsDK (H : Hp) (a : Addr) (kvs : List (Key × V)) : Prop := ∃ ep, H a = some (.dK kvs ep)
theorem IsDK.rd {H : Hp} {a : Addr} {kvs : List (Key × V)} (h : IsDK H a kvs) : RdK H a kvs := let ⟨ep, e⟩ := h; ⟨ep, .inl e⟩
theorem IsDK.mut {H : Hp} {a : Addr} {kvs : List (Key × V)} (h : IsDK H a kvs) : Mut (H a) := by obtain ⟨_, e⟩ := h; rw [e]; exact True.intro
section
variable {P : Program} {w : World} {H : Hp} {h : Heap} {a : Addr}
theorem rd_of {u : HO} (ok : HOk P w H h) (e : Rd H a u) : ObjOk P w H h a u := e.ok ok
theorem dk_at {kvs : List (Key × V)} {ep : Nat} (ok : HOk P w H h) (e : Rd H a (.dK kvs ep)) : kvs.length ≤ sizeLine ∧ (a == sysModules) = false ∧ ∃ vs, KV kvs vs ∧ h.DictAt (mixKind P w) a vs ep :=
  show ObjOk P w H h a (.dK kvs ep) from rd_of ok e
theorem dk_rd {kvs : List (Key × V)} (ok : HOk P w H h) (e : RdK H a kvs) : kvs.length ≤ sizeLine ∧ (a == sysModules) = false ∧ ∃ vs, KV kvs vs ∧ h.DictOf (mixKind P w) a vs :=
  let ⟨_, e⟩ := e; let ⟨z, y, vs, r, d⟩ := dk_at ok e; ⟨z, y, vs, r, d.dictOf⟩
theorem dk_of {kvs : List (Key × V)} (ok : HOk P w H h) (e : IsDK H a kvs) : kvs.length ≤ sizeLine ∧ (a == sysModules) = false ∧ ∃ vs, KV kvs vs ∧ h.DictOf (mixKind P w) a vs := dk_rd ok e.rd
theorem key_of {ks : List Key} (ok : HOk P w H h) (e : H a = some (.tup (ks.map kV))) : (tupleKind (mixKind P w)).is h ks a := by
  obtain ⟨_, its, r, o, h1, h2, n, h3⟩ := (show ObjOk P w H h a (.tup (ks.map kV)) from ok a _ e)
  exact ⟨o, its.toArray, n, h1, h2, h3, by simpa using items_are r⟩
theorem dt_rd {kvs : List (List Key × V)} (ok : HOk P w H h) (e : Rd H a (.dT kvs)) : kvs.length ≤ sizeLine ∧ (a == sysModules) = false ∧
    ∃ xs, KT H kvs xs ∧ h.DictOfH (tupleKind (mixKind P w)) a xs := by
  obtain ⟨z, y, xs, r, o, es, ep, h1, h2, h3, h4, h5⟩ := (show ObjOk P w H h a (.dT kvs) from rd_of ok e)
  refine ⟨z, y, xs, r, o, es, ep, h1, h2, h3, h4, fun x hx => ?_, h5⟩
  have all : ∀ {l : List (List Key × V)} {m : List (List Key × Addr × Value)}, KT H l m → ∀ x ∈ m, (tupleKind (mixKind P w)).is h x.1 x.2.1 := by
    intro l m q
    induction q with
    | nil => intro x hx; exact nomatch hx
    | @cons p q ps qs hq t ih =>
      intro x hx
      rcases List.mem_cons.mp hx with e | hx
      · subst e
        exact key_of ok (by rw [← hq.1]; exact hq.2.1)
      · exact ih x hx
  exact all r x hx
theorem dt_of {kvs : List (List Key × V)} (ok : HOk P w H h) (e : H a = some (.dT kvs)) : kvs.length ≤ sizeLine ∧ (a == sysModules) = false ∧
    ∃ xs, KT H kvs xs ∧ h.DictOfH (tupleKind (mixKind P w)) a xs := dt_rd ok (.inl e)
end
noncomputable def DGet (H : Hp) (a : Addr) (y : V) (r : Option V) : Prop :=
  (∃ kvs k, RdK H a kvs ∧ y = kV k ∧ r = valV kvs k) ∨ ∃ kvs k b, Rd H a (.dT kvs) ∧ y = .ref b ∧ H b = some (.tup (k.map kV)) ∧ r = valV kvs k
noncomputable def DPut (H : Hp) (a : Addr) (y v : V) (Q : Hp → Prop) : Prop :=
  (∃ kvs k, IsDK H a kvs ∧ y = kV k ∧ kvs.length < sizeLine ∧ ∀ ep, Q (upd H a (.dK (putK kvs k v) ep))) ∨
  ∃ kvs k b, H a = some (.dT kvs) ∧ y = .ref b ∧ H b = some (.tup (k.map kV)) ∧ kvs.length < sizeLine ∧ Q (upd H a (.dT (putK kvs k v)))
theorem DGet.k {H : Hp} {a : Addr} {kvs : List (Key × V)} {k : Key} (e : IsDK H a kvs) : DGet H a (kV k) (valV kvs k) := .inl ⟨kvs, k, e.rd, rfl, rfl⟩
theorem DGet.t {H : Hp} {a b : Addr} {kvs : List (List Key × V)} {k : List Key} (e : H a = some (.dT kvs)) (eb : H b = some (.tup (k.map kV))) : DGet H a (.ref b) (valV kvs k) := .inr ⟨kvs, k, b, .inl e, rfl, eb, rfl⟩
section
variable {X : Cx} {pins : List (Addr × Obj)} {σ : St} {H : Hp} {s : Shared} {a : Addr} {y v : V} {u r : Value} {o : Option V} {A : Around} {E : Value → Shared → Prop}
theorem Inv.big (I : Inv X pins σ H s) : sysModules < s.heap.objs.size := by
  have h : mainGlobals < s.heap.objs.size := (I.mod.glob.keeps I.bk).lt
  exact Nat.lt_trans (by decide) h
theorem d_getItem {Q : Value → Shared → Prop} (hu : A.units + 1 < cLine) (I : Inv X pins σ H s) (g : DGet H a y (some v)) (ry : RelV y u) (h : ∀ w' s', Inv X pins σ H s' → RelV v w' → Q w' s') :
    wpAny (model X.prog X.w) A (getItem (.ref a) u) Q E s := by
  rcases g with ⟨kvs, k, e, ey, l⟩ | ⟨kvs, k, b, e, ey, eb, l⟩
  · subst ey
    obtain ⟨z, hd, vs, rel, dd⟩ := dk_rd I.hok e
    obtain ⟨w', hw, rw'⟩ := RelO.some_of (v := v) (o := valueAt vs k) (by rw [l]; exact rel.val k)
    exact wpAny_getItem_of (kV_is ry) dd.mapOf hw (h w' _ (I.tok _) rw')
  · subst ey
    cases (show u = Value.ref b from ry)
    obtain ⟨z, hd, xs, rel, dd⟩ := dt_rd I.hok e
    obtain ⟨w', hw, rw'⟩ := RelO.some_of (v := v) (o := (atKey xs k).map (·.2)) (by rw [l]; exact rel.val k)
    obtain ⟨p, hp, hp2⟩ := Option.map_eq_some_iff.mp hw
    refine wpAny_getItem_heap (tupleKind_room_in1 hu) (key_of I.hok eb) dd hp ?_
    rw [hp2]
    exact h w' _ (I.tok _) rw'
theorem d_in {Q : Value → Shared → Prop} (hu : A.units + 1 < cLine) (I : Inv X pins σ H s) (g : DGet H a y o) (ry : RelV y u) (h : ∀ s', Inv X pins σ H s' → Q (.bool o.isSome) s') :
    wpAny (model X.prog X.w) A (compareOp .In u (.ref a)) Q E s := by
  rcases g with ⟨kvs, k, e, ey, l⟩ | ⟨kvs, k, b, e, ey, eb, l⟩
  · subst ey
    obtain ⟨z, hd, vs, rel, dd⟩ := dk_rd I.hok e
    refine wpAny_in_of (kV_is ry) hd dd.mapOf ?_
    rw [← (rel.val k).isSome_eq, ← l]
    exact h _ (I.tok _)
  · subst ey
    cases (show u = Value.ref b from ry)
    obtain ⟨z, hd, xs, rel, dd⟩ := dt_rd I.hok e
    refine wpAny_in_heap (tupleKind_room_in1 hu) (key_of I.hok eb) hd dd ?_
    have q := (rel.val k).isSome_eq
    rw [Option.isSome_map] at q
    rw [← q, ← l]
    exact h _ (I.tok _)
theorem d_notIn {Q : Value → Shared → Prop} (hu : A.units + 1 < cLine) (I : Inv X pins σ H s) (g : DGet H a y o) (ry : RelV y u) (h : ∀ s', Inv X pins σ H s' → Q (.bool (!o.isSome)) s') :
    wpAny (model X.prog X.w) A (compareOp .NotIn u (.ref a)) Q E s := by
  rcases g with ⟨kvs, k, e, ey, l⟩ | ⟨kvs, k, b, e, ey, eb, l⟩
  · subst ey
    obtain ⟨z, hd, vs, rel, dd⟩ := dk_rd I.hok e
    refine wpAny_notIn_of (kV_is ry) hd dd.mapOf ?_
    rw [← (rel.val k).isSome_eq, ← l]
    exact h _ (I.tok _)
  · subst ey
    cases (show u = Value.ref b from ry)
    obtain ⟨z, hd, xs, rel, dd⟩ := dt_rd I.hok e
    refine wpAny_notIn_heap (tupleKind_room_in1 hu) (key_of I.hok eb) hd dd ?_
    have q := (rel.val k).isSome_eq
    rw [Option.isSome_map] at q
    rw [← q, ← l]
    exact h _ (I.tok _)
theorem d_write {h' : Heap} {t' : Nat} {ob : HO} (I : Inv X pins σ H s) (mu : Mut (H a)) (hs : Heap.SameBut a s.heap h') (he : ∃ q, h'.get? a = some q) (new : ObjOk X.prog X.w (upd H a ob) h' a ob) :
    Inv X pins σ (upd H a ob) { s with heap := h', toks := t' } :=
  I.write (x := a) (e := a) mu (.inl rfl) (fun b q hb z => (hs.2 b hb).trans z) he new
theorem dk_new {ep : Nat} {P : Program} {w : World} {H' : Hp} {h' : Heap} {kvs : List (Key × V)} {vs : List (Key × Value)} (z : kvs.length ≤ sizeLine) (hd : (a == sysModules) = false) (rel : KV kvs vs) (dd : h'.DictAt (mixKind P w) a vs ep) :
    ObjOk P w H' h' a (.dK kvs ep) := ⟨z, hd, vs, rel, dd⟩
theorem d_setItem {Z : Hp → Prop} {Q : Unit → Shared → Prop} (hu : A.units + 1 < cLine) (I : Inv X pins σ H s) (g : DPut H a y v Z) (ry : RelV y u) (rv : RelV v r) (h : ∀ H' s', Inv X pins σ H' s' → Z H' → Q () s') :
    wpAny (model X.prog X.w) A (setItem (.ref a) u r) Q E s := by
  rcases g with ⟨kvs, k, e, ey, l, eH⟩ | ⟨kvs, k, b, e, ey, eb, l, eH⟩
  · subst ey
    obtain ⟨z, hd, vs, rel, dd⟩ := dk_of I.hok e
    have hz : vs.length ≤ sizeLine := by rw [← rel.length]; exact z
    have hl : (putK kvs k v).length ≤ sizeLine := by have := length_putK kvs k v; omega
    refine wpAny_setItem_pairs (hsz := hz) (kV_is ry) dd fun h' dd' hs => ?_
    obtain ⟨ep, da⟩ := dd'.dictAt
    refine h _ _ ?_ (eH ep)
    have he : ∃ q, h'.get? a = some q := let ⟨q, _, _, hq, _⟩ := dd'; ⟨q, hq⟩
    exact d_write I e.mut hs he (dk_new hl hd (rel.put k rv) da)
  · subst ey
    cases (show u = Value.ref b from ry)
    obtain ⟨z, hd, xs, rel, dd⟩ := dt_of I.hok e
    have hz : xs.length ≤ sizeLine := by rw [← Paired.length rel]; exact z
    have hl : (putK kvs k v).length ≤ sizeLine := by have := length_putK kvs k v; omega
    refine wpAny_setItem_heap (hsz := hz) (tupleKind_room_in1 hu) (key_of I.hok eb) dd fun h' dd' hs => h _ _ ?_ eH
    obtain ⟨q, es, ep, hq, h2, h3, h4, _, h5⟩ := dd'
    refine d_write I (by rw [e]; exact True.intro) hs ⟨q, hq⟩ ⟨hl, hd, _, (rel.put k eb rv).keeps fun c ys ec => ?_, q, es, ep, hq, h2, h3, h4, h5⟩
    rw [upd_ne (ne_of ec e (fun z => nomatch z))]
    exact ec
end
section
variable {X : Cx} {pins : List (Addr × Obj)} {σ : St} {H : Hp} {s : Shared} {a : Addr} {kvs : List (Key × V)} {k : Key} {u : Value} {A : Around} {E : Value → Shared → Prop}
end
theorem dict_typeIs {X : Cx} {pins : List (Addr × Obj)} {σ : St} {H : Hp} {s : Shared} {a : Addr} {y : V} {o : Option V} (I : Inv X pins σ H s) (g : DGet H a y o) : s.TypeIs (.ref a) "dict" := by
  rcases g with ⟨kvs, k, e, _, _⟩ | ⟨kvs, k, b, e, _, _, _⟩
  · obtain ⟨_, _, vs, _, dd⟩ := dk_rd I.hok e
    exact dd.typeIs
  · obtain ⟨_, _, xs, _, dd⟩ := dt_rd I.hok e
    exact dd.typeIs
noncomputable def sDPut (td ty tv : TE) : TS := fun D σ H => tv σ H fun v H1 => td σ H1 fun x H2 => ty σ H2 fun y H3 => ∃ a, x = .ref a ∧ DPut H3 a y v (D.nx σ)
section
variable {X : Cx} {o i e value : Expr} {pos pos' tpos : Pos} {td ty tv : TE}
theorem ps_dput (hu : X.A.units + 1 < cLine) (ho : PE X o td) (hi : PE X i ty) (hv : PE X value tv) (hs : swapsWith value (some (.Subscript o i pos')) pos.line X.env = pure false) :
    PS X (.Assign [.Subscript o i pos'] value pos) (sDPut td ty tv) := by
  intro pins s σ H D I h
  refine wpAny_Assign_Subscript (thn (hv pins s σ H _ I h) fun r s1 ⟨v, H1, I1, rv, q1⟩ => thn (ho pins s1 σ H1 _ I1 q1) fun u s2 ⟨x, H2, I2, rx, q2⟩ => thn (hi pins s2 σ H2 _ I2 q2) fun iv s3 ⟨y, H3, I3, ry, a, ex, g⟩ => ?_) hs
  subst ex
  obtain rfl : u = Value.ref a := rx
  exact d_setItem hu I3 g ry rv fun H4 s4 I4 q3 => ⟨σ, H4, I4, q3⟩
end
theorem dk_empty {P : Program} {w : World} {H : Hp} (h : Heap) (hb : sysModules < h.objs.size) : ObjOk P w H (h.push { cls := .type "dict", data := .dict #[] }) h.objs.size (.dK [] 0) :=
  ⟨Nat.zero_le _, beq_eq_false_iff_ne.mpr (Ne.symm (Nat.ne_of_lt hb)), [], .nil, _, #[], Heap.get?_push_size _ rfl, ⟨rfl, rfl, rfl⟩, rfl, (fun _ he => by simp at he), PySem.Pairs.nil, List.nodup_nil⟩
noncomputable def tDNewK : TE := fun _ H Q => ∀ p, H p = none → Q (.ref p) (upd H p (.dK [] 0))
section
variable {X : Cx} {pos : Pos}
theorem pe_dnewK : PE X (.Dict [] [] pos) tDNewK := fun pins s σ H Q I h =>
  wpAny_Dict_empty ⟨.ref s.heap.objs.size, _, I.laid (a := s.heap.objs.size) (o := .dK [] 0) (t' := s.toks) (fun _ _ q => Heap.get?_push_of_some _ q) (Nat.le_refl _) (dk_empty s.heap I.big), rfl, h _ (I.hok.fresh (Nat.le_refl _))⟩
end
structure M1 (X : Cx) (o : Expr) (m : Str) (apos : Pos) (e : Expr) (cpos : Pos) : Prop where
  base : attributeBase o m X.env (eval o X.env) = eval o X.env
  few : ((backTo cpos (starEach [e] X.env)).all (fun x => !x.1) && (backToKw cpos (keywordEach [] X.env)).all (fun x => x.1.isSome)
    && decide (([e] : List Expr).length + ([] : List Keyword).length + (if ([] : List Keyword).isEmpty then 0 else 1) < 30)) = true
  line : (apos.endLine == cpos.line) = true
  trees : backTo cpos (starEach [e] X.env) = [(false, eval e X.env)]
structure M2 (X : Cx) (o : Expr) (m : Str) (apos : Pos) (e f : Expr) (cpos : Pos) : Prop where
  base : attributeBase o m X.env (eval o X.env) = eval o X.env
  few : ((backTo cpos (starEach [e, f] X.env)).all (fun x => !x.1) && (backToKw cpos (keywordEach [] X.env)).all (fun x => x.1.isSome)
    && decide (([e, f] : List Expr).length + ([] : List Keyword).length + (if ([] : List Keyword).isEmpty then 0 else 1) < 30)) = true
  line : (apos.endLine == cpos.line) = true
  trees : backTo cpos (starEach [e, f] X.env) = [(false, eval e X.env), (false, eval f X.env)]
section
variable {X : Cx} {pins : List (Addr × Obj)} {σ : St} {H : Hp} {s : Shared} {a : Addr} {y d : V} {u r : Value} {o : Option V} {A : Around} {E : Value → Shared → Prop}
end
section
variable {X : Cx} {o e f : Expr} {apos cpos : Pos} {td ty tx : TE}
end
section
variable {X : Cx} {pins : List (Addr × Obj)} {σ : St} {H : Hp} {s : Shared} {a : Addr} {kvs : List (Key × V)} {A : Around} {E : Value → Shared → Prop}
end
section
variable {X : Cx} {pins : List (Addr × Obj)} {σ : St} {H : Hp} {s : Shared} {a : Addr} {y : V} {u : Value} {A : Around} {E : Value → Shared → Prop}
end
end L2
set_option Elab.async false
set_option linter.all false
set_option maxRecDepth 100000
set_option maxHeartbeats 4000000
namespace HT
open PySem PySem.Spec PyProof.Rows
end HT
namespace L2
open PySem PySem.Spec PyProof.Rows
section
variable {X : Cx}
end
end L2
namespace L2
open PySem PySem.Spec PyProof.Rows
section
variable {k : Nat} {cap : List Nat} {g : TG} {tt : TT} {te : TE} {σ : St} {H : Hp} {Q : VK} {l : Addr}
end
noncomputable def Kp (H H' : Hp) : Prop := ∀ a o, H a = some o → H' a = some o ∨ ∃ xs ys, o = .lst xs ∧ H' a = some (.lst ys)
theorem Kp.of {H H' : Hp} (s : Same H H') : Kp H H' := fun a o h => .inl (s a o h)
theorem Kp.trans {H H1 H2 : Hp} (a : Kp H H1) (b : Kp H1 H2) : Kp H H2 := fun c o h => by
  rcases a c o h with r | ⟨xs, ys, rfl, r⟩
  · exact b c o r
  · rcases b c _ r with q | ⟨us, ws, e, q⟩
    · exact .inr ⟨xs, ys, rfl, q⟩
    · exact .inr ⟨xs, ws, rfl, q⟩
theorem Kp.but {H H' : Hp} {p : Addr} (h : Pot H p) (h' : Pot H' p) (b : But p H H') : Kp H H' := fun a o e => by
  by_cases z : a = p
  · subst z
    obtain ⟨i, j, e1, _⟩ := h
    obtain ⟨i', j', e2, _⟩ := h'
    rw [e1] at e
    cases e
    exact .inr ⟨_, _, rfl, e2⟩
  · exact .inl (b a o e z)
theorem Kp.lst {H : Hp} {l : Addr} {xs ys : List V} (e : H l = some (.lst xs)) : Kp H (upd H l (.lst ys)) := fun a o h => by
  by_cases z : a = l
  · subst z; rw [e] at h; cases h; exact .inr ⟨_, _, rfl, upd_same⟩
  · exact .inl (by rw [upd_ne z]; exact h)
theorem Kp.tup {H H' : Hp} (k : Kp H H') {a : Addr} {xs : List V} (h : H a = some (.tup xs)) : H' a = some (.tup xs) := by
  rcases k a _ h with r | ⟨_, _, e, _⟩
  · exact r
  · cases e
structure Tg (H : Hp) (v : V) (k : Kd) : Prop where
  is : IsK H v k
  few : ∀ x, v = .str x → x.length ≤ 1000000
theorem Tg.kp {H H' : Hp} {v : V} {k : Kd} (t : Tg H v k) (s : Kp H H') : Tg H' v k := by
  refine ⟨?_, t.few⟩
  have h := t.is
  cases k with
  | non => exact h
  | bl => exact h
  | int => exact h
  | str => exact h
  | lst =>
    obtain ⟨a, xs, rfl, e⟩ := h
    rcases s _ _ e with r | ⟨_, ys, _, r⟩
    · exact ⟨a, xs, rfl, r⟩
    · exact ⟨a, ys, rfl, r⟩
  | tup => obtain ⟨a, xs, rfl, e⟩ := h; exact ⟨a, xs, rfl, s.tup e⟩
  | dct =>
    obtain ⟨a, xs, ep, rfl, e⟩ := h
    rcases s _ _ e with r | ⟨_, _, z, _⟩
    · exact ⟨a, xs, ep, rfl, r⟩
    · cases z
theorem Tg.same {H H' : Hp} {v : V} {k : Kd} (t : Tg H v k) (s : Same H H') : Tg H' v k := t.kp (.of s)
noncomputable def tupOf (H : Hp) : V → Option (List V)
  | .ref a => match H a with | some (.tup xs) => some xs | _ => none
  | _ => none
theorem tupOf_at {H : Hp} {a : Addr} {xs : List V} (h : H a = some (.tup xs)) : tupOf H (.ref a) = some xs := by unfold tupOf; simp only [h]
theorem Tg.tup {H : Hp} {v : V} {k : Kd} (t : Tg H v k) : (k = .tup ∧ ∃ a xs, v = .ref a ∧ H a = some (.tup xs) ∧ tupOf H v = some xs) ∨ (k ≠ .tup ∧ tupOf H v = none) := by
  have h := t.is
  cases k with
  | non => cases (show v = .non from h); exact .inr ⟨(fun z => nomatch z), rfl⟩
  | bl => obtain ⟨_, rfl⟩ := h; exact .inr ⟨(fun z => nomatch z), rfl⟩
  | int => obtain ⟨_, rfl⟩ := h; exact .inr ⟨(fun z => nomatch z), rfl⟩
  | str => obtain ⟨_, rfl⟩ := h; exact .inr ⟨(fun z => nomatch z), rfl⟩
  | lst => obtain ⟨a, xs, rfl, e⟩ := h; exact .inr ⟨(fun z => nomatch z), by unfold tupOf; simp only [e]⟩
  | tup => obtain ⟨a, xs, rfl, e⟩ := h; exact .inl ⟨rfl, a, xs, rfl, e, tupOf_at e⟩
  | dct => obtain ⟨a, xs, ep, rfl, e⟩ := h; exact .inr ⟨(fun z => nomatch z), by unfold tupOf; simp only [e]⟩
theorem Tg.tup_kp {H H' : Hp} {v : V} {k : Kd} (t : Tg H v k) (s : Kp H H') : tupOf H' v = tupOf H v := by
  rcases t.tup with ⟨rfl, a, xs, rfl, e, e2⟩ | ⟨n, e⟩
  · rw [e2]; exact tupOf_at (s.tup e)
  · rw [e]
    rcases (t.kp s).tup with ⟨z, _⟩ | ⟨_, e'⟩
    · exact absurd z n
    · exact e'
noncomputable def AnyD : Nat → Hp → V → Prop
  | 0, H, v => ∃ k, Tg H v k
  | n + 1, H, v => (∃ k, Tg H v k) ∧ ∀ xs, tupOf H v = some xs → xs.length ≤ 1000 ∧ ∀ x ∈ xs, AnyD n H x
theorem AnyD.tg : ∀ {n : Nat} {H : Hp} {v : V}, AnyD n H v → ∃ k, Tg H v k
  | 0, _, _, h => h
  | _ + 1, _, _, h => h.1
theorem AnyD.kp : ∀ {n : Nat} {H H' : Hp} {v : V}, AnyD n H v → Kp H H' → AnyD n H' v
  | 0, _, _, _, ⟨k, t⟩, s => ⟨k, t.kp s⟩
  | n + 1, _, _, _, ⟨⟨k, t⟩, h⟩, s => ⟨⟨k, t.kp s⟩, fun xs e => by
      rw [t.tup_kp s] at e
      exact ⟨(h xs e).1, fun x hx => AnyD.kp ((h xs e).2 x hx) s⟩⟩
noncomputable def Any (H : Hp) (v : V) : Prop := ∀ n, AnyD n H v
theorem Any.kp {H H' : Hp} {v : V} (h : Any H v) (s : Kp H H') : Any H' v := fun n => (h n).kp s
end L2
set_option Elab.async false
set_option linter.all false
set_option maxRecDepth 100000
set_option maxHeartbeats 4000000
namespace L2
open PySem PySem.Spec PyProof.Rows
section
variable {X : Cx} {es : List Expr} {te : TE} {t : TA}
end
section
variable {X : Cx} {elt tg iter : Expr} {ifs : List Expr} {scope : Scope} {pos : Pos} {wi : TI} {g : TG} {tt : TT} {te : TE} {N : List Str} {k : Nat} {cap : List Nat}
end
section
variable {X : Cx} {es : List Expr} {e : Expr} {te tk tv : TE} {t : TA}
structure PEw (X : Cx) (e : Expr) (t : TE) : Prop where
  h : PE X e t
structure PAw (X : Cx) (es : List Expr) (t : TA) : Prop where
  h : PA X es t
theorem ew (h : PE X e te) : PEw X e te := ⟨h⟩
end
section
variable {X : Cx} {es : List Expr} {te : TE} {t : TA} {st : Stmt} {rest : List Stmt} {ts us : TS}
structure PSw (X : Cx) (st : Stmt) (t : TS) : Prop where
  h : PS X st t
structure PSsw (X : Cx) (st : List Stmt) (t : TS) : Prop where
  h : PSs X st t
end
end L2
set_option Elab.async false
set_option linter.all false
set_option maxRecDepth 100000
set_option maxHeartbeats 4000000
namespace L2
open PySem PySem.Spec PyProof.Rows
section
variable {X : Cx} {pos : Pos} {k : Nat} {a b e : Expr} {es rest : List Expr} {te ta tb : TE} {t : Str → TE}
noncomputable def rNeL (K : PySem.W.Frag) : R2 := fun x y H Q => ∃ a b xs ys, x = .ref a ∧ y = .ref b ∧ SqL K H a xs ∧ SqL K H b ys ∧ (xs.length = ys.length → xs.all flatV = true ∧ ys.all flatV = true) ∧ Q (.bl (!eqLV xs ys)) H
theorem neL (K : PySem.W.Frag) (hr : Room k X.A) (hK : X.K = K := by rfl) : OpR X (compareOp .NotEq) (rNeL K) := by
  subst hK
  intro pins s σ H x y v u Q I rx ry h
  obtain ⟨a, b, xs, ys, rfl, rfl, ha, hb, hf, q⟩ := h
  cases rx
  cases ry
  obtain ⟨its, r1, p1, _⟩ := I.list ha
  obtain ⟨its2, r2, p2, _⟩ := I.list hb
  have l1 := r1.length
  have l2 := r2.length
  by_cases e : xs.length = ys.length
  · obtain ⟨f1, f2⟩ := hf e
    refine SeqAt.RcNeAt.lists (e := fun j => eqV ((xs[j]?).getD .non) ((ys[j]?).getD .non)) p1.isList p2.isList (by simp; omega) hr.units0 (fun j h1 h2 => ?_) _ _ _ _ ?_
    · have g1 : its[j]? = some (its.toArray[j]) := by simp at h1 ⊢
      have g2 : its2[j]? = some (its2.toArray[j]) := by simp at h2 ⊢
      obtain ⟨x, ex, rx⟩ := r1.get' g1
      obtain ⟨y, ey, ry⟩ := r2.get' g2
      rw [ex, ey]
      exact eqAt_V rx ry (List.all_eq_true.mp f1 _ (List.mem_of_getElem? ex)) (List.all_eq_true.mp f2 _ (List.mem_of_getElem? ey))
    · have e1 : its.toArray.size = xs.length := by simp; omega
      rw [e1, eqLV_range e]
      exact ⟨.bl _, H, I, rfl, q⟩
  · refine SeqAt.RcNeAt.lists_lengths p1.isList p2.isList (by simp; omega) hr.units0 _ _ _ _ ?_
    rw [eqLV_len e] at q
    exact ⟨.bl true, H, I, rfl, q⟩
end
noncomputable def Pur (H : Hp) (p g : Addr) : Prop := ∃ (xs : List Int) (s c : Int), H p = some (.lst [.ref g, .int s, .int c]) ∧ H g = some (.lst (xs.map V.int)) ∧ p ≠ g
noncomputable def Fr (p g : Addr) (H H' : Hp) : Prop := ∀ b o, H b = some o → b ≠ p → b ≠ g → H' b = some o
theorem Fr.refl {p g : Addr} {H : Hp} : Fr p g H H := fun _ _ h _ _ => h
theorem Fr.trans {p g : Addr} {H H1 H2 : Hp} (a : Fr p g H H1) (b : Fr p g H1 H2) : Fr p g H H2 := fun c o h n m => b c o (a c o h n m) n m
theorem Fr.of {p g : Addr} {H H1 : Hp} (a : Same H H1) : Fr p g H H1 := fun c o h _ _ => a c o h
theorem Fr.new {p g l : Addr} {H H1 : Hp} {o : HO} (f : Fr p g H H1) (n : H1 l = none) : Fr p g H (upd H1 l o) := f.trans (.of (Same.upd n))
theorem Pur.same {H H' : Hp} {p g : Addr} (h : Pur H p g) (s : Same H H') : Pur H' p g := let ⟨xs, i, c, e1, e2, n⟩ := h; ⟨xs, i, c, s _ _ e1, s _ _ e2, n⟩
theorem Pur.upd {H : Hp} {p g l : Addr} {o : HO} (h : Pur H p g) (h1 : p ≠ l) (h2 : g ≠ l) : Pur (upd H l o) p g := let ⟨xs, i, c, e1, e2, n⟩ := h; ⟨xs, i, c, by rw [upd_ne h1]; exact e1, by rw [upd_ne h2]; exact e2, n⟩
theorem Pur.new {H : Hp} {p g l : Addr} {o : HO} (h : Pur H p g) (n : H l = none) : Pur (L2.upd H l o) p g := h.same (Same.upd n)
theorem Pur.neg {H : Hp} {p g l : Addr} (h : Pur H p g) (n : H l = none) : g ≠ l := let ⟨_, _, _, _, e, _⟩ := h; ne_of_none e n
theorem Fr.kp {H H' : Hp} {p g : Addr} (h : Pur H p g) (h' : Pur H' p g) (f : Fr p g H H') : Kp H H' := fun a o e => by
  obtain ⟨xs, s, c, e1, e2, n⟩ := h
  obtain ⟨xs', s', c', e1', e2', n'⟩ := h'
  by_cases z : a = p
  · subst z
    rw [e1] at e; cases e
    exact .inr ⟨_, _, rfl, e1'⟩
  · by_cases z2 : a = g
    · subst z2
      rw [e2] at e; cases e
      exact .inr ⟨_, _, rfl, e2'⟩
    · exact .inl (f a o e z z2)
section
variable {k : Nat} {cap : List Nat} {gg : TG} {tt : TT} {te : TE} {σ : St} {H : Hp} {Q : VK} {l : Addr}
end
section
variable {k : Nat} {cap : List Nat} {g : TG} {tt : TT} {te : TE} {σ : St} {H : Hp} {Q : VK} {l : Addr}
end
end L2
set_option Elab.async false
set_option linter.all false
set_option maxRecDepth 100000
set_option maxHeartbeats 4000000
namespace L2
open PySem PySem.Spec PyProof.Rows
noncomputable def LtAt (A : Around) (s : Shared) (x y : Value) (c : Bool) : Prop :=
  ∀ (prog : Program) (w : World) (E : Value → Shared → Prop) (Q : Value → Shared → Prop), Q (.bool c) s → wpAny (model prog w) A (richCompare .Lt x y) Q E s
inductive LexR (A : Around) (s : Shared) (fin : Bool) : List (Value × Value) → Bool → Prop
  | done : LexR A s fin [] fin
  | same {p q : Value} {r : List (Value × Value)} {c : Bool} : SeqAt.EqAt A s p q true → LexR A s fin r c → LexR A s fin ((p, q) :: r) c
  | less {p q : Value} {r : List (Value × Value)} {c : Bool} : SeqAt.EqAt A s p q false → LtAt A s p q c → LexR A s fin ((p, q) :: r) c
section
open PySem.SeqAt
open PySem.AutoSeq1 (wpAny_loadPart')
open PySem.MeetsSeq PySem.MeetsSeq2 PySem.MeetsSeq3
theorem lt_lex (l b : Addr) (us vs : Array Value) (n m : Nat) (d1 d2 : Option Addr) (k1 k2 : Array (Option Value)) (c : Bool) :
    Meets (Builtin.«tuple.__lt__» ⟨[.ref l, .ref b], []⟩) (fun A R s => s.heap.get? l = some ⟨.type "tuple", d1, .seq us n, k1⟩ ∧ s.heap.get? b = some ⟨.type "tuple", d2, .seq vs m, k2⟩ ∧
      LexR A.in1 s (decide (us.size < vs.size)) (us.toList.zip vs.toList) c ∧ R (.ok (.ret (.bool c))) s) :=
  .of_wp fun prog w A R s h => by
    obtain ⟨hp, gg, dd, tk, os⟩ := s
    obtain ⟨hl, hb, hx, hr⟩ := h
    have f2 := AutoSeq1.sub_tuple_tuple
    wp_walk using wpAny_loadPart' hl, wpAny_loadPart' hb, wpAny_forIn_list _ (fun rest acc s' => acc.1 = none ∧ s' = ⟨hp, gg, dd, tk, os⟩ ∧ LexR A.in1 ⟨hp, gg, dd, tk, os⟩ (decide (us.size < vs.size)) rest c) _
    case turn =>
      rintro ⟨y, x⟩ rest acc s' ⟨ha, rfl, hx'⟩
      cases hx' with
      | same he hrest =>
        refine wpAny_bind (he prog w _ _ ?_)
        wp_walk
        exact ⟨rfl, rfl, hrest⟩
      | less he hlt =>
        refine wpAny_bind (he prog w _ _ ?_)
        have hq := hlt prog w
        wp_walk using hq
        exact ⟨_, rfl, by simpa using hr⟩
    case fin =>
      rintro ⟨b1, b2⟩ s' ⟨ha, rfl, hx'⟩
      simp only at ha
      subst ha
      cases hx'
      wp_walk
      exact ⟨_, rfl, by simpa [Builtin.Tuple.tupleCompareSizes] using hr⟩
    case h => exact ⟨rfl, rfl, hx⟩
end
theorem lt_tup {A : Around} {s : Shared} {l b : Addr} {us vs : Array Value} {c : Bool} (hl : IsTup s.heap l us) (hb : IsTup s.heap b vs) (hu : A.units < cLine) (hx : LexR A.in1 s (decide (us.size < vs.size)) (us.toList.zip vs.toList) c) :
    LtAt A s (.ref l) (.ref b) c := by
  intro prog w E Q q
  obtain ⟨⟨c1, d1, t1, k1⟩, g1, e1, n, r1⟩ := id hl
  obtain ⟨⟨c2, d2, t2, k2⟩, g2, e2, m, r2⟩ := id hb
  simp only at e1 r1 e2 r2
  subst e1 r1 e2 r2
  exact richCompare_meets_room (op := .Lt) ⟨_, g1, rfl⟩ ⟨_, g2, rfl⟩ PySem.F.slot_tuple_lt PySem.F.entry_tuple_lt (PySem.F.args_tuple_lt_2 _ _) (lt_lex l b us vs n m d1 d2 k1 k2 c) ⟨g1, g2, hx, (fun x => nomatch x), q⟩ hu
section
variable {X : Cx} {pins : List (Addr × Obj)} {σ : St} {H : Hp} {s : Shared}
end
section
open PySem.W
noncomputable def Al {α : Type} (n : Nat) (P : α → Prop) : KasT α → Prop
  | .ret a => P a
  | .ask i j k => i < n ∧ j < n ∧ ∀ b, Al n P (k b)
theorem Al.bind {α β : Type} {n : Nat} {P : α → Prop} {R : β → Prop} {f : α → KasT β} : ∀ {t : KasT α}, Al n P t → (∀ a, P a → Al n R (f a)) → Al n R (t.bind f)
  | .ret a, h, hf => hf a h
  | .ask _ _ _, h, hf => ⟨h.1, h.2.1, fun b => Al.bind (h.2.2 b) hf⟩
theorem Al.run {α : Type} {n : Nat} {P : α → Prop} {cmp : Nat → Nat → (Bool → Shared → Prop) → Shared → Prop} {G : α → Shared → Prop} {s : Shared}
    (hc : ∀ i j (C : Bool → Shared → Prop), i < n → j < n → (∀ b, C b s) → cmp i j C s) (hg : ∀ a, P a → G a s) : ∀ {t : KasT α}, Al n P t → t.kasWp cmp G s
  | .ret a, h => hg a h
  | .ask i j _, h => hc i j _ h.1 h.2.1 fun b => Al.run hc hg (h.2.2 b)
noncomputable def Rng (n : Nat) (p : Array Nat) : Prop := p.Perm (List.toArray (List.range n))
theorem Rng.lt {n : Nat} {p : Array Nat} (h0 : 0 < n) (h : Rng n p) (i : Nat) : p.getD i 0 < n := by
  by_cases hi : i < p.size
  · have e : p.getD i 0 = p[i] := by simp [Array.getD, hi]
    rw [e]
    have hm : p[i] ∈ p := Array.getElem_mem hi
    have := (h.mem_iff).mp hm
    simpa using this
  · have e : p.getD i 0 = 0 := by simp [Array.getD, hi]
    omega
theorem Rng.rev {n : Nat} {p : Array Nat} (h : Rng n p) (i j : Nat) : Rng n (kas_rev p i j) := (mirror_perm p i j ((j - i) / 2)).trans h
theorem Rng.bub {n : Nat} {p : Array Nat} (h : Rng n p) (i j : Nat) : Rng n (bubble p i j) := (bubble_perm p i j).trans h
theorem al_asc {n : Nat} {p : Array Nat} (h0 : 0 < n) (h : Rng n p) : ∀ f m, Al n (fun _ => True) (kas_asc p f m)
  | 0, m => trivial
  | f + 1, m => ⟨h.lt h0 _, h.lt h0 _, fun b => by
    cases b with
    | true => exact trivial
    | false => exact al_asc h0 h f (m + 1)⟩
theorem al_desc {n : Nat} (h0 : 0 < n) : ∀ f (p : Array Nat) m q, Rng n p → Al n (fun r : Array Nat × Nat × Nat => Rng n r.1) (kas_desc f p m q)
  | 0, p, m, q, h => h
  | f + 1, p, m, q, h => ⟨h.lt h0 _, h.lt h0 _, fun b => by
    cases b with
    | true =>
      show Al n _ (if q > 0 then _ else _)
      split
      · exact al_desc h0 f _ _ _ (h.rev _ _)
      · exact al_desc h0 f _ _ _ h
    | false =>
      refine ⟨h.lt h0 _, h.lt h0 _, fun d => ?_⟩
      cases d with
      | true => exact h
      | false => exact al_desc h0 f _ _ _ h⟩
theorem al_tail3 {n : Nat} (h0 : 0 < n) {p : Array Nat} (h : Rng n p) (m k : Nat) : Al n (fun r : Nat × Array Nat => Rng n r.2) (kas_tail3 m k p) :=
  (al_asc h0 (h.rev 0 m) _ _).bind fun _ _ => h.rev 0 m
theorem al_descPart {n : Nat} (h0 : 0 < n) {p : Array Nat} (h : Rng n p) (m k : Nat) : Al n (fun r : Nat × Array Nat => Rng n r.2) (kas_descPart m k p) := by
  refine (al_desc h0 _ _ _ _ h).bind fun r hr => ?_
  split
  · exact al_tail3 h0 (hr.rev _ _) _ _
  · exact al_tail3 h0 hr _ _
theorem al_count {n : Nat} (h0 : 0 < n) {p : Array Nat} (h : Rng n p) (k : Nat) : Al n (fun r : Nat × Array Nat => Rng n r.2) (kas_count k p) := by
  refine (al_asc h0 h _ _).bind fun m _ => ?_
  split
  · exact h
  · split
    · refine ⟨h.lt h0 _, h.lt h0 _, fun b => ?_⟩
      cases b with
      | true => exact h
      | false => exact al_descPart h0 (h.rev _ _) _ _
    · exact al_descPart h0 h _ _
theorem al_place {n : Nat} (h0 : 0 < n) {p : Array Nat} (h : Rng n p) (k : Nat) : ∀ f l r, Al n (fun _ => True) (kas_place p k f l r)
  | 0, _, _ => trivial
  | f + 1, l, r => by
    unfold kas_place
    split
    · exact trivial
    · refine ⟨h.lt h0 _, h.lt h0 _, fun b => ?_⟩
      cases b with
      | true => exact al_place h0 h k f _ _
      | false => exact al_place h0 h k f _ _
theorem al_bin {n : Nat} (h0 : 0 < n) : ∀ f (p : Array Nat) k, Rng n p → Al n (Rng n) (kas_bin f p k)
  | 0, _, _, h => h
  | f + 1, p, k, h => (al_place h0 h k _ _ _).bind fun l _ => al_bin h0 f _ _ (h.bub _ _)
theorem al_sort {n : Nat} (h0 : 0 < n) : Al n (Rng n) (kas_sort n) := by
  refine (al_count h0 (show Rng n _ from Array.Perm.refl _) n).bind fun r hr => ?_
  split
  · exact al_bin h0 _ _ _ hr
  · exact hr
theorem Rng.perm {vs : List Value} {p : Array Nat} (h : Rng vs.length p) : (p.toList.map fun i => vs.getD i Value.none).Perm vs := by
  have h1 : p.toList.Perm (List.range vs.length) := by simpa using Array.perm_iff_toList_perm.mp h
  have h2 := h1.map fun i => vs.getD i Value.none
  have e : (List.range vs.length).map (fun i => vs.getD i Value.none) = vs := by
    apply List.ext_getElem
    · simp
    · intro i a1 a2
      simp [List.getElem?_eq_getElem a2]
  rw [e] at h2
  exact h2
end
section
open PySem.W
variable {prog : Program} {w : World} {A : Around} {E : Value → Shared → Prop} {s : Shared}
end
section
open PySem.W
variable {X : Cx} {pins : List (Addr × Obj)} {σ : St} {H : Hp} {s : Shared} {k : Nat}
theorem Vals.perm {ys : List V} {us ws : List Value} (p : us.Perm ws) : ∀ {ys : List V}, Vals ys ws → ∃ zs, zs.Perm ys ∧ Vals zs us := by
  induction p with
  | nil => intro ys r; exact ⟨ys, .refl _, r⟩
  | cons x p ih =>
    intro ys r
    cases r with
    | cons r1 rr =>
      obtain ⟨zs, h1, h2⟩ := ih rr
      exact ⟨_ :: zs, h1.cons _, .cons r1 h2⟩
  | swap x y l =>
    intro ys r
    cases r with
    | cons r1 rr =>
      cases rr with
      | cons r2 r3 => exact ⟨_ :: _ :: _, .swap .., .cons r2 (.cons r1 r3)⟩
  | trans p1 p2 i1 i2 =>
    intro ys r
    obtain ⟨zs, h1, h2⟩ := i2 r
    obtain ⟨ws, h3, h4⟩ := i1 h2
    exact ⟨ws, h3.trans h1, h4⟩
noncomputable def Led (K : PySem.W.Frag) (H : Hp) (F : V → List V) (y : V) : Prop := ∃ a n us, y = .ref a ∧ F y = .str n :: us ∧ SqT K H a (.str n :: us)
end
end L2
set_option Elab.async false
set_option linter.all false
set_option maxRecDepth 100000
set_option maxHeartbeats 4000000
namespace HT
open PySem PySem.Spec PyProof.Rows
section
variable {prog : Program} {w : World} {A : Around} {E : Value → Shared → Prop} {s : Shared}
end
end HT
namespace L2
open PySem PySem.Spec PyProof.Rows
section
variable {X : Cx} {e st : Expr} {te ts : TE} {pos p2 : Pos}
end
end L2
set_option Elab.async false
set_option linter.all false
set_option maxRecDepth 100000
set_option maxHeartbeats 4000000
namespace L2
open PySem PySem.Spec PyProof.Rows
section
variable {X : Cx}
theorem vals_of_strs : ∀ {us : List Value} {ss : List Str}, StrsAre us ss → Vals (ss.map V.str) us
  | [], _, .nil => .nil
  | _ :: _, _, .cons x t r => .cons ⟨t, rfl⟩ (vals_of_strs r)
noncomputable def rSortS (K : PySem.W.Frag) : List V → Hp → VK → Prop := fun xs H Q => ∃ p ss, xs = [.ref p] ∧ SqL K H p (ss.map V.str) ∧ ss.length < 64 ∧ ∀ l out, out.Perm ss → sortedS out = true → H l = none → Q (.ref l) (upd H l (.lst (out.map V.str)))
theorem sortedStr (K : PySem.W.Frag) (hK : X.K = K := by rfl) : CallR X (.builtin "sorted") (rSortS K) := by
  subst hK
  intro pins s σ H xs us Q I r ⟨p, ss, e, hq, h64, q⟩
  subst e
  obtain ⟨u, rfl, rx⟩ := vals1 r
  cases rx
  obtain ⟨vs, rv, pl, hz⟩ := I.list hq
  have hlen := rv.length
  rw [List.length_map] at hlen hz
  refine sorted_strs pl.isList (strs_of rv) (by omega) fun out ss' h1 h2 h3 => ?_
  obtain ⟨c, hat⟩ := sortedAll_at s.heap vs out
  exact ⟨.ref (s.heap.objs.size + 1), _, I.laid (t' := s.toks) (o := .lst (ss'.map V.str)) (fun b o e => sortedAll_old e) (Nat.le_succ _) ⟨by rw [List.length_map, h2.length_eq]; exact hz, out.toList, c, vals_of_strs h1, hat⟩, rfl, q _ ss' h2 h3 (I.hok.fresh (Nat.le_succ _))⟩
end
end L2
set_option Elab.async false
set_option linter.all false
set_option maxRecDepth 100000
set_option maxHeartbeats 4000000
namespace L2
open PySem PySem.Spec PyProof.Rows
noncomputable def ltV0 : V → V → Bool
  | .str a, .str b => decide (a.cps.toList < b.cps.toList)
  | .int a, .int b => decide (a < b)
  | _, _ => false
noncomputable def eqD (H : Hp) : Nat → V → V → Bool
  | 0, x, y => eqV x y
  | n + 1, x, y => match tupOf H x, tupOf H y with
    | some xs, some ys => (List.range (min xs.length ys.length)).all (fun j => eqD H n (xs.getD j .non) (ys.getD j .non)) && xs.length == ys.length
    | _, _ => eqV x y
noncomputable def lexW (fin : Bool) (eq lt : V → V → Bool) : List V → List V → Bool
  | x :: xs, y :: ys => if eq x y then lexW fin eq lt xs ys else lt x y
  | _, _ => fin
noncomputable def ltD (H : Hp) : Nat → V → V → Bool
  | 0, x, y => ltV0 x y
  | n + 1, x, y => match tupOf H x, tupOf H y with
    | some xs, some ys => lexW (decide (xs.length < ys.length)) (eqD H n) (ltD H n) xs ys
    | _, _ => ltV0 x y
noncomputable def CmpE (H : Hp) : Nat → V → V → Prop
  | 0, x, y => (∃ i j, x = .str i ∧ y = .str j) ∨ ∃ i j, x = .int i ∧ y = .int j
  | n + 1, x, y => ((∃ i j, x = .str i ∧ y = .str j) ∨ ∃ i j, x = .int i ∧ y = .int j) ∨ ∃ a b xs ys, x = .ref a ∧ y = .ref b ∧ H a = some (.tup xs) ∧ H b = some (.tup ys) ∧ ∀ (i : Nat) u v, xs[i]? = some u → ys[i]? = some v → CmpE H n u v
theorem eqD_flat {H : Hp} {n : Nat} {x y : V} (h : (∃ i j, x = .str i ∧ y = .str j) ∨ ∃ i j, x = .int i ∧ y = .int j) : eqD H n x y = eqV x y ∧ ltD H n x y = ltV0 x y := by
  cases n with
  | zero => exact ⟨rfl, rfl⟩
  | succ n =>
    rcases h with ⟨i, j, rfl, rfl⟩ | ⟨i, j, rfl, rfl⟩ <;> exact ⟨rfl, rfl⟩
section
variable {X : Cx} {pins : List (Addr × Obj)} {σ : St} {H : Hp} {s : Shared} {k : Nat}
end
theorem CmpE.kp {H H' : Hp} (s : Kp H H') : ∀ {n : Nat} {x y : V}, CmpE H n x y → CmpE H' n x y
  | 0, _, _, h => h
  | n + 1, _, _, .inl h => .inl h
  | n + 1, _, _, .inr ⟨a, b, xs, ys, e1, e2, ha, hb, k⟩ => .inr ⟨a, b, xs, ys, e1, e2, s.tup ha, s.tup hb, fun i u v h1 h2 => CmpE.kp s (k i u v h1 h2)⟩
theorem all_on {α : Type} {f g : α → Bool} : ∀ {l : List α}, (∀ j ∈ l, f j = g j) → l.all f = l.all g
  | [], _ => rfl
  | a :: l, h => by rw [List.all_cons, List.all_cons, h a List.mem_cons_self, all_on fun j hj => h j (List.mem_cons_of_mem _ hj)]
theorem lexW_congr {fin : Bool} {eq lt eq' lt' : V → V → Bool} : ∀ {xs ys : List V}, (∀ (i : Nat) u v, xs[i]? = some u → ys[i]? = some v → eq' u v = eq u v ∧ lt' u v = lt u v) → lexW fin eq' lt' xs ys = lexW fin eq lt xs ys
  | [], _, _ => by unfold lexW; rfl
  | _ :: _, [], _ => by unfold lexW; rfl
  | x :: xs, y :: ys, h => by
    unfold lexW
    rw [(h 0 x y rfl rfl).1, (h 0 x y rfl rfl).2, lexW_congr fun i u v a b => h (i + 1) u v a b]
theorem CmpE.keeps {H H' : Hp} (s : Kp H H') : ∀ {n : Nat} {x y : V}, CmpE H n x y → eqD H' n x y = eqD H n x y ∧ ltD H' n x y = ltD H n x y
  | 0, _, _, _ => ⟨rfl, rfl⟩
  | n + 1, x, y, h => by
    rcases h with h | ⟨a, b, xs, ys, rfl, rfl, ha, hb, k⟩
    · rw [(eqD_flat h).1, (eqD_flat h).2, (eqD_flat h).1, (eqD_flat h).2]; exact ⟨rfl, rfl⟩
    · have ih : ∀ (i : Nat) u v, xs[i]? = some u → ys[i]? = some v → eqD H' n u v = eqD H n u v ∧ ltD H' n u v = ltD H n u v := fun i u v h1 h2 => CmpE.keeps s (k i u v h1 h2)
      constructor
      · unfold eqD
        rw [tupOf_at ha, tupOf_at hb, tupOf_at (s.tup ha), tupOf_at (s.tup hb)]
        show ((List.range (min xs.length ys.length)).all _ && xs.length == ys.length) = ((List.range (min xs.length ys.length)).all _ && xs.length == ys.length)
        congr 1
        refine all_on fun j hj => ?_
        have hj := List.mem_range.mp hj
        have h1 : j < xs.length := by omega
        have h2 : j < ys.length := by omega
        rw [List.getD_eq_getElem?_getD, List.getD_eq_getElem?_getD, List.getElem?_eq_getElem h1, List.getElem?_eq_getElem h2]
        exact (ih j _ _ (List.getElem?_eq_getElem h1) (List.getElem?_eq_getElem h2)).1
      · unfold ltD
        rw [tupOf_at ha, tupOf_at hb, tupOf_at (s.tup ha), tupOf_at (s.tup hb)]
        exact lexW_congr ih
end L2
set_option Elab.async false
set_option linter.all false
set_option maxRecDepth 100000
set_option maxHeartbeats 4000000
namespace L2
open PySem PySem.Spec PyProof.Rows
section
open PySem.W
noncomputable def AlB {α : Type} (ans : Nat → Nat → Bool) (P : α → Prop) : KasT α → Prop
  | .ret a => P a
  | .ask i j k => AlB ans P (k (ans i j))
theorem AlB.bind {α β : Type} {ans : Nat → Nat → Bool} {P : α → Prop} {R : β → Prop} {f : α → KasT β} : ∀ {t : KasT α}, AlB ans P t → (∀ a, P a → AlB ans R (f a)) → AlB ans R (t.bind f)
  | .ret a, h, hf => hf a h
  | .ask i j k, h, hf => AlB.bind (t := k (ans i j)) h hf
theorem AlB.mono {α : Type} {ans : Nat → Nat → Bool} {P R : α → Prop} (hf : ∀ a, P a → R a) : ∀ {t : KasT α}, AlB ans P t → AlB ans R t
  | .ret a, h => hf a h
  | .ask i j k, h => AlB.mono hf (t := k (ans i j)) h
theorem AlB.run {α : Type} {n : Nat} {ans : Nat → Nat → Bool} {P R : α → Prop} {cmp : Nat → Nat → (Bool → Shared → Prop) → Shared → Prop} {G : α → Shared → Prop} {s : Shared}
    (hc : ∀ i j (C : Bool → Shared → Prop), i < n → j < n → C (ans i j) s → cmp i j C s) (hg : ∀ a, P a → R a → G a s) : ∀ {t : KasT α}, Al n P t → AlB ans R t → t.kasWp cmp G s
  | .ret a, h, h' => hg a h h'
  | .ask i j _, h, h' => hc i j _ h.1 h.2.1 (AlB.run hc hg (h.2.2 _) h')
variable (O : KeyOrd) (key : Nat → O.α)
noncomputable def Ky (p : Array Nat) (i : Nat) : O.α := key (p.getD i 0)
noncomputable def Upto (p : Array Nat) (k : Nat) : Prop := ∀ i j, i ≤ j → j < k → O.kle (Ky O key p i) (Ky O key p j)
noncomputable def Downto (p : Array Nat) (k : Nat) : Prop := ∀ i j, i ≤ j → j < k → O.kle (Ky O key p j) (Ky O key p i)
noncomputable abbrev anB (i j : Nat) : Bool := O.blt (key i) (key j)
variable {O} {key}
theorem Ky_of {p q : Array Nat} {i j : Nat} (h : p[i]? = q[j]?) : Ky O key p i = Ky O key q j := by
  unfold Ky
  rw [Array.getD_eq_getD_getElem?, Array.getD_eq_getD_getElem?, h]
theorem Ky_rev {p : Array Nat} {i j : Nat} (hj : j ≤ p.size) (k : Nat) : Ky O key (kas_rev p i j) k = if i ≤ k ∧ k < j then Ky O key p (i + j - 1 - k) else Ky O key p k := by
  have e := getElem?_mirror_all (xs := p) (i := i) hj k
  split
  · rename_i h; rw [if_pos h] at e; exact Ky_of e
  · rename_i h; rw [if_neg h] at e; exact Ky_of e
theorem rev_size (p : Array Nat) (i j : Nat) : (kas_rev p i j).size = p.size := mirror_size ..
theorem Ky_revE {p : Array Nat} {i j : Nat} (hj : j ≤ p.size) (he : ∀ k, i ≤ k → k < j → Ky O key p k = Ky O key p (j - 1)) (k : Nat) : Ky O key (kas_rev p i j) k = Ky O key p k := by
  rw [Ky_rev hj]
  split
  · rename_i h; rw [he _ (by omega) (by omega), he k h.1 h.2]
  · rfl
theorem Upto.more {p : Array Nat} {x : Nat} (h : Upto O key p x) (hx : 1 ≤ x) (hl : O.kle (Ky O key p (x - 1)) (Ky O key p x)) : Upto O key p (x + 1) := by
  intro i j hij hj
  by_cases h1 : j < x
  · exact h i j hij h1
  · have e : j = x := by omega
    subst e
    by_cases h2 : i = j
    · subst h2; exact KeyOrd.kle_refl _
    · exact KeyOrd.kle_trans (h i (j - 1) (by omega) (by omega)) hl
theorem Downto.more {p : Array Nat} {x : Nat} (h : Downto O key p x) (hx : 1 ≤ x) (hl : O.kle (Ky O key p x) (Ky O key p (x - 1))) : Downto O key p (x + 1) := by
  intro i j hij hj
  by_cases h1 : j < x
  · exact h i j hij h1
  · have e : j = x := by omega
    subst e
    by_cases h2 : i = j
    · subst h2; exact KeyOrd.kle_refl _
    · exact KeyOrd.kle_trans hl (h i (j - 1) (by omega) (by omega))
theorem b_asc {p : Array Nat} : ∀ (f m : Nat), 1 ≤ m → Upto O key p m → AlB (anB O key) (fun r => m ≤ r ∧ r ≤ m + f ∧ Upto O key p r ∧ (r = m + f ∨ O.klt (Ky O key p r) (Ky O key p (r - 1)))) (kas_asc p f m)
  | 0, m, _, h => ⟨Nat.le_refl _, Nat.le_refl _, h, .inl rfl⟩
  | f + 1, m, h1, h => by
    show AlB (anB O key) _ (if O.blt (Ky O key p m) (Ky O key p (m - 1)) = true then _ else _)
    cases e : O.blt (Ky O key p m) (Ky O key p (m - 1)) with
    | true =>
      rw [if_pos rfl]
      exact ⟨Nat.le_refl _, by omega, h, .inr e⟩
    | false =>
      rw [if_neg Bool.false_ne_true]
      refine (b_asc f (m + 1) (by omega) (h.more h1 e)).mono fun r ⟨a, b, c, d⟩ => ⟨by omega, by omega, c, ?_⟩
      rcases d with d | d
      · exact .inl (by omega)
      · exact .inr d
noncomputable def Eqs (O : KeyOrd) (key : Nat → O.α) (p : Array Nat) (m q : Nat) : Prop := q + 1 ≤ m ∧ ∀ i, m - (q + 1) ≤ i → i < m → Ky O key p i = Ky O key p (m - 1)
theorem Eqs.none {p : Array Nat} {m : Nat} (h : 1 ≤ m) : Eqs O key p m 0 := ⟨by omega, fun i h1 h2 => by rw [show i = m - 1 by omega]⟩
theorem b_desc : ∀ (f : Nat) (p : Array Nat) (m q : Nat), 1 ≤ m → m + f ≤ p.size → Downto O key p m → Eqs O key p m q → AlB (anB O key) (fun r : Array Nat × Nat × Nat => r.1.size = p.size ∧ m ≤ r.2.1 ∧ r.2.1 ≤ m + f ∧ Downto O key r.1 r.2.1 ∧ Eqs O key r.1 r.2.1 r.2.2) (kas_desc f p m q)
  | 0, p, m, q, _, _, h, he => ⟨rfl, Nat.le_refl _, Nat.le_refl _, h, he⟩
  | f + 1, p, m, q, h1, hz, h, he => by
    show AlB (anB O key) _ (if O.blt (Ky O key p m) (Ky O key p (m - 1)) = true then (if q > 0 then kas_desc f (kas_rev p (m - (q + 1)) m) (m + 1) 0 else kas_desc f p (m + 1) 0) else _)
    cases e : O.blt (Ky O key p m) (Ky O key p (m - 1)) with
    | true =>
      rw [if_pos rfl]
      have hd := h.more h1 (KeyOrd.kle_of_klt e)
      split
      · have ev : ∀ k, Ky O key (kas_rev p (m - (q + 1)) m) k = Ky O key p k := Ky_revE (by omega) he.2
        have hd' : Downto O key (kas_rev p (m - (q + 1)) m) (m + 1) := fun i j a b => by rw [ev, ev]; exact hd i j a b
        refine (b_desc f _ (m + 1) 0 (by omega) (by rw [rev_size]; omega) hd' (Eqs.none (by omega))).mono fun r ⟨a, b, c, d, z⟩ => ⟨by rw [a, rev_size], by omega, by omega, d, z⟩
      · exact (b_desc f p (m + 1) 0 (by omega) (by omega) hd (Eqs.none (by omega))).mono fun r ⟨a, b, c, d, z⟩ => ⟨a, by omega, by omega, d, z⟩
    | false =>
      rw [if_neg Bool.false_ne_true]
      show AlB (anB O key) _ (if O.blt (Ky O key p (m - 1)) (Ky O key p m) = true then _ else _)
      cases e2 : O.blt (Ky O key p (m - 1)) (Ky O key p m) with
      | true =>
        rw [if_pos rfl]
        exact ⟨rfl, Nat.le_refl _, Nat.le_add_right m (f + 1), h, he⟩
      | false =>
        rw [if_neg Bool.false_ne_true]
        have eq : Ky O key p m = Ky O key p (m - 1) := KeyOrd.kle_antisymm e2 e
        refine (b_desc f p (m + 1) (q + 1) (by omega) (by omega) (h.more h1 (by rw [eq]; exact KeyOrd.kle_refl _)) ⟨by have := he.1; omega, fun i a b => ?_⟩).mono fun r ⟨a, b, c, d, z⟩ => ⟨a, by omega, by omega, d, z⟩
        rw [show m + 1 - 1 = m by omega]
        by_cases hi : i = m
        · rw [hi]
        · rw [eq]; exact he.2 i (by omega) (by omega)
theorem b_tail3 {p : Array Nat} {m k : Nat} (h1 : 1 ≤ m) (hk : m ≤ k) (hz : k ≤ p.size) (h : Downto O key p m) : AlB (anB O key) (fun r : Nat × Array Nat => 1 ≤ r.1 ∧ r.1 ≤ k ∧ r.2.size = p.size ∧ Upto O key r.2 r.1) (kas_tail3 m k p) := by
  have hu : Upto O key (kas_rev p 0 m) m := fun i j a b => by
    rw [Ky_rev (by omega), Ky_rev (by omega), if_pos (by omega), if_pos (by omega)]
    exact h _ _ (by omega) (by omega)
  exact (b_asc (k - m) m h1 hu).bind fun r ⟨a, b, c, _⟩ => ⟨by omega, by omega, rev_size .., c⟩
theorem b_descPart {p : Array Nat} {m k : Nat} (hk : m + 1 ≤ k) (hz : k ≤ p.size) (h : Downto O key p (m + 1)) : AlB (anB O key) (fun r : Nat × Array Nat => 1 ≤ r.1 ∧ r.1 ≤ k ∧ r.2.size = p.size ∧ Upto O key r.2 r.1) (kas_descPart m k p) := by
  refine (b_desc (k - (m + 1)) p (m + 1) 0 (by omega) (by omega) h (Eqs.none (by omega))).bind fun r ⟨a, b, c, d, z⟩ => ?_
  split
  · have ev : ∀ i, Ky O key (kas_rev r.1 (r.2.1 - (r.2.2 + 1)) r.2.1) i = Ky O key r.1 i := Ky_revE (by omega) z.2
    refine (b_tail3 (p := kas_rev r.1 (r.2.1 - (r.2.2 + 1)) r.2.1) (by omega) (by omega) (by rw [rev_size]; omega) fun i j x y => ?_).mono fun r' ⟨x, y, w, v⟩ => ⟨x, y, by rw [w, rev_size, a], v⟩
    rw [ev, ev]; exact d i j x y
  · exact (b_tail3 (by omega) (by omega) (by omega) d).mono fun r' ⟨x, y, w, v⟩ => ⟨x, y, by rw [w, a], v⟩
theorem b_count {p : Array Nat} {k : Nat} (h1 : 1 ≤ k) (hz : k ≤ p.size) : AlB (anB O key) (fun r : Nat × Array Nat => 1 ≤ r.1 ∧ r.1 ≤ k ∧ r.2.size = p.size ∧ Upto O key r.2 r.1) (kas_count k p) := by
  have u1 : Upto O key p 1 := fun i j a b => by rw [show i = j by omega]; exact KeyOrd.kle_refl _
  refine (b_asc (k - 1) 1 (Nat.le_refl _) u1).bind fun m ⟨a, b, c, d⟩ => ?_
  by_cases hm : m = k
  · rw [if_pos (by simpa using hm)]
    exact ⟨a, by omega, rfl, c⟩
  · rw [if_neg (by simpa using hm)]
    have lt : O.klt (Ky O key p m) (Ky O key p (m - 1)) := d.resolve_left (by omega)
    by_cases h2 : m > 1
    · rw [if_pos h2]
      show AlB (anB O key) _ (if O.blt (Ky O key p 0) (Ky O key p (m - 1)) = true then _ else _)
      cases e : O.blt (Ky O key p 0) (Ky O key p (m - 1)) with
      | true =>
        rw [if_pos rfl]
        exact ⟨a, by omega, rfl, c⟩
      | false =>
        rw [if_neg Bool.false_ne_true]
        have al : ∀ i, 0 ≤ i → i < m → Ky O key p i = Ky O key p (m - 1) := fun i _ hi =>
          KeyOrd.kle_antisymm (c i (m - 1) (by omega) (by omega)) (KeyOrd.kle_trans e (c 0 i (by omega) hi))
        have ev : ∀ i, Ky O key (kas_rev p 0 m) i = Ky O key p i := Ky_revE (by omega) al
        have dm : Downto O key p m := fun i j x y => by rw [al i (by omega) (by omega), al j (by omega) y]; exact KeyOrd.kle_refl _
        have dn := dm.more a (KeyOrd.kle_of_klt lt)
        refine (b_descPart (p := kas_rev p 0 m) (by omega) (by rw [rev_size]; omega) fun i j x y => ?_).mono fun r' ⟨x, y, w, v⟩ => ⟨x, y, by rw [w, rev_size], v⟩
        rw [ev, ev]; exact dn i j x y
    · rw [if_neg h2]
      have e1 : m = 1 := by omega
      subst e1
      have d1 : Downto O key p 1 := fun i j x y => by rw [show i = j by omega]; exact KeyOrd.kle_refl _
      exact b_descPart (by omega) hz (d1.more (Nat.le_refl _) (KeyOrd.kle_of_klt lt))
theorem b_place {p : Array Nat} {k : Nat} (h : Upto O key p k) : ∀ (f l r : Nat), l ≤ r → r ≤ k → r - l ≤ f → (∀ i, i < l → O.kle (Ky O key p i) (Ky O key p k)) → (∀ i, r ≤ i → i < k → O.klt (Ky O key p k) (Ky O key p i)) →
    AlB (anB O key) (fun l => l ≤ k ∧ (∀ i, i < l → O.kle (Ky O key p i) (Ky O key p k)) ∧ ∀ i, l ≤ i → i < k → O.klt (Ky O key p k) (Ky O key p i)) (kas_place p k f l r)
  | 0, l, r, h1, h2, h3, ha, hb => by
    have e : l = r := by omega
    subst e
    exact ⟨h2, ha, hb⟩
  | f + 1, l, r, h1, h2, h3, ha, hb => by
    unfold kas_place
    split
    · have e : l = r := by omega
      subst e
      exact ⟨h2, ha, hb⟩
    · show AlB (anB O key) _ (if O.blt (Ky O key p k) (Ky O key p ((l + r) / 2)) = true then _ else _)
      cases e : O.blt (Ky O key p k) (Ky O key p ((l + r) / 2)) with
      | true =>
        rw [if_pos rfl]
        exact b_place h f l ((l + r) / 2) (by omega) (by omega) (by omega) ha fun i a b => KeyOrd.klt_of_klt_of_kle e (h _ _ a b)
      | false =>
        rw [if_neg Bool.false_ne_true]
        exact b_place h f ((l + r) / 2 + 1) r (by omega) h2 (by omega) (fun i a => KeyOrd.kle_trans (h i ((l + r) / 2) (by omega) (by omega)) e) hb
theorem Ky_bub {p : Array Nat} {k d : Nat} (hk : k < p.size) (hd : d ≤ k) (i : Nat) : Ky O key (bubble p k d) i = if i = k - d then Ky O key p k else if k - d < i ∧ i ≤ k then Ky O key p (i - 1) else Ky O key p i := by
  have e := getElem?_bubble hk d hd i
  by_cases h1 : i = k - d
  · rw [if_pos h1] at e ⊢; exact Ky_of e
  · rw [if_neg h1] at e ⊢
    by_cases h2 : k - d < i ∧ i ≤ k
    · rw [if_pos h2] at e ⊢; exact Ky_of e
    · rw [if_neg h2] at e ⊢; exact Ky_of e
theorem b_bin : ∀ (f : Nat) (p : Array Nat) (k : Nat), k + f ≤ p.size → Upto O key p k → AlB (anB O key) (fun q => Upto O key q (k + f)) (kas_bin f p k)
  | 0, p, k, _, h => h
  | f + 1, p, k, hz, h => by
    refine (b_place h k 0 k (by omega) (Nat.le_refl _) (by omega) (fun i hi => by omega) (fun i a b => by omega)).bind fun l ⟨hl, ha, hb⟩ => ?_
    have hu : Upto O key (bubble p k (k - l)) (k + 1) := fun i j x y => by
      rw [Ky_bub (by omega) (by omega), Ky_bub (by omega) (by omega), show k - (k - l) = l by omega]
      by_cases j1 : j = l
      · rw [if_pos j1]
        by_cases i1 : i = l
        · rw [if_pos i1]; exact KeyOrd.kle_refl _
        · rw [if_neg i1, if_neg (show ¬ (l < i ∧ i ≤ k) by omega)]; exact ha i (by omega)
      · rw [if_neg j1]
        by_cases j2 : l < j
        · rw [if_pos (show l < j ∧ j ≤ k from ⟨j2, by omega⟩)]
          by_cases i1 : i = l
          · rw [if_pos i1]; exact KeyOrd.kle_of_klt (hb (j - 1) (by omega) (by omega))
          · rw [if_neg i1]
            by_cases i2 : l < i
            · rw [if_pos (show l < i ∧ i ≤ k from ⟨i2, by omega⟩)]; exact h _ _ (by omega) (by omega)
            · rw [if_neg (show ¬ (l < i ∧ i ≤ k) by omega)]; exact h _ _ (by omega) (by omega)
        · rw [if_neg (show ¬ (l < j ∧ j ≤ k) by omega), if_neg (show ¬ i = l by omega), if_neg (show ¬ (l < i ∧ i ≤ k) by omega)]; exact h _ _ x (by omega)
    have := b_bin f (bubble p k (k - l)) (k + 1) (by rw [bubble_size]; omega) hu
    rw [show k + 1 + f = k + (f + 1) by omega] at this
    exact this
theorem b_sort {n : Nat} (h1 : 1 ≤ n) : AlB (anB O key) (fun q => Upto O key q n) (kas_sort n) := by
  have hs : (List.toArray (List.range n)).size = n := by simp
  refine (b_count h1 (p := List.toArray (List.range n)) (by rw [hs]; exact Nat.le_refl _)).bind fun r ⟨a, b, c, d⟩ => ?_
  rw [hs] at c
  split
  · have := b_bin (n - max r.1 1) r.2 (max r.1 1) (by omega) (by rw [show max r.1 1 = r.1 by omega]; exact d)
    rw [show max r.1 1 + (n - max r.1 1) = n by omega] at this
    exact this
  · have e : r.1 = n := by omega
    rw [e] at d
    exact d
end
end L2
set_option Elab.async false
set_option linter.all false
set_option maxRecDepth 100000
set_option maxHeartbeats 4000000
namespace L2
open PySem PySem.Spec PyProof.Rows
section
open PySem.W
variable {prog : Program} {w : World} {A : Around} {E : Value → Shared → Prop} {s : Shared}
theorem range_get (vs : List Value) : (List.range vs.length).map (fun i => vs.getD i Value.none) = vs := by
  apply List.ext_getElem
  · simp
  · intro i a1 a2
    simp [List.getElem?_eq_getElem a2]
noncomputable def RanksG (prog : Program) (w : World) (A : Around) (vs : List Value) (R : Array Nat → Prop) (s : Shared) : Prop :=
  ∃ κ : SortKind, (∀ (Q : SortKind → Shared → Prop) (E : Value → Shared → Prop), Q κ s → wpAny (model prog w) A (keyKind' vs.toArray) Q E s) ∧
    ∀ G : Array Nat → Shared → Prop, (∀ p, Rng vs.length p → R p → G p s) → (kas_sort vs.length).kasWp (kas_ask prog w A κ vs) G s
theorem sort_ranG {R : Array Nat → Prop} {a : Addr} {vs : List Value} {n : Nat} {P : PySem.Fin → Shared → Prop} (ho : s.heap.get? a = some (seqObj "list" vs.toArray n)) (h64 : vs.length < 64)
    (hk : 2 ≤ vs.length → ∀ h' : Heap, (∀ b o, b ≠ a → s.heap.get? b = some o → h'.get? b = some o) → RanksG prog w A vs R { s with heap := h' }) (hR : vs.length < 2 → R (List.range vs.length).toArray)
    (h : ∀ (out : Array Value) (p : Array Nat), Rng vs.length p → R p → out.toList = p.toList.map (fun i => vs.getD i Value.none) → P (.done (.ret .none)) { s with heap := sortedHeap s.heap a vs out }) : wpAny (model prog w) A (Builtin.«list.sort» ⟨[.ref a], []⟩) P E s := by
  have la : a < s.heap.objs.size := Heap.lt_size ho
  have small : vs.length ≤ sizeLine := by rw [sizeLine_eq]; omega
  obtain ⟨e1, k1⟩ : ∃ e1, (s.heap.update a (Obj.mapSeq fun _ => (#[] : Array Value))).get? a = some (seqObj "list" #[] e1) := ⟨_, get?_update_seq ho fun _ => #[]⟩
  generalize hU : s.heap.update a (Obj.mapSeq fun _ => (#[] : Array Value)) = U at k1
  have zU : U.objs.size = s.heap.objs.size := by rw [← hU]; exact Heap.size_update ..
  have kp : ∀ b o, b ≠ a → s.heap.get? b = some o → ((U.push (seqObj "tuple" vs.toArray 0)).push (seqObj "list" #[] 0)).get? b = some o := fun b o nb gb => by
    refine Heap.get?_push_of_some _ (Heap.get?_push_of_some _ ?_)
    rw [← hU, Heap.get?_update_ne _ _ _ _ nb]; exact gb
  have k2 : ((U.push (seqObj "tuple" vs.toArray 0)).push (seqObj "list" #[] 0)).get? a = some (seqObj "list" #[] e1) := Heap.get?_push_of_some _ (Heap.get?_push_of_some _ k1)
  rw [list_sort_plain]
  refine wpAny_bind (listItems_at ho rfl (wpAny_bind (listUpdate_at ho rfl ?_ (by simpa using small) (Nat.zero_le _))))
  have k1' := k1
  rw [← hU] at k1'
  refine wpAny_bind (seqEpoch_at k1' rfl (wpAny_bind (wpAny_newTuple (wpAny_bind (wpAny_newList (wpAny_holding ?_) (Nat.zero_le _))) (by simpa using small))))
  rw [hU]
  show wpAny (model prog w) A _ P E { s with heap := (U.push (seqObj "tuple" vs.toArray 0)).push (seqObj "list" #[] 0) }
  have fin : ∀ (out : Array Value) (p : Array Nat), Rng vs.length p → R p → out.toList = p.toList.map (fun i => vs.getD i Value.none) → P (.done (.ret .none)) { s with heap := ((U.push (seqObj "tuple" vs.toArray 0)).push (seqObj "list" #[] 0)).update a (Obj.mapSeq fun _ => out) } := fun out p h1 h2 h3 => by
    have := h out p h1 h2 h3
    unfold sortedHeap at this
    rw [hU] at this
    exact this
  dsimp only
  by_cases h2 : vs.toArray.size < 2
  · rw [if_pos h2, if_pos h2]
    refine wpAny_bind (wpAny_pure ?_)
    rw [StateT.run_pure]
    refine wpAny_bind (wpAny_pure ?_)
    dsimp only
    have ev : ((vs.toArray.zip vs.toArray).map fun x => x.2).toList = vs := by simp [List.map_snd_zip]
    refine wpAny_bind (seqEpoch_at k2 rfl (wpAny_bind (listUpdate_at k2 rfl ?_ (Nat.zero_le _) ?_)))
    · simp only [bne_self_eq_false, Bool.false_eq_true, if_false]
      exact wpAny_pure (fin _ (List.range vs.length).toArray (Array.Perm.refl _) (hR (by rw [List.size_toArray] at h2; exact h2)) (by rw [show (arrOf (SortSt.mk' general' (vs.toArray.zip vs.toArray) #[] 7 none)) = vs.toArray.zip vs.toArray from rfl, ev, List.toList_toArray, range_get]))
    · rw [← Array.length_toList, show (arrOf (SortSt.mk' general' (vs.toArray.zip vs.toArray) #[] 7 none)) = vs.toArray.zip vs.toArray from rfl, ev]; exact Nat.le_succ_of_le small
  · rw [if_neg h2, if_neg h2]
    have l2 : 2 ≤ vs.length := by rw [List.size_toArray] at h2; omega
    obtain ⟨κ, kd, ak⟩ := hk l2 _ kp
    refine wpAny_bind (kd _ _ ?_)
    refine wpAny_bind (wpAny_mono (kat_run (ks := vs) (vs := vs) (Q := fun st' s' => s' = { s with heap := (U.push (seqObj "tuple" vs.toArray 0)).push (seqObj "list" #[] 0) } ∧ ∃ p : Array Nat, (Rng vs.length p ∧ R p) ∧ arrOf st' = p.map (kas_item (vs.toArray.zip vs.toArray)) ∧ failedOf st' = none)
      (G := fun p s' => s' = { s with heap := (U.push (seqObj "tuple" vs.toArray 0)).push (seqObj "list" #[] 0) } ∧ Rng vs.length p ∧ R p) rfl l2 h64 (fun p st' s' _ ar fl g => ⟨g.1, p, g.2, ar, fl⟩) (ak _ fun p h1 h2 => ⟨rfl, h1, h2⟩)) ?_ fun _ _ e => e)
    rintro ⟨⟨⟩, st'⟩ s' ⟨rfl, p, ⟨hp, hr⟩, ar, fl⟩
    dsimp only
    have out := kat_snds rfl ar
    have pm := hp.perm
    rw [out]
    refine wpAny_bind (seqEpoch_at k2 rfl (wpAny_bind (listUpdate_at k2 rfl ?_ (Nat.zero_le _) ?_)))
    · rw [fl]
      simp only [bne_self_eq_false, Bool.false_eq_true, if_false]
      exact wpAny_pure (fin _ p hp hr (by simp))
    · rw [List.size_toArray, pm.length_eq]; exact Nat.le_succ_of_le small
theorem sorted_ranG {R : Array Nat → Prop} {l : Addr} {vs : List Value} {Q : Value → Shared → Prop} (hl : s.heap.IsList l vs.toArray) (h64 : vs.length < 64)
    (hk : 2 ≤ vs.length → ∀ h' : Heap, (∀ b o, s.heap.get? b = some o → h'.get? b = some o) → RanksG prog w A.in1.in1 vs R { s with heap := h' }) (hR : vs.length < 2 → R (List.range vs.length).toArray)
    (h : ∀ (out : Array Value) (p : Array Nat), Rng vs.length p → R p → out.toList = p.toList.map (fun i => vs.getD i Value.none) → Q (.ref (s.heap.objs.size + 1)) { s with heap := sortedAll s.heap vs out }) : wpAny (model prog w) A (call (.builtin "sorted") [.ref l]) Q E s := by
  have small : vs.length ≤ sizeLine := by rw [sizeLine_eq]; omega
  refine Calls.call_function_entry kind_sorted plain_sorted entry_sorted (args_sorted1 _) ?_
  unfold Builtin.«sorted»
  refine wpAny_bind (m := checkCount "sorted" 1 1 _) (wpAny_pure (wpAny_bind (collect_list hl (wpAny_bind (wpAny_newList ?_ (by simpa using small))) (by simpa using small))))
  generalize hU : (s.heap.push (seqObj "list" #[] 0)).update s.heap.objs.size (Obj.mapSeq (· ++ vs.toArray)) = U
  have zU : U.objs.size = s.heap.objs.size + 1 := by rw [← hU, Heap.size_update]; exact size_push' ..
  have kU : ∀ b o, s.heap.get? b = some o → U.get? b = some o := fun b o gb => by
    rw [← hU, Heap.get?_update_ne _ _ _ _ (Nat.ne_of_lt (Heap.lt_size gb))]
    exact Heap.get?_push_of_some _ gb
  have at' : (U.push (seqObj "list" vs.toArray 0)).get? (s.heap.objs.size + 1) = some (seqObj "list" vs.toArray 0) := by rw [← zU]; exact Heap.get?_push_size _ rfl
  show wpAny _ _ _ _ _ { s with heap := U.push (seqObj "list" vs.toArray 0) }
  rw [zU]
  refine wpAny_bind (wpAny_holding (wpAny_call_entry slot_list_sort ⟨_, at', rfl⟩ entry_list_sort ?bd (args_list_sort _)))
  case bd =>
    refine sort_ranG at' h64 (fun l2 h' kp => hk l2 h' fun b o gb => kp b o (Nat.ne_of_lt (Nat.lt_succ_of_lt (Heap.lt_size gb))) (Heap.get?_push_of_some _ (kU b o gb))) hR fun out p p1 p2 p3 => ⟨_, rfl, wpAny_pure ⟨_, rfl, ?_⟩⟩
    have := h out p p1 p2 p3
    unfold sortedAll at this
    rw [hU] at this
    exact this
end
end L2
set_option Elab.async false
set_option linter.all false
set_option maxRecDepth 100000
set_option maxHeartbeats 4000000
namespace L2
open PySem PySem.Spec PyProof.Rows
section
open PySem.W
variable {X : Cx} {pins : List (Addr × Obj)} {σ : St} {H : Hp} {s : Shared} {k : Nat}
noncomputable def LedE (H : Hp) (y : V) : Prop := ∃ a n us, y = .ref a ∧ H a = some (.tup (.str n :: us))
theorem LedE.led {K : PySem.W.Frag} {y : V} (h : LedE H y) : Led K H (fun v => (tupOf H v).getD []) y := by
  obtain ⟨a, n, us, rfl, e⟩ := h
  exact ⟨a, n, us, rfl, by dsimp only; rw [tupOf_at e]; rfl, SqT.of e⟩
theorem vals_pickE {ys : List V} {vs : List Value} (r : Vals ys vs) : ∀ ps : List Nat, (∀ i ∈ ps, i < vs.length) → Vals (ps.map fun i => ys.getD i .non) (ps.map fun i => vs.getD i Value.none)
  | [], _ => .nil
  | i :: ps, h => by
    have hlen := r.length
    have hi := h i List.mem_cons_self
    obtain ⟨x, hx, rx⟩ := r.get' (show vs[i]? = some vs[i] by simp)
    refine .cons ?_ (vals_pickE r ps fun j hj => h j (List.mem_cons_of_mem _ hj))
    dsimp only
    rw [List.getD_eq_getElem?_getD, hx, List.getD_eq_getElem?_getD, List.getElem?_eq_getElem hi]
    exact rx
end
end L2
set_option Elab.async false
set_option linter.all false
set_option maxRecDepth 100000
set_option maxHeartbeats 4000000
namespace L2
open PySem PySem.Spec PyProof.Rows
noncomputable def intO : KeyOrd where
  α := Int
  blt a b := decide (a < b)
  irrefl a := decide_eq_false (by omega)
  trans a b c h1 h2 := decide_eq_true (by have := of_decide_eq_true h1; have := of_decide_eq_true h2; omega)
  negTrans a b c h := by
    have h := of_decide_eq_true h
    by_cases g : a < b
    · exact .inl (decide_eq_true g)
    · exact .inr (decide_eq_true (by omega))
  total a b h1 h2 := by have := of_decide_eq_false h1; have := of_decide_eq_false h2; omega
theorem ko_asym {A : KeyOrd} {a b : A.α} (h : A.blt a b = true) : A.blt b a = false := KeyOrd.klt_asymm (O := A) h
theorem ko_cases {A : KeyOrd} (a b : A.α) : (A.blt a b = true ∧ A.blt b a = false) ∨ (A.blt b a = true ∧ A.blt a b = false) ∨ (a = b) := by
  cases h1 : A.blt a b with
  | true => exact .inl ⟨rfl, ko_asym h1⟩
  | false =>
    cases h2 : A.blt b a with
    | true => exact .inr (.inl ⟨rfl, rfl⟩)
    | false => exact .inr (.inr (A.total a b h1 h2))
noncomputable def stepB (A : KeyOrd) (a b : A.α) (r : Bool) : Bool := A.blt a b || (!A.blt b a && r)
theorem stepB_lt {A : KeyOrd} {a b : A.α} {r : Bool} (h : A.blt a b = true) : stepB A a b r = true := by unfold stepB; rw [h]; rfl
theorem stepB_gt {A : KeyOrd} {a b : A.α} {r : Bool} (h : A.blt b a = true) : stepB A a b r = false := by unfold stepB; rw [h, ko_asym h]; rfl
theorem stepB_eq {A : KeyOrd} {a : A.α} {r : Bool} : stepB A a a r = r := by unfold stepB; rw [A.irrefl]; rfl
theorem stepB_trans {A : KeyOrd} {a b c : A.α} {r r' r'' : Bool} (hr : r = true → r' = true → r'' = true) (h1 : stepB A a b r = true) (h2 : stepB A b c r' = true) : stepB A a c r'' = true := by
  rcases ko_cases (A := A) a b with ⟨x, _⟩ | ⟨x, _⟩ | x
  · rcases ko_cases (A := A) b c with ⟨y, _⟩ | ⟨y, _⟩ | y
    · exact stepB_lt (A.trans _ _ _ x y)
    · rw [stepB_gt y] at h2; cases h2
    · rw [← y]; exact stepB_lt x
  · rw [stepB_gt x] at h1; cases h1
  · subst x
    rw [stepB_eq] at h1
    rcases ko_cases (A := A) a c with ⟨y, _⟩ | ⟨y, _⟩ | y
    · exact stepB_lt y
    · rw [stepB_gt y] at h2; cases h2
    · subst y
      rw [stepB_eq] at h2 ⊢
      exact hr h1 h2
theorem stepB_neg {A : KeyOrd} {a b c : A.α} {r r' r'' : Bool} (hr : r'' = true → r = true ∨ r' = true) (h : stepB A a c r'' = true) : stepB A a b r = true ∨ stepB A b c r' = true := by
  rcases ko_cases (A := A) a b with ⟨x, _⟩ | ⟨x, _⟩ | x
  · exact .inl (stepB_lt x)
  · right
    rcases ko_cases (A := A) a c with ⟨y, _⟩ | ⟨y, _⟩ | y
    · exact stepB_lt (A.trans _ _ _ x y)
    · rw [stepB_gt y] at h; cases h
    · rw [← y]; exact stepB_lt x
  · subst x
    rcases ko_cases (A := A) a c with ⟨y, _⟩ | ⟨y, _⟩ | y
    · exact .inr (stepB_lt y)
    · rw [stepB_gt y] at h; cases h
    · subst y
      rw [stepB_eq] at h ⊢
      rw [stepB_eq]
      exact hr h
theorem stepB_total {A : KeyOrd} {a b : A.α} {r r' : Bool} (h1 : stepB A a b r = false) (h2 : stepB A b a r' = false) : a = b ∧ r = false ∧ r' = false := by
  rcases ko_cases (A := A) a b with ⟨x, _⟩ | ⟨x, _⟩ | x
  · rw [stepB_lt x] at h1; cases h1
  · rw [stepB_lt x] at h2; cases h2
  · subst x
    rw [stepB_eq] at h1 h2
    exact ⟨rfl, h1, h2⟩
noncomputable def prodO (A B : KeyOrd) : KeyOrd where
  α := A.α × B.α
  blt x y := stepB A x.1 y.1 (B.blt x.2 y.2)
  irrefl a := by rw [stepB_eq]; exact B.irrefl _
  trans a b c h1 h2 := stepB_trans (fun x y => B.trans _ _ _ x y) h1 h2
  negTrans a b c h := stepB_neg (fun x => B.negTrans _ b.2 _ x) h
  total a b h1 h2 := by
    obtain ⟨x, y, z⟩ := stepB_total h1 h2
    exact Prod.ext x (B.total _ _ y z)
noncomputable def listB (A : KeyOrd) : List A.α → List A.α → Bool
  | [], [] => false
  | [], _ :: _ => true
  | _ :: _, [] => false
  | x :: xs, y :: ys => stepB A x y (listB A xs ys)
theorem listB_irr {A : KeyOrd} : ∀ xs : List A.α, listB A xs xs = false
  | [] => rfl
  | x :: xs => by unfold listB; rw [stepB_eq]; exact listB_irr xs
theorem listB_trans {A : KeyOrd} : ∀ xs ys zs : List A.α, listB A xs ys = true → listB A ys zs = true → listB A xs zs = true
  | [], [], _, h, _ => by cases h
  | [], _ :: _, [], _, h => by cases h
  | [], _ :: _, _ :: _, _, _ => rfl
  | _ :: _, [], _, h, _ => by cases h
  | _ :: _, _ :: _, [], _, h => by cases h
  | x :: xs, y :: ys, z :: zs, h1, h2 => stepB_trans (listB_trans xs ys zs) h1 h2
theorem listB_neg {A : KeyOrd} : ∀ xs ys zs : List A.α, listB A xs zs = true → listB A xs ys = true ∨ listB A ys zs = true
  | [], [], zs, h => .inr h
  | [], _ :: _, _, _ => .inl rfl
  | _ :: _, _, [], h => by cases h
  | _ :: _, [], _ :: _, _ => .inr rfl
  | x :: xs, y :: ys, z :: zs, h => stepB_neg (listB_neg xs ys zs) h
theorem listB_total {A : KeyOrd} : ∀ xs ys : List A.α, listB A xs ys = false → listB A ys xs = false → xs = ys
  | [], [], _, _ => rfl
  | [], _ :: _, h, _ => by cases h
  | _ :: _, [], _, h => by cases h
  | x :: xs, y :: ys, h1, h2 => by
    obtain ⟨a, b, c⟩ := stepB_total h1 h2
    rw [a, listB_total xs ys b c]
noncomputable def listO (A : KeyOrd) : KeyOrd := ⟨List A.α, listB A, listB_irr, listB_trans, listB_neg, listB_total⟩
noncomputable def letO : KeyOrd := prodO strKind.toKeyOrd (prodO intO (prodO strKind.toKeyOrd (listO strKind.toKeyOrd)))
end L2
set_option Elab.async false
set_option linter.all false
set_option maxRecDepth 100000
set_option maxHeartbeats 4000000
namespace L2
open PySem PySem.Spec PyProof.Rows
noncomputable abbrev strO : KeyOrd := strKind.toKeyOrd
theorem str_cps {a b : Str} (h : a.cps.toList = b.cps.toList) : a = b := by
  cases a with
  | mk x =>
    cases b with
    | mk y => congr 1; exact Array.toList_inj.mp h
theorem step_str {n m : Str} {R : Bool} : (if eqV (.str n) (.str m) = true then R else ltV0 (.str n) (.str m)) = stepB strO n.cps.toList m.cps.toList R := by
  show (if (n == m) = true then R else decide (n.cps.toList < m.cps.toList)) = _
  by_cases e : n = m
  · subst e
    rw [if_pos (beq_self_eq_true n), stepB_eq]
  · rw [if_neg (by simpa using e)]
    rcases ko_cases (A := strO) n.cps.toList m.cps.toList with ⟨x, _⟩ | ⟨x, y⟩ | x
    · rw [stepB_lt x]; exact x
    · rw [stepB_gt x]; exact y
    · exact absurd (str_cps x) e
theorem step_int {n m : Int} {R : Bool} : (if eqV (.int n) (.int m) = true then R else ltV0 (.int n) (.int m)) = stepB intO n m R := by
  show (if (n == m) = true then R else decide (n < m)) = _
  by_cases e : n = m
  · subst e
    rw [if_pos (beq_self_eq_true n)]
    exact (stepB_eq (A := intO) (a := n)).symm
  · rw [if_neg (by simpa using e)]
    rcases ko_cases (A := intO) n m with ⟨x, _⟩ | ⟨x, y⟩ | x
    · rw [stepB_lt x]; exact x
    · rw [stepB_gt x]; exact y
    · exact absurd x e
theorem lex_strs {fin : Bool} : ∀ (rs qs : List Str), fin = decide (rs.length < qs.length) → lexW fin eqV ltV0 (rs.map V.str) (qs.map V.str) = listB strO (rs.map fun x => x.cps.toList) (qs.map fun x => x.cps.toList)
  | [], [], h => by rw [h]; rfl
  | [], _ :: _, h => by rw [h]; exact decide_eq_true (by simp)
  | _ :: _, [], h => by rw [h]; exact decide_eq_false (by simp)
  | r :: rs, q :: qs, h => by
    show (if eqV (.str r) (.str q) = true then lexW fin eqV ltV0 (rs.map V.str) (qs.map V.str) else ltV0 (.str r) (.str q)) = stepB strO r.cps.toList q.cps.toList (listB strO (rs.map fun x => x.cps.toList) (qs.map fun x => x.cps.toList))
    rw [step_str, lex_strs rs qs (by rw [h]; simp)]
theorem cps_inj : ∀ {rs qs : List Str}, rs.map (fun x => x.cps.toList) = qs.map (fun x => x.cps.toList) → rs = qs
  | [], [], _ => rfl
  | [], _ :: _, h => by cases h
  | _ :: _, [], h => by cases h
  | r :: rs, q :: qs, h => by
    rw [List.map_cons, List.map_cons] at h
    injection h with h1 h2
    rw [str_cps h1, cps_inj h2]
theorem eq_strs {H : Hp} {a b : Addr} {rs qs : List Str} (ha : H a = some (.tup (rs.map V.str))) (hb : H b = some (.tup (qs.map V.str))) : eqD H 1 (.ref a) (.ref b) = decide (rs = qs) := by
  unfold eqD
  rw [tupOf_at ha, tupOf_at hb]
  show ((List.range (min (rs.map V.str).length (qs.map V.str).length)).all (fun j => eqV ((rs.map V.str).getD j .non) ((qs.map V.str).getD j .non)) && (rs.map V.str).length == (qs.map V.str).length) = _
  rw [List.length_map, List.length_map]
  by_cases e : rs = qs
  · subst e
    rw [decide_eq_true rfl, beq_self_eq_true, Bool.and_true, Nat.min_self]
    refine List.all_eq_true.mpr fun j hj => ?_
    have hj := List.mem_range.mp hj
    have g : (rs.map V.str).getD j .non = .str rs[j] := by rw [List.getD_eq_getElem?_getD, List.getElem?_map, List.getElem?_eq_getElem hj]; rfl
    rw [g]
    exact beq_self_eq_true rs[j]
  · rw [decide_eq_false e]
    by_cases hl : rs.length = qs.length
    · rw [hl, beq_self_eq_true, Bool.and_true, Nat.min_self]
      cases hh : (List.range qs.length).all (fun j => eqV ((rs.map V.str).getD j .non) ((qs.map V.str).getD j .non)) with
      | false => rfl
      | true =>
        refine absurd (List.ext_getElem hl fun j h1 h2 => ?_) e
        have h := List.all_eq_true.mp hh j (List.mem_range.mpr h2)
        have g1 : (rs.map V.str).getD j .non = .str rs[j] := by rw [List.getD_eq_getElem?_getD, List.getElem?_map, List.getElem?_eq_getElem h1]; rfl
        have g2 : (qs.map V.str).getD j .non = .str qs[j] := by rw [List.getD_eq_getElem?_getD, List.getElem?_map, List.getElem?_eq_getElem h2]; rfl
        rw [g1, g2] at h
        exact eq_of_beq (show (rs[j] == qs[j]) = true from h)
    · rw [show (rs.length == qs.length) = false by simpa using hl, Bool.and_false]
noncomputable def letK (n : Str) (d : Int) (h : Str) (rs : List Str) : letO.α := (n.cps.toList, d, h.cps.toList, rs.map fun x => x.cps.toList)
theorem letK_inj {n n' : Str} {d d' : Int} {h h' : Str} {rs rs' : List Str} (e : letK n d h rs = letK n' d' h' rs') : n = n' ∧ d = d' ∧ h = h' ∧ rs = rs' := by
  have e1 := congrArg Prod.fst e
  have e2 := congrArg (fun z => z.2.1) e
  have e3 := congrArg (fun z => z.2.2.1) e
  have e4 := congrArg (fun z => z.2.2.2) e
  exact ⟨str_cps e1, e2, str_cps e3, cps_inj e4⟩
structure LetAt (H : Hp) (v : V) (n : Str) (d : Int) (h : Str) (rs : List Str) : Prop where
  at' : ∃ a r, v = .ref a ∧ H a = some (.tup [.str n, .int d, .str h, .ref r]) ∧ H r = some (.tup (rs.map V.str))
theorem LetAt.lt {H : Hp} {v v' : V} {n n' : Str} {d d' : Int} {h h' : Str} {rs rs' : List Str} (x : LetAt H v n d h rs) (y : LetAt H v' n' d' h' rs') :
    ltD H 2 v v' = letO.blt (letK n d h rs) (letK n' d' h' rs') := by
  obtain ⟨a, r, rfl, ha, hr⟩ := x.at'
  obtain ⟨b, q, rfl, hb, hq⟩ := y.at'
  have e : ltD H 2 (.ref a) (.ref b) = lexW (decide (4 < 4)) (eqD H 1) (ltD H 1) [.str n, .int d, .str h, .ref r] [.str n', .int d', .str h', .ref q] := by
    conv => lhs; unfold ltD
    rw [tupOf_at ha, tupOf_at hb]
    rfl
  rw [e]
  have er : ltD H 1 (.ref r) (.ref q) = listB strO (rs.map fun x => x.cps.toList) (rs'.map fun x => x.cps.toList) := by
    unfold ltD
    rw [tupOf_at hr, tupOf_at hq]
    show lexW (decide ((rs.map V.str).length < (rs'.map V.str).length)) eqV ltV0 (rs.map V.str) (rs'.map V.str) = _
    exact lex_strs rs rs' (by rw [List.length_map, List.length_map])
  show (if eqV (.str n) (.str n') = true then (if eqV (.int d) (.int d') = true then (if eqV (.str h) (.str h') = true then (if eqD H 1 (.ref r) (.ref q) = true then decide (4 < 4) else ltD H 1 (.ref r) (.ref q)) else ltV0 (.str h) (.str h')) else ltV0 (.int d) (.int d')) else ltV0 (.str n) (.str n')) =
    stepB strO n.cps.toList n'.cps.toList (stepB intO d d' (stepB strO h.cps.toList h'.cps.toList (listB strO (rs.map fun x => x.cps.toList) (rs'.map fun x => x.cps.toList))))
  rw [step_str, step_int, step_str]
  congr 3
  rw [eq_strs hr hq, er]
  by_cases e : rs = rs'
  · subst e
    rw [decide_eq_true rfl, if_pos rfl, listB_irr]
    rfl
  · rw [decide_eq_false e, if_neg Bool.false_ne_true]
theorem LetAt.eq {H : Hp} {v v' : V} {n n' : Str} {d d' : Int} {h h' : Str} {rs rs' : List Str} (x : LetAt H v n d h rs) (y : LetAt H v' n' d' h' rs') (hk : eqD H 2 v v' = false) :
    letK n d h rs ≠ letK n' d' h' rs' := by
  intro e
  obtain ⟨rfl, rfl, rfl, rfl⟩ := letK_inj e
  obtain ⟨a, r, rfl, ha, hr⟩ := x.at'
  obtain ⟨b, q, rfl, hb, hq⟩ := y.at'
  unfold eqD at hk
  rw [tupOf_at ha, tupOf_at hb] at hk
  have h2 : ((eqD H 1 (.str n) (.str n) && (eqD H 1 (.int d) (.int d) && (eqD H 1 (.str h) (.str h) && (eqD H 1 (.ref r) (.ref q) && true)))) && (4 == 4)) = false := hk
  have e1 : eqD H 1 (.str n) (.str n) = true := beq_self_eq_true n
  have e2 : eqD H 1 (.int d) (.int d) = true := beq_self_eq_true d
  have e3 : eqD H 1 (.str h) (.str h) = true := beq_self_eq_true h
  rw [e1, e2, e3, eq_strs hr hq, decide_eq_true rfl] at h2
  cases h2
section
variable {X : Cx} {pins : List (Addr × Obj)} {σ : St} {H : Hp} {s : Shared} {k : Nat}
end
noncomputable def kvL (H : Hp) (v : V) : letO.α := match tupOf H v with
  | some [.str n, .int d, .str h, .ref r] => (n.cps.toList, d, h.cps.toList, ((tupOf H (.ref r)).getD []).map fun z => match z with | .str x => x.cps.toList | _ => [])
  | _ => ([], (0 : Int), [], [])
theorem LetAt.key {H : Hp} {v : V} {n : Str} {d : Int} {h : Str} {rs : List Str} (x : LetAt H v n d h rs) : kvL H v = letK n d h rs := by
  obtain ⟨a, r, rfl, ha, hr⟩ := x.at'
  unfold kvL letK
  rw [tupOf_at ha]
  dsimp only
  rw [tupOf_at hr]
  show (_, _, _, ((rs.map V.str).map _)) = _
  rw [List.map_map]
  rfl
end L2
set_option Elab.async false
set_option linter.all false
set_option maxRecDepth 100000
set_option maxHeartbeats 4000000
namespace Mr
open PySem L2
inductive PV where
  | non | bl (b : Bool) | int (i : Int) | str (x : Str) | ty (n : String)
  | tup (xs : List PV) | lst (xs : List PV) | dct (kvs : List (Key × PV))
noncomputable abbrev ASet := Addr → Prop
noncomputable def uni (A B : ASet) : ASet := fun a => A a ∨ B a
noncomputable def one (l : Addr) : ASet := fun a => a = l
noncomputable def noA : ASet := fun _ => False
structure WS where
  w : Nat → ASet
  old : ASet
instance : CoeFun WS (fun _ => Nat → ASet) := ⟨WS.w⟩
noncomputable def aw (W : WS) : ASet := fun a => ∃ i, W i a
noncomputable def TupAt (K : PySem.W.Frag) (H : Hp) (a : Addr) (xs : List V) : Prop := H a = some (.tup xs) ∨
    ∃ (o : Obj) (its : Array Value) (n : Nat), K.lookup a = some o ∧ o.cls = .type "tuple" ∧ o.data = .seq its n ∧ its.size ≤ sizeLine ∧ Vals xs its.toList
noncomputable def KLst (K : PySem.W.Frag) (a : Addr) (xs : List V) : Prop :=
    ∃ (o : Obj) (its : Array Value) (n : Nat), K.lookup a = some o ∧ o.cls = .type "list" ∧ o.dict = none ∧ o.data = .seq its n ∧ its.size ≤ sizeLine ∧ Vals xs its.toList
theorem TupAt.sq {K : PySem.W.Frag} {H : Hp} {a : Addr} {xs : List V} (h : TupAt K H a xs) : SqT K H a xs := h.elim SqT.of .inr
mutual
inductive Rep (K : PySem.W.Frag) (Z : ASet) (H : Hp) : PV → V → Prop
  | non : Rep K Z H .non .non
  | bl (b) : Rep K Z H (.bl b) (.bl b)
  | int (i) : Rep K Z H (.int i) (.int i)
  | str (x) : Rep K Z H (.str x) (.str x)
  | ty (n) : Rep K Z H (.ty n) (.ty n)
  | tup {a : Addr} {xs : List V} {ps : List PV} : TupAt K H a xs → RepL K Z H ps xs → Rep K Z H (.tup ps) (.ref a)
  | lst {a : Addr} {xs : List V} {ps : List PV} : Rd H a (.lst xs) → ¬ Z a → RepL K Z H ps xs → Rep K Z H (.lst ps) (.ref a)
  | dct {a : Addr} {ep : Nat} {ys : List (Key × V)} {kvs : List (Key × PV)} : Rd H a (.dK ys ep) → ¬ Z a → ys.map (·.1) = kvs.map (·.1) → RepL K Z H (kvs.map (·.2)) (ys.map (·.2)) → Rep K Z H (.dct kvs) (.ref a)
inductive RepL (K : PySem.W.Frag) (Z : ASet) (H : Hp) : List PV → List V → Prop
  | nil : RepL K Z H [] []
  | cons {p : PV} {v : V} {ps : List PV} {vs : List V} : Rep K Z H p v → RepL K Z H ps vs → RepL K Z H (p :: ps) (v :: vs)
end
structure Stay (Z Z' : ASet) (H H' : Hp) : Prop where
  tup : ∀ a xs, H a = some (.tup xs) → H' a = some (.tup xs)
  obj : ∀ a o, H a = some o → ¬ Z a → H' a = some o ∧ ¬ Z' a
theorem Stay.rd {Z Z' : ASet} {H H' : Hp} (k : Stay Z Z' H H') {a : Addr} {o : HO} (h : Rd H a o) (n : ¬ Z a) : Rd H' a o ∧ ¬ Z' a := by
  rcases h with h | ⟨u, h⟩
  · exact ⟨.inl (k.obj _ _ h n).1, (k.obj _ _ h n).2⟩
  · exact ⟨.inr ⟨u, (k.obj _ _ h n).1⟩, (k.obj _ _ h n).2⟩
mutual
theorem Rep.stay {K : PySem.W.Frag} {Z Z' : ASet} {H H' : Hp} (k : Stay Z Z' H H') : ∀ {p : PV} {v : V}, Rep K Z H p v → Rep K Z' H' p v
  | _, _, .non => .non
  | _, _, .bl b => .bl b
  | _, _, .int b => .int b
  | _, _, .str b => .str b
  | _, _, .ty b => .ty b
  | _, _, .tup h r => .tup (h.elim (fun h => .inl (k.tup _ _ h)) .inr) (RepL.stay k r)
  | _, _, .lst h n r => .lst (k.rd h n).1 (k.rd h n).2 (RepL.stay k r)
  | _, _, .dct h n e r => .dct (k.rd h n).1 (k.rd h n).2 e (RepL.stay k r)
theorem RepL.stay {K : PySem.W.Frag} {Z Z' : ASet} {H H' : Hp} (k : Stay Z Z' H H') : ∀ {p : List PV} {v : List V}, RepL K Z H p v → RepL K Z' H' p v
  | _, _, .nil => .nil
  | _, _, .cons h r => .cons (Rep.stay k h) (RepL.stay k r)
end
theorem Stay.refl {Z : ASet} {H : Hp} : Stay Z Z H H := ⟨fun _ _ h => h, fun _ _ h n => ⟨h, n⟩⟩
theorem Stay.same {Z : ASet} {H H' : Hp} (s : Same H H') : Stay Z Z H H' := ⟨fun _ _ h => s _ _ h, fun _ _ h n => ⟨s _ _ h, n⟩⟩
theorem Stay.less {Z Z' : ASet} {H : Hp} (h : ∀ a, Z' a → Z a) : Stay Z Z' H H := ⟨fun _ _ h => h, fun _ _ e n => ⟨e, fun z => n (h _ z)⟩⟩
theorem Stay.new {Z : ASet} {H H' : Hp} {l : Addr} (s : Same H H') (hl : H l = none) : Stay Z (uni Z (one l)) H H' :=
  ⟨fun _ _ h => s _ _ h, fun a o h n => ⟨s _ _ h, fun z => z.elim n fun e => by rw [show a = l from e, hl] at h; cases h⟩⟩
theorem RepL.length {K : PySem.W.Frag} {Z : ASet} {H : Hp} : ∀ {ps : List PV} {vs : List V}, RepL K Z H ps vs → ps.length = vs.length
  | _, _, .nil => rfl
  | _, _, .cons _ r => by rw [List.length_cons, List.length_cons, RepL.length r]
theorem RepL.get {K : PySem.W.Frag} {Z : ASet} {H : Hp} : ∀ {ps : List PV} {vs : List V} {i : Nat} {p : PV}, RepL K Z H ps vs → ps[i]? = some p → ∃ v, vs[i]? = some v ∧ Rep K Z H p v
  | _, _, _, _, .nil, h => by simp at h
  | _, _, 0, _, .cons h _, e => by simp at e; subst e; exact ⟨_, rfl, h⟩
  | _, _, i + 1, _, .cons _ r, e => by
    obtain ⟨v, h1, h2⟩ := RepL.get (i := i) r (by simpa using e)
    exact ⟨v, by simpa using h1, h2⟩
theorem RepL.get' {K : PySem.W.Frag} {Z : ASet} {H : Hp} : ∀ {ps : List PV} {vs : List V} {i : Nat} {v : V}, RepL K Z H ps vs → vs[i]? = some v → ∃ p, ps[i]? = some p ∧ Rep K Z H p v
  | _, _, _, _, .nil, h => by simp at h
  | _, _, 0, _, .cons h _, e => by simp at e; subst e; exact ⟨_, rfl, h⟩
  | _, _, i + 1, _, .cons _ r, e => by
    obtain ⟨v, h1, h2⟩ := RepL.get' (i := i) r (by simpa using e)
    exact ⟨v, by simpa using h1, h2⟩
theorem RepL.app {K : PySem.W.Frag} {Z : ASet} {H : Hp} : ∀ {ps qs : List PV} {vs ws : List V}, RepL K Z H ps vs → RepL K Z H qs ws → RepL K Z H (ps ++ qs) (vs ++ ws)
  | _, _, _, _, .nil, s => s
  | _, _, _, _, .cons h r, s => .cons h (RepL.app r s)
theorem RepL.drop {K : PySem.W.Frag} {Z : ASet} {H : Hp} : ∀ {ps : List PV} {vs : List V} (n : Nat), RepL K Z H ps vs → RepL K Z H (ps.drop n) (vs.drop n)
  | _, _, 0, h => h
  | _, _, _ + 1, .nil => .nil
  | _, _, n + 1, .cons _ r => RepL.drop n r
theorem RepL.take {K : PySem.W.Frag} {Z : ASet} {H : Hp} : ∀ {ps : List PV} {vs : List V} (n : Nat), RepL K Z H ps vs → RepL K Z H (ps.take n) (vs.take n)
  | _, _, 0, _ => .nil
  | _, _, _ + 1, .nil => .nil
  | _, _, n + 1, .cons h r => .cons h (RepL.take n r)
theorem RepL.set {K : PySem.W.Frag} {Z : ASet} {H : Hp} {p : PV} {v : V} (h : Rep K Z H p v) : ∀ {ps : List PV} {vs : List V} (n : Nat), RepL K Z H ps vs → RepL K Z H (ps.set n p) (vs.set n v)
  | _, _, _, .nil => .nil
  | _, _, 0, .cons _ r => .cons h r
  | _, _, n + 1, .cons q r => .cons q (RepL.set h n r)
noncomputable def LstAt (K : PySem.W.Frag) (H : Hp) (a : Addr) (xs : List V) : Prop := Rd H a (.lst xs) ∨ KLst K a xs
theorem LstAt.sq {K : PySem.W.Frag} {H : Hp} {a : Addr} {xs : List V} (h : LstAt K H a xs) : SqL K H a xs := h
inductive Red (K : PySem.W.Frag) (Z : ASet) (H : Hp) : PV → V → Prop
  | rep {p : PV} {v : V} : Rep K Z H p v → Red K Z H p v
  | lst {a : Addr} {xs : List V} {ps : List PV} : LstAt K H a xs → RepL K Z H ps xs → Red K Z H (.lst ps) (.ref a)
  | dct {a : Addr} {ep : Nat} {ys : List (Key × V)} {kvs : List (Key × PV)} : Rd H a (.dK ys ep) → ys.map (·.1) = kvs.map (·.1) → RepL K Z H (kvs.map (·.2)) (ys.map (·.2)) → Red K Z H (.dct kvs) (.ref a)
section
variable {K : PySem.W.Frag} {Z : ASet} {H : Hp} {v : V}
theorem Red.int {i : Int} (h : Red K Z H (.int i) v) : v = .int i := by cases h with | rep h => cases h; rfl
theorem Red.str {i : Str} (h : Red K Z H (.str i) v) : v = .str i := by cases h with | rep h => cases h; rfl
theorem Red.bl {i : Bool} (h : Red K Z H (.bl i) v) : v = .bl i := by cases h with | rep h => cases h; rfl
theorem Red.non (h : Red K Z H .non v) : v = .non := by cases h with | rep h => cases h; rfl
theorem Red.ty {n : String} (h : Red K Z H (.ty n) v) : v = .ty n := by cases h with | rep h => cases h; rfl
theorem Red.tup {ps : List PV} (h : Red K Z H (.tup ps) v) : ∃ a xs, v = .ref a ∧ TupAt K H a xs ∧ RepL K Z H ps xs := by
  cases h with | rep h => cases h with | tup h r => exact ⟨_, _, rfl, h, r⟩
theorem Red.lsts {ps : List PV} (h : Red K Z H (.lst ps) v) : ∃ a xs, v = .ref a ∧ LstAt K H a xs ∧ RepL K Z H ps xs := by
  cases h with
  | rep h => cases h with | lst h _ r => exact ⟨_, _, rfl, .inl h, r⟩
  | lst h r => exact ⟨_, _, rfl, h, r⟩
theorem Red.dcts {kvs : List (Key × PV)} (h : Red K Z H (.dct kvs) v) : ∃ a ys, v = .ref a ∧ RdK H a ys ∧ ys.map (·.1) = kvs.map (·.1) ∧ RepL K Z H (kvs.map (·.2)) (ys.map (·.2)) := by
  cases h with
  | rep h => cases h with | dct h _ e r => exact ⟨_, _, rfl, ⟨_, h⟩, e, r⟩
  | dct h e r => exact ⟨_, _, rfl, ⟨_, h⟩, e, r⟩
end
inductive Sl where
  | val (p : PV) | own (p : PV) | loc (p : PV) | bor (p : PV)
noncomputable def Sl.pv : Sl → PV
  | .val p => p | .own p => p | .loc p => p | .bor p => p
noncomputable def Sl.mine : Sl → Bool
  | .own _ => true | .loc _ => true | _ => false
noncomputable abbrev En := List (Option Sl)
inductive Cont (K : PySem.W.Frag) (Z : ASet) (H : Hp) (a : Addr) : PV → Prop
  | lst {xs : List V} {ps : List PV} : H a = some (.lst xs) → RepL K Z H ps xs → Cont K Z H a (.lst ps)
  | dct {ep : Nat} {ys : List (Key × V)} {kvs : List (Key × PV)} : H a = some (.dK ys ep) → ys.map (·.1) = kvs.map (·.1) → RepL K Z H (kvs.map (·.2)) (ys.map (·.2)) → Cont K Z H a (.dct kvs)
theorem Cont.red {K : PySem.W.Frag} {Z : ASet} {H : Hp} {a : Addr} {p : PV} (h : Cont K Z H a p) : Red K Z H p (.ref a) := by
  cases h with
  | lst e r => exact .lst (.inl (.inl e)) r
  | dct e k r => exact .dct (.inl e) k r
theorem Cont.rep {K : PySem.W.Frag} {Z : ASet} {H : Hp} {a : Addr} {p : PV} (h : Cont K Z H a p) (n : ¬ Z a) : Rep K Z H p (.ref a) := by
  cases h with
  | lst e r => exact .lst (.inl e) n r
  | dct e k r => exact .dct (.inl e) n k r
theorem Cont.there {K : PySem.W.Frag} {Z : ASet} {H : Hp} {a : Addr} {p : PV} (h : Cont K Z H a p) : ∃ o, H a = some o ∧ ∀ xs, o ≠ .tup xs := by
  cases h with
  | lst e r => exact ⟨_, e, fun _ z => nomatch z⟩
  | dct e k r => exact ⟨_, e, fun _ z => nomatch z⟩
theorem Cont.stay {K : PySem.W.Frag} {Z Z' : ASet} {H H' : Hp} {a : Addr} {p : PV} (k : Stay Z Z' H H') (e : ∀ o, H a = some o → H' a = some o) (h : Cont K Z H a p) : Cont K Z' H' a p := by
  cases h with
  | lst h r => exact .lst (e _ h) (r.stay k)
  | dct h q r => exact .dct (e _ h) q (r.stay k)
inductive Lent (K : PySem.W.Frag) (Z : ASet) (W : WS) (L : ASet) (H : Hp) (a : Addr) : PV → Prop
  | lst {xs : List V} {ps : List PV} : Rd H a (.lst xs) → W.old a → ¬ aw W a → ¬ L a → RepL K Z H ps xs → Lent K Z W L H a (.lst ps)
  | klst {xs : List V} {ps : List PV} : KLst K a xs → RepL K Z H ps xs → Lent K Z W L H a (.lst ps)
  | dct {ep : Nat} {ys : List (Key × V)} {kvs : List (Key × PV)} : Rd H a (.dK ys ep) → W.old a → ¬ aw W a → ¬ L a → ys.map (·.1) = kvs.map (·.1) → RepL K Z H (kvs.map (·.2)) (ys.map (·.2)) → Lent K Z W L H a (.dct kvs)
theorem Lent.red {K : PySem.W.Frag} {Z L : ASet} {W : WS} {H : Hp} {a : Addr} {p : PV} (h : Lent K Z W L H a p) : Red K Z H p (.ref a) := by
  cases h with
  | lst e _ _ _ r => exact .lst (.inl e) r
  | klst e r => exact .lst (.inr e) r
  | dct e _ _ _ k r => exact .dct e k r
noncomputable def SlRep (K : PySem.W.Frag) (Z : ASet) (W : WS) (L : ASet) (H : Hp) (i : Nat) (v : V) : Sl → Prop
  | .val p => Rep K Z H p v
  | .own p => ∃ a, v = .ref a ∧ W i a ∧ Cont K Z H a p
  | .loc p => ∃ a, v = .ref a ∧ L a ∧ Cont K Z H a p
  | .bor p => ∃ a, v = .ref a ∧ Lent K Z W L H a p
theorem SlRep.red {K : PySem.W.Frag} {Z L : ASet} {W : WS} {H : Hp} {i : Nat} {v : V} {s : Sl} (h : SlRep K Z W L H i v s) : Red K Z H s.pv v := by
  cases s with
  | val p => exact .rep h
  | own p => obtain ⟨a, rfl, _, c⟩ := h; exact c.red
  | loc p => obtain ⟨a, rfl, _, c⟩ := h; exact c.red
  | bor p => obtain ⟨a, rfl, c⟩ := h; exact c.red
structure EnRep (K : PySem.W.Frag) (Z : ASet) (W : WS) (L : ASet) (H : Hp) (σ : St) (e : En) : Prop where
  len : e.length = σ.length
  at' : ∀ (i : Nat) s, e[i]? = some (some s) → ∃ v, σ[i]? = some (some v) ∧ SlRep K Z W L H i v s
  dis : ∀ (i j : Nat) s t, i ≠ j → e[i]? = some (some s) → e[j]? = some (some t) → s.mine = true → t.mine = true → σ[i]? ≠ σ[j]?
structure Okc (O M : ASet) (W : WS) (L : ASet) (H : Hp) : Prop where
  old : ∀ a, O a → H a ≠ none
  mo : ∀ a, M a → O a
  wm : ∀ i a, W i a → M a
  loc : ∀ a, L a → H a ≠ none ∧ ¬ O a
structure Keep (W : WS) (L : ASet) (H H' : Hp) : Prop where
  obj : ∀ a o, H a = some o → ¬ aw W a → ¬ L a → H' a = some o
  tup : ∀ a xs, H a = some (.tup xs) → H' a = some (.tup xs)
  dom : ∀ a, H a ≠ none → H' a ≠ none
theorem Keep.refl {W : WS} {L : ASet} {H : Hp} : Keep W L H H := ⟨fun _ _ h _ _ => h, fun _ _ h => h, fun _ h => h⟩
theorem Keep.trans {W : WS} {L : ASet} {H H1 H2 : Hp} (a : Keep W L H H1) (b : Keep W L H1 H2) : Keep W L H H2 := ⟨fun c o h n m => b.obj c o (a.obj c o h n m) n m, fun c o h => b.tup c o (a.tup c o h), fun c h => b.dom c (a.dom c h)⟩
theorem Keep.same {W : WS} {L : ASet} {H H' : Hp} (s : Same H H') : Keep W L H H' := ⟨fun _ _ h _ _ => s _ _ h, fun _ _ h => s _ _ h, fun a h => by
  cases e : H a with
  | none => exact absurd e h
  | some o => rw [s _ _ e]; exact fun z => nomatch z⟩
theorem Okc.keep {O M L : ASet} {W : WS} {H H' : Hp} (o : Okc O M W L H) (d : ∀ a, H a ≠ none → H' a ≠ none) : Okc O M W L H' := ⟨fun a h => d a (o.old a h), o.mo, o.wm, fun a h => ⟨d a (o.loc a h).1, (o.loc a h).2⟩⟩
theorem Keep.stay {O M L : ASet} {W : WS} {H H' : Hp} (o : Okc O M W L H) (k : Keep W L H H') : Stay (uni M L) (uni M L) H H' :=
  ⟨k.tup, fun a u h n => ⟨k.obj a u h (fun ⟨i, z⟩ => n (.inl (o.wm i a z))) fun z => n (.inr z), n⟩⟩
theorem EnRep.stay {K : PySem.W.Frag} {Z Z' L : ASet} {W : WS} {H H' : Hp} {σ : St} {e : En} (h : EnRep K Z W L H σ e) (k : Stay Z Z' H H') (ow : ∀ a o, aw W a ∨ L a → H a = some o → H' a = some o) (bo : ∀ a o, H a = some o → ¬ aw W a → ¬ L a → H' a = some o) : EnRep K Z' W L H' σ e :=
  ⟨h.len, fun i s q => by
    obtain ⟨v, h1, h2⟩ := h.at' i s q
    refine ⟨v, h1, ?_⟩
    cases s with
    | val p => exact Rep.stay k h2
    | own p => obtain ⟨a, e, w, c⟩ := h2; exact ⟨a, e, w, c.stay k fun o q => ow a o (.inl ⟨_, w⟩) q⟩
    | loc p => obtain ⟨a, e, w, c⟩ := h2; exact ⟨a, e, w, c.stay k fun o q => ow a o (.inr w) q⟩
    | bor p =>
      obtain ⟨a, e, c⟩ := h2
      refine ⟨a, e, ?_⟩
      cases c with
      | lst e od n m r => exact .lst (e.elim (fun e => .inl (bo _ _ e n m)) fun ⟨u, e⟩ => .inr ⟨u, bo _ _ e n m⟩) od n m (r.stay k)
      | klst e r => exact .klst e (r.stay k)
      | dct e od n m kk r => exact .dct (e.elim (fun e => .inl (bo _ _ e n m)) fun ⟨u, e⟩ => .inr ⟨u, bo _ _ e n m⟩) od n m kk (r.stay k), h.dis⟩
theorem EnRep.same {K : PySem.W.Frag} {Z L : ASet} {W : WS} {H H' : Hp} {σ : St} {e : En} (h : EnRep K Z W L H σ e) (s : Same H H') : EnRep K Z W L H' σ e := h.stay (.same s) (fun a o _ q => s a o q) fun a o q _ _ => s a o q
noncomputable def Free (σ : St) (e : En) (a : Addr) : Prop := ∀ (i : Nat) s, e[i]? = some (some s) → s.mine = true → σ[i]? ≠ some (some (.ref a))
theorem Rd.ne {H : Hp} {a l : Addr} {o : HO} (h : Rd H a o) (hl : H l = none) : a ≠ l := by
  rintro rfl
  rcases h with h | ⟨_, h⟩ <;> (rw [hl] at h; cases h)
theorem EnRep.new {K : PySem.W.Frag} {M L : ASet} {W : WS} {H H' : Hp} {σ : St} {e : En} {l : Addr} (h : EnRep K (uni M L) W L H σ e) (s : Same H H') (hl : H l = none) : EnRep K (uni M (uni L (one l))) W (uni L (one l)) H' σ e ∧ Free σ e l := by
  have k : Stay (uni M L) (uni M (uni L (one l))) H H' := ⟨fun _ _ h => s _ _ h, fun a o h n => ⟨s _ _ h, fun z => by
    rcases z with z | z | z
    · exact n (.inl z)
    · exact n (.inr z)
    · rw [show a = l from z, hl] at h; cases h⟩⟩
  refine ⟨⟨h.len, fun i sl q => ?_, h.dis⟩, fun i sl q hm e => ?_⟩
  · obtain ⟨v, h1, h2⟩ := h.at' i sl q
    refine ⟨v, h1, ?_⟩
    cases sl with
    | val p => exact Rep.stay k h2
    | own p => obtain ⟨a, e, w, c⟩ := h2; exact ⟨a, e, w, c.stay k fun o q => s _ _ q⟩
    | loc p => obtain ⟨a, e, w, c⟩ := h2; exact ⟨a, e, .inl w, c.stay k fun o q => s _ _ q⟩
    | bor p =>
      obtain ⟨a, e, c⟩ := h2
      refine ⟨a, e, ?_⟩
      cases c with
      | lst e od n m r => exact .lst (e.elim (fun e => .inl (s _ _ e)) fun ⟨u, e⟩ => .inr ⟨u, s _ _ e⟩) od n (fun z => z.elim m (Rd.ne e hl)) (r.stay k)
      | klst e r => exact .klst e (r.stay k)
      | dct e od n m kk r => exact .dct (e.elim (fun e => .inl (s _ _ e)) fun ⟨u, e⟩ => .inr ⟨u, s _ _ e⟩) od n (fun z => z.elim m (Rd.ne e hl)) kk (r.stay k)
  · obtain ⟨v, h1, h2⟩ := h.at' i sl q
    rw [h1] at e
    cases e
    cases sl with
    | val p => cases hm
    | bor p => cases hm
    | own p => obtain ⟨a, e, w, c⟩ := h2; cases e; obtain ⟨o, e, _⟩ := c.there; rw [hl] at e; cases e
    | loc p => obtain ⟨a, e, w, c⟩ := h2; cases e; obtain ⟨o, e, _⟩ := c.there; rw [hl] at e; cases e
theorem EnRep.unnew {K : PySem.W.Frag} {M L : ASet} {W : WS} {H : Hp} {σ : St} {e : En} {l : Addr} (h : EnRep K (uni M (uni L (one l))) W (uni L (one l)) H σ e) (f : Free σ e l) : EnRep K (uni M L) W L H σ e := by
  have k : Stay (uni M (uni L (one l))) (uni M L) H H := .less fun a z => z.elim .inl fun z => .inr (.inl z)
  refine ⟨h.len, fun i sl q => ?_, h.dis⟩
  obtain ⟨v, h1, h2⟩ := h.at' i sl q
  refine ⟨v, h1, ?_⟩
  cases sl with
  | val p => exact Rep.stay k h2
  | own p => obtain ⟨a, e, w, c⟩ := h2; exact ⟨a, e, w, c.stay k fun o q => q⟩
  | loc p =>
    obtain ⟨a, e, w, c⟩ := h2
    refine ⟨a, e, w.elim id fun z => ?_, c.stay k fun o q => q⟩
    exfalso
    have z : a = l := z
    subst z e
    exact f i _ q rfl h1
  | bor p =>
    obtain ⟨a, e, c⟩ := h2
    refine ⟨a, e, ?_⟩
    cases c with
    | lst e od n m r => exact .lst e od n (fun z => m (.inl z)) (r.stay k)
    | klst e r => exact .klst e (r.stay k)
    | dct e od n m kk r => exact .dct e od n (fun z => m (.inl z)) kk (r.stay k)
theorem EnRep.less {K : PySem.W.Frag} {Z Z' L : ASet} {W : WS} {H : Hp} {σ : St} {e : En} (h : EnRep K Z W L H σ e) (l : ∀ a, Z' a → Z a) : EnRep K Z' W L H σ e := h.stay (.less l) (fun a o _ q => q) fun a o q _ _ => q
inductive Bv where
  | val (p : PV) | slot (i : Nat) | new (p : PV)
noncomputable def rd (e : En) (i : Nat) : Option PV := match e[i]? with
  | some (some s) => some s.pv
  | _ => none
noncomputable def Bv.get (e : En) : Bv → Option PV
  | .val p => some p
  | .new p => some p
  | .slot i => rd e i
noncomputable def Bv.weak : Bv → Bv
  | .new p => .val p
  | b => b
noncomputable def Bv.put : Bv → Option PV
  | .val p => some p
  | .new p => some p
  | .slot _ => none
noncomputable def RB (K : PySem.W.Frag) (O M : ASet) (W : WS) (L : ASet) (H : Hp) (σ : St) (e : En) (v : V) : Bv → Prop
  | .val p => EnRep K (uni M L) W L H σ e ∧ Rep K (uni M L) H p v
  | .slot i => EnRep K (uni M L) W L H σ e ∧ σ[i]? = some (some v)
  | .new p => ∃ a, v = .ref a ∧ ¬ O a ∧ ¬ L a ∧ EnRep K (uni M (uni L (one a))) W (uni L (one a)) H σ e ∧ Free σ e a ∧ Cont K (uni M (uni L (one a))) H a p
theorem RB.weak {K : PySem.W.Frag} {O M L : ASet} {W : WS} {H : Hp} {σ : St} {e : En} {v : V} {b : Bv} (o : Okc O M W L H) (h : RB K O M W L H σ e v b) : RB K O M W L H σ e v b.weak := by
  cases b with
  | val p => exact h
  | slot i => exact h
  | new p =>
    obtain ⟨a, rfl, n1, n2, h1, hf, h2⟩ := h
    exact ⟨h1.unnew hf, (h2.stay (.less fun _ z => z.elim .inl fun z => .inr (.inl z)) fun _ q => q).rep fun z => z.elim (fun z => n1 (o.mo _ z)) n2⟩
theorem RB.en {K : PySem.W.Frag} {O M L : ASet} {W : WS} {H : Hp} {σ : St} {e : En} {v : V} {b : Bv} (o : Okc O M W L H) (h : RB K O M W L H σ e v b) : EnRep K (uni M L) W L H σ e := by
  cases b with
  | val p => exact h.1
  | slot i => exact h.1
  | new p => exact (RB.weak (b := .new p) o h).1
noncomputable def RV (K : PySem.W.Frag) (Z : ASet) (H : Hp) (σ : St) (v : V) : Bv → Prop
  | .val p => Rep K Z H p v
  | .slot i => σ[i]? = some (some v)
  | .new _ => False
theorem RB.rv {K : PySem.W.Frag} {O M L : ASet} {W : WS} {H : Hp} {σ : St} {e : En} {v : V} {b : Bv} (o : Okc O M W L H) (h : RB K O M W L H σ e v b) : RV K (uni M L) H σ v b.weak := by
  have h := h.weak o
  cases b with
  | val p => exact h.2
  | slot i => exact h.2
  | new p => exact h.2
theorem RV.keep {K : PySem.W.Frag} {O M L : ASet} {W : WS} {H H' : Hp} {σ : St} {v : V} {b : Bv} (o : Okc O M W L H) (k : Keep W L H H') (h : RV K (uni M L) H σ v b) : RV K (uni M L) H' σ v b := by
  cases b with
  | val p => exact Rep.stay (k.stay o) h
  | slot i => exact h
  | new p => exact h
theorem EnRep.rd {K : PySem.W.Frag} {Z L : ASet} {W : WS} {H : Hp} {σ : St} {e : En} {i : Nat} {p : PV} {v : V} (h : EnRep K Z W L H σ e) (g : rd e i = some p) (hv : σ[i]? = some (some v)) : Red K Z H p v := by
  unfold Mr.rd at g
  cases q : e[i]? with
  | none => rw [q] at g; cases g
  | some s =>
    cases s with
    | none => rw [q] at g; cases g
    | some s =>
      rw [q] at g
      cases g
      obtain ⟨w, h1, h2⟩ := h.at' i s q
      rw [hv] at h1
      cases h1
      exact h2.red
theorem RV.red {K : PySem.W.Frag} {Z L : ASet} {W : WS} {H : Hp} {σ : St} {e : En} {v : V} {b : Bv} {p : PV} (h : RV K Z H σ v b) (he : EnRep K Z W L H σ e) (g : b.get e = some p) : Red K Z H p v := by
  cases b with
  | val q => cases g; exact .rep h
  | slot i => exact he.rd g h
  | new q => exact h.elim
noncomputable abbrev FE := En → Option (Bv × En)
noncomputable abbrev FT := En → Option (Bool × En)
noncomputable abbrev FA := En → Option (List Bv × En)
noncomputable def Fr (H : Hp) (v : V) : Bv → Prop
  | .new _ => ∀ a, v = .ref a → H a = none
  | _ => True
theorem Fr.back {H H1 : Hp} {v : V} {b : Bv} (d : ∀ a, H a ≠ none → H1 a ≠ none) (h : Fr H1 v b) : Fr H v b := by
  cases b with
  | val p => trivial
  | slot i => trivial
  | new p =>
    intro a e
    cases z : H a with
    | none => rfl
    | some o => exact absurd (h a e) (d a (by rw [z]; exact fun z => nomatch z))
noncomputable def Ref (K : PySem.W.Frag) (t : TE) (f : FE) : Prop := ∀ (O M : ASet) (W : WS) (L : ASet) (σ : St) (H : Hp) (e e' : En) (b : Bv) (Q : VK), Okc O M W L H → EnRep K (uni M L) W L H σ e → f e = some (b, e') →
  (∀ v H', Keep W L H H' → RB K O M W L H' σ e' v b → Fr H v b → Q v H') → t σ H Q
noncomputable def RefT (K : PySem.W.Frag) (t : TT) (f : FT) : Prop := ∀ (O M : ASet) (W : WS) (L : ASet) (σ : St) (H : Hp) (e e' : En) (b : Bool) (Q : Bool → Hp → Prop), Okc O M W L H → EnRep K (uni M L) W L H σ e → f e = some (b, e') →
  (∀ H', Keep W L H H' → EnRep K (uni M L) W L H' σ e' → Q b H') → t σ H Q
inductive RVs (K : PySem.W.Frag) (Z : ASet) (H : Hp) (σ : St) : List Bv → List V → Prop
  | nil : RVs K Z H σ [] []
  | cons {b : Bv} {v : V} {bs : List Bv} {vs : List V} : RV K Z H σ v b → RVs K Z H σ bs vs → RVs K Z H σ (b :: bs) (v :: vs)
theorem RVs.keep {K : PySem.W.Frag} {O M L : ASet} {W : WS} {H H' : Hp} {σ : St} (o : Okc O M W L H) (k : Keep W L H H') : ∀ {bs : List Bv} {vs : List V}, RVs K (uni M L) H σ bs vs → RVs K (uni M L) H' σ bs vs
  | _, _, .nil => .nil
  | _, _, .cons h r => .cons (h.keep o k) (RVs.keep o k r)
noncomputable def RefA (K : PySem.W.Frag) (t : TA) (f : FA) : Prop := ∀ (O M : ASet) (W : WS) (L : ASet) (σ : St) (H : Hp) (e e' : En) (bs : List Bv) (Q : List V → Hp → Prop), Okc O M W L H → EnRep K (uni M L) W L H σ e → f e = some (bs, e') →
  (∀ vs H', Keep W L H H' → EnRep K (uni M L) W L H' σ e' → RVs K (uni M L) H' σ bs vs → Q vs H') → t σ H Q
end Mr
set_option Elab.async false
set_option linter.all false
set_option maxRecDepth 100000
set_option maxHeartbeats 4000000
namespace Mr
open PySem L2
noncomputable def bE {α β : Type} (r : Option (α × En)) (k : α → En → Option β) : Option β := match r with
  | some (a, e) => k a e
  | none => none
noncomputable def bO {α β : Type} (r : Option α) (k : α → Option β) : Option β := match r with
  | some a => k a
  | none => none
theorem bE_some {α β : Type} {r : Option (α × En)} {k : α → En → Option β} {b : β} (h : bE r k = some b) : ∃ a e, r = some (a, e) ∧ k a e = some b := by
  cases r with
  | none => cases h
  | some x => exact ⟨x.1, x.2, rfl, h⟩
theorem bO_some {α β : Type} {r : Option α} {k : α → Option β} {b : β} (h : bO r k = some b) : ∃ a, r = some a ∧ k a = some b := by
  cases r with
  | none => cases h
  | some x => exact ⟨x, rfl, h⟩
theorem bE_v {α β : Type} {a : α} {e : En} {k : α → En → Option β} : bE (some (a, e)) k = k a e := rfl
theorem bO_v {α β : Type} {a : α} {k : α → Option β} : bO (some a) k = k a := rfl
noncomputable def bB {β : Type} (c : Bool) (x y : β) : β := match c with | true => x | false => y
noncomputable def guardP (c : Bool) {β : Type} (k : Option β) : Option β := match c with | true => k | false => none
theorem guardP_some {c : Bool} {β : Type} {k : Option β} {b : β} (h : guardP c k = some b) : c = true ∧ k = some b := by
  cases c with
  | false => cases h
  | true => exact ⟨rfl, h⟩
noncomputable def RN (K : PySem.W.Frag) (Z : ASet) (H H' : Hp) (v : V) : Bv → Prop
  | .val p => Rep K Z H' p v
  | .new p => ∃ a, v = .ref a ∧ H a = none ∧ Cont K (uni Z (one a)) H' a p
  | .slot _ => False
theorem RN.rb {K : PySem.W.Frag} {O M L : ASet} {W : WS} {H H' : Hp} {σ : St} {e : En} {v : V} {b : Bv} (o : Okc O M W L H) (he : EnRep K (uni M L) W L H σ e) (s : Same H H') (h : RN K (uni M L) H H' v b) : RB K O M W L H' σ e v b := by
  cases b with
  | val p => exact ⟨he.same s, h⟩
  | slot i => exact h.elim
  | new p =>
    obtain ⟨a, rfl, n, c⟩ := h
    have w := he.new s n
    exact ⟨a, rfl, fun z => o.old a z n, fun z => (o.loc a z).1 n, w.1, w.2, c.stay (.less fun _ z => by rcases z with z | z | z; exact .inl (.inl z); exact .inl (.inr z); exact .inr z) fun _ q => q⟩
theorem RN.fr {K : PySem.W.Frag} {Z : ASet} {H0 H H' : Hp} {v : V} {b : Bv} (d : ∀ a, H0 a ≠ none → H a ≠ none) (h : RN K Z H H' v b) : Fr H0 v b := by
  refine Fr.back d ?_
  cases b with
  | val p => trivial
  | slot i => trivial
  | new p =>
    obtain ⟨a, rfl, n, c⟩ := h
    intro a' e
    cases e
    exact n
noncomputable def OpOk (K : PySem.W.Frag) (r : R2) (g : PV → PV → Option Bv) : Prop := ∀ (Z : ASet) (H : Hp) (x y : V) (p q : PV) (b : Bv) (Q : VK), Red K Z H p x → Red K Z H q y → g p q = some b → (∀ v H', Same H H' → RN K Z H H' v b → Q v H') → r x y H Q
noncomputable def UnOk (K : PySem.W.Frag) (r : V → Hp → VK → Prop) (g : PV → Option Bv) : Prop := ∀ (Z : ASet) (H : Hp) (x : V) (p : PV) (b : Bv) (Q : VK), Red K Z H p x → g p = some b → (∀ v H', Same H H' → RN K Z H H' v b → Q v H') → r x H Q
inductive RedL (K : PySem.W.Frag) (Z : ASet) (H : Hp) : List PV → List V → Prop
  | nil : RedL K Z H [] []
  | cons {p : PV} {v : V} {ps : List PV} {vs : List V} : Red K Z H p v → RedL K Z H ps vs → RedL K Z H (p :: ps) (v :: vs)
noncomputable def CbOk (K : PySem.W.Frag) (r : List V → Hp → VK → Prop) (g : List PV → Option Bv) : Prop := ∀ (Z : ASet) (H : Hp) (vs : List V) (ps : List PV) (b : Bv) (Q : VK), RedL K Z H ps vs → g ps = some b → (∀ v H', Same H H' → RN K Z H H' v b → Q v H') → r vs H Q
noncomputable def MtOk (K : PySem.W.Frag) (r : V → List V → Hp → VK → Prop) (g : PV → List PV → Option Bv) : Prop := ∀ (Z : ASet) (H : Hp) (x : V) (vs : List V) (p : PV) (ps : List PV) (b : Bv) (Q : VK), Red K Z H p x → RedL K Z H ps vs → g p ps = some b → (∀ v H', Same H H' → RN K Z H H' v b → Q v H') → r x vs H Q
noncomputable def getL (e : En) : List Bv → Option (List PV)
  | [] => some []
  | b :: bs => bO (b.get e) fun p => bO (getL e bs) fun ps => some (p :: ps)
theorem RVs.red {K : PySem.W.Frag} {Z L : ASet} {W : WS} {H : Hp} {σ : St} {e : En} (he : EnRep K Z W L H σ e) : ∀ {bs : List Bv} {vs : List V} {ps : List PV}, RVs K Z H σ bs vs → getL e bs = some ps → RedL K Z H ps vs
  | _, _, _, .nil, g => by cases g; exact .nil
  | _, _, _, .cons h r, g => by
    obtain ⟨p, g1, g⟩ := bO_some g
    obtain ⟨ps, g2, g⟩ := bO_some g
    cases g
    exact .cons (h.red he g1) (RVs.red he r g2)
section
variable {K : PySem.W.Frag}
noncomputable def fVar (i : Nat) : FE := fun e => match e[i]? with
  | some (some (.val p)) => some (.val p, e)
  | some (some _) => some (.slot i, e)
  | _ => none
theorem ref_var (i : Nat) : Ref K (tVar i) (fVar i) := by
  intro O M W L σ H e e' b Q o he hf q
  unfold fVar at hf
  cases g : e[i]? with
  | none => rw [g] at hf; cases hf
  | some s =>
    cases s with
    | none => rw [g] at hf; cases hf
    | some s =>
      rw [g] at hf
      obtain ⟨v, h1, h2⟩ := he.at' i s g
      cases s with
      | val p => cases hf; exact ⟨v, h1, q v H .refl ⟨he, h2⟩ trivial⟩
      | own p => cases hf; exact ⟨v, h1, q v H .refl ⟨he, h1⟩ trivial⟩
      | loc p => cases hf; exact ⟨v, h1, q v H .refl ⟨he, h1⟩ trivial⟩
      | bor p => cases hf; exact ⟨v, h1, q v H .refl ⟨he, h1⟩ trivial⟩
noncomputable def fC (p : PV) : FE := fun e => some (.val p, e)
theorem ref_c {p : PV} {v : V} (h : ∀ Z H, Rep K Z H p v) : Ref K (tC v) (fC p) := by
  intro O M W L σ H e e' b Q o he hf q
  cases hf
  exact q v H .refl ⟨he, h _ _⟩ trivial
theorem ref_int (i : Int) : Ref K (tC (.int i)) (fC (.int i)) := ref_c fun _ _ => .int i
theorem ref_str (i : Str) : Ref K (tC (.str i)) (fC (.str i)) := ref_c fun _ _ => .str i
theorem ref_bl (i : Bool) : Ref K (tC (.bl i)) (fC (.bl i)) := ref_c fun _ _ => .bl i
theorem ref_non : Ref K (tC .non) (fC .non) := ref_c fun _ _ => .non
theorem ref_ty (n : String) : Ref K (tC (.ty n)) (fC (.ty n)) := ref_c fun _ _ => .ty n
theorem strsL {Z : ASet} {H : Hp} : ∀ ss : List Str, RepL K Z H (ss.map PV.str) (ss.map V.str)
  | [] => .nil
  | s :: ss => .cons (.str s) (strsL ss)
noncomputable def fOp (g : PV → PV → Option Bv) (fa fb : FE) : FE := fun e => bE (fa e) fun x e1 => bE (fb e1) fun y e2 => bO (x.weak.get e2) fun p => bO (y.weak.get e2) fun q => bO (g p q) fun b => some (b, e2)
theorem ref_op {r : R2} {g : PV → PV → Option Bv} {ta tb : TE} {fa fb : FE} (hg : OpOk K r g) (ha : Ref K ta fa) (hb : Ref K tb fb) : Ref K (tOp r ta tb) (fOp g fa fb) := by
  intro O M W L σ H e e' b Q o he hf q
  obtain ⟨x, e1, f1, hf⟩ := bE_some hf
  obtain ⟨y, e2, f2, hf⟩ := bE_some hf
  obtain ⟨p, g1, hf⟩ := bO_some hf
  obtain ⟨p', g2, hf⟩ := bO_some hf
  obtain ⟨c, g3, hf⟩ := bO_some hf
  cases hf
  refine ha O M W L σ H e e1 x _ o he f1 fun v1 H1 k1 r1 fr => ?_
  have o1 := o.keep k1.dom
  refine hb O M W L σ H1 e1 _ y _ o1 (r1.en o1) f2 fun v2 H2 k2 r2 fr => ?_
  have o2 := o1.keep k2.dom
  have en := r2.en o2
  refine hg _ H2 v1 v2 p p' _ Q (((r1.rv o1).keep o1 k2).red en g1) ((r2.rv o2).red en g2) g3 fun v H' s rn => ?_
  exact q v H' ((k1.trans k2).trans (.same s)) (rn.rb o2 en s) (rn.fr (k1.trans k2).dom)
noncomputable def fUn (g : PV → Option Bv) (fa : FE) : FE := fun e => bE (fa e) fun x e1 => bO (x.weak.get e1) fun p => bO (g p) fun b => some (b, e1)
theorem ref_un {r : V → Hp → VK → Prop} {g : PV → Option Bv} {ta : TE} {fa : FE} (hg : UnOk K r g) (ha : Ref K ta fa) : Ref K (tUn r ta) (fUn g fa) := by
  intro O M W L σ H e e' b Q o he hf q
  obtain ⟨x, e1, f1, hf⟩ := bE_some hf
  obtain ⟨p, g1, hf⟩ := bO_some hf
  obtain ⟨c, g3, hf⟩ := bO_some hf
  cases hf
  refine ha O M W L σ H e _ x _ o he f1 fun v1 H1 k1 r1 fr => ?_
  have o1 := o.keep k1.dom
  have en := r1.en o1
  refine hg _ H1 v1 p _ Q ((r1.rv o1).red en g1) g3 fun v H' s rn => ?_
  exact q v H' (k1.trans (.same s)) (rn.rb o1 en s) (rn.fr k1.dom)
noncomputable def fNil : FA := fun e => some ([], e)
noncomputable def fCons (fa : FE) (fr : FA) : FA := fun e => bE (fa e) fun x e1 => bE (fr e1) fun xs e2 => some (x.weak :: xs, e2)
theorem ref_nil : RefA K tNil fNil := by
  intro O M W L σ H e e' b Q o he hf q
  cases hf
  exact q [] H .refl he .nil
theorem ref_cons {ta : TE} {tr : TA} {fa : FE} {fr : FA} (ha : Ref K ta fa) (hr : RefA K tr fr) : RefA K (tCons ta tr) (fCons fa fr) := by
  intro O M W L σ H e e' b Q o he hf q
  obtain ⟨x, e1, f1, hf⟩ := bE_some hf
  obtain ⟨xs, e2, f2, hf⟩ := bE_some hf
  cases hf
  refine ha O M W L σ H e e1 x _ o he f1 fun v1 H1 k1 r1 fr => ?_
  have o1 := o.keep k1.dom
  refine hr O M W L σ H1 e1 _ xs _ o1 (r1.en o1) f2 fun vs H2 k2 en2 r2 => ?_
  exact q (v1 :: vs) H2 (k1.trans k2) en2 (.cons ((r1.rv o1).keep o1 k2) r2)
noncomputable def fCB (g : List PV → Option Bv) (fa : FA) : FE := fun e => bE (fa e) fun xs e1 => bO (getL e1 xs) fun ps => bO (g ps) fun b => some (b, e1)
theorem ref_cb {r : List V → Hp → VK → Prop} {g : List PV → Option Bv} {ta : TA} {fa : FA} (hg : CbOk K r g) (ha : RefA K ta fa) : Ref K (tCB r ta) (fCB g fa) := by
  intro O M W L σ H e e' b Q o he hf q
  obtain ⟨x, e1, f1, hf⟩ := bE_some hf
  obtain ⟨p, g1, hf⟩ := bO_some hf
  obtain ⟨c, g3, hf⟩ := bO_some hf
  cases hf
  refine ha O M W L σ H e _ x _ o he f1 fun v1 H1 k1 en r1 => ?_
  have o1 := o.keep k1.dom
  refine hg _ H1 v1 p _ Q (r1.red en g1) g3 fun v H' s rn => ?_
  exact q v H' (k1.trans (.same s)) (rn.rb o1 en s) (rn.fr k1.dom)
noncomputable def fBM (g : PV → List PV → Option Bv) (fo : FE) (fa : FA) : FE := fun e => bE (fo e) fun x e0 => match x with
  | .val (.str z) => bE (fa e0) fun xs e1 => bO (getL e1 xs) fun ps => bO (g (.str z) ps) fun b => some (b, e1)
  | _ => none
theorem ref_bm {r : V → List V → Hp → VK → Prop} {g : PV → List PV → Option Bv} {to : TE} {ta : TA} {fo : FE} {fa : FA} (hg : MtOk K r g) (ho : Ref K to fo) (ha : RefA K ta fa) : Ref K (tBM K "str" r to ta) (fBM g fo fa) := by
  intro O M W L σ H e e' b Q o he hf q
  obtain ⟨x, e0, f0, hf⟩ := bE_some hf
  cases x with
  | slot i => cases hf
  | new p => cases hf
  | val p =>
    cases p with
    | str z =>
      obtain ⟨xs, e1, f1, hf⟩ := bE_some hf
      obtain ⟨p, g1, hf⟩ := bO_some hf
      obtain ⟨c, g3, hf⟩ := bO_some hf
      cases hf
      refine ho O M W L σ H e e0 _ _ o he f0 fun v0 H0 k0 r0 fr => ?_
      have o0 := o.keep k0.dom
      obtain ⟨en0, r0⟩ := r0
      cases r0
      refine ⟨rfl, ha O M W L σ H0 e0 _ xs _ o0 en0 f1 fun v1 H1 k1 en r1 => ?_⟩
      have o1 := o0.keep k1.dom
      refine hg _ H1 (.str z) v1 (.str z) p _ Q (.rep (.str z)) (r1.red en g1) g3 fun v H' s rn => ?_
      exact q v H' ((k0.trans k1).trans (.same s)) (rn.rb o1 en s) (rn.fr (k0.trans k1).dom)
    | _ => cases hf
noncomputable def fBM0 (g : PV → List PV → Option Bv) (fo : FE) : FE := fun e => bE (fo e) fun x e0 => match x with
  | .val (.str z) => bO (g (.str z) []) fun b => some (b, e0)
  | _ => none
noncomputable def putL : List Bv → Option (List PV)
  | [] => some []
  | b :: bs => bO b.put fun p => bO (putL bs) fun ps => some (p :: ps)
theorem RVs.put {Z : ASet} {H : Hp} {σ : St} : ∀ {bs : List Bv} {vs : List V} {ps : List PV}, RVs K Z H σ bs vs → putL bs = some ps → RepL K Z H ps vs
  | _, _, _, .nil, g => by cases g; exact .nil
  | b :: _, _, _, .cons h r, g => by
    obtain ⟨p, g1, g⟩ := bO_some g
    obtain ⟨ps, g2, g⟩ := bO_some g
    cases g
    cases b with
    | val p => cases g1; exact .cons h (RVs.put r g2)
    | slot i => cases g1
    | new p => exact h.elim
theorem smallP {n : Nat} (h : decide (n < 1000000) = true) : n < sizeLine := szt (by have := of_decide_eq_true h; omega)
noncomputable def fTup (fa : FA) : FE := fun e => bE (fa e) fun xs e1 => bO (putL xs) fun ps => guardP (decide (ps.length < 1000000)) (some (.val (.tup ps), e1))
theorem ref_tup {ta : TA} {fa : FA} (ha : RefA K ta fa) : Ref K (tTup ta) (fTup fa) := by
  intro O M W L σ H e e' b Q o he hf q
  obtain ⟨x, e1, f1, hf⟩ := bE_some hf
  obtain ⟨ps, g1, hf⟩ := bO_some hf
  obtain ⟨g2, hf⟩ := guardP_some hf
  cases hf
  refine ha O M W L σ H e _ x _ o he f1 fun vs H1 k1 en r1 => ?_
  have rl := r1.put g1
  refine ⟨by rw [← rl.length]; exact Nat.le_of_lt (smallP g2), fun p hp => ?_⟩
  have s : Same H1 (upd H1 p (.tup vs)) := Same.upd hp
  exact q _ _ (k1.trans (.same s)) ⟨en.same s, .tup (.inl upd_same) (rl.stay (.same s))⟩ trivial
noncomputable def fLst (fa : FA) : FE := fun e => bE (fa e) fun xs e1 => bO (putL xs) fun ps => guardP (decide (ps.length < 1000000)) (some (.new (.lst ps), e1))
theorem ref_lst {ta : TA} {fa : FA} (ha : RefA K ta fa) : Ref K (tLst ta) (fLst fa) := by
  intro O M W L σ H e e' b Q o he hf q
  obtain ⟨x, e1, f1, hf⟩ := bE_some hf
  obtain ⟨ps, g1, hf⟩ := bO_some hf
  obtain ⟨g2, hf⟩ := guardP_some hf
  cases hf
  refine ha O M W L σ H e _ x _ o he f1 fun vs H1 k1 en r1 => ?_
  have o1 := o.keep k1.dom
  have rl := r1.put g1
  refine ⟨by rw [← rl.length]; exact Nat.le_of_lt (smallP g2), fun p hp => ?_⟩
  have s : Same H1 (upd H1 p (.lst vs)) := Same.upd hp
  exact q _ _ (k1.trans (.same s)) ⟨p, rfl, fun z => o1.old p z hp, fun z => (o1.loc p z).1 hp, (en.new s hp).1, (en.new s hp).2, .lst upd_same (rl.stay ⟨fun _ _ h => s _ _ h, fun a o h n => ⟨s _ _ h, fun z => by
    rcases z with z | z | z
    · exact n (.inl z)
    · exact n (.inr z)
    · rw [show a = p from z, hp] at h; cases h⟩⟩)⟩ (Fr.back (b := .new (.lst ps)) k1.dom fun a e => by cases e; exact hp)
noncomputable def fDNew : FE := fun e => some (.new (.dct []), e)
theorem ref_dnew : Ref K tDNewK fDNew := by
  intro O M W L σ H e e' b Q o he hf q
  cases hf
  intro p hp
  have s : Same H (upd H p (.dK [] 0)) := Same.upd hp
  exact q _ _ (.same s) ⟨p, rfl, fun z => o.old p z hp, fun z => (o.loc p z).1 hp, (he.new s hp).1, (he.new s hp).2, .dct upd_same rfl .nil⟩ fun a e => by cases e; exact hp
noncomputable def fTest (f : FE) : FT := fun e => bE (f e) fun b e1 => match b with
  | .val (.bl c) => some (c, e1)
  | _ => none
theorem ref_test {t : TE} {f : FE} (h : Ref K t f) : RefT K (tTest t) (fTest f) := by
  intro O M W L σ H e e' b Q o he hf q
  obtain ⟨x, e1, f1, hf⟩ := bE_some hf
  cases x with
  | slot i => cases hf
  | new p => cases hf
  | val p =>
    cases p with
    | bl c =>
      cases hf
      refine h O M W L σ H e _ _ _ o he f1 fun v1 H1 k1 r1 fr => ?_
      obtain ⟨en, r⟩ := r1
      cases r
      exact ⟨b, rfl, q H1 k1 en⟩
    | _ => cases hf
theorem ref_tB {t : TE} {f : FE} (h : Ref K t f) : RefT K (tB t) (fTest f) := ref_test h
noncomputable def fAnd (f g : FT) : FT := fun e => bE (f e) fun b e1 => bB b (g e1) (some (false, e1))
noncomputable def fOr (f g : FT) : FT := fun e => bE (f e) fun b e1 => bB b (some (true, e1)) (g e1)
noncomputable def fNot (f : FT) : FT := fun e => bE (f e) fun b e1 => some (!b, e1)
theorem ref_and {t u : TT} {f g : FT} (h : RefT K t f) (h2 : RefT K u g) : RefT K (tAnd t u) (fAnd f g) := by
  intro O M W L σ H e e' b Q o he hf q
  obtain ⟨x, e1, f1, hf⟩ := bE_some hf
  refine h O M W L σ H e _ _ _ o he f1 fun H1 k1 en => ?_
  cases x with
  | true => rw [if_pos rfl]; exact h2 O M W L σ H1 e1 _ _ _ (o.keep k1.dom) en hf fun H2 k2 en2 => q H2 (k1.trans k2) en2
  | false => cases hf; rw [if_neg Bool.false_ne_true]; exact q H1 k1 en
theorem ref_or {t u : TT} {f g : FT} (h : RefT K t f) (h2 : RefT K u g) : RefT K (tOr t u) (fOr f g) := by
  intro O M W L σ H e e' b Q o he hf q
  obtain ⟨x, e1, f1, hf⟩ := bE_some hf
  refine h O M W L σ H e _ _ _ o he f1 fun H1 k1 en => ?_
  cases x with
  | true => cases hf; rw [if_pos rfl]; exact q H1 k1 en
  | false => rw [if_neg Bool.false_ne_true]; exact h2 O M W L σ H1 e1 _ _ _ (o.keep k1.dom) en hf fun H2 k2 en2 => q H2 (k1.trans k2) en2
theorem ref_not {t : TT} {f : FT} (h : RefT K t f) : RefT K (tNot t) (fNot f) := by
  intro O M W L σ H e e' b Q o he hf q
  obtain ⟨x, e1, f1, hf⟩ := bE_some hf
  cases hf
  exact h O M W L σ H e _ _ _ o he f1 fun H1 k1 en => q H1 k1 en
noncomputable def fTrue : FT := fun e => some (true, e)
theorem ref_true : RefT K tTrue fTrue := by
  intro O M W L σ H e e' b Q o he hf q
  cases hf
  exact q H .refl he
noncomputable def isBv : Bv → Option Bool
  | .val (.bl c) => some c
  | _ => none
noncomputable def fAndV (fa fb : FE) : FE := fun e => bE (fa e) fun b e1 => bO (isBv b) fun c => bB c (fb e1) (some (.val (.bl false), e1))
noncomputable def fOrV (fa fb : FE) : FE := fun e => bE (fa e) fun b e1 => bO (isBv b) fun c => bB c (some (.val (.bl true), e1)) (fb e1)
noncomputable def fNotV (fa : FE) : FE := fun e => bE (fa e) fun b e1 => bO (isBv b) fun c => some (.val (.bl (!c)), e1)
theorem isBlv {x : Bv} : (∃ c, x = .val (.bl c)) ∨ ∀ c, x ≠ .val (.bl c) := by
  cases x with
  | slot i => exact .inr fun _ z => nomatch z
  | new p => exact .inr fun _ z => nomatch z
  | val p =>
    cases p with
    | bl c => exact .inl ⟨c, rfl⟩
    | _ => exact .inr fun _ z => nomatch z
noncomputable def fIf (fc : FT) (fa fb : FE) : FE := fun e => bE (fc e) fun b e1 => bB b (fa e1) (fb e1)
theorem ref_if {tc : TT} {ta tb : TE} {fc : FT} {fa fb : FE} (hc : RefT K tc fc) (ha : Ref K ta fa) (hb : Ref K tb fb) : Ref K (tIf tc ta tb) (fIf fc fa fb) := by
  intro O M W L σ H e e' b Q o he hf q
  obtain ⟨x, e1, f1, hf⟩ := bE_some hf
  refine hc O M W L σ H e _ _ _ o he f1 fun H1 k1 en => ?_
  cases x with
  | true => rw [if_pos rfl]; exact ha O M W L σ H1 e1 _ _ _ (o.keep k1.dom) en hf fun v2 H2 k2 r2 fr => q v2 H2 (k1.trans k2) r2 (fr.back k1.dom)
  | false => rw [if_neg Bool.false_ne_true]; exact hb O M W L σ H1 e1 _ _ _ (o.keep k1.dom) en hf fun v2 H2 k2 r2 fr => q v2 H2 (k1.trans k2) r2 (fr.back k1.dom)
noncomputable abbrev FO := En → Option (Option Int × En)
noncomputable def RefO (K : PySem.W.Frag) (t : TO) (f : FO) : Prop := ∀ (O M : ASet) (W : WS) (L : ASet) (σ : St) (H : Hp) (e e' : En) (b : Option Int) (Q : Option Int → Hp → Prop), Okc O M W L H → EnRep K (uni M L) W L H σ e → f e = some (b, e') →
  (∀ H', Keep W L H H' → EnRep K (uni M L) W L H' σ e' → Q b H') → t σ H Q
noncomputable def fNoPart : FO := fun e => some (none, e)
noncomputable def fPart (f : FE) : FO := fun e => bE (f e) fun b e1 => match b with
  | .val (.int i) => some (some i, e1)
  | _ => none
theorem ref_nopart : RefO K tNoPart fNoPart := by
  intro O M W L σ H e e' b Q o he hf q
  cases hf
  exact q H .refl he
theorem ref_part {t : TE} {f : FE} (h : Ref K t f) : RefO K (tPart t) (fPart f) := by
  intro O M W L σ H e e' b Q o he hf q
  obtain ⟨x, e1, f1, hf⟩ := bE_some hf
  cases x with
  | slot i => cases hf
  | new p => cases hf
  | val p =>
    cases p with
    | int c =>
      cases hf
      refine h O M W L σ H e _ _ _ o he f1 fun v1 H1 k1 r1 fr => ?_
      obtain ⟨en, r⟩ := r1
      cases r
      exact ⟨c, rfl, q H1 k1 en⟩
    | _ => cases hf
noncomputable def SlOk (K : PySem.W.Frag) (r : V → Option Int → Option Int → Hp → VK → Prop) (g : PV → Option Int → Option Int → Option Bv) : Prop := ∀ (Z : ASet) (H : Hp) (x : V) (p : PV) (lo hi : Option Int) (b : Bv) (Q : VK), Red K Z H p x → g p lo hi = some b → (∀ v H', Same H H' → RN K Z H H' v b → Q v H') → r x lo hi H Q
noncomputable def fSl (g : PV → Option Int → Option Int → Option Bv) (fa : FE) (fl fh : FO) : FE := fun e => bE (fa e) fun x e1 => bE (fl e1) fun lo e2 => bE (fh e2) fun hi e3 => bO (x.weak.get e3) fun p => bO (g p lo hi) fun b => some (b, e3)
theorem ref_sl {r : V → Option Int → Option Int → Hp → VK → Prop} {g : PV → Option Int → Option Int → Option Bv} {ta : TE} {tl th : TO} {fa : FE} {fl fh : FO} (hg : SlOk K r g) (ha : Ref K ta fa) (hl : RefO K tl fl) (hh : RefO K th fh) : Ref K (tSl r ta tl th) (fSl g fa fl fh) := by
  intro O M W L σ H e e' b Q o he hf q
  obtain ⟨x, e1, f1, hf⟩ := bE_some hf
  obtain ⟨lo, e2, f2, hf⟩ := bE_some hf
  obtain ⟨hi, e3, f3, hf⟩ := bE_some hf
  obtain ⟨p, g1, hf⟩ := bO_some hf
  obtain ⟨c, g3, hf⟩ := bO_some hf
  cases hf
  refine ha O M W L σ H e e1 x _ o he f1 fun v1 H1 k1 r1 fr => ?_
  have o1 := o.keep k1.dom
  refine hl O M W L σ H1 e1 e2 lo _ o1 (r1.en o1) f2 fun H2 k2 en2 => ?_
  have o2 := o1.keep k2.dom
  refine hh O M W L σ H2 e2 _ hi _ o2 en2 f3 fun H3 k3 en3 => ?_
  have o3 := o2.keep k3.dom
  refine hg _ H3 v1 p lo hi _ Q ((((r1.rv o1).keep o1 k2).keep o2 k3).red en3 g1) g3 fun v H' s rn => ?_
  exact q v H' (((k1.trans k2).trans k3).trans (.same s)) (rn.rb o3 en3 s) (rn.fr ((k1.trans k2).trans k3).dom)
end
end Mr
set_option Elab.async false
set_option linter.all false
set_option maxRecDepth 100000
set_option maxHeartbeats 4000000
namespace Mr
open PySem L2
inductive Out where
  | nx (e : En) | rt (b : Bv) (e : En) | bk (e : En) | ct (e : En)
noncomputable abbrev FS := En → Option Out
structure Grow (W : WS) (L L' : ASet) (H H' : Hp) : Prop where
  obj : ∀ a o, H a = some o → ¬ aw W a → ¬ L a → H' a = some o
  tup : ∀ a xs, H a = some (.tup xs) → H' a = some (.tup xs)
  dom : ∀ a, H a ≠ none → H' a ≠ none
  new : ∀ a, L' a → L a ∨ H a = none
theorem Grow.refl {W : WS} {L : ASet} {H : Hp} : Grow W L L H H := ⟨fun _ _ h _ _ => h, fun _ _ h => h, fun _ h => h, fun _ h => .inl h⟩
theorem Grow.keep {W : WS} {L : ASet} {H H' : Hp} (k : Keep W L H H') : Grow W L L H H' := ⟨k.obj, k.tup, k.dom, fun _ h => .inl h⟩
theorem Grow.trans {W : WS} {L L1 L2 : ASet} {H H1 H2 : Hp} (a : Grow W L L1 H H1) (b : Grow W L1 L2 H1 H2) : Grow W L L2 H H2 :=
  ⟨fun c o h n m => b.obj c o (a.obj c o h n m) n fun z => (a.new c z).elim m fun z => (by rw [h] at z; cases z), fun c xs h => b.tup c xs (a.tup c xs h), fun c h => b.dom c (a.dom c h), fun c h => by
    rcases b.new c h with z | z
    · exact a.new c z
    · refine .inr ?_
      cases e : H c with
      | none => rfl
      | some o => exact absurd z (a.dom c (by rw [e]; exact fun z => nomatch z))⟩
noncomputable def Post (K : PySem.W.Frag) (O M : ASet) (W : WS) (L : ASet) (H : Hp) (D : Ends) : Out → Prop
  | .nx e' => ∀ L' σ' H', Grow W L L' H H' → Okc O M W L' H' → EnRep K (uni M L') W L' H' σ' e' → D.nx σ' H'
  | .bk e' => ∀ L' σ' H', Grow W L L' H H' → Okc O M W L' H' → EnRep K (uni M L') W L' H' σ' e' → D.bk σ' H'
  | .ct e' => ∀ L' σ' H', Grow W L L' H H' → Okc O M W L' H' → EnRep K (uni M L') W L' H' σ' e' → D.ct σ' H'
  | .rt b e' => ∀ L' σ' H' v, Grow W L L' H H' → Okc O M W L' H' → RB K O M W L' H' σ' e' v b → D.rt v H'
theorem Post.later {K : PySem.W.Frag} {O M : ASet} {W : WS} {L L1 : ASet} {H H1 : Hp} {D : Ends} {r : Out} (g : Grow W L L1 H H1) (h : Post K O M W L H D r) : Post K O M W L1 H1 D r := by
  cases r with
  | nx e => exact fun L' σ' H' g' => h L' σ' H' (g.trans g')
  | bk e => exact fun L' σ' H' g' => h L' σ' H' (g.trans g')
  | ct e => exact fun L' σ' H' g' => h L' σ' H' (g.trans g')
  | rt b e => exact fun L' σ' H' v g' => h L' σ' H' v (g.trans g')
noncomputable def RefS (K : PySem.W.Frag) (t : TS) (f : FS) : Prop := ∀ (O M : ASet) (W : WS) (L : ASet) (σ : St) (H : Hp) (e : En) (r : Out) (D : Ends), Okc O M W L H → EnRep K (uni M L) W L H σ e → f e = some r → Post K O M W L H D r → t D σ H
section
variable {K : PySem.W.Frag}
noncomputable def sNext : FS := fun e => some (.nx e)
theorem ref_next : RefS K tNext sNext := by
  intro O M W L σ H e r D o he hf q
  cases hf
  exact q L σ H .refl o he
noncomputable def sBreak : FS := fun e => some (.bk e)
noncomputable def sCont : FS := fun e => some (.ct e)
noncomputable def sSeq (f g : FS) : FS := fun e => match f e with
  | some (.nx e1) => g e1
  | r => r
theorem ref_seq {t u : TS} {f g : FS} (h1 : RefS K t f) (h2 : RefS K u g) : RefS K (tSeq t u) (sSeq f g) := by
  intro O M W L σ H e r D o he hf q
  unfold sSeq at hf
  cases c : f e with
  | none => rw [c] at hf; cases hf
  | some r1 =>
    rw [c] at hf
    cases r1 with
    | nx e1 => exact h1 O M W L σ H e _ _ o he c fun L' σ' H' g' o' he' => h2 O M W L' σ' H' e1 r D o' he' hf (q.later g')
    | rt b e1 => cases hf; exact h1 O M W L σ H e _ _ o he c q
    | bk e1 => cases hf; exact h1 O M W L σ H e _ _ o he c q
    | ct e1 => cases hf; exact h1 O M W L σ H e _ _ o he c q
noncomputable def sRet (f : FE) : FS := fun e => bE (f e) fun b e1 => some (.rt b e1)
theorem ref_ret {t : TE} {f : FE} (h : Ref K t f) : RefS K (tRet t) (sRet f) := by
  intro O M W L σ H e r D o he hf q
  obtain ⟨x, e1, f1, hf⟩ := bE_some hf
  cases hf
  exact h O M W L σ H e _ _ _ o he f1 fun v H' k rb fr => q L σ H' v (.keep k) (o.keep k.dom) rb
noncomputable def sRetN : FS := fun e => some (.rt (.val .non) e)
noncomputable def sDrop (f : FE) : FS := fun e => bE (f e) fun b e1 => some (.nx e1)
noncomputable def sIf (fc : FT) (f g : FS) : FS := fun e => bE (fc e) fun b e1 => bB b (f e1) (g e1)
theorem ref_ifs {c : TT} {t u : TS} {fc : FT} {f g : FS} (hc : RefT K c fc) (h1 : RefS K t f) (h2 : RefS K u g) : RefS K (tIfS c t u) (sIf fc f g) := by
  intro O M W L σ H e r D o he hf q
  obtain ⟨x, e1, f1, hf⟩ := bE_some hf
  refine hc O M W L σ H e _ _ _ o he f1 fun H1 k1 en => ?_
  cases x with
  | true => rw [if_pos rfl]; exact h1 O M W L σ H1 e1 r D (o.keep k1.dom) en hf (q.later (.keep k1))
  | false => rw [if_neg Bool.false_ne_true]; exact h2 O M W L σ H1 e1 r D (o.keep k1.dom) en hf (q.later (.keep k1))
theorem set_get {α : Type} {l : List α} {i j : Nat} {x y : α} (h : (l.set i x)[j]? = some y) : (i = j ∧ i < l.length ∧ x = y) ∨ (i ≠ j ∧ l[j]? = some y) := by
  by_cases e : i = j
  · subst e
    have hl : i < l.length := by
      have := (List.getElem?_eq_some_iff.mp h).1
      simpa using this
    rw [List.getElem?_set_self hl] at h
    exact .inl ⟨rfl, hl, Option.some.inj h⟩
  · rw [List.getElem?_set_ne e] at h
    exact .inr ⟨e, h⟩
theorem EnRep.put {Z L : ASet} {W : WS} {H : Hp} {σ : St} {e : En} {i : Nat} {s : Sl} {v : V} (h : EnRep K Z W L H σ e) (hm : s.mine = false) (hs : SlRep K Z W L H i v s) : EnRep K Z W L H (σ.set i (some v)) (e.set i (some s)) := by
  refine ⟨by rw [List.length_set, List.length_set]; exact h.len, fun j t q => ?_, fun j k s1 s2 hjk q1 q2 m1 m2 => ?_⟩
  · rcases set_get q with ⟨rfl, hl, e⟩ | ⟨hn, q⟩
    · cases e
      exact ⟨v, by rw [List.getElem?_set_self (by rw [← h.len]; exact hl)], hs⟩
    · rw [List.getElem?_set_ne hn]
      exact h.at' j t q
  · rcases set_get q1 with ⟨rfl, hl, e⟩ | ⟨hn1, q1⟩
    · cases e; rw [hm] at m1; cases m1
    · rcases set_get q2 with ⟨rfl, hl, e⟩ | ⟨hn2, q2⟩
      · cases e; rw [hm] at m2; cases m2
      · rw [List.getElem?_set_ne hn1, List.getElem?_set_ne hn2]
        exact h.dis j k s1 s2 hjk q1 q2 m1 m2
theorem EnRep.putL {M L : ASet} {W : WS} {H : Hp} {σ : St} {e : En} {i : Nat} {p : PV} {a : Addr} (h : EnRep K (uni M (uni L (one a))) W (uni L (one a)) H σ e) (hf : Free σ e a) (hc : Cont K (uni M (uni L (one a))) H a p) :
    EnRep K (uni M (uni L (one a))) W (uni L (one a)) H (σ.set i (some (.ref a))) (e.set i (some (.loc p))) := by
  refine ⟨by rw [List.length_set, List.length_set]; exact h.len, fun j t q => ?_, fun j k s1 s2 hjk q1 q2 m1 m2 => ?_⟩
  · rcases set_get q with ⟨rfl, hl, e⟩ | ⟨hn, q⟩
    · cases e
      exact ⟨_, by rw [List.getElem?_set_self (by rw [← h.len]; exact hl)], a, rfl, .inr rfl, hc⟩
    · rw [List.getElem?_set_ne hn]
      exact h.at' j t q
  · rcases set_get q1 with ⟨rfl, hl, e⟩ | ⟨hn1, q1⟩
    · rcases set_get q2 with ⟨rfl, hl, e⟩ | ⟨hn2, q2⟩
      · exact absurd rfl hjk
      · rw [List.getElem?_set_ne hn2, List.getElem?_set_self (by rw [← h.len]; exact hl)]
        exact fun z => hf k s2 q2 m2 z.symm
    · rcases set_get q2 with ⟨rfl, hl, e⟩ | ⟨hn2, q2⟩
      · rw [List.getElem?_set_ne hn1, List.getElem?_set_self (by rw [← h.len]; exact hl)]
        exact fun z => hf j s1 q1 m1 z
      · rw [List.getElem?_set_ne hn1, List.getElem?_set_ne hn2]
        exact h.dis j k s1 s2 hjk q1 q2 m1 m2
noncomputable def sSet (i : Nat) (f : FE) : FS := fun e => bE (f e) fun b e1 => match b with
  | .val p => some (.nx (e1.set i (some (.val p))))
  | .new p => some (.nx (e1.set i (some (.val p))))
  | .slot j => match e1[j]? with
    | some (some (.bor p)) => some (.nx (e1.set i (some (.bor p))))
    | _ => none
theorem ref_set {i : Nat} {t : TE} {f : FE} (h : Ref K t f) : RefS K (tAsg t (gName i)) (sSet i f) := by
  intro O M W L σ H e r D o he hf q
  obtain ⟨x, e1, f1, hf⟩ := bE_some hf
  refine h O M W L σ H e _ _ _ o he f1 fun v H' k rb fr => ?_
  have o1 := o.keep k.dom
  cases x with
  | val p => cases hf; exact q L _ H' (.keep k) o1 (EnRep.put rb.1 rfl rb.2)
  | new p => cases hf; have rb := rb.weak o1; exact q L _ H' (.keep k) o1 (EnRep.put (s := .val p) rb.1 rfl rb.2)
  | slot j =>
    dsimp only at hf
    cases c : e1[j]? with
    | none => rw [c] at hf; cases hf
    | some s =>
      cases s with
      | none => rw [c] at hf; cases hf
      | some s =>
        rw [c] at hf
        cases s with
        | bor p =>
          cases hf
          obtain ⟨u, h1, h2⟩ := rb.1.at' j _ c
          rw [rb.2] at h1
          cases h1
          exact q L _ H' (.keep k) o1 (EnRep.put (s := .bor p) rb.1 rfl h2)
        | _ => cases hf
noncomputable def sSetL (i : Nat) (f : FE) : FS := fun e => bE (f e) fun b e1 => match b with
  | .new p => some (.nx (e1.set i (some (.loc p))))
  | _ => none
theorem ref_setL {i : Nat} {t : TE} {f : FE} (h : Ref K t f) : RefS K (tAsg t (gName i)) (sSetL i f) := by
  intro O M W L σ H e r D o he hf q
  obtain ⟨x, e1, f1, hf⟩ := bE_some hf
  cases x with
  | val p => cases hf
  | slot j => cases hf
  | new p =>
    cases hf
    refine h O M W L σ H e _ _ _ o he f1 fun v H' k rb fr => ?_
    obtain ⟨a, rfl, nO, nL, en, fe, c⟩ := rb
    obtain ⟨ob, hob, _⟩ := c.there
    have o1 := o.keep k.dom
    have new : H a = none := fr a rfl
    exact q (uni L (one a)) _ H' ⟨k.obj, k.tup, k.dom, fun b z => z.elim .inl fun z => .inr (by rw [show b = a from z]; exact new)⟩ ⟨o1.old, o1.mo, o1.wm, fun b z => z.elim (o1.loc b) fun z => (by rw [show b = a from z]; exact ⟨(by rw [hob]; exact fun z => nomatch z), nO⟩)⟩ (EnRep.putL en fe c)
noncomputable def rel (i : Nat) (e : En) : Option En := match e[i]? with
  | some (some (.loc p)) => some (e.set i (some (.val p)))
  | some (some (.val p)) => some e
  | _ => none
theorem EnRep.rel {O M L : ASet} {W : WS} {H : Hp} {σ : St} {e : En} {i : Nat} {p : PV} (o : Okc O M W L H) (h : EnRep K (uni M L) W L H σ e) (hi : e[i]? = some (some (.loc p))) : ∃ L', (∀ a, L' a → L a) ∧ EnRep K (uni M L') W L' H σ (e.set i (some (.val p))) := by
  obtain ⟨v, h1, a, rfl, la, c⟩ := h.at' i _ hi
  refine ⟨fun b => L b ∧ b ≠ a, fun b z => z.1, by rw [List.length_set]; exact h.len, fun j t q => ?_, fun j k s1 s2 hjk q1 q2 m1 m2 => ?_⟩
  · have k : Stay (uni M L) (uni M fun b => L b ∧ b ≠ a) H H := .less fun b z => z.elim .inl fun z => .inr z.1
    rcases set_get q with ⟨rfl, hl, e⟩ | ⟨hn, q⟩
    · cases e
      refine ⟨_, h1, (c.stay k fun _ q => q).rep fun z => ?_⟩
      rcases z with z | z
      · exact (o.loc a la).2 (o.mo a z)
      · exact z.2 rfl
    · obtain ⟨v, g1, g2⟩ := h.at' j t q
      refine ⟨v, g1, ?_⟩
      cases t with
      | val p => exact Rep.stay k g2
      | own p => obtain ⟨b, e, w, c⟩ := g2; exact ⟨b, e, w, c.stay k fun o q => q⟩
      | loc p =>
        obtain ⟨b, e, w, c⟩ := g2
        refine ⟨b, e, ⟨w, fun z => ?_⟩, c.stay k fun o q => q⟩
        subst z
        subst e
        exact h.dis i j _ _ hn hi q rfl rfl (h1.trans g1.symm)
      | bor p =>
        obtain ⟨b, e, c⟩ := g2
        refine ⟨b, e, ?_⟩
        cases c with
        | lst e od n m r => exact .lst e od n (fun z => m z.1) (r.stay k)
        | klst e r => exact .klst e (r.stay k)
        | dct e od n m kk r => exact .dct e od n (fun z => m z.1) kk (r.stay k)
  · rcases set_get q1 with ⟨rfl, hl, e⟩ | ⟨hn1, q1⟩
    · cases e; cases m1
    · rcases set_get q2 with ⟨rfl, hl, e⟩ | ⟨hn2, q2⟩
      · cases e; cases m2
      · exact h.dis j k s1 s2 hjk q1 q2 m1 m2
noncomputable def sRel (i : Nat) (f : FS) : FS := fun e => bO (rel i e) f
theorem ref_rel {t : TS} {f : FS} (i : Nat) (h : RefS K t f) : RefS K t (sRel i f) := by
  intro O M W L σ H e r D o he hf q
  obtain ⟨e1, f1, hf⟩ := bO_some hf
  unfold Mr.rel at f1
  cases c : e[i]? with
  | none => rw [c] at f1; cases f1
  | some s =>
    cases s with
    | none => rw [c] at f1; cases f1
    | some s =>
      rw [c] at f1
      cases s with
      | loc p =>
        cases f1
        obtain ⟨L', hL, en⟩ := he.rel o c
        refine h O M W L' σ H _ r D ⟨o.old, o.mo, o.wm, fun a z => o.loc a (hL a z)⟩ en hf (q.later ⟨fun _ _ h _ _ => h, fun _ _ h => h, fun _ h => h, fun a z => .inl (hL a z)⟩)
      | val p => cases f1; exact h O M W L σ H _ r D o he hf q
      | _ => cases f1
noncomputable def setOwn (e : En) (i : Nat) (p : PV) : En := match e[i]? with
  | some (some (.own _)) => e.set i (some (.own p))
  | _ => e.set i (some (.loc p))
noncomputable def ownAt (e : En) (i : Nat) : Option PV := match e[i]? with
  | some (some (.own p)) => some p
  | some (some (.loc p)) => some p
  | _ => none
theorem ownAt_some {e : En} {i : Nat} {p : PV} (h : ownAt e i = some p) : (e[i]? = some (some (.own p)) ∨ e[i]? = some (some (.loc p))) := by
  unfold ownAt at h
  split at h
  · cases h; exact .inl (by assumption)
  · cases h; exact .inr (by assumption)
  · cases h
theorem EnRep.own {Z L : ASet} {W : WS} {H : Hp} {σ : St} {e : En} {i : Nat} {p : PV} (h : EnRep K Z W L H σ e) (g : ownAt e i = some p) : ∃ a, σ[i]? = some (some (.ref a)) ∧ (aw W a ∨ L a) ∧ Cont K Z H a p := by
  rcases ownAt_some g with g | g
  · obtain ⟨v, h1, a, rfl, w, c⟩ := h.at' i _ g
    exact ⟨a, h1, .inl ⟨i, w⟩, c⟩
  · obtain ⟨v, h1, a, rfl, w, c⟩ := h.at' i _ g
    exact ⟨a, h1, .inr w, c⟩
theorem Stay.write {Z : ASet} {H : Hp} {a : Addr} {o ob : HO} (z : Z a) (h : H a = some ob) (nt : ∀ xs, ob ≠ .tup xs) : Stay Z Z H (upd H a o) :=
  ⟨fun b xs e => by rw [upd_ne (ne_of e h fun z => nt _ z.symm)]; exact e, fun b u e n => ⟨by rw [upd_ne (fun q : b = a => n (by rw [q]; exact z))]; exact e, n⟩⟩
theorem EnRep.write {M L : ASet} {W : WS} {H : Hp} {σ : St} {e : En} {i : Nat} {p q : PV} {a : Addr} {ob : HO} (wm : ∀ i a, W i a → M a) (h : EnRep K (uni M L) W L H σ e) (g : ownAt e i = some p) (ha : σ[i]? = some (some (.ref a))) (c : Cont K (uni M L) (upd H a ob) a q) :
    EnRep K (uni M L) W L (upd H a ob) σ (setOwn e i q) := by
  obtain ⟨a', h1, hz, c0⟩ := h.own g
  rw [ha] at h1
  cases h1
  have za : uni M L a := hz.elim (fun ⟨i, w⟩ => .inl (wm i a w)) .inr
  obtain ⟨o0, e0, nt⟩ := c0.there
  have k : Stay (uni M L) (uni M L) H (upd H a ob) := .write za e0 nt
  have hl : i < e.length := by
    rcases ownAt_some g with g | g <;> exact (List.getElem?_eq_some_iff.mp g).1
  have hm : ∃ s, e[i]? = some (some s) ∧ s.mine = true := by
    rcases ownAt_some g with g | g <;> exact ⟨_, g, rfl⟩
  obtain ⟨s0, hs0, hm0⟩ := hm
  have key : ∀ s', (setOwn e i q)[i]? = some (some s') → ∃ v, σ[i]? = some (some v) ∧ SlRep K (uni M L) W L (upd H a ob) i v s' := fun s' z => by
    unfold setOwn at z
    rcases ownAt_some g with g | g
    · rw [g] at z
      rw [List.getElem?_set_self hl] at z
      cases z
      obtain ⟨v, h1, a', rfl, w, _⟩ := h.at' i _ g
      rw [ha] at h1; cases h1
      exact ⟨_, ha, a, rfl, w, c⟩
    · rw [g] at z
      rw [List.getElem?_set_self hl] at z
      cases z
      obtain ⟨v, h1, a', rfl, w, _⟩ := h.at' i _ g
      rw [ha] at h1; cases h1
      exact ⟨_, ha, a, rfl, w, c⟩
  have oth : ∀ j, i ≠ j → (setOwn e i q)[j]? = e[j]? := fun j hj => by
    unfold setOwn
    rcases ownAt_some g with g | g <;> (rw [g]; exact List.getElem?_set_ne hj)
  refine ⟨?_, fun j t z => ?_, fun j l s1 s2 hjk q1 q2 m1 m2 => ?_⟩
  · rw [← h.len]; unfold setOwn; rcases ownAt_some g with g | g <;> (rw [g]; exact List.length_set)
  · by_cases hj : i = j
    · subst hj; exact key t z
    · rw [oth j hj] at z
      obtain ⟨v, g1, g2⟩ := h.at' j t z
      refine ⟨v, g1, ?_⟩
      cases t with
      | val p => exact Rep.stay k g2
      | own p =>
        obtain ⟨b, e', w, c⟩ := g2
        subst e'
        have hb : b ≠ a := fun z' => h.dis i j s0 _ hj hs0 z hm0 rfl (by rw [ha, g1, z'])
        exact ⟨b, rfl, w, c.stay k fun o q => by rw [upd_ne hb]; exact q⟩
      | loc p =>
        obtain ⟨b, e', w, c⟩ := g2
        subst e'
        have hb : b ≠ a := fun z' => h.dis i j s0 _ hj hs0 z hm0 rfl (by rw [ha, g1, z'])
        exact ⟨b, rfl, w, c.stay k fun o q => by rw [upd_ne hb]; exact q⟩
      | bor p =>
        obtain ⟨b, e', c⟩ := g2
        refine ⟨b, e', ?_⟩
        cases c with
        | lst e od n m r =>
          have hb : b ≠ a := fun z' => hz.elim (fun w => n (z' ▸ w)) fun w => m (z' ▸ w)
          exact .lst (e.elim (fun e => .inl (by rw [upd_ne hb]; exact e)) fun ⟨u, e⟩ => .inr ⟨u, by rw [upd_ne hb]; exact e⟩) od n m (r.stay k)
        | klst e r => exact .klst e (r.stay k)
        | dct e od n m kk r =>
          have hb : b ≠ a := fun z' => hz.elim (fun w => n (z' ▸ w)) fun w => m (z' ▸ w)
          exact .dct (e.elim (fun e => .inl (by rw [upd_ne hb]; exact e)) fun ⟨u, e⟩ => .inr ⟨u, by rw [upd_ne hb]; exact e⟩) od n m kk (r.stay k)
  · have mine : ∀ (j : Nat) (s : Sl), (setOwn e i q)[j]? = some (some s) → s.mine = true → ∃ s' : Sl, e[j]? = some (some s') ∧ s'.mine = true := fun j s z m => by
      by_cases hj : i = j
      · subst hj; exact ⟨s0, hs0, hm0⟩
      · rw [oth j hj] at z; exact ⟨s, z, m⟩
    obtain ⟨t1, w1, n1⟩ := mine j s1 q1 m1
    obtain ⟨t2, w2, n2⟩ := mine l s2 q2 m2
    exact h.dis j l t1 t2 hjk w1 w2 n1 n2
theorem Keep.write {W : WS} {L : ASet} {H : Hp} {a : Addr} {ob o : HO} (hz : aw W a ∨ L a) (h : H a = some ob) (nt : ∀ xs, ob ≠ .tup xs) : Keep W L H (upd H a o) :=
  ⟨fun b u e n m => by rw [upd_ne (fun q : b = a => hz.elim (fun z => n (by rw [q]; exact z)) fun z => m (by rw [q]; exact z))]; exact e, fun b xs e => by rw [upd_ne (ne_of e h fun z => nt _ z.symm)]; exact e, fun b e => by
    by_cases hb : b = a
    · subst hb; rw [upd_same]; exact fun z => nomatch z
    · rw [upd_ne hb]; exact e⟩
noncomputable def sApp (i : Nat) (f : FE) : FS := fun e => bO (ownAt e i) fun p0 => match p0 with
  | .lst _ => bE (f e) fun b e1 => bO b.put fun p => match ownAt e1 i with
    | some (.lst ps) => guardP (decide (ps.length < 1000000)) (some (.nx (setOwn e1 i (.lst (ps ++ [p])))))
    | _ => none
  | _ => none
theorem RB.put {O M L : ASet} {W : WS} {H : Hp} {σ : St} {e : En} {v : V} {b : Bv} {p : PV} (o : Okc O M W L H) (h : RB K O M W L H σ e v b) (g : b.put = some p) : EnRep K (uni M L) W L H σ e ∧ Rep K (uni M L) H p v := by
  have h := h.weak o
  cases b with
  | val q => cases g; exact h
  | new q => cases g; exact h
  | slot i => cases g
theorem ref_app {i : Nat} {t : TE} {f : FE} (h : Ref K t f) : RefS K (tDrop (tBM K "list" rAppend (tVar i) (tCons t tNil))) (sApp i f) := by
  intro O M W L σ H e r D o he hf q
  obtain ⟨p0, g0, hf⟩ := bO_some hf
  cases p0 with
  | lst ps0 =>
    obtain ⟨x, e1, f1, hf⟩ := bE_some hf
    obtain ⟨p, g1, hf⟩ := bO_some hf
    cases c : ownAt e1 i with
    | none => rw [c] at hf; cases hf
    | some q1 =>
      rw [c] at hf
      cases q1 with
      | lst ps =>
        obtain ⟨g2, hf⟩ := guardP_some hf
        cases hf
        obtain ⟨a, ha, hz, ct⟩ := he.own g0
        refine ⟨_, ha, .inl ⟨rfl, ?_⟩, ?_⟩
        · cases ct with | lst e r => exact ⟨_, SqL.of e⟩
        refine h O M W L σ H e _ _ _ o he f1 fun v H' k rb fr => ?_
        have o1 := o.keep k.dom
        obtain ⟨en, rp⟩ := rb.put o1 g1
        obtain ⟨a', ha', hz', ct'⟩ := en.own c
        rw [ha] at ha'
        cases ha'
        cases ct' with
        | lst e2 r2 =>
          rename_i xs
          refine ⟨a, xs, v, rfl, rfl, e2, by rw [← r2.length]; exact smallP g2, ?_⟩
          have kw : Keep W L H' (upd H' a (.lst (xs ++ [v]))) := .write hz e2 fun _ z => nomatch z
          have st : Stay (uni M L) (uni M L) H' (upd H' a (.lst (xs ++ [v]))) := .write (hz.elim (fun ⟨i, w⟩ => .inl (o.wm i a w)) .inr) e2 fun _ z => nomatch z
          exact q L σ _ (.keep (k.trans kw)) (o1.keep kw.dom) (EnRep.write o.wm en c ha (.lst upd_same ((r2.stay st).app (.cons (rp.stay st) .nil))))
      | _ => cases hf
  | _ => cases hf
noncomputable def sSetIx (i : Nat) (fi fv : FE) : FS := fun e => bE (fv e) fun b e1 => bO b.put fun p => bO (ownAt e1 i) fun _ => bE (fi e1) fun k e2 => match k with
  | .val (.int k) => match ownAt e2 i with
    | some (.lst ps) => bO (ixN ps.length k) fun j => some (.nx (setOwn e2 i (.lst (ps.set j p))))
    | _ => none
  | _ => none
theorem ref_setIx {i : Nat} {tv ti : TE} {fv fi : FE} (hv : Ref K tv fv) (hi : Ref K ti fi) : RefS K (tAsg tv (gSub (tVar i) ti rSetL)) (sSetIx i fi fv) := by
  intro O M W L σ H e r D o he hf q
  obtain ⟨x, e1, f1, hf⟩ := bE_some hf
  obtain ⟨p, g1, hf⟩ := bO_some hf
  obtain ⟨p0, g0, hf⟩ := bO_some hf
  obtain ⟨y, e2, f2, hf⟩ := bE_some hf
  cases y with
  | slot i => cases hf
  | new p => cases hf
  | val y =>
    cases y with
    | int k =>
      dsimp only at hf
      cases c : ownAt e2 i with
      | none => rw [c] at hf; cases hf
      | some q1 =>
        rw [c] at hf
        cases q1 with
        | lst ps =>
          obtain ⟨j, g2, hf⟩ := bO_some hf
          cases hf
          refine hv O M W L σ H e _ _ _ o he f1 fun v H1 k1 rb fr => ?_
          have o1 := o.keep k1.dom
          obtain ⟨en, rp⟩ := rb.put o1 g1
          obtain ⟨a, ha, _, _⟩ := en.own g0
          refine ⟨_, ha, hi O M W L σ H1 e1 _ _ _ o1 en f2 fun v2 H2 k2 rb2 fr2 => ?_⟩
          obtain ⟨en2, r2⟩ := rb2
          cases r2
          have o2 := o1.keep k2.dom
          obtain ⟨a', ha', hz, ct⟩ := en2.own c
          rw [ha] at ha'
          cases ha'
          cases ct with
          | lst e3 r3 =>
            rename_i xs
            refine ⟨a, xs, k, j, rfl, rfl, e3, by rw [← r3.length]; exact g2, ?_⟩
            have kw : Keep W L H2 (upd H2 a (.lst (xs.set j v))) := .write hz e3 fun _ z => nomatch z
            have st : Stay (uni M L) (uni M L) H2 (upd H2 a (.lst (xs.set j v))) := .write (hz.elim (fun ⟨i, w⟩ => .inl (o.wm i a w)) .inr) e3 fun _ z => nomatch z
            exact q L σ _ (.keep ((k1.trans k2).trans kw)) (o2.keep kw.dom) (EnRep.write o.wm en2 c ha (.lst upd_same ((r3.stay st).set ((rp.stay (k2.stay o1)).stay st) j)))
        | _ => cases hf
    | _ => cases hf
end
end Mr
set_option Elab.async false
set_option linter.all false
set_option maxRecDepth 100000
set_option maxHeartbeats 4000000
namespace Mr
open PySem L2
noncomputable def valP (kvs : List (Key × PV)) (k : Key) : Option PV := (kvs.find? fun kv => decide (kv.1 = k)).map (·.2)
noncomputable def putP (kvs : List (Key × PV)) (k : Key) (v : PV) : List (Key × PV) :=
  if (kvs.any fun kv => decide (kv.1 = k)) = true then kvs.map (fun kv => if kv.1 = k then (kv.1, v) else kv) else kvs ++ [(k, v)]
section
variable {K : PySem.W.Frag} {Z : ASet} {H : Hp}
noncomputable def RepD (K : PySem.W.Frag) (Z : ASet) (H : Hp) (kvs : List (Key × PV)) (ys : List (Key × V)) : Prop := ys.map (·.1) = kvs.map (·.1) ∧ RepL K Z H (kvs.map (·.2)) (ys.map (·.2))
theorem RepD.cases {kvs : List (Key × PV)} {ys : List (Key × V)} (h : RepD K Z H kvs ys) : (kvs = [] ∧ ys = []) ∨ ∃ k p v r s, kvs = (k, p) :: r ∧ ys = (k, v) :: s ∧ Rep K Z H p v ∧ RepD K Z H r s := by
  obtain ⟨h1, h2⟩ := h
  cases kvs with
  | nil =>
    cases ys with
    | nil => exact .inl ⟨rfl, rfl⟩
    | cons y ys => cases h1
  | cons x kvs =>
    cases ys with
    | nil => cases h1
    | cons y ys =>
      obtain ⟨a, p⟩ := x
      obtain ⟨b, v⟩ := y
      rw [List.map_cons, List.map_cons] at h1
      have h1' := List.cons.inj h1
      have e : b = a := h1'.1
      subst e
      cases h2 with
      | cons h2 r2 => exact .inr ⟨b, p, v, kvs, ys, rfl, rfl, h2, h1'.2, r2⟩
theorem RepD.cons {k : Key} {p : PV} {v : V} {r : List (Key × PV)} {s : List (Key × V)} (h : Rep K Z H p v) (hr : RepD K Z H r s) : RepD K Z H ((k, p) :: r) ((k, v) :: s) :=
  ⟨by rw [List.map_cons, List.map_cons, hr.1], .cons h hr.2⟩
theorem RepD.val : ∀ {kvs : List (Key × PV)} {ys : List (Key × V)} (k : Key), RepD K Z H kvs ys → (valP kvs k = none ∧ valV ys k = none) ∨ ∃ p v, valP kvs k = some p ∧ valV ys k = some v ∧ Rep K Z H p v
  | [], ys, k, h => by
    rcases h.cases with ⟨_, rfl⟩ | ⟨_, _, _, _, _, e, _⟩
    · exact .inl ⟨rfl, rfl⟩
    · cases e
  | x :: kvs, ys, k, h => by
    rcases h.cases with ⟨e, _⟩ | ⟨j, p, v, r, s, e, e', hp, hr⟩
    · cases e
    · cases e
      subst e'
      by_cases hj : j = k
      · exact .inr ⟨p, v, by simp [valP, List.find?_cons, hj], by simp [valV, List.find?_cons, hj], hp⟩
      · have a : valP ((j, p) :: kvs) k = valP kvs k := by simp [valP, List.find?_cons, hj]
        have b : valV ((j, v) :: s) k = valV s k := by simp [valV, List.find?_cons, hj]
        rw [a, b]
        exact RepD.val k hr
theorem RepD.any {kvs : List (Key × PV)} {ys : List (Key × V)} (k : Key) (h : RepD K Z H kvs ys) : (kvs.any fun kv => decide (kv.1 = k)) = ys.any fun kv => decide (kv.1 = k) := by
  have e1 : (kvs.any fun kv => decide (kv.1 = k)) = (kvs.map (·.1)).any fun j => decide (j = k) := by rw [List.any_map]; rfl
  have e2 : (ys.any fun kv => decide (kv.1 = k)) = (ys.map (·.1)).any fun j => decide (j = k) := by rw [List.any_map]; rfl
  rw [e1, e2, h.1]
theorem RepD.repl {p : PV} {v : V} (hp : Rep K Z H p v) (k : Key) : ∀ {kvs : List (Key × PV)} {ys : List (Key × V)}, RepD K Z H kvs ys → RepD K Z H (kvs.map fun kv => if kv.1 = k then (kv.1, p) else kv) (ys.map fun kv => if kv.1 = k then (kv.1, v) else kv)
  | [], ys, h => by
    rcases h.cases with ⟨_, rfl⟩ | ⟨_, _, _, _, _, e, _⟩
    · exact h
    · cases e
  | x :: kvs, ys, h => by
    rcases h.cases with ⟨e, _⟩ | ⟨j, q, u, r, s, e, e', hq, hr⟩
    · cases e
    · cases e
      subst e'
      rw [List.map_cons, List.map_cons]
      by_cases hj : j = k
      · rw [if_pos hj, if_pos hj]; exact .cons hp (RepD.repl hp k hr)
      · rw [if_neg hj, if_neg hj]; exact .cons hq (RepD.repl hp k hr)
theorem RepD.put {kvs : List (Key × PV)} {ys : List (Key × V)} {p : PV} {v : V} (k : Key) (h : RepD K Z H kvs ys) (hp : Rep K Z H p v) : RepD K Z H (putP kvs k p) (putK ys k v) := by
  unfold putP putK
  rw [h.any k]
  split
  · exact h.repl hp k
  · exact ⟨by rw [List.map_append, List.map_append, h.1]; rfl, by rw [List.map_append, List.map_append]; exact h.2.app (.cons hp .nil)⟩
end
noncomputable def keyOf : PV → Option Key
  | .int i => some (.inl i)
  | .str x => some (.inr x)
  | _ => none
section
variable {K : PySem.W.Frag}
theorem Red.key {Z : ASet} {H : Hp} {p : PV} {v : V} {k : Key} (h : Red K Z H p v) (g : keyOf p = some k) : v = kV k := by
  cases p with
  | int i => cases g; exact h.int
  | str i => cases g; exact h.str
  | _ => cases g
noncomputable def sDPut (i : Nat) (fk fv : FE) : FS := fun e => bE (fv e) fun b e1 => bO b.put fun p => bO (ownAt e1 i) fun _ => bE (fk e1) fun k e2 => bO (k.weak.get e2) fun kp => bO (keyOf kp) fun key => match ownAt e2 i with
    | some (.dct kvs) => guardP (decide (kvs.length < 1000000)) (some (.nx (setOwn e2 i (.dct (putP kvs key p)))))
    | _ => none
theorem ref_dput {i : Nat} {tv tk : TE} {fv fk : FE} (hv : Ref K tv fv) (hk : Ref K tk fk) : RefS K (L2.sDPut (tVar i) tk tv) (sDPut i fk fv) := by
  intro O M W L σ H e r D o he hf q
  obtain ⟨x, e1, f1, hf⟩ := bE_some hf
  obtain ⟨p, g1, hf⟩ := bO_some hf
  obtain ⟨p0, g0, hf⟩ := bO_some hf
  obtain ⟨y, e2, f2, hf⟩ := bE_some hf
  obtain ⟨kp, g3, hf⟩ := bO_some hf
  obtain ⟨key, g4, hf⟩ := bO_some hf
  cases c : ownAt e2 i with
  | none => rw [c] at hf; cases hf
  | some q1 =>
    rw [c] at hf
    cases q1 with
    | dct kvs =>
      obtain ⟨g2, hf⟩ := guardP_some hf
      cases hf
      refine hv O M W L σ H e _ _ _ o he f1 fun v H1 k1 rb fr => ?_
      have o1 := o.keep k1.dom
      obtain ⟨en, rp⟩ := rb.put o1 g1
      obtain ⟨a, ha, _, _⟩ := en.own g0
      refine ⟨_, ha, hk O M W L σ H1 e1 _ _ _ o1 en f2 fun v2 H2 k2 rb2 fr2 => ?_⟩
      have o2 := o1.keep k2.dom
      have en2 := rb2.en o2
      have ek := ((rb2.rv o2).red en2 g3).key g4
      subst ek
      obtain ⟨a', ha', hz, ct⟩ := en2.own c
      rw [ha] at ha'
      cases ha'
      cases ct with
      | dct e3 kk r3 =>
        rename_i ys
        have hl : ys.length = kvs.length := by have := congrArg List.length kk; simpa using this
        refine ⟨a, rfl, .inl ⟨_, _, ⟨_, e3⟩, rfl, by rw [hl]; exact smallP g2, fun ep => ?_⟩⟩
        have kw : Keep W L H2 (upd H2 a (.dK (putK ys key v) ep)) := .write hz e3 fun _ z => nomatch z
        have st : Stay (uni M L) (uni M L) H2 (upd H2 a (.dK (putK ys key v) ep)) := .write (hz.elim (fun ⟨i, w⟩ => .inl (o.wm i a w)) .inr) e3 fun _ z => nomatch z
        have rd : RepD K (uni M L) (upd H2 a (.dK (putK ys key v) ep)) (putP kvs key p) (putK ys key v) := RepD.put key ⟨kk, r3.stay st⟩ ((rp.stay (k2.stay o1)).stay st)
        exact q L σ _ (.keep ((k1.trans k2).trans kw)) (o2.keep kw.dom) (EnRep.write o.wm en2 c ha (.dct upd_same rd.1 rd.2))
    | _ => cases hf
noncomputable abbrev FG := PV → En → Option En
noncomputable abbrev FGs := List PV → En → Option En
noncomputable def RefG (K : PySem.W.Frag) (g : TG) (f : FG) : Prop := ∀ (O M : ASet) (W : WS) (L : ASet) (σ : St) (H : Hp) (e e' : En) (p : PV) (v : V) (Q : St → Hp → Prop), Okc O M W L H → EnRep K (uni M L) W L H σ e → Rep K (uni M L) H p v → f p e = some e' → (∀ σ', EnRep K (uni M L) W L H σ' e' → Q σ' H) → g v σ H Q
noncomputable def RefGs (K : PySem.W.Frag) (g : TGs) (f : FGs) : Prop := ∀ (O M : ASet) (W : WS) (L : ASet) (σ : St) (H : Hp) (e e' : En) (p : List PV) (v : List V) (Q : St → Hp → Prop), Okc O M W L H → EnRep K (uni M L) W L H σ e → RepL K (uni M L) H p v → f p e = some e' → (∀ σ', EnRep K (uni M L) W L H σ' e' → Q σ' H) → g v σ H Q
noncomputable def tgName (i : Nat) : FG := fun p e => some (e.set i (some (.val p)))
theorem ref_gname (i : Nat) : RefG K (gName i) (tgName i) := by
  intro O M W L σ H e e' p v Q o he hp hf q
  cases hf
  exact q _ (EnRep.put he rfl hp)
noncomputable def tgNil : FGs := fun ps e => match ps with | [] => some e | _ => none
noncomputable def tgCons (f : FG) (g : FGs) : FGs := fun ps e => match ps with | p :: ps => bO (f p e) (g ps) | [] => none
theorem ref_gnil : RefGs K gNil tgNil := by
  intro O M W L σ H e e' p v Q o he hp hf q
  cases p with
  | nil => cases hf; cases hp; exact ⟨rfl, q σ he⟩
  | cons p ps => cases hf
theorem ref_gcons {g : TG} {gs : TGs} {f : FG} {fs : FGs} (h1 : RefG K g f) (h2 : RefGs K gs fs) : RefGs K (gCons g gs) (tgCons f fs) := by
  intro O M W L σ H e e' p v Q o he hp hf q
  cases p with
  | nil => cases hf
  | cons p ps =>
    obtain ⟨e1, f1, hf⟩ := bO_some hf
    cases hp with
    | cons hp hr => exact ⟨_, _, rfl, h1 O M W L σ H e e1 p _ _ o he hp f1 fun σ' he' => h2 O M W L σ' H e1 e' ps _ _ o he' hr hf q⟩
noncomputable def tgTup (n : Nat) (f : FGs) : FG := fun p e => match p with
  | .tup ps => guardP (decide (ps.length = n)) (f ps e)
  | _ => none
theorem ref_gtup {n : Nat} {g : TGs} {f : FGs} (h : RefGs K g f) : RefG K (gTup K n g) (tgTup n f) := by
  intro O M W L σ H e e' p v Q o he hp hf q
  cases p with
  | tup ps =>
    obtain ⟨g1, hf⟩ := guardP_some hf
    cases hp with
    | tup ha hr => exact ⟨_, _, rfl, ha.sq, by rw [← hr.length]; exact of_decide_eq_true g1, h O M W L σ H e e' ps _ Q o he hr hf q⟩
  | _ => cases hf
noncomputable def sAsg (f : FE) (fg : FG) : FS := fun e => bE (f e) fun b e1 => bO b.put fun p => bO (fg p e1) fun e2 => some (.nx e2)
theorem ref_asg {t : TE} {g : TG} {f : FE} {fg : FG} (h : Ref K t f) (hg : RefG K g fg) : RefS K (tAsg t g) (sAsg f fg) := by
  intro O M W L σ H e r D o he hf q
  obtain ⟨x, e1, f1, hf⟩ := bE_some hf
  obtain ⟨p, g1, hf⟩ := bO_some hf
  obtain ⟨e2, f2, hf⟩ := bO_some hf
  cases hf
  refine h O M W L σ H e _ _ _ o he f1 fun v H1 k1 rb fr => ?_
  have o1 := o.keep k1.dom
  obtain ⟨en, rp⟩ := rb.put o1 g1
  exact hg O M W L σ H1 e1 e2 p v _ o1 en rp f2 fun σ' he' => q L σ' H1 (.keep k1) o1 he'
noncomputable def sPar (i j : Nat) (fa : FA) : FS := fun e => bE (fa e) fun bs e1 => bO (putL bs) fun ps => match ps with
  | [p, q] => some (.nx ((e1.set i (some (.val p))).set j (some (.val q))))
  | _ => none
noncomputable def ItOk (K : PySem.W.Frag) (M L Wr : ASet) (H : Hp) (J : It) (items : List PV) : Prop := ∀ L' H', (∀ a o, H a = some o → ¬ Wr a → H' a = some o) → (∀ a xs, H a = some (.tup xs) → H' a = some (.tup xs)) → (∀ a, L' a → L a ∨ H a = none) →
  (∀ k p, items[k]? = some p → J.go k H' ∧ ∀ x H3, J.yld k H' x H3 → Same H' H3 ∧ Rep K (uni M L') H3 p x) ∧ J.stop items.length H'
noncomputable abbrev FI := (Nat → Bool) → En → Option (List PV × En)
noncomputable def RefI (K : PySem.W.Frag) (wi : TI) (f : FI) : Prop := ∀ (st : Nat → Bool) (O M : ASet) (W : WS) (L : ASet) (σ : St) (H : Hp) (e e' : En) (ps : List PV) (R : It → Hp → Prop), Okc O M W L H → EnRep K (uni M L) W L H σ e → f st e = some (ps, e') →
  (∀ J H', Keep W L H H' → EnRep K (uni M L) W L H' σ e' →
    (∀ Wr : ASet, (∀ a, Wr a → aw W a ∨ L a) → (∀ (i : Nat) a s, st i = true → e'[i]? = some (some s) → s.mine = true → σ[i]? = some (some (.ref a)) → ¬ Wr a) → ItOk K M L Wr H' J ps) → R J H') → wi σ H R
noncomputable def loopM (body : PV → En → Option Out) : List PV → En → Option Out
  | [], e => some (.nx e)
  | x :: xs, e => match body x e with
    | some (.nx e1) => loopM body xs e1
    | some (.ct e1) => loopM body xs e1
    | some (.bk e1) => some (.nx e1)
    | some (.rt b e1) => some (.rt b e1)
    | none => none
noncomputable def sFor (fi : FI) (fg : FG) (fb : FS) : FS := fun e => bE (fi (fun _ => false) e) fun ps e1 => loopM (fun x e => bO (fg x e) fb) ps e1
theorem ref_for {wi : TI} {g : TG} {tb : TS} {fi : FI} {fg : FG} {fb : FS} (hi : RefI K wi fi) (hg : RefG K g fg) (hb : RefS K tb fb) : RefS K (tFor wi g tb) (sFor fi fg fb) := by
  intro O M W L σ H e r D o he hf q
  obtain ⟨ps, e1, f1, hf⟩ := bE_some hf
  refine hi (fun _ => false) O M W L σ H e e1 ps _ o he f1 fun J H1 k1 en it => ?_
  have it := it (uni (aw W) L) (fun a z => z) fun i a s z => nomatch z
  have o1 := o.keep k1.dom
  have q1 := q.later (.keep k1)
  let N : Nat → St → Hp → Prop := fun i σ' H' => ∃ L' e', Grow W L L' H1 H' ∧ Okc O M W L' H' ∧ EnRep K (uni M L') W L' H' σ' e' ∧ loopM (fun x e => bO (fg x e) fb) (ps.drop i) e' = some r
  refine ⟨fun i m σ' H' => m = ps.length - i ∧ i ≤ ps.length ∧ N i σ' H', ⟨ps.length, by simp, Nat.zero_le _, L, e1, .refl, o1, en, by rw [List.drop_zero]; exact hf⟩, ?_⟩
  rintro i m σ2 H2 ⟨rfl, hil, L2, e2, g2, o2, en2, f2⟩
  obtain ⟨itm, its⟩ := it L2 H2 (fun a ob h n => g2.obj a ob h (fun z => n (.inl z)) fun z => n (.inr z)) g2.tup g2.new
  by_cases hlt : i < ps.length
  · refine .inr ?_
    obtain ⟨go, yl⟩ := itm i ps[i] (by simp [hlt])
    refine ⟨go, N (i + 1), fun σ' H' n => ⟨ps.length - (i + 1), by omega, rfl, hlt, n⟩, fun x H3 y => ?_⟩
    obtain ⟨s3, rp⟩ := yl x H3 y
    rw [List.drop_eq_getElem_cons hlt] at f2
    unfold loopM at f2
    have k3 : Keep W L2 H2 H3 := .same s3
    have o3 := o2.keep k3.dom
    have g3 : Grow W L L2 H1 H3 := g2.trans (.keep k3)
    cases c1 : fg ps[i] e2 with
    | none => rw [c1] at f2; cases f2
    | some e3 =>
      rw [c1] at f2
      refine hg O M W L2 σ2 H3 e2 e3 _ x _ o3 (en2.same s3) rp c1 fun σ3 en3 => ?_
      cases c2 : fb e3 with
      | none => rw [bO_v, c2] at f2; cases f2
      | some r1 =>
        rw [bO_v, c2] at f2
        refine hb O M W L2 σ3 H3 e3 r1 _ o3 en3 c2 ?_
        cases r1 with
        | nx e4 => exact fun L' σ' H' g' o' en' => ⟨L', e4, g3.trans g', o', en', f2⟩
        | ct e4 => exact fun L' σ' H' g' o' en' => ⟨L', e4, g3.trans g', o', en', f2⟩
        | bk e4 => cases f2; exact fun L' σ' H' g' o' en' => q1 L' σ' H' (g3.trans g') o' en'
        | rt b e4 => cases f2; exact fun L' σ' H' v g' o' en' => q1 L' σ' H' v (g3.trans g') o' en'
  · have e : i = ps.length := by omega
    subst e
    rw [List.drop_length] at f2
    cases f2
    exact .inl ⟨its, q1 L2 σ2 H2 g2 o2 en2⟩
end
end Mr
set_option Elab.async false
set_option linter.all false
set_option maxRecDepth 100000
set_option maxHeartbeats 4000000
namespace Mr
open PySem L2
noncomputable def capE (e : En) (ms : List (Nat × Nat)) (i j : Nat) : Option Sl := match e[i]? with
  | some (some (.val p)) => some (.val p)
  | some (some (.bor p)) => some (.bor p)
  | some (some (.own p)) => if ms.contains (i, j) then some (.own p) else if ms.any (fun z => z.1 == i) then none else some (.bor p)
  | some (some (.loc p)) => if ms.contains (i, j) then some (.own p) else if ms.any (fun z => z.1 == i) then none else some (.bor p)
  | _ => none
noncomputable def capL (e : En) (ms : List (Nat × Nat)) : Nat → List Nat → En
  | _, [] => []
  | j, i :: r => capE e ms i j :: capL e ms (j + 1) r
noncomputable def innE (k : Nat) (cap : List Nat) (ms : List (Nat × Nat)) (e : En) : En := List.replicate k none ++ capL e ms k cap
theorem capL_get {e : En} {ms : List (Nat × Nat)} : ∀ {cap : List Nat} {j q : Nat}, (capL e ms j cap)[q]? = (cap[q]?).map fun i => capE e ms i (j + q)
  | [], j, q => by simp [capL]
  | i :: r, j, 0 => by simp [capL]
  | i :: r, j, q + 1 => by
    rw [capL, List.getElem?_cons_succ, capL_get, List.getElem?_cons_succ]
    congr 1
    funext i
    rw [show j + 1 + q = j + (q + 1) by omega]
theorem capL_len {e : En} {ms : List (Nat × Nat)} : ∀ {cap : List Nat} {j : Nat}, (capL e ms j cap).length = cap.length
  | [], j => rfl
  | i :: r, j => by rw [capL, List.length_cons, List.length_cons, capL_len]
theorem innE_get {k : Nat} {cap : List Nat} {ms : List (Nat × Nat)} {e : En} {j : Nat} {s : Sl} (h : (innE k cap ms e)[j]? = some (some s)) : ∃ q i, j = k + q ∧ cap[q]? = some i ∧ capE e ms i j = some s := by
  unfold innE at h
  by_cases hj : j < k
  · rw [List.getElem?_append_left (by simpa using hj), List.getElem?_replicate] at h
    split at h <;> cases h
  · rw [List.getElem?_append_right (by simpa using hj), List.length_replicate, capL_get] at h
    cases q : cap[j - k]? with
    | none => rw [q] at h; cases h
    | some i =>
      rw [q] at h
      have h' : capE e ms i (k + (j - k)) = some s := Option.some.inj h
      rw [show k + (j - k) = j by omega] at h'
      exact ⟨j - k, i, by omega, q, h'⟩
theorem capSt_at {k : Nat} {cap : List Nat} {σ : St} {q i : Nat} {v : V} (h : cap[q]? = some i) (hv : σ[i]? = some (some v)) : (capSt k cap σ)[k + q]? = some (some v) := by
  unfold capSt
  rw [List.getElem?_append_right (by simp), List.length_replicate, List.getElem?_map, show k + q - k = q by omega, h]
  show some ((σ[i]?).getD none) = _
  rw [hv]; rfl
noncomputable def compM (fg : FG) (ft : FT) (fe : FE) : List PV → En → Option (List PV × En)
  | [], e => some ([], e)
  | x :: xs, e => bO (fg x e) fun e1 => bE (ft e1) fun b e2 => match b with
    | false => compM fg ft fe xs e2
    | true => bE (fe e2) fun r e3 => bO r.put fun p => bE (compM fg ft fe xs e3) fun ys e4 => some (p :: ys, e4)
noncomputable def backE (ei : En) : List (Nat × Nat) → En → Option En
  | [], e => some e
  | (i, j) :: r, e => bO (ownAt ei j) fun p => bO (ownAt e i) fun _ => backE ei r (setOwn e i p)
noncomputable def fComp (fi : FI) (k : Nat) (cap : List Nat) (ms : List (Nat × Nat)) (fg : FG) (ft : FT) (fe : FE) : FE := fun e =>
  bE (fi (fun i => !(ms.any fun z => z.1 == i)) e) fun items e1 => guardP (decide (items.length < 1000000)) (bE (compM fg ft fe items (innE k cap ms e1)) fun ys ei => bO (backE ei ms e1) fun e2 => some (.new (.lst ys), e2))
structure EnPend (K : PySem.W.Frag) (Z : ASet) (W : WS) (L : ASet) (H : Hp) (σ : St) (T : Nat → Prop) (e : En) : Prop where
  len : e.length = σ.length
  at' : ∀ (i : Nat) s, e[i]? = some (some s) → ∃ v, σ[i]? = some (some v) ∧ ((¬ T i ∨ s.mine = false) → SlRep K Z W L H i v s) ∧ (s.mine = true → ∃ a, v = .ref a ∧ ((∃ p, s = .own p ∧ W i a) ∨ ∃ p, s = .loc p ∧ L a))
  dis : ∀ (i j : Nat) s t, i ≠ j → e[i]? = some (some s) → e[j]? = some (some t) → s.mine = true → t.mine = true → σ[i]? ≠ σ[j]?
theorem backE_ok {K : PySem.W.Frag} {Z L : ASet} {W : WS} {H : Hp} {σ : St} {ei : En} : ∀ {ms : List (Nat × Nat)} {e e' : En}, EnPend K Z W L H σ (fun i => ∃ j, (i, j) ∈ ms) e → (∀ i j p a, (i, j) ∈ ms → ownAt ei j = some p → σ[i]? = some (some (.ref a)) → Cont K Z H a p) → backE ei ms e = some e' → EnRep K Z W L H σ e'
  | [], e, e', h, hc, g => by
    cases g
    exact ⟨h.len, fun i s q => let ⟨v, h1, h2, _⟩ := h.at' i s q; ⟨v, h1, h2 (.inl fun ⟨j, z⟩ => nomatch z)⟩, h.dis⟩
  | (i, j) :: r, e, e', h, hc, g => by
    obtain ⟨p, g1, g⟩ := bO_some g
    obtain ⟨p0, g2, g⟩ := bO_some g
    refine backE_ok (e := setOwn e i p) ?_ (fun i' j' p' a' hm => hc i' j' p' a' (List.mem_cons_of_mem _ hm)) g
    have hl : i < e.length := by
      rcases ownAt_some g2 with g | g <;> exact (List.getElem?_eq_some_iff.mp g).1
    have oth : ∀ l, i ≠ l → (setOwn e i p)[l]? = e[l]? := fun l hj => by
      unfold setOwn
      rcases ownAt_some g2 with g | g <;> (rw [g]; exact List.getElem?_set_ne hj)
    have own : ∃ s0 s1 a, e[i]? = some (some s0) ∧ s0.mine = true ∧ (setOwn e i p)[i]? = some (some s1) ∧ σ[i]? = some (some (.ref a)) ∧ SlRep K Z W L H i (.ref a) s1 ∧ ((∃ p, s1 = .own p ∧ W i a) ∨ ∃ p, s1 = .loc p ∧ L a) := by
      rcases ownAt_some g2 with g | g
      · obtain ⟨v, h1, _, h3⟩ := h.at' i _ g
        obtain ⟨a, rfl, h4⟩ := h3 rfl
        have c := hc i j p a List.mem_cons_self g1 h1
        rcases h4 with ⟨q, e1, w⟩ | ⟨q, e1, w⟩
        · exact ⟨_, .own p, a, g, rfl, by unfold setOwn; rw [g]; exact List.getElem?_set_self hl, h1, ⟨a, rfl, w, c⟩, .inl ⟨p, rfl, w⟩⟩
        · cases e1
      · obtain ⟨v, h1, _, h3⟩ := h.at' i _ g
        obtain ⟨a, rfl, h4⟩ := h3 rfl
        have c := hc i j p a List.mem_cons_self g1 h1
        rcases h4 with ⟨q, e1, w⟩ | ⟨q, e1, w⟩
        · cases e1
        · exact ⟨_, .loc p, a, g, rfl, by unfold setOwn; rw [g]; exact List.getElem?_set_self hl, h1, ⟨a, rfl, w, c⟩, .inr ⟨p, rfl, w⟩⟩
    obtain ⟨s0, s1, a, hs0, hm0, hs1, ha, hrep, hwl⟩ := own
    refine ⟨?_, fun l s q => ?_, fun l1 l2 t1 t2 hn q1 q2 m1 m2 => ?_⟩
    · rw [← h.len]; unfold setOwn; rcases ownAt_some g2 with g | g <;> (rw [g]; exact List.length_set)
    · by_cases hil : i = l
      · subst hil
        rw [hs1] at q
        cases q
        exact ⟨_, ha, fun _ => hrep, fun _ => ⟨a, rfl, hwl⟩⟩
      · rw [oth l hil] at q
        obtain ⟨v, h1, h2, h3⟩ := h.at' l s q
        refine ⟨v, h1, fun z => h2 (z.elim (fun z => .inl fun ⟨j', hm⟩ => ?_) .inr), h3⟩
        rcases List.mem_cons.mp hm with hm | hm
        · cases hm; exact hil rfl
        · exact z ⟨j', hm⟩
    · have mine : ∀ (l : Nat) (s : Sl), (setOwn e i p)[l]? = some (some s) → s.mine = true → ∃ s' : Sl, e[l]? = some (some s') ∧ s'.mine = true := fun l s z m => by
        by_cases hj : i = l
        · subst hj; exact ⟨s0, hs0, hm0⟩
        · rw [oth l hj] at z; exact ⟨s, z, m⟩
      obtain ⟨u1, w1, n1⟩ := mine l1 t1 q1 m1
      obtain ⟨u2, w2, n2⟩ := mine l2 t2 q2 m2
      exact h.dis l1 l2 u1 u2 hn w1 w2 n1 n2
theorem backE_mine {ei : En} : ∀ {ms : List (Nat × Nat)} {e e' : En}, backE ei ms e = some e' → ∀ (i : Nat) (s : Sl), e'[i]? = some (some s) → s.mine = true → ∃ s' : Sl, e[i]? = some (some s') ∧ s'.mine = true
  | [], e, e', g => by cases g; exact fun i s h m => ⟨s, h, m⟩
  | (i, j) :: r, e, e', g => by
    obtain ⟨p, g1, g⟩ := bO_some g
    obtain ⟨p0, g2, g⟩ := bO_some g
    intro l s h m
    obtain ⟨s', h', m'⟩ := backE_mine g l s h m
    by_cases hj : i = l
    · subst hj
      rcases ownAt_some g2 with g | g <;> exact ⟨_, g, rfl⟩
    · have oth : (setOwn e i p)[l]? = e[l]? := by
        unfold setOwn
        rcases ownAt_some g2 with g | g <;> (rw [g]; exact List.getElem?_set_ne hj)
      rw [oth] at h'
      exact ⟨s', h', m'⟩
section
variable {K : PySem.W.Frag}
theorem ref_comp {wi : TI} {g : TG} {tt : TT} {te : TE} {fi : FI} {k : Nat} {cap : List Nat} (ms : List (Nat × Nat)) {fg : FG} {ft : FT} {fe : FE} (hms : ∀ i j1 j2, (i, j1) ∈ ms → (i, j2) ∈ ms → j1 = j2) (hms2 : ∀ i1 i2 j, (i1, j) ∈ ms → (i2, j) ∈ ms → i1 = i2) (hi : RefI K wi fi) (hg : RefG K g fg) (ht : RefT K tt ft) (he : Ref K te fe) : Ref K (tComp wi k cap g tt te) (fComp fi k cap ms fg ft fe) := by
  intro O M W L σ H e e' b Q o hen hf q
  obtain ⟨items, e1, f1, hf⟩ := bE_some hf
  obtain ⟨hsz, hf⟩ := guardP_some hf
  obtain ⟨ys, ei, f2, hf⟩ := bE_some hf
  obtain ⟨e2, f3, hf⟩ := bO_some hf
  cases hf
  have hsz := of_decide_eq_true hsz
  refine hi (fun i => !(ms.any fun z => z.1 == i)) O M W L σ H e e1 items _ o hen f1 fun J H1 k1 en it => ?_
  have o1 := o.keep k1.dom
  let W' : WS := ⟨fun j a => ∃ i s, (i, j) ∈ ms ∧ e1[i]? = some (some s) ∧ s.mine = true ∧ σ[i]? = some (some (.ref a)), fun a => H1 a ≠ none⟩
  have whose : ∀ (i : Nat) s a, e1[i]? = some (some s) → s.mine = true → σ[i]? = some (some (.ref a)) → (aw W a ∨ L a) ∧ ∃ ob, H1 a = some ob ∧ ∀ xs, ob ≠ .tup xs := fun i s a hs hm ha => by
    obtain ⟨v, h1, h2⟩ := en.at' i s hs
    rw [ha] at h1
    cases h1
    cases s with
    | val p => cases hm
    | bor p => cases hm
    | own p => obtain ⟨b, e, w, c⟩ := h2; cases e; exact ⟨.inl ⟨i, w⟩, c.there⟩
    | loc p => obtain ⟨b, e, w, c⟩ := h2; cases e; exact ⟨.inr w, c.there⟩
  have wsub : ∀ a, aw W' a → (aw W a ∨ L a) ∧ ∃ ob, H1 a = some ob ∧ ∀ xs, ob ≠ .tup xs := fun a ⟨j, i, s, hm, hs, hmine, ha⟩ => whose i s a hs hmine ha
  have it := it (aw W') (fun a z => (wsub a z).1) fun i a s hst hs hm ha ⟨j, i', s', hm', hs', hmine', ha'⟩ => by
    have ne : i' ≠ i := fun z => by
      subst z
      have : (ms.any fun z => z.1 == i') = true := List.any_eq_true.mpr ⟨(i', j), hm', by simp⟩
      rw [this] at hst
      cases hst
    exact en.dis i' i s' s ne hs' hs hmine' hm (by rw [ha', ha])
  intro l hl
  have zl : ∀ a ob, H1 a = some ob → a ≠ l := fun a ob h => ne_of_none h hl
  let M' : ASet := uni M (uni L (one l))
  let O' : ASet := fun a => H1 a ≠ none ∨ a = l
  have s0 : Same H1 (upd H1 l (.lst [])) := Same.upd hl
  have ML : ∀ a, (aw W a ∨ L a) → uni M L a := fun a z => z.elim (fun ⟨i, w⟩ => .inl (o.wm i a w)) .inr
  have k0 : Stay (uni M L) (uni M' noA) H1 (upd H1 l (.lst [])) := ⟨fun a xs h => s0 _ _ h, fun a ob h n => ⟨s0 _ _ h, fun z => by
    rcases z with (z | z | z) | z
    · exact n (.inl z)
    · exact n (.inr z)
    · exact zl a ob h z
    · exact z⟩⟩
  have okc0 : ∀ H2, (∀ a, H1 a ≠ none ∨ a = l → H2 a ≠ none) → Okc O' M' W' noA H2 := fun H2 d => ⟨d, fun a z => by
      rcases z with z | z | z
      · exact .inl (o1.old a (o1.mo a z))
      · exact .inl (o1.loc a z).1
      · exact .inr z, fun j a z => by
      rcases ML a (wsub a ⟨j, z⟩).1 with z | z
      · exact .inl z
      · exact .inr (.inl z), fun a z => z.elim⟩
  have lenS : (innE k cap ms e1).length = (capSt k cap σ).length := by
    unfold innE capSt
    rw [List.length_append, List.length_append, capL_len, List.length_map, List.length_replicate, List.length_replicate]
  have en0 : EnRep K (uni M' noA) W' noA (upd H1 l (.lst [])) (capSt k cap σ) (innE k cap ms e1) := by
    have lend : ∀ (i : Nat) s p a, e1[i]? = some (some s) → (s = .own p ∨ s = .loc p) → σ[i]? = some (some (.ref a)) → Cont K (uni M L) H1 a p → ¬ (∃ j, (i, j) ∈ ms) → Lent K (uni M' noA) W' noA (upd H1 l (.lst [])) a p := fun i s p a hs hp ha c nm => by
      have hm : s.mine = true := by rcases hp with rfl | rfl <;> rfl
      have nw : ¬ aw W' a := fun ⟨j, i', s', hm', hs', hmine', ha'⟩ => by
        have ne : i' ≠ i := fun z => nm ⟨j, z ▸ hm'⟩
        exact en.dis i' i s' s ne hs' hs hmine' hm (by rw [ha', ha])
      have c' := c.stay k0 fun ob h => s0 _ _ h
      cases c' with
      | lst h r => exact .lst (.inl h) (by obtain ⟨ob, h1, _⟩ := c.there; show H1 a ≠ none; rw [h1]; exact fun z => nomatch z) nw (fun z => z) r
      | dct h kk r => exact .dct (.inl h) (by obtain ⟨ob, h1, _⟩ := c.there; show H1 a ≠ none; rw [h1]; exact fun z => nomatch z) nw (fun z => z) kk r
    have bors : ∀ p a, Lent K (uni M L) W L H1 a p → Lent K (uni M' noA) W' noA (upd H1 l (.lst [])) a p := fun p a c => by
      cases c with
      | lst h od n m r => exact .lst (h.elim (fun h => .inl (s0 _ _ h)) fun ⟨u, h⟩ => .inr ⟨u, s0 _ _ h⟩) (fun z => Rd.ne h z rfl) (fun z => (wsub a z).1.elim n m) (fun z => z) (r.stay k0)
      | klst h r => exact .klst h (r.stay k0)
      | dct h od n m kk r => exact .dct (h.elim (fun h => .inl (s0 _ _ h)) fun ⟨u, h⟩ => .inr ⟨u, s0 _ _ h⟩) (fun z => Rd.ne h z rfl) (fun z => (wsub a z).1.elim n m) (fun z => z) kk (r.stay k0)
    have row : ∀ (i j : Nat) s, capE e1 ms i j = some s → ∃ v, σ[i]? = some (some v) ∧ SlRep K (uni M' noA) W' noA (upd H1 l (.lst [])) j v s ∧ (s.mine = true → (i, j) ∈ ms ∧ ∃ s', e1[i]? = some (some s') ∧ s'.mine = true) := fun i j s h => by
      unfold capE at h
      have nc : ∀ {p : PV}, ms.contains (i, j) = true → (i, j) ∈ ms := fun z => List.contains_iff_mem.mp z
      cases c : e1[i]? with
      | none => rw [c] at h; cases h
      | some s' =>
        cases s' with
        | none => rw [c] at h; cases h
        | some s' =>
          rw [c] at h
          obtain ⟨v, h1, h2⟩ := en.at' i s' c
          refine ⟨v, h1, ?_⟩
          cases s' with
          | val p => cases h; exact ⟨Rep.stay k0 h2, fun z => nomatch z⟩
          | bor p => cases h; obtain ⟨a, e, c⟩ := h2; exact ⟨⟨a, e, bors p a c⟩, fun z => nomatch z⟩
          | own p =>
            obtain ⟨a, e, w, ct⟩ := h2
            subst e
            dsimp only at h
            cases d : ms.contains (i, j) with
            | true =>
              rw [d, if_pos rfl] at h
              cases h
              have hm := List.contains_iff_mem.mp d
              exact ⟨⟨a, rfl, ⟨i, _, hm, c, rfl, h1⟩, ct.stay k0 fun ob h => s0 _ _ h⟩, fun _ => ⟨hm, _, rfl, rfl⟩⟩
            | false =>
              rw [d, if_neg Bool.false_ne_true] at h
              cases d2 : ms.any (fun z => z.1 == i) with
              | true => rw [d2, if_pos rfl] at h; cases h
              | false =>
                rw [d2, if_neg Bool.false_ne_true] at h
                cases h
                refine ⟨⟨a, rfl, lend i _ p a c (.inl rfl) h1 ct fun ⟨j', hm'⟩ => ?_⟩, fun z => nomatch z⟩
                have : (ms.any fun z => z.1 == i) = true := List.any_eq_true.mpr ⟨(i, j'), hm', by simp⟩
                rw [d2] at this
                cases this
          | loc p =>
            obtain ⟨a, e, w, ct⟩ := h2
            subst e
            dsimp only at h
            cases d : ms.contains (i, j) with
            | true =>
              rw [d, if_pos rfl] at h
              cases h
              have hm := List.contains_iff_mem.mp d
              exact ⟨⟨a, rfl, ⟨i, _, hm, c, rfl, h1⟩, ct.stay k0 fun ob h => s0 _ _ h⟩, fun _ => ⟨hm, _, rfl, rfl⟩⟩
            | false =>
              rw [d, if_neg Bool.false_ne_true] at h
              cases d2 : ms.any (fun z => z.1 == i) with
              | true => rw [d2, if_pos rfl] at h; cases h
              | false =>
                rw [d2, if_neg Bool.false_ne_true] at h
                cases h
                refine ⟨⟨a, rfl, lend i _ p a c (.inr rfl) h1 ct fun ⟨j', hm'⟩ => ?_⟩, fun z => nomatch z⟩
                have : (ms.any fun z => z.1 == i) = true := List.any_eq_true.mpr ⟨(i, j'), hm', by simp⟩
                rw [d2] at this
                cases this
    refine ⟨lenS, fun j s hj => ?_, fun j1 j2 s t hn h1 h2 m1 m2 => ?_⟩
    · obtain ⟨q, i, rfl, hc, hs⟩ := innE_get hj
      obtain ⟨v, h1, h2, _⟩ := row i _ s hs
      exact ⟨v, capSt_at hc h1, h2⟩
    · obtain ⟨q1, i1, rfl, c1, hs1⟩ := innE_get h1
      obtain ⟨q2, i2, rfl, c2, hs2⟩ := innE_get h2
      obtain ⟨v1, a1, _, b1⟩ := row i1 _ s hs1
      obtain ⟨v2, a2, _, b2⟩ := row i2 _ t hs2
      obtain ⟨w1, s1, d1, n1⟩ := b1 m1
      obtain ⟨w2, s2, d2, n2⟩ := b2 m2
      rw [capSt_at c1 a1, capSt_at c2 a2]
      have ne : i1 ≠ i2 := fun z => by subst z; exact hn (hms _ _ _ w1 w2)
      have := en.dis i1 i2 s1 s2 ne d1 d2 n1 n2
      rw [a1, a2] at this
      exact this
  have dl : ∀ a xs, H1 a = some (.tup xs) → a ≠ l := fun a xs h => zl a _ h
  let N : Nat → St → Hp → Prop := fun i σ' H' => ∃ ei' acc rest vs, Keep W' (one l) (upd H1 l (.lst [])) H' ∧ H' l = some (.lst vs) ∧ RepL K (uni M' noA) H' acc vs ∧ EnRep K (uni M' noA) W' noA H' σ' ei' ∧ acc.length ≤ i ∧
    compM fg ft fe (items.drop i) ei' = some (rest, ei) ∧ ys = acc ++ rest
  have k0' : ∀ H', Keep W' (one l) (upd H1 l (.lst [])) H' → ∀ a, H1 a ≠ none ∨ a = l → H' a ≠ none := fun H' kk a z => kk.dom a (by
    rcases z with z | z
    · cases e : H1 a with
      | none => exact absurd e z
      | some u => rw [s0 _ _ e]; exact fun z => nomatch z
    · rw [z, upd_same]; exact fun z => nomatch z)
  refine ⟨fun i m σ' H' => m = items.length - i ∧ i ≤ items.length ∧ N i σ' H', ⟨items.length, by simp, Nat.zero_le _, innE k cap ms e1, [], ys, [], .refl, upd_same, .nil, en0, Nat.le_refl _, by rw [List.drop_zero]; exact f2, rfl⟩, ?_⟩
  rintro i m σ2 H2 ⟨rfl, hil, ei2, acc, rest, vs, kk, hl2, ra, en2, hacc, f4, hys⟩
  have oki := okc0 H2 (k0' H2 kk)
  obtain ⟨itm, its⟩ := it (uni L (one l)) H2 (fun a ob h n => kk.obj a ob (s0 _ _ h) n (zl a ob h)) (fun a xs h => kk.tup a xs (s0 _ _ h)) (fun a z => z.elim .inl fun z => .inr (by rw [show a = l from z]; exact hl))
  by_cases hlt : i < items.length
  · refine .inr ?_
    obtain ⟨go, yl⟩ := itm i items[i] (by simp [hlt])
    refine ⟨go, N (i + 1), fun σ' H' n => ⟨items.length - (i + 1), by omega, rfl, hlt, n⟩, fun x H3 y => ?_⟩
    obtain ⟨s3, rp⟩ := yl x H3 y
    rw [List.drop_eq_getElem_cons hlt] at f4
    obtain ⟨e4, c1, f4⟩ := bO_some f4
    have oki3 := oki.keep (H' := H3) (Keep.same (W := W') (L := noA) s3).dom
    have rp' : Rep K (uni M' noA) H3 items[i] x := rp.stay (.less fun a z => z.elim id fun z => z.elim)
    refine hg O' M' W' noA σ2 H3 ei2 e4 _ x _ oki3 (en2.same s3) rp' c1 fun σ3 en3 => ?_
    obtain ⟨b, e5, c2, f4⟩ := bE_some f4
    refine ht O' M' W' noA σ3 H3 e4 e5 b _ oki3 en3 c2 fun H4 k4 en4 => ?_
    have oki4 := oki3.keep k4.dom
    have nlw : ¬ aw W' l := fun z => by obtain ⟨_, ob, h, _⟩ := wsub l z; rw [hl] at h; cases h
    have kL : ∀ {A B : Hp}, Keep W' noA A B → Keep W' (one l) A B := fun k => ⟨fun a ob h n m => k.obj a ob h n fun z => z, k.tup, k.dom⟩
    have st : ∀ {A B : Hp}, Keep W' noA A B → Okc O' M' W' noA A → Stay (uni M' noA) (uni M' noA) A B := fun k ok => k.stay ok
    have k34 : Keep W' noA H2 H4 := (Keep.same s3).trans k4
    cases b with
    | false =>
      rw [if_neg Bool.false_ne_true]
      exact ⟨e5, acc, rest, vs, kk.trans (kL k34), k34.obj l _ hl2 nlw (fun z => z), ra.stay (st k34 oki), en4, Nat.le_succ_of_le hacc, f4, hys⟩
    | true =>
      rw [if_pos rfl]
      obtain ⟨rv, e6, c3, f4⟩ := bE_some f4
      obtain ⟨p, c4, f4⟩ := bO_some f4
      obtain ⟨rest', e7, c5, f4⟩ := bE_some f4
      cases f4
      refine he O' M' W' noA σ3 H4 e5 e6 rv _ oki4 en4 c3 fun v H5 k5 rb fr => ?_
      have oki5 := oki4.keep k5.dom
      obtain ⟨en5, rp5⟩ := rb.put oki5 c4
      have k35 : Keep W' noA H2 H5 := k34.trans k5
      have hl5 := k35.obj l _ hl2 nlw (fun z => z)
      have ra5 := ra.stay (st k35 oki)
      refine ⟨vs, hl5, szt (by have := ra.length; omega), ?_⟩
      have stw : Stay (uni M' noA) (uni M' noA) H5 (upd H5 l (.lst (vs ++ [v]))) := .write (.inl (.inr (.inr rfl))) hl5 fun _ z => nomatch z
      have kw : Keep W' (one l) H5 (upd H5 l (.lst (vs ++ [v]))) := .write (.inr rfl) hl5 fun _ z => nomatch z
      refine ⟨e6, acc ++ [p], rest', vs ++ [v], (kk.trans (kL k35)).trans kw, upd_same, (ra5.stay stw).app (.cons (rp5.stay stw) .nil), ?_, by rw [List.length_append]; exact Nat.succ_le_succ hacc, c5, by rw [hys, List.append_assoc]; rfl⟩
      refine ⟨en5.len, fun j s hj => ?_, en5.dis⟩
      obtain ⟨u, g1, g2⟩ := en5.at' j s hj
      refine ⟨u, g1, ?_⟩
      cases s with
      | val p => exact Rep.stay stw g2
      | own p =>
        obtain ⟨a, e, w, c⟩ := g2
        exact ⟨a, e, w, c.stay stw fun ob h => by rw [upd_ne (fun z : a = l => nlw (by rw [← z]; exact ⟨j, w⟩))]; exact h⟩
      | loc p => obtain ⟨a, e, w, c⟩ := g2; exact w.elim
      | bor p =>
        obtain ⟨a, e, c⟩ := g2
        refine ⟨a, e, ?_⟩
        have ne : W'.old a → a ≠ l := fun od z => od (by rw [z]; exact hl)
        cases c with
        | lst h od n m r => exact .lst (h.elim (fun h => .inl (by rw [upd_ne (ne od)]; exact h)) fun ⟨u, h⟩ => .inr ⟨u, by rw [upd_ne (ne od)]; exact h⟩) od n m (r.stay stw)
        | klst h r => exact .klst h (r.stay stw)
        | dct h od n m kk r => exact .dct (h.elim (fun h => .inl (by rw [upd_ne (ne od)]; exact h)) fun ⟨u, h⟩ => .inr ⟨u, by rw [upd_ne (ne od)]; exact h⟩) od n m kk (r.stay stw)
  · have e : i = items.length := by omega
    subst e
    rw [List.drop_length] at f4
    cases f4
    rw [List.append_nil] at hys
    subst hys
    have kout : Keep W L H1 H2 := ⟨fun a ob h n m => kk.obj a ob (s0 _ _ h) (fun z => (wsub a z).1.elim n m) (zl a ob h), fun a xs h => kk.tup a xs (s0 _ _ h), fun a h => k0' H2 kk a (.inl h)⟩
    have kf : Stay (uni M L) (uni M (uni L (one l))) H1 H2 := ⟨kout.tup, fun a ob h n => ⟨kk.obj a ob (s0 _ _ h) (fun z => n (ML a (wsub a z).1)) (zl a ob h), fun z => by
      rcases z with z | z | z
      · exact n (.inl z)
      · exact n (.inr z)
      · exact zl a ob h z⟩⟩
    have pend : EnPend K (uni M (uni L (one l))) W (uni L (one l)) H2 σ (fun i => ∃ j, (i, j) ∈ ms) e1 := by
      refine ⟨en.len, fun i s hs => ?_, en.dis⟩
      obtain ⟨v, h1, h2⟩ := en.at' i s hs
      have keepM : ∀ a, s.mine = true → ¬ (∃ j, (i, j) ∈ ms) → v = .ref a → ∀ ob, H1 a = some ob → H2 a = some ob := fun a hm nt ev ob h => by
        subst ev
        refine kk.obj a ob (s0 _ _ h) (fun ⟨j, i', s', hm', hs', hmine', ha'⟩ => ?_) (zl a ob h)
        have ne : i' ≠ i := fun z => nt ⟨j, z ▸ hm'⟩
        exact en.dis i' i s' s ne hs' hs hmine' hm (by rw [ha', h1])
      refine ⟨v, h1, fun z => ?_, fun hm => ?_⟩
      · cases s with
        | val p => exact Rep.stay kf h2
        | own p =>
          obtain ⟨a, e, w, c⟩ := h2
          exact ⟨a, e, w, c.stay kf fun ob h => keepM a rfl (z.elim id fun z => nomatch z) e ob h⟩
        | loc p =>
          obtain ⟨a, e, w, c⟩ := h2
          exact ⟨a, e, .inl w, c.stay kf fun ob h => keepM a rfl (z.elim id fun z => nomatch z) e ob h⟩
        | bor p =>
          obtain ⟨a, e, c⟩ := h2
          refine ⟨a, e, ?_⟩
          cases c with
          | lst h od n m r => exact .lst (h.elim (fun h => .inl (kout.obj _ _ h n m)) fun ⟨u, h⟩ => .inr ⟨u, kout.obj _ _ h n m⟩) od n (fun z => z.elim m (Rd.ne h hl)) (r.stay kf)
          | klst h r => exact .klst h (r.stay kf)
          | dct h od n m kk r => exact .dct (h.elim (fun h => .inl (kout.obj _ _ h n m)) fun ⟨u, h⟩ => .inr ⟨u, kout.obj _ _ h n m⟩) od n (fun z => z.elim m (Rd.ne h hl)) kk (r.stay kf)
      · cases s with
        | val p => cases hm
        | bor p => cases hm
        | own p => obtain ⟨a, e, w, c⟩ := h2; exact ⟨a, e, .inl ⟨p, rfl, w⟩⟩
        | loc p => obtain ⟨a, e, w, c⟩ := h2; exact ⟨a, e, .inr ⟨p, rfl, .inl w⟩⟩
    have enf : EnRep K (uni M (uni L (one l))) W (uni L (one l)) H2 σ e' := backE_ok pend (fun i j p a hm hp ha => by
      rcases ownAt_some hp with g | g
      · obtain ⟨v, h1, a', rfl, ⟨i', s', hm', _, _, ha'⟩, c⟩ := en2.at' j _ g
        have ei := hms2 i i' j hm hm'
        subst ei
        rw [ha] at ha'
        cases ha'
        exact c.stay (.less fun a z => .inl z) fun _ h => h
      · obtain ⟨v, h1, a', rfl, w, c⟩ := en2.at' j _ g
        exact w.elim) f3
    refine .inl ⟨its, q _ _ (k1.trans kout) ⟨l, rfl, fun z => o1.old l z hl, fun z => (o1.loc l z).1 hl, enf, fun i s hs hm e => ?_, .lst hl2 (ra.stay (.less fun a z => .inl z))⟩ (Fr.back (b := .new (.lst _)) k1.dom fun a e => by cases e; exact hl)⟩
    obtain ⟨s', hs', hm'⟩ := backE_mine f3 i s hs hm
    obtain ⟨_, ob, h, _⟩ := whose i s' l hs' hm' e
    rw [hl] at h
    cases h
end
end Mr
set_option Elab.async false
set_option linter.all false
set_option maxRecDepth 100000
set_option maxHeartbeats 4000000
namespace Mr
open PySem L2
inductive Kd where
  | v | b | m
  deriving DecidableEq
noncomputable def slOf : Kd → PV → Sl
  | .v, p => .val p
  | .m, p => .own p
  | .b, .lst ps => .bor (.lst ps)
  | .b, .dct ps => .bor (.dct ps)
  | .b, p => .val p
noncomputable def env0 : List Kd → List PV → En
  | k :: ks, p :: ps => some (slOf k p) :: env0 ks ps
  | _, _ => []
noncomputable def wsOf (ks : List Kd) (vs : List V) (H : Hp) : WS := ⟨fun i a => ks[i]? = some .m ∧ vs[i]? = some (.ref a), fun a => H a ≠ none⟩
noncomputable def mVs : List Kd → List V → List V
  | .m :: ks, v :: vs => v :: mVs ks vs
  | _ :: ks, _ :: vs => mVs ks vs
  | _, _ => []
noncomputable def MutOk (K : PySem.W.Frag) (Z : ASet) (H : Hp) (ks : List Kd) (vs : List V) (qs : List PV) : Prop := ∀ (n : Nat) v q, (mVs ks vs)[n]? = some v → qs[n]? = some q → ∃ a, v = .ref a ∧ Cont K Z H a q
noncomputable def ResOk (K : PySem.W.Frag) (M : ASet) (H H' : Hp) (ks : List Kd) (vs : List V) (r : PV) (qs : List PV) (v : V) : Bool → Prop
  | false => Rep K M H' r v ∧ MutOk K M H' ks vs qs
  | true => ∃ a, v = .ref a ∧ H a = none ∧ Cont K (uni M (one a)) H' a r ∧ MutOk K (uni M (one a)) H' ks vs qs
noncomputable abbrev FN := List PV → Option (PV × List PV)
noncomputable def spM (K : PySem.W.Frag) (ks : List Kd) (fr : Bool) (f : FN) : Sp := fun vs H Q _ => ∃ (M : ASet) (ps : List PV) (r : PV) (qs : List PV), (∀ a, M a → H a ≠ none) ∧ vs.length = ks.length ∧ ps.length = ks.length ∧
  (∀ (i : Nat) k p v, ks[i]? = some k → ps[i]? = some p → vs[i]? = some v → SlRep K M (wsOf ks vs H) noA H i v (slOf k p)) ∧
  (∀ (i j : Nat), i ≠ j → ks[i]? = some .m → ks[j]? = some .m → vs[i]? ≠ vs[j]?) ∧ (∀ i a, wsOf ks vs H i a → M a) ∧
  f ps = some (r, qs) ∧ ∀ v H', Keep (wsOf ks vs H) noA H H' → ResOk K M H H' ks vs r qs v fr → Q v H'
noncomputable def resP (e : En) : Bool → Bv → Option PV
  | false, .val p => some p
  | _, .new p => some p
  | _, .slot i => match e[i]? with
    | some (some (.loc p)) => some p
    | _ => none
  | true, .val _ => none
noncomputable def mutsF (e : En) : Nat → List Kd → Option (List PV)
  | _, [] => some []
  | j, .m :: ks => match e[j]? with
    | some (some (.own q)) => bO (mutsF e (j + 1) ks) fun qs => some (q :: qs)
    | _ => none
  | j, _ :: ks => mutsF e (j + 1) ks
noncomputable def finM (ks : List Kd) (fr : Bool) : Out → Option (PV × List PV)
  | .rt b e => bO (resP e fr b) fun r => bO (mutsF e 0 ks) fun qs => some (r, qs)
  | .nx e => match fr with
    | false => bO (mutsF e 0 ks) fun qs => some (.non, qs)
    | true => none
  | _ => none
noncomputable def fnM (ks : List Kd) (nl : Nat) (fr : Bool) (g : FS) : FN := fun ps => bO (g (env0 ks ps ++ List.replicate nl none)) (finM ks fr)
theorem env0_get : ∀ {ks : List Kd} {ps : List PV} {i : Nat} {s : Sl}, (env0 ks ps)[i]? = some (some s) → ∃ k p, ks[i]? = some k ∧ ps[i]? = some p ∧ s = slOf k p
  | [], ps, i, s, h => by simp [env0] at h
  | k :: ks, [], i, s, h => by simp [env0] at h
  | k :: ks, p :: ps, 0, s, h => by simp [env0] at h; exact ⟨k, p, rfl, rfl, h.symm⟩
  | k :: ks, p :: ps, i + 1, s, h => by
    rw [env0, List.getElem?_cons_succ] at h
    obtain ⟨k', p', h1, h2, h3⟩ := env0_get h
    exact ⟨k', p', by simpa using h1, by simpa using h2, h3⟩
theorem env0_len : ∀ {ks : List Kd} {ps : List PV}, ps.length = ks.length → (env0 ks ps).length = ks.length
  | [], ps, h => rfl
  | k :: ks, [], h => by simp at h
  | k :: ks, p :: ps, h => by rw [env0, List.length_cons, List.length_cons, env0_len (by simpa using h)]
theorem mutsF_get {e : En} : ∀ {ks : List Kd} {vs : List V} {j : Nat} {qs : List PV} {n : Nat} {v : V} {q : PV}, mutsF e j ks = some qs → (mVs ks vs)[n]? = some v → qs[n]? = some q → ∃ i, ks[i]? = some .m ∧ vs[i]? = some v ∧ e[j + i]? = some (some (.own q))
  | [], vs, j, qs, n, v, q, h, h1, h2 => by cases h; simp at h2
  | .m :: ks, [], j, qs, n, v, q, h, h1, h2 => by simp [mVs] at h1
  | .v :: ks, [], j, qs, n, v, q, h, h1, h2 => by simp [mVs] at h1
  | .b :: ks, [], j, qs, n, v, q, h, h1, h2 => by simp [mVs] at h1
  | .v :: ks, x :: vs, j, qs, n, v, q, h, h1, h2 => by
    obtain ⟨i, a, b, c⟩ := mutsF_get (ks := ks) (vs := vs) (j := j + 1) h h1 h2
    exact ⟨i + 1, by simpa using a, by simpa using b, by rw [show j + (i + 1) = j + 1 + i by omega]; exact c⟩
  | .b :: ks, x :: vs, j, qs, n, v, q, h, h1, h2 => by
    obtain ⟨i, a, b, c⟩ := mutsF_get (ks := ks) (vs := vs) (j := j + 1) h h1 h2
    exact ⟨i + 1, by simpa using a, by simpa using b, by rw [show j + (i + 1) = j + 1 + i by omega]; exact c⟩
  | .m :: ks, x :: vs, j, qs, n, v, q, h, h1, h2 => by
    unfold mutsF at h
    split at h
    · rename_i q0 he
      obtain ⟨qs', g, h⟩ := bO_some h
      cases h
      cases n with
      | zero =>
        simp [mVs] at h1 h2
        subst h1 h2
        exact ⟨0, rfl, rfl, he⟩
      | succ n =>
        obtain ⟨i, a, b, c⟩ := mutsF_get (ks := ks) (vs := vs) (j := j + 1) g (by simpa [mVs] using h1) (by simpa using h2)
        exact ⟨i + 1, by simpa using a, by simpa using b, by rw [show j + (i + 1) = j + 1 + i by omega]; exact c⟩
    · cases h
section
variable {K : PySem.W.Frag}
theorem SlRep.noA {M L : ASet} {W : WS} {H : Hp} {i : Nat} {v : V} {s : Sl} (h : SlRep K M W L H i v s) : SlRep K (uni M noA) W L H i v s := by
  have k : Stay M (uni M Mr.noA) H H := .less fun a z => z.elim id fun z => z.elim
  cases s with
  | val p => exact Rep.stay k h
  | own p => obtain ⟨a, e, w, c⟩ := h; exact ⟨a, e, w, c.stay k fun _ h => h⟩
  | loc p => obtain ⟨a, e, w, c⟩ := h; exact ⟨a, e, w, c.stay k fun _ h => h⟩
  | bor p =>
    obtain ⟨a, e, c⟩ := h
    refine ⟨a, e, ?_⟩
    cases c with
    | lst e od n m r => exact .lst e od n m (r.stay k)
    | klst e r => exact .klst e (r.stay k)
    | dct e od n m kk r => exact .dct e od n m kk (r.stay k)
theorem def_ok {ks : List Kd} {nl : Nat} {fr : Bool} {t : TS} {g : FS} {N : List Str} (h : RefS K t g) (hN : N.length = ks.length + nl) {vs : List V} {H : Hp} {Q : VK} {E : XK} (hs : spM K ks fr (fnM ks nl fr g) vs H Q E) : t { nx := fun _ H' => Q .non H', rt := Q } (L2.start N vs) H := by
  obtain ⟨M, ps, r, qs, hM, hvl, hpl, har, hdis, hwm, hf, q⟩ := hs
  obtain ⟨out, g1, hf⟩ := bO_some hf
  let O : ASet := fun a => H a ≠ none
  have o : Okc O M (wsOf ks vs H) noA H := ⟨fun a h => h, hM, hwm, fun a z => z.elim⟩
  have hvN : N.length - vs.length = nl := by omega
  have st : ∀ (i : Nat) v, vs[i]? = some v → (L2.start N vs)[i]? = some (some v) := fun i v hv => by
    unfold L2.start
    have hi := (List.getElem?_eq_some_iff.mp hv).1
    rw [List.getElem?_append_left (by simpa using hi), List.getElem?_map, hv]
    rfl
  have sl : ∀ (i : Nat) s, (env0 ks ps ++ List.replicate nl none)[i]? = some (some s) → ∃ k p v, ks[i]? = some k ∧ ps[i]? = some p ∧ vs[i]? = some v ∧ s = slOf k p := fun i s hi => by
    by_cases hl : i < (env0 ks ps).length
    · rw [List.getElem?_append_left hl] at hi
      obtain ⟨k, p, h1, h2, h3⟩ := env0_get hi
      have : i < vs.length := by have := (List.getElem?_eq_some_iff.mp h1).1; omega
      exact ⟨k, p, vs[i], h1, h2, by simp, h3⟩
    · rw [List.getElem?_append_right (by omega), List.getElem?_replicate] at hi
      split at hi <;> cases hi
  have mk : ∀ k p, (slOf k p).mine = true → k = .m := fun k p hm => by
    cases k with
    | v => cases hm
    | m => rfl
    | b => cases p <;> cases hm
  have en : EnRep K (uni M noA) (wsOf ks vs H) noA H (L2.start N vs) (env0 ks ps ++ List.replicate nl none) := by
    refine ⟨?_, fun i s hi => ?_, fun i j s s' hij h1 h2 m1 m2 => ?_⟩
    · unfold L2.start
      rw [List.length_append, List.length_append, List.length_replicate, List.length_replicate, env0_len hpl, List.length_map, hvN, hvl]
    · obtain ⟨k, p, v, h1, h2, h3, rfl⟩ := sl i s hi
      exact ⟨v, st i v h3, (har i k p v h1 h2 h3).noA⟩
    · obtain ⟨k, p, v, a1, a2, a3, rfl⟩ := sl i s h1
      obtain ⟨k', p', v', b1, b2, b3, rfl⟩ := sl j s' h2
      rw [st i v a3, st j v' b3]
      have e1 := mk _ _ m1
      have e2 := mk _ _ m2
      subst e1 e2
      have := hdis i j hij a1 b1
      rw [a3, b3] at this
      exact fun z => this (by cases z; rfl)
  have gk : ∀ {L' : ASet} {H' : Hp}, Grow (wsOf ks vs H) noA L' H H' → Keep (wsOf ks vs H) noA H H' := fun gr => ⟨gr.obj, gr.tup, gr.dom⟩
  have mu : ∀ {Z Zf : ASet} {L' : ASet} {H' : Hp} {σ' : St} {e' : En} {qs : List PV}, EnRep K Z (wsOf ks vs H) L' H' σ' e' → (∀ a, Zf a → Z a) → mutsF e' 0 ks = some qs → MutOk K Zf H' ks vs qs := fun en' hz hm n v q' h1 h2 => by
    obtain ⟨i, a1, a2, a3⟩ := mutsF_get hm h1 h2
    rw [Nat.zero_add] at a3
    obtain ⟨u, h3, a, rfl, ⟨_, w⟩, c⟩ := en'.at' i _ a3
    rw [a2] at w
    cases w
    exact ⟨a, rfl, c.stay (.less hz) fun _ h => h⟩
  refine h O M (wsOf ks vs H) noA (L2.start N vs) H _ out _ o en g1 ?_
  cases out with
  | bk e' => cases hf
  | ct e' => cases hf
  | nx e' =>
    cases fr with
    | true => cases hf
    | false =>
      obtain ⟨qs', g2, hf⟩ := bO_some hf
      cases hf
      exact fun L' σ' H' gr o' en' => q .non H' (gk gr) ⟨.non, mu en' (fun a z => .inl z) g2⟩
  | rt b e' =>
    obtain ⟨r', g2, hf⟩ := bO_some hf
    obtain ⟨qs', g3, hf⟩ := bO_some hf
    cases hf
    intro L' σ' H' v gr o' rb
    refine q v H' (gk gr) ?_
    cases b with
    | val p =>
      cases fr with
      | true => cases g2
      | false =>
        cases g2
        exact ⟨rb.2.stay (.less fun a z => .inl z), mu rb.1 (fun a z => .inl z) g3⟩
    | new p =>
      cases fr with
      | false =>
        cases g2
        have rb := rb.weak o'
        exact ⟨Rep.stay (.less fun a z => .inl z) rb.2, mu rb.1 (fun a z => .inl z) g3⟩
      | true =>
        cases g2
        obtain ⟨a, rfl, n1, n2, en', fe, c⟩ := rb
        exact ⟨a, rfl, Classical.byContradiction n1, c.stay (.less fun a z => z.elim .inl fun z => .inr (.inr z)) fun _ h => h, mu en' (fun a z => z.elim .inl fun z => .inr (.inr z)) g3⟩
    | slot i =>
      have g2' : (match e'[i]? with | some (some (.loc p)) => some p | _ => none) = some r := by
        cases fr <;> exact g2
      cases c : e'[i]? with
      | none => rw [c] at g2'; cases g2'
      | some s =>
        cases s with
        | none => rw [c] at g2'; cases g2'
        | some s =>
          rw [c] at g2'
          cases s with
          | loc p =>
            cases g2'
            obtain ⟨u, h1, a, rfl, la, ct⟩ := rb.1.at' i _ c
            have := rb.2
            rw [h1] at this
            cases this
            have nO : H a = none := Classical.byContradiction (o'.loc a la).2
            cases fr with
            | false => exact ⟨(ct.stay (.less fun a z => .inl z) fun _ h => h).rep fun z => absurd nO (hM a z), mu rb.1 (fun a z => .inl z) g3⟩
            | true => exact ⟨a, rfl, nO, ct.stay (.less fun b z => z.elim .inl fun z => .inr (by rw [show b = a from z]; exact la)) fun _ h => h, mu rb.1 (fun b z => z.elim .inl fun z => .inr (by rw [show b = a from z]; exact la)) g3⟩
          | _ => cases g2'
noncomputable def argOne (e : En) : Kd → Bv → Option PV
  | .v, b => b.put
  | .b, b => b.get e
  | .m, .slot i => ownAt e i
  | .m, _ => none
noncomputable def argP (e : En) : List Kd → List Bv → Option (List PV)
  | [], [] => some []
  | k :: ks, b :: bs => bO (argOne e k b) fun p => bO (argP e ks bs) fun ps => some (p :: ps)
  | _, _ => none
noncomputable def mSlots : List Kd → List Bv → List Nat
  | .m :: ks, .slot i :: bs => i :: mSlots ks bs
  | _ :: ks, _ :: bs => mSlots ks bs
  | _, _ => []
noncomputable def bSlots : List Kd → List Bv → List Nat
  | .b :: ks, .slot i :: bs => i :: bSlots ks bs
  | _ :: ks, _ :: bs => bSlots ks bs
  | _, _ => []
noncomputable def resB (r : PV) : Bool → Bv
  | true => .new r
  | false => .val r
noncomputable def fCall (ks : List Kd) (fr : Bool) (f : FN) (fa : FA) : FE := fun e => bE (fa e) fun bs e1 => bO (argP e1 ks bs) fun ps =>
  guardP (decide ((mSlots ks bs).Nodup) && (bSlots ks bs).all fun i => !(mSlots ks bs).contains i) (bO (f ps) fun rq => bO (backE (rq.2.map fun q => some (.own q)) (mSlots ks bs).zipIdx e1) fun e2 => some (resB rq.1 fr, e2))
theorem argP_get {e : En} : ∀ {ks : List Kd} {bs : List Bv} {ps : List PV}, argP e ks bs = some ps → ps.length = ks.length ∧ bs.length = ks.length ∧ ∀ (i : Nat) k b p, ks[i]? = some k → bs[i]? = some b → ps[i]? = some p → argOne e k b = some p
  | [], [], ps, h => by cases h; exact ⟨rfl, rfl, fun i k b p h => by simp at h⟩
  | [], _ :: _, ps, h => by cases h
  | _ :: _, [], ps, h => by cases h
  | k :: ks, b :: bs, ps, h => by
    obtain ⟨p, g1, h⟩ := bO_some h
    obtain ⟨ps', g2, h⟩ := bO_some h
    cases h
    obtain ⟨a1, a2, a3⟩ := argP_get g2
    refine ⟨by rw [List.length_cons, List.length_cons, a1], by rw [List.length_cons, List.length_cons, a2], fun i k' b' p' h1 h2 h3 => ?_⟩
    cases i with
    | zero => simp at h1 h2 h3; subst h1 h2 h3; exact g1
    | succ i => exact a3 i k' b' p' (by simpa using h1) (by simpa using h2) (by simpa using h3)
theorem RVs.get {Z : ASet} {H : Hp} {σ : St} : ∀ {bs : List Bv} {vs : List V} {i : Nat} {v : V}, RVs K Z H σ bs vs → vs[i]? = some v → ∃ b, bs[i]? = some b ∧ RV K Z H σ v b
  | _, _, _, _, .nil, h => by simp at h
  | _, _, 0, _, .cons h _, e => by simp at e; subst e; exact ⟨_, rfl, h⟩
  | _, _, i + 1, _, .cons _ r, e => by
    obtain ⟨b, h1, h2⟩ := RVs.get (i := i) r (by simpa using e)
    exact ⟨b, by simpa using h1, h2⟩
theorem RVs.length {Z : ASet} {H : Hp} {σ : St} : ∀ {bs : List Bv} {vs : List V}, RVs K Z H σ bs vs → bs.length = vs.length
  | _, _, .nil => rfl
  | _, _, .cons _ r => by rw [List.length_cons, List.length_cons, RVs.length r]
theorem mSlots_in : ∀ {ks : List Kd} {bs : List Bv} {i j : Nat}, ks[i]? = some .m → bs[i]? = some (.slot j) → ∃ n : Nat, (mSlots ks bs)[n]? = some j
  | [], bs, i, j, h, _ => by simp at h
  | k :: ks, [], i, j, _, h => by simp at h
  | k :: ks, b :: bs, 0, j, h1, h2 => by simp at h1 h2; subst h1 h2; exact ⟨0, rfl⟩
  | k :: ks, b :: bs, i + 1, j, h1, h2 => by
    obtain ⟨n, h⟩ := mSlots_in (ks := ks) (bs := bs) (i := i) (by simpa using h1) (by simpa using h2)
    cases k with
    | v => exact ⟨n, h⟩
    | b => exact ⟨n, h⟩
    | m =>
      cases b with
      | val p => exact ⟨n, h⟩
      | new p => exact ⟨n, h⟩
      | slot l => exact ⟨n + 1, by simpa [mSlots] using h⟩
theorem bSlots_in : ∀ {ks : List Kd} {bs : List Bv} {i j : Nat}, ks[i]? = some .b → bs[i]? = some (.slot j) → j ∈ bSlots ks bs
  | [], bs, i, j, h, _ => by simp at h
  | k :: ks, [], i, j, _, h => by simp at h
  | k :: ks, b :: bs, 0, j, h1, h2 => by simp at h1 h2; subst h1 h2; exact List.mem_cons_self
  | k :: ks, b :: bs, i + 1, j, h1, h2 => by
    have h := bSlots_in (ks := ks) (bs := bs) (i := i) (j := j) (by simpa using h1) (by simpa using h2)
    cases k with
    | v => exact h
    | m => exact h
    | b =>
      cases b with
      | val p => exact h
      | new p => exact h
      | slot l => exact List.mem_cons_of_mem _ h
theorem mSlots_two : ∀ {ks : List Kd} {bs : List Bv} {i1 i2 j : Nat}, (mSlots ks bs).Nodup → i1 ≠ i2 → ks[i1]? = some .m → ks[i2]? = some .m → bs[i1]? = some (.slot j) → bs[i2]? = some (.slot j) → False
  | [], bs, i1, i2, j, _, _, h, _, _, _ => by simp at h
  | k :: ks, [], i1, i2, j, _, _, _, _, h, _ => by simp at h
  | k :: ks, b :: bs, 0, 0, j, _, n, _, _, _, _ => n rfl
  | k :: ks, b :: bs, 0, i2 + 1, j, nd, n, h1, h2, h3, h4 => by
    simp at h1 h3
    subst h1 h3
    obtain ⟨q, h⟩ := mSlots_in (ks := ks) (bs := bs) (i := i2) (j := j) (by simpa using h2) (by simpa using h4)
    rw [mSlots, List.nodup_cons] at nd
    exact nd.1 (List.mem_of_getElem? h)
  | k :: ks, b :: bs, i1 + 1, 0, j, nd, n, h1, h2, h3, h4 => by
    simp at h2 h4
    subst h2 h4
    obtain ⟨q, h⟩ := mSlots_in (ks := ks) (bs := bs) (i := i1) (j := j) (by simpa using h1) (by simpa using h3)
    rw [mSlots, List.nodup_cons] at nd
    exact nd.1 (List.mem_of_getElem? h)
  | k :: ks, b :: bs, i1 + 1, i2 + 1, j, nd, n, h1, h2, h3, h4 => by
    refine mSlots_two (ks := ks) (bs := bs) (i1 := i1) (i2 := i2) (j := j) ?_ (fun z => n (by rw [z])) (by simpa using h1) (by simpa using h2) (by simpa using h3) (by simpa using h4)
    cases k with
    | v => exact nd
    | b => exact nd
    | m =>
      cases b with
      | val p => exact nd
      | new p => exact nd
      | slot l => rw [mSlots, List.nodup_cons] at nd; exact nd.2
theorem mSlots_v {Z : ASet} {H : Hp} {σ : St} {e : En} : ∀ {ks : List Kd} {bs : List Bv} {vs : List V} {ps : List PV} {n j : Nat}, RVs K Z H σ bs vs → argP e ks bs = some ps → (mSlots ks bs)[n]? = some j → ∃ v, (mVs ks vs)[n]? = some v ∧ σ[j]? = some (some v)
  | [], bs, vs, ps, n, j, r, g, h => by cases bs <;> simp [mSlots] at h
  | k :: ks, [], vs, ps, n, j, r, g, h => by simp [mSlots] at h
  | k :: ks, b :: bs, vs, ps, n, j, r, g, h => by
    obtain ⟨p, g1, g⟩ := bO_some g
    obtain ⟨ps', g2, g⟩ := bO_some g
    cases r with
    | cons h0 r =>
      cases k with
      | v => exact mSlots_v (ks := ks) r g2 (by simpa [mSlots] using h)
      | b => exact mSlots_v (ks := ks) r g2 (by simpa [mSlots] using h)
      | m =>
        cases b with
        | val p => cases g1
        | new p => cases g1
        | slot l =>
          cases n with
          | zero => simp [mSlots] at h; subst h; exact ⟨_, rfl, h0⟩
          | succ n =>
            obtain ⟨v, a, b⟩ := mSlots_v (n := n) r g2 (by simpa [mSlots] using h)
            exact ⟨v, by simpa [mVs] using a, b⟩
theorem ref_call {ks : List Kd} {fr : Bool} {f : FN} {ta : TA} {fa : FA} {E : XK} (ha : RefA K ta fa) : Ref K (tCall (spM K ks fr f) [] E ta) (fCall ks fr f fa) := by
  intro O M W L σ H e e' b Q o he hf q
  obtain ⟨bs, e1, f1, hf⟩ := bE_some hf
  obtain ⟨ps, g1, hf⟩ := bO_some hf
  obtain ⟨g2, hf⟩ := guardP_some hf
  obtain ⟨⟨r, qs⟩, g3, hf⟩ := bO_some hf
  obtain ⟨e2, g4, hf⟩ := bO_some hf
  cases hf
  rw [Bool.and_eq_true] at g2
  have nd := of_decide_eq_true g2.1
  have nb : ∀ i ∈ bSlots ks bs, i ∉ mSlots ks bs := fun i hi hm => by
    have := List.all_eq_true.mp g2.2 i hi
    rw [List.contains_iff_mem.mpr hm] at this
    cases this
  refine ha O M W L σ H e e1 bs _ o he f1 fun vs H1 k1 en rv => ?_
  have o1 := o.keep k1.dom
  obtain ⟨pl, bl, ap⟩ := argP_get g1
  have vl := rv.length
  show spM K ks fr f (vs ++ []) H1 Q E
  rw [List.append_nil]
  have wr : ∀ i a, wsOf ks vs H1 i a → ∃ j, bs[i]? = some (.slot j) ∧ σ[j]? = some (some (.ref a)) ∧ j ∈ mSlots ks bs ∧ ∃ p, ownAt e1 j = some p := fun i a ⟨h1, h2⟩ => by
    obtain ⟨b, hb, rb⟩ := rv.get h2
    have hi : i < ks.length := (List.getElem?_eq_some_iff.mp h1).1
    have hp : ps[i]? = some (ps[i]'(by omega)) := List.getElem?_eq_getElem (by omega)
    have := ap i _ b _ h1 hb hp
    cases b with
    | val p => cases this
    | new p => cases this
    | slot j =>
      obtain ⟨n, hn⟩ := mSlots_in h1 hb
      exact ⟨j, hb, rb, List.mem_of_getElem? hn, _, this⟩
  have wml : ∀ i a, wsOf ks vs H1 i a → (aw W a ∨ L a) ∧ ∃ j s, e1[j]? = some (some s) ∧ s.mine = true ∧ σ[j]? = some (some (.ref a)) ∧ j ∈ mSlots ks bs := fun i a h => by
    obtain ⟨j, _, hs, hm, p, hp⟩ := wr i a h
    obtain ⟨a', ha', hz, _⟩ := en.own hp
    rw [hs] at ha'
    cases ha'
    refine ⟨hz, j, ?_⟩
    rcases ownAt_some hp with g | g
    · exact ⟨_, g, rfl, hs, hm⟩
    · exact ⟨_, g, rfl, hs, hm⟩
  have ML : ∀ a, (aw W a ∨ L a) → uni M L a := fun a z => z.elim (fun ⟨i, w⟩ => .inl (o.wm i a w)) .inr
  have nn : ∀ {a : Addr} {o : HO}, Rd H1 a o → H1 a ≠ none := fun h => h.elim (fun h => by rw [h]; exact fun z => nomatch z) fun ⟨u, h⟩ => by rw [h]; exact fun z => nomatch z
  refine ⟨uni M L, ps, r, qs, fun a z => z.elim (fun z => o1.old a (o1.mo a z)) fun z => (o1.loc a z).1, by omega, by omega, fun i k p v h1 h2 h3 => ?_, fun i j hij h1 h2 z => ?_, fun i a z => ML a (wml i a z).1, g3, fun v H' kc res => ?_⟩
  · obtain ⟨b, hb, rb⟩ := rv.get h3
    have hone := ap i k b p h1 hb h2
    cases k with
    | v =>
      cases b with
      | val p' => cases hone; exact rb
      | new p' => exact rb.elim
      | slot j => cases hone
    | m =>
      cases b with
      | val p' => cases hone
      | new p' => cases hone
      | slot j =>
        obtain ⟨a, hs, hz, c⟩ := en.own hone
        have rb' : σ[j]? = some (some v) := rb
        rw [hs] at rb'
        cases rb'
        exact ⟨a, rfl, ⟨h1, h3⟩, c⟩
    | b =>
      have lendR : ∀ p, Rep K (uni M L) H1 p v → SlRep K (uni M L) (wsOf ks vs H1) noA H1 i v (slOf .b p) := fun p hr => by
        cases hr with
        | lst h n r => exact ⟨_, rfl, .lst h (nn h) (fun ⟨i', w⟩ => n (ML _ (wml i' _ w).1)) (fun z => z) r⟩
        | dct h n kk r => exact ⟨_, rfl, .dct h (nn h) (fun ⟨i', w⟩ => n (ML _ (wml i' _ w).1)) (fun z => z) kk r⟩
        | non => exact Rep.non
        | bl b => exact Rep.bl b
        | int b => exact Rep.int b
        | str b => exact Rep.str b
        | ty b => exact Rep.ty b
        | tup h r => exact Rep.tup h r
      cases b with
      | val p' => cases hone; exact lendR _ rb
      | new p' => exact rb.elim
      | slot j =>
        have hone : rd e1 j = some p := hone
        unfold Mr.rd at hone
        cases c : e1[j]? with
        | none => rw [c] at hone; cases hone
        | some s =>
          cases s with
          | none => rw [c] at hone; cases hone
          | some s =>
            rw [c] at hone
            cases hone
            obtain ⟨u, hs, sr⟩ := en.at' j s c
            have rb' : σ[j]? = some (some v) := rb
            rw [hs] at rb'
            cases rb'
            have nm : j ∉ mSlots ks bs := nb j (bSlots_in h1 hb)
            have nw : ∀ a, s.mine = true → σ[j]? = some (some (.ref a)) → ¬ aw (wsOf ks vs H1) a := fun a hm ha ⟨i', w⟩ => by
              obtain ⟨_, j', s', hs', hm', ha', hj'⟩ := wml i' a w
              have ne : j ≠ j' := fun z => nm (z ▸ hj')
              exact en.dis j j' s s' ne c hs' hm hm' (by rw [ha, ha'])
            cases s with
            | val p => exact lendR p sr
            | own p =>
              obtain ⟨a, e, w, ct⟩ := sr
              subst e
              cases ct with
              | lst h r => exact ⟨a, rfl, .lst (.inl h) (nn (.inl h)) (nw a rfl hs) (fun z => z) r⟩
              | dct h kk r => exact ⟨a, rfl, .dct (.inl h) (nn (.inl h)) (nw a rfl hs) (fun z => z) kk r⟩
            | loc p =>
              obtain ⟨a, e, w, ct⟩ := sr
              subst e
              cases ct with
              | lst h r => exact ⟨a, rfl, .lst (.inl h) (nn (.inl h)) (nw a rfl hs) (fun z => z) r⟩
              | dct h kk r => exact ⟨a, rfl, .dct (.inl h) (nn (.inl h)) (nw a rfl hs) (fun z => z) kk r⟩
            | bor p =>
              obtain ⟨a, e, ct⟩ := sr
              subst e
              cases ct with
              | lst h od n m r => exact ⟨a, rfl, .lst h (nn h) (fun ⟨i', w⟩ => (wml i' a w).1.elim n m) (fun z => z) r⟩
              | klst h r => exact ⟨a, rfl, .klst h r⟩
              | dct h od n m kk r => exact ⟨a, rfl, .dct h (nn h) (fun ⟨i', w⟩ => (wml i' a w).1.elim n m) (fun z => z) kk r⟩
  · 
    have hi : i < ks.length := (List.getElem?_eq_some_iff.mp h1).1
    have hj : j < ks.length := (List.getElem?_eq_some_iff.mp h2).1
    have vi : vs[i]? = some (vs[i]'(by omega)) := List.getElem?_eq_getElem (by omega)
    have vj : vs[j]? = some (vs[j]'(by omega)) := List.getElem?_eq_getElem (by omega)
    have key : ∀ (i : Nat) (v : V), ks[i]? = some Kd.m → vs[i]? = some v → ∃ (j : Nat) (a : Addr), v = .ref a ∧ bs[i]? = some (Bv.slot j) ∧ σ[j]? = some (some v) ∧ ∃ p, ownAt e1 j = some p := fun i v h1 h3 => by
      obtain ⟨b, hb, rb⟩ := rv.get h3
      have hi : i < ks.length := (List.getElem?_eq_some_iff.mp h1).1
      have := ap i _ b _ h1 hb (List.getElem?_eq_getElem (show i < ps.length by omega))
      cases b with
      | val p => cases this
      | new p => cases this
      | slot l =>
        obtain ⟨a, ha, _, _⟩ := en.own this
        have rb' : σ[l]? = some (some v) := rb
        rw [ha] at rb'
        cases rb'
        exact ⟨l, a, rfl, hb, ha, _, this⟩
    obtain ⟨l1, a1, x1, y1, z1, p1, w1⟩ := key i _ h1 vi
    obtain ⟨l2, a2, x2, y2, z2, p2, w2⟩ := key j _ h2 vj
    by_cases hl : l1 = l2
    · subst hl; exact mSlots_two nd hij h1 h2 y1 y2
    · have m1 : ∃ s, e1[l1]? = some (some s) ∧ s.mine = true := by rcases ownAt_some w1 with g | g <;> exact ⟨_, g, rfl⟩
      have m2 : ∃ s, e1[l2]? = some (some s) ∧ s.mine = true := by rcases ownAt_some w2 with g | g <;> exact ⟨_, g, rfl⟩
      obtain ⟨s1, b1, c1⟩ := m1
      obtain ⟨s2, b2, c2⟩ := m2
      refine en.dis l1 l2 s1 s2 hl b1 b2 c1 c2 ?_
      rw [z1, z2, ← Option.some.inj (vi.symm.trans (z.trans vj))]
  · 
    have kout : Keep W L H1 H' := ⟨fun a ob h n m => kc.obj a ob h (fun ⟨i, w⟩ => (wml i a w).1.elim n m) (fun z => z), kc.tup, kc.dom⟩
    have pend : ∀ (Zf Lf : ASet), (∀ a ob, H1 a = some ob → ¬ uni M L a → ¬ Zf a) → (∀ a, L a → Lf a) → (∀ a ob, H1 a = some ob → ¬ L a → ¬ Lf a) → EnPend K Zf W Lf H' σ (fun i => ∃ j, (i, j) ∈ (mSlots ks bs).zipIdx) e1 := fun Zf Lf hz hL hL2 => by
      have kf : Stay (uni M L) Zf H1 H' := ⟨kc.tup, fun a ob h n => ⟨kc.obj a ob h (fun ⟨i, w⟩ => n (ML a (wml i a w).1)) (fun z => z), hz a ob h n⟩⟩
      refine ⟨en.len, fun i s hs => ?_, en.dis⟩
      obtain ⟨u, h1, h2⟩ := en.at' i s hs
      have keepM : ∀ a, s.mine = true → ¬ (∃ j, (i, j) ∈ (mSlots ks bs).zipIdx) → u = .ref a → ∀ ob, H1 a = some ob → H' a = some ob := fun a hm nt ev ob h => by
        subst ev
        refine kc.obj a ob h (fun ⟨i', w⟩ => ?_) (fun z => z)
        obtain ⟨_, j', s', hs', hm', ha', hj'⟩ := wml i' a w
        obtain ⟨n, hn⟩ := List.getElem?_of_mem hj'
        have ne : j' ≠ i := fun z => nt ⟨n, by rw [← z]; exact List.mem_zipIdx_iff_getElem?.mpr hn⟩
        exact en.dis j' i s' s ne hs' hs hm' hm (by rw [ha', h1])
      have rk : ∀ {a : Addr} {o : HO}, Rd H1 a o → ¬ L a → ¬ Lf a := fun h n => h.elim (fun h => hL2 _ _ h n) fun ⟨u, h⟩ => hL2 _ _ h n
      refine ⟨u, h1, fun z => ?_, fun hm => ?_⟩
      · cases s with
        | val p => exact Rep.stay kf h2
        | own p => obtain ⟨a, e, w, c⟩ := h2; exact ⟨a, e, w, c.stay kf fun ob h => keepM a rfl (z.elim id fun z => nomatch z) e ob h⟩
        | loc p => obtain ⟨a, e, w, c⟩ := h2; exact ⟨a, e, hL a w, c.stay kf fun ob h => keepM a rfl (z.elim id fun z => nomatch z) e ob h⟩
        | bor p =>
          obtain ⟨a, e, c⟩ := h2
          refine ⟨a, e, ?_⟩
          cases c with
          | lst h od n m r => exact .lst (h.elim (fun h => .inl (kout.obj _ _ h n m)) fun ⟨u, h⟩ => .inr ⟨u, kout.obj _ _ h n m⟩) od n (rk h m) (r.stay kf)
          | klst h r => exact .klst h (r.stay kf)
          | dct h od n m kk r => exact .dct (h.elim (fun h => .inl (kout.obj _ _ h n m)) fun ⟨u, h⟩ => .inr ⟨u, kout.obj _ _ h n m⟩) od n (rk h m) kk (r.stay kf)
      · cases s with
        | val p => cases hm
        | bor p => cases hm
        | own p => obtain ⟨a, e, w, c⟩ := h2; exact ⟨a, e, .inl ⟨p, rfl, w⟩⟩
        | loc p => obtain ⟨a, e, w, c⟩ := h2; exact ⟨a, e, .inr ⟨p, rfl, hL a w⟩⟩
    have back : ∀ (Zf : ASet), MutOk K Zf H' ks vs qs → ∀ i j p a, (i, j) ∈ (mSlots ks bs).zipIdx → ownAt (qs.map fun q => some (.own q)) j = some p → σ[i]? = some (some (.ref a)) → Cont K Zf H' a p := fun Zf mu i j p a hm hp ha => by
      have hm' := List.mem_zipIdx_iff_getElem?.mp hm
      obtain ⟨v', a1, a2⟩ := mSlots_v rv g1 hm'
      dsimp only at a2
      rw [ha] at a2
      cases a2
      have hq : qs[j]? = some p := by
        rcases ownAt_some hp with g | g
        · rw [List.getElem?_map] at g
          cases c : qs[j]? with
          | none => rw [c] at g; cases g
          | some q' => rw [c] at g; cases g; rfl
        · rw [List.getElem?_map] at g
          cases c : qs[j]? with
          | none => rw [c] at g; cases g
          | some q' => rw [c] at g; cases g
      obtain ⟨a', e, c⟩ := mu j _ p a1 hq
      cases e
      exact c
    cases fr with
    | false =>
      obtain ⟨rr, mu⟩ := res
      exact q v H' (k1.trans kout) ⟨backE_ok (pend (uni M L) L (fun _ _ _ n => n) (fun _ z => z) fun _ _ _ n => n) (back _ mu) g4, rr⟩ trivial
    | true =>
      obtain ⟨a, rfl, na, c, mu⟩ := res
      have sub : ∀ b, uni M (uni L (one a)) b → uni (uni M L) (one a) b := fun b z => by
        rcases z with z | z | z
        · exact .inl (.inl z)
        · exact .inl (.inr z)
        · exact .inr z
      have ne : ∀ b ob, H1 b = some ob → b ≠ a := fun b ob h => ne_of_none h na
      have mu' : MutOk K (uni M (uni L (one a))) H' ks vs qs := fun n v q' h1 h2 => by
        obtain ⟨a', e, c⟩ := mu n v q' h1 h2
        exact ⟨a', e, c.stay (.less sub) fun _ h => h⟩
      refine q _ H' (k1.trans kout) ⟨a, rfl, fun z => o1.old a z na, fun z => (o1.loc a z).1 na, backE_ok (pend (uni M (uni L (one a))) (uni L (one a)) (fun b ob h n z => ?_) (fun _ z => .inl z) fun b ob h n z => z.elim n (ne b ob h)) (back _ mu') g4, fun i s hs hm e => ?_, c.stay (.less sub) fun _ h => h⟩ (Fr.back (b := .new r) k1.dom fun b e => by cases e; exact na)
      · rcases z with z | z | z
        · exact n (.inl z)
        · exact n (.inr z)
        · exact ne b ob h z
      · obtain ⟨s', hs', hm'⟩ := backE_mine g4 i s hs hm
        obtain ⟨u, h1, h2⟩ := en.at' i s' hs'
        rw [e] at h1
        cases h1
        cases s' with
        | val p => cases hm'
        | bor p => cases hm'
        | own p => obtain ⟨b, e, w, c⟩ := h2; cases e; obtain ⟨ob, h, _⟩ := c.there; rw [na] at h; cases h
        | loc p => obtain ⟨b, e, w, c⟩ := h2; cases e; obtain ⟨ob, h, _⟩ := c.there; rw [na] at h; cases h
end
end Mr
set_option Elab.async false
set_option linter.all false
set_option maxRecDepth 100000
set_option maxHeartbeats 4000000
namespace Mr
open PySem PySem.Spec L2 PyProof.Rows
mutual
inductive Lies (h : Heap) : PV → Value → Prop
  | non : Lies h .non .none
  | bl (b) : Lies h (.bl b) (.bool b)
  | int (i t) : Lies h (.int i) (.int i t)
  | str (x t) : Lies h (.str x) (.str x t)
  | tup {a : Addr} {its : List Value} {ps : List PV} : IsTup h a its.toArray → LiesL h ps its → Lies h (.tup ps) (.ref a)
  | lst {a : Addr} {its : List Value} {ps : List PV} : h.IsList a its.toArray → LiesL h ps its → Lies h (.lst ps) (.ref a)
inductive LiesL (h : Heap) : List PV → List Value → Prop
  | nil : LiesL h [] []
  | cons {p : PV} {v : Value} {ps : List PV} {vs : List Value} : Lies h p v → LiesL h ps vs → LiesL h (p :: ps) (v :: vs)
end
noncomputable def okP : Nat → PV → Bool
  | _, .non => true
  | _, .bl _ => true
  | _, .int _ => true
  | _, .str _ => true
  | n + 1, .tup ps => ps.all (okP n)
  | n + 1, .lst ps => ps.all (okP n)
  | _, _ => false
section
variable {X : Cx} {pins : List (Addr × Obj)} {σ : L2.St} {H : Hp} {s : Shared}
theorem Rep.lies {Z : ASet} (I : Inv X pins σ H s) : ∀ {n : Nat} {p : PV} {x : V} {v : Value}, okP n p = true → Rep X.K Z H p x → RelV x v → Lies s.heap p v
  | n, .non, x, v, ok, h, r => by cases h; cases r; exact .non
  | n, .bl b, x, v, ok, h, r => by cases h; cases r; exact .bl b
  | n, .int b, x, v, ok, h, r => by cases h; obtain ⟨t, rfl⟩ := r; exact .int b t
  | n, .str b, x, v, ok, h, r => by cases h; obtain ⟨t, rfl⟩ := r; exact .str b t
  | n, .ty b, x, v, ok, h, r => by cases n <;> cases ok
  | n, .dct b, x, v, ok, h, r => by cases n <;> cases ok
  | 0, .tup ps, x, v, ok, h, r => by cases ok
  | 0, .lst ps, x, v, ok, h, r => by cases ok
  | n + 1, .tup ps, x, v, ok, h, r => by
    cases h with
    | tup h rl =>
      cases r
      obtain ⟨its, rv, pl, _⟩ := I.tuple h.sq
      have key : ∀ (ps : List PV) (xs : List V) (its : List Value), ps.all (okP n) = true → RepL X.K Z H ps xs → Vals xs its → LiesL s.heap ps its := fun ps => by
        induction ps with
        | nil => intro xs its _ h1 h2; cases h1; cases h2; exact .nil
        | cons p ps ih =>
          intro xs its ha h1 h2
          rw [List.all_cons, Bool.and_eq_true] at ha
          cases h1 with
          | cons h1 r1 =>
            cases h2 with
            | cons h2 r2 => exact .cons (Rep.lies I (n := n) ha.1 h1 h2) (ih _ _ ha.2 r1 r2)
      exact .tup pl (key ps _ its ok rl rv)
  | n + 1, .lst ps, x, v, ok, h, r => by
    cases h with
    | lst h nz rl =>
      cases r
      obtain ⟨its, rv, pl, _⟩ := I.list (show SqL X.K H _ _ from .inl h)
      have key : ∀ (ps : List PV) (xs : List V) (its : List Value), ps.all (okP n) = true → RepL X.K Z H ps xs → Vals xs its → LiesL s.heap ps its := fun ps => by
        induction ps with
        | nil => intro xs its _ h1 h2; cases h1; cases h2; exact .nil
        | cons p ps ih =>
          intro xs its ha h1 h2
          rw [List.all_cons, Bool.and_eq_true] at ha
          cases h1 with
          | cons h1 r1 =>
            cases h2 with
            | cons h2 r2 => exact .cons (Rep.lies I (n := n) ha.1 h1 h2) (ih _ _ ha.2 r1 r2)
      exact .lst pl.isList (key ps _ its ok rl rv)
theorem RepL.lies {Z : ASet} (I : Inv X pins σ H s) {n : Nat} : ∀ {ps : List PV} {xs : List V} {its : List Value}, ps.all (okP n) = true → RepL X.K Z H ps xs → Vals xs its → LiesL s.heap ps its
  | [], _, _, _, h1, h2 => by cases h1; cases h2; exact .nil
  | p :: ps, _, _, ha, h1, h2 => by
    rw [List.all_cons, Bool.and_eq_true] at ha
    cases h1 with
    | cons h1 r1 =>
      cases h2 with
      | cons h2 r2 => exact .cons (Rep.lies I (n := n) ha.1 h1 h2) (RepL.lies I ha.2 r1 r2)
theorem Red.lies {Z : ASet} (I : Inv X pins σ H s) {n : Nat} {p : PV} {x : V} {v : Value} (ok : okP n p = true) (h : Red X.K Z H p x) (r : RelV x v) : Lies s.heap p v := by
  cases h with
  | rep h => exact h.lies I ok r
  | lst h rl =>
    cases r
    cases n with
    | zero => cases ok
    | succ n =>
      obtain ⟨its, rv, pl, _⟩ := I.list h.sq
      exact .lst pl.isList (RepL.lies I (n := n) ok rl rv)
  | dct h e r => cases n <;> cases ok
end
mutual
noncomputable def eqP : PV → PV → Bool
  | .non, .non => true
  | .bl a, .bl b => a == b
  | .bl a, .int b => (if a then 1 else 0) == b
  | .int a, .bl b => a == (if b then 1 else 0)
  | .int a, .int b => a == b
  | .str a, .str b => a == b
  | .tup xs, .tup ys => eqPL xs ys
  | .lst xs, .lst ys => eqPL xs ys
  | _, _ => false
noncomputable def eqPL : List PV → List PV → Bool
  | [], [] => true
  | x :: xs, y :: ys => eqP x y && eqPL xs ys
  | _, _ => false
end
theorem eqP_tup {xs ys : List PV} : eqP (.tup xs) (.tup ys) = eqPL xs ys := by rw [eqP]
theorem eqP_lst {xs ys : List PV} : eqP (.lst xs) (.lst ys) = eqPL xs ys := by rw [eqP]
theorem LiesL.length {h : Heap} : ∀ {ps : List PV} {vs : List Value}, LiesL h ps vs → ps.length = vs.length
  | _, _, .nil => rfl
  | _, _, .cons _ r => by rw [List.length_cons, List.length_cons, LiesL.length r]
theorem LiesL.get {h : Heap} : ∀ {ps : List PV} {vs : List Value} {i : Nat} {v : Value}, LiesL h ps vs → vs[i]? = some v → ∃ p, ps[i]? = some p ∧ Lies h p v
  | _, _, _, _, .nil, e => by simp at e
  | _, _, 0, _, .cons q _, e => by simp at e; subst e; exact ⟨_, rfl, q⟩
  | _, _, i + 1, _, .cons _ r, e => by
    obtain ⟨v, h1, h2⟩ := LiesL.get (i := i) r (by simpa using e)
    exact ⟨v, by simpa using h1, h2⟩
theorem tup_one {h : Heap} {a : Addr} {xs ys : Array Value} (h1 : IsTup h a xs) (h2 : IsTup h a ys) : xs = ys := by
  obtain ⟨o, g, _, n, d⟩ := h1
  obtain ⟨o', g', _, n', d'⟩ := h2
  rw [g] at g'
  cases g'
  rw [d] at d'
  injection d'
theorem lst_one {h : Heap} {a : Addr} {xs ys : Array Value} (h1 : h.IsList a xs) (h2 : h.IsList a ys) : xs = ys := by
  obtain ⟨o, g, _, n, d⟩ := h1
  obtain ⟨o', g', _, n', d'⟩ := h2
  rw [g] at g'
  cases g'
  rw [d] at d'
  injection d'
theorem tup_lst {h : Heap} {a : Addr} {xs ys : Array Value} (h1 : IsTup h a xs) (h2 : h.IsList a ys) : False := by
  obtain ⟨o, g, c, n, d⟩ := h1
  obtain ⟨o', g', c', n', d'⟩ := h2
  rw [g] at g'
  cases g'
  rw [c] at c'
  exact absurd c' (by decide)
mutual
theorem Lies.same {h : Heap} : ∀ {p : PV} {v : Value}, Lies h p v → ∀ {q : PV}, Lies h q v → eqP p q = true
  | _, _, .non, q, k => by cases k; rfl
  | _, _, .bl b, q, k => by cases k; exact beq_self_eq_true b
  | _, _, .int i t, q, k => by cases k; exact beq_self_eq_true i
  | _, _, .str i t, q, k => by cases k; exact beq_self_eq_true i
  | _, _, .tup ht r, q, k => by
    cases k with
    | tup ht' r' =>
      have e : _ = _ := tup_one ht ht'
      have e := congrArg Array.toList e
      simp only [List.toList_toArray] at e
      subst e
      unfold eqP
      exact LiesL.same r r'
    | lst hl r' => exact (tup_lst ht hl).elim
  | _, _, .lst ht r, q, k => by
    cases k with
    | tup ht' r' => exact (tup_lst ht' ht).elim
    | lst hl r' =>
      have e := congrArg Array.toList (lst_one ht hl)
      simp only [List.toList_toArray] at e
      subst e
      unfold eqP
      exact LiesL.same r r'
theorem LiesL.same {h : Heap} : ∀ {p : List PV} {v : List Value}, LiesL h p v → ∀ {q : List PV}, LiesL h q v → eqPL p q = true
  | _, _, .nil, q, k => by cases k; rfl
  | _, _, .cons h1 r1, q, k => by
    cases k with
    | cons h2 r2 => unfold eqPL; rw [Lies.same h1 h2, LiesL.same r1 r2]; rfl
end
mutual
theorem Lies.fn {h : Heap} : ∀ {p : PV} {v : Value}, Lies h p v → ∀ {q : PV}, Lies h q v → p = q
  | _, _, .non, q, k => by cases k; rfl
  | _, _, .bl b, q, k => by cases k; rfl
  | _, _, .int i t, q, k => by cases k; rfl
  | _, _, .str i t, q, k => by cases k; rfl
  | _, _, .tup ht r, q, k => by
    cases k with
    | tup ht' r' =>
      have e := congrArg Array.toList (tup_one ht ht')
      simp only [List.toList_toArray] at e
      subst e
      rw [LiesL.fn r r']
    | lst hl r' => exact (tup_lst ht hl).elim
  | _, _, .lst ht r, q, k => by
    cases k with
    | tup ht' r' => exact (tup_lst ht' ht).elim
    | lst hl r' =>
      have e := congrArg Array.toList (lst_one ht hl)
      simp only [List.toList_toArray] at e
      subst e
      rw [LiesL.fn r r']
theorem LiesL.fn {h : Heap} : ∀ {p : List PV} {v : List Value}, LiesL h p v → ∀ {q : List PV}, LiesL h q v → p = q
  | _, _, .nil, q, k => by cases k; rfl
  | _, _, .cons h1 r1, q, k => by
    cases k with
    | cons h2 r2 => rw [Lies.fn h1 h2, LiesL.fn r1 r2]
end
theorem eqPL_range : ∀ {ps qs : List PV}, ((List.range (min ps.length qs.length)).all (fun j => eqP (ps.getD j .non) (qs.getD j .non)) && ps.length == qs.length) = eqPL ps qs
  | [], [] => rfl
  | [], _ :: _ => by unfold eqPL; simp
  | _ :: _, [] => by unfold eqPL; simp
  | p :: ps, q :: qs => by
    have ih := eqPL_range (ps := ps) (qs := qs)
    unfold eqPL
    rw [← ih]
    have e : min (p :: ps).length (q :: qs).length = min ps.length qs.length + 1 := by simp only [List.length_cons]; omega
    rw [e, List.range_succ_eq_map, List.all_cons, List.all_map]
    have e2 : ((p :: ps).length == (q :: qs).length) = (ps.length == qs.length) := by
      rw [Bool.eq_iff_iff]; simp
    rw [e2, Bool.and_assoc]
    rfl
section
variable {A : Around} {s : Shared}
theorem toArr {vs : List Value} {j : Nat} (h : j < vs.toArray.size) : vs[j]? = some (vs.toArray[j]) := by simp at h ⊢
theorem eqAt_P : ∀ (n : Nat) (A : Around) {p q : PV} {v u : Value}, A.units + n < cLine → okP n p = true → okP n q = true → Lies s.heap p v → Lies s.heap q u → SeqAt.EqAt A s v u (eqP p q) := by
  intro n
  induction n with
  | zero =>
    intro A p q v u hu o1 o2 h1 h2
    cases h1 with
    | tup _ _ => cases o1
    | lst _ _ => cases o1
    | non =>
      cases h2 with
      | tup _ _ => cases o2
      | lst _ _ => cases o2
      | non => exact .same _
      | bl b => exact .none_bool b
      | int b t => exact .none_int b t
      | str b t => exact .none_str b t
    | bl a =>
      cases h2 with
      | tup _ _ => cases o2
      | lst _ _ => cases o2
      | non => exact .bool_none a
      | bl b => exact .bool_bool a b
      | int b t => exact .bool_int a b t
      | str b t => exact .bool_str a b t
    | int a t' =>
      cases h2 with
      | tup _ _ => cases o2
      | lst _ _ => cases o2
      | non => exact .int_none a t'
      | bl b => exact .int_bool a t' b
      | int b t => exact .int_int a t' b t
      | str b t => exact .int_str a t' b t
    | str a t' =>
      cases h2 with
      | tup _ _ => cases o2
      | lst _ _ => cases o2
      | non => exact .str_none a t'
      | bl b => exact .str_bool a t' b
      | int b t => exact .str_int a t' b t
      | str b t => exact .str_str a t' b t
  | succ n ih =>
    intro A p q v u hu o1 o2 h1 h2
    have hu0 : A.units < cLine := by omega
    have hin : A.in1.units = A.units + 1 := rfl
    have els : ∀ {ps qs : List PV} {vs us : List Value}, ps.all (okP n) = true → qs.all (okP n) = true → LiesL s.heap ps vs → LiesL s.heap qs us → ∀ (j : Nat) (g1 : j < vs.toArray.size) (g2 : j < us.toArray.size), SeqAt.EqAt A.in1 s vs.toArray[j] us.toArray[j] (eqP (ps.getD j .non) (qs.getD j .non)) := fun {ps qs vs us} a1 a2 l1 l2 j g1 g2 => by
      obtain ⟨x, ex, rx⟩ := l1.get (toArr g1)
      obtain ⟨y, ey, ry⟩ := l2.get (toArr g2)
      rw [List.getD_eq_getElem?_getD, List.getD_eq_getElem?_getD, ex, ey]
      exact ih A.in1 (by omega) (List.all_eq_true.mp a1 _ (List.mem_of_getElem? ex)) (List.all_eq_true.mp a2 _ (List.mem_of_getElem? ey)) rx ry
    cases h1 with
    | tup ht r =>
      cases h2 with
      | tup ht' r' =>
        rename_i a its ps a' its' ps'
        by_cases hab : a = a'
        · subst hab
          rw [Lies.same (.tup ht r) (.tup ht' r')]
          exact .same _
        · refine .of_refs hab ?_
          have e : eqP (.tup ps) (.tup ps') = ((List.range (min its.toArray.size its'.toArray.size)).all (fun j => eqP (ps.getD j .non) (ps'.getD j .non)) && its.toArray.size == its'.toArray.size) := by
            rw [eqP_tup, ← eqPL_range, r.length, r'.length, List.size_toArray, List.size_toArray]
          rw [e]
          exact SeqAt.RcAt.tuples (e := fun j => eqP (ps.getD j .non) (ps'.getD j .non)) ht ht' hu0 (els o1 o2 r r')
      | lst hl r' => exact .tuple_list ht hl hu0
      | non => exact .tuple_none ht hu0
      | bl b => exact .tuple_bool b ht hu0
      | int b t => exact .tuple_int b t ht hu0
      | str b t => exact .tuple_str b t ht hu0
    | lst ht r =>
      cases h2 with
      | tup ht' r' => exact .list_tuple ht ht' hu0
      | lst ht' r' =>
        rename_i a its ps a' its' ps'
        by_cases hab : a = a'
        · subst hab
          rw [Lies.same (.lst ht r) (.lst ht' r')]
          exact .same _
        · refine .of_refs hab ?_
          by_cases hsz : its.length = its'.length
          · have e : eqP (.lst ps) (.lst ps') = (List.range its.toArray.size).all (fun j => eqP (ps.getD j .non) (ps'.getD j .non)) := by
              rw [eqP_lst, ← eqPL_range, r.length, r'.length, List.size_toArray, ← hsz, Nat.min_self, beq_self_eq_true, Bool.and_true]
            rw [e]
            exact SeqAt.RcAt.lists (e := fun j => eqP (ps.getD j .non) (ps'.getD j .non)) ht ht' (by simp [hsz]) hu0 (els o1 o2 r r')
          · have e : eqP (.lst ps) (.lst ps') = false := by
              rw [eqP_lst, ← eqPL_range, r.length, r'.length, show (its.length == its'.length) = false by simp [hsz], Bool.and_false]
            rw [e]
            exact SeqAt.RcAt.lists_lengths ht ht' (by simp [hsz]) hu0
      | non => exact .list_none ht hu0
      | bl b => exact .list_bool b ht hu0
      | int b t => exact .list_int b t ht hu0
      | str b t => exact .list_str b t ht hu0
    | non =>
      cases h2 with
      | tup ht' r' => exact .none_tuple ht' hu0
      | lst hl r' => exact .none_list hl hu0
      | non => exact .same _
      | bl b => exact .none_bool b
      | int b t => exact .none_int b t
      | str b t => exact .none_str b t
    | bl a =>
      cases h2 with
      | tup ht' r' => exact .bool_tuple a ht' hu0
      | lst hl r' => exact .bool_list a hl hu0
      | non => exact .bool_none a
      | bl b => exact .bool_bool a b
      | int b t => exact .bool_int a b t
      | str b t => exact .bool_str a b t
    | int a t' =>
      cases h2 with
      | tup ht' r' => exact .int_tuple a t' ht' hu0
      | lst hl r' => exact .int_list a t' hl hu0
      | non => exact .int_none a t'
      | bl b => exact .int_bool a t' b
      | int b t => exact .int_int a t' b t
      | str b t => exact .int_str a t' b t
    | str a t' =>
      cases h2 with
      | tup ht' r' => exact .str_tuple a t' ht' hu0
      | lst hl r' => exact .str_list a t' hl hu0
      | non => exact .str_none a t'
      | bl b => exact .str_bool a t' b
      | int b t => exact .str_int a t' b t
      | str b t => exact .str_str a t' b t
theorem rcAt_P {n : Nat} {A : Around} {p q : PV} {v u : Value} (hu : A.units + (n + 1) < cLine) (o1 : okP (n + 1) p = true) (o2 : okP (n + 1) q = true) (h1 : Lies s.heap p v) (h2 : Lies s.heap q u) : SeqAt.RcAt A s v u (eqP p q) ∧ SeqAt.RcNeAt A s v u (!eqP p q) := by
  have hu0 : A.units < cLine := by omega
  have hin : A.in1.units = A.units + 1 := rfl
  have els : ∀ {ps qs : List PV} {vs us : List Value}, ps.all (okP n) = true → qs.all (okP n) = true → LiesL s.heap ps vs → LiesL s.heap qs us → ∀ (j : Nat) (g1 : j < vs.toArray.size) (g2 : j < us.toArray.size), SeqAt.EqAt A.in1 s vs.toArray[j] us.toArray[j] (eqP (ps.getD j .non) (qs.getD j .non)) := fun {ps qs vs us} a1 a2 l1 l2 j g1 g2 => by
    obtain ⟨x, ex, rx⟩ := l1.get (toArr g1)
    obtain ⟨y, ey, ry⟩ := l2.get (toArr g2)
    rw [List.getD_eq_getElem?_getD, List.getD_eq_getElem?_getD, ex, ey]
    exact eqAt_P n A.in1 (by omega) (List.all_eq_true.mp a1 _ (List.mem_of_getElem? ex)) (List.all_eq_true.mp a2 _ (List.mem_of_getElem? ey)) rx ry
  cases h1 with
  | tup ht r =>
    cases h2 with
    | tup ht' r' =>
      rename_i a its ps a' its' ps'
      have e : eqP (.tup ps) (.tup ps') = ((List.range (min its.toArray.size its'.toArray.size)).all (fun j => eqP (ps.getD j .non) (ps'.getD j .non)) && its.toArray.size == its'.toArray.size) := by
        rw [eqP_tup, ← eqPL_range, r.length, r'.length, List.size_toArray, List.size_toArray]
      rw [e]
      exact ⟨SeqAt.RcAt.tuples (e := fun j => eqP (ps.getD j .non) (ps'.getD j .non)) ht ht' hu0 (els o1 o2 r r'), SeqAt.RcNeAt.tuples (e := fun j => eqP (ps.getD j .non) (ps'.getD j .non)) ht ht' hu0 (els o1 o2 r r')⟩
    | lst hl r' => exact ⟨.tuple_list ht hl hu0, .tuple_list ht hl hu0⟩
    | non => exact ⟨.tuple_none ht hu0, .tuple_none ht hu0⟩
    | bl b => exact ⟨.tuple_bool b ht hu0, .tuple_bool b ht hu0⟩
    | int b t => exact ⟨.tuple_int b t ht hu0, .tuple_int b t ht hu0⟩
    | str b t => exact ⟨.tuple_str b t ht hu0, .tuple_str b t ht hu0⟩
  | lst ht r =>
    cases h2 with
    | tup ht' r' => exact ⟨.list_tuple ht ht' hu0, .list_tuple ht ht' hu0⟩
    | lst ht' r' =>
      rename_i a its ps a' its' ps'
      by_cases hsz : its.length = its'.length
      · have e : eqP (.lst ps) (.lst ps') = (List.range its.toArray.size).all (fun j => eqP (ps.getD j .non) (ps'.getD j .non)) := by
          rw [eqP_lst, ← eqPL_range, r.length, r'.length, List.size_toArray, ← hsz, Nat.min_self, beq_self_eq_true, Bool.and_true]
        rw [e]
        exact ⟨SeqAt.RcAt.lists (e := fun j => eqP (ps.getD j .non) (ps'.getD j .non)) ht ht' (by simp [hsz]) hu0 (els o1 o2 r r'), SeqAt.RcNeAt.lists (e := fun j => eqP (ps.getD j .non) (ps'.getD j .non)) ht ht' (by simp [hsz]) hu0 (els o1 o2 r r')⟩
      · have e : eqP (.lst ps) (.lst ps') = false := by
          rw [eqP_lst, ← eqPL_range, r.length, r'.length, show (its.length == its'.length) = false by simp [hsz], Bool.and_false]
        rw [e]
        exact ⟨SeqAt.RcAt.lists_lengths ht ht' (by simp [hsz]) hu0, SeqAt.RcNeAt.lists_lengths ht ht' (by simp [hsz]) hu0⟩
    | non => exact ⟨.list_none ht hu0, .list_none ht hu0⟩
    | bl b => exact ⟨.list_bool b ht hu0, .list_bool b ht hu0⟩
    | int b t => exact ⟨.list_int b t ht hu0, .list_int b t ht hu0⟩
    | str b t => exact ⟨.list_str b t ht hu0, .list_str b t ht hu0⟩
  | non =>
    cases h2 with
    | tup ht' r' => exact ⟨.none_tuple ht' hu0, .none_tuple ht' hu0⟩
    | lst hl r' => exact ⟨.none_list hl hu0, .none_list hl hu0⟩
    | non => exact ⟨.none_none, .none_none⟩
    | bl b => exact ⟨.none_bool b, .none_bool b⟩
    | int b t => exact ⟨.none_int b t, .none_int b t⟩
    | str b t => exact ⟨.none_str b t, .none_str b t⟩
  | bl a =>
    cases h2 with
    | tup ht' r' => exact ⟨.bool_tuple a ht' hu0, .bool_tuple a ht' hu0⟩
    | lst hl r' => exact ⟨.bool_list a hl hu0, .bool_list a hl hu0⟩
    | non => exact ⟨.bool_none a, .bool_none a⟩
    | bl b => exact ⟨.bool_bool a b, .bool_bool a b⟩
    | int b t => exact ⟨.bool_int a b t, .bool_int a b t⟩
    | str b t => exact ⟨.bool_str a b t, .bool_str a b t⟩
  | int a t' =>
    cases h2 with
    | tup ht' r' => exact ⟨.int_tuple a t' ht' hu0, .int_tuple a t' ht' hu0⟩
    | lst hl r' => exact ⟨.int_list a t' hl hu0, .int_list a t' hl hu0⟩
    | non => exact ⟨.int_none a t', .int_none a t'⟩
    | bl b => exact ⟨.int_bool a t' b, .int_bool a t' b⟩
    | int b t => exact ⟨.int_int a t' b t, .int_int a t' b t⟩
    | str b t => exact ⟨.int_str a t' b t, .int_str a t' b t⟩
  | str a t' =>
    cases h2 with
    | tup ht' r' => exact ⟨.str_tuple a t' ht' hu0, .str_tuple a t' ht' hu0⟩
    | lst hl r' => exact ⟨.str_list a t' hl hu0, .str_list a t' hl hu0⟩
    | non => exact ⟨.str_none a t', .str_none a t'⟩
    | bl b => exact ⟨.str_bool a t' b, .str_bool a t' b⟩
    | int b t => exact ⟨.str_int a t' b t, .str_int a t' b t⟩
    | str b t => exact ⟨.str_str a t' b t, .str_str a t' b t⟩
end
noncomputable def rEqP (K : PySem.W.Frag) (neg : Bool) : R2 := fun x y H Q => ∃ p q, Red K noA H p x ∧ Red K noA H q y ∧ okP 9 p = true ∧ okP 9 q = true ∧ Q (.bl (if neg then !eqP p q else eqP p q)) H
noncomputable def itemsP : PV → Option (List PV)
  | .lst ps => some ps
  | .tup ps => some ps
  | _ => none
noncomputable def rInP (K : PySem.W.Frag) (neg : Bool) : R2 := fun x y H Q => ∃ p q ps, Red K noA H p x ∧ Red K noA H q y ∧ itemsP q = some ps ∧ okP 8 p = true ∧ ps.all (okP 8) = true ∧ Q (.bl (if neg then !ps.any (fun z => eqP z p) else ps.any fun z => eqP z p)) H
section
variable {X : Cx} {k : Nat}
theorem eqPX (K : PySem.W.Frag) (hr : Room k X.A) (hK : X.K = K := by rfl) : OpR X (compareOp .Eq) (rEqP K false) := by
  subst hK
  intro pins s σ H x y v u Q I rx ry h
  obtain ⟨p, q, h1, h2, o1, o2, hQ⟩ := h
  exact (rcAt_P (n := 8) (by have := hr.un; omega) o1 o2 (h1.lies I o1 rx) (h2.lies I o2 ry)).1 _ _ _ _ (fin_bl I hQ rfl)
theorem nePX (K : PySem.W.Frag) (hr : Room k X.A) (hK : X.K = K := by rfl) : OpR X (compareOp .NotEq) (rEqP K true) := by
  subst hK
  intro pins s σ H x y v u Q I rx ry h
  obtain ⟨p, q, h1, h2, o1, o2, hQ⟩ := h
  exact (rcAt_P (n := 8) (by have := hr.un; omega) o1 o2 (h1.lies I o1 rx) (h2.lies I o2 ry)).2 _ _ _ _ (fin_bl I hQ rfl)
theorem LiesL.any {h : Heap} {e : Value → Bool} {f : PV → Bool} (he : ∀ {q : PV} {y : Value}, Lies h q y → e y = f q) : ∀ {ps : List PV} {its : List Value}, LiesL h ps its → its.any e = ps.any f
  | _, _, .nil => rfl
  | _, _, .cons h r => by rw [List.any_cons, List.any_cons, he h, LiesL.any he r]
theorem in_any {s : Shared} {A : Around} {p : PV} {u : Value} (hu : A.units + 8 < cLine) (op : okP 8 p = true) (hp : Lies s.heap p u) {ps : List PV} {its : List Value} (ops : ps.all (okP 8) = true) (hl : LiesL s.heap ps its) :
    ∃ e : Value → Bool, (∀ y, y ∈ its.toArray → SeqAt.EqAt A s y u (e y)) ∧ its.toArray.any e = ps.any fun z => eqP z p := by
  classical
  let e : Value → Bool := fun y => if c : ∃ q, Lies s.heap q y then eqP c.choose p else false
  have he : ∀ {q : PV} {y : Value}, Lies s.heap q y → e y = eqP q p := fun {q y} h => by
    have c : ∃ q, Lies s.heap q y := ⟨q, h⟩
    show (if c : ∃ q, Lies s.heap q y then eqP c.choose p else false) = _
    rw [dif_pos c, Lies.fn c.choose_spec h]
  refine ⟨e, fun y hy => ?_, ?_⟩
  · obtain ⟨j, hj⟩ := List.getElem?_of_mem (show y ∈ its by simpa using hy)
    obtain ⟨q, h1, h2⟩ := hl.get hj
    rw [he h2]
    exact eqAt_P 8 A hu (List.all_eq_true.mp ops _ (List.mem_of_getElem? h1)) op h2 hp
  · rw [List.any_toArray]
    exact LiesL.any (fun h => he h) hl
theorem inPX (K : PySem.W.Frag) (hr : Room k X.A) (hK : X.K = K := by rfl) : OpR X (compareOp .In) (rInP K false) := by
  subst hK
  intro pins s σ H x y v u Q I rx ry h
  obtain ⟨p, q, ps, h1, h2, hi, o1, o2, hQ⟩ := h
  have hu : X.A.in1.units + 8 < cLine := by have := hr.un; show X.A.units + 1 + 8 < _; omega
  have lp := h1.lies I o1 rx
  cases q with
  | lst qs =>
    cases hi
    cases h2.lies I (n := 9) (p := .lst _) o2 ry with
    | lst hl r =>
      obtain ⟨e, e1, e2⟩ := in_any hu o1 lp o2 r
      exact SeqAt.in_listAt e hl e1 (by rw [e2]; exact fin_bl I hQ rfl)
  | tup qs =>
    cases hi
    cases h2.lies I (n := 9) (p := .tup _) o2 ry with
    | tup hl r =>
      obtain ⟨e, e1, e2⟩ := in_any hu o1 lp o2 r
      exact SeqAt.in_tupleAt e hl e1 (by rw [e2]; exact fin_bl I hQ rfl)
  | _ => cases hi
theorem notInPX (K : PySem.W.Frag) (hr : Room k X.A) (hK : X.K = K := by rfl) : OpR X (compareOp .NotIn) (rInP K true) := by
  subst hK
  intro pins s σ H x y v u Q I rx ry h
  obtain ⟨p, q, ps, h1, h2, hi, o1, o2, hQ⟩ := h
  have hu : X.A.in1.units + 8 < cLine := by have := hr.un; show X.A.units + 1 + 8 < _; omega
  have lp := h1.lies I o1 rx
  cases q with
  | lst qs =>
    cases hi
    cases h2.lies I (n := 9) (p := .lst _) o2 ry with
    | lst hl r =>
      obtain ⟨e, e1, e2⟩ := in_any hu o1 lp o2 r
      exact SeqAt.notIn_listAt e hl e1 (by rw [e2]; exact fin_bl I hQ rfl)
  | tup qs =>
    cases hi
    cases h2.lies I (n := 9) (p := .tup _) o2 ry with
    | tup hl r =>
      obtain ⟨e, e1, e2⟩ := in_any hu o1 lp o2 r
      exact SeqAt.notIn_tupleAt e hl e1 (by rw [e2]; exact fin_bl I hQ rfl)
  | _ => cases hi
end
end Mr
set_option Elab.async false
set_option linter.all false
set_option maxRecDepth 100000
set_option maxHeartbeats 4000000
namespace Mr
open PySem PySem.Spec L2 PyProof.Rows
section
variable {K : PySem.W.Frag}
theorem OpOk.or {r r' : R2} {g g' : PV → PV → Option Bv} (h : OpOk K r g) (h' : OpOk K r' g') : OpOk K (fun x y H Q => r x y H Q ∨ r' x y H Q) (fun p q => (g p q).or (g' p q)) := by
  intro Z H x y p q b Q hp hq hg k
  have hg : (g p q).or (g' p q) = some b := hg
  cases c : g p q with
  | some b' => rw [c] at hg; cases hg; exact .inl (h Z H x y p q _ Q hp hq c k)
  | none => rw [c] at hg; exact .inr (h' Z H x y p q b Q hp hq hg k)
theorem CbOk.or {r r' : List V → Hp → VK → Prop} {g g' : List PV → Option Bv} (h : CbOk K r g) (h' : CbOk K r' g') : CbOk K (fun x H Q => r x H Q ∨ r' x H Q) (fun p => (g p).or (g' p)) := by
  intro Z H x p b Q hp hg k
  have hg : (g p).or (g' p) = some b := hg
  cases c : g p with
  | some b' => rw [c] at hg; cases hg; exact .inl (h Z H x p _ Q hp c k)
  | none => rw [c] at hg; exact .inr (h' Z H x p b Q hp hg k)
theorem SlOk.or {r r' : V → Option Int → Option Int → Hp → VK → Prop} {g g' : PV → Option Int → Option Int → Option Bv} (h : SlOk K r g) (h' : SlOk K r' g') : SlOk K (fun x l u H Q => r x l u H Q ∨ r' x l u H Q) (fun p l u => (g p l u).or (g' p l u)) := by
  intro Z H x p lo hi b Q hp hg k
  have hg : (g p lo hi).or (g' p lo hi) = some b := hg
  cases c : g p lo hi with
  | some b' => rw [c] at hg; cases hg; exact .inl (h Z H x p lo hi _ Q hp c k)
  | none => rw [c] at hg; exact .inr (h' Z H x p lo hi b Q hp hg k)
noncomputable def gI (C : Int → Int → Bool) (g : Int → Int → PV) : PV → PV → Option Bv
  | .int i, .int j => guardP (C i j) (some (.val (g i j)))
  | _, _ => none
theorem ok_I {C : Int → Int → Prop} {D : Int → Int → Bool} {g : Int → Int → V} {g' : Int → Int → PV} (hD : ∀ i j, D i j = true → C i j) (hg : ∀ i j Z H, Rep K Z H (g' i j) (g i j)) : OpOk K (rI C g) (gI D g') := by
  intro Z H x y p q b Q hp hq h k
  cases p with
  | int i =>
    cases q with
    | int j =>
      obtain ⟨c, h⟩ := guardP_some h
      cases h
      exact ⟨i, j, hp.int, hq.int, hD i j c, k _ H (Same.refl _) (hg i j Z H)⟩
    | _ => cases h
  | _ => cases h
noncomputable def gI0 (g : Int → Int → PV) : PV → PV → Option Bv
  | .int i, .int j => some (.val (g i j))
  | _, _ => none
theorem ok_I0 {g : Int → Int → V} {g' : Int → Int → PV} (hg : ∀ i j Z H, Rep K Z H (g' i j) (g i j)) : OpOk K (rI0 g) (gI0 g') := by
  intro Z H x y p q b Q hp hq h k
  cases p with
  | int i =>
    cases q with
    | int j => cases h; exact ⟨i, j, hp.int, hq.int, k _ H (Same.refl _) (hg i j Z H)⟩
    | _ => cases h
  | _ => cases h
noncomputable def gSub : PV → PV → Option Bv := gI0 fun i j => .int (i - j)
theorem ok_sub : OpOk K (rI0 fun i j => .int (i - j)) gSub := ok_I0 fun _ _ _ _ => .int _
noncomputable def mulOk (i j : Int) : Bool := decide ((-18446744073709551616 < i ∧ i < 18446744073709551616) ∨ (-18446744073709551616 < j ∧ j < 18446744073709551616))
noncomputable def gMul : PV → PV → Option Bv := gI mulOk fun i j => .int (i * j)
theorem ok_mul : OpOk K (rI CMul fun i j => .int (i * j)) gMul := ok_I (fun i j h => by have := of_decide_eq_true h; show (-(2 ^ 64) < i ∧ i < 2 ^ 64) ∨ (-(2 ^ 64) < j ∧ j < 2 ^ 64); omega) fun _ _ _ _ => .int _
noncomputable def gDiv : PV → PV → Option Bv := gI (fun _ j => decide (0 < j ∧ j < 1000000000000000000000000)) fun i j => .int (i / j)
theorem ok_div : OpOk K (rI CDivB fun i j => .int (i / j)) gDiv := ok_I (fun i j h => by have := of_decide_eq_true h; show 0 < j ∧ j < 2 ^ 200; omega) fun _ _ _ _ => .int _
noncomputable def gMod : PV → PV → Option Bv := gI (fun _ j => decide (0 < j)) fun i j => .int (i % j)
theorem ok_mod : OpOk K (rI (fun _ j => 0 < j) fun i j => .int (i % j)) gMod := ok_I (fun _ _ h => of_decide_eq_true h) fun _ _ _ _ => .int _
noncomputable def gPow : PV → PV → Option Bv := gI (fun i j => decide (0 ≤ j ∧ (Builtin.Int.intBits i : Int) * j ≤ 2 ^ 27)) fun i j => .int (i ^ j.toNat)
theorem ok_pow : OpOk K (rI (fun i j => 0 ≤ j ∧ (Builtin.Int.intBits i : Int) * j ≤ 2 ^ 27) fun i j => .int (i ^ j.toNat)) gPow := ok_I (fun _ _ h => of_decide_eq_true h) fun _ _ _ _ => .int _
noncomputable def gNeg : PV → Option Bv
  | .int i => some (.val (.int (-i)))
  | _ => none
theorem ok_neg : UnOk K (rU fun i => .int (-i)) gNeg := by
  intro Z H x p b Q hp h k
  cases p with
  | int i => cases h; exact ⟨i, hp.int, k _ H (Same.refl _) (Rep.int (-i))⟩
  | _ => cases h
noncomputable def gAddS : PV → PV → Option Bv
  | .str i, .str j => guardP (decide (i.length + j.length < 1000000)) (some (.val (.str (i ++ j))))
  | _, _ => none
theorem ok_addS : OpOk K (fun x y H Q => ∃ i j, x = .str i ∧ y = .str j ∧ i.length + j.length ≤ sizeLine ∧ Q (.str (i ++ j)) H) gAddS := by
  intro Z H x y p q b Q hp hq h k
  cases p with
  | str i =>
    cases q with
    | str j =>
      obtain ⟨c, h⟩ := guardP_some h
      cases h
      exact ⟨i, j, hp.str, hq.str, Nat.le_of_lt (smallP c), k _ H (Same.refl _) (Rep.str (i ++ j))⟩
    | _ => cases h
  | _ => cases h
noncomputable def rCatL (K : PySem.W.Frag) : R2 := fun x y H Q => ∃ a b xs ys, x = .ref a ∧ y = .ref b ∧ SqL K H a xs ∧ SqL K H b ys ∧ xs.length + ys.length ≤ sizeLine ∧ ∀ p, H p = none → Q (.ref p) (upd H p (.lst (xs ++ ys)))
theorem catL {X : Cx} (K : PySem.W.Frag) (hK : X.K = K := by rfl) : OpR X (binaryOp .Add) (rCatL K) := by
  subst hK
  intro pins s σ H x y v u Q I rx ry h
  obtain ⟨a, b, xs, ys, rfl, rfl, ha, hb, hz, q⟩ := h
  cases rx
  cases ry
  obtain ⟨its, r1, p1, _⟩ := I.list ha
  obtain ⟨its2, r2, p2, _⟩ := I.list hb
  obtain ⟨⟨cls, dd, data, sl⟩, ho, hc, n, hd⟩ := id p1.isList
  obtain ⟨⟨cls2, dd2, data2, sl2⟩, ho2, hc2, n2, hd2⟩ := id p2.isList
  simp only at hc hd hc2 hd2
  subst hc hd hc2 hd2
  have l1 := r1.length
  have l2 := r2.length
  have e : its.toArray ++ its2.toArray = (its ++ its2).toArray := by simp
  refine concat_meets ⟨_, ho, rfl⟩ ⟨_, ho2, rfl⟩ noFill_list_add seq_list_add PySem.F.slot_list_add PySem.F.entry_list_add (PySem.F.args_list_add_2 _ _) (list_addW a b its.toArray its2.toArray n n2 dd dd2 sl sl2 (by simp only [List.size_toArray]; omega)) ⟨ho, ho2, ?_⟩
  rw [e]
  exact ⟨.ref s.heap.objs.size, _, I.laid (t' := s.toks) (o := .lst (xs ++ ys)) (fun b ob q => Heap.get?_push_of_some _ q) (Nat.le_refl _) ⟨by rw [List.length_append]; exact hz, its ++ its2, 0, r1.append r2, Heap.get?_push_size _ rfl⟩, rfl, q _ (I.hok.fresh (Nat.le_refl _))⟩
noncomputable def gAddL : PV → PV → Option Bv
  | .lst i, .lst j => guardP (decide (i.length + j.length < 1000000)) (some (.new (.lst (i ++ j))))
  | _, _ => none
theorem newL {Z : ASet} {H : Hp} {a : Addr} {ps : List PV} {xs : List V} (hl : H a = none) (r : RepL K Z H ps xs) : RN K Z H (upd H a (.lst xs)) (.ref a) (.new (.lst ps)) :=
  ⟨a, rfl, hl, .lst upd_same (r.stay (.new (Same.upd hl) hl))⟩
theorem ok_addL : OpOk K (rCatL K) gAddL := by
  intro Z H x y p q b Q hp hq h k
  cases p with
  | lst i =>
    cases q with
    | lst j =>
      obtain ⟨c, h⟩ := guardP_some h
      cases h
      obtain ⟨a, xs, rfl, ha, ra⟩ := hp.lsts
      obtain ⟨a', ys, rfl, ha', ra'⟩ := hq.lsts
      exact ⟨a, a', xs, ys, rfl, rfl, ha.sq, ha'.sq, by rw [← ra.length, ← ra'.length]; exact Nat.le_of_lt (smallP c), fun l hl => k _ _ (Same.upd hl) (newL hl (ra.app ra'))⟩
    | _ => cases h
  | _ => cases h
noncomputable def rCatX (K : PySem.W.Frag) : R2 := fun x y H Q => ∃ a b xs ys, x = .ref a ∧ y = .ref b ∧ TupAt K H a xs ∧ TupAt K H b ys ∧ xs.length + ys.length ≤ sizeLine ∧ ∀ p H', Same H H' → TupAt K H' p (xs ++ ys) → Q (.ref p) H'
theorem catX {X : Cx} (K : PySem.W.Frag) (hK : X.K = K := by rfl) : OpR X (binaryOp .Add) (rCatX K) := by
  subst hK
  intro pins s σ H x y v u Q I rx ry h
  obtain ⟨a, b, xs, ys, rfl, rfl, ha, hb, hz, q⟩ := h
  cases rx
  cases ry
  obtain ⟨its, r1, p1, _⟩ := I.tuple ha.sq
  obtain ⟨its2, r2, p2, _⟩ := I.tuple hb.sq
  refine HT.cat_any p1 p2 (fun z => ⟨.ref b, H, I, rfl, q b H (Same.refl _) (by rw [r1.nil_iff.mp z]; exact hb)⟩) (fun z => ⟨.ref a, H, I, rfl, q a H (Same.refl _) (by rw [r2.nil_iff.mp z, List.append_nil]; exact ha)⟩) (fun _ _ => ?_) (by rw [← r1.length, ← r2.length]; exact hz)
  refine ⟨.ref s.heap.objs.size, _, I.laid (t' := s.toks) (o := .tup (xs ++ ys)) (fun b ob q => Heap.get?_push_of_some _ q) (Nat.le_refl _) ?_, rfl, q _ _ (Same.upd (I.hok.fresh (Nat.le_refl _))) (.inl upd_same)⟩
  exact ⟨by rw [List.length_append]; exact hz, _, r1.append r2, IsTup.new _ _⟩
noncomputable def gAddT : PV → PV → Option Bv
  | .tup i, .tup j => guardP (decide (i.length + j.length < 1000000)) (some (.val (.tup (i ++ j))))
  | _, _ => none
theorem ok_addT : OpOk K (rCatX K) gAddT := by
  intro Z H x y p q b Q hp hq h k
  cases p with
  | tup i =>
    cases q with
    | tup j =>
      obtain ⟨c, h⟩ := guardP_some h
      cases h
      obtain ⟨a, xs, rfl, ha, ra⟩ := hp.tup
      obtain ⟨a', ys, rfl, ha', ra'⟩ := hq.tup
      exact ⟨a, a', xs, ys, rfl, rfl, ha, ha', by rw [← ra.length, ← ra'.length]; exact Nat.le_of_lt (smallP c), fun l H' s t => k _ _ s (Rep.tup t ((ra.app ra').stay (.same s)))⟩
    | _ => cases h
  | _ => cases h
theorem OpR.or {X : Cx} {f : Value → Value → Sem Value} {r r' : R2} (h : OpR X f r) (h' : OpR X f r') : OpR X f (fun x y H Q => r x y H Q ∨ r' x y H Q) := by
  intro pins s σ H x y v u Q I rx ry q
  rcases q with q | q
  · exact h pins s σ H x y v u Q I rx ry q
  · exact h' pins s σ H x y v u Q I rx ry q
noncomputable def rAddX (K : PySem.W.Frag) : R2 := fun x y H Q => rI0 (fun i j => .int (i + j)) x y H Q ∨ ((∃ i j, x = .str i ∧ y = .str j ∧ i.length + j.length ≤ sizeLine ∧ Q (.str (i ++ j)) H) ∨ (rCatL K x y H Q ∨ rCatX K x y H Q))
theorem addX {X : Cx} (K : PySem.W.Frag) (hK : X.K = K := by rfl) : OpR X (binaryOp .Add) (rAddX K) := OpR.or op_add (OpR.or op_add_str (OpR.or (catL K hK) (catX K hK)))
noncomputable def gAdd : PV → PV → Option Bv := fun p q => (gI0 (fun i j => .int (i + j)) p q).or ((gAddS p q).or ((gAddL p q).or (gAddT p q)))
theorem ok_add : OpOk K (rAddX K) gAdd := OpOk.or (ok_I0 fun _ _ _ _ => .int _) (OpOk.or ok_addS (OpOk.or ok_addL ok_addT))
noncomputable def gEq : PV → PV → Option Bv := fun p q => guardP (okP 9 p && okP 9 q) (some (.val (.bl (eqP p q))))
theorem Red.any {Z : ASet} {H : Hp} {p : PV} {v : V} (h : Red K Z H p v) : Red K noA H p v := by
  have k : Stay Z noA H H := .less fun a z => z.elim
  cases h with
  | rep h => exact .rep (h.stay k)
  | lst h r => exact .lst h (r.stay k)
  | dct h e r => exact .dct h e (r.stay k)
theorem ok_eq : OpOk K (rEqP K false) gEq := by
  intro Z H x y p q b Q hp hq h k
  obtain ⟨c, h⟩ := guardP_some h
  rw [Bool.and_eq_true] at c
  cases h
  exact ⟨p, q, hp.any, hq.any, c.1, c.2, k _ H (Same.refl _) (Rep.bl _)⟩
noncomputable def gNe : PV → PV → Option Bv := fun p q => guardP (okP 9 p && okP 9 q) (some (.val (.bl (!eqP p q))))
theorem ok_ne : OpOk K (rEqP K true) gNe := by
  intro Z H x y p q b Q hp hq h k
  obtain ⟨c, h⟩ := guardP_some h
  rw [Bool.and_eq_true] at c
  cases h
  exact ⟨p, q, hp.any, hq.any, c.1, c.2, k _ H (Same.refl _) (Rep.bl _)⟩
noncomputable def gInL (neg : Bool) : PV → PV → Option Bv := fun p q => bO (itemsP q) fun ps => guardP (okP 8 p && ps.all (okP 8)) (some (.val (.bl (if neg then !ps.any (fun z => eqP z p) else ps.any fun z => eqP z p))))
theorem ok_inL (neg : Bool) : OpOk K (rInP K neg) (gInL neg) := by
  intro Z H x y p q b Q hp hq h k
  obtain ⟨ps, g, h⟩ := bO_some h
  obtain ⟨c, h⟩ := guardP_some h
  rw [Bool.and_eq_true] at c
  cases h
  exact ⟨p, q, ps, hp.any, hq.any, g, c.1, c.2, k _ H (Same.refl _) (Rep.bl _)⟩
noncomputable def gInS (neg : Bool) : PV → PV → Option Bv
  | .str i, .str j => some (.val (.bl (if neg then !(!(Builtin.Str.occurrences j i 0 j.length 1).isEmpty) else !(Builtin.Str.occurrences j i 0 j.length 1).isEmpty)))
  | _, _ => none
noncomputable def rInS (neg : Bool) : R2 := fun x y H Q => ∃ i j, x = .str i ∧ y = .str j ∧ Q (.bl (if neg then !(!(Builtin.Str.occurrences j i 0 j.length 1).isEmpty) else !(Builtin.Str.occurrences j i 0 j.length 1).isEmpty)) H
theorem ok_inS (neg : Bool) : OpOk K (rInS neg) (gInS neg) := by
  intro Z H x y p q b Q hp hq h k
  cases p with
  | str i =>
    cases q with
    | str j => cases h; exact ⟨i, j, hp.str, hq.str, k _ H (Same.refl _) (Rep.bl _)⟩
    | _ => cases h
  | _ => cases h
noncomputable def gInD (neg : Bool) : PV → PV → Option Bv
  | p, .dct kvs => bO (keyOf p) fun k => some (.val (.bl (if neg then !(valP kvs k).isSome else (valP kvs k).isSome)))
  | _, _ => none
noncomputable def rInD (neg : Bool) : R2 := fun x y H Q => ∃ a kvs k, y = .ref a ∧ RdK H a kvs ∧ x = kV k ∧ Q (.bl (if neg then !(valV kvs k).isSome else (valV kvs k).isSome)) H
theorem inD {X : Cx} {k : Nat} (hr : Room k X.A) : OpR X (compareOp .In) (rInD false) := by
  intro pins s σ H x y v u Q I rx ry h
  obtain ⟨a, kvs, key, rfl, ha, rfl, q⟩ := h
  cases ry
  exact d_in (by have := hr.un; omega) I (.inl ⟨kvs, key, ha, rfl, rfl⟩) rx fun s' I' => ⟨.bl _, H, I', rfl, q⟩
theorem notInD {X : Cx} {k : Nat} (hr : Room k X.A) : OpR X (compareOp .NotIn) (rInD true) := by
  intro pins s σ H x y v u Q I rx ry h
  obtain ⟨a, kvs, key, rfl, ha, rfl, q⟩ := h
  cases ry
  exact d_notIn (by have := hr.un; omega) I (.inl ⟨kvs, key, ha, rfl, rfl⟩) rx fun s' I' => ⟨.bl _, H, I', rfl, q⟩
theorem ok_inD (neg : Bool) : OpOk K (rInD neg) (gInD neg) := by
  intro Z H x y p q b Q hp hq h k
  cases q with
  | dct kvs =>
    obtain ⟨key, g, h⟩ := bO_some h
    cases h
    obtain ⟨a, ys, rfl, ha, e, r⟩ := hq.dcts
    refine ⟨a, ys, key, rfl, ha, hp.key g, ?_⟩
    have es : (valV ys key).isSome = (valP kvs key).isSome := by
      rcases RepD.val key ⟨e, r⟩ with ⟨h1, h2⟩ | ⟨p', v', h1, h2, _⟩
      · rw [h1, h2]
        rfl
      · rw [h1, h2]
        rfl
    rw [es]
    exact k _ H (Same.refl _) (Rep.bl _)
  | _ => cases h
noncomputable def rInX (K : PySem.W.Frag) (neg : Bool) : R2 := fun x y H Q => rInS neg x y H Q ∨ (rInP K neg x y H Q ∨ rInD neg x y H Q)
theorem inX {X : Cx} {k : Nat} (K : PySem.W.Frag) (hr : Room k X.A) (hK : X.K = K := by rfl) : OpR X (compareOp .In) (rInX K false) := OpR.or op_in_str (OpR.or (inPX K hr hK) (inD hr))
theorem notInX {X : Cx} {k : Nat} (K : PySem.W.Frag) (hr : Room k X.A) (hK : X.K = K := by rfl) : OpR X (compareOp .NotIn) (rInX K true) := OpR.or op_notin_str (OpR.or (notInPX K hr hK) (notInD hr))
noncomputable def gIn (neg : Bool) : PV → PV → Option Bv := fun p q => (gInS neg p q).or ((gInL neg p q).or (gInD neg p q))
theorem ok_in (neg : Bool) : OpOk K (rInX K neg) (gIn neg) := OpOk.or (ok_inS neg) (OpOk.or (ok_inL neg) (ok_inD neg))
noncomputable def gCmpS (f : Str → Str → Bool) : PV → PV → Option Bv
  | .str i, .str j => some (.val (.bl (f i j)))
  | _, _ => none
theorem ok_cmpS {f : Str → Str → Bool} : OpOk K (fun x y H Q => ∃ i j, x = .str i ∧ y = .str j ∧ Q (.bl (f i j)) H) (gCmpS f) := by
  intro Z H x y p q b Q hp hq h k
  cases p with
  | str i =>
    cases q with
    | str j => cases h; exact ⟨i, j, hp.str, hq.str, k _ H (Same.refl _) (Rep.bl _)⟩
    | _ => cases h
  | _ => cases h
noncomputable def rLtX : R2 := fun x y H Q => rI0 (fun i j => .bl (decide (i < j))) x y H Q ∨ ∃ i j, x = .str i ∧ y = .str j ∧ Q (.bl (decide (i.cps.toList < j.cps.toList))) H
theorem ltX {X : Cx} : OpR X (compareOp .Lt) rLtX := OpR.or op_lt op_lt_str
noncomputable def gLt : PV → PV → Option Bv := fun p q => (gI0 (fun i j => .bl (decide (i < j))) p q).or (gCmpS (fun i j => decide (i.cps.toList < j.cps.toList)) p q)
theorem ok_lt : OpOk K rLtX gLt := OpOk.or (ok_I0 fun _ _ _ _ => .bl _) ok_cmpS
noncomputable def rLeX : R2 := fun x y H Q => rI0 (fun i j => .bl (decide (i ≤ j))) x y H Q ∨ ∃ i j, x = .str i ∧ y = .str j ∧ Q (.bl (!decide (j.cps.toList < i.cps.toList))) H
theorem leX {X : Cx} : OpR X (compareOp .LtE) rLeX := OpR.or op_le op_le_str
noncomputable def gLe : PV → PV → Option Bv := fun p q => (gI0 (fun i j => .bl (decide (i ≤ j))) p q).or (gCmpS (fun i j => !decide (j.cps.toList < i.cps.toList)) p q)
theorem ok_le : OpOk K rLeX gLe := OpOk.or (ok_I0 fun _ _ _ _ => .bl _) ok_cmpS
noncomputable def gGt : PV → PV → Option Bv := gI0 fun i j => .bl (decide (j < i))
theorem ok_gt : OpOk K (rI0 fun i j => .bl (decide (j < i))) gGt := ok_I0 fun _ _ _ _ => .bl _
noncomputable def gGe : PV → PV → Option Bv := gI0 fun i j => .bl (decide (j ≤ i))
theorem ok_ge : OpOk K (rI0 fun i j => .bl (decide (j ≤ i))) gGe := ok_I0 fun _ _ _ _ => .bl _
noncomputable def isNone : PV → Bool
  | .non => true
  | _ => false
theorem Red.isNone {Z : ASet} {H : Hp} {p : PV} {v : V} (h : Red K Z H p v) : decide (v = .non) = Mr.isNone p := by
  cases h with
  | rep h => cases h <;> rfl
  | lst h r => rfl
  | dct h e r => rfl
noncomputable def gIs (neg : Bool) : PV → PV → Option Bv
  | p, .non => some (.val (.bl (if neg then !isNone p else isNone p)))
  | _, _ => none
theorem ok_is : OpOk K (fun x y H Q => y = .non ∧ Q (.bl (decide (x = .non))) H) (gIs false) := by
  intro Z H x y p q b Q hp hq h k
  cases q with
  | non => cases h; exact ⟨hq.non, by rw [hp.isNone]; exact k _ H (Same.refl _) (Rep.bl _)⟩
  | _ => cases h
noncomputable def gIx : PV → PV → Option Bv
  | .lst ps, .int i => bO (atI ps i) fun p => some (.val p)
  | .tup ps, .int i => bO (atI ps i) fun p => some (.val p)
  | .str z, .int i => guardP (decide (z.length < 1000000)) (bO (atI z.cps.toList i) fun c => some (.val (.str ⟨#[c]⟩)))
  | .dct kvs, p => bO (keyOf p) fun k => bO (valP kvs k) fun q => some (.val q)
  | _, _ => none
theorem RepL.atI {Z : ASet} {H : Hp} {ps : List PV} {xs : List V} {i : Int} {p : PV} (r : RepL K Z H ps xs) (h : L2.atI ps i = some p) : ∃ v, L2.atI xs i = some v ∧ Rep K Z H p v := by
  unfold L2.atI at h ⊢
  rw [← r.length]
  cases c : ixN ps.length i with
  | none => rw [c] at h; cases h
  | some j => rw [c] at h; exact r.get h
noncomputable def rIxD : R2 := fun x y H Q => ∃ a kvs k v, x = .ref a ∧ RdK H a kvs ∧ y = kV k ∧ valV kvs k = some v ∧ Q v H
theorem ixD {X : Cx} {k : Nat} (hr : Room k X.A) : IxR X rIxD := by
  intro value slice pins s σ H x y v u Q I rx ry h hs
  obtain ⟨a, kvs, key, w, rfl, ha, rfl, hv, q⟩ := h
  cases rx
  have g : DGet H a (kV key) (some w) := .inl ⟨kvs, key, ha, rfl, hv.symm⟩
  have hT := dict_typeIs I g
  unfold subscriptTail
  refine wpAny_bind ?_
  rw [getitemInPython_of_ne hT.not_modules]
  refine wpAny_bind (wpAny_specialOf hT PySem.F.slot_dict_getitem.lookup ?_)
  have fin : wpAny (model X.prog X.w) X.A (subscripted slice false (.ref a) u) (fun r s₃ => wpAny (model X.prog X.w) X.A (letTemporaryGo value (.ref a) r >>= fun _ => pure r) (EP X pins σ Q) X.xe s₃) X.xe s := by
    rw [hs]
    exact wpAny_operating (wpAny_mono (d_getItem (by have := hr.un; omega) I g ry fun w' s3 I3 rw' => (⟨w, H, I3, rw', q⟩ : EP X pins σ Q w' s3)) (fun r s₃ h₃ => wpAny_bind (wpAny_letTemporaryGo (wpAny_pure h₃))) fun _ _ x => x)
  first
    | exact wpAny_pure (wpAny_bind fin)
    | exact wpAny_bind (wpAny_pure (wpAny_bind fin))
    | exact wpAny_bind fin
noncomputable def rIxX (K : PySem.W.Frag) : R2 := fun x y H Q => rIxL K x y H Q ∨ (rIxT K x y H Q ∨ (rIxS x y H Q ∨ rIxD x y H Q))
theorem ixX {X : Cx} {k : Nat} (K : PySem.W.Frag) (hr : Room k X.A) (hK : X.K = K := by rfl) : IxR X (rIxX K) := IxR.or (ixL K hK) (IxR.or (ixT K hK) (IxR.or ix_str (ixD hr)))
theorem ok_ix : OpOk K (rIxX K) gIx := by
  intro Z H x y p q b Q hp hq h k
  cases p with
  | lst ps =>
    cases q with
    | int i =>
      obtain ⟨p, g, h⟩ := bO_some h
      cases h
      obtain ⟨a, xs, rfl, ha, ra⟩ := hp.lsts
      obtain ⟨v, hv, rv⟩ := ra.atI g
      exact .inl ⟨a, xs, i, v, rfl, hq.int, ha.sq, hv, k _ H (Same.refl _) rv⟩
    | _ => cases h
  | tup ps =>
    cases q with
    | int i =>
      obtain ⟨p, g, h⟩ := bO_some h
      cases h
      obtain ⟨a, xs, rfl, ha, ra⟩ := hp.tup
      obtain ⟨v, hv, rv⟩ := ra.atI g
      exact .inr (.inl ⟨a, xs, i, v, rfl, hq.int, ha.sq, hv, k _ H (Same.refl _) rv⟩)
    | _ => cases h
  | str z =>
    cases q with
    | int i =>
      obtain ⟨c, h⟩ := guardP_some h
      obtain ⟨p, g, h⟩ := bO_some h
      cases h
      exact .inr (.inr (.inl ⟨z, i, p, hp.str, hq.int, Nat.le_of_lt (smallP c), g, k _ H (Same.refl _) (Rep.str _)⟩))
    | _ => cases h
  | dct kvs =>
    have h : (bO (keyOf q) fun k => bO (valP kvs k) fun q => some (Bv.val q)) = some b := by cases q <;> exact h
    obtain ⟨key, g, h⟩ := bO_some h
    obtain ⟨p, g2, h⟩ := bO_some h
    cases h
    obtain ⟨a, ys, rfl, ha, e, r⟩ := hp.dcts
    rcases RepD.val key ⟨e, r⟩ with ⟨h1, h2⟩ | ⟨p', v', h1, h2, h3⟩
    · rw [h1] at g2; cases g2
    · rw [h1] at g2
      cases g2
      exact .inr (.inr (.inr ⟨a, ys, key, v', rfl, ha, hq.key g, h2, k _ H (Same.refl _) h3⟩))
  | _ => cases q <;> cases h
noncomputable def cutP (xs : List PV) (lo hi : Option Int) : List PV := (xs.drop (HT.sIx xs.length 0 lo)).take (HT.sIx xs.length xs.length hi - HT.sIx xs.length 0 lo)
theorem RepL.cut {Z : ASet} {H : Hp} {ps : List PV} {xs : List V} (r : RepL K Z H ps xs) (lo hi : Option Int) : RepL K Z H (cutP ps lo hi) (cutV xs lo hi) := by
  unfold cutP cutV
  rw [← r.length]
  exact (r.drop _).take _
noncomputable def rSlX (K : PySem.W.Frag) : V → Option Int → Option Int → Hp → VK → Prop := fun x lo hi H Q => ∃ a xs, x = .ref a ∧ TupAt K H a xs ∧ ∀ p H', Same H H' → TupAt K H' p (cutV xs lo hi) → Q (.ref p) H'
theorem slTX {X : Cx} (K : PySem.W.Frag) (hK : X.K = K := by rfl) : SlR X (rSlX K) := by
  subst hK
  intro pins s σ H x v vl vu lo hi sl Q I rx hs pl pu h
  obtain ⟨a, xs, rfl, hx, q⟩ := h
  by_cases hw : HT.sIx xs.length 0 lo = 0 ∧ HT.sIx xs.length xs.length hi = xs.length
  · cases rx
    obtain ⟨its, r, ht, hz⟩ := I.tuple hx.sq
    have hlen : its.toArray.size = xs.length := by rw [List.size_toArray]; exact r.length.symm
    refine ⟨"tuple", _, PyProof.Rows.slot_tuple_getitem.lookup, ht.typeIs, ?_⟩
    refine HT.getItem_tuple_all ht hs pl pu (by rw [hlen]; exact hw) ⟨.ref a, H, I, rfl, q a H (Same.refl _) ?_⟩
    have e : cutV xs lo hi = xs := by unfold cutV; rw [hw.1, hw.2, List.drop_zero, Nat.sub_zero, List.take_length]
    rw [e]; exact hx
  · exact sl_tup pins s σ H (.ref a) v vl vu lo hi sl Q I rx hs pl pu ⟨a, xs, rfl, hx.sq, hw, fun p hp => q p _ (Same.upd hp) (.inl upd_same)⟩
noncomputable def rSlAll (K : PySem.W.Frag) : V → Option Int → Option Int → Hp → VK → Prop := fun x lo hi H Q => rSlL K x lo hi H Q ∨ (rSlX K x lo hi H Q ∨ (∃ z, x = .str z ∧ z.length ≤ sizeLine ∧ Q (.str (Txt.slice z lo hi)) H))
theorem slX {X : Cx} (K : PySem.W.Frag) (hK : X.K = K := by rfl) : SlR X (rSlAll K) := SlR.or (slL K hK) (SlR.or (slTX K hK) sl_str)
noncomputable def gSl : PV → Option Int → Option Int → Option Bv
  | .lst ps, lo, hi => some (.new (.lst (cutP ps lo hi)))
  | .tup ps, lo, hi => some (.val (.tup (cutP ps lo hi)))
  | .str z, lo, hi => guardP (decide (z.length < 1000000)) (some (.val (.str (Txt.slice z lo hi))))
  | _, _, _ => none
theorem ok_sl : SlOk K (rSlAll K) gSl := by
  intro Z H x p lo hi b Q hp h k
  cases p with
  | lst ps =>
    cases h
    obtain ⟨a, xs, rfl, ha, ra⟩ := hp.lsts
    exact .inl ⟨a, xs, rfl, ha.sq, fun l hl => k _ _ (Same.upd hl) (newL hl (ra.cut lo hi))⟩
  | tup ps =>
    cases h
    obtain ⟨a, xs, rfl, ha, ra⟩ := hp.tup
    exact .inr (.inl ⟨a, xs, rfl, ha, fun l H' s t => k _ _ s (Rep.tup t ((ra.cut lo hi).stay (.same s)))⟩)
  | str z =>
    obtain ⟨c, h⟩ := guardP_some h
    cases h
    exact .inr (.inr ⟨z, hp.str, Nat.le_of_lt (smallP c), k _ H (Same.refl _) (Rep.str _)⟩)
  | _ => cases h
theorem RedL.one {Z : ASet} {H : Hp} {p : PV} {vs : List V} (h : RedL K Z H [p] vs) : ∃ v, vs = [v] ∧ Red K Z H p v := by
  cases h with | cons h r => cases r; exact ⟨_, rfl, h⟩
theorem RedL.two {Z : ASet} {H : Hp} {p q : PV} {vs : List V} (h : RedL K Z H [p, q] vs) : ∃ v u, vs = [v, u] ∧ Red K Z H p v ∧ Red K Z H q u := by
  cases h with | cons h r => cases r with | cons h' r => cases r; exact ⟨_, _, rfl, h, h'⟩
noncomputable def gLen : List PV → Option Bv
  | [.lst ps] => some (.val (.int ps.length))
  | [.tup ps] => some (.val (.int ps.length))
  | [.str z] => guardP (decide (z.length < 1000000)) (some (.val (.int z.length)))
  | _ => none
noncomputable def rLenX (K : PySem.W.Frag) : List V → Hp → VK → Prop := fun xs H Q => (∃ p ys, xs = [.ref p] ∧ (SqL K H p ys ∨ SqT K H p ys) ∧ Q (.int ys.length) H) ∨ ∃ z, xs = [.str z] ∧ z.length ≤ sizeLine ∧ Q (.int z.length) H
theorem lenX {X : Cx} (K : PySem.W.Frag) (hK : X.K = K := by rfl) : CallR X (.builtin "len") (rLenX K) := by subst hK; exact CallR.or call_len_seq call_len_str
theorem ok_len : CbOk K (rLenX K) gLen := by
  intro Z H vs ps b Q hp h k
  unfold gLen at h
  split at h
  · cases h
    obtain ⟨v, rfl, hv⟩ := hp.one
    obtain ⟨a, xs, rfl, ha, ra⟩ := hv.lsts
    exact .inl ⟨a, xs, rfl, .inl ha.sq, k _ H (Same.refl _) (by rw [ra.length]; exact Rep.int _)⟩
  · cases h
    obtain ⟨v, rfl, hv⟩ := hp.one
    obtain ⟨a, xs, rfl, ha, ra⟩ := hv.tup
    exact .inl ⟨a, xs, rfl, .inr ha.sq, k _ H (Same.refl _) (by rw [ra.length]; exact Rep.int _)⟩
  · obtain ⟨c, h⟩ := guardP_some h
    cases h
    obtain ⟨v, rfl, hv⟩ := hp.one
    exact .inr ⟨_, by rw [hv.str], Nat.le_of_lt (smallP c), k _ H (Same.refl _) (Rep.int _)⟩
  · cases h
noncomputable def gTupC : List PV → Option Bv
  | [.lst ps] => some (.val (.tup ps))
  | [.tup ps] => some (.val (.tup ps))
  | _ => none
noncomputable def rTupX (K : PySem.W.Frag) : List V → Hp → VK → Prop := fun xs H Q => ∃ p ys, xs = [.ref p] ∧ ((SqL K H p ys ∧ ∀ l, H l = none → Q (.ref l) (upd H l (.tup ys))) ∨ (SqT K H p ys ∧ Q (.ref p) H))
theorem tupX {X : Cx} (K : PySem.W.Frag) (hK : X.K = K := by rfl) : CallR X (.type "tuple") (rTupX K) := by subst hK; exact call_tuple_of
theorem ok_tupC : CbOk K (rTupX K) gTupC := by
  intro Z H vs ps b Q hp h k
  unfold gTupC at h
  split at h
  · cases h
    obtain ⟨v, rfl, hv⟩ := hp.one
    obtain ⟨a, xs, rfl, ha, ra⟩ := hv.lsts
    exact ⟨a, xs, rfl, .inl ⟨ha.sq, fun l hl => k _ _ (Same.upd hl) (Rep.tup (.inl upd_same) (ra.stay (.same (Same.upd hl))))⟩⟩
  · cases h
    obtain ⟨v, rfl, hv⟩ := hp.one
    obtain ⟨a, xs, rfl, ha, ra⟩ := hv.tup
    exact ⟨a, xs, rfl, .inr ⟨ha.sq, k _ H (Same.refl _) (Rep.tup ha ra)⟩⟩
  · cases h
noncomputable def gListC : List PV → Option Bv
  | [.lst ps] => some (.new (.lst ps))
  | [.tup ps] => some (.new (.lst ps))
  | _ => none
noncomputable def gAbs : List PV → Option Bv
  | [.int i] => some (.val (.int (if i < 0 then -i else i)))
  | _ => none
theorem ok_abs : CbOk K (fun xs H Q => ∃ i, xs = [.int i] ∧ Q (.int (if i < 0 then -i else i)) H) gAbs := by
  intro Z H vs ps b Q hp h k
  unfold gAbs at h
  split at h
  · cases h
    obtain ⟨v, rfl, hv⟩ := hp.one
    exact ⟨_, by rw [hv.int], k _ H (Same.refl _) (Rep.int _)⟩
  · cases h
noncomputable def gMax2 : List PV → Option Bv
  | [.int i, .int j] => some (.val (.int (if j > i then j else i)))
  | _ => none
theorem ok_max2 : CbOk K (fun xs H Q => ∃ i j, xs = [.int i, .int j] ∧ Q (.int (if j > i then j else i)) H) gMax2 := by
  intro Z H vs ps b Q hp h k
  unfold gMax2 at h
  split at h
  · cases h
    obtain ⟨v, u, rfl, hv, hu⟩ := hp.two
    exact ⟨_, _, by rw [hv.int, hu.int], k _ H (Same.refl _) (Rep.int _)⟩
  · cases h
noncomputable def gMin2 : List PV → Option Bv
  | [.int i, .int j] => some (.val (.int (if j < i then j else i)))
  | _ => none
theorem ok_min2 : CbOk K (fun xs H Q => ∃ i j, xs = [.int i, .int j] ∧ Q (.int (if j < i then j else i)) H) gMin2 := by
  intro Z H vs ps b Q hp h k
  unfold gMin2 at h
  split at h
  · cases h
    obtain ⟨v, u, rfl, hv, hu⟩ := hp.two
    exact ⟨_, _, by rw [hv.int, hu.int], k _ H (Same.refl _) (Rep.int _)⟩
  · cases h
noncomputable def gIntC : List PV → Option Bv
  | [.int i] => some (.val (.int i))
  | [.bl k] => some (.val (.int (if k then 1 else 0)))
  | _ => none
theorem ok_intC : CbOk K (fun xs H Q => (∃ i, xs = [.int i] ∧ Q (.int i) H) ∨ ∃ k, xs = [.bl k] ∧ Q (.int (if k then 1 else 0)) H) gIntC := by
  intro Z H vs ps b Q hp h k
  unfold gIntC at h
  split at h
  · cases h
    obtain ⟨v, rfl, hv⟩ := hp.one
    exact .inl ⟨_, by rw [hv.int], k _ H (Same.refl _) (Rep.int _)⟩
  · cases h
    obtain ⟨v, rfl, hv⟩ := hp.one
    exact .inr ⟨_, by rw [hv.bl], k _ H (Same.refl _) (Rep.int _)⟩
  · cases h
noncomputable def gStrC : List PV → Option Bv
  | [.int i] => guardP (decide (i.natAbs.log2 < 1920)) (some (.val (.str (toString i))))
  | _ => none
noncomputable def strsP : List PV → Option (List Str)
  | [] => some []
  | .str x :: ps => bO (strsP ps) fun xs => some (x :: xs)
  | _ => none
theorem strsP_eq : ∀ {ps : List PV} {xs : List Str}, strsP ps = some xs → ps = xs.map PV.str
  | [], xs, h => by cases h; rfl
  | p :: ps, xs, h => by
    cases p with
    | str x =>
      obtain ⟨ys, g, h⟩ := bO_some h
      cases h
      rw [strsP_eq g]; rfl
    | _ => cases h
theorem strsP_map (xs : List Str) : strsP (xs.map PV.str) = some xs := by
  induction xs with
  | nil => rfl
  | cons x xs ih => rw [List.map_cons, strsP, ih]; rfl
theorem RepL.strs {Z : ASet} {H : Hp} : ∀ {xs : List Str} {vs : List V}, RepL K Z H (xs.map PV.str) vs → vs = xs.map V.str
  | [], vs, h => by cases h; rfl
  | x :: xs, vs, h => by cases h with | cons h r => cases h; rw [RepL.strs r]; rfl
noncomputable def gJoin : PV → List PV → Option Bv
  | .str z, [.lst ps] => bO (strsP ps) fun xs => guardP (decide ((xs.map (·.length)).sum + xs.length * z.length < 1000000)) (some (.val (.str (Txt.join z xs))))
  | _, _ => none
theorem ok_join : MtOk K (rJoin K) gJoin := by
  intro Z H x vs p ps b Q hp hps h k
  unfold gJoin at h
  split at h
  · obtain ⟨xs, g, h⟩ := bO_some h
    obtain ⟨c, h⟩ := guardP_some h
    cases h
    obtain ⟨v, rfl, hv⟩ := hps.one
    obtain ⟨a, ys, rfl, ha, ra⟩ := hv.lsts
    rw [strsP_eq g] at ra
    rw [ra.strs] at ha
    refine ⟨_, a, xs, hp.str, rfl, ha.sq, ?_, k _ H (Same.refl _) (Rep.str _)⟩
    have := of_decide_eq_true c
    omega
  · cases h
noncomputable def itemsW : PV → Option (List PV)
  | .lst ps => some ps
  | .tup ps => some ps
  | .str z => some (z.cps.toList.map fun c => .str ⟨#[c]⟩)
  | _ => none
noncomputable def fIt (f : FE) : FI := fun st e => bE (f e) fun b e1 => match b with
  | .slot i => match e1[i]? with
    | some (some (.bor p)) => bO (itemsW p) fun ps => some (ps, e1)
    | some (some (.own p)) => guardP (st i) (bO (itemsW p) fun ps => some (ps, e1))
    | some (some (.loc p)) => guardP (st i) (bO (itemsW p) fun ps => some (ps, e1))
    | _ => none
  | .val p => bO (itemsW p) fun ps => some (ps, e1)
  | .new p => bO (itemsW p) fun ps => some (ps, e1)
noncomputable def iAny (K : PySem.W.Frag) (tl : TE) : TI := fun σ H R => tl σ H fun x H1 => (∃ a, x = .ref a ∧ (∃ xs, SqL K H1 a xs) ∧ R (Itl K a) H1) ∨ ((∃ a, x = .ref a ∧ (∃ xs, SqT K H1 a xs) ∧ R (Itt K a) H1) ∨ ∃ z, x = .str z ∧ R (Its z) H1)
theorem pi_any (K : PySem.W.Frag) {X : Cx} {tg l : Expr} {tl : TE} (hl : PE X l tl) (hK : X.K = K := by rfl) : PI X tg l (iAny K tl) := by
  subst hK
  intro pins s σ H R I h
  refine thn (hl pins s σ H _ I h) fun v s1 ⟨x, H1, I1, r1, q1⟩ => ?_
  rcases q1 with ⟨a, e, ⟨xs, hq⟩, q⟩ | ⟨a, e, ⟨xs, hq⟩, q⟩ | ⟨z, e, q⟩
  · subst e
    cases r1
    obtain ⟨its, rv, p, hz⟩ := I1.list hq
    refine wpAny_pyIter_list p.isList ?_
    refine ⟨s1.heap.objs.size, [s1.heap.objs.size], _, _, H1, rfl, I1.kept (t' := s1.toks) fun b o e => Heap.get?_push_of_some _ e, turn_list a _, ⟨_, Heap.get?_push_size _ rfl, rfl, rfl⟩, fun b hb => ?_, q⟩
    have e : b = s1.heap.objs.size := by simpa using hb
    subst e
    exact I1.fpOk (Nat.le_refl _) (I1.hok.fresh (Nat.le_refl _))
  · subst e
    cases r1
    obtain ⟨its, rv, p, hz⟩ := I1.tuple hq
    refine wpAny_pyIter_tuple (show s1.heap.IsTuple a its.toArray from p) ?_
    refine ⟨s1.heap.objs.size, [s1.heap.objs.size], _, _, H1, rfl, I1.kept (t' := s1.toks) fun b o e => Heap.get?_push_of_some _ e, turn_tuple a _, ⟨_, Heap.get?_push_size _ rfl, rfl, rfl⟩, fun b hb => ?_, q⟩
    have e : b = s1.heap.objs.size := by simpa using hb
    subst e
    exact I1.fpOk (Nat.le_refl _) (I1.hok.fresh (Nat.le_refl _))
  · subst e
    obtain ⟨t, rfl⟩ := r1
    cases ha : z.cps.all (· < 128) with
    | true =>
      refine wpAny_pyIter_ascii ha ?_
      refine ⟨s1.heap.objs.size, [s1.heap.objs.size], _, _, H1, rfl, I1.kept (t' := s1.toks) fun b o e => Heap.get?_push_of_some _ e, turn_strA z t _, ⟨_, Heap.get?_push_size _ rfl, rfl, rfl⟩, fun b hb => ?_, q⟩
      have e : b = s1.heap.objs.size := by simpa using hb
      subst e
      exact I1.fpOk (Nat.le_refl _) (I1.hok.fresh (Nat.le_refl _))
    | false =>
      refine wpAny_pyIter_wide ha ?_
      refine ⟨s1.heap.objs.size, [s1.heap.objs.size], _, _, H1, rfl, I1.kept (t' := s1.toks) fun b o e => Heap.get?_push_of_some _ e, turn_strW z t _, ⟨_, Heap.get?_push_size _ rfl, rfl, rfl⟩, fun b hb => ?_, q⟩
      have e : b = s1.heap.objs.size := by simpa using hb
      subst e
      exact I1.fpOk (Nat.le_refl _) (I1.hok.fresh (Nat.le_refl _))
theorem stayIt {O M L Wr L' : ASet} {W : WS} {H H' : Hp} (o : Okc O M W L H) (hw : ∀ a, Wr a → aw W a ∨ L a) (k1 : ∀ a ob, H a = some ob → ¬ Wr a → H' a = some ob) (k2 : ∀ a xs, H a = some (.tup xs) → H' a = some (.tup xs)) (k3 : ∀ a, L' a → L a ∨ H a = none) : Stay (uni M L) (uni M L') H H' :=
  ⟨k2, fun a ob h n => ⟨k1 a ob h fun z => n ((hw a z).elim (fun ⟨i, w⟩ => .inl (o.wm i a w)) .inr), fun z => z.elim (fun z => n (.inl z)) fun z => (k3 a z).elim (fun z => n (.inr z)) fun z => by rw [h] at z; cases z⟩⟩
theorem it_list {O M L Wr : ASet} {W : WS} {H : Hp} {a : Addr} {xs : List V} {ps : List PV} (o : Okc O M W L H) (hw : ∀ a, Wr a → aw W a ∨ L a) (ha : (Rd H a (.lst xs) ∧ ¬ Wr a) ∨ KLst K a xs) (r : RepL K (uni M L) H ps xs) : ItOk K M L Wr H (Itl K a) ps := by
  intro L' H' k1 k2 k3
  have st := stayIt o hw k1 k2 k3
  have sq : SqL K H' a xs := by
    rcases ha with ⟨h | ⟨u, h⟩, n⟩ | h
    · exact .inl (.inl (k1 _ _ h n))
    · exact .inl (.inr ⟨u, k1 _ _ h n⟩)
    · exact .inr h
  refine ⟨fun k p hp => ?_, xs, sq, by rw [r.length]; exact Nat.le_refl _⟩
  obtain ⟨v, hv, rv⟩ := r.get hp
  refine ⟨⟨xs, v, sq, hv⟩, fun x H3 y => ?_⟩
  obtain ⟨e, y⟩ := y
  subst e
  have := y xs sq
  rw [hv] at this
  cases this
  exact ⟨Same.refl _, rv.stay st⟩
theorem it_tup {O M L Wr : ASet} {W : WS} {H : Hp} {a : Addr} {xs : List V} {ps : List PV} (o : Okc O M W L H) (hw : ∀ a, Wr a → aw W a ∨ L a) (ha : TupAt K H a xs) (r : RepL K (uni M L) H ps xs) : ItOk K M L Wr H (Itt K a) ps := by
  intro L' H' k1 k2 k3
  have st := stayIt o hw k1 k2 k3
  have sq : SqT K H' a xs := TupAt.sq (ha.elim (fun h => .inl (k2 _ _ h)) .inr)
  refine ⟨fun k p hp => ?_, xs, sq, by rw [r.length]; exact Nat.le_refl _⟩
  obtain ⟨v, hv, rv⟩ := r.get hp
  refine ⟨⟨xs, v, sq, hv⟩, fun x H3 y => ?_⟩
  obtain ⟨e, y⟩ := y
  subst e
  have := y xs sq
  rw [hv] at this
  cases this
  exact ⟨Same.refl _, rv.stay st⟩
theorem it_str {M L Wr : ASet} {H : Hp} {z : Str} : ItOk K M L Wr H (Its z) (z.cps.toList.map fun c => .str ⟨#[c]⟩) := by
  intro L' H' k1 k2 k3
  refine ⟨fun k p hp => ?_, by simp [Its]⟩
  rw [List.getElem?_map] at hp
  cases c : z.cps.toList[k]? with
  | none => rw [c] at hp; cases hp
  | some d =>
    rw [c] at hp
    cases hp
    have hk : k < z.cps.size := by simpa using (List.getElem?_eq_some_iff.mp c).1
    refine ⟨hk, fun x H3 y => ?_⟩
    obtain ⟨e, d', h1, h2⟩ := y
    subst e h2
    rw [← Array.getElem?_toList, c] at h1
    cases h1
    exact ⟨Same.refl _, .str _⟩
theorem ref_it {t : TE} {f : FE} (h : Ref K t f) : RefI K (iAny K t) (fIt f) := by
  intro st O M W L σ H e e' ps R o he hf q
  obtain ⟨x, e1, f1, hf⟩ := bE_some hf
  refine h O M W L σ H e e1 x _ o he f1 fun v H1 k1 rb fr => ?_
  have o1 := o.keep k1.dom
  have en := rb.en o1
  have vals : ∀ p, Rep K (uni M L) H1 p v → itemsW p = some ps → e1 = e' → (∃ a, v = .ref a ∧ (∃ xs, SqL K H1 a xs) ∧ R (Itl K a) H1) ∨ ((∃ a, v = .ref a ∧ (∃ xs, SqT K H1 a xs) ∧ R (Itt K a) H1) ∨ ∃ z, v = .str z ∧ R (Its z) H1) := fun p hp hi ee => by
    subst ee
    cases hp with
    | lst ha n r =>
      cases hi
      exact .inl ⟨_, rfl, ⟨_, .inl ha⟩, q _ H1 k1 en fun Wr hw _ => it_list o1 hw (.inl ⟨ha, fun z => n ((hw _ z).elim (fun ⟨i, w⟩ => .inl (o.wm i _ w)) .inr)⟩) r⟩
    | tup ha r =>
      cases hi
      exact .inr (.inl ⟨_, rfl, ⟨_, ha.sq⟩, q _ H1 k1 en fun Wr hw _ => it_tup o1 hw ha r⟩)
    | str z =>
      cases hi
      exact .inr (.inr ⟨z, rfl, q _ H1 k1 en fun Wr hw _ => it_str⟩)
    | _ => cases hi
  cases x with
  | val p =>
    obtain ⟨ps', g, hf⟩ := bO_some hf
    cases hf
    exact vals p rb.2 g rfl
  | new p =>
    obtain ⟨ps', g, hf⟩ := bO_some hf
    cases hf
    exact vals p (rb.weak o1).2 g rfl
  | slot i =>
    dsimp only at hf
    cases c : e1[i]? with
    | none => rw [c] at hf; cases hf
    | some s =>
      cases s with
      | none => rw [c] at hf; cases hf
      | some s =>
        rw [c] at hf
        obtain ⟨u, hu, sr⟩ := rb.1.at' i s c
        have := rb.2
        rw [hu] at this
        cases this
        cases s with
        | val p => cases hf
        | bor p =>
          obtain ⟨ps', g, hf⟩ := bO_some hf
          cases hf
          obtain ⟨a, rfl, lt⟩ := sr
          cases lt with
          | lst ha od n m r => cases g; exact .inl ⟨a, rfl, ⟨_, .inl ha⟩, q _ H1 k1 en fun Wr hw _ => it_list o1 hw (.inl ⟨ha, fun z => (hw _ z).elim n m⟩) r⟩
          | klst ha r => cases g; exact .inl ⟨a, rfl, ⟨_, .inr ha⟩, q _ H1 k1 en fun Wr hw _ => it_list o1 hw (.inr ha) r⟩
          | dct ha od n m kk r => cases g
        | own p =>
          obtain ⟨hst, hf⟩ := guardP_some hf
          obtain ⟨ps', g, hf⟩ := bO_some hf
          cases hf
          obtain ⟨a, rfl, w, ct⟩ := sr
          cases ct with
          | lst ha r => cases g; exact .inl ⟨a, rfl, ⟨_, SqL.of ha⟩, q _ H1 k1 en fun Wr hw hs => it_list o1 hw (.inl ⟨.inl ha, hs i a _ hst c rfl hu⟩) r⟩
          | dct ha kk r => cases g
        | loc p =>
          obtain ⟨hst, hf⟩ := guardP_some hf
          obtain ⟨ps', g, hf⟩ := bO_some hf
          cases hf
          obtain ⟨a, rfl, w, ct⟩ := sr
          cases ct with
          | lst ha r => cases g; exact .inl ⟨a, rfl, ⟨_, SqL.of ha⟩, q _ H1 k1 en fun Wr hw hs => it_list o1 hw (.inl ⟨.inl ha, hs i a _ hst c rfl hu⟩) r⟩
          | dct ha kk r => cases g
theorem it_rng {M L Wr : ASet} {H : Hp} {lo : Int} {n : Nat} : ItOk K M L Wr H (Itr lo n) ((List.range n).map fun k : Nat => .int (lo + (k : Int))) := by
  intro L' H' k1 k2 k3
  refine ⟨fun k p hp => ?_, by simp [Itr]⟩
  rw [List.getElem?_map] at hp
  by_cases hk : k < n
  · rw [List.getElem?_range hk] at hp
    cases hp
    refine ⟨hk, fun x H3 y => ?_⟩
    obtain ⟨e, y⟩ := y
    subst e y
    exact ⟨Same.refl _, .int _⟩
  · rw [List.getElem?_eq_none (by simpa using hk)] at hp
    cases hp
noncomputable def fEnm (fa : FA) : FI := fun _ e => bE (fa e) fun bs e1 => match bs with
  | [.val (.tup ps)] => some (ps.zipIdx.map fun z => .tup [.int (z.2 : Int), z.1], e1)
  | _ => none
end
end Mr
set_option Elab.async false
set_option linter.all false
set_option maxRecDepth 100000
set_option maxHeartbeats 4000000
namespace Mr
open PySem PySem.Spec L2 PyProof.Rows
section
variable {K : PySem.W.Frag}
theorem law_imp {f : FN} {vs : List V} {H : Hp} {Q : VK} {E : XK} (hf : ∀ ns : List Int, ns.length ≤ 63 → f [.lst (ns.map PV.int)] = some (.bl true, [])) (h : spLaw K vs H Q E) : spM K [.b] false f vs H Q E := by
  obtain ⟨a, ns, rfl, hS, hl, q⟩ := h
  have rl : ∀ (Z : ASet) (ms : List Int), RepL K Z H (ms.map PV.int) (ms.map V.int) := fun Z ms => by
    induction ms with
    | nil => exact .nil
    | cons m ms ih => exact .cons (.int m) ih
  refine ⟨noA, [.lst (ns.map PV.int)], .bl true, [], fun a z => z.elim, rfl, rfl, fun i k p v h1 h2 h3 => ?_, fun i j hij h1 h2 => ?_, fun i a ⟨h1, _⟩ => ?_, hf ns hl, fun v H' k r => ?_⟩
  · cases i with
    | zero =>
      cases h1
      cases h2
      cases h3
      have nw : ¬ aw (wsOf [.b] [.ref a] H) a := fun ⟨i, h, _⟩ => by
        cases i with
        | zero => cases h
        | succ i => simp at h
      rcases hS with h | h
      · refine ⟨a, rfl, .lst h ?_ nw (fun z => z) (rl _ ns)⟩
        rcases h with h | ⟨u, h⟩
        · show H a ≠ none
          rw [h]; exact fun z => nomatch z
        · show H a ≠ none
          rw [h]; exact fun z => nomatch z
      · exact ⟨a, rfl, .klst h (rl _ ns)⟩
    | succ i => simp at h1
  · cases i with
    | zero => cases h1
    | succ i => simp at h1
  · cases i with
    | zero => cases h1
    | succ i => simp at h1
  · obtain ⟨r, _⟩ := r
    cases r
    exact q H'
noncomputable def kdOf : PV → Option L2.Kd
  | .non => some .non
  | .bl _ => some .bl
  | .int _ => some .int
  | .str _ => some .str
  | .lst _ => some .lst
  | .tup _ => some .tup
  | .dct _ => some .dct
  | .ty _ => none
noncomputable def isiT (k : L2.Kd) : String → Option Bool
  | "str" => some (decide (k = .str))
  | "tuple" => some (decide (k = .tup))
  | "int" => some (decide (k = .int) || decide (k = .bl))
  | "bool" => some (decide (k = .bl))
  | _ => none
theorem isiT_kit {k : L2.Kd} {T : String} {b : Bool} (h : isiT k T = some b) : PySem.W.kitOne K (.type k.nm) (.type T) = some b := by
  unfold isiT at h
  split at h
  · cases h; exact kd_str k
  · cases h; exact kd_tup k
  · cases h; exact kd_int k
  · cases h; exact kd_bool k
  · cases h
noncomputable def rIsiX (K : PySem.W.Frag) : List V → Hp → VK → Prop := fun xs H Q => ∃ p x T k b, xs = [x, .ty T] ∧ Red K noA H p x ∧ kdOf p = some k ∧ isiT k T = some b ∧ Q (.bl b) H
theorem isiX {X : Cx} (K : PySem.W.Frag) (hK : X.K = K := by rfl) : CallR X (.builtin "isinstance") (rIsiX K) := by
  subst hK
  intro pins s σ H xs us Q I r h
  obtain ⟨p, x, T, k, b, rfl, hp, hk, hT, q⟩ := h
  obtain ⟨u, u', rfl, rx, ry⟩ := vals2 r
  cases ry
  have e := isiT_kit (K := X.K) hT
  have fin : ∀ tk, EP X pins σ Q (.bool b) { s with toks := tk } := fun tk => ⟨.bl b, H, I.tok tk, rfl, q⟩
  cases p with
  | non => cases hk; have := hp.non; subst this; cases (show u = Value.none from rx); exact PySem.W.kia_one PySem.W.kitx_none I.kIn True.intro e (fun z => nomatch z) fin
  | bl y => cases hk; have := hp.bl; subst this; cases (show u = Value.bool y from rx); exact PySem.W.kia_one PySem.W.kitx_bool I.kIn True.intro e (fun z => nomatch z) fin
  | int i => cases hk; have := hp.int; subst this; obtain ⟨t, q⟩ := (show ∃ t, u = Value.int i t from rx); cases q; exact PySem.W.kia_one PySem.W.kitx_int I.kIn True.intro e (fun z => nomatch z) fin
  | str y => cases hk; have := hp.str; subst this; obtain ⟨t, q⟩ := (show ∃ t, u = Value.str y t from rx); cases q; exact PySem.W.kia_one PySem.W.kitx_str I.kIn True.intro e (fun z => nomatch z) fin
  | ty y => cases hk
  | tup ps =>
    cases hk
    obtain ⟨a, xs, rfl, ha, _⟩ := hp.tup
    cases (show u = Value.ref a from rx)
    obtain ⟨its, _, ⟨o, h1, h2, _⟩, _⟩ := I.tuple ha.sq
    exact PySem.W.kia_one PySem.W.kitx_tuple I.kIn ⟨o, h1, h2⟩ e (fun z => nomatch z) fin
  | lst ps =>
    cases hk
    obtain ⟨a, xs, rfl, ha, _⟩ := hp.lsts
    cases (show u = Value.ref a from rx)
    obtain ⟨its, _, pl, _⟩ := I.list ha.sq
    obtain ⟨o, h1, h2, _⟩ := pl.isList
    exact PySem.W.kia_one PySem.W.kitx_list I.kIn ⟨o, h1, h2⟩ e (fun z => nomatch z) fin
  | dct kvs =>
    cases hk
    obtain ⟨a, ys, rfl, ha, _, _⟩ := hp.dcts
    cases (show u = Value.ref a from rx)
    obtain ⟨_, _, vs, _, pd⟩ := dk_rd I.hok ha
    obtain ⟨o, es, ep, h1, h2, _⟩ := pd
    exact PySem.W.kia_one PySem.W.kitx_dict I.kIn ⟨o, h1, h2.1⟩ e (fun z => nomatch z) fin
noncomputable def gIsi2 : List PV → Option Bv
  | [p, .ty n] => bO (kdOf p) fun k => bO (isiT k n) fun b => some (.val (.bl b))
  | _ => none
theorem ok_isi : CbOk K (rIsiX K) gIsi2 := by
  intro Z H vs ps b Q hp h k
  unfold gIsi2 at h
  split at h
  · rename_i p n
    obtain ⟨c, g, h⟩ := bO_some h
    obtain ⟨d, g2, h⟩ := bO_some h
    cases h
    obtain ⟨v, u, rfl, hv, hu⟩ := hp.two
    have eu := hu.ty
    subst eu
    exact ⟨p, v, n, c, d, rfl, hv.any, g, g2, k _ H (Same.refl _) (Rep.bl _)⟩
  · cases h
noncomputable def gLower : PV → List PV → Option Bv
  | .str z, [] => guardP (decide (z.length < 1000000)) (some (.val (.str (Txt.lower z))))
  | _, _ => none
noncomputable def gUpper : PV → List PV → Option Bv
  | .str z, [] => guardP (decide (z.length < 1000000)) (some (.val (.str (Txt.upper z))))
  | _, _ => none
noncomputable def gStarts : PV → List PV → Option Bv
  | .str z, [.str y] => some (.val (.bl (Txt.startswith z y)))
  | _, _ => none
noncomputable def gEnds : PV → List PV → Option Bv
  | .str z, [.str y] => some (.val (.bl (Txt.endswith z y)))
  | _, _ => none
noncomputable def gStrip : PV → List PV → Option Bv
  | .str z, [.str y] => guardP (decide (z.length < 1000000)) (some (.val (.str (Txt.stripChars z y))))
  | _, _ => none
noncomputable def gIndexS : PV → List PV → Option Bv
  | .str z, [.str y] => match Builtin.Str.occurrences z y 0 z.length 1 with
    | i :: _ => some (.val (.int i))
    | [] => none
  | _, _ => none
noncomputable def rPart : V → List V → Hp → VK → Prop := fun x vs H Q => ∃ z y, x = .str z ∧ vs = [.str y] ∧ (y.length == 0) = false ∧ z.length ≤ sizeLine ∧ ∀ p, H p = none → Q (.ref p) (upd H p (.tup [.str (Txt.partition z y).1, .str (Txt.partition z y).2.1, .str (Txt.partition z y).2.2]))
theorem mt_partition {X : Cx} : MtR X "str.partition" rPart := by
  intro pins s σ H x vs v us Q I rx rv h
  obtain ⟨z, y, rfl, rfl, hy, hz, q⟩ := h
  obtain ⟨t, rfl⟩ := rx
  obtain ⟨u, rfl, t', rfl⟩ := vals1 rv
  refine call_meets F.slot_str_partition (typeIs_str _ _ _) F.entry_str_partition (F.args_str_partition_2 _ _) (meets_str_partition z y t t' hy hz) ?_
  have fin : ∀ (a b c : Str) (ta tb tc : Tok) (tk : Nat), (a, b, c) = Txt.partition z y → EP X pins σ Q (.ref s.heap.objs.size) { s with toks := tk, heap := s.heap.push { cls := .type "tuple", data := .seq [.str a ta, .str b tb, .str c tc].toArray } } := fun a b c ta tb tc tk e => by
    refine ⟨.ref s.heap.objs.size, _, I.laid (t' := tk) (o := .tup [.str a, .str b, .str c]) (fun b ob q => Heap.get?_push_of_some _ q) (Nat.le_refl _) ?_, rfl, ?_⟩
    · exact ⟨by show 3 ≤ sizeLine; decide, [.str a ta, .str b tb, .str c tc], .cons ⟨_, rfl⟩ (.cons ⟨_, rfl⟩ (.cons ⟨_, rfl⟩ .nil)), IsTup.new _ _⟩
    · have := q s.heap.objs.size (I.hok.fresh (Nat.le_refl _))
      rw [← e] at this
      exact this
  show wants _ _ _ _
  cases ho : Builtin.Str.occurrences z y 0 z.length 1 with
  | nil => exact fin _ _ _ _ _ _ _ (by unfold Txt.partition; rw [ho])
  | cons i r => exact fin _ _ _ _ _ _ _ (by unfold Txt.partition; rw [ho])
noncomputable def gPart : PV → List PV → Option Bv
  | .str z, [.str y] => guardP (decide (z.length < 1000000) && !(y.length == 0)) (some (.val (.tup [.str (Txt.partition z y).1, .str (Txt.partition z y).2.1, .str (Txt.partition z y).2.2])))
  | _, _ => none
theorem ok_partition : MtOk K rPart gPart := by
  intro Z H x vs p ps b Q hp hps h k
  unfold gPart at h
  split at h
  · obtain ⟨c, h⟩ := guardP_some h
    rw [Bool.and_eq_true] at c
    cases h
    obtain ⟨v, rfl, hv⟩ := hps.one
    refine ⟨_, _, hp.str, by rw [hv.str], by simpa using c.2, Nat.le_of_lt (smallP c.1), fun l hl => k _ _ (Same.upd hl) (Rep.tup (.inl upd_same) (.cons (.str _) (.cons (.str _) (.cons (.str _) .nil))))⟩
  · cases h
noncomputable def gSplitB : PV → List PV → Option Bv
  | .str z, [.str y] => if y = Str.ofString " " then guardP (decide (z.length < 1000000)) (some (.new (.lst ((Txt.split z y).map PV.str)))) else none
  | _, _ => none
noncomputable def blsP : List PV → Option (List Bool)
  | [] => some []
  | .bl x :: ps => bO (blsP ps) fun xs => some (x :: xs)
  | _ => none
theorem blsP_map (xs : List Bool) : blsP (xs.map PV.bl) = some xs := by
  induction xs with
  | nil => rfl
  | cons x xs ih => rw [List.map_cons, blsP, ih]; rfl
theorem RepL.bls {Z : ASet} {H : Hp} : ∀ {ps : List PV} {xs : List Bool} {vs : List V}, blsP ps = some xs → RepL K Z H ps vs → vs = isBl xs
  | [], xs, vs, g, h => by cases g; cases h; rfl
  | p :: ps, xs, vs, g, h => by
    cases p with
    | bl x =>
      obtain ⟨ys, g1, g⟩ := bO_some g
      cases g
      cases h with | cons h r => cases h; rw [RepL.bls g1 r]; rfl
    | _ => cases g
noncomputable def gAll : List PV → Option Bv
  | [.lst ps] => bO (blsP ps) fun bs => some (.val (.bl (bs.all id)))
  | _ => none
theorem ok_all : CbOk K (rAll K) gAll := by
  intro Z H vs ps b Q hp h k
  unfold gAll at h
  split at h
  · obtain ⟨bs, g, h⟩ := bO_some h
    cases h
    obtain ⟨v, rfl, hv⟩ := hp.one
    obtain ⟨a, xs, rfl, ha, ra⟩ := hv.lsts
    have e := ra.bls g
    subst e
    exact ⟨a, bs, rfl, ha.sq, k _ H (Same.refl _) (Rep.bl _)⟩
  · cases h
noncomputable def gAny : List PV → Option Bv
  | [.lst ps] => bO (blsP ps) fun bs => some (.val (.bl (bs.any id)))
  | _ => none
noncomputable def fChain (g g' : PV → PV → Option Bv) (fa fb fc : FE) : FE := fun e => bE (fa e) fun x e1 => bE (fb e1) fun y e2 => bO (x.weak.get e2) fun p => bO (y.weak.get e2) fun q => bO (g p q) fun b => match b with
  | .val (.bl true) => bE (fc e2) fun z e3 => bO (y.weak.get e3) fun q' => bO (z.weak.get e3) fun r => bO (g' q' r) fun b' => some (b', e3)
  | .val (.bl false) => some (.val (.bl false), e2)
  | _ => none
theorem ref_chain {r r' : R2} {g g' : PV → PV → Option Bv} {ta tb tc : TE} {fa fb fc : FE} (hg : OpOk K r g) (hg' : OpOk K r' g') (ha : Ref K ta fa) (hb : Ref K tb fb) (hc : Ref K tc fc) : Ref K (tChain r r' ta tb tc) (fChain g g' fa fb fc) := by
  intro O M W L σ H e e' b Q o he hf q
  obtain ⟨x, e1, f1, hf⟩ := bE_some hf
  obtain ⟨y, e2, f2, hf⟩ := bE_some hf
  obtain ⟨p, g1, hf⟩ := bO_some hf
  obtain ⟨p', g2, hf⟩ := bO_some hf
  obtain ⟨c, g3, hf⟩ := bO_some hf
  refine ha O M W L σ H e e1 x _ o he f1 fun v1 H1 k1 r1 fr1 => ?_
  have o1 := o.keep k1.dom
  refine hb O M W L σ H1 e1 e2 y _ o1 (r1.en o1) f2 fun v2 H2 k2 r2 fr2 => ?_
  have o2 := o1.keep k2.dom
  have en := r2.en o2
  have ry := r2.rv o2
  refine hg _ H2 v1 v2 p p' c _ (((r1.rv o1).keep o1 k2).red en g1) (ry.red en g2) g3 fun v H3 s rn => ?_
  have k3 : Keep W L H2 H3 := .same s
  have o3 := o2.keep k3.dom
  have en3 := en.same s
  rcases isBlv (x := c) with ⟨d, rfl⟩ | n
  · cases rn
    refine ⟨d, rfl, ?_⟩
    cases d with
    | false => cases hf; rw [if_neg Bool.false_ne_true]; exact q _ H3 ((k1.trans k2).trans k3) ⟨en3, .bl _⟩ trivial
    | true =>
      rw [if_pos rfl]
      obtain ⟨z, e3, f3, hf⟩ := bE_some hf
      obtain ⟨q', g4, hf⟩ := bO_some hf
      obtain ⟨r4, g5, hf⟩ := bO_some hf
      obtain ⟨b', g6, hf⟩ := bO_some hf
      cases hf
      refine hc O M W L σ H3 e2 _ z _ o3 en3 f3 fun v4 H4 k4 r4' fr4 => ?_
      have o4 := o3.keep k4.dom
      have en4 := r4'.en o4
      refine hg' _ H4 v2 v4 q' r4 _ Q (((ry.keep o2 k3).keep o3 k4).red en4 g4) ((r4'.rv o4).red en4 g5) g6 fun v H' s' rn' => ?_
      exact q v H' ((((k1.trans k2).trans k3).trans k4).trans (.same s')) (rn'.rb o4 en4 s') (rn'.fr (((k1.trans k2).trans k3).trans k4).dom)
  · exfalso
    split at hf
    · exact n _ rfl
    · exact n _ rfl
    · cases hf
noncomputable def truP : PV → Option Bool
  | .non => some false
  | .bl b => some b
  | .int i => some (i != 0)
  | .str y => guardP (decide (y.length < 1000000)) (some ((y.length : Int) != 0))
  | .lst ps => some (!ps.isEmpty)
  | .tup ps => some (!ps.isEmpty)
  | _ => none
noncomputable def fTru (f : FE) : FT := fun e => bE (f e) fun b e1 => bO (b.weak.get e1) fun p => bO (truP p) fun c => some (c, e1)
theorem RepL.empty {Z : ASet} {H : Hp} {ps : List PV} {xs : List V} (r : RepL K Z H ps xs) : ps.isEmpty = xs.isEmpty := by cases r <;> rfl
theorem ref_tru {t : TE} {f : FE} (h : Ref K t f) : RefT K (fun σ H Q => t σ H fun x H' => ∃ k, TruV K x H' k ∧ Q k H') (fTru f) := by
  intro O M W L σ H e e' b Q o he hf q
  obtain ⟨x, e1, f1, hf⟩ := bE_some hf
  obtain ⟨p, g1, hf⟩ := bO_some hf
  obtain ⟨c, g2, hf⟩ := bO_some hf
  cases hf
  refine h O M W L σ H e _ _ _ o he f1 fun v1 H1 k1 r1 fr => ?_
  have o1 := o.keep k1.dom
  have en := r1.en o1
  have rd := (r1.rv o1).red en g1
  refine ⟨b, ?_, q H1 k1 en⟩
  cases p with
  | non => cases g2; rw [rd.non]; rfl
  | bl y => cases g2; rw [rd.bl]; rfl
  | int y => cases g2; rw [rd.int]; rfl
  | str y => obtain ⟨c, g2⟩ := guardP_some g2; cases g2; rw [rd.str]; exact ⟨Nat.le_of_lt (smallP c), rfl⟩
  | lst ps => cases g2; obtain ⟨a, xs, rfl, ha, ra⟩ := rd.lsts; exact .inl ⟨xs, ha.sq, by rw [ra.empty]⟩
  | tup ps => cases g2; obtain ⟨a, xs, rfl, ha, ra⟩ := rd.tup; exact .inr (.inl ⟨xs, ha.sq, by rw [ra.empty]⟩)
  | ty y => cases g2
  | dct y => cases g2
end
end Mr
set_option Elab.async false
set_option linter.all false
set_option maxRecDepth 100000
set_option maxHeartbeats 4000000
namespace Mr
open PySem PySem.Spec L2 PyProof.Rows
theorem pt_truthK (K : PySem.W.Frag) {X : Cx} {a : Expr} {ta : TE} (ha : PE X a ta) (he : ∀ whole, isTrue a X.env whole = (do let v ← whole; standAt a.pos; holding [v] (truthy v))) (hK : X.K = K := by rfl) :
    PT X a (fun σ H Q => ta σ H fun x H' => ∃ k, TruV K x H' k ∧ Q k H') := by subst hK; exact pt_truth ha he
theorem ref_comp2 {K : PySem.W.Frag} {wi : TI} {g : TG} {tt : TT} {te : TE} {fi : FI} {k : Nat} {cap : List Nat} (ms : List (Nat × Nat)) {fg : FG} {ft : FT} {fe : FE} (hms : (ms.all fun z => ms.all fun z' => (z.1 == z'.1) == (z.2 == z'.2)) = true) (hi : RefI K wi fi) (hg : RefG K g fg) (ht : RefT K tt ft) (he : Ref K te fe) : Ref K (tComp wi k cap g tt te) (fComp fi k cap ms fg ft fe) := by
  have key : ∀ z ∈ ms, ∀ z' ∈ ms, (z.1 == z'.1) = (z.2 == z'.2) := fun z hz z' hz' => by
    have := List.all_eq_true.mp (List.all_eq_true.mp hms z hz) z' hz'
    simpa using this
  refine ref_comp ms (fun i j1 j2 h1 h2 => ?_) (fun i1 i2 j h1 h2 => ?_) hi hg ht he
  · have := key _ h1 _ h2
    simpa using this
  · have := key _ h1 _ h2
    simpa using this
end Mr
set_option Elab.async false
set_option linter.all false
set_option maxRecDepth 100000
namespace Mr
open PySem PySem.Spec L2 PyProof.Rows
theorem e_fVar (i : Nat) (e : En) : fVar i e = (match e[i]? with
  | some (some (.val p)) => some (.val p, e)
  | some (some _) => some (.slot i, e)
  | _ => none) := rfl
theorem e_fC (p : PV) (e : En) : fC p e = some (.val p, e) := rfl
theorem e_fOp (g : PV → PV → Option Bv) (fa fb : FE) (e : En) : fOp g fa fb e = bE (fa e) fun x e1 => bE (fb e1) fun y e2 => bO (x.weak.get e2) fun p => bO (y.weak.get e2) fun q => bO (g p q) fun b => some (b, e2) := rfl
theorem e_fUn (g : PV → Option Bv) (fa : FE) (e : En) : fUn g fa e = bE (fa e) fun x e1 => bO (x.weak.get e1) fun p => bO (g p) fun b => some (b, e1) := rfl
theorem e_fNil (e : En) : fNil e = some ([], e) := rfl
theorem e_fCons (fa : FE) (fr : FA) (e : En) : fCons fa fr e = bE (fa e) fun x e1 => bE (fr e1) fun xs e2 => some (x.weak :: xs, e2) := rfl
theorem e_fCB (g : List PV → Option Bv) (fa : FA) (e : En) : fCB g fa e = bE (fa e) fun xs e1 => bO (getL e1 xs) fun ps => bO (g ps) fun b => some (b, e1) := rfl
theorem e_fBM (g : PV → List PV → Option Bv) (fo : FE) (fa : FA) (e : En) : fBM g fo fa e = (bE (fo e) fun x e0 => match x with
  | .val (.str z) => bE (fa e0) fun xs e1 => bO (getL e1 xs) fun ps => bO (g (.str z) ps) fun b => some (b, e1)
  | _ => none) := rfl
theorem e_fBM0 (g : PV → List PV → Option Bv) (fo : FE) (e : En) : fBM0 g fo e = (bE (fo e) fun x e0 => match x with
  | .val (.str z) => bO (g (.str z) []) fun b => some (b, e0)
  | _ => none) := rfl
theorem e_fTup (fa : FA) (e : En) : fTup fa e = bE (fa e) fun xs e1 => bO (putL xs) fun ps => guardP (decide (ps.length < 1000000)) (some (.val (.tup ps), e1)) := rfl
theorem e_fLst (fa : FA) (e : En) : fLst fa e = bE (fa e) fun xs e1 => bO (putL xs) fun ps => guardP (decide (ps.length < 1000000)) (some (.new (.lst ps), e1)) := rfl
theorem e_fTest (f : FE) (e : En) : fTest f e = (bE (f e) fun b e1 => match b with
  | .val (.bl c) => some (c, e1)
  | _ => none) := rfl
theorem e_fAnd (f g : FT) (e : En) : fAnd f g e = bE (f e) fun b e1 => bB b (g e1) (some (false, e1)) := rfl
theorem e_fOr (f g : FT) (e : En) : fOr f g e = bE (f e) fun b e1 => bB b (some (true, e1)) (g e1) := rfl
theorem e_fNot (f : FT) (e : En) : fNot f e = bE (f e) fun b e1 => some (!b, e1) := rfl
theorem e_fTrue (e : En) : fTrue e = some (true, e) := rfl
theorem e_fAndV (fa fb : FE) (e : En) : fAndV fa fb e = bE (fa e) fun b e1 => bO (isBv b) fun c => bB c (fb e1) (some (.val (.bl false), e1)) := rfl
theorem e_fOrV (fa fb : FE) (e : En) : fOrV fa fb e = bE (fa e) fun b e1 => bO (isBv b) fun c => bB c (some (.val (.bl true), e1)) (fb e1) := rfl
theorem e_fNotV (fa : FE) (e : En) : fNotV fa e = bE (fa e) fun b e1 => bO (isBv b) fun c => some (.val (.bl (!c)), e1) := rfl
theorem e_fIf (fc : FT) (fa fb : FE) (e : En) : fIf fc fa fb e = bE (fc e) fun b e1 => bB b (fa e1) (fb e1) := rfl
theorem e_fNoPart (e : En) : fNoPart e = some (none, e) := rfl
theorem e_fPart (f : FE) (e : En) : fPart f e = (bE (f e) fun b e1 => match b with
  | .val (.int i) => some (some i, e1)
  | _ => none) := rfl
theorem e_fSl (g : PV → Option Int → Option Int → Option Bv) (fa : FE) (fl fh : FO) (e : En) : fSl g fa fl fh e = bE (fa e) fun x e1 => bE (fl e1) fun lo e2 => bE (fh e2) fun hi e3 => bO (x.weak.get e3) fun p => bO (g p lo hi) fun b => some (b, e3) := rfl
theorem e_sNext (e : En) : sNext e = some (.nx e) := rfl
theorem e_sBreak (e : En) : sBreak e = some (.bk e) := rfl
theorem e_sCont (e : En) : sCont e = some (.ct e) := rfl
theorem e_sRet (f : FE) (e : En) : sRet f e = bE (f e) fun b e1 => some (.rt b e1) := rfl
theorem e_sRetN (e : En) : sRetN e = some (.rt (.val .non) e) := rfl
theorem e_sDrop (f : FE) (e : En) : sDrop f e = bE (f e) fun b e1 => some (.nx e1) := rfl
theorem e_sIf (fc : FT) (f g : FS) (e : En) : sIf fc f g e = bE (fc e) fun b e1 => bB b (f e1) (g e1) := rfl
theorem e_sSet (i : Nat) (f : FE) (e : En) : sSet i f e = (bE (f e) fun b e1 => match b with
  | .val p => some (.nx (e1.set i (some (.val p))))
  | .new p => some (.nx (e1.set i (some (.val p))))
  | .slot j => match e1[j]? with
    | some (some (.bor p)) => some (.nx (e1.set i (some (.bor p))))
    | _ => none) := rfl
theorem e_sSetL (i : Nat) (f : FE) (e : En) : sSetL i f e = (bE (f e) fun b e1 => match b with
  | .new p => some (.nx (e1.set i (some (.loc p))))
  | _ => none) := rfl
theorem e_sRel (i : Nat) (f : FS) (e : En) : sRel i f e = bO (rel i e) f := rfl
theorem e_sApp (i : Nat) (f : FE) (e : En) : sApp i f e = (bO (ownAt e i) fun p0 => match p0 with
  | .lst _ => bE (f e) fun b e1 => bO b.put fun p => match ownAt e1 i with
    | some (.lst ps) => guardP (decide (ps.length < 1000000)) (some (.nx (setOwn e1 i (.lst (ps ++ [p])))))
    | _ => none
  | _ => none) := rfl
theorem e_sSetIx (i : Nat) (fi fv : FE) (e : En) : sSetIx i fi fv e = (bE (fv e) fun b e1 => bO b.put fun p => bO (ownAt e1 i) fun _ => bE (fi e1) fun k e2 => match k with
  | .val (.int k) => match ownAt e2 i with
    | some (.lst ps) => bO (ixN ps.length k) fun j => some (.nx (setOwn e2 i (.lst (ps.set j p))))
    | _ => none
  | _ => none) := rfl
theorem e_sDPut (i : Nat) (fk fv : FE) (e : En) : sDPut i fk fv e = (bE (fv e) fun b e1 => bO b.put fun p => bO (ownAt e1 i) fun _ => bE (fk e1) fun k e2 => bO (k.weak.get e2) fun kp => bO (keyOf kp) fun key => match ownAt e2 i with
    | some (.dct kvs) => guardP (decide (kvs.length < 1000000)) (some (.nx (setOwn e2 i (.dct (putP kvs key p)))))
    | _ => none) := rfl
theorem e_tgName (i : Nat) (p : PV) (e : En) : tgName i p e = some (e.set i (some (.val p))) := rfl
theorem e_tgNil (ps : List PV) (e : En) : tgNil ps e = match ps with | [] => some e | _ => none := rfl
theorem e_tgCons (f : FG) (g : FGs) (ps : List PV) (e : En) : tgCons f g ps e = match ps with | p :: ps => bO (f p e) (g ps) | [] => none := rfl
theorem e_tgTup (n : Nat) (f : FGs) (p : PV) (e : En) : tgTup n f p e = (match p with
  | .tup ps => guardP (decide (ps.length = n)) (f ps e)
  | _ => none) := rfl
theorem e_sAsg (f : FE) (fg : FG) (e : En) : sAsg f fg e = bE (f e) fun b e1 => bO b.put fun p => bO (fg p e1) fun e2 => some (.nx e2) := rfl
theorem e_sPar (i j : Nat) (fa : FA) (e : En) : sPar i j fa e = (bE (fa e) fun bs e1 => bO (putL bs) fun ps => match ps with
  | [p, q] => some (.nx ((e1.set i (some (.val p))).set j (some (.val q))))
  | _ => none) := rfl
theorem e_fIt (f : FE) (st : Nat → Bool) (e : En) : fIt f st e = (bE (f e) fun b e1 => match b with
  | .slot i => match e1[i]? with
    | some (some (.bor p)) => bO (itemsW p) fun ps => some (ps, e1)
    | some (some (.own p)) => guardP (st i) (bO (itemsW p) fun ps => some (ps, e1))
    | some (some (.loc p)) => guardP (st i) (bO (itemsW p) fun ps => some (ps, e1))
    | _ => none
  | .val p => bO (itemsW p) fun ps => some (ps, e1)
  | .new p => bO (itemsW p) fun ps => some (ps, e1)) := rfl
theorem e_fEnm (fa : FA) (st_ : Nat → Bool) (e : En) : fEnm fa st_ e = (bE (fa e) fun bs e1 => match bs with
  | [.val (.tup ps)] => some (ps.zipIdx.map fun z => .tup [.int (z.2 : Int), z.1], e1)
  | _ => none) := rfl
theorem e_fChain (g g' : PV → PV → Option Bv) (fa fb fc : FE) (e : En) : fChain g g' fa fb fc e = (bE (fa e) fun x e1 => bE (fb e1) fun y e2 => bO (x.weak.get e2) fun p => bO (y.weak.get e2) fun q => bO (g p q) fun b => match b with
  | .val (.bl true) => bE (fc e2) fun z e3 => bO (y.weak.get e3) fun q' => bO (z.weak.get e3) fun r => bO (g' q' r) fun b' => some (b', e3)
  | .val (.bl false) => some (.val (.bl false), e2)
  | _ => none) := rfl
theorem e_fTru (f : FE) (e : En) : fTru f e = bE (f e) fun b e1 => bO (b.weak.get e1) fun p => bO (truP p) fun c => some (c, e1) := rfl
theorem e_fDNew (e : En) : fDNew e = some (.new (.dct []), e) := rfl
end Mr
set_option Elab.async false
set_option linter.all false
set_option maxRecDepth 100000
set_option maxHeartbeats 4000000
namespace L2
open PySem PySem.Spec PyProof.Rows
noncomputable def IteL (K : PySem.W.Frag) (a : Addr) : It :=
  ⟨fun i H => ∃ xs x, SqL K H a xs ∧ xs[i]? = some x, fun i H v H' => ∃ t, H t = none ∧ v = .ref t ∧ ∀ xs, SqL K H a xs → ∃ x, xs[i]? = some x ∧ H' = upd H t (.tup [.int i, x]), fun i H => ∃ xs, SqL K H a xs ∧ xs.length = i⟩
theorem turn_enumL {P : Program} {w : World} {K : PySem.W.Frag} {elts : List Expr} {x1} {pos : Pos} (a it e : Addr) (hei : e ≠ it) : Turn P w K (.Tuple elts x1 pos) (IteL K a) [e, it] e (fun i h => (∃ old, IsEnum h e it i old) ∧ h.IsListIter it a i) where
  mem := by simp
  obj := fun i h st b hb => by
    obtain ⟨⟨old, he⟩, o, ho, c, d⟩ := st
    rcases List.mem_cons.mp hb with z | z
    · subst z; exact ⟨_, he, fun v z => by cases z⟩
    · have z : b = it := by simpa using z
      subst z; exact ⟨o, ho, fun v z => by rw [d] at z; cases z⟩
  keep := fun i h h' st k => ⟨let ⟨old, he⟩ := st.1; ⟨old, k e (by simp) _ he⟩, st.2.at fun o q => k it (by simp) o q⟩
  item := by
    intro X hP hw hK hc i pins s σ H E I hf st hg
    subst hP hw hK
    obtain ⟨xs, x, hq, hx⟩ := hg
    obtain ⟨its, rv, p, hz⟩ := I.list hq
    obtain ⟨u, hu, ru⟩ := rv.get hx
    obtain ⟨⟨old, he⟩, ht⟩ := st
    have hne : a ≠ it := fun z => by
      obtain ⟨o, ho, c, _⟩ := ht
      obtain ⟨o', _, ho', c', _, _⟩ := p
      subst z
      rw [ho] at ho'; cases ho'
      rw [c] at c'
      exact absurd (Value.type.inj c') (by decide)
    have hae : a ≠ e := fun z => by
      obtain ⟨o', _, ho', c', _, _⟩ := p
      subst z
      rw [he] at ho'; cases ho'
      exact absurd (Value.type.inj c') (by decide)
    have hlt : i < its.toArray.size := by have := (List.getElem?_eq_some_iff.mp hu).1; simpa using this
    refine wpAny_pyNext_enum_itemD (Draws.list (A := X.A.in1) (by exact I.ok.hd hc) it a hne its.toArray) he ⟨ht, p.isList⟩ hlt hei (by simp [hei, Ne.symm hae]) fun v h' tk hPv ho' st' htup hsz hk => ?_
    have ev : v = u := by
      have h1 : its[i]? = some v := by simpa using hPv
      rw [hu] at h1; exact (Option.some.inj h1).symm
    subst ev
    refine ⟨_, rfl, wpAny_letOwnedTupleGo_enum (s := { s with heap := h', toks := tk + 1 }) ho' fun h2 he2 sb => ?_⟩
    have hTe : s.heap.objs.size ≠ e := fun z => by
      have := Heap.lt_size he; rw [← z] at this; exact Nat.lt_irrefl _ this
    have hTi : s.heap.objs.size ≠ it := fun z => by
      obtain ⟨o, ho, _⟩ := ht
      have := Heap.lt_size ho; rw [← z] at this; exact Nat.lt_irrefl _ this
    have hk2 : ∀ b o, b ∉ [e, it] → s.heap.get? b = some o → h2.get? b = some o := fun b o hb q =>
      sb.extBut b o (fun z => hb (by simp [z])) (hk b o (fun z => hb (by simp [z])) (fun z => hb (by simp [z])) q)
    have I1 : Inv X pins σ H { s with heap := h2, toks := tk + 1 } := I.turnedL hk2 hf
    have hfr : H s.heap.objs.size = none := I.hok.fresh (Nat.le_refl _)
    have htup2 : h2.get? s.heap.objs.size = some { cls := .type "tuple", data := .seq #[.int i tk, v] } := sb.extBut _ _ hTe htup
    have I2 : Inv X pins σ (upd H s.heap.objs.size (.tup [.int i, x])) { s with heap := h2, toks := tk + 1 } := by
      refine I.un2 hk2 hf hfr (by simp [hTe, hTi]) ⟨by show 2 ≤ sizeLine; decide, [.int i tk, v], .cons ⟨_, rfl⟩ (.cons ru .nil), ⟨_, htup2, rfl, 0, rfl⟩⟩ (fun b hb o q => ?_)
      rcases List.mem_cons.mp hb with r | r
      · subst r; exact ⟨_, he2⟩
      · have r : b = it := by simpa using r
        subst r
        obtain ⟨o', ho', _⟩ := st'.1.extBut sb.extBut (Ne.symm hei)
        exact ⟨o', ho'⟩
    refine ⟨.ref s.heap.objs.size, _, I2, rfl, ⟨s.heap.objs.size, hfr, rfl, fun ys hy => ⟨x, by rw [I.list_inj hy hq]; exact hx, rfl⟩⟩, ⟨⟨_, he2⟩, st'.1.extBut sb.extBut (Ne.symm hei)⟩, fun b hb => ?_⟩
    have hbT : b ≠ s.heap.objs.size := fun z => by
      rcases List.mem_cons.mp hb with r | r
      · exact hTe (z ▸ r)
      · have r : b = it := by simpa using r
        exact hTi (z ▸ r)
    rw [upd_ne hbT]
    exact (hf b hb).1
  done := by
    intro X hP hw hK hc i pins s σ H E I hf st hg
    subst hP hw hK
    obtain ⟨xs, hq, hx⟩ := hg
    obtain ⟨its, rv, p, hz⟩ := I.list hq
    obtain ⟨⟨old, he⟩, ht⟩ := st
    have hl := rv.length
    have hne : a ≠ it := fun z => by
      obtain ⟨o, ho, c, _⟩ := ht
      obtain ⟨o', _, ho', c', _, _⟩ := p
      subst z
      rw [ho] at ho'; cases ho'
      rw [c] at c'
      exact absurd (Value.type.inj c') (by decide)
    have ei : (i : Nat) = its.toArray.size := by simp; omega
    subst ei
    obtain ⟨f0, f1, f2, f3, f4, f5⟩ := hf it (by simp)
    exact wpAny_pyNext_enum_endD (Draws.list (A := X.A.in1) (by exact I.ok.hd hc) it a hne its.toArray) he ⟨ht, p.isList⟩ fun h' eb => ⟨rfl, I.turned (t' := s.toks) (fun b o hb e => eb b o hb e) f0 f1 f3 f4 f5⟩
  self := fun _ _ _ _ _ st h => let ⟨_, he⟩ := st.1; wpAny_pyIter_enum he h
section
variable {X : Cx} {elts : List Expr} {x1 : Nat} {tpos : Pos}
noncomputable def iEnumA (K : PySem.W.Frag) (ta : TA) : TI := fun σ H R => ta σ H fun vs H1 => (∃ a xs, vs = [.ref a] ∧ SqT K H1 a xs ∧ R (Ite K a) H1) ∨ ∃ a xs, vs = [.ref a] ∧ SqL K H1 a xs ∧ R (IteL K a) H1
theorem pi_enumA {a : Expr} {ta : TA} {p pos : Pos} (hg : Gl X "enumerate") (hm : X.mg "enumerate" = none) (ha : PA X [a] ta) (hs : starEach [a] X.env = [(false, eval a X.env)] := by rfl) : PI X (.Tuple elts x1 tpos) (.Call (.Name "enumerate" p) [a] [] pos) (iEnumA X.K ta) := by
  intro pins s σ H R I h
  refine Call_ (ld_blt I hg hm bt_enumerate (PyProof.Rows.callWith_type1 (thn (ha pos pins s σ H _ I h) fun us s1 ⟨vs, H1, I1, r1, q1⟩ => ?_) hs rfl))
  rcases q1 with ⟨t, xs, e, hq, q⟩ | ⟨t, xs, e, hq, q⟩
  · subst e
    obtain ⟨u, rfl, rx⟩ := vals1 r1
    cases rx
    obtain ⟨its, rv, pt, hz⟩ := I1.tuple hq
    refine ours_call_enumerate_tuple (show s1.heap.IsTuple t its.toArray from pt) fun h' he ht hsz hk => ?_
    have I2 : Inv X pins σ H1 { s1 with heap := h' } := I1.kept (t' := s1.toks) hk
    refine wpAny_pyIter_enum (s := { s1 with heap := h' }) he ?_
    refine ⟨s1.heap.objs.size + 1, [s1.heap.objs.size + 1, s1.heap.objs.size], _, _, H1, rfl, I2, turn_enumT t s1.heap.objs.size (s1.heap.objs.size + 1) (Nat.succ_ne_self _), ⟨⟨_, he⟩, ht⟩, fun b hb => ?_, q⟩
    rcases List.mem_cons.mp hb with r | r
    · subst r; exact I1.fpOk (Nat.le_succ _) (I1.hok.fresh (Nat.le_succ _))
    · have r : b = s1.heap.objs.size := by simpa using r
      subst r; exact I1.fpOk (Nat.le_refl _) (I1.hok.fresh (Nat.le_refl _))
  · subst e
    obtain ⟨u, rfl, rx⟩ := vals1 r1
    cases rx
    obtain ⟨its, rv, pt, hz⟩ := I1.list hq
    refine call_enumerate_list pt.isList fun h' he ht hsz hk => ?_
    have I2 : Inv X pins σ H1 { s1 with heap := h' } := I1.kept (t' := s1.toks) hk
    refine wpAny_pyIter_enum (s := { s1 with heap := h' }) he ?_
    refine ⟨s1.heap.objs.size + 1, [s1.heap.objs.size + 1, s1.heap.objs.size], _, _, H1, rfl, I2, turn_enumL t s1.heap.objs.size (s1.heap.objs.size + 1) (Nat.succ_ne_self _), ⟨⟨_, he⟩, ht⟩, fun b hb => ?_, q⟩
    rcases List.mem_cons.mp hb with r | r
    · subst r; exact I1.fpOk (Nat.le_succ _) (I1.hok.fresh (Nat.le_succ _))
    · have r : b = s1.heap.objs.size := by simpa using r
      subst r; exact I1.fpOk (Nat.le_refl _) (I1.hok.fresh (Nat.le_refl _))
theorem pi_enmA (K : PySem.W.Frag) {a : Expr} {ta : TA} {p pos : Pos} (hg : Gl X "enumerate") (hm : X.mg "enumerate" = none) (ha : PA X [a] ta) (h : X.K = K := by rfl) (hs : starEach [a] X.env = [(false, eval a X.env)] := by rfl) :
    PI X (.Tuple elts x1 tpos) (.Call (.Name "enumerate" p) [a] [] pos) (iEnumA K ta) := h ▸ pi_enumA hg hm ha hs
end
end L2
namespace Mr
open PySem PySem.Spec L2 PyProof.Rows
section
variable {K : PySem.W.Frag}
noncomputable def fEnmA (fa : FA) : FI := fun _ e => bE (fa e) fun bs e1 => match bs with
  | [.val (.tup ps)] => some (ps.zipIdx.map fun z => .tup [.int (z.2 : Int), z.1], e1)
  | [.val (.lst ps)] => some (ps.zipIdx.map fun z => .tup [.int (z.2 : Int), z.1], e1)
  | _ => none
theorem ref_enmA {ta : TA} {fa : FA} (h : RefA K ta fa) : RefI K (iEnumA K ta) (fEnmA fa) := by
  intro st O M W L σ H e e' ps R o he hf q
  obtain ⟨x, e1, f1, hf⟩ := bE_some hf
  refine h O M W L σ H e e1 x _ o he f1 fun vs H1 k1 en rv => ?_
  have o1 := o.keep k1.dom
  split at hf
  · rename_i ps0
    cases hf
    cases rv with
    | cons h r =>
      cases r
      cases h with
      | tup ha ra =>
        rename_i a xs
        refine .inl ⟨a, xs, rfl, ha.sq, q _ H1 k1 en fun Wr hw _ => ?_⟩
        intro L' H' j1 j2 j3
        have st := stayIt o1 hw j1 j2 j3
        have sq : SqT K H' a xs := TupAt.sq (ha.elim (fun h => .inl (j2 _ _ h)) .inr)
        refine ⟨fun k p hp => ?_, xs, sq, by rw [List.length_map, List.length_zipIdx, ra.length]⟩
        rw [List.getElem?_map, List.getElem?_zipIdx] at hp
        cases c : ps0[k]? with
        | none => rw [c] at hp; cases hp
        | some p0 =>
          rw [c] at hp
          cases hp
          obtain ⟨v, hv, rv⟩ := ra.get c
          refine ⟨⟨xs, v, sq, hv⟩, fun x H3 y => ?_⟩
          obtain ⟨t, ht, rfl, y⟩ := y
          obtain ⟨x', hx', rfl⟩ := y xs sq
          rw [hv] at hx'
          cases hx'
          refine ⟨Same.upd ht, .tup (.inl upd_same) (.cons ?_ (.cons ((rv.stay st).stay (.same (Same.upd ht))) .nil))⟩
          rw [Nat.zero_add]
          exact .int _
  · rename_i ps0
    cases hf
    cases rv with
    | cons h r =>
      cases r
      cases h with
      | lst ha n ra =>
        rename_i a xs
        refine .inr ⟨a, xs, rfl, .inl ha, q _ H1 k1 en fun Wr hw _ => ?_⟩
        intro L' H' j1 j2 j3
        have st := stayIt o1 hw j1 j2 j3
        have nw : ¬ Wr a := fun z => n ((hw _ z).elim (fun ⟨i, w⟩ => .inl (o.wm i _ w)) .inr)
        have sq : SqL K H' a xs := by
          rcases ha with h | ⟨u, h⟩
          · exact .inl (.inl (j1 _ _ h nw))
          · exact .inl (.inr ⟨u, j1 _ _ h nw⟩)
        refine ⟨fun k p hp => ?_, xs, sq, by rw [List.length_map, List.length_zipIdx, ra.length]⟩
        rw [List.getElem?_map, List.getElem?_zipIdx] at hp
        cases c : ps0[k]? with
        | none => rw [c] at hp; cases hp
        | some p0 =>
          rw [c] at hp
          cases hp
          obtain ⟨v, hv, rv⟩ := ra.get c
          refine ⟨⟨xs, v, sq, hv⟩, fun x H3 y => ?_⟩
          obtain ⟨t, ht, rfl, y⟩ := y
          obtain ⟨x', hx', rfl⟩ := y xs sq
          rw [hv] at hx'
          cases hx'
          refine ⟨Same.upd ht, .tup (.inl upd_same) (.cons ?_ (.cons ((rv.stay st).stay (.same (Same.upd ht))) .nil))⟩
          rw [Nat.zero_add]
          exact .int _
  · cases hf
theorem e_fEnmA {fa : FA} {st : Nat → Bool} {e : En} : fEnmA fa st e = bE (fa e) fun bs e1 => match bs with
  | [.val (.tup ps)] => some (ps.zipIdx.map fun z => .tup [.int (z.2 : Int), z.1], e1)
  | [.val (.lst ps)] => some (ps.zipIdx.map fun z => .tup [.int (z.2 : Int), z.1], e1)
  | _ => none := rfl
end
end Mr
set_option Elab.async false
set_option linter.all false
set_option maxRecDepth 100000
set_option maxHeartbeats 4000000
namespace L2
open PySem PySem.Spec PyProof.Rows
section
variable {X : Cx} {e st : Expr} {te ts : TE} {pos p2 : Pos}
end
end L2
namespace Mr
open PySem PySem.Spec L2 PyProof.Rows
section
variable {K : PySem.W.Frag}
theorem RepL.rev {Z : ASet} {H : Hp} : ∀ {ps : List PV} {xs : List V}, RepL K Z H ps xs → RepL K Z H ps.reverse xs.reverse
  | _, _, .nil => .nil
  | _, _, .cons a r => by rw [List.reverse_cons, List.reverse_cons]; exact RepL.app (RepL.rev r) (.cons a .nil)
noncomputable def gBack : PV → PV → Option Bv
  | .tup ps, .int i => guardP (decide (i = -1)) (some (.val (.tup ps.reverse)))
  | _, _ => none
end
end Mr
set_option Elab.async false
set_option linter.all false
set_option maxRecDepth 100000
set_option maxHeartbeats 4000000
namespace Mr
open PySem PySem.Spec L2 PyProof.Rows
section
variable {K : PySem.W.Frag}
noncomputable def fPop (i : Nat) (f : FE) : FE := fun e => bO (ownAt e i) fun p0 => match p0 with
  | .lst _ => bE (f e) fun b e1 => match b with
    | .val (.int k) => match ownAt e1 i with
      | some (.lst ps) => guardP (decide (-1000000000 ≤ k ∧ k < 1000000000)) (bO (ixN ps.length k) fun j => bO ps[j]? fun p => some (.val p, setOwn e1 i (.lst (ps.eraseIdx j))))
      | _ => none
    | _ => none
  | _ => none
theorem RepL.erase {Z : ASet} {H : Hp} : ∀ {ps : List PV} {xs : List V} (j : Nat), RepL K Z H ps xs → RepL K Z H (ps.eraseIdx j) (xs.eraseIdx j)
  | _, _, _, .nil => by rw [List.eraseIdx_nil, List.eraseIdx_nil]; exact .nil
  | _, _, 0, .cons a r => r
  | _, _, j + 1, .cons a r => .cons a (RepL.erase j r)
theorem e_fPop {i : Nat} {f : FE} {e : En} : fPop i f e = bO (ownAt e i) fun p0 => match p0 with
  | .lst _ => bE (f e) fun b e1 => match b with
    | .val (.int k) => match ownAt e1 i with
      | some (.lst ps) => guardP (decide (-1000000000 ≤ k ∧ k < 1000000000)) (bO (ixN ps.length k) fun j => bO ps[j]? fun p => some (.val p, setOwn e1 i (.lst (ps.eraseIdx j))))
      | _ => none
    | _ => none
  | _ => none := rfl
noncomputable def sLe (a b : Str) : Prop := ¬ b.cps.toList < a.cps.toList
theorem sLe_trans {a b c : Str} (h : sLe a b) (h' : sLe b c) : sLe a c := List.not_lt.mpr (List.le_trans (List.not_lt.mp h) (List.not_lt.mp h'))
theorem sLe_anti {a b : Str} (h : sLe a b) (h' : sLe b a) : a = b := by
  have := List.le_antisymm (List.not_lt.mp h) (List.not_lt.mp h')
  exact Str.ext' (by cases a; cases b; simp at this; exact this)
theorem rising_pair : ∀ {x : Str} {r : List Str}, risingS x r = true → (x :: r).Pairwise sLe
  | x, [], _ => List.pairwise_singleton _ _
  | x, y :: r, h => by
    have h : (!ltCps y.cps.toList x.cps.toList && risingS y r) = true := h
    rw [Bool.and_eq_true] at h
    have ih := rising_pair h.2
    have hxy : sLe x y := by
      have := h.1
      rw [ltCps_eq] at this
      simpa [sLe] using this
    refine List.pairwise_cons.mpr ⟨fun z hz => ?_, ih⟩
    rcases List.mem_cons.mp hz with e | e
    · rw [e]; exact hxy
    · exact sLe_trans hxy ((List.pairwise_cons.mp ih).1 z e)
theorem sorted_pair {l : List Str} (h : sortedS l = true) : l.Pairwise sLe := by
  cases l with
  | nil => exact .nil
  | cons x r => exact rising_pair h
theorem sorted_uniq : ∀ {a b : List Str}, a.Pairwise sLe → b.Pairwise sLe → a.Perm b → a = b
  | [], b, _, _, p => (List.Perm.nil_eq p)
  | x :: a, [], _, _, p => absurd p.symm.nil_eq (by simp)
  | x :: a, y :: b, ha, hb, p => by
    have hx := (List.pairwise_cons.mp ha).1
    have hy := (List.pairwise_cons.mp hb).1
    have e : x = y := by
      rcases List.mem_cons.mp (p.mem_iff.mp List.mem_cons_self) with z | z
      · exact z
      · rcases List.mem_cons.mp (p.mem_iff.mpr List.mem_cons_self) with w | w
        · exact w.symm
        · exact sLe_anti (hx y w) (hy x z)
    subst e
    rw [sorted_uniq (List.pairwise_cons.mp ha).2 (List.pairwise_cons.mp hb).2 p.cons_inv]
noncomputable def leS (a b : Str) : Bool := !ltCps b.cps.toList a.cps.toList
theorem leS_iff {a b : Str} : leS a b = true ↔ sLe a b := by
  unfold leS sLe
  rw [ltCps_eq]
  simp
noncomputable def sortP (ss : List Str) : List Str := ss.mergeSort leS
theorem sortP_sorted (ss : List Str) : (sortP ss).Pairwise sLe := by
  have := List.pairwise_mergeSort (le := leS) (fun a b c h1 h2 => leS_iff.mpr (sLe_trans (leS_iff.mp h1) (leS_iff.mp h2))) (fun a b => by
    rw [Bool.or_eq_true, leS_iff, leS_iff]
    by_cases h : sLe a b
    · exact .inl h
    · right
      unfold sLe at h ⊢
      have h := Classical.not_not.mp h
      exact List.not_lt.mpr (List.le_of_lt h)) ss
  exact this.imp fun h => leS_iff.mp h
theorem sortP_is (ss : List Str) : (sortP ss).Perm ss := List.mergeSort_perm ss leS
theorem sortP_eq {ss out : List Str} (hp : out.Perm ss) (hs : sortedS out = true) : sortP ss = out := sorted_uniq (sortP_sorted ss) (sorted_pair hs) ((sortP_is ss).trans hp.symm)
noncomputable def gSortS : List PV → Option Bv
  | [.lst ps] => bO (strsP ps) fun ss => guardP (decide (ss.length < 64)) (some (.new (.lst ((sortP ss).map PV.str))))
  | _ => none
theorem RepL.ofStrs {Z : ASet} {H : Hp} : ∀ (ss : List Str), RepL K Z H (ss.map PV.str) (ss.map V.str)
  | [] => .nil
  | s :: ss => .cons (.str s) (RepL.ofStrs ss)
theorem ok_sortS : CbOk K (rSortS K) gSortS := by
  intro Z H vs ps b Q hp h k
  unfold gSortS at h
  split at h
  · obtain ⟨ss, g, h⟩ := bO_some h
    obtain ⟨c, h⟩ := guardP_some h
    cases h
    obtain ⟨v, rfl, hv⟩ := hp.one
    obtain ⟨a, ys, rfl, ha, ra⟩ := hv.lsts
    rw [strsP_eq g] at ra
    rw [ra.strs] at ha
    refine ⟨a, ss, rfl, ha.sq, of_decide_eq_true c, fun l out h1 h2 hl => ?_⟩
    rw [sortP_eq h1 h2] at k
    exact k _ _ (Same.upd hl) (newL hl (RepL.ofStrs out))
  · cases h
end
end Mr
set_option Elab.async false
set_option linter.all false
set_option maxRecDepth 100000
set_option maxHeartbeats 4000000
namespace Mr
open PySem L2
structure Mark {α : Type} (Q : α → Prop) : Type where
noncomputable def Wp {α : Type} (r : Option α) (Q : α → Prop) (u : Mark Q := ⟨⟩) : Prop := ∃ a, r = some a ∧ Q a
section
variable {α β : Type} {Q : β → Prop}
theorem ix10 : ixN 1 0 = some 0 := by decide
theorem ix20 : ixN 2 0 = some 0 := by decide
theorem ix21 : ixN 2 1 = some 1 := by decide
theorem ix30 : ixN 3 0 = some 0 := by decide
theorem ix31 : ixN 3 1 = some 1 := by decide
theorem ix32 : ixN 3 2 = some 2 := by decide
theorem ix40 : ixN 4 0 = some 0 := by decide
theorem ix41 : ixN 4 1 = some 1 := by decide
theorem ix42 : ixN 4 2 = some 2 := by decide
theorem ix43 : ixN 4 3 = some 3 := by decide
theorem pair_beq {a b c d : Nat} : (((a, b) : Nat × Nat) == (c, d)) = (a == c && b == d) := rfl
theorem at0 {x : α} {xs : List α} : atI (x :: xs) 0 = some x := atI_nat (j := 0) rfl
theorem at1 {x y : α} {xs : List α} : atI (x :: y :: xs) 1 = some y := atI_nat (j := 1) rfl
theorem at2 {x y z : α} {xs : List α} : atI (x :: y :: z :: xs) 2 = some z := atI_nat (j := 2) rfl
theorem at3 {x y z w : α} {xs : List α} : atI (x :: y :: z :: w :: xs) 3 = some w := atI_nat (j := 3) rfl
theorem wp_bE {r : Option (α × En)} {k : α → En → Option β} : Wp (bE r k) Q ↔ Wp r fun z => Wp (k z.1 z.2) Q := by
  constructor
  · rintro ⟨b, h, q⟩
    obtain ⟨a, e, h1, h2⟩ := bE_some h
    exact ⟨(a, e), h1, b, h2, q⟩
  · rintro ⟨⟨a, e⟩, rfl, b, h2, q⟩
    exact ⟨b, h2, q⟩
theorem wp_bO {r : Option α} {k : α → Option β} : Wp (bO r k) Q ↔ Wp r fun z => Wp (k z) Q := by
  constructor
  · rintro ⟨b, h, q⟩
    obtain ⟨a, h1, h2⟩ := bO_some h
    exact ⟨a, h1, b, h2, q⟩
  · rintro ⟨a, rfl, b, h2, q⟩
    exact ⟨b, h2, q⟩
theorem wp_some {b : β} : Wp (some b) Q ↔ Q b := ⟨fun ⟨_, h, q⟩ => by cases h; exact q, fun q => ⟨b, rfl, q⟩⟩
theorem wp_none : Wp (none : Option β) Q ↔ False := by
  constructor
  · rintro ⟨_, h, _⟩; cases h
  · exact False.elim
theorem wp_guard {c : Bool} {k : Option β} : Wp (guardP c k) Q ↔ c = true ∧ Wp k Q := by
  constructor
  · rintro ⟨b, h, q⟩
    obtain ⟨h1, h2⟩ := guardP_some h
    exact ⟨h1, b, h2, q⟩
  · rintro ⟨rfl, b, h, q⟩
    exact ⟨b, h, q⟩
theorem wp_seq {f g : FS} {e : En} {Q : Out → Prop} : Wp (sSeq f g e) Q ↔ Wp (f e) fun o => match o with | .nx e1 => Wp (g e1) Q | o => Q o := by
  unfold sSeq
  cases f e with
  | none => simp [wp_none]
  | some o =>
    rw [wp_some]
    cases o <;> simp [wp_some]
theorem wp_bool {c : Bool} {x y : Option β} : Wp (bB c x y) Q ↔ ((c = true → Wp x Q) ∧ (c = false → Wp y Q)) := by
  cases c <;> simp [bB]
theorem bB_t {x y : β} : bB true x y = x := rfl
theorem bB_f {x y : β} : bB false x y = y := rfl
theorem Wp.mono {r : Option β} {Q Q' : β → Prop} (h : Wp r Q) (k : ∀ b, Q b → Q' b) : Wp r Q' := let ⟨b, e, q⟩ := h; ⟨b, e, k b q⟩
theorem Wp.eq {r : Option β} {b : β} (h : Wp r fun x => x = b) : r = some b := let ⟨_, e, q⟩ := h; q ▸ e
end
theorem wp_fnM {ks : List Kd} {nl : Nat} {fr : Bool} {g : FS} {ps : List PV} {Q : PV × List PV → Prop} : Wp (fnM ks nl fr g ps) Q ↔ Wp (g (env0 ks ps ++ List.replicate nl none)) fun o => Wp (finM ks fr o) Q := by
  unfold fnM; exact wp_bO
theorem wp_call {ks : List Kd} {fr : Bool} {f : FN} {fa : FA} {e : En} {Q : Bv × En → Prop} : Wp (fCall ks fr f fa e) Q ↔ Wp (fa e) fun z => Wp (argP z.2 ks z.1) fun ps =>
    (decide ((mSlots ks z.1).Nodup) && (bSlots ks z.1).all fun i => !(mSlots ks z.1).contains i) = true ∧ Wp (f ps) fun rq => Wp (backE (rq.2.map fun q => some (.own q)) (mSlots ks z.1).zipIdx z.2) fun e2 => Q (resB rq.1 fr, e2) := by
  unfold fCall
  constructor
  · intro h
    obtain ⟨z, h1, h⟩ := wp_bE.mp h
    obtain ⟨ps, h2, h⟩ := wp_bO.mp h
    obtain ⟨g, h⟩ := wp_guard.mp h
    obtain ⟨rq, h3, h⟩ := wp_bO.mp h
    obtain ⟨e2, h4, h⟩ := wp_bO.mp h
    exact ⟨z, h1, ps, h2, g, rq, h3, e2, h4, wp_some.mp h⟩
  · rintro ⟨z, h1, ps, h2, g, rq, h3, e2, h4, q⟩
    exact wp_bE.mpr ⟨z, h1, wp_bO.mpr ⟨ps, h2, wp_guard.mpr ⟨g, wp_bO.mpr ⟨rq, h3, wp_bO.mpr ⟨e2, h4, wp_some.mpr q⟩⟩⟩⟩⟩
theorem wp_loop {body : PV → En → Option Out} (I : Nat → En → Prop) {Q : Out → Prop} {xs : List PV} (hs : ∀ (i : Nat) x e, xs[i]? = some x → I i e → Wp (body x e) fun o => match o with | .nx e1 => I (i + 1) e1 | .ct e1 => I (i + 1) e1 | .bk e1 => Q (.nx e1) | .rt b e1 => Q (.rt b e1))
    (hd : ∀ e, I xs.length e → Q (.nx e)) {e : En} (h0 : I 0 e) : Wp (loopM body xs e) Q := by
  have key : ∀ (ys : List PV) (i : Nat) (e : En), i ≤ xs.length → xs.drop i = ys → I i e → Wp (loopM body ys e) Q := by
    intro ys
    induction ys with
    | nil =>
      intro i e hil hy hi
      unfold loopM
      rw [wp_some]
      have hl : xs.length ≤ i := by
        have := congrArg List.length hy
        rw [List.length_drop] at this
        simp at this
        omega
      have h : i = xs.length := by omega
      subst h
      exact hd e hi
    | cons x ys ih =>
      intro i e hil hy hi
      have hlt : i < xs.length := by
        have := congrArg List.length hy
        rw [List.length_drop, List.length_cons] at this
        omega
      rw [List.drop_eq_getElem_cons hlt] at hy
      have hx : xs[i]? = some x := by rw [List.getElem?_eq_getElem hlt, (List.cons.inj hy).1]
      obtain ⟨o, h1, h2⟩ := hs i x e hx hi
      unfold loopM
      rw [h1]
      cases o with
      | nx e1 => exact ih (i + 1) e1 hlt (List.cons.inj hy).2 h2
      | ct e1 => exact ih (i + 1) e1 hlt (List.cons.inj hy).2 h2
      | bk e1 => exact wp_some.mpr h2
      | rt b e1 => exact wp_some.mpr h2
  exact key xs 0 e (Nat.zero_le _) rfl h0
theorem wp_comp {fg : FG} {ft : FT} {fe : FE} (I : Nat → List PV → En → Prop) {Q : List PV × En → Prop} {xs : List PV} (hs : ∀ (i : Nat) x e acc, xs[i]? = some x → I i acc e → Wp (fg x e) fun e1 => Wp (ft e1) fun z => match z.1 with | false => I (i + 1) acc z.2 | true => Wp (fe z.2) fun w => Wp w.1.put fun p => I (i + 1) (acc ++ [p]) w.2)
    (hd : ∀ acc e, I xs.length acc e → Q (acc, e)) {e : En} (h0 : I 0 [] e) : Wp (compM fg ft fe xs e) Q := by
  have key : ∀ (ys : List PV) (i : Nat) (acc : List PV) (e : En), i ≤ xs.length → xs.drop i = ys → I i acc e → ∃ rest e', compM fg ft fe ys e = some (rest, e') ∧ I xs.length (acc ++ rest) e' := by
    intro ys
    induction ys with
    | nil =>
      intro i acc e hil hy hi
      have hl : xs.length ≤ i := by
        have := congrArg List.length hy
        rw [List.length_drop] at this
        simp at this
        omega
      have h : i = xs.length := by omega
      subst h
      exact ⟨[], e, rfl, by rw [List.append_nil]; exact hi⟩
    | cons x ys ih =>
      intro i acc e hil hy hi
      have hlt : i < xs.length := by
        have := congrArg List.length hy
        rw [List.length_drop, List.length_cons] at this
        omega
      rw [List.drop_eq_getElem_cons hlt] at hy
      have hx : xs[i]? = some x := by rw [List.getElem?_eq_getElem hlt, (List.cons.inj hy).1]
      obtain ⟨e1, h1, z, h2, h3⟩ := hs i x e acc hx hi
      obtain ⟨b, e2⟩ := z
      unfold compM
      rw [h1, bO_v, h2, bE_v]
      cases b with
      | false => exact ih (i + 1) acc e2 hlt (List.cons.inj hy).2 h3
      | true =>
        obtain ⟨⟨r, e3⟩, h4, p, h5, h6⟩ := h3
        dsimp only at h4 h5 h6 ⊢
        obtain ⟨rest, e', h7, h8⟩ := ih (i + 1) (acc ++ [p]) e3 hlt (List.cons.inj hy).2 h6
        rw [h4, bE_v, h5, bO_v, h7, bE_v]
        exact ⟨p :: rest, e', rfl, by rw [List.append_assoc] at h8; exact h8⟩
  obtain ⟨rest, e', h1, h2⟩ := key xs 0 [] e (Nat.zero_le _) rfl h0
  exact ⟨_, h1, hd _ _ h2⟩
theorem wp_fcomp {fi : FI} {k : Nat} {cap : List Nat} {ms : List (Nat × Nat)} {fg : FG} {ft : FT} {fe : FE} {e : En} {Q : Bv × En → Prop} : Wp (fComp fi k cap ms fg ft fe e) Q ↔ Wp (fi (fun i => !(ms.any fun z => z.1 == i)) e) fun z => z.1.length < 1000000 ∧ Wp (compM fg ft fe z.1 (innE k cap ms z.2)) fun w => Wp (backE w.2 ms z.2) fun e2 => Q (.new (.lst w.1), e2) := by
  unfold fComp
  constructor
  · intro h
    obtain ⟨z, h1, h⟩ := wp_bE.mp h
    obtain ⟨g, h⟩ := wp_guard.mp h
    obtain ⟨w, h2, h⟩ := wp_bE.mp h
    obtain ⟨e2, h3, h⟩ := wp_bO.mp h
    exact ⟨z, h1, of_decide_eq_true g, w, h2, e2, h3, wp_some.mp h⟩
  · rintro ⟨z, h1, g, w, h2, e2, h3, q⟩
    exact wp_bE.mpr ⟨z, h1, wp_guard.mpr ⟨decide_eq_true g, wp_bE.mpr ⟨w, h2, wp_bO.mpr ⟨e2, h3, wp_some.mpr q⟩⟩⟩⟩
theorem wp_ffor {fi : FI} {fg : FG} {fb : FS} {e : En} {Q : Out → Prop} : Wp (sFor fi fg fb e) Q ↔ Wp (fi (fun _ => false) e) fun z => Wp (loopM (fun x e => bO (fg x e) fb) z.1 z.2) Q := by
  unfold sFor
  rw [wp_bE]
theorem eqP_nn : eqP PV.non PV.non = true := by simp [eqP]
theorem eqP_nb {y : Bool} : eqP PV.non (PV.bl y) = false := by simp [eqP]
theorem eqP_ni {y : Int} : eqP PV.non (PV.int y) = false := by simp [eqP]
theorem eqP_ns {y : Str} : eqP PV.non (PV.str y) = false := by simp [eqP]
theorem eqP_nt {y : List PV} : eqP PV.non (PV.tup y) = false := by simp [eqP]
theorem eqP_nl {y : List PV} : eqP PV.non (PV.lst y) = false := by simp [eqP]
theorem eqP_bn {x : Bool} : eqP (PV.bl x) PV.non = false := by simp [eqP]
theorem eqP_bb {x : Bool} {y : Bool} : eqP (PV.bl x) (PV.bl y) = (x == y) := by simp [eqP]
theorem eqP_bi {x : Bool} {y : Int} : eqP (PV.bl x) (PV.int y) = ((if x then 1 else 0) == y) := by simp [eqP]
theorem eqP_bs {x : Bool} {y : Str} : eqP (PV.bl x) (PV.str y) = false := by simp [eqP]
theorem eqP_bt {x : Bool} {y : List PV} : eqP (PV.bl x) (PV.tup y) = false := by simp [eqP]
theorem eqP_bl {x : Bool} {y : List PV} : eqP (PV.bl x) (PV.lst y) = false := by simp [eqP]
theorem eqP_in {x : Int} : eqP (PV.int x) PV.non = false := by simp [eqP]
theorem eqP_ib {x : Int} {y : Bool} : eqP (PV.int x) (PV.bl y) = (x == (if y then 1 else 0)) := by simp [eqP]
theorem eqP_ii {x : Int} {y : Int} : eqP (PV.int x) (PV.int y) = (x == y) := by simp [eqP]
theorem eqP_is {x : Int} {y : Str} : eqP (PV.int x) (PV.str y) = false := by simp [eqP]
theorem eqP_it {x : Int} {y : List PV} : eqP (PV.int x) (PV.tup y) = false := by simp [eqP]
theorem eqP_il {x : Int} {y : List PV} : eqP (PV.int x) (PV.lst y) = false := by simp [eqP]
theorem eqP_sn {x : Str} : eqP (PV.str x) PV.non = false := by simp [eqP]
theorem eqP_sb {x : Str} {y : Bool} : eqP (PV.str x) (PV.bl y) = false := by simp [eqP]
theorem eqP_si {x : Str} {y : Int} : eqP (PV.str x) (PV.int y) = false := by simp [eqP]
theorem eqP_ss {x : Str} {y : Str} : eqP (PV.str x) (PV.str y) = (x == y) := by simp [eqP]
theorem eqP_st {x : Str} {y : List PV} : eqP (PV.str x) (PV.tup y) = false := by simp [eqP]
theorem eqP_sl {x : Str} {y : List PV} : eqP (PV.str x) (PV.lst y) = false := by simp [eqP]
theorem eqP_tn {x : List PV} : eqP (PV.tup x) PV.non = false := by simp [eqP]
theorem eqP_tb {x : List PV} {y : Bool} : eqP (PV.tup x) (PV.bl y) = false := by simp [eqP]
theorem eqP_ti {x : List PV} {y : Int} : eqP (PV.tup x) (PV.int y) = false := by simp [eqP]
theorem eqP_ts {x : List PV} {y : Str} : eqP (PV.tup x) (PV.str y) = false := by simp [eqP]
theorem eqP_tt {x : List PV} {y : List PV} : eqP (PV.tup x) (PV.tup y) = eqPL x y := by simp [eqP]
theorem eqP_tl {x : List PV} {y : List PV} : eqP (PV.tup x) (PV.lst y) = false := by simp [eqP]
theorem eqP_ln {x : List PV} : eqP (PV.lst x) PV.non = false := by simp [eqP]
theorem eqP_lb {x : List PV} {y : Bool} : eqP (PV.lst x) (PV.bl y) = false := by simp [eqP]
theorem eqP_li {x : List PV} {y : Int} : eqP (PV.lst x) (PV.int y) = false := by simp [eqP]
theorem eqP_ls {x : List PV} {y : Str} : eqP (PV.lst x) (PV.str y) = false := by simp [eqP]
theorem eqP_lt {x : List PV} {y : List PV} : eqP (PV.lst x) (PV.tup y) = false := by simp [eqP]
theorem eqP_ll {x : List PV} {y : List PV} : eqP (PV.lst x) (PV.lst y) = eqPL x y := by simp [eqP]
theorem eqPL_36 : eqPL [] [] = true := by simp [eqPL]
theorem eqPL_37 {x y : PV} {xs ys : List PV} : eqPL (x :: xs) (y :: ys) = (eqP x y && eqPL xs ys) := by simp [eqPL]
theorem eqPL_38 {y : PV} {ys : List PV} : eqPL [] (y :: ys) = false := by simp [eqPL]
theorem eqPL_39 {x : PV} {xs : List PV} : eqPL (x :: xs) [] = false := by simp [eqPL]
end Mr
set_option Elab.async false
set_option linter.all false
set_option maxRecDepth 100000
set_option maxHeartbeats 4000000
namespace Mr
open PySem PySem.Spec L2 PyProof.Rows
section
variable {K : PySem.W.Frag}
noncomputable def gGet1 : PV → PV → Option Bv
  | .dct kvs, p => bO (keyOf p) fun k => some (.val ((valP kvs k).getD .non))
  | _, _ => none
noncomputable def fGet1 (fa fb : FE) : FE := fun e => bE (fa e) fun x e1 => bO (x.weak.get e1) fun p1 => match p1 with
  | .dct _ => bE (fb e1) fun y e2 => bO (x.weak.get e2) fun p => bO (y.weak.get e2) fun q => bO (gGet1 p q) fun b => some (b, e2)
  | _ => none
theorem e_fGet1 {fa fb : FE} {e : En} : fGet1 fa fb e = bE (fa e) fun x e1 => bO (x.weak.get e1) fun p1 => match p1 with
  | .dct _ => bE (fb e1) fun y e2 => bO (x.weak.get e2) fun p => bO (y.weak.get e2) fun q => bO (gGet1 p q) fun b => some (b, e2)
  | _ => none := rfl
end
end Mr
set_option Elab.async false
set_option linter.all false
set_option maxRecDepth 100000
set_option maxHeartbeats 4000000
namespace L2
open PySem PySem.Spec PyProof.Rows PySem.W
section
variable {prog : Program} {w : World} {A : Around} {E : Value → Shared → Prop} {s : Shared} {T : String} {r d : Addr} {n : Nat} {Pz : Nat → Value → Prop} {OKh : Heap → Prop}
noncomputable def Grew (s s' : Shared) : Prop := ∃ h' tk dr, s' = { s with heap := h', toks := tk, drawn := dr } ∧ s.heap.objs.size ≤ h'.objs.size ∧ ∀ b o, s.heap.get? b = some o → h'.get? b = some o
theorem Grew.size {s s' : Shared} (g : Grew s s') : s.heap.objs.size ≤ s'.heap.objs.size := by
  obtain ⟨h', tk, dr, rfl, k, _⟩ := g
  exact k
theorem collect_src {Q : List Value → Shared → Prop} (K : KdlSrc prog w T r d n Pz OKh) (hh : A.handled = none) (hok : OKh s.heap) (hn : n ≤ sizeLine)
    (hq : ∀ vs s', Grew s s' → vs.length = n → (∀ j v, vs[j]? = some v → Pz j v) → Q vs s') : wpAny (model prog w) A (collect (.ref r)) Q E s := by
  have ha := K.there _ hok
  have fin : ∀ (h' : Heap) (tk : Nat) (acc : Array Value) (c : Nat), (∀ b o, s.heap.get? b = some o → h'.get? b = some o) →
      h'.get? s.heap.objs.size = some { cls := .type "list", dict := none, data := .seq acc c, slots := #[] } → ItemsOf Pz acc n →
      wpAny (model prog w) A (match Value.ref s.heap.objs.size with
        | Value.ref a => do
          match (← load a).data with
            | Data.seq xs _ => pure xs.toList
            | _ => unsupported "internal:collect"
        | _ => unsupported "internal:collect") Q E { s with heap := h', toks := tk } := fun h' tk acc c kp hS hacc => by
    show wpAny _ A (load s.heap.objs.size >>= _) _ _ _
    exact wpAny_bind (wpAny_load hS (wpAny_pure (hq _ _ ⟨h', tk, s.drawn, rfl, Nat.le_of_lt (Heap.lt_size hS), kp⟩ (by rw [Array.length_toList]; exact hacc.1) fun j v e => hacc.2 j v (by rw [← Array.getElem?_toList]; exact e))))
  unfold collect
  refine wpAny_bind (wpAny_runValue (codeAny_builtin F.entry_proto_collect ?_))
  rw [Around.under_plainId F.plain_proto_collect _]
  refine wpAny_bind (m := newList []) (wpAny_newObj_type ?_)
  refine wpAny_pure ⟨plainId_quiet F.plain_list_iadd _, codeAny_builtin F.entry_list_iadd ?_⟩
  rw [Around.under_plainId F.plain_list_iadd _]
  have e0 : (s.heap.push { cls := .type "list", data := .seq ([] : List Value).toArray }).get? s.heap.objs.size = some { cls := .type "list", data := .seq #[] 0 } := Heap.get?_push_size _ rfl
  have key := kdl_extend (A := A) (s := { s with heap := s.heap.push { cls := .type "list", data := .seq ([] : List Value).toArray } }) (R := fun rs s' => ∃ h' tk acc c, rs = .ok (.ret (.ref s.heap.objs.size)) ∧ s' = { s with heap := h', toks := tk } ∧ (∀ b o, s.heap.get? b = some o → h'.get? b = some o) ∧ h'.get? s.heap.objs.size = some { cls := .type "list", dict := none, data := .seq acc c, slots := #[] } ∧ ItemsOf Pz acc n) K hh (K.keep _ _ hok fun b _ o e => Heap.get?_push_of_some _ e) s.heap.objs.size (Nat.ne_of_gt ha.1) (Nat.ne_of_gt ha.2) (.ref s.heap.objs.size) 0 e0
    (fun h' tk acc c kp hS hacc => ⟨h', tk, acc, c, rfl, rfl, fun b o e => kp b o (Nat.ne_of_lt (Heap.lt_size e)) (Heap.get?_push_of_some _ e), hS, hacc⟩) hn
  refine wpAny_mono key (fun f s' h => ?_) fun e s' h => ?_
  · cases f with
    | done f =>
      obtain ⟨h', tk, acc, c, e1, rfl, kp, hS, hacc⟩ := h
      cases e1
      exact fin h' tk acc c kp hS hacc
    | again c' =>
      refine ⟨h.1, codeAny_mono h.2 fun rs s2 hr => ?_⟩
      obtain ⟨h', tk, acc, c, rfl, rfl, kp, hS, hacc⟩ := hr
      exact fin h' tk acc c kp hS hacc
  · obtain ⟨h', tk, acc, c, e1, _⟩ := h
    cases e1
theorem sorted_strs_from {v : Value} {R : List Str → Prop} {Q : Value → Shared → Prop}
    (hcol : ∀ (E' : Value → Shared → Prop) (Q' : List Value → Shared → Prop), (∀ vs s1 ss, Grew s s1 → StrsAre vs ss → R ss → Q' vs s1) → wpAny (model prog w) A.in1 (collect v) Q' E' s) (h64 : ∀ ss, R ss → ss.length < 64)
    (hq : ∀ (a : Addr) s2 (out : List Value) c ss ss', Grew s s2 → s.heap.objs.size ≤ a → s2.heap.get? a = some (seqObj "list" out.toArray c) → StrsAre out ss' → R ss → ss'.Perm ss → sortedS ss' = true → Q (.ref a) s2) :
    wpAny (model prog w) A (call (.builtin "sorted") [v]) Q E s := by
  refine Calls.call_function_entry kind_sorted plain_sorted entry_sorted (args_sorted1 _) ?_
  unfold Builtin.«sorted»
  refine wpAny_bind (m := checkCount "sorted" 1 1 _) (wpAny_pure (wpAny_bind (hcol _ _ fun vs s1 ss g hS hR => ?_)))
  have hl : vs.length < 64 := by rw [hS.length]; exact h64 ss hR
  refine wpAny_bind (wpAny_newList ?_ (by simp only [sizeLine_eq]; omega))
  have e1 : (s1.heap.push (seqObj "list" vs.toArray 0)).get? s1.heap.objs.size = some (seqObj "list" vs.toArray 0) := Heap.get?_push_size _ rfl
  refine wpAny_bind (wpAny_holding (wpAny_call_entry slot_list_sort ⟨_, e1, rfl⟩ entry_list_sort (list_sort_treeK strKind_oneLt e1 hS.keysOf (fun v₁ v₂ rest e => keyKind_strs (by rw [← e]; exact hS)) hl fun st' a1 a2 => ⟨_, rfl, ?_⟩) (args_list_sort _)))
  obtain ⟨ss', b1, b2, b3⟩ := sorted_out_str hS a1 a2
  refine wpAny_pure ⟨_, rfl, ?_⟩
  obtain ⟨c, hc⟩ := sortedHeap_at (out := (arrOf st').map (·.2)) e1
  refine hq s1.heap.objs.size _ ((arrOf st').map (·.2)).toList c ss ss' ?_ g.size (by rw [Array.toArray_toList]; exact hc) b1 hR b2 b3
  obtain ⟨h', tk, dr, rfl, gz, k⟩ := g
  refine ⟨_, tk, dr, rfl, Nat.le_trans gz (Nat.le_of_lt (Heap.lt_size hc)), fun b o e => ?_⟩
  have hb := Heap.lt_size (k b o e)
  rw [sortedHeap_old (Nat.ne_of_lt hb) (by rw [size_push']; exact Nat.lt_succ_of_lt hb)]
  exact Heap.get?_push_of_some _ (k b o e)
end
section
variable {X : Cx} {pins : List (Addr × Obj)} {σ : St} {H : Hp} {s s' : Shared}
theorem Grew.push (g : Grew s s') (o : Obj) : Grew s { s' with heap := s'.heap.push o } := by
  obtain ⟨h', tk, dr, rfl, gz, k⟩ := g
  exact ⟨h'.push o, tk, dr, rfl, by rw [size_push']; exact Nat.le_succ_of_le gz, fun b u e => Heap.get?_push_of_some _ (k b u e)⟩
end
end L2
set_option Elab.async false
set_option linter.all false
set_option maxRecDepth 100000
set_option maxHeartbeats 4000000
namespace L2
open PySem PySem.Spec PyProof.Rows PySem.W
theorem Rd.upd {H : Hp} {a l : Addr} {o u : HO} (h : Rd H a o) (hl : H l = none) : Rd (upd H l u) a o := by
  have ne : a ≠ l := by
    rintro rfl
    rcases h with h | ⟨_, h⟩ <;> (rw [hl] at h; cases h)
  rcases h with h | ⟨x, h⟩
  · exact .inl (by rw [upd_ne ne]; exact h)
  · exact .inr ⟨x, by rw [upd_ne ne]; exact h⟩
theorem KV.vals {kvs : List (Key × V)} {vs : List (Key × Value)} (r : KV kvs vs) : Vals (kvs.map (·.2)) (vs.map (·.2)) := by
  unfold KV at r
  induction r with
  | nil => exact .nil
  | cons h t ih => exact .cons h.2 ih
theorem KV.len {kvs : List (Key × V)} {vs : List (Key × Value)} (r : KV kvs vs) : kvs.length = vs.length := by
  have := congrArg List.length r.keys
  simpa using this
theorem RdK.upd {H : Hp} {a l : Addr} {kvs : List (Key × V)} {u : HO} (h : RdK H a kvs) (hl : H l = none) : RdK (upd H l u) a kvs := let ⟨ep, e⟩ := h; ⟨ep, Rd.upd e hl⟩
theorem Inv.laidG {X : Cx} {pins : List (Addr × Obj)} {σ : St} {H : Hp} {s s' : Shared} {a : Addr} {o : HO} (I : Inv X pins σ H s) (g : Grew s s') (hp : s.heap.objs.size ≤ a) (new : ObjOk X.prog X.w (L2.upd H a o) s'.heap a o) : Inv X pins σ (L2.upd H a o) s' := by
  obtain ⟨h', tk, dr, rfl, _, k⟩ := g
  exact I.call (g' := s.gens) (d' := dr) (t' := tk) (ch := []) (Un.laid k hp (I.hok.fresh hp)) (I.hok.laid k hp new) I.bare fun _ z => nomatch z
section
variable {X : Cx}
noncomputable def rSortD : List V → Hp → VK → Prop := fun xs H Q => ∃ a kvs ss, xs = [.ref a] ∧ RdK H a kvs ∧ kvs.map (·.1) = ss.map Sum.inr ∧ ss.length < 64 ∧ ∀ l out, out.Perm ss → sortedS out = true → H l = none → Q (.ref l) (upd H l (.lst (out.map V.str)))
theorem strs_keys {prog : Program} {w : World} : ∀ {ss : List Str} {vs : List (Key × Value)} {us : List Value}, vs.map (·.1) = ss.map Sum.inr → us.length = vs.length → (∀ (j : Nat) v, us[j]? = some v → ∃ k x, vs[j]? = some (k, x) ∧ (mixKind prog w).is k v = true) → StrsAre us ss
  | [], [], [], _, _, _ => .nil
  | [], [], _ :: _, _, h, _ => by cases h
  | [], _ :: _, _, h, _, _ => by cases h
  | _ :: _, [], _, h, _, _ => by cases h
  | _ :: _, _ :: _, [], _, h, _ => by cases h
  | t :: ss, (k, x) :: vs, u :: us, h, hl, hu => by
    rw [List.map_cons, List.map_cons] at h
    have h := List.cons.inj h
    have e : k = Sum.inr t := h.1
    subst e
    obtain ⟨k', x', e', hk⟩ := hu 0 u rfl
    cases e'
    rcases keyIs_shape (show keyIs (Sum.inr t) u = true from hk) with ⟨i, tk, z, _⟩ | ⟨y, tk, z, rfl⟩
    · cases z
    · cases z
      exact .cons _ tk (strs_keys h.2 (by simpa using hl) fun j v e => hu (j + 1) v (by simpa using e))
theorem sortD (hc : X.calm = true := by rfl) : CallR X (.builtin "sorted") rSortD := by
  intro pins s σ H xs us Q I r ⟨a, kvs, ss, e, ha, hk, h64, q⟩
  subst e
  obtain ⟨u, rfl, rx⟩ := vals1 r
  cases rx
  obtain ⟨hz, hd, vs, rel, dd⟩ := dk_rd I.hok ha
  obtain ⟨ep, dd⟩ := dd.dictAt
  rw [rel.keys] at hk
  refine sorted_strs_from (R := fun tt => tt = ss) (fun E' Q' k => ?_) (fun tt e => by rw [e]; exact h64) fun l s2 out c tt tt' g hl hat h1 h2 h3 h4 => ?_
  · exact collect_src (kdl_dict (knd := mixKind X.prog X.w) (d := a) (kvs := vs) (ep := ep) hd) (by exact I.ok.hd hc) dd (by rw [← rel.len]; exact hz) fun ws s1 g hl hw => k ws s1 ss g (strs_keys hk hl hw) rfl
  · subst h2
    exact ⟨.ref l, _, I.laidG (o := .lst (tt'.map V.str)) g hl ⟨by rw [List.length_map, h3.length_eq]; rw [sizeLine_eq]; omega, out, c, vals_of_strs h1, hat⟩, rfl, q _ tt' h3 h4 (I.hok.fresh hl)⟩
end
end L2
set_option Elab.async false
set_option linter.all false
set_option maxRecDepth 100000
set_option maxHeartbeats 4000000
namespace L2
open PySem PySem.Spec PyProof.Rows PySem.W
section
theorem lay_led (t : SetTable) (es : Array (Int × Value)) (h : Int) (x : Value) : (layNew t es h x).2.1.led = t.led := by
  unfold layNew
  split
  · dsimp only
    generalize hp : SetTable.put t _ = z
    have hz : z.1.led = t.led := by rw [← hp]; rfl
    unfold SetTable.orStandIn
    split
    · exact hz
    · exact hz
  · rfl
theorem relay_lp (t : SetTable) (es : Array (Int × Value)) (n : Nat) : (relayAll t es n).2.1.led = t.led ∧ (t.plain = false → (relayAll t es n).2.1.plain = false) := by
  unfold relayAll
  split
  · rename_i t' order e
    have k : t'.led = t.led ∧ t'.plain = t.plain := by
      unfold SetTable.relaid SetTable.laid at e
      cases c : SetTable.layClean (SetTable.sizeAbove n - 1) (es.map (·.1)) with
      | none => rw [c] at e; cases e
      | some o => rw [c] at e; cases e; exact ⟨rfl, rfl⟩
    dsimp only
    split
    · exact ⟨k.1, fun z => k.2.trans z⟩
    · exact ⟨rfl, fun _ => rfl⟩
  · exact ⟨rfl, fun _ => rfl⟩
variable (prog : Program) (w : World)
noncomputable abbrev byT : Bool := w.params.followText "set-order"
noncomputable def SetAt (h : Heap) (a : Addr) (ks : List Str) (es : Array (Int × Value)) (ep : Nat) (t : SetTable) : Prop :=
  ∃ o, h.get? a = some o ∧ o.ExactSet ∧ o.data = .set es ep t ∧ ElemsOf (PySem.strKind prog w) es.toList ∧ (∃ us, StrsAre (es.toList.map (·.2)) us ∧ us.Perm ks) ∧ es.size < scanBound ∧ t.fits es.size = true ∧ t.led = !byT w ∧ (es.size = 0 ∨ t.plain = false)
noncomputable def StrSet (h : Heap) (a : Addr) (ks : List Str) : Prop := ∃ es ep t, SetAt prog w h a ks es ep t
variable {prog w}
theorem SetAt.at' {h h' : Heap} {a : Addr} {ks : List Str} {es : Array (Int × Value)} {ep : Nat} {t : SetTable} (x : SetAt prog w h a ks es ep t) (k : ∀ o, h.get? a = some o → h'.get? a = some o) : SetAt prog w h' a ks es ep t := let ⟨o, e, r⟩ := x; ⟨o, k o e, r⟩
theorem StrSet.at' {h h' : Heap} {a : Addr} {ks : List Str} (x : StrSet prog w h a ks) (k : ∀ o, h.get? a = some o → h'.get? a = some o) : StrSet prog w h' a ks := let ⟨es, ep, t, r⟩ := x; ⟨es, ep, t, r.at' k⟩
noncomputable def addS (ks : List Str) (x : Str) : List Str := if x ∈ ks then ks else ks ++ [x]
theorem is_str {k x : Str} {t : Tok} : (PySem.strKind prog w).is k (.str x t) = decide (k = x) := KeyKind.is_eq_decide (strKind_is _ _ _ _) k
theorem mem_strs : ∀ {vs : List Value} {us : List Str}, StrsAre vs us → ∀ k, (∃ v ∈ vs, (PySem.strKind prog w).is k v = true) ↔ k ∈ us
  | _, _, .nil, k => by simp
  | _, _, .cons x t r, k => by
    have ih := mem_strs r k
    rw [List.mem_cons, ← ih]
    constructor
    · rintro ⟨v, hv, h⟩
      rcases List.mem_cons.mp hv with rfl | hv
      · rw [is_str] at h; exact .inl (of_decide_eq_true h)
      · exact .inr ⟨v, hv, h⟩
    · rintro (rfl | ⟨v, hv, h⟩)
      · exact ⟨_, List.mem_cons_self, by rw [is_str]; exact decide_eq_true rfl⟩
      · exact ⟨v, List.mem_cons_of_mem _ hv, h⟩
theorem strs_perm : ∀ {vs vs' : List Value} {us : List Str}, vs'.Perm vs → StrsAre vs us → ∃ us', StrsAre vs' us' ∧ us'.Perm us := by
  intro vs vs' us p h
  have e : ∀ {l : List Value} {m : List Str}, StrsAre l m → m = l.map strOf ∧ ∀ v ∈ l, ∃ x t, v = .str x t := fun q => ⟨q.strs.symm, q.all⟩
  obtain ⟨e1, e2⟩ := e h
  refine ⟨vs'.map strOf, strsAre_map _ fun v hv => e2 v (p.mem_iff.mp hv), ?_⟩
  rw [e1]
  exact p.map strOf
variable {A : Around} {E : Value → Shared → Prop} {s : Shared}
theorem SetAt.put {h : Heap} {a : Addr} {o : Obj} {es es' : Array (Int × Value)} {ep : Nat} {t t' : SetTable} {ks' : List Str} (ho : h.get? a = some o) (hex : o.ExactSet) (hd : o.data = .set es ep t)
    (hel : ElemsOf (PySem.strKind prog w) es'.toList) (hu : ∃ us, StrsAre (es'.toList.map (·.2)) us ∧ us.Perm ks') (hb : es'.size < scanBound) (hf : t'.fits es'.size = true) (hl : t'.led = !byT w) (hp : t'.plain = false) :
    ∃ o', (h.update a (Obj.putSet es' t')).get? a = some o' ∧ o'.ExactSet ∧ o'.data = .set es' (ep + 1) t' ∧ SetAt prog w (h.update a (Obj.putSet es' t')) a ks' es' (ep + 1) t' := by
  have g : (h.update a (Obj.putSet es' t')).get? a = some { o with data := .set es' (ep + 1) t' } := by
    have := Heap.get?_update_self (Obj.putSet es' t') ho (by rw [putSet_of es' t' hd]; rfl)
    rw [putSet_of es' t' hd] at this
    exact this
  exact ⟨_, g, hex, rfl, _, g, hex, rfl, hel, hu, hb, hf, hl, .inr hp⟩
theorem elems_strs {l l' : List (Int × Value)} {us : List Str} (p : l'.Perm l) (h : StrsAre (l.map (·.2)) us) : ∃ us', StrsAre (l'.map (·.2)) us' ∧ us'.Perm us := strs_perm (p.map _) h
theorem add_str {a : Addr} {ks : List Str} {x : Str} {tk : Tok} {Q : Bool → Shared → Prop} (hS : StrSet prog w s.heap a ks) (hroom : ks.length + 1 < scanBound)
    (h : ∀ h' b, Heap.SameBut a s.heap h' → StrSet prog w h' a (addS ks x) → Q b { s with heap := h' }) : wpAny (model prog w) A (setAddHashed a (.str x tk) ((PySem.strKind prog w).hash x)) Q E s := by
  obtain ⟨es, ep, t, o, ho, hex, hd, hel, ⟨us, hus, hpm⟩, hb, hf, hled, hpl⟩ := hS
  have hn : es.size = ks.length := by
    have := hus.length
    rw [List.length_map, Array.length_toList, hpm.length_eq] at this
    exact this
  have hkey : (PySem.strKind prog w).is x (.str x tk) = true := strKind_is _ _ _ _
  have hmem : (∃ e ∈ es.toList, (PySem.strKind prog w).is x e.2 = true) ↔ x ∈ ks := by
    rw [← hpm.mem_iff, ← mem_strs (prog := prog) (w := w) hus x]
    constructor
    · rintro ⟨e, he, q⟩; exact ⟨e.2, List.mem_map.mpr ⟨e, he, rfl⟩, q⟩
    · rintro ⟨v, hv, q⟩
      obtain ⟨e, he, rfl⟩ := List.mem_map.mp hv
      exact ⟨e, he, q⟩
  unfold setAddHashed setAddHashedIn
  refine wpAny_holding (wpAny_bind (wpAny_setState_of ho hd hf ?_))
  dsimp only
  rw [byScan_of (x := .str x tk) rfl hb hel]
  simp only [↓reduceIte]
  unfold setAddByScan
  refine wpAny_bind (wpAny_bind (wpAny_rule (wpAny_bind (wpAny_setScan_of hkey ho hd hf hel ?_))))
  cases hr : List.findIdx? (fun e => (PySem.strKind prog w).is x e.2) es.toList with
  | some j =>
    dsimp only
    obtain ⟨hj, hpj, _⟩ := List.findIdx?_eq_some_iff_getElem.mp hr
    have hx : x ∈ ks := hmem.mp ⟨_, List.getElem_mem hj, hpj⟩
    refine wpAny_pure (wpAny_pure ?_)
    have := h s.heap false (Heap.SameBut.refl a s.heap) (by unfold addS; rw [if_pos hx]; exact ⟨es, ep, t, o, ho, hex, hd, hel, ⟨us, hus, hpm⟩, hb, hf, hled, hpl⟩)
    exact this
  | none =>
    dsimp only
    have hx : x ∉ ks := fun z => by
      obtain ⟨e, he, q⟩ := hmem.mpr z
      have := List.findIdx?_eq_none_iff.mp hr e he
      rw [q] at this
      cases this
    have gw : ∀ (b : Bool) {s₁ : Shared} {Q' : Unit → Shared → Prop}, Q' () s₁ → wpAny (model prog w) A (match b with | true => rule "set.scan.the-table-gave-way" | false => pure ()) Q' E s₁ :=
      fun b s₁ Q' hq => by
        cases b
        · exact wpAny_pure hq
        · exact wpAny_rule hq
    have p1 := layNew_perm t es ((PySem.strKind prog w).hash x) (.str x tk)
    have f1 := layNew_fits t es ((PySem.strKind prog w).hash x) (.str x tk)
    have l1 := lay_led t es ((PySem.strKind prog w).hash x) (.str x tk)
    generalize layNew t es ((PySem.strKind prog w).hash x) (.str x tk) = Z at p1 f1 l1 ⊢
    obtain ⟨es1, t1, dum, gave⟩ := Z
    dsimp only at p1 f1 l1 ⊢
    rw [Array.toList_push] at p1
    have el1 : ElemsOf (PySem.strKind prog w) es1.toList := (hel.push hkey rfl).perm p1
    have z1 : es1.size = ks.length + 1 := by rw [← Array.length_toList, p1.length_eq, List.length_append, Array.length_toList, hn]; rfl
    have b1 : es1.size < scanBound := by rw [z1]; exact hroom
    have u1 : ∃ us', StrsAre (es1.toList.map (·.2)) us' ∧ us'.Perm (addS ks x) := by
      have q : StrsAre ((es.toList ++ [((PySem.strKind prog w).hash x, Value.str x tk)]).map (·.2)) (us ++ [x]) := by
        rw [List.map_append]
        have app : ∀ {l : List Value} {m : List Str}, StrsAre l m → StrsAre (l ++ [.str x tk]) (m ++ [x]) := by
          intro l m hl
          induction hl with
          | nil => exact .cons x tk .nil
          | cons y t r ih => exact .cons y t ih
        exact app hus
      obtain ⟨us', a1, a2⟩ := elems_strs p1 q
      exact ⟨us', a1, by unfold addS; rw [if_neg hx]; exact a2.trans (hpm.append_right [x])⟩
    refine wpAny_bind (gw _ ?_)
    have tail : ∀ t2 : SetTable, t2.fits es1.size = true → t2.led = !byT w → t2.plain = false → wpAny (model prog w) A (do
        storeSet a es1 t2
        if (!dum && t2.tooFull) = true then do
            let (es, t, gave) := relayAll t2 es1 (SetTable.grown es1.size)
            (match gave with | true => rule "set.scan.the-table-gave-way" | false => pure ())
            storeSet a es t
            return some true
          else return some true) (fun r s' => wpAny (model prog w) A (match r with | some added => pure added | none => setAddHashedIn a (.str x tk) ((PySem.strKind prog w).hash x) 99999) Q E s') E s := fun t2 f2 l2 pl2 => by
      refine wpAny_bind (wpAny_storeSet_of ho hd ?_ (fits_of_scanBound b1))
      obtain ⟨o2, ho2, hex2, hd2, hS2⟩ := SetAt.put ho hex hd el1 u1 b1 f2 l2 pl2
      have sb := Heap.SameBut.update s.heap a (Obj.putSet es1 t2)
      split
      · have p3 := relayAll_perm t2 es1 (SetTable.grown es1.size)
        have f3 := relayAll_fits t2 es1 (SetTable.grown es1.size)
        obtain ⟨l3, pl3⟩ := relay_lp t2 es1 (SetTable.grown es1.size)
        generalize relayAll t2 es1 (SetTable.grown es1.size) = Y at p3 f3 l3 pl3 ⊢
        obtain ⟨es3, t3, g3⟩ := Y
        dsimp only at p3 f3 l3 pl3 ⊢
        have z3 : es3.size = es1.size := by rw [← Array.length_toList, p3.length_eq, Array.length_toList]
        have b3 : es3.size < scanBound := by rw [z3]; exact b1
        refine wpAny_bind (gw _ (wpAny_bind (wpAny_storeSet_of ho2 hd2 ?_ (fits_of_scanBound b3))))
        obtain ⟨us1, c1, c2⟩ := u1
        obtain ⟨us3, c3, c4⟩ := elems_strs p3 c1
        obtain ⟨_, _, _, _, hS3⟩ := SetAt.put ho2 hex2 hd2 (el1.perm p3) ⟨us3, c3, c4.trans c2⟩ b3 f3 (l3.trans l2) (pl3 pl2)
        exact wpAny_pure (wpAny_pure (h _ true (sb.trans (Heap.SameBut.update _ a _)) ⟨_, _, _, hS3⟩))
      · exact wpAny_pure (wpAny_pure (h _ true sb ⟨_, _, _, hS2⟩))
    cases hp1 : t1.plain with
    | true =>
      simp only [if_true]
      refine wpAny_bind ?_
      rw [hashByValue_scannable 8 (x := .str x tk) rfl]
      refine wpAny_pure ?_
      exact tail { t1 with plain := false } (SetTable.fits_plain_off f1) (l1.trans hled) rfl
    | false =>
      simp only [Bool.false_eq_true, if_false]
      refine wpAny_bind (wpAny_pure ?_)
      simp only [if_true]
      exact tail t1 f1 (l1.trans hled) hp1
end
end L2
set_option Elab.async false
set_option linter.all false
set_option maxRecDepth 100000
set_option maxHeartbeats 4000000
namespace L2
open PySem PySem.Spec PyProof.Rows PySem.W
noncomputable def firsts (ss : List Str) : List Str := ss.foldl addS []
section
variable {prog : Program} {w : World} {A : Around} {E : Value → Shared → Prop} {s : Shared}
end
end L2
set_option Elab.async false
set_option linter.all false
set_option maxRecDepth 100000
set_option maxHeartbeats 4000000
namespace L2
open PySem PySem.Spec PyProof.Rows PySem.W
section
variable {prog : Program} {w : World} {A : Around} {E : Value → Shared → Prop} {s : Shared}
end
end L2
set_option Elab.async false
set_option linter.all false
set_option maxRecDepth 100000
set_option maxHeartbeats 4000000
namespace L2
open PySem PySem.Spec PyProof.Rows PySem.W
section
variable {prog : Program} {w : World} {A : Around} {E : Value → Shared → Prop} {s : Shared}
end
end L2
set_option Elab.async false
set_option linter.all false
set_option maxRecDepth 100000
set_option maxHeartbeats 4000000
namespace L2
open PySem PySem.Spec PyProof.Rows PySem.W
section
variable {prog : Program} {w : World} {A : Around} {E : Value → Shared → Prop} {s : Shared}
noncomputable def SetIt (h : Heap) (I a : Addr) (first : Value) (i n ep : Nat) : Prop := ∃ o, h.get? I = some o ∧ o.cls = .type "set_iterator" ∧ o.data = .fields #[first, rawInt (i : Int), .ref a, rawInt (n : Int), rawInt (ep : Int)]
theorem SetIt.typeIs {I a : Addr} {first : Value} {i n ep : Nat} (x : SetIt s.heap I a first i n ep) : s.TypeIs (.ref I) "set_iterator" := let ⟨o, ho, hc, _⟩ := x; ⟨o, ho, hc⟩
inductive OrdI (w : World) (h : Heap) (es : Array (Int × Value)) (t : SetTable) (a : Addr) (ep : Nat) (ord : List Value) (T : Addr) : Value → Nat → Prop
  | drawn {ps : List Nat} {o : Obj} (i : Nat) (ho : h.get? T = some o) (hd : o.data = .seq (ps.map fun i : Nat => rawInt i).toArray 0) (hc : o.cls = .type "tuple") (he : ∀ j : Nat, (ps[j]?.bind fun p => (es[p]?).map (·.2)) = ord[j]?) (hl : ∀ (j : Nat) p, ps[j]? = some p → p < es.size) (hn : ps.length = es.size) : OrdI w h es t a ep ord T (.ref T) i
  | text (k i : Nat) (hb : byT w = true) (he : ord = (pickOrder (w.params.setOrder a ep) es).toList.map (·.2)) : OrdI w h es t a ep ord T (rawInt (k : Int)) i
  | none (k : Nat) (hb : byT w = false) (hn : es.size = 0) (he : ord = []) : OrdI w h es t a ep ord T (rawInt (k : Int)) 0
  | one0 {x : Int × Value} {p : Nat} (hb : byT w = false) (hn : es = #[x]) (hp : t.place = #[p]) (he : ord = [x.2]) : OrdI w h es t a ep ord T (rawInt 0) 0
  | one1 {x : Int × Value} {p : Nat} (hb : byT w = false) (hn : es = #[x]) (hp : t.place = #[p]) (he : ord = [x.2]) : OrdI w h es t a ep ord T (rawInt ((p + 1 : Nat) : Int)) 1
theorem OrdI.at' {h h' : Heap} {es : Array (Int × Value)} {t : SetTable} {a : Addr} {ep : Nat} {ord : List Value} {T : Addr} {f : Value} {i : Nat} (x : OrdI w h es t a ep ord T f i) (k : ∀ o, h.get? T = some o → h'.get? T = some o) : OrdI w h' es t a ep ord T f i := by
  cases x with
  | drawn i ho hd hc he hl hn => exact .drawn i (k _ ho) hd hc he hl hn
  | text k i hb he => exact .text k i hb he
  | none k hb hn he => exact .none k hb hn he
  | one0 hb hn hp he => exact .one0 hb hn hp he
  | one1 hb hn hp he => exact .one1 hb hn hp he
end
end L2
set_option Elab.async false
set_option linter.all false
set_option maxRecDepth 100000
set_option maxHeartbeats 4000000
namespace L2
open PySem PySem.Spec PyProof.Rows PySem.W
section
variable {prog : Program} {w : World} {A : Around} {E : Value → Shared → Prop} {s : Shared}
theorem SetIt.put {I a : Addr} {f : Value} {i n ep k : Nat} {x : Value} {h : Heap} (hit : SetIt h I a f i n ep) (hk : k < 5) :
    ∃ o, (h.update I (Obj.mapFields (·.setIfInBounds k x))).get? I = some o ∧ o.cls = .type "set_iterator" ∧ o.data = .fields (#[f, rawInt (i : Int), .ref a, rawInt (n : Int), rawInt (ep : Int)].setIfInBounds k x) := by
  obtain ⟨o, ho, hc, hd⟩ := hit
  exact ⟨_, Heap.get?_update_self _ ho (Obj.isFreed_of_fields (Obj.data_mapFields hd _)), (Obj.cls_mapFields ..).trans hc, Obj.data_mapFields hd _⟩
end
end L2
set_option Elab.async false
set_option linter.all false
set_option maxRecDepth 100000
set_option maxHeartbeats 4000000
namespace L2
open PySem PySem.Spec PyProof.Rows PySem.W
section
variable {prog : Program} {w : World} {A : Around} {E : Value → Shared → Prop} {s : Shared}
end
end L2
set_option Elab.async false
set_option linter.all false
set_option maxRecDepth 100000
set_option maxHeartbeats 4000000
namespace L2
open PySem PySem.Spec PyProof.Rows PySem.W
section
variable {X : Cx}
end
end L2
namespace Mr
open PySem PySem.Spec L2 PyProof.Rows
section
variable {K : PySem.W.Frag}
noncomputable def fTVals (fa : FE) : FE := fun e => bE (fa e) fun x e1 => bO (x.weak.get e1) fun p => match p with
  | .dct kvs => some (.val (.tup (kvs.map (·.2))), e1)
  | _ => none
noncomputable def fLVals (fa : FE) : FE := fun e => bE (fa e) fun x e1 => bO (x.weak.get e1) fun p => match p with
  | .dct kvs => some (.new (.lst (kvs.map (·.2))), e1)
  | _ => none
noncomputable def fSortSet (fa : FE) : FE := fun e => bE (fa e) fun x e1 => bO (x.weak.get e1) fun p => match p with
  | .lst ps => bO (strsP ps) fun ss => guardP (decide (ss.length < 64)) (some (.new (.lst ((sortP (firsts ss)).map PV.str)), e1))
  | _ => none
noncomputable def keysS : List (Key × PV) → Option (List Str)
  | [] => some []
  | (.inr x, _) :: r => bO (keysS r) fun ss => some (x :: ss)
  | _ => none
theorem keysS_eq : ∀ {kvs : List (Key × PV)} {ss : List Str}, keysS kvs = some ss → kvs.map (·.1) = ss.map Sum.inr
  | [], ss, h => by cases h; rfl
  | (.inr x, p) :: r, ss, h => by
    obtain ⟨ss', h1, h⟩ := bO_some h
    cases h
    rw [List.map_cons, List.map_cons, keysS_eq h1]
  | (.inl x, p) :: r, ss, h => by cases h
noncomputable def gSortD : List PV → Option Bv
  | [.dct kvs] => bO (keysS kvs) fun ss => guardP (decide (ss.length < 64)) (some (.new (.lst ((sortP ss).map PV.str))))
  | _ => none
theorem ok_sortD : CbOk K rSortD gSortD := by
  intro Z H vs ps b Q hp h k
  unfold gSortD at h
  split at h
  · obtain ⟨ss, g, h⟩ := bO_some h
    obtain ⟨c, h⟩ := guardP_some h
    cases h
    obtain ⟨v, rfl, hv⟩ := hp.one
    obtain ⟨a, ys, rfl, ha, ek, ra⟩ := hv.dcts
    refine ⟨a, ys, ss, rfl, ha, ek.trans (keysS_eq g), of_decide_eq_true c, fun l out h1 h2 hl => ?_⟩
    rw [sortP_eq h1 h2] at k
    exact k _ _ (Same.upd hl) (newL hl (RepL.ofStrs out))
  · cases h
theorem e_fTVals {fa : FE} {e : En} : fTVals fa e = bE (fa e) fun x e1 => bO (x.weak.get e1) fun p => match p with
  | .dct kvs => some (.val (.tup (kvs.map (·.2))), e1)
  | _ => none := rfl
theorem e_fLVals {fa : FE} {e : En} : fLVals fa e = bE (fa e) fun x e1 => bO (x.weak.get e1) fun p => match p with
  | .dct kvs => some (.new (.lst (kvs.map (·.2))), e1)
  | _ => none := rfl
theorem e_fSortSet {fa : FE} {e : En} : fSortSet fa e = bE (fa e) fun x e1 => bO (x.weak.get e1) fun p => match p with
  | .lst ps => bO (strsP ps) fun ss => guardP (decide (ss.length < 64)) (some (.new (.lst ((sortP (firsts ss)).map PV.str)), e1))
  | _ => none := rfl
end
end Mr
set_option Elab.async false
set_option linter.all false
set_option maxRecDepth 100000
set_option maxHeartbeats 4000000
namespace Mr
open PySem PySem.Spec L2 PyProof.Rows PySem.W
noncomputable def lexP (lt : PV → PV → Option Bool) : List PV → List PV → Option Bool
  | [], [] => some false
  | [], _ :: _ => some true
  | _ :: _, [] => some false
  | x :: xs, y :: ys => if eqP x y = true then lexP lt xs ys else lt x y
noncomputable def ltP : Nat → PV → PV → Option Bool
  | _, .str a, .str b => some (decide (a.cps.toList < b.cps.toList))
  | _, .int a, .int b => some (decide (a < b))
  | n + 1, .tup xs, .tup ys => lexP (ltP n) xs ys
  | _, _, _ => none
section
variable {s : Shared}
theorem lexR_P {A : Around} {lt : PV → PV → Option Bool} : ∀ {xs ys : List PV} {us vs : List Value} {c : Bool} {fin : Bool}, LiesL s.heap xs us → LiesL s.heap ys vs → (∀ x ∈ xs, ∀ y ∈ ys, ∀ u v, Lies s.heap x u → Lies s.heap y v → SeqAt.EqAt A s u v (eqP x y) ∧ ∀ b, lt x y = some b → LtAt A s u v b) →
    fin = decide (us.length < vs.length) → lexP lt xs ys = some c → LexR A s fin (us.zip vs) c
  | [], [], _, _, c, fin, .nil, .nil, _, hf, h => by cases h; rw [hf]; exact .done
  | [], _ :: _, _, _, c, fin, .nil, .cons _ r, _, hf, h => by cases h; rw [hf]; exact .done
  | _ :: _, [], _, _, c, fin, .cons _ r, .nil, _, hf, h => by cases h; rw [hf]; exact .done
  | x :: xs, y :: ys, _, _, c, fin, .cons r1 rr1, .cons r2 rr2, hk, hf, h => by
    obtain ⟨he, hl⟩ := hk x List.mem_cons_self y List.mem_cons_self _ _ r1 r2
    unfold lexP at h
    cases e : eqP x y with
    | true =>
      rw [e] at he
      rw [if_pos e] at h
      exact .same he (lexR_P rr1 rr2 (fun a ha b hb => hk a (List.mem_cons_of_mem _ ha) b (List.mem_cons_of_mem _ hb)) (by rw [hf]; simp) h)
    | false =>
      rw [e] at he
      rw [if_neg (by rw [e]; exact Bool.false_ne_true)] at h
      exact .less he (hl c h)
theorem ltAt_P : ∀ (n : Nat) (A : Around) {p q : PV} {v u : Value} {b : Bool}, A.units + n < cLine → okP n p = true → okP n q = true → Lies s.heap p v → Lies s.heap q u → ltP n p q = some b → LtAt A s v u b := by
  intro n
  induction n with
  | zero =>
    intro A p q v u b hu o1 o2 h1 h2 h
    cases p with
    | str x =>
      cases q with
      | str y => cases h; cases h1; cases h2; exact fun prog w E Q q => PySem.P.lt_str q
      | _ => cases h
    | int x =>
      cases q with
      | int y => cases h; cases h1; cases h2; exact fun prog w E Q q => PyProof.Rows.lt_int q
      | _ => cases h
    | _ => cases q <;> cases h
  | succ n ih =>
    intro A p q v u b hu o1 o2 h1 h2 h
    cases p with
    | str x =>
      cases q with
      | str y => cases h; cases h1; cases h2; exact fun prog w E Q q => PySem.P.lt_str q
      | _ => cases h
    | int x =>
      cases q with
      | int y => cases h; cases h1; cases h2; exact fun prog w E Q q => PyProof.Rows.lt_int q
      | _ => cases h
    | tup xs =>
      cases q with
      | tup ys =>
        cases h1 with
        | tup t1 l1 =>
          cases h2 with
          | tup t2 l2 =>
            have hin : A.in1.units = A.units + 1 := rfl
            have o1 : xs.all (okP n) = true := o1
            have o2 : ys.all (okP n) = true := o2
            refine lt_tup t1 t2 (by omega) ?_
            simpa using lexR_P (A := A.in1) (s := s) l1 l2 (fun x hx y hy u v a b => ⟨eqAt_P n A.in1 (by omega) (List.all_eq_true.mp o1 x hx) (List.all_eq_true.mp o2 y hy) a b, fun c hc => ih A.in1 (by omega) (List.all_eq_true.mp o1 x hx) (List.all_eq_true.mp o2 y hy) a b hc⟩) rfl h
      | _ => cases h
    | _ => cases q <;> cases h
theorem kl_restP {prog : Program} {w : World} {A : Around} {fin : Bool} {lt : PV → PV → Option Bool} {C : Bool → Shared → Prop} : ∀ {xs ys : List PV} {us vs : List Value} {c : Bool} (i : Nat), 1 ≤ i → LiesL s.heap xs us → LiesL s.heap ys vs →
    (∀ x ∈ xs, ∀ y ∈ ys, ∀ u v, Lies s.heap x u → Lies s.heap y v → SeqAt.EqAt A s u v (eqP x y) ∧ ∀ b, lt x y = some b → LtAt A s u v b) → fin = decide (us.length < vs.length) → lexP lt xs ys = some c → C c s → KatLex prog w A true fin C (us.zip vs) i s
  | [], [], _, _, c, _, _, .nil, .nil, _, hf, h, hC => by cases h; exact kat_nil (by rw [hf]; exact hC)
  | [], _ :: _, _, _, c, _, _, .nil, .cons _ r, _, hf, h, hC => by cases h; exact kat_nil (by rw [hf]; exact hC)
  | _ :: _, [], _, _, c, _, _, .cons _ r, .nil, _, hf, h, hC => by cases h; exact kat_nil (by rw [hf]; exact hC)
  | x :: xs, y :: ys, _, _, c, i, hi, .cons r1 rr1, .cons r2 rr2, hk, hf, h, hC => by
    obtain ⟨he, hl⟩ := hk x List.mem_cons_self y List.mem_cons_self _ _ r1 r2
    refine kat_cons (he prog w _ _ ?_)
    unfold lexP at h
    cases e : eqP x y with
    | true =>
      rw [if_pos e] at h
      exact kat_yes (kl_restP (i + 1) (by omega) rr1 rr2 (fun a ha b hb => hk a (List.mem_cons_of_mem _ ha) b (List.mem_cons_of_mem _ hb)) (by rw [hf]; simp) h hC)
    | false =>
      rw [if_neg (by rw [e]; exact Bool.false_ne_true)] at h
      refine kat_no ?_
      have e0 : (true && i == 0) = false := by simp; omega
      rw [e0]
      exact kat_one _ _ (hl c h prog w _ _ hC)
noncomputable def ledP (b : Bool) : PV → Bool
  | .tup (.str _ :: _) => b
  | .tup (.int _ :: _) => !b
  | _ => false
noncomputable def ledT (b : Bool) : String := if b then "str" else "int"
theorem askP {prog : Program} {w : World} {A : Around} {b : Bool} {n : Nat} {ps : List PV} {vs : List Value} (hl : LiesL s.heap ps vs) (hu : A.units + n < cLine) (led : ∀ p ∈ ps, ledP b p = true) (ok : ∀ p ∈ ps, okP (n + 1) p = true)
    {i j : Nat} {c : Bool} {C : Bool → Shared → Prop} {p q : PV} (hp : ps[i]? = some p) (hq : ps[j]? = some q) (hc : ltP (n + 1) p q = some c) (hC : C c s) : kas_ask prog w A (tuples' (Value.type (ledT b) != Value.type "tuple")) vs i j C s := by
  have kt : (Value.type (ledT b) != Value.type "tuple") = true := by cases b <;> decide
  obtain ⟨u, hu1, lu⟩ : ∃ u, vs[i]? = some u ∧ Lies s.heap p u := by
    have hlt : i < vs.length := by rw [← hl.length]; exact (List.getElem?_eq_some_iff.mp hp).1
    obtain ⟨p', e, l⟩ := hl.get (List.getElem?_eq_getElem hlt)
    rw [hp] at e; cases e
    exact ⟨_, List.getElem?_eq_getElem hlt, l⟩
  obtain ⟨v, hv1, lv⟩ : ∃ v, vs[j]? = some v ∧ Lies s.heap q v := by
    have hlt : j < vs.length := by rw [← hl.length]; exact (List.getElem?_eq_some_iff.mp hq).1
    obtain ⟨p', e, l⟩ := hl.get (List.getElem?_eq_getElem hlt)
    rw [hq] at e; cases e
    exact ⟨_, List.getElem?_eq_getElem hlt, l⟩
  have l1 := led p (List.mem_of_getElem? hp)
  have l2 := led q (List.mem_of_getElem? hq)
  have o1 := ok p (List.mem_of_getElem? hp)
  have o2 := ok q (List.mem_of_getElem? hq)
  show wpAny _ _ (keyLt' _ (vs.getD i Value.none) (vs.getD j Value.none)) C _ s
  rw [List.getD_eq_getElem?_getD, hu1, List.getD_eq_getElem?_getD, hv1, kt]
  cases lu with
  | @tup _ us xs t1 r1 =>
    cases lv with
    | @tup _ vs' ys t2 r2 =>
      obtain ⟨oa, ga, _, na, da⟩ := t1
      obtain ⟨ob, gb, _, nb, db⟩ := t2
      refine kat_lt ga da gb db ?_
      have o1 : xs.all (okP n) = true := o1
      have o2 : ys.all (okP n) = true := o2
      have key : ∀ x ∈ xs, ∀ y ∈ ys, ∀ u v, Lies s.heap x u → Lies s.heap y v → SeqAt.EqAt A s u v (eqP x y) ∧ ∀ b, ltP n x y = some b → LtAt A s u v b := fun x hx y hy u v a b =>
        ⟨eqAt_P n A hu (List.all_eq_true.mp o1 x hx) (List.all_eq_true.mp o2 y hy) a b, fun c hc => ltAt_P n A hu (List.all_eq_true.mp o1 x hx) (List.all_eq_true.mp o2 y hy) a b hc⟩
      have hc : lexP (ltP n) xs ys = some c := hc
      cases r1 with
      | nil => cases l1
      | @cons x u0 xs us a1 a2 =>
        cases r2 with
        | nil => cases l2
        | @cons y v0 ys vs' b1 b2 =>
          obtain ⟨he, _⟩ := key x List.mem_cons_self y List.mem_cons_self _ _ a1 b1
          refine kat_cons (he prog w _ _ ?_)
          unfold lexP at hc
          cases e : eqP x y with
          | true =>
            rw [if_pos e] at hc
            exact kat_yes (kl_restP 1 (Nat.le_refl _) a2 b2 (fun a ha b hb => key a (List.mem_cons_of_mem _ ha) b (List.mem_cons_of_mem _ hb)) (by simp) hc hC)
          | false =>
            rw [if_neg (by rw [e]; exact Bool.false_ne_true)] at hc
            refine kat_no ?_
            cases x with
            | str x =>
              cases y with
              | str y =>
                have hc : some (decide (x.cps.toList < y.cps.toList)) = some c := by cases n <;> exact hc
                cases hc
                cases a1
                cases b1
                exact oneLt_str hC
              | int y => cases b <;> cases l1 <;> cases l2
              | _ => cases l2
            | int x =>
              cases y with
              | int y =>
                have hc : some (decide (x < y)) = some c := by cases n <;> exact hc
                cases hc
                cases a1
                cases b1
                exact oneLt_int hC
              | str y => cases b <;> cases l1 <;> cases l2
              | _ => cases l2
            | _ => cases l1
    | _ => cases l2
  | _ => cases l1
end
end Mr
set_option Elab.async false
set_option linter.all false
set_option maxRecDepth 100000
set_option maxHeartbeats 4000000
namespace Mr
open PySem PySem.Spec L2 PyProof.Rows PySem.W
noncomputable def plP : Nat → PV → Bool
  | _, .non => true
  | _, .int _ => true
  | _, .str _ => true
  | n + 1, .tup ps => ps.all (plP n)
  | _, _ => false
theorem plP_ok : ∀ {n : Nat} {p : PV}, plP n p = true → okP n p = true := by
  intro n
  induction n with
  | zero => intro p h; cases p <;> first | rfl | cases h
  | succ n ih =>
    intro p h
    cases p with
    | tup ps => exact List.all_eq_true.mpr fun x hx => ih (List.all_eq_true.mp h x hx)
    | lst ps => cases h
    | dct ps => cases h
    | ty x => cases h
    | bl x => cases h
    | _ => rfl
theorem eqPL_eq {n : Nat} (ih : ∀ {p q : PV}, plP n p = true → plP n q = true → eqP p q = true → p = q) : ∀ {xs ys : List PV}, xs.all (plP n) = true → ys.all (plP n) = true → eqPL xs ys = true → xs = ys
  | [], [], _, _, _ => rfl
  | [], _ :: _, _, _, h => by simp [eqPL] at h
  | _ :: _, [], _, _, h => by simp [eqPL] at h
  | x :: xs, y :: ys, h1, h2, h => by
    simp only [eqPL, Bool.and_eq_true] at h
    rw [List.all_cons, Bool.and_eq_true] at h1 h2
    rw [ih h1.1 h2.1 h.1, eqPL_eq ih h1.2 h2.2 h.2]
theorem eqP_eq : ∀ {n : Nat} {p q : PV}, plP n p = true → plP n q = true → eqP p q = true → p = q := by
  intro n
  induction n with
  | zero =>
    intro p q h1 h2 h
    cases p <;> cases q <;> first | rfl | (cases h1; done) | (cases h2; done) | (simp [eqP] at h; try subst h; try rfl)
  | succ n ih =>
    intro p q h1 h2 h
    cases p with
    | tup xs =>
      cases q with
      | tup ys => rw [eqP_tup] at h; rw [eqPL_eq ih h1 h2 h]
      | _ => simp [eqP] at h
    | lst xs => cases h1
    | dct xs => cases h1
    | ty xs => cases h1
    | bl xs => cases h1
    | non => cases q <;> first | rfl | (simp [eqP] at h)
    | int i => cases q <;> first | (cases h2; done) | (simp [eqP] at h; try subst h; try rfl)
    | str i => cases q <;> first | (cases h2; done) | (simp [eqP] at h; try subst h; try rfl)
theorem eqPL_refl {n : Nat} (ih : ∀ {p : PV}, plP n p = true → eqP p p = true) : ∀ {xs : List PV}, xs.all (plP n) = true → eqPL xs xs = true
  | [], _ => by simp [eqPL]
  | x :: xs, h => by
    rw [List.all_cons, Bool.and_eq_true] at h
    simp only [eqPL, Bool.and_eq_true]
    exact ⟨ih h.1, eqPL_refl ih h.2⟩
theorem eqP_refl : ∀ {n : Nat} {p : PV}, plP n p = true → eqP p p = true := by
  intro n
  induction n with
  | zero => intro p h; cases p <;> first | (simp [eqP]; done) | cases h
  | succ n ih =>
    intro p h
    cases p with
    | tup xs => rw [eqP_tup]; exact eqPL_refl ih h
    | lst xs => cases h
    | dct xs => cases h
    | ty xs => cases h
    | bl xs => cases h
    | _ => simp [eqP]
noncomputable def code : Nat → PV → List Int
  | _, .str x => x.cps.toList.map (fun c : Nat => (c : Int) + 1) ++ [0]
  | _, .int i => [i]
  | n + 1, .tup xs => xs.flatMap (fun x => 1 :: code n x) ++ [0]
  | _, _ => [0]
noncomputable abbrev ltC : List Int → List Int → Bool := listB intO
theorem ltC_pre (a r r' : List Int) : ltC (a ++ r) (a ++ r') = ltC r r' := by
  induction a with
  | nil => rfl
  | cons x a ih =>
    show stepB intO x x (ltC (a ++ r) (a ++ r')) = _
    exact (stepB_eq (A := intO) (a := x)).trans ih
theorem ltC_cons {x y : Int} {r r' : List Int} : ltC (x :: r) (y :: r') = if x = y then ltC r r' else decide (x < y) := by
  show stepB intO x y (ltC r r') = _
  rcases ko_cases (A := intO) x y with ⟨a, b⟩ | ⟨a, b⟩ | a
  · rw [stepB_lt a]
    have a := of_decide_eq_true a
    rw [if_neg (by omega), decide_eq_true a]
  · rw [stepB_gt a]
    have a := of_decide_eq_true a
    rw [if_neg (by omega), decide_eq_false (by omega)]
  · subst a
    rw [if_pos rfl]
    exact stepB_eq (A := intO) (a := x)
theorem ltC_str : ∀ (a b : List Nat) (r r' : List Int), ltC ((a.map fun c : Nat => (c : Int) + 1) ++ [0] ++ r) ((b.map fun c : Nat => (c : Int) + 1) ++ [0] ++ r') = if a = b then ltC r r' else decide (a < b)
  | [], [], r, r' => by
    rw [if_pos rfl]
    exact ltC_pre [0] r r'
  | [], y :: b, r, r' => by
    rw [if_neg (by simp)]
    show ltC (0 :: r) (((y : Int) + 1) :: _) = _
    rw [ltC_cons, if_neg (by omega), decide_eq_true (by omega)]
    exact (decide_eq_true (by simp)).symm
  | x :: a, [], r, r' => by
    rw [if_neg (by simp)]
    show ltC (((x : Int) + 1) :: _) (0 :: r') = _
    rw [ltC_cons, if_neg (by omega), decide_eq_false (by omega)]
    exact (decide_eq_false (by simp)).symm
  | x :: a, y :: b, r, r' => by
    show ltC (((x : Int) + 1) :: ((a.map fun c : Nat => (c : Int) + 1) ++ [0] ++ r)) (((y : Int) + 1) :: ((b.map fun c : Nat => (c : Int) + 1) ++ [0] ++ r')) = _
    rw [ltC_cons, ltC_str a b r r']
    by_cases e : x = y
    · subst e
      rw [if_pos rfl]
      by_cases e2 : a = b
      · subst e2; rw [if_pos rfl, if_pos rfl]
      · rw [if_neg e2, if_neg (by simpa using e2)]
        congr 1
        simp [List.cons_lt_cons_iff]
    · rw [if_neg (by omega), if_neg (by intro z; exact e (List.cons.inj z).1)]
      by_cases h : x < y
      · rw [decide_eq_true (show (x : Int) + 1 < y + 1 by omega)]
        exact (decide_eq_true (List.cons_lt_cons_iff.mpr (.inl h))).symm
      · rw [decide_eq_false (show ¬ (x : Int) + 1 < y + 1 by omega)]
        refine (decide_eq_false fun z => ?_).symm
        rcases List.cons_lt_cons_iff.mp z with z | z
        · exact h z
        · exact e z.1
theorem code_lex {n : Nat} (ih : ∀ {p q : PV} {b : Bool} (r r' : List Int), plP n p = true → plP n q = true → ltP n p q = some b → ltC (code n p ++ r) (code n q ++ r') = if eqP p q = true then ltC r r' else b) :
    ∀ {xs ys : List PV} {b : Bool} (r r' : List Int), xs.all (plP n) = true → ys.all (plP n) = true → lexP (ltP n) xs ys = some b →
      ltC (xs.flatMap (fun x => 1 :: code n x) ++ [0] ++ r) (ys.flatMap (fun x => 1 :: code n x) ++ [0] ++ r') = if eqPL xs ys = true then ltC r r' else b
  | [], [], b, r, r', _, _, h => by
    rw [if_pos (by simp [eqPL])]
    exact ltC_pre [0] r r'
  | [], y :: ys, b, r, r', _, _, h => by
    cases h
    rw [if_neg (by simp [eqPL])]
    show ltC (0 :: r) (1 :: _) = _
    rw [ltC_cons]; rfl
  | x :: xs, [], b, r, r', _, _, h => by
    cases h
    rw [if_neg (by simp [eqPL])]
    show ltC (1 :: _) (0 :: r') = _
    rw [ltC_cons]; rfl
  | x :: xs, y :: ys, b, r, r', h1, h2, h => by
    rw [List.all_cons, Bool.and_eq_true] at h1 h2
    have e1 : ∀ (z : PV) (zs : List PV) (w : List Int), (z :: zs).flatMap (fun x => 1 :: code n x) ++ [0] ++ w = 1 :: (code n z ++ (zs.flatMap (fun x => 1 :: code n x) ++ [0] ++ w)) := fun z zs w => by simp
    rw [e1, e1, ltC_cons, if_pos rfl]
    unfold lexP at h
    cases e : eqP x y with
    | true =>
      rw [if_pos e] at h
      have exy := eqP_eq h1.1 h2.1 e
      subst exy
      rw [ltC_pre, code_lex ih r r' h1.2 h2.2 h]
      simp only [eqPL, e, Bool.true_and]
    | false =>
      rw [if_neg (by rw [e]; exact Bool.false_ne_true)] at h
      rw [ih _ _ h1.1 h2.1 h, if_neg (by rw [e]; exact Bool.false_ne_true), if_neg (by simp [eqPL, e])]
theorem code_lt : ∀ {n : Nat} {p q : PV} {b : Bool} (r r' : List Int), plP n p = true → plP n q = true → ltP n p q = some b → ltC (code n p ++ r) (code n q ++ r') = if eqP p q = true then ltC r r' else b := by
  have str : ∀ {n : Nat} {x y : Str} {b : Bool} (r r' : List Int), ltP n (.str x) (.str y) = some b → ltC (code n (.str x) ++ r) (code n (.str y) ++ r') = if eqP (.str x) (.str y) = true then ltC r r' else b := fun {n x y b} r r' h => by
    have h : some (decide (x.cps.toList < y.cps.toList)) = some b := by cases n <;> exact h
    cases h
    have e1 : ∀ z : Str, code n (.str z) = z.cps.toList.map (fun c : Nat => (c : Int) + 1) ++ [0] := fun z => by cases n <;> rfl
    rw [e1, e1, ltC_str]
    by_cases e : x = y
    · subst e; rw [if_pos rfl, if_pos (by simp [eqP])]
    · rw [if_neg (fun z => e (str_cps z)), if_neg (by simpa [eqP] using e)]
  have int : ∀ {n : Nat} {x y : Int} {b : Bool} (r r' : List Int), ltP n (.int x) (.int y) = some b → ltC (code n (.int x) ++ r) (code n (.int y) ++ r') = if eqP (.int x) (.int y) = true then ltC r r' else b := fun {n x y b} r r' h => by
    have h : some (decide (x < y)) = some b := by cases n <;> exact h
    cases h
    have e1 : ∀ z : Int, code n (.int z) = [z] := fun z => by cases n <;> rfl
    rw [e1, e1]
    show ltC (x :: r) (y :: r') = _
    rw [ltC_cons]
    by_cases e : x = y
    · subst e; rw [if_pos rfl, if_pos (by simp [eqP])]
    · rw [if_neg e, if_neg (by simpa [eqP] using e)]
  intro n
  induction n with
  | zero =>
    intro p q b r r' h1 h2 h
    cases p with
    | str x => cases q with
      | str y => exact str r r' h
      | _ => cases h
    | int x => cases q with
      | int y => exact int r r' h
      | _ => cases h
    | _ => cases q <;> cases h
  | succ n ih =>
    intro p q b r r' h1 h2 h
    cases p with
    | str x => cases q with
      | str y => exact str r r' h
      | _ => cases h
    | int x => cases q with
      | int y => exact int r r' h
      | _ => cases h
    | tup xs => cases q with
      | tup ys =>
        rw [eqP_tup]
        exact code_lex ih r r' h1 h2 h
      | _ => cases h
    | _ => cases q <;> cases h
end Mr
set_option Elab.async false
set_option linter.all false
set_option maxRecDepth 100000
set_option maxHeartbeats 4000000
namespace Mr
open PySem PySem.Spec L2 PyProof.Rows PySem.W
theorem tri_lex {n : Nat} (ih : ∀ {p q : PV}, ltP n p q = some false → ltP n q p = some false → eqP p q = true) (sym : ∀ p q : PV, eqP p q = eqP q p) : ∀ {xs ys : List PV}, lexP (ltP n) xs ys = some false → lexP (ltP n) ys xs = some false → eqPL xs ys = true
  | [], [], _, _ => by simp [eqPL]
  | [], _ :: _, h, _ => by cases h
  | _ :: _, [], _, h => by cases h
  | x :: xs, y :: ys, h, h' => by
    unfold lexP at h h'
    rw [sym y x] at h'
    cases e : eqP x y with
    | true =>
      rw [if_pos e] at h h'
      simp only [eqPL, e, Bool.true_and]
      exact tri_lex ih sym h h'
    | false =>
      rw [if_neg (by rw [e]; exact Bool.false_ne_true)] at h h'
      rw [ih h h'] at e
      cases e
mutual
theorem eqP_sym : ∀ p q : PV, eqP p q = eqP q p
  | .non, q => by cases q <;> simp [eqP]
  | .bl a, q => by cases q <;> simp only [eqP] <;> (rw [Bool.eq_iff_iff, beq_iff_eq, beq_iff_eq]; exact eq_comm)
  | .int a, q => by cases q <;> simp only [eqP] <;> (rw [Bool.eq_iff_iff, beq_iff_eq, beq_iff_eq]; exact eq_comm)
  | .str a, q => by cases q <;> simp only [eqP] <;> (rw [Bool.eq_iff_iff, beq_iff_eq, beq_iff_eq]; exact eq_comm)
  | .ty a, q => by cases q <;> simp [eqP]
  | .dct a, q => by cases q <;> simp [eqP]
  | .tup xs, q => by
    cases q with
    | tup ys => simp only [eqP]; exact eqPL_sym xs ys
    | _ => simp [eqP]
  | .lst xs, q => by
    cases q with
    | lst ys => simp only [eqP]; exact eqPL_sym xs ys
    | _ => simp [eqP]
theorem eqPL_sym : ∀ xs ys : List PV, eqPL xs ys = eqPL ys xs
  | [], ys => by cases ys <;> simp [eqPL]
  | x :: xs, [] => by simp [eqPL]
  | x :: xs, y :: ys => by simp only [eqPL]; rw [eqP_sym x y, eqPL_sym xs ys]
end
theorem tri : ∀ {n : Nat} {p q : PV}, ltP n p q = some false → ltP n q p = some false → eqP p q = true := by
  have str : ∀ {x y : Str}, ¬ x.cps.toList < y.cps.toList → ¬ y.cps.toList < x.cps.toList → eqP (.str x) (.str y) = true := fun h h' => by
    have e := List.le_antisymm (List.not_lt.mp h') (List.not_lt.mp h)
    rw [str_cps e]
    simp [eqP]
  have int : ∀ {x y : Int}, ¬ x < y → ¬ y < x → eqP (.int x) (.int y) = true := fun h h' => by
    have e : _ = _ := Int.le_antisymm (Int.not_lt.mp h') (Int.not_lt.mp h)
    rw [e]
    simp [eqP]
  intro n
  induction n with
  | zero =>
    intro p q h h'
    cases p with
    | str x => cases q with
      | str y => exact str (of_decide_eq_false (Option.some.inj h)) (of_decide_eq_false (Option.some.inj h'))
      | _ => cases h
    | int x => cases q with
      | int y => exact int (of_decide_eq_false (Option.some.inj h)) (of_decide_eq_false (Option.some.inj h'))
      | _ => cases h
    | _ => cases q <;> cases h
  | succ n ih =>
    intro p q h h'
    cases p with
    | str x => cases q with
      | str y => exact str (of_decide_eq_false (Option.some.inj h)) (of_decide_eq_false (Option.some.inj h'))
      | _ => cases h
    | int x => cases q with
      | int y => exact int (of_decide_eq_false (Option.some.inj h)) (of_decide_eq_false (Option.some.inj h'))
      | _ => cases h
    | tup xs => cases q with
      | tup ys => rw [eqP_tup]; exact tri_lex ih eqP_sym h h'
      | _ => cases h
    | _ => cases q <;> cases h
noncomputable def cmpAll (n : Nat) (ps : List PV) : Bool := ps.all fun p => plP n p && ps.all fun q => (ltP n p q).isSome
noncomputable abbrev codO : KeyOrd := listO intO
noncomputable def leC (n : Nat) (a b : PV) : Bool := !ltC (code n b) (code n a)
noncomputable def sortT (n : Nat) (ps : List PV) : List PV := ps.mergeSort (leC n)
theorem leC_trans {n : Nat} (a b c : PV) (h1 : leC n a b = true) (h2 : leC n b c = true) : leC n a c = true := by
  unfold leC at *
  rw [Bool.not_eq_true'] at *
  exact KeyOrd.kle_trans (O := codO) h1 h2
theorem leC_total {n : Nat} (a b : PV) : (leC n a b || leC n b a) = true := by
  unfold leC
  rcases ko_cases (A := codO) (code n a) (code n b) with ⟨x, y⟩ | ⟨x, y⟩ | x
  · rw [show ltC (code n b) (code n a) = false from y]; rfl
  · rw [show ltC (code n a) (code n b) = false from y]; simp
  · rw [x, show ltC (code n b) (code n b) = false from codO.irrefl _]; rfl
theorem sortT_perm (n : Nat) (ps : List PV) : (sortT n ps).Perm ps := List.mergeSort_perm ps (leC n)
theorem sortT_sorted (n : Nat) (ps : List PV) : (sortT n ps).Pairwise fun a b => leC n a b = true := List.pairwise_mergeSort leC_trans leC_total ps
theorem sorted_oneP {n : Nat} : ∀ {a b : List PV}, a.Pairwise (fun x y => leC n x y = true) → b.Pairwise (fun x y => leC n x y = true) → a.Perm b → (∀ x ∈ a, ∀ y ∈ a, leC n x y = true → leC n y x = true → x = y) → a = b
  | [], b, _, _, p, _ => List.Perm.nil_eq p
  | x :: a, [], _, _, p, _ => absurd p.symm.nil_eq (by simp)
  | x :: a, y :: b, ha, hb, p, an => by
    have hx := (List.pairwise_cons.mp ha).1
    have hy := (List.pairwise_cons.mp hb).1
    have e : x = y := by
      rcases List.mem_cons.mp (p.mem_iff.mp List.mem_cons_self) with z | z
      · exact z
      · rcases List.mem_cons.mp (p.mem_iff.mpr List.mem_cons_self) with w | w
        · exact w.symm
        · exact an x List.mem_cons_self y (List.mem_cons_of_mem _ w) (hx y w) (hy x z)
    subst e
    rw [sorted_oneP (List.pairwise_cons.mp ha).2 (List.pairwise_cons.mp hb).2 p.cons_inv fun u hu v hv => an u (List.mem_cons_of_mem _ hu) v (List.mem_cons_of_mem _ hv)]
theorem cmp_blt {n : Nat} {ps : List PV} (h : cmpAll n ps = true) {p q : PV} (hp : p ∈ ps) (hq : q ∈ ps) : ltP n p q = some (ltC (code n p) (code n q)) := by
  have a := List.all_eq_true.mp h p hp
  have b := List.all_eq_true.mp h q hq
  rw [Bool.and_eq_true] at a b
  have c := List.all_eq_true.mp a.2 q hq
  obtain ⟨v, e⟩ := Option.isSome_iff_exists.mp c
  have c' := List.all_eq_true.mp b.2 p hp
  obtain ⟨v', e'⟩ := Option.isSome_iff_exists.mp c'
  have k := code_lt [] [] a.1 b.1 e
  rw [List.append_nil, List.append_nil] at k
  rw [e, k]
  cases z : eqP p q with
  | false => rw [if_neg Bool.false_ne_true]
  | true =>
    rw [if_pos rfl]
    have epq := eqP_eq a.1 b.1 z
    subst epq
    rw [e] at e'
    cases e'
    show some v = some false
    have irr : ∀ {m : Nat} {p : PV} {v : Bool}, plP m p = true → ltP m p p = some v → v = false := by
      intro m p v hp h
      cases v with
      | false => rfl
      | true =>
        exfalso
        cases m with
        | zero =>
          cases p with
          | str x => exact absurd (of_decide_eq_true (Option.some.inj h)) (List.lt_irrefl _)
          | int x => exact absurd (of_decide_eq_true (Option.some.inj h)) (by omega)
          | _ => cases h
        | succ m =>
          cases p with
          | str x => exact absurd (of_decide_eq_true (Option.some.inj h)) (List.lt_irrefl _)
          | int x => exact absurd (of_decide_eq_true (Option.some.inj h)) (by omega)
          | tup xs =>
            have key : ∀ {l : List PV}, l.all (plP m) = true → lexP (ltP m) l l = some false := by
              intro l
              induction l with
              | nil => intro _; rfl
              | cons x l ih =>
                intro hl
                rw [List.all_cons, Bool.and_eq_true] at hl
                unfold lexP
                rw [if_pos (eqP_refl hl.1)]
                exact ih hl.2
            have := key (show xs.all (plP m) = true from hp)
            rw [show lexP (ltP m) xs xs = some true from h] at this
            cases this
          | _ => cases h
    rw [irr a.1 e]
theorem cmp_anti {n : Nat} {ps : List PV} (h : cmpAll n ps = true) {p q : PV} (hp : p ∈ ps) (hq : q ∈ ps) (h1 : leC n p q = true) (h2 : leC n q p = true) : p = q := by
  have a := List.all_eq_true.mp h p hp
  have b := List.all_eq_true.mp h q hq
  rw [Bool.and_eq_true] at a b
  unfold leC at h1 h2
  rw [Bool.not_eq_true'] at h1 h2
  refine eqP_eq a.1 b.1 (tri (n := n) ?_ ?_)
  · rw [cmp_blt h hp hq, h2]
  · rw [cmp_blt h hq hp, h1]
section
variable {X : Cx} {k : Nat}
noncomputable def rSortP (K : PySem.W.Frag) : List V → Hp → VK → Prop := fun xs H Q => ∃ p ys ps b, xs = [.ref p] ∧ SqL K H p ys ∧ RepL K noA H ps ys ∧ ys.length < 64 ∧ (∀ x ∈ ps, ledP b x = true) ∧ cmpAll 3 ps = true ∧
  ∀ l (ix : List Nat), ix.Perm (List.range ps.length) → (ix.map fun i => ps.getD i .non).Pairwise (fun a b => leC 3 a b = true) → H l = none → Q (.ref l) (upd H l (.lst (ix.map fun i => ys.getD i .non)))
theorem firsts_of {s : Shared} {b : Bool} : ∀ {ps : List PV} {vs : List Value}, LiesL s.heap ps vs → (∀ x ∈ ps, ledP b x = true) → ∃ fs, KatTups s.heap vs fs ∧ fs.length = vs.length ∧ ∀ v ∈ fs, (∃ x t, b = true ∧ v = .str x t) ∨ ∃ x t, b = false ∧ v = .int x t
  | [], _, .nil, _ => ⟨[], .nil, rfl, fun _ h => nomatch h⟩
  | p :: ps, _, .cons l r, h => by
    obtain ⟨fs, h1, h2, h3⟩ := firsts_of r fun z hz => h z (List.mem_cons_of_mem _ hz)
    have hp := h p List.mem_cons_self
    cases l with
    | tup t1 r1 =>
      obtain ⟨o, g1, g2, m, g3⟩ := t1
      cases r1 with
      | nil => cases hp
      | cons a1 a2 =>
        cases a1 with
        | str x t =>
          refine ⟨.str x t :: fs, .cons g1 g2 g3 (by simp) h1, by rw [List.length_cons, List.length_cons, h2], fun v hv => ?_⟩
          rcases List.mem_cons.mp hv with e | e
          · exact .inl ⟨x, t, hp, e⟩
          · exact h3 v e
        | int x t =>
          refine ⟨.int x t :: fs, .cons g1 g2 g3 (by simp) h1, by rw [List.length_cons, List.length_cons, h2], fun v hv => ?_⟩
          rcases List.mem_cons.mp hv with e | e
          · exact .inr ⟨x, t, by simpa [ledP] using hp, e⟩
          · exact h3 v e
        | _ => cases hp
    | _ => cases hp
theorem sortPX (K : PySem.W.Frag) (hr : Room k X.A) (hK : X.K = K := by rfl) : CallR X (.builtin "sorted") (rSortP K) := by
  subst hK
  intro pins s σ H xs us Q I r ⟨p, ys, ps, b, e, hq, rp, h64, led, cmp, q⟩
  subst e
  obtain ⟨u, rfl, rx⟩ := vals1 r
  cases rx
  obtain ⟨vs, rv, pl, hz⟩ := I.list hq
  have hlen := rv.length
  have hpl := rp.length
  have ok : ∀ x ∈ ps, okP 3 x = true := fun x hx => by
    have := List.all_eq_true.mp cmp x hx
    rw [Bool.and_eq_true] at this
    exact plP_ok this.1
  refine sorted_ranG (R := fun p => Upto codO (fun i => code 3 (ps.getD i .non)) p vs.length) pl.isList (by omega) (fun l2 h' kp => ?_) (fun h2 i j a b => ?_) fun out p h1 h2 h3 => ?_
  · have I' := I.kept (t' := s.toks) kp
    have hL : LiesL h' ps vs := RepL.lies I' (n := 3) (List.all_eq_true.mpr ok) rp rv
    obtain ⟨fs, k1, k2, k3⟩ := firsts_of (s := { s with heap := h' }) hL led
    refine ⟨tuples' (Value.type (ledT b) != Value.type "tuple"), fun Q E q => kat_kind k1 (by omega) (fun v hv => ?_) (by cases b <;> decide) q, fun G hG => AlB.run (n := vs.length) (ans := anB codO (fun i => code 3 (ps.getD i .non))) (fun i j C hi hj hC => ?_) (fun p h1 h2 => hG p h1 h2) (al_sort (by omega)) (b_sort (by omega))⟩
    · rcases k3 v hv with ⟨x, t, rfl, rfl⟩ | ⟨x, t, rfl, rfl⟩
      · exact Looks.of_pure rfl
      · exact Looks.of_pure rfl
    · have e1 : ps[i]? = some ps[i] := List.getElem?_eq_getElem (by omega)
      have e2 : ps[j]? = some ps[j] := List.getElem?_eq_getElem (by omega)
      refine askP (s := { s with heap := h' }) (n := 2) hL (by have := hr.un; show X.A.units + 1 + 1 + 2 < _; omega) led ok e1 e2 (cmp_blt cmp (List.getElem_mem _) (List.getElem_mem _)) ?_
      have hC : C (codO.blt (code 3 (ps.getD i .non)) (code 3 (ps.getD j .non))) _ := hC
      rw [List.getD_eq_getElem?_getD, e1, List.getD_eq_getElem?_getD, e2] at hC
      exact hC
  · rw [show i = j by omega]; exact KeyOrd.kle_refl _
  · have hp : p.toList.Perm (List.range vs.length) := by simpa using Array.perm_iff_toList_perm.mp h1
    have hlt : ∀ i ∈ p.toList, i < vs.length := fun i hi => List.mem_range.mp (hp.mem_iff.mp hi)
    have z2 := vals_pickE rv p.toList hlt
    rw [← h3] at z2
    have hpz : p.toList.length = vs.length := by rw [hp.length_eq, List.length_range]
    obtain ⟨c, hat⟩ := sortedAll_at s.heap vs out
    refine ⟨.ref (s.heap.objs.size + 1), _, I.laid (t' := s.toks) (o := .lst (p.toList.map fun i => ys.getD i .non)) (fun b o e => sortedAll_old e) (Nat.le_succ _) ⟨by rw [List.length_map, hpz, ← hlen]; exact hz, out.toList, c, z2, hat⟩, rfl, q _ _ (by rw [hpl, hlen]; exact hp) ?_ (I.hok.fresh (Nat.le_succ _))⟩
    rw [List.pairwise_iff_getElem]
    intro i j hi hj hij
    rw [List.length_map] at hi hj
    have h := h2 i j (by omega) (by omega)
    rw [List.getElem_map, List.getElem_map]
    have ky : ∀ (i : Nat) (hi : i < p.toList.length), Ky codO (fun i => code 3 (ps.getD i .non)) p i = code 3 (ps.getD p.toList[i] .non) := fun i hi => by
      unfold Ky
      rw [Array.getD_eq_getD_getElem?, ← Array.getElem?_toList, List.getElem?_eq_getElem hi]
      rfl
    rw [ky i hi, ky j hj] at h
    show (!ltC _ _) = true
    rw [Bool.not_eq_true']
    exact h
end
section
variable {K : PySem.W.Frag}
noncomputable def gSortT : List PV → Option Bv
  | [.lst ps] => guardP (decide (ps.length < 64) && ((ps.all (ledP true) || ps.all (ledP false)) && cmpAll 3 ps)) (some (.new (.lst (sortT 3 ps))))
  | _ => none
theorem repl_pick {Z : ASet} {H : Hp} {ps : List PV} {ys : List V} (r : RepL K Z H ps ys) : ∀ {ix : List Nat}, (∀ i ∈ ix, i < ps.length) → RepL K Z H (ix.map fun i => ps.getD i .non) (ix.map fun i => ys.getD i .non)
  | [], _ => .nil
  | i :: ix, h => by
    have hi := h i List.mem_cons_self
    have e := List.getElem?_eq_getElem hi
    obtain ⟨v, ev, rv⟩ := r.get e
    refine .cons ?_ (repl_pick r fun j hj => h j (List.mem_cons_of_mem _ hj))
    dsimp only
    rw [List.getD_eq_getElem?_getD, List.getD_eq_getElem?_getD, e, ev]
    exact rv
theorem ok_sortT : CbOk K (rSortP K) gSortT := by
  intro Z H vs qs b Q hp h kk
  unfold gSortT at h
  split at h
  · rename_i ps
    obtain ⟨c, h⟩ := guardP_some h
    cases h
    rw [Bool.and_eq_true, Bool.and_eq_true] at c
    obtain ⟨c1, c2, c3⟩ := c
    obtain ⟨v, rfl, hv⟩ := hp.one
    obtain ⟨a, ys, rfl, ha, ra⟩ := hv.lsts
    have led : ∃ b, ∀ x ∈ ps, ledP b x = true := by
      rcases Bool.or_eq_true_iff.mp c2 with z | z
      · exact ⟨true, fun x hx => List.all_eq_true.mp z x hx⟩
      · exact ⟨false, fun x hx => List.all_eq_true.mp z x hx⟩
    obtain ⟨b, led⟩ := led
    refine ⟨a, ys, ps, b, rfl, ha.sq, ra.stay (.less fun _ z => z.elim), by rw [← ra.length]; exact of_decide_eq_true c1, led, c3, fun l ix h1 h2 hl => ?_⟩
    have hix : ∀ i ∈ ix, i < ps.length := fun i hi => List.mem_range.mp (h1.mem_iff.mp hi)
    have pm : (ix.map fun i => ps.getD i .non).Perm ps := by
      have := h1.map fun i => ps.getD i PV.non
      have e : (List.range ps.length).map (fun i => ps.getD i PV.non) = ps := by
        apply List.ext_getElem
        · simp
        · intro i a1 a2
          simp [List.getElem?_eq_getElem a2]
      rw [e] at this
      exact this
    have es : sortT 3 ps = ix.map fun i => ps.getD i .non :=
      sorted_oneP (sortT_sorted 3 ps) h2 ((sortT_perm 3 ps).trans pm.symm) fun x hx y hy => cmp_anti c3 ((sortT_perm 3 ps).mem_iff.mp hx) ((sortT_perm 3 ps).mem_iff.mp hy)
    rw [es] at kk
    exact kk _ _ (Same.upd hl) (newL hl (repl_pick ra hix))
  · cases h
end
end Mr
set_option Elab.async false
set_option linter.all false
set_option maxRecDepth 100000
set_option maxHeartbeats 4000000
namespace Mr
open PySem PySem.Spec L2 PyProof.Rows
section
variable {K : PySem.W.Frag}
noncomputable def rSortX (K : PySem.W.Frag) : List V → Hp → VK → Prop := fun xs H Q => rSortS K xs H Q ∨ (rSortD xs H Q ∨ rSortP K xs H Q)
theorem sortX {X : Cx} {k : Nat} (K : PySem.W.Frag) (hr : Room k X.A) (hK : X.K = K := by rfl) (hc : X.calm = true := by rfl) : CallR X (.builtin "sorted") (rSortX K) := CallR.or (sortedStr K hK) (CallR.or (sortD hc) (sortPX K hr hK))
noncomputable def gSortX : List PV → Option Bv := fun p => (gSortS p).or ((gSortD p).or (gSortT p))
theorem ok_sortX : CbOk K (rSortX K) gSortX := CbOk.or ok_sortS (CbOk.or ok_sortD ok_sortT)
end
end Mr
namespace Mr
open PySem PySem.Spec L2 PyProof.Rows
section
variable {K : PySem.W.Frag}
noncomputable def mulC (i j : Int) : Bool := decide (Builtin.Int.intTooBig (Builtin.Int.intBits i + Builtin.Int.intBits j) = false)
noncomputable def gMulC : PV → PV → Option Bv := gI mulC fun i j => .int (i * j)
end
end Mr
namespace Mr
open PySem PySem.Spec L2 PyProof.Rows
section
variable {K : PySem.W.Frag}
noncomputable def inR (k : Int) : Bool := @decide (-1000000000 ≤ k ∧ k < 1000000000) (Classical.propDecidable _)
theorem inR_ok {k : Int} (h0 : -1000000000 ≤ k) (h1 : k < 1000000000) : inR k = true := @decide_eq_true _ (Classical.propDecidable _) ⟨h0, h1⟩
noncomputable def fRg1 (fa : FA) : FI := fun _ e => bE (fa e) fun bs e1 => match bs with
  | [.val (.int j)] => guardP (inR j) (some ((List.range j.toNat).map (fun k : Nat => .int (0 + (k : Int))), e1))
  | _ => none
theorem ref_rg1 {ta : TA} {fa : FA} (h : RefA K ta fa) : RefI K (iRng1 ta) (fRg1 fa) := by
  intro st O M W L σ H e e' ps R o he hf q
  obtain ⟨x, e1, f1, hf⟩ := bE_some hf
  refine h O M W L σ H e e1 x _ o he f1 fun vs H1 k1 en rv => ?_
  split at hf
  · rename_i j
    obtain ⟨c, hf⟩ := guardP_some hf
    have c := @of_decide_eq_true _ (Classical.propDecidable _) c
    cases hf
    cases rv with
    | cons h r =>
      cases r
      cases h
      exact ⟨j, rfl, by omega, by omega, q _ H1 k1 en fun Wr hw _ => it_rng⟩
  · cases hf
noncomputable def fRg2 (fa : FA) : FI := fun _ e => bE (fa e) fun bs e1 => match bs with
  | [.val (.int i), .val (.int j)] => guardP (inR i && inR j) (some ((List.range (j - i).toNat).map (fun k : Nat => .int (i + (k : Int))), e1))
  | _ => none
theorem e_fRg1 {fa : FA} {st : Nat → Bool} {e : En} : fRg1 fa st e = bE (fa e) fun bs e1 => match bs with
  | [.val (.int j)] => guardP (inR j) (some ((List.range j.toNat).map (fun k : Nat => .int (0 + (k : Int))), e1))
  | _ => none := rfl
theorem e_fRg2 {fa : FA} {st : Nat → Bool} {e : En} : fRg2 fa st e = bE (fa e) fun bs e1 => match bs with
  | [.val (.int i), .val (.int j)] => guardP (inR i && inR j) (some ((List.range (j - i).toNat).map (fun k : Nat => .int (i + (k : Int))), e1))
  | _ => none := rfl
end
end Mr
set_option Elab.async false
set_option linter.all false
set_option maxRecDepth 100000
set_option maxHeartbeats 4000000
namespace Mr
open PySem L2
section
variable {K : PySem.W.Frag}
noncomputable def fCallT (f : FN) (fa : FE) (i : Nat) : FE := fun e => bE (fa e) fun x e1 => match x with
  | .new p => bO (rd e1 i) fun q => match q with
    | .int k => bO (f [p, .int k]) fun rq => some (.val rq.1, e1)
    | _ => none
  | _ => none
theorem e_fCallT {f : FN} {fa : FE} {i : Nat} {e : En} : fCallT f fa i e = bE (fa e) fun x e1 => match x with
  | .new p => bO (rd e1 i) fun q => match q with
    | .int k => bO (f [p, .int k]) fun rq => some (.val rq.1, e1)
    | _ => none
  | _ => none := rfl
end
end Mr
namespace Mr
open PySem L2
theorem bO_none {α β : Type} {k : α → Option β} : bO (none : Option α) k = none := rfl
theorem bE_none {α β : Type} {k : α → En → Option β} : bE (none : Option (α × En)) k = none := rfl
end Mr
set_option Elab.async false
set_option linter.all false
set_option maxRecDepth 100000
set_option maxHeartbeats 4000000
namespace L2
open PySem PySem.Spec PyProof.Rows PySem.W
section
variable {prog : Program} {w : World} {A : Around} {E : Value → Shared → Prop} {s : Shared}
theorem Grew.trans {s s1 s2 : Shared} (a : Grew s s1) (b : Grew s1 s2) : Grew s s2 := by
  obtain ⟨h1, t1, d1, rfl, z1, k1⟩ := a
  obtain ⟨h2, t2, d2, rfl, z2, k2⟩ := b
  exact ⟨h2, t2, d2, rfl, Nat.le_trans z1 z2, fun x o e => k2 x o (k1 x o e)⟩
end
section
variable {X : Cx}
end
end L2
namespace Mr
open PySem PySem.Spec L2 PyProof.Rows PySem.W
noncomputable def keyP : Key → PV
  | .inl i => .int i
  | .inr x => .str x
noncomputable def pairsP (kvs : List (Key × PV)) : List PV := kvs.map fun z => .tup [keyP z.1, z.2]
section
variable {X : Cx} {k : Nat}
end
section
variable {K : PySem.W.Frag}
noncomputable def fSortI (fa : FE) : FE := fun e => bE (fa e) fun x e1 => bO (x.weak.get e1) fun p => match p with
  | .dct kvs => guardP (decide (kvs.length < 64) && (((pairsP kvs).all (ledP true) || (pairsP kvs).all (ledP false)) && cmpAll 3 (pairsP kvs))) (some (.new (.lst (sortT 3 (pairsP kvs))), e1))
  | _ => none
theorem e_fSortI {fa : FE} {e : En} : fSortI fa e = bE (fa e) fun x e1 => bO (x.weak.get e1) fun p => match p with
  | .dct kvs => guardP (decide (kvs.length < 64) && (((pairsP kvs).all (ledP true) || (pairsP kvs).all (ledP false)) && cmpAll 3 (pairsP kvs))) (some (.new (.lst (sortT 3 (pairsP kvs))), e1))
  | _ => none := rfl
noncomputable def fSortSetW (fa : FE) : FE := fun e => bE (fa e) fun x e1 => bO (x.weak.get e1) fun p => match p with
  | .lst ps => bO (strsP ps) fun ss => guardP (decide (ss.length < 4000) && decide ((firsts ss).length < 64)) (some (.new (.lst ((sortP (firsts ss)).map PV.str)), e1))
  | _ => none
theorem e_fSortSetW {fa : FE} {e : En} : fSortSetW fa e = bE (fa e) fun x e1 => bO (x.weak.get e1) fun p => match p with
  | .lst ps => bO (strsP ps) fun ss => guardP (decide (ss.length < 4000) && decide ((firsts ss).length < 64)) (some (.new (.lst ((sortP (firsts ss)).map PV.str)), e1))
  | _ => none := rfl
end
end Mr
set_option Elab.async false
set_option linter.all false
set_option maxRecDepth 100000
set_option maxHeartbeats 4000000
namespace L2
open PySem PySem.Spec PyProof.Rows PySem.W
section
variable {X : Cx}
end
end L2
namespace Mr
open PySem L2
section
variable {K : PySem.W.Frag}
noncomputable def gLenD : List PV → Option Bv
  | [.dct kvs] => some (.val (.int kvs.length))
  | _ => none
noncomputable def gLenY : List PV → Option Bv := fun p => (gLen p).or (gLenD p)
end
end Mr
set_option Elab.async false
set_option linter.all false
set_option maxRecDepth 100000
set_option maxHeartbeats 4000000
namespace L2
open PySem PySem.Spec PyProof.Rows PySem.W
section
variable {prog : Program} {w : World} {A : Around} {R : Result → Shared → Prop} {I : Addr} {fp wr : List Addr} {n : Nat} {Pz : Nat → Value → Prop} {Sz : Nat → Heap → Prop}
end
end L2
namespace Mr
open PySem PySem.Spec L2 PyProof.Rows PySem.W
noncomputable def btP (ps : List PV) (i j : Nat) : Bool := ltC (code 3 (ps.getD i .non)) (code 3 (ps.getD j .non))
noncomputable def minP (ps : List PV) : PV := ps.getD (argBest (btP ps) (ps.length - 1)) .non
section
variable {X : Cx} {k : Nat}
end
section
variable {K : PySem.W.Frag}
noncomputable def gMin1 : List PV → Option Bv
  | [.lst ps] => guardP (decide (0 < ps.length) && cmpAll 3 ps) (some (.val (minP ps)))
  | _ => none
end
end Mr
namespace Mr
open PySem L2
section
variable {K : PySem.W.Frag}
noncomputable def sExt (i : Nat) (f : FE) : FS := fun e => bO (ownAt e i) fun p0 => match p0 with
  | .lst _ => bE (f e) fun b e1 => match b with
    | .new (.lst qs) => match ownAt e1 i with
      | some (.lst ps) => guardP (decide (ps.length + qs.length < 1000000)) (some (.nx (setOwn e1 i (.lst (ps ++ qs)))))
      | _ => none
    | _ => none
  | _ => none
theorem e_sExt {i : Nat} {f : FE} {e : En} : sExt i f e = bO (ownAt e i) fun p0 => match p0 with
  | .lst _ => bE (f e) fun b e1 => match b with
    | .new (.lst qs) => match ownAt e1 i with
      | some (.lst ps) => guardP (decide (ps.length + qs.length < 1000000)) (some (.nx (setOwn e1 i (.lst (ps ++ qs)))))
      | _ => none
    | _ => none
  | _ => none := rfl
end
end Mr
set_option Elab.async false
set_option linter.all false
set_option maxRecDepth 100000
set_option maxHeartbeats 4000000
namespace L2
open PySem
section
variable {X : Cx} {pins : List (Addr × Obj)} {σ : St} {H : Hp} {s : Shared} {a : Addr} {y d : V} {u r : Value} {A : Around} {E : Value → Shared → Prop}
end
section
variable {X : Cx} {o e f : Expr} {apos cpos : Pos} {td ty tx : TE}
end
end L2
set_option Elab.async false
set_option linter.all false
set_option maxRecDepth 100000
set_option maxHeartbeats 4000000
namespace Mr
open PySem L2
noncomputable abbrev DD := List (Key × List PV)
noncomputable abbrev Tr := List (Key × Addr × List PV)
noncomputable def ofT (t : Tr) : DD := t.map fun z => (z.1, z.2.2)
noncomputable def BX (a : Addr) (t : Tr) : ASet := fun b => b = a ∨ b ∈ t.map (·.2.1)
noncomputable def wB (W : WS) (B : ASet) : WS := ⟨W.w, fun c => W.old c ∧ ¬ B c⟩
structure Sec (K : PySem.W.Frag) (Z : ASet) (H : Hp) (a : Addr) (t : Tr) : Prop where
  dic : IsDK H a (t.map fun z => (z.1, V.ref z.2.1))
  lst : ∀ z ∈ t, ∃ xs, H z.2.1 = some (.lst xs) ∧ RepL K Z H z.2.2 xs
  nd : (a :: t.map (·.2.1)).Nodup
  kd : (t.map (·.1)).Nodup
noncomputable def Bok (O L : ASet) (H : Hp) (B : ASet) : Prop := ∀ b, B b → H b ≠ none ∧ ¬ O b ∧ ¬ L b
theorem Bok.okc {O M L B : ASet} {W : WS} {H : Hp} (o : Okc O M W L H) (b : Bok O L H B) : Okc (uni O B) (uni M B) (wB W B) L H :=
  ⟨fun a h => h.elim (o.old a) fun h => (b a h).1, fun a h => h.elim (fun h => .inl (o.mo a h)) .inr, fun i a h => .inl (o.wm i a h), fun a h => ⟨(o.loc a h).1, fun z => z.elim (o.loc a h).2 fun z => (b a z).2.2 h⟩⟩
structure GrowX (W : WS) (L L' B B' : ASet) (H H' : Hp) : Prop where
  obj : ∀ a o, H a = some o → ¬ aw W a → ¬ L a → ¬ B a → H' a = some o
  tup : ∀ a xs, H a = some (.tup xs) → H' a = some (.tup xs)
  dom : ∀ a, H a ≠ none → H' a ≠ none
  new : ∀ a, L' a → L a ∨ H a = none
  newB : ∀ a, B' a → B a ∨ H a = none
theorem none_of {H H1 : Hp} (d : ∀ a, H a ≠ none → H1 a ≠ none) {a : Addr} (h : H1 a = none) : H a = none := by
  cases e : H a with
  | none => rfl
  | some o => exact absurd h (d a (by rw [e]; exact fun z => nomatch z))
theorem GrowX.keep {W : WS} {L B : ASet} {H H' : Hp} (k : Keep W L H H') : GrowX W L L B B H H' := ⟨fun a o h n m _ => k.obj a o h n m, k.tup, k.dom, fun _ h => .inl h, fun _ h => .inl h⟩
theorem GrowX.refl {W : WS} {L B : ASet} {H : Hp} : GrowX W L L B B H H := .keep .refl
theorem GrowX.trans {W : WS} {L L1 L2 B B1 B2 : ASet} {H H1 H2 : Hp} (a : GrowX W L L1 B B1 H H1) (b : GrowX W L1 L2 B1 B2 H1 H2) : GrowX W L L2 B B2 H H2 :=
  ⟨fun c o h n m l => b.obj c o (a.obj c o h n m l) n (fun z => (a.new c z).elim m fun z => (by rw [h] at z; cases z)) fun z => (a.newB c z).elim l fun z => (by rw [h] at z; cases z),
   fun c xs h => b.tup c xs (a.tup c xs h), fun c h => b.dom c (a.dom c h), fun c h => (b.new c h).elim (a.new c) fun z => .inr (none_of a.dom z), fun c h => (b.newB c h).elim (a.newB c) fun z => .inr (none_of a.dom z)⟩
inductive OutX where
  | nx (e : En) (d : DD) | ct (e : En) (d : DD)
noncomputable abbrev FX := En → DD → Option OutX
structure Now (K : PySem.W.Frag) (O M : ASet) (W : WS) (x : Nat) (a : Addr) (L : ASet) (σ : St) (H : Hp) (e : En) (t : Tr) : Prop where
  ok : Okc O M W L H
  bok : Bok O L H (BX a t)
  en : EnRep K (uni (uni M (BX a t)) L) (wB W (BX a t)) L H σ e
  at' : σ[x]? = some (some (.ref a))
  sec : Sec K (uni (uni M (BX a t)) L) H a t
noncomputable def PostX (K : PySem.W.Frag) (O M : ASet) (W : WS) (x : Nat) (a : Addr) (L : ASet) (H : Hp) (t : Tr) (D : Ends) : OutX → Prop
  | .nx e' d' => ∀ L' σ' H' t', GrowX W L L' (BX a t) (BX a t') H H' → Now K O M W x a L' σ' H' e' t' → ofT t' = d' → D.nx σ' H'
  | .ct e' d' => ∀ L' σ' H' t', GrowX W L L' (BX a t) (BX a t') H H' → Now K O M W x a L' σ' H' e' t' → ofT t' = d' → D.ct σ' H'
theorem PostX.later {K : PySem.W.Frag} {O M L L1 : ASet} {W : WS} {x : Nat} {a : Addr} {H H1 : Hp} {t t1 : Tr} {D : Ends} {r : OutX} (g : GrowX W L L1 (BX a t) (BX a t1) H H1) (h : PostX K O M W x a L H t D r) : PostX K O M W x a L1 H1 t1 D r := by
  cases r with
  | nx e d => exact fun L' σ' H' t' g' => h L' σ' H' t' (g.trans g')
  | ct e d => exact fun L' σ' H' t' g' => h L' σ' H' t' (g.trans g')
section
variable {K : PySem.W.Frag} {x : Nat}
theorem Sec.keep {O M L : ASet} {W : WS} {a : Addr} {t : Tr} {H H' : Hp} (o : Okc O M W L H) (b : Bok O L H (BX a t)) (k : Keep (wB W (BX a t)) L H H') (s : Sec K (uni (uni M (BX a t)) L) H a t) : Sec K (uni (uni M (BX a t)) L) H' a t := by
  have st := k.stay (b.okc o)
  have nb : ∀ c ob, BX a t c → H c = some ob → H' c = some ob := fun c ob hc h => k.obj c ob h (fun ⟨i, w⟩ => (b c hc).2.1 (o.mo _ (o.wm i c w))) (b c hc).2.2
  exact ⟨let ⟨ep, e⟩ := s.dic; ⟨ep, nb a _ (.inl rfl) e⟩, fun z hz => let ⟨xs, h1, h2⟩ := s.lst z hz; ⟨xs, nb _ _ (.inr (List.mem_map.mpr ⟨z, hz, rfl⟩)) h1, h2.stay st⟩, s.nd, s.kd⟩
theorem Now.keep {O M L : ASet} {W : WS} {a : Addr} {t : Tr} {σ : St} {H H' : Hp} {e e' : En} (n : Now K O M W x a L σ H e t) (k : Keep (wB W (BX a t)) L H H') (en : EnRep K (uni (uni M (BX a t)) L) (wB W (BX a t)) L H' σ e') : Now K O M W x a L σ H' e' t :=
  ⟨n.ok.keep k.dom, fun b h => ⟨k.dom b (n.bok b h).1, (n.bok b h).2⟩, en, n.at', n.sec.keep n.ok n.bok k⟩
theorem kw {W : WS} {B L : ASet} {H H' : Hp} (k : Keep (wB W B) L H H') : Keep W L H H' := ⟨k.obj, k.tup, k.dom⟩
noncomputable def xNext : FX := fun e d => some (.nx e d)
noncomputable def xCont : FX := fun e d => some (.ct e d)
noncomputable def xSeq (f g : FX) : FX := fun e d => match f e d with
  | some (.nx e1 d1) => g e1 d1
  | r => r
noncomputable def xIf (fc : FT) (f g : FX) : FX := fun e d => bE (fc e) fun b e1 => bB b (f e1 d) (g e1 d)
noncomputable def xAsg (f : FE) (fg : FG) : FX := fun e d => bE (f e) fun b e1 => bO b.put fun p => bO (fg p e1) fun e2 => some (.nx e2 d)
noncomputable abbrev FIT := En → Option (List PV × En)
noncomputable def xIt (f : FE) : FIT := fun e => bE (f e) fun b e1 => match b with
  | .val (.tup ps) => some (ps, e1)
  | _ => none
noncomputable def xEnm (fa : FA) : FIT := fun e => bE (fa e) fun bs e1 => match bs with
  | [.val (.tup ps)] => some (ps.zipIdx.map fun z => .tup [.int (z.2 : Int), z.1], e1)
  | _ => none
noncomputable def loopX (body : PV → En → DD → Option OutX) : List PV → En → DD → Option OutX
  | [], e, d => some (.nx e d)
  | p :: ps, e, d => match body p e d with
    | some (.nx e1 d1) => loopX body ps e1 d1
    | some (.ct e1 d1) => loopX body ps e1 d1
    | none => none
noncomputable def xFor (fi : FIT) (fg : FG) (fb : FX) : FX := fun e d => bE (fi e) fun ps e1 => loopX (fun x e d => bO (fg x e) fun e2 => fb e2 d) ps e1 d
theorem GrowX.stay {O M L L' : ASet} {W : WS} {a : Addr} {t t' : Tr} {H H' : Hp} (o : Okc O M W L H) (g : GrowX W L L' (BX a t) (BX a t') H H') : Stay (uni (uni M (BX a t)) L) (uni (uni M (BX a t')) L') H H' :=
  ⟨g.tup, fun c ob h n => ⟨g.obj c ob h (fun ⟨i, w⟩ => n (.inl (.inl (o.wm i c w)))) (fun z => n (.inr z)) fun z => n (.inl (.inr z)), fun z => by
    rcases z with (z | z) | z
    · exact n (.inl (.inl z))
    · exact (g.newB c z).elim (fun z => n (.inl (.inr z))) fun z => by rw [h] at z; cases z
    · exact (g.new c z).elim (fun z => n (.inr z)) fun z => by rw [h] at z; cases z⟩⟩
end
end Mr
set_option Elab.async false
set_option linter.all false
set_option maxRecDepth 100000
set_option maxHeartbeats 4000000
namespace Mr
open PySem L2
noncomputable def appP (d : DD) (k : Key) (p : PV) : DD := if (d.any fun kp => decide (kp.1 = k)) = true then d.map (fun kp => if kp.1 = k then (kp.1, kp.2 ++ [p]) else kp) else d ++ [(k, [p])]
section
variable {K : PySem.W.Frag} {x : Nat}
noncomputable def xSDA (fk fv : FE) : FX := fun e d => bE (fk e) fun kb e1 => bO (kb.weak.get e1) fun kp => bO (keyOf kp) fun k => bE (fv e1) fun b e2 => bO b.put fun p =>
  guardP (decide (d.length < 1000000) && d.all fun kp => decide (kp.2.length < 1000000)) (some (.nx e2 (appP d k p)))
noncomputable def sX (x : Nat) (f : FX) : FS := fun e => guardP (decide (x < e.length)) (match f (e.set x none) [] with
  | some (.nx e' d) => some (.rt (.new (.dct (d.map fun kp => (kp.1, .lst kp.2)))) e')
  | _ => none)
end
end Mr
set_option Elab.async false
set_option linter.all false
set_option maxRecDepth 100000
set_option maxHeartbeats 4000000
namespace Mr
open PySem L2
section
variable {K : PySem.W.Frag}
noncomputable def gGet2 : PV → PV → PV → Option Bv
  | .dct kvs, p, z => bO (keyOf p) fun k => some (.val ((valP kvs k).getD z))
  | _, _, _ => none
noncomputable def fGet2 (fa fb fc : FE) : FE := fun e => bE (fa e) fun x e1 => bO (x.weak.get e1) fun p1 => match p1 with
  | .dct _ => bE (fb e1) fun y e2 => bE (fc e2) fun z e3 => bO z.put fun pz => bO (x.weak.get e3) fun p => bO (y.weak.get e3) fun q => bO (gGet2 p q pz) fun b => some (b, e3)
  | _ => none
theorem e_fGet2 {fa fb fc : FE} {e : En} : fGet2 fa fb fc e = bE (fa e) fun x e1 => bO (x.weak.get e1) fun p1 => match p1 with
  | .dct _ => bE (fb e1) fun y e2 => bE (fc e2) fun z e3 => bO z.put fun pz => bO (x.weak.get e3) fun p => bO (y.weak.get e3) fun q => bO (gGet2 p q pz) fun b => some (b, e3)
  | _ => none := rfl
theorem wp_xseq {f g : FX} {e : En} {d : DD} {Q : OutX → Prop} : Wp (xSeq f g e d) Q ↔ Wp (f e d) fun o => match o with | .nx e1 d1 => Wp (g e1 d1) Q | o => Q o := by
  unfold xSeq
  cases f e d with
  | none => simp [wp_none]
  | some o =>
    rw [wp_some]
    cases o <;> simp [wp_some]
theorem wp_xfor {fi : FIT} {fg : FG} {fb : FX} {e : En} {d : DD} {Q : OutX → Prop} : Wp (xFor fi fg fb e d) Q ↔ Wp (fi e) fun z => Wp (loopX (fun x e d => bO (fg x e) fun e2 => fb e2 d) z.1 z.2 d) Q := by
  unfold xFor
  rw [wp_bE]
theorem wp_sX {x : Nat} {f : FX} {e : En} {Q : Out → Prop} : Wp (sX x f e) Q ↔ x < e.length ∧ Wp (f (e.set x none) []) fun o => match o with | .nx e' d => Q (.rt (.new (.dct (d.map fun kp => (kp.1, .lst kp.2)))) e') | .ct _ _ => False := by
  unfold sX
  rw [wp_guard, decide_eq_true_eq]
  refine and_congr_right fun _ => ?_
  cases f (e.set x none) [] with
  | none => simp [wp_none]
  | some o =>
    rw [wp_some]
    cases o <;> simp [wp_some, wp_none]
theorem e_xNext {e : En} {d : DD} : xNext e d = some (.nx e d) := rfl
theorem e_xCont {e : En} {d : DD} : xCont e d = some (.ct e d) := rfl
theorem e_xIf {fc : FT} {f g : FX} {e : En} {d : DD} : xIf fc f g e d = bE (fc e) fun b e1 => bB b (f e1 d) (g e1 d) := rfl
theorem e_xAsg {f : FE} {fg : FG} {e : En} {d : DD} : xAsg f fg e d = bE (f e) fun b e1 => bO b.put fun p => bO (fg p e1) fun e2 => some (.nx e2 d) := rfl
theorem e_xIt {f : FE} {e : En} : xIt f e = bE (f e) fun b e1 => match b with
  | .val (.tup ps) => some (ps, e1)
  | _ => none := rfl
theorem e_xEnm {fa : FA} {e : En} : xEnm fa e = bE (fa e) fun bs e1 => match bs with
  | [.val (.tup ps)] => some (ps.zipIdx.map fun z => .tup [.int (z.2 : Int), z.1], e1)
  | _ => none := rfl
theorem e_xSDA {fk fv : FE} {e : En} {d : DD} : xSDA fk fv e d = bE (fk e) fun kb e1 => bO (kb.weak.get e1) fun kp => bO (keyOf kp) fun k => bE (fv e1) fun b e2 => bO b.put fun p =>
  guardP (decide (d.length < 1000000) && d.all fun kp => decide (kp.2.length < 1000000)) (some (.nx e2 (appP d k p))) := rfl
end
end Mr
set_option Elab.async false
set_option linter.all false
set_option maxRecDepth 100000
set_option maxHeartbeats 4000000
namespace L2
open PySem
section
variable {prog : Program} {w : World} {A : Around} {R : Result → Shared → Prop} {s : Shared}
end
section
variable {X : Cx} {kx vx tg iter : Expr} {ifs : List Expr} {scope : Scope} {pos : Pos} {wi : TI} {g : TG} {tt : TT} {tk te : TE} {N : List Str} {k : Nat} {cap : List Nat}
end
end L2
set_option Elab.async false
set_option linter.all false
set_option maxRecDepth 100000
set_option maxHeartbeats 4000000
namespace Mr
open PySem L2
noncomputable def dcompM (fg : FG) (ft : FT) (fk fe : FE) : List PV → En → List (Key × PV) → Option (List (Key × PV) × En)
  | [], e, d => some (d, e)
  | x :: xs, e, d => bO (fg x e) fun e1 => bE (ft e1) fun b e2 => match b with
    | false => dcompM fg ft fk fe xs e2 d
    | true => bE (fk e2) fun kb e3 => bE (fe e3) fun r e4 => bO (kb.weak.get e4) fun kp => bO (keyOf kp) fun k => bO r.put fun p => dcompM fg ft fk fe xs e4 (putP d k p)
noncomputable def fDComp (fi : FI) (k : Nat) (cap : List Nat) (ms : List (Nat × Nat)) (fg : FG) (ft : FT) (fk fe : FE) : FE := fun e =>
  bE (fi (fun i => !(ms.any fun z => z.1 == i)) e) fun items e1 => guardP (decide (items.length < 1000000)) (bE (dcompM fg ft fk fe items (innE k cap ms e1) []) fun ys ei => bO (backE ei ms e1) fun e2 => some (.new (.dct ys), e2))
section
variable {K : PySem.W.Frag}
end
end Mr
set_option Elab.async false
set_option linter.all false
set_option maxRecDepth 100000
set_option maxHeartbeats 4000000
namespace L2
open PySem
section
variable {X : Cx} {kx vx tg iter : Expr} {ifs : List Expr} {scope : Scope} {pos : Pos} {wi : TI} {g : TG} {tt : TT} {tk te : TE} {N : List Str} {k : Nat} {cap : List Nat}
end
end L2
namespace Mr
open PySem L2
theorem wp_fdcomp {fi : FI} {k : Nat} {cap : List Nat} {ms : List (Nat × Nat)} {fg : FG} {ft : FT} {fk fe : FE} {e : En} {Q : Bv × En → Prop} :
    Wp (fDComp fi k cap ms fg ft fk fe e) Q ↔ Wp (fi (fun i => !(ms.any fun z => z.1 == i)) e) fun z => z.1.length < 1000000 ∧ Wp (dcompM fg ft fk fe z.1 (innE k cap ms z.2) []) fun w => Wp (backE w.2 ms z.2) fun e2 => Q (.new (.dct w.1), e2) := by
  unfold fDComp
  constructor
  · intro h
    obtain ⟨z, h1, h⟩ := wp_bE.mp h
    obtain ⟨g, h⟩ := wp_guard.mp h
    obtain ⟨w, h2, h⟩ := wp_bE.mp h
    obtain ⟨e2, h3, h⟩ := wp_bO.mp h
    exact ⟨z, h1, of_decide_eq_true g, w, h2, e2, h3, wp_some.mp h⟩
  · rintro ⟨z, h1, g, w, h2, e2, h3, q⟩
    exact wp_bE.mpr ⟨z, h1, wp_guard.mpr ⟨decide_eq_true g, wp_bE.mpr ⟨w, h2, wp_bO.mpr ⟨e2, h3, wp_some.mpr q⟩⟩⟩⟩
end Mr
set_option Elab.async false
set_option linter.all false
set_option maxRecDepth 100000
set_option maxHeartbeats 4000000
namespace L2
open PySem PyProof.Rows
section
variable {X : Cx}
end
end L2
namespace Mr
open PySem L2
section
variable {K : PySem.W.Frag}
noncomputable def gIndexL : PV → List PV → Option Bv
  | .lst ps, [.str y] => bO (strsP ps) fun zs => guardP (decide (y ∈ zs) && decide (zs.length < 1000000)) (some (.val (.int (zs.idxOf y : Nat))))
  | _, _ => none
end
end Mr
set_option Elab.async false
set_option linter.all false
set_option maxRecDepth 100000
set_option maxHeartbeats 4000000
namespace L2
open PySem PySem.Spec PyProof.Rows
noncomputable def GtAt (A : Around) (s : Shared) (x y : Value) (c : Bool) : Prop :=
  ∀ (prog : Program) (w : World) (E : Value → Shared → Prop) (Q : Value → Shared → Prop), Q (.bool c) s → wpAny (model prog w) A (richCompare .Gt x y) Q E s
inductive LexG (A : Around) (s : Shared) (fin : Bool) : List (Value × Value) → Bool → Prop
  | done : LexG A s fin [] fin
  | same {p q : Value} {r : List (Value × Value)} {c : Bool} : SeqAt.EqAt A s p q true → LexG A s fin r c → LexG A s fin ((p, q) :: r) c
  | less {p q : Value} {r : List (Value × Value)} {c : Bool} : SeqAt.EqAt A s p q false → GtAt A s p q c → LexG A s fin ((p, q) :: r) c
section
open PySem.SeqAt
open PySem.AutoSeq1 (wpAny_loadPart')
open PySem.MeetsSeq PySem.MeetsSeq2 PySem.MeetsSeq3
end
end L2
namespace Mr
open PySem PySem.Spec L2
noncomputable def lexQ (gt : PV → PV → Option Bool) : List PV → List PV → Option Bool
  | [], [] => some false
  | [], _ :: _ => some false
  | _ :: _, [] => some true
  | x :: xs, y :: ys => if eqP x y = true then lexQ gt xs ys else gt x y
noncomputable def gtP : Nat → PV → PV → Option Bool
  | _, .str a, .str b => some (decide (b.cps.toList < a.cps.toList))
  | _, .int a, .int b => some (decide (b < a))
  | n + 1, .tup xs, .tup ys => lexQ (gtP n) xs ys
  | _, _, _ => none
section
variable {s : Shared}
end
section
variable {X : Cx} {k : Nat}
end
section
variable {K : PySem.W.Frag}
noncomputable def gGtT : PV → PV → Option Bv := fun p q => guardP (okP 3 p && okP 3 q) (bO (gtP 3 p q) fun b => some (.val (.bl b)))
noncomputable def gGtX : PV → PV → Option Bv := fun p q => (gGt p q).or (gGtT p q)
end
end Mr
set_option Elab.async false
set_option linter.all false
set_option maxRecDepth 100000
set_option maxHeartbeats 4000000
namespace L2
open PySem PySem.Spec PyProof.Rows
section
variable {X : Cx} {pos : Pos}
end
end L2
namespace Mr
open PySem L2
section
variable {K : PySem.W.Frag}
noncomputable def tgAny (n : Nat) (f : FGs) : FG := fun p e => match p with
  | .tup ps => guardP (decide (ps.length = n)) (f ps e)
  | .lst ps => guardP (decide (ps.length = n)) (f ps e)
  | _ => none
theorem e_tgAny {n : Nat} {f : FGs} {p : PV} {e : En} : tgAny n f p e = match p with
  | .tup ps => guardP (decide (ps.length = n)) (f ps e)
  | .lst ps => guardP (decide (ps.length = n)) (f ps e)
  | _ => none := rfl
end
end Mr
set_option Elab.async false
set_option linter.all false
set_option maxRecDepth 100000
set_option maxHeartbeats 4000000
namespace L2
open PySem PySem.Spec PyProof.Rows
section
variable {X : Cx}
end
end L2
namespace Mr
open PySem PySem.Spec L2 PyProof.Rows
section
variable {K : PySem.W.Frag}
theorem RepD.at {Z : ASet} {H : Hp} {kvs : List (Key × PV)} {ys : List (Key × V)} (r : RepD K Z H kvs ys) {i : Nat} {z : Key × PV} (h : kvs[i]? = some z) : ∃ y, ys[i]? = some y ∧ y.1 = z.1 ∧ Rep K Z H z.2 y.2 := by
  obtain ⟨r1, r2⟩ := r
  obtain ⟨v, hv, rv⟩ := r2.get (i := i) (p := z.2) (by rw [List.getElem?_map, h]; rfl)
  rw [List.getElem?_map] at hv
  cases c : ys[i]? with
  | none => rw [c] at hv; cases hv
  | some y =>
    rw [c] at hv
    cases hv
    have e := congrArg (·[i]?) r1
    simp only [List.getElem?_map, c, h] at e
    exact ⟨y, rfl, Option.some.inj e, rv⟩
theorem RepD.len {Z : ASet} {H : Hp} {kvs : List (Key × PV)} {ys : List (Key × V)} (r : RepD K Z H kvs ys) : kvs.length = ys.length := by
  have := congrArg List.length r.1
  simpa using this.symm
end
end Mr
set_option Elab.async false
set_option linter.all false
set_option maxRecDepth 100000
set_option maxHeartbeats 4000000
namespace Mr
open PySem L2
section
variable {K : PySem.W.Frag}
end
end Mr
set_option Elab.async false
set_option linter.all false
set_option maxRecDepth 100000
set_option maxHeartbeats 4000000
namespace L2
open PySem PyProof.Rows
section
variable {X : Cx}
end
end L2
namespace Mr
open PySem L2
section
variable {K : PySem.W.Frag}
end
end Mr
set_option Elab.async false
set_option linter.all false
set_option maxRecDepth 100000
set_option maxHeartbeats 4000000
namespace L2
open PySem Mr
section
variable {X : Cx} {es : List Expr} {t : TA} {r : R2} {i : Nat} {x : Str} {pos' q pos p2 p3 : Pos}
end
end L2
set_option Elab.async false
set_option linter.all false
set_option maxRecDepth 100000
set_option maxHeartbeats 4000000
namespace Mr
open PySem L2
section
variable {K : PySem.W.Frag}
end
end Mr
set_option Elab.async false
set_option linter.all false
set_option maxRecDepth 100000
set_option maxHeartbeats 4000000
namespace L2
open PySem PySem.Spec PyProof.Rows PySem.W
section
variable {prog : Program} {w : World} {A : Around}
end
section
variable {X : Cx} {k : Nat}
open Mr
end
end L2
namespace Mr
open PySem L2
section
variable {K : PySem.W.Frag}
end
end Mr
set_option Elab.async false
set_option linter.all false
set_option maxRecDepth 100000
set_option maxHeartbeats 4000000
namespace L2
open PySem PySem.Spec PyProof.Rows
section
variable {prog : Program} {w : World} {A : Around} {E : Value → Shared → Prop} {s : Shared}
end
section
variable {X : Cx} {pins : List (Addr × Obj)} {σ : L2.St} {H : Hp} {s : Shared} {a : Addr} {A : Around} {E : Value → Shared → Prop}
end
end L2
namespace Mr
open PySem L2
section
variable {K : PySem.W.Frag}
end
end Mr
set_option Elab.async false
set_option linter.all false
set_option maxRecDepth 100000
set_option maxHeartbeats 4000000
namespace L2
open PySem PySem.Spec PyProof.Rows PySem.W
section
variable {prog : Program} {w : World} {A : Around} {E : Value → Shared → Prop} {s : Shared}
end
end L2
namespace Mr
open PySem PySem.Spec L2 PyProof.Rows PySem.W
section
variable {X : Cx} {k : Nat}
end
section
variable {K : PySem.W.Frag}
end
end Mr
set_option Elab.async false
set_option linter.all false
set_option maxRecDepth 100000
set_option maxHeartbeats 4000000
namespace L2
open PySem PySem.Spec PyProof.Rows
noncomputable def rLstrip : V → List V → Hp → VK → Prop := fun x vs H Q => ∃ z y, x = .str z ∧ vs = [.str y] ∧ z.length ≤ sizeLine ∧ Q (.str (Txt.lstripChars z y)) H
theorem mt_lstrip {X : Cx} : MtR X "str.lstrip" rLstrip := by
  intro pins s σ H x vs v us Q I rx rv h
  obtain ⟨z, y, rfl, rfl, hz, q⟩ := h
  obtain ⟨t, rfl⟩ := rx
  obtain ⟨u, rfl, t', rfl⟩ := vals1 rv
  exact SCL.lstripChars (fun t' k _ => ⟨.str _, H, I.tok _, ⟨_, rfl⟩, q⟩) hz
noncomputable def rSum (K : PySem.W.Frag) : List V → Hp → VK → Prop := fun xs H Q => ∃ (a : Addr) (is : List Int), xs = [.ref a] ∧ SqL K H a (is.map V.int) ∧ Q (.int is.sum) H
theorem ints_vals : ∀ {is : List Int} {us : List Value}, Vals (is.map V.int) us → ∃ xs : Array (Int × Tok), us.toArray = intItems xs ∧ xs.toList.map (·.1) = is
  | [], _, .nil => ⟨#[], by simp [intItems], rfl⟩
  | i :: is, _, .cons ⟨t, h⟩ r => by
    subst h
    obtain ⟨xs, h1, h2⟩ := ints_vals r
    refine ⟨((i, t) :: xs.toList).toArray, ?_, by simp [h2]⟩
    have h1 := congrArg Array.toList h1
    unfold intItems at h1 ⊢
    apply Array.toList_inj.mp
    simp at h1 ⊢
    exact h1
theorem sumL {X : Cx} (K : PySem.W.Frag) (hK : X.K = K := by rfl) (hc : X.calm = true := by rfl) : CallR X (.builtin "sum") (rSum K) := by
  subst hK
  intro pins s σ H xs us Q I rv h
  obtain ⟨a, is, rfl, hq, q⟩ := h
  obtain ⟨u, rfl, rx⟩ := vals1 rv
  cases rx
  obtain ⟨its, rvs, pl, hz⟩ := I.list hq
  obtain ⟨ys, h1, h2⟩ := ints_vals rvs
  have hl := pl.isList
  rw [h1] at hl
  refine sum_intListG (by exact I.ok.hd hc) hl fun h' tk t' hk => ?_
  have e2 : preSum (numAt ys) ys.size = is.sum := by
    rw [preSum_eq, List.take_of_length_le (by simp), h2]
  rw [e2]
  exact ⟨.int _, H, I.kept (t' := tk) hk, ⟨_, rfl⟩, q⟩
section
variable {prog : Program} {w : World} {A : Around} {E : Value → Shared → Prop} {s : Shared}
noncomputable def outF (st en : Int) (xs : Array Value) : Array Value := (xs.toList.zipIdx.filterMap fun (x, k) => if (if (1 : Int) > 0 then decide (st ≤ (k : Int)) && decide ((k : Int) < en) && ((k : Int) - st) % 1 == 0 else decide (en < (k : Int)) && decide ((k : Int) ≤ st) && (st - (k : Int)) % (-1) == 0) = true then none else some x).toArray
theorem delItem_slice {l sl : Addr} {items : Array Value} {n : Nat} {vl : Value} {a : Nat} {Q : Unit → Shared → Prop}
    (e : s.heap.get? l = some { cls := .type "list", data := .seq items n })
    (hs : s.heap.IsSliceOf sl vl .none .none) (pl : IsPart vl (some (a : Int))) (ha : a ≤ items.size) (hsz : items.size ≤ sizeLine) (hz' : (outF a items.size items).size ≤ sizeLine + 1)
    (h : Q () { s with heap := s.heap.update l (Obj.mapSeq (outF a items.size)) }) :
    wpAny (model prog w) A (delItem (.ref l) (.ref sl)) Q E s := by
  have hl : s.heap.IsList l items := PySem.IsL.isList e
  obtain ⟨os, hos, hcs, hds⟩ := id hs
  have hTs : s.TypeIs (.ref sl) "slice" := ⟨os, hos, hcs⟩
  have hstep : ¬ ((rawPart none == rawInt 0) = true) := Bool.false_ne_true
  refine wpAny_delItem_slot hl.typeIs (by decide) F.slot_list_delitem ?_
  refine wpAny_call_entry F.slot_list_delitem hl.typeIs F.entry_list_delitem ?_ (F.args_list_delitem_2 _ _)
  show wpAny _ _ (Builtin.List.listSubscript? (.ref sl) >>= _) _ _ s
  refine wpAny_bind ?_
  unfold Builtin.List.listSubscript?
  refine wpAny_bind (wpAny_specialOf hTs slice_no_index ?_)
  simp only [Option.isNone_none, if_true]
  refine wpAny_pure ?_
  show wpAny _ _ (typeOf (.ref sl) >>= _) _ _ s
  refine wpAny_bind (wpAny_typeOf hTs ?_)
  rw [if_neg (by decide)]
  rw [listSliceParts_eq]
  refine wpAny_bind (wpAny_bind (wpAny_field hos hds (x := .none) rfl (wpAny_bind (wpAny_listPart .none ?_))))
  rw [if_neg hstep]
  refine wpAny_bind (wpAny_field hos hds (x := vl) rfl (wpAny_bind (wpAny_listPart pl ?_)))
  refine wpAny_bind (wpAny_field hos hds (x := .none) rfl (wpAny_bind (wpAny_listPart .none (wpAny_pure ?_))))
  unfold Builtin.List.listItems
  refine wpAny_bind (wpAny_bind (wpAny_seqItems e rfl (wpAny_pure ?_)))
  have hb : sliceBounds (some (a : Int)) none none items.size = ((a : Int), (items.size : Int), 1) := by
    simp only [sliceBounds, Option.getD_none]
    have h1 : ¬ ((a : Int) < 0) := by omega
    simp only [h1, if_false, show (1 : Int) > 0 by decide, if_true]
    congr 1
    omega
  refine wpAny_bind (wpAny_of_eq ((sliceIndices_raw (some (a : Int)) none none items.size (by simp)).trans (congrArg (pure : Int × Int × Int → Sem (Int × Int × Int)) hb)) ?_)
  refine wpAny_bind (wpAny_rule ?_)
  show wpAny _ _ (updateSeq l (outF a items.size) >>= _) _ _ s
  refine wpAny_bind (wpAny_updateSeq (hz := hsz) (_hz' := hz') e rfl ?_)
  refine wpAny_bind (wpAny_letGo ?_)
  first
    | exact wpAny_bind (wpAny_pure (wpAny_pure ⟨.none, rfl, h⟩))
    | exact wpAny_pure ⟨.none, rfl, h⟩
    | exact wpAny_pure ⟨rfl, h⟩
    | exact wpAny_bind (wpAny_pure (wpAny_pure ⟨rfl, h⟩))
    | exact wpAny_pure h
end
theorem out_take : ∀ (its : List Value) (a m : Nat), its.length ≤ m → (outF a m its.toArray) = (its.take a).toArray := by
  intro its a m hm
  unfold outF
  congr 1
  have key : ∀ (l : List Value) (k : Nat), k + l.length ≤ m → (l.zipIdx k).filterMap (fun (x, k) => if (if (1 : Int) > 0 then decide ((a : Int) ≤ (k : Int)) && decide ((k : Int) < (m : Int)) && ((k : Int) - (a : Int)) % 1 == 0 else decide ((m : Int) < (k : Int)) && decide ((k : Int) ≤ (a : Int)) && ((a : Int) - (k : Int)) % (-1) == 0) = true then none else some x) = l.take (a - k) := by
    intro l
    induction l with
    | nil => intro k _; simp
    | cons x l ih =>
      intro k hk
      rw [List.length_cons] at hk
      rw [List.zipIdx_cons, List.filterMap_cons]
      have e := ih (k + 1) (by omega)
      rw [e]
      dsimp only
      rw [if_pos (show (1 : Int) > 0 by decide)]
      by_cases h : a ≤ k
      · rw [if_pos (by simp; omega), show a - k = 0 by omega, show a - (k + 1) = 0 by omega]; simp
      · rw [if_neg (by simp; omega), show a - k = (a - (k + 1)) + 1 by omega, List.take_succ_cons]
  exact key its 0 (by omega)
section
variable {X : Cx} {o lo : Expr} {to tl : TE} {p2 tpos pos : Pos}
noncomputable def tDelS (to tl : TE) : TS := fun D σ H => to σ H fun x H1 => tPart tl σ H1 fun i H2 => ∃ (l : Addr) (a : Nat) (xs : List V), x = .ref l ∧ i = some (a : Int) ∧ H2 l = some (.lst xs) ∧ a ≤ xs.length ∧ D.nx σ (upd H2 l (.lst (xs.take a)))
theorem ps_delS (ho : PE X o to) (hl : PE X lo tl) : PS X (.Delete [.Subscript o (.Slice (some lo) none none p2) tpos] pos) (tDelS to tl) := by
  intro pins s σ H D I h
  refine wpAny_Delete (wpAny_deleteEach_cons (wpAny_delete_Subscript (thn (ho pins s σ H _ I h) fun u s1 ⟨x, H1, I1, rx, q1⟩ => ?_)))
  refine wpAny_Slice (thn (po_some hl pins s1 σ H1 _ I1 q1) fun vl s2 ⟨i, H2, I2, pl, q2⟩ => ?_)
  rw [evalPart_none]
  refine wpAny_pure (wpAny_pure ?_)
  obtain ⟨l, a, xs, rfl, rfl, hH, ha, q⟩ := q2
  cases rx
  have I4 : Inv X pins σ H2 { s2 with heap := s2.heap.push { cls := .type "slice", data := .fields #[vl, .none, .none] } } := I2.kept (t' := s2.toks) fun b ob q => Heap.get?_push_of_some _ q
  obtain ⟨z, its, n, r, hlen, e⟩ := I4.lstM hH
  have hsz : its.toArray.size ≤ sizeLine := by rw [List.size_toArray, ← hlen]; exact z
  have eq : outF a its.toArray.size its.toArray = (its.take a).toArray := out_take its a _ (by rw [List.size_toArray]; exact Nat.le_refl _)
  refine delItem_slice e (Heap.IsSliceOf.new ..) pl (by rw [List.size_toArray, ← hlen]; exact ha) hsz ?_ ?_
  · rw [eq, List.size_toArray, List.length_take]
    rw [List.size_toArray] at hsz
    omega
  · exact wpAny_deleteEach_nil ⟨σ, _, I4.lset (its' := its.take a) (t' := s2.toks) hH e eq (r.take a) (by rw [List.length_take]; omega), q⟩
end
end L2
namespace L2
open PySem PySem.Spec PyProof.Rows
theorem pi_zipK {X : Cx} {elts : List Expr} {x1} {tpos : Pos} (K : PySem.W.Frag) {a b : Expr} {ta : TA} {p pos : Pos} (hg : Gl X "zip") (hm : X.mg "zip" = none) (ha : PA X [a, b] ta) (h : X.K = K := by rfl) (hs : starEach [a, b] X.env = [(false, eval a X.env), (false, eval b X.env)] := by rfl) (hs2 : starEach [b] X.env = [(false, eval b X.env)] := by rfl) :
    PI X (.Tuple elts x1 tpos) (.Call (.Name "zip" p) [a, b] [] pos) (iZipL K ta) := h ▸ pi_zipL hg hm ha hs hs2
end L2
set_option Elab.async false
set_option linter.all false
set_option maxRecDepth 100000
set_option maxHeartbeats 4000000
namespace Mr
open PySem PySem.Spec L2 PyProof.Rows
section
variable {K : PySem.W.Frag}
noncomputable def sNone : FS := fun _ => none
theorem ref_none : RefS K tNever sNone := fun _ _ _ _ _ _ _ _ _ _ _ hf => nomatch hf
noncomputable def gLstrip : PV → List PV → Option Bv
  | .str z, [.str y] => guardP (decide (z.length < 1000000)) (some (.val (.str (Txt.lstripChars z y))))
  | _, _ => none
theorem ok_lstrip : MtOk K rLstrip gLstrip := by
  intro Z H x vs p ps b Q hp hps h k
  unfold gLstrip at h
  split at h
  · obtain ⟨c, h⟩ := guardP_some h
    cases h
    obtain ⟨v, rfl, hv⟩ := hps.one
    exact ⟨_, _, hp.str, by rw [hv.str], Nat.le_of_lt (smallP c), k _ H (Same.refl _) (Rep.str _)⟩
  · cases h
theorem splitX_len (L y : Str) : (Txt.split L y).length ≤ L.length + 2 := by
  unfold Txt.split
  split
  · simp
  · split
    · simp
    · rw [length_partsBetween]
      have := StrLaws.occ_length_le L y 0 L.length (L.length + 1)
      omega
noncomputable def gSplitX : PV → List PV → Option Bv
  | .str z, [.str y] => guardP (decide (z.length < 1000000) && decide (0 < y.length)) (some (.new (.lst ((Txt.split z y).map PV.str))))
  | _, _ => none
theorem ok_splitX : MtOk K rSplit gSplitX := by
  intro Z H x vs p ps b Q hp hps h k
  unfold gSplitX at h
  split at h
  · rename_i z y
    obtain ⟨c, h⟩ := guardP_some h
    cases h
    rw [Bool.and_eq_true] at c
    have c1 := of_decide_eq_true c.1
    have c2 := of_decide_eq_true c.2
    obtain ⟨v, rfl, hv⟩ := hps.one
    have h1 := splitX_len z y
    have h2 : (Builtin.Str.partsBetween z (Builtin.Str.occurrences z y 0 z.length (z.length + 1)) y.length).length ≤ z.length + 2 := by
      rw [length_partsBetween]
      have := StrLaws.occ_length_le z y 0 z.length (z.length + 1)
      omega
    exact ⟨z, _, hp.str, by rw [hv.str], beq_eq_false_iff_ne.mpr (by omega), by omega, by omega, szl (by omega), fun l hl => k _ _ (Same.upd hl) (newL hl (strsL _))⟩
  · cases h
noncomputable def intsP : List PV → Option (List Int)
  | [] => some []
  | .int x :: ps => bO (intsP ps) fun xs => some (x :: xs)
  | _ => none
theorem ints_rep {Z : ASet} {H : Hp} : ∀ {ps : List PV} {vs : List V} {is : List Int}, RepL K Z H ps vs → intsP ps = some is → vs = is.map V.int
  | _, _, _, .nil, h => by cases h; rfl
  | _, _, _, .cons (p := p) h r, e => by
    cases p with
    | int i =>
      obtain ⟨js, h1, h2⟩ := bO_some e
      cases h2
      cases h
      rw [ints_rep r h1]
      rfl
    | _ => cases e
noncomputable def gSum : List PV → Option Bv
  | [.lst ps] => bO (intsP ps) fun is => some (.val (.int is.sum))
  | _ => none
theorem ok_sum : CbOk K (rSum K) gSum := by
  intro Z H vs ps b Q hp h k
  unfold gSum at h
  split at h
  · obtain ⟨is, h1, h⟩ := bO_some h
    cases h
    obtain ⟨v, rfl, hv⟩ := hp.one
    obtain ⟨a, xs, rfl, ha, ra⟩ := hv.lsts
    have e := ints_rep ra h1
    subst e
    exact ⟨a, is, rfl, ha.sq, k _ H (Same.refl _) (Rep.int _)⟩
  · cases h
noncomputable def fZip (fa : FA) : FI := fun _ e => bE (fa e) fun bs e1 => match bs with
  | [.val (.lst ps), .val (.lst qs)] => guardP (decide (ps.length = qs.length)) (some ((ps.zip qs).map fun z => .tup [z.1, z.2], e1))
  | _ => none
theorem ref_zip {ta : TA} {fa : FA} (h : RefA K ta fa) : RefI K (iZipL K ta) (fZip fa) := by
  intro st O M W L σ H e e' ps R o he hf q
  obtain ⟨x, e1, f1, hf⟩ := bE_some hf
  refine h O M W L σ H e e1 x _ o he f1 fun vs H1 k1 en rv => ?_
  have o1 := o.keep k1.dom
  split at hf
  · rename_i ps0 qs0
    obtain ⟨hlen, hf⟩ := guardP_some hf
    have hlen := of_decide_eq_true hlen
    cases hf
    cases rv with
    | cons h r =>
      cases r with
      | cons h' r =>
        cases r
        cases h with
        | lst ha n ra =>
          cases h' with
          | lst hb n' rb =>
            rename_i a xs b ys
            refine ⟨a, b, xs, ys, rfl, .inl ha, .inl hb, q _ H1 k1 en fun Wr hw _ => ?_⟩
            intro L' H' j1 j2 j3
            have st := stayIt o1 hw j1 j2 j3
            have sq : ∀ {a : Addr} {xs : List V}, Rd H1 a (.lst xs) → ¬ uni M L a → SqL K H' a xs := fun {a xs} ha n => by
              have nw : ¬ Wr a := fun z => n ((hw _ z).elim (fun ⟨i, w⟩ => .inl (o.wm i _ w)) .inr)
              rcases ha with h | ⟨u, h⟩
              · exact .inl (.inl (j1 _ _ h nw))
              · exact .inl (.inr ⟨u, j1 _ _ h nw⟩)
            have sa := sq ha n
            have sb := sq hb n'
            have l1 := ra.length
            have l2 := rb.length
            refine ⟨fun k p hp => ?_, xs, ys, sa, sb, .inl (by rw [List.length_map, List.length_zip]; omega)⟩
            rw [List.getElem?_map] at hp
            obtain ⟨z, hz, rfl⟩ := Option.map_eq_some_iff.mp hp
            obtain ⟨c1, c2⟩ := List.getElem?_zip_eq_some.mp hz
            obtain ⟨v, hv, rv⟩ := ra.get c1
            obtain ⟨v', hv', rv'⟩ := rb.get c2
            refine ⟨⟨xs, ys, v, v', sa, sb, hv, hv'⟩, fun x H3 y => ?_⟩
            obtain ⟨t, ht, rfl, y⟩ := y
            obtain ⟨x1, x2, h1, h2, rfl⟩ := y xs ys sa sb
            rw [hv] at h1
            rw [hv'] at h2
            cases h1
            cases h2
            exact ⟨Same.upd ht, .tup (.inl upd_same) (.cons ((rv.stay st).stay (.same (Same.upd ht))) (.cons ((rv'.stay st).stay (.same (Same.upd ht))) .nil))⟩
  · cases hf
noncomputable def sDelS (i : Nat) (f : FE) : FS := fun e => bO (ownAt e i) fun p0 => bE (f e) fun b e1 => match b with
  | .val (.int k) => match ownAt e1 i with
    | some (.lst ps) => guardP (decide (0 ≤ k) && decide (k ≤ (ps.length : Int))) (some (.nx (setOwn e1 i (.lst (ps.take k.toNat)))))
    | _ => none
  | _ => none
theorem ref_delS {i : Nat} {t : TE} {f : FE} (h : Ref K t f) : RefS K (tDelS (tVar i) t) (sDelS i f) := by
  intro O M W L σ H e r D o he hf q
  obtain ⟨p0, g0, hf⟩ := bO_some hf
  obtain ⟨x, e1, f1, hf⟩ := bE_some hf
  split at hf
  · rename_i k
    cases c : ownAt e1 i with
    | none => rw [c] at hf; cases hf
    | some q1 =>
      rw [c] at hf
      cases q1 with
      | lst ps =>
        obtain ⟨g2, hf⟩ := guardP_some hf
        cases hf
        rw [Bool.and_eq_true] at g2
        have k0 := of_decide_eq_true g2.1
        have k1 := of_decide_eq_true g2.2
        obtain ⟨a, ha, hz, ct⟩ := he.own g0
        refine ⟨_, ha, ?_⟩
        refine h O M W L σ H e _ _ _ o he f1 fun v H' kk rb fr => ?_
        obtain ⟨en2, r2⟩ := rb
        cases r2
        have o2 := o.keep kk.dom
        obtain ⟨a', ha', hz', ct'⟩ := en2.own c
        rw [ha] at ha'
        cases ha'
        cases ct' with
        | lst e3 r3 =>
          rename_i xs
          have hl := r3.length
          refine ⟨k, rfl, a, k.toNat, xs, rfl, by rw [Int.toNat_of_nonneg k0], e3, by omega, ?_⟩
          have kw : Keep W L H' (upd H' a (.lst (xs.take k.toNat))) := .write hz' e3 fun _ z => nomatch z
          have st : Stay (uni M L) (uni M L) H' (upd H' a (.lst (xs.take k.toNat))) := .write (hz'.elim (fun ⟨i, w⟩ => .inl (o.wm i a w)) .inr) e3 fun _ z => nomatch z
          exact q L σ _ (.keep (kk.trans kw)) (o2.keep kw.dom) (EnRep.write o.wm en2 c ha (.lst upd_same ((r3.stay st).take k.toNat)))
      | _ => cases hf
  · cases hf
end
end Mr
set_option Elab.async false
set_option linter.all false
set_option maxRecDepth 100000
namespace My
open PySem L2 Mr
set_option linter.all false
set_option maxHeartbeats 4000000
noncomputable def b_is_name : FS := (sSeq (sIf (fOr (fNot (fTest (fCB gIsi2 (fCons (fVar 0) (fCons (fC (.ty "str")) fNil))))) (fNot (fTest (fChain gLe gLe (fC (.int 1)) (fCB gLen (fCons (fVar 0) fNil)) (fC (.int 12)))))) (sRet (fC (.bl false))) sNext)
    (sRet (fCB gAll (fCons (fComp (fIt (fVar 0)) 1 [] [] (tgName 0) fTrue (fOp (gIn false) (fVar 0) (fC (.str "abcdefghijklmnopqrstuvwxyz0123456789")))) fNil))))
noncomputable def fn_is_name : FN := fnM [.b] 0 false b_is_name
noncomputable def b_checked : FS := (sSeq (sIf (fNot (fTest (fCB gIsi2 (fCons (fVar 0) (fCons (fC (.ty "str")) fNil))))) sNone sNext)
    (sRet (fVar 0)))
noncomputable def fn_checked : FN := fnM [.v] 0 false b_checked
noncomputable def b_needed : FS := (sSeq (sIf (fTest (fOp (gIs false) (fVar 0) (fC .non))) sNone sNext)
    (sRet (fVar 0)))
noncomputable def fn_needed : FN := fnM [.v, .b] 0 false b_needed
noncomputable def b_law_pot : FS := (sSeq (sSet 2 (fOp gAdd (fOp gMul (fC (.int 7)) (fVar 1)) (fCB gLen (fCons (fVar 0) fNil))))
    (sSeq (sIf (fTest (fOp gLt (fVar 1) (fCB gLen (fCons (fVar 0) fNil)))) (sSet 2 (fOp gIx (fVar 0) (fVar 1))) sNext)
    (sSeq (sSet 3 (fOp gMul (fOp gMod (fCB gAbs (fCons (fVar 2) fNil)) (fOp gPow (fOp gPow (fC (.int 10)) (fC (.int 60))) (fC (.int 3)))) (fCB gIntC (fCons (fOp gGe (fCB gAbs (fCons (fVar 2) fNil)) (fOp gPow (fC (.int 10)) (fC (.int 18)))) fNil))))
    (sSeq (sSet 4 (fOp gAdd (fOp gAdd (fOp gMod (fCB gAbs (fCons (fVar 2) fNil)) (fC (.int 2147483629))) (fOp gMul (fOp gMul (fC (.int 7919)) (fVar 1)) (fVar 1))) (fC (.int 11))))
    (sRet (fLst (fCons (fVar 3) (fCons (fOp gMod (fOp gMul (fOp gMod (fOp gMul (fVar 4) (fVar 4)) (fC (.int 2147483629))) (fC (.int 48271))) (fC (.int 2147483647))) fNil))))))))
noncomputable def fn_law_pot : FN := fnM [.b, .b] 3 true b_law_pot
noncomputable def b_law_take : FS := (sSeq (sIf (fTest (fOp gGt (fOp gIx (fVar 0) (fC (.int 0))) (fC (.int 0)))) (sSeq (sSet 2 (fOp gMod (fOp gIx (fVar 0) (fC (.int 0))) (fVar 1)))
    (sSeq (sSetIx 0 (fC (.int 0)) (fOp gDiv (fOp gIx (fVar 0) (fC (.int 0))) (fVar 1)))
    (sRet (fVar 2)))) sNext)
    (sSeq (sSetIx 0 (fC (.int 1)) (fOp gMod (fOp gAdd (fOp gMul (fOp gIx (fVar 0) (fC (.int 1))) (fC (.int 48271))) (fC (.int 12345))) (fC (.int 2147483647))))
    (sRet (fOp gMod (fOp gDiv (fOp gMod (fOp gMul (fOp gDiv (fOp gIx (fVar 0) (fC (.int 1))) (fC (.int 7))) (fOp gAdd (fOp gMod (fOp gIx (fVar 0) (fC (.int 1))) (fC (.int 65537))) (fC (.int 3)))) (fC (.int 1999999973))) (fC (.int 5))) (fVar 1)))))
noncomputable def fn_law_take : FN := fnM [.m, .b] 1 false b_law_take
noncomputable def b_law_elders : FS := (sSeq (sSetL 2 (fLst fNil))
    (sSeq (sFor (fEnmA (fCons (fVar 0) fNil)) (tgTup 2 (tgCons (tgName 3) (tgCons (tgName 4) tgNil))) (sSeq (sSet 5 (fC .non))
    (sSeq (sFor (fRg1 (fCons (fVar 3) fNil)) (tgName 6) (sIf (fTest (fOp gEq (fOp gIx (fVar 1) (fVar 6)) (fOp Mr.gSub (fOp gIx (fVar 1) (fVar 3)) (fC (.int 1))))) (sSet 5 (fOp gIx (fVar 0) (fVar 6))) sNext))
    (sApp 2 (fTup (fCons (fVar 4) (fCons (fVar 5) fNil)))))))
    (sRet (fCB gTupC (fCons (fCB gSortX (fCons (fVar 2) fNil)) fNil)))))
noncomputable def fn_law_elders : FN := fnM [.v, .v] 5 false b_law_elders
noncomputable def b_rows_in : FS := (sSeq (sSet 1 (fBM gSplitX (fCall [.v] false fn_checked (fCons (fVar 0) fNil)) (fCons (fC (.str "\n")) fNil)))
    (sRet (fIf (fTest (fOp gEq (fVar 1) (fLst (fCons (fC (.str "")) fNil)))) (fLst fNil) (fVar 1))))
noncomputable def fn_rows_in : FN := fnM [.v] 1 false b_rows_in
noncomputable def b_place_in : FS := (sSeq (sSet 1 (fBM gLstrip (fVar 0) (fCons (fC (.str " ")) fNil)))
    (sSeq (sSet 2 (fOp Mr.gSub (fCB gLen (fCons (fVar 0) fNil)) (fCB gLen (fCons (fVar 1) fNil))))
    (sSeq (sAsg (fBM gPart (fVar 1) (fCons (fC (.str " ")) fNil)) (tgTup 3 (tgCons (tgName 3) (tgCons (tgName 4) (tgCons (tgName 5) tgNil)))))
    (sSeq (sIf (fOr (fNot (fTest (fCall [.b] false fn_is_name (fCons (fVar 3) fNil)))) (fTest (fOp (gIn true) (fOp gAdd (fVar 4) (fVar 5)) (fTup (fCons (fC (.str "")) (fCons (fC (.str " ?")) (fCons (fC (.str " *")) fNil))))))) (sRet (fC .non)) sNext)
    (sRet (fIf (fTest (fOp gEq (fOp gMod (fVar 2) (fC (.int 2))) (fC (.int 0)))) (fTup (fCons (fOp gDiv (fVar 2) (fC (.int 2))) (fCons (fVar 3) fNil))) (fC .non)))))))
noncomputable def fn_place_in : FN := fnM [.b] 5 false b_place_in
noncomputable def b_law_name : FS := (sSeq (sSet 1 (fC (.str "abcdefghijklmnopqrstuvwxyz0123456789")))
    (sSeq (sSet 2 (fCall [.m, .b] false fn_law_take (fCons (fVar 0) (fCons (fC (.int 4)) fNil))))
    (sSeq (sIf (fTest (fOp gEq (fVar 2) (fC (.int 0)))) (sRet (fBM gJoin (fC (.str "")) (fCons (fComp (fRg1 (fCons (fOp gAdd (fC (.int 1)) (fCall [.m, .b] false fn_law_take (fCons (fVar 0) (fCons (fC (.int 12)) fNil)))) fNil)) 1 [1, 0] [(0, 2)] (tgName 0) fTrue (fOp gIx (fVar 1) (fCall [.m, .b] false fn_law_take (fCons (fVar 2) (fCons (fC (.int 36)) fNil))))) fNil))) sNext)
    (sSeq (sIf (fTest (fOp gEq (fVar 2) (fC (.int 1)))) (sRet (fBM gJoin (fC (.str "")) (fCons (fComp (fRg1 (fCons (fC (.int 12)) fNil)) 1 [1, 0] [(0, 2)] (tgName 0) fTrue (fOp gIx (fVar 1) (fCall [.m, .b] false fn_law_take (fCons (fVar 2) (fCons (fC (.int 36)) fNil))))) fNil))) sNext)
    (sRet (fBM gJoin (fC (.str "")) (fCons (fComp (fRg1 (fCons (fOp gAdd (fC (.int 1)) (fCall [.m, .b] false fn_law_take (fCons (fVar 0) (fCons (fC (.int 2)) fNil)))) fNil)) 1 [1, 0] [(0, 2)] (tgName 0) fTrue (fOp gIx (fVar 1) (fCall [.m, .b] false fn_law_take (fCons (fVar 2) (fCons (fC (.int 3)) fNil))))) fNil)))))))
noncomputable def fn_law_name : FN := fnM [.m] 2 false b_law_name
noncomputable def b_law_rows : FS := (sSeq (sSetL 3 (fLst fNil))
    (sSeq (sFor (fZip (fCons (fVar 1) (fCons (fVar 2) fNil))) (tgTup 2 (tgCons (tgName 4) (tgCons (tgName 5) tgNil))) (sApp 3 (fOp gAdd (fOp gAdd (fBM gJoin (fC (.str "")) (fCons (fComp (fRg1 (fCons (fVar 5) fNil)) 1 [] [] (tgName 0) fTrue (fC (.str "  "))) fNil)) (fVar 4)) (fOp gIx (fLst (fCons (fC (.str "")) (fCons (fC (.str " ?")) (fCons (fC (.str " *")) fNil)))) (fCall [.m, .b] false fn_law_take (fCons (fVar 0) (fCons (fC (.int 3)) fNil)))))))
    (sRet (fVar 3))))
noncomputable def fn_law_rows : FN := fnM [.m, .v, .v] 3 false b_law_rows
noncomputable def b_read_drawn : FS := (sSeq (sSetL 1 fDNew)
    (sSeq (sSetL 2 (fLst fNil))
    (sSeq (sFor (fEnmA (fCons (fCall [.v] false fn_rows_in (fCons (fVar 0) fNil)) fNil)) (tgTup 2 (tgCons (tgName 3) (tgCons (tgName 4) tgNil))) (sSeq (sAsg (fCall [.v, .b] false fn_needed (fCons (fCall [.b] false fn_place_in (fCons (fVar 4) fNil)) (fCons (fVar 3) fNil))) (tgTup 2 (tgCons (tgName 5) (tgCons (tgName 6) tgNil))))
    (sSeq (sIf (fOr (fTest (fOp gGt (fVar 5) (fCB gLen (fCons (fVar 2) fNil)))) (fTest (fOp (gIn false) (fVar 6) (fVar 1)))) sNone sNext)
    (sSeq (sDelS 2 (fVar 5))
    (sSeq (sDPut 1 (fVar 6) (fIf (fTru (fVar 2)) (fOp gIx (fVar 2) (fUn gNeg (fC (.int 1)))) (fC .non)))
    (sApp 2 (fVar 6)))))))
    (sRet (fCB gTupC (fCons (fComp (fIt (fCB gSortX (fCons (fVar 1) fNil))) 1 [1] [] (tgName 0) fTrue (fTup (fCons (fVar 0) (fCons (fOp gIx (fVar 1) (fVar 0)) fNil)))) fNil))))))
noncomputable def fn_read_drawn : FN := fnM [.v] 6 false b_read_drawn
noncomputable def b_law_drawing : FS := (sSeq (sSetL 2 (fLst fNil))
    (sSeq (sSetL 3 (fLst fNil))
    (sSeq (sSet 4 (fOp gEq (fCall [.m, .b] false fn_law_take (fCons (fVar 0) (fCons (fC (.int 4)) fNil))) (fC (.int 0))))
    (sSeq (sFor (fRg1 (fCons (fCall [.m, .b] false fn_law_take (fCons (fVar 0) (fCons (fOp gAdd (fVar 1) (fC (.int 1))) fNil))) fNil)) (tgName 5) (sSeq (sSet 6 (fCall [.m] false fn_law_name (fCons (fVar 0) fNil)))
    (sSeq (sSet 7 (fOp gMul (fCall [.m, .b] false fn_law_take (fCons (fVar 0) (fCons (fOp gAdd (fCB gSum (fCons (fSl gSl (fVar 3) (fPart (fUn gNeg (fC (.int 1)))) fNoPart) fNil)) (fC (.int 2))) fNil))) (fCB gIntC (fCons (fOp gNe (fVar 3) (fLst fNil)) fNil))))
    (sSeq (sIf (fAnd (fTru (fVar 4)) (fTest (fOp gNe (fVar 3) (fLst fNil)))) (sSet 7 (fOp gAdd (fOp gIx (fVar 3) (fUn gNeg (fC (.int 1)))) (fC (.int 1)))) sNext)
    (sIf (fTest (fOp (gIn true) (fVar 6) (fVar 2))) (sSeq (sApp 2 (fVar 6))
    (sApp 3 (fVar 7))) sNext)))))
    (sRel 2 (sRel 3 (sRet (fTup (fCons (fVar 2) (fCons (fVar 3) fNil))))))))))
noncomputable def fn_law_drawing : FN := fnM [.m, .b] 6 false b_law_drawing
noncomputable def b_law : FS := (sSeq (sFor (fRg1 (fCons (fCB gMax2 (fCons (fC (.int 1)) (fCons (fCB gMin2 (fCons (fC (.int 30)) (fCons (fCB gLen (fCons (fVar 0) fNil)) fNil))) fNil))) fNil)) (tgName 1) (sSeq (sSetL 2 (fCall [.b, .b] true fn_law_pot (fCons (fVar 0) (fCons (fVar 1) fNil))))
    (sSeq (sAsg (fCall [.m, .b] false fn_law_drawing (fCons (fVar 2) (fCons (fOp gIx (fLst (fCons (fC (.int 60)) (fCons (fC (.int 12)) fNil))) (fCB gIntC (fCons (fOp gGt (fVar 1) (fC (.int 0))) fNil))) fNil))) (tgTup 2 (tgCons (tgName 3) (tgCons (tgName 4) tgNil))))
    (sSeq (sSet 5 (fCall [.v, .v] false fn_law_elders (fCons (fVar 3) (fCons (fVar 4) fNil))))
    (sSeq (sSet 6 (fBM gJoin (fC (.str "\n")) (fCons (fCall [.m, .v, .v] false fn_law_rows (fCons (fVar 2) (fCons (fVar 3) (fCons (fVar 4) fNil)))) fNil)))
    (sSeq (sSet 7 (fBM gJoin (fC (.str "\n")) (fCons (fCall [.m, .v, .v] false fn_law_rows (fCons (fVar 2) (fCons (fVar 3) (fCons (fVar 4) fNil)))) fNil)))
    (sFor (fIt (fLst (fCons (fVar 6) (fCons (fVar 7) (fCons (fVar 6) fNil))))) (tgName 8) (sSeq (sSet 9 (fCall [.v] false fn_read_drawn (fCons (fVar 8) fNil)))
    (sIf (fOr (fNot (fTest (fCB gIsi2 (fCons (fVar 9) (fCons (fC (.ty "tuple")) fNil))))) (fTest (fOp gNe (fVar 9) (fVar 5)))) (sRet (fC (.bl false))) sNext)))))))))
    (sRet (fC (.bl true))))
noncomputable def fn_law : FN := fnM [.b] 9 false b_law
noncomputable def top (i : Nat) : Stmt := PySem.Challenge.pw_answertrees_k69_drawings_read.main.body.getD i (.Pass ⟨0, 0, 0, 0⟩)
noncomputable abbrev s_is_name : Stmt := top 6
noncomputable abbrev s_checked : Stmt := top 8
noncomputable abbrev s_rows_in : Stmt := top 9
noncomputable abbrev s_needed : Stmt := top 10
noncomputable abbrev s_place_in : Stmt := top 14
noncomputable abbrev s_read_drawn : Stmt := top 15
noncomputable abbrev s_law_pot : Stmt := top 17
noncomputable abbrev s_law_take : Stmt := top 18
noncomputable abbrev s_law_name : Stmt := top 19
noncomputable abbrev s_law_drawing : Stmt := top 20
noncomputable abbrev s_law_elders : Stmt := top 21
noncomputable abbrev s_law_rows : Stmt := top 22
noncomputable abbrev s_law : Stmt := top 23
structure Txt (K : PySem.W.Frag) (mg : Str → Option Value) (fs : Nat → Addr) (fds : Nat → FuncData) (tc : Nat → Addr) (u : Nat → Value) : Prop where
  d_is_name : Def K mg "is_name" s_is_name ["thing"] (fs 0) (fds 0)
  d_checked : Def K mg "checked" s_checked ["text"] (fs 1) (fds 1)
  d_rows_in : Def K mg "rows_in" s_rows_in ["text"] (fs 2) (fds 2)
  d_needed : Def K mg "needed" s_needed ["thing", "row"] (fs 3) (fds 3)
  d_place_in : Def K mg "place_in" s_place_in ["row"] (fs 4) (fds 4)
  d_read_drawn : Def K mg "read_drawn" s_read_drawn ["text"] (fs 5) (fds 5)
  d_law_pot : Def K mg "_law_pot" s_law_pot ["_law_script", "_law_k"] (fs 6) (fds 6)
  d_law_take : Def K mg "_law_take" s_law_take ["_law_pot_here", "_law_many"] (fs 7) (fds 7)
  d_law_name : Def K mg "_law_name" s_law_name ["_law_pot_here"] (fs 8) (fds 8)
  d_law_drawing : Def K mg "_law_drawing" s_law_drawing ["_law_pot_here", "_law_most"] (fs 9) (fds 9)
  d_law_elders : Def K mg "_law_elders" s_law_elders ["_law_names", "_law_depths"] (fs 10) (fds 10)
  d_law_rows : Def K mg "_law_rows" s_law_rows ["_law_pot_here", "_law_names", "_law_depths"] (fs 11) (fds 11)
  d_law : Def K mg "law" s_law ["_law_script"] (fs 12) (fds 12)
  z_len : mg "len" = none
  z_str : mg "str" = none
  z_isinstance : mg "isinstance" = none
  z_all : mg "all" = none
  z_abs : mg "abs" = none
  z_int : mg "int" = none
  z_enumerate : mg "enumerate" = none
  z_range : mg "range" = none
  z_sorted : mg "sorted" = none
  z_tuple : mg "tuple" = none
  z_zip : mg "zip" = none
  z_sum : mg "sum" = none
  z_min : mg "min" = none
  z_max : mg "max" = none
  c_NAME_SIGNS : mg "NAME_SIGNS" = some (u 0)
  r_NAME_SIGNS : RelV (.str "abcdefghijklmnopqrstuvwxyz0123456789") (u 0)
  c_LONGEST_NAME : mg "LONGEST_NAME" = some (u 1)
  r_LONGEST_NAME : RelV (.int 12) (u 1)
  c_EMPTY : mg "EMPTY" = some (u 2)
  r_EMPTY : RelV (.str " ?") (u 2)
  c_UNREAD : mg "UNREAD" = some (u 3)
  r_UNREAD : RelV (.str " *") (u 3)
section
variable {P : Program} {w : World} {K : PySem.W.Frag} {mg : Str → Option Value} {base : Heap} {fs : Nat → Addr} {fds : Nat → FuncData} {tc : Nat → Addr} {u : Nat → Value}
theorem sc_is_name : FnScope ["thing"] ["thing"] (defScope s_is_name) := ⟨rfl, rfl, rfl, by decide +kernel, rfl, by decide +kernel, by decide +kernel⟩
theorem ok_is_name (T : Txt K mg fs fds tc u)  : FnOk P w K mg base CX0 1 (fs 0) (fds 0) ["thing"] (spM K [.b] false fn_is_name) := by
  refine T.d_is_name.F.ok sc_is_name (fun vs H Q E h => ?_) (fun cdv A outer s H vs Q E hr h => ?_)
  · obtain ⟨_, _, _, _, _, hl, _⟩ := h; exact hl
  · refine ⟨_, (pss_cons (ps_if (PW.pt (pw_or (pt_not (pt_val (pe_callB (isiX K) (by rfl) T.z_isinstance bt_isinstance (pa_cons (pv 0) (pa_cons (pe_bltn (v := .ty "str") rfl T.z_str bt_str rfl) pa_nil))))) (pw_or1 (pt_not (pt_chain leX leX pe_int (pe_callB (lenX K) (by rfl) T.z_len bt_len (pa_cons (pv 0) pa_nil)) (pe_glob (v := .int 12) rfl T.c_LONGEST_NAME T.r_LONGEST_NAME)))))) (pss_one (ps_ret pe_bl)) pss_nil)
      (pss_one (ps_ret (pe_callB (allL K rfl) (by rfl) T.z_all bt_all (pa_cons (pe_lc ["sign"] 1 [] ["thing"] (defScope s_is_name) rfl rfl rfl (pi_any K (pv 0)) (by decide +kernel) (fun _ => (pg_name (i := 0) (show (["sign"] : List Str).Nodup by decide +kernel) rfl (Or.inl rfl))) (fun _ => pts_nil) (fun _ => (pe_cmpR (inX K hr) (pv 0) (pe_glob (v := .str "abcdefghijklmnopqrstuvwxyz0123456789") rfl T.c_NAME_SIGNS T.r_NAME_SIGNS) (by rfl)))) pa_nil))))), ?_⟩
    exact def_ok (g := b_is_name) (ref_seq (ref_ifs (ref_or (ref_not (ref_tB (ref_cb ok_isi (ref_cons (ref_var 0) (ref_cons (ref_ty "str") ref_nil))))) (ref_not (ref_test (ref_chain ok_le ok_le (ref_int 1) (ref_cb ok_len (ref_cons (ref_var 0) ref_nil)) (ref_int 12))))) (ref_ret (ref_bl false)) ref_next)
      (ref_ret (ref_cb ok_all (ref_cons (ref_comp2 [] (by rfl) (ref_it (ref_var 0)) (ref_gname 0) ref_true (ref_op (ok_in false) (ref_var 0) (ref_str "abcdefghijklmnopqrstuvwxyz0123456789"))) ref_nil)))) rfl h
theorem sc_checked : FnScope ["text"] ["text"] (defScope s_checked) := ⟨rfl, rfl, rfl, by decide +kernel, rfl, by decide +kernel, by decide +kernel⟩
theorem ok_checked (T : Txt K mg fs fds tc u)  : FnOk P w K mg base CX0 1 (fs 1) (fds 1) ["text"] (spM K [.v] false fn_checked) := by
  refine T.d_checked.F.ok sc_checked (fun vs H Q E h => ?_) (fun cdv A outer s H vs Q E hr h => ?_)
  · obtain ⟨_, _, _, _, _, hl, _⟩ := h; exact hl
  · refine ⟨_, (pss_cons (ps_if (pt_not (pt_val (pe_callB (isiX K) (by rfl) T.z_isinstance bt_isinstance (pa_cons (pv 0) (pa_cons (pe_bltn (v := .ty "str") rfl T.z_str bt_str rfl) pa_nil))))) (pss_one ps_never) pss_nil)
      (pss_one (ps_ret (pv 0)))), ?_⟩
    exact def_ok (g := b_checked) (ref_seq (ref_ifs (ref_not (ref_tB (ref_cb ok_isi (ref_cons (ref_var 0) (ref_cons (ref_ty "str") ref_nil))))) ref_none ref_next)
      (ref_ret (ref_var 0))) rfl h
theorem sc_needed : FnScope ["thing", "row"] ["thing", "row"] (defScope s_needed) := ⟨rfl, rfl, rfl, by decide +kernel, rfl, by decide +kernel, by decide +kernel⟩
theorem ok_needed (T : Txt K mg fs fds tc u)  : FnOk P w K mg base CX0 1 (fs 3) (fds 3) ["thing", "row"] (spM K [.v, .b] false fn_needed) := by
  refine T.d_needed.F.ok sc_needed (fun vs H Q E h => ?_) (fun cdv A outer s H vs Q E hr h => ?_)
  · obtain ⟨_, _, _, _, _, hl, _⟩ := h; exact hl
  · refine ⟨_, (pss_cons (ps_if (pt_cmpR op_isN (pv 0) pe_non (nomark _)) (pss_one ps_never) pss_nil)
      (pss_one (ps_ret (pv 0)))), ?_⟩
    exact def_ok (g := b_needed) (ref_seq (ref_ifs (ref_test (ref_op ok_is (ref_var 0) ref_non)) ref_none ref_next)
      (ref_ret (ref_var 0))) rfl h
theorem sc_law_pot : FnScope ["_law_script", "_law_k", "_law_cell", "_law_great", "_law_mixed"] ["_law_script", "_law_k"] (defScope s_law_pot) := ⟨rfl, rfl, rfl, by decide +kernel, rfl, by decide +kernel, by decide +kernel⟩
theorem ok_law_pot (T : Txt K mg fs fds tc u)  : FnOk P w K mg base CX0 1 (fs 6) (fds 6) ["_law_script", "_law_k"] (spM K [.b, .b] true fn_law_pot) := by
  refine T.d_law_pot.F.ok sc_law_pot (fun vs H Q E h => ?_) (fun cdv A outer s H vs Q E hr h => ?_)
  · obtain ⟨_, _, _, _, _, hl, _⟩ := h; exact hl
  · refine ⟨_, (pss_cons (ps_set (i := 2) sc_law_pot.nd rfl (Or.inl rfl) (pe_op (addX K) (pe_op op_mul pe_int (pv 1)) (pe_callB (lenX K) (by rfl) T.z_len bt_len (pa_cons (pv 0) pa_nil))))
      (pss_cons (ps_if (pt_cmpR ltX (pv 1) (pe_callB (lenX K) (by rfl) T.z_len bt_len (pa_cons (pv 0) pa_nil)) (nomark _)) (pss_one (ps_set (i := 2) sc_law_pot.nd rfl (Or.inl rfl) (pe_ix (ixX K hr) (pv 0) (pv 1) (fun _ _ => rfl)))) pss_nil)
      (pss_cons (ps_set (i := 3) sc_law_pot.nd rfl (Or.inl rfl) (pe_op op_mul (pe_op op_mod (pe_callB call_abs (by rfl) T.z_abs bt_abs (pa_cons (pv 2) pa_nil)) (pe_op op_powB (pe_op op_powB pe_int pe_int) pe_int)) (pe_callTy call_int1 (by rfl) T.z_int bt_int (pa_cons (pe_cmpR op_ge (pe_callB call_abs (by rfl) T.z_abs bt_abs (pa_cons (pv 2) pa_nil)) (pe_op op_powB pe_int pe_int) (nomark _)) pa_nil))))
      (pss_cons (ps_set (i := 4) sc_law_pot.nd rfl (Or.inl rfl) (pe_op (addX K) (pe_op (addX K) (pe_op op_mod (pe_callB call_abs (by rfl) T.z_abs bt_abs (pa_cons (pv 2) pa_nil)) pe_int) (pe_op op_mul (pe_op op_mul pe_int (pv 1)) (pv 1))) pe_int))
      (pss_one (ps_ret (pe_lst (pa_cons (pv 3) (pa_cons (pe_op op_mod (pe_op op_mul (pe_op op_mod (pe_op op_mul (pv 4) (pv 4)) pe_int) pe_int) pe_int) pa_nil))))))))), ?_⟩
    exact def_ok (g := b_law_pot) (ref_seq (ref_set (ref_op ok_add (ref_op ok_mul (ref_int 7) (ref_var 1)) (ref_cb ok_len (ref_cons (ref_var 0) ref_nil))))
      (ref_seq (ref_ifs (ref_test (ref_op ok_lt (ref_var 1) (ref_cb ok_len (ref_cons (ref_var 0) ref_nil)))) (ref_set (ref_op ok_ix (ref_var 0) (ref_var 1))) ref_next)
      (ref_seq (ref_set (ref_op ok_mul (ref_op ok_mod (ref_cb ok_abs (ref_cons (ref_var 2) ref_nil)) (ref_op ok_pow (ref_op ok_pow (ref_int 10) (ref_int 60)) (ref_int 3))) (ref_cb ok_intC (ref_cons (ref_op ok_ge (ref_cb ok_abs (ref_cons (ref_var 2) ref_nil)) (ref_op ok_pow (ref_int 10) (ref_int 18))) ref_nil))))
      (ref_seq (ref_set (ref_op ok_add (ref_op ok_add (ref_op ok_mod (ref_cb ok_abs (ref_cons (ref_var 2) ref_nil)) (ref_int 2147483629)) (ref_op ok_mul (ref_op ok_mul (ref_int 7919) (ref_var 1)) (ref_var 1))) (ref_int 11)))
      (ref_ret (ref_lst (ref_cons (ref_var 3) (ref_cons (ref_op ok_mod (ref_op ok_mul (ref_op ok_mod (ref_op ok_mul (ref_var 4) (ref_var 4)) (ref_int 2147483629)) (ref_int 48271)) (ref_int 2147483647)) ref_nil)))))))) rfl h
theorem sc_law_take : FnScope ["_law_pot_here", "_law_many", "_law_digit"] ["_law_pot_here", "_law_many"] (defScope s_law_take) := ⟨rfl, rfl, rfl, by decide +kernel, rfl, by decide +kernel, by decide +kernel⟩
theorem ok_law_take (T : Txt K mg fs fds tc u)  : FnOk P w K mg base CX0 1 (fs 7) (fds 7) ["_law_pot_here", "_law_many"] (spM K [.m, .b] false fn_law_take) := by
  refine T.d_law_take.F.ok sc_law_take (fun vs H Q E h => ?_) (fun cdv A outer s H vs Q E hr h => ?_)
  · obtain ⟨_, _, _, _, _, hl, _⟩ := h; exact hl
  · refine ⟨_, (pss_cons (ps_if (pt_cmpR op_gt (pe_ix (ixX K hr) (pv 0) pe_int (fun _ _ => rfl)) pe_int (nomark _)) (pss_cons (ps_set (i := 2) sc_law_take.nd rfl (Or.inl rfl) (pe_op op_mod (pe_ix (ixX K hr) (pv 0) pe_int (fun _ _ => rfl)) (pv 1)))
      (pss_cons (ps_asg (pe_op op_fdivB (pe_ix (ixX K hr) (pv 0) pe_int (fun _ _ => rfl)) (pv 1)) (pg_sub (pv 0) pe_int set_list))
      (pss_one (ps_ret (pv 2))))) pss_nil)
      (pss_cons (ps_asg (pe_op op_mod (pe_op (addX K) (pe_op op_mul (pe_ix (ixX K hr) (pv 0) pe_int (fun _ _ => rfl)) pe_int) pe_int) pe_int) (pg_sub (pv 0) pe_int set_list))
      (pss_one (ps_ret (pe_op op_mod (pe_op op_fdivB (pe_op op_mod (pe_op op_mul (pe_op op_fdivB (pe_ix (ixX K hr) (pv 0) pe_int (fun _ _ => rfl)) pe_int) (pe_op (addX K) (pe_op op_mod (pe_ix (ixX K hr) (pv 0) pe_int (fun _ _ => rfl)) pe_int) pe_int)) pe_int) pe_int) (pv 1)))))), ?_⟩
    exact def_ok (g := b_law_take) (ref_seq (ref_ifs (ref_test (ref_op ok_gt (ref_op ok_ix (ref_var 0) (ref_int 0)) (ref_int 0))) (ref_seq (ref_set (ref_op ok_mod (ref_op ok_ix (ref_var 0) (ref_int 0)) (ref_var 1)))
      (ref_seq (ref_setIx (ref_op ok_div (ref_op ok_ix (ref_var 0) (ref_int 0)) (ref_var 1)) (ref_int 0))
      (ref_ret (ref_var 2)))) ref_next)
      (ref_seq (ref_setIx (ref_op ok_mod (ref_op ok_add (ref_op ok_mul (ref_op ok_ix (ref_var 0) (ref_int 1)) (ref_int 48271)) (ref_int 12345)) (ref_int 2147483647)) (ref_int 1))
      (ref_ret (ref_op ok_mod (ref_op ok_div (ref_op ok_mod (ref_op ok_mul (ref_op ok_div (ref_op ok_ix (ref_var 0) (ref_int 1)) (ref_int 7)) (ref_op ok_add (ref_op ok_mod (ref_op ok_ix (ref_var 0) (ref_int 1)) (ref_int 65537)) (ref_int 3))) (ref_int 1999999973)) (ref_int 5)) (ref_var 1))))) rfl h
theorem sc_law_elders : FnScope ["_law_names", "_law_depths", "_law_found", "_law_at", "_law_name_here", "_law_elder", "_law_ahead"] ["_law_names", "_law_depths"] (defScope s_law_elders) := ⟨rfl, rfl, rfl, by decide +kernel, rfl, by decide +kernel, by decide +kernel⟩
theorem ok_law_elders (T : Txt K mg fs fds tc u)  : FnOk P w K mg base CX0 1 (fs 10) (fds 10) ["_law_names", "_law_depths"] (spM K [.v, .v] false fn_law_elders) := by
  refine T.d_law_elders.F.ok sc_law_elders (fun vs H Q E h => ?_) (fun cdv A outer s H vs Q E hr h => ?_)
  · obtain ⟨_, _, _, _, _, hl, _⟩ := h; exact hl
  · refine ⟨_, (pss_cons (ps_set (i := 2) sc_law_elders.nd rfl (Or.inl rfl) (pe_lst pa_nil))
      (pss_cons (ps_for PassesOwn.never rfl (pi_enmA K rfl T.z_enumerate (pa_cons (pv 0) pa_nil)) (pg_tupK (n := 2) K rfl (pgs_cons (pg_name (i := 3) sc_law_elders.nd rfl (Or.inl rfl)) (pgs_cons (pg_name (i := 4) sc_law_elders.nd rfl (Or.inl rfl)) pgs_nil))) (pss_cons (ps_set (i := 5) sc_law_elders.nd rfl (Or.inl rfl) pe_non)
      (pss_cons (ps_for PassesOwn.never rfl (pi_range1 rfl T.z_range (pa_cons (pv 3) pa_nil)) (pg_name (i := 6) sc_law_elders.nd rfl (Or.inl rfl)) (pss_one (ps_if (pt_cmpR (eqPX K hr) (pe_ix (ixX K hr) (pv 1) (pv 6) (fun _ _ => rfl)) (pe_op op_sub (pe_ix (ixX K hr) (pv 1) (pv 3) (fun _ _ => rfl)) pe_int) (nomark _)) (pss_one (ps_set (i := 5) sc_law_elders.nd rfl (Or.inl rfl) (pe_ix (ixX K hr) (pv 0) (pv 6) (fun _ _ => rfl)))) pss_nil)))
      (pss_one (ps_expr (pe_bmK K PySem.F.plainAttrs_list PySem.F.slot_list_append PySem.F.type_list_append mt_append (pv 2) (pa_cons (pe_tup (pa_cons (pv 4) (pa_cons (pv 5) pa_nil))) pa_nil)))))))
      (pss_one (ps_ret (pe_callTy (tupX K) (by rfl) T.z_tuple bt_tuple (pa_cons (pe_callB (sortX K hr) (by rfl) T.z_sorted bt_sorted (pa_cons (pv 2) pa_nil)) pa_nil)))))), ?_⟩
    exact def_ok (g := b_law_elders) (ref_seq (ref_setL (ref_lst ref_nil))
      (ref_seq (ref_for (ref_enmA (ref_cons (ref_var 0) ref_nil)) (ref_gtup (ref_gcons (ref_gname 3) (ref_gcons (ref_gname 4) ref_gnil))) (ref_seq (ref_set ref_non)
      (ref_seq (ref_for (ref_rg1 (ref_cons (ref_var 3) ref_nil)) (ref_gname 6) (ref_ifs (ref_test (ref_op ok_eq (ref_op ok_ix (ref_var 1) (ref_var 6)) (ref_op ok_sub (ref_op ok_ix (ref_var 1) (ref_var 3)) (ref_int 1)))) (ref_set (ref_op ok_ix (ref_var 0) (ref_var 6))) ref_next))
      (ref_app (ref_tup (ref_cons (ref_var 4) (ref_cons (ref_var 5) ref_nil)))))))
      (ref_ret (ref_cb ok_tupC (ref_cons (ref_cb ok_sortX (ref_cons (ref_var 2) ref_nil)) ref_nil))))) rfl h
theorem sc_rows_in : FnScope ["text", "rows"] ["text"] (defScope s_rows_in) := ⟨rfl, rfl, rfl, by decide +kernel, rfl, by decide +kernel, by decide +kernel⟩
theorem ok_rows_in (T : Txt K mg fs fds tc u) (G_checked : FnOk P w K mg base CX0 1 (fs 1) (fds 1) ["text"] (spM K [.v] false fn_checked)) : FnOk P w K mg base CX0 2 (fs 2) (fds 2) ["text"] (spM K [.v] false fn_rows_in) := by
  refine T.d_rows_in.F.ok sc_rows_in (fun vs H Q E h => ?_) (fun cdv A outer s H vs Q E hr h => ?_)
  · obtain ⟨_, _, _, _, _, hl, _⟩ := h; exact hl
  · refine ⟨_, (pss_cons (ps_set (i := 1) sc_rows_in.nd rfl (Or.inl rfl) (pe_bmK K PySem.F.plainAttrs_str PySem.F.slot_str_split PySem.F.type_str_split mt_split (pe_fn T.d_checked G_checked hr (by decide) rfl (pa_cons (pv 0) pa_nil)) (pa_cons pe_str pa_nil)))
      (pss_one (ps_ret (pe_ifExp (pt_cmpR (eqPX K hr) (pv 1) (pe_lst (pa_cons pe_str pa_nil)) (nomark _)) (pe_lst pa_nil) (pv 1))))), ?_⟩
    exact def_ok (g := b_rows_in) (ref_seq (ref_set (ref_bm ok_splitX (ref_call (ref_cons (ref_var 0) ref_nil)) (ref_cons (ref_str "\n") ref_nil)))
      (ref_ret (ref_if (ref_test (ref_op ok_eq (ref_var 1) (ref_lst (ref_cons (ref_str "") ref_nil)))) (ref_lst ref_nil) (ref_var 1)))) rfl h
theorem sc_place_in : FnScope ["row", "text", "blanks", "name", "blank", "sign"] ["row"] (defScope s_place_in) := ⟨rfl, rfl, rfl, by decide +kernel, rfl, by decide +kernel, by decide +kernel⟩
theorem ok_place_in (T : Txt K mg fs fds tc u) (G_is_name : FnOk P w K mg base CX0 1 (fs 0) (fds 0) ["thing"] (spM K [.b] false fn_is_name)) : FnOk P w K mg base CX0 2 (fs 4) (fds 4) ["row"] (spM K [.b] false fn_place_in) := by
  refine T.d_place_in.F.ok sc_place_in (fun vs H Q E h => ?_) (fun cdv A outer s H vs Q E hr h => ?_)
  · obtain ⟨_, _, _, _, _, hl, _⟩ := h; exact hl
  · refine ⟨_, (pss_cons (ps_set (i := 1) sc_place_in.nd rfl (Or.inl rfl) (pe_bmK K PySem.F.plainAttrs_str PySem.F.slot_str_lstrip PySem.F.type_str_lstrip mt_lstrip (pv 0) (pa_cons pe_str pa_nil)))
      (pss_cons (ps_set (i := 2) sc_place_in.nd rfl (Or.inl rfl) (pe_op op_sub (pe_callB (lenX K) (by rfl) T.z_len bt_len (pa_cons (pv 0) pa_nil)) (pe_callB (lenX K) (by rfl) T.z_len bt_len (pa_cons (pv 1) pa_nil))))
      (pss_cons (ps_asg (pe_bmK K PySem.F.plainAttrs_str PySem.F.slot_str_partition PySem.F.type_str_partition mt_partition (pv 1) (pa_cons pe_str pa_nil)) (pg_tupK (n := 3) K rfl (pgs_cons (pg_name (i := 3) sc_place_in.nd rfl (Or.inl rfl)) (pgs_cons (pg_name (i := 4) sc_place_in.nd rfl (Or.inl rfl)) (pgs_cons (pg_name (i := 5) sc_place_in.nd rfl (Or.inl rfl)) pgs_nil)))))
      (pss_cons (ps_if (PW.pt (pw_or (pt_not (pt_val (pe_fn T.d_is_name G_is_name hr (by decide) rfl (pa_cons (pv 3) pa_nil)))) (pw_or1 (pt_cmpR (notInX K hr) (pe_op (addX K) (pv 4) (pv 5)) (pe_tup (pa_cons pe_str (pa_cons (pe_glob (v := .str " ?") rfl T.c_EMPTY T.r_EMPTY) (pa_cons (pe_glob (v := .str " *") rfl T.c_UNREAD T.r_UNREAD) pa_nil)))) (by rfl))))) (pss_one (ps_ret pe_non)) pss_nil)
      (pss_one (ps_ret (pe_ifExp (pt_cmpR (eqPX K hr) (pe_op op_mod (pv 2) pe_int) pe_int (nomark _)) (pe_tup (pa_cons (pe_op op_fdivB (pv 2) pe_int) (pa_cons (pv 3) pa_nil))) pe_non))))))), ?_⟩
    exact def_ok (g := b_place_in) (ref_seq (ref_set (ref_bm ok_lstrip (ref_var 0) (ref_cons (ref_str " ") ref_nil)))
      (ref_seq (ref_set (ref_op ok_sub (ref_cb ok_len (ref_cons (ref_var 0) ref_nil)) (ref_cb ok_len (ref_cons (ref_var 1) ref_nil))))
      (ref_seq (ref_asg (ref_bm ok_partition (ref_var 1) (ref_cons (ref_str " ") ref_nil)) (ref_gtup (ref_gcons (ref_gname 3) (ref_gcons (ref_gname 4) (ref_gcons (ref_gname 5) ref_gnil)))))
      (ref_seq (ref_ifs (ref_or (ref_not (ref_tB (ref_call (ref_cons (ref_var 3) ref_nil)))) (ref_test (ref_op (ok_in true) (ref_op ok_add (ref_var 4) (ref_var 5)) (ref_tup (ref_cons (ref_str "") (ref_cons (ref_str " ?") (ref_cons (ref_str " *") ref_nil))))))) (ref_ret ref_non) ref_next)
      (ref_ret (ref_if (ref_test (ref_op ok_eq (ref_op ok_mod (ref_var 2) (ref_int 2)) (ref_int 0))) (ref_tup (ref_cons (ref_op ok_div (ref_var 2) (ref_int 2)) (ref_cons (ref_var 3) ref_nil))) ref_non)))))) rfl h
theorem sc_law_name : FnScope ["_law_pot_here", "_law_signs", "_law_choice"] ["_law_pot_here"] (defScope s_law_name) := ⟨rfl, rfl, rfl, by decide +kernel, rfl, by decide +kernel, by decide +kernel⟩
theorem ok_law_name (T : Txt K mg fs fds tc u) (G_law_take : FnOk P w K mg base CX0 1 (fs 7) (fds 7) ["_law_pot_here", "_law_many"] (spM K [.m, .b] false fn_law_take)) : FnOk P w K mg base CX0 2 (fs 8) (fds 8) ["_law_pot_here"] (spM K [.m] false fn_law_name) := by
  refine T.d_law_name.F.ok sc_law_name (fun vs H Q E h => ?_) (fun cdv A outer s H vs Q E hr h => ?_)
  · obtain ⟨_, _, _, _, _, hl, _⟩ := h; exact hl
  · refine ⟨_, (pss_cons (ps_set (i := 1) sc_law_name.nd rfl (Or.inr rfl) pe_str)
      (pss_cons (ps_set (i := 2) sc_law_name.nd rfl (Or.inl rfl) (pe_fn T.d_law_take G_law_take hr (by decide) rfl (pa_cons (pv 0) (pa_cons pe_int pa_nil))))
      (pss_cons (ps_if (pt_cmpR (eqPX K hr) (pv 2) pe_int (nomark _)) (pss_one (ps_ret (pe_bmK K PySem.F.plainAttrs_str PySem.F.slot_str_join PySem.F.type_str_join (joinK K) pe_str (pa_cons (pe_lc ["_law_k", "_law_signs", "_law_pot_here"] 1 [1, 0] ["_law_pot_here", "_law_signs", "_law_choice"] (defScope s_law_name) rfl rfl rfl (pi_range1 rfl T.z_range (pa_cons (pe_op (addX K) pe_int (pe_fn T.d_law_take G_law_take hr (by decide) rfl (pa_cons (pv 0) (pa_cons pe_int pa_nil)))) pa_nil)) (by decide +kernel) (fun _ => (pg_name (i := 0) (show (["_law_k", "_law_signs", "_law_pot_here"] : List Str).Nodup by decide +kernel) rfl (Or.inl rfl))) (fun _ => pts_nil) (fun _ => (pe_ix (ixX K hr) (pv 1) (pe_fn T.d_law_take G_law_take hr (by decide) rfl (pa_cons (pv 2) (pa_cons pe_int pa_nil))) (fun _ _ => rfl)))) pa_nil)))) pss_nil)
      (pss_cons (ps_if (pt_cmpR (eqPX K hr) (pv 2) pe_int (nomark _)) (pss_one (ps_ret (pe_bmK K PySem.F.plainAttrs_str PySem.F.slot_str_join PySem.F.type_str_join (joinK K) pe_str (pa_cons (pe_lc ["_law_k", "_law_signs", "_law_pot_here"] 1 [1, 0] ["_law_pot_here", "_law_signs", "_law_choice"] (defScope s_law_name) rfl rfl rfl (pi_range1 rfl T.z_range (pa_cons pe_int pa_nil)) (by decide +kernel) (fun _ => (pg_name (i := 0) (show (["_law_k", "_law_signs", "_law_pot_here"] : List Str).Nodup by decide +kernel) rfl (Or.inl rfl))) (fun _ => pts_nil) (fun _ => (pe_ix (ixX K hr) (pv 1) (pe_fn T.d_law_take G_law_take hr (by decide) rfl (pa_cons (pv 2) (pa_cons pe_int pa_nil))) (fun _ _ => rfl)))) pa_nil)))) pss_nil)
      (pss_one (ps_ret (pe_bmK K PySem.F.plainAttrs_str PySem.F.slot_str_join PySem.F.type_str_join (joinK K) pe_str (pa_cons (pe_lc ["_law_k", "_law_signs", "_law_pot_here"] 1 [1, 0] ["_law_pot_here", "_law_signs", "_law_choice"] (defScope s_law_name) rfl rfl rfl (pi_range1 rfl T.z_range (pa_cons (pe_op (addX K) pe_int (pe_fn T.d_law_take G_law_take hr (by decide) rfl (pa_cons (pv 0) (pa_cons pe_int pa_nil)))) pa_nil)) (by decide +kernel) (fun _ => (pg_name (i := 0) (show (["_law_k", "_law_signs", "_law_pot_here"] : List Str).Nodup by decide +kernel) rfl (Or.inl rfl))) (fun _ => pts_nil) (fun _ => (pe_ix (ixX K hr) (pv 1) (pe_fn T.d_law_take G_law_take hr (by decide) rfl (pa_cons (pv 2) (pa_cons pe_int pa_nil))) (fun _ _ => rfl)))) pa_nil)))))))), ?_⟩
    exact def_ok (g := b_law_name) (ref_seq (ref_set (ref_str "abcdefghijklmnopqrstuvwxyz0123456789"))
      (ref_seq (ref_set (ref_call (ref_cons (ref_var 0) (ref_cons (ref_int 4) ref_nil))))
      (ref_seq (ref_ifs (ref_test (ref_op ok_eq (ref_var 2) (ref_int 0))) (ref_ret (ref_bm ok_join (ref_str "") (ref_cons (ref_comp2 [(0, 2)] (by rfl) (ref_rg1 (ref_cons (ref_op ok_add (ref_int 1) (ref_call (ref_cons (ref_var 0) (ref_cons (ref_int 12) ref_nil)))) ref_nil)) (ref_gname 0) ref_true (ref_op ok_ix (ref_var 1) (ref_call (ref_cons (ref_var 2) (ref_cons (ref_int 36) ref_nil))))) ref_nil))) ref_next)
      (ref_seq (ref_ifs (ref_test (ref_op ok_eq (ref_var 2) (ref_int 1))) (ref_ret (ref_bm ok_join (ref_str "") (ref_cons (ref_comp2 [(0, 2)] (by rfl) (ref_rg1 (ref_cons (ref_int 12) ref_nil)) (ref_gname 0) ref_true (ref_op ok_ix (ref_var 1) (ref_call (ref_cons (ref_var 2) (ref_cons (ref_int 36) ref_nil))))) ref_nil))) ref_next)
      (ref_ret (ref_bm ok_join (ref_str "") (ref_cons (ref_comp2 [(0, 2)] (by rfl) (ref_rg1 (ref_cons (ref_op ok_add (ref_int 1) (ref_call (ref_cons (ref_var 0) (ref_cons (ref_int 2) ref_nil)))) ref_nil)) (ref_gname 0) ref_true (ref_op ok_ix (ref_var 1) (ref_call (ref_cons (ref_var 2) (ref_cons (ref_int 3) ref_nil))))) ref_nil))))))) rfl h
theorem sc_law_rows : FnScope ["_law_pot_here", "_law_names", "_law_depths", "_law_rows_here", "_law_name_here", "_law_depth"] ["_law_pot_here", "_law_names", "_law_depths"] (defScope s_law_rows) := ⟨rfl, rfl, rfl, by decide +kernel, rfl, by decide +kernel, by decide +kernel⟩
theorem ok_law_rows (T : Txt K mg fs fds tc u) (G_law_take : FnOk P w K mg base CX0 1 (fs 7) (fds 7) ["_law_pot_here", "_law_many"] (spM K [.m, .b] false fn_law_take)) : FnOk P w K mg base CX0 2 (fs 11) (fds 11) ["_law_pot_here", "_law_names", "_law_depths"] (spM K [.m, .v, .v] false fn_law_rows) := by
  refine T.d_law_rows.F.ok sc_law_rows (fun vs H Q E h => ?_) (fun cdv A outer s H vs Q E hr h => ?_)
  · obtain ⟨_, _, _, _, _, hl, _⟩ := h; exact hl
  · refine ⟨_, (pss_cons (ps_set (i := 3) sc_law_rows.nd rfl (Or.inl rfl) (pe_lst pa_nil))
      (pss_cons (ps_for PassesOwn.never rfl (pi_zipK K rfl T.z_zip (pa_cons (pv 1) (pa_cons (pv 2) pa_nil))) (pg_tupK (n := 2) K rfl (pgs_cons (pg_name (i := 4) sc_law_rows.nd rfl (Or.inl rfl)) (pgs_cons (pg_name (i := 5) sc_law_rows.nd rfl (Or.inl rfl)) pgs_nil))) (pss_one (ps_expr (pe_bmK K PySem.F.plainAttrs_list PySem.F.slot_list_append PySem.F.type_list_append mt_append (pv 3) (pa_cons (pe_op (addX K) (pe_op (addX K) (pe_bmK K PySem.F.plainAttrs_str PySem.F.slot_str_join PySem.F.type_str_join (joinK K) pe_str (pa_cons (pe_lc ["_law_k"] 1 [] ["_law_pot_here", "_law_names", "_law_depths", "_law_rows_here", "_law_name_here", "_law_depth"] (defScope s_law_rows) rfl rfl rfl (pi_range1 rfl T.z_range (pa_cons (pv 5) pa_nil)) (by decide +kernel) (fun _ => (pg_name (i := 0) (show (["_law_k"] : List Str).Nodup by decide +kernel) rfl (Or.inl rfl))) (fun _ => pts_nil) (fun _ => pe_str)) pa_nil)) (pv 4)) (pe_ix (ixX K hr) (pe_lst (pa_cons pe_str (pa_cons pe_str (pa_cons pe_str pa_nil)))) (pe_fn T.d_law_take G_law_take hr (by decide) rfl (pa_cons (pv 0) (pa_cons pe_int pa_nil))) (fun _ _ => rfl))) pa_nil)))))
      (pss_one (ps_ret (pv 3))))), ?_⟩
    exact def_ok (g := b_law_rows) (ref_seq (ref_setL (ref_lst ref_nil))
      (ref_seq (ref_for (ref_zip (ref_cons (ref_var 1) (ref_cons (ref_var 2) ref_nil))) (ref_gtup (ref_gcons (ref_gname 4) (ref_gcons (ref_gname 5) ref_gnil))) (ref_app (ref_op ok_add (ref_op ok_add (ref_bm ok_join (ref_str "") (ref_cons (ref_comp2 [] (by rfl) (ref_rg1 (ref_cons (ref_var 5) ref_nil)) (ref_gname 0) ref_true (ref_str "  ")) ref_nil)) (ref_var 4)) (ref_op ok_ix (ref_lst (ref_cons (ref_str "") (ref_cons (ref_str " ?") (ref_cons (ref_str " *") ref_nil)))) (ref_call (ref_cons (ref_var 0) (ref_cons (ref_int 3) ref_nil)))))))
      (ref_ret (ref_var 3)))) rfl h
theorem sc_read_drawn : FnScope ["text", "above", "path", "at", "row", "depth", "name"] ["text"] (defScope s_read_drawn) := ⟨rfl, rfl, rfl, by decide +kernel, rfl, by decide +kernel, by decide +kernel⟩
theorem ok_read_drawn (T : Txt K mg fs fds tc u) (G_rows_in : FnOk P w K mg base CX0 2 (fs 2) (fds 2) ["text"] (spM K [.v] false fn_rows_in)) (G_needed : FnOk P w K mg base CX0 1 (fs 3) (fds 3) ["thing", "row"] (spM K [.v, .b] false fn_needed)) (G_place_in : FnOk P w K mg base CX0 2 (fs 4) (fds 4) ["row"] (spM K [.b] false fn_place_in)) : FnOk P w K mg base CX0 3 (fs 5) (fds 5) ["text"] (spM K [.v] false fn_read_drawn) := by
  refine T.d_read_drawn.F.ok sc_read_drawn (fun vs H Q E h => ?_) (fun cdv A outer s H vs Q E hr h => ?_)
  · obtain ⟨_, _, _, _, _, hl, _⟩ := h; exact hl
  · refine ⟨_, (pss_cons (ps_set (i := 1) sc_read_drawn.nd rfl (Or.inr rfl) pe_dnewK)
      (pss_cons (ps_set (i := 2) sc_read_drawn.nd rfl (Or.inl rfl) (pe_lst pa_nil))
      (pss_cons (ps_for PassesOwn.never rfl (pi_enmA K rfl T.z_enumerate (pa_cons (pe_fn T.d_rows_in G_rows_in hr (by decide) rfl (pa_cons (pv 0) pa_nil)) pa_nil)) (pg_tupK (n := 2) K rfl (pgs_cons (pg_name (i := 3) sc_read_drawn.nd rfl (Or.inl rfl)) (pgs_cons (pg_name (i := 4) sc_read_drawn.nd rfl (Or.inl rfl)) pgs_nil))) (pss_cons (ps_asg (pe_fn T.d_needed G_needed hr (by decide) rfl (pa_cons (pe_fn T.d_place_in G_place_in hr (by decide) rfl (pa_cons (pv 4) pa_nil)) (pa_cons (pv 3) pa_nil))) (pg_tupK (n := 2) K rfl (pgs_cons (pg_name (i := 5) sc_read_drawn.nd rfl (Or.inl rfl)) (pgs_cons (pg_name (i := 6) sc_read_drawn.nd rfl (Or.inl rfl)) pgs_nil))))
      (pss_cons (ps_if (PW.pt (pw_or (pt_cmpR op_gt (pv 5) (pe_callB (lenX K) (by rfl) T.z_len bt_len (pa_cons (pv 2) pa_nil)) (nomark _)) (pw_or1 (pt_cmpR (inX K hr) (pv 6) (pv 1) (by rfl))))) (pss_one ps_never) pss_nil)
      (pss_cons (ps_delS (pv 2) (pv 5))
      (pss_cons (ps_dput (hu_of hr) (pv 1) (pv 6) (pe_ifExp (pt_truthK K (pv 2) (fun _ => rfl)) (pe_ix (ixX K hr) (pv 2) (pe_un un_neg pe_int) (fun _ _ => rfl)) pe_non) rfl)
      (pss_one (ps_expr (pe_bmK K PySem.F.plainAttrs_list PySem.F.slot_list_append PySem.F.type_list_append mt_append (pv 2) (pa_cons (pv 6) pa_nil)))))))))
      (pss_one (ps_ret (pe_callTy (tupX K) (by rfl) T.z_tuple bt_tuple (pa_cons (pe_lc ["name", "above"] 1 [1] ["text", "above", "path", "at", "row", "depth", "name"] (defScope s_read_drawn) rfl rfl rfl (pi_any K (pe_callB (sortX K hr) (by rfl) T.z_sorted bt_sorted (pa_cons (pv 1) pa_nil))) (by decide +kernel) (fun _ => (pg_name (i := 0) (show (["name", "above"] : List Str).Nodup by decide +kernel) rfl (Or.inl rfl))) (fun _ => pts_nil) (fun _ => (pe_tup (pa_cons (pv 0) (pa_cons (pe_ix (ixX K hr) (pv 1) (pv 0) (fun _ _ => rfl)) pa_nil))))) pa_nil))))))), ?_⟩
    exact def_ok (g := b_read_drawn) (ref_seq (ref_setL ref_dnew)
      (ref_seq (ref_setL (ref_lst ref_nil))
      (ref_seq (ref_for (ref_enmA (ref_cons (ref_call (ref_cons (ref_var 0) ref_nil)) ref_nil)) (ref_gtup (ref_gcons (ref_gname 3) (ref_gcons (ref_gname 4) ref_gnil))) (ref_seq (ref_asg (ref_call (ref_cons (ref_call (ref_cons (ref_var 4) ref_nil)) (ref_cons (ref_var 3) ref_nil))) (ref_gtup (ref_gcons (ref_gname 5) (ref_gcons (ref_gname 6) ref_gnil))))
      (ref_seq (ref_ifs (ref_or (ref_test (ref_op ok_gt (ref_var 5) (ref_cb ok_len (ref_cons (ref_var 2) ref_nil)))) (ref_test (ref_op (ok_in false) (ref_var 6) (ref_var 1)))) ref_none ref_next)
      (ref_seq (ref_delS (ref_var 5))
      (ref_seq (ref_dput (ref_if (ref_tru (ref_var 2)) (ref_op ok_ix (ref_var 2) (ref_un ok_neg (ref_int 1))) ref_non) (ref_var 6))
      (ref_app (ref_var 6)))))))
      (ref_ret (ref_cb ok_tupC (ref_cons (ref_comp2 [] (by rfl) (ref_it (ref_cb ok_sortX (ref_cons (ref_var 1) ref_nil))) (ref_gname 0) ref_true (ref_tup (ref_cons (ref_var 0) (ref_cons (ref_op ok_ix (ref_var 1) (ref_var 0)) ref_nil)))) ref_nil)))))) rfl h
theorem sc_law_drawing : FnScope ["_law_pot_here", "_law_most", "_law_names", "_law_depths", "_law_chain", "_law_k", "_law_name_here", "_law_depth"] ["_law_pot_here", "_law_most"] (defScope s_law_drawing) := ⟨rfl, rfl, rfl, by decide +kernel, rfl, by decide +kernel, by decide +kernel⟩
theorem ok_law_drawing (T : Txt K mg fs fds tc u) (G_law_take : FnOk P w K mg base CX0 1 (fs 7) (fds 7) ["_law_pot_here", "_law_many"] (spM K [.m, .b] false fn_law_take)) (G_law_name : FnOk P w K mg base CX0 2 (fs 8) (fds 8) ["_law_pot_here"] (spM K [.m] false fn_law_name)) : FnOk P w K mg base CX0 3 (fs 9) (fds 9) ["_law_pot_here", "_law_most"] (spM K [.m, .b] false fn_law_drawing) := by
  refine T.d_law_drawing.F.ok sc_law_drawing (fun vs H Q E h => ?_) (fun cdv A outer s H vs Q E hr h => ?_)
  · obtain ⟨_, _, _, _, _, hl, _⟩ := h; exact hl
  · refine ⟨_, (pss_cons (ps_set (i := 2) sc_law_drawing.nd rfl (Or.inl rfl) (pe_lst pa_nil))
      (pss_cons (ps_set (i := 3) sc_law_drawing.nd rfl (Or.inl rfl) (pe_lst pa_nil))
      (pss_cons (ps_set (i := 4) sc_law_drawing.nd rfl (Or.inl rfl) (pe_cmpR (eqPX K hr) (pe_fn T.d_law_take G_law_take hr (by decide) rfl (pa_cons (pv 0) (pa_cons pe_int pa_nil))) pe_int (nomark _)))
      (pss_cons (ps_for PassesOwn.never rfl (pi_range1 rfl T.z_range (pa_cons (pe_fn T.d_law_take G_law_take hr (by decide) rfl (pa_cons (pv 0) (pa_cons (pe_op (addX K) (pv 1) pe_int) pa_nil))) pa_nil)) (pg_name (i := 5) sc_law_drawing.nd rfl (Or.inl rfl)) (pss_cons (ps_set (i := 6) sc_law_drawing.nd rfl (Or.inl rfl) (pe_fn T.d_law_name G_law_name hr (by decide) rfl (pa_cons (pv 0) pa_nil)))
      (pss_cons (ps_set (i := 7) sc_law_drawing.nd rfl (Or.inl rfl) (pe_op op_mul (pe_fn T.d_law_take G_law_take hr (by decide) rfl (pa_cons (pv 0) (pa_cons (pe_op (addX K) (pe_callB (sumL K) (by rfl) T.z_sum bt_sum (pa_cons (pe_slice (slX K) (pv 3) (po_some (pe_un un_neg pe_int)) po_none) pa_nil)) pe_int) pa_nil))) (pe_callTy call_int1 (by rfl) T.z_int bt_int (pa_cons (pe_cmpR (nePX K hr) (pv 3) (pe_lst pa_nil) (nomark _)) pa_nil))))
      (pss_cons (ps_if (PW.pt (pw_and (pt_truthK K (pv 4) (fun _ => rfl)) (pw_and1 (pt_cmpR (nePX K hr) (pv 3) (pe_lst pa_nil) (nomark _))))) (pss_one (ps_set (i := 7) sc_law_drawing.nd rfl (Or.inl rfl) (pe_op (addX K) (pe_ix (ixX K hr) (pv 3) (pe_un un_neg pe_int) (fun _ _ => rfl)) pe_int))) pss_nil)
      (pss_one (ps_if (pt_cmpR (notInX K hr) (pv 6) (pv 2) (by rfl)) (pss_cons (ps_expr (pe_bmK K PySem.F.plainAttrs_list PySem.F.slot_list_append PySem.F.type_list_append mt_append (pv 2) (pa_cons (pv 6) pa_nil)))
      (pss_one (ps_expr (pe_bmK K PySem.F.plainAttrs_list PySem.F.slot_list_append PySem.F.type_list_append mt_append (pv 3) (pa_cons (pv 7) pa_nil))))) pss_nil))))))
      (pss_one (ps_ret (pe_tup (pa_cons (pv 2) (pa_cons (pv 3) pa_nil))))))))), ?_⟩
    exact def_ok (g := b_law_drawing) (ref_seq (ref_setL (ref_lst ref_nil))
      (ref_seq (ref_setL (ref_lst ref_nil))
      (ref_seq (ref_set (ref_op ok_eq (ref_call (ref_cons (ref_var 0) (ref_cons (ref_int 4) ref_nil))) (ref_int 0)))
      (ref_seq (ref_for (ref_rg1 (ref_cons (ref_call (ref_cons (ref_var 0) (ref_cons (ref_op ok_add (ref_var 1) (ref_int 1)) ref_nil))) ref_nil)) (ref_gname 5) (ref_seq (ref_set (ref_call (ref_cons (ref_var 0) ref_nil)))
      (ref_seq (ref_set (ref_op ok_mul (ref_call (ref_cons (ref_var 0) (ref_cons (ref_op ok_add (ref_cb ok_sum (ref_cons (ref_sl ok_sl (ref_var 3) (ref_part (ref_un ok_neg (ref_int 1))) ref_nopart) ref_nil)) (ref_int 2)) ref_nil))) (ref_cb ok_intC (ref_cons (ref_op ok_ne (ref_var 3) (ref_lst ref_nil)) ref_nil))))
      (ref_seq (ref_ifs (ref_and (ref_tru (ref_var 4)) (ref_test (ref_op ok_ne (ref_var 3) (ref_lst ref_nil)))) (ref_set (ref_op ok_add (ref_op ok_ix (ref_var 3) (ref_un ok_neg (ref_int 1))) (ref_int 1))) ref_next)
      (ref_ifs (ref_test (ref_op (ok_in true) (ref_var 6) (ref_var 2))) (ref_seq (ref_app (ref_var 6))
      (ref_app (ref_var 7))) ref_next)))))
      (ref_rel 2 (ref_rel 3 (ref_ret (ref_tup (ref_cons (ref_var 2) (ref_cons (ref_var 3) ref_nil)))))))))) rfl h
theorem sc_law : FnScope ["_law_script", "_law_k", "_law_pot_here", "_law_names", "_law_depths", "_law_due", "_law_first", "_law_second", "_law_text", "_law_found"] ["_law_script"] (defScope s_law) := ⟨rfl, rfl, rfl, by decide +kernel, rfl, by decide +kernel, by decide +kernel⟩
theorem ok_law (T : Txt K mg fs fds tc u) (G_law_pot : FnOk P w K mg base CX0 1 (fs 6) (fds 6) ["_law_script", "_law_k"] (spM K [.b, .b] true fn_law_pot)) (G_law_drawing : FnOk P w K mg base CX0 3 (fs 9) (fds 9) ["_law_pot_here", "_law_most"] (spM K [.m, .b] false fn_law_drawing)) (G_law_elders : FnOk P w K mg base CX0 1 (fs 10) (fds 10) ["_law_names", "_law_depths"] (spM K [.v, .v] false fn_law_elders)) (G_law_rows : FnOk P w K mg base CX0 2 (fs 11) (fds 11) ["_law_pot_here", "_law_names", "_law_depths"] (spM K [.m, .v, .v] false fn_law_rows)) (G_read_drawn : FnOk P w K mg base CX0 3 (fs 5) (fds 5) ["text"] (spM K [.v] false fn_read_drawn)) : FnOk P w K mg base CX0 4 (fs 12) (fds 12) ["_law_script"] (spM K [.b] false fn_law) := by
  refine T.d_law.F.ok sc_law (fun vs H Q E h => ?_) (fun cdv A outer s H vs Q E hr h => ?_)
  · obtain ⟨_, _, _, _, _, hl, _⟩ := h; exact hl
  · refine ⟨_, (pss_cons (ps_for PassesOwn.never rfl (pi_range1 rfl T.z_range (pa_cons (pe_callB (call_max2 rfl) (by rfl) T.z_max bt_max (pa_cons pe_int (pa_cons (pe_callB (call_min2 rfl) (by rfl) T.z_min bt_min (pa_cons pe_int (pa_cons (pe_callB (lenX K) (by rfl) T.z_len bt_len (pa_cons (pv 0) pa_nil)) pa_nil))) pa_nil))) pa_nil)) (pg_name (i := 1) sc_law.nd rfl (Or.inl rfl)) (pss_cons (ps_set (i := 2) sc_law.nd rfl (Or.inl rfl) (pe_fn T.d_law_pot G_law_pot hr (by decide) rfl (pa_cons (pv 0) (pa_cons (pv 1) pa_nil))))
      (pss_cons (ps_asg (pe_fn T.d_law_drawing G_law_drawing hr (by decide) rfl (pa_cons (pv 2) (pa_cons (pe_ix (ixX K hr) (pe_lst (pa_cons pe_int (pa_cons pe_int pa_nil))) (pe_callTy call_int1 (by rfl) T.z_int bt_int (pa_cons (pe_cmpR op_gt (pv 1) pe_int (nomark _)) pa_nil)) (fun _ _ => rfl)) pa_nil))) (pg_tupK (n := 2) K rfl (pgs_cons (pg_name (i := 3) sc_law.nd rfl (Or.inl rfl)) (pgs_cons (pg_name (i := 4) sc_law.nd rfl (Or.inl rfl)) pgs_nil))))
      (pss_cons (ps_set (i := 5) sc_law.nd rfl (Or.inl rfl) (pe_fn T.d_law_elders G_law_elders hr (by decide) rfl (pa_cons (pv 3) (pa_cons (pv 4) pa_nil))))
      (pss_cons (ps_set (i := 6) sc_law.nd rfl (Or.inl rfl) (pe_bmK K PySem.F.plainAttrs_str PySem.F.slot_str_join PySem.F.type_str_join (joinK K) pe_str (pa_cons (pe_fn T.d_law_rows G_law_rows hr (by decide) rfl (pa_cons (pv 2) (pa_cons (pv 3) (pa_cons (pv 4) pa_nil)))) pa_nil)))
      (pss_cons (ps_set (i := 7) sc_law.nd rfl (Or.inl rfl) (pe_bmK K PySem.F.plainAttrs_str PySem.F.slot_str_join PySem.F.type_str_join (joinK K) pe_str (pa_cons (pe_fn T.d_law_rows G_law_rows hr (by decide) rfl (pa_cons (pv 2) (pa_cons (pv 3) (pa_cons (pv 4) pa_nil)))) pa_nil)))
      (pss_one (ps_for PassesOwn.never rfl (pi_any K (pe_lst (pa_cons (pv 6) (pa_cons (pv 7) (pa_cons (pv 6) pa_nil))))) (pg_name (i := 8) sc_law.nd rfl (Or.inl rfl)) (pss_cons (ps_set (i := 9) sc_law.nd rfl (Or.inl rfl) (pe_fn T.d_read_drawn G_read_drawn hr (by decide) rfl (pa_cons (pv 8) pa_nil)))
      (pss_one (ps_if (PW.pt (pw_or (pt_not (pt_val (pe_callB (isiX K) (by rfl) T.z_isinstance bt_isinstance (pa_cons (pv 9) (pa_cons (pe_bltn (v := .ty "tuple") rfl T.z_tuple bt_tuple rfl) pa_nil))))) (pw_or1 (pt_cmpR (nePX K hr) (pv 9) (pv 5) (nomark _))))) (pss_one (ps_ret pe_bl)) pss_nil)))))))))))
      (pss_one (ps_ret pe_bl))), ?_⟩
    exact def_ok (g := b_law) (ref_seq (ref_for (ref_rg1 (ref_cons (ref_cb ok_max2 (ref_cons (ref_int 1) (ref_cons (ref_cb ok_min2 (ref_cons (ref_int 30) (ref_cons (ref_cb ok_len (ref_cons (ref_var 0) ref_nil)) ref_nil))) ref_nil))) ref_nil)) (ref_gname 1) (ref_seq (ref_setL (ref_call (ref_cons (ref_var 0) (ref_cons (ref_var 1) ref_nil))))
      (ref_seq (ref_asg (ref_call (ref_cons (ref_var 2) (ref_cons (ref_op ok_ix (ref_lst (ref_cons (ref_int 60) (ref_cons (ref_int 12) ref_nil))) (ref_cb ok_intC (ref_cons (ref_op ok_gt (ref_var 1) (ref_int 0)) ref_nil))) ref_nil))) (ref_gtup (ref_gcons (ref_gname 3) (ref_gcons (ref_gname 4) ref_gnil))))
      (ref_seq (ref_set (ref_call (ref_cons (ref_var 3) (ref_cons (ref_var 4) ref_nil))))
      (ref_seq (ref_set (ref_bm ok_join (ref_str "\n") (ref_cons (ref_call (ref_cons (ref_var 2) (ref_cons (ref_var 3) (ref_cons (ref_var 4) ref_nil)))) ref_nil)))
      (ref_seq (ref_set (ref_bm ok_join (ref_str "\n") (ref_cons (ref_call (ref_cons (ref_var 2) (ref_cons (ref_var 3) (ref_cons (ref_var 4) ref_nil)))) ref_nil)))
      (ref_for (ref_it (ref_lst (ref_cons (ref_var 6) (ref_cons (ref_var 7) (ref_cons (ref_var 6) ref_nil))))) (ref_gname 8) (ref_seq (ref_set (ref_call (ref_cons (ref_var 8) ref_nil)))
      (ref_ifs (ref_or (ref_not (ref_tB (ref_cb ok_isi (ref_cons (ref_var 9) (ref_cons (ref_ty "tuple") ref_nil))))) (ref_test (ref_op ok_ne (ref_var 9) (ref_var 5)))) (ref_ret (ref_bl false)) ref_next)))))))))
      (ref_ret (ref_bl true))) rfl h
end
section
open PySem L2 Mr PyProof.Rows PySem.Builtin.Str
/-! texts by their signs -/
noncomputable abbrev S (l : List Nat) : Str := ⟨l.toArray⟩
theorem S_codes (l : List Nat) : (S l).cps.toList = l := rfl
theorem S_self (x : Str) : S x.cps.toList = x := by cases x; simp [S]
theorem S_len (l : List Nat) : (S l).length = l.length := by show l.toArray.size = _; simp
theorem S_app (a b : List Nat) : S a ++ S b = S (a ++ b) := PM.ext_codes (by rw [Str.cps_append, Array.toList_append])
theorem S_inj {a b : List Nat} : S a = S b ↔ a = b := ⟨fun h => congrArg (fun s : Str => s.cps.toList) h, fun h => by rw [h]⟩
theorem ix_clip (i j n : Nat) : strSliceIndices (some (i : Int)) (some (j : Int)) 1 n = strSliceIndices (some ((min i n : Nat) : Int)) (some ((max (min i n) (min j n) : Nat) : Int)) 1 n := by
  unfold strSliceIndices sliceRange
  simp only [show (1 : Int) > 0 by decide, if_true, show ¬ ((i : Int) < 0) by omega, show ¬ ((j : Int) < 0) by omega, show ¬ (((min i n : Nat) : Int) < 0) by omega, show ¬ (((max (min i n) (min j n) : Nat) : Int) < 0) by omega, if_false]
  have e1 : max (0 : Int) (min (i : Int) n) = ((min i n : Nat) : Int) := by omega
  have e2 : max (0 : Int) (min (j : Int) n) = ((min j n : Nat) : Int) := by omega
  have e3 : max (0 : Int) (min ((min i n : Nat) : Int) n) = ((min i n : Nat) : Int) := by omega
  have e4 : max (0 : Int) (min ((max (min i n) (min j n) : Nat) : Int) n) = ((max (min i n) (min j n) : Nat) : Int) := by omega
  rw [e1, e2, e3, e4]
  congr 2
  split <;> split <;> simp only [Int.ediv_one] <;> omega
theorem sl_ij (l : List Nat) (i j : Nat) : Txt.slice (S l) (some (i : Int)) (some (j : Int)) = S ((l.drop i).take (j - i)) := by
  have e : Txt.slice (S l) (some (i : Int)) (some (j : Int)) = Txt.slice (S l) (some ((min i l.length : Nat) : Int)) (some ((max (min i l.length) (min j l.length) : Nat) : Int)) := by
    unfold Txt.slice
    rw [S_len, ix_clip]
  rw [e, beq_iff_eq.mp (slice_closes (x := S l) ⟨by omega, by omega, by rw [S_codes]; omega⟩), S_codes]
  refine S_inj.mpr ?_
  by_cases h : i ≤ l.length
  · rw [show ((min i l.length : Nat) : Int).toNat = i by omega]
    by_cases h2 : j ≤ l.length
    · congr 1; omega
    · rw [List.take_of_length_le (by rw [List.length_drop]; omega), List.take_of_length_le (by rw [List.length_drop]; omega)]
  · rw [List.drop_of_length_le (by omega), List.drop_of_length_le (by omega)]; simp
theorem sl_from (l : List Nat) (i : Nat) : Txt.slice (S l) (some (i : Int)) none = S (l.drop i) := by
  by_cases h : i ≤ l.length
  · rw [slice_from_eq (x := S l) (b := l.length) (by omega) (by rw [S_len]; omega) (by rw [S_len]), S_codes]
    refine S_inj.mpr ?_
    rw [Int.toNat_natCast, List.take_of_length_le (by rw [List.length_drop]; omega)]
  · rw [slice_beyond (by rw [S_len]; omega), List.drop_of_length_le (by omega)]; rfl
theorem sl_to (l : List Nat) (j : Nat) : Txt.slice (S l) none (some (j : Int)) = S (l.take j) := by
  have e : Txt.slice (S l) none (some (j : Int)) = Txt.slice (S l) (some ((0 : Nat) : Int)) (some (j : Int)) := by
    unfold Txt.slice
    have : strSliceIndices none (some (j : Int)) 1 (S l).length = strSliceIndices (some ((0 : Nat) : Int)) (some (j : Int)) 1 (S l).length := by
      unfold strSliceIndices
      simp only [show (1 : Int) > 0 by decide, if_true, show ¬ (((0 : Nat) : Int) < 0) by omega, if_false]
      congr 1
    rw [this]
  rw [e, sl_ij, List.drop_zero, Nat.sub_zero]
theorem sub_at (l p : List Nat) (i : Nat) : Builtin.Str.subAt (S l) (S p) i = decide ((l.drop i).take p.length = p) := by
  unfold Builtin.Str.subAt
  rw [S_len]
  show (l.toArray.extract i (i + p.length) == p.toArray) = _
  rw [Bool.eq_iff_iff, beq_iff_eq, decide_eq_true_eq, ← Array.toList_inj]
  simp [List.extract_eq_take_drop]
theorem starts (l p : List Nat) : Txt.startswith (S l) (S p) = decide (l.take p.length = p) := by
  unfold Txt.startswith
  rw [sub_at, S_len, S_len, List.drop_zero]
  by_cases h : l.take p.length = p
  · have := congrArg List.length h
    rw [List.length_take] at this
    simp [h]; omega
  · simp [h]
theorem ends (l p : List Nat) : Txt.endswith (S l) (S p) = decide (p.length ≤ l.length ∧ l.drop (l.length - p.length) = p) := by
  unfold Txt.endswith
  rw [sub_at, S_len, S_len]
  by_cases h : p.length ≤ l.length
  · rw [List.take_of_length_le (by rw [List.length_drop]; omega)]
    simp [h]
  · simp [h]
theorem at_iff (l p : List Nat) (i : Nat) : StrLaws.At (S l) (S p) (S l).length i ↔ (i + p.length ≤ l.length ∧ (l.drop i).take p.length = p) := by
  unfold StrLaws.At
  rw [sub_at, S_len, S_len, decide_eq_true_eq]
theorem in_one (l : List Nat) (c : Nat) : (!(Builtin.Str.occurrences (S l) (S [c]) 0 (S l).length 1).isEmpty) = decide (c ∈ l) := by
  rw [Bool.eq_iff_iff, decide_eq_true_eq, ← S_codes l, mem_iff_at, S_codes]
  rcases StrLaws.occ_head (S l) (S [c]) 1 (Nat.le_refl 1) with ⟨h0, hn⟩ | ⟨i, r, h0, hi, hn⟩
  · rw [h0]
    constructor
    · intro h; cases h
    · rintro ⟨i, h⟩; exact absurd h (hn i)
  · rw [h0]
    exact ⟨fun _ => ⟨i, hi⟩, fun _ => rfl⟩
theorem in_none (l : List Nat) : (!(Builtin.Str.occurrences (S l) (S []) 0 (S l).length 1).isEmpty) = true := by
  rcases StrLaws.occ_head (S l) (S []) 1 (Nat.le_refl 1) with ⟨h0, hn⟩ | ⟨i, r, h0, hi, hn⟩
  · exact absurd ((at_iff l [] 0).mpr ⟨by simp, rfl⟩) (hn 0)
  · rw [h0]; rfl
theorem strSub_S (l : List Nat) (i j : Nat) : Builtin.Str.strSub (S l) i j = S ((l.drop i).take (j - i)) := by
  refine PM.ext_codes ?_
  show (l.toArray.extract i j).toList = _
  simp [List.extract_eq_take_drop]
noncomputable def dig (c : Nat) : Bool := decide (48 ≤ c ∧ c ≤ 57)
noncomputable def DG : List Nat := [48, 49, 50, 51, 52, 53, 54, 55, 56, 57]
theorem dg_str : Str.ofString "0123456789" = S DG := Str.ext' (by decide +kernel)
theorem mem_dg (c : Nat) : decide (c ∈ DG) = dig c := by
  unfold dig DG
  rw [decide_eq_decide]
  simp only [List.mem_cons, List.not_mem_nil, or_false]
  omega
theorem k_str {s : String} {l : List Nat} (h : (Str.ofString s).cps.toList = l) : Str.ofString s = S l := by rw [← h, S_self]
end
section
open PySem L2 Mr PyProof.Rows PySem.Builtin.Str
/-! texts joined, split, stripped -/
noncomputable def jn (s : List Nat) : List (List Nat) → List Nat
  | [] => []
  | [p] => p
  | p :: q :: r => p ++ s ++ jn s (q :: r)
theorem join_jn (sep : Str) : ∀ ys : List Str, (Str.join sep ys).cps.toList = jn sep.cps.toList (ys.map fun y => y.cps.toList)
  | [] => rfl
  | [x] => rfl
  | x :: y :: r => by
    have ih := join_jn sep (y :: r)
    show (x ++ sep ++ Str.join sep (y :: r)).cps.toList = _
    rw [Str.cps_append, Str.cps_append, Array.toList_append, Array.toList_append, ih]
    simp [jn]
theorem joinS (s : List Nat) (ps : List (List Nat)) : Txt.join (S s) (ps.map S) = S (jn s ps) := by
  rw [eq_of_beq (join_closes (sep := S s) (ys := ps.map S) rfl)]
  apply PM.ext_codes
  rw [join_jn, List.map_map]
  show jn s (ps.map fun p => (S p).cps.toList) = jn s ps
  rw [show (ps.map fun p => (S p).cps.toList) = ps from List.map_id' _]
theorem jn_nil : ∀ ps : List (List Nat), jn [] ps = ps.flatten
  | [] => rfl
  | [p] => by simp [jn]
  | p :: q :: r => by rw [jn, jn_nil (q :: r)]; simp
theorem uniq1 {c : Nat} : ∀ {u v x y : List Nat}, c ∉ u → c ∉ v → u ++ c :: x = v ++ c :: y → u = v ∧ x = y
  | [], [], _, _, _, _, e => by cases e; exact ⟨rfl, rfl⟩
  | [], d :: v, _, _, _, hv, e => by cases e; exact absurd List.mem_cons_self hv
  | d :: u, [], _, _, hu, _, e => by cases e; exact absurd List.mem_cons_self hu
  | d :: u, f :: v, _, _, hu, hv, e => by
    obtain ⟨e1, e2⟩ := List.cons.inj e
    obtain ⟨r1, r2⟩ := uniq1 (fun h => hu (List.mem_cons_of_mem _ h)) (fun h => hv (List.mem_cons_of_mem _ h)) e2
    exact ⟨by rw [e1, r1], r2⟩
theorem jn_uniq {c : Nat} : ∀ {ps qs : List (List Nat)}, ps ≠ [] → qs ≠ [] → (∀ p ∈ ps, c ∉ p) → (∀ q ∈ qs, c ∉ q) → jn [c] ps = jn [c] qs → ps = qs
  | [], _, h, _, _, _, _ => absurd rfl h
  | _, [], _, h, _, _, _ => absurd rfl h
  | [p], [q], _, _, _, _, e => by rw [show p = q from e]
  | [p], q :: q' :: r, _, _, hp, _, e => by
    have e : p = q ++ [c] ++ jn [c] (q' :: r) := e
    exact absurd (by rw [e]; simp) (hp p List.mem_cons_self)
  | p :: p' :: r, [q], _, _, _, hq, e => by
    have e : p ++ [c] ++ jn [c] (p' :: r) = q := e
    exact absurd (by rw [← e]; simp) (hq q List.mem_cons_self)
  | p :: p' :: r, q :: q' :: r', _, _, hp, hq, e => by
    have e : p ++ [c] ++ jn [c] (p' :: r) = q ++ [c] ++ jn [c] (q' :: r') := e
    rw [List.append_assoc, List.append_assoc] at e
    obtain ⟨e1, e2⟩ := uniq1 (hp p List.mem_cons_self) (hq q List.mem_cons_self) e
    rw [e1, jn_uniq (by simp) (by simp) (fun z h => hp z (List.mem_cons_of_mem _ h)) (fun z h => hq z (List.mem_cons_of_mem _ h)) e2]
theorem split_ne (x y : Str) : Txt.split x y ≠ [] := by
  unfold Txt.split
  split
  · simp
  · split
    · simp
    · intro h
      have := congrArg List.length h
      rw [length_partsBetween] at this
      simp at this
theorem split_jn {c : Nat} {ps : List (List Nat)} (h0 : ps ≠ []) (h : ∀ p ∈ ps, c ∉ p) : Txt.split (S (jn [c] ps)) (S [c]) = ps.map S := by
  have h1 := StrLaws.join_split (S (jn [c] ps)) (S [c])
  have h2 := StrLaws.split_free (S (jn [c] ps)) c
  have h3 := congrArg (fun x : Str => x.cps.toList) h1
  have h3 : jn [c] ((Txt.split (S (jn [c] ps)) (S [c])).map fun y => y.cps.toList) = jn [c] ps := (join_jn (S [c]) _).symm.trans h3
  have e := jn_uniq (c := c) (by simpa using split_ne _ _) h0 (fun p hp => by obtain ⟨y, hy, rfl⟩ := List.mem_map.mp hp; exact h2 y hy) h h3
  have e2 : ((Txt.split (S (jn [c] ps)) (S [c])).map fun y => y.cps.toList).map S = Txt.split (S (jn [c] ps)) (S [c]) := by
    rw [List.map_map]
    exact List.map_id'' (fun x => S_self x) _
  exact e2.symm.trans (congrArg (List.map S) e)
theorem split_nil {c : Nat} : Txt.split (S []) (S [c]) = [S []] := split_jn (c := c) (ps := [[]]) (by simp) (by simp)
theorem lstrip_S {c : Nat} {k : Nat} {r : List Nat} (h : ∀ a r', r = a :: r' → a ≠ c) : Txt.lstripChars (S (List.replicate k c ++ r)) (S [c]) = S r := by
  unfold Txt.lstripChars
  rw [stripBy_eq]
  unfold stripLo stripHi
  rw [if_pos rfl, S_codes]
  have e : (List.replicate k c ++ r).takeWhile ((S [c]).cps.contains ·) = List.replicate k c := by
    rw [List.takeWhile_append_of_pos fun a ha => by rw [(List.mem_replicate.mp ha).2]; simp]
    cases r with
    | nil => simp
    | cons a r => rw [List.takeWhile_cons_of_neg (by simpa using h a r rfl), List.append_nil]
  have e' : (List.takeWhile (S [c]).cps.contains (List.replicate k c ++ r)).length = k := by
    have := congrArg List.length e
    rw [List.length_replicate] at this
    exact this
  rw [e', if_neg Bool.false_ne_true, strSub_S, S_len, List.length_append, List.length_replicate, List.drop_left' (by simp), List.take_of_length_le (by omega)]
theorem part_no {c : Nat} {l : List Nat} (h : c ∉ l) : Txt.partition (S l) (S [c]) = (S l, S [], S []) := by
  rcases partition_whole (S l) (S [c]) with ⟨e, hn⟩ | ⟨i, e, hi, hn⟩
  · rw [e]; rfl
  · obtain ⟨h1, h2⟩ := (at_iff _ _ _).mp hi
    have : c ∈ l := List.mem_of_mem_drop (List.mem_of_mem_take (by rw [h2]; exact List.mem_singleton.mpr rfl))
    exact absurd this h
theorem part_at {c : Nat} {l r : List Nat} (h : c ∉ l) : Txt.partition (S (l ++ c :: r)) (S [c]) = (S l, S [c], S r) := by
  have hat : ∀ i, StrLaws.At (S (l ++ c :: r)) (S [c]) (S (l ++ c :: r)).length i ↔ (l ++ c :: r)[i]? = some c := fun i => by
    rw [at_iff]
    constructor
    · rintro ⟨h1, h2⟩
      have : ((l ++ c :: r).drop i).head? = some c := by
        cases e : (l ++ c :: r).drop i with
        | nil => rw [e] at h2; cases h2
        | cons a b => rw [e] at h2; cases h2; rfl
      rwa [List.head?_drop] at this
    · intro e
      have hi := (List.getElem?_eq_some_iff.mp e).1
      refine ⟨hi, ?_⟩
      rw [List.drop_eq_getElem_cons hi, show ([c] : List Nat).length = 1 from rfl, List.take_succ_cons, List.take_zero]
      rw [List.getElem?_eq_getElem hi] at e
      rw [Option.some.inj e]
  have h0 : (l ++ c :: r)[l.length]? = some c := by simp
  rcases partition_whole (S (l ++ c :: r)) (S [c]) with ⟨e, hn⟩ | ⟨i, e, hi, hn⟩
  · exact absurd ((hat _).mpr h0) (hn _)
  · have hil : i = l.length := by
      rcases Nat.lt_trichotomy i l.length with hl | hl | hl
      · have := (hat i).mp hi
        rw [List.getElem?_append_left hl] at this
        exact absurd (List.mem_of_getElem? this) h
      · exact hl
      · exact absurd ((hat _).mpr h0) (hn _ hl)
    rw [e, strSub_S, strSub_S, hil, S_len, S_len]
    simp
    exact List.take_of_length_le (by omega)
end
section
open PySem L2 Mr
theorem e_sNone {e : En} : sNone e = none := rfl
theorem e_fZip {fa : FA} {st : Nat → Bool} {e : En} : fZip fa st e = bE (fa e) fun bs e1 => match bs with
  | [.val (.lst ps), .val (.lst qs)] => guardP (decide (ps.length = qs.length)) (some ((ps.zip qs).map fun z => .tup [z.1, z.2], e1))
  | _ => none := rfl
theorem e_sDelS {i : Nat} {f : FE} {e : En} : sDelS i f e = bO (ownAt e i) fun p0 => bE (f e) fun b e1 => match b with
  | .val (.int k) => match ownAt e1 i with
    | some (.lst ps) => guardP (decide (0 ≤ k) && decide (k ≤ (ps.length : Int))) (some (.nx (setOwn e1 i (.lst (ps.take k.toNat)))))
    | _ => none
  | _ => none := rfl
end
local macro_rules | `(tactic| walk_at "wp") => `(tactic| simp only [wp_fnM, wp_bE, wp_bO, wp_some, wp_none, wp_guard, wp_seq, wp_call, wp_fcomp, wp_ffor, bB_t, bB_f, wp_bool, e_fVar, e_fC, e_fOp, e_fUn, e_fNil, e_fCons, e_fCB, e_fBM, e_fBM0, e_fTup, e_fLst, e_fTest, e_fAnd, e_fOr, e_fNot, e_fTrue, e_fAndV, e_fOrV, e_fNotV, e_fIf, e_fNoPart, e_fPart, e_fSl, e_sNext, e_sBreak, e_sCont, e_sRet, e_sRetN, e_sDrop, e_sIf, e_sSet, e_sSetL, e_sRel, e_sApp, e_sSetIx, e_sDPut, e_tgName, e_tgNil, e_tgCons, e_tgTup, e_sAsg, e_sPar, e_fIt, e_fRg1, e_fRg2, e_fEnm, e_fEnmA, e_fChain, e_fTru, e_fDNew, bE_v, bO_v, isBv, env0, slOf, List.replicate, List.cons_append, List.nil_append, rel, itemsW, putL, getL, argP, argOne, mSlots, bSlots, Mr.resB, backE, innE, capL, capE, Bv.weak, Bv.get, Bv.put, rd, Sl.pv, ownAt, setOwn, finM, resP, mutsF, ix10, ix20, ix21, ix30, ix31, ix32, ix40, ix41, ix42, ix43, at0, at1, at2, at3, gIx, Mr.gSub, gMul, gBack, e_fPop, gDiv, gMod, gPow, gNeg, gAdd, gAddS, gAddL, gAddT, gI, gI0, gEq, gNe, gIn, gInS, gInL, gLt, gLe, gGt, gGe, gCmpS, gIs, isNone, gSl, gLen, gTupC, gListC, gAbs, gMax2, gMin2, gIntC, gStrC, gIsi2, kdOf, isiT, gLower, gUpper, gStarts, gEnds, gStrip, gIndexS, gPart, gSplitB, gAll, gAny, truP, okP, eqP_nn, eqP_nb, eqP_ni, eqP_ns, eqP_nt, eqP_nl, eqP_bn, eqP_bb, eqP_bi, eqP_bs, eqP_bt, eqP_bl, eqP_in, eqP_ib, eqP_ii, eqP_is, eqP_it, eqP_il, eqP_sn, eqP_sb, eqP_si, eqP_ss, eqP_st, eqP_sl, eqP_tn, eqP_tb, eqP_ti, eqP_ts, eqP_tt, eqP_tl, eqP_ln, eqP_lb, eqP_li, eqP_ls, eqP_lt, eqP_ll, eqPL_36, eqPL_37, eqPL_38, eqPL_39, itemsP, List.getElem?_cons_zero, List.getElem?_cons_succ, List.set_cons_zero, List.set_cons_succ, List.zipIdx_cons, List.zipIdx_nil, List.map_cons, List.map_nil, List.all_nil, List.all_cons, List.contains_nil, List.contains_cons, List.any_nil, List.any_cons, List.nodup_cons, List.nodup_nil, List.not_mem_nil, List.mem_cons, not_false_eq_true, and_true, true_and, decide_true, decide_false, Bool.and_self, Bool.and_true, Bool.true_and, Bool.not_true, Bool.not_false, if_true, if_false, ite_true, ite_false, Option.or_some, Option.none_or, Option.some_or, Option.or_none, decide_eq_true_eq, decide_eq_false_iff_not, Bool.and_eq_true, reduceCtorEq, Bool.false_eq_true, List.length_cons, List.length_nil, Nat.reduceAdd, Nat.reduceLT, Int.reduceLT, Int.reduceLE, PV.int.injEq, PV.str.injEq, PV.bl.injEq, Option.some.injEq, pair_beq, beq_self_eq_true, Bool.or_false, Bool.or_true, Bool.true_or, Bool.false_or, Bool.false_and, Bool.and_false, Nat.reduceBEq, List.length_map, List.length_range, Int.reduceToNat, and_self, true_implies, forall_const, Int.reduceAdd, Int.reduceNeg, e_fTVals, e_fLVals, e_fSortSet, gMulC, gInD, keyOf, e_fCallT, Option.getD_none, Option.getD_some, bO_none, bE_none, e_fSortI, e_fSortSetW, e_fGet1, gGet1, gLenY, gLenD, e_sExt, gMin1, wp_xseq, wp_xfor, wp_sX, e_xNext, e_xCont, e_xIf, e_xAsg, e_xIt, e_xEnm, e_xSDA, e_fGet2, gGet2, wp_fdcomp, gIndexL, gGtX, gGtT, e_tgAny, e_sNone, e_fZip, e_sDelS, gLstrip, gSplitX, gSum])
section
open PySem L2 Mr
set_option maxHeartbeats 4000000
noncomputable abbrev pot (a b : Int) : PV := .lst [.int a, .int b]
structure Pot (a b : Int) : Prop where
  a0 : 0 ≤ a
  b0 : 0 ≤ b
  b1 : b < 2147483647
theorem mulOk1 {i j : Int} (h0 : 0 ≤ i) (h1 : i < 18446744073709551616) : mulOk i j = true := decide_eq_true (.inl ⟨by omega, h1⟩)
theorem take_ok {a b n : Int} {Q : PV × List PV → Prop} (h : Pot a b) (n0 : 0 < n) (n1 : n < 1073741824) (q : ∀ d a' b', 0 ≤ d → d < n → Pot a' b' → Q (.int d, [pot a' b'])) : Wp (fn_law_take [pot a b, .int n]) Q := by
  unfold fn_law_take b_law_take
  walk_at "wp"
  have b0 := h.b0
  have b1 := h.b1
  have c0 : 0 ≤ (b * 48271 + 12345) % 2147483647 := Int.emod_nonneg _ (by decide)
  have c1 : (b * 48271 + 12345) % 2147483647 < 2147483647 := Int.emod_lt_of_pos _ (by decide)
  refine ⟨fun ha => ⟨n0, ⟨n0, by omega⟩, q _ _ _ (Int.emod_nonneg _ (by omega)) (Int.emod_lt_of_pos _ n0) ⟨Int.ediv_nonneg h.a0 (by omega), b0, b1⟩⟩, fun ha => ⟨mulOk1 b0 (by omega), mulOk1 (by omega) (by omega), n0, q _ _ _ (Int.emod_nonneg _ (by omega)) (Int.emod_lt_of_pos _ n0) ⟨h.a0, c0, c1⟩⟩⟩
theorem wp_pick {α : Type} {xs : List α} {d : Int} {Q : α → Prop} (h0 : 0 ≤ d) (h1 : d < (xs.length : Int)) (q : ∀ c ∈ xs, Q c) : Wp (atI xs d) Q := by
  obtain ⟨c, hc, e⟩ := atI_mem h0 h1
  exact ⟨c, e, q c hc⟩
theorem bits1 : ((Builtin.Int.intBits 10 : Nat) : Int) * 60 ≤ 2 ^ 27 := by decide +kernel
theorem bits2 : ((Builtin.Int.intBits (10 ^ 60) : Nat) : Int) * 3 ≤ 2 ^ 27 := by decide +kernel
theorem bits3 : ((Builtin.Int.intBits 10 : Nat) : Int) * 18 ≤ 2 ^ 27 := by decide +kernel
theorem big_pos : (0 : Int) < (10 ^ 60) ^ 3 := by decide +kernel
theorem mul_ite {i : Int} {p : Prop} [Decidable p] : mulOk i (if p then 1 else 0) = true := by
  split
  · exact decide_eq_true (.inr ⟨by decide, by decide⟩)
  · exact decide_eq_true (.inr ⟨by decide, by decide⟩)
theorem ite_nn {p : Prop} [Decidable p] : (0 : Int) ≤ (if p then 1 else 0) := by split <;> decide
theorem pot_tail {c k : Int} {Q : PV × List PV → Prop} (h0 : 0 ≤ k) (h1 : k < 64) (k1 : 0 ≤ 7919 * k * k) (k2 : 7919 * k * k ≤ 7919 * 63 * 63) (q : ∀ a b, Pot a b → Q (pot a b, [])) :
    ((Builtin.Int.intBits 10 : Nat) : Int) * 60 ≤ 2 ^ 27 ∧ ((Builtin.Int.intBits (10 ^ 60) : Nat) : Int) * 3 ≤ 2 ^ 27 ∧ (0 : Int) < (10 ^ 60) ^ 3 ∧ ((Builtin.Int.intBits 10 : Nat) : Int) * 18 ≤ 2 ^ 27 ∧
          mulOk ((if c < 0 then -c else c) % (10 ^ 60) ^ 3) (if 10 ^ 18 ≤ if c < 0 then -c else c then 1 else 0) = true ∧
            mulOk 7919 k = true ∧ mulOk (7919 * k) k = true ∧
                mulOk ((if c < 0 then -c else c) % 2147483629 + 7919 * k * k + 11) ((if c < 0 then -c else c) % 2147483629 + 7919 * k * k + 11) = true ∧
                  mulOk (((if c < 0 then -c else c) % 2147483629 + 7919 * k * k + 11) * ((if c < 0 then -c else c) % 2147483629 + 7919 * k * k + 11) % 2147483629) 48271 = true ∧
                    Q (PV.lst [PV.int ((if c < 0 then -c else c) % (10 ^ 60) ^ 3 * if 10 ^ 18 ≤ if c < 0 then -c else c then 1 else 0),
                            PV.int (((if c < 0 then -c else c) % 2147483629 + 7919 * k * k + 11) * ((if c < 0 then -c else c) % 2147483629 + 7919 * k * k + 11) % 2147483629 * 48271 % 2147483647)], []) := by
  generalize (if c < 0 then -c else c) = d
  have d0 : 0 ≤ d % 2147483629 := Int.emod_nonneg _ (by decide)
  have d1 : d % 2147483629 < 2147483629 := Int.emod_lt_of_pos _ (by decide)
  refine ⟨bits1, bits2, big_pos, bits3, mul_ite, mulOk1 (by decide) (by decide), mulOk1 (by omega) (by omega), mulOk1 (by omega) (by omega), decide_eq_true (.inr ⟨by decide, by decide⟩), q _ _ ⟨Int.mul_nonneg (Int.emod_nonneg _ (Int.ne_of_gt big_pos)) ite_nn, Int.emod_nonneg _ (by decide), Int.emod_lt_of_pos _ (by decide)⟩⟩
theorem pot_ok {ns : List Int} {k : Int} {Q : PV × List PV → Prop} (h0 : 0 ≤ k) (h1 : k < 64) (hn : ns.length ≤ 63) (q : ∀ a b, Pot a b → Q (pot a b, [])) : Wp (fn_law_pot [.lst (ns.map PV.int), .int k]) Q := by
  have k1 : 0 ≤ 7919 * k * k := Int.mul_nonneg (by omega) h0
  have k2 : 7919 * k * k ≤ 7919 * 63 * 63 := Int.mul_le_mul (by omega) (by omega) h0 (by omega)
  unfold fn_law_pot b_law_pot
  walk_at "wp"
  refine ⟨mulOk1 (by decide) (by decide), fun hlt => ?_, fun _ => ?_⟩
  · refine wp_pick h0 (by simpa using hlt) fun p hp => ?_
    obtain ⟨c, _, rfl⟩ := List.mem_map.mp hp
    walk_at "wp"
    exact pot_tail h0 h1 k1 k2 q
  · exact pot_tail h0 h1 k1 k2 q
end
section
open PySem L2 Mr
set_option maxHeartbeats 4000000
/-! ### names and drawings -/
noncomputable def AL : List Nat := (Str.ofString "abcdefghijklmnopqrstuvwxyz0123456789").cps.toList
theorem AL_len : AL.length = 36 := by decide +kernel
theorem AL_is : AL = [97, 98, 99, 100, 101, 102, 103, 104, 105, 106, 107, 108, 109, 110, 111, 112, 113, 114, 115, 116, 117, 118, 119, 120, 121, 122, 48, 49, 50, 51, 52, 53, 54, 55, 56, 57] := by decide +kernel
theorem AL_str : Str.ofString "abcdefghijklmnopqrstuvwxyz0123456789" = S AL := k_str rfl
theorem s_empty : Str.ofString "" = S [] := k_str (by decide +kernel)
theorem s_nl : Str.ofString "\n" = S [10] := k_str (by decide +kernel)
theorem s_sp : Str.ofString " " = S [32] := k_str (by decide +kernel)
theorem s_sp2 : Str.ofString "  " = S [32, 32] := k_str (by decide +kernel)
theorem s_q : Str.ofString " ?" = S [32, 63] := k_str (by decide +kernel)
theorem s_u : Str.ofString " *" = S [32, 42] := k_str (by decide +kernel)
structure NmC (l : List Nat) : Prop where
  al : ∀ c ∈ l, c ∈ AL
  l0 : 1 ≤ l.length
  l1 : l.length ≤ 12
theorem NmC.no {l : List Nat} (h : NmC l) {c : Nat} (hc : c ∉ AL) : c ∉ l := fun z => hc (h.al c z)
theorem AL32 : 32 ∉ AL := by decide +kernel
theorem AL10 : 10 ∉ AL := by decide +kernel
theorem one_S (c : Nat) : (⟨#[c]⟩ : Str) = S [c] := rfl
/-- signs drawn -/
theorem signs_ok {m : Int} {a b : Int} {s : Option Sl} {xs : List PV} {Q : List PV × En → Prop} (hp : Pot a b) (hm : 0 < m) (hm2 : m ≤ 36)
    (q : ∀ (cs : List Nat) s' a' b', cs.length = xs.length → (∀ c ∈ cs, c ∈ AL) → Pot a' b' → Q ((cs.map fun c => PV.str (S [c])), [s', some (.val (.str (S AL))), some (.own (pot a' b'))])) :
    Wp (compM (tgName 0) fTrue (fOp gIx (fVar 1) (fCall [.m, .b] false fn_law_take (fCons (fVar 2) (fCons (fC (.int m)) fNil)))) xs [s, some (.val (.str (S AL))), some (.own (pot a b))]) Q := by
  refine wp_comp (fun i acc e => ∃ (cs : List Nat) (s : Option Sl) (a b : Int), acc = (cs.map fun c => PV.str (S [c])) ∧ cs.length = i ∧ (∀ c ∈ cs, c ∈ AL) ∧ e = [s, some (.val (.str (S AL))), some (.own (pot a b))] ∧ Pot a b) ?_ ?_ ⟨[], s, a, b, rfl, rfl, fun _ h => (nomatch h), rfl, hp⟩
  · rintro i x e acc hx ⟨cs, s, a, b, rfl, hl', hz, rfl, hp⟩
    walk_at "wp"
    refine take_ok hp hm (by omega) fun d a' b' d0 d1 hp' => ?_
    walk_at "wp"
    refine ⟨by rw [S_len, AL_len]; decide, ?_⟩
    refine wp_pick d0 (by rw [AL_len]; omega) fun c hc => ?_
    walk_at "wp"
    exact ⟨cs ++ [c], _, a', b', by rw [List.map_append]; rfl, by rw [List.length_append, hl']; rfl, fun z hz' => (List.mem_append.mp hz').elim (hz z) fun h => by rw [List.mem_singleton.mp h]; exact hc, rfl, hp'⟩
  · rintro acc e ⟨cs, s, a, b, rfl, hl', hz, rfl, hp⟩
    exact q cs s a b hl' hz hp
theorem flat1 : ∀ cs : List Nat, (cs.map fun c => [c]).flatten = cs
  | [] => rfl
  | c :: cs => by rw [List.map_cons, List.flatten_cons, flat1 cs]; rfl
theorem join_signs {cs : List Nat} {Q : Bv → Prop} (h : cs.length < 1000) (q : Q (.val (.str (S cs)))) : Wp (gJoin (.str (S [])) [.lst (cs.map fun c => PV.str (S [c]))]) Q := by
  unfold gJoin
  rw [show (cs.map fun c => PV.str (S [c])) = ((cs.map fun c => [c]).map S).map PV.str by rw [List.map_map, List.map_map]; rfl]
  simp only [strsP_map, wp_bO, wp_some, wp_guard, decide_eq_true_eq]
  refine ⟨?_, ?_⟩
  · have e : ((List.map S (List.map (fun c => [c]) cs)).map (·.length)).sum = cs.length := by
      clear h q
      induction cs with
      | nil => rfl
      | cons c cs ih => rw [List.map_cons, List.map_cons, List.map_cons, List.sum_cons, ih, S_len]; simp; omega
    rw [e, S_len]
    simp
    omega
  · rw [joinS, jn_nil, flat1]
    exact q
theorem name_ok {a b : Int} {Q : PV × List PV → Prop} (hp : Pot a b) (q : ∀ l a' b', NmC l → Pot a' b' → Q (.str (S l), [pot a' b'])) : Wp (fn_law_name [pot a b]) Q := by
  unfold fn_law_name b_law_name
  rw [AL_str, s_empty]
  walk_at "wp"
  refine take_ok hp (by decide) (by decide) fun d a1 b1 d0 d1 hp => ?_
  walk_at "wp"
  refine ⟨fun hd => ?_, fun hd => ⟨fun he => ?_, fun he => ?_⟩⟩
  · refine take_ok hp (by decide) (by decide) fun n a2 b2 n0 n1 hp => ?_
    walk_at "wp"
    refine ⟨inR_ok (by omega) (by omega), by omega, ?_⟩
    refine signs_ok hp (by decide) (by decide) fun cs s' a3 b3 hl hc hp => ?_
    rw [List.length_map, List.length_range] at hl
    walk_at "wp"
    refine join_signs (by omega) ?_
    walk_at "wp"
    exact q cs _ _ ⟨hc, by omega, by omega⟩ hp
  · refine ⟨inR_ok (by omega) (by omega), ?_⟩
    refine signs_ok hp (by decide) (by decide) fun cs s' a3 b3 hl hc hp => ?_
    rw [List.length_map, List.length_range] at hl
    walk_at "wp"
    refine join_signs (by omega) ?_
    walk_at "wp"
    exact q cs _ _ ⟨hc, by omega, by omega⟩ hp
  · refine take_ok hp (by decide) (by decide) fun n a2 b2 n0 n1 hp => ?_
    walk_at "wp"
    refine ⟨inR_ok (by omega) (by omega), by omega, ?_⟩
    refine signs_ok hp (by decide) (by decide) fun cs s' a3 b3 hl hc hp => ?_
    rw [List.length_map, List.length_range] at hl
    walk_at "wp"
    refine join_signs (by omega) ?_
    walk_at "wp"
    exact q cs _ _ ⟨hc, by omega, by omega⟩ hp
end
section
open PySem L2 Mr
set_option maxHeartbeats 4000000
noncomputable abbrev Rs := List (List Nat × Nat)
noncomputable def topR (rs : Rs) : Nat := match rs.getLast? with
  | none => 0
  | some z => z.2 + 1
inductive Up : Rs → Prop
  | nil : Up []
  | snoc {rs : Rs} {z : List Nat × Nat} : Up rs → z.2 ≤ topR rs → Up (rs ++ [z])
theorem Up.top {rs : Rs} (h : Up rs) : topR rs ≤ rs.length := by
  induction h with
  | nil => exact Nat.le_refl _
  | snoc h hz ih =>
    unfold topR
    rw [List.getLast?_append, List.getLast?_singleton, Option.some_or, List.length_append]
    simp
    omega
theorem Up.at {rs : Rs} (h : Up rs) : ∀ {i : Nat} {z : List Nat × Nat}, rs[i]? = some z → z.2 ≤ topR (rs.take i) := by
  induction h with
  | nil => intro i z e; cases e
  | @snoc rs w h hz ih =>
    intro i z e
    by_cases hi : i < rs.length
    · rw [List.getElem?_append_left hi] at e
      rw [List.take_append_of_le_length (by omega)]
      exact ih e
    · have hl := (List.getElem?_eq_some_iff.mp e).1
      rw [List.length_append] at hl
      simp at hl
      have hil : i = rs.length := by omega
      subst hil
      rw [List.getElem?_append_right (Nat.le_refl _), Nat.sub_self] at e
      cases e
      rw [List.take_left' rfl]
      exact hz
theorem Up.take {rs : Rs} (h : Up rs) : ∀ i, Up (rs.take i) := by
  induction h with
  | nil => intro i; rw [List.take_nil]; exact .nil
  | @snoc rs w h hz ih =>
    intro i
    by_cases hi : i ≤ rs.length
    · rw [List.take_append_of_le_length hi]; exact ih i
    · rw [List.take_of_length_le (by rw [List.length_append]; simp; omega)]; exact .snoc h hz
noncomputable abbrev nmP (rs : Rs) : List PV := rs.map fun z => .str (S z.1)
noncomputable abbrev dpP (rs : Rs) : List PV := rs.map fun z => .int (z.2 : Int)
structure Drw (rs : Rs) : Prop where
  nm : ∀ z ∈ rs, NmC z.1
  nd : (rs.map (·.1)).Nodup
  up : Up rs
theorem cut_m1 {rs : Rs} {z : List Nat × Nat} (h : rs.getLast? = some z) : cutP (dpP rs) (some (-1)) none = [.int (z.2 : Int)] := by
  obtain ⟨r0, rfl⟩ : ∃ r0, rs = r0 ++ [z] := by
    obtain ⟨ys, e⟩ := List.getLast?_eq_some_iff.mp h
    exact ⟨ys, e⟩
  unfold cutP dpP
  have e : HT.sIx ((r0 ++ [z]).map fun z => PV.int (z.2 : Int)).length 0 (some (-1)) = r0.length := by
    rw [List.length_map, List.length_append]
    unfold HT.sIx
    dsimp only
    rw [if_pos (by decide)]
    simp
    omega
  rw [e, List.map_append, List.drop_left' (by simp)]
  rw [HT.sIx_none]
  simp
theorem cut_m0 : cutP (dpP []) (some (-1)) none = [] := rfl
theorem ne_dp {rs : Rs} (h : rs ≠ []) : eqPL (dpP rs) [] = false := by
  cases rs with
  | nil => exact absurd rfl h
  | cons z rs => rfl
theorem dp_ok (rs : Rs) (n : Nat) : (dpP rs).all (okP n) = true := List.all_eq_true.mpr fun p hp => by obtain ⟨z, _, rfl⟩ := List.mem_map.mp hp; cases n <;> rfl
theorem nm_ok (rs : Rs) (n : Nat) : (nmP rs).all (okP n) = true := List.all_eq_true.mpr fun p hp => by obtain ⟨z, _, rfl⟩ := List.mem_map.mp hp; cases n <;> rfl
theorem mem_nm {rs : Rs} {l : List Nat} : ((nmP rs).any fun z => eqP z (.str (S l))) = decide (l ∈ rs.map (·.1)) := by
  rw [Bool.eq_iff_iff, List.any_eq_true, decide_eq_true_eq]
  constructor
  · rintro ⟨p, hp, e⟩
    obtain ⟨z, hz, rfl⟩ := List.mem_map.mp hp
    have e : (S z.1 == S l) = true := e
    exact List.mem_map.mpr ⟨z, hz, S_inj.mp (eq_of_beq e)⟩
  · intro h
    obtain ⟨z, hz, rfl⟩ := List.mem_map.mp h
    exact ⟨_, List.mem_map.mpr ⟨z, hz, rfl⟩, beq_self_eq_true _⟩
theorem at_last {ps : List PV} {p : PV} (h : ps.getLast? = some p) : atI ps (-1) = some p := by
  have hne : ps ≠ [] := fun z => by rw [z] at h; cases h
  have hl : 0 < ps.length := List.length_pos_iff.mpr hne
  rw [List.getLast?_eq_getElem?] at h
  unfold atI
  have e : ixN ps.length (-1) = some (ps.length - 1) := by
    unfold ixN
    rw [if_neg (by decide), if_pos (by omega)]
    congr 1
    omega
  rw [e]
  exact h
theorem mul1 {i j : Int} (h0 : 0 ≤ j) (h1 : j < 100) : mulOk i j = true := decide_eq_true (.inr ⟨by omega, by omega⟩)
theorem drawing_ok {a b most : Int} {Q : PV × List PV → Prop} (hp : Pot a b) (m0 : 0 ≤ most) (m1 : most ≤ 60) (q : ∀ rs a' b', Drw rs → rs.length ≤ 60 → Pot a' b' → Q (.tup [.lst (nmP rs), .lst (dpP rs)], [pot a' b'])) : Wp (fn_law_drawing [pot a b, .int most]) Q := by
  unfold fn_law_drawing b_law_drawing
  walk_at "wp"
  refine take_ok hp (by decide) (by decide) fun d a1 b1 d0 d1 hp => ?_
  walk_at "wp"
  refine take_ok hp (by omega) (by omega) fun n a2 b2 n0 n1 hp => ?_
  walk_at "wp"
  refine ⟨inR_ok (by omega) (by omega), ?_⟩
  refine wp_loop (fun i e => ∃ (rs : Rs) (a b : Int) (v5 v6 v7 : Option Sl), Drw rs ∧ rs.length ≤ i ∧ Pot a b ∧ e = [some (.own (pot a b)), some (.val (.int most)), some (.loc (.lst (nmP rs))), some (.loc (.lst (dpP rs))), some (.val (.bl (decide (d = 0)))), v5, v6, v7]) ?_ ?_ ⟨[], a2, b2, _, _, _, ⟨fun _ h => (nomatch h), List.nodup_nil, .nil⟩, Nat.le_refl _, hp, rfl⟩
  · rintro i x e hx ⟨rs, a, b, v5, v6, v7, dr, hl, hp, rfl⟩
    have hi := (List.getElem?_eq_some_iff.mp hx).1
    rw [List.length_map, List.length_range] at hi
    walk_at "wp"
    refine name_ok hp fun l a3 b3 hn hp => ?_
    walk_at "wp"
    have fin : ∀ (dp : Nat) (a b : Int) (v5 : Option Sl), Pot a b → dp ≤ topR rs → ((decide (l ∈ rs.map (·.1))) = false → Drw (rs ++ [(l, dp)])) := fun dp a b v5 hp hdp hno => by
      have hno := of_decide_eq_false hno
      refine ⟨fun z hz => ?_, ?_, .snoc dr.up hdp⟩
      · rcases List.mem_append.mp hz with h | h
        · exact dr.nm z h
        · rw [List.mem_singleton.mp h]; exact hn
      · rw [List.map_append]
        refine List.nodup_append.mpr ⟨dr.nd, by simp, fun x hx y hy e => ?_⟩
        have : y = l := by simpa using hy
        rw [e, this] at hx
        exact hno hx
    have htop := dr.up.top
    cases hlast : rs.getLast? with
    | none =>
      have hr := List.getLast?_eq_none_iff.mp hlast
      subst hr
      rw [cut_m0, show intsP [] = some [] from rfl]
      walk_at "wp"
      rw [show ([] : List Int).sum + 2 = 2 from rfl]
      refine take_ok hp (by decide) (by decide) fun e' a4 b4 e0 e1 hp => ?_
      walk_at "wp"
      have f0 := fin 0 a4 b4 none hp (Nat.zero_le _) rfl
      have one : ∃ (rs : Rs) (a b : Int) (v5 v6 v7 : Option Sl), Drw rs ∧ rs.length ≤ i + 1 ∧ Pot a b ∧ [some (Sl.own (pot a4 b4)), some (Sl.val (PV.int most)), some (Sl.loc (PV.lst [PV.str (S l)])), some (Sl.loc (PV.lst [PV.int (e' * 0)])), some (Sl.val (PV.bl (decide (d = 0)))), some (Sl.val x), some (Sl.val (PV.str (S l))), some (Sl.val (PV.int (e' * 0)))] =
          [some (.own (pot a b)), some (.val (.int most)), some (.loc (.lst (nmP rs))), some (.loc (.lst (dpP rs))), some (.val (.bl (decide (d = 0)))), v5, v6, v7] := ⟨[(l, 0)], a4, b4, _, _, _, f0, by simp, hp, by rw [Int.mul_zero]; rfl⟩
      exact ⟨mul1 (by decide) (by decide), fun _ => one, fun _ => one⟩
    | some z =>
      have hr : rs ≠ [] := fun e => by rw [e] at hlast; cases hlast
      have htz : topR rs = z.2 + 1 := by unfold topR; rw [hlast]
      rw [cut_m1 hlast, show intsP [.int (z.2 : Int)] = some [(z.2 : Int)] from rfl]
      walk_at "wp"
      rw [show [(z.2 : Int)].sum + 2 = (z.2 : Int) + 2 by simp]
      refine take_ok hp (by omega) (by omega) fun e' a4 b4 e0 e1 hp => ?_
      walk_at "wp"
      rw [ne_dp hr]
      walk_at "wp"
      have lr : List.length rs < 1000000 := by omega
      have put : ∀ (dp : Nat) (v : Int), v = (dp : Int) → dp ≤ topR rs → ((nmP rs).all (okP 8) = true ∧ ((!decide (l ∈ rs.map (·.1))) = true → List.length rs < 1000000 ∧ List.length rs < 1000000 ∧ ∃ (rs' : Rs) (a b : Int) (v5 v6 v7 : Option Sl), Drw rs' ∧ rs'.length ≤ i + 1 ∧ Pot a b ∧
            [some (Sl.own (pot a4 b4)), some (Sl.val (PV.int most)), some (Sl.loc (PV.lst (nmP rs ++ [PV.str (S l)]))), some (Sl.loc (PV.lst (dpP rs ++ [PV.int v]))), some (Sl.val (PV.bl (decide (d = 0)))), some (Sl.val x), some (Sl.val (PV.str (S l))), some (Sl.val (PV.int v))] =
              [some (.own (pot a b)), some (.val (.int most)), some (.loc (.lst (nmP rs'))), some (.loc (.lst (dpP rs'))), some (.val (.bl (decide (d = 0)))), v5, v6, v7]) ∧
          ((!decide (l ∈ rs.map (·.1))) = false → ∃ (rs' : Rs) (a b : Int) (v5 v6 v7 : Option Sl), Drw rs' ∧ rs'.length ≤ i + 1 ∧ Pot a b ∧
            [some (Sl.own (pot a4 b4)), some (Sl.val (PV.int most)), some (Sl.loc (PV.lst (nmP rs))), some (Sl.loc (PV.lst (dpP rs))), some (Sl.val (PV.bl (decide (d = 0)))), some (Sl.val x), some (Sl.val (PV.str (S l))), some (Sl.val (PV.int v))] =
              [some (.own (pot a b)), some (.val (.int most)), some (.loc (.lst (nmP rs'))), some (.loc (.lst (dpP rs'))), some (.val (.bl (decide (d = 0)))), v5, v6, v7])) := fun dp v hv hdp => by
        subst hv
        refine ⟨nm_ok rs 8, fun h => ⟨lr, lr, rs ++ [(l, dp)], a4, b4, some (Sl.val x), some (Sl.val (.str (S l))), some (Sl.val (.int (dp : Int))), fin dp a4 b4 none hp hdp (by simpa using h), by rw [List.length_append]; simp; omega, hp, ?_⟩, fun h => ⟨rs, a4, b4, _, _, _, dr, by omega, hp, rfl⟩⟩
        unfold nmP dpP
        rw [List.map_append, List.map_append]
        rfl
      refine ⟨dp_ok rs 8, mul1 (by decide) (by decide), fun hd => ⟨dp_ok rs 8, ?_⟩, fun hd => ?_⟩
      · rw [at_last (p := .int (z.2 : Int)) (by rw [List.getLast?_map, hlast]; rfl)]
        walk_at "wp"
        rw [mem_nm]
        exact ⟨put (z.2 + 1) _ (by omega) (by omega), fun h => h.elim⟩
      · rw [mem_nm]
        exact put e'.toNat _ (by omega) (by omega)
  · rintro e ⟨rs, a, b, v5, v6, v7, dr, hl, hp, rfl⟩
    rw [List.length_map, List.length_range] at hl
    walk_at "wp"
    exact q rs a b dr (by omega) hp
end
section
open PySem L2 Mr
set_option maxHeartbeats 4000000
/-! ### the rows of a drawing -/
noncomputable def mks : List (List Nat) := [[], [32, 63], [32, 42]]
noncomputable def rowC (z : List Nat × Nat) (m : List Nat) : List Nat := List.replicate (2 * z.2) 32 ++ z.1 ++ m
inductive Rows : Rs → List (List Nat) → Prop
  | nil : Rows [] []
  | snoc {rs : Rs} {z : List Nat × Nat} {ts : List (List Nat)} {m : List Nat} : Rows rs ts → m ∈ mks → Rows (rs ++ [z]) (ts ++ [rowC z m])
theorem blanks_ok {k : Nat} {s : Option Sl} {xs : List PV} {Q : List PV × En → Prop} (q : ∀ e, Q ((List.replicate xs.length [32, 32]).map fun l => PV.str (S l), e)) :
    Wp (compM (tgName 0) fTrue (fC (.str (S [32, 32]))) xs [s]) Q := by
  refine wp_comp (fun i acc e => acc = ((List.replicate i [32, 32]).map fun l => PV.str (S l)) ∧ ∃ s, e = [s]) ?_ ?_ ⟨rfl, _, rfl⟩
  · rintro i x e acc hx ⟨rfl, s, rfl⟩
    walk_at "wp"
    exact ⟨by rw [List.map_replicate, ← List.replicate_succ', List.replicate_succ], _, rfl⟩
  · rintro acc e ⟨rfl, s, rfl⟩
    exact q _
theorem flat2 : ∀ k : Nat, (List.replicate k [32, 32]).flatten = List.replicate (2 * k) 32
  | 0 => rfl
  | k + 1 => by rw [List.replicate_succ, List.flatten_cons, flat2 k, show 2 * (k + 1) = 2 * k + 2 by omega]; rfl
theorem join_blanks {k : Nat} {Q : Bv → Prop} (h : k < 1000) (q : Q (.val (.str (S (List.replicate (2 * k) 32))))) : Wp (gJoin (.str (S [])) [.lst ((List.replicate k [32, 32]).map fun l => PV.str (S l))]) Q := by
  unfold gJoin
  rw [show ((List.replicate k [32, 32]).map fun l => PV.str (S l)) = ((List.replicate k [32, 32]).map S).map PV.str by rw [List.map_map]; rfl]
  simp only [strsP_map, wp_bO, wp_some, wp_guard, decide_eq_true_eq]
  refine ⟨?_, ?_⟩
  · have e : (((List.replicate k [32, 32]).map S).map (·.length)).sum = 2 * k := by
      rw [List.map_replicate, List.map_replicate, S_len, List.sum_replicate_nat]
      simp
      omega
    rw [e, S_len]
    simp
    omega
  · rw [joinS, jn_nil, flat2]
    exact q
theorem zip_at {rs : Rs} {i : Nat} {p : PV} (h : (((nmP rs).zip (dpP rs)).map fun z => PV.tup [z.1, z.2])[i]? = some p) : ∃ z, rs[i]? = some z ∧ p = .tup [.str (S z.1), .int (z.2 : Int)] := by
  rw [List.getElem?_map] at h
  obtain ⟨w, hw, rfl⟩ := Option.map_eq_some_iff.mp h
  obtain ⟨h1, h2⟩ := List.getElem?_zip_eq_some.mp hw
  rw [List.getElem?_map] at h1 h2
  obtain ⟨z, hz, e1⟩ := Option.map_eq_some_iff.mp h1
  rw [hz] at h2
  obtain ⟨z', hz', e2⟩ := Option.map_eq_some_iff.mp h2
  cases hz'
  exact ⟨z, hz, by rw [← e1, ← e2]⟩
theorem rows_ok {rs : Rs} {a b : Int} {Q : PV × List PV → Prop} (hp : Pot a b) (dr : Drw rs) (hl : rs.length ≤ 60) (q : ∀ ts a' b', Rows rs ts → Pot a' b' → Q (.lst (ts.map fun t => .str (S t)), [pot a' b'])) : Wp (fn_law_rows [pot a b, .lst (nmP rs), .lst (dpP rs)]) Q := by
  unfold fn_law_rows b_law_rows
  rw [s_empty, s_sp2, s_q, s_u]
  walk_at "wp"
  refine wp_loop (fun i e => ∃ (ts : List (List Nat)) (a b : Int) (v4 v5 : Option Sl), Rows (rs.take i) ts ∧ ts.length = i ∧ Pot a b ∧ e = [some (.own (pot a b)), some (.val (.lst (nmP rs))), some (.val (.lst (dpP rs))), some (.loc (.lst (ts.map fun t => .str (S t)))), v4, v5]) ?_ ?_ ⟨[], a, b, _, _, .nil, rfl, hp, rfl⟩
  · rintro i p e hx ⟨ts, a, b, v4, v5, hr, htl, hp, rfl⟩
    obtain ⟨z, hz, rfl⟩ := zip_at hx
    have hil := (List.getElem?_eq_some_iff.mp hz).1
    have hzt : z.2 ≤ 60 := by
      have h1 := dr.up.at hz
      have h2 := (dr.up.take i).top
      rw [List.length_take] at h2
      omega
    have hn := dr.nm z (List.mem_of_getElem? hz)
    walk_at "wp"
    refine ⟨inR_ok (by omega) (by omega), by omega, ?_⟩
    refine blanks_ok (k := 0) fun e => ?_
    rw [List.length_map, List.length_range, Int.toNat_natCast]
    walk_at "wp"
    refine join_blanks (by omega) ?_
    walk_at "wp"
    refine ⟨by rw [S_len, S_len, List.length_replicate]; have := hn.l1; omega, ?_⟩
    refine take_ok hp (by decide) (by decide) fun d a3 b3 d0 d1 hp => ?_
    walk_at "wp"
    refine wp_pick d0 (by simpa using d1) fun m hm => ?_
    obtain ⟨mm, hmm, rfl⟩ : ∃ mm, mm ∈ mks ∧ m = .str (S mm) := by
      simp only [List.mem_cons, List.not_mem_nil, or_false] at hm
      rcases hm with rfl | rfl | rfl
      · exact ⟨[], by decide, rfl⟩
      · exact ⟨[32, 63], by decide, rfl⟩
      · exact ⟨[32, 42], by decide, rfl⟩
    walk_at "wp"
    have ml : mm.length ≤ 2 := by
      have : mm = [] ∨ mm = [32, 63] ∨ mm = [32, 42] := by simpa [mks] using hmm
      rcases this with rfl | rfl | rfl <;> simp
    rw [S_app, S_app]
    have n1 := hn.l1
    refine ⟨?_, by omega, ts ++ [rowC z mm], a3, b3, _, _, ?_, by rw [List.length_append, htl]; rfl, hp, by rw [List.map_append]; rfl⟩
    · rw [S_len, S_len, List.length_append, List.length_replicate]
      omega
    · rw [List.take_add_one, hz]
      exact .snoc hr hmm
  · rintro e ⟨ts, a, b, v4, v5, hr, htl, hp, rfl⟩
    have e1 : (((nmP rs).zip (dpP rs)).map fun z => PV.tup [z.1, z.2]).length = rs.length := by rw [List.length_map, List.length_zip, List.length_map, List.length_map, Nat.min_self]
    rw [e1, List.take_length] at hr
    walk_at "wp"
    exact q ts a b hr hp
end
section
open PySem L2 Mr
set_option maxHeartbeats 4000000
/-! ### elders of a drawing, by plain looks -/
noncomputable def lastAt (rs : Rs) (d : Nat) : Option (List Nat) := ((rs.filter fun z => decide (z.2 = d)).getLast?).map (·.1)
noncomputable def eldR (rs : Rs) (d : Nat) : Option (List Nat) := if d = 0 then none else lastAt rs (d - 1)
theorem lastAt_snoc (rs : Rs) (z : List Nat × Nat) (d : Nat) : lastAt (rs ++ [z]) d = if z.2 = d then some z.1 else lastAt rs d := by
  unfold lastAt
  rw [List.filter_append, List.filter_cons]
  by_cases h : z.2 = d
  · rw [decide_eq_true h, if_pos rfl, if_pos h, List.filter_nil, List.getLast?_append, List.getLast?_singleton]; rfl
  · rw [decide_eq_false h, if_neg Bool.false_ne_true, if_neg h, List.filter_nil, List.append_nil]
noncomputable def oS : Option (List Nat) → Option Str := Option.map S
noncomputable def oP : Option Str → PV
  | none => .non
  | some x => .str x
noncomputable abbrev Hl := List (Str × Option Str)
noncomputable def mP (hs : Hl) : List PV := hs.map fun z => .tup [.str z.1, oP z.2]
noncomputable def kvH (hs : Hl) : List (Key × PV) := hs.map fun z => (Sum.inr z.1, oP z.2)
theorem val_kvH (hs : Hl) (x : Str) : (valP (kvH hs) (Sum.inr x) = none ∧ x ∉ hs.map (·.1)) ∨ ∃ o, valP (kvH hs) (Sum.inr x) = some (oP o) ∧ (x, o) ∈ hs := by
  unfold valP kvH
  induction hs with
  | nil => exact .inl ⟨rfl, fun h => nomatch h⟩
  | cons z hs ih =>
    rw [List.map_cons, List.find?_cons]
    by_cases h : z.1 = x
    · right
      subst h
      exact ⟨z.2, by simp, List.mem_cons_self⟩
    · have h' : ¬ (Sum.inr z.1 : Key) = Sum.inr x := fun e => h (Sum.inr.inj e)
      rw [decide_eq_false h']
      rcases ih with ⟨a, b⟩ | ⟨o, a, b⟩
      · exact .inl ⟨a, fun e => by rcases List.mem_cons.mp e with e | e; exact h e.symm; exact b e⟩
      · exact .inr ⟨o, a, List.mem_cons_of_mem _ b⟩
theorem put_kvH {hs : Hl} {x : Str} {o : Option Str} (h : x ∉ hs.map (·.1)) : putP (kvH hs) (Sum.inr x) (oP o) = kvH (hs ++ [(x, o)]) := by
  unfold putP
  have e : ((kvH hs).any fun kv => decide (kv.1 = Sum.inr x)) = false := by
    unfold kvH
    rw [List.any_map, List.any_eq_false]
    intro z hz
    have : z.1 ≠ x := fun e => h (List.mem_map.mpr ⟨z, hz, e⟩)
    simp [this]
  rw [e, if_neg Bool.false_ne_true]
  unfold kvH
  rw [List.map_append]; rfl
/-- names with their elders -/
noncomputable def eldH (rs : Rs) (i : Nat) : Hl := (List.range i).filterMap fun j => (rs[j]?).map fun z => (S z.1, oS (eldR (rs.take j) z.2))
theorem eldH_succ {rs : Rs} {i : Nat} {z : List Nat × Nat} (h : rs[i]? = some z) : eldH rs (i + 1) = eldH rs i ++ [(S z.1, oS (eldR (rs.take i) z.2))] := by
  unfold eldH
  rw [List.range_succ, List.filterMap_append]
  congr 1
  rw [List.filterMap_cons, h]
  rfl
theorem eldH_names {rs : Rs} : ∀ {i : Nat}, i ≤ rs.length → (eldH rs i).map (·.1) = (rs.take i).map fun z => S z.1
  | 0, _ => by rw [List.take_zero]; rfl
  | i + 1, h => by
    have hi : rs[i]? = some rs[i] := List.getElem?_eq_getElem (by omega)
    rw [eldH_succ hi, List.map_append, eldH_names (by omega), List.take_add_one, hi, List.map_append]
    rfl
theorem at_nm {rs : Rs} {j : Nat} {z : List Nat × Nat} (h : rs[j]? = some z) : atI (nmP rs) (0 + (j : Int)) = some (.str (S z.1)) := by
  rw [Int.zero_add]
  exact atI_nat (by rw [List.getElem?_map, h]; rfl)
theorem at_dp {rs : Rs} {j : Nat} {z : List Nat × Nat} (h : rs[j]? = some z) : atI (dpP rs) (0 + (j : Int)) = some (.int (z.2 : Int)) := by
  rw [Int.zero_add]
  exact atI_nat (by rw [List.getElem?_map, h]; rfl)
theorem mP_pl (z : Str × Option Str) : plP 3 (.tup [.str z.1, oP z.2]) = true := by
  show ([PV.str z.1, oP z.2].all (plP 2)) = true
  cases z.2 <;> rfl
theorem mP_cmp {hs : Hl} (h : (hs.map (·.1)).Nodup) : cmpAll 3 (mP hs) = true := List.all_eq_true.mpr fun p hp => by
  obtain ⟨z, hz, rfl⟩ := List.mem_map.mp hp
  rw [Bool.and_eq_true]
  refine ⟨mP_pl z, List.all_eq_true.mpr fun q hq => ?_⟩
  obtain ⟨w, hw, rfl⟩ := List.mem_map.mp hq
  show (lexP (ltP 2) [PV.str z.1, oP z.2] [PV.str w.1, oP w.2]).isSome = true
  unfold lexP
  split
  · rename_i e
    rw [eqP_ss] at e
    have e1 : z.1 = w.1 := eq_of_beq e
    have e2 : z = w := by
      have key : ∀ (l : Hl), (l.map (·.1)).Nodup → ∀ a ∈ l, ∀ b ∈ l, a.1 = b.1 → a = b := by
        intro l
        induction l with
        | nil => intro _ a ha; cases ha
        | cons c l ih =>
          intro hn a ha b hb hab
          rw [List.map_cons, List.nodup_cons] at hn
          rcases List.mem_cons.mp ha with rfl | ha
          · rcases List.mem_cons.mp hb with rfl | hb
            · rfl
            · exact absurd (List.mem_map.mpr ⟨b, hb, hab.symm⟩) hn.1
          · rcases List.mem_cons.mp hb with e | hb
            · exact absurd (List.mem_map.mpr ⟨a, ha, by rw [hab, e]⟩) hn.1
            · exact ih hn.2 a ha b hb hab
      exact key hs h z hz w hw e1
    subst e2
    unfold lexP
    rw [if_pos (eqP_refl (n := 0) (by cases z.2 <;> rfl))]
    rfl
  · rfl
theorem mP_led (hs : Hl) : (mP hs).all (ledP true) = true := List.all_eq_true.mpr fun p hp => by obtain ⟨z, _, rfl⟩ := List.mem_map.mp hp; rfl
theorem perm_mP {hs : Hl} {ps : List PV} (h : ps.Perm (mP hs)) : ∃ ks : Hl, ks.Perm hs ∧ ps = mP ks := by
  have key : ∀ (ps : List PV) (ls : Hl), ps.Perm (mP ls) → ∃ ks : Hl, ks.Perm ls ∧ ps = mP ks := by
    intro ps
    induction ps with
    | nil => intro ls h; have := h.nil_eq; unfold mP at this; rw [List.eq_nil_of_map_eq_nil this.symm]; exact ⟨[], .refl _, rfl⟩
    | cons p ps ih =>
      intro ls h
      obtain ⟨l, hl, e⟩ := List.mem_map.mp (h.mem_iff.mp List.mem_cons_self)
      subst e
      have h2 : (PV.tup [.str l.1, oP l.2] :: ps).Perm (mP (l :: ls.erase l)) := h.trans ((List.perm_cons_erase hl).map _)
      obtain ⟨ks, k1, k2⟩ := ih _ (h2.cons_inv)
      exact ⟨l :: ks, (k1.cons l).trans (List.perm_cons_erase hl).symm, by rw [k2]; rfl⟩
  exact key ps hs h
theorem sort_mP {hs : Hl} {Q : Bv → Prop} (nd : (hs.map (·.1)).Nodup) (h : hs.length < 64) (q : Q (.new (.lst (sortT 3 (mP hs))))) : Wp (gSortX [.lst (mP hs)]) Q := by
  cases hs with
  | nil =>
    refine ⟨_, rfl, ?_⟩
    rw [show sortP [] = [] by unfold sortP; simp]
    have e : sortT 3 (mP []) = [] := by unfold sortT mP; simp
    rw [e] at q
    exact q
  | cons l ls =>
    have e1 : gSortS [.lst (mP (l :: ls))] = none := rfl
    have e2 : gSortD [.lst (mP (l :: ls))] = none := rfl
    unfold gSortX
    rw [e1, e2, Option.none_or, Option.none_or]
    unfold gSortT
    simp only [wp_guard, wp_some]
    refine ⟨?_, q⟩
    rw [mP_led, mP_cmp nd, show (mP (l :: ls)).length = (l :: ls).length by unfold mP; rw [List.length_map], decide_eq_true h]; rfl
theorem elders_ok {rs : Rs} {Q : PV × List PV → Prop} (dr : Drw rs) (hl : rs.length ≤ 60) (q : Q (.tup (sortT 3 (mP (eldH rs rs.length))), [])) : Wp (fn_law_elders [.lst (nmP rs), .lst (dpP rs)]) Q := by
  unfold fn_law_elders b_law_elders
  walk_at "wp"
  refine wp_loop (fun i e => ∃ (v3 v4 v5 v6 : Option Sl), e = [some (.val (.lst (nmP rs))), some (.val (.lst (dpP rs))), some (.loc (.lst (mP (eldH rs i)))), v3, v4, v5, v6]) ?_ ?_ ⟨_, _, _, _, rfl⟩
  · rintro i p e hx ⟨v3, v4, v5, v6, rfl⟩
    rw [List.getElem?_map, List.getElem?_zipIdx, List.getElem?_map] at hx
    cases hz : rs[i]? with
    | none => rw [hz] at hx; cases hx
    | some z =>
      rw [hz] at hx
      cases hx
      have hil := (List.getElem?_eq_some_iff.mp hz).1
      rw [Nat.zero_add]
      walk_at "wp"
      refine ⟨inR_ok (by omega) (by omega), ?_⟩
      have e0 : eldR (rs.take 0) z.2 = none := by unfold eldR; split <;> rfl
      refine wp_loop (fun j e => ∃ (v6 : Option Sl), e = [some (.val (.lst (nmP rs))), some (.val (.lst (dpP rs))), some (.loc (.lst (mP (eldH rs i)))), some (.val (.int (i : Int))), some (.val (.str (S z.1))), some (.val (oP (oS (eldR (rs.take j) z.2)))), v6]) ?_ ?_ ⟨v6, by rw [e0]; rfl⟩
      · rintro j p e hx ⟨v6, rfl⟩
        rw [List.getElem?_map] at hx
        obtain ⟨k, hk, rfl⟩ := Option.map_eq_some_iff.mp hx
        have hj := (List.getElem?_eq_some_iff.mp hk).1
        rw [List.length_range, Int.toNat_natCast] at hj
        rw [List.getElem?_range (by rw [Int.toNat_natCast]; exact hj)] at hk
        cases hk
        have hjl : j < rs.length := by omega
        obtain ⟨y, hy⟩ : ∃ y, rs[j]? = some y := ⟨_, List.getElem?_eq_getElem hjl⟩
        have hnm := at_nm hy
        have hdp := at_dp hy
        have hdi := at_dp hz
        rw [Int.zero_add] at hdi
        have st : eldR (rs.take (j + 1)) z.2 = if (y.2 : Int) = (z.2 : Int) - 1 then some y.1 else eldR (rs.take j) z.2 := by
          unfold eldR
          rw [List.take_add_one, hy, Option.toList_some, lastAt_snoc]
          by_cases h0 : z.2 = 0
          · rw [if_pos h0, if_pos h0, if_neg (by omega)]
          · rw [if_neg h0, if_neg h0]
            by_cases h1 : y.2 = z.2 - 1
            · rw [if_pos h1, if_pos (by omega)]
            · rw [if_neg h1, if_neg (by omega)]
        walk_at "wp"
        rw [hdp]
        walk_at "wp"
        rw [hdi]
        walk_at "wp"
        refine ⟨fun h => ?_, fun h => ?_⟩
        · rw [hnm]
          walk_at "wp"
          exact ⟨_, by rw [st, if_pos (eq_of_beq h)]; rfl⟩
        · exact ⟨_, by rw [st, if_neg fun e => by rw [e, beq_self_eq_true] at h; cases h]⟩
      · rintro e ⟨v6, rfl⟩
        rw [List.length_map, List.length_range, Int.toNat_natCast]
        have ll : (mP (eldH rs i)).length ≤ i := by
          unfold mP eldH
          rw [List.length_map]
          have := List.length_filterMap_le (fun j => (rs[j]?).map fun z => (S z.1, oS (eldR (rs.take j) z.2))) (List.range i)
          rw [List.length_range] at this
          exact this
        walk_at "wp"
        have em : mP (eldH rs (i + 1)) = mP (eldH rs i) ++ [.tup [.str (S z.1), oP (oS (eldR (rs.take i) z.2))]] := by
          rw [eldH_succ hz]
          unfold mP
          rw [List.map_append]
          rfl
        rw [em]
        exact ⟨by omega, _, _, _, _, rfl⟩
  · rintro e ⟨v3, v4, v5, v6, rfl⟩
    rw [List.length_map, List.length_zipIdx, List.length_map]
    have en := eldH_names (rs := rs) (Nat.le_refl _)
    rw [List.take_length] at en
    have nd : ((eldH rs rs.length).map (·.1)).Nodup := by
      rw [en]
      have := dr.nd
      rw [show (rs.map fun z => S z.1) = (rs.map (·.1)).map S by rw [List.map_map]; rfl]
      exact List.Pairwise.map S (fun a b h e => h (S_inj.mp e)) this
    walk_at "wp"
    refine sort_mP nd (by have := congrArg List.length en; rw [List.length_map, List.length_map] at this; omega) ?_
    walk_at "wp"
    exact q
end
section
open PySem L2 Mr
set_option maxHeartbeats 4000000
/-! ### reading -/
theorem AL_mem (c : Nat) (hc : c ∈ AL) : (!(Builtin.Str.occurrences (S AL) (S [c]) 0 (S AL).length 1).isEmpty) = true := by rw [in_one]; exact decide_eq_true hc
theorem isname_ok {l : List Nat} {Q : PV × List PV → Prop} (h : NmC l) (q : Q (.bl true, [])) : Wp (fn_is_name [.str (S l)]) Q := by
  unfold fn_is_name b_is_name
  rw [AL_str]
  have l0 := h.l0
  have l1 := h.l1
  walk_at "wp"
  refine ⟨by rw [S_len]; omega, ?_⟩
  rw [S_len, decide_eq_true (show (1 : Int) ≤ (l.length : Int) by omega), decide_eq_true (show (l.length : Int) ≤ 12 by omega)]
  walk_at "wp"
  refine ⟨by omega, ?_⟩
  refine wp_comp (fun i acc e => acc = (l.take i).map (fun _ => .bl true) ∧ ∃ s, e = [s]) ?_ ?_ ⟨rfl, _, rfl⟩
  · rintro i p e acc hx ⟨rfl, s, rfl⟩
    rw [List.getElem?_map] at hx
    obtain ⟨c, hc, rfl⟩ := Option.map_eq_some_iff.mp hx
    have hm := AL_mem c (h.al c (List.mem_of_getElem? hc))
    walk_at "wp"
    rw [show (⟨#[c]⟩ : Str) = S [c] from rfl, hm]
    exact ⟨by rw [List.take_add_one, hc, List.map_append]; rfl, _, rfl⟩
  · rintro acc e ⟨rfl, s, rfl⟩
    rw [List.length_map, List.take_length]
    walk_at "wp"
    rw [show (l.map fun _ => PV.bl true) = (l.map fun _ => true).map PV.bl by rw [List.map_map]; rfl, blsP_map]
    walk_at "wp"
    rw [show (l.map fun _ => true).all id = true from List.all_eq_true.mpr fun b hb => by obtain ⟨_, _, rfl⟩ := List.mem_map.mp hb; rfl]
    exact q
theorem checked_ok {x : Str} {Q : PV × List PV → Prop} (q : Q (.str x, [])) : Wp (fn_checked [.str x]) Q := by
  unfold fn_checked b_checked
  walk_at "wp"
  exact q
theorem needed_ok {p : List PV} {i : Int} {Q : PV × List PV → Prop} (q : Q (.tup p, [])) : Wp (fn_needed [.tup p, .int i]) Q := by
  unfold fn_needed b_needed
  walk_at "wp"
  exact q
theorem place_ok {z : List Nat × Nat} {m : List Nat} {Q : PV × List PV → Prop} (hn : NmC z.1) (hz : z.2 ≤ 60) (hm : m ∈ mks) (q : Q (.tup [.int (z.2 : Int), .str (S z.1)], [])) : Wp (fn_place_in [.str (S (rowC z m))]) Q := by
  have ml : m = [] ∨ m = [32, 63] ∨ m = [32, 42] := by simpa [mks] using hm
  have n1 := hn.l1
  have n0 := hn.l0
  have e1 : Txt.lstripChars (S (rowC z m)) (S [32]) = S (z.1 ++ m) := by
    unfold rowC
    rw [List.append_assoc]
    refine lstrip_S fun a r e => ?_
    cases h : z.1 with
    | nil => rw [h] at n0; simp at n0
    | cons b t =>
      rw [h] at e
      cases e
      intro e
      exact hn.no AL32 (by rw [h, ← e]; simp)
  have l1 : (rowC z m).length = 2 * z.2 + z.1.length + m.length := by unfold rowC; simp; omega
  unfold fn_place_in b_place_in
  rw [s_sp, s_empty, s_q, s_u]
  walk_at "wp"
  rw [e1, S_len, S_len, l1, List.length_append]
  have h32 : 32 ∉ z.1 := hn.no AL32
  have m2 : m.length ≤ 2 := by rcases ml with rfl | rfl | rfl <;> simp
  refine ⟨by omega, by omega, by omega, ⟨by omega, by decide⟩, ?_⟩
  have d0 : ((2 * z.2 + z.1.length + m.length : Nat) : Int) - ((z.1.length + m.length : Nat) : Int) = 2 * (z.2 : Int) := by omega
  rw [d0]
  have dv : 2 * (z.2 : Int) / 2 = (z.2 : Int) := by omega
  have md : (2 * (z.2 : Int) % 2 == 0) = true := by rw [show 2 * (z.2 : Int) % 2 = 0 by omega]; rfl
  rcases ml with rfl | rfl | rfl
  · rw [List.append_nil, part_no h32]
    refine isname_ok hn ?_
    walk_at "wp"
    rw [S_app, md, dv]
    exact ⟨by decide, fun h => absurd h (by simp), fun _ => ⟨fun _ => q, fun h => (by cases h)⟩⟩
  · rw [part_at h32]
    refine isname_ok hn ?_
    walk_at "wp"
    rw [S_app, md, dv]
    exact ⟨by decide, fun h => absurd h (by simp), fun _ => ⟨fun _ => q, fun h => (by cases h)⟩⟩
  · rw [part_at h32]
    refine isname_ok hn ?_
    walk_at "wp"
    rw [S_app, md, dv]
    exact ⟨by decide, fun h => absurd h (by simp), fun _ => ⟨fun _ => q, fun h => (by cases h)⟩⟩
noncomputable def ripeR (ts : List (List Nat)) : Prop := ∀ t ∈ ts, 10 ∉ t ∧ t ≠ [] ∧ t.length ≤ 140
theorem Rows.len {rs : Rs} {ts : List (List Nat)} (h : Rows rs ts) : ts.length = rs.length := by
  induction h with
  | nil => rfl
  | snoc _ _ ih => rw [List.length_append, List.length_append, ih]; rfl
theorem Rows.at {rs : Rs} {ts : List (List Nat)} (h : Rows rs ts) : ∀ {i : Nat} {z : List Nat × Nat}, rs[i]? = some z → ∃ m ∈ mks, ts[i]? = some (rowC z m) := by
  induction h with
  | nil => intro i z e; cases e
  | @snoc rs w ts m h hm ih =>
    intro i z e
    have hlen := h.len
    by_cases hi : i < rs.length
    · rw [List.getElem?_append_left hi] at e
      obtain ⟨m', h1, h2⟩ := ih e
      exact ⟨m', h1, by rw [List.getElem?_append_left (by omega)]; exact h2⟩
    · have hl := (List.getElem?_eq_some_iff.mp e).1
      rw [List.length_append] at hl
      simp at hl
      have hil : i = rs.length := by omega
      subst hil
      rw [List.getElem?_append_right (Nat.le_refl _), Nat.sub_self] at e
      cases e
      exact ⟨m, hm, by rw [List.getElem?_append_right (by omega), hlen, Nat.sub_self]; rfl⟩
theorem Rows.ripe {rs : Rs} {ts : List (List Nat)} (h : Rows rs ts) (dr : Drw rs) (hl : rs.length ≤ 60) : ripeR ts := by
  intro t ht
  obtain ⟨i, hi⟩ := List.getElem?_of_mem ht
  have hil := (List.getElem?_eq_some_iff.mp hi).1
  rw [h.len] at hil
  have hz : rs[i]? = some rs[i] := List.getElem?_eq_getElem hil
  obtain ⟨m, hm, e⟩ := h.at hz
  rw [hi] at e
  cases e
  have hn := dr.nm _ (List.mem_of_getElem? hz)
  have h2 := dr.up.at hz
  have h3 := (dr.up.take i).top
  rw [List.length_take] at h3
  have n1 := hn.l1
  have n0 := hn.l0
  have ml : m = [] ∨ m = [32, 63] ∨ m = [32, 42] := by simpa [mks] using hm
  have m2 : m.length ≤ 2 := by rcases ml with rfl | rfl | rfl <;> simp
  have m10 : 10 ∉ m := by rcases ml with rfl | rfl | rfl <;> simp
  refine ⟨fun h10 => ?_, fun e => ?_, ?_⟩
  · unfold rowC at h10
    rcases List.mem_append.mp h10 with h | h
    · rcases List.mem_append.mp h with h | h
      · have := (List.mem_replicate.mp h).2
        omega
      · exact hn.no AL10 h
    · exact m10 h
  · have := congrArg List.length e
    unfold rowC at this
    rw [List.length_append, List.length_append, List.length_replicate, List.length_nil] at this
    omega
  · unfold rowC
    simp
    omega
theorem jn_len : ∀ {ts : List (List Nat)}, (∀ t ∈ ts, t.length ≤ 140) → (jn [10] ts).length ≤ 141 * ts.length
  | [], _ => Nat.zero_le _
  | [t], h => by have := h t List.mem_cons_self; simp [jn]; omega
  | t :: u :: r, h => by
    have h1 := h t List.mem_cons_self
    have h2 := jn_len (ts := u :: r) fun x hx => h x (List.mem_cons_of_mem _ hx)
    rw [jn, List.length_append, List.length_append]
    simp at h2 ⊢
    omega
theorem rows_in_ok {ts : List (List Nat)} {Q : PV × List PV → Prop} (hr : ripeR ts) (hl : ts.length ≤ 60) (q : Q (.lst (ts.map fun t => .str (S t)), [])) : Wp (fn_rows_in [.str (S (jn [10] ts))]) Q := by
  have jl := jn_len fun t ht => (hr t ht).2.2
  unfold fn_rows_in b_rows_in
  rw [s_nl, s_empty]
  walk_at "wp"
  refine checked_ok ?_
  walk_at "wp"
  rw [S_len]
  refine ⟨⟨by omega, by decide⟩, ?_⟩
  cases ts with
  | nil =>
    rw [show jn [10] [] = [] from rfl, split_nil]
    walk_at "wp"
    first | exact ⟨q, fun h => (by cases h)⟩ | exact q | exact ⟨fun _ => q, fun h => (by cases h)⟩
  | cons t ts =>
    rw [split_jn (by simp) fun p hp => (hr p hp).1]
    have ht := (hr t List.mem_cons_self).2.1
    have hne : (S t == S []) = false := beq_eq_false_iff_ne.mpr fun e => ht (S_inj.mp e)
    walk_at "wp"
    refine ⟨?_, fun h => absurd h.1 (by rw [hne]; exact Bool.false_ne_true), fun _ => ?_⟩
    · rw [List.map_map]
      exact List.all_eq_true.mpr fun p hp => by obtain ⟨z, _, rfl⟩ := List.mem_map.mp hp; rfl
    · rw [List.map_map]
      exact q
end
section
open PySem L2 Mr
set_option maxHeartbeats 4000000
theorem keysS_kvH : ∀ hs : Hl, keysS (kvH hs) = some (hs.map (·.1))
  | [] => rfl
  | z :: hs => by
    show bO (keysS (kvH hs)) (fun ss => some (z.1 :: ss)) = _
    rw [keysS_kvH hs]; rfl
noncomputable def look (hs : Hl) (x : Str) : Option Str := (hs.find? fun z => decide (z.1 = x)).bind (·.2)
theorem look_mem {hs : Hl} (hn : (hs.map (·.1)).Nodup) {z : Str × Option Str} (h : z ∈ hs) : look hs z.1 = z.2 := by
  unfold look
  induction hs with
  | nil => cases h
  | cons y hs ih =>
    rw [List.map_cons, List.nodup_cons] at hn
    rw [List.find?_cons]
    rcases List.mem_cons.mp h with rfl | h
    · rw [decide_eq_true rfl]; rfl
    · have hne : y.1 ≠ z.1 := fun e => hn.1 (List.mem_map.mpr ⟨z, h, e.symm⟩)
      rw [decide_eq_false hne]
      exact ih hn.2 h
theorem val_look {hs : Hl} (hn : (hs.map (·.1)).Nodup) {x : Str} (h : x ∈ hs.map (·.1)) : valP (kvH hs) (Sum.inr x) = some (oP (look hs x)) := by
  rcases val_kvH hs x with ⟨_, h2⟩ | ⟨o, h1, h2⟩
  · exact absurd h h2
  · rw [h1, look_mem hn h2]
theorem leC_first {a b : Str} {x y : PV} (h : sLe a b) (hne : a ≠ b) : leC 3 (.tup [.str a, x]) (.tup [.str b, y]) = true := by
  unfold leC
  have hc : ∀ (a : Str) (x : PV), Mr.code 3 (.tup [.str a, x]) = 1 :: (a.cps.toList.map (fun c : Nat => (c : Int) + 1) ++ [0] ++ (1 :: Mr.code 2 x ++ [0])) := fun a x => by
    show (([PV.str a, x] : List PV).flatMap (fun x => 1 :: Mr.code 2 x) ++ [0]) = _
    rw [List.flatMap_cons, List.flatMap_cons, List.flatMap_nil, show Mr.code 2 (.str a) = a.cps.toList.map (fun c : Nat => (c : Int) + 1) ++ [0] from rfl]
    simp
  have hn : b.cps.toList ≠ a.cps.toList := fun e => hne (PM.ext_codes e.symm)
  rw [hc, hc, ltC_cons, if_pos rfl, ltC_str, if_neg hn, decide_eq_false h]
  rfl
theorem sort_is {hs : Hl} (hn : (hs.map (·.1)).Nodup) : sortT 3 (mP hs) = (sortP (hs.map (·.1))).map fun x => .tup [.str x, oP (look hs x)] := by
  have e0 : (hs.map (·.1)).map (fun x => PV.tup [.str x, oP (look hs x)]) = mP hs := by
    rw [List.map_map]
    unfold mP
    refine List.map_congr_left fun z hz => ?_
    simp only [Function.comp_apply]
    rw [look_mem hn hz]
  have p1 : ((sortP (hs.map (·.1))).map fun x => PV.tup [.str x, oP (look hs x)]).Perm (mP hs) := by rw [← e0]; exact (sortP_is _).map _
  have nd : (sortP (hs.map (·.1))).Nodup := (sortP_is _).nodup_iff.mpr hn
  have s1 : ((sortP (hs.map (·.1))).map fun x => PV.tup [.str x, oP (look hs x)]).Pairwise fun a b => leC 3 a b = true := by
    rw [List.pairwise_map]
    have nd' : (sortP (hs.map (·.1))).Pairwise fun a b => a ≠ b := nd
    exact (List.Pairwise.and (sortP_sorted (hs.map (·.1))) nd').imp fun h => leC_first h.1 h.2
  exact sorted_oneP (sortT_sorted 3 _) s1 ((sortT_perm 3 _).trans p1.symm) fun x hx y hy h1 h2 => cmp_anti (mP_cmp hn) ((sortT_perm 3 _).mem_iff.mp hx) ((sortT_perm 3 _).mem_iff.mp hy) h1 h2
structure PI (rs : Rs) (i : Nat) (ph : List (List Nat)) : Prop where
  len : ph.length = topR (rs.take i)
  at' : ∀ j, j < ph.length → lastAt (rs.take i) j = ph[j]?
theorem PI.step {rs : Rs} {i : Nat} {ph : List (List Nat)} {z : List Nat × Nat} (h : PI rs i ph) (hz : rs[i]? = some z) (hd : z.2 ≤ ph.length) : PI rs (i + 1) (ph.take z.2 ++ [z.1]) := by
  have et : rs.take (i + 1) = rs.take i ++ [z] := by rw [List.take_add_one, hz]; rfl
  refine ⟨?_, fun j hj => ?_⟩
  · rw [et]
    unfold topR
    rw [List.getLast?_append, List.getLast?_singleton, Option.some_or, List.length_append, List.length_take]
    simp
    omega
  · rw [List.length_append, List.length_take] at hj
    simp at hj
    rw [et, lastAt_snoc]
    by_cases hjd : z.2 = j
    · subst hjd
      rw [if_pos rfl, List.getElem?_append_right (by rw [List.length_take]; omega), List.length_take, show z.2 - min z.2 ph.length = 0 by omega]
      rfl
    · rw [if_neg hjd, List.getElem?_append_left (by rw [List.length_take]; omega), List.getElem?_take, if_pos (by omega)]
      exact h.at' j (by omega)
theorem PI.eld {rs : Rs} {i : Nat} {ph : List (List Nat)} {d : Nat} (h : PI rs i ph) (hd : d ≤ ph.length) : eldR (rs.take i) d = (ph.take d).getLast? := by
  unfold eldR
  by_cases h0 : d = 0
  · subst h0; rw [if_pos rfl]; rfl
  · rw [if_neg h0, h.at' (d - 1) (by omega), List.getLast?_eq_getElem?, List.length_take, List.getElem?_take, if_pos (by omega), show min d ph.length - 1 = d - 1 by omega]
noncomputable abbrev phP (ph : List (List Nat)) : List PV := ph.map fun l => .str (S l)
theorem read_ok {rs : Rs} {ts : List (List Nat)} {Q : PV × List PV → Prop} (dr : Drw rs) (hl : rs.length ≤ 60) (hr : Rows rs ts) (q : Q (.tup (sortT 3 (mP (eldH rs rs.length))), [])) : Wp (fn_read_drawn [.str (S (jn [10] ts))]) Q := by
  have htl := hr.len
  have nmN : ∀ i, i ≤ rs.length → (eldH rs i).map (·.1) = ((rs.take i).map (·.1)).map S := fun i hi => by rw [eldH_names hi, List.map_map]; rfl
  have ndS : ∀ l : List (List Nat), l.Nodup → (l.map S).Nodup := fun l h => List.Pairwise.map S (fun a b h e => h (S_inj.mp e)) h
  have lenE : ∀ i, i ≤ rs.length → (eldH rs i).length = i := fun i hi => by
    have := congrArg List.length (eldH_names hi)
    rw [List.length_map, List.length_map, List.length_take] at this
    omega
  unfold fn_read_drawn b_read_drawn
  walk_at "wp"
  refine rows_in_ok (hr.ripe dr hl) (by omega) ?_
  walk_at "wp"
  refine wp_loop (fun i e => ∃ (ph : List (List Nat)) (v3 v4 v5 v6 : Option Sl), i ≤ rs.length ∧ PI rs i ph ∧ e = [some (.val (.str (S (jn [10] ts)))), some (.loc (.dct (kvH (eldH rs i)))), some (.loc (.lst (phP ph))), v3, v4, v5, v6]) ?_ ?_ ⟨[], _, _, _, _, Nat.zero_le _, ⟨rfl, fun j h => absurd h (Nat.not_lt_zero _)⟩, rfl⟩
  · rintro i p e hx ⟨ph, v3, v4, v5, v6, hi, pi, rfl⟩
    rw [List.getElem?_map, List.getElem?_zipIdx, List.getElem?_map] at hx
    cases ht : ts[i]? with
    | none => rw [ht] at hx; cases hx
    | some t =>
      rw [ht] at hx
      cases hx
      have hil : i < rs.length := by have := (List.getElem?_eq_some_iff.mp ht).1; omega
      obtain ⟨z, hz⟩ : ∃ z, rs[i]? = some z := ⟨_, List.getElem?_eq_getElem hil⟩
      obtain ⟨m, hm, e⟩ := hr.at hz
      rw [ht] at e
      cases e
      have hn := dr.nm z (List.mem_of_getElem? hz)
      have htop := dr.up.at hz
      have h3 := (dr.up.take i).top
      rw [List.length_take] at h3
      have hd : z.2 ≤ ph.length := by rw [pi.len]; exact htop
      have hph : ph.length ≤ 60 := by rw [pi.len]; omega
      walk_at "wp"
      refine place_ok hn (by omega) hm ?_
      walk_at "wp"
      refine needed_ok ?_
      walk_at "wp"
      have hno : S z.1 ∉ (eldH rs i).map (·.1) := by
        rw [nmN i hi]
        intro h
        obtain ⟨l, h1, h2⟩ := List.mem_map.mp h
        rw [S_inj.mp h2] at h1
        obtain ⟨y, h4, h5⟩ := List.mem_map.mp h1
        obtain ⟨j, hj⟩ := List.getElem?_of_mem h4
        rw [List.getElem?_take] at hj
        split at hj
        · have e1 : (rs.map (·.1))[j]? = some z.1 := by rw [List.getElem?_map, hj]; exact congrArg some h5
          have e2 : (rs.map (·.1))[i]? = some z.1 := by rw [List.getElem?_map, hz]; rfl
          have := (List.getElem?_inj (List.getElem?_eq_some_iff.mp e1).1 dr.nd).mp (e1.trans e2.symm)
          omega
        · cases hj
      have hv : valP (kvH (eldH rs i)) (Sum.inr (S z.1)) = none := by
        rcases val_kvH (eldH rs i) (S z.1) with ⟨h, _⟩ | ⟨o, _, h⟩
        · exact h
        · exact absurd (List.mem_map.mpr ⟨_, h, rfl⟩) hno
      have kl : (kvH (eldH rs i)).length = i := by unfold kvH; rw [List.length_map]; exact lenE i hi
      have pt : ∀ o : Option (List Nat), o = eldR (rs.take i) z.2 → putP (kvH (eldH rs i)) (Sum.inr (S z.1)) (oP (oS o)) = kvH (eldH rs (i + 1)) := fun o ho => by
        rw [put_kvH hno, eldH_succ hz, ho]
      have fin := pi.step hz hd
      rw [hv, Int.toNat_natCast]
      refine ⟨fun h => absurd h (by omega), fun _ => ⟨fun h => (by cases h), fun _ => ⟨⟨by omega, by omega⟩, ?_⟩⟩⟩
      have et : (phP ph).take z.2 = phP (ph.take z.2) := by unfold phP; rw [List.map_take]
      rw [et]
      have hel := pi.eld hd
      have ptl : (ph.take z.2).length ≤ 60 := by rw [List.length_take]; omega
      cases hlast : (ph.take z.2).getLast? with
      | none =>
        have e0 := List.getLast?_eq_none_iff.mp hlast
        rw [hlast] at hel
        have hp := pt none hel.symm
        rw [show oP (oS none) = PV.non from rfl] at hp
        rw [e0, hp, kl]
        walk_at "wp"
        rw [e0] at fin
        refine ⟨fun h => (by cases h), fun _ => ?_⟩
        exact ⟨by omega, [z.1], _, _, _, _, by omega, fin, rfl⟩
      | some l =>
        rw [hlast] at hel
        have hp := pt (some l) hel.symm
        rw [show oP (oS (some l)) = PV.str (S l) from rfl] at hp
        rw [at_last (p := .str (S l)) (by rw [List.getLast?_map, hlast]; rfl)]
        walk_at "wp"
        rw [hp, kl]
        have hne : (phP (ph.take z.2)).isEmpty = false := by
          cases h : ph.take z.2 with
          | nil => rw [h] at hlast; cases hlast
          | cons a b => rfl
        rw [hne]
        refine ⟨fun _ => ⟨by omega, by omega, ph.take z.2 ++ [z.1], some (Sl.val (PV.int ((0 + i : Nat) : Int))), some (Sl.val (PV.str (S (rowC z m)))), some (Sl.val (PV.int (z.2 : Int))), some (Sl.val (PV.str (S z.1))), by omega, fin, ?_⟩, fun h => (by cases h)⟩
        unfold phP
        rw [List.map_append]
        rfl
  · rintro e ⟨ph, v3, v4, v5, v6, hi, pi, rfl⟩
    rw [List.length_map, List.length_zipIdx, List.length_map, htl]
    have nd : ((eldH rs rs.length).map (·.1)).Nodup := by rw [nmN _ (Nat.le_refl _), List.take_length]; exact ndS _ dr.nd
    rw [sort_is nd] at q
    have hsl := lenE rs.length (Nat.le_refl _)
    generalize eldH rs rs.length = hs at nd q hsl
    have eg : gSortX [.dct (kvH hs)] = some (.new (.lst ((sortP (hs.map (·.1))).map PV.str))) := by
      have e1 : gSortD [.dct (kvH hs)] = some (.new (.lst ((sortP (hs.map (·.1))).map PV.str))) := by
        show bO (keysS (kvH hs)) _ = _
        rw [keysS_kvH, bO_v, decide_eq_true (by rw [List.length_map]; omega)]
        rfl
      unfold gSortX
      rw [e1]
      rfl
    have sl : (sortP (hs.map (·.1))).length = hs.length := by rw [(sortP_is _).length_eq, List.length_map]
    have sm : ∀ x ∈ sortP (hs.map (·.1)), x ∈ hs.map (·.1) := fun x hx => (sortP_is _).mem_iff.mp hx
    generalize sortP (hs.map (·.1)) = ns at eg sl sm q
    walk_at "wp"
    rw [eg]
    walk_at "wp"
    refine ⟨by omega, ?_⟩
    refine wp_comp (fun i acc e => acc = (ns.take i).map (fun x => .tup [.str x, oP (look hs x)]) ∧ ∃ s, e = [s, some (Sl.bor (.dct (kvH hs)))]) ?_ ?_ ⟨rfl, _, rfl⟩
    · rintro i p e acc hx ⟨rfl, s, rfl⟩
      rw [List.getElem?_map] at hx
      obtain ⟨x, hxe, rfl⟩ := Option.map_eq_some_iff.mp hx
      walk_at "wp"
      rw [val_look nd (sm x (List.mem_of_getElem? hxe))]
      walk_at "wp"
      exact ⟨by rw [List.take_add_one, hxe, List.map_append]; rfl, _, rfl⟩
    · rintro acc e ⟨rfl, s, rfl⟩
      rw [List.length_map, List.take_length]
      walk_at "wp"
      exact q
theorem ok_mP {hs : Hl} : (sortT 3 (mP hs)).all (okP 8) = true := List.all_eq_true.mpr fun p hp => by
  obtain ⟨z, _, rfl⟩ := List.mem_map.mp ((sortT_perm 3 (mP hs)).mem_iff.mp hp)
  cases h : z.2 <;> rfl
theorem eq_mP {hs : Hl} : eqPL (sortT 3 (mP hs)) (sortT 3 (mP hs)) = true := eqPL_refl (n := 3) (fun h => eqP_refl h) (List.all_eq_true.mpr fun p hp => by
  obtain ⟨z, _, rfl⟩ := List.mem_map.mp ((sortT_perm 3 (mP hs)).mem_iff.mp hp)
  exact mP_pl z)
theorem join_rows {ts : List (List Nat)} {Q : Bv → Prop} (h : ripeR ts) (hl : ts.length ≤ 60) (q : Q (.val (.str (S (jn [10] ts))))) : Wp (gJoin (.str (S [10])) [.lst (ts.map fun t => .str (S t))]) Q := by
  unfold gJoin
  rw [show (ts.map fun t => PV.str (S t)) = (ts.map S).map PV.str by rw [List.map_map]; rfl]
  simp only [strsP_map, wp_bO, wp_some, wp_guard, decide_eq_true_eq]
  refine ⟨?_, by rw [joinS]; exact q⟩
  have e : ∀ ts : List (List Nat), ripeR ts → ((ts.map S).map (·.length)).sum ≤ 140 * ts.length := by
    intro ts
    induction ts with
    | nil => intro _; exact Nat.zero_le _
    | cons t ts ih =>
      intro h
      have h1 := (h t List.mem_cons_self).2.2
      have h2 := ih fun u hu => h u (List.mem_cons_of_mem _ hu)
      rw [List.map_cons, List.map_cons, List.sum_cons, List.length_cons, S_len]
      omega
  have := e ts h
  rw [S_len, List.length_map, show ([10] : List Nat).length = 1 from rfl]
  omega
theorem law_wp {ns : List Int} (hn : ns.length ≤ 63) : Wp (fn_law [.lst (ns.map PV.int)]) fun w => w = (.bl true, []) := by
  unfold fn_law b_law
  rw [s_nl]
  walk_at "wp"
  refine ⟨inR_ok (by split <;> (try split) <;> omega) (by split <;> (try split) <;> omega), ?_⟩
  refine wp_loop (fun i e => ∃ (v1 v2 v3 v4 v5 v6 v7 v8 v9 : Option Sl), e = [some (.bor (.lst (ns.map PV.int))), v1, v2, v3, v4, v5, v6, v7, v8, v9]) ?_ ?_ ⟨_, _, _, _, _, _, _, _, _, rfl⟩
  · rintro i p e hx ⟨v1, v2, v3, v4, v5, v6, v7, v8, v9, rfl⟩
    rw [List.getElem?_map] at hx
    obtain ⟨k, hk, rfl⟩ := Option.map_eq_some_iff.mp hx
    have hki := (List.getElem?_eq_some_iff.mp hk).1
    rw [List.length_range] at hki
    rw [List.getElem?_range hki] at hk
    cases hk
    have hi : i < 31 := by
      revert hki
      split <;> (try split) <;> omega
    walk_at "wp"
    refine pot_ok (by omega) (by omega) hn fun a b hp => ?_
    walk_at "wp"
    refine wp_pick (by split <;> decide) (by split <;> decide) fun w hw => ?_
    obtain ⟨most, rfl, m0, m1⟩ : ∃ most : Int, w = .int most ∧ 0 ≤ most ∧ most ≤ 60 := by
      simp only [List.mem_cons, List.not_mem_nil, or_false] at hw
      rcases hw with rfl | rfl <;> exact ⟨_, rfl, by decide, by decide⟩
    walk_at "wp"
    refine drawing_ok hp m0 m1 fun rs a1 b1 dr hl hp => ?_
    walk_at "wp"
    refine elders_ok dr hl ?_
    walk_at "wp"
    refine rows_ok hp dr hl fun ts a2 b2 hts hp => ?_
    have l1 := hts.len
    walk_at "wp"
    refine join_rows (hts.ripe dr hl) (by omega) ?_
    walk_at "wp"
    refine rows_ok hp dr hl fun us a3 b3 hus hp => ?_
    have l2 := hus.len
    walk_at "wp"
    refine join_rows (hus.ripe dr hl) (by omega) ?_
    walk_at "wp"
    refine wp_loop (fun j e => ∃ (v8 v9 : Option Sl), e = [some (Sl.bor (PV.lst (ns.map PV.int))), some (Sl.val (PV.int (0 + (i : Int)))), some (Sl.loc (pot a3 b3)), some (Sl.val (.lst (nmP rs))), some (Sl.val (.lst (dpP rs))), some (Sl.val (.tup (sortT 3 (mP (eldH rs rs.length))))), some (Sl.val (.str (S (jn [10] ts)))), some (Sl.val (.str (S (jn [10] us)))), v8, v9]) ?_ ?_ ⟨_, _, rfl⟩
    · rintro j p e hx ⟨v8, v9, rfl⟩
      obtain ⟨xs, hxs, rfl⟩ : ∃ xs, Rows rs xs ∧ p = .str (S (jn [10] xs)) := by
        have := List.mem_of_getElem? hx
        simp only [List.mem_cons, List.not_mem_nil, or_false] at this
        rcases this with rfl | rfl | rfl
        · exact ⟨ts, hts, rfl⟩
        · exact ⟨us, hus, rfl⟩
        · exact ⟨ts, hts, rfl⟩
      walk_at "wp"
      refine read_ok dr hl hxs ?_
      walk_at "wp"
      rw [eq_mP]
      refine ⟨ok_mP, ?_⟩
      walk_at "wp"
      exact ⟨fun h => h.elim, _, _, rfl⟩
    · rintro e ⟨v8, v9, rfl⟩
      exact ⟨_, _, _, _, _, _, _, _, _, rfl⟩
  · rintro e ⟨v1, v2, v3, v4, v5, v6, v7, v8, v9, rfl⟩
    walk_at "wp"
theorem law_true : ∀ ns : List Int, ns.length ≤ 63 → fn_law [.lst (ns.map PV.int)] = some (.bl true, []) := fun ns hn => (law_wp hn).eq
end
theorem all_mk {l : PySem.W.OpenLaw} {w : World} {K : PySem.W.Frag} {h : Heap} {mg : Str → Option Value} {fa f0 f1 f2 f3 f4 f5 f6 f7 f8 f9 f10 f11 f12 : Addr} (X : K.In h) (G : h.Ns mainGlobals mg) (hfa : mg "law" = some (.ref fa))
    {od0 an0 od1 an1 od2 an2 od3 an3 od4 an4 od5 an5 od6 an6 od7 an7 od8 an8 od9 an9 od10 an10 od11 an11 od12 an12 : Option Addr} {sl0 sl1 sl2 sl3 sl4 sl5 sl6 sl7 sl8 sl9 sl10 sl11 sl12 : Array (Option Value)} {oc0 kV0 dc0 pm0 cd0 ct0 oc1 kV1 dc1 pm1 cd1 ct1 oc2 kV2 dc2 pm2 cd2 ct2 oc3 kV3 dc3 pm3 cd3 ct3 oc4 kV4 dc4 pm4 cd4 ct4 oc5 kV5 dc5 pm5 cd5 ct5 oc6 kV6 dc6 pm6 cd6 ct6 oc7 kV7 dc7 pm7 cd7 ct7 oc8 kV8 dc8 pm8 cd8 ct8 oc9 kV9 dc9 pm9 cd9 ct9 oc10 kV10 dc10 pm10 cd10 ct10 oc11 kV11 dc11 pm11 cd11 ct11 oc12 kV12 dc12 pm12 cd12 ct12 : Value} {tk0 tk1 tk2 tk3 : Tok}
    (a0 : PySem.W.nsIn K mainGlobals "is_name" = some (some (.ref f0))) (l0 : K.lookup f0 = some ⟨oc0, od0, .func (PySem.W.fnOf "is_name" "is_name" (defArgs s_is_name) (defBody s_is_name) (defScope s_is_name) .none kV0 dc0 pm0 an0 cd0 ct0), sl0⟩) (c0 : PySem.W.codeIn K cd0 "is_name" = true) (k0 : PySem.W.keepIn K (.ref f0) = true)
    (a1 : PySem.W.nsIn K mainGlobals "checked" = some (some (.ref f1))) (l1 : K.lookup f1 = some ⟨oc1, od1, .func (PySem.W.fnOf "checked" "checked" (defArgs s_checked) (defBody s_checked) (defScope s_checked) .none kV1 dc1 pm1 an1 cd1 ct1), sl1⟩) (c1 : PySem.W.codeIn K cd1 "checked" = true) (k1 : PySem.W.keepIn K (.ref f1) = true)
    (a2 : PySem.W.nsIn K mainGlobals "rows_in" = some (some (.ref f2))) (l2 : K.lookup f2 = some ⟨oc2, od2, .func (PySem.W.fnOf "rows_in" "rows_in" (defArgs s_rows_in) (defBody s_rows_in) (defScope s_rows_in) .none kV2 dc2 pm2 an2 cd2 ct2), sl2⟩) (c2 : PySem.W.codeIn K cd2 "rows_in" = true) (k2 : PySem.W.keepIn K (.ref f2) = true)
    (a3 : PySem.W.nsIn K mainGlobals "needed" = some (some (.ref f3))) (l3 : K.lookup f3 = some ⟨oc3, od3, .func (PySem.W.fnOf "needed" "needed" (defArgs s_needed) (defBody s_needed) (defScope s_needed) .none kV3 dc3 pm3 an3 cd3 ct3), sl3⟩) (c3 : PySem.W.codeIn K cd3 "needed" = true) (k3 : PySem.W.keepIn K (.ref f3) = true)
    (a4 : PySem.W.nsIn K mainGlobals "place_in" = some (some (.ref f4))) (l4 : K.lookup f4 = some ⟨oc4, od4, .func (PySem.W.fnOf "place_in" "place_in" (defArgs s_place_in) (defBody s_place_in) (defScope s_place_in) .none kV4 dc4 pm4 an4 cd4 ct4), sl4⟩) (c4 : PySem.W.codeIn K cd4 "place_in" = true) (k4 : PySem.W.keepIn K (.ref f4) = true)
    (a5 : PySem.W.nsIn K mainGlobals "read_drawn" = some (some (.ref f5))) (l5 : K.lookup f5 = some ⟨oc5, od5, .func (PySem.W.fnOf "read_drawn" "read_drawn" (defArgs s_read_drawn) (defBody s_read_drawn) (defScope s_read_drawn) .none kV5 dc5 pm5 an5 cd5 ct5), sl5⟩) (c5 : PySem.W.codeIn K cd5 "read_drawn" = true) (k5 : PySem.W.keepIn K (.ref f5) = true)
    (a6 : PySem.W.nsIn K mainGlobals "_law_pot" = some (some (.ref f6))) (l6 : K.lookup f6 = some ⟨oc6, od6, .func (PySem.W.fnOf "_law_pot" "_law_pot" (defArgs s_law_pot) (defBody s_law_pot) (defScope s_law_pot) .none kV6 dc6 pm6 an6 cd6 ct6), sl6⟩) (c6 : PySem.W.codeIn K cd6 "_law_pot" = true) (k6 : PySem.W.keepIn K (.ref f6) = true)
    (a7 : PySem.W.nsIn K mainGlobals "_law_take" = some (some (.ref f7))) (l7 : K.lookup f7 = some ⟨oc7, od7, .func (PySem.W.fnOf "_law_take" "_law_take" (defArgs s_law_take) (defBody s_law_take) (defScope s_law_take) .none kV7 dc7 pm7 an7 cd7 ct7), sl7⟩) (c7 : PySem.W.codeIn K cd7 "_law_take" = true) (k7 : PySem.W.keepIn K (.ref f7) = true)
    (a8 : PySem.W.nsIn K mainGlobals "_law_name" = some (some (.ref f8))) (l8 : K.lookup f8 = some ⟨oc8, od8, .func (PySem.W.fnOf "_law_name" "_law_name" (defArgs s_law_name) (defBody s_law_name) (defScope s_law_name) .none kV8 dc8 pm8 an8 cd8 ct8), sl8⟩) (c8 : PySem.W.codeIn K cd8 "_law_name" = true) (k8 : PySem.W.keepIn K (.ref f8) = true)
    (a9 : PySem.W.nsIn K mainGlobals "_law_drawing" = some (some (.ref f9))) (l9 : K.lookup f9 = some ⟨oc9, od9, .func (PySem.W.fnOf "_law_drawing" "_law_drawing" (defArgs s_law_drawing) (defBody s_law_drawing) (defScope s_law_drawing) .none kV9 dc9 pm9 an9 cd9 ct9), sl9⟩) (c9 : PySem.W.codeIn K cd9 "_law_drawing" = true) (k9 : PySem.W.keepIn K (.ref f9) = true)
    (a10 : PySem.W.nsIn K mainGlobals "_law_elders" = some (some (.ref f10))) (l10 : K.lookup f10 = some ⟨oc10, od10, .func (PySem.W.fnOf "_law_elders" "_law_elders" (defArgs s_law_elders) (defBody s_law_elders) (defScope s_law_elders) .none kV10 dc10 pm10 an10 cd10 ct10), sl10⟩) (c10 : PySem.W.codeIn K cd10 "_law_elders" = true) (k10 : PySem.W.keepIn K (.ref f10) = true)
    (a11 : PySem.W.nsIn K mainGlobals "_law_rows" = some (some (.ref f11))) (l11 : K.lookup f11 = some ⟨oc11, od11, .func (PySem.W.fnOf "_law_rows" "_law_rows" (defArgs s_law_rows) (defBody s_law_rows) (defScope s_law_rows) .none kV11 dc11 pm11 an11 cd11 ct11), sl11⟩) (c11 : PySem.W.codeIn K cd11 "_law_rows" = true) (k11 : PySem.W.keepIn K (.ref f11) = true)
    (a12 : PySem.W.nsIn K mainGlobals "law" = some (some (.ref f12))) (l12 : K.lookup f12 = some ⟨oc12, od12, .func (PySem.W.fnOf "law" "law" (defArgs s_law) (defBody s_law) (defScope s_law) .none kV12 dc12 pm12 an12 cd12 ct12), sl12⟩) (c12 : PySem.W.codeIn K cd12 "law" = true) (k12 : PySem.W.keepIn K (.ref f12) = true)
    (z_len : PySem.W.nsIn K mainGlobals "len" = some none)
    (z_str : PySem.W.nsIn K mainGlobals "str" = some none)
    (z_isinstance : PySem.W.nsIn K mainGlobals "isinstance" = some none)
    (z_all : PySem.W.nsIn K mainGlobals "all" = some none)
    (z_abs : PySem.W.nsIn K mainGlobals "abs" = some none)
    (z_int : PySem.W.nsIn K mainGlobals "int" = some none)
    (z_enumerate : PySem.W.nsIn K mainGlobals "enumerate" = some none)
    (z_range : PySem.W.nsIn K mainGlobals "range" = some none)
    (z_sorted : PySem.W.nsIn K mainGlobals "sorted" = some none)
    (z_tuple : PySem.W.nsIn K mainGlobals "tuple" = some none)
    (z_zip : PySem.W.nsIn K mainGlobals "zip" = some none)
    (z_sum : PySem.W.nsIn K mainGlobals "sum" = some none)
    (z_min : PySem.W.nsIn K mainGlobals "min" = some none)
    (z_max : PySem.W.nsIn K mainGlobals "max" = some none)
    (e_NAME_SIGNS : PySem.W.nsIn K mainGlobals "NAME_SIGNS" = some (some (.str (Str.ofString "abcdefghijklmnopqrstuvwxyz0123456789") tk0)))
    (e_LONGEST_NAME : PySem.W.nsIn K mainGlobals "LONGEST_NAME" = some (some (.int 12 tk1)))
    (e_EMPTY : PySem.W.nsIn K mainGlobals "EMPTY" = some (some (.str (Str.ofString " ?") tk2)))
    (e_UNREAD : PySem.W.nsIn K mainGlobals "UNREAD" = some (some (.str (Str.ofString " *") tk3)))
    : ∃ fd : FuncData, (∀ (s : Shared) (v : Value), BindsTo s fd ⟨[v], []⟩ [("_law_script", v)]) ∧ ∀ base : Heap, K.In base → base.Ns mainGlobals mg → FnOk l.prog w K mg base CX0 4 fa fd ["_law_script"] (spLaw K) := by
  have e := hfa.symm.trans (PySem.W.mg_of X G a12)
  cases e
  have F0 := fun_mk (st := s_is_name) l0 c0 k0
  have b0 := F0.binds (ps := ["thing"]) fun _ _ _ _ _ _ us hl => match us, hl with | [_], _ => rfl
  have F1 := fun_mk (st := s_checked) l1 c1 k1
  have b1 := F1.binds (ps := ["text"]) fun _ _ _ _ _ _ us hl => match us, hl with | [_], _ => rfl
  have F2 := fun_mk (st := s_rows_in) l2 c2 k2
  have b2 := F2.binds (ps := ["text"]) fun _ _ _ _ _ _ us hl => match us, hl with | [_], _ => rfl
  have F3 := fun_mk (st := s_needed) l3 c3 k3
  have b3 := F3.binds (ps := ["thing", "row"]) fun _ _ _ _ _ _ us hl => match us, hl with | [_, _], _ => rfl
  have F4 := fun_mk (st := s_place_in) l4 c4 k4
  have b4 := F4.binds (ps := ["row"]) fun _ _ _ _ _ _ us hl => match us, hl with | [_], _ => rfl
  have F5 := fun_mk (st := s_read_drawn) l5 c5 k5
  have b5 := F5.binds (ps := ["text"]) fun _ _ _ _ _ _ us hl => match us, hl with | [_], _ => rfl
  have F6 := fun_mk (st := s_law_pot) l6 c6 k6
  have b6 := F6.binds (ps := ["_law_script", "_law_k"]) fun _ _ _ _ _ _ us hl => match us, hl with | [_, _], _ => rfl
  have F7 := fun_mk (st := s_law_take) l7 c7 k7
  have b7 := F7.binds (ps := ["_law_pot_here", "_law_many"]) fun _ _ _ _ _ _ us hl => match us, hl with | [_, _], _ => rfl
  have F8 := fun_mk (st := s_law_name) l8 c8 k8
  have b8 := F8.binds (ps := ["_law_pot_here"]) fun _ _ _ _ _ _ us hl => match us, hl with | [_], _ => rfl
  have F9 := fun_mk (st := s_law_drawing) l9 c9 k9
  have b9 := F9.binds (ps := ["_law_pot_here", "_law_most"]) fun _ _ _ _ _ _ us hl => match us, hl with | [_, _], _ => rfl
  have F10 := fun_mk (st := s_law_elders) l10 c10 k10
  have b10 := F10.binds (ps := ["_law_names", "_law_depths"]) fun _ _ _ _ _ _ us hl => match us, hl with | [_, _], _ => rfl
  have F11 := fun_mk (st := s_law_rows) l11 c11 k11
  have b11 := F11.binds (ps := ["_law_pot_here", "_law_names", "_law_depths"]) fun _ _ _ _ _ _ us hl => match us, hl with | [_, _, _], _ => rfl
  have F12 := fun_mk (st := s_law) l12 c12 k12
  have b12 := F12.binds (ps := ["_law_script"]) fun _ _ _ _ _ _ us hl => match us, hl with | [_], _ => rfl
  have T : Txt K mg (fun i => ([f0, f1, f2, f3, f4, f5, f6, f7, f8, f9, f10, f11, fa] : List Addr).getD i 0) (fun i => ([PySem.W.fnOf "is_name" "is_name" (defArgs s_is_name) (defBody s_is_name) (defScope s_is_name) .none kV0 dc0 pm0 an0 cd0 ct0, PySem.W.fnOf "checked" "checked" (defArgs s_checked) (defBody s_checked) (defScope s_checked) .none kV1 dc1 pm1 an1 cd1 ct1, PySem.W.fnOf "rows_in" "rows_in" (defArgs s_rows_in) (defBody s_rows_in) (defScope s_rows_in) .none kV2 dc2 pm2 an2 cd2 ct2, PySem.W.fnOf "needed" "needed" (defArgs s_needed) (defBody s_needed) (defScope s_needed) .none kV3 dc3 pm3 an3 cd3 ct3, PySem.W.fnOf "place_in" "place_in" (defArgs s_place_in) (defBody s_place_in) (defScope s_place_in) .none kV4 dc4 pm4 an4 cd4 ct4, PySem.W.fnOf "read_drawn" "read_drawn" (defArgs s_read_drawn) (defBody s_read_drawn) (defScope s_read_drawn) .none kV5 dc5 pm5 an5 cd5 ct5, PySem.W.fnOf "_law_pot" "_law_pot" (defArgs s_law_pot) (defBody s_law_pot) (defScope s_law_pot) .none kV6 dc6 pm6 an6 cd6 ct6, PySem.W.fnOf "_law_take" "_law_take" (defArgs s_law_take) (defBody s_law_take) (defScope s_law_take) .none kV7 dc7 pm7 an7 cd7 ct7, PySem.W.fnOf "_law_name" "_law_name" (defArgs s_law_name) (defBody s_law_name) (defScope s_law_name) .none kV8 dc8 pm8 an8 cd8 ct8, PySem.W.fnOf "_law_drawing" "_law_drawing" (defArgs s_law_drawing) (defBody s_law_drawing) (defScope s_law_drawing) .none kV9 dc9 pm9 an9 cd9 ct9, PySem.W.fnOf "_law_elders" "_law_elders" (defArgs s_law_elders) (defBody s_law_elders) (defScope s_law_elders) .none kV10 dc10 pm10 an10 cd10 ct10, PySem.W.fnOf "_law_rows" "_law_rows" (defArgs s_law_rows) (defBody s_law_rows) (defScope s_law_rows) .none kV11 dc11 pm11 an11 cd11 ct11, PySem.W.fnOf "law" "law" (defArgs s_law) (defBody s_law) (defScope s_law) .none kV12 dc12 pm12 an12 cd12 ct12] : List FuncData).getD i (PySem.W.fnOf "law" "law" (defArgs s_law) (defBody s_law) (defScope s_law) .none kV12 dc12 pm12 an12 cd12 ct12)) (fun i => ([0, 0, 0, 0] : List Addr).getD i 0) (fun i => ([.str (Str.ofString "abcdefghijklmnopqrstuvwxyz0123456789") tk0, .int 12 tk1, .str (Str.ofString " ?") tk2, .str (Str.ofString " *") tk3] : List Value).getD i .none) := ⟨⟨F0, PySem.W.mg_of X G a0, b0⟩, ⟨F1, PySem.W.mg_of X G a1, b1⟩, ⟨F2, PySem.W.mg_of X G a2, b2⟩, ⟨F3, PySem.W.mg_of X G a3, b3⟩, ⟨F4, PySem.W.mg_of X G a4, b4⟩, ⟨F5, PySem.W.mg_of X G a5, b5⟩, ⟨F6, PySem.W.mg_of X G a6, b6⟩, ⟨F7, PySem.W.mg_of X G a7, b7⟩, ⟨F8, PySem.W.mg_of X G a8, b8⟩, ⟨F9, PySem.W.mg_of X G a9, b9⟩, ⟨F10, PySem.W.mg_of X G a10, b10⟩, ⟨F11, PySem.W.mg_of X G a11, b11⟩, ⟨F12, PySem.W.mg_of X G a12, b12⟩, PySem.W.mg_none_of X G z_len, PySem.W.mg_none_of X G z_str, PySem.W.mg_none_of X G z_isinstance, PySem.W.mg_none_of X G z_all, PySem.W.mg_none_of X G z_abs, PySem.W.mg_none_of X G z_int, PySem.W.mg_none_of X G z_enumerate, PySem.W.mg_none_of X G z_range, PySem.W.mg_none_of X G z_sorted, PySem.W.mg_none_of X G z_tuple, PySem.W.mg_none_of X G z_zip, PySem.W.mg_none_of X G z_sum, PySem.W.mg_none_of X G z_min, PySem.W.mg_none_of X G z_max, PySem.W.mg_of X G e_NAME_SIGNS, ⟨_, rfl⟩, PySem.W.mg_of X G e_LONGEST_NAME, ⟨_, rfl⟩, PySem.W.mg_of X G e_EMPTY, ⟨_, rfl⟩, PySem.W.mg_of X G e_UNREAD, ⟨_, rfl⟩⟩
  refine ⟨PySem.W.fnOf "law" "law" (defArgs s_law) (defBody s_law) (defScope s_law) .none kV12 dc12 pm12 an12 cd12 ct12, fun s v => .of_eq rfl, fun base _ _ => ?_⟩
  have G_is_name := ok_is_name (P := l.prog) (w := w) (base := base) T 
  have G_checked := ok_checked (P := l.prog) (w := w) (base := base) T 
  have G_needed := ok_needed (P := l.prog) (w := w) (base := base) T 
  have G_law_pot := ok_law_pot (P := l.prog) (w := w) (base := base) T 
  have G_law_take := ok_law_take (P := l.prog) (w := w) (base := base) T 
  have G_law_elders := ok_law_elders (P := l.prog) (w := w) (base := base) T 
  have G_rows_in := ok_rows_in (P := l.prog) (w := w) (base := base) T G_checked
  have G_place_in := ok_place_in (P := l.prog) (w := w) (base := base) T G_is_name
  have G_law_name := ok_law_name (P := l.prog) (w := w) (base := base) T G_law_take
  have G_law_rows := ok_law_rows (P := l.prog) (w := w) (base := base) T G_law_take
  have G_read_drawn := ok_read_drawn (P := l.prog) (w := w) (base := base) T G_rows_in G_needed G_place_in
  have G_law_drawing := ok_law_drawing (P := l.prog) (w := w) (base := base) T G_law_take G_law_name
  have G_law := ok_law (P := l.prog) (w := w) (base := base) T G_law_pot G_law_drawing G_law_elders G_law_rows G_read_drawn
  exact G_law.imp fun vs H Q E h => law_imp law_true h
theorem walk {l : PySem.W.OpenLaw} {q : Program} {loose : List Str} {XP : (Str → Option Value) → Heap → Prop} {YP : World → Heap → Prop} {d : DefRec} {K : Params → PySem.W.Frag} (hn : l.most = some 63) (hdf : d.params.defaults = [])
    (hY : ∀ (w : World) (h : Heap), YP w h → (K w.params).In h)
    (F : ∀ (w : World) (mg : Str → Option Value) (fa : Addr) (h : Heap), (K w.params).In h → h.Ns mainGlobals mg → mg d.name = some (.ref fa) →
      ∃ fd : FuncData, (∀ (s : Shared) (u : Value), BindsTo s fd ⟨[u], []⟩ [("_law_script", u)]) ∧ ∀ base : Heap, (K w.params).In base → base.Ns mainGlobals mg → FnOk l.prog w (K w.params) mg base CX0 4 fa fd ["_law_script"] (spLaw (K w.params))) :
    PySem.W.WalkO q loose XP YP l.row.toRowW d [] (fun f vs => PySem.call f vs) :=
  L2.walk_of (n := 63) (k := 4) (x := "_law_script") (CX := fun _ => CX0) (sp := fun w => spLaw (K w.params)) hn (by decide) hdf ⟨rfl, by decide, by decide⟩ hY F (fun _ _ a ns hl _ hS => ⟨a, ns, rfl, hS, hl, fun _ => rfl⟩) fun _ _ _ _ _ z => z
end My
open PySem PySem.W PyProof.Rows
set_option maxRecDepth 100000 in
set_option maxHeartbeats 0 in
theorem PySem.Challenge.cw_answertrees_k69_drawings_read_holds : PySem.Challenge.rw_answertrees_k69_drawings_read.Holds := by
  w_on; o_law; k_head; (case hw => w_witness2)
  k_fill
  refine My.walk (l := PySem.Challenge.rw_answertrees_k69_drawings_read) rfl rfl (fun w h Y => PySem.W.kIn_of Y) ?F
  case F =>
    intro w mg fa h KX G hmg
    refine' My.all_mk KX G hmg ?a0 ?l0 ?c0 ?k0 ?a1 ?l1 ?c1 ?k1 ?a2 ?l2 ?c2 ?k2 ?a3 ?l3 ?c3 ?k3 ?a4 ?l4 ?c4 ?k4 ?a5 ?l5 ?c5 ?k5 ?a6 ?l6 ?c6 ?k6 ?a7 ?l7 ?c7 ?k7 ?a8 ?l8 ?c8 ?k8 ?a9 ?l9 ?c9 ?k9 ?a10 ?l10 ?c10 ?k10 ?a11 ?l11 ?c11 ?k11 ?a12 ?l12 ?c12 ?k12 ?z_len ?z_str ?z_isinstance ?z_all ?z_abs ?z_int ?z_enumerate ?z_range ?z_sorted ?z_tuple ?z_zip ?z_sum ?z_min ?z_max ?e_NAME_SIGNS ?e_LONGEST_NAME ?e_EMPTY ?e_UNREAD
    (case a0 => k_is)
    (case l0 => k_is)
    (case c0 => k_is)
    (case k0 => k_is)
    (case a1 => k_is)
    (case l1 => k_is)
    (case c1 => k_is)
    (case k1 => k_is)
    (case a2 => k_is)
    (case l2 => k_is)
    (case c2 => k_is)
    (case k2 => k_is)
    (case a3 => k_is)
    (case l3 => k_is)
    (case c3 => k_is)
    (case k3 => k_is)
    (case a4 => k_is)
    (case l4 => k_is)
    (case c4 => k_is)
    (case k4 => k_is)
    (case a5 => k_is)
    (case l5 => k_is)
    (case c5 => k_is)
    (case k5 => k_is)
    (case a6 => k_is)
    (case l6 => k_is)
    (case c6 => k_is)
    (case k6 => k_is)
    (case a7 => k_is)
    (case l7 => k_is)
    (case c7 => k_is)
    (case k7 => k_is)
    (case a8 => k_is)
    (case l8 => k_is)
    (case c8 => k_is)
    (case k8 => k_is)
    (case a9 => k_is)
    (case l9 => k_is)
    (case c9 => k_is)
    (case k9 => k_is)
    (case a10 => k_is)
    (case l10 => k_is)
    (case c10 => k_is)
    (case k10 => k_is)
    (case a11 => k_is)
    (case l11 => k_is)
    (case c11 => k_is)
    (case k11 => k_is)
    (case a12 => k_is)
    (case l12 => k_is)
    (case c12 => k_is)
    (case k12 => k_is)
    (case z_len => k_is)
    (case z_str => k_is)
    (case z_isinstance => k_is)
    (case z_all => k_is)
    (case z_abs => k_is)
    (case z_int => k_is)
    (case z_enumerate => k_is)
    (case z_range => k_is)
    (case z_sorted => k_is)
    (case z_tuple => k_is)
    (case z_zip => k_is)
    (case z_sum => k_is)
    (case z_min => k_is)
    (case z_max => k_is)
    (case e_NAME_SIGNS => k_is)
    (case e_LONGEST_NAME => k_is)
    (case e_EMPTY => k_is)
    (case e_UNREAD => k_is)
#print axioms PySem.Challenge.cw_answertrees_k69_drawings_read_holds

