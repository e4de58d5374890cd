import PyProof.Rows.All
import Wide.All
import OpenK.AllK
import Wide.FinOn
import Lean
import PyProof.EqAt
import PyProof.EqKinds
import PyProof.TupleCall
import PySem.Challenge.RW_answertrees_k58_wishes_of_anything
set_option compiler.extract_closed false
set_option Elab.async false
set_option linter.all false
set_option maxRecDepth 100000
namespace L2
open PySem PySem.Spec PyProof.Rows
noncomputable abbrev Key := Sum Int Str
noncomputable def keyIs : Key → Value → Bool
  | .inl k, v => Value.isInt k v
  | .inr x, v => Value.isStrOf x v
noncomputable def keyH (w : World) : Key → Int
  | .inl k => hashInt k
  | .inr x => hashStr w x
theorem keyIs_shape : ∀ {k : Key} {v : Value}, keyIs k v = true → (∃ i t, k = Sum.inl i ∧ v = Value.int i t) ∨ (∃ x t, k = Sum.inr x ∧ v = Value.str x t)
  | .inl i, v, h => by
    obtain ⟨t, e⟩ := Value.isInt_shape (k := i) (v := v) h
    exact .inl ⟨i, t, rfl, e⟩
  | .inr x, v, h => by
    obtain ⟨t, e⟩ := Value.isStrOf_shape (x := x) (v := v) h
    exact .inr ⟨x, t, rfl, e⟩
theorem keyIs_int (i : Int) (t : Tok) : keyIs (.inl i) (.int i t) = true := by simp [keyIs, Value.isInt]
theorem keyIs_str (x : Str) (t : Tok) : keyIs (.inr x) (.str x t) = true := by simp [keyIs, Value.isStrOf]
theorem key_ll (a b : Int) : decide ((Sum.inl a : Key) = Sum.inl b) = (a == b) := by
  by_cases e : a = b
  · subst e; simp
  · have h : ¬ (Sum.inl a : Key) = Sum.inl b := fun q => e (Sum.inl.inj q)
    rw [decide_eq_false h]
    exact (beq_eq_false_iff_ne.mpr e).symm
theorem key_rr (a b : Str) : decide ((Sum.inr a : Key) = Sum.inr b) = decide (a = b) := by
  by_cases e : a = b
  · subst e; simp
  · have h : ¬ (Sum.inr a : Key) = Sum.inr b := fun q => e (Sum.inr.inj q)
    rw [decide_eq_false h, decide_eq_false e]
theorem key_lr (a : Int) (b : Str) : decide ((Sum.inl a : Key) = Sum.inr b) = false := decide_eq_false (fun q => nomatch q)
theorem key_rl (a : Str) (b : Int) : decide ((Sum.inr a : Key) = Sum.inl b) = false := decide_eq_false (fun q => nomatch q)
noncomputable def mixKind (prog : Program) (w : World) : PySem.KeyKind prog w Key where
  is := keyIs
  hash := keyH w
  inj := fun v a b ha hb => by
    rcases keyIs_shape ha with ⟨i, t, rfl, rfl⟩ | ⟨x, t, rfl, rfl⟩
    · rcases keyIs_shape hb with ⟨j, u, rfl, e⟩ | ⟨y, u, rfl, e⟩
      · injection e with e1 _; rw [e1]
      · exact nomatch e
    · rcases keyIs_shape hb with ⟨j, u, rfl, e⟩ | ⟨y, u, rfl, e⟩
      · exact nomatch e
      · injection e with e1 _; rw [e1]
  byValue := fun k v h => by
    rcases keyIs_shape h with ⟨i, t, rfl, rfl⟩ | ⟨x, t, rfl, rfl⟩ <;> rfl
  pyHash := fun hv h => by
    rcases keyIs_shape hv with ⟨i, t, rfl, rfl⟩ | ⟨x, t, rfl, rfl⟩
    · exact wpAny_pyHash_int h
    · exact wpAny_pyHash_str h
  eqBool := fun hu hv h => by
    rcases keyIs_shape hu with ⟨i, t, rfl, rfl⟩ | ⟨x, t, rfl, rfl⟩
    · rcases keyIs_shape hv with ⟨j, u, rfl, rfl⟩ | ⟨y, u, rfl, rfl⟩
      · rw [key_ll] at h; exact wpAny_eqBool_int h
      · rw [key_lr] at h; exact SeqAt.EqAt.int_str i t y u _ _ _ _ h
    · rcases keyIs_shape hv with ⟨j, u, rfl, rfl⟩ | ⟨y, u, rfl, rfl⟩
      · rw [key_rl] at h; exact SeqAt.EqAt.str_int x t j u _ _ _ _ h
      · rw [key_rr] at h; exact wpAny_eqBool_str h
  «strs» := fun k x t v h => by
    rcases keyIs_shape h with ⟨i, u, rfl, e⟩ | ⟨y, u, rfl, e⟩
    · exact nomatch e
    · injection e with e1 _
      subst e1
      cases v <;> rfl
theorem mixKind_int (prog : Program) (w : World) (i : Int) (t : Tok) : (mixKind prog w).is (.inl i) (.int i t) = true := keyIs_int i t
theorem mixKind_str (prog : Program) (w : World) (x : Str) (t : Tok) : (mixKind prog w).is (.inr x) (.str x t) = true := keyIs_str x t
end L2
namespace L2
open PySem PySem.Spec PyProof.Rows
inductive V where
  | non | bl (b : Bool) | int (i : Int) | str (x : Str) | byt (b : Array UInt8) | flt (b : UInt64) | ref (a : Addr) | ty (n : String)
  deriving DecidableEq
noncomputable def RelV : V → Value → Prop
  | .non, u => u = Value.none
  | .bl b, u => u = Value.bool b
  | .int i, u => ∃ t, u = Value.int i t
  | .str x, u => ∃ t, u = Value.str x t
  | .byt b, u => ∃ t, u = Value.bytes b t
  | .flt b, u => ∃ t, u = Value.float b t
  | .ref a, u => u = Value.ref a
  | .ty n, u => u = Value.type n
noncomputable abbrev Vals : List V → List Value → Prop := Paired RelV
theorem Vals.length {xs : List V} {us : List Value} (r : Vals xs us) : xs.length = us.length := Paired.length r
theorem Vals.get : ∀ {xs : List V} {us : List Value} {i : Nat} {x : V}, Vals xs us → xs[i]? = some x → ∃ u, us[i]? = some u ∧ RelV x u
  | _, _, _, _, .nil, e => by simp at e
  | _, _, 0, _, .cons r _, e => by simp at e; subst e; exact ⟨_, rfl, r⟩
  | _, _, i + 1, x, .cons _ t, e => by
    obtain ⟨u, h1, h2⟩ := Vals.get (i := i) (x := x) t (by simpa using e)
    exact ⟨u, by simpa using h1, h2⟩
theorem Vals.set {x : V} {u : Value} (r : RelV x u) : ∀ {xs : List V} {us : List Value} (i : Nat), Vals xs us → Vals (xs.set i x) (us.set i u)
  | _, _, _, .nil => .nil
  | _, _, 0, .cons _ t => .cons r t
  | _, _, i + 1, .cons q t => .cons q (Vals.set r i t)
theorem Vals.append : ∀ {xs ys : List V} {us ws : List Value}, Vals xs us → Vals ys ws → Vals (xs ++ ys) (us ++ ws)
  | _, _, _, _, .nil, s => s
  | _, _, _, _, .cons r t, s => .cons r (Vals.append t s)
theorem Vals.take : ∀ {xs : List V} {us : List Value} (n : Nat), Vals xs us → Vals (xs.take n) (us.take n)
  | _, _, 0, _ => .nil
  | _, _, _ + 1, .nil => .nil
  | _, _, n + 1, .cons r t => .cons r (Vals.take n t)
theorem Vals.drop : ∀ {xs : List V} {us : List Value} (n : Nat), Vals xs us → Vals (xs.drop n) (us.drop n)
  | _, _, 0, r => r
  | _, _, _ + 1, .nil => .nil
  | _, _, n + 1, .cons _ t => Vals.drop n t
theorem Vals.none_of : ∀ {xs : List V} {us : List Value} {i : Nat}, Vals xs us → xs[i]? = none → us[i]? = none := fun {xs us i} r e => by
  have h1 := r.length
  have h2 : xs.length ≤ i := List.getElem?_eq_none_iff.mp e
  exact List.getElem?_eq_none_iff.mpr (by omega)
noncomputable def RelO : Option V → Option Value → Prop
  | some v, some u => RelV v u
  | none, none => True
  | _, _ => False
noncomputable def KV {κ : Type} : List (κ × V) → List (κ × Value) → Prop := Paired fun (p : κ × V) (q : κ × Value) => p.1 = q.1 ∧ RelV p.2 q.2
noncomputable def kV : Key → V
  | .inl i => .int i
  | .inr x => .str x
inductive HO where
  | lst (xs : List V)
  | tup (xs : List V)
  | dK (kvs : List (Key × V)) (ep : Nat) | dT (kvs : List (List Key × V))
  | set (S : Int → Bool) (n : Nat)
  | ins (C dx : Addr) (fs : List (Str × V))
  | own (x : Addr)
  | xd (fs : List (Str × V))
  | met (f x : Addr)
  | rng (lo hi : Int)
  | frz (o : Obj) (u : HO)
  | tbl (ps : Array Value)
  | ext (φ : Heap → Prop)
noncomputable abbrev Hp := Addr → Option HO
noncomputable def upd (H : Hp) (a : Addr) (o : HO) : Hp := fun b => if b = a then some o else H b
theorem upd_same {H : Hp} {a : Addr} {o : HO} : upd H a o a = some o := by unfold upd; rw [if_pos rfl]
theorem upd_ne {H : Hp} {a b : Addr} {o : HO} (h : b ≠ a) : upd H a o b = H b := by unfold upd; rw [if_neg h]
theorem upd_upd {H : Hp} {a : Addr} {o u : HO} : upd (upd H a o) a u = upd H a u := by
  funext b; unfold upd; split <;> rfl
theorem ne_of {H : Hp} {a b : Addr} {o u : HO} (h : H a = some o) (h' : H b = some u) (d : o ≠ u) : a ≠ b := by
  intro e; subst e; rw [h] at h'; exact d (Option.some.inj h')
theorem ne_of_none {H : Hp} {a b : Addr} {o : HO} (h : H a = some o) (h' : H b = none) : a ≠ b := by
  intro e; subst e; rw [h] at h'; cases h'
section
variable (P : Program) (w : World)
noncomputable def ObjOk (H : Hp) (h : Heap) (a : Addr) : HO → Prop
  | .lst xs => xs.length ≤ sizeLine ∧ ∃ (its : List Value) (n : Nat), Vals xs its ∧ h.get? a = some { cls := .type "list", data := .seq its.toArray n }
  | .tup xs => xs.length ≤ sizeLine ∧ ∃ its : List Value, Vals xs its ∧ IsTup h a its.toArray
  | .dK kvs ep => kvs.length ≤ sizeLine ∧ (a == sysModules) = false ∧ ∃ vs, KV kvs vs ∧ h.DictAt (mixKind P w) a vs ep
  | .dT kvs => kvs.length ≤ sizeLine ∧ (a == sysModules) = false ∧ ∃ xs : List (List Key × Addr × Value),
      Paired (fun (p : List Key × V) (q : List Key × Addr × Value) => p.1 = q.1 ∧ H q.2.1 = some (.tup (p.1.map kV)) ∧ RelV p.2 q.2.2) kvs xs ∧
      ∃ o es ep, h.get? a = some o ∧ o.ExactDict ∧ o.data = .dict es ep ∧ es.toList = xs.map (entryOfKey (tupleKind (mixKind P w))) ∧ (xs.map (·.1)).Nodup
  | .set S n => h.SetOf (intKind P w) a S n
  | .ins C dx fs => H dx = some (.own a) ∧ fs.length ≤ 1000 ∧ dx ≠ a ∧ h.get? a = some (PySem.W.instObj C dx) ∧
      ∃ mA, h.Ns1 dx mA ∧ (∀ f, RelO (fs.lookup f) (mA f)) ∧ PySem.Within mA (fs.map (·.1))
  | .own _ => ∃ o, h.get? a = some o
  | .xd fs => ∃ mA, h.Ns1 a mA ∧ ∀ f, RelO (fs.lookup f) (mA f)
  | .rng lo hi => ∃ t u v, h.get? a = some { cls := .type "range", data := .fields #[.int lo t, .int hi u, .int 1 v] }
  | .frz o u => h.get? a = some o ∧ ObjOk H h a u
  | .tbl ps => h.get? a = some { cls := .none, data := .fields ps }
  | .met f x => h.get? a = some (PySem.W.methodObj (.ref f) (.ref x))
  | .ext φ => φ h ∧ (∃ o, h.get? a = some o) ∧ ∀ h1 h2 : Heap, φ h1 → (∀ o, h1.get? a = some o → h2.get? a = some o) → φ h2
noncomputable def HOk (H : Hp) (h : Heap) : Prop := ∀ a o, H a = some o → ObjOk P w H h a o
end
section
variable {P : Program} {w : World} {H H' : Hp} {h h' : Heap} {a : Addr} {o : HO}
theorem ObjOk.lt (x : ObjOk P w H h a o) : a < h.objs.size := by
  cases o with
  | lst xs => obtain ⟨_, _, _, _, e⟩ := x; exact Heap.lt_size e
  | tup xs => obtain ⟨_, _, _, p⟩ := x; exact p.lt
  | dK kvs ep => obtain ⟨_, _, _, _, o, _, e, _⟩ := x; exact Heap.lt_size e
  | dT kvs => obtain ⟨_, _, _, _, o, _, _, e, _⟩ := x; exact Heap.lt_size e
  | set S n => obtain ⟨o, _, _, _, e, _⟩ := x; exact Heap.lt_size e
  | ins C dx fs => obtain ⟨_, _, _, e, _⟩ := x; exact Heap.lt_size e
  | own y => obtain ⟨_, e⟩ := x; exact Heap.lt_size e
  | xd fs => obtain ⟨_, ⟨_, _, _, e, _⟩, _⟩ := x; exact Heap.lt_size e
  | rng lo hi => obtain ⟨_, _, _, e⟩ := x; exact Heap.lt_size e
  | frz ob u => obtain ⟨e, _⟩ := x; exact Heap.lt_size e
  | tbl ps => exact Heap.lt_size (show h.get? a = some _ from x)
  | met f y => exact Heap.lt_size (show h.get? a = some _ from x)
  | ext φ => obtain ⟨_, ⟨_, e⟩, _⟩ := x; exact Heap.lt_size e
theorem Paired.mapP {α β : Type} {F G : α → β → Prop} : ∀ {l₁ : List α} {l₂ : List β}, Paired F l₁ l₂ → (∀ a b, F a b → G a b) → Paired G l₁ l₂
  | _, _, .nil, _ => .nil
  | _, _, .cons r t, f => .cons (f _ _ r) (Paired.mapP t f)
theorem ObjOk.stay (x : ObjOk P w H h a o) (k : ∀ b u, (b = a ∨ H b = some (.own a)) → h.get? b = some u → h'.get? b = some u)
    (ho : ∀ b, H b = some (.own a) → H' b = some (.own a)) (ht : ∀ b xs, H b = some (.tup xs) → H' b = some (.tup xs)) : ObjOk P w H' h' a o := by
  induction o with
  | lst xs => obtain ⟨z, its, n, r, e⟩ := x; exact ⟨z, its, n, r, k _ _ (.inl rfl) e⟩
  | tup xs => obtain ⟨z, its, r, ob, e, c⟩ := x; exact ⟨z, its, r, ob, k _ _ (.inl rfl) e, c⟩
  | dK kvs ep => obtain ⟨z, y, vs, r, ob, es, e, c⟩ := x; exact ⟨z, y, vs, r, ob, es, k _ _ (.inl rfl) e, c⟩
  | dT kvs =>
    obtain ⟨z, y, xs, r, ob, es, ep, e, c⟩ := x
    exact ⟨z, y, xs, Paired.mapP r fun p q z => ⟨z.1, ht _ _ z.2.1, z.2.2⟩, ob, es, ep, k _ _ (.inl rfl) e, c⟩
  | set S n => obtain ⟨ob, es, ep, t, e, c⟩ := x; exact ⟨ob, es, ep, t, k _ _ (.inl rfl) e, c⟩
  | ins C dx fs =>
    obtain ⟨d, z, ne, e, mA, ⟨od, es, ep, e2, c⟩, r⟩ := x
    exact ⟨ho _ d, z, ne, k _ _ (.inl rfl) e, mA, ⟨od, es, ep, k _ _ (.inr d) e2, c⟩, r⟩
  | own y => obtain ⟨ob, e⟩ := x; exact ⟨ob, k _ _ (.inl rfl) e⟩
  | xd fs => obtain ⟨mA, ⟨od, es, ep, e, c⟩, r⟩ := x; exact ⟨mA, ⟨od, es, ep, k _ _ (.inl rfl) e, c⟩, r⟩
  | rng lo hi => obtain ⟨t, u, v, e⟩ := x; exact ⟨t, u, v, k _ _ (.inl rfl) e⟩
  | frz ob u ih => obtain ⟨e, q⟩ := x; exact ⟨k _ _ (.inl rfl) e, ih q⟩
  | tbl ps =>
    have e : h.get? a = some { cls := .none, data := .fields ps } := x
    show h'.get? a = some { cls := .none, data := .fields ps }
    exact k a _ (.inl rfl) e
  | met f y =>
    have e : h.get? a = some (PySem.W.methodObj (.ref f) (.ref y)) := x
    show h'.get? a = some (PySem.W.methodObj (.ref f) (.ref y))
    exact k a _ (.inl rfl) e
  | ext φ => obtain ⟨p, ⟨o, e⟩, st⟩ := x; exact ⟨st _ _ p fun o q => k _ _ (.inl rfl) q, ⟨o, k _ _ (.inl rfl) e⟩, st⟩
theorem HOk.lt (x : HOk P w H h) (e : H a = some o) : a < h.objs.size := (x a o e).lt
theorem HOk.fresh (x : HOk P w H h) (e : h.objs.size ≤ a) : H a = none := by
  cases q : H a with
  | none => rfl
  | some u => exact absurd (Nat.lt_of_lt_of_le (x.lt q) e) (Nat.lt_irrefl _)
theorem HOk.kept (x : HOk P w H h) (k : ∀ b u, h.get? b = some u → h'.get? b = some u) : HOk P w H h' := fun a o e =>
  (x a o e).stay (fun b u _ q => k b u q) (fun _ q => q) fun _ _ q => q
theorem HOk.laid (x : HOk P w H h) (k : ∀ b u, h.get? b = some u → h'.get? b = some u) (hp : h.objs.size ≤ a) (new : ObjOk P w (upd H a o) h' a o) : HOk P w (upd H a o) h' := fun b u e => by
  have hn := x.fresh hp
  by_cases hb : b = a
  · subst hb; rw [upd_same] at e; cases e; exact new
  · rw [upd_ne hb] at e
    exact (x b u e).stay (fun c v _ q => k c v q) (fun c q => by rw [upd_ne (ne_of_none q hn)]; exact q) fun c xs q => by rw [upd_ne (ne_of_none q hn)]; exact q
end
noncomputable def Rd (H : Hp) (a : Addr) (u : HO) : Prop := H a = some u ∨ ∃ o, H a = some (.frz o u)
theorem Rd.of {H : Hp} {a : Addr} {u : HO} (h : H a = some u) : Rd H a u := .inl h
theorem Rd.ok {P : Program} {w : World} {H : Hp} {h : Heap} {a : Addr} {u : HO} (r : Rd H a u) (x : HOk P w H h) : ObjOk P w H h a u := by
  rcases r with r | ⟨o, r⟩
  · exact x a u r
  · obtain ⟨_, q⟩ := x a _ r
    exact q
noncomputable def Mut : Option HO → Prop
  | some (.lst _) => True
  | some (.dK _ _) => True
  | some (.dT _) => True
  | some (.set _ _) => True
  | some (.ins _ _ _) => True
  | some (.ext _) => True
  | _ => False
section
variable {P : Program} {w : World} {H : Hp} {h h' : Heap} {x e : Addr} {o' : HO}
theorem HOk.write (ok : HOk P w H h) (mu : Mut (H x)) (he : e = x ∨ H e = some (.own x)) (k : ∀ b u, b ≠ e → h.get? b = some u → h'.get? b = some u) (heo : ∃ u, h'.get? e = some u)
    (new : ObjOk P w (upd H x o') h' x o') : HOk P w (upd H x o') h' := fun b u q => by
  have nown : ∀ c y, H c = some (.own y) → c ≠ x := fun c y r z => by subst z; rw [r] at mu; exact mu
  have ntup : ∀ c xs, H c = some (.tup xs) → c ≠ x := fun c xs r z => by subst z; rw [r] at mu; exact mu
  by_cases hb : b = x
  · subst hb; rw [upd_same] at q; cases q; exact new
  · rw [upd_ne hb] at q
    by_cases hbe : b = e
    · have q' : H b = some (.own x) := by
        rcases he with z | z
        · exact absurd (hbe.trans z) hb
        · rw [hbe]; exact z
      rw [q] at q'; cases q'
      obtain ⟨v, hv⟩ := heo
      exact ⟨v, by rw [hbe]; exact hv⟩
    · refine (ok b u q).stay (fun c v hc r => k c v ?_ r) (fun c r => by rw [upd_ne (nown c b r)]; exact r) fun c xs r => by rw [upd_ne (ntup c xs r)]; exact r
      rcases hc with rfl | hc
      · exact hbe
      · rintro rfl
        rcases he with z | z
        · exact nown c b hc z
        · rw [hc] at z; cases z; exact hb rfl
end
structure Un (fs ex : List Addr) (H H' : Hp) (h h' : Heap) : Prop where
  keep : ∀ b o, h.get? b = some o → H b = none → b ∉ fs → b ∉ ex → h'.get? b = some o
  slot : ∀ b o, h.get? b = some o → H b = none → b ∈ fs → b ∉ ex → ∃ sl, h'.get? b = some { o with slots := sl }
  free : ∀ b o, h.get? b = some o → H b = none → b ∉ ex → H' b = none
  there : ∀ b o, h.get? b = some o → b ∉ ex → ∃ o', h'.get? b = some o'
  tups : ∀ b xs, H b = some (.tup xs) → H' b = some (.tup xs)
  frzs : ∀ b o u, H b = some (.frz o u) → H' b = some (.frz o u)
  tbls : ∀ b ps, H b = some (.tbl ps) → ∃ more, H' b = some (.tbl (ps ++ more))
section
variable {fs fs' ex ex' : List Addr} {H H1 H2 : Hp} {h h1 h2 h' : Heap} {a x e : Addr} {o : HO}
theorem Un.any (u : Un fs ex H H1 h h1) {b : Addr} {ob : Obj} (q : h.get? b = some ob) (n : H b = none) (hx : b ∉ ex) : ∃ sl, h1.get? b = some { ob with slots := sl } := by
  by_cases hb : b ∈ fs
  · exact u.slot b ob q n hb hx
  · exact ⟨ob.slots, u.keep b ob q n hb hx⟩
theorem Un.trans (a : Un fs ex H H1 h h1) (b : Un fs ex H1 H2 h1 h2) : Un fs ex H H2 h h2 where
  keep := fun c ob q n hc hx => b.keep c ob (a.keep c ob q n hc hx) (a.free c ob q n hx) hc hx
  slot := fun c ob q n hc hx => by
    obtain ⟨sl, e1⟩ := a.slot c ob q n hc hx
    obtain ⟨sl', e2⟩ := b.slot c _ e1 (a.free c ob q n hx) hc hx
    exact ⟨sl', e2⟩
  free := fun c ob q n hx => by
    obtain ⟨o', e1⟩ := a.there c ob q hx
    exact b.free c o' e1 (a.free c ob q n hx) hx
  there := fun c ob q hx => by
    obtain ⟨o', e1⟩ := a.there c ob q hx
    exact b.there c o' e1 hx
  tups := fun c xs q => b.tups c xs (a.tups c xs q)
  frzs := fun c ob xs q => b.frzs c ob xs (a.frzs c ob xs q)
  tbls := fun c ps q => by
    obtain ⟨m1, e1⟩ := a.tbls c ps q
    obtain ⟨m2, e2⟩ := b.tbls c _ e1
    exact ⟨m1 ++ m2, by rw [e2, Array.append_assoc]⟩
theorem Un.kept (k : ∀ b u, h.get? b = some u → h'.get? b = some u) : Un fs ex H H h h' :=
  ⟨fun b ob q _ _ _ => k b ob q, fun b ob q _ _ _ => ⟨ob.slots, k b ob q⟩, fun _ _ _ n _ => n, fun b ob q _ => ⟨ob, k b ob q⟩, fun _ _ q => q, fun _ _ _ q => q, fun _ ps q => ⟨#[], by rw [q]; simp⟩⟩
theorem Un.refl : Un fs ex H H h h := Un.kept fun _ _ q => q
theorem Un.laid (k : ∀ b u, h.get? b = some u → h'.get? b = some u) (hp : h.objs.size ≤ a) (hn : H a = none) : Un fs ex H (upd H a o) h h' where
  keep := fun b u q _ _ _ => k b u q
  slot := fun b u q _ _ _ => ⟨u.slots, k b u q⟩
  free := fun b u q n _ => by rw [upd_ne (Nat.ne_of_lt (Nat.lt_of_lt_of_le (Heap.lt_size q) hp))]; exact n
  there := fun b u q _ => ⟨u, k b u q⟩
  tups := fun b xs q => by rw [upd_ne (ne_of_none q hn)]; exact q
  frzs := fun b u xs q => by rw [upd_ne (ne_of_none q hn)]; exact q
  tbls := fun b ps q => ⟨#[], by rw [upd_ne (ne_of_none q hn), q]; simp⟩
theorem Un.write (mu : Mut (H x)) (he : e = x ∨ H e = some (.own x)) (k : ∀ b u, b ≠ e → h.get? b = some u → h'.get? b = some u) (heo : ∃ u, h'.get? e = some u) : Un fs ex H (upd H x o) h h' := by
  have hx : ∀ b, H b = none → b ≠ x := fun b n z => by subst z; rw [n] at mu; exact mu
  have hb : ∀ b, H b = none → b ≠ e := fun b n z => by
    subst z
    rcases he with r | r
    · exact hx b n r
    · rw [n] at r; cases r
  have hm : ∀ b u, H b = some u → ¬ Mut (some u) → b ≠ x := fun b u q nm z => by subst z; rw [q] at mu; exact nm mu
  refine ⟨fun b u q n _ _ => k b u (hb b n) q, fun b u q n _ _ => ⟨u.slots, k b u (hb b n) q⟩, fun b u q n _ => by rw [upd_ne (hx b n)]; exact n, fun b u q _ => ?_,
    fun b xs q => by rw [upd_ne (hm b _ q fun z => z)]; exact q, fun b u xs q => by rw [upd_ne (hm b _ q fun z => z)]; exact q, fun b ps q => ⟨#[], by rw [upd_ne (hm b _ q fun z => z), q]; simp⟩⟩
  by_cases hbe : b = e
  · subst hbe; exact heo
  · exact ⟨u, k b u hbe q⟩
theorem Un.mono (u : Un fs ex H H1 h h1) (hs : ∀ b ∈ fs, b ∈ fs') (hx : ∀ b ∈ ex, b ∈ ex') : Un fs' ex' H H1 h h1 :=
  ⟨fun b ob q n hb he => u.keep b ob q n (fun z => hb (hs b z)) fun z => he (hx b z), fun _ _ q n _ he => u.any q n fun z => he (hx _ z), fun b ob q n he => u.free b ob q n fun z => he (hx b z), fun b ob q he => u.there b ob q fun z => he (hx b z), u.tups, u.frzs, u.tbls⟩
end
noncomputable def trk (h : Heap) (H : Hp) : List Addr := (List.range h.objs.size).filter fun a => (H a).isSome
noncomputable def hidT (h : Heap) (H : Hp) : Heap := PySem.W.hideAll h (trk h H)
theorem hidT_size (h : Heap) (H : Hp) : (hidT h H).objs.size = h.objs.size := PySem.W.hideAll_size _ _
theorem hidT_get {h : Heap} {H : Hp} {b : Addr} {o : Obj} (e : h.get? b = some o) (n : H b = none) : (hidT h H).get? b = some o :=
  PySem.W.hideAll_get _ e fun hm => by
    have q : (H b).isSome = true := (List.mem_filter.mp hm).2
    rw [n] at q; simp at q
theorem of_hidT {h : Heap} {H : Hp} {b : Addr} {o : Obj} (e : (hidT h H).get? b = some o) : h.get? b = some o ∧ H b = none := by
  have e' : h.get? b = some o := PySem.W.of_hideAll (trk h H) e
  refine ⟨e', ?_⟩
  cases q : H b with
  | none => rfl
  | some x =>
    have hm : b ∈ trk h H := List.mem_filter.mpr ⟨List.mem_range.mpr (Heap.lt_size e'), by simp [q]⟩
    have z : (hidT h H).get? b = none := PySem.W.hideAll_none (trk h H) hm
    rw [z] at e; cases e
noncomputable def allNews (g h : Heap) (L : Addr) : List (Addr × Obj) := (List.range h.objs.size).filterMap fun a => if a = L ∨ (g.get? a).isSome = true then none else (h.get? a).map fun o => (a, o)
noncomputable def rest (g h : Heap) (L d : Addr) : List (Addr × Obj) := (allNews g h L).filter fun p => decide (p.1 ≠ d)
end L2
namespace L2
open PySem PySem.Spec PyProof.Rows
structure Mod (K : PySem.W.Frag) (mg : Str → Option Value) (base : Heap) : Prop where
  kin : K.In base
  glob : base.Ns mainGlobals mg
  blt : ∃ mb, base.Ns builtinsNs mb ∧ ∀ x : Str, x ≠ "__name__" → mb x = bootBuiltins x
  nolimit : base.NoLimit
structure Cx where
  prog : Program
  w : World
  K : PySem.W.Frag
  mg : Str → Option Value
  base : Heap
  A : Around
  N : List Str
  s₀ : Shared
  H₀ : Hp
  env : Env
  outer : List Env
  stack : List Env
  ex : List Addr
  fn : Str → Bool
  calm : Bool
  pn : List (Addr × Obj)
  xe : Value → Shared → Prop
noncomputable def frs (l : List Env) : List Addr := l.filterMap (·.frame)
noncomputable abbrev Cx.fs (X : Cx) : List Addr := frs X.outer
noncomputable def Vis (sc : Scope) (x : Str) : Prop := sc.names.lookup x = some .local ∨ sc.names.lookup x = some .cell ∨ sc.names.lookup x = some .free
noncomputable def Loc (sc : Scope) (x : Str) : Prop := sc.names.lookup x = some .local ∨ sc.names.lookup x = some .cell
noncomputable def Look (env : Env) (h : Heap) (m : Str → Option Value) (x : Str) (u : Value) : Prop :=
  (env.kindOf x = some .local ∧ m x = some u) ∨ ((env.kindOf x = some .cell ∨ env.kindOf x = some .free) ∧ ∃ c, env.cells.lookup x = some c ∧ h.IsCell c (some u))
structure Cx.Ok (X : Cx) : Prop where
  mod : Mod X.K X.mg X.base
  kind : X.env.scope.kind = .function
  glob : X.env.globals = mainGlobals
  blt : X.env.builtins = builtinsNs
  above : X.s₀.heap.objs.size ≤ X.env.locals
  inj : ∀ x y c, X.env.cells.lookup x = some c → X.env.cells.lookup y = some c → x = y
  has : ∀ x, (X.env.kindOf x = some .cell ∨ X.env.kindOf x = some .free) → ∃ c, X.env.cells.lookup x = some c
  cab : ∀ x c, X.fn x = true → X.env.cells.lookup x = some c → X.s₀.heap.objs.size ≤ c
  hd : X.calm = true → X.A.handled = none
  frames : X.A.frames = some X.stack
  stk : X.stack = X.outer ∨ (X.stack = X.env :: X.outer ∧ X.env.frame = some X.env.locals)
  exf : ∀ b ∈ X.ex, b ≠ X.env.locals ∧ ∀ x c, X.env.cells.lookup x = some c → c ≠ b
  bs : ∀ b o, X.base.get? b = some o → X.s₀.heap.get? b = some o ∧ X.H₀ b = none
  bsz : X.base.objs.size ≤ X.s₀.heap.objs.size
  noex : ∀ b o, X.base.get? b = some o → b ∉ X.ex
  exfs : ∀ b ∈ X.ex, b ∉ X.fs
  funs : X.s₀.heap.FunFrames X.base X.outer
  frf : ∀ b ∈ X.fs, X.H₀ b = none
structure Inv (X : Cx) (pins : List (Addr × Obj)) (σ : List (Option V)) (H : Hp) (s : Shared) : Prop where
  ok : X.Ok
  os : s.os = X.s₀.os
  bare : AllBare s.gens
  base : Un X.fs X.ex X.H₀ H X.s₀.heap s.heap
  loc : ∃ m, s.heap.Ns X.env.locals m ∧ ∀ (i : Nat) (x : Str) (v : V), X.N[i]? = some x → σ[i]? = some (some v) → Vis X.env.scope x → ∃ u, RelV v u ∧ Look X.env s.heap m x u
  cell : ∀ x c, X.env.cells.lookup x = some c → ∃ v, s.heap.IsCell c v
  free : H X.env.locals = none
  freeC : ∀ x c, X.env.cells.lookup x = some c → H c = none
  pin : ∀ p ∈ X.pn ++ pins, s.heap.get? p.1 = some p.2 ∧ H p.1 = none ∧ p.1 ≠ X.env.locals ∧ p.1 ∉ X.fs ∧ ∀ v, p.2.data ≠ .cell v
  hok : HOk X.prog X.w H s.heap
  len : σ.length = X.N.length
section
variable {X : Cx} {pins : List (Addr × Obj)} {σ : List (Option V)} {H H' : Hp} {s : Shared} {h' : Heap}
theorem Cx.Ok.nofr (ok : X.Ok) {b : Addr} {o : Obj} (e : X.base.get? b = some o) : b ∉ X.fs := fun hb => by
  have := (ok.funs.mem hb).1
  rw [e] at this; cases this
theorem Inv.bs (I : Inv X pins σ H s) : ∀ b o, X.base.get? b = some o → s.heap.get? b = some o ∧ H b = none := fun b o e =>
  ⟨I.base.keep b o (I.ok.bs b o e).1 (I.ok.bs b o e).2 (I.ok.nofr e) (I.ok.noex b o e), I.base.free b o (I.ok.bs b o e).1 (I.ok.bs b o e).2 (I.ok.noex b o e)⟩
theorem Inv.bk (I : Inv X pins σ H s) : ∀ b o, X.base.get? b = some o → s.heap.get? b = some o := fun b o e => (I.bs b o e).1
theorem Inv.mod (I : Inv X pins σ H s) : Mod X.K X.mg X.base := I.ok.mod
theorem Inv.kIn (I : Inv X pins σ H s) : X.K.In s.heap := I.ok.mod.kin.keeps I.bk
theorem Inv.nolimit (I : Inv X pins σ H s) : s.heap.NoLimit := I.ok.mod.nolimit.keeps I.bk
theorem Inv.fr (I : Inv X pins σ H s) : ∃ m, Fr X.base X.env.locals s.heap m :=
  let ⟨m, hn, _⟩ := I.loc
  ⟨m, hn, I.bk, Nat.le_trans I.ok.bsz I.ok.above⟩
theorem Inv.lt (I : Inv X pins σ H s) : X.env.locals < s.heap.objs.size := let ⟨_, hn, _⟩ := I.loc; hn.lt
theorem Inv.sz (I : Inv X pins σ H s) : X.s₀.heap.objs.size ≤ s.heap.objs.size := Nat.le_trans I.ok.above (Nat.le_of_lt I.lt)
theorem Inv.nofs (I : Inv X pins σ H s) {a : Addr} (h : s.heap.objs.size ≤ a) : a ∉ X.fs := fun hb => by
  obtain ⟨_, o, ho, _⟩ := I.ok.funs.mem hb
  exact absurd (Nat.lt_of_lt_of_le (Heap.lt_size ho) (Nat.le_trans I.sz h)) (Nat.lt_irrefl _)
theorem Inv.cne (I : Inv X pins σ H s) : ∀ x c, X.env.cells.lookup x = some c → c ≠ X.env.locals := fun x c e z => by
  obtain ⟨v, o, ho, hd⟩ := I.cell x c e
  obtain ⟨m, ⟨o', es, ep, ho', hd', _⟩, _⟩ := I.loc
  rw [z, ho'] at ho; cases ho; rw [hd'] at hd; cases hd
theorem Inv.funs (I : Inv X pins σ H s) : s.heap.FunFrames X.base X.outer := by
  have all : ∀ (l : List Env), (∀ b ∈ frs l, b ∈ X.fs) → X.s₀.heap.FunFrames X.base l → s.heap.FunFrames X.base l := by
    intro l
    induction l with
    | nil => intro _ _; trivial
    | cons env r ih =>
      intro hs hl
      obtain ⟨hk, ⟨L, o, hf, hn, ho, hd⟩, hr⟩ := hl
      have hL : L ∈ X.fs := hs L (by unfold frs; rw [List.filterMap_cons, hf]; exact List.mem_cons_self)
      obtain ⟨sl, e⟩ := I.base.slot L o ho (I.ok.frf L hL) hL fun z => I.ok.exfs L z hL
      exact ⟨hk, ⟨L, _, hf, hn, e, hd⟩, ih (fun b hb => hs b (by unfold frs; rw [List.filterMap_cons, hf]; exact List.mem_cons_of_mem _ hb)) hr⟩
  exact all X.outer (fun _ hb => hb) I.ok.funs
theorem Inv.stack (I : Inv X pins σ H s) : s.heap.FunFrames X.base X.stack := by
  rcases I.ok.stk with e | ⟨e, hf⟩
  · rw [e]; exact I.funs
  · rw [e]
    obtain ⟨m, hn, _⟩ := I.loc
    refine .cons (by rw [I.ok.kind]; decide) hf hn ?_ I.funs
    exact Heap.get?_none_of_le (Nat.le_trans I.ok.bsz I.ok.above)
theorem Inv.stkSub (I : Inv X pins σ H s) : ∀ b ∈ frs X.stack, b ∈ X.env.locals :: X.fs := fun b hb => by
  rcases I.ok.stk with e | ⟨e, hf⟩
  · rw [e] at hb; exact List.mem_cons_of_mem _ hb
  · rw [e] at hb
    unfold frs at hb
    rw [List.filterMap_cons, hf] at hb
    exact hb
theorem Inv.stkFree (I : Inv X pins σ H s) : ∀ b ∈ frs X.stack, H b = none := fun b hb => by
  rcases List.mem_cons.mp (I.stkSub b hb) with e | hb
  · rw [e]; exact I.free
  · obtain ⟨_, o, ho, _⟩ := I.ok.funs.mem hb
    exact I.base.free b o ho (I.ok.frf b hb) fun z => I.ok.exfs b z hb
theorem Inv.step {g' : Array GenState} {t' : Nat} {d' : Drawn} {ch : List Addr} (I : Inv X pins σ H s)
    (hch : ∀ b ∈ ch, (b ∈ X.ex ∨ X.s₀.heap.objs.size ≤ b) ∧ b ≠ X.env.locals ∧ (∀ x c, X.env.cells.lookup x = some c → c ≠ b) ∧ ∀ p ∈ X.pn ++ pins, p.1 ≠ b)
    (keep : ∀ b o, b ≠ X.env.locals → b ∉ X.fs → b ∉ ch → s.heap.get? b = some o → H b = none → h'.get? b = some o)
    (slot : ∀ b o, b ≠ X.env.locals → b ∈ X.fs → b ∉ ch → s.heap.get? b = some o → H b = none → ∃ sl, h'.get? b = some { o with slots := sl }) (free : ∀ b o, b ∉ ch → s.heap.get? b = some o → H b = none → H' b = none)
    (there : ∀ b o, b ∉ ch → s.heap.get? b = some o → ∃ o', h'.get? b = some o')
    (tups : ∀ b xs, H b = some (.tup xs) → H' b = some (.tup xs)) (frzs : ∀ b o u, H b = some (.frz o u) → H' b = some (.frz o u)) (tbls : ∀ b ps, H b = some (.tbl ps) → ∃ more, H' b = some (.tbl (ps ++ more)))
    (ns : ∀ m, s.heap.Ns X.env.locals m → h'.Ns X.env.locals m) (hok : HOk X.prog X.w H' h') (hg : AllBare g') :
    Inv X pins σ H' { s with heap := h', gens := g', drawn := d', toks := t' } := by
  have neL : ∀ b o, X.s₀.heap.get? b = some o → b ≠ X.env.locals := fun b o e => Nat.ne_of_lt (Nat.lt_of_lt_of_le (Heap.lt_size e) I.ok.above)
  have neC : ∀ b o, X.s₀.heap.get? b = some o → b ∉ X.ex → b ∉ ch := fun b o e hx hb => by
    rcases (hch b hb).1 with z | z
    · exact hx z
    · exact absurd (Nat.lt_of_lt_of_le (Heap.lt_size e) z) (Nat.lt_irrefl _)
  have cellK : ∀ x c, X.env.cells.lookup x = some c → ∀ v, s.heap.IsCell c v → h'.IsCell c v := fun x c e v ⟨o, ho, hd⟩ => by
    have nch : c ∉ ch := fun z => (hch c z).2.2.1 x c e rfl
    by_cases hc : c ∈ X.fs
    · obtain ⟨sl, q⟩ := slot c o (I.cne x c e) hc nch ho (I.freeC x c e)
      exact ⟨_, q, hd⟩
    · exact ⟨o, keep c o (I.cne x c e) hc nch ho (I.freeC x c e), hd⟩
  refine ⟨I.ok, I.os, hg, ⟨fun b o e n hb hx => ?_, fun b o e n hb hx => ?_, fun b o e n hx => ?_, fun b o e hx => ?_, fun b xs e => tups b xs (I.base.tups b xs e), fun b o xs e => frzs b o xs (I.base.frzs b o xs e), fun b ps e => ?_⟩, ?_, fun x c e => ?_, ?_, fun x c e => ?_, fun p hp => ?_, hok, I.len⟩
  · exact keep b o (neL b o e) hb (neC b o e hx) (I.base.keep b o e n hb hx) (I.base.free b o e n hx)
  · obtain ⟨sl, e1⟩ := I.base.slot b o e n hb hx
    obtain ⟨sl', e2⟩ := slot b _ (neL b o e) hb (neC b o e hx) e1 (I.base.free b o e n hx)
    exact ⟨sl', e2⟩
  · obtain ⟨o', e1⟩ := I.base.there b o e hx
    exact free b o' (neC b o e hx) e1 (I.base.free b o e n hx)
  · obtain ⟨o', e1⟩ := I.base.there b o e hx
    exact there b o' (neC b o e hx) e1
  · obtain ⟨m1, e1⟩ := I.base.tbls b ps e
    obtain ⟨m2, e2⟩ := tbls b _ e1
    exact ⟨m1 ++ m2, by rw [e2, Array.append_assoc]⟩
  · obtain ⟨m, hn, hl⟩ := I.loc
    refine ⟨m, ns m hn, fun i x v e1 e2 e3 => ?_⟩
    obtain ⟨u, r, l⟩ := hl i x v e1 e2 e3
    refine ⟨u, r, ?_⟩
    rcases l with l | ⟨k, c, e, z⟩
    · exact .inl l
    · exact .inr ⟨k, c, e, cellK x c e _ z⟩
  · obtain ⟨v, z⟩ := I.cell x c e
    exact ⟨v, cellK x c e v z⟩
  · obtain ⟨m, ⟨o, _, _, ho, _⟩, _⟩ := I.loc
    exact free _ o (fun z => (hch _ z).2.1 rfl) ho I.free
  · obtain ⟨v, o, ho, hd⟩ := I.cell x c e
    exact free c o (fun z => (hch c z).2.2.1 x c e rfl) ho (I.freeC x c e)
  · obtain ⟨e, n, ne, nf, d⟩ := I.pin p hp
    have nch : p.1 ∉ ch := fun z => (hch p.1 z).2.2.2 p hp rfl
    exact ⟨keep p.1 p.2 ne nf nch e n, free p.1 p.2 nch e n, ne, nf, d⟩
theorem Inv.un {t' : Nat} (I : Inv X pins σ H s) (u : Un X.fs [] H H' s.heap h') (hok : HOk X.prog X.w H' h') : Inv X pins σ H' { s with heap := h', toks := t' } := by
  obtain ⟨m, ⟨o, es, ep, ho, r⟩, _⟩ := id I.loc
  obtain ⟨sl, hL⟩ := u.any ho I.free (by simp)
  exact I.step (g' := s.gens) (d' := s.drawn) (ch := []) (fun _ z => nomatch z) (fun b o _ hb _ e n => u.keep b o e n hb (by simp)) (fun b o _ hb _ e n => u.slot b o e n hb (by simp)) (fun b o _ e n => u.free b o e n (by simp)) (fun b o _ e => u.there b o e (by simp)) u.tups u.frzs u.tbls (fun m' hm => by
    obtain ⟨o', es', ep', ho', r'⟩ := hm
    rw [ho] at ho'; cases ho'
    exact ⟨_, es', ep', hL, r'⟩) hok I.bare
theorem Inv.call {g' : Array GenState} {t' : Nat} {d' : Drawn} {ch : List Addr} (I : Inv X pins σ H s) (u : Un (frs X.stack) ch H H' s.heap h') (hok : HOk X.prog X.w H' h') (hg : AllBare g')
    (hch : ∀ b ∈ ch, (b ∈ X.ex ∨ X.s₀.heap.objs.size ≤ b) ∧ b ≠ X.env.locals ∧ (∀ x c, X.env.cells.lookup x = some c → c ≠ b) ∧ ∀ p ∈ X.pn ++ pins, p.1 ≠ b) :
    Inv X pins σ H' { s with heap := h', gens := g', drawn := d', toks := t' } := by
  obtain ⟨m, ⟨o, es, ep, ho, r⟩, _⟩ := id I.loc
  obtain ⟨sl, hL⟩ := u.any ho I.free fun z => (hch _ z).2.1 rfl
  exact I.step (ch := ch) hch (fun b o hL hb hc e n => u.keep b o e n (fun z => (List.mem_cons.mp (I.stkSub b z)).elim hL hb) hc) (fun b o _ _ hc e n => u.any e n hc) (fun b o hc e n => u.free b o e n hc) (fun b o hc e => u.there b o e hc) u.tups u.frzs u.tbls (fun m' hm => by
    obtain ⟨o', es', ep', ho', r'⟩ := hm
    rw [ho] at ho'; cases ho'
    exact ⟨_, es', ep', hL, r'⟩) hok hg
theorem Inv.turned {t' : Nat} {it : Addr} (I : Inv X pins σ H s) (k : ∀ b o, b ≠ it → s.heap.get? b = some o → h'.get? b = some o) (hn : H it = none) (hL : it ≠ X.env.locals)
    (h1 : it ∈ X.ex ∨ X.s₀.heap.objs.size ≤ it) (h2 : ∀ x c, X.env.cells.lookup x = some c → c ≠ it) (h3 : ∀ p ∈ X.pn ++ pins, p.1 ≠ it) : Inv X pins σ H { s with heap := h', toks := t' } := by
  have nit : ∀ b u, H b = some u → b ≠ it := fun b u e z => by rw [z, hn] at e; cases e
  refine I.step (g' := s.gens) (d' := s.drawn) (ch := [it]) (fun b hb => ?_) (fun b o _ _ hc e _ => k b o (fun z => hc (by simp [z])) e) (fun b o _ _ hc e _ => ⟨o.slots, k b o (fun z => hc (by simp [z])) e⟩) (fun _ _ _ _ n => n)
    (fun b o hc e => ⟨o, k b o (fun z => hc (by simp [z])) e⟩) (fun _ _ e => e) (fun _ _ _ e => e) (fun b ps e => ⟨#[], by rw [e]; simp⟩) (fun m hm => ?_) (fun b u e => ?_) I.bare
  · have e : b = it := by simpa using hb
    subst e
    exact ⟨h1, hL, h2, h3⟩
  · obtain ⟨o, es, ep, ho, r⟩ := hm
    exact ⟨o, es, ep, k _ o (Ne.symm hL) ho, r⟩
  · refine (I.hok b u e).stay (fun c v hc q => k c v ?_ q) (fun _ q => q) fun _ _ q => q
    rcases hc with z | z
    · rw [z]; exact nit b u e
    · exact nit c _ z
theorem Inv.tok (I : Inv X pins σ H s) (t : Nat) : Inv X pins σ H { s with toks := t } := I.un (h' := s.heap) (t' := t) Un.refl I.hok
theorem Inv.kept {t' : Nat} (I : Inv X pins σ H s) (k : ∀ b u, s.heap.get? b = some u → h'.get? b = some u) : Inv X pins σ H { s with heap := h', toks := t' } := I.un (Un.kept k) (I.hok.kept k)
theorem Inv.laid {a : Addr} {o : HO} {t' : Nat} (I : Inv X pins σ H s) (k : ∀ b u, s.heap.get? b = some u → h'.get? b = some u) (hp : s.heap.objs.size ≤ a) (new : ObjOk X.prog X.w (upd H a o) h' a o) :
    Inv X pins σ (upd H a o) { s with heap := h', toks := t' } := I.un (Un.laid k hp (I.hok.fresh hp)) (I.hok.laid k hp new)
theorem Inv.write {x e : Addr} {o : HO} {t' : Nat} (I : Inv X pins σ H s) (mu : Mut (H x)) (he : e = x ∨ H e = some (.own x)) (k : ∀ b u, b ≠ e → s.heap.get? b = some u → h'.get? b = some u) (heo : ∃ u, h'.get? e = some u)
    (new : ObjOk X.prog X.w (upd H x o) h' x o) : Inv X pins σ (upd H x o) { s with heap := h', toks := t' } := I.un (Un.write mu he k heo) (I.hok.write mu he k heo new)
theorem Inv.weak {σ' : List (Option V)} (I : Inv X pins σ H s) (hl : σ'.length = σ.length) (w : ∀ (i : Nat) v, σ'[i]? = some (some v) → σ[i]? = some (some v)) : Inv X pins σ' H s :=
  ⟨I.ok, I.os, I.bare, I.base, let ⟨m, hn, hl'⟩ := I.loc; ⟨m, hn, fun i x v e1 e2 e3 => hl' i x v e1 (w i v e2) e3⟩, I.cell, I.free, I.freeC, I.pin, I.hok, hl.trans I.len⟩
theorem Inv.pins_of {pins' : List (Addr × Obj)} (I : Inv X pins σ H s) (h : ∀ p ∈ pins', s.heap.get? p.1 = some p.2 ∧ H p.1 = none ∧ p.1 ≠ X.env.locals ∧ p.1 ∉ X.fs ∧ ∀ v, p.2.data ≠ .cell v) : Inv X pins' σ H s :=
  ⟨I.ok, I.os, I.bare, I.base, I.loc, I.cell, I.free, I.freeC, fun p hp => (List.mem_append.mp hp).elim (fun z => I.pin p (List.mem_append_left _ z)) (h p), I.hok, I.len⟩
theorem nodup_ix {N : List Str} (hN : N.Nodup) {i j : Nat} {x : Str} (a : N[i]? = some x) (b : N[j]? = some x) : i = j := by
  obtain ⟨h1, e1⟩ := List.getElem?_eq_some_iff.mp a
  obtain ⟨h2, e2⟩ := List.getElem?_eq_some_iff.mp b
  exact (List.getElem_inj hN).mp (e1.trans e2.symm)
theorem store_ok2 {M : Model} {A : Around} {E : Value → Shared → Prop} {i : Nat} {x : Str} {v : V} {u : Value} {Q : Unit → Shared → Prop} (I : Inv X pins σ H s) (hN : X.N.Nodup) (hi : X.N[i]? = some x) (hx : Loc X.env.scope x) (r : RelV v u)
    (h : ∀ s', Inv X pins (σ.set i (some v)) H s' → (∃ a, Heap.SameBut a s.heap s'.heap ∧ (a = X.env.locals ∨ X.env.cells.lookup x = some a)) → Q () s') (hf : X.fn x = true ∨ X.env.scope.names.lookup x = some .local := by first | exact .inl rfl | exact .inr rfl | assumption) : wpAny M A (storeName X.env x u) Q E s := by
  obtain ⟨m, hn, hl⟩ := id I.loc
  have hcls : (X.env.scope.kind == .class || (X.env.scope.kind == .module && X.env.locals != X.env.globals)) = false := by rw [I.ok.kind]; rfl
  have hiσ : i < σ.length := by rw [I.len]; exact (List.getElem?_eq_some_iff.mp hi).1
  have cne := I.cne
  have tracked : ∀ {a : Addr} {h' : Heap}, (∃ o, s.heap.get? a = some o ∧ H a = none) → Heap.SameBut a s.heap h' → HOk X.prog X.w H h' := fun {a h'} ha hs b ob e => by
    obtain ⟨_, _, hfree⟩ := ha
    refine (I.hok b ob e).stay (fun c w' hc q => (hs.2 c ?_).trans q) (fun _ q => q) fun _ _ q => q
    rintro rfl
    rcases hc with rfl | hc
    · rw [hfree] at e; cases e
    · rw [hfree] at hc; cases hc
  rcases hx with hk | hk
  · refine wpAny_storeName_local hk hn (fun h' hn' hs => ?_) hcls
    obtain ⟨oL, _, _, hoL, _⟩ := id hn
    refine h _ ⟨I.ok, I.os, I.bare, ⟨fun b o e n hb hx => ?_, fun b o e n hb hx => ?_, I.base.free, fun b o e hx => ?_, I.base.tups, I.base.frzs, I.base.tbls⟩, ⟨_, hn', fun j y v' e1 e2 e3 => ?_⟩, fun y c e => ?_, I.free, I.freeC, fun p hp => ?_, tracked ⟨oL, hoL, I.free⟩ hs, by simpa using I.len⟩ ⟨_, hs, .inl rfl⟩
    · exact (hs.2 b (Nat.ne_of_lt (Nat.lt_of_lt_of_le (Heap.lt_size e) I.ok.above))).trans (I.base.keep b o e n hb hx)
    · obtain ⟨sl, e1⟩ := I.base.slot b o e n hb hx
      exact ⟨sl, (hs.2 b (Nat.ne_of_lt (Nat.lt_of_lt_of_le (Heap.lt_size e) I.ok.above))).trans e1⟩
    · obtain ⟨o', e1⟩ := I.base.there b o e hx
      exact ⟨o', (hs.2 b (Nat.ne_of_lt (Nat.lt_of_lt_of_le (Heap.lt_size e) I.ok.above))).trans e1⟩
    · by_cases hj : j = i
      · subst hj
        rw [hi] at e1; cases e1
        rw [List.getElem?_set_self hiσ] at e2
        cases e2
        exact ⟨u, r, .inl ⟨hk, by simp⟩⟩
      · rw [List.getElem?_set_ne (Ne.symm hj)] at e2
        obtain ⟨u', r', q⟩ := hl j y v' e1 e2 e3
        refine ⟨u', r', ?_⟩
        rcases q with ⟨k, e⟩ | ⟨k, c, e, z⟩
        · refine .inl ⟨k, ?_⟩
          have : y ≠ x := fun e => hj (nodup_ix hN e1 (e ▸ hi))
          simp [this, e]
        · exact .inr ⟨k, c, e, z.sameBut hs (cne y c e)⟩
    · obtain ⟨w', z⟩ := I.cell y c e
      exact ⟨w', z.sameBut hs (cne y c e)⟩
    · obtain ⟨e, n, ne, nf, d⟩ := I.pin p hp
      exact ⟨(hs.2 p.1 ne).trans e, n, ne, nf, d⟩
  · have hfn : X.fn x = true := by
      rcases hf with z | z
      · exact z
      · rw [z] at hk; cases hk
    obtain ⟨c, hc⟩ := I.ok.has x (.inl hk)
    obtain ⟨w', z⟩ := I.cell x c hc
    refine wpAny_storeName_cell I.ok.kind hk hc z (fun h' hc' hs => ?_)
    obtain ⟨oc, hoc, hocd⟩ := id z
    refine h { s with heap := h' } ⟨I.ok, I.os, I.bare, ⟨fun b o e n hb hx => ?_, fun b o e n hb hx => ?_, I.base.free, fun b o e hx => ?_, I.base.tups, I.base.frzs, I.base.tbls⟩, ⟨m, hn.sameBut hs (Ne.symm (cne x c hc)), fun j y v' e1 e2 e3 => ?_⟩, fun y c' e => ?_, I.free, I.freeC, fun p hp => ?_, tracked ⟨oc, hoc, I.freeC x c hc⟩ hs, by simpa using I.len⟩ ⟨c, hs, .inr hc⟩
    · exact (hs.2 b (Nat.ne_of_lt (Nat.lt_of_lt_of_le (Heap.lt_size e) (I.ok.cab x c hfn hc)))).trans (I.base.keep b o e n hb hx)
    · obtain ⟨sl, e1⟩ := I.base.slot b o e n hb hx
      exact ⟨sl, (hs.2 b (Nat.ne_of_lt (Nat.lt_of_lt_of_le (Heap.lt_size e) (I.ok.cab x c hfn hc)))).trans e1⟩
    · obtain ⟨o', e1⟩ := I.base.there b o e hx
      exact ⟨o', (hs.2 b (Nat.ne_of_lt (Nat.lt_of_lt_of_le (Heap.lt_size e) (I.ok.cab x c hfn hc)))).trans e1⟩
    · by_cases hj : j = i
      · subst hj
        rw [hi] at e1; cases e1
        rw [List.getElem?_set_self hiσ] at e2
        cases e2
        exact ⟨u, r, .inr ⟨.inl hk, c, hc, hc'⟩⟩
      · rw [List.getElem?_set_ne (Ne.symm hj)] at e2
        obtain ⟨u', r', q⟩ := hl j y v' e1 e2 e3
        refine ⟨u', r', ?_⟩
        rcases q with q | ⟨k, c', e, z'⟩
        · exact .inl q
        · refine .inr ⟨k, c', e, z'.sameBut hs ?_⟩
          rintro rfl
          exact hj (nodup_ix hN e1 (I.ok.inj _ _ _ e hc ▸ hi))
    · by_cases hcc : c' = c
      · subst hcc; exact ⟨_, hc'⟩
      · obtain ⟨w2, z2⟩ := I.cell y c' e
        exact ⟨w2, z2.sameBut hs hcc⟩
    · obtain ⟨e, n, ne, nf, d⟩ := I.pin p hp
      refine ⟨(hs.2 p.1 ?_).trans e, n, ne, nf, d⟩
      intro q
      rw [q, hoc] at e
      have q' : oc = p.2 := Option.some.inj e
      exact d w' (by rw [← q']; exact hocd)
theorem store_ok {M : Model} {A : Around} {E : Value → Shared → Prop} {i : Nat} {x : Str} {v : V} {u : Value} {Q : Unit → Shared → Prop} (I : Inv X pins σ H s) (hN : X.N.Nodup) (hi : X.N[i]? = some x) (hx : Loc X.env.scope x) (r : RelV v u)
    (h : ∀ s', Inv X pins (σ.set i (some v)) H s' → Q () s') (hf : X.fn x = true ∨ X.env.scope.names.lookup x = some .local := by first | exact .inl rfl | exact .inr rfl | assumption) : wpAny M A (storeName X.env x u) Q E s :=
  store_ok2 I hN hi hx r (fun s' I' _ => h s' I') hf
theorem Inv.call' {s' : Shared} {ch : List Addr} (I : Inv X pins σ H s) (ho : s'.os = s.os) (u : Un (frs X.stack) ch H H' s.heap s'.heap) (hok : HOk X.prog X.w H' s'.heap) (hg : AllBare s'.gens)
    (hch : ∀ b ∈ ch, (b ∈ X.ex ∨ X.s₀.heap.objs.size ≤ b) ∧ b ≠ X.env.locals ∧ (∀ x c, X.env.cells.lookup x = some c → c ≠ b) ∧ ∀ p ∈ X.pn ++ pins, p.1 ≠ b) : Inv X pins σ H' s' := by
  obtain ⟨h', g', d', t', o'⟩ := s'
  have e : o' = s.os := ho
  subst e
  exact I.call (g' := g') (t' := t') (d' := d') u hok hg hch
end
noncomputable abbrev XK := Value → Option Addr → Hp → Prop
noncomputable abbrev St := List (Option V)
noncomputable abbrev VK := V → Hp → Prop
noncomputable abbrev TE := St → Hp → VK → Prop
noncomputable abbrev TT := St → Hp → (Bool → Hp → Prop) → Prop
noncomputable abbrev TA := St → Hp → (List V → Hp → Prop) → Prop
structure Ends where
  nx : St → Hp → Prop
  rt : VK
  bk : St → Hp → Prop := fun _ _ => False
  ct : St → Hp → Prop := fun _ _ => False
noncomputable abbrev TS := Ends → St → Hp → Prop
noncomputable def EP (X : Cx) (pins : List (Addr × Obj)) (σ : St) (Q : VK) (u : Value) (s' : Shared) : Prop := ∃ v H', Inv X pins σ H' s' ∧ RelV v u ∧ Q v H'
noncomputable def TP (X : Cx) (pins : List (Addr × Obj)) (σ : St) (Q : Bool → Hp → Prop) (b : Bool) (s' : Shared) : Prop := ∃ H', Inv X pins σ H' s' ∧ Q b H'
noncomputable def AP (X : Cx) (pins : List (Addr × Obj)) (σ : St) (Q : List V → Hp → Prop) (us : List Value) (s' : Shared) : Prop := ∃ vs H', Inv X pins σ H' s' ∧ Vals vs us ∧ Q vs H'
noncomputable def SP (X : Cx) (pins : List (Addr × Obj)) (D : Ends) (f : Flow) (s' : Shared) : Prop :=
  match f with
  | .next => ∃ σ' H', Inv X pins σ' H' s' ∧ D.nx σ' H'
  | .brk => ∃ σ' H', Inv X pins σ' H' s' ∧ D.bk σ' H'
  | .cont => ∃ σ' H', Inv X pins σ' H' s' ∧ D.ct σ' H'
  | .ret u => ∃ v σ' H', Inv X pins σ' H' s' ∧ RelV v u ∧ D.rt v H'
noncomputable def PE (X : Cx) (e : Expr) (t : TE) : Prop :=
  ∀ (pins : List (Addr × Obj)) (s : Shared) (σ : St) (H : Hp) (Q : VK), Inv X pins σ H s → t σ H Q → wpAny (model X.prog X.w) X.A (eval e X.env) (EP X pins σ Q) X.xe s
noncomputable def PT (X : Cx) (e : Expr) (t : TT) : Prop :=
  ∀ (pins : List (Addr × Obj)) (s : Shared) (σ : St) (H : Hp) (Q : Bool → Hp → Prop), Inv X pins σ H s → t σ H Q → wpAny (model X.prog X.w) X.A (isTrue e X.env (eval e X.env)) (TP X pins σ Q) X.xe s
noncomputable def PW (X : Cx) (e : Expr) (t : TT) : Prop :=
  ∀ (whole : Sem Value) (pins : List (Addr × Obj)) (s : Shared) (σ : St) (H : Hp) (Q : Bool → Hp → Prop), Inv X pins σ H s → t σ H Q → wpAny (model X.prog X.w) X.A (isTrue e X.env whole) (TP X pins σ Q) X.xe s
theorem PW.pt {X : Cx} {e : Expr} {t : TT} (h : PW X e t) : PT X e t := h _
noncomputable def PA (X : Cx) (es : List Expr) (t : TA) : Prop :=
  ∀ (pos : Pos) (pins : List (Addr × Obj)) (s : Shared) (σ : St) (H : Hp) (Q : List V → Hp → Prop), Inv X pins σ H s → t σ H Q → wpAny (model X.prog X.w) X.A (spliced (backTo pos (starEach es X.env))) (AP X pins σ Q) X.xe s
noncomputable def PS (X : Cx) (st : Stmt) (t : TS) : Prop :=
  ∀ (pins : List (Addr × Obj)) (s : Shared) (σ : St) (H : Hp) (D : Ends), Inv X pins σ H s → t D σ H → wpAny (model X.prog X.w) X.A (exec st X.env) (SP X pins D) X.xe s
noncomputable def PSs (X : Cx) (st : List Stmt) (t : TS) : Prop :=
  ∀ (pins : List (Addr × Obj)) (s : Shared) (σ : St) (H : Hp) (D : Ends), Inv X pins σ H s → t D σ H → wpAny (model X.prog X.w) X.A (execs st X.env) (SP X pins D) X.xe s
theorem thn {α : Type} {t : Sem α} {Q Q' : α → Shared → Prop} {M : Model} {A : Around} {E : Value → Shared → Prop} {s : Shared} (h : wpAny M A t Q E s) (hQ : ∀ a s, Q a s → Q' a s) : wpAny M A t Q' E s := wpAny_mono h hQ fun _ _ x => x
end L2
namespace L2
open PySem PySem.Spec PyProof.Rows
section
variable {X : Cx}
noncomputable def tVar (i : Nat) : TE := fun σ H Q => ∃ v, σ[i]? = some (some v) ∧ Q v H
noncomputable def tC (v : V) : TE := fun _ H Q => Q v H
theorem pe_var {i : Nat} {x : Str} {pos : Pos} (hN : X.N[i]? = some x) (hv : Vis X.env.scope x) (hd : (x == ("__debug__" : Str)) = false := by decide) (hcd : (x == ("__classdict__" : Str)) = false := by decide) : PE X (.Name x pos) (tVar i) := by
  intro pins s σ H Q I h
  obtain ⟨v, e, h⟩ := h
  obtain ⟨m, hn, hl⟩ := I.loc
  obtain ⟨u, r, l⟩ := hl i x v hN e hv
  have fin : EP X pins σ Q u s := ⟨v, H, I, r, h⟩
  rcases l with ⟨hk, hm⟩ | ⟨hk, c, hc, hcell⟩
  · exact wpAny_Name (wpAny_loadName_local I.ok.kind hk hn hm fin) hd
  · rcases hk with hk | hk
    · exact wpAny_Name (wpAny_loadName_cell I.ok.kind hk hc hcell fin) hd
    · exact wpAny_Name (wpAny_loadName_free I.ok.kind hk hc hcell fin hcd) hd
theorem pe_int {i j pos} : PE X (.Constant (.int i) j pos) (tC (.int i)) := fun _ _ _ H _ I h => wpAny_Constant_int ⟨.int i, H, I.tok _, ⟨_, rfl⟩, h⟩
theorem pe_bl {b j pos} : PE X (.Constant (.bool b) j pos) (tC (.bl b)) := fun _ _ _ H _ I h => Constant_bool ⟨.bl b, H, I, rfl, h⟩
theorem pe_non {j pos} : PE X (.Constant .none j pos) (tC .non) := fun _ _ _ H _ I h => Constant_none ⟨.non, H, I, rfl, h⟩
theorem pe_str {x j pos} : PE X (.Constant (.str x) j pos) (tC (.str x)) := fun _ _ _ H _ I h => Calls.Constant_str ⟨.str x, H, I.tok _, ⟨_, rfl⟩, h⟩
noncomputable def Gl (X : Cx) (x : Str) : Prop := X.env.kindOf x = some .globalImplicit
theorem ld_glob {E : Value → Shared → Prop} {pins : List (Addr × Obj)} {s : Shared} {σ : St} {H : Hp} {x : Str} {u : Value} {pos : Pos} {Q : Value → Shared → Prop} (I : Inv X pins σ H s) (hg : Gl X x) (hm : X.mg x = some u) (h : Q u s)
    (hd : (x == ("__debug__" : Str)) = false := by decide) : wpAny (model X.prog X.w) X.A (eval (.Name x pos) X.env) Q E s :=
  Calls.Name_function_global I.ok.kind hg (Calls.loadGlobal_global (by rw [I.ok.glob]; exact I.mod.glob.keeps I.bk) hm h) hd
theorem ld_blt {E : Value → Shared → Prop} {pins : List (Addr × Obj)} {s : Shared} {σ : St} {H : Hp} {x : Str} {u : Value} {pos : Pos} {Q : Value → Shared → Prop} (I : Inv X pins σ H s) (hg : Gl X x) (hm : X.mg x = none) (hv : bootBuiltins x = some u) (h : Q u s)
    (hn : x ≠ "__name__" := by decide) (hd : (x == ("__debug__" : Str)) = false := by decide) : wpAny (model X.prog X.w) X.A (eval (.Name x pos) X.env) Q E s := by
  obtain ⟨mb, h1, h2⟩ := I.mod.blt
  exact Calls.Name_function_global I.ok.kind hg (Calls.loadGlobal_builtin (by rw [I.ok.glob]; exact I.mod.glob.keeps I.bk) hm (by rw [I.ok.blt]; exact h1.keeps I.bk) ((h2 x hn).trans hv) h) hd
theorem pe_glob {x : Str} {v : V} {u : Value} {pos : Pos} (hg : Gl X x) (hm : X.mg x = some u) (r : RelV v u) (hd : (x == ("__debug__" : Str)) = false := by decide) : PE X (.Name x pos) (tC v) :=
  fun _ _ _ H _ I h => ld_glob I hg hm ⟨v, H, I, r, h⟩ hd
theorem pe_bltn {x : Str} {v : V} {u : Value} {pos : Pos} (hg : Gl X x) (hm : X.mg x = none) (hv : bootBuiltins x = some u) (r : RelV v u) (hn : x ≠ "__name__" := by decide) (hd : (x == ("__debug__" : Str)) = false := by decide) : PE X (.Name x pos) (tC v) :=
  fun _ _ _ H _ I h => ld_blt I hg hm hv ⟨v, H, I, r, h⟩ hn hd
variable {a b : Expr} {ta tb : TE} {pos : Pos}
noncomputable def tB (t : TE) : TT := fun σ H Q => t σ H fun x H1 => ∃ c, x = .bl c ∧ Q c H1
theorem pt_val {e : Expr} {t : TE} (h : PE X e t) (he : ∀ whole, isTrue e X.env whole = (do let v ← whole; standAt e.pos; holding [v] (truthy v)) := by intro _; rfl) : PT X e (tB t) := by
  intro pins s σ H Q I hw
  refine isTrue_plain (thn (h pins s σ H _ I hw) fun v s1 ⟨x, H1, I1, r1, q1⟩ => ?_) (he _)
  obtain ⟨d, rfl, q⟩ := q1
  cases r1
  exact wpAny_truthy_bool ⟨H1, I1, q⟩
variable {tA tB' : TT} {rest : List Expr}
noncomputable def tAnd (t u : TT) : TT := fun σ H Q => t σ H fun c H1 => if c = true then u σ H1 Q else Q false H1
noncomputable def tOr (t u : TT) : TT := fun σ H Q => t σ H fun c H1 => if c = true then Q true H1 else u σ H1 Q
noncomputable def tNot (t : TT) : TT := fun σ H Q => t σ H fun c H1 => Q (!c) H1
theorem pw_and1 (ha : PT X a tA) : PW X (.BoolOp .And [a] pos) tA := by
  intro wh pins s σ H Q I h
  refine isTrue_and (thn (ha pins s σ H Q I h) fun c s1 e => ?_)
  cases c with
  | true => exact isTrue_and_nil e
  | false => exact e
theorem pw_or1 (ha : PT X a tA) : PW X (.BoolOp .Or [a] pos) tA := by
  intro wh pins s σ H Q I h
  refine isTrue_or (thn (ha pins s σ H Q I h) fun c s1 e => ?_)
  cases c with
  | false => exact isTrue_or_nil e
  | true => exact e
theorem pw_and (ha : PT X a tA) (hb : PW X (.BoolOp .And (b :: rest) pos) tB') : PW X (.BoolOp .And (a :: b :: rest) pos) (tAnd tA tB') := by
  intro wh pins s σ H Q I h
  refine isTrue_and (thn (ha pins s σ H _ I h) fun c s1 ⟨H1, I1, q1⟩ => ?_)
  cases c with
  | true => exact hb wh pins s1 σ H1 Q I1 q1
  | false => exact ⟨H1, I1, q1⟩
theorem pw_or (ha : PT X a tA) (hb : PW X (.BoolOp .Or (b :: rest) pos) tB') : PW X (.BoolOp .Or (a :: b :: rest) pos) (tOr tA tB') := by
  intro wh pins s σ H Q I h
  refine isTrue_or (thn (ha pins s σ H _ I h) fun c s1 ⟨H1, I1, q1⟩ => ?_)
  cases c with
  | true => exact ⟨H1, I1, q1⟩
  | false => exact hb wh pins s1 σ H1 Q I1 q1
theorem pt_not (ha : PT X a tA) : PT X (.UnaryOp .Not a pos) (tNot tA) := by
  intro pins s σ H Q I h
  exact isTrue_not (ha pins s σ H (fun c H1 => Q (!c) H1) I h)
noncomputable def tAndV (ta tb : TE) : TE := fun σ H Q => ta σ H fun x H1 => ∃ c, x = .bl c ∧ if c = true then tb σ H1 Q else Q (.bl false) H1
noncomputable def tOrV (ta tb : TE) : TE := fun σ H Q => ta σ H fun x H1 => ∃ c, x = .bl c ∧ if c = true then Q (.bl true) H1 else tb σ H1 Q
noncomputable def tNotV (ta : TE) : TE := fun σ H Q => ta σ H fun x H1 => ∃ c, x = .bl c ∧ Q (.bl (!c)) H1
theorem pe_one {op} {t : TE} (h : PE X a t) : PE X (.BoolOp op [a] pos) t := fun pins s σ H Q I hw => BoolOp_one (h pins s σ H Q I hw)
theorem pe_and (ha : PE X a ta) (hb : PE X (.BoolOp .And (b :: rest) pos) tb) : PE X (.BoolOp .And (a :: b :: rest) pos) (tAndV ta tb) := by
  intro pins s σ H Q I h
  refine BoolOp_and (thn (ha pins s σ H _ I h) fun v s1 ⟨x, H1, I1, r1, q1⟩ => ?_)
  obtain ⟨c, rfl, q1⟩ := q1
  cases r1
  refine wpAny_truthy_bool ?_
  cases c with
  | true => exact hb pins s1 σ H1 Q I1 q1
  | false => exact ⟨.bl false, H1, I1, rfl, q1⟩
theorem pe_or (ha : PE X a ta) (hb : PE X (.BoolOp .Or (b :: rest) pos) tb) : PE X (.BoolOp .Or (a :: b :: rest) pos) (tOrV ta tb) := by
  intro pins s σ H Q I h
  refine BoolOp_or (thn (ha pins s σ H _ I h) fun v s1 ⟨x, H1, I1, r1, q1⟩ => ?_)
  obtain ⟨c, rfl, q1⟩ := q1
  cases r1
  refine wpAny_truthy_bool ?_
  cases c with
  | false => exact hb pins s1 σ H1 Q I1 q1
  | true => exact ⟨.bl true, H1, I1, rfl, q1⟩
theorem pe_not (ha : PE X a ta) : PE X (.UnaryOp .Not a pos) (tNotV ta) := by
  intro pins s σ H Q I h
  refine UnaryOp_ (thn (ha pins s σ H _ I h) fun v s1 ⟨x, H1, I1, r1, q1⟩ => ?_)
  obtain ⟨c, rfl, q1⟩ := q1
  cases r1
  exact not_of (wpAny_truthy_bool ⟨.bl (!c), H1, I1, rfl, q1⟩)
end
end L2
namespace L2
open PySem PySem.Spec PyProof.Rows
noncomputable def SqL (K : PySem.W.Frag) (H : Hp) (a : Addr) (xs : List V) : Prop :=
  Rd H a (.lst xs) ∨
    ∃ (o : Obj) (its : Array Value) (n : Nat), K.lookup a = some o ∧ o.cls = .type "list" ∧ o.dict = none ∧ o.data = .seq its n ∧ its.size ≤ sizeLine ∧ Vals xs its.toList
noncomputable def SqT (K : PySem.W.Frag) (H : Hp) (a : Addr) (xs : List V) : Prop :=
  Rd H a (.tup xs) ∨
    ∃ (o : Obj) (its : Array Value) (n : Nat), K.lookup a = some o ∧ o.cls = .type "tuple" ∧ o.data = .seq its n ∧ its.size ≤ sizeLine ∧ Vals xs its.toList
noncomputable def absV : Value → Option V
  | .none => some .non
  | .bool b => some (.bl b)
  | .int i _ => some (.int i)
  | .str x _ => some (.str x)
  | .bytes b _ => some (.byt b)
  | .float b _ => some (.flt b)
  | .ref a => some (.ref a)
  | .type n => some (.ty n)
  | _ => none
theorem RelV.abs {x : V} {u : Value} (r : RelV x u) : absV u = some x := by
  cases x with
  | non => cases r; rfl
  | bl _ => cases r; rfl
  | int _ => obtain ⟨t, rfl⟩ := r; rfl
  | str _ => obtain ⟨t, rfl⟩ := r; rfl
  | byt _ => obtain ⟨t, rfl⟩ := r; rfl
  | flt _ => obtain ⟨t, rfl⟩ := r; rfl
  | ref _ => cases r; rfl
  | ty _ => cases r; rfl
theorem RelV.inj {x y : V} {u : Value} (r : RelV x u) (q : RelV y u) : x = y := Option.some.inj (r.abs.symm.trans q.abs)
theorem Vals.inj : ∀ {xs ys : List V} {us : List Value}, Vals xs us → Vals ys us → xs = ys
  | _, _, _, .nil, .nil => rfl
  | _, _, _, .cons r t, .cons r' t' => by rw [r.inj r', Vals.inj t t']
section
variable {X : Cx} {pins : List (Addr × Obj)} {σ : St} {H : Hp} {s : Shared} {a : Addr} {xs ys : List V}
theorem SqL.of {K : PySem.W.Frag} (h : H a = some (.lst xs)) : SqL K H a xs := .inl (.inl h)
theorem SqT.of {K : PySem.W.Frag} (h : H a = some (.tup xs)) : SqT K H a xs := .inl (.inl h)
theorem Inv.list (I : Inv X pins σ H s) (h : SqL X.K H a xs) : ∃ its : List Value, Vals xs its ∧ PlainL s.heap a its.toArray ∧ xs.length ≤ sizeLine := by
  rcases h with h | ⟨o, its, n, hk, hc, hd, hs, hz, r⟩
  · obtain ⟨z, its, n, r, e⟩ := h.ok I.hok
    exact ⟨its, r, ⟨_, n, e, rfl, rfl, rfl⟩, z⟩
  · refine ⟨its.toList, r, ⟨o, n, I.kIn a o hk, hc, hd, by simpa using hs⟩, ?_⟩
    have e := r.length
    simp only [Array.length_toList] at e
    omega
theorem Inv.tuple (I : Inv X pins σ H s) (h : SqT X.K H a xs) : ∃ its : List Value, Vals xs its ∧ IsTup s.heap a its.toArray ∧ xs.length ≤ sizeLine := by
  rcases h with h | ⟨o, its, n, hk, hc, hs, hz, r⟩
  · obtain ⟨z, its, r, p⟩ := h.ok I.hok
    exact ⟨its, r, p, z⟩
  · refine ⟨its.toList, r, ⟨o, I.kIn a o hk, hc, n, by simpa using hs⟩, ?_⟩
    have e := r.length
    simp only [Array.length_toList] at e
    omega
theorem Inv.list_inj (I : Inv X pins σ H s) (h : SqL X.K H a xs) (h' : SqL X.K H a ys) : xs = ys := by
  obtain ⟨its, r, ⟨o, n, e, _, _, d⟩, _⟩ := I.list h
  obtain ⟨its', r', ⟨o', n', e', _, _, d'⟩, _⟩ := I.list h'
  rw [e] at e'; cases e'
  rw [d] at d'
  injection d' with d1 _
  have : its = its' := by simpa using congrArg Array.toList d1
  subst this
  exact r.inj r'
theorem Inv.tuple_inj (I : Inv X pins σ H s) (h : SqT X.K H a xs) (h' : SqT X.K H a ys) : xs = ys := by
  obtain ⟨its, r, ⟨o, e, _, n, d⟩, _⟩ := I.tuple h
  obtain ⟨its', r', ⟨o', e', _, n', d'⟩, _⟩ := I.tuple h'
  rw [e] at e'; cases e'
  rw [d] at d'
  injection d' with d1 _
  have : its = its' := by simpa using congrArg Array.toList d1
  subst this
  exact r.inj r'
end
noncomputable abbrev Cx.wish (X : Cx) (E : Value → Shared → Prop) : Cx := { X with xe := E }
noncomputable abbrev Cx.nox (X : Cx) : Cx := X.wish fun _ _ => False
theorem Cx.Ok.wish {X : Cx} (ok : X.Ok) (E : Value → Shared → Prop) : (X.wish E).Ok :=
  ⟨ok.mod, ok.kind, ok.glob, ok.blt, ok.above, ok.inj, ok.has, ok.cab, ok.hd, ok.frames, ok.stk, ok.exf, ok.bs, ok.bsz, ok.noex, ok.exfs, ok.funs, ok.frf⟩
theorem Cx.Ok.unwish {X : Cx} {E : Value → Shared → Prop} (ok : (X.wish E).Ok) : X.Ok :=
  ⟨ok.mod, ok.kind, ok.glob, ok.blt, ok.above, ok.inj, ok.has, ok.cab, ok.hd, ok.frames, ok.stk, ok.exf, ok.bs, ok.bsz, ok.noex, ok.exfs, ok.funs, ok.frf⟩
section
variable {X : Cx} {pins : List (Addr × Obj)} {σ : St} {H : Hp} {s : Shared} {E : Value → Shared → Prop}
theorem Inv.wish (I : Inv X pins σ H s) (E : Value → Shared → Prop) : Inv (X.wish E) pins σ H s := ⟨I.ok.wish E, I.os, I.bare, I.base, I.loc, I.cell, I.free, I.freeC, I.pin, I.hok, I.len⟩
theorem Inv.unwish (I : Inv (X.wish E) pins σ H s) : Inv X pins σ H s := ⟨I.ok.unwish, I.os, I.bare, I.base, I.loc, I.cell, I.free, I.freeC, I.pin, I.hok, I.len⟩
theorem SP.unwish {D : Ends} {f : Flow} {s' : Shared} (h : SP (X.wish E) pins D f s') : SP X pins D f s' := by
  cases f with
  | next => obtain ⟨σ', H', I, q⟩ := h; exact ⟨σ', H', I.unwish, q⟩
  | brk => obtain ⟨σ', H', I, q⟩ := h; exact ⟨σ', H', I.unwish, q⟩
  | cont => obtain ⟨σ', H', I, q⟩ := h; exact ⟨σ', H', I.unwish, q⟩
  | ret u => obtain ⟨v, σ', H', I, r, q⟩ := h; exact ⟨v, σ', H', I.unwish, r, q⟩
theorem PE.nox {e : Expr} {t : TE} (h : PE X.nox e t) : PE X e t := fun pins s σ H Q I hw =>
  wpAny_mono (h pins s σ H Q (I.wish _) hw) (fun _ _ ⟨v, H', I', r, q⟩ => ⟨v, H', I'.unwish, r, q⟩) fun _ _ z => False.elim z
theorem PT.nox {e : Expr} {t : TT} (h : PT X.nox e t) : PT X e t := fun pins s σ H Q I hw =>
  wpAny_mono (h pins s σ H Q (I.wish _) hw) (fun _ _ ⟨H', I', q⟩ => ⟨H', I'.unwish, q⟩) fun _ _ z => False.elim z
theorem PSs.nox {st : List Stmt} {t : TS} (h : PSs X.nox st t) : PSs X st t := fun pins s σ H D I hw =>
  wpAny_mono (h pins s σ H D (I.wish _) hw) (fun _ _ q => q.unwish) fun _ _ z => False.elim z
end
section
variable {X : Cx} {st : Stmt} {rest : List Stmt} {t u : TS} {e : Expr} {te : TE} {pos : Pos}
noncomputable def tNext : TS := fun D σ H => D.nx σ H
noncomputable def tSeq (t u : TS) : TS := fun D σ H => t { D with nx := u D } σ H
theorem pss_nil : PSs X [] tNext := fun _ _ σ H _ I h => wpAny_execs_nil ⟨σ, H, I, h⟩
theorem pss_cons (h1 : PS X st t) (h2 : PSs X rest u) : PSs X (st :: rest) (tSeq t u) := by
  intro pins s σ H D I h
  refine wpAny_execs_cons (thn (h1 pins s σ H { D with nx := u D } I h) fun f s1 q => ?_)
  cases f with
  | next =>
    obtain ⟨σ', H', I', q⟩ := q
    exact h2 pins s1 σ' H' D I' q
  | ret v => exact q
  | brk => exact q
  | cont => exact q
theorem pss_one (h1 : PS X st t) : PSs X [st] t := by
  intro pins s σ H D I h
  refine wpAny_execs_cons (thn (h1 pins s σ H D I h) fun f s1 q => ?_)
  cases f with
  | next => exact wpAny_execs_nil q
  | ret v => exact q
  | brk => exact q
  | cont => exact q
theorem Inv.quiet {pins : List (Addr × Obj)} {σ : St} {H : Hp} {s : Shared} (I : Inv X pins σ H s) : interactive X.env = false := by simp [interactive, I.ok.kind]
noncomputable def tDrop (te : TE) : TS := fun D σ H => te σ H fun _ H1 => D.nx σ H1
theorem ps_expr (he : PE X e te) (hs : swapsWith e none pos.line X.env = pure false := by rfl) : PS X (.Expr e pos) (tDrop te) := by
  intro pins s σ H D I h
  exact wpAny_Expr_any (thn (he pins s σ H _ I h) fun v s1 ⟨x, H1, I1, r1, q1⟩ => ⟨σ, H1, I1, q1⟩) I.quiet hs
noncomputable def tRet (te : TE) : TS := fun D σ H => te σ H D.rt
theorem ps_ret (he : PE X e te) : PS X (.Return (some e) pos) (tRet te) := by
  intro pins s σ H D I h
  exact wpAny_Return_some (thn (he pins s σ H _ I h) fun v s1 ⟨x, H1, I1, r1, q1⟩ => ⟨x, σ, H1, I1, r1, q1⟩)
noncomputable def tIfS (c : TT) (t u : TS) : TS := fun D σ H => c σ H fun b H1 => if b = true then t D σ H1 else u D σ H1
theorem ps_if {c : Expr} {a b : List Stmt} {tc : TT} (hc : PT X c tc) (ha : PSs X a t) (hb : PSs X b u) : PS X (.If c a b pos) (tIfS tc t u) := by
  intro pins s σ H D I h
  refine wpAny_If (thn (hc pins s σ H _ I h) fun d s1 ⟨H1, I1, q1⟩ => ?_)
  cases d with
  | true => exact ha pins s1 σ H1 D I1 q1
  | false => exact hb pins s1 σ H1 D I1 q1
end
noncomputable abbrev TG := V → St → Hp → (St → Hp → Prop) → Prop
noncomputable abbrev TGs := List V → St → Hp → (St → Hp → Prop) → Prop
noncomputable def PG (X : Cx) (target : Expr) (t : TG) : Prop :=
  ∀ (pins : List (Addr × Obj)) (s : Shared) (σ : St) (H : Hp) (v : V) (u : Value) (Q : St → Hp → Prop), Inv X pins σ H s → RelV v u → t v σ H Q →
    wpAny (model X.prog X.w) X.A (assign target X.env u) (fun _ s' => ∃ σ' H', Inv X pins σ' H' s' ∧ Q σ' H') X.xe s
noncomputable def PGs (X : Cx) (ts : List Expr) (t : TGs) : Prop :=
  ∀ (pins : List (Addr × Obj)) (s : Shared) (σ : St) (H : Hp) (vs : List V) (us : List Value) (Q : St → Hp → Prop), Inv X pins σ H s → Vals vs us → t vs σ H Q →
    wpAny (model X.prog X.w) X.A (assignInOrder ((assignEach ts X.env).map (·.2)) us) (fun _ s' => ∃ σ' H', Inv X pins σ' H' s' ∧ Q σ' H') X.xe s
noncomputable abbrev TSet := V → V → V → Hp → (Hp → Prop) → Prop
noncomputable def PSet (X : Cx) (t : TSet) : Prop :=
  ∀ (pins : List (Addr × Obj)) (s : Shared) (σ : St) (H : Hp) (o i v : V) (ov iv u : Value) (Q : Hp → Prop), Inv X pins σ H s → RelV o ov → RelV i iv → RelV v u → t o i v H Q →
    wpAny (model X.prog X.w) X.A (setItem ov iv u) (fun _ s' => ∃ H', Inv X pins σ H' s' ∧ Q H') X.xe s
section
variable {X : Cx} {pos : Pos}
noncomputable def gName (i : Nat) : TG := fun v σ H Q => Q (σ.set i (some v)) H
theorem pg_name {i : Nat} {x : Str} (hN : X.N.Nodup) (hi : X.N[i]? = some x) (hx : Loc X.env.scope x) (hf : X.fn x = true ∨ X.env.scope.names.lookup x = some .local := by first | exact .inl rfl | exact .inr rfl | assumption) : PG X (.Name x pos) (gName i) := by
  intro pins s σ H v u Q I r h
  exact wpAny_assign_Name (store_ok I hN hi hx r (fun s' I' => ⟨_, H, I', h⟩) hf)
noncomputable def gNil : TGs := fun vs σ H Q => vs = [] ∧ Q σ H
noncomputable def gCons (t : TG) (u : TGs) : TGs := fun vs σ H Q => ∃ v r, vs = v :: r ∧ t v σ H fun σ' H' => u r σ' H' Q
theorem pgs_nil : PGs X [] gNil := by
  intro pins s σ H vs us Q I r h
  obtain ⟨e, h⟩ := h
  subst e
  cases r
  exact assignInOrder_nil ⟨σ, H, I, h⟩
theorem pgs_cons {e : Expr} {es : List Expr} {t : TG} {u : TGs} (h1 : PG X e t) (h2 : PGs X es u)
    (hs : (assignEach (e :: es) X.env).map (·.2) = assign e X.env :: (assignEach es X.env).map (·.2) := by rfl) : PGs X (e :: es) (gCons t u) := by
  intro pins s σ H vs us Q I r h
  obtain ⟨v, vr, e1, h⟩ := h
  subst e1
  cases r with
  | cons r rr =>
    rw [hs]
    refine assignInOrder_cons (thn (h1 pins s σ H _ _ _ I r h) fun _ s1 ⟨σ1, H1, I1, q1⟩ => ?_)
    exact h2 pins s1 σ1 H1 _ _ Q I1 rr q1
noncomputable def gTup (K : PySem.W.Frag) (n : Nat) (t : TGs) : TG := fun v σ H Q => ∃ a xs, v = .ref a ∧ SqT K H a xs ∧ xs.length = n ∧ t xs σ H Q
theorem pg_tup {es : List Expr} {k : Nat} {t : TGs} {n : Nat} (hc : X.calm = true) (h : PGs X es t)
    (hn : (assignEach es X.env).length = n := by rfl) (hst : (assignEach es X.env).findIdx? (·.1) = none := by rfl) : PG X (.Tuple es k pos) (gTup X.K n t) := by
  intro pins s σ H v u Q I r hw
  obtain ⟨a, xs, e1, hq, hl, hw⟩ := hw
  subst e1
  cases r
  obtain ⟨its, rv, ht, hz⟩ := I.tuple hq
  refine assign_Tuple_tuple (I.ok.hd hc) ht (by simp [hn, ← hl, rv.length]) hst fun h' hx => ?_
  have I1 : Inv X pins σ H { s with heap := h' } := I.kept (t' := s.toks) fun b o e => hx b o (Nat.ne_of_lt (Heap.lt_size e)) e
  exact h pins _ σ H xs _ Q I1 (by simpa using rv) hw
noncomputable def gSub (to ti : TE) (t : TSet) : TG := fun v σ H Q => to σ H fun o H1 => ti σ H1 fun i H2 => t o i v H2 fun H3 => Q σ H3
theorem pg_sub {o i : Expr} {to ti : TE} {t : TSet} (ho : PE X o to) (hi : PE X i ti) (hs : PSet X t)
    (ha : ∀ v, assign (.Subscript o i pos) X.env v = (do
      let ov ← holding [v] (eval o X.env)
      let iv ← holding [v, ov] (eval i X.env)
      standAt pos
      holding [v, ov, iv] (setItem ov iv v)
      release [v, ov, iv] []) := by intro _; rfl) : PG X (.Subscript o i pos) (gSub to ti t) := by
  intro pins s σ H v u Q I r h
  rw [ha]
  refine wpAny_bind (wpAny_holding (thn (ho pins s σ H _ I h) fun ov s1 ⟨x, H1, I1, r1, q1⟩ => ?_))
  refine wpAny_bind (wpAny_holding (thn (hi pins s1 σ H1 _ I1 q1) fun iv s2 ⟨y, H2, I2, r2, q2⟩ => ?_))
  refine wpAny_bind (wpAny_standAt (wpAny_bind (wpAny_holding (thn (hs pins s2 σ H2 x y v ov iv u _ I2 r1 r2 r q2) fun _ s3 ⟨H3, I3, q3⟩ => ?_))))
  exact wpAny_release ⟨σ, H3, I3, q3⟩
noncomputable def tAsg (te : TE) (g : TG) : TS := fun D σ H => te σ H fun x H1 => g x σ H1 D.nx
theorem ps_asg {tg e : Expr} {te : TE} {g : TG} (he : PE X e te) (hg : PG X tg g) (hs : swapsWithSole [tg] e pos.line X.env = pure false := by rfl) (hw : swappedStores [tg] e X.env = pure none := by rfl)
    (h1 : (assignEach [tg] X.env).map (·.2) = [assign tg X.env] := by rfl) : PS X (.Assign [tg] e pos) (tAsg te g) := by
  intro pins s σ H D I h
  refine wpAny_Assign_stores (thn (he pins s σ H _ I h) fun v s1 ⟨x, H1, I1, r1, q1⟩ => ?_) hs hw
  rw [h1]
  exact thn (hg pins s1 σ H1 x v _ I1 r1 q1) fun _ s2 q => q
theorem ps_set {i : Nat} {x : Str} {e : Expr} {te : TE} {pos' : Pos} (hN : X.N.Nodup) (hi : X.N[i]? = some x) (hx : Loc X.env.scope x) (he : PE X e te) (hs : swapsWith e (some (.Name x pos')) pos.line X.env = pure false := by rfl) (hf : X.fn x = true ∨ X.env.scope.names.lookup x = some .local := by first | exact .inl rfl | exact .inr rfl | assumption) :
    PS X (.Assign [.Name x pos'] e pos) (tAsg te (gName i)) := by
  intro pins s σ H D I h
  refine wpAny_Assign_Name (thn (he pins s σ H _ I h) fun v s1 ⟨y, H1, I1, r1, q1⟩ => ?_) hs
  exact store_ok I1 hN hi hx r1 (fun s2 I2 => ⟨_, H1, I2, q1⟩) hf
end
section
variable {X : Cx} {pos : Pos}
noncomputable def tWhile (c : TT) (tb : TS) : TS := fun D σ H => ∃ W : Nat → St → Hp → Prop, (∃ m, W m σ H) ∧ ∀ m σ H, W m σ H →
  c σ H fun b H1 => if b = true then ∃ N : St → Hp → Prop, (∀ σ' H', N σ' H' → ∃ m', m' < m ∧ W m' σ' H') ∧ tb { D with nx := N, ct := N, bk := D.nx } σ H1 else D.nx σ H1
theorem ps_while {c : Expr} {body : List Stmt} {tc : TT} {tb : TS} (hp : PassesOwn (model X.prog X.w) X.A X.env X.xe) (hc : PT X c tc) (hb : PSs X body tb) : PS X (.While c body [] pos) (tWhile tc tb) := by
  intro pins s σ H D I h
  obtain ⟨W, ⟨m0, w0⟩, turn⟩ := h
  refine wpAny_While (codeAny_whileLoop (fun n s' => ∃ σ' H', Inv X pins σ' H' s' ∧ W n σ' H') ?_ m0 ⟨σ, H, I, w0⟩)
  rintro n s1 ⟨σ1, H1, I1, w1⟩
  refine wpAny_passesOwn hp (thn (hc pins s1 σ1 H1 _ I1 (turn n σ1 H1 w1)) fun b s2 ⟨H2, I2, q2⟩ => ?_)
  cases b with
  | true =>
    obtain ⟨N, hN, q2⟩ := q2
    rw [if_pos rfl]
    refine wpAny_passesOwn hp (thn (hb pins s2 σ1 H2 _ I2 q2) fun f s3 q3 => ?_)
    cases f with
    | next =>
      obtain ⟨σ3, H3, I3, n3⟩ := q3
      obtain ⟨m', hm, w3⟩ := hN σ3 H3 n3
      exact ⟨m', hm, σ3, H3, I3, w3⟩
    | cont =>
      obtain ⟨σ3, H3, I3, n3⟩ := q3
      obtain ⟨m', hm, w3⟩ := hN σ3 H3 n3
      exact ⟨m', hm, σ3, H3, I3, w3⟩
    | brk => exact q3
    | ret v => exact q3
  | false =>
    rw [if_neg Bool.false_ne_true]
    exact wpAny_execs_nil ⟨σ1, H2, I2, q2⟩
end
structure It where
  go : Nat → Hp → Prop
  yld : Nat → Hp → V → Hp → Prop
  stop : Nat → Hp → Prop
noncomputable def FpOk (X : Cx) (pins : List (Addr × Obj)) (H : Hp) (b : Addr) : Prop :=
  H b = none ∧ b ≠ X.env.locals ∧ b ∉ X.fs ∧ (b ∈ X.ex ∨ X.s₀.heap.objs.size ≤ b) ∧ (∀ x c, X.env.cells.lookup x = some c → c ≠ b) ∧ ∀ p ∈ X.pn ++ pins, p.1 ≠ b
theorem Inv.fpOk {X : Cx} {pins : List (Addr × Obj)} {σ : St} {H H' : Hp} {s : Shared} {b : Addr} (I : Inv X pins σ H s) (hb : s.heap.objs.size ≤ b) (hn : H' b = none) : FpOk X pins H' b := by
  refine ⟨hn, Nat.ne_of_gt (Nat.lt_of_lt_of_le I.lt hb), I.nofs hb, .inr (Nat.le_trans I.sz hb), fun x c e z => ?_, fun p hp z => ?_⟩
  · obtain ⟨v, q⟩ := I.cell x c e
    exact absurd (Nat.lt_of_lt_of_le q.lt (by rw [z]; exact hb)) (Nat.lt_irrefl _)
  · exact absurd (Nat.lt_of_lt_of_le (Heap.lt_size (I.pin p hp).1) (by rw [z]; exact hb)) (Nat.lt_irrefl _)
structure Turn (P : Program) (w : World) (K : PySem.W.Frag) (tg : Expr) (J : It) (fp : List Addr) (it : Addr) (tn : Nat → Heap → Prop) : Prop where
  mem : it ∈ fp
  obj : ∀ i h, tn i h → ∀ b ∈ fp, ∃ o, h.get? b = some o ∧ ∀ v, o.data ≠ .cell v
  keep : ∀ i h h', tn i h → (∀ b ∈ fp, ∀ o, h.get? b = some o → h'.get? b = some o) → tn i h'
  item : ∀ (X : Cx), X.prog = P → X.w = w → X.K = K → X.calm = true → ∀ (i : Nat) (pins : List (Addr × Obj)) (s : Shared) (σ : St) (H : Hp) (E : Value → Shared → Prop), Inv X pins σ H s → (∀ b ∈ fp, FpOk X pins H b) → tn i s.heap → J.go i H →
    wpAny (model P w) X.A (pyNext (.ref it)) (fun r s1 => ∃ u, r = some u ∧
      wpAny (model P w) X.A (letOwnedTupleGo tg (.ref it) u) (fun _ s2 => ∃ x H', Inv X pins σ H' s2 ∧ RelV x u ∧ J.yld i H x H' ∧ tn (i + 1) s2.heap ∧ ∀ b ∈ fp, H' b = none) E s1) E s
  done : ∀ (X : Cx), X.prog = P → X.w = w → X.K = K → X.calm = true → ∀ (i : Nat) (pins : List (Addr × Obj)) (s : Shared) (σ : St) (H : Hp) (E : Value → Shared → Prop), Inv X pins σ H s → (∀ b ∈ fp, FpOk X pins H b) → tn i s.heap → J.stop i H →
    wpAny (model P w) X.A (pyNext (.ref it)) (fun r s1 => r = none ∧ Inv X pins σ H s1) E s
  self : ∀ (A : Around) (i : Nat) (s : Shared) (Q : Value → Shared → Prop) (E : Value → Shared → Prop), tn i s.heap → Q (.ref it) s → wpAny (model P w) A (pyIter (.ref it)) Q E s
noncomputable abbrev TI := St → Hp → (It → Hp → Prop) → Prop
noncomputable def PIE (X : Cx) (pins : List (Addr × Obj)) (σ : St) (tg : Expr) (R : It → Hp → Prop) (itv : Value) (s2 : Shared) : Prop :=
  ∃ (it : Addr) (fp : List Addr) (tn : Nat → Heap → Prop) (J : It) (H' : Hp), itv = .ref it ∧ Inv X pins σ H' s2 ∧ Turn X.prog X.w X.K tg J fp it tn ∧ tn 0 s2.heap ∧ (∀ b ∈ fp, FpOk X pins H' b) ∧ R J H'
noncomputable def PI (X : Cx) (tg iter : Expr) (wi : TI) : Prop :=
  ∀ (pins : List (Addr × Obj)) (s : Shared) (σ : St) (H : Hp) (R : It → Hp → Prop), Inv X pins σ H s → wi σ H R →
    wpAny (model X.prog X.w) X.A (eval iter X.env) (fun v s1 => wpAny (model X.prog X.w) X.A (pyIter v) (PIE X pins σ tg R) X.xe s1) X.xe s
theorem go_of {M : Model} {A : Around} {E : Value → Shared → Prop} {s : Shared} {tg : Expr} {it : Addr} {u : Value} {o : Obj} {n : String} {vs : Array Value} {Q : Unit → Shared → Prop} (ho : s.heap.get? it = some o) (hc : o.cls = .type n) (hd : o.data = .fields vs)
    (hn : ["enumerate", "zip", "dict_itemiterator", "dict_reverseitemiterator", "odict_iterator", "itertools.zip_longest", "itertools.pairwise"].contains n = false) (hQ : Q () s) : wpAny M A (letOwnedTupleGo tg (.ref it) u) Q E s := by
  unfold letOwnedTupleGo
  cases tg <;> first
    | exact wpAny_pure hQ
    | (cases u <;> first
        | exact wpAny_pure hQ
        | (refine wpAny_bind (wpAny_load ho ?_)
           rw [hc, hd]
           show wpAny M A (if (["enumerate", "zip", "dict_itemiterator", "dict_reverseitemiterator", "odict_iterator", "itertools.zip_longest", "itertools.pairwise"].contains n && vs[0]? == some (rawInt _)) = true then _ else _) Q E s
           rw [if_neg (by intro h; rw [hn, Bool.false_and] at h; cases h)]
           exact wpAny_pure hQ))
noncomputable def Itl (K : PySem.W.Frag) (a : Addr) : It :=
  ⟨fun i H => ∃ xs x, SqL K H a xs ∧ xs[i]? = some x, fun i H x H' => H' = H ∧ ∀ xs, SqL K H a xs → xs[i]? = some x, fun i H => ∃ xs, SqL K H a xs ∧ xs.length ≤ i⟩
noncomputable def Itt (K : PySem.W.Frag) (a : Addr) : It :=
  ⟨fun i H => ∃ xs x, SqT K H a xs ∧ xs[i]? = some x, fun i H x H' => H' = H ∧ ∀ xs, SqT K H a xs → xs[i]? = some x, fun i H => ∃ xs, SqT K H a xs ∧ xs.length ≤ i⟩
noncomputable def Itr (lo : Int) (n : Nat) : It := ⟨fun i _ => i < n, fun i H x H' => H' = H ∧ x = .int (lo + i), fun i _ => n ≤ i⟩
theorem turn_list {P : Program} {w : World} {K : PySem.W.Frag} {tg : Expr} (a it : Addr) : Turn P w K tg (Itl K a) [it] it (fun i h => h.IsListIter it a i) where
  mem := by simp
  obj := fun i h st b hb => by
    have e : b = it := by simpa using hb
    subst e
    obtain ⟨o, e, c, d⟩ := st
    exact ⟨o, e, fun v z => by rw [d] at z; cases z⟩
  keep := fun i h h' st k => st.at fun o e => k it (by simp) o e
  item := by
    intro X hP hw hK hc i pins s σ H E I hf st hg
    subst hP hw hK
    obtain ⟨xs, x, hq, hx⟩ := hg
    obtain ⟨its, rv, p, hz⟩ := I.list hq
    obtain ⟨u, hu, ru⟩ := rv.get hx
    obtain ⟨f0, f1, f2, f3, f4, f5⟩ := hf it (by simp)
    refine wpAny_pyNext_list_item st p.isList (x := u) (by simpa using hu) fun h' st' sb => ?_
    have I1 : Inv X pins σ H { s with heap := h' } := I.turned (t' := s.toks) (fun b o hb e => (sb.2 b hb).trans e) f0 f1 f3 f4 f5
    obtain ⟨o, e, c, d⟩ := id st'
    exact ⟨u, rfl, go_of (s := { s with heap := h' }) e c d (by decide) ⟨x, H, I1, ru, ⟨rfl, fun ys hy => by rw [I.list_inj hy hq]; exact hx⟩, st', fun b hb => (hf b hb).1⟩⟩
  done := by
    intro X hP hw hK hc i pins s σ H E I hf st hg
    subst hP hw hK
    obtain ⟨xs, hq, hx⟩ := hg
    obtain ⟨its, rv, p, hz⟩ := I.list hq
    obtain ⟨f0, f1, f2, f3, f4, f5⟩ := hf it (by simp)
    have hl := rv.length
    exact wpAny_pyNext_list_end (I.ok.hd hc) st p.isList (by simp; omega) fun h' eb => ⟨rfl, I.turned (t' := s.toks) (fun b o hb e => eb b o hb e) f0 f1 f3 f4 f5⟩
  self := fun _ _ _ _ _ st h => wpAny_pyIter_listiter st h
theorem turn_tuple {P : Program} {w : World} {K : PySem.W.Frag} {tg : Expr} (a it : Addr) : Turn P w K tg (Itt K a) [it] it (fun i h => h.IsTupleIter it a i) where
  mem := by simp
  obj := fun i h st b hb => by
    have e : b = it := by simpa using hb
    subst e
    obtain ⟨o, e, c, d⟩ := st
    exact ⟨o, e, fun v z => by rw [d] at z; cases z⟩
  keep := fun i h h' st k => st.at fun o e => k it (by simp) o e
  item := by
    intro X hP hw hK hc i pins s σ H E I hf st hg
    subst hP hw hK
    obtain ⟨xs, x, hq, hx⟩ := hg
    obtain ⟨its, rv, p, hz⟩ := I.tuple hq
    obtain ⟨u, hu, ru⟩ := rv.get hx
    obtain ⟨f0, f1, f2, f3, f4, f5⟩ := hf it (by simp)
    refine wpAny_pyNext_tuple_item st (show s.heap.IsTuple a its.toArray from p) (x := u) (by simpa using hu) fun h' st' sb => ?_
    have I1 : Inv X pins σ H { s with heap := h' } := I.turned (t' := s.toks) (fun b o hb e => (sb.2 b hb).trans e) f0 f1 f3 f4 f5
    obtain ⟨o, e, c, d⟩ := id st'
    exact ⟨u, rfl, go_of (s := { s with heap := h' }) e c d (by decide) ⟨x, H, I1, ru, ⟨rfl, fun ys hy => by rw [I.tuple_inj hy hq]; exact hx⟩, st', fun b hb => (hf b hb).1⟩⟩
  done := by
    intro X hP hw hK hc i pins s σ H E I hf st hg
    subst hP hw hK
    obtain ⟨xs, hq, hx⟩ := hg
    obtain ⟨its, rv, p, hz⟩ := I.tuple hq
    obtain ⟨f0, f1, f2, f3, f4, f5⟩ := hf it (by simp)
    have hl := rv.length
    exact wpAny_pyNext_tuple_end (I.ok.hd hc) st (show s.heap.IsTuple a its.toArray from p) (by simp; omega) fun h' eb => ⟨rfl, I.turned (t' := s.toks) (fun b o hb e => eb b o hb e) f0 f1 f3 f4 f5⟩
  self := fun _ _ _ _ _ st h => wpAny_pyIter_tupleiter st h
theorem turn_range {P : Program} {w : World} {K : PySem.W.Frag} {tg : Expr} (it : Addr) (lo : Int) (n : Nat) : Turn P w K tg (Itr lo n) [it] it (fun i h => IsRangeIter h it (lo + (i : Nat) * 1) ((n : Int) - (i : Nat)) 1) where
  mem := by simp
  obj := fun i h st b hb => by
    have e : b = it := by simpa using hb
    subst e
    exact ⟨_, st, fun v z => by
      have z' : Data.fields _ = Data.cell v := z
      cases z'⟩
  keep := fun i h h' st k => k it (by simp) _ st
  item := by
    intro X hP hw hK hc i pins s σ H E I hf st hg
    subst hP hw hK
    obtain ⟨f0, f1, f2, f3, f4, f5⟩ := hf it (by simp)
    have W := Walks.range (prog := X.prog) (w := X.w) (I.ok.hd hc) it lo 1 n
    refine W.item i s _ _ hg st fun v h' tk hv st' kk => ?_
    obtain ⟨t, rfl⟩ := hv
    have I1 : Inv X pins σ H { s with heap := h', toks := tk } := I.turned (fun b o hb e => kk b o (by simpa using hb) e) f0 f1 f3 f4 f5
    refine ⟨_, rfl, go_of (s := { s with heap := h', toks := tk }) (n := "range_iterator") st' rfl rfl (by decide) ⟨.int (lo + i), H, I1, ⟨t, ?_⟩, ⟨rfl, rfl⟩, st', fun b hb => (hf b hb).1⟩⟩
    rw [Int.mul_one]
  done := by
    intro X hP hw hK hc i pins s σ H E I hf st hg
    subst hP hw hK
    obtain ⟨f0, f1, f2, f3, f4, f5⟩ := hf it (by simp)
    exact wpAny_pyNext_range_end (I.ok.hd hc) st (by have : n ≤ i := hg; omega) fun h' eb => ⟨rfl, I.turned (t' := s.toks) (fun b o hb e => eb b o hb e) f0 f1 f3 f4 f5⟩
  self := fun _ _ _ _ _ st h => wpAny_pyIter_rangeiter st h
end L2
namespace L2
open PySem PySem.Spec PyProof.Rows
section
variable {X : Cx} {tg : Expr}
theorem range_it {pins : List (Addr × Obj)} {σ : St} {H : Hp} {s : Shared} {R : It → Hp → Prop} {E : Value → Shared → Prop} {lo hi : Int} {t u v : Tok} {tk : Nat} (I : Inv X pins σ H s) (h1 : -(2 ^ 62) ≤ lo) (h2 : lo < 2 ^ 62) (h3 : -(2 ^ 62) ≤ hi) (h4 : hi < 2 ^ 62)
    (q : R (Itr lo (hi - lo).toNat) H) : wpAny (model X.prog X.w) X.A (pyIter (.ref s.heap.objs.size)) (PIE X pins σ tg R) E { s with heap := s.heap.push { cls := .type "range", data := .fields #[.int lo t, .int hi u, .int 1 v] }, toks := tk } := by
  refine wpAny_pyIter_range (IsRange.new ..) (small_one h1 h2 h3 h4) ?_
  have I1 : Inv X pins σ H { s with heap := s.heap.push { cls := .type "range", data := .fields #[.int lo t, .int hi u, .int 1 v] }, toks := tk } := I.kept fun b o e => Heap.get?_push_of_some _ e
  refine ⟨(s.heap.push { cls := .type "range", data := .fields #[.int lo t, .int hi u, .int 1 v] }).objs.size, [(s.heap.push { cls := .type "range", data := .fields #[.int lo t, .int hi u, .int 1 v] }).objs.size], _, _, H, rfl,
    I1.kept (t' := tk) fun b o e => Heap.get?_push_of_some _ e, turn_range _ lo (hi - lo).toNat, ?_, fun b hb => ?_, q⟩
  · have e1 : lo + ((0 : Nat) : Int) * 1 = lo := by simp
    have e2 : (((hi - lo).toNat : Nat) : Int) - ((0 : Nat) : Int) = Builtin.Range.rangeSize lo hi 1 := by rw [rangeSize_one]; split <;> omega
    show IsRangeIter _ _ (lo + ((0 : Nat) : Int) * 1) ((((hi - lo).toNat : Nat) : Int) - ((0 : Nat) : Int)) 1
    rw [e1, e2]
    exact Heap.get?_push_size _ rfl
  · have e : b = (s.heap.push { cls := .type "range", data := .fields #[.int lo t, .int hi u, .int 1 v] }).objs.size := by simpa using hb
    subst e
    exact I1.fpOk (Nat.le_refl _) (I1.hok.fresh (Nat.le_refl _))
noncomputable def iRng1 (ta : TA) : TI := fun σ H R => ta σ H fun vs H1 => ∃ j : Int, vs = [.int j] ∧ -(2 ^ 62) ≤ j ∧ j < 2 ^ 62 ∧ R (Itr 0 j.toNat) H1
theorem pi_range1 {a : Expr} {ta : TA} {p pos : Pos} (hg : Gl X "range") (hm : X.mg "range" = none) (ha : PA X [a] ta) (hs : starEach [a] X.env = [(false, eval a X.env)] := by rfl) : PI X tg (.Call (.Name "range" p) [a] [] pos) (iRng1 ta) := by
  intro pins s σ H R I h
  refine Call_ (ld_blt I hg hm boot_range (PyProof.Rows.callWith_type1 (thn (ha pos pins s σ H _ I h) fun us s1 ⟨vs, H1, I1, r1, q1⟩ => ?_) hs rfl))
  obtain ⟨j, e, q1, q2, q⟩ := q1
  subst e
  cases r1 with
  | cons r rr =>
    cases rr
    obtain ⟨t, rfl⟩ := r
    exact call_range_1 (range_it I1 (by omega) (by omega) q1 q2 (by simpa using q))
noncomputable def tFor (wi : TI) (g : TG) (tb : TS) : TS := fun D σ H => wi σ H fun J H1 => ∃ W : Nat → Nat → St → Hp → Prop, (∃ m, W 0 m σ H1) ∧ ∀ i m σ H, W i m σ H →
  (J.stop i H ∧ D.nx σ H) ∨ (J.go i H ∧ ∃ N : St → Hp → Prop, (∀ σ' H', N σ' H' → ∃ m', m' < m ∧ W (i + 1) m' σ' H') ∧ ∀ x H', J.yld i H x H' → g x σ H' fun σ2 H2 => tb { D with nx := N, ct := N, bk := D.nx } σ2 H2)
noncomputable def pinsAt (fp : List Addr) (h : Heap) : List (Addr × Obj) := fp.filterMap fun b => (h.get? b).map fun o => (b, o)
theorem mem_pinsAt {fp : List Addr} {h : Heap} {b : Addr} {o : Obj} (hb : b ∈ fp) (e : h.get? b = some o) : (b, o) ∈ pinsAt fp h := List.mem_filterMap.mpr ⟨b, hb, by rw [e]; rfl⟩
theorem of_pinsAt {fp : List Addr} {h : Heap} {p : Addr × Obj} (hp : p ∈ pinsAt fp h) : p.1 ∈ fp ∧ h.get? p.1 = some p.2 := by
  obtain ⟨b, hb, e⟩ := List.mem_filterMap.mp hp
  cases q : h.get? b with
  | none => rw [q] at e; cases e
  | some o =>
    rw [q] at e
    have e' : (b, o) = p := Option.some.inj e
    subst e'
    exact ⟨hb, q⟩
theorem Inv.pinned {pins : List (Addr × Obj)} {σ : St} {H : Hp} {s : Shared} {fp : List Addr} (I : Inv X pins σ H s) (hf : ∀ b ∈ fp, FpOk X pins H b) (ho : ∀ b ∈ fp, ∃ o, s.heap.get? b = some o ∧ ∀ v, o.data ≠ .cell v) : Inv X (pins ++ pinsAt fp s.heap) σ H s :=
  I.pins_of fun p hp => (List.mem_append.mp hp).elim (fun z => I.pin p (List.mem_append_right _ z)) fun z => by
    obtain ⟨hb, e⟩ := of_pinsAt z
    obtain ⟨f0, f1, f2, _⟩ := hf p.1 hb
    obtain ⟨o, e', d⟩ := ho p.1 hb
    rw [e] at e'; cases e'
    exact ⟨e, f0, f1, f2, d⟩
theorem Inv.unpinned {pins pl : List (Addr × Obj)} {σ : St} {H : Hp} {s : Shared} (I : Inv X (pins ++ pl) σ H s) : Inv X pins σ H s := I.pins_of fun p hp => I.pin p (List.mem_append_right _ (List.mem_append_left _ hp))
theorem ps_for {iter : Expr} {body : List Stmt} {wi : TI} {g : TG} {tb : TS} {pos : Pos} (hp : PassesOwn (model X.prog X.w) X.A X.env X.xe) (hc : X.calm = true) (hi : PI X tg iter wi) (hg : PG X tg g) (hb : PSs X body tb)
    (hs : ∀ x, foldedSetIterable iter X.env x = pure x := by intro _; rfl) : PS X (.For tg iter body [] pos) (tFor wi g tb) := by
  intro pins s σ H D I h
  refine wpAny_For (thn (hi pins s σ H _ I h) fun v s1 h1 => thn h1 fun itv s2 h2 => ?_) hs
  obtain ⟨it, fp, tn, J, H2, e, I2, T, st2, f2, W, ⟨m0, w0⟩, turn⟩ := h2
  subst e
  have stat : ∀ {H' : Hp}, (∀ b ∈ fp, H' b = none) → ∀ b ∈ fp, FpOk X pins H' b := fun hn b hb => ⟨hn b hb, (f2 b hb).2⟩
  refine codeAny_forLoop_any (fun n s' => ∃ i σ' H', Inv X pins σ' H' s' ∧ tn i s'.heap ∧ (∀ b ∈ fp, H' b = none) ∧ W i n σ' H') ?_ m0 ⟨0, σ, H2, I2, st2, fun b hb => (f2 b hb).1, w0⟩
  rintro n s3 ⟨i, σ3, H3, I3, st3, fr3, w3⟩
  rcases turn i n σ3 H3 w3 with ⟨stop, qn⟩ | ⟨go, N, hN, step⟩
  · refine wpAny_passesOwn hp (thn (T.done X rfl rfl rfl hc i pins s3 σ3 H3 X.xe I3 (stat fr3) st3 stop) fun r s4 ⟨hr, I4⟩ => ?_)
    subst hr
    exact wpAny_execs_nil ⟨σ3, H3, I4, qn⟩
  · refine wpAny_passesOwn hp (thn (T.item X rfl rfl rfl hc i pins s3 σ3 H3 X.xe I3 (stat fr3) st3 go) fun r s4 ⟨u, hr, h4⟩ => ?_)
    subst hr
    refine wpAny_passesOwn hp (thn h4 fun _ s5 ⟨x, H5, I5, r5, y5, st5, fr5⟩ => ?_)
    have I5' := I5.pinned (stat fr5) (T.obj _ _ st5)
    refine wpAny_passesOwn hp (thn (hg _ s5 σ3 H5 x u _ I5' r5 (step x H5 y5)) fun _ s6 ⟨σ6, H6, I6, q6⟩ => ?_)
    refine wpAny_passesOwn hp (thn (hb _ s6 σ6 H6 _ I6 q6) fun f s7 q7 => ?_)
    have again : ∀ {σ7 : St} {H7 : Hp}, Inv X (pins ++ pinsAt fp s5.heap) σ7 H7 s7 → N σ7 H7 → ∃ m, m < n ∧ ∃ i σ' H', Inv X pins σ' H' s7 ∧ tn i s7.heap ∧ (∀ b ∈ fp, H' b = none) ∧ W i m σ' H' := fun {σ7 H7} I7 n7 => by
      obtain ⟨m', hm, w7⟩ := hN σ7 H7 n7
      refine ⟨m', hm, i + 1, σ7, H7, I7.unpinned, T.keep _ _ _ st5 fun b hb o e => (I7.pin (b, o) (List.mem_append_right _ (List.mem_append_right _ (mem_pinsAt hb e)))).1, fun b hb => ?_, w7⟩
      obtain ⟨o, e, d⟩ := T.obj _ _ st5 b hb
      exact (I7.pin (b, o) (List.mem_append_right _ (List.mem_append_right _ (mem_pinsAt hb e)))).2.1
    cases f with
    | next => obtain ⟨σ7, H7, I7, n7⟩ := q7; exact again I7 n7
    | cont => obtain ⟨σ7, H7, I7, n7⟩ := q7; exact again I7 n7
    | brk => obtain ⟨σ7, H7, I7, q7⟩ := q7; exact ⟨σ7, H7, I7.unpinned, q7⟩
    | ret v => obtain ⟨x7, σ7, H7, I7, r7, q7⟩ := q7; exact ⟨x7, σ7, H7, I7.unpinned, r7, q7⟩
end
end L2
namespace L2
open PySem PySem.Spec PyProof.Rows
noncomputable abbrev R2 := V → V → Hp → VK → Prop
noncomputable def OpR (X : Cx) (f : Value → Value → Sem Value) (r : R2) : Prop :=
  ∀ (pins : List (Addr × Obj)) (s : Shared) (σ : St) (H : Hp) (x y : V) (v u : Value) (Q : VK), Inv X pins σ H s → RelV x v → RelV y u → r x y H Q →
    wpAny (model X.prog X.w) X.A (f v u) (EP X pins σ Q) X.xe s
noncomputable def CallR (X : Cx) (f : Value) (r : List V → Hp → VK → Prop) : Prop :=
  ∀ (pins : List (Addr × Obj)) (s : Shared) (σ : St) (H : Hp) (xs : List V) (us : List Value) (Q : VK), Inv X pins σ H s → Vals xs us → r xs H Q →
    wpAny (model X.prog X.w) X.A (call f us) (EP X pins σ Q) X.xe s
noncomputable def tOp (r : R2) (ta tb : TE) : TE := fun σ H Q => ta σ H fun x H1 => tb σ H1 fun y H2 => r x y H2 Q
noncomputable def rI (C : Int → Int → Prop) (g : Int → Int → V) : R2 := fun x y H Q => ∃ i j, x = .int i ∧ y = .int j ∧ C i j ∧ Q (g i j) H
noncomputable def rI0 (g : Int → Int → V) : R2 := fun x y H Q => ∃ i j, x = .int i ∧ y = .int j ∧ Q (g i j) H
section
variable {X : Cx} {a b c : Expr} {ta tb tc : TE} {pos : Pos}
theorem binT (ha : PE X a ta) (hb : PE X b tb) {pins : List (Addr × Obj)} {s : Shared} {σ : St} {H : Hp} {R : V → V → Hp → Prop} (I : Inv X pins σ H s)
    (h : ta σ H fun x H1 => tb σ H1 fun y H2 => R x y H2) {Q : Value → Shared → Prop} {f : Value → Value → Sem Value}
    (hf : ∀ v u s2 x y H2, Inv X pins σ H2 s2 → RelV x v → RelV y u → R x y H2 → wpAny (model X.prog X.w) X.A (f v u) Q X.xe s2) :
    wpAny (model X.prog X.w) X.A (eval a X.env) (fun v s₁ => wpAny (model X.prog X.w) X.A (eval b X.env) (fun u s₂ => wpAny (model X.prog X.w) X.A (f v u) Q X.xe s₂) X.xe s₁) X.xe s := by
  refine thn (ha pins s σ H _ I h) fun v s1 ⟨x, H1, I1, r1, q1⟩ => ?_
  refine thn (hb pins s1 σ H1 _ I1 q1) fun u s2 ⟨y, H2, I2, r2, q2⟩ => ?_
  exact hf v u s2 x y H2 I2 r1 r2 q2
theorem pe_op {op : Operator} {r : R2} (ho : OpR X (binaryOp op) r) (ha : PE X a ta) (hb : PE X b tb) : PE X (.BinOp a op b pos) (tOp r ta tb) := by
  intro pins s σ H Q I h
  exact wpAny_BinOp (binT ha hb I h fun v u s2 x y H2 I2 rx ry q => ho pins s2 σ H2 x y v u Q I2 rx ry q)
theorem opI {f : Value → Value → Sem Value} {C : Int → Int → Prop} {g : Int → Int → Int}
    (rule : ∀ (i j : Int) (t u : Tok) (s : Shared) (Q : Value → Shared → Prop) (E : Value → Shared → Prop), C i j → Q (.int (g i j) s.toks) { s with toks := s.toks + 1 } → wpAny (model X.prog X.w) X.A (f (.int i t) (.int j u)) Q E s) :
    OpR X f (rI C fun i j => .int (g i j)) := by
  intro pins s σ H x y v u Q I rx ry h
  obtain ⟨i, j, rfl, rfl, hc, q⟩ := h
  obtain ⟨t, rfl⟩ := rx
  obtain ⟨t', rfl⟩ := ry
  exact rule i j t t' s _ _ hc ⟨.int (g i j), H, I.tok _, ⟨_, rfl⟩, q⟩
theorem opI0 {f : Value → Value → Sem Value} {g : Int → Int → Int}
    (rule : ∀ (i j : Int) (t u : Tok) (s : Shared) (Q : Value → Shared → Prop) (E : Value → Shared → Prop), Q (.int (g i j) s.toks) { s with toks := s.toks + 1 } → wpAny (model X.prog X.w) X.A (f (.int i t) (.int j u)) Q E s) :
    OpR X f (rI0 fun i j => .int (g i j)) := by
  intro pins s σ H x y v u Q I rx ry h
  obtain ⟨i, j, rfl, rfl, q⟩ := h
  obtain ⟨t, rfl⟩ := rx
  obtain ⟨t', rfl⟩ := ry
  exact rule i j t t' s _ _ ⟨.int (g i j), H, I.tok _, ⟨_, rfl⟩, q⟩
theorem opB0 {f : Value → Value → Sem Value} {g : Int → Int → Bool}
    (rule : ∀ (i j : Int) (t u : Tok) (s : Shared) (Q : Value → Shared → Prop) (E : Value → Shared → Prop), Q (.bool (g i j)) s → wpAny (model X.prog X.w) X.A (f (.int i t) (.int j u)) Q E s) :
    OpR X f (rI0 fun i j => .bl (g i j)) := by
  intro pins s σ H x y v u Q I rx ry h
  obtain ⟨i, j, rfl, rfl, q⟩ := h
  obtain ⟨t, rfl⟩ := rx
  obtain ⟨t', rfl⟩ := ry
  exact rule i j t t' s _ _ ⟨.bl (g i j), H, I, rfl, q⟩
noncomputable def CMul (i j : Int) : Prop := (-(2 ^ 64) < i ∧ i < 2 ^ 64) ∨ (-(2 ^ 64) < j ∧ j < 2 ^ 64)
theorem CMul.ok {i j : Int} (h : CMul i j) : IntMulOk i j := by
  rcases h with ⟨h1, h2⟩ | ⟨h1, h2⟩
  · exact .of_left (intBits_le_64 h1 h2)
  · exact .of_right (intBits_le_64 h1 h2)
theorem op_add : OpR X (binaryOp .Add) (rI0 fun i j => .int (i + j)) := opI0 fun _ _ _ _ _ _ _ q => add_int q
theorem op_sub : OpR X (binaryOp .Sub) (rI0 fun i j => .int (i - j)) := opI0 fun _ _ _ _ _ _ _ q => sub_int q
theorem op_mul : OpR X (binaryOp .Mult) (rI CMul fun i j => .int (i * j)) := opI fun _ _ _ _ _ _ _ hc q => mul_int q hc.ok
theorem op_mod : OpR X (binaryOp .Mod) (rI (fun _ j => 0 < j) fun i j => .int (i % j)) := opI fun i j _ _ _ _ _ hc q => by
  have h1 : (0 : Int) < j := hc
  exact mod_int' (by omega) (by rw [Int.fmod_eq_emod_of_nonneg i (by omega)]; exact q)
end
section
variable {X : Cx} {a b c : Expr} {ta tb tc : TE} {pos : Pos}
theorem fin_bl {pins : List (Addr × Obj)} {σ : St} {H : Hp} {s : Shared} {Q : VK} {k k' : Bool} (I : Inv X pins σ H s) (q : Q (.bl k) H) (e : k = k') : EP X pins σ Q (.bool k') s := by
  subst e
  exact ⟨.bl k, H, I, rfl, q⟩
theorem op_lt : OpR X (compareOp .Lt) (rI0 fun i j => .bl (decide (i < j))) := opB0 fun _ _ _ _ _ _ _ q => lt_int q
theorem op_le : OpR X (compareOp .LtE) (rI0 fun i j => .bl (decide (i ≤ j))) := opB0 fun _ _ _ _ _ _ _ q => le_int q
theorem op_gt : OpR X (compareOp .Gt) (rI0 fun i j => .bl (decide (j < i))) := opB0 fun _ _ _ _ _ _ _ q => gt_int q
theorem op_ge : OpR X (compareOp .GtE) (rI0 fun i j => .bl (decide (j ≤ i))) := opB0 fun _ _ _ _ _ _ _ q => ge_int q
theorem op_lt_str : OpR X (compareOp .Lt) (fun x y H Q => ∃ i j, x = .str i ∧ y = .str j ∧ Q (.bl (decide (i.cps.toList < j.cps.toList))) H) := by
  intro pins s σ H x y v u Q I rx ry h
  obtain ⟨i, j, rfl, rfl, q⟩ := h
  obtain ⟨t, rfl⟩ := rx
  obtain ⟨t', rfl⟩ := ry
  exact lt_str (fin_bl I q rfl)
theorem op_in_str : OpR X (compareOp .In) (fun x y H Q => ∃ i j, x = .str i ∧ y = .str j ∧ Q (.bl (!(Builtin.Str.occurrences j i 0 j.length 1).isEmpty)) H) := by
  intro pins s σ H x y v u Q I rx ry h
  obtain ⟨i, j, rfl, rfl, q⟩ := h
  obtain ⟨t, rfl⟩ := rx
  obtain ⟨t', rfl⟩ := ry
  exact in_str (fin_bl I q rfl)
theorem op_isN : OpR X (compareOp .Is) (fun x y H Q => y = .non ∧ Q (.bl (decide (x = .non))) H) := by
  intro pins s σ H x y v u Q I rx ry h
  obtain ⟨rfl, q⟩ := h
  cases ry
  refine is_none_gen (fin_bl I q ?_)
  cases x <;> first
    | (cases rx; rfl)
    | (obtain ⟨t, rfl⟩ := rx; rfl)
theorem op_notN : OpR X (compareOp .IsNot) (fun x y H Q => y = .non ∧ Q (.bl (!decide (x = .non))) H) := by
  intro pins s σ H x y v u Q I rx ry h
  obtain ⟨rfl, q⟩ := h
  cases ry
  refine isnot_none_gen (fin_bl I q ?_)
  cases x <;> first
    | (cases rx; rfl)
    | (obtain ⟨t, rfl⟩ := rx; rfl)
theorem op_notin_str : OpR X (compareOp .NotIn) (fun x y H Q => ∃ i j, x = .str i ∧ y = .str j ∧ Q (.bl (!(!(Builtin.Str.occurrences j i 0 j.length 1).isEmpty))) H) := by
  intro pins s σ H x y v u Q I rx ry h
  obtain ⟨i, j, rfl, rfl, q⟩ := h
  obtain ⟨t, rfl⟩ := rx
  obtain ⟨t', rfl⟩ := ry
  exact notIn_str (fin_bl I q rfl)
theorem OpR.or {f : Value → Value → Sem Value} {r r' : R2} (h : OpR X f r) (h' : OpR X f r') : OpR X f (fun x y H Q => r x y H Q ∨ r' x y H Q) := by
  intro pins s σ H x y v u Q I rx ry q
  rcases q with q | q
  · exact h pins s σ H x y v u Q I rx ry q
  · exact h' pins s σ H x y v u Q I rx ry q
theorem nomark (b : Expr) {op : CmpOp} (h : op ≠ .In := by decide) (h2 : op ≠ .NotIn := by decide) : behindInMarks op b = false := by
  have e1 : (op == CmpOp.In) = false := by cases op <;> first | rfl | exact absurd rfl h
  have e2 : (op == CmpOp.NotIn) = false := by cases op <;> first | rfl | exact absurd rfl h2
  cases b <;> simp [behindInMarks, e1, e2]
theorem pe_cmpR {op : CmpOp} {r : R2} (ho : OpR X (compareOp op) r) (ha : PE X a ta) (hb : PE X b tb) (hm : behindInMarks op b = false) : PE X (.Compare a [op] [b] pos) (tOp r ta tb) := by
  intro pins s σ H Q I h
  exact wpAny_Compare1 (binT ha hb I h fun v u s2 x y H2 I2 rx ry q => ho pins s2 σ H2 x y v u Q I2 rx ry q) hm
noncomputable def tTest (t : TE) : TT := fun σ H Q => t σ H fun x H' => ∃ k, x = .bl k ∧ Q k H'
theorem pt_cmpR {op : CmpOp} {r : R2} (ho : OpR X (compareOp op) r) (ha : PE X a ta) (hb : PE X b tb) (hm : behindInMarks op b = false) : PT X (.Compare a [op] [b] pos) (tTest (tOp r ta tb)) := by
  intro pins s σ H Q I h
  refine wpAny_isTrue_Compare1 (thn (ha pins s σ H _ I h) fun v s1 ⟨x, H1, I1, r1, q1⟩ => thn (hb pins s1 σ H1 _ I1 q1) fun u s2 ⟨y, H2, I2, r2, q2⟩ =>
    thn (ho pins s2 σ H2 x y v u _ I2 r1 r2 q2) fun c s3 ⟨z, H3, I3, r3, k, e, q3⟩ => ?_) hm
  subst e
  cases r3
  exact wpAny_truthy_bool ⟨H3, I3, q3⟩
noncomputable def tChain (r r' : R2) (ta tb tc : TE) : TE := fun σ H Q => ta σ H fun x H1 => tb σ H1 fun y H2 => r x y H2 fun z H3 => ∃ k, z = .bl k ∧
  (if k = true then tc σ H3 fun w' H4 => r' y w' H4 Q else Q (.bl false) H3)
theorem pt_chain {op op' : CmpOp} {r r' : R2} (ho : OpR X (compareOp op) r) (ho' : OpR X (compareOp op') r') (ha : PE X a ta) (hb : PE X b tb) (hc : PE X c tc)
    (hm : lastMarks [op, op'] [b, c] = false := by with_unfolding_all rfl) : PT X (.Compare a [op, op'] [b, c] pos) (tTest (tChain r r' ta tb tc)) := by
  intro pins s σ H Q I h
  refine isTrue_chain (thn (ha pins s σ H _ I h) fun v s1 ⟨x, H1, I1, r1, q1⟩ => test_link (thn (hb pins s1 σ H1 _ I1 q1) fun u s2 ⟨y, H2, I2, r2, q2⟩ =>
    thn (ho pins s2 σ H2 x y v u _ I2 r1 r2 q2) fun d s3 ⟨z, H3, I3, r3, k, e, q3⟩ => ?_)) hm
  subst e
  cases r3
  refine wpAny_truthy_bool ?_
  cases k with
  | false =>
    obtain ⟨k', e', q'⟩ := q3
    cases e'
    exact ite_ff ⟨H3, I3, q'⟩
  | true =>
    refine ite_tt (test_last (thn (hc pins s3 σ H3 _ I3 q3) fun w' s4 ⟨z', H4, I4, r4, q4⟩ => thn (ho' pins s4 σ H4 y z' u w' _ I4 r2 r4 q4) fun d' s5 ⟨z2, H5, I5, r5, k2, e2, q5⟩ => ?_))
    subst e2
    cases r5
    exact wpAny_truthy_bool ⟨H5, I5, q5⟩
theorem line63 : (sizeLine : Nat) < 2 ^ 63 := by rw [sizeLine_eq]; decide
theorem op_add_str : OpR X (binaryOp .Add) (fun x y H Q => ∃ i j, x = .str i ∧ y = .str j ∧ i.length + j.length ≤ sizeLine ∧ Q (.str (i ++ j)) H) := by
  intro pins s σ H x y v u Q I rx ry h
  obtain ⟨i, j, rfl, rfl, hz, q⟩ := h
  obtain ⟨t, rfl⟩ := rx
  obtain ⟨t', rfl⟩ := ry
  exact add_str (fun t' tk => ⟨.str (i ++ j), H, I.tok _, ⟨_, rfl⟩, q⟩) hz
theorem vals1 {x : V} {us : List Value} (r : Vals [x] us) : ∃ u, us = [u] ∧ RelV x u := by
  cases r with
  | cons r1 r2 => cases r2; exact ⟨_, rfl, r1⟩
theorem vals2 {x y : V} {us : List Value} (r : Vals [x, y] us) : ∃ u w', us = [u, w'] ∧ RelV x u ∧ RelV y w' := by
  cases r with
  | cons r1 r2 =>
    cases r2 with
    | cons r3 r4 => cases r4; exact ⟨_, _, rfl, r1, r3⟩
theorem call_max2 (hc : X.calm = true) : CallR X (.builtin "max") (fun xs H Q => ∃ i j, xs = [.int i, .int j] ∧ Q (.int (if j > i then j else i)) H) := by
  intro pins s σ H xs us Q I r h
  obtain ⟨i, j, rfl, q⟩ := h
  obtain ⟨u, w', rfl, ⟨t, rfl⟩, ⟨t', rfl⟩⟩ := vals2 r
  refine max_two_ints (I.ok.hd hc) fun h' tk k => ⟨_, H, I.kept k, ?_, q⟩
  by_cases hj : j > i
  · rw [if_pos hj, if_pos hj]; exact ⟨_, rfl⟩
  · rw [if_neg hj, if_neg hj]; exact ⟨_, rfl⟩
theorem call_min2 (hc : X.calm = true) : CallR X (.builtin "min") (fun xs H Q => ∃ i j, xs = [.int i, .int j] ∧ Q (.int (if j < i then j else i)) H) := by
  intro pins s σ H xs us Q I r h
  obtain ⟨i, j, rfl, q⟩ := h
  obtain ⟨u, w', rfl, ⟨t, rfl⟩, ⟨t', rfl⟩⟩ := vals2 r
  refine min_two_ints (I.ok.hd hc) fun h' tk k => ⟨_, H, I.kept k, ?_, q⟩
  by_cases hj : j < i
  · rw [if_pos hj, if_pos hj]; exact ⟨_, rfl⟩
  · rw [if_neg hj, if_neg hj]; exact ⟨_, rfl⟩
theorem call_int1 : CallR X (.type "int") (fun xs H Q => (∃ i, xs = [.int i] ∧ Q (.int i) H) ∨ ∃ k, xs = [.bl k] ∧ Q (.int (if k then 1 else 0)) H) := by
  intro pins s σ H xs us Q I r h
  rcases h with ⟨i, rfl, q⟩ | ⟨k, rfl, q⟩
  · obtain ⟨u, rfl, t, rfl⟩ := vals1 r
    exact call_int_int ⟨.int i, H, I, ⟨_, rfl⟩, q⟩
  · obtain ⟨u, rfl, r1⟩ := vals1 r
    cases r1
    exact call_int_bool ⟨.int (if k then 1 else 0), H, I.tok _, ⟨_, rfl⟩, q⟩
end
end L2
namespace L2
open PySem PySem.Spec PyProof.Rows
structure ObjM (h : Heap) (x dx C : Addr) (mA : Str → Option Value) : Prop where
  obj : h.get? x = some (PySem.W.instObj C dx)
  ns : h.Ns1 dx mA
  ne : dx ≠ x
section
variable {prog : Program} {w : World} {A : Around} {E : Value → Shared → Prop} {s : Shared} {K : PySem.W.Frag} {x dx C f : Addr} {mA : Str → Option Value} {name : Str} {v : Value}
end
theorem RelO.some_of {v : V} {o : Option Value} (r : RelO (some v) o) : ∃ u, o = some u ∧ RelV v u := by
  cases o with
  | none => exact (show False from r).elim
  | some u => exact ⟨u, rfl, r⟩
theorem RelO.none_of {o : Option Value} (r : RelO none o) : o = none := by
  cases o with
  | none => rfl
  | some u => exact (show False from r).elim
section
variable {P : Program} {w : World} {H H' : Hp} {h h' : Heap} {a C dx : Addr} {fs fs' : List (Str × V)}
end
structure Cls (K : PySem.W.Frag) (C : Addr) : Prop where
  pg : PySem.W.plainGet K C Str.empty = true
  hd : PySem.W.hasDictIn K C = true
  po : PySem.W.plainOver K C = true
  sa : PySem.W.findIn K (.ref C) "__setattr__" = some (some (.builtin "object.__setattr__"))
theorem Cls.get {K : PySem.W.Frag} {C : Addr} (c : Cls K C) (f : Str) : PySem.W.plainGet K C f = true := c.pg
structure Con (K : PySem.W.Frag) (C : Addr) (f : Str) (v : V) (u : Value) : Prop where
  at_ : PySem.W.findIn K (.ref C) f = some (some u)
  rel : RelV v u
  get : PySem.W.specialIn K u "__get__" = some none
  cp : PySem.W.copiedNames.contains f = false
structure Meth (K : PySem.W.Frag) (C : Addr) (m : Str) (f : Addr) : Prop where
  at_ : PySem.W.findIn K (.ref C) m = some (some (.ref f))
  fn : PySem.W.isFn K (.ref f) = true
  kp : PySem.W.keepIn K (.ref f) = true
section
variable {X : Cx} {pins : List (Addr × Obj)} {σ : St} {H : Hp} {s : Shared} {a C dx : Addr} {fs : List (Str × V)} {f : Str} {v : V} {A : Around} {E : Value → Shared → Prop}
theorem Inv.made (I : Inv X pins σ H s) : Inv X pins σ (upd (upd H s.heap.objs.size (.own (s.heap.objs.size + 1))) (s.heap.objs.size + 1) (.ins C s.heap.objs.size []))
    { s with heap := (s.heap.push PySem.W.emptyDict).push (PySem.W.instObj C s.heap.objs.size) } := by
  have e1 : (s.heap.push PySem.W.emptyDict).get? s.heap.objs.size = some PySem.W.emptyDict := Heap.get?_push_size s.heap rfl
  have e2 : ((s.heap.push PySem.W.emptyDict).push (PySem.W.instObj C s.heap.objs.size)).get? (s.heap.objs.size + 1) = some (PySem.W.instObj C s.heap.objs.size) := by
    have := Heap.get?_push_size (s.heap.push PySem.W.emptyDict) (o := PySem.W.instObj C s.heap.objs.size) rfl
    rwa [Heap.size_push] at this
  have e3 : (s.heap.push PySem.W.emptyDict).Ns s.heap.objs.size (fun _ => none) := ⟨PySem.W.emptyDict, #[], _, e1, rfl, (fun e he => absurd he (by simp)), fun _ => rfl⟩
  have I1 := I.laid (a := s.heap.objs.size) (o := .own (s.heap.objs.size + 1)) (h' := s.heap.push PySem.W.emptyDict) (t' := s.toks) (fun b u q => Heap.get?_push_of_some _ q) (Nat.le_refl _) ⟨_, e1⟩
  refine I1.laid (a := s.heap.objs.size + 1) (o := .ins C s.heap.objs.size []) (t' := s.toks) (fun b u q => Heap.get?_push_of_some _ q) (Nat.le_of_eq (Heap.size_push _ _)) ?_
  have ne : s.heap.objs.size ≠ s.heap.objs.size + 1 := Nat.ne_of_lt (Nat.lt_succ_self _)
  refine ⟨by rw [upd_ne ne, upd_same], Nat.zero_le _, ne, e2, fun _ => none, (Heap.Ns1.of_empty e3).at fun o q => Heap.get?_push_of_some _ q, fun _ => True.intro, fun y hy => absurd rfl hy⟩
end
section
variable {X : Cx} {o e value : Expr} {f : Str} {pos pos' tpos : Pos} {ta tv : TE}
end
section
variable {X : Cx} {pins : List (Addr × Obj)} {σ : St} {H : Hp} {s : Shared} {A : Around} {E : Value → Shared → Prop} {Q : Value → Shared → Prop} {c : Value} {b : Bool}
inductive TyOf (K : PySem.W.Frag) (H : Hp) : V → Value → Prop where
  | non : TyOf K H .non (.type "NoneType")
  | bl (x : Bool) : TyOf K H (.bl x) (.type "bool")
  | int (i : Int) : TyOf K H (.int i) (.type "int")
  | str (x : Str) : TyOf K H (.str x) (.type "str")
  | flt (x : UInt64) : TyOf K H (.flt x) (.type "float")
  | lst {a : Addr} {xs : List V} (e : H a = some (.lst xs)) : TyOf K H (.ref a) (.type "list")
  | frz {a : Addr} {o : Obj} {xs : List V} (e : H a = some (.frz o (.lst xs))) : TyOf K H (.ref a) (.type "list")
  | tup {a : Addr} {xs : List V} (e : H a = some (.tup xs)) : TyOf K H (.ref a) (.type "tuple")
  | dK {a : Addr} {kvs : List (Key × V)} {ep : Nat} (e : H a = some (.dK kvs ep)) : TyOf K H (.ref a) (.type "dict")
  | dT {a : Addr} {kvs : List (List Key × V)} (e : H a = some (.dT kvs)) : TyOf K H (.ref a) (.type "dict")
  | ins {a C dx : Addr} {fs : List (Str × V)} (e : H a = some (.ins C dx fs)) (cl : Cls K C) (ha : PySem.W.findIn K (.ref C) "__class__" = some (some (.builtin "object.__class__")))
      (hn : PySem.W.specialIn K (.builtin "object.__class__") "__get__" = some (some (.builtin "getset_descriptor.__get__"))) (htk : PySem.W.takesIn K (.builtin "object.__class__") = some true)
      (hm : PySem.W.mroIn K C (.type "object") = some true) : TyOf K H (.ref a) (.ref C)
end
end L2
namespace L2
open PySem PySem.Spec PyProof.Rows
structure Room (k : Nat) (A : Around) : Prop where
  hd : A.handled = none
  dp : A.depth + 3 * k + 5 < recursionLimit
  un : A.units + 16 * k + 200 < cLine
theorem Room.mono {j k : Nat} {A : Around} (r : Room k A) (h : j ≤ k) : Room j A := ⟨r.hd, by have := r.dp; omega, by have := r.un; omega⟩
theorem Room.deeper {k : Nat} {A : Around} (r : Room (k + 1) A) (env : Env) : Room k (A.deeper env) :=
  ⟨r.hd, by have := r.dp; show A.depth + 1 + 3 * k + 5 < _; omega, by have := r.un; show A.units + 3 + 16 * k + 200 < _; omega⟩
theorem Room.in1 {k : Nat} {A : Around} (r : Room (k + 1) A) : Room k A.in1 :=
  ⟨r.hd, by have := r.dp; show A.depth + 3 * k + 5 < _; omega, by have := r.un; show A.units + 1 + 16 * k + 200 < _; omega⟩
theorem Room.depth {k : Nat} {A : Around} (r : Room k A) : A.depth < recursionLimit := by have := r.dp; omega
theorem Room.units {k : Nat} {A : Around} (r : Room k A) : A.units + 64 < cLine := by have := r.un; omega
theorem Room.units0 {k : Nat} {A : Around} (r : Room k A) : A.units < cLine := by have := r.un; omega
noncomputable def tNil : TA := fun _ H Q => Q [] H
noncomputable def tCons (ta : TE) (tr : TA) : TA := fun σ H Q => ta σ H fun x H1 => tr σ H1 fun xs H2 => Q (x :: xs) H2
section
variable {X : Cx} {e : Expr} {es : List Expr} {te : TE} {t : TA} {pos : Pos}
theorem pa_nil : PA X [] tNil := fun _ _ _ _ H Q I h => Calls.spliced_nil ⟨[], H, I, .nil, h⟩
theorem pa_cons (ha : PE X e te) (hr : PA X es t) (hs : starEach (e :: es) X.env = (false, eval e X.env) :: starEach es X.env := by rfl) : PA X (e :: es) (tCons te t) := by
  intro pos pins s σ H Q I h
  rw [hs]
  show wpAny _ _ (spliced ((false, eval e X.env) :: backTo pos (starEach es X.env))) _ _ s
  refine Calls.spliced_cons (thn (ha pins s σ H _ I h) fun u s1 ⟨x, H1, I1, r1, q1⟩ => ?_)
  exact thn (hr pos pins s1 σ H1 _ I1 q1) fun us s2 ⟨xs, H2, I2, r2, q2⟩ => ⟨x :: xs, H2, I2, .cons r1 r2, q2⟩
noncomputable def tTup (t : TA) : TE := fun σ H Q => t σ H fun xs H1 => xs.length ≤ sizeLine ∧ ∀ p, H1 p = none → Q (.ref p) (upd H1 p (.tup xs))
noncomputable def tLst (t : TA) : TE := fun σ H Q => t σ H fun xs H1 => xs.length ≤ sizeLine ∧ ∀ p, H1 p = none → Q (.ref p) (upd H1 p (.lst xs))
theorem pe_tup {x1} (h : PA X es t) : PE X (.Tuple es x1 pos) (tTup t) := by
  intro pins s σ H Q I hq
  refine wpAny_Tuple_spliced (thn (h pos pins s σ H _ I hq) fun us s1 ⟨xs, H1, I1, r, z, q⟩ => ⟨by rw [← r.length]; exact z, ?_⟩)
  have hf : H1 s1.heap.objs.size = none := I1.hok.fresh (Nat.le_refl _)
  refine ⟨.ref s1.heap.objs.size, upd H1 s1.heap.objs.size (.tup xs), I1.laid (t' := s1.toks) (fun b u e => Heap.get?_push_of_some _ e) (Nat.le_refl _) ?_, rfl, q _ hf⟩
  exact ⟨z, us, r, ⟨_, Heap.get?_push_size _ rfl, rfl, _, rfl⟩⟩
theorem pe_lst (h : PA X es t) : PE X (.List es pos) (tLst t) := by
  intro pins s σ H Q I hq
  refine wpAny_List_spliced (thn (h pos pins s σ H _ I hq) fun us s1 ⟨xs, H1, I1, r, z, q⟩ => ⟨by rw [← r.length]; exact z, ?_⟩)
  have hf : H1 s1.heap.objs.size = none := I1.hok.fresh (Nat.le_refl _)
  refine ⟨.ref s1.heap.objs.size, upd H1 s1.heap.objs.size (.lst xs), I1.laid (t' := s1.toks) (fun b u e => Heap.get?_push_of_some _ e) (Nat.le_refl _) ?_, rfl, q _ hf⟩
  exact ⟨z, us, 0, r, Heap.get?_push_size _ rfl⟩
end
noncomputable abbrev Sp := List V → Hp → VK → XK → Prop
noncomputable abbrev CXT := List Env → Hp → Shared → XK → Value → Shared → Prop
structure Env0 (P : Program) (w : World) (K : PySem.W.Frag) (mg : Str → Option Value) (base : Heap) (A : Around) (outer : List Env) (s : Shared) (H : Hp) : Prop where
  frames : A.frames = some outer
  mod : Mod K mg base
  bs : ∀ b o, base.get? b = some o → s.heap.get? b = some o ∧ H b = none
  bsz : base.objs.size ≤ s.heap.objs.size
  funs : s.heap.FunFrames base outer
  frf : ∀ b ∈ frs outer, H b = none
  hok : HOk P w H s.heap
  bare : AllBare s.gens
noncomputable def CE (outer : List Env) (P : Program) (w : World) (H : Hp) (s : Shared) (Q : VK) (u : Value) (s' : Shared) : Prop :=
  ∃ v H', s'.os = s.os ∧ AllBare s'.gens ∧ Un (frs outer) [] H H' s.heap s'.heap ∧ HOk P w H' s'.heap ∧ RelV v u ∧ Q v H'
noncomputable def CR (CX : CXT) (outer : List Env) (P : Program) (w : World) (H : Hp) (s : Shared) (Q : VK) (E : XK) (r : Result) (s' : Shared) : Prop :=
  match r with
  | .ok (.ret u) => CE outer P w H s Q u s'
  | .ok _ => False
  | .error e => CX outer H s E e s'
structure FnOk (P : Program) (w : World) (K : PySem.W.Frag) (mg : Str → Option Value) (base : Heap) (CX : CXT) (k : Nat) (f : Addr) (fd : FuncData) (ps : List Str) (sp : Sp) : Prop where
  len : ∀ vs H Q E, sp vs H Q E → vs.length = ps.length
  run : ∀ (A : Around) (outer : List Env) (s : Shared) (H : Hp) (args : Args) (us : List Value) (vs : List V) (Q : VK) (E : XK), Room k A → Env0 P w K mg base A outer s H → BindsTo s fd args (ps.zip us) → Vals vs us → sp vs H Q E →
    codeAny (model P w) A (.call (.ref f) args) (CR CX outer P w H s Q E) s
theorem FnOk.mono {P : Program} {w : World} {K : PySem.W.Frag} {mg : Str → Option Value} {base : Heap} {CX : CXT} {j k : Nat} {f : Addr} {fd : FuncData} {ps : List Str} {sp : Sp} (F : FnOk P w K mg base CX j f fd ps sp) (h : j ≤ k) :
    FnOk P w K mg base CX k f fd ps sp := ⟨F.len, fun A outer s H args us vs Q E hr => F.run A outer s H args us vs Q E (hr.mono h)⟩
theorem FnOk.imp {P : Program} {w : World} {K : PySem.W.Frag} {mg : Str → Option Value} {base : Heap} {CX : CXT} {k : Nat} {f : Addr} {fd : FuncData} {ps : List Str} {sp sp' : Sp} (F : FnOk P w K mg base CX k f fd ps sp)
    (h : ∀ vs H Q E, sp' vs H Q E → sp vs H Q E) : FnOk P w K mg base CX k f fd ps sp' :=
  ⟨fun vs H Q E q => F.len vs H Q E (h _ _ _ _ q), fun A outer s H args us vs Q E hr he hb hv hs => F.run A outer s H args us vs Q E hr he hb hv (h _ _ _ _ hs)⟩
theorem Env0.in1 {P : Program} {w : World} {K : PySem.W.Frag} {mg : Str → Option Value} {base : Heap} {A : Around} {outer : List Env} {s : Shared} {H : Hp} (e : Env0 P w K mg base A outer s H) :
    Env0 P w K mg base A.in1 outer s H := ⟨e.frames, e.mod, e.bs, e.bsz, e.funs, e.frf, e.hok, e.bare⟩
section
variable {X : Cx} {pins : List (Addr × Obj)} {σ : St} {H : Hp} {s s' : Shared}
theorem Inv.env0 (I : Inv X pins σ H s) : Env0 X.prog X.w X.K X.mg X.base X.A X.stack s H :=
  ⟨I.ok.frames, I.ok.mod, I.bs, Nat.le_trans I.ok.bsz I.sz, I.stack, I.stkFree, I.hok, I.bare⟩
theorem Inv.after {Q : VK} {u : Value} (I : Inv X pins σ H s) (h : CE X.stack X.prog X.w H s Q u s') : EP X pins σ Q u s' := by
  obtain ⟨v, H', os, bare, un, hok, r, q⟩ := h
  obtain ⟨hh, g, d, t, os'⟩ := s'
  obtain rfl : os' = s.os := os
  exact ⟨v, H', I.call (h' := hh) (g' := g) (d' := d) (t' := t) (ch := []) un hok bare (fun b z => absurd z (by simp)), r, q⟩
end
noncomputable def tCall (sp : Sp) (dvs : List V) (E : XK) (t : TA) : TE := fun σ H Q => t σ H fun vs H1 => sp (vs ++ dvs) H1 Q E
noncomputable def Binds (K : PySem.W.Frag) (fd : FuncData) (ps : List Str) (ds : List Value) : Prop :=
  ∀ (s : Shared) (us : List Value), K.In s.heap → (us ++ ds).length = ps.length → BindsTo s fd ⟨us, []⟩ (ps.zip (us ++ ds))
theorem Binds.all {K : PySem.W.Frag} {fd : FuncData} {ps : List Str} (h : ∀ us : List Value, us.length = ps.length → bindArgs fd ⟨us, []⟩ = pure (ps.zip us)) : Binds K fd ps [] := fun s us _ hl => by
  rw [List.append_nil] at hl ⊢
  exact .of_eq (h us hl)
noncomputable def Passes (CX : CXT) (X : Cx) (E : XK) : Prop := ∀ (pins : List (Addr × Obj)) (σ : St) (H : Hp) (s : Shared) (e : Value) (s' : Shared), Inv X pins σ H s → CX X.stack H s E e s' → X.xe e s'
section
variable {X : Cx} {CX : CXT} {k : Nat} {f C : Addr} {fd : FuncData} {ps : List Str} {sp : Sp} {dvs : List V} {ds : List Value} {E : XK} {x m : Str} {p pos apos : Pos} {e o : Expr} {es : List Expr} {ta : TE} {t : TA}
theorem run_fn {pins : List (Addr × Obj)} {σ : St} {H : Hp} {s : Shared} {Q : VK} {us : List Value} {vs : List V} (F : FnOk X.prog X.w X.K X.mg X.base CX k f fd ps sp) (hr : Room k X.A) (hb : Binds X.K fd ps ds) (hd : Vals dvs ds) (hx : Passes CX X E)
    (I : Inv X pins σ H s) (r : Vals vs us) (h : sp (vs ++ dvs) H Q E) : wpAny (model X.prog X.w) X.A (call (.ref f) us) (EP X pins σ Q) X.xe s := by
  have r2 : Vals (vs ++ dvs) (us ++ ds) := r.append hd
  have hl : (us ++ ds).length = ps.length := by rw [← r2.length]; exact F.len _ _ _ _ h
  refine wpAny_call (codeAny_mono (F.run X.A X.stack s H ⟨us, []⟩ (us ++ ds) (vs ++ dvs) Q E hr I.env0 (hb s us I.kIn hl) r2 h) fun r s' hq => ?_)
  cases r with
  | error e => exact hx pins σ H s e s' I hq
  | ok fl =>
    cases fl with
    | ret u => exact I.after hq
    | next => exact False.elim hq
    | brk => exact False.elim hq
    | cont => exact False.elim hq
theorem pe_call (F : FnOk X.prog X.w X.K X.mg X.base CX k f fd ps sp) (hr : Room k X.A) (hg : Gl X x) (hm : X.mg x = some (.ref f)) (hk : PySem.W.keepIn X.K (.ref f) = true) (hb : Binds X.K fd ps ds) (hd : Vals dvs ds) (hx : Passes CX X E)
    (ha : PA X (e :: es) t) (hdb : (x == ("__debug__" : Str)) = false := by decide) (he : starEach (e :: es) X.env = (false, eval e X.env) :: starEach es X.env := by rfl) (hpl : (backTo pos (starEach es X.env)).any (·.1) = false := by rfl) :
    PE X (.Call (.Name x p) (e :: es) [] pos) (tCall sp dvs E t) := by
  intro pins s σ H Q I h
  refine wpAny_Call_Name_kw (ld_glob I hg hm ?_ hdb)
  refine PySem.W.callWith_K (h₀ := X.base) I.ok.mod.kin hk (thn (ha pos pins s σ H _ I h) fun us s1 ⟨vs, H1, I1, r, q⟩ => ⟨I1.kIn, ?_⟩) he hpl
  exact run_fn F hr hb hd hx I1 r q
structure Mk (K : PySem.W.Frag) (C f : Addr) : Prop where
  makes : PySem.W.makesIn K C = true
  init : PySem.W.findIn K (.ref C) "__init__" = some (some (.ref f))
  fn : PySem.W.isFn K (.ref f) = true
  kp : PySem.W.keepIn K (.ref C) = true
end
noncomputable def PK (X : Cx) (kws : List Keyword) (t : TA) : Prop :=
  ∀ (pos : Pos) (pins : List (Addr × Obj)) (s : Shared) (σ : St) (H : Hp) (Q : List V → Hp → Prop), Inv X pins σ H s → t σ H Q → wpAny (model X.prog X.w) X.A (evalAll ((backToKw pos (keywordEach kws X.env)).map (·.2))) (AP X pins σ Q) X.xe s
section
variable {X : Cx} {CX : CXT} {k : Nat} {f C : Addr} {fd : FuncData} {ps ks : List Str} {sp : Sp} {E : XK} {x m : Str} {p pos apos kpos : Pos} {e o : Expr} {es : List Expr} {kws : List Keyword} {te ta : TE} {t tk : TA} {nm : Option Str}
structure KBinds (K : PySem.W.Frag) (fd : FuncData) (ps ks : List Str) (g : List Value → List Value → List Value) (gV : List V → List V → List V) : Prop where
  to : ∀ (s : Shared) (us ws : List Value), K.In s.heap → (g us ws).length = ps.length → BindsTo s fd ⟨us, ks.zip ws⟩ (ps.zip (g us ws))
  rel : ∀ {vs : List V} {us : List Value} {zs : List V} {ws : List Value}, Vals vs us → Vals zs ws → Vals (gV vs zs) (g us ws)
variable {g : List Value → List Value → List Value} {gV : List V → List V → List V}
end
structure FnScope (N P : List Str) (sc : Scope) : Prop where
  kind : sc.kind = .function
  co : sc.isCoroutine = false
  gen : sc.isGenerator = false
  nd : N.Nodup
  pre : N.take P.length = P
  par : ∀ x ∈ P, sc.names.lookup x = some .local ∨ sc.names.lookup x = some .cell
  nofree : ∀ y ∈ sc.names, y.2 ≠ .free
theorem bindL_out {kindOf : Str → Option NameKind} {x : Str} : ∀ {binds : List (Str × Value)} {m : Str → Option Value}, (∀ v, (x, v) ∉ binds) → bindL kindOf binds m x = m x
  | [], _, _ => rfl
  | (n, v) :: r, m, h => by
    unfold bindL
    rw [bindL_out fun w hw => h w (List.mem_cons_of_mem _ hw)]
    split
    · have : x ≠ n := by rintro rfl; exact h v List.mem_cons_self
      simp [this]
    · rfl
theorem bindC_out {kindOf : Str → Option NameKind} {x : Str} : ∀ {binds : List (Str × Value)} {m : Str → Option Value}, (∀ v, (x, v) ∉ binds) → bindC kindOf binds m x = m x
  | [], _, _ => rfl
  | (n, v) :: r, m, h => by
    unfold bindC
    rw [bindC_out fun w hw => h w (List.mem_cons_of_mem _ hw)]
    split
    · rfl
    · have : x ≠ n := by rintro rfl; exact h v List.mem_cons_self
      simp [this]
theorem bindL_get {kindOf : Str → Option NameKind} {x : Str} {v : Value} : ∀ {P : List Str} {vs : List Value} {i : Nat} {m : Str → Option Value}, P.Nodup → P[i]? = some x → vs[i]? = some v → kindOf x = some .local →
    bindL kindOf (P.zip vs) m x = some v
  | [], _, _, _, _, h, _, _ => by simp at h
  | _ :: _, [], _, _, _, _, h, _ => by simp at h
  | p :: P, w :: vs, 0, m, nd, h1, h2, hk => by
    simp at h1 h2; subst h1; subst h2
    show bindL kindOf ((p, w) :: P.zip vs) m p = _
    unfold bindL
    rw [bindL_out fun v hv => (List.nodup_cons.mp nd).1 (List.of_mem_zip hv).1, if_pos hk]
    simp
  | p :: P, w :: vs, i + 1, m, nd, h1, h2, hk => by
    show bindL kindOf ((p, w) :: P.zip vs) m x = _
    unfold bindL
    exact bindL_get (i := i) (List.nodup_cons.mp nd).2 (by simpa using h1) (by simpa using h2) hk
theorem bindC_get {kindOf : Str → Option NameKind} {x : Str} {v : Value} : ∀ {P : List Str} {vs : List Value} {i : Nat} {m : Str → Option Value}, P.Nodup → P[i]? = some x → vs[i]? = some v → kindOf x ≠ some .local →
    bindC kindOf (P.zip vs) m x = some v
  | [], _, _, _, _, h, _, _ => by simp at h
  | _ :: _, [], _, _, _, _, h, _ => by simp at h
  | p :: P, w :: vs, 0, m, nd, h1, h2, hk => by
    simp at h1 h2; subst h1; subst h2
    show bindC kindOf ((p, w) :: P.zip vs) m p = _
    unfold bindC
    rw [bindC_out fun v hv => (List.nodup_cons.mp nd).1 (List.of_mem_zip hv).1, if_neg hk]
    simp
  | p :: P, w :: vs, i + 1, m, nd, h1, h2, hk => by
    show bindC kindOf ((p, w) :: P.zip vs) m x = _
    unfold bindC
    exact bindC_get (i := i) (List.nodup_cons.mp nd).2 (by simpa using h1) (by simpa using h2) hk
noncomputable def start (N : List Str) (vs : List V) : St := vs.map some ++ List.replicate (N.length - vs.length) none
noncomputable def cxOf (CX : CXT) (P : Program) (w : World) (K : PySem.W.Frag) (mg : Str → Option Value) (base : Heap) (N : List Str) (qual : Str) (scope : Scope) (f : Addr) (cd : Value) (A : Around) (outer : List Env) (s : Shared) (H : Hp) (E : XK) : Cx where
  prog := P
  w := w
  K := K
  mg := mg
  base := base
  A := A.deeper (envOfC qual scope s.heap.objs.size f cd)
  N := N
  s₀ := s
  H₀ := H
  env := envOfC qual scope s.heap.objs.size f cd
  outer := outer
  stack := envOfC qual scope s.heap.objs.size f cd :: outer
  ex := []
  calm := true
  fn := fun _ => true
  pn := []
  xe := fun e s' => wpAny (model P w) (A.deeper (envOfC qual scope s.heap.objs.size f cd)) (leaving (envOfC qual scope s.heap.objs.size f cd) e) (fun _ s'' => CX outer H s E e s'') (fun e' s'' => CX outer H s E e' s'') s'
theorem cell_has {sc : Scope} {n : Nat} {x : Str} (h : sc.names.lookup x = some .cell) : ∃ c, (cellsFrom n sc.names []).lookup x = some c := by
  have q := PySem.W.cellsFrom_some sc.names n [] (.inl h)
  exact Option.isSome_iff_exists.mp q
theorem inv_start {CX : CXT} {P : Program} {w : World} {K : PySem.W.Frag} {mg : Str → Option Value} {base : Heap} {N ps : List Str} {qual : Str} {scope : Scope} {f : Addr} {cd : Value} {A : Around} {outer : List Env} {s s1 : Shared} {H : Hp} {E : XK} {us : List Value} {vs : List V}
    (S : FnScope N ps scope) (hd : A.handled = none) (e0 : Env0 P w K mg base A outer s H) (hl : vs.length = ps.length) (r : Vals vs us)
    (x : InCallC s s.heap.objs.size (bindL (envOfC qual scope s.heap.objs.size f cd).kindOf (ps.zip us) fun _ => none) (cellsFrom (s.heap.objs.size + 1) scope.names []) (bindC (envOfC qual scope s.heap.objs.size f cd).kindOf (ps.zip us) fun _ => none) s1) :
    Inv (cxOf CX P w K mg base N qual scope f cd A outer s H E) [] (start N vs) H s1 := by
  have hpl : ps.length ≤ N.length := by have := congrArg List.length S.pre; rw [List.length_take] at this; omega
  obtain ⟨h1, tk, rfl, hk⟩ := x.done
  have noA : ∀ b : Addr, b ∉ (cxOf CX P w K mg base N qual scope f cd A outer s H E).ex := fun b z => absurd (show b ∈ ([] : List Addr) from z) (by simp)
  refine ⟨⟨e0.mod, S.kind, rfl, rfl, Nat.le_refl _, fun y z c h1 h2 => ?_, fun y hy => ?_, fun y c _ h => ?_, fun _ => hd, Around.frames_deeper e0.frames, .inr ⟨rfl, rfl⟩, fun b z => absurd z (noA b), e0.bs, e0.bsz, fun b _ _ => noA b, fun b z => absurd z (noA b), e0.funs, e0.frf⟩,
    rfl, e0.bare, Un.kept hk, ⟨_, x.toInCall.ns, fun i y v h1 h2 h3 => ?_⟩, fun y c h => ⟨_, x.cell y c h⟩, e0.hok.fresh (Nat.le_refl _), fun y c h => ?_, fun p hp => absurd (show p ∈ ([] : List (Addr × Obj)) from hp) (by simp), e0.hok.kept hk, ?_⟩
  · exact name_of_addr x.apart (PySem.mem_of_lookup h1) (PySem.mem_of_lookup h2)
  · have hy : scope.names.lookup y = some .cell ∨ scope.names.lookup y = some .free := hy
    rcases hy with hy | hy
    · exact cell_has hy
    · exact absurd rfl (S.nofree _ (PySem.mem_of_lookup hy))
  · exact Nat.le_of_lt (x.above y c (PySem.mem_of_lookup h))
  · have hi : i < vs.length := by
      unfold start at h2
      by_cases hi : i < vs.length
      · exact hi
      · rw [List.getElem?_append_right (by simpa using hi)] at h2
        rw [List.getElem?_replicate] at h2
        split at h2 <;> cases h2
    have ha : vs[i]? = some v := by
      unfold start at h2
      rw [List.getElem?_append_left (by simpa using hi), List.getElem?_map] at h2
      cases e : vs[i]? with
      | none => rw [e] at h2; cases h2
      | some a => rw [e] at h2; cases h2; rfl
    obtain ⟨u, hu, rv⟩ := r.get ha
    have hp : ps[i]? = some y := by
      rw [← S.pre, List.getElem?_take_of_lt (by omega)]; exact h1
    have ndP : ps.Nodup := by rw [← S.pre]; exact S.nd.sublist (List.take_sublist _ _)
    refine ⟨u, rv, ?_⟩
    rcases S.par y (List.mem_of_getElem? hp) with k | k
    · exact .inl ⟨k, bindL_get ndP hp hu k⟩
    · obtain ⟨c, e⟩ := cell_has (n := s.heap.objs.size + 1) k
      refine .inr ⟨.inl k, c, e, ?_⟩
      have q := x.cell y c e
      rw [bindC_get ndP hp hu (by show scope.names.lookup y ≠ _; rw [k]; decide)] at q
      exact q
  · exact e0.hok.fresh (Nat.le_of_lt (x.above y c (PySem.mem_of_lookup h)))
  · unfold start
    show _ = N.length
    rw [List.length_append, List.length_map, List.length_replicate]
    omega
theorem fn_of {CX : CXT} {P : Program} {w : World} {K : PySem.W.Frag} {mg : Str → Option Value} {base : Heap} {k : Nat} {f : Addr} {name qual : Str} {params : Arguments} {body : List Stmt} {scope : Scope} {dV kV doc pm cdv ct oc : Value} {an od : Option Addr}
    {osl : Array (Option Value)} {N ps : List Str} {sp : Sp} (lk : K.lookup f = some ⟨oc, od, .func (PySem.W.fnOf name qual params body scope dV kV doc pm an cdv ct), osl⟩) (hcd : PySem.W.codeIn K cdv qual = true) (S : FnScope N ps scope)
    (len : ∀ vs H Q E, sp vs H Q E → vs.length = ps.length)
    (hbody : ∀ (A : Around) (outer : List Env) (s : Shared) (H : Hp) (vs : List V) (Q : VK) (E : XK), Room k (A.deeper (envOfC qual scope s.heap.objs.size f cdv)) → sp vs H Q E →
      ∃ t, PSs (cxOf CX P w K mg base N qual scope f cdv A outer s H E) body t ∧ t { nx := fun _ H' => Q .non H', rt := Q } (start N vs) H) :
    FnOk P w K mg base CX (k + 1) f (PySem.W.fnOf name qual params body scope dV kV doc pm an cdv ct) ps sp := by
  refine ⟨len, fun A outer s H args us vs Q E hr e0 hb r hsp => ?_⟩
  have hl := len _ _ _ _ hsp
  have KX : K.In s.heap := e0.mod.kin.keeps fun b o e => (e0.bs b o e).1
  have lim : s.heap.NoLimit := e0.mod.nolimit.keeps fun b o e => (e0.bs b o e).1
  have hkind : ∀ y ∈ ps.zip us, scope.names.lookup y.1 = some .local ∨ (scope.names.lookup y.1 = some .cell ∧ ((cellsFrom (s.heap.objs.size + 1) scope.names []).lookup y.1).isSome = true) := fun ⟨n, v⟩ hy => by
    rcases S.par n (List.of_mem_zip hy).1 with q | q
    · exact .inl q
    · exact .inr ⟨q, PySem.W.cellsFrom_some _ _ _ (.inl q)⟩
  refine codeAny_call_function hr.depth (KX _ _ lk) rfl S.co S.gen rfl (PySem.W.codeRec_of KX hcd) (hb _ _ _ _ ?_)
  refine wpAny_newFunctionEnv_cells S.kind hkind fun env he s1 x => ?_
  subst he
  refine ⟨lim.keeps x.toInCall.keep, codeAny_func ?_⟩
  obtain ⟨t, ht, hq⟩ := hbody A outer s H vs Q E (hr.deeper _) hsp
  have I : Inv (cxOf CX P w K mg base N qual scope f cdv A outer s H E) [] (start N vs) H s1 := inv_start S hr.hd e0 hl r x
  refine wpAny_mono (ht [] s1 (start N vs) H _ I hq) (fun fl s' hs => ?_) fun e s' hs => hs
  have fin : ∀ {σ' : St} {H' : Hp} {v : V} {u : Value}, Inv (cxOf CX P w K mg base N qual scope f cdv A outer s H E) [] σ' H' s' → RelV v u → Q v H' → CE outer P w H s Q u s' :=
    fun {σ' H' v u} J rv q => ⟨v, H', J.os, J.bare, J.base, J.hok, rv, q⟩
  cases fl with
  | ret u =>
    obtain ⟨v, σ', H', J, rv, q⟩ := hs
    exact fin J rv q
  | next =>
    obtain ⟨σ', H', J, q⟩ := hs
    exact fin (v := V.non) (u := Value.none) J rfl q
  | brk =>
    obtain ⟨_, _, _, q⟩ := hs
    exact False.elim q
  | cont =>
    obtain ⟨_, _, _, q⟩ := hs
    exact False.elim q
end L2
namespace L2
open PySem PySem.Spec PyProof.Rows
section
variable {X : Cx} {x : Str} {p pos : Pos} {e : Expr} {es : List Expr} {t : TA} {id T : String} {r : List V → Hp → VK → Prop}
noncomputable def tCB (r : List V → Hp → VK → Prop) (t : TA) : TE := fun σ H Q => t σ H fun vs H1 => r vs H1 Q
theorem pe_callB (hc : CallR X (.builtin id) r) (hg : Gl X x) (hm : X.mg x = none) (hv : bootBuiltins x = some (.builtin id)) (ha : PA X (e :: es) t) (hn : x ≠ "__name__" := by decide) (hdb : (x == ("__debug__" : Str)) = false := by decide)
    (he : starEach (e :: es) X.env = (false, eval e X.env) :: starEach es X.env := by rfl) (hpl : (backTo pos (starEach es X.env)).any (·.1) = false := by rfl) : PE X (.Call (.Name x p) (e :: es) [] pos) (tCB r t) := by
  intro pins s σ H Q I h
  refine wpAny_Call_Name_kw (ld_blt I hg hm hv ?_ hn hdb)
  exact PyProof.Rows.callWith_builtin1 (thn (ha pos pins s σ H _ I h) fun us s1 ⟨vs, H1, I1, r1, q1⟩ => hc pins s1 σ H1 vs us Q I1 r1 q1) he hpl
theorem pe_callTy (hc : CallR X (.type T) r) (hg : Gl X x) (hm : X.mg x = none) (hv : bootBuiltins x = some (.type T)) (ha : PA X (e :: es) t) (hn : x ≠ "__name__" := by decide) (hdb : (x == ("__debug__" : Str)) = false := by decide)
    (he : starEach (e :: es) X.env = (false, eval e X.env) :: starEach es X.env := by rfl) (hpl : (backTo pos (starEach es X.env)).any (·.1) = false := by rfl) : PE X (.Call (.Name x p) (e :: es) [] pos) (tCB r t) := by
  intro pins s σ H Q I h
  refine wpAny_Call_Name_kw (ld_blt I hg hm hv ?_ hn hdb)
  exact PyProof.Rows.callWith_type1 (thn (ha pos pins s σ H _ I h) fun us s1 ⟨vs, H1, I1, r1, q1⟩ => hc pins s1 σ H1 vs us Q I1 r1 q1) he hpl
end
end L2
namespace HT
open PySem PyProof.Rows
section
open PySem.SeqAt
open PySem.AutoSeq1 (wpAny_loadPart')
open PySem.MeetsSeq PySem.MeetsSeq2 PySem.MeetsSeq3
end
section
variable {prog : Program} {w : World} {A : Around} {E : Value → Shared → Prop} {s : Shared}
theorem cat_tup {t b : Addr} {vs ws : List Value} {Q : Value → Shared → Prop} (ht : IsTup s.heap t vs.toArray) (hb : IsTup s.heap b ws.toArray) (hv : vs ≠ [])
    (h1 : ws = [] → Q (.ref t) s) (h2 : ws ≠ [] → Q (.ref s.heap.objs.size) { s with heap := s.heap.push { cls := .type "tuple", data := .seq (vs ++ ws).toArray } })
    (hsz : vs.length + ws.length ≤ sizeLine) : wpAny (model prog w) A (binaryOp .Add (.ref t) (.ref b)) Q E s := by
  obtain ⟨⟨cls, dd, data, sl⟩, ho, hc, n, hd⟩ := id ht
  obtain ⟨⟨cls2, dd2, data2, sl2⟩, ho2, hc2, n2, hd2⟩ := id hb
  simp only at hc hd hc2 hd2
  subst hc hd hc2 hd2
  have e : vs.toArray ++ ws.toArray = (vs ++ ws).toArray := by simp
  by_cases hw : ws = []
  · exact concat_meets ⟨_, ho, rfl⟩ ⟨_, ho2, rfl⟩ noFill_tuple_add seq_tuple_add PySem.F.slot_tuple_add PySem.F.entry_tuple_add (PySem.F.args_tuple_add_2 _ _)
      (tuple_addW1 t b vs.toArray ws.toArray n n2 dd dd2 sl sl2 (by simpa using hv) (by simp [hw])) ⟨ho, ho2, h1 hw⟩
  · refine concat_meets ⟨_, ho, rfl⟩ ⟨_, ho2, rfl⟩ noFill_tuple_add seq_tuple_add PySem.F.slot_tuple_add PySem.F.entry_tuple_add (PySem.F.args_tuple_add_2 _ _)
      (tuple_addW2 t b vs.toArray ws.toArray n n2 dd dd2 sl sl2 (by simpa using hv) (by simpa using hw) (by rw [List.size_toArray, List.size_toArray]; exact hsz)) ⟨ho, ho2, ?_⟩
    rw [e]
    exact h2 hw
noncomputable def sIx (n d : Nat) : Option Int → Nat
  | none => d
  | some v => if v < 0 then (v + (n : Int)).toNat else min v.toNat n
theorem sIx_le (n d : Nat) (hd : d ≤ n) (o : Option Int) : sIx n d o ≤ n := by
  cases o with
  | none => exact hd
  | some v =>
    show (if v < 0 then (v + (n : Int)).toNat else min v.toNat n) ≤ n
    by_cases hv : v < 0
    · rw [if_pos hv]; omega
    · rw [if_neg hv]; exact Nat.min_le_right _ _
theorem clip_eq (v : Int) (n d : Nat) : (if v < 0 then max (v + (n : Int)) 0 else min v (n : Int)) = ((sIx n d (some v) : Nat) : Int) := by
  show (if v < 0 then max (v + (n : Int)) 0 else min v (n : Int)) = (((if v < 0 then (v + (n : Int)).toNat else min v.toNat n) : Nat) : Int)
  by_cases hv : v < 0
  · simp only [if_pos hv]; omega
  · simp only [if_neg hv]; omega
theorem adjust_gen (lo hi : Option Int) (n : Nat) : Builtin.Slice.sliceAdjust lo hi 1 (n : Int) = (((sIx n 0 lo : Nat) : Int), ((sIx n n hi : Nat) : Int)) := by
  have h1 : ¬ ((1 : Int) < 0) := by omega
  unfold Builtin.Slice.sliceAdjust
  simp only [h1, if_false]
  refine Prod.ext ?_ ?_
  · cases lo with
    | none => rfl
    | some v => exact clip_eq v n 0
  · cases hi with
    | none => rfl
    | some v => exact clip_eq v n n
theorem places_gen (i j : Nat) : Builtin.Slice.slicePlaces (i : Int) (j : Int) 1 = j - i := by
  unfold Builtin.Slice.slicePlaces
  have h1 : (1 : Int) > 0 := by omega
  simp only [h1, if_true, Int.ediv_one]
  split <;> omega
theorem slicePart_ {v : Value} {o : Option Int} {Q : Option Int → Shared → Prop} (p : IsPart v o) (h : Q o s) : wpAny (model prog w) A (Builtin.Slice.slicePartIndex v) Q E s := by
  cases p with
  | none => exact slicePart_none h
  | int i t => exact slicePart_int h
theorem sliceApplied_gen {sl : Addr} {vl vu : Value} {lo hi : Option Int} {n : Nat} {Q : Int × Int × Nat → Shared → Prop} (hs : s.heap.IsSliceOf sl vl vu .none) (pl : IsPart vl lo) (pu : IsPart vu hi)
    (h : Q (((sIx n 0 lo : Nat) : Int), 1, sIx n n hi - sIx n 0 lo) s) : wpAny (model prog w) A (Builtin.Slice.sliceApplied (.ref sl) (pure (n : Int))) Q E s := by
  obtain ⟨os, hos, hcs, hds⟩ := id hs
  unfold Builtin.Slice.sliceApplied Builtin.Slice.sliceFields
  refine wpAny_bind (wpAny_bind (wpAny_field hos hds (x := vl) rfl (wpAny_bind (wpAny_field hos hds (x := vu) rfl (wpAny_bind (wpAny_field hos hds (x := .none) rfl (wpAny_pure ?_)))))))
  refine wpAny_bind (slicePart_none ?_)
  show wpAny _ _ (if ((1 : Int) == 0) = true then _ else _) _ _ s
  rw [if_neg (by decide)]
  refine wpAny_bind (slicePart_ pl (wpAny_bind (slicePart_ pu (wpAny_bind (wpAny_pure ?_)))))
  show wpAny _ _ (match Builtin.Slice.sliceAdjust lo hi 1 (n : Int) with | (lo, hi) => pure (lo, (1 : Int), Builtin.Slice.slicePlaces lo hi 1)) _ _ s
  rw [adjust_gen lo hi n]
  show wpAny _ _ (pure (((sIx n 0 lo : Nat) : Int), (1 : Int), Builtin.Slice.slicePlaces ((sIx n 0 lo : Nat) : Int) ((sIx n n hi : Nat) : Int) 1)) _ _ s
  rw [places_gen]
  exact wpAny_pure h
theorem pick_gen (xs : Array Value) (i k : Nat) : ((List.range k).filterMap fun (m : Nat) => xs[((i : Int) + (m : Int) * 1).toNat]?).toArray = ((xs.toList.drop i).take k).toArray := by
  have e : (fun (m : Nat) => xs[((i : Int) + (m : Int) * 1).toNat]?) = fun m => xs[i + m]? := by
    funext m
    have : ((i : Int) + (m : Int) * 1).toNat = i + m := by omega
    rw [this]
  rw [e]
  have := pick_run xs i k
  rw [List.filterMap_map] at this
  have e2 : ((fun x => xs[x]?) ∘ fun x => i + x) = fun m => xs[i + m]? := rfl
  rw [e2] at this
  rw [this]
theorem getItem_tuple_cut {t sl : Addr} {items : Array Value} {vl vu : Value} {lo hi : Option Int} {Q : Value → Shared → Prop} (ht : IsTup s.heap t items) (hs : s.heap.IsSliceOf sl vl vu .none) (pl : IsPart vl lo) (pu : IsPart vu hi)
    (hw : ¬ (sIx items.size 0 lo = 0 ∧ sIx items.size items.size hi = items.size))
    (h : Q (.ref s.heap.objs.size) { s with heap := s.heap.push { cls := .type "tuple", data := .seq ((items.toList.drop (sIx items.size 0 lo)).take (sIx items.size items.size hi - sIx items.size 0 lo)).toArray } })
    (hsz : items.size ≤ sizeLine) : wpAny (model prog w) A (getItem (.ref t) (.ref sl)) Q E s := by
  have htake : sizeOk (.seq ((items.toList.drop (sIx items.size 0 lo)).take (sIx items.size items.size hi - sIx items.size 0 lo)).toArray) := by
    show ((items.toList.drop (sIx items.size 0 lo)).take (sIx items.size items.size hi - sIx items.size 0 lo)).toArray.size ≤ sizeLine
    rw [List.size_toArray, List.length_take, List.length_drop, Array.length_toList]
    omega
  have hj : sIx items.size items.size hi ≤ items.size := sIx_le _ _ (Nat.le_refl _) hi
  obtain ⟨os, hos, hcs, hds⟩ := id hs
  have hTs : s.TypeIs (.ref sl) "slice" := ⟨os, hos, hcs⟩
  unfold getItem
  try with_reducible refine wpAny_holding ?_
  first | refine wpAny_bind (wpAny_pure ?_) | skip
  refine wpAny_bind (wpAny_sequenceKey ht.typeIs (by decide) ?_)
  refine wpAny_bind (wpAny_callSpecial?_slot (name := Str.ofString "__getitem__") ht.typeIs PyProof.Rows.slot_tuple_getitem
    (wpAny_call_entry PyProof.Rows.slot_tuple_getitem ht.typeIs entry_tuple_getitem ?_ (args_tuple_getitem _ _)))
  show wpAny _ _ (Builtin.Tuple.tupleItemsOf (.ref t) >>= _) _ _ s
  refine wpAny_bind (tupleItemsOf_ ht ?_)
  refine wpAny_bind (wpAny_typeOf hTs ?_)
  rw [if_pos (by decide)]
  refine wpAny_bind (sliceApplied_gen hs pl pu ?_)
  have hno : ¬ ((((sIx items.size 0 lo : Nat) : Int) == 0 && (1 : Int) == 1 && (sIx items.size items.size hi - sIx items.size 0 lo) == items.size) = true) := by
    intro q
    rw [Bool.and_eq_true, Bool.and_eq_true] at q
    have q1 : ((sIx items.size 0 lo : Nat) : Int) = 0 := eq_of_beq q.1.1
    have q2 : sIx items.size items.size hi - sIx items.size 0 lo = items.size := eq_of_beq q.2
    exact hw ⟨by omega, by omega⟩
  show wpAny _ _ (if (((sIx items.size 0 lo : Nat) : Int) == 0 && (1 : Int) == 1 && (sIx items.size items.size hi - sIx items.size 0 lo) == items.size) = true then _ else _) _ _ s
  rw [if_neg hno, pick_gen]
  first
    | exact wpAny_bind (m := Builtin.Tuple.tupleExact _) (wpAny_newObj_type (wpAny_pure ⟨_, rfl, wpAny_pure h⟩) htake)
    | exact wpAny_bind (m := Builtin.Tuple.tupleExact _) (wpAny_newObj_type (wpAny_bind (wpAny_pure (wpAny_pure ⟨_, rfl, wpAny_pure h⟩))) htake)
    | exact wpAny_bind (wpAny_bind (m := Builtin.Tuple.tupleExact _) (wpAny_newObj_type (wpAny_pure (wpAny_pure ⟨_, rfl, wpAny_pure h⟩)) htake))
    | exact wpAny_bind (wpAny_bind (m := Builtin.Tuple.tupleExact _) (wpAny_newObj_type (wpAny_pure ⟨_, rfl, wpAny_pure h⟩) htake))
end
end HT
namespace L2
open PySem PySem.Spec PyProof.Rows
noncomputable abbrev TO := St → Hp → (Option Int → Hp → Prop) → Prop
noncomputable def PO (X : Cx) (e : Option Expr) (t : TO) : Prop :=
  ∀ (pins : List (Addr × Obj)) (s : Shared) (σ : St) (H : Hp) (Q : Option Int → Hp → Prop), Inv X pins σ H s → t σ H Q →
    wpAny (model X.prog X.w) X.A (evalPart e X.env) (fun u s' => ∃ o H', Inv X pins σ H' s' ∧ IsPart u o ∧ Q o H') X.xe s
noncomputable def tNoPart : TO := fun _ H Q => Q none H
noncomputable def tPart (t : TE) : TO := fun σ H Q => t σ H fun x H1 => ∃ i, x = .int i ∧ Q (some i) H1
section
variable {X : Cx} {e : Expr} {te : TE} {lo hi : Option Expr} {tl th : TO} {pos p2 : Pos}
theorem po_none : PO X none tNoPart := by
  intro pins s σ H Q I h
  rw [evalPart_none]
  exact wpAny_pure ⟨none, H, I, .none, h⟩
theorem po_some (h : PE X e te) : PO X (some e) (tPart te) := by
  intro pins s σ H Q I hw
  rw [evalPart_some]
  refine thn (h pins s σ H _ I hw) fun u s1 ⟨x, H1, I1, r1, q1⟩ => ?_
  obtain ⟨i, rfl, q⟩ := q1
  obtain ⟨t, rfl⟩ := r1
  exact ⟨some i, H1, I1, .int i t, q⟩
noncomputable def SlR (X : Cx) (r : V → Option Int → Option Int → Hp → VK → Prop) : Prop :=
  ∀ (pins : List (Addr × Obj)) (s : Shared) (σ : St) (H : Hp) (x : V) (v vl vu : Value) (lo hi : Option Int) (sl : Addr) (Q : VK), Inv X pins σ H s → RelV x v → s.heap.IsSliceOf sl vl vu .none → IsPart vl lo → IsPart vu hi → r x lo hi H Q →
    ∃ T id, typeLookup (.type T) "__getitem__" = pure (some (.builtin id)) ∧ s.TypeIs v T ∧ wpAny (model X.prog X.w) X.A (getItem v (.ref sl)) (EP X pins σ Q) X.xe s
theorem SlR.or {r r' : V → Option Int → Option Int → Hp → VK → Prop} (h : SlR X r) (h' : SlR X r') : SlR X (fun x lo hi H Q => r x lo hi H Q ∨ r' x lo hi H Q) := by
  intro pins s σ H x v vl vu lo hi sl Q I rx hs pl pu q
  rcases q with q | q
  · exact h pins s σ H x v vl vu lo hi sl Q I rx hs pl pu q
  · exact h' pins s σ H x v vl vu lo hi sl Q I rx hs pl pu q
noncomputable def tSl (r : V → Option Int → Option Int → Hp → VK → Prop) (te : TE) (tl th : TO) : TE := fun σ H Q => te σ H fun x H1 => tl σ H1 fun l H2 => th σ H2 fun u H3 => r x l u H3 Q
theorem pe_slice {r : V → Option Int → Option Int → Hp → VK → Prop} (hr : SlR X r) (he : PE X e te) (hl : PO X lo tl) (hu : PO X hi th) : PE X (.Subscript e (.Slice lo hi none p2) pos) (tSl r te tl th) := by
  intro pins s σ H Q I h
  refine Subscript_ (thn (he pins s σ H _ I h) fun v s1 ⟨x, H1, I1, r1, q1⟩ => ?_)
  refine wpAny_Slice (thn (hl pins s1 σ H1 _ I1 q1) fun vl s2 ⟨l, H2, I2, pl, q2⟩ => thn (hu pins s2 σ H2 _ I2 q2) fun vu s3 ⟨u, H3, I3, pu, q3⟩ => ?_)
  rw [evalPart_none]
  refine wpAny_pure ?_
  have I4 : Inv X pins σ H3 { s3 with heap := s3.heap.push { cls := .type "slice", data := .fields #[vl, vu, .none] } } := I3.kept (t' := s3.toks) fun b ob q => Heap.get?_push_of_some _ q
  obtain ⟨T, id, hT, ht, hg⟩ := hr pins { s3 with heap := s3.heap.push { cls := .type "slice", data := .fields #[vl, vu, .none] } } σ H3 x v vl vu l u s3.heap.objs.size Q I4 r1 (Heap.IsSliceOf.new ..) pl pu q3
  show wpAny (model X.prog X.w) X.A (subscriptTail e (.Slice lo hi none p2) v (.ref s3.heap.objs.size)) (EP X pins σ Q) X.xe { s3 with heap := s3.heap.push { cls := .type "slice", data := .fields #[vl, vu, .none] } }
  exact tail_any (ops := [.ref s3.heap.objs.size, v]) ht hT hg (by with_unfolding_all rfl)
noncomputable def cutV (xs : List V) (lo hi : Option Int) : List V := (xs.drop (HT.sIx xs.length 0 lo)).take (HT.sIx xs.length xs.length hi - HT.sIx xs.length 0 lo)
theorem cutV_length (xs : List V) (lo hi : Option Int) : (cutV xs lo hi).length ≤ xs.length := by
  unfold cutV
  rw [List.length_take, List.length_drop]
  omega
noncomputable def rSlT (K : PySem.W.Frag) : V → Option Int → Option Int → Hp → VK → Prop := fun x lo hi H Q => ∃ a xs, x = .ref a ∧ SqT K H a xs ∧
  ¬ (HT.sIx xs.length 0 lo = 0 ∧ HT.sIx xs.length xs.length hi = xs.length) ∧ ∀ p, H p = none → Q (.ref p) (upd H p (.tup (cutV xs lo hi)))
theorem sl_tup : SlR X (rSlT X.K) := by
  intro pins s σ H x v vl vu lo hi sl Q I rx hs pl pu h
  obtain ⟨a, xs, rfl, hx, hw, q⟩ := h
  cases rx
  obtain ⟨its, r, ht, hz⟩ := I.tuple hx
  have hlen : its.toArray.size = xs.length := by rw [List.size_toArray]; exact r.length.symm
  refine ⟨"tuple", _, PyProof.Rows.slot_tuple_getitem.lookup, ht.typeIs, ?_⟩
  refine HT.getItem_tuple_cut ht hs pl pu (by rw [hlen]; exact hw) ?_ (by rw [hlen]; exact hz)
  rw [hlen]
  refine ⟨.ref s.heap.objs.size, _, I.laid (t' := s.toks) (o := .tup (cutV xs lo hi)) (fun b ob q => Heap.get?_push_of_some _ q) (Nat.le_refl _) ?_, rfl, q _ (I.hok.fresh (Nat.le_refl _))⟩
  exact ⟨Nat.le_trans (cutV_length xs lo hi) hz, _, (r.drop (HT.sIx xs.length 0 lo)).take (HT.sIx xs.length xs.length hi - HT.sIx xs.length 0 lo), IsTup.new _ _⟩
theorem Vals.nil_iff {xs : List V} {us : List Value} (r : Vals xs us) : us = [] ↔ xs = [] := by
  cases r with
  | nil => simp
  | cons _ _ => simp
end
end L2
namespace L2
open PySem PySem.Spec PyProof.Rows
noncomputable def ixN (n : Nat) (i : Int) : Option Nat := if 0 ≤ i then (if i < n then some i.toNat else none) else if -(n : Int) ≤ i then some (i + n).toNat else none
noncomputable def atI {α : Type} (xs : List α) (i : Int) : Option α := (ixN xs.length i).bind fun j => xs[j]?
theorem ixN_seq {n : Nat} {i : Int} {j : Nat} (h : ixN n i = some j) : seqIndex? i n = some j ∧ j < n ∧ -(n : Int) ≤ i ∧ i < n := by
  unfold ixN at h
  by_cases h0 : 0 ≤ i
  · rw [if_pos h0] at h
    by_cases h1 : i < n
    · rw [if_pos h1] at h
      have e : i.toNat = j := Option.some.inj h
      exact ⟨by rw [seqIndex_of h0 h1, e], by omega, by omega, h1⟩
    · rw [if_neg h1] at h; cases h
  · rw [if_neg h0] at h
    by_cases h1 : -(n : Int) ≤ i
    · rw [if_pos h1] at h
      have e : (i + n).toNat = j := Option.some.inj h
      exact ⟨by rw [seqIndex_neg (by omega) h1, e], by omega, h1, by omega⟩
    · rw [if_neg h1] at h; cases h
theorem atI_get {α : Type} {xs : List α} {i : Int} {v : α} (h : atI xs i = some v) : ∃ j, seqIndex? i xs.length = some j ∧ xs[j]? = some v ∧ j < xs.length ∧ -(xs.length : Int) ≤ i ∧ i < xs.length := by
  unfold atI at h
  cases e : ixN xs.length i with
  | none => rw [e] at h; cases h
  | some j =>
    rw [e] at h
    obtain ⟨h1, h2, h3, h4⟩ := ixN_seq e
    exact ⟨j, h1, h, h2, h3, h4⟩
theorem atI_nat {α : Type} {xs : List α} {j : Nat} {v : α} (h : xs[j]? = some v) : atI xs (j : Int) = some v := by
  have hj : j < xs.length := (List.getElem?_eq_some_iff.mp h).1
  have e : ixN xs.length (j : Int) = some j := by
    unfold ixN
    rw [if_pos (by omega), if_pos (by omega)]; simp
  unfold atI; rw [e]; exact h
noncomputable def PlainIx (b : Expr) : Prop := ∀ o i, subscripted b false o i = operate [o, i] (getItem o i)
noncomputable def IxR (X : Cx) (r : R2) : Prop :=
  ∀ (value slice : Expr) (pins : List (Addr × Obj)) (s : Shared) (σ : St) (H : Hp) (x y : V) (v u : Value) (Q : VK), Inv X pins σ H s → RelV x v → RelV y u → r x y H Q →
    subscripted slice false v u = operate [v, u] (getItem v u) → wpAny (model X.prog X.w) X.A (subscriptTail value slice v u) (EP X pins σ Q) X.xe s
noncomputable def MtR (X : Cx) (id : String) (r : V → List V → Hp → VK → Prop) : Prop :=
  ∀ (pins : List (Addr × Obj)) (s : Shared) (σ : St) (H : Hp) (x : V) (xs : List V) (v : Value) (us : List Value) (Q : VK), Inv X pins σ H s → RelV x v → Vals xs us → r x xs H Q →
    wpAny (model X.prog X.w) X.A (call (.builtin id) (v :: us)) (EP X pins σ Q) X.xe s
section
variable {X : Cx} {a b : Expr} {ta tb : TE} {pos : Pos}
theorem IxR.or {r r' : R2} (h : IxR X r) (h' : IxR X r') : IxR X (fun x y H Q => r x y H Q ∨ r' x y H Q) := by
  intro value slice pins s σ H x y v u Q I rx ry q hs
  rcases q with q | q
  · exact h value slice pins s σ H x y v u Q I rx ry q hs
  · exact h' value slice pins s σ H x y v u Q I rx ry q hs
theorem MtR.or {id : String} {r r' : V → List V → Hp → VK → Prop} (h : MtR X id r) (h' : MtR X id r') : MtR X id (fun x xs H Q => r x xs H Q ∨ r' x xs H Q) := by
  intro pins s σ H x xs v us Q I rx rs q
  rcases q with q | q
  · exact h pins s σ H x xs v us Q I rx rs q
  · exact h' pins s σ H x xs v us Q I rx rs q
theorem pe_ix {r : R2} (hr : IxR X r) (ha : PE X a ta) (hb : PE X b tb) (hs : PlainIx b) : PE X (.Subscript a b pos) (tOp r ta tb) := by
  intro pins s σ H Q I h
  exact Subscript_ (binT ha hb I h fun v u s2 x y H2 I2 rx ry q => hr a b pins s2 σ H2 x y v u Q I2 rx ry q (hs _ _))
noncomputable def rIxL (K : PySem.W.Frag) : R2 := fun x y H Q => ∃ p xs i v, x = .ref p ∧ y = .int i ∧ SqL K H p xs ∧ atI xs i = some v ∧ Q v H
noncomputable def rIxT (K : PySem.W.Frag) : R2 := fun x y H Q => ∃ p xs i v, x = .ref p ∧ y = .int i ∧ SqT K H p xs ∧ atI xs i = some v ∧ Q v H
noncomputable def rIxS : R2 := fun x y H Q => ∃ z i c, x = .str z ∧ y = .int i ∧ z.length ≤ sizeLine ∧ atI z.cps.toList i = some c ∧ Q (.str ⟨#[c]⟩) H
theorem ix_list : IxR X (rIxL X.K) := by
  intro value slice pins s σ H x y v u Q I rx ry h hs
  obtain ⟨p, xs, i, z, rfl, rfl, hq, he, q⟩ := h
  cases rx
  obtain ⟨t, rfl⟩ := ry
  obtain ⟨its, r, pl, hz⟩ := I.list hq
  obtain ⟨j, h1, h2, h3, h4, h5⟩ := atI_get he
  obtain ⟨w, ew, rw'⟩ := r.get h2
  have hl := r.length
  have hn := line63
  have fin : EP X pins σ Q w s := ⟨z, H, I, rw', q⟩
  by_cases h0 : 0 ≤ i
  · have hj : i.toNat = j := by
      rw [seqIndex_of h0 h5] at h1
      exact Option.some.inj h1
    exact item_listR pl.isList h0 (by omega) (by rw [hj]; simpa using ew) fin hs
  · have hj : (i + (its.toArray.size : Int)).toNat = j := by
      rw [seqIndex_neg (by omega) h4] at h1
      rw [List.size_toArray, ← hl]
      exact Option.some.inj h1
    exact subscriptTail_builtinR (x := w) pl.isList.typeIs slot_list_getitem.lookup
      (wpAny_getItem_list_neg (Q := fun r s' => r = w ∧ EP X pins σ Q r s') pl.isList (by omega) (by rw [List.size_toArray] <;> omega) (by omega) (by rw [hj]; simpa using ew) ⟨rfl, fin⟩) hs
theorem ix_tup : IxR X (rIxT X.K) := by
  intro value slice pins s σ H x y v u Q I rx ry h hs
  obtain ⟨p, xs, i, z, rfl, rfl, hq, he, q⟩ := h
  cases rx
  obtain ⟨t, rfl⟩ := ry
  obtain ⟨its, r, pl, hz⟩ := I.tuple hq
  obtain ⟨j, h1, h2, h3, h4, h5⟩ := atI_get he
  obtain ⟨w, ew, rw'⟩ := r.get h2
  have hl := r.length
  have hn := line63
  have fin : EP X pins σ Q w s := ⟨z, H, I, rw', q⟩
  exact subscriptTail_builtinR (x := w) pl.typeIs slot_tuple_getitem.lookup
    (getItem_tuple (j := j) (Q := fun r s' => r = w ∧ EP X pins σ Q r s') pl (by omega) (by omega) (by rw [List.size_toArray, ← hl]; exact h1) (by simpa using ew) ⟨rfl, fin⟩) hs
theorem ix_str : IxR X rIxS := by
  intro value slice pins s σ H x y v u Q I rx ry h hs
  obtain ⟨z, i, c, rfl, rfl, hz, he, q⟩ := h
  obtain ⟨t, rfl⟩ := rx
  obtain ⟨t', rfl⟩ := ry
  obtain ⟨j, h1, h2, h3, h4, h5⟩ := atI_get he
  have hl : z.cps.toList.length = z.length := by simp [Str.length]
  rw [hl] at h1 h4 h5
  have hn := line63
  exact tail_any (typeIs_str s z t) slot_str_getitem.lookup (getItem_str (c := c) (by
    have e1 : decide (i < -(2 ^ 63 : Int)) = false := decide_eq_false (by omega)
    have e2 : decide (i ≥ 2 ^ 63) = false := decide_eq_false (by omega)
    rw [e1, e2, Bool.or_false]) (by rw [h1]; simpa using h2) ⟨.str ⟨#[c]⟩, H, I.tok _, ⟨_, rfl⟩, q⟩) hs
theorem mapSeq_set (its : List Value) (n j : Nat) (u : Value) : Obj.mapSeq (·.setIfInBounds j u) { cls := .type "list", data := .seq its.toArray n } = { cls := .type "list", data := .seq (its.set j u).toArray n } := by
  simp [Obj.mapSeq]
theorem Inv.lst {pins : List (Addr × Obj)} {σ : St} {H : Hp} {s : Shared} {p : Addr} {xs : List V} (I : Inv X pins σ H s) (h : H p = some (.lst xs)) :
    ∃ (its : List Value) (n : Nat), Vals xs its ∧ s.heap.get? p = some { cls := .type "list", data := .seq its.toArray n } ∧ xs.length ≤ sizeLine := by
  obtain ⟨z, its, n, r, e⟩ := I.hok p _ h
  exact ⟨its, n, r, e, z⟩
theorem Inv.lstUpd {pins : List (Addr × Obj)} {σ : St} {H : Hp} {s : Shared} {p : Addr} {xs ys : List V} {its its' : List Value} {n n' : Nat} {f : Obj → Obj} (I : Inv X pins σ H s) (h : H p = some (.lst xs))
    (ho : s.heap.get? p = some { cls := .type "list", data := .seq its.toArray n }) (hf : f { cls := .type "list", data := .seq its.toArray n } = { cls := .type "list", data := .seq its'.toArray n' }) (r : Vals ys its') (hz : ys.length ≤ sizeLine) (t : Nat) :
    Inv X pins σ (upd H p (.lst ys)) { s with heap := s.heap.update p f, toks := t } := by
  have e : (s.heap.update p f).get? p = some { cls := .type "list", data := .seq its'.toArray n' } := by
    rw [Heap.get?_update_self f ho (by rw [hf] <;> rfl), hf]
  refine I.write (x := p) (e := p) (by rw [h]; trivial) (.inl rfl) (fun b u hb q => (Heap.get?_update_other _ _ (Ne.symm hb)).trans q) ⟨_, e⟩ ?_
  exact ⟨hz, its', n', r, e⟩
noncomputable def rSetL : V → V → V → Hp → (Hp → Prop) → Prop := fun o i v H Q => ∃ p xs k j, o = .ref p ∧ i = .int k ∧ H p = some (.lst xs) ∧ ixN xs.length k = some j ∧ Q (upd H p (.lst (xs.set j v)))
theorem set_list : PSet X rSetL := by
  intro pins s σ H o i v ov iv u Q I ro ri rv h
  obtain ⟨p, xs, k, j, rfl, rfl, hp, hj, q⟩ := h
  cases ro
  obtain ⟨t, rfl⟩ := ri
  obtain ⟨its, n, r, ho, hz⟩ := I.lst hp
  obtain ⟨h1, h2, h3, h4⟩ := ixN_seq hj
  have hl := r.length
  have hn := line63
  have I' : Inv X pins σ (upd H p (.lst (xs.set j v))) { s with heap := s.heap.update p (Obj.mapSeq (·.setIfInBounds j u)) } :=
    I.lstUpd hp ho (mapSeq_set its n j u) (r.set rv j) (by rw [List.length_set]; exact hz) s.toks
  by_cases h0 : 0 ≤ k
  · have hk : k.toNat = j := by
      rw [seqIndex_of h0 h4] at h1
      exact Option.some.inj h1
    exact PySem.W.ki_setAt ho h0 (by omega) (by rw [List.size_toArray, ← hl]; exact h4) (by rw [hk]; exact ⟨_, I', q⟩)
  · have hk : (k + (its.toArray.size : Int)).toNat = j := by
      rw [seqIndex_neg (by omega) h3] at h1
      rw [List.size_toArray, ← hl]
      exact Option.some.inj h1
    exact PySem.W.ki_setBack ho (by omega) (by rw [List.size_toArray, ← hl]; exact h3) (by omega) (by rw [hk]; exact ⟨_, I', q⟩)
theorem slice_bounds (lo hi : Option Int) (n : Nat) : (sliceBounds lo hi none n).1 = ((HT.sIx n 0 lo : Nat) : Int) ∧ (sliceBounds lo hi none n).2.1 = ((HT.sIx n n hi : Nat) : Int) ∧ (sliceBounds lo hi none n).2.2 = 1 := by
  refine ⟨?_, ?_, rfl⟩
  · cases lo with
    | none => simp [sliceBounds, HT.sIx]
    | some i =>
      simp only [sliceBounds, HT.sIx, Option.getD_none, show (1 : Int) > 0 by decide, if_true]
      by_cases h : i < 0
      · simp only [h, if_true] <;> omega
      · simp only [h, if_false] <;> omega
  · cases hi with
    | none => simp [sliceBounds, HT.sIx]
    | some i =>
      simp only [sliceBounds, HT.sIx, Option.getD_none, show (1 : Int) > 0 by decide, if_true]
      by_cases h : i < 0
      · simp only [h, if_true] <;> omega
      · simp only [h, if_false] <;> omega
theorem slicePick_cut (its : List Value) (lo hi : Option Int) : slicePick its.toArray lo hi none = ((its.drop (HT.sIx its.length 0 lo)).take (HT.sIx its.length its.length hi - HT.sIx its.length 0 lo)).toArray := by
  obtain ⟨h1, h2, h3⟩ := slice_bounds lo hi its.toArray.size
  unfold slicePick
  rw [h1, h2, h3]
  simp only [sliceRange_one, pick_run, List.size_toArray] <;> rfl
noncomputable def rSlL (K : PySem.W.Frag) : V → Option Int → Option Int → Hp → VK → Prop := fun x lo hi H Q => ∃ a xs, x = .ref a ∧ SqL K H a xs ∧ ∀ p, H p = none → Q (.ref p) (upd H p (.lst (cutV xs lo hi)))
theorem sl_list : SlR X (rSlL X.K) := by
  intro pins s σ H x v vl vu lo hi sl Q I rx hs pl pu h
  obtain ⟨a, xs, rfl, hx, q⟩ := h
  cases rx
  obtain ⟨its, r, ht, hz⟩ := I.list hx
  have hlen := r.length
  refine ⟨"list", _, slot_list_getitem.lookup, ht.isList.typeIs, ?_⟩
  refine wpAny_getItem_list_slice ht.isList hs pl pu .none (by simp) ?_ (by rw [List.size_toArray] <;> omega)
  rw [slicePick_cut, ← hlen]
  refine ⟨.ref s.heap.objs.size, _, I.laid (t' := s.toks) (o := .lst (cutV xs lo hi)) (fun b ob q => Heap.get?_push_of_some _ q) (Nat.le_refl _) ?_, rfl, q _ (I.hok.fresh (Nat.le_refl _))⟩
  exact ⟨Nat.le_trans (cutV_length xs lo hi) hz, _, 0, (r.drop (HT.sIx xs.length 0 lo)).take (HT.sIx xs.length xs.length hi - HT.sIx xs.length 0 lo), Heap.get?_push_size _ rfl⟩
noncomputable def flatV : V → Bool
  | .non => true
  | .bl _ => true
  | .int _ => true
  | .str _ => true
  | _ => false
noncomputable def eqV : V → V → Bool
  | .non, .non => true
  | .bl a, .bl b => a == b
  | .bl a, .int b => (if a then 1 else 0) == b
  | .int a, .bl b => a == (if b then 1 else 0)
  | .int a, .int b => a == b
  | .str a, .str b => a == b
  | _, _ => false
theorem eqAt_V {A : Around} {s : Shared} {y x : V} {u v : Value} (ry : RelV y u) (rx : RelV x v) (fy : flatV y = true) (fx : flatV x = true) : SeqAt.EqAt A s u v (eqV y x) := by
  cases y with
  | non =>
    cases ry
    cases x with
    | non => cases rx; exact SeqAt.EqAt.same _
    | bl b => cases rx; exact SeqAt.EqAt.none_bool b
    | int b => obtain ⟨t, rfl⟩ := rx; exact SeqAt.EqAt.none_int b t
    | str b => obtain ⟨t, rfl⟩ := rx; exact SeqAt.EqAt.none_str b t
    | _ => exact absurd (show false = true from fx) Bool.false_ne_true
  | bl a =>
    cases ry
    cases x with
    | non => cases rx; exact SeqAt.EqAt.bool_none a
    | bl b => cases rx; exact SeqAt.EqAt.bool_bool a b
    | int b => obtain ⟨t, rfl⟩ := rx; exact SeqAt.EqAt.bool_int a b t
    | str b => obtain ⟨t, rfl⟩ := rx; exact SeqAt.EqAt.bool_str a b t
    | _ => exact absurd (show false = true from fx) Bool.false_ne_true
  | int a =>
    obtain ⟨t', rfl⟩ := ry
    cases x with
    | non => cases rx; exact SeqAt.EqAt.int_none a t'
    | bl b => cases rx; exact SeqAt.EqAt.int_bool a t' b
    | int b => obtain ⟨t, rfl⟩ := rx; exact SeqAt.EqAt.int_int a t' b t
    | str b => obtain ⟨t, rfl⟩ := rx; exact SeqAt.EqAt.int_str a t' b t
    | _ => exact absurd (show false = true from fx) Bool.false_ne_true
  | str a =>
    obtain ⟨t', rfl⟩ := ry
    cases x with
    | non => cases rx; exact SeqAt.EqAt.str_none a t'
    | bl b => cases rx; exact SeqAt.EqAt.str_bool a t' b
    | int b => obtain ⟨t, rfl⟩ := rx; exact SeqAt.EqAt.str_int a t' b t
    | str b => obtain ⟨t, rfl⟩ := rx; exact SeqAt.EqAt.str_str a t' b t
    | _ => exact absurd (show false = true from fx) Bool.false_ne_true
  | _ => exact absurd (show false = true from fy) Bool.false_ne_true
theorem call_len_seq : CallR X (.builtin "len") (fun xs H Q => ∃ p ys, xs = [.ref p] ∧ (SqL X.K H p ys ∨ SqT X.K H p ys) ∧ Q (.int ys.length) H) := by
  intro pins s σ H xs us Q I r h
  obtain ⟨p, ys, rfl, hq, q⟩ := h
  obtain ⟨u, rfl, rx⟩ := vals1 r
  cases rx
  have hn := line63
  rcases hq with hq | hq
  · obtain ⟨its, r', pl, hz⟩ := I.list hq
    have hlen := r'.length
    exact Calls.call_len_list pl.isList (by simp only [List.size_toArray] <;> omega) ⟨.int ys.length, H, I.tok _, ⟨s.toks + 1, by rw [List.size_toArray, hlen]⟩, q⟩
  · obtain ⟨its, r', pl, hz⟩ := I.tuple hq
    have hlen := r'.length
    exact len_tuple pl (by simp only [List.size_toArray] <;> omega) ⟨.int ys.length, H, I.tok _, ⟨s.toks + 1, by rw [List.size_toArray, hlen]⟩, q⟩
theorem call_len_str : CallR X (.builtin "len") (fun xs H Q => ∃ z, xs = [.str z] ∧ z.length ≤ sizeLine ∧ Q (.int z.length) H) := by
  intro pins s σ H xs us Q I r h
  obtain ⟨z, rfl, hz, q⟩ := h
  obtain ⟨u, rfl, t, rfl⟩ := vals1 r
  have hn := line63
  exact len_str (by omega) ⟨.int z.length, H, I.tok _, ⟨_, rfl⟩, q⟩
theorem CallR.or {f : Value} {r r' : List V → Hp → VK → Prop} (h : CallR X f r) (h' : CallR X f r') : CallR X f (fun xs H Q => r xs H Q ∨ r' xs H Q) := by
  intro pins s σ H xs us Q I rs q
  rcases q with q | q
  · exact h pins s σ H xs us Q I rs q
  · exact h' pins s σ H xs us Q I rs q
theorem call_list_of : CallR X (.type "list") (fun xs H Q => ∃ p ys, xs = [.ref p] ∧ (SqL X.K H p ys ∨ SqT X.K H p ys) ∧ ∀ l, H l = none → Q (.ref l) (upd H l (.lst ys))) := by
  intro pins s σ H xs us Q I r h
  obtain ⟨p, ys, rfl, hq, q⟩ := h
  obtain ⟨u, rfl, rx⟩ := vals1 r
  cases rx
  have fin : ∀ (its : List Value), Vals ys its → ys.length ≤ sizeLine → ∀ (h' : Heap) (c' : Nat), (∀ b o', s.heap.get? b = some o' → h'.get? b = some o') →
      h'.get? s.heap.objs.size = some { cls := .type "list", dict := none, data := .seq its.toArray c', slots := #[] } → EP X pins σ Q (.ref s.heap.objs.size) { s with heap := h' } := fun its r' hz h' c' kp e =>
    ⟨.ref s.heap.objs.size, _, I.laid (t' := s.toks) kp (Nat.le_refl _) (show ObjOk X.prog X.w _ h' _ (.lst ys) from ⟨hz, its, c', r', e⟩), rfl, q _ (I.hok.fresh (Nat.le_refl _))⟩
  rcases hq with hq | hq
  · obtain ⟨its, r', pl, hz⟩ := I.list hq
    have hlen := r'.length
    obtain ⟨o, ho, hc, n, hd⟩ := pl.isList
    exact call_list_seq p (.inl rfl) ho hc hd (fun h' c' kp e => fin its r' hz h' c' kp e) (by simp only [List.size_toArray] <;> omega)
  · obtain ⟨its, r', pl, hz⟩ := I.tuple hq
    have hlen := r'.length
    obtain ⟨o, ho, hc, n, hd⟩ := pl
    exact call_list_seq p (.inr rfl) ho hc hd (fun h' c' kp e => fin its r' hz h' c' kp e) (by simp only [List.size_toArray] <;> omega)
theorem call_tuple_of : CallR X (.type "tuple") (fun xs H Q => ∃ p ys, xs = [.ref p] ∧ ((SqL X.K H p ys ∧ ∀ l, H l = none → Q (.ref l) (upd H l (.tup ys))) ∨ (SqT X.K H p ys ∧ Q (.ref p) H))) := by
  intro pins s σ H xs us Q I r h
  obtain ⟨p, ys, rfl, h⟩ := h
  obtain ⟨u, rfl, rx⟩ := vals1 r
  cases rx
  rcases h with ⟨hq, q⟩ | ⟨hq, q⟩
  · obtain ⟨its, r', pl, hz⟩ := I.list hq
    have hlen := r'.length
    refine call_tuple_list pl.isList (fun h' kp => ?_) (by simp only [List.size_toArray] <;> omega)
    have I1 : Inv X pins σ H { s with heap := h' } := I.kept (t' := s.toks) kp
    have I2 : Inv X pins σ (upd H h'.objs.size (.tup ys)) { s with heap := h'.push { cls := .type "tuple", data := .seq its.toArray } } :=
      I1.laid (t' := s.toks) (fun b o e => Heap.get?_push_of_some _ e) (Nat.le_refl _) (show ObjOk X.prog X.w _ _ _ (.tup ys) from ⟨hz, its, r', IsTup.new _ _⟩)
    exact ⟨.ref h'.objs.size, _, I2, rfl, q _ (I1.hok.fresh (Nat.le_refl _))⟩
  · obtain ⟨its, r', pl, hz⟩ := I.tuple hq
    exact call_tuple_same pl ⟨.ref p, H, I, rfl, q⟩
noncomputable def tyV (K : PySem.W.Frag) (T : String) (x : V) (H : Hp) : Prop := match x with
  | .str _ => T = "str"
  | .int _ => T = "int"
  | .ref p => (T = "list" ∧ ∃ xs, SqL K H p xs) ∨ (T = "tuple" ∧ ∃ o, K.lookup p = some o ∧ o.cls = .type "tuple" ∧ o.dict = none) ∨
      (T = "dict" ∧ ((∃ kvs ep, H p = some (.dK kvs ep)) ∨ ∃ kvs, H p = some (.dT kvs))) ∨ (T = "set" ∧ ∃ S n, H p = some (.set S n))
  | _ => False
theorem tyV_is {pins : List (Addr × Obj)} {σ : St} {H : Hp} {s : Shared} {T : String} {x : V} {v : Value} (I : Inv X pins σ H s) (r : RelV x v) (ty : tyV X.K T x H) :
    s.TypeIs v T ∧ ∀ a, v = .ref a → ∃ ob, s.heap.get? a = some ob ∧ ob.dict = none := by
  cases x with
  | str z =>
    obtain ⟨t, rfl⟩ := r
    cases (show T = "str" from ty)
    exact ⟨typeIs_str s z t, fun _ e => nomatch e⟩
  | int i =>
    obtain ⟨t, rfl⟩ := r
    cases (show T = "int" from ty)
    exact ⟨typeIs_int s i t, fun _ e => nomatch e⟩
  | ref p =>
    cases r
    rcases ty with ⟨rfl, xs, hq⟩ | ⟨rfl, o, hk, hc, hd⟩ | ⟨rfl, hk⟩ | ⟨rfl, S, n, hk⟩
    · obtain ⟨its, _, pl, _⟩ := I.list hq
      refine ⟨pl.isList.typeIs, fun a e => ?_⟩
      cases e
      obtain ⟨o, n, e, c, hd, _⟩ := pl
      exact ⟨o, e, hd⟩
    · refine ⟨⟨o, I.kIn p o hk, hc⟩, fun a e => ?_⟩
      cases e
      exact ⟨o, I.kIn _ o hk, hd⟩
    · have z : ∃ o, s.heap.get? p = some o ∧ o.ExactDict := by
        rcases hk with ⟨kvs, ep, hk⟩ | ⟨kvs, hk⟩
        · obtain ⟨_, _, _, _, o, _, e, ex, _⟩ := I.hok p _ hk
          exact ⟨o, e, ex⟩
        · obtain ⟨_, _, _, _, o, _, _, e, ex, _⟩ := I.hok p _ hk
          exact ⟨o, e, ex⟩
      obtain ⟨o, e, ex⟩ := z
      refine ⟨⟨o, e, ex.1⟩, fun a e2 => ?_⟩
      cases e2
      exact ⟨o, e, ex.2.1⟩
    · obtain ⟨o, _, _, _, e, ex, _⟩ := I.hok p _ hk
      refine ⟨⟨o, e, ex.1⟩, fun a e2 => ?_⟩
      cases e2
      exact ⟨o, e, ex.2.1⟩
  | _ => exact False.elim ty
noncomputable def tBM (K : PySem.W.Frag) (T : String) (r : V → List V → Hp → VK → Prop) (to : TE) (t : TA) : TE := fun σ H Q => to σ H fun x H1 => tyV K T x H1 ∧ t σ H1 fun xs H2 => r x xs H2 Q
variable {o e : Expr} {es : List Expr} {to : TE} {t : TA} {name : Str} {apos cpos : Pos} {T id : String} {r : V → List V → Hp → VK → Prop}
theorem pe_bm (pa : PlainAttrs T) (slot : Slot T name id) (hty : typeOf (.builtin id) = pure (.type "method_descriptor")) (hm : MtR X id r) (ho : PE X o to) (ha : PA X (e :: es) t)
    (hbase : attributeBase o name X.env (eval o X.env) = eval o X.env := by rfl)
    (hfew : ((backTo cpos (starEach (e :: es) X.env)).all (fun x => !x.1) && (backToKw cpos (keywordEach [] X.env)).all (fun x => x.1.isSome)
      && decide ((e :: es).length + ([] : List Keyword).length + (if ([] : List Keyword).isEmpty then 0 else 1) < 30)) = true := by rfl)
    (hline : (apos.endLine == cpos.line) = true := by rfl) (hs : starEach (e :: es) X.env = (false, eval e X.env) :: starEach es X.env := by rfl) (hplain : (backTo cpos (starEach es X.env)).any (·.1) = false := by rfl) :
    PE X (.Call (.Attribute o name apos) (e :: es) [] cpos) (tBM X.K T r to t) := by
  intro pins s σ H Q I h
  refine wpAny_Call_method_late hbase hfew hline rfl (thn (ho pins s σ H _ I h) fun v s1 ⟨x, H1, I1, r1, ty, q1⟩ => ?_)
  obtain ⟨h1, h2⟩ := tyV_is I1 r1 ty
  refine ⟨T, id, pa, slot, hty, h1, h2, ?_⟩
  have hA := ha cpos pins s1 σ H1 _ I1 q1
  rw [hs] at hA ⊢
  refine Calls.callWith_builtin (by show (false || (backTo cpos (starEach es X.env)).any (·.1)) = false; rw [hplain] <;> rfl) (Calls.evalArgs_plain ?_)
  exact thn hA fun us s2 ⟨vs, H2, I2, r2, q2⟩ => hm pins s2 σ H2 x vs v us Q I2 r1 r2 q2
end
end L2
namespace L2
open PySem PySem.Spec PyProof.Rows
noncomputable def MtM (X : Cx) (id : String) (r : V → List V → Hp → VK → Prop) : Prop :=
  ∀ (pins : List (Addr × Obj)) (s : Shared) (σ : St) (H : Hp) (x : V) (xs : List V) (v : Value) (us : List Value) (Q : VK), Inv X pins σ H s → RelV x v → Vals xs us → r x xs H Q →
    wpAny (model X.prog X.w) X.A (call (.builtin id) (v :: us)) (EP X pins σ Q) X.xe s
theorem Vals.one : ∀ {x : V} {us : List Value}, Vals [x] us → ∃ u, us = [u] ∧ RelV x u
  | _, _, .cons r .nil => ⟨_, rfl, r⟩
theorem Vals.two : ∀ {x y : V} {us : List Value}, Vals [x, y] us → ∃ u v, us = [u, v] ∧ RelV x u ∧ RelV y v
  | _, _, _, .cons r (.cons q .nil) => ⟨_, _, rfl, r, q⟩
theorem Vals.zero : ∀ {us : List Value}, Vals [] us → us = []
  | _, .nil => rfl
theorem Vals.eraseIdx : ∀ {xs : List V} {us : List Value} (i : Nat), Vals xs us → Vals (xs.eraseIdx i) (us.eraseIdx i)
  | _, _, _, .nil => .nil
  | _, _, 0, .cons _ t => t
  | _, _, i + 1, .cons r t => .cons r (Vals.eraseIdx i t)
theorem Vals.reverse {xs : List V} {us : List Value} (h : Vals xs us) : Vals xs.reverse us.reverse := by
  induction h with
  | nil => exact .nil
  | cons r t ih => rw [List.reverse_cons, List.reverse_cons]; exact Vals.append ih (.cons r .nil)
theorem Vals.rep {xs : List V} {us : List Value} (h : Vals xs us) : ∀ k : Nat, Vals (List.replicate k xs).flatten (List.replicate k us).flatten
  | 0 => .nil
  | k + 1 => by
    rw [List.replicate_succ, List.replicate_succ, List.flatten_cons, List.flatten_cons]
    exact Vals.append h (Vals.rep h k)
section
variable {X : Cx} {pins : List (Addr × Obj)} {σ : St} {H : Hp} {s : Shared} {l b : Addr} {xs ys zs : List V}
theorem Inv.lset {its its' : List Value} {n : Nat} {f : Array Value → Array Value} {t' : Nat} (I : Inv X pins σ H s) (hH : H l = some (.lst xs))
    (e : s.heap.get? l = some { cls := .type "list", data := .seq its.toArray n }) (hf : f its.toArray = its'.toArray) (hv : Vals ys its') (hz : ys.length ≤ sizeLine) :
    Inv X pins σ (upd H l (.lst ys)) { s with heap := s.heap.update l (Obj.mapSeq f), toks := t' } := by
  have q := PySem.IsL.update e f
  rw [hf] at q
  refine I.write (x := l) (e := l) (by rw [hH]; exact trivial) (.inl rfl) (fun b' u hb hu => (Heap.get?_update_other s.heap (Obj.mapSeq f) (Ne.symm hb)).trans hu) ⟨_, q⟩ ?_
  exact ⟨hz, its', _, hv, q⟩
theorem Inv.fresh (I : Inv X pins σ H s) : H s.heap.objs.size = none := I.hok.fresh (Nat.le_refl _)
theorem Inv.lstM (I : Inv X pins σ H s) (hH : H l = some (.lst xs)) : xs.length ≤ sizeLine ∧ ∃ (its : List Value) (n : Nat), Vals xs its ∧ xs.length = its.length ∧ s.heap.get? l = some { cls := .type "list", data := .seq its.toArray n } := by
  obtain ⟨z, its, n, r, e⟩ := I.hok l _ hH
  exact ⟨z, its, n, r, r.length, e⟩
theorem notLongL {n : Nat} (h : n ≤ sizeLine) : Builtin.List.listTooLong n = false := by
  unfold Builtin.List.listTooLong
  exact decide_eq_false (by omega)
end
section
variable {X : Cx}
noncomputable def rAppend : V → List V → Hp → VK → Prop := fun x vs H Q => ∃ l xs y, x = .ref l ∧ vs = [y] ∧ H l = some (.lst xs) ∧ xs.length < sizeLine ∧ Q .non (upd H l (.lst (xs ++ [y])))
theorem mt_append : MtM X "list.append" rAppend := by
  intro pins s σ H x vs v us Q I rx rv h
  obtain ⟨l, xs, y, rfl, rfl, hH, hz, q⟩ := h
  cases rx
  obtain ⟨u, rfl, ru⟩ := rv.one
  obtain ⟨z, its, n, r, hl, e⟩ := I.lstM hH
  refine call_meets F.slot_list_append ⟨_, e, rfl⟩ F.entry_list_append (F.args_list_append_2 _ _) (PySem.list_append l its.toArray n u (by rw [List.size_toArray]; omega)) ⟨e, ?_⟩
  refine ⟨.non, _, I.lset (its' := its ++ [u]) hH e (by simp) (r.append (.cons ru .nil)) ?_, rfl, q⟩
  rw [List.length_append, List.length_singleton]
  omega
end
section
variable {prog : Program} {w : World} {A : Around} {E : Value → Shared → Prop} {s : Shared}
theorem bounds_run {a c n : Nat} (hac : a ≤ c) (hc : c ≤ n) : sliceBounds (some (a : Int)) (some (c : Int)) none n = ((a : Int), (c : Int), 1) := by
  simp only [sliceBounds, Option.getD_none]
  have h1 : ¬ ((a : Int) < 0) := by omega
  have h2 : ¬ ((c : Int) < 0) := by omega
  simp only [h1, h2, if_false, show (1 : Int) > 0 by decide, if_true]
  congr 1
  · omega
  · congr 1; omega
set_option maxRecDepth 100000 in
theorem setItem_slice {l b sl : Addr} {items new : Array Value} {n n2 : Nat} {vl vu : Value} {a c : Nat} {Q : Unit → Shared → Prop}
    (e : s.heap.get? l = some { cls := .type "list", data := .seq items n }) (e2 : s.heap.get? b = some { cls := .type "list", data := .seq new n2 }) (hne : l ≠ b)
    (hs : s.heap.IsSliceOf sl vl vu .none) (pl : IsPart vl (some (a : Int))) (pu : IsPart vu (some (c : Int))) (hac : a ≤ c) (hc : c ≤ items.size)
    (hsz : items.size + new.size ≤ sizeLine) (h : Q () { s with heap := s.heap.update l (Obj.mapSeq fun xs => xs.extract 0 a ++ new ++ xs.extract c xs.size) }) :
    wpAny (model prog w) A (setItem (.ref l) (.ref sl) (.ref b)) Q E s := by
  have hl : s.heap.IsList l items := PySem.IsL.isList e
  have hb : s.heap.IsList b new := PySem.IsL.isList e2
  obtain ⟨os, hos, hcs, hds⟩ := id hs
  have hTs : s.TypeIs (.ref sl) "slice" := ⟨os, hos, hcs⟩
  have hstep : ¬ ((rawPart none == rawInt 0) = true) := Bool.false_ne_true
  have hsame : Builtin.List.listSameRef (.ref l) (.ref b) = false := by
    unfold Builtin.List.listSameRef
    exact beq_eq_false_iff_ne.mpr hne
  have hmax : (max (a : Int) (c : Int)).toNat = c := by omega
  have hz' : ((fun xs : Array Value => xs.extract 0 a ++ new ++ xs.extract c xs.size) items).size ≤ sizeLine + 1 := by
    simp only [Array.size_append, Array.size_extract]
    omega
  unfold setItem
  try with_reducible refine wpAny_holding ?_
  first | refine wpAny_bind (wpAny_pure ?_) | skip
  refine wpAny_bind (wpAny_sequenceKey hl.typeIs (by decide) ?_)
  refine wpAny_bind (wpAny_callSpecial?_slot (name := Str.ofString "__setitem__") hl.typeIs slot_list_setitem
    (wpAny_call_entry slot_list_setitem hl.typeIs entry_list_setitem ?_ (args_list_setitem _ _ _)))
  show wpAny _ _ (Builtin.List.listSubscript? (.ref sl) >>= _) _ _ s
  refine wpAny_bind ?_
  unfold Builtin.List.listSubscript?
  refine wpAny_bind (wpAny_specialOf hTs slice_no_index ?_)
  simp only [Option.isNone_none, if_true]
  refine wpAny_pure ?_
  show wpAny _ _ (typeOf (.ref sl) >>= _) _ _ s
  refine wpAny_bind (wpAny_typeOf hTs ?_)
  first
    | rw [if_neg (by decide)]
    | refine PySem.W.KFB.if_not (by decide) ?_
  rw [listSliceParts_eq]
  refine wpAny_bind (wpAny_bind (wpAny_field hos hds (x := .none) rfl (wpAny_bind (wpAny_listPart .none ?_))))
  rw [if_neg hstep]
  refine wpAny_bind (wpAny_field hos hds (x := vl) rfl (wpAny_bind (wpAny_listPart pl ?_)))
  refine wpAny_bind (wpAny_field hos hds (x := vu) rfl (wpAny_bind (wpAny_listPart pu (wpAny_pure ?_))))
  first
    | simp only [hsame, Bool.false_eq_true, if_false]
    | refine PySem.W.KFB.if_not hsame ?_
    | (dsimp only
       rw [if_neg (by rw [hsame]; exact Bool.false_ne_true)])
  refine wpAny_bind (m := Builtin.List.listAllItems (.ref b) "must assign iterable to extended slice") ?_
  unfold Builtin.List.listAllItems
  refine wpAny_bind (wpAny_typeOf hb.typeIs ?_)
  first
    | refine PySem.W.KFB.if_so (by decide) ?_
    | rw [if_pos (by decide)]
    | simp only [beq_self_eq_true, Bool.true_or, if_true]
  unfold Builtin.List.listItems
  refine wpAny_bind (wpAny_seqItems e2 rfl (wpAny_pure ?_))
  refine wpAny_bind (wpAny_bind (wpAny_seqItems e rfl (wpAny_pure ?_)))
  refine wpAny_bind (wpAny_of_eq ((sliceIndices_raw (some (a : Int)) (some (c : Int)) none items.size (by simp)).trans (congrArg (pure : Int × Int × Int → Sem (Int × Int × Int)) (bounds_run hac hc))) ?_)
  show wpAny _ _ (if ((1 : Int) == 1) = true then _ else _) _ _ s
  rw [if_pos (by decide)]
  refine wpAny_bind (wpAny_rule ?_)
  first
    | simp only [notLongL hsz, Bool.false_eq_true, if_false]
    | refine PySem.W.KFB.if_not (notLongL hsz) ?_
  first | refine wpAny_bind (wpAny_pure ?_) | skip
  show wpAny _ _ (updateSeq l (fun xs => xs.extract 0 ((a : Int)).toNat ++ new ++ xs.extract (max (a : Int) (c : Int)).toNat xs.size) >>= _) _ _ s
  rw [hmax, Int.toNat_natCast]
  refine wpAny_bind (wpAny_updateSeq (hz := Nat.le_trans (Nat.le_add_right _ _) hsz) (_hz' := hz') e rfl ?_)
  refine wpAny_bind (wpAny_letGo ?_)
  first
    | exact wpAny_bind (wpAny_pure (wpAny_pure ⟨.none, rfl, wpAny_pure h⟩))
    | exact wpAny_pure ⟨.none, rfl, wpAny_pure h⟩
end
section
variable {X : Cx}
end
end L2
namespace Att
open PySem PySem.W PySem.Calls PyProof.Rows
theorem ints_of_wellAll {P : Params} {h : Heap} : ∀ (ns : List Int) (vs : List Value), WellAll P h vs (ns.map WData.int) → IntsAre vs ns := by
  intro ns
  induction ns with
  | nil =>
    intro vs w
    rw [List.map_nil] at w
    cases w
    exact .nil
  | cons n ns ih =>
    intro vs w
    rw [List.map_cons] at w
    cases w with
    | cons a b =>
      cases a
      exact .cons _ _ (ih _ b)
theorem script_of {l : OpenLaw} {n : Nat} (hn : l.most = some n) {P : Params} {h : Heap} {args : List WData} {vals : List Value}
    (hpre : l.row.toRowW.claim.pre args = true) (hwl : WellAll P h vals args) :
    ∃ a vs ns, vals = [Value.ref a] ∧ args = [WData.list (ns.map WData.int)] ∧ h.get? a = some { cls := .type "list", data := .seq vs.toArray } ∧ IntsAre vs ns ∧ ns.length ≤ n := by
  have hsh : WShape.hasAll [] args [.list .int] = true := (pre_splitW hpre).1
  have hc : l.pre.holds [] { args := args } = true := (pre_splitW hpre).2
  obtain ⟨d, r, rfl, h1, h2⟩ := hasAllW_cons hsh
  obtain rfl := hasAllW_nil h2
  obtain ⟨xs, rfl, h3⟩ := hasW_list h1
  obtain ⟨ns, rfl⟩ := items_int h3
  have hlen : ns.length ≤ n := by
    unfold OpenLaw.pre at hc
    have h4 : (WTm.not (.lt (.lit (.int (n : Int))) (.len (.arg 0)))).holds [] { args := [.list (ns.map .int)] } = true := by
      have h4 := (holds_andW hc).1
      rw [hn] at h4
      exact h4
    have h5 := condW_of h4 (w_not (w_lt w_lit (w_len_list (w_arg rfl))))
    rw [List.length_map] at h5
    refine Nat.le_of_not_lt fun q => ?_
    have q' : (n : Int) < ((ns.length : Nat) : Int) := by omega
    first
      | (rw [decide_eq_true q'] at h5; exact absurd h5 (by decide))
      | (simp at h5; omega)
  cases hwl with
  | cons w1 w2 =>
    cases w2
    cases w1 with
    | list ho hall => exact ⟨_, _, ns, rfl, rfl, ho, ints_of_wellAll ns _ hall, hlen⟩
theorem post_true (l : OpenLaw) (args : List WData) : l.row.toRowW.claim.post args (.bool true) args = true :=
  postW_of (r := l.row.toRowW) (X := (true == true))
    (show WShape.has [] (.bool true) .bool = true by first | rfl | decide | simp [WShape.has, WShape.arms, WShape.armsAll])
    (show (WTm.eq .res (.lit (.bool true))).value [] { args := args, res := some (.bool true), after := args } = some (.bool (true == true)) from w_eq_bool (w_res rfl) w_lit) rfl
theorem attach_call {l : OpenLaw} {n : Nat} {q : Program} {loose : List Str} {XP : (Str → Option Value) → Heap → Prop} {YP : World → Heap → Prop} {d : DefRec}
    (hn : l.most = some n) (hdf : d.params.defaults = [])
    (call : ∀ (w : World) (s₀ s₁ : Shared) (mg mb : Str → Option Value) (fa : Addr) (o : Obj) (pm cd doc : Value) (a : Addr) (vs : List Value) (ns : List Int),
      Ground q loose [] XP w s₀ mg mb s₁.heap → YP w s₁.heap →
      s₁.heap.get? fa = some o → o.data = .func (docDef d.name d.params d.body d.scope pm cd doc) → s₁.heap.CodeRec cd d.name → mg d.name = some (.ref fa) →
      s₁.heap.get? a = some { cls := .type "list", data := .seq vs.toArray } → IntsAre vs ns → ns.length ≤ n → s₁.gens = #[] →
      codeAny (model l.prog w) callerA (.call (.ref fa) ⟨[.ref a], []⟩) (fun r s' => r = .ok (.ret (.bool true)) ∧ OldK s₁.heap s'.heap ∧ s'.os = s₁.os ∧ AllBare s'.gens) s₁) :
    WalkO q loose XP YP l.row.toRowW d [] (fun f vs => PySem.call f vs) := by
  intro w s₀ s₁ mg mb G Y fa o pm cd doc dV kV ho hd hcd hD hmg hg args vals as hpre hlay hrd hwl hlo
  obtain rfl : dV = .none := Dflts.none hD hdf
  obtain rfl : kV = .none := Dflts.noKw hD
  obtain ⟨a, vs, ns, rfl, rfl, hobj, hints, hlen⟩ := script_of hn hpre hwl
  refine enter_call (codeAny_mono (call w s₀ s₁ mg mb fa o pm cd doc a vs ns G Y ho (fd_plain hd) hcd hmg hobj hints hlen hg) fun r s' hq => ?_)
  obtain ⟨rfl, h2, h3, h4⟩ := hq
  exact ⟨.inl ⟨.bool true, .bool true, [], rfl, fun _ => rfl, .bool true, post_true l _, fun _ => ⟨List.Pairwise.nil, fun _ hm => (nomatch hm)⟩⟩, h2, h3, h4⟩
section
variable {prog : Program} {w : World} {A : Around} {E : Value → Shared → Prop} {s : Shared} {K : Frag}
end
end Att
namespace L2
open PySem PySem.Spec PyProof.Rows
theorem vals_ints : ∀ {vs : List Value} {ns : List Int}, IntsAre vs ns → Vals (ns.map V.int) vs
  | _, _, .nil => .nil
  | _, _, .cons n t h => .cons ⟨t, rfl⟩ (vals_ints h)
noncomputable def Only (H : Hp) : Prop := ∀ b, H b = none ∨ ∃ o xs, H b = some (.frz o (.lst xs))
theorem law_call {P : Program} {w : World} {K : PySem.W.Frag} {mg mb : Str → Option Value} {CX : CXT} {k : Nat} {fa a : Addr} {fd : FuncData} {x : Str} {sp : Sp} {s₁ : Shared} {vs : List Value} {ns : List Int}
    (KX : K.In s₁.heap) (hns : s₁.heap.Ns mainGlobals mg) (hb : s₁.heap.Ns builtinsNs mb) (hbb : ∀ x : Str, x ≠ "__name__" → mb x = bootBuiltins x) (hlim : s₁.heap.NoLimit) (hg : s₁.gens = #[])
    (ha : s₁.heap.get? a = some { cls := .type "list", data := .seq vs.toArray }) (hi : IntsAre vs ns) (hl : ns.length ≤ sizeLine) (hr : Room k callerA)
    (F : ∀ base : Heap, K.In base → base.Ns mainGlobals mg → FnOk P w K mg base CX k fa fd [x] sp) (hbind : ∀ (s : Shared) (u : Value), BindsTo s fd ⟨[u], []⟩ [(x, u)])
    (hsp : ∀ H : Hp, Only H → SqL K H a (ns.map V.int) → sp [.ref a] H (fun v _ => v = .bl true) fun _ _ _ => False)
    (hCX : ∀ H e s', CX [] H s₁ (fun _ _ _ => False) e s' → False) :
    codeAny (model P w) callerA (.call (.ref fa) ⟨[.ref a], []⟩) (fun r s' => r = .ok (.ret (.bool true)) ∧ OldK s₁.heap s'.heap ∧ s'.os = s₁.os ∧ AllBare s'.gens) s₁ := by
  have rv := vals_ints hi
  have lenV := hi.length
  have core : ∀ H : Hp, Only H → SqL K H a (ns.map V.int) → HOk P w H s₁.heap → (∀ b, H b ≠ none → b = a) → (H a ≠ none → K.lookup a = none) →
      codeAny (model P w) callerA (.call (.ref fa) ⟨[.ref a], []⟩) (fun r s' => r = .ok (.ret (.bool true)) ∧ OldK s₁.heap s'.heap ∧ s'.os = s₁.os ∧ AllBare s'.gens) s₁ := by
    intro H hO hS hok hA hK
    have base_of : ∀ {b : Addr} {o : Obj}, s₁.heap.get? b = some o → H b = none → (hidT s₁.heap H).get? b = some o := fun e n => hidT_get e n
    have noA : ∀ {b : Addr} {o : Obj} {es : Array DictEntry} {ep : Nat}, s₁.heap.get? b = some o → o.data = .dict es ep → H b = none := fun {b o es ep} e d => by
      cases q : H b with
      | none => rfl
      | some u =>
        have e' : b = a := hA b (by rw [q]; simp)
        subst e'
        rw [ha] at e; cases e
        have d' : Data.seq vs.toArray _ = Data.dict es ep := d
        cases d'
    have nsK : ∀ {b : Addr} {m : Str → Option Value}, s₁.heap.Ns b m → (hidT s₁.heap H).Ns b m := fun {b m} ⟨o, es, ep, e, d, r⟩ => ⟨o, es, ep, base_of e (noA e d), d, r⟩
    have hKb : K.In (hidT s₁.heap H) := fun b o e => base_of (KX b o e) (by
      cases q : H b with
      | none => rfl
      | some u =>
        have e' : b = a := hA b (by rw [q]; simp)
        subst e'
        rw [hK (by rw [q]; simp)] at e; cases e)
    have hM : Mod K mg (hidT s₁.heap H) := ⟨hKb, nsK hns, ⟨mb, nsK hb, hbb⟩, let ⟨mc, h1, h2⟩ := hlim; ⟨mc, nsK h1, h2⟩⟩
    have e0 : Env0 P w K mg (hidT s₁.heap H) callerA [] s₁ H := ⟨rfl, hM, fun b o e => of_hidT e, Nat.le_of_eq (hidT_size _ _), trivial, fun b hb => absurd (show b ∈ ([] : List Addr) from hb) (by simp), hok, .of_eq hg⟩
    refine codeAny_mono ((F _ hKb (nsK hns)).run callerA [] s₁ H ⟨[.ref a], []⟩ [.ref a] [.ref a] _ _ hr e0 (hbind s₁ (.ref a)) (.cons rfl .nil) (hsp H hO hS)) fun r s' h => ?_
    cases r with
    | error e => exact (hCX H e s' h).elim
    | ok fl =>
      cases fl with
      | next => exact False.elim h
      | brk => exact False.elim h
      | cont => exact False.elim h
      | ret u =>
        obtain ⟨v, H', os, bare, un, hok', r', q⟩ := h
        have q' : v = .bl true := q
        subst q'
        obtain rfl : u = Value.bool true := r'
        refine ⟨rfl, OldK.of_keep fun b o e => ?_, os, bare⟩
        cases q : H b with
        | none => exact un.keep b o e q (by intro z; exact absurd (show b ∈ ([] : List Addr) from z) (by simp)) (by simp)
        | some u =>
          rcases hO b with z | ⟨ob, xs, z⟩
          · rw [q] at z; cases z
          · have z2 := un.frzs b ob _ z
            obtain ⟨e1, _⟩ := hok b _ z
            obtain ⟨e2, _⟩ := hok' b _ z2
            rw [e] at e1; cases e1
            exact e2
  cases hk : K.lookup a with
  | some o =>
    have e := KX a o hk
    rw [ha] at e
    cases e
    refine core (fun _ => none) (fun _ => .inl rfl) (.inr ⟨_, vs.toArray, _, hk, rfl, rfl, rfl, by rw [List.size_toArray, lenV]; exact hl, by simpa using rv⟩) (fun b u z => by have z' : (none : Option HO) = some u := z; cases z') (fun b z => absurd rfl z) fun z => absurd rfl z
  | none =>
    refine core (fun b => if b = a then some (.frz { cls := .type "list", data := .seq vs.toArray } (.lst (ns.map V.int))) else none) (fun b => ?_) (.inl (.inr ⟨{ cls := .type "list", data := .seq vs.toArray }, if_pos rfl⟩)) (fun b u z => ?_) (fun b z => ?_) fun _ => hk
    · by_cases hb : b = a
      · exact .inr ⟨_, _, if_pos hb⟩
      · exact .inl (if_neg hb)
    · by_cases hb : b = a
      · have z' := (if_pos hb).symm.trans z
        cases z'
        subst hb
        exact ⟨ha, by rw [List.length_map]; exact hl, vs, _, rv, ha⟩
      · have z' := (if_neg hb).symm.trans z
        cases z'
    · by_cases hb : b = a
      · exact hb
      · exact absurd (if_neg hb) z
end L2
namespace L2
open PySem PySem.Spec PyProof.Rows
theorem walk_of {l : PySem.W.OpenLaw} {n k : Nat} {q : Program} {loose : List Str} {XP : (Str → Option Value) → Heap → Prop} {YP : World → Heap → Prop} {d : DefRec} {K : Params → PySem.W.Frag} {CX : World → CXT} {sp : World → Sp} {x : Str}
    (hn : l.most = some n) (hn2 : n ≤ sizeLine) (hdf : d.params.defaults = []) (hr : Room k callerA)
    (hY : ∀ (w : World) (h : Heap), YP w h → (K w.params).In h)
    (F : ∀ (w : World) (mg : Str → Option Value) (fa : Addr) (h : Heap), (K w.params).In h → h.Ns mainGlobals mg → mg d.name = some (.ref fa) →
      ∃ fd : FuncData, (∀ (s : Shared) (u : Value), BindsTo s fd ⟨[u], []⟩ [(x, u)]) ∧
        ∀ base : Heap, (K w.params).In base → base.Ns mainGlobals mg → FnOk l.prog w (K w.params) mg base (CX w) k fa fd [x] (sp w))
    (hsp : ∀ (w : World) (H : Hp) (a : Addr) (ns : List Int), ns.length ≤ n → Only H → SqL (K w.params) H a (ns.map V.int) → sp w [.ref a] H (fun v _ => v = .bl true) fun _ _ _ => False)
    (hCX : ∀ (w : World) (H : Hp) (s : Shared) (e : Value) (s' : Shared), CX w [] H s (fun _ _ _ => False) e s' → False) :
    PySem.W.WalkO q loose XP YP l.row.toRowW d [] (fun f vs => PySem.call f vs) := by
  refine Att.attach_call hn hdf fun w s₀ s₁ mg mb fa o pm cd doc a vs ns G Y ho hd hcd hmg hobj hints hlen hg => ?_
  have KX := hY w _ Y
  obtain ⟨fd, hb, hF⟩ := F w mg fa _ KX G.T.g hmg
  exact law_call KX G.T.g G.T.b G.T.builtins G.T.nolimit hg hobj hints (Nat.le_trans hlen hn2) hr hF hb (fun H hO hS => hsp w H a ns hlen hO hS) fun H e s' => hCX w H s₁ e s'
end L2
namespace L2
open PySem PySem.Spec PyProof.Rows
noncomputable def defArgs (s : Stmt) : Arguments := match s with
  | .FunctionDef _ a _ _ _ _ _ _ _ _ => a
  | _ => { posonlyargs := [], args := [], vararg := none, kwonlyargs := [], kw_defaults := [], kwarg := none, defaults := [] }
noncomputable def defBody (s : Stmt) : List Stmt := match s with
  | .FunctionDef _ _ b _ _ _ _ _ _ _ => b
  | _ => []
noncomputable def defScope (s : Stmt) : Scope := match s with
  | .FunctionDef _ _ _ _ _ _ sc _ _ _ => sc
  | _ => { kind := .function, names := [], isGenerator := false, isCoroutine := false }
noncomputable abbrev CX0 : CXT := fun _ _ _ _ _ _ => False
noncomputable abbrev E0 : XK := fun _ _ _ => False
theorem pass0 {X : Cx} : Passes CX0 X E0 := fun _ _ _ _ _ _ _ h => h.elim
structure Fun (K : PySem.W.Frag) (x qual : Str) (st : Stmt) (f : Addr) (fd : FuncData) : Prop where
  ex : ∃ (oc : Value) (od : Option Addr) (kV doc pm : Value) (an : Option Addr) (cdv ct : Value) (osl : Array (Option Value)),
    fd = PySem.W.fnOf x qual (defArgs st) (defBody st) (defScope st) .none kV doc pm an cdv ct ∧ K.lookup f = some ⟨oc, od, .func fd, osl⟩ ∧ PySem.W.codeIn K cdv qual = true
  kp : PySem.W.keepIn K (.ref f) = true
section
variable {P : Program} {w : World} {K : PySem.W.Frag} {mg : Str → Option Value} {base : Heap}
theorem Fun.ok {x qual : Str} {st : Stmt} {f : Addr} {fd : FuncData} {N ps : List Str} {k : Nat} {sp : Sp} (F : Fun K x qual st f fd) (S : FnScope N ps (defScope st)) (len : ∀ vs H Q E, sp vs H Q E → vs.length = ps.length)
    (hbody : ∀ (cdv : Value) (A : Around) (outer : List Env) (s : Shared) (H : Hp) (vs : List V) (Q : VK) (E : XK), Room k (A.deeper (envOfC qual (defScope st) s.heap.objs.size f cdv)) → sp vs H Q E →
      ∃ t, PSs (cxOf CX0 P w K mg base N qual (defScope st) f cdv A outer s H E).nox (defBody st) t ∧ t { nx := fun _ H' => Q .non H', rt := Q } (start N vs) H) : FnOk P w K mg base CX0 (k + 1) f fd ps sp := by
  obtain ⟨oc, od, kV, doc, pm, an, cdv, ct, osl, rfl, lk, hcd⟩ := F.ex
  refine fn_of lk hcd S len fun A outer s H vs Q E hr hsp => ?_
  obtain ⟨t, h, q⟩ := hbody cdv A outer s H vs Q E hr hsp
  exact ⟨t, h.nox, q⟩
theorem Fun.binds {x qual : Str} {st : Stmt} {f : Addr} {fd : FuncData} {ps : List Str} (F : Fun K x qual st f fd)
    (h : ∀ (kV doc pm : Value) (an : Option Addr) (cdv ct : Value) (us : List Value), us.length = ps.length → bindArgs (PySem.W.fnOf x qual (defArgs st) (defBody st) (defScope st) .none kV doc pm an cdv ct) ⟨us, []⟩ = pure (ps.zip us)) : Binds K fd ps [] := by
  obtain ⟨oc, od, kV, doc, pm, an, cdv, ct, osl, rfl, lk, hcd⟩ := F.ex
  exact .all (h kV doc pm an cdv ct)
theorem fun_mk {x qual : Str} {st : Stmt} {f : Addr} {oc : Value} {od an : Option Addr} {osl : Array (Option Value)} {kV doc pm cdv ct : Value} (l : K.lookup f = some ⟨oc, od, .func (PySem.W.fnOf x qual (defArgs st) (defBody st) (defScope st) .none kV doc pm an cdv ct), osl⟩)
    (c : PySem.W.codeIn K cdv qual = true) (k : PySem.W.keepIn K (.ref f) = true) : Fun K x qual st f (PySem.W.fnOf x qual (defArgs st) (defBody st) (defScope st) .none kV doc pm an cdv ct) := ⟨⟨oc, od, kV, doc, pm, an, cdv, ct, osl, rfl, l, c⟩, k⟩
end
theorem hu_of {A : Around} {k : Nat} (hr : Room k A) : A.units + 1 < cLine := Nat.lt_of_le_of_lt (Nat.add_le_add_left (by decide : 1 ≤ 64) _) hr.units
section
variable {X : Cx}
theorem pv (i : Nat) {x : Str} {pos : Pos} (hN : X.N[i]? = some x := by rfl) (hv : Vis X.env.scope x := by first | exact Or.inl rfl | exact Or.inr (Or.inl rfl) | exact Or.inr (Or.inr rfl)) (hd : (x == ("__debug__" : Str)) = false := by decide)
    (hcd : (x == ("__classdict__" : Str)) = false := by decide) : PE X (.Name x pos) (tVar i) := pe_var hN hv hd hcd
end
noncomputable def Same (H H' : Hp) : Prop := ∀ b o, H b = some o → H' b = some o
theorem Same.refl (H : Hp) : Same H H := fun _ _ h => h
theorem Same.trans {H H1 H2 : Hp} (a : Same H H1) (b : Same H1 H2) : Same H H2 := fun c o h => b c o (a c o h)
theorem Same.free {H H' : Hp} (e : Same H H') {l : Addr} (h : H' l = Option.none) : H l = Option.none := by
  cases q : H l with
  | none => rfl
  | some o =>
    rw [e l o q] at h
    cases h
theorem Same.seq {K : PySem.W.Frag} {H H' : Hp} {a : Addr} {xs : List V} (e : Same H H') (h : SqL K H a xs) : SqL K H' a xs := by
  rcases h with (h | ⟨o, h⟩) | h
  · exact .inl (.inl (e _ _ h))
  · exact .inl (.inr ⟨o, e _ _ h⟩)
  · exact .inr h
end L2
set_option Elab.async false
set_option linter.all false
set_option maxRecDepth 100000
set_option maxHeartbeats 4000000
namespace L2
open PySem PySem.Spec PyProof.Rows
theorem closure_ok {env : Env} : ∀ (names : List (Str × NameKind)) (acc : List (Str × Addr)), (∀ p ∈ names, p.2 = .free → ∃ c, env.cells.lookup p.1 = some c) →
    (∀ y c, acc.lookup y = some c → env.cells.lookup y = some c) →
    ∃ cl, (forIn names acc (fun (p : Str × NameKind) (cs : List (Str × Addr)) => if (p.2 == NameKind.free) = true then (do let a ← cellOf env p.1; pure (ForInStep.yield ((p.1, a) :: cs))) else (pure (ForInStep.yield cs) : Sem _)) : Sem _) = pure cl ∧
      (∀ y c, cl.lookup y = some c → env.cells.lookup y = some c) ∧ (∀ y, (acc.lookup y).isSome = true → (cl.lookup y).isSome = true) ∧ ∀ y, (y, NameKind.free) ∈ names → (cl.lookup y).isSome = true
  | [], acc, _, h => ⟨acc, rfl, h, fun _ z => z, fun _ z => nomatch z⟩
  | (n, k) :: r, acc, hf, h => by
    by_cases hk : k = .free
    · subst hk
      obtain ⟨c, hc⟩ := hf (n, .free) List.mem_cons_self rfl
      obtain ⟨cl, e, h1, h2, h3⟩ := closure_ok r ((n, c) :: acc) (fun p hp => hf p (List.mem_cons_of_mem _ hp)) (fun y d hd => by
        rw [List.lookup_cons] at hd
        cases q : y == n with
        | true => rw [q] at hd; cases hd; rw [eq_of_beq q]; exact hc
        | false => rw [q] at hd; exact h y d hd)
      refine ⟨cl, ?_, h1, fun y hy => h2 y ?_, fun y hy => ?_⟩
      · rw [List.forIn_cons]
        have e0 : cellOf env n = pure c := by unfold cellOf; rw [hc]
        simp only [beq_self_eq_true, if_true, e0, pure_bind]
        exact e
      · rw [List.lookup_cons]
        cases q : y == n with
        | true => rfl
        | false => exact hy
      · rcases List.mem_cons.mp hy with q | q
        · cases q
          refine h2 n ?_
          rw [List.lookup_cons, beq_self_eq_true]
          rfl
        · exact h3 y q
    · obtain ⟨cl, e, h1, h2, h3⟩ := closure_ok r acc (fun p hp => hf p (List.mem_cons_of_mem _ hp)) h
      refine ⟨cl, ?_, h1, h2, fun y hy => ?_⟩
      · rw [List.forIn_cons]
        have e0 : (k == NameKind.free) = false := by simpa using hk
        simp only [e0, Bool.false_eq_true, if_false, pure_bind]
        exact e
      · rcases List.mem_cons.mp hy with q | q
        · cases q; exact absurd rfl hk
        · exact h3 y q
theorem closureFor_ok {env : Env} {scope : Scope} (hf : ∀ p ∈ scope.names, p.2 = .free → ∃ c, env.cells.lookup p.1 = some c) :
    ∃ cl, closureFor scope env = pure cl ∧ (∀ y c, cl.lookup y = some c → env.cells.lookup y = some c) ∧ ∀ y, (y, NameKind.free) ∈ scope.names → (cl.lookup y).isSome = true := by
  obtain ⟨cl, e, h1, _, h3⟩ := closure_ok (env := env) scope.names [] hf (fun y c h => by simp at h)
  refine ⟨cl, ?_, h1, h3⟩
  unfold closureFor
  have e' := congrArg (fun m : Sem (List (Str × Addr)) => m >>= fun cs => pure cs) e
  simp only [pure_bind] at e'
  rw [← e']
structure CompIn where
  cl : List (Str × Addr)
  C : Addr
  s : Shared
  H : Hp
  ex : List Addr
noncomputable def cxComp (X : Cx) (scope : Scope) (N : List Str) (c : CompIn) : Cx :=
  { X with N := N, s₀ := c.s, H₀ := c.H, env := compEnvC scope c.cl c.C X.env, outer := X.stack, stack := X.stack, ex := c.ex, fn := fun _ => false, pn := [], xe := fun _ _ => False }
noncomputable def capSt (k : Nat) (cap : List Nat) (σ : St) : St := List.replicate k none ++ cap.map fun i => (σ[i]?).getD none
noncomputable def tTrue : TT := fun _ H Q => Q true H
section
variable {prog : Program} {w : World} {A : Around} {R : Result → Shared → Prop} {s : Shared}
theorem compLoopT {elt target iter : Expr} {ifs : List Expr} {scope : Scope} {pos : Pos} {it acc : Value} {env : Env} (I : Nat → Shared → Prop)
    (turn : ∀ n s, I n s → wpAny (model prog w) A (pyNext it) (fun r s₁ => match r with
      | none => R (.ok .next) s₁
      | some v => wpAny (model prog w) A (letOwnedTupleGo target it v) (fun _ s₁' => wpAny (model prog w) A (assign target env v) (fun _ s₂ =>
          wpAny (model prog w) A (forIn ifs true fun c r => if r = true then do let ok ← isTrue c env (eval c env); pure (ForInStep.yield ok) else pure (ForInStep.yield r)) (fun ok s₃ =>
            if ok = true then wpAny (model prog w) A (eval elt env) (fun x s₄ =>
              wpAny (model prog w) A (call (.builtin "list.append") [acc, x]) (fun _ s₅ => ∃ m, m < n ∧ I m s₅) (fun _ _ => False) s₄) (fun _ _ => False) s₃
            else ∃ m, m < n ∧ I m s₃) (fun _ _ => False) s₂) (fun _ _ => False) s₁') (fun _ _ => False) s₁) (fun _ _ => False) s)
    (n : Nat) (h : I n s) :
    codeAny (model prog w) A (.compLoop (.ListComp elt [⟨target, iter, ifs, 0⟩] scope pos) 0 it acc env) R s := by
  refine codeAny_loop rfl I (fun n s hI => ?_) n h
  show wpAny _ A ((compTurn (.ListComp elt [⟨target, iter, ifs, 0⟩] scope pos) 0 it acc env).onRaise (fun x => do noteFrame x env; theTreesLotGoes x)) _ _ s
  refine wpAny_noted ?_
  refine wpAny_mono (E := fun _ _ => False) ?_ (fun _ _ q => q) (fun _ _ z => z.elim)
  rw [compTurn_list]
  refine wpAny_bind (wpAny_standAt (wpAny_bind (wpAny_mono (turn n s hI) (fun r s₁ h₁ => ?_) fun _ _ h' => h')))
  cases r with
  | none => exact wpAny_pure h₁
  | some v =>
    refine wpAny_bind (wpAny_mono h₁ (fun _ s₁' h₁' => ?_) fun _ _ h' => h')
    refine wpAny_bind (wpAny_mono h₁' (fun _ s₂ h₂ => wpAny_bind (wpAny_mono h₂ (fun ok s₃ h₃ => ?_) fun _ _ h' => h')) fun _ _ h' => h')
    cases ok with
    | false => exact wpAny_pure ⟨rfl, h₃⟩
    | true =>
      exact wpAny_bind (wpAny_bind (wpAny_mono h₃ (fun x s₄ h₄ => wpAny_bind (wpAny_mono h₄ (fun _ s₅ h₅ => wpAny_pure (wpAny_pure ⟨rfl, h₅⟩)) fun _ _ h' => h')) fun _ _ h' => h'))
end
noncomputable def PTs (X : Cx) (ifs : List Expr) (t : TT) : Prop :=
  ∀ (pins : List (Addr × Obj)) (s : Shared) (σ : St) (H : Hp) (Q : Bool → Hp → Prop), Inv X pins σ H s → t σ H Q →
    wpAny (model X.prog X.w) X.A (forIn ifs true fun c r => if r = true then do let ok ← isTrue c X.env (eval c X.env); pure (ForInStep.yield ok) else pure (ForInStep.yield r)) (TP X pins σ Q) X.xe s
theorem pts_nil {X : Cx} : PTs X [] tTrue := fun pins s σ H Q I h => wpAny_tests_nil ⟨H, I, h⟩
theorem lookup_relabel_free {env : Env} : ∀ {names : List (Str × NameKind)} {x : Str}, names.lookup x = some .free →
    (names.map fun (n, k) => if (k == NameKind.free && env.scope.kind == .function && env.kindOf n == some .cell) then (n, NameKind.cell) else (n, k)).lookup x = some .cell ∨
    (names.map fun (n, k) => if (k == NameKind.free && env.scope.kind == .function && env.kindOf n == some .cell) then (n, NameKind.cell) else (n, k)).lookup x = some .free
  | [], _, h => by simp at h
  | (n, k) :: r, x, h => by
    have ih := @lookup_relabel_free env r x
    show List.lookup x ((if (k == NameKind.free && env.scope.kind == .function && env.kindOf n == some .cell) = true then (n, NameKind.cell) else (n, k)) :: _) = _ ∨ List.lookup x ((if (k == NameKind.free && env.scope.kind == .function && env.kindOf n == some .cell) = true then (n, NameKind.cell) else (n, k)) :: _) = _
    cases hx : x == n with
    | true =>
      simp only [List.lookup_cons, hx] at h
      cases h
      by_cases hc : (NameKind.free == NameKind.free && env.scope.kind == .function && env.kindOf n == some .cell) = true
      · rw [if_pos hc]; left; simp only [List.lookup_cons, hx]
      · rw [if_neg hc]; right; simp only [List.lookup_cons, hx]
    | false =>
      simp only [List.lookup_cons, hx] at h
      by_cases hc : (k == NameKind.free && env.scope.kind == .function && env.kindOf n == some .cell) = true
      · rw [if_pos hc]; simp only [List.lookup_cons, hx]; exact ih h
      · rw [if_neg hc]; simp only [List.lookup_cons, hx]; exact ih h
theorem lookup_relabel_cf {env : Env} : ∀ {names : List (Str × NameKind)} {x : Str}, (∀ y ∈ names, y.2 ≠ .cell) →
    ((names.map fun (n, k) => if (k == NameKind.free && env.scope.kind == .function && env.kindOf n == some .cell) then (n, NameKind.cell) else (n, k)).lookup x = some .cell ∨
    (names.map fun (n, k) => if (k == NameKind.free && env.scope.kind == .function && env.kindOf n == some .cell) then (n, NameKind.cell) else (n, k)).lookup x = some .free) → (x, NameKind.free) ∈ names
  | [], _, _, h => by simp at h
  | (n, k) :: r, x, hn, h => by
    have ih := @lookup_relabel_cf env r x (fun y hy => hn y (List.mem_cons_of_mem _ hy))
    have h' : List.lookup x ((if (k == NameKind.free && env.scope.kind == .function && env.kindOf n == some .cell) = true then (n, NameKind.cell) else (n, k)) :: (r.map fun (n, k) => if (k == NameKind.free && env.scope.kind == .function && env.kindOf n == some .cell) then (n, NameKind.cell) else (n, k))) = some .cell ∨ List.lookup x ((if (k == NameKind.free && env.scope.kind == .function && env.kindOf n == some .cell) = true then (n, NameKind.cell) else (n, k)) :: (r.map fun (n, k) => if (k == NameKind.free && env.scope.kind == .function && env.kindOf n == some .cell) then (n, NameKind.cell) else (n, k))) = some .free := h
    cases hx : x == n with
    | true =>
      have e := eq_of_beq hx
      subst e
      by_cases hc : (k == NameKind.free && env.scope.kind == .function && env.kindOf x == some .cell) = true
      · have hk : k = .free := by
          have := (Bool.and_eq_true _ _ |>.mp ((Bool.and_eq_true _ _ |>.mp hc).1)).1
          exact eq_of_beq this
        subst hk
        exact List.mem_cons_self
      · rw [if_neg hc] at h'
        simp only [List.lookup_cons, hx] at h'
        have hk := hn (x, k) List.mem_cons_self
        rcases h' with z | z
        · exact absurd (Option.some.inj z) hk
        · rw [Option.some.inj z]; exact List.mem_cons_self
    | false =>
      refine List.mem_cons_of_mem _ (ih ?_)
      by_cases hc : (k == NameKind.free && env.scope.kind == .function && env.kindOf n == some .cell) = true
      · rw [if_pos hc] at h'; simp only [List.lookup_cons, hx] at h'; exact h'
      · rw [if_neg hc] at h'; simp only [List.lookup_cons, hx] at h'; exact h'
noncomputable def GoalW (J : It) (g : TG) (tt : TT) (te : TE) (l : Addr) (σ0 : St) (H0 : Hp) (Q : VK) : Prop :=
  ∃ W : Nat → Nat → St → Hp → Prop, (∃ m, W 0 m σ0 H0) ∧
      ∀ i m σ' H2, W i m σ' H2 → (J.stop i H2 ∧ Q (.ref l) H2) ∨ (J.go i H2 ∧ ∃ N : St → Hp → Prop, (∀ σ3 H3, N σ3 H3 → ∃ m', m' < m ∧ W (i + 1) m' σ3 H3) ∧
        ∀ x H3, J.yld i H2 x H3 → g x σ' H3 fun σ4 H4 => tt σ4 H4 fun b H5 => if b = true then te σ4 H5 fun y H6 => ∃ xs, H6 l = some (.lst xs) ∧ xs.length < sizeLine ∧ N σ4 (upd H6 l (.lst (xs ++ [y]))) else N σ4 H5)
noncomputable def tComp (wi : TI) (k : Nat) (cap : List Nat) (g : TG) (tt : TT) (te : TE) : TE := fun σ H Q => wi σ H fun J H1 => ∀ l, H1 l = none → GoalW J g tt te l (capSt k cap σ) (upd H1 l (.lst [])) Q
structure CompScope (X : Cx) (scope : Scope) (N : List Str) (k : Nat) (cap : List Nat) : Prop where
  kind : scope.kind = .function
  names : ∀ y ∈ scope.names, y.2 = .local → scope.names.lookup y.1 = some .local
  cell : ∀ y ∈ scope.names, y.2 ≠ .cell
  free : ∀ y ∈ scope.names, y.2 = .free → X.env.kindOf y.1 = some .cell ∨ X.env.kindOf y.1 = some .free
  len : N.length = k + cap.length
  cap : ∀ j i, cap[j]? = some i → ∃ y, N[k + j]? = some y ∧ X.N[i]? = some y ∧ scope.names.lookup y = some .free
theorem capSt_get {k : Nat} {cap : List Nat} {σ : St} {j : Nat} {v : V} (h : (capSt k cap σ)[j]? = some (some v)) : ∃ q i, j = k + q ∧ cap[q]? = some i ∧ σ[i]? = some (some v) := by
  unfold capSt at h
  by_cases hj : j < k
  · rw [List.getElem?_append_left (by simpa using hj), List.getElem?_replicate] at h
    split at h <;> cases h
  · rw [List.getElem?_append_right (by simpa using hj), List.length_replicate, List.getElem?_map] at h
    cases q : cap[j - k]? with
    | none => rw [q] at h; cases h
    | some i =>
      rw [q] at h
      have h' : (σ[i]?).getD none = some v := Option.some.inj h
      refine ⟨j - k, i, by omega, q, ?_⟩
      cases r : σ[i]? with
      | none => rw [r] at h'; cases h'
      | some o => rw [r] at h'; have : o = some v := h'; rw [this]
theorem HOk.but {P : Program} {w : World} {H : Hp} {h h' : Heap} {C : Addr} (x : HOk P w H h) (hC : H C = none) (k : ∀ b o, b ≠ C → h.get? b = some o → h'.get? b = some o) : HOk P w H h' := fun b u e => by
  have nit : ∀ b u, H b = some u → b ≠ C := fun b u e z => by rw [z, hC] at e; cases e
  refine (x b u e).stay (fun c v hc q => k c v ?_ q) (fun _ q => q) fun _ _ q => q
  rcases hc with z | z
  · rw [z]; exact nit b u e
  · exact nit c _ z
section
variable {X : Cx} {elt tg iter : Expr} {ifs : List Expr} {scope : Scope} {pos : Pos} {wi : TI} {g : TG} {tt : TT} {te : TE} {N : List Str} {k : Nat} {cap : List Nat}
theorem compOk {pins : List (Addr × Obj)} {σ : St} {H2 : Hp} {s2 : Shared} {cl : List (Str × Addr)} {C : Addr} {fp : List Addr} (S : CompScope X scope N k cap) (I2 : Inv X pins σ H2 s2)
    (hcl1 : ∀ y c, cl.lookup y = some c → X.env.cells.lookup y = some c) (hcl2 : ∀ y, (y, NameKind.free) ∈ scope.names → (cl.lookup y).isSome = true) (hC : s2.heap.objs.size ≤ C)
    (hf : ∀ b ∈ fp, FpOk X pins H2 b) (ho : ∀ b ∈ fp, b < s2.heap.objs.size) : (cxComp X scope N ⟨cl, C, s2, H2, fp⟩).Ok where
  mod := I2.ok.mod
  kind := S.kind
  glob := I2.ok.glob
  blt := I2.ok.blt
  above := hC
  inj := fun x y c h1 h2 => I2.ok.inj x y c (hcl1 x c h1) (hcl1 y c h2)
  has := fun x h => by
    have h' : (x, NameKind.free) ∈ scope.names := lookup_relabel_cf (env := X.env) S.cell h
    exact Option.isSome_iff_exists.mp (hcl2 x h')
  cab := fun _ _ z => by cases z
  hd := I2.ok.hd
  frames := I2.ok.frames
  stk := .inl rfl
  exf := fun b hb => ⟨Nat.ne_of_lt (Nat.lt_of_lt_of_le (ho b hb) hC), fun x c e => (hf b hb).2.2.2.2.1 x c (hcl1 x c e)⟩
  bs := I2.bs
  bsz := Nat.le_trans I2.ok.bsz I2.sz
  noex := fun b o e hb => by
    rcases (hf b hb).2.2.2.1 with z | z
    · exact I2.ok.noex b o e z
    · exact absurd (Nat.lt_of_lt_of_le (Heap.lt_size e) (Nat.le_trans I2.ok.bsz z)) (Nat.lt_irrefl _)
  exfs := fun b hb hb' => by
    rcases List.mem_cons.mp (I2.stkSub b hb') with z | z
    · exact (hf b hb).2.1 z
    · exact (hf b hb).2.2.1 z
  funs := I2.stack
  frf := I2.stkFree
theorem compInv {pins : List (Addr × Obj)} {σ : St} {H2 : Hp} {s2 : Shared} {cl : List (Str × Addr)} {C : Addr} {fp : List Addr} {h1 : Heap} {tk : Nat} {m0 : Str → Option Value} (S : CompScope X scope N k cap) (I2 : Inv X pins σ H2 s2)
    (hcl1 : ∀ y c, cl.lookup y = some c → X.env.cells.lookup y = some c) (hcl2 : ∀ y, (y, NameKind.free) ∈ scope.names → (cl.lookup y).isSome = true) (hC : C = s2.heap.objs.size + 1)
    (hf : ∀ b ∈ fp, FpOk X pins H2 b) (ho : ∀ b ∈ fp, b < s2.heap.objs.size) (hk : ∀ b o, s2.heap.get? b = some o → h1.get? b = some o) (hD : h1.get? s2.heap.objs.size = some { cls := .type "list", data := .seq #[] 0 }) (hns : h1.Ns C m0) :
    Inv (cxComp X scope N ⟨cl, C, s2, H2, fp⟩) [] (capSt k cap σ) (upd H2 s2.heap.objs.size (.lst [])) { s2 with heap := h1, toks := tk } := by
  have fr : H2 s2.heap.objs.size = none := I2.hok.fresh (Nat.le_refl _)
  have hCf : H2 C = none := I2.hok.fresh (hC ▸ Nat.le_succ _)
  refine ⟨compOk S I2 hcl1 hcl2 (hC ▸ Nat.le_succ _) hf ho, rfl, I2.bare, Un.laid hk (Nat.le_refl _) fr, ⟨m0, hns, fun i y v e1 e2 e3 => ?_⟩, fun x c e => ?_, ?_, fun x c e => ?_, fun p hp => absurd (show p ∈ ([] : List (Addr × Obj)) from hp) (by simp), I2.hok.laid hk (Nat.le_refl _) ?_, ?_⟩
  · obtain ⟨q, j, rfl, hj, hv⟩ := capSt_get e2
    obtain ⟨z, hz1, hz2, hz3⟩ := S.cap q j hj
    have e1' : N[k + q]? = some y := e1
    rw [hz1] at e1'
    cases e1'
    obtain ⟨m, hn, hl⟩ := I2.loc
    have hfr := S.free (y, .free) (PySem.mem_of_lookup hz3) rfl
    obtain ⟨u, r, l⟩ := hl j y v hz2 hv (by rcases hfr with z | z; exact .inr (.inl z); exact .inr (.inr z))
    refine ⟨u, r, .inr ⟨lookup_relabel_free (env := X.env) hz3, ?_⟩⟩
    obtain ⟨c, hc⟩ := Option.isSome_iff_exists.mp (hcl2 y (PySem.mem_of_lookup hz3))
    rcases l with ⟨hk', _⟩ | ⟨_, c', hc', hcell⟩
    · rcases hfr with z | z <;> (rw [hk'] at z; cases z)
    · have e := hcl1 y c hc
      rw [hc'] at e
      cases e
      obtain ⟨o, ho', hd⟩ := hcell
      exact ⟨_, hc, o, hk _ _ ho', hd⟩
  · obtain ⟨v, o, ho', hd⟩ := I2.cell x c (hcl1 x c e)
    exact ⟨v, o, hk _ _ ho', hd⟩
  · show upd H2 s2.heap.objs.size (.lst []) C = none
    rw [upd_ne (Nat.ne_of_gt (hC ▸ Nat.lt_succ_self _))]
    exact hCf
  · have e' := hcl1 x c e
    obtain ⟨v, q⟩ := I2.cell x c e'
    rw [upd_ne (Nat.ne_of_lt q.lt)]
    exact I2.freeC x c e'
  · exact ⟨Nat.zero_le _, [], 0, .nil, hD⟩
  · show (capSt k cap σ).length = N.length
    unfold capSt
    rw [List.length_append, List.length_replicate, List.length_map, S.len]
theorem pe_comp (hc : X.calm = true) (S : CompScope X scope N k cap) (hi : PI X tg iter wi) (hg : ∀ c, PG (cxComp X scope N c) tg g) (ht : ∀ c, PTs (cxComp X scope N c) ifs tt) (he : ∀ c, PE (cxComp X scope N c) elt te)
    (hs : ∀ x, foldedSetIterable iter X.env x = pure x := by intro _; rfl) : PE X (.ListComp elt [⟨tg, iter, ifs, 0⟩] scope pos) (tComp wi k cap g tt te) := by
  intro pins s σ H Q I h
  rw [eval_ListComp]
  obtain ⟨cl, hclos, hcl1, hcl2⟩ := closureFor_ok (scope := scope) (env := X.env) (fun p hp hf => I.ok.has p.1 (S.free p hp hf))
  refine wpAny_comprehension_free (use := none) rfl hs hclos S.kind S.names (thn (hi pins s σ H _ I h) fun v s1 h1 => thn h1 fun itv s2 h2 => ?_)
  obtain ⟨it, fp, tn, J, H2, e, I2, T, st2, f2, q2⟩ := h2
  subst e
  obtain ⟨W, ⟨m0, w0⟩, turn⟩ := q2 s2.heap.objs.size (I2.hok.fresh (Nat.le_refl _))
  have hob : ∀ b ∈ fp, b < s2.heap.objs.size := fun b hb => let ⟨o, e, _⟩ := T.obj _ _ st2 b hb; Heap.lt_size e
  refine wpAny_newObj_type (wpAny_newFunctionEnv S.cell (by intro y hy; simp at hy) (fun h₁ hns₁ hsb₁ => ?_) S.kind)
  dsimp only at hns₁ hsb₁ ⊢
  generalize hHH : s2.heap.push { cls := .type "list", dict := none, data := .seq ([] : List Value).toArray } = HH at hns₁ hsb₁ ⊢
  have hCC : HH.objs.size = s2.heap.objs.size + 1 := by rw [← hHH, Heap.size_push]
  have old : ∀ b o, s2.heap.get? b = some o → h₁.get? b = some o := fun b o e => hsb₁.extBut b o (Nat.ne_of_lt (hCC ▸ Nat.lt_succ_of_lt (Heap.lt_size e))) (Heap.get?_push_of_some _ (hHH ▸ Heap.get?_push_of_some _ e))
  have hD : h₁.get? s2.heap.objs.size = some { cls := .type "list", data := .seq #[] 0 } := hsb₁.extBut _ _ (Nat.ne_of_lt (hCC ▸ Nat.lt_succ_self _)) (Heap.get?_push_of_some _ (hHH ▸ Heap.get?_push_size _ rfl))
  have I4 := fun tk => compInv (tk := tk) S I2 hcl1 hcl2 hCC f2 hob old hD hns₁
  have X' := cxComp X scope N ⟨cl, HH.objs.size, s2, H2, fp⟩
  have stat : ∀ {H' : Hp}, (∀ b ∈ fp, H' b = none) → ∀ b ∈ fp, FpOk (cxComp X scope N ⟨cl, HH.objs.size, s2, H2, fp⟩) [] H' b := fun hn b hb =>
    ⟨hn b hb, Nat.ne_of_lt (hCC ▸ Nat.lt_succ_of_lt (hob b hb)), (compOk S I2 hcl1 hcl2 (hCC ▸ Nat.le_succ _) f2 hob).exfs b hb, .inl hb, fun x c e => (f2 b hb).2.2.2.2.1 x c (hcl1 x c e), fun p hp => absurd (show p ∈ ([] : List (Addr × Obj)) from hp) (by simp)⟩
  have loop : ∀ s₃ : Shared, s₃ = { s2 with heap := h₁, toks := s2.toks + ([] : List (Str × Value)).length } →
      codeAny (model X.prog X.w) X.A (.compLoop (.ListComp elt [⟨tg, iter, ifs, 0⟩] scope pos) 0 (.ref it) (.ref s2.heap.objs.size) (compEnvC scope cl HH.objs.size X.env))
        (compPost (model X.prog X.w) X.A X.xe none (EP X pins σ Q) (.ref s2.heap.objs.size) HH.objs.size) s₃ := by
    rintro s₃ rfl
    refine compLoopT (fun n s' => ∃ i σ' H', Inv (cxComp X scope N ⟨cl, HH.objs.size, s2, H2, fp⟩) [] σ' H' s' ∧ tn i s'.heap ∧ (∀ b ∈ fp, H' b = none) ∧ W i n σ' H') ?_ m0
      ⟨0, capSt k cap σ, _, I4 _, T.keep _ _ _ st2 fun b _ o e => old b o e, fun b hb => by rw [upd_ne (Nat.ne_of_lt (hob b hb))]; exact (f2 b hb).1, w0⟩
    rintro n s3 ⟨i, σ3, H3, I3, st3, fr3, w3⟩
    rcases turn i n σ3 H3 w3 with ⟨stop, qn⟩ | ⟨go, NN, hN, step⟩
    · refine thn (T.done (cxComp X scope N ⟨cl, HH.objs.size, s2, H2, fp⟩) rfl rfl rfl hc i [] s3 σ3 H3 _ I3 (stat fr3) st3 stop) fun r s4 ⟨hr, J4⟩ => ?_
      subst hr
      obtain ⟨m, hn, _⟩ := J4.loc
      refine ⟨m, hn, fun h' hs' => ?_⟩
      have keepC : ∀ b o, b ≠ HH.objs.size → s4.heap.get? b = some o → h'.get? b = some o := fun b o hb e => hs'.extBut b o hb e
      have ltC : ∀ b o, s2.heap.get? b = some o → b ≠ HH.objs.size := fun b o e => Nat.ne_of_lt (hCC ▸ Nat.lt_succ_of_lt (Heap.lt_size e))
      have u := J4.base
      have u' : Un (frs X.stack) fp H2 H3 s2.heap h' := ⟨fun b o q n hb hx => keepC b o (ltC b o q) (u.keep b o q n hb hx), fun b o q n hb hx => by
          obtain ⟨sl, e⟩ := u.slot b o q n hb hx
          exact ⟨sl, keepC b _ (ltC b o q) e⟩, u.free, fun b o q hx => by
          obtain ⟨o', e⟩ := u.there b o q hx
          exact ⟨o', keepC b _ (ltC b o q) e⟩, u.tups, u.frzs, u.tbls⟩
      refine ⟨.ref s2.heap.objs.size, H3, I2.call' (ch := fp) J4.os u' (J4.hok.but J4.free keepC) J4.bare fun b hb => ?_, rfl, qn⟩
      obtain ⟨_, f1, _, f3, f4, f5⟩ := f2 b hb
      exact ⟨f3, f1, f4, f5⟩
    · refine thn (T.item (cxComp X scope N ⟨cl, HH.objs.size, s2, H2, fp⟩) rfl rfl rfl hc i [] s3 σ3 H3 _ I3 (stat fr3) st3 go) fun r s4 ⟨u, hr, h4⟩ => ?_
      subst hr
      refine thn h4 fun _ s5 ⟨x, H5, I5, r5, y5, st5, fr5⟩ => ?_
      have I5' := I5.pinned (stat fr5) (T.obj _ _ st5)
      have again : ∀ {s7 : Shared} {σ7 : St} {H7 : Hp}, Inv (cxComp X scope N ⟨cl, HH.objs.size, s2, H2, fp⟩) ([] ++ pinsAt fp s5.heap) σ7 H7 s7 → NN σ7 H7 →
          ∃ m, m < n ∧ ∃ i σ' H', Inv (cxComp X scope N ⟨cl, HH.objs.size, s2, H2, fp⟩) [] σ' H' s7 ∧ tn i s7.heap ∧ (∀ b ∈ fp, H' b = none) ∧ W i m σ' H' := fun {s7 σ7 H7} I7 n7 => by
        obtain ⟨m', hm, w7⟩ := hN σ7 H7 n7
        refine ⟨m', hm, i + 1, σ7, H7, I7.unpinned, T.keep _ _ _ st5 fun b hb o e => (I7.pin (b, o) (List.mem_append_right _ (List.mem_append_right _ (mem_pinsAt hb e)))).1, fun b hb => ?_, w7⟩
        obtain ⟨o, e, d⟩ := T.obj _ _ st5 b hb
        exact (I7.pin (b, o) (List.mem_append_right _ (List.mem_append_right _ (mem_pinsAt hb e)))).2.1
      refine thn (hg _ _ s5 σ3 H5 x u _ I5' r5 (step x H5 y5)) fun _ s6 ⟨σ6, H6, I6, q6⟩ => ?_
      refine thn (ht _ _ s6 σ6 H6 _ I6 q6) fun b s7 ⟨H7, I7, q7⟩ => ?_
      cases b with
      | false => exact again I7 q7
      | true =>
        refine thn (he _ _ s7 σ6 H7 _ I7 q7) fun y s8 ⟨yv, H8, I8, r8, xs, hl, hz, n8⟩ => ?_
        refine thn (mt_append _ s8 σ6 H8 (.ref s2.heap.objs.size) [yv] (.ref s2.heap.objs.size) [y] (fun _ H9 => NN σ6 H9) I8 rfl (.cons r8 .nil) ⟨_, xs, yv, rfl, rfl, hl, hz, n8⟩) fun _ s9 ⟨_, H9, I9, _, q9⟩ => ?_
        exact again I9 q9
  exact codeAny_compStart_list (loop _ rfl) (T.self X.A 0 _ _ _ (T.keep _ _ _ st2 fun b _ o e => old b o e) (loop _ rfl))
end
end L2
set_option Elab.async false
set_option linter.all false
set_option maxRecDepth 100000
set_option maxHeartbeats 4000000
namespace L2
open PySem PySem.Spec PyProof.Rows
noncomputable def Its (z : Str) : It := ⟨fun i _ => i < z.cps.size, fun i H x H' => H' = H ∧ ∃ c, z.cps[i]? = some c ∧ x = .str ⟨#[c]⟩, fun i _ => z.cps.size ≤ i⟩
theorem turn_strA {P : Program} {w : World} {K : PySem.W.Frag} {tg : Expr} (z : Str) (t : Tok) (it : Addr) : Turn P w K tg (Its z) [it] it (fun i h => h.IsStrIter it "str_ascii_iterator" z t i) where
  mem := by simp
  obj := fun i h st b hb => by
    have e : b = it := by simpa using hb
    subst e
    obtain ⟨o, e, c, d⟩ := st
    exact ⟨o, e, fun v z => by rw [d] at z; cases z⟩
  keep := fun i h h' st k => let ⟨o, e, r⟩ := st; ⟨o, k it (by simp) o e, r⟩
  item := by
    intro X hP hw hK hc i pins s σ H E I hf st hg
    subst hP hw hK
    obtain ⟨f0, f1, f2, f3, f4, f5⟩ := hf it (by simp)
    have hg' : i < z.cps.size := hg
    refine wpAny_pyNext_ascii_item st (c := z.cps[i]) (by simp [hg']) fun h' st' sb => ?_
    have I1 : Inv X pins σ H { s with heap := h', toks := s.toks + 1 } := I.turned (fun b o hb e => (sb.2 b hb).trans e) f0 f1 f3 f4 f5
    obtain ⟨o, e, c, d⟩ := id st'
    exact ⟨_, rfl, go_of (s := { s with heap := h', toks := s.toks + 1 }) e c d (by decide) ⟨.str ⟨#[z.cps[i]]⟩, H, I1, ⟨_, rfl⟩, ⟨rfl, _, by simp [hg'], rfl⟩, st', fun b hb => (hf b hb).1⟩⟩
  done := by
    intro X hP hw hK hc i pins s σ H E I hf st hg
    subst hP hw hK
    obtain ⟨f0, f1, f2, f3, f4, f5⟩ := hf it (by simp)
    exact wpAny_pyNext_ascii_end (I.ok.hd hc) st (Array.getElem?_eq_none hg) fun h' eb => ⟨rfl, I.turned (t' := s.toks) (fun b o hb e => eb b o hb e) f0 f1 f3 f4 f5⟩
  self := fun A i s Q E st h => by
    refine wpAny_pyIter_slot st.typeIs F.slot_str_ascii_iterator_iter (wpAny_call_entry F.slot_str_ascii_iterator_iter st.typeIs F.entry_str_ascii_iterator_iter ?_ (F.args_str_ascii_iterator_iter_1 _))
    show wpAny _ _ (ret (.ref it)) _ _ s
    exact wpAny_pure ⟨_, rfl, "str_ascii_iterator", _, st.typeIs, F.slot_str_ascii_iterator_next.lookup, h⟩
theorem turn_strW {P : Program} {w : World} {K : PySem.W.Frag} {tg : Expr} (z : Str) (t : Tok) (it : Addr) : Turn P w K tg (Its z) [it] it (fun i h => h.IsStrIter it "str_iterator" z t i) where
  mem := by simp
  obj := fun i h st b hb => by
    have e : b = it := by simpa using hb
    subst e
    obtain ⟨o, e, c, d⟩ := st
    exact ⟨o, e, fun v z => by rw [d] at z; cases z⟩
  keep := fun i h h' st k => let ⟨o, e, r⟩ := st; ⟨o, k it (by simp) o e, r⟩
  item := by
    intro X hP hw hK hc i pins s σ H E I hf st hg
    subst hP hw hK
    obtain ⟨f0, f1, f2, f3, f4, f5⟩ := hf it (by simp)
    have hg' : i < z.cps.size := hg
    refine wpAny_pyNext_wide_item st (c := z.cps[i]) (by simp [hg']) fun h' st' sb => ?_
    have I1 : Inv X pins σ H { s with heap := h', toks := s.toks + 1 } := I.turned (fun b o hb e => (sb.2 b hb).trans e) f0 f1 f3 f4 f5
    obtain ⟨o, e, c, d⟩ := id st'
    exact ⟨_, rfl, go_of (s := { s with heap := h', toks := s.toks + 1 }) e c d (by decide) ⟨.str ⟨#[z.cps[i]]⟩, H, I1, ⟨_, rfl⟩, ⟨rfl, _, by simp [hg'], rfl⟩, st', fun b hb => (hf b hb).1⟩⟩
  done := by
    intro X hP hw hK hc i pins s σ H E I hf st hg
    subst hP hw hK
    obtain ⟨f0, f1, f2, f3, f4, f5⟩ := hf it (by simp)
    exact wpAny_pyNext_wide_end (I.ok.hd hc) st (Array.getElem?_eq_none hg) fun h' eb => ⟨rfl, I.turned (t' := s.toks) (fun b o hb e => eb b o hb e) f0 f1 f3 f4 f5⟩
  self := fun A i s Q E st h => by
    refine wpAny_pyIter_slot st.typeIs F.slot_str_iterator_iter (wpAny_call_entry F.slot_str_iterator_iter st.typeIs F.entry_str_iterator_iter ?_ (F.args_str_iterator_iter_1 _))
    show wpAny _ _ (ret (.ref it)) _ _ s
    exact wpAny_pure ⟨_, rfl, "str_iterator", _, st.typeIs, F.slot_str_iterator_next.lookup, h⟩
section
variable {X : Cx} {tg : Expr}
end
noncomputable def isBl (bs : List Bool) : List V := bs.map V.bl
theorem bl_of {bs : List Bool} {its : List Value} (r : Vals (isBl bs) its) : ∀ i : Nat, its[i]? = (bs[i]?).map Value.bool := by
  induction bs generalizing its with
  | nil => cases r; intro i; simp
  | cons b bs ih =>
    cases r with
    | cons r rr =>
      cases r
      intro i
      cases i with
      | zero => rfl
      | succ i => exact ih rr i
theorem range_all {n : Nat} {f : Nat → Bool} {l : List Bool} (hn : l.length = n) (h : ∀ i b, l[i]? = some b → f i = b) : (List.range n).all f = l.all id := by
  induction l generalizing n f with
  | nil => subst hn; rfl
  | cons b l ih =>
    subst hn
    rw [List.length_cons, List.range_succ_eq_map, List.all_cons, List.all_map, List.all_cons, h 0 b rfl, ih (n := l.length) (f := f ∘ Nat.succ) rfl fun i b e => h (i + 1) b e]
    rfl
section
variable {X : Cx}
theorem call_all (hc : X.calm = true) : CallR X (.builtin "all") (fun xs H Q => ∃ p bs, xs = [.ref p] ∧ SqL X.K H p (isBl bs) ∧ Q (.bl (bs.all id)) H) := by
  intro pins s σ H xs us Q I r h
  obtain ⟨p, bs, rfl, hq, q⟩ := h
  obtain ⟨u, rfl, rx⟩ := vals1 r
  cases rx
  obtain ⟨its, rv, pl, hz⟩ := I.list hq
  have hg := bl_of rv
  have hlen : bs.length = its.length := by have := rv.length; simpa [isBl] using this
  refine call_all_walk (wpAny_pyIter_list pl.isList ?_)
  have hlt : p < s.heap.objs.size := let ⟨o, _, e, _⟩ := pl; Heap.lt_size e
  refine ⟨s.heap.objs.size, _, _, _, _, _, fun i => (bs[i]?).getD false, rfl, Walks.list (by exact I.ok.hd hc) s.heap.objs.size p (Nat.ne_of_lt hlt) its.toArray, ⟨⟨_, Heap.get?_push_size _ rfl, rfl, rfl⟩, pl.isList.at fun o e => Heap.get?_push_of_some _ e⟩, ?_, ?_⟩
  · intro i v s' Q' E' hv hq'
    have hv' : its[i]? = some v := by simpa using hv
    rw [hg i] at hv'
    cases e : bs[i]? with
    | none => rw [e] at hv'; cases hv'
    | some b =>
      dsimp only at hq'
      rw [e] at hv' hq'
      cases hv'
      exact wpAny_truthy_bool hq'
  · intro h' tk hk
    have e1 : (List.range its.toArray.size).all (fun i => (bs[i]?).getD false) = bs.all id := range_all (by simpa using hlen) (fun i b e => by rw [e]; rfl)
    rw [e1]
    have I1 : Inv X pins σ H { s with heap := s.heap.push { cls := .type "list_iterator", data := .fields #[.ref p, .int 0 0] }, toks := s.toks } := I.kept fun b o e => Heap.get?_push_of_some _ e
    have f1 := I.fpOk (H' := H) (Nat.le_refl _) (I.hok.fresh (Nat.le_refl _))
    obtain ⟨f0, f1, f2, f3, f4, f5⟩ := f1
    exact ⟨.bl _, H, I1.turned (it := s.heap.objs.size) (fun b o hb e => hk b o (by simpa using hb) e) f0 f1 f3 f4 f5, rfl, q⟩
theorem sl_str : SlR X (fun x lo hi H Q => ∃ z, x = .str z ∧ z.length ≤ sizeLine ∧ Q (.str (Txt.slice z lo hi)) H) := by
  intro pins s σ H x v vl vu lo hi sl Q I rx hs pl pu h
  obtain ⟨z, rfl, hz, q⟩ := h
  obtain ⟨t, rfl⟩ := rx
  refine ⟨"str", _, F.slot_str_getitem.lookup, typeIs_str _ _ _, ?_⟩
  obtain ⟨o, ho, hc, hd⟩ := hs
  have fin : ∀ (t' : Tok) (k : Nat), EP X pins σ Q (.str (Txt.slice z lo hi) t') { s with toks := k } := fun t' k => ⟨.str (Txt.slice z lo hi), H, I.tok k, ⟨t', rfl⟩, q⟩
  have hle := Nat.le_trans (Txt.slice_le z lo hi) hz
  cases pl with
  | none => cases pu with
    | none => exact wpAny_getItem_str_slice (l := none) (u := none) (st := none) ⟨o, ho, hc, hd⟩ rfl (post_val_or_str ⟨hle, fun t' k => fin t' k⟩)
    | int j uj => exact wpAny_getItem_str_slice (l := none) (u := some (j, uj)) (st := none) ⟨o, ho, hc, hd⟩ rfl (post_val_or_str ⟨hle, fun t' k => fin t' k⟩)
  | int i ui => cases pu with
    | none => exact wpAny_getItem_str_slice (l := some (i, ui)) (u := none) (st := none) ⟨o, ho, hc, hd⟩ rfl (post_val_or_str ⟨hle, fun t' k => fin t' k⟩)
    | int j uj => exact wpAny_getItem_str_slice (l := some (i, ui)) (u := some (j, uj)) (st := none) ⟨o, ho, hc, hd⟩ rfl (post_val_or_str ⟨hle, fun t' k => fin t' k⟩)
theorem strs_of : ∀ {ys : List Str} {its : List Value}, Vals (ys.map V.str) its → StrsAre its ys
  | [], _, r => by cases r; exact .nil
  | y :: ys, _, r => by
    cases r with
    | cons r rr =>
      obtain ⟨t, rfl⟩ := r
      exact .cons y t (strs_of rr)
theorem op_powB : OpR X (binaryOp .Pow) (rI (fun i j => 0 ≤ j ∧ (Builtin.Int.intBits i : Int) * j ≤ 2 ^ 27) fun i j => .int (i ^ j.toNat)) := opI fun _ _ _ _ _ _ _ hc q => pow_int hc.1 hc.2 q
end
noncomputable def compChk (XN : List Str) (xs scope : Scope) (N : List Str) (k : Nat) (cap : List Nat) : Bool :=
  scope.kind == .function && (scope.names.all fun y => y.2 != .local || scope.names.lookup y.1 == some .local) && (scope.names.all fun y => y.2 != .cell) &&
  (scope.names.all fun y => y.2 != .free || xs.names.lookup y.1 == some .cell || xs.names.lookup y.1 == some .free) && N.length == k + cap.length &&
  (List.range cap.length).all fun j => match cap[j]?, N[k + j]? with
    | some i, some y => XN[i]? == some y && scope.names.lookup y == some .free
    | _, _ => false
theorem compScope_of {X : Cx} {XN : List Str} {xs scope : Scope} {N : List Str} {k : Nat} {cap : List Nat} (hN : X.N = XN) (hs : X.env.scope = xs) (h : compChk XN xs scope N k cap = true) : CompScope X scope N k cap := by
  subst hN hs
  unfold compChk at h
  simp only [Bool.and_eq_true, List.all_eq_true, Bool.or_eq_true, bne_iff_ne, ne_eq, beq_iff_eq] at h
  obtain ⟨⟨⟨⟨⟨h1, h2⟩, h3⟩, h4⟩, h5⟩, h6⟩ := h
  refine ⟨h1, fun y hy e => (h2 y hy).resolve_left (fun z => z e), h3, fun y hy e => ?_, h5, fun j i e => ?_⟩
  · rcases h4 y hy with (z | z) | z
    · exact absurd e z
    · exact .inl z
    · exact .inr z
  · have hj : j < cap.length := (List.getElem?_eq_some_iff.mp e).1
    have q := h6 j (List.mem_range.mpr hj)
    rw [e] at q
    cases r : N[k + j]? with
    | none => rw [r] at q; cases q
    | some y =>
      rw [r] at q
      simp only [Bool.and_eq_true, beq_iff_eq] at q
      exact ⟨y, rfl, q.1, q.2⟩
section
variable {X : Cx} {elt tg iter : Expr} {ifs : List Expr} {scope : Scope} {pos : Pos} {wi : TI} {g : TG} {tt : TT} {te : TE} {N : List Str} {k : Nat} {cap : List Nat} {XN : List Str} {xs : Scope}
theorem pe_lc (N : List Str) (k : Nat) (cap : List Nat) (XN : List Str) (xs : Scope) (hc : X.calm = true) (hN : X.N = XN) (hx : X.env.scope = xs) (hi : PI X tg iter wi) (chk : compChk XN xs scope N k cap = true)
    (hg : ∀ c, PG (cxComp X scope N c) tg g) (ht : ∀ c, PTs (cxComp X scope N c) ifs tt) (he : ∀ c, PE (cxComp X scope N c) elt te)
    (hs : ∀ x, foldedSetIterable iter X.env x = pure x := by intro _; rfl) : PE X (.ListComp elt [⟨tg, iter, ifs, 0⟩] scope pos) (tComp wi k cap g tt te) := pe_comp hc (compScope_of hN hx chk) hi hg ht he hs
end
section
variable {wi : TI} {k : Nat} {cap : List Nat} {g : TG} {tt : TT} {te : TE} {σ : St} {H1 : Hp} {Q : VK} {l : Addr}
end
structure Def (K : PySem.W.Frag) (mg : Str → Option Value) (x : Str) (st : Stmt) (ps : List Str) (f : Addr) (fd : FuncData) : Prop where
  F : Fun K x x st f fd
  m : mg x = some (.ref f)
  b : Binds K fd ps []
section
variable {X : Cx} {x : Str} {st : Stmt} {ps : List Str} {f : Addr} {fd : FuncData} {j k : Nat} {sp : Sp} {e : Expr} {es : List Expr} {t : TA} {p pos : Pos}
theorem pe_fn (D : Def X.K X.mg x st ps f fd) (G : FnOk X.prog X.w X.K X.mg X.base CX0 j f fd ps sp) (hr : Room k X.A) (hjk : j ≤ k) (hg : Gl X x) (ha : PA X (e :: es) t) (hdb : (x == ("__debug__" : Str)) = false := by decide)
    (he : starEach (e :: es) X.env = (false, eval e X.env) :: starEach es X.env := by rfl) (hpl : (backTo pos (starEach es X.env)).any (·.1) = false := by rfl) :
    PE X (.Call (.Name x p) (e :: es) [] pos) (tCall sp [] E0 t) := pe_call G (hr.mono hjk) hg D.m D.F.kp D.b .nil pass0 ha hdb he hpl
end
end L2
set_option Elab.async false
set_option linter.all false
set_option maxRecDepth 100000
set_option maxHeartbeats 4000000
namespace L2
open PySem PySem.Spec PyProof.Rows
noncomputable def eqLV : List V → List V → Bool
  | [], [] => true
  | x :: xs, y :: ys => eqV x y && eqLV xs ys
  | _, _ => false
theorem eqLV_len : ∀ {xs ys : List V}, xs.length ≠ ys.length → eqLV xs ys = false
  | [], [], h => absurd rfl h
  | [], _ :: _, _ => rfl
  | _ :: _, [], _ => rfl
  | x :: xs, y :: ys, h => by
    unfold eqLV
    rw [eqLV_len (xs := xs) (ys := ys) (by simpa using h), Bool.and_false]
theorem eqLV_range : ∀ {xs ys : List V}, xs.length = ys.length → (List.range xs.length).all (fun j => eqV ((xs[j]?).getD .non) ((ys[j]?).getD .non)) = eqLV xs ys
  | [], [], _ => rfl
  | [], _ :: _, h => by cases h
  | _ :: _, [], h => by cases h
  | x :: xs, y :: ys, h => by
    have ih := eqLV_range (xs := xs) (ys := ys) (by simpa using h)
    rw [List.length_cons, List.range_succ_eq_map, List.all_cons, List.all_map]
    unfold eqLV
    rw [← ih]
    rfl
theorem Vals.get' : ∀ {xs : List V} {us : List Value} {i : Nat} {u : Value}, Vals xs us → us[i]? = some u → ∃ x, xs[i]? = some x ∧ RelV x u
  | _, _, _, _, .nil, h => by simp at h
  | _, _, 0, _, .cons r _, h => by simp at h; subst h; exact ⟨_, rfl, r⟩
  | _, _, i + 1, _, .cons _ t, h => Vals.get' (i := i) t (by simpa using h)
section
variable {X : Cx} {k : Nat}
end
theorem bt_all : bootBuiltins "all" = some (.builtin "all") := by decide +kernel
theorem bt_isinstance : bootBuiltins "isinstance" = some (.builtin "isinstance") := by decide +kernel
theorem bt_len : bootBuiltins "len" = some (.builtin "len") := by decide +kernel
theorem bt_max : bootBuiltins "max" = some (.builtin "max") := by decide +kernel
theorem bt_min : bootBuiltins "min" = some (.builtin "min") := by decide +kernel
theorem bt_repr : bootBuiltins "repr" = some (.builtin "repr") := by decide +kernel
theorem bt_int : bootBuiltins "int" = some (.type "int") := by decide +kernel
theorem bt_str : bootBuiltins "str" = some (.type "str") := by decide +kernel
theorem bt_list : bootBuiltins "list" = some (.type "list") := by decide +kernel
theorem bt_tuple : bootBuiltins "tuple" = some (.type "tuple") := by decide +kernel
section
variable {X : Cx}
end
end L2
set_option Elab.async false
set_option linter.all false
set_option maxRecDepth 100000
set_option maxHeartbeats 4000000
namespace L2
open PySem PySem.Spec PyProof.Rows
noncomputable def But (p : Addr) (H H' : Hp) : Prop := ∀ b o, H b = some o → b ≠ p → H' b = some o
theorem But.refl {p : Addr} {H : Hp} : But p H H := fun _ _ h _ => h
theorem But.trans {p : Addr} {H H1 H2 : Hp} (a : But p H H1) (b : But p H1 H2) : But p H H2 := fun c o h n => b c o (a c o h n) n
theorem But.of {p : Addr} {H H1 : Hp} (a : Same H H1) : But p H H1 := fun c o h _ => a c o h
theorem Same.upd {H : Hp} {l : Addr} {o : HO} (h : H l = none) : Same H (upd H l o) := fun b u e => by rw [upd_ne (ne_of_none e h)]; exact e
theorem But.upd {p : Addr} {H : Hp} {o : HO} : But p H (upd H p o) := fun b u e n => by rw [upd_ne n]; exact e
theorem SqL.same {K : PySem.W.Frag} {H H' : Hp} {a : Addr} {xs : List V} (h : SqL K H a xs) (s : Same H H') : SqL K H' a xs := Same.seq s h
theorem SqT.same {K : PySem.W.Frag} {H H' : Hp} {a : Addr} {xs : List V} (h : SqT K H a xs) (s : Same H H') : SqT K H' a xs := by
  rcases h with (h | ⟨o, h⟩) | h
  · exact .inl (.inl (s _ _ h))
  · exact .inl (.inr ⟨o, s _ _ h⟩)
  · exact .inr h
theorem SqL.but {K : PySem.W.Frag} {H H' : Hp} {a p : Addr} {xs : List V} (h : SqL K H a xs) (s : But p H H') (n : a ≠ p) : SqL K H' a xs := by
  rcases h with (h | ⟨o, h⟩) | h
  · exact .inl (.inl (s _ _ h n))
  · exact .inl (.inr ⟨o, s _ _ h n⟩)
  · exact .inr h
theorem SqT.but {K : PySem.W.Frag} {H H' : Hp} {a p : Addr} {xs : List V} (h : SqT K H a xs) (s : But p H H') (n : a ≠ p) : SqT K H' a xs := by
  rcases h with (h | ⟨o, h⟩) | h
  · exact .inl (.inl (s _ _ h n))
  · exact .inl (.inr ⟨o, s _ _ h n⟩)
  · exact .inr h
theorem szt {n : Nat} (h : n < 16777216) : n < sizeLine := by rw [PySem.sizeLine_eq]; exact h
theorem atI_mem {α : Type} {xs : List α} {d : Int} (h0 : 0 ≤ d) (h : d < (xs.length : Int)) : ∃ c, c ∈ xs ∧ atI xs d = some c := by
  obtain ⟨j, rfl⟩ : ∃ j : Nat, d = (j : Int) := ⟨d.toNat, by omega⟩
  have hj : j < xs.length := by omega
  exact ⟨xs[j], List.getElem_mem hj, atI_nat (by simp [hj])⟩
section
variable {k : Nat} {cap : List Nat} {g : TG} {tt : TT} {te : TE} {σ : St} {H : Hp} {Q : VK} {l : Addr}
end
theorem Same.but {H H0 H1 H2 : Hp} {p : Addr} (s : Same H H0) (n : H0 p = none) (s1 : Same H0 H1) (b : But p H1 H2) : Same H H2 := fun c o h => b c o (s1 c o (s c o h)) (ne_of_none (s c o h) n)
noncomputable def PotO (o : Option HO) : Prop := ∃ a b : Int, o = some (.lst [.int a, .int b]) ∧ 0 ≤ a ∧ 0 ≤ b ∧ b < 2147483647
noncomputable abbrev Pot (H : Hp) (p : Addr) : Prop := PotO (H p)
theorem Pot.same {H H' : Hp} {p : Addr} (h : Pot H p) (s : Same H H') : Pot H' p := let ⟨a, b, e, r⟩ := h; ⟨a, b, s _ _ e, r⟩
theorem Pot.ne {H : Hp} {p : Addr} (h : Pot H p) {l : Addr} (n : H l = none) : p ≠ l := let ⟨_, _, e, _⟩ := h; ne_of_none e n
noncomputable def spLaw (K : PySem.W.Frag) : Sp := fun vs H Q _ => ∃ (a : Addr) (ns : List Int), vs = [.ref a] ∧ SqL K H a (ns.map V.int) ∧ ns.length ≤ 63 ∧ ∀ H', Q (.bl true) H'
end L2
set_option Elab.async false
set_option linter.all false
set_option maxRecDepth 100000
set_option maxHeartbeats 4000000
namespace PySem
open Sem (wp)
open AutoSeq1 (wpAny_loadPart')
section
variable {prog : Program} {w : World} {A : Around} {E : Value → Shared → Prop} {s : Shared}
end
section
variable {prog : Program} {w : World} {A : Around} {E : Value → Shared → Prop} {s : Shared}
end
end PySem
namespace L2
open PySem PySem.Spec PyProof.Rows
end L2
set_option Elab.async false
set_option linter.all false
set_option maxRecDepth 100000
set_option maxHeartbeats 4000000
namespace L2
open PySem PySem.Spec PyProof.Rows
section
variable {X : Cx} {elts : List Expr} {x1 : Nat} {tpos : Pos}
end
section
variable {X : Cx} {elts : List Expr} {x1 : Nat} {tpos : Pos}
end
section
variable {k : Nat} {cap : List Nat} {g : TG} {tt : TT} {te : TE} {σ : St} {H : Hp} {Q : VK} {l : Addr}
end
end L2
set_option Elab.async false
set_option linter.all false
set_option maxRecDepth 100000
set_option maxHeartbeats 4000000
namespace L2
open PySem PySem.Spec PyProof.Rows
section
variable {X : Cx} {k : Nat}
theorem ixL (K : PySem.W.Frag) (h : X.K = K := by rfl) : IxR X (rIxL K) := h ▸ ix_list
theorem ixT (K : PySem.W.Frag) (h : X.K = K := by rfl) : IxR X (rIxT K) := h ▸ ix_tup
theorem slL (K : PySem.W.Frag) (h : X.K = K := by rfl) : SlR X (rSlL K) := h ▸ sl_list
noncomputable def rAll (K : PySem.W.Frag) : List V → Hp → VK → Prop := fun xs H Q => ∃ p bs, xs = [.ref p] ∧ SqL K H p (isBl bs) ∧ Q (.bl (bs.all id)) H
theorem allL (K : PySem.W.Frag) (hc : X.calm = true) (h : X.K = K := by rfl) : CallR X (.builtin "all") (rAll K) := h ▸ call_all hc
noncomputable def rListL (K : PySem.W.Frag) : List V → Hp → VK → Prop := fun xs H Q => ∃ p ys, xs = [.ref p] ∧ (SqL K H p ys ∨ SqT K H p ys) ∧ ∀ l, H l = none → Q (.ref l) (upd H l (.lst ys))
theorem listL (K : PySem.W.Frag) (h : X.K = K := by rfl) : CallR X (.type "list") (rListL K) := h ▸ call_list_of
theorem pg_tupK (K : PySem.W.Frag) {es : List Expr} {j : Nat} {t : TGs} {n : Nat} {pos : Pos} (hc : X.calm = true) (h : PGs X es t) (hK : X.K = K := by rfl)
    (hn : (assignEach es X.env).length = n := by rfl) (hst : (assignEach es X.env).findIdx? (·.1) = none := by rfl) : PG X (.Tuple es j pos) (gTup K n t) := hK ▸ pg_tup hc h hn hst
theorem pe_bmK (K : PySem.W.Frag) {o e : Expr} {es : List Expr} {to : TE} {t : TA} {name : Str} {apos cpos : Pos} {T id : String} {r : V → List V → Hp → VK → Prop} (pa : PlainAttrs T) (slot : Slot T name id) (hty : typeOf (.builtin id) = pure (.type "method_descriptor")) (hm : MtR X id r) (ho : PE X o to) (ha : PA X (e :: es) t) (hK : X.K = K := by rfl)
    (hbase : attributeBase o name X.env (eval o X.env) = eval o X.env := by rfl)
    (hfew : ((backTo cpos (starEach (e :: es) X.env)).all (fun x => !x.1) && (backToKw cpos (keywordEach [] X.env)).all (fun x => x.1.isSome)
      && decide ((e :: es).length + ([] : List Keyword).length + (if ([] : List Keyword).isEmpty then 0 else 1) < 30)) = true := by rfl)
    (hline : (apos.endLine == cpos.line) = true := by rfl) (hs : starEach (e :: es) X.env = (false, eval e X.env) :: starEach es X.env := by rfl) (hplain : (backTo cpos (starEach es X.env)).any (·.1) = false := by rfl) :
    PE X (.Call (.Attribute o name apos) (e :: es) [] cpos) (tBM K T r to t) := hK ▸ pe_bm pa slot hty hm ho ha hbase hfew hline hs hplain
end
end L2
set_option Elab.async false
set_option linter.all false
set_option maxRecDepth 100000
set_option maxHeartbeats 4000000
namespace L2
open PySem PySem.Spec PyProof.Rows
section
variable {X : Cx}
end
end L2
set_option Elab.async false
set_option linter.all false
set_option maxRecDepth 100000
set_option maxHeartbeats 4000000
namespace PM
open PySem PyProof.Rows
noncomputable def walk (sm : Nat → Nat) : List Nat → List Nat → Bool → List Nat
  | [], f, _ => f
  | c :: r, f, w => if c = 32 then walk sm r f (!f.isEmpty) else walk sm r (f ++ (if w = true then [32] else []) ++ [sm c]) false
noncomputable def step (f p : List Nat) : List Nat := if p = [] then f else f ++ (if (!f.isEmpty) = true then [32] else []) ++ p
noncomputable abbrev SP : Str := Str.ofString " "
noncomputable def W (x : Str) : Str := ⟨(walk lo1 x.cps.toList [] false).toArray⟩
end PM
set_option Elab.async false
set_option linter.all false
set_option maxRecDepth 100000
set_option maxHeartbeats 4000000
namespace L2
open PySem PySem.Spec PyProof.Rows
inductive Kd where
  | non | bl | int | str | lst | tup | dct
  deriving DecidableEq
noncomputable def Kd.nm : Kd → String
  | .non => "NoneType" | .bl => "bool" | .int => "int" | .str => "str" | .lst => "list" | .tup => "tuple" | .dct => "dict"
noncomputable def IsK (H : Hp) (v : V) : Kd → Prop
  | .non => v = .non
  | .bl => ∃ b, v = .bl b
  | .int => ∃ i, v = .int i
  | .str => ∃ x, v = .str x
  | .lst => ∃ a xs, v = .ref a ∧ H a = some (.lst xs)
  | .tup => ∃ a xs, v = .ref a ∧ H a = some (.tup xs)
  | .dct => ∃ a kvs ep, v = .ref a ∧ H a = some (.dK kvs ep)
theorem IsK.ty {K : PySem.W.Frag} {H : Hp} {v : V} {k : Kd} (h : IsK H v k) : TyOf K H v (.type k.nm) := by
  cases k with
  | non => cases (show v = .non from h); exact .non
  | bl => obtain ⟨b, rfl⟩ := h; exact .bl b
  | int => obtain ⟨b, rfl⟩ := h; exact .int b
  | str => obtain ⟨b, rfl⟩ := h; exact .str b
  | lst => obtain ⟨a, xs, rfl, e⟩ := h; exact .lst e
  | tup => obtain ⟨a, xs, rfl, e⟩ := h; exact .tup e
  | dct => obtain ⟨a, xs, ep, rfl, e⟩ := h; exact .dK e
theorem kd_str {K : PySem.W.Frag} (k : Kd) : PySem.W.kitOne K (.type k.nm) (.type "str") = some (decide (k = .str)) := by cases k <;> kernel_rfl
theorem kd_tup {K : PySem.W.Frag} (k : Kd) : PySem.W.kitOne K (.type k.nm) (.type "tuple") = some (decide (k = .tup)) := by cases k <;> kernel_rfl
theorem kd_int {K : PySem.W.Frag} (k : Kd) : PySem.W.kitOne K (.type k.nm) (.type "int") = some (decide (k = .int) || decide (k = .bl)) := by cases k <;> kernel_rfl
theorem kd_bool {K : PySem.W.Frag} (k : Kd) : PySem.W.kitOne K (.type k.nm) (.type "bool") = some (decide (k = .bl)) := by cases k <;> kernel_rfl
theorem IsK.same {H H' : Hp} {v : V} {k : Kd} (h : IsK H v k) (s : Same H H') : IsK H' v k := by
  cases k with
  | non => exact h
  | bl => exact h
  | int => exact h
  | str => exact h
  | lst => obtain ⟨a, xs, rfl, e⟩ := h; exact ⟨a, xs, rfl, s _ _ e⟩
  | tup => obtain ⟨a, xs, rfl, e⟩ := h; exact ⟨a, xs, rfl, s _ _ e⟩
  | dct => obtain ⟨a, xs, ep, rfl, e⟩ := h; exact ⟨a, xs, ep, rfl, s _ _ e⟩
section
variable {X : Cx}
theorem op_le_str : OpR X (compareOp .LtE) (fun x y H Q => ∃ i j, x = .str i ∧ y = .str j ∧ Q (.bl (!decide (j.cps.toList < i.cps.toList))) H) := by
  intro pins s σ H x y v u Q I rx ry h
  obtain ⟨i, j, rfl, rfl, q⟩ := h
  obtain ⟨t, rfl⟩ := rx
  obtain ⟨t', rfl⟩ := ry
  exact PySem.P.le_str (fin_bl I q rfl)
end
section
variable {k : Nat} {cap : List Nat} {g : TG} {tt : TT} {te : TE} {σ : St} {H : Hp} {Q : VK} {l : Addr}
end
end L2
set_option Elab.async false
set_option linter.all false
set_option maxRecDepth 100000
set_option maxHeartbeats 4000000
namespace HT
open PySem PySem.Spec PyProof.Rows
section
variable {prog : Program} {w : World} {A : Around} {E : Value → Shared → Prop} {s : Shared}
theorem getItem_tuple_all {t sl : Addr} {items : Array Value} {vl vu : Value} {lo hi : Option Int} {Q : Value → Shared → Prop} (ht : IsTup s.heap t items) (hs : s.heap.IsSliceOf sl vl vu .none) (pl : IsPart vl lo) (pu : IsPart vu hi)
    (hw : sIx items.size 0 lo = 0 ∧ sIx items.size items.size hi = items.size) (h : Q (.ref t) s) : wpAny (model prog w) A (getItem (.ref t) (.ref sl)) Q E s := by
  obtain ⟨os, hos, hcs, hds⟩ := id hs
  have hTs : s.TypeIs (.ref sl) "slice" := ⟨os, hos, hcs⟩
  unfold getItem
  try with_reducible refine wpAny_holding ?_
  first | refine wpAny_bind (wpAny_pure ?_) | skip
  refine wpAny_bind (wpAny_sequenceKey ht.typeIs (by decide) ?_)
  refine wpAny_bind (wpAny_callSpecial?_slot (name := Str.ofString "__getitem__") ht.typeIs PyProof.Rows.slot_tuple_getitem
    (wpAny_call_entry PyProof.Rows.slot_tuple_getitem ht.typeIs entry_tuple_getitem ?_ (args_tuple_getitem _ _)))
  show wpAny _ _ (Builtin.Tuple.tupleItemsOf (.ref t) >>= _) _ _ s
  refine wpAny_bind (tupleItemsOf_ ht ?_)
  refine wpAny_bind (wpAny_typeOf hTs ?_)
  rw [if_pos (by decide)]
  refine wpAny_bind (sliceApplied_gen hs pl pu ?_)
  have hyes : (((sIx items.size 0 lo : Nat) : Int) == 0 && (1 : Int) == 1 && (sIx items.size items.size hi - sIx items.size 0 lo) == items.size) = true := by
    rw [hw.1, hw.2]; simp
  show wpAny _ _ (if (((sIx items.size 0 lo : Nat) : Int) == 0 && (1 : Int) == 1 && (sIx items.size items.size hi - sIx items.size 0 lo) == items.size) = true then _ else _) _ _ s
  rw [if_pos hyes]
  refine wpAny_bind (wpAny_bind (wpAny_typeOf ht.typeIs (wpAny_pure ?_)))
  rw [if_pos (by decide)]
  refine wpAny_bind (wpAny_rule ?_)
  first
    | exact wpAny_pure ⟨_, rfl, wpAny_pure h⟩
    | exact wpAny_bind (wpAny_pure ⟨_, rfl, wpAny_pure h⟩)
theorem cat_any {t b : Addr} {vs ws : List Value} {Q : Value → Shared → Prop} (ht : IsTup s.heap t vs.toArray) (hb : IsTup s.heap b ws.toArray)
    (h0 : vs = [] → Q (.ref b) s) (h1 : ws = [] → Q (.ref t) s) (h2 : vs ≠ [] → ws ≠ [] → Q (.ref s.heap.objs.size) { s with heap := s.heap.push { cls := .type "tuple", data := .seq (vs ++ ws).toArray } })
    (hsz : vs.length + ws.length ≤ sizeLine) : wpAny (model prog w) A (binaryOp .Add (.ref t) (.ref b)) Q E s := by
  by_cases hv : vs = []
  · obtain ⟨⟨cls, dd, data, sl⟩, ho, hc, n, hd⟩ := id ht
    obtain ⟨⟨cls2, dd2, data2, sl2⟩, ho2, hc2, n2, hd2⟩ := id hb
    simp only at hc hd hc2 hd2
    subst hc hd hc2 hd2
    exact concat_meets ⟨_, ho, rfl⟩ ⟨_, ho2, rfl⟩ noFill_tuple_add seq_tuple_add PySem.F.slot_tuple_add PySem.F.entry_tuple_add (PySem.F.args_tuple_add_2 _ _)
      (tuple_addW0 t b vs.toArray ws.toArray n n2 dd dd2 sl sl2 (by simp [hv])) ⟨ho, ho2, h0 hv⟩
  · exact cat_tup ht hb hv h1 (h2 hv) hsz
end
end HT
namespace L2
open PySem PySem.Spec PyProof.Rows
section
variable {X : Cx}
noncomputable def CDivB (i j : Int) : Prop := 0 < j ∧ j < 2 ^ 200
theorem op_fdivB : OpR X (binaryOp .FloorDiv) (rI CDivB fun i j => .int (i / j)) := opI fun i j _ _ _ _ _ hc q => by
  have h1 : (0 : Int) < j := hc.1
  have h2 : j < 2 ^ 200 := hc.2
  refine floordiv_int (by omega) (by rw [Int.fdiv_eq_ediv_of_nonneg i (by omega)]; exact q) (.inl (PyProof.noPylong_of_log2 ?_))
  have h3 : j.natAbs < 2 ^ 200 := by omega
  have h4 : j.natAbs.log2 < 200 := (Nat.log2_lt (by omega)).mpr h3
  omega
end
section
variable {k : Nat} {cap : List Nat} {g : TG} {tt : TT} {te : TE} {σ : St} {H : Hp} {Q : VK} {l : Addr}
end
end L2
set_option Elab.async false
set_option linter.all false
set_option maxRecDepth 100000
set_option maxHeartbeats 4000000
namespace L2
open PySem PySem.Spec PyProof.Rows
section
variable {κ : Type} [DecidableEq κ]
noncomputable def valV (kvs : List (κ × V)) (k : κ) : Option V := (kvs.find? fun kv => decide (kv.1 = k)).map (·.2)
noncomputable def putK (kvs : List (κ × V)) (k : κ) (v : V) : List (κ × V) :=
  if (kvs.any fun kv => decide (kv.1 = k)) = true then kvs.map (fun kv => if kv.1 = k then (kv.1, v) else kv) else kvs ++ [(k, v)]
noncomputable def dropK (kvs : List (κ × V)) (k : κ) : List (κ × V) := kvs.filter fun kv => decide (kv.1 ≠ k)
theorem valV_pos {p : κ × V} {r : List (κ × V)} {k : κ} (e : p.1 = k) : valV (p :: r) k = some p.2 := by simp [valV, List.find?_cons, e]
theorem valV_neg {p : κ × V} {r : List (κ × V)} {k : κ} (e : ¬ p.1 = k) : valV (p :: r) k = valV r k := by simp [valV, List.find?_cons, e]
theorem valV_any (k : κ) : ∀ kvs : List (κ × V), (kvs.any fun kv => decide (kv.1 = k)) = (valV kvs k).isSome
  | [] => rfl
  | p :: r => by
    rw [List.any_cons]
    by_cases e : p.1 = k
    · simp only [valV_pos e, decide_eq_true e, Bool.true_or, Option.isSome_some]
    · rw [valV_neg e, decide_eq_false e, Bool.false_or]; exact valV_any k r
theorem length_putK (kvs : List (κ × V)) (k : κ) (v : V) : (putK kvs k v).length ≤ kvs.length + 1 := by
  unfold putK
  split
  · rw [List.length_map]; omega
  · rw [List.length_append, List.length_cons, List.length_nil]; omega
theorem RelO.isSome_eq {o : Option V} {u : Option Value} (r : RelO o u) : o.isSome = u.isSome := by
  cases o with
  | none => cases u with
    | none => rfl
    | some _ => exact (show False from r).elim
  | some _ => cases u with
    | none => exact (show False from r).elim
    | some _ => rfl
theorem RelO.getD {o : Option V} {u : Option Value} {d : V} {d' : Value} (r : RelO o u) (rd : RelV d d') : RelV (o.getD d) (u.getD d') := by
  cases o with
  | none => cases u with
    | none => exact rd
    | some _ => exact (show False from r).elim
  | some _ => cases u with
    | none => exact (show False from r).elim
    | some _ => exact r
theorem KV.val {kvs : List (κ × V)} {vs : List (κ × Value)} (r : KV kvs vs) (k : κ) : RelO (valV kvs k) (valueAt vs k) := by
  unfold KV at r
  induction r with
  | nil => exact True.intro
  | @cons p q ps qs h t ih =>
    obtain ⟨h1, h2⟩ := h
    by_cases e : p.1 = k
    · have e' : q.1 = k := h1.symm.trans e
      have b : valueAt (q :: qs) k = some q.2 := by simp [valueAt, List.find?_cons, e']
      rw [valV_pos e, b]; exact h2
    · have e' : ¬ q.1 = k := fun z => e (h1.trans z)
      have b : valueAt (q :: qs) k = valueAt qs k := by simp [valueAt, List.find?_cons, e']
      rw [valV_neg e, b]; exact ih
theorem KV.any {kvs : List (κ × V)} {vs : List (κ × Value)} (r : KV kvs vs) (k : κ) : (kvs.any fun kv => decide (kv.1 = k)) = vs.any fun kv => decide (kv.1 = k) := by
  unfold KV at r
  induction r with
  | nil => rfl
  | cons h t ih => rw [List.any_cons, List.any_cons, ih, h.1]
theorem KV.repl {kvs : List (κ × V)} {vs : List (κ × Value)} (r : KV kvs vs) (k : κ) {y : V} {u : Value} (ry : RelV y u) :
    KV (kvs.map fun kv => if kv.1 = k then (kv.1, y) else kv) (vs.map fun kv => if kv.1 = k then (kv.1, u) else kv) := by
  unfold KV at r ⊢
  induction r with
  | nil => exact .nil
  | @cons p q ps qs h t ih =>
    rw [List.map_cons, List.map_cons]
    refine .cons ?_ ih
    obtain ⟨h1, h2⟩ := h
    by_cases e : p.1 = k
    · rw [if_pos e, if_pos (h1.symm.trans e)]; exact ⟨h1, ry⟩
    · rw [if_neg e, if_neg (fun z => e (h1.trans z))]; exact ⟨h1, h2⟩
theorem KV.put {kvs : List (κ × V)} {vs : List (κ × Value)} (r : KV kvs vs) (k : κ) {y : V} {u : Value} (ry : RelV y u) : KV (putK kvs k y) (stored vs k u) := by
  unfold putK stored
  rw [r.any k]
  by_cases e : (vs.any fun kv => decide (kv.1 = k)) = true
  · rw [if_pos e, if_pos e]; exact r.repl k ry
  · rw [if_neg e, if_neg e]; exact Paired.snoc r ⟨rfl, ry⟩
theorem KV.drop {kvs : List (κ × V)} {vs : List (κ × Value)} (r : KV kvs vs) (k : κ) : KV (dropK kvs k) (without vs k) := by
  unfold KV at r ⊢
  unfold dropK without
  induction r with
  | nil => exact .nil
  | @cons p q ps qs h t ih =>
    obtain ⟨h1, h2⟩ := h
    rw [List.filter_cons, List.filter_cons]
    by_cases e : p.1 = k
    · have a : ¬ decide (p.1 ≠ k) = true := by simp [e]
      have b : ¬ decide (q.1 ≠ k) = true := by simp [h1.symm.trans e]
      rw [if_neg a, if_neg b]; exact ih
    · have e' : ¬ q.1 = k := fun z => e (h1.trans z)
      have a : decide (p.1 ≠ k) = true := by simp [e]
      have b : decide (q.1 ≠ k) = true := by simp [e']
      rw [if_pos a, if_pos b]; exact .cons ⟨h1, h2⟩ ih
theorem KV.keys {kvs : List (κ × V)} {vs : List (κ × Value)} (r : KV kvs vs) : kvs.map (·.1) = vs.map (·.1) := by
  unfold KV at r
  induction r with
  | nil => rfl
  | cons h t ih => rw [List.map_cons, List.map_cons, ih, h.1]
theorem KV.length {kvs : List (κ × V)} {vs : List (κ × Value)} (r : KV kvs vs) : kvs.length = vs.length := Paired.length r
end
theorem kV_is {P : Program} {w : World} {k : Key} {u : Value} (r : RelV (kV k) u) : (mixKind P w).is k u = true := by
  cases k with
  | inl i => obtain ⟨t, e⟩ := (show ∃ t, u = Value.int i t from r); subst e; exact mixKind_int P w i t
  | inr x => obtain ⟨t, e⟩ := (show ∃ t, u = Value.str x t from r); subst e; exact mixKind_str P w x t
theorem items_are {P : Program} {w : World} : ∀ {ks : List Key} {us : List Value}, Vals (ks.map kV) us → ItemsAre (mixKind P w) ks us
  | [], _, r => by rw [List.map_nil] at r; cases r; exact .nil
  | k :: ks, _, r => by
    rw [List.map_cons] at r
    cases r with
    | cons h t => exact .cons (kV_is h) (items_are t)
noncomputable abbrev KT (H : Hp) : List (List Key × V) → List (List Key × Addr × Value) → Prop := Paired fun p q => p.1 = q.1 ∧ H q.2.1 = some (.tup (p.1.map kV)) ∧ RelV p.2 q.2.2
theorem KT.val {H : Hp} {kvs : List (List Key × V)} {xs : List (List Key × Addr × Value)} (r : KT H kvs xs) (k : List Key) : RelO (valV kvs k) ((atKey xs k).map (·.2)) := by
  induction r with
  | nil => exact True.intro
  | @cons p q ps qs h t ih =>
    obtain ⟨h1, _, h2⟩ := h
    by_cases e : p.1 = k
    · have e' : q.1 = k := h1.symm.trans e
      have b : atKey (q :: qs) k = some q.2 := by simp [atKey, List.find?_cons, e']
      rw [valV_pos e, b]; exact h2
    · have e' : ¬ q.1 = k := fun z => e (h1.trans z)
      have b : atKey (q :: qs) k = atKey qs k := by simp [atKey, List.find?_cons, e']
      rw [valV_neg e, b]; exact ih
theorem KT.repl {H : Hp} {kvs : List (List Key × V)} {xs : List (List Key × Addr × Value)} (r : KT H kvs xs) (k : List Key) {y : V} {u : Value} (ry : RelV y u) :
    KT H (kvs.map fun kv => if kv.1 = k then (kv.1, y) else kv) (xs.map (putAt k u)) := by
  induction r with
  | nil => exact .nil
  | @cons p q ps qs h t ih =>
    rw [List.map_cons, List.map_cons]
    refine .cons ?_ ih
    obtain ⟨h1, h2, h3⟩ := h
    unfold putAt
    by_cases e : p.1 = k
    · rw [if_pos e, if_pos (h1.symm.trans e)]; exact ⟨h1, h2, ry⟩
    · rw [if_neg e, if_neg (fun z => e (h1.trans z))]; exact ⟨h1, h2, h3⟩
theorem KT.put {H : Hp} {kvs : List (List Key × V)} {xs : List (List Key × Addr × Value)} (r : KT H kvs xs) (k : List Key) {b : Addr} {y : V} {u : Value} (hb : H b = some (.tup (k.map kV))) (ry : RelV y u) :
    KT H (putK kvs k y) (storedH xs k b u) := by
  have e : (kvs.any fun kv => decide (kv.1 = k)) = (atKey xs k).isSome := by
    rw [valV_any, (r.val k).isSome_eq, Option.isSome_map]
  unfold putK storedH
  rw [e]
  by_cases q : (atKey xs k).isSome = true
  · rw [if_pos q, if_pos q]; exact r.repl k ry
  · rw [if_neg q, if_neg q]; exact Paired.snoc r ⟨rfl, hb, ry⟩
theorem KT.keeps {H H' : Hp} {kvs : List (List Key × V)} {xs : List (List Key × Addr × Value)} (r : KT H kvs xs) (ht : ∀ b ys, H b = some (.tup ys) → H' b = some (.tup ys)) : KT H' kvs xs :=
  Paired.mapP r fun _ _ z => ⟨z.1, ht _ _ z.2.1, z.2.2⟩
noncomputable def RdK (H : Hp) (a : Addr) (kvs : List (Key × V)) : Prop := ∃ ep, Rd H a (.dK kvs ep)
noncomputable def IsDK (H : Hp) (a : Addr) (kvs : List (Key × V)) : Prop := ∃ ep, H a = some (.dK kvs ep)
theorem IsDK.rd {H : Hp} {a : Addr} {kvs : List (Key × V)} (h : IsDK H a kvs) : RdK H a kvs := let ⟨ep, e⟩ := h; ⟨ep, .inl e⟩
theorem IsDK.mut {H : Hp} {a : Addr} {kvs : List (Key × V)} (h : IsDK H a kvs) : Mut (H a) := by obtain ⟨_, e⟩ := h; rw [e]; exact True.intro
section
variable {P : Program} {w : World} {H : Hp} {h : Heap} {a : Addr}
theorem rd_of {u : HO} (ok : HOk P w H h) (e : Rd H a u) : ObjOk P w H h a u := e.ok ok
theorem dk_at {kvs : List (Key × V)} {ep : Nat} (ok : HOk P w H h) (e : Rd H a (.dK kvs ep)) : kvs.length ≤ sizeLine ∧ (a == sysModules) = false ∧ ∃ vs, KV kvs vs ∧ h.DictAt (mixKind P w) a vs ep :=
  show ObjOk P w H h a (.dK kvs ep) from rd_of ok e
theorem dk_rd {kvs : List (Key × V)} (ok : HOk P w H h) (e : RdK H a kvs) : kvs.length ≤ sizeLine ∧ (a == sysModules) = false ∧ ∃ vs, KV kvs vs ∧ h.DictOf (mixKind P w) a vs :=
  let ⟨_, e⟩ := e; let ⟨z, y, vs, r, d⟩ := dk_at ok e; ⟨z, y, vs, r, d.dictOf⟩
theorem dk_of {kvs : List (Key × V)} (ok : HOk P w H h) (e : IsDK H a kvs) : kvs.length ≤ sizeLine ∧ (a == sysModules) = false ∧ ∃ vs, KV kvs vs ∧ h.DictOf (mixKind P w) a vs := dk_rd ok e.rd
theorem key_of {ks : List Key} (ok : HOk P w H h) (e : H a = some (.tup (ks.map kV))) : (tupleKind (mixKind P w)).is h ks a := by
  obtain ⟨_, its, r, o, h1, h2, n, h3⟩ := (show ObjOk P w H h a (.tup (ks.map kV)) from ok a _ e)
  exact ⟨o, its.toArray, n, h1, h2, h3, by simpa using items_are r⟩
theorem dt_rd {kvs : List (List Key × V)} (ok : HOk P w H h) (e : Rd H a (.dT kvs)) : kvs.length ≤ sizeLine ∧ (a == sysModules) = false ∧
    ∃ xs, KT H kvs xs ∧ h.DictOfH (tupleKind (mixKind P w)) a xs := by
  obtain ⟨z, y, xs, r, o, es, ep, h1, h2, h3, h4, h5⟩ := (show ObjOk P w H h a (.dT kvs) from rd_of ok e)
  refine ⟨z, y, xs, r, o, es, ep, h1, h2, h3, h4, fun x hx => ?_, h5⟩
  have all : ∀ {l : List (List Key × V)} {m : List (List Key × Addr × Value)}, KT H l m → ∀ x ∈ m, (tupleKind (mixKind P w)).is h x.1 x.2.1 := by
    intro l m q
    induction q with
    | nil => intro x hx; exact nomatch hx
    | @cons p q ps qs hq t ih =>
      intro x hx
      rcases List.mem_cons.mp hx with e | hx
      · subst e
        exact key_of ok (by rw [← hq.1]; exact hq.2.1)
      · exact ih x hx
  exact all r x hx
theorem dt_of {kvs : List (List Key × V)} (ok : HOk P w H h) (e : H a = some (.dT kvs)) : kvs.length ≤ sizeLine ∧ (a == sysModules) = false ∧
    ∃ xs, KT H kvs xs ∧ h.DictOfH (tupleKind (mixKind P w)) a xs := dt_rd ok (.inl e)
end
noncomputable def DGet (H : Hp) (a : Addr) (y : V) (r : Option V) : Prop :=
  (∃ kvs k, RdK H a kvs ∧ y = kV k ∧ r = valV kvs k) ∨ ∃ kvs k b, Rd H a (.dT kvs) ∧ y = .ref b ∧ H b = some (.tup (k.map kV)) ∧ r = valV kvs k
noncomputable def DPut (H : Hp) (a : Addr) (y v : V) (Q : Hp → Prop) : Prop :=
  (∃ kvs k, IsDK H a kvs ∧ y = kV k ∧ kvs.length < sizeLine ∧ ∀ ep, Q (upd H a (.dK (putK kvs k v) ep))) ∨
  ∃ kvs k b, H a = some (.dT kvs) ∧ y = .ref b ∧ H b = some (.tup (k.map kV)) ∧ kvs.length < sizeLine ∧ Q (upd H a (.dT (putK kvs k v)))
theorem DGet.k {H : Hp} {a : Addr} {kvs : List (Key × V)} {k : Key} (e : IsDK H a kvs) : DGet H a (kV k) (valV kvs k) := .inl ⟨kvs, k, e.rd, rfl, rfl⟩
theorem DGet.t {H : Hp} {a b : Addr} {kvs : List (List Key × V)} {k : List Key} (e : H a = some (.dT kvs)) (eb : H b = some (.tup (k.map kV))) : DGet H a (.ref b) (valV kvs k) := .inr ⟨kvs, k, b, .inl e, rfl, eb, rfl⟩
section
variable {X : Cx} {pins : List (Addr × Obj)} {σ : St} {H : Hp} {s : Shared} {a : Addr} {y v : V} {u r : Value} {o : Option V} {A : Around} {E : Value → Shared → Prop}
theorem Inv.big (I : Inv X pins σ H s) : sysModules < s.heap.objs.size := by
  have h : mainGlobals < s.heap.objs.size := (I.mod.glob.keeps I.bk).lt
  exact Nat.lt_trans (by decide) h
theorem d_getItem {Q : Value → Shared → Prop} (hu : A.units + 1 < cLine) (I : Inv X pins σ H s) (g : DGet H a y (some v)) (ry : RelV y u) (h : ∀ w' s', Inv X pins σ H s' → RelV v w' → Q w' s') :
    wpAny (model X.prog X.w) A (getItem (.ref a) u) Q E s := by
  rcases g with ⟨kvs, k, e, ey, l⟩ | ⟨kvs, k, b, e, ey, eb, l⟩
  · subst ey
    obtain ⟨z, hd, vs, rel, dd⟩ := dk_rd I.hok e
    obtain ⟨w', hw, rw'⟩ := RelO.some_of (v := v) (o := valueAt vs k) (by rw [l]; exact rel.val k)
    exact wpAny_getItem_of (kV_is ry) dd.mapOf hw (h w' _ (I.tok _) rw')
  · subst ey
    cases (show u = Value.ref b from ry)
    obtain ⟨z, hd, xs, rel, dd⟩ := dt_rd I.hok e
    obtain ⟨w', hw, rw'⟩ := RelO.some_of (v := v) (o := (atKey xs k).map (·.2)) (by rw [l]; exact rel.val k)
    obtain ⟨p, hp, hp2⟩ := Option.map_eq_some_iff.mp hw
    refine wpAny_getItem_heap (tupleKind_room_in1 hu) (key_of I.hok eb) dd hp ?_
    rw [hp2]
    exact h w' _ (I.tok _) rw'
theorem d_in {Q : Value → Shared → Prop} (hu : A.units + 1 < cLine) (I : Inv X pins σ H s) (g : DGet H a y o) (ry : RelV y u) (h : ∀ s', Inv X pins σ H s' → Q (.bool o.isSome) s') :
    wpAny (model X.prog X.w) A (compareOp .In u (.ref a)) Q E s := by
  rcases g with ⟨kvs, k, e, ey, l⟩ | ⟨kvs, k, b, e, ey, eb, l⟩
  · subst ey
    obtain ⟨z, hd, vs, rel, dd⟩ := dk_rd I.hok e
    refine wpAny_in_of (kV_is ry) hd dd.mapOf ?_
    rw [← (rel.val k).isSome_eq, ← l]
    exact h _ (I.tok _)
  · subst ey
    cases (show u = Value.ref b from ry)
    obtain ⟨z, hd, xs, rel, dd⟩ := dt_rd I.hok e
    refine wpAny_in_heap (tupleKind_room_in1 hu) (key_of I.hok eb) hd dd ?_
    have q := (rel.val k).isSome_eq
    rw [Option.isSome_map] at q
    rw [← q, ← l]
    exact h _ (I.tok _)
theorem d_notIn {Q : Value → Shared → Prop} (hu : A.units + 1 < cLine) (I : Inv X pins σ H s) (g : DGet H a y o) (ry : RelV y u) (h : ∀ s', Inv X pins σ H s' → Q (.bool (!o.isSome)) s') :
    wpAny (model X.prog X.w) A (compareOp .NotIn u (.ref a)) Q E s := by
  rcases g with ⟨kvs, k, e, ey, l⟩ | ⟨kvs, k, b, e, ey, eb, l⟩
  · subst ey
    obtain ⟨z, hd, vs, rel, dd⟩ := dk_rd I.hok e
    refine wpAny_notIn_of (kV_is ry) hd dd.mapOf ?_
    rw [← (rel.val k).isSome_eq, ← l]
    exact h _ (I.tok _)
  · subst ey
    cases (show u = Value.ref b from ry)
    obtain ⟨z, hd, xs, rel, dd⟩ := dt_rd I.hok e
    refine wpAny_notIn_heap (tupleKind_room_in1 hu) (key_of I.hok eb) hd dd ?_
    have q := (rel.val k).isSome_eq
    rw [Option.isSome_map] at q
    rw [← q, ← l]
    exact h _ (I.tok _)
theorem d_write {h' : Heap} {t' : Nat} {ob : HO} (I : Inv X pins σ H s) (mu : Mut (H a)) (hs : Heap.SameBut a s.heap h') (he : ∃ q, h'.get? a = some q) (new : ObjOk X.prog X.w (upd H a ob) h' a ob) :
    Inv X pins σ (upd H a ob) { s with heap := h', toks := t' } :=
  I.write (x := a) (e := a) mu (.inl rfl) (fun b q hb z => (hs.2 b hb).trans z) he new
theorem dk_new {ep : Nat} {P : Program} {w : World} {H' : Hp} {h' : Heap} {kvs : List (Key × V)} {vs : List (Key × Value)} (z : kvs.length ≤ sizeLine) (hd : (a == sysModules) = false) (rel : KV kvs vs) (dd : h'.DictAt (mixKind P w) a vs ep) :
    ObjOk P w H' h' a (.dK kvs ep) := ⟨z, hd, vs, rel, dd⟩
theorem d_setItem {Z : Hp → Prop} {Q : Unit → Shared → Prop} (hu : A.units + 1 < cLine) (I : Inv X pins σ H s) (g : DPut H a y v Z) (ry : RelV y u) (rv : RelV v r) (h : ∀ H' s', Inv X pins σ H' s' → Z H' → Q () s') :
    wpAny (model X.prog X.w) A (setItem (.ref a) u r) Q E s := by
  rcases g with ⟨kvs, k, e, ey, l, eH⟩ | ⟨kvs, k, b, e, ey, eb, l, eH⟩
  · subst ey
    obtain ⟨z, hd, vs, rel, dd⟩ := dk_of I.hok e
    have hz : vs.length ≤ sizeLine := by rw [← rel.length]; exact z
    have hl : (putK kvs k v).length ≤ sizeLine := by have := length_putK kvs k v; omega
    refine wpAny_setItem_pairs (hsz := hz) (kV_is ry) dd fun h' dd' hs => ?_
    obtain ⟨ep, da⟩ := dd'.dictAt
    refine h _ _ ?_ (eH ep)
    have he : ∃ q, h'.get? a = some q := let ⟨q, _, _, hq, _⟩ := dd'; ⟨q, hq⟩
    exact d_write I e.mut hs he (dk_new hl hd (rel.put k rv) da)
  · subst ey
    cases (show u = Value.ref b from ry)
    obtain ⟨z, hd, xs, rel, dd⟩ := dt_of I.hok e
    have hz : xs.length ≤ sizeLine := by rw [← Paired.length rel]; exact z
    have hl : (putK kvs k v).length ≤ sizeLine := by have := length_putK kvs k v; omega
    refine wpAny_setItem_heap (hsz := hz) (tupleKind_room_in1 hu) (key_of I.hok eb) dd fun h' dd' hs => h _ _ ?_ eH
    obtain ⟨q, es, ep, hq, h2, h3, h4, _, h5⟩ := dd'
    refine d_write I (by rw [e]; exact True.intro) hs ⟨q, hq⟩ ⟨hl, hd, _, (rel.put k eb rv).keeps fun c ys ec => ?_, q, es, ep, hq, h2, h3, h4, h5⟩
    rw [upd_ne (ne_of ec e (fun z => nomatch z))]
    exact ec
end
section
variable {X : Cx} {pins : List (Addr × Obj)} {σ : St} {H : Hp} {s : Shared} {a : Addr} {kvs : List (Key × V)} {k : Key} {u : Value} {A : Around} {E : Value → Shared → Prop}
end
theorem dict_typeIs {X : Cx} {pins : List (Addr × Obj)} {σ : St} {H : Hp} {s : Shared} {a : Addr} {y : V} {o : Option V} (I : Inv X pins σ H s) (g : DGet H a y o) : s.TypeIs (.ref a) "dict" := by
  rcases g with ⟨kvs, k, e, _, _⟩ | ⟨kvs, k, b, e, _, _, _⟩
  · obtain ⟨_, _, vs, _, dd⟩ := dk_rd I.hok e
    exact dd.typeIs
  · obtain ⟨_, _, xs, _, dd⟩ := dt_rd I.hok e
    exact dd.typeIs
noncomputable def sDPut (td ty tv : TE) : TS := fun D σ H => tv σ H fun v H1 => td σ H1 fun x H2 => ty σ H2 fun y H3 => ∃ a, x = .ref a ∧ DPut H3 a y v (D.nx σ)
section
variable {X : Cx} {o i e value : Expr} {pos pos' tpos : Pos} {td ty tv : TE}
theorem ps_dput (hu : X.A.units + 1 < cLine) (ho : PE X o td) (hi : PE X i ty) (hv : PE X value tv) (hs : swapsWith value (some (.Subscript o i pos')) pos.line X.env = pure false) :
    PS X (.Assign [.Subscript o i pos'] value pos) (sDPut td ty tv) := by
  intro pins s σ H D I h
  refine wpAny_Assign_Subscript (thn (hv pins s σ H _ I h) fun r s1 ⟨v, H1, I1, rv, q1⟩ => thn (ho pins s1 σ H1 _ I1 q1) fun u s2 ⟨x, H2, I2, rx, q2⟩ => thn (hi pins s2 σ H2 _ I2 q2) fun iv s3 ⟨y, H3, I3, ry, a, ex, g⟩ => ?_) hs
  subst ex
  obtain rfl : u = Value.ref a := rx
  exact d_setItem hu I3 g ry rv fun H4 s4 I4 q3 => ⟨σ, H4, I4, q3⟩
end
theorem dk_empty {P : Program} {w : World} {H : Hp} (h : Heap) (hb : sysModules < h.objs.size) : ObjOk P w H (h.push { cls := .type "dict", data := .dict #[] }) h.objs.size (.dK [] 0) :=
  ⟨Nat.zero_le _, beq_eq_false_iff_ne.mpr (Ne.symm (Nat.ne_of_lt hb)), [], .nil, _, #[], Heap.get?_push_size _ rfl, ⟨rfl, rfl, rfl⟩, rfl, (fun _ he => by simp at he), PySem.Pairs.nil, List.nodup_nil⟩
noncomputable def tDNewK : TE := fun _ H Q => ∀ p, H p = none → Q (.ref p) (upd H p (.dK [] 0))
section
variable {X : Cx} {pos : Pos}
theorem pe_dnewK : PE X (.Dict [] [] pos) tDNewK := fun pins s σ H Q I h =>
  wpAny_Dict_empty ⟨.ref s.heap.objs.size, _, I.laid (a := s.heap.objs.size) (o := .dK [] 0) (t' := s.toks) (fun _ _ q => Heap.get?_push_of_some _ q) (Nat.le_refl _) (dk_empty s.heap I.big), rfl, h _ (I.hok.fresh (Nat.le_refl _))⟩
end
noncomputable def tPairs : List (TE × TE) → St → Hp → (List (V × V) → Hp → Prop) → Prop
  | [], _, H, Q => Q [] H
  | (tk, tv) :: r, σ, H, Q => tk σ H fun x H1 => tv σ H1 fun y H2 => tPairs r σ H2 fun ps H3 => Q ((x, y) :: ps) H3
noncomputable abbrev VV : List (V × V) → List (Value × Value) → Prop := Paired fun p q => RelV p.1 q.1 ∧ RelV p.2 q.2
noncomputable def PPs (X : Cx) (pos : Pos) (keys : List (Option Expr)) (values : List Expr) (trs : List (TE × TE)) : Prop :=
  ∀ (pins : List (Addr × Obj)) (s : Shared) (σ : St) (H : Hp) (Q : List (V × V) → Hp → Prop), Inv X pins σ H s → tPairs trs σ H Q →
    wpAny (model X.prog X.w) X.A (evalPairs (pairTrees keys values X.env pos)) (fun vs s' => ∃ ps H', Inv X pins σ H' s' ∧ VV ps vs ∧ Q ps H') X.xe s
theorem pps_nil {X : Cx} {pos : Pos} : PPs X pos [] [] [] := fun pins s σ H Q I h => pairTrees_nil_walk ⟨[], H, I, .nil, h⟩
theorem pps_cons {X : Cx} {pos : Pos} {k v : Expr} {ks : List (Option Expr)} {vs : List Expr} {tk tv : TE} {trs : List (TE × TE)} (hk : PE X k tk) (hv : PE X v tv) (hr : PPs X pos ks vs trs) :
    PPs X pos (some k :: ks) (v :: vs) ((tk, tv) :: trs) := fun pins s σ H Q I h =>
  pairTrees_cons_walk (thn (hk pins s σ H _ I h) fun u s1 ⟨x, H1, I1, rx, q1⟩ => thn (hv pins s1 σ H1 _ I1 q1) fun w2 s2 ⟨y, H2, I2, ry, q2⟩ =>
    thn (hr pins s2 σ H2 _ I2 q2) fun ws s3 ⟨ps, H3, I3, rel, q3⟩ => ⟨(x, y) :: ps, H3, I3, .cons ⟨rx, ry⟩ rel, q3⟩)
noncomputable def mergeK (kvs more : List (Key × V)) : List (Key × V) := more.foldl (fun acc kv => putK acc kv.1 kv.2) kvs
theorem KV.merge : ∀ {more : List (Key × V)} {rs : List (Key × Value)} {kvs : List (Key × V)} {vs : List (Key × Value)}, KV more rs → KV kvs vs → KV (mergeK kvs more) (merged vs rs) := by
  intro more rs kvs vs r
  unfold KV at r
  induction r generalizing kvs vs with
  | nil => intro q; exact q
  | @cons p q ps qs h t ih =>
    intro r0
    have e : KV (putK kvs p.1 p.2) (stored vs q.1 q.2) := by
      have := r0.put p.1 h.2
      rw [← h.1]; exact this
    exact ih e
theorem length_mergeK : ∀ (more kvs : List (Key × V)), (mergeK kvs more).length ≤ kvs.length + more.length
  | [], kvs => by show kvs.length ≤ kvs.length + 0; omega
  | p :: r, kvs => by
    have h1 := length_mergeK r (putK kvs p.1 p.2)
    have h2 := length_putK kvs p.1 p.2
    show (mergeK (putK kvs p.1 p.2) r).length ≤ _
    rw [List.length_cons]; omega
theorem carries_of {P : Program} {w : World} : ∀ {kvs : List (Key × V)} {ws : List (Value × Value)}, VV (kvs.map fun kv => (kV kv.1, kv.2)) ws → ∃ rs, Carries (mixKind P w) ws rs ∧ KV kvs rs
  | [], _, r => by rw [List.map_nil] at r; cases r; exact ⟨[], True.intro, .nil⟩
  | p :: kvs, _, r => by
    rw [List.map_cons] at r
    cases r with
    | @cons a b as bs h t =>
      obtain ⟨rs, c, q⟩ := carries_of (P := P) (w := w) t
      obtain ⟨b1, b2⟩ := b
      exact ⟨(p.1, b2) :: rs, ⟨kV_is h.1, rfl, c⟩, .cons ⟨rfl, h.2⟩ q⟩
noncomputable def tDisp (trs : List (TE × TE)) : TE := fun σ H Q => ∀ p, H p = none → tPairs trs σ (upd H p (.dK [] 0)) fun ps H2 => H2 p = some (.dK [] 0) ∧ ∃ kvs : List (Key × V), ps = kvs.map (fun kv => (kV kv.1, kv.2)) ∧ kvs.length ≤ 15 ∧ ∀ ep, Q (.ref p) (upd H2 p (.dK (mergeK [] kvs) ep))
theorem pe_disp {X : Cx} {pos : Pos} {keys : List (Option Expr)} {values : List Expr} {trs : List (TE × TE)} (h : PPs X pos keys values trs) (hall : keys.all (·.isSome) = true) (hl : keys.length = values.length) (h0 : keys ≠ [])
    (h15 : keys.length ≤ 15) : PE X (.Dict keys values pos) (tDisp trs) := by
  intro pins s σ H Q I q
  have hn := I.hok.fresh (Nat.le_refl s.heap.objs.size)
  have I1 := I.laid (a := s.heap.objs.size) (o := .dK [] 0) (h' := s.heap.push { cls := .type "dict", data := .dict #[] }) (t' := s.toks) (fun _ _ q => Heap.get?_push_of_some _ q) (Nat.le_refl _) (dk_empty s.heap I.big)
  refine wpAny_Dict_walk (knd := mixKind X.prog X.w) hall hl h0 h15 (thn (h pins _ σ _ _ I1 (q _ hn)) fun ws s2 ⟨ps, H2, I2, rel, e, kvs, ep, lk, q2⟩ => ?_)
  subst ep
  obtain ⟨rs, c, rk⟩ := carries_of (P := X.prog) (w := X.w) rel
  obtain ⟨z, hd, vs0, r0, dd⟩ := dk_of I2.hok ⟨_, e⟩
  cases r0
  refine ⟨rs, c, dd, fun h' dd' hs => let ⟨ep, da⟩ := dd'.dictAt; ⟨.ref s.heap.objs.size, _, ?_, rfl, q2 ep⟩⟩
  have hz : (mergeK [] kvs).length ≤ sizeLine := by
    have h1 := length_mergeK kvs []
    rw [List.length_nil] at h1
    rw [sizeLine_eq]; omega
  have he : ∃ q, h'.get? s.heap.objs.size = some q := let ⟨q, _, _, hq, _⟩ := dd'; ⟨q, hq⟩
  exact d_write I2 (by rw [e]; exact True.intro) hs he (dk_new hz hd (rk.merge .nil) da)
structure M1 (X : Cx) (o : Expr) (m : Str) (apos : Pos) (e : Expr) (cpos : Pos) : Prop where
  base : attributeBase o m X.env (eval o X.env) = eval o X.env
  few : ((backTo cpos (starEach [e] X.env)).all (fun x => !x.1) && (backToKw cpos (keywordEach [] X.env)).all (fun x => x.1.isSome)
    && decide (([e] : List Expr).length + ([] : List Keyword).length + (if ([] : List Keyword).isEmpty then 0 else 1) < 30)) = true
  line : (apos.endLine == cpos.line) = true
  trees : backTo cpos (starEach [e] X.env) = [(false, eval e X.env)]
structure M2 (X : Cx) (o : Expr) (m : Str) (apos : Pos) (e f : Expr) (cpos : Pos) : Prop where
  base : attributeBase o m X.env (eval o X.env) = eval o X.env
  few : ((backTo cpos (starEach [e, f] X.env)).all (fun x => !x.1) && (backToKw cpos (keywordEach [] X.env)).all (fun x => x.1.isSome)
    && decide (([e, f] : List Expr).length + ([] : List Keyword).length + (if ([] : List Keyword).isEmpty then 0 else 1) < 30)) = true
  line : (apos.endLine == cpos.line) = true
  trees : backTo cpos (starEach [e, f] X.env) = [(false, eval e X.env), (false, eval f X.env)]
noncomputable def IsD (H : Hp) (a : Addr) : Prop := (∃ kvs, RdK H a kvs) ∨ ∃ kvs, Rd H a (.dT kvs)
theorem isD_at {X : Cx} {pins : List (Addr × Obj)} {σ : St} {H : Hp} {s : Shared} {a : Addr} (I : Inv X pins σ H s) (d : IsD H a) :
    s.TypeIs (.ref a) "dict" ∧ (∀ b, Value.ref a = .ref b → ∃ ob, s.heap.get? b = some ob ∧ ob.dict = none) ∧ (a == sysModules) = false := by
  rcases d with ⟨kvs, e⟩ | ⟨kvs, e⟩
  · obtain ⟨_, hd, vs, _, dd⟩ := dk_rd I.hok e
    refine ⟨dd.typeIs, fun b q => ?_, hd⟩
    cases q
    obtain ⟨ob, _, _, h1, h2, _⟩ := dd
    exact ⟨ob, h1, h2.2.1⟩
  · obtain ⟨_, hd, xs, _, dd⟩ := dt_rd I.hok e
    refine ⟨dd.typeIs, fun b q => ?_, hd⟩
    cases q
    obtain ⟨ob, _, _, h1, h2, _⟩ := dd
    exact ⟨ob, h1, h2.2.1⟩
section
variable {X : Cx} {pins : List (Addr × Obj)} {σ : St} {H : Hp} {s : Shared} {a : Addr} {y d : V} {u r : Value} {o : Option V} {A : Around} {E : Value → Shared → Prop}
theorem d_get1 {Q : Value → Shared → Prop} (hu : A.units + 1 < cLine) (I : Inv X pins σ H s) (g : DGet H a y o) (ry : RelV y u) (h : ∀ w' s', Inv X pins σ H s' → RelV (o.getD .non) w' → Q w' s') :
    wpAny (model X.prog X.w) A (call (.builtin "dict.get") [.ref a, u]) Q E s := by
  rcases g with ⟨kvs, k, e, ey, l⟩ | ⟨kvs, k, b, e, ey, eb, l⟩
  · subst ey
    obtain ⟨z, hd, vs, rel, dd⟩ := dk_rd I.hok e
    refine call_meetsIn PySem.F.slot_dict_get dd.typeIs PySem.F.entry_dict_get (PySem.F.args_dict_get_2 _ _) (meets_dict_get (mixKind X.prog X.w) a (kV_is ry) hd) ⟨_, dd.mapOf, h _ _ (I.tok _) ?_⟩
    rw [l]
    exact (rel.val k).getD rfl
  · subst ey
    cases (show u = Value.ref b from ry)
    obtain ⟨z, hd, xs, rel, dd⟩ := dt_rd I.hok e
    refine call_meetsIn PySem.F.slot_dict_get dd.typeIs PySem.F.entry_dict_get (PySem.F.args_dict_get_2 _ _) (meetsH_dict_get (tupleKind (mixKind X.prog X.w)) a b hd) ⟨tupleKind_room_in1 hu, k, xs, key_of I.hok eb, dd, h _ _ (I.tok _) ?_⟩
    rw [l]
    exact (rel.val k).getD rfl
end
noncomputable def tDGet1 (td ty : TE) : TE := fun σ H Q => td σ H fun x H1 => ∃ a, x = .ref a ∧ IsD H1 a ∧ ty σ H1 fun y H2 => ∃ o, DGet H2 a y o ∧ Q (o.getD .non) H2
section
variable {X : Cx} {o e f : Expr} {apos cpos : Pos} {td ty tx : TE}
theorem pe_dget1 (hu : X.A.units + 1 < cLine) (ho : PE X o td) (he : PE X e ty) (m : M1 X o "get" apos e cpos) : PE X (.Call (.Attribute o "get" apos) [e] [] cpos) (tDGet1 td ty) := by
  intro pins s σ H Q I h
  refine wpAny_Call_method m.base m.few m.line PySem.F.plainAttrs_dict PySem.F.slot_dict_get PySem.F.type_dict_get (thn (ho pins s σ H _ I h) fun u s1 ⟨x, H1, I1, rx, a, ex, d, q1⟩ => ?_)
  subst ex
  obtain rfl : u = Value.ref a := rx
  obtain ⟨t1, t2, _⟩ := isD_at I1 d
  refine ⟨t1, t2, ?_⟩
  rw [m.trees]
  refine Calls.callWith_builtin rfl (Calls.evalArgs_plain (Calls.spliced_cons (thn (he pins s1 σ H1 _ I1 q1) fun iv s2 ⟨y, H2, I2, ry, ov, g, q2⟩ => Calls.spliced_nil ?_)))
  exact d_get1 hu I2 g ry fun w' s3 I3 rw' => ⟨_, H2, I3, rw', q2⟩
end
section
variable {X : Cx} {pins : List (Addr × Obj)} {σ : St} {H : Hp} {s : Shared} {a : Addr} {kvs : List (Key × V)} {A : Around} {E : Value → Shared → Prop}
end
section
variable {X : Cx} {pins : List (Addr × Obj)} {σ : St} {H : Hp} {s : Shared} {a : Addr} {y : V} {u : Value} {A : Around} {E : Value → Shared → Prop}
end
end L2
set_option Elab.async false
set_option linter.all false
set_option maxRecDepth 100000
set_option maxHeartbeats 4000000
namespace HT
open PySem PySem.Spec PyProof.Rows
end HT
namespace L2
open PySem PySem.Spec PyProof.Rows
section
variable {X : Cx}
end
end L2
namespace L2
open PySem PySem.Spec PyProof.Rows
section
variable {k : Nat} {cap : List Nat} {g : TG} {tt : TT} {te : TE} {σ : St} {H : Hp} {Q : VK} {l : Addr}
end
noncomputable def Kp (H H' : Hp) : Prop := ∀ a o, H a = some o → H' a = some o ∨ ∃ xs ys, o = .lst xs ∧ H' a = some (.lst ys)
theorem Kp.of {H H' : Hp} (s : Same H H') : Kp H H' := fun a o h => .inl (s a o h)
theorem Kp.trans {H H1 H2 : Hp} (a : Kp H H1) (b : Kp H1 H2) : Kp H H2 := fun c o h => by
  rcases a c o h with r | ⟨xs, ys, rfl, r⟩
  · exact b c o r
  · rcases b c _ r with q | ⟨us, ws, e, q⟩
    · exact .inr ⟨xs, ys, rfl, q⟩
    · exact .inr ⟨xs, ws, rfl, q⟩
theorem Kp.but {H H' : Hp} {p : Addr} (h : Pot H p) (h' : Pot H' p) (b : But p H H') : Kp H H' := fun a o e => by
  by_cases z : a = p
  · subst z
    obtain ⟨i, j, e1, _⟩ := h
    obtain ⟨i', j', e2, _⟩ := h'
    rw [e1] at e
    cases e
    exact .inr ⟨_, _, rfl, e2⟩
  · exact .inl (b a o e z)
theorem Kp.lst {H : Hp} {l : Addr} {xs ys : List V} (e : H l = some (.lst xs)) : Kp H (upd H l (.lst ys)) := fun a o h => by
  by_cases z : a = l
  · subst z; rw [e] at h; cases h; exact .inr ⟨_, _, rfl, upd_same⟩
  · exact .inl (by rw [upd_ne z]; exact h)
theorem Kp.tup {H H' : Hp} (k : Kp H H') {a : Addr} {xs : List V} (h : H a = some (.tup xs)) : H' a = some (.tup xs) := by
  rcases k a _ h with r | ⟨_, _, e, _⟩
  · exact r
  · cases e
structure Tg (H : Hp) (v : V) (k : Kd) : Prop where
  is : IsK H v k
  few : ∀ x, v = .str x → x.length ≤ 1000000
theorem Tg.kp {H H' : Hp} {v : V} {k : Kd} (t : Tg H v k) (s : Kp H H') : Tg H' v k := by
  refine ⟨?_, t.few⟩
  have h := t.is
  cases k with
  | non => exact h
  | bl => exact h
  | int => exact h
  | str => exact h
  | lst =>
    obtain ⟨a, xs, rfl, e⟩ := h
    rcases s _ _ e with r | ⟨_, ys, _, r⟩
    · exact ⟨a, xs, rfl, r⟩
    · exact ⟨a, ys, rfl, r⟩
  | tup => obtain ⟨a, xs, rfl, e⟩ := h; exact ⟨a, xs, rfl, s.tup e⟩
  | dct =>
    obtain ⟨a, xs, ep, rfl, e⟩ := h
    rcases s _ _ e with r | ⟨_, _, z, _⟩
    · exact ⟨a, xs, ep, rfl, r⟩
    · cases z
theorem Tg.same {H H' : Hp} {v : V} {k : Kd} (t : Tg H v k) (s : Same H H') : Tg H' v k := t.kp (.of s)
noncomputable def tupOf (H : Hp) : V → Option (List V)
  | .ref a => match H a with | some (.tup xs) => some xs | _ => none
  | _ => none
theorem tupOf_at {H : Hp} {a : Addr} {xs : List V} (h : H a = some (.tup xs)) : tupOf H (.ref a) = some xs := by unfold tupOf; simp only [h]
theorem Tg.tup {H : Hp} {v : V} {k : Kd} (t : Tg H v k) : (k = .tup ∧ ∃ a xs, v = .ref a ∧ H a = some (.tup xs) ∧ tupOf H v = some xs) ∨ (k ≠ .tup ∧ tupOf H v = none) := by
  have h := t.is
  cases k with
  | non => cases (show v = .non from h); exact .inr ⟨(fun z => nomatch z), rfl⟩
  | bl => obtain ⟨_, rfl⟩ := h; exact .inr ⟨(fun z => nomatch z), rfl⟩
  | int => obtain ⟨_, rfl⟩ := h; exact .inr ⟨(fun z => nomatch z), rfl⟩
  | str => obtain ⟨_, rfl⟩ := h; exact .inr ⟨(fun z => nomatch z), rfl⟩
  | lst => obtain ⟨a, xs, rfl, e⟩ := h; exact .inr ⟨(fun z => nomatch z), by unfold tupOf; simp only [e]⟩
  | tup => obtain ⟨a, xs, rfl, e⟩ := h; exact .inl ⟨rfl, a, xs, rfl, e, tupOf_at e⟩
  | dct => obtain ⟨a, xs, ep, rfl, e⟩ := h; exact .inr ⟨(fun z => nomatch z), by unfold tupOf; simp only [e]⟩
theorem Tg.tup_kp {H H' : Hp} {v : V} {k : Kd} (t : Tg H v k) (s : Kp H H') : tupOf H' v = tupOf H v := by
  rcases t.tup with ⟨rfl, a, xs, rfl, e, e2⟩ | ⟨n, e⟩
  · rw [e2]; exact tupOf_at (s.tup e)
  · rw [e]
    rcases (t.kp s).tup with ⟨z, _⟩ | ⟨_, e'⟩
    · exact absurd z n
    · exact e'
noncomputable def AnyD : Nat → Hp → V → Prop
  | 0, H, v => ∃ k, Tg H v k
  | n + 1, H, v => (∃ k, Tg H v k) ∧ ∀ xs, tupOf H v = some xs → xs.length ≤ 1000 ∧ ∀ x ∈ xs, AnyD n H x
theorem AnyD.tg : ∀ {n : Nat} {H : Hp} {v : V}, AnyD n H v → ∃ k, Tg H v k
  | 0, _, _, h => h
  | _ + 1, _, _, h => h.1
theorem AnyD.kp : ∀ {n : Nat} {H H' : Hp} {v : V}, AnyD n H v → Kp H H' → AnyD n H' v
  | 0, _, _, _, ⟨k, t⟩, s => ⟨k, t.kp s⟩
  | n + 1, _, _, _, ⟨⟨k, t⟩, h⟩, s => ⟨⟨k, t.kp s⟩, fun xs e => by
      rw [t.tup_kp s] at e
      exact ⟨(h xs e).1, fun x hx => AnyD.kp ((h xs e).2 x hx) s⟩⟩
noncomputable def Any (H : Hp) (v : V) : Prop := ∀ n, AnyD n H v
theorem Any.kp {H H' : Hp} {v : V} (h : Any H v) (s : Kp H H') : Any H' v := fun n => (h n).kp s
end L2
set_option Elab.async false
set_option linter.all false
set_option maxRecDepth 100000
set_option maxHeartbeats 4000000
namespace L2
open PySem PySem.Spec PyProof.Rows
section
variable {X : Cx} {es : List Expr} {te : TE} {t : TA}
theorem pa_c {a b c} (ha : PE X (.Constant a b c) te) (hr : PA X es t) : PA X (.Constant a b c :: es) (tCons te t) := pa_cons ha hr rfl
theorem pa_n {a b} (ha : PE X (.Name a b) te) (hr : PA X es t) : PA X (.Name a b :: es) (tCons te t) := pa_cons ha hr rfl
theorem pa_t {a b c} (ha : PE X (.Tuple a b c) te) (hr : PA X es t) : PA X (.Tuple a b c :: es) (tCons te t) := pa_cons ha hr rfl
theorem pa_l {a b} (ha : PE X (.List a b) te) (hr : PA X es t) : PA X (.List a b :: es) (tCons te t) := pa_cons ha hr rfl
theorem pa_d {a b c} (ha : PE X (.Dict a b c) te) (hr : PA X es t) : PA X (.Dict a b c :: es) (tCons te t) := pa_cons ha hr rfl
theorem pa_k {a b c d} (ha : PE X (.Call a b c d) te) (hr : PA X es t) : PA X (.Call a b c d :: es) (tCons te t) := pa_cons ha hr rfl
end
section
variable {X : Cx} {elt tg iter : Expr} {ifs : List Expr} {scope : Scope} {pos : Pos} {wi : TI} {g : TG} {tt : TT} {te : TE} {N : List Str} {k : Nat} {cap : List Nat}
end
section
variable {X : Cx} {es : List Expr} {e : Expr} {te tk tv : TE} {t : TA}
structure PEw (X : Cx) (e : Expr) (t : TE) : Prop where
  h : PE X e t
structure PAw (X : Cx) (es : List Expr) (t : TA) : Prop where
  h : PA X es t
theorem ew (h : PE X e te) : PEw X e te := ⟨h⟩
theorem ew_d0 {pos : Pos} : PEw X (.Dict [] [] pos) tDNewK := ⟨pe_dnewK⟩
theorem ew_d1 {k v : Expr} {pos : Pos} (hk : PE X k tk) (hv : PE X v tv) : PEw X (.Dict [some k] [v] pos) (tDisp [(tk, tv)]) := ⟨pe_disp (pps_cons hk hv pps_nil) rfl rfl (fun z => nomatch z) (by show 1 ≤ 15; decide)⟩
theorem pw_nil : PAw X [] tNil := ⟨pa_nil⟩
theorem pw_n {a b} (ha : PEw X (.Name a b) te) (hr : PAw X es t) : PAw X (.Name a b :: es) (tCons te t) := ⟨pa_n ha.h hr.h⟩
theorem pw_t {a b c} (ha : PEw X (.Tuple a b c) te) (hr : PAw X es t) : PAw X (.Tuple a b c :: es) (tCons te t) := ⟨pa_t ha.h hr.h⟩
theorem pw_l {a b} (ha : PEw X (.List a b) te) (hr : PAw X es t) : PAw X (.List a b :: es) (tCons te t) := ⟨pa_l ha.h hr.h⟩
theorem pw_d {a b c} (ha : PEw X (.Dict a b c) te) (hr : PAw X es t) : PAw X (.Dict a b c :: es) (tCons te t) := ⟨pa_d ha.h hr.h⟩
theorem pw_k {a b c d} (ha : PEw X (.Call a b c d) te) (hr : PAw X es t) : PAw X (.Call a b c d :: es) (tCons te t) := ⟨pa_k ha.h hr.h⟩
theorem pw_c {a b c} (ha : PEw X (.Constant a b c) te) (hr : PAw X es t) : PAw X (.Constant a b c :: es) (tCons te t) := ⟨pa_c ha.h hr.h⟩
theorem ew_t {k} {pos : Pos} (h : PAw X es t) : PEw X (.Tuple es k pos) (tTup t) := ⟨pe_tup h.h⟩
theorem ew_l {pos : Pos} (h : PAw X es t) : PEw X (.List es pos) (tLst t) := ⟨pe_lst h.h⟩
theorem ps_setWl {i : Nat} {x : Str} {pos' pos p3 : Pos} (hN : X.N.Nodup) (hi : X.N[i]? = some x) (hx : X.env.scope.names.lookup x = some .local) (he : PEw X (.List es pos) te) : PS X (.Assign [.Name x pos'] (.List es pos) p3) (tAsg te (gName i)) := ps_set hN hi (.inl hx) he.h rfl (.inr hx)
end
section
variable {X : Cx} {es : List Expr} {te : TE} {t : TA} {st : Stmt} {rest : List Stmt} {ts us : TS}
structure PSw (X : Cx) (st : Stmt) (t : TS) : Prop where
  h : PS X st t
structure PSsw (X : Cx) (st : List Stmt) (t : TS) : Prop where
  h : PSs X st t
theorem sw (h : PS X st ts) : PSw X st ts := ⟨h⟩
theorem ssw_cons (h1 : PSw X st ts) (h2 : PSsw X rest us) : PSsw X (st :: rest) (tSeq ts us) := ⟨pss_cons h1.h h2.h⟩
theorem ssw_one (h1 : PSw X st ts) : PSsw X [st] ts := ⟨pss_one h1.h⟩
theorem sw_setWl {i : Nat} {x : Str} {pos' pos p3 : Pos} (hN : X.N.Nodup) (hi : X.N[i]? = some x) (hx : X.env.scope.names.lookup x = some .local) (he : PEw X (.List es pos) te) : PSw X (.Assign [.Name x pos'] (.List es pos) p3) (tAsg te (gName i)) := ⟨ps_setWl hN hi hx he⟩
theorem boxed {body : List Stmt} {D : Ends} {σ : St} {H : Hp} (h : ∃ t, PSsw X body t ∧ t D σ H) : ∃ t, PSs X body t ∧ t D σ H := let ⟨t, a, b⟩ := h; ⟨t, a.h, b⟩
end
end L2
set_option Elab.async false
set_option linter.all false
set_option maxRecDepth 100000
set_option maxHeartbeats 4000000
namespace L2
open PySem PySem.Spec PyProof.Rows
section
variable {X : Cx} {pos : Pos} {k : Nat} {a b e : Expr} {es rest : List Expr} {te ta tb : TE} {t : Str → TE}
noncomputable def rNeL (K : PySem.W.Frag) : R2 := fun x y H Q => ∃ a b xs ys, x = .ref a ∧ y = .ref b ∧ SqL K H a xs ∧ SqL K H b ys ∧ (xs.length = ys.length → xs.all flatV = true ∧ ys.all flatV = true) ∧ Q (.bl (!eqLV xs ys)) H
theorem neL (K : PySem.W.Frag) (hr : Room k X.A) (hK : X.K = K := by rfl) : OpR X (compareOp .NotEq) (rNeL K) := by
  subst hK
  intro pins s σ H x y v u Q I rx ry h
  obtain ⟨a, b, xs, ys, rfl, rfl, ha, hb, hf, q⟩ := h
  cases rx
  cases ry
  obtain ⟨its, r1, p1, _⟩ := I.list ha
  obtain ⟨its2, r2, p2, _⟩ := I.list hb
  have l1 := r1.length
  have l2 := r2.length
  by_cases e : xs.length = ys.length
  · obtain ⟨f1, f2⟩ := hf e
    refine SeqAt.RcNeAt.lists (e := fun j => eqV ((xs[j]?).getD .non) ((ys[j]?).getD .non)) p1.isList p2.isList (by simp; omega) hr.units0 (fun j h1 h2 => ?_) _ _ _ _ ?_
    · have g1 : its[j]? = some (its.toArray[j]) := by simp at h1 ⊢
      have g2 : its2[j]? = some (its2.toArray[j]) := by simp at h2 ⊢
      obtain ⟨x, ex, rx⟩ := r1.get' g1
      obtain ⟨y, ey, ry⟩ := r2.get' g2
      rw [ex, ey]
      exact eqAt_V rx ry (List.all_eq_true.mp f1 _ (List.mem_of_getElem? ex)) (List.all_eq_true.mp f2 _ (List.mem_of_getElem? ey))
    · have e1 : its.toArray.size = xs.length := by simp; omega
      rw [e1, eqLV_range e]
      exact ⟨.bl _, H, I, rfl, q⟩
  · refine SeqAt.RcNeAt.lists_lengths p1.isList p2.isList (by simp; omega) hr.units0 _ _ _ _ ?_
    rw [eqLV_len e] at q
    exact ⟨.bl true, H, I, rfl, q⟩
end
noncomputable def Pur (H : Hp) (p g : Addr) : Prop := ∃ (xs : List Int) (s c : Int), H p = some (.lst [.ref g, .int s, .int c]) ∧ H g = some (.lst (xs.map V.int)) ∧ p ≠ g
noncomputable def Fr (p g : Addr) (H H' : Hp) : Prop := ∀ b o, H b = some o → b ≠ p → b ≠ g → H' b = some o
theorem Fr.refl {p g : Addr} {H : Hp} : Fr p g H H := fun _ _ h _ _ => h
theorem Fr.trans {p g : Addr} {H H1 H2 : Hp} (a : Fr p g H H1) (b : Fr p g H1 H2) : Fr p g H H2 := fun c o h n m => b c o (a c o h n m) n m
theorem Fr.of {p g : Addr} {H H1 : Hp} (a : Same H H1) : Fr p g H H1 := fun c o h _ _ => a c o h
theorem Fr.new {p g l : Addr} {H H1 : Hp} {o : HO} (f : Fr p g H H1) (n : H1 l = none) : Fr p g H (upd H1 l o) := f.trans (.of (Same.upd n))
theorem Pur.same {H H' : Hp} {p g : Addr} (h : Pur H p g) (s : Same H H') : Pur H' p g := let ⟨xs, i, c, e1, e2, n⟩ := h; ⟨xs, i, c, s _ _ e1, s _ _ e2, n⟩
theorem Pur.upd {H : Hp} {p g l : Addr} {o : HO} (h : Pur H p g) (h1 : p ≠ l) (h2 : g ≠ l) : Pur (upd H l o) p g := let ⟨xs, i, c, e1, e2, n⟩ := h; ⟨xs, i, c, by rw [upd_ne h1]; exact e1, by rw [upd_ne h2]; exact e2, n⟩
theorem Pur.new {H : Hp} {p g l : Addr} {o : HO} (h : Pur H p g) (n : H l = none) : Pur (L2.upd H l o) p g := h.same (Same.upd n)
theorem Pur.neg {H : Hp} {p g l : Addr} (h : Pur H p g) (n : H l = none) : g ≠ l := let ⟨_, _, _, _, e, _⟩ := h; ne_of_none e n
theorem Fr.kp {H H' : Hp} {p g : Addr} (h : Pur H p g) (h' : Pur H' p g) (f : Fr p g H H') : Kp H H' := fun a o e => by
  obtain ⟨xs, s, c, e1, e2, n⟩ := h
  obtain ⟨xs', s', c', e1', e2', n'⟩ := h'
  by_cases z : a = p
  · subst z
    rw [e1] at e; cases e
    exact .inr ⟨_, _, rfl, e1'⟩
  · by_cases z2 : a = g
    · subst z2
      rw [e2] at e; cases e
      exact .inr ⟨_, _, rfl, e2'⟩
    · exact .inl (f a o e z z2)
section
variable {k : Nat} {cap : List Nat} {gg : TG} {tt : TT} {te : TE} {σ : St} {H : Hp} {Q : VK} {l : Addr}
end
section
variable {k : Nat} {cap : List Nat} {g : TG} {tt : TT} {te : TE} {σ : St} {H : Hp} {Q : VK} {l : Addr}
end
end L2
set_option Elab.async false
set_option linter.all false
set_option maxRecDepth 100000
set_option maxHeartbeats 4000000
namespace L2
open PySem PySem.Spec PyProof.Rows
noncomputable def LtAt (A : Around) (s : Shared) (x y : Value) (c : Bool) : Prop :=
  ∀ (prog : Program) (w : World) (E : Value → Shared → Prop) (Q : Value → Shared → Prop), Q (.bool c) s → wpAny (model prog w) A (richCompare .Lt x y) Q E s
inductive LexR (A : Around) (s : Shared) (fin : Bool) : List (Value × Value) → Bool → Prop
  | done : LexR A s fin [] fin
  | same {p q : Value} {r : List (Value × Value)} {c : Bool} : SeqAt.EqAt A s p q true → LexR A s fin r c → LexR A s fin ((p, q) :: r) c
  | less {p q : Value} {r : List (Value × Value)} {c : Bool} : SeqAt.EqAt A s p q false → LtAt A s p q c → LexR A s fin ((p, q) :: r) c
section
open PySem.SeqAt
open PySem.AutoSeq1 (wpAny_loadPart')
open PySem.MeetsSeq PySem.MeetsSeq2 PySem.MeetsSeq3
end
section
variable {X : Cx} {pins : List (Addr × Obj)} {σ : St} {H : Hp} {s : Shared}
end
section
open PySem.W
noncomputable def Al {α : Type} (n : Nat) (P : α → Prop) : KasT α → Prop
  | .ret a => P a
  | .ask i j k => i < n ∧ j < n ∧ ∀ b, Al n P (k b)
theorem Al.bind {α β : Type} {n : Nat} {P : α → Prop} {R : β → Prop} {f : α → KasT β} : ∀ {t : KasT α}, Al n P t → (∀ a, P a → Al n R (f a)) → Al n R (t.bind f)
  | .ret a, h, hf => hf a h
  | .ask _ _ _, h, hf => ⟨h.1, h.2.1, fun b => Al.bind (h.2.2 b) hf⟩
theorem Al.run {α : Type} {n : Nat} {P : α → Prop} {cmp : Nat → Nat → (Bool → Shared → Prop) → Shared → Prop} {G : α → Shared → Prop} {s : Shared}
    (hc : ∀ i j (C : Bool → Shared → Prop), i < n → j < n → (∀ b, C b s) → cmp i j C s) (hg : ∀ a, P a → G a s) : ∀ {t : KasT α}, Al n P t → t.kasWp cmp G s
  | .ret a, h => hg a h
  | .ask i j _, h => hc i j _ h.1 h.2.1 fun b => Al.run hc hg (h.2.2 b)
noncomputable def Rng (n : Nat) (p : Array Nat) : Prop := p.Perm (List.toArray (List.range n))
theorem Rng.lt {n : Nat} {p : Array Nat} (h0 : 0 < n) (h : Rng n p) (i : Nat) : p.getD i 0 < n := by
  by_cases hi : i < p.size
  · have e : p.getD i 0 = p[i] := by simp [Array.getD, hi]
    rw [e]
    have hm : p[i] ∈ p := Array.getElem_mem hi
    have := (h.mem_iff).mp hm
    simpa using this
  · have e : p.getD i 0 = 0 := by simp [Array.getD, hi]
    omega
theorem Rng.perm {vs : List Value} {p : Array Nat} (h : Rng vs.length p) : (p.toList.map fun i => vs.getD i Value.none).Perm vs := by
  have h1 : p.toList.Perm (List.range vs.length) := by simpa using Array.perm_iff_toList_perm.mp h
  have h2 := h1.map fun i => vs.getD i Value.none
  have e : (List.range vs.length).map (fun i => vs.getD i Value.none) = vs := by
    apply List.ext_getElem
    · simp
    · intro i a1 a2
      simp [List.getElem?_eq_getElem a2]
  rw [e] at h2
  exact h2
end
section
open PySem.W
variable {prog : Program} {w : World} {A : Around} {E : Value → Shared → Prop} {s : Shared}
end
section
open PySem.W
variable {X : Cx} {pins : List (Addr × Obj)} {σ : St} {H : Hp} {s : Shared} {k : Nat}
theorem Vals.perm {ys : List V} {us ws : List Value} (p : us.Perm ws) : ∀ {ys : List V}, Vals ys ws → ∃ zs, zs.Perm ys ∧ Vals zs us := by
  induction p with
  | nil => intro ys r; exact ⟨ys, .refl _, r⟩
  | cons x p ih =>
    intro ys r
    cases r with
    | cons r1 rr =>
      obtain ⟨zs, h1, h2⟩ := ih rr
      exact ⟨_ :: zs, h1.cons _, .cons r1 h2⟩
  | swap x y l =>
    intro ys r
    cases r with
    | cons r1 rr =>
      cases rr with
      | cons r2 r3 => exact ⟨_ :: _ :: _, .swap .., .cons r2 (.cons r1 r3)⟩
  | trans p1 p2 i1 i2 =>
    intro ys r
    obtain ⟨zs, h1, h2⟩ := i2 r
    obtain ⟨ws, h3, h4⟩ := i1 h2
    exact ⟨ws, h3.trans h1, h4⟩
noncomputable def Led (K : PySem.W.Frag) (H : Hp) (F : V → List V) (y : V) : Prop := ∃ a n us, y = .ref a ∧ F y = .str n :: us ∧ SqT K H a (.str n :: us)
end
end L2
set_option Elab.async false
set_option linter.all false
set_option maxRecDepth 100000
set_option maxHeartbeats 4000000
namespace HT
open PySem PySem.Spec PyProof.Rows
section
variable {prog : Program} {w : World} {A : Around} {E : Value → Shared → Prop} {s : Shared}
end
end HT
namespace L2
open PySem PySem.Spec PyProof.Rows
section
variable {X : Cx} {e st : Expr} {te ts : TE} {pos p2 : Pos}
end
end L2
set_option Elab.async false
set_option linter.all false
set_option maxRecDepth 100000
set_option maxHeartbeats 4000000
namespace L2
open PySem PySem.Spec PyProof.Rows
section
variable {X : Cx}
end
end L2
set_option Elab.async false
set_option linter.all false
set_option maxRecDepth 100000
set_option maxHeartbeats 4000000
namespace L2
open PySem PySem.Spec PyProof.Rows
noncomputable def ltV0 : V → V → Bool
  | .str a, .str b => decide (a.cps.toList < b.cps.toList)
  | .int a, .int b => decide (a < b)
  | _, _ => false
noncomputable def eqD (H : Hp) : Nat → V → V → Bool
  | 0, x, y => eqV x y
  | n + 1, x, y => match tupOf H x, tupOf H y with
    | some xs, some ys => (List.range (min xs.length ys.length)).all (fun j => eqD H n (xs.getD j .non) (ys.getD j .non)) && xs.length == ys.length
    | _, _ => eqV x y
noncomputable def lexW (fin : Bool) (eq lt : V → V → Bool) : List V → List V → Bool
  | x :: xs, y :: ys => if eq x y then lexW fin eq lt xs ys else lt x y
  | _, _ => fin
noncomputable def ltD (H : Hp) : Nat → V → V → Bool
  | 0, x, y => ltV0 x y
  | n + 1, x, y => match tupOf H x, tupOf H y with
    | some xs, some ys => lexW (decide (xs.length < ys.length)) (eqD H n) (ltD H n) xs ys
    | _, _ => ltV0 x y
noncomputable def CmpE (H : Hp) : Nat → V → V → Prop
  | 0, x, y => (∃ i j, x = .str i ∧ y = .str j) ∨ ∃ i j, x = .int i ∧ y = .int j
  | n + 1, x, y => ((∃ i j, x = .str i ∧ y = .str j) ∨ ∃ i j, x = .int i ∧ y = .int j) ∨ ∃ a b xs ys, x = .ref a ∧ y = .ref b ∧ H a = some (.tup xs) ∧ H b = some (.tup ys) ∧ ∀ (i : Nat) u v, xs[i]? = some u → ys[i]? = some v → CmpE H n u v
theorem eqD_flat {H : Hp} {n : Nat} {x y : V} (h : (∃ i j, x = .str i ∧ y = .str j) ∨ ∃ i j, x = .int i ∧ y = .int j) : eqD H n x y = eqV x y ∧ ltD H n x y = ltV0 x y := by
  cases n with
  | zero => exact ⟨rfl, rfl⟩
  | succ n =>
    rcases h with ⟨i, j, rfl, rfl⟩ | ⟨i, j, rfl, rfl⟩ <;> exact ⟨rfl, rfl⟩
section
variable {X : Cx} {pins : List (Addr × Obj)} {σ : St} {H : Hp} {s : Shared} {k : Nat}
end
theorem CmpE.kp {H H' : Hp} (s : Kp H H') : ∀ {n : Nat} {x y : V}, CmpE H n x y → CmpE H' n x y
  | 0, _, _, h => h
  | n + 1, _, _, .inl h => .inl h
  | n + 1, _, _, .inr ⟨a, b, xs, ys, e1, e2, ha, hb, k⟩ => .inr ⟨a, b, xs, ys, e1, e2, s.tup ha, s.tup hb, fun i u v h1 h2 => CmpE.kp s (k i u v h1 h2)⟩
theorem all_on {α : Type} {f g : α → Bool} : ∀ {l : List α}, (∀ j ∈ l, f j = g j) → l.all f = l.all g
  | [], _ => rfl
  | a :: l, h => by rw [List.all_cons, List.all_cons, h a List.mem_cons_self, all_on fun j hj => h j (List.mem_cons_of_mem _ hj)]
theorem lexW_congr {fin : Bool} {eq lt eq' lt' : V → V → Bool} : ∀ {xs ys : List V}, (∀ (i : Nat) u v, xs[i]? = some u → ys[i]? = some v → eq' u v = eq u v ∧ lt' u v = lt u v) → lexW fin eq' lt' xs ys = lexW fin eq lt xs ys
  | [], _, _ => by unfold lexW; rfl
  | _ :: _, [], _ => by unfold lexW; rfl
  | x :: xs, y :: ys, h => by
    unfold lexW
    rw [(h 0 x y rfl rfl).1, (h 0 x y rfl rfl).2, lexW_congr fun i u v a b => h (i + 1) u v a b]
theorem CmpE.keeps {H H' : Hp} (s : Kp H H') : ∀ {n : Nat} {x y : V}, CmpE H n x y → eqD H' n x y = eqD H n x y ∧ ltD H' n x y = ltD H n x y
  | 0, _, _, _ => ⟨rfl, rfl⟩
  | n + 1, x, y, h => by
    rcases h with h | ⟨a, b, xs, ys, rfl, rfl, ha, hb, k⟩
    · rw [(eqD_flat h).1, (eqD_flat h).2, (eqD_flat h).1, (eqD_flat h).2]; exact ⟨rfl, rfl⟩
    · have ih : ∀ (i : Nat) u v, xs[i]? = some u → ys[i]? = some v → eqD H' n u v = eqD H n u v ∧ ltD H' n u v = ltD H n u v := fun i u v h1 h2 => CmpE.keeps s (k i u v h1 h2)
      constructor
      · unfold eqD
        rw [tupOf_at ha, tupOf_at hb, tupOf_at (s.tup ha), tupOf_at (s.tup hb)]
        show ((List.range (min xs.length ys.length)).all _ && xs.length == ys.length) = ((List.range (min xs.length ys.length)).all _ && xs.length == ys.length)
        congr 1
        refine all_on fun j hj => ?_
        have hj := List.mem_range.mp hj
        have h1 : j < xs.length := by omega
        have h2 : j < ys.length := by omega
        rw [List.getD_eq_getElem?_getD, List.getD_eq_getElem?_getD, List.getElem?_eq_getElem h1, List.getElem?_eq_getElem h2]
        exact (ih j _ _ (List.getElem?_eq_getElem h1) (List.getElem?_eq_getElem h2)).1
      · unfold ltD
        rw [tupOf_at ha, tupOf_at hb, tupOf_at (s.tup ha), tupOf_at (s.tup hb)]
        exact lexW_congr ih
end L2
set_option Elab.async false
set_option linter.all false
set_option maxRecDepth 100000
set_option maxHeartbeats 4000000
namespace L2
open PySem PySem.Spec PyProof.Rows
section
open PySem.W
noncomputable def AlB {α : Type} (ans : Nat → Nat → Bool) (P : α → Prop) : KasT α → Prop
  | .ret a => P a
  | .ask i j k => AlB ans P (k (ans i j))
theorem AlB.bind {α β : Type} {ans : Nat → Nat → Bool} {P : α → Prop} {R : β → Prop} {f : α → KasT β} : ∀ {t : KasT α}, AlB ans P t → (∀ a, P a → AlB ans R (f a)) → AlB ans R (t.bind f)
  | .ret a, h, hf => hf a h
  | .ask i j k, h, hf => AlB.bind (t := k (ans i j)) h hf
theorem AlB.mono {α : Type} {ans : Nat → Nat → Bool} {P R : α → Prop} (hf : ∀ a, P a → R a) : ∀ {t : KasT α}, AlB ans P t → AlB ans R t
  | .ret a, h => hf a h
  | .ask i j k, h => AlB.mono hf (t := k (ans i j)) h
theorem AlB.run {α : Type} {n : Nat} {ans : Nat → Nat → Bool} {P R : α → Prop} {cmp : Nat → Nat → (Bool → Shared → Prop) → Shared → Prop} {G : α → Shared → Prop} {s : Shared}
    (hc : ∀ i j (C : Bool → Shared → Prop), i < n → j < n → C (ans i j) s → cmp i j C s) (hg : ∀ a, P a → R a → G a s) : ∀ {t : KasT α}, Al n P t → AlB ans R t → t.kasWp cmp G s
  | .ret a, h, h' => hg a h h'
  | .ask i j _, h, h' => hc i j _ h.1 h.2.1 (AlB.run hc hg (h.2.2 _) h')
variable (O : KeyOrd) (key : Nat → O.α)
noncomputable def Ky (p : Array Nat) (i : Nat) : O.α := key (p.getD i 0)
noncomputable def Upto (p : Array Nat) (k : Nat) : Prop := ∀ i j, i ≤ j → j < k → O.kle (Ky O key p i) (Ky O key p j)
noncomputable def Downto (p : Array Nat) (k : Nat) : Prop := ∀ i j, i ≤ j → j < k → O.kle (Ky O key p j) (Ky O key p i)
variable {O} {key}
theorem Upto.more {p : Array Nat} {x : Nat} (h : Upto O key p x) (hx : 1 ≤ x) (hl : O.kle (Ky O key p (x - 1)) (Ky O key p x)) : Upto O key p (x + 1) := by
  intro i j hij hj
  by_cases h1 : j < x
  · exact h i j hij h1
  · have e : j = x := by omega
    subst e
    by_cases h2 : i = j
    · subst h2; exact KeyOrd.kle_refl _
    · exact KeyOrd.kle_trans (h i (j - 1) (by omega) (by omega)) hl
theorem Downto.more {p : Array Nat} {x : Nat} (h : Downto O key p x) (hx : 1 ≤ x) (hl : O.kle (Ky O key p x) (Ky O key p (x - 1))) : Downto O key p (x + 1) := by
  intro i j hij hj
  by_cases h1 : j < x
  · exact h i j hij h1
  · have e : j = x := by omega
    subst e
    by_cases h2 : i = j
    · subst h2; exact KeyOrd.kle_refl _
    · exact KeyOrd.kle_trans hl (h i (j - 1) (by omega) (by omega))
noncomputable def Eqs (O : KeyOrd) (key : Nat → O.α) (p : Array Nat) (m q : Nat) : Prop := q + 1 ≤ m ∧ ∀ i, m - (q + 1) ≤ i → i < m → Ky O key p i = Ky O key p (m - 1)
theorem Eqs.none {p : Array Nat} {m : Nat} (h : 1 ≤ m) : Eqs O key p m 0 := ⟨by omega, fun i h1 h2 => by rw [show i = m - 1 by omega]⟩
end
end L2
set_option Elab.async false
set_option linter.all false
set_option maxRecDepth 100000
set_option maxHeartbeats 4000000
namespace L2
open PySem PySem.Spec PyProof.Rows
section
open PySem.W
variable {prog : Program} {w : World} {A : Around} {E : Value → Shared → Prop} {s : Shared}
end
end L2
set_option Elab.async false
set_option linter.all false
set_option maxRecDepth 100000
set_option maxHeartbeats 4000000
namespace L2
open PySem PySem.Spec PyProof.Rows
section
open PySem.W
variable {X : Cx} {pins : List (Addr × Obj)} {σ : St} {H : Hp} {s : Shared} {k : Nat}
noncomputable def LedE (H : Hp) (y : V) : Prop := ∃ a n us, y = .ref a ∧ H a = some (.tup (.str n :: us))
theorem LedE.led {K : PySem.W.Frag} {y : V} (h : LedE H y) : Led K H (fun v => (tupOf H v).getD []) y := by
  obtain ⟨a, n, us, rfl, e⟩ := h
  exact ⟨a, n, us, rfl, by dsimp only; rw [tupOf_at e]; rfl, SqT.of e⟩
end
end L2
set_option Elab.async false
set_option linter.all false
set_option maxRecDepth 100000
set_option maxHeartbeats 4000000
namespace L2
open PySem PySem.Spec PyProof.Rows
noncomputable def intO : KeyOrd where
  α := Int
  blt a b := decide (a < b)
  irrefl a := decide_eq_false (by omega)
  trans a b c h1 h2 := decide_eq_true (by have := of_decide_eq_true h1; have := of_decide_eq_true h2; omega)
  negTrans a b c h := by
    have h := of_decide_eq_true h
    by_cases g : a < b
    · exact .inl (decide_eq_true g)
    · exact .inr (decide_eq_true (by omega))
  total a b h1 h2 := by have := of_decide_eq_false h1; have := of_decide_eq_false h2; omega
theorem ko_asym {A : KeyOrd} {a b : A.α} (h : A.blt a b = true) : A.blt b a = false := KeyOrd.klt_asymm (O := A) h
theorem ko_cases {A : KeyOrd} (a b : A.α) : (A.blt a b = true ∧ A.blt b a = false) ∨ (A.blt b a = true ∧ A.blt a b = false) ∨ (a = b) := by
  cases h1 : A.blt a b with
  | true => exact .inl ⟨rfl, ko_asym h1⟩
  | false =>
    cases h2 : A.blt b a with
    | true => exact .inr (.inl ⟨rfl, rfl⟩)
    | false => exact .inr (.inr (A.total a b h1 h2))
noncomputable def stepB (A : KeyOrd) (a b : A.α) (r : Bool) : Bool := A.blt a b || (!A.blt b a && r)
theorem stepB_lt {A : KeyOrd} {a b : A.α} {r : Bool} (h : A.blt a b = true) : stepB A a b r = true := by unfold stepB; rw [h]; rfl
theorem stepB_gt {A : KeyOrd} {a b : A.α} {r : Bool} (h : A.blt b a = true) : stepB A a b r = false := by unfold stepB; rw [h, ko_asym h]; rfl
theorem stepB_eq {A : KeyOrd} {a : A.α} {r : Bool} : stepB A a a r = r := by unfold stepB; rw [A.irrefl]; rfl
theorem stepB_trans {A : KeyOrd} {a b c : A.α} {r r' r'' : Bool} (hr : r = true → r' = true → r'' = true) (h1 : stepB A a b r = true) (h2 : stepB A b c r' = true) : stepB A a c r'' = true := by
  rcases ko_cases (A := A) a b with ⟨x, _⟩ | ⟨x, _⟩ | x
  · rcases ko_cases (A := A) b c with ⟨y, _⟩ | ⟨y, _⟩ | y
    · exact stepB_lt (A.trans _ _ _ x y)
    · rw [stepB_gt y] at h2; cases h2
    · rw [← y]; exact stepB_lt x
  · rw [stepB_gt x] at h1; cases h1
  · subst x
    rw [stepB_eq] at h1
    rcases ko_cases (A := A) a c with ⟨y, _⟩ | ⟨y, _⟩ | y
    · exact stepB_lt y
    · rw [stepB_gt y] at h2; cases h2
    · subst y
      rw [stepB_eq] at h2 ⊢
      exact hr h1 h2
theorem stepB_neg {A : KeyOrd} {a b c : A.α} {r r' r'' : Bool} (hr : r'' = true → r = true ∨ r' = true) (h : stepB A a c r'' = true) : stepB A a b r = true ∨ stepB A b c r' = true := by
  rcases ko_cases (A := A) a b with ⟨x, _⟩ | ⟨x, _⟩ | x
  · exact .inl (stepB_lt x)
  · right
    rcases ko_cases (A := A) a c with ⟨y, _⟩ | ⟨y, _⟩ | y
    · exact stepB_lt (A.trans _ _ _ x y)
    · rw [stepB_gt y] at h; cases h
    · rw [← y]; exact stepB_lt x
  · subst x
    rcases ko_cases (A := A) a c with ⟨y, _⟩ | ⟨y, _⟩ | y
    · exact .inr (stepB_lt y)
    · rw [stepB_gt y] at h; cases h
    · subst y
      rw [stepB_eq] at h ⊢
      rw [stepB_eq]
      exact hr h
theorem stepB_total {A : KeyOrd} {a b : A.α} {r r' : Bool} (h1 : stepB A a b r = false) (h2 : stepB A b a r' = false) : a = b ∧ r = false ∧ r' = false := by
  rcases ko_cases (A := A) a b with ⟨x, _⟩ | ⟨x, _⟩ | x
  · rw [stepB_lt x] at h1; cases h1
  · rw [stepB_lt x] at h2; cases h2
  · subst x
    rw [stepB_eq] at h1 h2
    exact ⟨rfl, h1, h2⟩
noncomputable def prodO (A B : KeyOrd) : KeyOrd where
  α := A.α × B.α
  blt x y := stepB A x.1 y.1 (B.blt x.2 y.2)
  irrefl a := by rw [stepB_eq]; exact B.irrefl _
  trans a b c h1 h2 := stepB_trans (fun x y => B.trans _ _ _ x y) h1 h2
  negTrans a b c h := stepB_neg (fun x => B.negTrans _ b.2 _ x) h
  total a b h1 h2 := by
    obtain ⟨x, y, z⟩ := stepB_total h1 h2
    exact Prod.ext x (B.total _ _ y z)
noncomputable def listB (A : KeyOrd) : List A.α → List A.α → Bool
  | [], [] => false
  | [], _ :: _ => true
  | _ :: _, [] => false
  | x :: xs, y :: ys => stepB A x y (listB A xs ys)
theorem listB_irr {A : KeyOrd} : ∀ xs : List A.α, listB A xs xs = false
  | [] => rfl
  | x :: xs => by unfold listB; rw [stepB_eq]; exact listB_irr xs
theorem listB_trans {A : KeyOrd} : ∀ xs ys zs : List A.α, listB A xs ys = true → listB A ys zs = true → listB A xs zs = true
  | [], [], _, h, _ => by cases h
  | [], _ :: _, [], _, h => by cases h
  | [], _ :: _, _ :: _, _, _ => rfl
  | _ :: _, [], _, h, _ => by cases h
  | _ :: _, _ :: _, [], _, h => by cases h
  | x :: xs, y :: ys, z :: zs, h1, h2 => stepB_trans (listB_trans xs ys zs) h1 h2
theorem listB_neg {A : KeyOrd} : ∀ xs ys zs : List A.α, listB A xs zs = true → listB A xs ys = true ∨ listB A ys zs = true
  | [], [], zs, h => .inr h
  | [], _ :: _, _, _ => .inl rfl
  | _ :: _, _, [], h => by cases h
  | _ :: _, [], _ :: _, _ => .inr rfl
  | x :: xs, y :: ys, z :: zs, h => stepB_neg (listB_neg xs ys zs) h
theorem listB_total {A : KeyOrd} : ∀ xs ys : List A.α, listB A xs ys = false → listB A ys xs = false → xs = ys
  | [], [], _, _ => rfl
  | [], _ :: _, h, _ => by cases h
  | _ :: _, [], _, h => by cases h
  | x :: xs, y :: ys, h1, h2 => by
    obtain ⟨a, b, c⟩ := stepB_total h1 h2
    rw [a, listB_total xs ys b c]
noncomputable def listO (A : KeyOrd) : KeyOrd := ⟨List A.α, listB A, listB_irr, listB_trans, listB_neg, listB_total⟩
noncomputable def letO : KeyOrd := prodO strKind.toKeyOrd (prodO intO (prodO strKind.toKeyOrd (listO strKind.toKeyOrd)))
end L2
set_option Elab.async false
set_option linter.all false
set_option maxRecDepth 100000
set_option maxHeartbeats 4000000
namespace L2
open PySem PySem.Spec PyProof.Rows
noncomputable abbrev strO : KeyOrd := strKind.toKeyOrd
theorem str_cps {a b : Str} (h : a.cps.toList = b.cps.toList) : a = b := by
  cases a with
  | mk x =>
    cases b with
    | mk y => congr 1; exact Array.toList_inj.mp h
theorem step_str {n m : Str} {R : Bool} : (if eqV (.str n) (.str m) = true then R else ltV0 (.str n) (.str m)) = stepB strO n.cps.toList m.cps.toList R := by
  show (if (n == m) = true then R else decide (n.cps.toList < m.cps.toList)) = _
  by_cases e : n = m
  · subst e
    rw [if_pos (beq_self_eq_true n), stepB_eq]
  · rw [if_neg (by simpa using e)]
    rcases ko_cases (A := strO) n.cps.toList m.cps.toList with ⟨x, _⟩ | ⟨x, y⟩ | x
    · rw [stepB_lt x]; exact x
    · rw [stepB_gt x]; exact y
    · exact absurd (str_cps x) e
theorem step_int {n m : Int} {R : Bool} : (if eqV (.int n) (.int m) = true then R else ltV0 (.int n) (.int m)) = stepB intO n m R := by
  show (if (n == m) = true then R else decide (n < m)) = _
  by_cases e : n = m
  · subst e
    rw [if_pos (beq_self_eq_true n)]
    exact (stepB_eq (A := intO) (a := n)).symm
  · rw [if_neg (by simpa using e)]
    rcases ko_cases (A := intO) n m with ⟨x, _⟩ | ⟨x, y⟩ | x
    · rw [stepB_lt x]; exact x
    · rw [stepB_gt x]; exact y
    · exact absurd x e
theorem lex_strs {fin : Bool} : ∀ (rs qs : List Str), fin = decide (rs.length < qs.length) → lexW fin eqV ltV0 (rs.map V.str) (qs.map V.str) = listB strO (rs.map fun x => x.cps.toList) (qs.map fun x => x.cps.toList)
  | [], [], h => by rw [h]; rfl
  | [], _ :: _, h => by rw [h]; exact decide_eq_true (by simp)
  | _ :: _, [], h => by rw [h]; exact decide_eq_false (by simp)
  | r :: rs, q :: qs, h => by
    show (if eqV (.str r) (.str q) = true then lexW fin eqV ltV0 (rs.map V.str) (qs.map V.str) else ltV0 (.str r) (.str q)) = stepB strO r.cps.toList q.cps.toList (listB strO (rs.map fun x => x.cps.toList) (qs.map fun x => x.cps.toList))
    rw [step_str, lex_strs rs qs (by rw [h]; simp)]
theorem cps_inj : ∀ {rs qs : List Str}, rs.map (fun x => x.cps.toList) = qs.map (fun x => x.cps.toList) → rs = qs
  | [], [], _ => rfl
  | [], _ :: _, h => by cases h
  | _ :: _, [], h => by cases h
  | r :: rs, q :: qs, h => by
    rw [List.map_cons, List.map_cons] at h
    injection h with h1 h2
    rw [str_cps h1, cps_inj h2]
theorem eq_strs {H : Hp} {a b : Addr} {rs qs : List Str} (ha : H a = some (.tup (rs.map V.str))) (hb : H b = some (.tup (qs.map V.str))) : eqD H 1 (.ref a) (.ref b) = decide (rs = qs) := by
  unfold eqD
  rw [tupOf_at ha, tupOf_at hb]
  show ((List.range (min (rs.map V.str).length (qs.map V.str).length)).all (fun j => eqV ((rs.map V.str).getD j .non) ((qs.map V.str).getD j .non)) && (rs.map V.str).length == (qs.map V.str).length) = _
  rw [List.length_map, List.length_map]
  by_cases e : rs = qs
  · subst e
    rw [decide_eq_true rfl, beq_self_eq_true, Bool.and_true, Nat.min_self]
    refine List.all_eq_true.mpr fun j hj => ?_
    have hj := List.mem_range.mp hj
    have g : (rs.map V.str).getD j .non = .str rs[j] := by rw [List.getD_eq_getElem?_getD, List.getElem?_map, List.getElem?_eq_getElem hj]; rfl
    rw [g]
    exact beq_self_eq_true rs[j]
  · rw [decide_eq_false e]
    by_cases hl : rs.length = qs.length
    · rw [hl, beq_self_eq_true, Bool.and_true, Nat.min_self]
      cases hh : (List.range qs.length).all (fun j => eqV ((rs.map V.str).getD j .non) ((qs.map V.str).getD j .non)) with
      | false => rfl
      | true =>
        refine absurd (List.ext_getElem hl fun j h1 h2 => ?_) e
        have h := List.all_eq_true.mp hh j (List.mem_range.mpr h2)
        have g1 : (rs.map V.str).getD j .non = .str rs[j] := by rw [List.getD_eq_getElem?_getD, List.getElem?_map, List.getElem?_eq_getElem h1]; rfl
        have g2 : (qs.map V.str).getD j .non = .str qs[j] := by rw [List.getD_eq_getElem?_getD, List.getElem?_map, List.getElem?_eq_getElem h2]; rfl
        rw [g1, g2] at h
        exact eq_of_beq (show (rs[j] == qs[j]) = true from h)
    · rw [show (rs.length == qs.length) = false by simpa using hl, Bool.and_false]
noncomputable def letK (n : Str) (d : Int) (h : Str) (rs : List Str) : letO.α := (n.cps.toList, d, h.cps.toList, rs.map fun x => x.cps.toList)
theorem letK_inj {n n' : Str} {d d' : Int} {h h' : Str} {rs rs' : List Str} (e : letK n d h rs = letK n' d' h' rs') : n = n' ∧ d = d' ∧ h = h' ∧ rs = rs' := by
  have e1 := congrArg Prod.fst e
  have e2 := congrArg (fun z => z.2.1) e
  have e3 := congrArg (fun z => z.2.2.1) e
  have e4 := congrArg (fun z => z.2.2.2) e
  exact ⟨str_cps e1, e2, str_cps e3, cps_inj e4⟩
structure LetAt (H : Hp) (v : V) (n : Str) (d : Int) (h : Str) (rs : List Str) : Prop where
  at' : ∃ a r, v = .ref a ∧ H a = some (.tup [.str n, .int d, .str h, .ref r]) ∧ H r = some (.tup (rs.map V.str))
theorem LetAt.lt {H : Hp} {v v' : V} {n n' : Str} {d d' : Int} {h h' : Str} {rs rs' : List Str} (x : LetAt H v n d h rs) (y : LetAt H v' n' d' h' rs') :
    ltD H 2 v v' = letO.blt (letK n d h rs) (letK n' d' h' rs') := by
  obtain ⟨a, r, rfl, ha, hr⟩ := x.at'
  obtain ⟨b, q, rfl, hb, hq⟩ := y.at'
  have e : ltD H 2 (.ref a) (.ref b) = lexW (decide (4 < 4)) (eqD H 1) (ltD H 1) [.str n, .int d, .str h, .ref r] [.str n', .int d', .str h', .ref q] := by
    conv => lhs; unfold ltD
    rw [tupOf_at ha, tupOf_at hb]
    rfl
  rw [e]
  have er : ltD H 1 (.ref r) (.ref q) = listB strO (rs.map fun x => x.cps.toList) (rs'.map fun x => x.cps.toList) := by
    unfold ltD
    rw [tupOf_at hr, tupOf_at hq]
    show lexW (decide ((rs.map V.str).length < (rs'.map V.str).length)) eqV ltV0 (rs.map V.str) (rs'.map V.str) = _
    exact lex_strs rs rs' (by rw [List.length_map, List.length_map])
  show (if eqV (.str n) (.str n') = true then (if eqV (.int d) (.int d') = true then (if eqV (.str h) (.str h') = true then (if eqD H 1 (.ref r) (.ref q) = true then decide (4 < 4) else ltD H 1 (.ref r) (.ref q)) else ltV0 (.str h) (.str h')) else ltV0 (.int d) (.int d')) else ltV0 (.str n) (.str n')) =
    stepB strO n.cps.toList n'.cps.toList (stepB intO d d' (stepB strO h.cps.toList h'.cps.toList (listB strO (rs.map fun x => x.cps.toList) (rs'.map fun x => x.cps.toList))))
  rw [step_str, step_int, step_str]
  congr 3
  rw [eq_strs hr hq, er]
  by_cases e : rs = rs'
  · subst e
    rw [decide_eq_true rfl, if_pos rfl, listB_irr]
    rfl
  · rw [decide_eq_false e, if_neg Bool.false_ne_true]
theorem LetAt.eq {H : Hp} {v v' : V} {n n' : Str} {d d' : Int} {h h' : Str} {rs rs' : List Str} (x : LetAt H v n d h rs) (y : LetAt H v' n' d' h' rs') (hk : eqD H 2 v v' = false) :
    letK n d h rs ≠ letK n' d' h' rs' := by
  intro e
  obtain ⟨rfl, rfl, rfl, rfl⟩ := letK_inj e
  obtain ⟨a, r, rfl, ha, hr⟩ := x.at'
  obtain ⟨b, q, rfl, hb, hq⟩ := y.at'
  unfold eqD at hk
  rw [tupOf_at ha, tupOf_at hb] at hk
  have h2 : ((eqD H 1 (.str n) (.str n) && (eqD H 1 (.int d) (.int d) && (eqD H 1 (.str h) (.str h) && (eqD H 1 (.ref r) (.ref q) && true)))) && (4 == 4)) = false := hk
  have e1 : eqD H 1 (.str n) (.str n) = true := beq_self_eq_true n
  have e2 : eqD H 1 (.int d) (.int d) = true := beq_self_eq_true d
  have e3 : eqD H 1 (.str h) (.str h) = true := beq_self_eq_true h
  rw [e1, e2, e3, eq_strs hr hq, decide_eq_true rfl] at h2
  cases h2
section
variable {X : Cx} {pins : List (Addr × Obj)} {σ : St} {H : Hp} {s : Shared} {k : Nat}
end
noncomputable def kvL (H : Hp) (v : V) : letO.α := match tupOf H v with
  | some [.str n, .int d, .str h, .ref r] => (n.cps.toList, d, h.cps.toList, ((tupOf H (.ref r)).getD []).map fun z => match z with | .str x => x.cps.toList | _ => [])
  | _ => ([], (0 : Int), [], [])
theorem LetAt.key {H : Hp} {v : V} {n : Str} {d : Int} {h : Str} {rs : List Str} (x : LetAt H v n d h rs) : kvL H v = letK n d h rs := by
  obtain ⟨a, r, rfl, ha, hr⟩ := x.at'
  unfold kvL letK
  rw [tupOf_at ha]
  dsimp only
  rw [tupOf_at hr]
  show (_, _, _, ((rs.map V.str).map _)) = _
  rw [List.map_map]
  rfl
end L2
set_option Elab.async false
set_option linter.all false
set_option maxRecDepth 100000
set_option maxHeartbeats 4000000
namespace Mr
open PySem L2
inductive PV where
  | non | bl (b : Bool) | int (i : Int) | str (x : Str) | ty (n : String)
  | tup (xs : List PV) | lst (xs : List PV) | dct (kvs : List (Key × PV))
noncomputable abbrev ASet := Addr → Prop
noncomputable def uni (A B : ASet) : ASet := fun a => A a ∨ B a
noncomputable def one (l : Addr) : ASet := fun a => a = l
noncomputable def noA : ASet := fun _ => False
structure WS where
  w : Nat → ASet
  old : ASet
instance : CoeFun WS (fun _ => Nat → ASet) := ⟨WS.w⟩
noncomputable def aw (W : WS) : ASet := fun a => ∃ i, W i a
noncomputable def TupAt (K : PySem.W.Frag) (H : Hp) (a : Addr) (xs : List V) : Prop := H a = some (.tup xs) ∨
    ∃ (o : Obj) (its : Array Value) (n : Nat), K.lookup a = some o ∧ o.cls = .type "tuple" ∧ o.data = .seq its n ∧ its.size ≤ sizeLine ∧ Vals xs its.toList
noncomputable def KLst (K : PySem.W.Frag) (a : Addr) (xs : List V) : Prop :=
    ∃ (o : Obj) (its : Array Value) (n : Nat), K.lookup a = some o ∧ o.cls = .type "list" ∧ o.dict = none ∧ o.data = .seq its n ∧ its.size ≤ sizeLine ∧ Vals xs its.toList
theorem TupAt.sq {K : PySem.W.Frag} {H : Hp} {a : Addr} {xs : List V} (h : TupAt K H a xs) : SqT K H a xs := h.elim SqT.of .inr
mutual
inductive Rep (K : PySem.W.Frag) (Z : ASet) (H : Hp) : PV → V → Prop
  | non : Rep K Z H .non .non
  | bl (b) : Rep K Z H (.bl b) (.bl b)
  | int (i) : Rep K Z H (.int i) (.int i)
  | str (x) : Rep K Z H (.str x) (.str x)
  | ty (n) : Rep K Z H (.ty n) (.ty n)
  | tup {a : Addr} {xs : List V} {ps : List PV} : TupAt K H a xs → RepL K Z H ps xs → Rep K Z H (.tup ps) (.ref a)
  | lst {a : Addr} {xs : List V} {ps : List PV} : Rd H a (.lst xs) → ¬ Z a → RepL K Z H ps xs → Rep K Z H (.lst ps) (.ref a)
  | dct {a : Addr} {ep : Nat} {ys : List (Key × V)} {kvs : List (Key × PV)} : Rd H a (.dK ys ep) → ¬ Z a → ys.map (·.1) = kvs.map (·.1) → RepL K Z H (kvs.map (·.2)) (ys.map (·.2)) → Rep K Z H (.dct kvs) (.ref a)
inductive RepL (K : PySem.W.Frag) (Z : ASet) (H : Hp) : List PV → List V → Prop
  | nil : RepL K Z H [] []
  | cons {p : PV} {v : V} {ps : List PV} {vs : List V} : Rep K Z H p v → RepL K Z H ps vs → RepL K Z H (p :: ps) (v :: vs)
end
structure Stay (Z Z' : ASet) (H H' : Hp) : Prop where
  tup : ∀ a xs, H a = some (.tup xs) → H' a = some (.tup xs)
  obj : ∀ a o, H a = some o → ¬ Z a → H' a = some o ∧ ¬ Z' a
theorem Stay.rd {Z Z' : ASet} {H H' : Hp} (k : Stay Z Z' H H') {a : Addr} {o : HO} (h : Rd H a o) (n : ¬ Z a) : Rd H' a o ∧ ¬ Z' a := by
  rcases h with h | ⟨u, h⟩
  · exact ⟨.inl (k.obj _ _ h n).1, (k.obj _ _ h n).2⟩
  · exact ⟨.inr ⟨u, (k.obj _ _ h n).1⟩, (k.obj _ _ h n).2⟩
mutual
theorem Rep.stay {K : PySem.W.Frag} {Z Z' : ASet} {H H' : Hp} (k : Stay Z Z' H H') : ∀ {p : PV} {v : V}, Rep K Z H p v → Rep K Z' H' p v
  | _, _, .non => .non
  | _, _, .bl b => .bl b
  | _, _, .int b => .int b
  | _, _, .str b => .str b
  | _, _, .ty b => .ty b
  | _, _, .tup h r => .tup (h.elim (fun h => .inl (k.tup _ _ h)) .inr) (RepL.stay k r)
  | _, _, .lst h n r => .lst (k.rd h n).1 (k.rd h n).2 (RepL.stay k r)
  | _, _, .dct h n e r => .dct (k.rd h n).1 (k.rd h n).2 e (RepL.stay k r)
theorem RepL.stay {K : PySem.W.Frag} {Z Z' : ASet} {H H' : Hp} (k : Stay Z Z' H H') : ∀ {p : List PV} {v : List V}, RepL K Z H p v → RepL K Z' H' p v
  | _, _, .nil => .nil
  | _, _, .cons h r => .cons (Rep.stay k h) (RepL.stay k r)
end
theorem Stay.refl {Z : ASet} {H : Hp} : Stay Z Z H H := ⟨fun _ _ h => h, fun _ _ h n => ⟨h, n⟩⟩
theorem Stay.same {Z : ASet} {H H' : Hp} (s : Same H H') : Stay Z Z H H' := ⟨fun _ _ h => s _ _ h, fun _ _ h n => ⟨s _ _ h, n⟩⟩
theorem Stay.less {Z Z' : ASet} {H : Hp} (h : ∀ a, Z' a → Z a) : Stay Z Z' H H := ⟨fun _ _ h => h, fun _ _ e n => ⟨e, fun z => n (h _ z)⟩⟩
theorem Stay.new {Z : ASet} {H H' : Hp} {l : Addr} (s : Same H H') (hl : H l = none) : Stay Z (uni Z (one l)) H H' :=
  ⟨fun _ _ h => s _ _ h, fun a o h n => ⟨s _ _ h, fun z => z.elim n fun e => by rw [show a = l from e, hl] at h; cases h⟩⟩
theorem RepL.length {K : PySem.W.Frag} {Z : ASet} {H : Hp} : ∀ {ps : List PV} {vs : List V}, RepL K Z H ps vs → ps.length = vs.length
  | _, _, .nil => rfl
  | _, _, .cons _ r => by rw [List.length_cons, List.length_cons, RepL.length r]
theorem RepL.get {K : PySem.W.Frag} {Z : ASet} {H : Hp} : ∀ {ps : List PV} {vs : List V} {i : Nat} {p : PV}, RepL K Z H ps vs → ps[i]? = some p → ∃ v, vs[i]? = some v ∧ Rep K Z H p v
  | _, _, _, _, .nil, h => by simp at h
  | _, _, 0, _, .cons h _, e => by simp at e; subst e; exact ⟨_, rfl, h⟩
  | _, _, i + 1, _, .cons _ r, e => by
    obtain ⟨v, h1, h2⟩ := RepL.get (i := i) r (by simpa using e)
    exact ⟨v, by simpa using h1, h2⟩
theorem RepL.get' {K : PySem.W.Frag} {Z : ASet} {H : Hp} : ∀ {ps : List PV} {vs : List V} {i : Nat} {v : V}, RepL K Z H ps vs → vs[i]? = some v → ∃ p, ps[i]? = some p ∧ Rep K Z H p v
  | _, _, _, _, .nil, h => by simp at h
  | _, _, 0, _, .cons h _, e => by simp at e; subst e; exact ⟨_, rfl, h⟩
  | _, _, i + 1, _, .cons _ r, e => by
    obtain ⟨v, h1, h2⟩ := RepL.get' (i := i) r (by simpa using e)
    exact ⟨v, by simpa using h1, h2⟩
theorem RepL.app {K : PySem.W.Frag} {Z : ASet} {H : Hp} : ∀ {ps qs : List PV} {vs ws : List V}, RepL K Z H ps vs → RepL K Z H qs ws → RepL K Z H (ps ++ qs) (vs ++ ws)
  | _, _, _, _, .nil, s => s
  | _, _, _, _, .cons h r, s => .cons h (RepL.app r s)
theorem RepL.drop {K : PySem.W.Frag} {Z : ASet} {H : Hp} : ∀ {ps : List PV} {vs : List V} (n : Nat), RepL K Z H ps vs → RepL K Z H (ps.drop n) (vs.drop n)
  | _, _, 0, h => h
  | _, _, _ + 1, .nil => .nil
  | _, _, n + 1, .cons _ r => RepL.drop n r
theorem RepL.take {K : PySem.W.Frag} {Z : ASet} {H : Hp} : ∀ {ps : List PV} {vs : List V} (n : Nat), RepL K Z H ps vs → RepL K Z H (ps.take n) (vs.take n)
  | _, _, 0, _ => .nil
  | _, _, _ + 1, .nil => .nil
  | _, _, n + 1, .cons h r => .cons h (RepL.take n r)
theorem RepL.set {K : PySem.W.Frag} {Z : ASet} {H : Hp} {p : PV} {v : V} (h : Rep K Z H p v) : ∀ {ps : List PV} {vs : List V} (n : Nat), RepL K Z H ps vs → RepL K Z H (ps.set n p) (vs.set n v)
  | _, _, _, .nil => .nil
  | _, _, 0, .cons _ r => .cons h r
  | _, _, n + 1, .cons q r => .cons q (RepL.set h n r)
noncomputable def LstAt (K : PySem.W.Frag) (H : Hp) (a : Addr) (xs : List V) : Prop := Rd H a (.lst xs) ∨ KLst K a xs
theorem LstAt.sq {K : PySem.W.Frag} {H : Hp} {a : Addr} {xs : List V} (h : LstAt K H a xs) : SqL K H a xs := h
inductive Red (K : PySem.W.Frag) (Z : ASet) (H : Hp) : PV → V → Prop
  | rep {p : PV} {v : V} : Rep K Z H p v → Red K Z H p v
  | lst {a : Addr} {xs : List V} {ps : List PV} : LstAt K H a xs → RepL K Z H ps xs → Red K Z H (.lst ps) (.ref a)
  | dct {a : Addr} {ep : Nat} {ys : List (Key × V)} {kvs : List (Key × PV)} : Rd H a (.dK ys ep) → ys.map (·.1) = kvs.map (·.1) → RepL K Z H (kvs.map (·.2)) (ys.map (·.2)) → Red K Z H (.dct kvs) (.ref a)
section
variable {K : PySem.W.Frag} {Z : ASet} {H : Hp} {v : V}
theorem Red.int {i : Int} (h : Red K Z H (.int i) v) : v = .int i := by cases h with | rep h => cases h; rfl
theorem Red.str {i : Str} (h : Red K Z H (.str i) v) : v = .str i := by cases h with | rep h => cases h; rfl
theorem Red.bl {i : Bool} (h : Red K Z H (.bl i) v) : v = .bl i := by cases h with | rep h => cases h; rfl
theorem Red.non (h : Red K Z H .non v) : v = .non := by cases h with | rep h => cases h; rfl
theorem Red.ty {n : String} (h : Red K Z H (.ty n) v) : v = .ty n := by cases h with | rep h => cases h; rfl
theorem Red.tup {ps : List PV} (h : Red K Z H (.tup ps) v) : ∃ a xs, v = .ref a ∧ TupAt K H a xs ∧ RepL K Z H ps xs := by
  cases h with | rep h => cases h with | tup h r => exact ⟨_, _, rfl, h, r⟩
theorem Red.lsts {ps : List PV} (h : Red K Z H (.lst ps) v) : ∃ a xs, v = .ref a ∧ LstAt K H a xs ∧ RepL K Z H ps xs := by
  cases h with
  | rep h => cases h with | lst h _ r => exact ⟨_, _, rfl, .inl h, r⟩
  | lst h r => exact ⟨_, _, rfl, h, r⟩
theorem Red.dcts {kvs : List (Key × PV)} (h : Red K Z H (.dct kvs) v) : ∃ a ys, v = .ref a ∧ RdK H a ys ∧ ys.map (·.1) = kvs.map (·.1) ∧ RepL K Z H (kvs.map (·.2)) (ys.map (·.2)) := by
  cases h with
  | rep h => cases h with | dct h _ e r => exact ⟨_, _, rfl, ⟨_, h⟩, e, r⟩
  | dct h e r => exact ⟨_, _, rfl, ⟨_, h⟩, e, r⟩
end
inductive Sl where
  | val (p : PV) | own (p : PV) | loc (p : PV) | bor (p : PV)
noncomputable def Sl.pv : Sl → PV
  | .val p => p | .own p => p | .loc p => p | .bor p => p
noncomputable def Sl.mine : Sl → Bool
  | .own _ => true | .loc _ => true | _ => false
noncomputable abbrev En := List (Option Sl)
inductive Cont (K : PySem.W.Frag) (Z : ASet) (H : Hp) (a : Addr) : PV → Prop
  | lst {xs : List V} {ps : List PV} : H a = some (.lst xs) → RepL K Z H ps xs → Cont K Z H a (.lst ps)
  | dct {ep : Nat} {ys : List (Key × V)} {kvs : List (Key × PV)} : H a = some (.dK ys ep) → ys.map (·.1) = kvs.map (·.1) → RepL K Z H (kvs.map (·.2)) (ys.map (·.2)) → Cont K Z H a (.dct kvs)
theorem Cont.red {K : PySem.W.Frag} {Z : ASet} {H : Hp} {a : Addr} {p : PV} (h : Cont K Z H a p) : Red K Z H p (.ref a) := by
  cases h with
  | lst e r => exact .lst (.inl (.inl e)) r
  | dct e k r => exact .dct (.inl e) k r
theorem Cont.rep {K : PySem.W.Frag} {Z : ASet} {H : Hp} {a : Addr} {p : PV} (h : Cont K Z H a p) (n : ¬ Z a) : Rep K Z H p (.ref a) := by
  cases h with
  | lst e r => exact .lst (.inl e) n r
  | dct e k r => exact .dct (.inl e) n k r
theorem Cont.there {K : PySem.W.Frag} {Z : ASet} {H : Hp} {a : Addr} {p : PV} (h : Cont K Z H a p) : ∃ o, H a = some o ∧ ∀ xs, o ≠ .tup xs := by
  cases h with
  | lst e r => exact ⟨_, e, fun _ z => nomatch z⟩
  | dct e k r => exact ⟨_, e, fun _ z => nomatch z⟩
theorem Cont.stay {K : PySem.W.Frag} {Z Z' : ASet} {H H' : Hp} {a : Addr} {p : PV} (k : Stay Z Z' H H') (e : ∀ o, H a = some o → H' a = some o) (h : Cont K Z H a p) : Cont K Z' H' a p := by
  cases h with
  | lst h r => exact .lst (e _ h) (r.stay k)
  | dct h q r => exact .dct (e _ h) q (r.stay k)
inductive Lent (K : PySem.W.Frag) (Z : ASet) (W : WS) (L : ASet) (H : Hp) (a : Addr) : PV → Prop
  | lst {xs : List V} {ps : List PV} : Rd H a (.lst xs) → W.old a → ¬ aw W a → ¬ L a → RepL K Z H ps xs → Lent K Z W L H a (.lst ps)
  | klst {xs : List V} {ps : List PV} : KLst K a xs → RepL K Z H ps xs → Lent K Z W L H a (.lst ps)
  | dct {ep : Nat} {ys : List (Key × V)} {kvs : List (Key × PV)} : Rd H a (.dK ys ep) → W.old a → ¬ aw W a → ¬ L a → ys.map (·.1) = kvs.map (·.1) → RepL K Z H (kvs.map (·.2)) (ys.map (·.2)) → Lent K Z W L H a (.dct kvs)
theorem Lent.red {K : PySem.W.Frag} {Z L : ASet} {W : WS} {H : Hp} {a : Addr} {p : PV} (h : Lent K Z W L H a p) : Red K Z H p (.ref a) := by
  cases h with
  | lst e _ _ _ r => exact .lst (.inl e) r
  | klst e r => exact .lst (.inr e) r
  | dct e _ _ _ k r => exact .dct e k r
noncomputable def SlRep (K : PySem.W.Frag) (Z : ASet) (W : WS) (L : ASet) (H : Hp) (i : Nat) (v : V) : Sl → Prop
  | .val p => Rep K Z H p v
  | .own p => ∃ a, v = .ref a ∧ W i a ∧ Cont K Z H a p
  | .loc p => ∃ a, v = .ref a ∧ L a ∧ Cont K Z H a p
  | .bor p => ∃ a, v = .ref a ∧ Lent K Z W L H a p
theorem SlRep.red {K : PySem.W.Frag} {Z L : ASet} {W : WS} {H : Hp} {i : Nat} {v : V} {s : Sl} (h : SlRep K Z W L H i v s) : Red K Z H s.pv v := by
  cases s with
  | val p => exact .rep h
  | own p => obtain ⟨a, rfl, _, c⟩ := h; exact c.red
  | loc p => obtain ⟨a, rfl, _, c⟩ := h; exact c.red
  | bor p => obtain ⟨a, rfl, c⟩ := h; exact c.red
structure EnRep (K : PySem.W.Frag) (Z : ASet) (W : WS) (L : ASet) (H : Hp) (σ : St) (e : En) : Prop where
  len : e.length = σ.length
  at' : ∀ (i : Nat) s, e[i]? = some (some s) → ∃ v, σ[i]? = some (some v) ∧ SlRep K Z W L H i v s
  dis : ∀ (i j : Nat) s t, i ≠ j → e[i]? = some (some s) → e[j]? = some (some t) → s.mine = true → t.mine = true → σ[i]? ≠ σ[j]?
structure Okc (O M : ASet) (W : WS) (L : ASet) (H : Hp) : Prop where
  old : ∀ a, O a → H a ≠ none
  mo : ∀ a, M a → O a
  wm : ∀ i a, W i a → M a
  loc : ∀ a, L a → H a ≠ none ∧ ¬ O a
structure Keep (W : WS) (L : ASet) (H H' : Hp) : Prop where
  obj : ∀ a o, H a = some o → ¬ aw W a → ¬ L a → H' a = some o
  tup : ∀ a xs, H a = some (.tup xs) → H' a = some (.tup xs)
  dom : ∀ a, H a ≠ none → H' a ≠ none
theorem Keep.refl {W : WS} {L : ASet} {H : Hp} : Keep W L H H := ⟨fun _ _ h _ _ => h, fun _ _ h => h, fun _ h => h⟩
theorem Keep.trans {W : WS} {L : ASet} {H H1 H2 : Hp} (a : Keep W L H H1) (b : Keep W L H1 H2) : Keep W L H H2 := ⟨fun c o h n m => b.obj c o (a.obj c o h n m) n m, fun c o h => b.tup c o (a.tup c o h), fun c h => b.dom c (a.dom c h)⟩
theorem Keep.same {W : WS} {L : ASet} {H H' : Hp} (s : Same H H') : Keep W L H H' := ⟨fun _ _ h _ _ => s _ _ h, fun _ _ h => s _ _ h, fun a h => by
  cases e : H a with
  | none => exact absurd e h
  | some o => rw [s _ _ e]; exact fun z => nomatch z⟩
theorem Okc.keep {O M L : ASet} {W : WS} {H H' : Hp} (o : Okc O M W L H) (d : ∀ a, H a ≠ none → H' a ≠ none) : Okc O M W L H' := ⟨fun a h => d a (o.old a h), o.mo, o.wm, fun a h => ⟨d a (o.loc a h).1, (o.loc a h).2⟩⟩
theorem Keep.stay {O M L : ASet} {W : WS} {H H' : Hp} (o : Okc O M W L H) (k : Keep W L H H') : Stay (uni M L) (uni M L) H H' :=
  ⟨k.tup, fun a u h n => ⟨k.obj a u h (fun ⟨i, z⟩ => n (.inl (o.wm i a z))) fun z => n (.inr z), n⟩⟩
theorem EnRep.stay {K : PySem.W.Frag} {Z Z' L : ASet} {W : WS} {H H' : Hp} {σ : St} {e : En} (h : EnRep K Z W L H σ e) (k : Stay Z Z' H H') (ow : ∀ a o, aw W a ∨ L a → H a = some o → H' a = some o) (bo : ∀ a o, H a = some o → ¬ aw W a → ¬ L a → H' a = some o) : EnRep K Z' W L H' σ e :=
  ⟨h.len, fun i s q => by
    obtain ⟨v, h1, h2⟩ := h.at' i s q
    refine ⟨v, h1, ?_⟩
    cases s with
    | val p => exact Rep.stay k h2
    | own p => obtain ⟨a, e, w, c⟩ := h2; exact ⟨a, e, w, c.stay k fun o q => ow a o (.inl ⟨_, w⟩) q⟩
    | loc p => obtain ⟨a, e, w, c⟩ := h2; exact ⟨a, e, w, c.stay k fun o q => ow a o (.inr w) q⟩
    | bor p =>
      obtain ⟨a, e, c⟩ := h2
      refine ⟨a, e, ?_⟩
      cases c with
      | lst e od n m r => exact .lst (e.elim (fun e => .inl (bo _ _ e n m)) fun ⟨u, e⟩ => .inr ⟨u, bo _ _ e n m⟩) od n m (r.stay k)
      | klst e r => exact .klst e (r.stay k)
      | dct e od n m kk r => exact .dct (e.elim (fun e => .inl (bo _ _ e n m)) fun ⟨u, e⟩ => .inr ⟨u, bo _ _ e n m⟩) od n m kk (r.stay k), h.dis⟩
theorem EnRep.same {K : PySem.W.Frag} {Z L : ASet} {W : WS} {H H' : Hp} {σ : St} {e : En} (h : EnRep K Z W L H σ e) (s : Same H H') : EnRep K Z W L H' σ e := h.stay (.same s) (fun a o _ q => s a o q) fun a o q _ _ => s a o q
noncomputable def Free (σ : St) (e : En) (a : Addr) : Prop := ∀ (i : Nat) s, e[i]? = some (some s) → s.mine = true → σ[i]? ≠ some (some (.ref a))
theorem Rd.ne {H : Hp} {a l : Addr} {o : HO} (h : Rd H a o) (hl : H l = none) : a ≠ l := by
  rintro rfl
  rcases h with h | ⟨_, h⟩ <;> (rw [hl] at h; cases h)
theorem EnRep.new {K : PySem.W.Frag} {M L : ASet} {W : WS} {H H' : Hp} {σ : St} {e : En} {l : Addr} (h : EnRep K (uni M L) W L H σ e) (s : Same H H') (hl : H l = none) : EnRep K (uni M (uni L (one l))) W (uni L (one l)) H' σ e ∧ Free σ e l := by
  have k : Stay (uni M L) (uni M (uni L (one l))) H H' := ⟨fun _ _ h => s _ _ h, fun a o h n => ⟨s _ _ h, fun z => by
    rcases z with z | z | z
    · exact n (.inl z)
    · exact n (.inr z)
    · rw [show a = l from z, hl] at h; cases h⟩⟩
  refine ⟨⟨h.len, fun i sl q => ?_, h.dis⟩, fun i sl q hm e => ?_⟩
  · obtain ⟨v, h1, h2⟩ := h.at' i sl q
    refine ⟨v, h1, ?_⟩
    cases sl with
    | val p => exact Rep.stay k h2
    | own p => obtain ⟨a, e, w, c⟩ := h2; exact ⟨a, e, w, c.stay k fun o q => s _ _ q⟩
    | loc p => obtain ⟨a, e, w, c⟩ := h2; exact ⟨a, e, .inl w, c.stay k fun o q => s _ _ q⟩
    | bor p =>
      obtain ⟨a, e, c⟩ := h2
      refine ⟨a, e, ?_⟩
      cases c with
      | lst e od n m r => exact .lst (e.elim (fun e => .inl (s _ _ e)) fun ⟨u, e⟩ => .inr ⟨u, s _ _ e⟩) od n (fun z => z.elim m (Rd.ne e hl)) (r.stay k)
      | klst e r => exact .klst e (r.stay k)
      | dct e od n m kk r => exact .dct (e.elim (fun e => .inl (s _ _ e)) fun ⟨u, e⟩ => .inr ⟨u, s _ _ e⟩) od n (fun z => z.elim m (Rd.ne e hl)) kk (r.stay k)
  · obtain ⟨v, h1, h2⟩ := h.at' i sl q
    rw [h1] at e
    cases e
    cases sl with
    | val p => cases hm
    | bor p => cases hm
    | own p => obtain ⟨a, e, w, c⟩ := h2; cases e; obtain ⟨o, e, _⟩ := c.there; rw [hl] at e; cases e
    | loc p => obtain ⟨a, e, w, c⟩ := h2; cases e; obtain ⟨o, e, _⟩ := c.there; rw [hl] at e; cases e
theorem EnRep.unnew {K : PySem.W.Frag} {M L : ASet} {W : WS} {H : Hp} {σ : St} {e : En} {l : Addr} (h : EnRep K (uni M (uni L (one l))) W (uni L (one l)) H σ e) (f : Free σ e l) : EnRep K (uni M L) W L H σ e := by
  have k : Stay (uni M (uni L (one l))) (uni M L) H H := .less fun a z => z.elim .inl fun z => .inr (.inl z)
  refine ⟨h.len, fun i sl q => ?_, h.dis⟩
  obtain ⟨v, h1, h2⟩ := h.at' i sl q
  refine ⟨v, h1, ?_⟩
  cases sl with
  | val p => exact Rep.stay k h2
  | own p => obtain ⟨a, e, w, c⟩ := h2; exact ⟨a, e, w, c.stay k fun o q => q⟩
  | loc p =>
    obtain ⟨a, e, w, c⟩ := h2
    refine ⟨a, e, w.elim id fun z => ?_, c.stay k fun o q => q⟩
    exfalso
    have z : a = l := z
    subst z e
    exact f i _ q rfl h1
  | bor p =>
    obtain ⟨a, e, c⟩ := h2
    refine ⟨a, e, ?_⟩
    cases c with
    | lst e od n m r => exact .lst e od n (fun z => m (.inl z)) (r.stay k)
    | klst e r => exact .klst e (r.stay k)
    | dct e od n m kk r => exact .dct e od n (fun z => m (.inl z)) kk (r.stay k)
theorem EnRep.less {K : PySem.W.Frag} {Z Z' L : ASet} {W : WS} {H : Hp} {σ : St} {e : En} (h : EnRep K Z W L H σ e) (l : ∀ a, Z' a → Z a) : EnRep K Z' W L H σ e := h.stay (.less l) (fun a o _ q => q) fun a o q _ _ => q
inductive Bv where
  | val (p : PV) | slot (i : Nat) | new (p : PV)
noncomputable def rd (e : En) (i : Nat) : Option PV := match e[i]? with
  | some (some s) => some s.pv
  | _ => none
noncomputable def Bv.get (e : En) : Bv → Option PV
  | .val p => some p
  | .new p => some p
  | .slot i => rd e i
noncomputable def Bv.weak : Bv → Bv
  | .new p => .val p
  | b => b
noncomputable def Bv.put : Bv → Option PV
  | .val p => some p
  | .new p => some p
  | .slot _ => none
noncomputable def RB (K : PySem.W.Frag) (O M : ASet) (W : WS) (L : ASet) (H : Hp) (σ : St) (e : En) (v : V) : Bv → Prop
  | .val p => EnRep K (uni M L) W L H σ e ∧ Rep K (uni M L) H p v
  | .slot i => EnRep K (uni M L) W L H σ e ∧ σ[i]? = some (some v)
  | .new p => ∃ a, v = .ref a ∧ ¬ O a ∧ ¬ L a ∧ EnRep K (uni M (uni L (one a))) W (uni L (one a)) H σ e ∧ Free σ e a ∧ Cont K (uni M (uni L (one a))) H a p
theorem RB.weak {K : PySem.W.Frag} {O M L : ASet} {W : WS} {H : Hp} {σ : St} {e : En} {v : V} {b : Bv} (o : Okc O M W L H) (h : RB K O M W L H σ e v b) : RB K O M W L H σ e v b.weak := by
  cases b with
  | val p => exact h
  | slot i => exact h
  | new p =>
    obtain ⟨a, rfl, n1, n2, h1, hf, h2⟩ := h
    exact ⟨h1.unnew hf, (h2.stay (.less fun _ z => z.elim .inl fun z => .inr (.inl z)) fun _ q => q).rep fun z => z.elim (fun z => n1 (o.mo _ z)) n2⟩
theorem RB.en {K : PySem.W.Frag} {O M L : ASet} {W : WS} {H : Hp} {σ : St} {e : En} {v : V} {b : Bv} (o : Okc O M W L H) (h : RB K O M W L H σ e v b) : EnRep K (uni M L) W L H σ e := by
  cases b with
  | val p => exact h.1
  | slot i => exact h.1
  | new p => exact (RB.weak (b := .new p) o h).1
noncomputable def RV (K : PySem.W.Frag) (Z : ASet) (H : Hp) (σ : St) (v : V) : Bv → Prop
  | .val p => Rep K Z H p v
  | .slot i => σ[i]? = some (some v)
  | .new _ => False
theorem RB.rv {K : PySem.W.Frag} {O M L : ASet} {W : WS} {H : Hp} {σ : St} {e : En} {v : V} {b : Bv} (o : Okc O M W L H) (h : RB K O M W L H σ e v b) : RV K (uni M L) H σ v b.weak := by
  have h := h.weak o
  cases b with
  | val p => exact h.2
  | slot i => exact h.2
  | new p => exact h.2
theorem RV.keep {K : PySem.W.Frag} {O M L : ASet} {W : WS} {H H' : Hp} {σ : St} {v : V} {b : Bv} (o : Okc O M W L H) (k : Keep W L H H') (h : RV K (uni M L) H σ v b) : RV K (uni M L) H' σ v b := by
  cases b with
  | val p => exact Rep.stay (k.stay o) h
  | slot i => exact h
  | new p => exact h
theorem EnRep.rd {K : PySem.W.Frag} {Z L : ASet} {W : WS} {H : Hp} {σ : St} {e : En} {i : Nat} {p : PV} {v : V} (h : EnRep K Z W L H σ e) (g : rd e i = some p) (hv : σ[i]? = some (some v)) : Red K Z H p v := by
  unfold Mr.rd at g
  cases q : e[i]? with
  | none => rw [q] at g; cases g
  | some s =>
    cases s with
    | none => rw [q] at g; cases g
    | some s =>
      rw [q] at g
      cases g
      obtain ⟨w, h1, h2⟩ := h.at' i s q
      rw [hv] at h1
      cases h1
      exact h2.red
theorem RV.red {K : PySem.W.Frag} {Z L : ASet} {W : WS} {H : Hp} {σ : St} {e : En} {v : V} {b : Bv} {p : PV} (h : RV K Z H σ v b) (he : EnRep K Z W L H σ e) (g : b.get e = some p) : Red K Z H p v := by
  cases b with
  | val q => cases g; exact .rep h
  | slot i => exact he.rd g h
  | new q => exact h.elim
noncomputable abbrev FE := En → Option (Bv × En)
noncomputable abbrev FT := En → Option (Bool × En)
noncomputable abbrev FA := En → Option (List Bv × En)
noncomputable def Fr (H : Hp) (v : V) : Bv → Prop
  | .new _ => ∀ a, v = .ref a → H a = none
  | _ => True
theorem Fr.back {H H1 : Hp} {v : V} {b : Bv} (d : ∀ a, H a ≠ none → H1 a ≠ none) (h : Fr H1 v b) : Fr H v b := by
  cases b with
  | val p => trivial
  | slot i => trivial
  | new p =>
    intro a e
    cases z : H a with
    | none => rfl
    | some o => exact absurd (h a e) (d a (by rw [z]; exact fun z => nomatch z))
noncomputable def Ref (K : PySem.W.Frag) (t : TE) (f : FE) : Prop := ∀ (O M : ASet) (W : WS) (L : ASet) (σ : St) (H : Hp) (e e' : En) (b : Bv) (Q : VK), Okc O M W L H → EnRep K (uni M L) W L H σ e → f e = some (b, e') →
  (∀ v H', Keep W L H H' → RB K O M W L H' σ e' v b → Fr H v b → Q v H') → t σ H Q
noncomputable def RefT (K : PySem.W.Frag) (t : TT) (f : FT) : Prop := ∀ (O M : ASet) (W : WS) (L : ASet) (σ : St) (H : Hp) (e e' : En) (b : Bool) (Q : Bool → Hp → Prop), Okc O M W L H → EnRep K (uni M L) W L H σ e → f e = some (b, e') →
  (∀ H', Keep W L H H' → EnRep K (uni M L) W L H' σ e' → Q b H') → t σ H Q
inductive RVs (K : PySem.W.Frag) (Z : ASet) (H : Hp) (σ : St) : List Bv → List V → Prop
  | nil : RVs K Z H σ [] []
  | cons {b : Bv} {v : V} {bs : List Bv} {vs : List V} : RV K Z H σ v b → RVs K Z H σ bs vs → RVs K Z H σ (b :: bs) (v :: vs)
theorem RVs.keep {K : PySem.W.Frag} {O M L : ASet} {W : WS} {H H' : Hp} {σ : St} (o : Okc O M W L H) (k : Keep W L H H') : ∀ {bs : List Bv} {vs : List V}, RVs K (uni M L) H σ bs vs → RVs K (uni M L) H' σ bs vs
  | _, _, .nil => .nil
  | _, _, .cons h r => .cons (h.keep o k) (RVs.keep o k r)
noncomputable def RefA (K : PySem.W.Frag) (t : TA) (f : FA) : Prop := ∀ (O M : ASet) (W : WS) (L : ASet) (σ : St) (H : Hp) (e e' : En) (bs : List Bv) (Q : List V → Hp → Prop), Okc O M W L H → EnRep K (uni M L) W L H σ e → f e = some (bs, e') →
  (∀ vs H', Keep W L H H' → EnRep K (uni M L) W L H' σ e' → RVs K (uni M L) H' σ bs vs → Q vs H') → t σ H Q
end Mr
set_option Elab.async false
set_option linter.all false
set_option maxRecDepth 100000
set_option maxHeartbeats 4000000
namespace Mr
open PySem L2
noncomputable def bE {α β : Type} (r : Option (α × En)) (k : α → En → Option β) : Option β := match r with
  | some (a, e) => k a e
  | none => none
noncomputable def bO {α β : Type} (r : Option α) (k : α → Option β) : Option β := match r with
  | some a => k a
  | none => none
theorem bE_some {α β : Type} {r : Option (α × En)} {k : α → En → Option β} {b : β} (h : bE r k = some b) : ∃ a e, r = some (a, e) ∧ k a e = some b := by
  cases r with
  | none => cases h
  | some x => exact ⟨x.1, x.2, rfl, h⟩
theorem bO_some {α β : Type} {r : Option α} {k : α → Option β} {b : β} (h : bO r k = some b) : ∃ a, r = some a ∧ k a = some b := by
  cases r with
  | none => cases h
  | some x => exact ⟨x, rfl, h⟩
theorem bE_v {α β : Type} {a : α} {e : En} {k : α → En → Option β} : bE (some (a, e)) k = k a e := rfl
theorem bO_v {α β : Type} {a : α} {k : α → Option β} : bO (some a) k = k a := rfl
noncomputable def bB {β : Type} (c : Bool) (x y : β) : β := match c with | true => x | false => y
noncomputable def guardP (c : Bool) {β : Type} (k : Option β) : Option β := match c with | true => k | false => none
theorem guardP_some {c : Bool} {β : Type} {k : Option β} {b : β} (h : guardP c k = some b) : c = true ∧ k = some b := by
  cases c with
  | false => cases h
  | true => exact ⟨rfl, h⟩
noncomputable def RN (K : PySem.W.Frag) (Z : ASet) (H H' : Hp) (v : V) : Bv → Prop
  | .val p => Rep K Z H' p v
  | .new p => ∃ a, v = .ref a ∧ H a = none ∧ Cont K (uni Z (one a)) H' a p
  | .slot _ => False
theorem RN.rb {K : PySem.W.Frag} {O M L : ASet} {W : WS} {H H' : Hp} {σ : St} {e : En} {v : V} {b : Bv} (o : Okc O M W L H) (he : EnRep K (uni M L) W L H σ e) (s : Same H H') (h : RN K (uni M L) H H' v b) : RB K O M W L H' σ e v b := by
  cases b with
  | val p => exact ⟨he.same s, h⟩
  | slot i => exact h.elim
  | new p =>
    obtain ⟨a, rfl, n, c⟩ := h
    have w := he.new s n
    exact ⟨a, rfl, fun z => o.old a z n, fun z => (o.loc a z).1 n, w.1, w.2, c.stay (.less fun _ z => by rcases z with z | z | z; exact .inl (.inl z); exact .inl (.inr z); exact .inr z) fun _ q => q⟩
theorem RN.fr {K : PySem.W.Frag} {Z : ASet} {H0 H H' : Hp} {v : V} {b : Bv} (d : ∀ a, H0 a ≠ none → H a ≠ none) (h : RN K Z H H' v b) : Fr H0 v b := by
  refine Fr.back d ?_
  cases b with
  | val p => trivial
  | slot i => trivial
  | new p =>
    obtain ⟨a, rfl, n, c⟩ := h
    intro a' e
    cases e
    exact n
noncomputable def OpOk (K : PySem.W.Frag) (r : R2) (g : PV → PV → Option Bv) : Prop := ∀ (Z : ASet) (H : Hp) (x y : V) (p q : PV) (b : Bv) (Q : VK), Red K Z H p x → Red K Z H q y → g p q = some b → (∀ v H', Same H H' → RN K Z H H' v b → Q v H') → r x y H Q
inductive RedL (K : PySem.W.Frag) (Z : ASet) (H : Hp) : List PV → List V → Prop
  | nil : RedL K Z H [] []
  | cons {p : PV} {v : V} {ps : List PV} {vs : List V} : Red K Z H p v → RedL K Z H ps vs → RedL K Z H (p :: ps) (v :: vs)
noncomputable def CbOk (K : PySem.W.Frag) (r : List V → Hp → VK → Prop) (g : List PV → Option Bv) : Prop := ∀ (Z : ASet) (H : Hp) (vs : List V) (ps : List PV) (b : Bv) (Q : VK), RedL K Z H ps vs → g ps = some b → (∀ v H', Same H H' → RN K Z H H' v b → Q v H') → r vs H Q
noncomputable def MtOk (K : PySem.W.Frag) (r : V → List V → Hp → VK → Prop) (g : PV → List PV → Option Bv) : Prop := ∀ (Z : ASet) (H : Hp) (x : V) (vs : List V) (p : PV) (ps : List PV) (b : Bv) (Q : VK), Red K Z H p x → RedL K Z H ps vs → g p ps = some b → (∀ v H', Same H H' → RN K Z H H' v b → Q v H') → r x vs H Q
noncomputable def getL (e : En) : List Bv → Option (List PV)
  | [] => some []
  | b :: bs => bO (b.get e) fun p => bO (getL e bs) fun ps => some (p :: ps)
theorem RVs.red {K : PySem.W.Frag} {Z L : ASet} {W : WS} {H : Hp} {σ : St} {e : En} (he : EnRep K Z W L H σ e) : ∀ {bs : List Bv} {vs : List V} {ps : List PV}, RVs K Z H σ bs vs → getL e bs = some ps → RedL K Z H ps vs
  | _, _, _, .nil, g => by cases g; exact .nil
  | _, _, _, .cons h r, g => by
    obtain ⟨p, g1, g⟩ := bO_some g
    obtain ⟨ps, g2, g⟩ := bO_some g
    cases g
    exact .cons (h.red he g1) (RVs.red he r g2)
section
variable {K : PySem.W.Frag}
noncomputable def fVar (i : Nat) : FE := fun e => match e[i]? with
  | some (some (.val p)) => some (.val p, e)
  | some (some _) => some (.slot i, e)
  | _ => none
theorem ref_var (i : Nat) : Ref K (tVar i) (fVar i) := by
  intro O M W L σ H e e' b Q o he hf q
  unfold fVar at hf
  cases g : e[i]? with
  | none => rw [g] at hf; cases hf
  | some s =>
    cases s with
    | none => rw [g] at hf; cases hf
    | some s =>
      rw [g] at hf
      obtain ⟨v, h1, h2⟩ := he.at' i s g
      cases s with
      | val p => cases hf; exact ⟨v, h1, q v H .refl ⟨he, h2⟩ trivial⟩
      | own p => cases hf; exact ⟨v, h1, q v H .refl ⟨he, h1⟩ trivial⟩
      | loc p => cases hf; exact ⟨v, h1, q v H .refl ⟨he, h1⟩ trivial⟩
      | bor p => cases hf; exact ⟨v, h1, q v H .refl ⟨he, h1⟩ trivial⟩
noncomputable def fC (p : PV) : FE := fun e => some (.val p, e)
theorem ref_c {p : PV} {v : V} (h : ∀ Z H, Rep K Z H p v) : Ref K (tC v) (fC p) := by
  intro O M W L σ H e e' b Q o he hf q
  cases hf
  exact q v H .refl ⟨he, h _ _⟩ trivial
theorem ref_int (i : Int) : Ref K (tC (.int i)) (fC (.int i)) := ref_c fun _ _ => .int i
theorem ref_str (i : Str) : Ref K (tC (.str i)) (fC (.str i)) := ref_c fun _ _ => .str i
theorem ref_bl (i : Bool) : Ref K (tC (.bl i)) (fC (.bl i)) := ref_c fun _ _ => .bl i
theorem ref_non : Ref K (tC .non) (fC .non) := ref_c fun _ _ => .non
theorem ref_ty (n : String) : Ref K (tC (.ty n)) (fC (.ty n)) := ref_c fun _ _ => .ty n
noncomputable def fOp (g : PV → PV → Option Bv) (fa fb : FE) : FE := fun e => bE (fa e) fun x e1 => bE (fb e1) fun y e2 => bO (x.weak.get e2) fun p => bO (y.weak.get e2) fun q => bO (g p q) fun b => some (b, e2)
theorem ref_op {r : R2} {g : PV → PV → Option Bv} {ta tb : TE} {fa fb : FE} (hg : OpOk K r g) (ha : Ref K ta fa) (hb : Ref K tb fb) : Ref K (tOp r ta tb) (fOp g fa fb) := by
  intro O M W L σ H e e' b Q o he hf q
  obtain ⟨x, e1, f1, hf⟩ := bE_some hf
  obtain ⟨y, e2, f2, hf⟩ := bE_some hf
  obtain ⟨p, g1, hf⟩ := bO_some hf
  obtain ⟨p', g2, hf⟩ := bO_some hf
  obtain ⟨c, g3, hf⟩ := bO_some hf
  cases hf
  refine ha O M W L σ H e e1 x _ o he f1 fun v1 H1 k1 r1 fr => ?_
  have o1 := o.keep k1.dom
  refine hb O M W L σ H1 e1 _ y _ o1 (r1.en o1) f2 fun v2 H2 k2 r2 fr => ?_
  have o2 := o1.keep k2.dom
  have en := r2.en o2
  refine hg _ H2 v1 v2 p p' _ Q (((r1.rv o1).keep o1 k2).red en g1) ((r2.rv o2).red en g2) g3 fun v H' s rn => ?_
  exact q v H' ((k1.trans k2).trans (.same s)) (rn.rb o2 en s) (rn.fr (k1.trans k2).dom)
noncomputable def fUn (g : PV → Option Bv) (fa : FE) : FE := fun e => bE (fa e) fun x e1 => bO (x.weak.get e1) fun p => bO (g p) fun b => some (b, e1)
noncomputable def fNil : FA := fun e => some ([], e)
noncomputable def fCons (fa : FE) (fr : FA) : FA := fun e => bE (fa e) fun x e1 => bE (fr e1) fun xs e2 => some (x.weak :: xs, e2)
theorem ref_nil : RefA K tNil fNil := by
  intro O M W L σ H e e' b Q o he hf q
  cases hf
  exact q [] H .refl he .nil
theorem ref_cons {ta : TE} {tr : TA} {fa : FE} {fr : FA} (ha : Ref K ta fa) (hr : RefA K tr fr) : RefA K (tCons ta tr) (fCons fa fr) := by
  intro O M W L σ H e e' b Q o he hf q
  obtain ⟨x, e1, f1, hf⟩ := bE_some hf
  obtain ⟨xs, e2, f2, hf⟩ := bE_some hf
  cases hf
  refine ha O M W L σ H e e1 x _ o he f1 fun v1 H1 k1 r1 fr => ?_
  have o1 := o.keep k1.dom
  refine hr O M W L σ H1 e1 _ xs _ o1 (r1.en o1) f2 fun vs H2 k2 en2 r2 => ?_
  exact q (v1 :: vs) H2 (k1.trans k2) en2 (.cons ((r1.rv o1).keep o1 k2) r2)
noncomputable def fCB (g : List PV → Option Bv) (fa : FA) : FE := fun e => bE (fa e) fun xs e1 => bO (getL e1 xs) fun ps => bO (g ps) fun b => some (b, e1)
theorem ref_cb {r : List V → Hp → VK → Prop} {g : List PV → Option Bv} {ta : TA} {fa : FA} (hg : CbOk K r g) (ha : RefA K ta fa) : Ref K (tCB r ta) (fCB g fa) := by
  intro O M W L σ H e e' b Q o he hf q
  obtain ⟨x, e1, f1, hf⟩ := bE_some hf
  obtain ⟨p, g1, hf⟩ := bO_some hf
  obtain ⟨c, g3, hf⟩ := bO_some hf
  cases hf
  refine ha O M W L σ H e _ x _ o he f1 fun v1 H1 k1 en r1 => ?_
  have o1 := o.keep k1.dom
  refine hg _ H1 v1 p _ Q (r1.red en g1) g3 fun v H' s rn => ?_
  exact q v H' (k1.trans (.same s)) (rn.rb o1 en s) (rn.fr k1.dom)
noncomputable def fBM (g : PV → List PV → Option Bv) (fo : FE) (fa : FA) : FE := fun e => bE (fo e) fun x e0 => match x with
  | .val (.str z) => bE (fa e0) fun xs e1 => bO (getL e1 xs) fun ps => bO (g (.str z) ps) fun b => some (b, e1)
  | _ => none
noncomputable def fBM0 (g : PV → List PV → Option Bv) (fo : FE) : FE := fun e => bE (fo e) fun x e0 => match x with
  | .val (.str z) => bO (g (.str z) []) fun b => some (b, e0)
  | _ => none
noncomputable def putL : List Bv → Option (List PV)
  | [] => some []
  | b :: bs => bO b.put fun p => bO (putL bs) fun ps => some (p :: ps)
theorem RVs.put {Z : ASet} {H : Hp} {σ : St} : ∀ {bs : List Bv} {vs : List V} {ps : List PV}, RVs K Z H σ bs vs → putL bs = some ps → RepL K Z H ps vs
  | _, _, _, .nil, g => by cases g; exact .nil
  | b :: _, _, _, .cons h r, g => by
    obtain ⟨p, g1, g⟩ := bO_some g
    obtain ⟨ps, g2, g⟩ := bO_some g
    cases g
    cases b with
    | val p => cases g1; exact .cons h (RVs.put r g2)
    | slot i => cases g1
    | new p => exact h.elim
theorem smallP {n : Nat} (h : decide (n < 1000000) = true) : n < sizeLine := szt (by have := of_decide_eq_true h; omega)
noncomputable def fTup (fa : FA) : FE := fun e => bE (fa e) fun xs e1 => bO (putL xs) fun ps => guardP (decide (ps.length < 1000000)) (some (.val (.tup ps), e1))
theorem ref_tup {ta : TA} {fa : FA} (ha : RefA K ta fa) : Ref K (tTup ta) (fTup fa) := by
  intro O M W L σ H e e' b Q o he hf q
  obtain ⟨x, e1, f1, hf⟩ := bE_some hf
  obtain ⟨ps, g1, hf⟩ := bO_some hf
  obtain ⟨g2, hf⟩ := guardP_some hf
  cases hf
  refine ha O M W L σ H e _ x _ o he f1 fun vs H1 k1 en r1 => ?_
  have rl := r1.put g1
  refine ⟨by rw [← rl.length]; exact Nat.le_of_lt (smallP g2), fun p hp => ?_⟩
  have s : Same H1 (upd H1 p (.tup vs)) := Same.upd hp
  exact q _ _ (k1.trans (.same s)) ⟨en.same s, .tup (.inl upd_same) (rl.stay (.same s))⟩ trivial
noncomputable def fLst (fa : FA) : FE := fun e => bE (fa e) fun xs e1 => bO (putL xs) fun ps => guardP (decide (ps.length < 1000000)) (some (.new (.lst ps), e1))
theorem ref_lst {ta : TA} {fa : FA} (ha : RefA K ta fa) : Ref K (tLst ta) (fLst fa) := by
  intro O M W L σ H e e' b Q o he hf q
  obtain ⟨x, e1, f1, hf⟩ := bE_some hf
  obtain ⟨ps, g1, hf⟩ := bO_some hf
  obtain ⟨g2, hf⟩ := guardP_some hf
  cases hf
  refine ha O M W L σ H e _ x _ o he f1 fun vs H1 k1 en r1 => ?_
  have o1 := o.keep k1.dom
  have rl := r1.put g1
  refine ⟨by rw [← rl.length]; exact Nat.le_of_lt (smallP g2), fun p hp => ?_⟩
  have s : Same H1 (upd H1 p (.lst vs)) := Same.upd hp
  exact q _ _ (k1.trans (.same s)) ⟨p, rfl, fun z => o1.old p z hp, fun z => (o1.loc p z).1 hp, (en.new s hp).1, (en.new s hp).2, .lst upd_same (rl.stay ⟨fun _ _ h => s _ _ h, fun a o h n => ⟨s _ _ h, fun z => by
    rcases z with z | z | z
    · exact n (.inl z)
    · exact n (.inr z)
    · rw [show a = p from z, hp] at h; cases h⟩⟩)⟩ (Fr.back (b := .new (.lst ps)) k1.dom fun a e => by cases e; exact hp)
noncomputable def fDNew : FE := fun e => some (.new (.dct []), e)
theorem ref_dnew : Ref K tDNewK fDNew := by
  intro O M W L σ H e e' b Q o he hf q
  cases hf
  intro p hp
  have s : Same H (upd H p (.dK [] 0)) := Same.upd hp
  exact q _ _ (.same s) ⟨p, rfl, fun z => o.old p z hp, fun z => (o.loc p z).1 hp, (he.new s hp).1, (he.new s hp).2, .dct upd_same rfl .nil⟩ fun a e => by cases e; exact hp
noncomputable def fTest (f : FE) : FT := fun e => bE (f e) fun b e1 => match b with
  | .val (.bl c) => some (c, e1)
  | _ => none
theorem ref_test {t : TE} {f : FE} (h : Ref K t f) : RefT K (tTest t) (fTest f) := by
  intro O M W L σ H e e' b Q o he hf q
  obtain ⟨x, e1, f1, hf⟩ := bE_some hf
  cases x with
  | slot i => cases hf
  | new p => cases hf
  | val p =>
    cases p with
    | bl c =>
      cases hf
      refine h O M W L σ H e _ _ _ o he f1 fun v1 H1 k1 r1 fr => ?_
      obtain ⟨en, r⟩ := r1
      cases r
      exact ⟨b, rfl, q H1 k1 en⟩
    | _ => cases hf
theorem ref_tB {t : TE} {f : FE} (h : Ref K t f) : RefT K (tB t) (fTest f) := ref_test h
noncomputable def fAnd (f g : FT) : FT := fun e => bE (f e) fun b e1 => bB b (g e1) (some (false, e1))
noncomputable def fOr (f g : FT) : FT := fun e => bE (f e) fun b e1 => bB b (some (true, e1)) (g e1)
noncomputable def fNot (f : FT) : FT := fun e => bE (f e) fun b e1 => some (!b, e1)
theorem ref_and {t u : TT} {f g : FT} (h : RefT K t f) (h2 : RefT K u g) : RefT K (tAnd t u) (fAnd f g) := by
  intro O M W L σ H e e' b Q o he hf q
  obtain ⟨x, e1, f1, hf⟩ := bE_some hf
  refine h O M W L σ H e _ _ _ o he f1 fun H1 k1 en => ?_
  cases x with
  | true => rw [if_pos rfl]; exact h2 O M W L σ H1 e1 _ _ _ (o.keep k1.dom) en hf fun H2 k2 en2 => q H2 (k1.trans k2) en2
  | false => cases hf; rw [if_neg Bool.false_ne_true]; exact q H1 k1 en
theorem ref_or {t u : TT} {f g : FT} (h : RefT K t f) (h2 : RefT K u g) : RefT K (tOr t u) (fOr f g) := by
  intro O M W L σ H e e' b Q o he hf q
  obtain ⟨x, e1, f1, hf⟩ := bE_some hf
  refine h O M W L σ H e _ _ _ o he f1 fun H1 k1 en => ?_
  cases x with
  | true => cases hf; rw [if_pos rfl]; exact q H1 k1 en
  | false => rw [if_neg Bool.false_ne_true]; exact h2 O M W L σ H1 e1 _ _ _ (o.keep k1.dom) en hf fun H2 k2 en2 => q H2 (k1.trans k2) en2
theorem ref_not {t : TT} {f : FT} (h : RefT K t f) : RefT K (tNot t) (fNot f) := by
  intro O M W L σ H e e' b Q o he hf q
  obtain ⟨x, e1, f1, hf⟩ := bE_some hf
  cases hf
  exact h O M W L σ H e _ _ _ o he f1 fun H1 k1 en => q H1 k1 en
noncomputable def fTrue : FT := fun e => some (true, e)
theorem ref_true : RefT K tTrue fTrue := by
  intro O M W L σ H e e' b Q o he hf q
  cases hf
  exact q H .refl he
noncomputable def isBv : Bv → Option Bool
  | .val (.bl c) => some c
  | _ => none
theorem isBv_some {x : Bv} {c : Bool} (h : isBv x = some c) : x = .val (.bl c) := by
  unfold isBv at h
  split at h
  · cases h; rfl
  · cases h
noncomputable def fAndV (fa fb : FE) : FE := fun e => bE (fa e) fun b e1 => bO (isBv b) fun c => bB c (fb e1) (some (.val (.bl false), e1))
noncomputable def fOrV (fa fb : FE) : FE := fun e => bE (fa e) fun b e1 => bO (isBv b) fun c => bB c (some (.val (.bl true), e1)) (fb e1)
noncomputable def fNotV (fa : FE) : FE := fun e => bE (fa e) fun b e1 => bO (isBv b) fun c => some (.val (.bl (!c)), e1)
theorem isBlv {x : Bv} : (∃ c, x = .val (.bl c)) ∨ ∀ c, x ≠ .val (.bl c) := by
  cases x with
  | slot i => exact .inr fun _ z => nomatch z
  | new p => exact .inr fun _ z => nomatch z
  | val p =>
    cases p with
    | bl c => exact .inl ⟨c, rfl⟩
    | _ => exact .inr fun _ z => nomatch z
theorem ref_andV {ta tb : TE} {fa fb : FE} (ha : Ref K ta fa) (hb : Ref K tb fb) : Ref K (tAndV ta tb) (fAndV fa fb) := by
  intro O M W L σ H e e' b Q o he hf q
  obtain ⟨x, e1, f1, hf⟩ := bE_some hf
  obtain ⟨c, gc, hf⟩ := bO_some hf
  have ec := isBv_some gc
  subst ec
  refine ha O M W L σ H e _ _ _ o he f1 fun v1 H1 k1 r1 fr => ?_
  obtain ⟨en, r⟩ := r1
  cases r
  refine ⟨c, rfl, ?_⟩
  cases c with
  | true => rw [if_pos rfl]; exact hb O M W L σ H1 e1 _ _ _ (o.keep k1.dom) en hf fun v2 H2 k2 r2 fr => q v2 H2 (k1.trans k2) r2 (fr.back k1.dom)
  | false => cases hf; rw [if_neg Bool.false_ne_true]; exact q _ H1 k1 ⟨en, .bl _⟩ trivial
theorem ref_orV {ta tb : TE} {fa fb : FE} (ha : Ref K ta fa) (hb : Ref K tb fb) : Ref K (tOrV ta tb) (fOrV fa fb) := by
  intro O M W L σ H e e' b Q o he hf q
  obtain ⟨x, e1, f1, hf⟩ := bE_some hf
  obtain ⟨c, gc, hf⟩ := bO_some hf
  have ec := isBv_some gc
  subst ec
  refine ha O M W L σ H e _ _ _ o he f1 fun v1 H1 k1 r1 fr => ?_
  obtain ⟨en, r⟩ := r1
  cases r
  refine ⟨c, rfl, ?_⟩
  cases c with
  | true => cases hf; rw [if_pos rfl]; exact q _ H1 k1 ⟨en, .bl _⟩ trivial
  | false => rw [if_neg Bool.false_ne_true]; exact hb O M W L σ H1 e1 _ _ _ (o.keep k1.dom) en hf fun v2 H2 k2 r2 fr => q v2 H2 (k1.trans k2) r2 (fr.back k1.dom)
theorem ref_notV {ta : TE} {fa : FE} (ha : Ref K ta fa) : Ref K (tNotV ta) (fNotV fa) := by
  intro O M W L σ H e e' b Q o he hf q
  obtain ⟨x, e1, f1, hf⟩ := bE_some hf
  obtain ⟨c, gc, hf⟩ := bO_some hf
  have ec := isBv_some gc
  subst ec
  refine ha O M W L σ H e _ _ _ o he f1 fun v1 H1 k1 r1 fr => ?_
  obtain ⟨en, r⟩ := r1
  cases r
  cases hf
  exact ⟨c, rfl, q _ H1 k1 ⟨en, .bl _⟩ trivial⟩
noncomputable def fIf (fc : FT) (fa fb : FE) : FE := fun e => bE (fc e) fun b e1 => bB b (fa e1) (fb e1)
noncomputable abbrev FO := En → Option (Option Int × En)
noncomputable def RefO (K : PySem.W.Frag) (t : TO) (f : FO) : Prop := ∀ (O M : ASet) (W : WS) (L : ASet) (σ : St) (H : Hp) (e e' : En) (b : Option Int) (Q : Option Int → Hp → Prop), Okc O M W L H → EnRep K (uni M L) W L H σ e → f e = some (b, e') →
  (∀ H', Keep W L H H' → EnRep K (uni M L) W L H' σ e' → Q b H') → t σ H Q
noncomputable def fNoPart : FO := fun e => some (none, e)
noncomputable def fPart (f : FE) : FO := fun e => bE (f e) fun b e1 => match b with
  | .val (.int i) => some (some i, e1)
  | _ => none
theorem ref_nopart : RefO K tNoPart fNoPart := by
  intro O M W L σ H e e' b Q o he hf q
  cases hf
  exact q H .refl he
theorem ref_part {t : TE} {f : FE} (h : Ref K t f) : RefO K (tPart t) (fPart f) := by
  intro O M W L σ H e e' b Q o he hf q
  obtain ⟨x, e1, f1, hf⟩ := bE_some hf
  cases x with
  | slot i => cases hf
  | new p => cases hf
  | val p =>
    cases p with
    | int c =>
      cases hf
      refine h O M W L σ H e _ _ _ o he f1 fun v1 H1 k1 r1 fr => ?_
      obtain ⟨en, r⟩ := r1
      cases r
      exact ⟨c, rfl, q H1 k1 en⟩
    | _ => cases hf
noncomputable def SlOk (K : PySem.W.Frag) (r : V → Option Int → Option Int → Hp → VK → Prop) (g : PV → Option Int → Option Int → Option Bv) : Prop := ∀ (Z : ASet) (H : Hp) (x : V) (p : PV) (lo hi : Option Int) (b : Bv) (Q : VK), Red K Z H p x → g p lo hi = some b → (∀ v H', Same H H' → RN K Z H H' v b → Q v H') → r x lo hi H Q
noncomputable def fSl (g : PV → Option Int → Option Int → Option Bv) (fa : FE) (fl fh : FO) : FE := fun e => bE (fa e) fun x e1 => bE (fl e1) fun lo e2 => bE (fh e2) fun hi e3 => bO (x.weak.get e3) fun p => bO (g p lo hi) fun b => some (b, e3)
theorem ref_sl {r : V → Option Int → Option Int → Hp → VK → Prop} {g : PV → Option Int → Option Int → Option Bv} {ta : TE} {tl th : TO} {fa : FE} {fl fh : FO} (hg : SlOk K r g) (ha : Ref K ta fa) (hl : RefO K tl fl) (hh : RefO K th fh) : Ref K (tSl r ta tl th) (fSl g fa fl fh) := by
  intro O M W L σ H e e' b Q o he hf q
  obtain ⟨x, e1, f1, hf⟩ := bE_some hf
  obtain ⟨lo, e2, f2, hf⟩ := bE_some hf
  obtain ⟨hi, e3, f3, hf⟩ := bE_some hf
  obtain ⟨p, g1, hf⟩ := bO_some hf
  obtain ⟨c, g3, hf⟩ := bO_some hf
  cases hf
  refine ha O M W L σ H e e1 x _ o he f1 fun v1 H1 k1 r1 fr => ?_
  have o1 := o.keep k1.dom
  refine hl O M W L σ H1 e1 e2 lo _ o1 (r1.en o1) f2 fun H2 k2 en2 => ?_
  have o2 := o1.keep k2.dom
  refine hh O M W L σ H2 e2 _ hi _ o2 en2 f3 fun H3 k3 en3 => ?_
  have o3 := o2.keep k3.dom
  refine hg _ H3 v1 p lo hi _ Q ((((r1.rv o1).keep o1 k2).keep o2 k3).red en3 g1) g3 fun v H' s rn => ?_
  exact q v H' (((k1.trans k2).trans k3).trans (.same s)) (rn.rb o3 en3 s) (rn.fr ((k1.trans k2).trans k3).dom)
end
end Mr
set_option Elab.async false
set_option linter.all false
set_option maxRecDepth 100000
set_option maxHeartbeats 4000000
namespace Mr
open PySem L2
inductive Out where
  | nx (e : En) | rt (b : Bv) (e : En) | bk (e : En) | ct (e : En)
noncomputable abbrev FS := En → Option Out
structure Grow (W : WS) (L L' : ASet) (H H' : Hp) : Prop where
  obj : ∀ a o, H a = some o → ¬ aw W a → ¬ L a → H' a = some o
  tup : ∀ a xs, H a = some (.tup xs) → H' a = some (.tup xs)
  dom : ∀ a, H a ≠ none → H' a ≠ none
  new : ∀ a, L' a → L a ∨ H a = none
theorem Grow.refl {W : WS} {L : ASet} {H : Hp} : Grow W L L H H := ⟨fun _ _ h _ _ => h, fun _ _ h => h, fun _ h => h, fun _ h => .inl h⟩
theorem Grow.keep {W : WS} {L : ASet} {H H' : Hp} (k : Keep W L H H') : Grow W L L H H' := ⟨k.obj, k.tup, k.dom, fun _ h => .inl h⟩
theorem Grow.trans {W : WS} {L L1 L2 : ASet} {H H1 H2 : Hp} (a : Grow W L L1 H H1) (b : Grow W L1 L2 H1 H2) : Grow W L L2 H H2 :=
  ⟨fun c o h n m => b.obj c o (a.obj c o h n m) n fun z => (a.new c z).elim m fun z => (by rw [h] at z; cases z), fun c xs h => b.tup c xs (a.tup c xs h), fun c h => b.dom c (a.dom c h), fun c h => by
    rcases b.new c h with z | z
    · exact a.new c z
    · refine .inr ?_
      cases e : H c with
      | none => rfl
      | some o => exact absurd z (a.dom c (by rw [e]; exact fun z => nomatch z))⟩
noncomputable def Post (K : PySem.W.Frag) (O M : ASet) (W : WS) (L : ASet) (H : Hp) (D : Ends) : Out → Prop
  | .nx e' => ∀ L' σ' H', Grow W L L' H H' → Okc O M W L' H' → EnRep K (uni M L') W L' H' σ' e' → D.nx σ' H'
  | .bk e' => ∀ L' σ' H', Grow W L L' H H' → Okc O M W L' H' → EnRep K (uni M L') W L' H' σ' e' → D.bk σ' H'
  | .ct e' => ∀ L' σ' H', Grow W L L' H H' → Okc O M W L' H' → EnRep K (uni M L') W L' H' σ' e' → D.ct σ' H'
  | .rt b e' => ∀ L' σ' H' v, Grow W L L' H H' → Okc O M W L' H' → RB K O M W L' H' σ' e' v b → D.rt v H'
theorem Post.later {K : PySem.W.Frag} {O M : ASet} {W : WS} {L L1 : ASet} {H H1 : Hp} {D : Ends} {r : Out} (g : Grow W L L1 H H1) (h : Post K O M W L H D r) : Post K O M W L1 H1 D r := by
  cases r with
  | nx e => exact fun L' σ' H' g' => h L' σ' H' (g.trans g')
  | bk e => exact fun L' σ' H' g' => h L' σ' H' (g.trans g')
  | ct e => exact fun L' σ' H' g' => h L' σ' H' (g.trans g')
  | rt b e => exact fun L' σ' H' v g' => h L' σ' H' v (g.trans g')
noncomputable def RefS (K : PySem.W.Frag) (t : TS) (f : FS) : Prop := ∀ (O M : ASet) (W : WS) (L : ASet) (σ : St) (H : Hp) (e : En) (r : Out) (D : Ends), Okc O M W L H → EnRep K (uni M L) W L H σ e → f e = some r → Post K O M W L H D r → t D σ H
section
variable {K : PySem.W.Frag}
noncomputable def sNext : FS := fun e => some (.nx e)
theorem ref_next : RefS K tNext sNext := by
  intro O M W L σ H e r D o he hf q
  cases hf
  exact q L σ H .refl o he
noncomputable def sBreak : FS := fun e => some (.bk e)
noncomputable def sCont : FS := fun e => some (.ct e)
noncomputable def sSeq (f g : FS) : FS := fun e => match f e with
  | some (.nx e1) => g e1
  | r => r
theorem ref_seq {t u : TS} {f g : FS} (h1 : RefS K t f) (h2 : RefS K u g) : RefS K (tSeq t u) (sSeq f g) := by
  intro O M W L σ H e r D o he hf q
  unfold sSeq at hf
  cases c : f e with
  | none => rw [c] at hf; cases hf
  | some r1 =>
    rw [c] at hf
    cases r1 with
    | nx e1 => exact h1 O M W L σ H e _ _ o he c fun L' σ' H' g' o' he' => h2 O M W L' σ' H' e1 r D o' he' hf (q.later g')
    | rt b e1 => cases hf; exact h1 O M W L σ H e _ _ o he c q
    | bk e1 => cases hf; exact h1 O M W L σ H e _ _ o he c q
    | ct e1 => cases hf; exact h1 O M W L σ H e _ _ o he c q
noncomputable def sRet (f : FE) : FS := fun e => bE (f e) fun b e1 => some (.rt b e1)
theorem ref_ret {t : TE} {f : FE} (h : Ref K t f) : RefS K (tRet t) (sRet f) := by
  intro O M W L σ H e r D o he hf q
  obtain ⟨x, e1, f1, hf⟩ := bE_some hf
  cases hf
  exact h O M W L σ H e _ _ _ o he f1 fun v H' k rb fr => q L σ H' v (.keep k) (o.keep k.dom) rb
noncomputable def sRetN : FS := fun e => some (.rt (.val .non) e)
noncomputable def sDrop (f : FE) : FS := fun e => bE (f e) fun b e1 => some (.nx e1)
noncomputable def sIf (fc : FT) (f g : FS) : FS := fun e => bE (fc e) fun b e1 => bB b (f e1) (g e1)
theorem ref_ifs {c : TT} {t u : TS} {fc : FT} {f g : FS} (hc : RefT K c fc) (h1 : RefS K t f) (h2 : RefS K u g) : RefS K (tIfS c t u) (sIf fc f g) := by
  intro O M W L σ H e r D o he hf q
  obtain ⟨x, e1, f1, hf⟩ := bE_some hf
  refine hc O M W L σ H e _ _ _ o he f1 fun H1 k1 en => ?_
  cases x with
  | true => rw [if_pos rfl]; exact h1 O M W L σ H1 e1 r D (o.keep k1.dom) en hf (q.later (.keep k1))
  | false => rw [if_neg Bool.false_ne_true]; exact h2 O M W L σ H1 e1 r D (o.keep k1.dom) en hf (q.later (.keep k1))
theorem set_get {α : Type} {l : List α} {i j : Nat} {x y : α} (h : (l.set i x)[j]? = some y) : (i = j ∧ i < l.length ∧ x = y) ∨ (i ≠ j ∧ l[j]? = some y) := by
  by_cases e : i = j
  · subst e
    have hl : i < l.length := by
      have := (List.getElem?_eq_some_iff.mp h).1
      simpa using this
    rw [List.getElem?_set_self hl] at h
    exact .inl ⟨rfl, hl, Option.some.inj h⟩
  · rw [List.getElem?_set_ne e] at h
    exact .inr ⟨e, h⟩
theorem EnRep.put {Z L : ASet} {W : WS} {H : Hp} {σ : St} {e : En} {i : Nat} {s : Sl} {v : V} (h : EnRep K Z W L H σ e) (hm : s.mine = false) (hs : SlRep K Z W L H i v s) : EnRep K Z W L H (σ.set i (some v)) (e.set i (some s)) := by
  refine ⟨by rw [List.length_set, List.length_set]; exact h.len, fun j t q => ?_, fun j k s1 s2 hjk q1 q2 m1 m2 => ?_⟩
  · rcases set_get q with ⟨rfl, hl, e⟩ | ⟨hn, q⟩
    · cases e
      exact ⟨v, by rw [List.getElem?_set_self (by rw [← h.len]; exact hl)], hs⟩
    · rw [List.getElem?_set_ne hn]
      exact h.at' j t q
  · rcases set_get q1 with ⟨rfl, hl, e⟩ | ⟨hn1, q1⟩
    · cases e; rw [hm] at m1; cases m1
    · rcases set_get q2 with ⟨rfl, hl, e⟩ | ⟨hn2, q2⟩
      · cases e; rw [hm] at m2; cases m2
      · rw [List.getElem?_set_ne hn1, List.getElem?_set_ne hn2]
        exact h.dis j k s1 s2 hjk q1 q2 m1 m2
theorem EnRep.putL {M L : ASet} {W : WS} {H : Hp} {σ : St} {e : En} {i : Nat} {p : PV} {a : Addr} (h : EnRep K (uni M (uni L (one a))) W (uni L (one a)) H σ e) (hf : Free σ e a) (hc : Cont K (uni M (uni L (one a))) H a p) :
    EnRep K (uni M (uni L (one a))) W (uni L (one a)) H (σ.set i (some (.ref a))) (e.set i (some (.loc p))) := by
  refine ⟨by rw [List.length_set, List.length_set]; exact h.len, fun j t q => ?_, fun j k s1 s2 hjk q1 q2 m1 m2 => ?_⟩
  · rcases set_get q with ⟨rfl, hl, e⟩ | ⟨hn, q⟩
    · cases e
      exact ⟨_, by rw [List.getElem?_set_self (by rw [← h.len]; exact hl)], a, rfl, .inr rfl, hc⟩
    · rw [List.getElem?_set_ne hn]
      exact h.at' j t q
  · rcases set_get q1 with ⟨rfl, hl, e⟩ | ⟨hn1, q1⟩
    · rcases set_get q2 with ⟨rfl, hl, e⟩ | ⟨hn2, q2⟩
      · exact absurd rfl hjk
      · rw [List.getElem?_set_ne hn2, List.getElem?_set_self (by rw [← h.len]; exact hl)]
        exact fun z => hf k s2 q2 m2 z.symm
    · rcases set_get q2 with ⟨rfl, hl, e⟩ | ⟨hn2, q2⟩
      · rw [List.getElem?_set_ne hn1, List.getElem?_set_self (by rw [← h.len]; exact hl)]
        exact fun z => hf j s1 q1 m1 z
      · rw [List.getElem?_set_ne hn1, List.getElem?_set_ne hn2]
        exact h.dis j k s1 s2 hjk q1 q2 m1 m2
noncomputable def sSet (i : Nat) (f : FE) : FS := fun e => bE (f e) fun b e1 => match b with
  | .val p => some (.nx (e1.set i (some (.val p))))
  | .new p => some (.nx (e1.set i (some (.val p))))
  | .slot j => match e1[j]? with
    | some (some (.bor p)) => some (.nx (e1.set i (some (.bor p))))
    | _ => none
theorem ref_set {i : Nat} {t : TE} {f : FE} (h : Ref K t f) : RefS K (tAsg t (gName i)) (sSet i f) := by
  intro O M W L σ H e r D o he hf q
  obtain ⟨x, e1, f1, hf⟩ := bE_some hf
  refine h O M W L σ H e _ _ _ o he f1 fun v H' k rb fr => ?_
  have o1 := o.keep k.dom
  cases x with
  | val p => cases hf; exact q L _ H' (.keep k) o1 (EnRep.put rb.1 rfl rb.2)
  | new p => cases hf; have rb := rb.weak o1; exact q L _ H' (.keep k) o1 (EnRep.put (s := .val p) rb.1 rfl rb.2)
  | slot j =>
    dsimp only at hf
    cases c : e1[j]? with
    | none => rw [c] at hf; cases hf
    | some s =>
      cases s with
      | none => rw [c] at hf; cases hf
      | some s =>
        rw [c] at hf
        cases s with
        | bor p =>
          cases hf
          obtain ⟨u, h1, h2⟩ := rb.1.at' j _ c
          rw [rb.2] at h1
          cases h1
          exact q L _ H' (.keep k) o1 (EnRep.put (s := .bor p) rb.1 rfl h2)
        | _ => cases hf
noncomputable def sSetL (i : Nat) (f : FE) : FS := fun e => bE (f e) fun b e1 => match b with
  | .new p => some (.nx (e1.set i (some (.loc p))))
  | _ => none
theorem ref_setL {i : Nat} {t : TE} {f : FE} (h : Ref K t f) : RefS K (tAsg t (gName i)) (sSetL i f) := by
  intro O M W L σ H e r D o he hf q
  obtain ⟨x, e1, f1, hf⟩ := bE_some hf
  cases x with
  | val p => cases hf
  | slot j => cases hf
  | new p =>
    cases hf
    refine h O M W L σ H e _ _ _ o he f1 fun v H' k rb fr => ?_
    obtain ⟨a, rfl, nO, nL, en, fe, c⟩ := rb
    obtain ⟨ob, hob, _⟩ := c.there
    have o1 := o.keep k.dom
    have new : H a = none := fr a rfl
    exact q (uni L (one a)) _ H' ⟨k.obj, k.tup, k.dom, fun b z => z.elim .inl fun z => .inr (by rw [show b = a from z]; exact new)⟩ ⟨o1.old, o1.mo, o1.wm, fun b z => z.elim (o1.loc b) fun z => (by rw [show b = a from z]; exact ⟨(by rw [hob]; exact fun z => nomatch z), nO⟩)⟩ (EnRep.putL en fe c)
noncomputable def rel (i : Nat) (e : En) : Option En := match e[i]? with
  | some (some (.loc p)) => some (e.set i (some (.val p)))
  | some (some (.val p)) => some e
  | _ => none
theorem EnRep.rel {O M L : ASet} {W : WS} {H : Hp} {σ : St} {e : En} {i : Nat} {p : PV} (o : Okc O M W L H) (h : EnRep K (uni M L) W L H σ e) (hi : e[i]? = some (some (.loc p))) : ∃ L', (∀ a, L' a → L a) ∧ EnRep K (uni M L') W L' H σ (e.set i (some (.val p))) := by
  obtain ⟨v, h1, a, rfl, la, c⟩ := h.at' i _ hi
  refine ⟨fun b => L b ∧ b ≠ a, fun b z => z.1, by rw [List.length_set]; exact h.len, fun j t q => ?_, fun j k s1 s2 hjk q1 q2 m1 m2 => ?_⟩
  · have k : Stay (uni M L) (uni M fun b => L b ∧ b ≠ a) H H := .less fun b z => z.elim .inl fun z => .inr z.1
    rcases set_get q with ⟨rfl, hl, e⟩ | ⟨hn, q⟩
    · cases e
      refine ⟨_, h1, (c.stay k fun _ q => q).rep fun z => ?_⟩
      rcases z with z | z
      · exact (o.loc a la).2 (o.mo a z)
      · exact z.2 rfl
    · obtain ⟨v, g1, g2⟩ := h.at' j t q
      refine ⟨v, g1, ?_⟩
      cases t with
      | val p => exact Rep.stay k g2
      | own p => obtain ⟨b, e, w, c⟩ := g2; exact ⟨b, e, w, c.stay k fun o q => q⟩
      | loc p =>
        obtain ⟨b, e, w, c⟩ := g2
        refine ⟨b, e, ⟨w, fun z => ?_⟩, c.stay k fun o q => q⟩
        subst z
        subst e
        exact h.dis i j _ _ hn hi q rfl rfl (h1.trans g1.symm)
      | bor p =>
        obtain ⟨b, e, c⟩ := g2
        refine ⟨b, e, ?_⟩
        cases c with
        | lst e od n m r => exact .lst e od n (fun z => m z.1) (r.stay k)
        | klst e r => exact .klst e (r.stay k)
        | dct e od n m kk r => exact .dct e od n (fun z => m z.1) kk (r.stay k)
  · rcases set_get q1 with ⟨rfl, hl, e⟩ | ⟨hn1, q1⟩
    · cases e; cases m1
    · rcases set_get q2 with ⟨rfl, hl, e⟩ | ⟨hn2, q2⟩
      · cases e; cases m2
      · exact h.dis j k s1 s2 hjk q1 q2 m1 m2
noncomputable def sRel (i : Nat) (f : FS) : FS := fun e => bO (rel i e) f
noncomputable def setOwn (e : En) (i : Nat) (p : PV) : En := match e[i]? with
  | some (some (.own _)) => e.set i (some (.own p))
  | _ => e.set i (some (.loc p))
noncomputable def ownAt (e : En) (i : Nat) : Option PV := match e[i]? with
  | some (some (.own p)) => some p
  | some (some (.loc p)) => some p
  | _ => none
theorem ownAt_some {e : En} {i : Nat} {p : PV} (h : ownAt e i = some p) : (e[i]? = some (some (.own p)) ∨ e[i]? = some (some (.loc p))) := by
  unfold ownAt at h
  split at h
  · cases h; exact .inl (by assumption)
  · cases h; exact .inr (by assumption)
  · cases h
theorem EnRep.own {Z L : ASet} {W : WS} {H : Hp} {σ : St} {e : En} {i : Nat} {p : PV} (h : EnRep K Z W L H σ e) (g : ownAt e i = some p) : ∃ a, σ[i]? = some (some (.ref a)) ∧ (aw W a ∨ L a) ∧ Cont K Z H a p := by
  rcases ownAt_some g with g | g
  · obtain ⟨v, h1, a, rfl, w, c⟩ := h.at' i _ g
    exact ⟨a, h1, .inl ⟨i, w⟩, c⟩
  · obtain ⟨v, h1, a, rfl, w, c⟩ := h.at' i _ g
    exact ⟨a, h1, .inr w, c⟩
theorem Stay.write {Z : ASet} {H : Hp} {a : Addr} {o ob : HO} (z : Z a) (h : H a = some ob) (nt : ∀ xs, ob ≠ .tup xs) : Stay Z Z H (upd H a o) :=
  ⟨fun b xs e => by rw [upd_ne (ne_of e h fun z => nt _ z.symm)]; exact e, fun b u e n => ⟨by rw [upd_ne (fun q : b = a => n (by rw [q]; exact z))]; exact e, n⟩⟩
theorem EnRep.write {M L : ASet} {W : WS} {H : Hp} {σ : St} {e : En} {i : Nat} {p q : PV} {a : Addr} {ob : HO} (wm : ∀ i a, W i a → M a) (h : EnRep K (uni M L) W L H σ e) (g : ownAt e i = some p) (ha : σ[i]? = some (some (.ref a))) (c : Cont K (uni M L) (upd H a ob) a q) :
    EnRep K (uni M L) W L (upd H a ob) σ (setOwn e i q) := by
  obtain ⟨a', h1, hz, c0⟩ := h.own g
  rw [ha] at h1
  cases h1
  have za : uni M L a := hz.elim (fun ⟨i, w⟩ => .inl (wm i a w)) .inr
  obtain ⟨o0, e0, nt⟩ := c0.there
  have k : Stay (uni M L) (uni M L) H (upd H a ob) := .write za e0 nt
  have hl : i < e.length := by
    rcases ownAt_some g with g | g <;> exact (List.getElem?_eq_some_iff.mp g).1
  have hm : ∃ s, e[i]? = some (some s) ∧ s.mine = true := by
    rcases ownAt_some g with g | g <;> exact ⟨_, g, rfl⟩
  obtain ⟨s0, hs0, hm0⟩ := hm
  have key : ∀ s', (setOwn e i q)[i]? = some (some s') → ∃ v, σ[i]? = some (some v) ∧ SlRep K (uni M L) W L (upd H a ob) i v s' := fun s' z => by
    unfold setOwn at z
    rcases ownAt_some g with g | g
    · rw [g] at z
      rw [List.getElem?_set_self hl] at z
      cases z
      obtain ⟨v, h1, a', rfl, w, _⟩ := h.at' i _ g
      rw [ha] at h1; cases h1
      exact ⟨_, ha, a, rfl, w, c⟩
    · rw [g] at z
      rw [List.getElem?_set_self hl] at z
      cases z
      obtain ⟨v, h1, a', rfl, w, _⟩ := h.at' i _ g
      rw [ha] at h1; cases h1
      exact ⟨_, ha, a, rfl, w, c⟩
  have oth : ∀ j, i ≠ j → (setOwn e i q)[j]? = e[j]? := fun j hj => by
    unfold setOwn
    rcases ownAt_some g with g | g <;> (rw [g]; exact List.getElem?_set_ne hj)
  refine ⟨?_, fun j t z => ?_, fun j l s1 s2 hjk q1 q2 m1 m2 => ?_⟩
  · rw [← h.len]; unfold setOwn; rcases ownAt_some g with g | g <;> (rw [g]; exact List.length_set)
  · by_cases hj : i = j
    · subst hj; exact key t z
    · rw [oth j hj] at z
      obtain ⟨v, g1, g2⟩ := h.at' j t z
      refine ⟨v, g1, ?_⟩
      cases t with
      | val p => exact Rep.stay k g2
      | own p =>
        obtain ⟨b, e', w, c⟩ := g2
        subst e'
        have hb : b ≠ a := fun z' => h.dis i j s0 _ hj hs0 z hm0 rfl (by rw [ha, g1, z'])
        exact ⟨b, rfl, w, c.stay k fun o q => by rw [upd_ne hb]; exact q⟩
      | loc p =>
        obtain ⟨b, e', w, c⟩ := g2
        subst e'
        have hb : b ≠ a := fun z' => h.dis i j s0 _ hj hs0 z hm0 rfl (by rw [ha, g1, z'])
        exact ⟨b, rfl, w, c.stay k fun o q => by rw [upd_ne hb]; exact q⟩
      | bor p =>
        obtain ⟨b, e', c⟩ := g2
        refine ⟨b, e', ?_⟩
        cases c with
        | lst e od n m r =>
          have hb : b ≠ a := fun z' => hz.elim (fun w => n (z' ▸ w)) fun w => m (z' ▸ w)
          exact .lst (e.elim (fun e => .inl (by rw [upd_ne hb]; exact e)) fun ⟨u, e⟩ => .inr ⟨u, by rw [upd_ne hb]; exact e⟩) od n m (r.stay k)
        | klst e r => exact .klst e (r.stay k)
        | dct e od n m kk r =>
          have hb : b ≠ a := fun z' => hz.elim (fun w => n (z' ▸ w)) fun w => m (z' ▸ w)
          exact .dct (e.elim (fun e => .inl (by rw [upd_ne hb]; exact e)) fun ⟨u, e⟩ => .inr ⟨u, by rw [upd_ne hb]; exact e⟩) od n m kk (r.stay k)
  · have mine : ∀ (j : Nat) (s : Sl), (setOwn e i q)[j]? = some (some s) → s.mine = true → ∃ s' : Sl, e[j]? = some (some s') ∧ s'.mine = true := fun j s z m => by
      by_cases hj : i = j
      · subst hj; exact ⟨s0, hs0, hm0⟩
      · rw [oth j hj] at z; exact ⟨s, z, m⟩
    obtain ⟨t1, w1, n1⟩ := mine j s1 q1 m1
    obtain ⟨t2, w2, n2⟩ := mine l s2 q2 m2
    exact h.dis j l t1 t2 hjk w1 w2 n1 n2
theorem Keep.write {W : WS} {L : ASet} {H : Hp} {a : Addr} {ob o : HO} (hz : aw W a ∨ L a) (h : H a = some ob) (nt : ∀ xs, ob ≠ .tup xs) : Keep W L H (upd H a o) :=
  ⟨fun b u e n m => by rw [upd_ne (fun q : b = a => hz.elim (fun z => n (by rw [q]; exact z)) fun z => m (by rw [q]; exact z))]; exact e, fun b xs e => by rw [upd_ne (ne_of e h fun z => nt _ z.symm)]; exact e, fun b e => by
    by_cases hb : b = a
    · subst hb; rw [upd_same]; exact fun z => nomatch z
    · rw [upd_ne hb]; exact e⟩
noncomputable def sApp (i : Nat) (f : FE) : FS := fun e => bO (ownAt e i) fun p0 => match p0 with
  | .lst _ => bE (f e) fun b e1 => bO b.put fun p => match ownAt e1 i with
    | some (.lst ps) => guardP (decide (ps.length < 1000000)) (some (.nx (setOwn e1 i (.lst (ps ++ [p])))))
    | _ => none
  | _ => none
theorem RB.put {O M L : ASet} {W : WS} {H : Hp} {σ : St} {e : En} {v : V} {b : Bv} {p : PV} (o : Okc O M W L H) (h : RB K O M W L H σ e v b) (g : b.put = some p) : EnRep K (uni M L) W L H σ e ∧ Rep K (uni M L) H p v := by
  have h := h.weak o
  cases b with
  | val q => cases g; exact h
  | new q => cases g; exact h
  | slot i => cases g
theorem ref_app {i : Nat} {t : TE} {f : FE} (h : Ref K t f) : RefS K (tDrop (tBM K "list" rAppend (tVar i) (tCons t tNil))) (sApp i f) := by
  intro O M W L σ H e r D o he hf q
  obtain ⟨p0, g0, hf⟩ := bO_some hf
  cases p0 with
  | lst ps0 =>
    obtain ⟨x, e1, f1, hf⟩ := bE_some hf
    obtain ⟨p, g1, hf⟩ := bO_some hf
    cases c : ownAt e1 i with
    | none => rw [c] at hf; cases hf
    | some q1 =>
      rw [c] at hf
      cases q1 with
      | lst ps =>
        obtain ⟨g2, hf⟩ := guardP_some hf
        cases hf
        obtain ⟨a, ha, hz, ct⟩ := he.own g0
        refine ⟨_, ha, .inl ⟨rfl, ?_⟩, ?_⟩
        · cases ct with | lst e r => exact ⟨_, SqL.of e⟩
        refine h O M W L σ H e _ _ _ o he f1 fun v H' k rb fr => ?_
        have o1 := o.keep k.dom
        obtain ⟨en, rp⟩ := rb.put o1 g1
        obtain ⟨a', ha', hz', ct'⟩ := en.own c
        rw [ha] at ha'
        cases ha'
        cases ct' with
        | lst e2 r2 =>
          rename_i xs
          refine ⟨a, xs, v, rfl, rfl, e2, by rw [← r2.length]; exact smallP g2, ?_⟩
          have kw : Keep W L H' (upd H' a (.lst (xs ++ [v]))) := .write hz e2 fun _ z => nomatch z
          have st : Stay (uni M L) (uni M L) H' (upd H' a (.lst (xs ++ [v]))) := .write (hz.elim (fun ⟨i, w⟩ => .inl (o.wm i a w)) .inr) e2 fun _ z => nomatch z
          exact q L σ _ (.keep (k.trans kw)) (o1.keep kw.dom) (EnRep.write o.wm en c ha (.lst upd_same ((r2.stay st).app (.cons (rp.stay st) .nil))))
      | _ => cases hf
  | _ => cases hf
noncomputable def sSetIx (i : Nat) (fi fv : FE) : FS := fun e => bE (fv e) fun b e1 => bO b.put fun p => bO (ownAt e1 i) fun _ => bE (fi e1) fun k e2 => match k with
  | .val (.int k) => match ownAt e2 i with
    | some (.lst ps) => bO (ixN ps.length k) fun j => some (.nx (setOwn e2 i (.lst (ps.set j p))))
    | _ => none
  | _ => none
theorem ref_setIx {i : Nat} {tv ti : TE} {fv fi : FE} (hv : Ref K tv fv) (hi : Ref K ti fi) : RefS K (tAsg tv (gSub (tVar i) ti rSetL)) (sSetIx i fi fv) := by
  intro O M W L σ H e r D o he hf q
  obtain ⟨x, e1, f1, hf⟩ := bE_some hf
  obtain ⟨p, g1, hf⟩ := bO_some hf
  obtain ⟨p0, g0, hf⟩ := bO_some hf
  obtain ⟨y, e2, f2, hf⟩ := bE_some hf
  cases y with
  | slot i => cases hf
  | new p => cases hf
  | val y =>
    cases y with
    | int k =>
      dsimp only at hf
      cases c : ownAt e2 i with
      | none => rw [c] at hf; cases hf
      | some q1 =>
        rw [c] at hf
        cases q1 with
        | lst ps =>
          obtain ⟨j, g2, hf⟩ := bO_some hf
          cases hf
          refine hv O M W L σ H e _ _ _ o he f1 fun v H1 k1 rb fr => ?_
          have o1 := o.keep k1.dom
          obtain ⟨en, rp⟩ := rb.put o1 g1
          obtain ⟨a, ha, _, _⟩ := en.own g0
          refine ⟨_, ha, hi O M W L σ H1 e1 _ _ _ o1 en f2 fun v2 H2 k2 rb2 fr2 => ?_⟩
          obtain ⟨en2, r2⟩ := rb2
          cases r2
          have o2 := o1.keep k2.dom
          obtain ⟨a', ha', hz, ct⟩ := en2.own c
          rw [ha] at ha'
          cases ha'
          cases ct with
          | lst e3 r3 =>
            rename_i xs
            refine ⟨a, xs, k, j, rfl, rfl, e3, by rw [← r3.length]; exact g2, ?_⟩
            have kw : Keep W L H2 (upd H2 a (.lst (xs.set j v))) := .write hz e3 fun _ z => nomatch z
            have st : Stay (uni M L) (uni M L) H2 (upd H2 a (.lst (xs.set j v))) := .write (hz.elim (fun ⟨i, w⟩ => .inl (o.wm i a w)) .inr) e3 fun _ z => nomatch z
            exact q L σ _ (.keep ((k1.trans k2).trans kw)) (o2.keep kw.dom) (EnRep.write o.wm en2 c ha (.lst upd_same ((r3.stay st).set ((rp.stay (k2.stay o1)).stay st) j)))
        | _ => cases hf
    | _ => cases hf
end
end Mr
set_option Elab.async false
set_option linter.all false
set_option maxRecDepth 100000
set_option maxHeartbeats 4000000
namespace Mr
open PySem L2
noncomputable def valP (kvs : List (Key × PV)) (k : Key) : Option PV := (kvs.find? fun kv => decide (kv.1 = k)).map (·.2)
noncomputable def putP (kvs : List (Key × PV)) (k : Key) (v : PV) : List (Key × PV) :=
  if (kvs.any fun kv => decide (kv.1 = k)) = true then kvs.map (fun kv => if kv.1 = k then (kv.1, v) else kv) else kvs ++ [(k, v)]
section
variable {K : PySem.W.Frag} {Z : ASet} {H : Hp}
noncomputable def RepD (K : PySem.W.Frag) (Z : ASet) (H : Hp) (kvs : List (Key × PV)) (ys : List (Key × V)) : Prop := ys.map (·.1) = kvs.map (·.1) ∧ RepL K Z H (kvs.map (·.2)) (ys.map (·.2))
theorem RepD.cases {kvs : List (Key × PV)} {ys : List (Key × V)} (h : RepD K Z H kvs ys) : (kvs = [] ∧ ys = []) ∨ ∃ k p v r s, kvs = (k, p) :: r ∧ ys = (k, v) :: s ∧ Rep K Z H p v ∧ RepD K Z H r s := by
  obtain ⟨h1, h2⟩ := h
  cases kvs with
  | nil =>
    cases ys with
    | nil => exact .inl ⟨rfl, rfl⟩
    | cons y ys => cases h1
  | cons x kvs =>
    cases ys with
    | nil => cases h1
    | cons y ys =>
      obtain ⟨a, p⟩ := x
      obtain ⟨b, v⟩ := y
      rw [List.map_cons, List.map_cons] at h1
      have h1' := List.cons.inj h1
      have e : b = a := h1'.1
      subst e
      cases h2 with
      | cons h2 r2 => exact .inr ⟨b, p, v, kvs, ys, rfl, rfl, h2, h1'.2, r2⟩
theorem RepD.cons {k : Key} {p : PV} {v : V} {r : List (Key × PV)} {s : List (Key × V)} (h : Rep K Z H p v) (hr : RepD K Z H r s) : RepD K Z H ((k, p) :: r) ((k, v) :: s) :=
  ⟨by rw [List.map_cons, List.map_cons, hr.1], .cons h hr.2⟩
theorem RepD.val : ∀ {kvs : List (Key × PV)} {ys : List (Key × V)} (k : Key), RepD K Z H kvs ys → (valP kvs k = none ∧ valV ys k = none) ∨ ∃ p v, valP kvs k = some p ∧ valV ys k = some v ∧ Rep K Z H p v
  | [], ys, k, h => by
    rcases h.cases with ⟨_, rfl⟩ | ⟨_, _, _, _, _, e, _⟩
    · exact .inl ⟨rfl, rfl⟩
    · cases e
  | x :: kvs, ys, k, h => by
    rcases h.cases with ⟨e, _⟩ | ⟨j, p, v, r, s, e, e', hp, hr⟩
    · cases e
    · cases e
      subst e'
      by_cases hj : j = k
      · exact .inr ⟨p, v, by simp [valP, List.find?_cons, hj], by simp [valV, List.find?_cons, hj], hp⟩
      · have a : valP ((j, p) :: kvs) k = valP kvs k := by simp [valP, List.find?_cons, hj]
        have b : valV ((j, v) :: s) k = valV s k := by simp [valV, List.find?_cons, hj]
        rw [a, b]
        exact RepD.val k hr
theorem RepD.any {kvs : List (Key × PV)} {ys : List (Key × V)} (k : Key) (h : RepD K Z H kvs ys) : (kvs.any fun kv => decide (kv.1 = k)) = ys.any fun kv => decide (kv.1 = k) := by
  have e1 : (kvs.any fun kv => decide (kv.1 = k)) = (kvs.map (·.1)).any fun j => decide (j = k) := by rw [List.any_map]; rfl
  have e2 : (ys.any fun kv => decide (kv.1 = k)) = (ys.map (·.1)).any fun j => decide (j = k) := by rw [List.any_map]; rfl
  rw [e1, e2, h.1]
theorem RepD.repl {p : PV} {v : V} (hp : Rep K Z H p v) (k : Key) : ∀ {kvs : List (Key × PV)} {ys : List (Key × V)}, RepD K Z H kvs ys → RepD K Z H (kvs.map fun kv => if kv.1 = k then (kv.1, p) else kv) (ys.map fun kv => if kv.1 = k then (kv.1, v) else kv)
  | [], ys, h => by
    rcases h.cases with ⟨_, rfl⟩ | ⟨_, _, _, _, _, e, _⟩
    · exact h
    · cases e
  | x :: kvs, ys, h => by
    rcases h.cases with ⟨e, _⟩ | ⟨j, q, u, r, s, e, e', hq, hr⟩
    · cases e
    · cases e
      subst e'
      rw [List.map_cons, List.map_cons]
      by_cases hj : j = k
      · rw [if_pos hj, if_pos hj]; exact .cons hp (RepD.repl hp k hr)
      · rw [if_neg hj, if_neg hj]; exact .cons hq (RepD.repl hp k hr)
theorem RepD.put {kvs : List (Key × PV)} {ys : List (Key × V)} {p : PV} {v : V} (k : Key) (h : RepD K Z H kvs ys) (hp : Rep K Z H p v) : RepD K Z H (putP kvs k p) (putK ys k v) := by
  unfold putP putK
  rw [h.any k]
  split
  · exact h.repl hp k
  · exact ⟨by rw [List.map_append, List.map_append, h.1]; rfl, by rw [List.map_append, List.map_append]; exact h.2.app (.cons hp .nil)⟩
end
noncomputable def keyOf : PV → Option Key
  | .int i => some (.inl i)
  | .str x => some (.inr x)
  | _ => none
section
variable {K : PySem.W.Frag}
theorem Red.key {Z : ASet} {H : Hp} {p : PV} {v : V} {k : Key} (h : Red K Z H p v) (g : keyOf p = some k) : v = kV k := by
  cases p with
  | int i => cases g; exact h.int
  | str i => cases g; exact h.str
  | _ => cases g
noncomputable def sDPut (i : Nat) (fk fv : FE) : FS := fun e => bE (fv e) fun b e1 => bO b.put fun p => bO (ownAt e1 i) fun _ => bE (fk e1) fun k e2 => bO (k.weak.get e2) fun kp => bO (keyOf kp) fun key => match ownAt e2 i with
    | some (.dct kvs) => guardP (decide (kvs.length < 1000000)) (some (.nx (setOwn e2 i (.dct (putP kvs key p)))))
    | _ => none
theorem ref_dput {i : Nat} {tv tk : TE} {fv fk : FE} (hv : Ref K tv fv) (hk : Ref K tk fk) : RefS K (L2.sDPut (tVar i) tk tv) (sDPut i fk fv) := by
  intro O M W L σ H e r D o he hf q
  obtain ⟨x, e1, f1, hf⟩ := bE_some hf
  obtain ⟨p, g1, hf⟩ := bO_some hf
  obtain ⟨p0, g0, hf⟩ := bO_some hf
  obtain ⟨y, e2, f2, hf⟩ := bE_some hf
  obtain ⟨kp, g3, hf⟩ := bO_some hf
  obtain ⟨key, g4, hf⟩ := bO_some hf
  cases c : ownAt e2 i with
  | none => rw [c] at hf; cases hf
  | some q1 =>
    rw [c] at hf
    cases q1 with
    | dct kvs =>
      obtain ⟨g2, hf⟩ := guardP_some hf
      cases hf
      refine hv O M W L σ H e _ _ _ o he f1 fun v H1 k1 rb fr => ?_
      have o1 := o.keep k1.dom
      obtain ⟨en, rp⟩ := rb.put o1 g1
      obtain ⟨a, ha, _, _⟩ := en.own g0
      refine ⟨_, ha, hk O M W L σ H1 e1 _ _ _ o1 en f2 fun v2 H2 k2 rb2 fr2 => ?_⟩
      have o2 := o1.keep k2.dom
      have en2 := rb2.en o2
      have ek := ((rb2.rv o2).red en2 g3).key g4
      subst ek
      obtain ⟨a', ha', hz, ct⟩ := en2.own c
      rw [ha] at ha'
      cases ha'
      cases ct with
      | dct e3 kk r3 =>
        rename_i ys
        have hl : ys.length = kvs.length := by have := congrArg List.length kk; simpa using this
        refine ⟨a, rfl, .inl ⟨_, _, ⟨_, e3⟩, rfl, by rw [hl]; exact smallP g2, fun ep => ?_⟩⟩
        have kw : Keep W L H2 (upd H2 a (.dK (putK ys key v) ep)) := .write hz e3 fun _ z => nomatch z
        have st : Stay (uni M L) (uni M L) H2 (upd H2 a (.dK (putK ys key v) ep)) := .write (hz.elim (fun ⟨i, w⟩ => .inl (o.wm i a w)) .inr) e3 fun _ z => nomatch z
        have rd : RepD K (uni M L) (upd H2 a (.dK (putK ys key v) ep)) (putP kvs key p) (putK ys key v) := RepD.put key ⟨kk, r3.stay st⟩ ((rp.stay (k2.stay o1)).stay st)
        exact q L σ _ (.keep ((k1.trans k2).trans kw)) (o2.keep kw.dom) (EnRep.write o.wm en2 c ha (.dct upd_same rd.1 rd.2))
    | _ => cases hf
noncomputable abbrev FG := PV → En → Option En
noncomputable abbrev FGs := List PV → En → Option En
noncomputable def RefG (K : PySem.W.Frag) (g : TG) (f : FG) : Prop := ∀ (O M : ASet) (W : WS) (L : ASet) (σ : St) (H : Hp) (e e' : En) (p : PV) (v : V) (Q : St → Hp → Prop), Okc O M W L H → EnRep K (uni M L) W L H σ e → Rep K (uni M L) H p v → f p e = some e' → (∀ σ', EnRep K (uni M L) W L H σ' e' → Q σ' H) → g v σ H Q
noncomputable def RefGs (K : PySem.W.Frag) (g : TGs) (f : FGs) : Prop := ∀ (O M : ASet) (W : WS) (L : ASet) (σ : St) (H : Hp) (e e' : En) (p : List PV) (v : List V) (Q : St → Hp → Prop), Okc O M W L H → EnRep K (uni M L) W L H σ e → RepL K (uni M L) H p v → f p e = some e' → (∀ σ', EnRep K (uni M L) W L H σ' e' → Q σ' H) → g v σ H Q
noncomputable def tgName (i : Nat) : FG := fun p e => some (e.set i (some (.val p)))
theorem ref_gname (i : Nat) : RefG K (gName i) (tgName i) := by
  intro O M W L σ H e e' p v Q o he hp hf q
  cases hf
  exact q _ (EnRep.put he rfl hp)
noncomputable def tgNil : FGs := fun ps e => match ps with | [] => some e | _ => none
noncomputable def tgCons (f : FG) (g : FGs) : FGs := fun ps e => match ps with | p :: ps => bO (f p e) (g ps) | [] => none
theorem ref_gnil : RefGs K gNil tgNil := by
  intro O M W L σ H e e' p v Q o he hp hf q
  cases p with
  | nil => cases hf; cases hp; exact ⟨rfl, q σ he⟩
  | cons p ps => cases hf
theorem ref_gcons {g : TG} {gs : TGs} {f : FG} {fs : FGs} (h1 : RefG K g f) (h2 : RefGs K gs fs) : RefGs K (gCons g gs) (tgCons f fs) := by
  intro O M W L σ H e e' p v Q o he hp hf q
  cases p with
  | nil => cases hf
  | cons p ps =>
    obtain ⟨e1, f1, hf⟩ := bO_some hf
    cases hp with
    | cons hp hr => exact ⟨_, _, rfl, h1 O M W L σ H e e1 p _ _ o he hp f1 fun σ' he' => h2 O M W L σ' H e1 e' ps _ _ o he' hr hf q⟩
noncomputable def tgTup (n : Nat) (f : FGs) : FG := fun p e => match p with
  | .tup ps => guardP (decide (ps.length = n)) (f ps e)
  | _ => none
theorem ref_gtup {n : Nat} {g : TGs} {f : FGs} (h : RefGs K g f) : RefG K (gTup K n g) (tgTup n f) := by
  intro O M W L σ H e e' p v Q o he hp hf q
  cases p with
  | tup ps =>
    obtain ⟨g1, hf⟩ := guardP_some hf
    cases hp with
    | tup ha hr => exact ⟨_, _, rfl, ha.sq, by rw [← hr.length]; exact of_decide_eq_true g1, h O M W L σ H e e' ps _ Q o he hr hf q⟩
  | _ => cases hf
noncomputable def sAsg (f : FE) (fg : FG) : FS := fun e => bE (f e) fun b e1 => bO b.put fun p => bO (fg p e1) fun e2 => some (.nx e2)
noncomputable def sPar (i j : Nat) (fa : FA) : FS := fun e => bE (fa e) fun bs e1 => bO (putL bs) fun ps => match ps with
  | [p, q] => some (.nx ((e1.set i (some (.val p))).set j (some (.val q))))
  | _ => none
noncomputable def ItOk (K : PySem.W.Frag) (M L Wr : ASet) (H : Hp) (J : It) (items : List PV) : Prop := ∀ L' H', (∀ a o, H a = some o → ¬ Wr a → H' a = some o) → (∀ a xs, H a = some (.tup xs) → H' a = some (.tup xs)) → (∀ a, L' a → L a ∨ H a = none) →
  (∀ k p, items[k]? = some p → J.go k H' ∧ ∀ x H3, J.yld k H' x H3 → Same H' H3 ∧ Rep K (uni M L') H3 p x) ∧ J.stop items.length H'
noncomputable abbrev FI := (Nat → Bool) → En → Option (List PV × En)
noncomputable def RefI (K : PySem.W.Frag) (wi : TI) (f : FI) : Prop := ∀ (st : Nat → Bool) (O M : ASet) (W : WS) (L : ASet) (σ : St) (H : Hp) (e e' : En) (ps : List PV) (R : It → Hp → Prop), Okc O M W L H → EnRep K (uni M L) W L H σ e → f st e = some (ps, e') →
  (∀ J H', Keep W L H H' → EnRep K (uni M L) W L H' σ e' →
    (∀ Wr : ASet, (∀ a, Wr a → aw W a ∨ L a) → (∀ (i : Nat) a s, st i = true → e'[i]? = some (some s) → s.mine = true → σ[i]? = some (some (.ref a)) → ¬ Wr a) → ItOk K M L Wr H' J ps) → R J H') → wi σ H R
noncomputable def loopM (body : PV → En → Option Out) : List PV → En → Option Out
  | [], e => some (.nx e)
  | x :: xs, e => match body x e with
    | some (.nx e1) => loopM body xs e1
    | some (.ct e1) => loopM body xs e1
    | some (.bk e1) => some (.nx e1)
    | some (.rt b e1) => some (.rt b e1)
    | none => none
noncomputable def sFor (fi : FI) (fg : FG) (fb : FS) : FS := fun e => bE (fi (fun _ => false) e) fun ps e1 => loopM (fun x e => bO (fg x e) fb) ps e1
theorem ref_for {wi : TI} {g : TG} {tb : TS} {fi : FI} {fg : FG} {fb : FS} (hi : RefI K wi fi) (hg : RefG K g fg) (hb : RefS K tb fb) : RefS K (tFor wi g tb) (sFor fi fg fb) := by
  intro O M W L σ H e r D o he hf q
  obtain ⟨ps, e1, f1, hf⟩ := bE_some hf
  refine hi (fun _ => false) O M W L σ H e e1 ps _ o he f1 fun J H1 k1 en it => ?_
  have it := it (uni (aw W) L) (fun a z => z) fun i a s z => nomatch z
  have o1 := o.keep k1.dom
  have q1 := q.later (.keep k1)
  let N : Nat → St → Hp → Prop := fun i σ' H' => ∃ L' e', Grow W L L' H1 H' ∧ Okc O M W L' H' ∧ EnRep K (uni M L') W L' H' σ' e' ∧ loopM (fun x e => bO (fg x e) fb) (ps.drop i) e' = some r
  refine ⟨fun i m σ' H' => m = ps.length - i ∧ i ≤ ps.length ∧ N i σ' H', ⟨ps.length, by simp, Nat.zero_le _, L, e1, .refl, o1, en, by rw [List.drop_zero]; exact hf⟩, ?_⟩
  rintro i m σ2 H2 ⟨rfl, hil, L2, e2, g2, o2, en2, f2⟩
  obtain ⟨itm, its⟩ := it L2 H2 (fun a ob h n => g2.obj a ob h (fun z => n (.inl z)) fun z => n (.inr z)) g2.tup g2.new
  by_cases hlt : i < ps.length
  · refine .inr ?_
    obtain ⟨go, yl⟩ := itm i ps[i] (by simp [hlt])
    refine ⟨go, N (i + 1), fun σ' H' n => ⟨ps.length - (i + 1), by omega, rfl, hlt, n⟩, fun x H3 y => ?_⟩
    obtain ⟨s3, rp⟩ := yl x H3 y
    rw [List.drop_eq_getElem_cons hlt] at f2
    unfold loopM at f2
    have k3 : Keep W L2 H2 H3 := .same s3
    have o3 := o2.keep k3.dom
    have g3 : Grow W L L2 H1 H3 := g2.trans (.keep k3)
    cases c1 : fg ps[i] e2 with
    | none => rw [c1] at f2; cases f2
    | some e3 =>
      rw [c1] at f2
      refine hg O M W L2 σ2 H3 e2 e3 _ x _ o3 (en2.same s3) rp c1 fun σ3 en3 => ?_
      cases c2 : fb e3 with
      | none => rw [bO_v, c2] at f2; cases f2
      | some r1 =>
        rw [bO_v, c2] at f2
        refine hb O M W L2 σ3 H3 e3 r1 _ o3 en3 c2 ?_
        cases r1 with
        | nx e4 => exact fun L' σ' H' g' o' en' => ⟨L', e4, g3.trans g', o', en', f2⟩
        | ct e4 => exact fun L' σ' H' g' o' en' => ⟨L', e4, g3.trans g', o', en', f2⟩
        | bk e4 => cases f2; exact fun L' σ' H' g' o' en' => q1 L' σ' H' (g3.trans g') o' en'
        | rt b e4 => cases f2; exact fun L' σ' H' v g' o' en' => q1 L' σ' H' v (g3.trans g') o' en'
  · have e : i = ps.length := by omega
    subst e
    rw [List.drop_length] at f2
    cases f2
    exact .inl ⟨its, q1 L2 σ2 H2 g2 o2 en2⟩
noncomputable def whileM (fc : FT) (fb : FS) : Nat → En → Option Out
  | 0, _ => none
  | n + 1, e => bE (fc e) fun b e1 => match b with
    | false => some (.nx e1)
    | true => match fb e1 with
      | some (.nx e2) => whileM fc fb n e2
      | some (.ct e2) => whileM fc fb n e2
      | some (.bk e2) => some (.nx e2)
      | some (.rt b e2) => some (.rt b e2)
      | none => none
theorem ref_while {c : TT} {tb : TS} {fc : FT} {fb : FS} (n : Nat) (hc : RefT K c fc) (hb : RefS K tb fb) : RefS K (tWhile c tb) (whileM fc fb n) := by
  intro O M W L σ H e r D o he hf q
  let N : Nat → St → Hp → Prop := fun m σ' H' => ∃ L' e', Grow W L L' H H' ∧ Okc O M W L' H' ∧ EnRep K (uni M L') W L' H' σ' e' ∧ whileM fc fb m e' = some r
  refine ⟨N, ⟨n, L, e, .refl, o, he, hf⟩, ?_⟩
  rintro m σ2 H2 ⟨L2, e2, g2, o2, en2, f2⟩
  cases m with
  | zero => cases f2
  | succ m =>
    obtain ⟨b, e3, c1, f2⟩ := bE_some f2
    refine hc O M W L2 σ2 H2 e2 e3 b _ o2 en2 c1 fun H3 k3 en3 => ?_
    have o3 := o2.keep k3.dom
    have g3 : Grow W L L2 H H3 := g2.trans (.keep k3)
    cases b with
    | false => cases f2; rw [if_neg Bool.false_ne_true]; exact q L2 σ2 H3 g3 o3 en3
    | true =>
      rw [if_pos rfl]
      refine ⟨N m, fun σ' H' z => ⟨m, Nat.lt_succ_self m, z⟩, ?_⟩
      dsimp only at f2
      cases c2 : fb e3 with
      | none => rw [c2] at f2; cases f2
      | some r1 =>
        rw [c2] at f2
        refine hb O M W L2 σ2 H3 e3 r1 _ o3 en3 c2 ?_
        cases r1 with
        | nx e4 => exact fun L' σ' H' g' o' en' => ⟨L', e4, g3.trans g', o', en', f2⟩
        | ct e4 => exact fun L' σ' H' g' o' en' => ⟨L', e4, g3.trans g', o', en', f2⟩
        | bk e4 => cases f2; exact fun L' σ' H' g' o' en' => q L' σ' H' (g3.trans g') o' en'
        | rt b e4 => cases f2; exact fun L' σ' H' v g' o' en' => q L' σ' H' v (g3.trans g') o' en'
end
end Mr
set_option Elab.async false
set_option linter.all false
set_option maxRecDepth 100000
set_option maxHeartbeats 4000000
namespace Mr
open PySem L2
noncomputable def capE (e : En) (ms : List (Nat × Nat)) (i j : Nat) : Option Sl := match e[i]? with
  | some (some (.val p)) => some (.val p)
  | some (some (.bor p)) => some (.bor p)
  | some (some (.own p)) => if ms.contains (i, j) then some (.own p) else if ms.any (fun z => z.1 == i) then none else some (.bor p)
  | some (some (.loc p)) => if ms.contains (i, j) then some (.own p) else if ms.any (fun z => z.1 == i) then none else some (.bor p)
  | _ => none
noncomputable def capL (e : En) (ms : List (Nat × Nat)) : Nat → List Nat → En
  | _, [] => []
  | j, i :: r => capE e ms i j :: capL e ms (j + 1) r
noncomputable def innE (k : Nat) (cap : List Nat) (ms : List (Nat × Nat)) (e : En) : En := List.replicate k none ++ capL e ms k cap
theorem capL_get {e : En} {ms : List (Nat × Nat)} : ∀ {cap : List Nat} {j q : Nat}, (capL e ms j cap)[q]? = (cap[q]?).map fun i => capE e ms i (j + q)
  | [], j, q => by simp [capL]
  | i :: r, j, 0 => by simp [capL]
  | i :: r, j, q + 1 => by
    rw [capL, List.getElem?_cons_succ, capL_get, List.getElem?_cons_succ]
    congr 1
    funext i
    rw [show j + 1 + q = j + (q + 1) by omega]
theorem capL_len {e : En} {ms : List (Nat × Nat)} : ∀ {cap : List Nat} {j : Nat}, (capL e ms j cap).length = cap.length
  | [], j => rfl
  | i :: r, j => by rw [capL, List.length_cons, List.length_cons, capL_len]
theorem innE_get {k : Nat} {cap : List Nat} {ms : List (Nat × Nat)} {e : En} {j : Nat} {s : Sl} (h : (innE k cap ms e)[j]? = some (some s)) : ∃ q i, j = k + q ∧ cap[q]? = some i ∧ capE e ms i j = some s := by
  unfold innE at h
  by_cases hj : j < k
  · rw [List.getElem?_append_left (by simpa using hj), List.getElem?_replicate] at h
    split at h <;> cases h
  · rw [List.getElem?_append_right (by simpa using hj), List.length_replicate, capL_get] at h
    cases q : cap[j - k]? with
    | none => rw [q] at h; cases h
    | some i =>
      rw [q] at h
      have h' : capE e ms i (k + (j - k)) = some s := Option.some.inj h
      rw [show k + (j - k) = j by omega] at h'
      exact ⟨j - k, i, by omega, q, h'⟩
theorem capSt_at {k : Nat} {cap : List Nat} {σ : St} {q i : Nat} {v : V} (h : cap[q]? = some i) (hv : σ[i]? = some (some v)) : (capSt k cap σ)[k + q]? = some (some v) := by
  unfold capSt
  rw [List.getElem?_append_right (by simp), List.length_replicate, List.getElem?_map, show k + q - k = q by omega, h]
  show some ((σ[i]?).getD none) = _
  rw [hv]; rfl
noncomputable def compM (fg : FG) (ft : FT) (fe : FE) : List PV → En → Option (List PV × En)
  | [], e => some ([], e)
  | x :: xs, e => bO (fg x e) fun e1 => bE (ft e1) fun b e2 => match b with
    | false => compM fg ft fe xs e2
    | true => bE (fe e2) fun r e3 => bO r.put fun p => bE (compM fg ft fe xs e3) fun ys e4 => some (p :: ys, e4)
noncomputable def backE (ei : En) : List (Nat × Nat) → En → Option En
  | [], e => some e
  | (i, j) :: r, e => bO (ownAt ei j) fun p => bO (ownAt e i) fun _ => backE ei r (setOwn e i p)
noncomputable def fComp (fi : FI) (k : Nat) (cap : List Nat) (ms : List (Nat × Nat)) (fg : FG) (ft : FT) (fe : FE) : FE := fun e =>
  bE (fi (fun i => !(ms.any fun z => z.1 == i)) e) fun items e1 => guardP (decide (items.length < 1000000)) (bE (compM fg ft fe items (innE k cap ms e1)) fun ys ei => bO (backE ei ms e1) fun e2 => some (.new (.lst ys), e2))
structure EnPend (K : PySem.W.Frag) (Z : ASet) (W : WS) (L : ASet) (H : Hp) (σ : St) (T : Nat → Prop) (e : En) : Prop where
  len : e.length = σ.length
  at' : ∀ (i : Nat) s, e[i]? = some (some s) → ∃ v, σ[i]? = some (some v) ∧ ((¬ T i ∨ s.mine = false) → SlRep K Z W L H i v s) ∧ (s.mine = true → ∃ a, v = .ref a ∧ ((∃ p, s = .own p ∧ W i a) ∨ ∃ p, s = .loc p ∧ L a))
  dis : ∀ (i j : Nat) s t, i ≠ j → e[i]? = some (some s) → e[j]? = some (some t) → s.mine = true → t.mine = true → σ[i]? ≠ σ[j]?
theorem backE_ok {K : PySem.W.Frag} {Z L : ASet} {W : WS} {H : Hp} {σ : St} {ei : En} : ∀ {ms : List (Nat × Nat)} {e e' : En}, EnPend K Z W L H σ (fun i => ∃ j, (i, j) ∈ ms) e → (∀ i j p a, (i, j) ∈ ms → ownAt ei j = some p → σ[i]? = some (some (.ref a)) → Cont K Z H a p) → backE ei ms e = some e' → EnRep K Z W L H σ e'
  | [], e, e', h, hc, g => by
    cases g
    exact ⟨h.len, fun i s q => let ⟨v, h1, h2, _⟩ := h.at' i s q; ⟨v, h1, h2 (.inl fun ⟨j, z⟩ => nomatch z)⟩, h.dis⟩
  | (i, j) :: r, e, e', h, hc, g => by
    obtain ⟨p, g1, g⟩ := bO_some g
    obtain ⟨p0, g2, g⟩ := bO_some g
    refine backE_ok (e := setOwn e i p) ?_ (fun i' j' p' a' hm => hc i' j' p' a' (List.mem_cons_of_mem _ hm)) g
    have hl : i < e.length := by
      rcases ownAt_some g2 with g | g <;> exact (List.getElem?_eq_some_iff.mp g).1
    have oth : ∀ l, i ≠ l → (setOwn e i p)[l]? = e[l]? := fun l hj => by
      unfold setOwn
      rcases ownAt_some g2 with g | g <;> (rw [g]; exact List.getElem?_set_ne hj)
    have own : ∃ s0 s1 a, e[i]? = some (some s0) ∧ s0.mine = true ∧ (setOwn e i p)[i]? = some (some s1) ∧ σ[i]? = some (some (.ref a)) ∧ SlRep K Z W L H i (.ref a) s1 ∧ ((∃ p, s1 = .own p ∧ W i a) ∨ ∃ p, s1 = .loc p ∧ L a) := by
      rcases ownAt_some g2 with g | g
      · obtain ⟨v, h1, _, h3⟩ := h.at' i _ g
        obtain ⟨a, rfl, h4⟩ := h3 rfl
        have c := hc i j p a List.mem_cons_self g1 h1
        rcases h4 with ⟨q, e1, w⟩ | ⟨q, e1, w⟩
        · exact ⟨_, .own p, a, g, rfl, by unfold setOwn; rw [g]; exact List.getElem?_set_self hl, h1, ⟨a, rfl, w, c⟩, .inl ⟨p, rfl, w⟩⟩
        · cases e1
      · obtain ⟨v, h1, _, h3⟩ := h.at' i _ g
        obtain ⟨a, rfl, h4⟩ := h3 rfl
        have c := hc i j p a List.mem_cons_self g1 h1
        rcases h4 with ⟨q, e1, w⟩ | ⟨q, e1, w⟩
        · cases e1
        · exact ⟨_, .loc p, a, g, rfl, by unfold setOwn; rw [g]; exact List.getElem?_set_self hl, h1, ⟨a, rfl, w, c⟩, .inr ⟨p, rfl, w⟩⟩
    obtain ⟨s0, s1, a, hs0, hm0, hs1, ha, hrep, hwl⟩ := own
    refine ⟨?_, fun l s q => ?_, fun l1 l2 t1 t2 hn q1 q2 m1 m2 => ?_⟩
    · rw [← h.len]; unfold setOwn; rcases ownAt_some g2 with g | g <;> (rw [g]; exact List.length_set)
    · by_cases hil : i = l
      · subst hil
        rw [hs1] at q
        cases q
        exact ⟨_, ha, fun _ => hrep, fun _ => ⟨a, rfl, hwl⟩⟩
      · rw [oth l hil] at q
        obtain ⟨v, h1, h2, h3⟩ := h.at' l s q
        refine ⟨v, h1, fun z => h2 (z.elim (fun z => .inl fun ⟨j', hm⟩ => ?_) .inr), h3⟩
        rcases List.mem_cons.mp hm with hm | hm
        · cases hm; exact hil rfl
        · exact z ⟨j', hm⟩
    · have mine : ∀ (l : Nat) (s : Sl), (setOwn e i p)[l]? = some (some s) → s.mine = true → ∃ s' : Sl, e[l]? = some (some s') ∧ s'.mine = true := fun l s z m => by
        by_cases hj : i = l
        · subst hj; exact ⟨s0, hs0, hm0⟩
        · rw [oth l hj] at z; exact ⟨s, z, m⟩
      obtain ⟨u1, w1, n1⟩ := mine l1 t1 q1 m1
      obtain ⟨u2, w2, n2⟩ := mine l2 t2 q2 m2
      exact h.dis l1 l2 u1 u2 hn w1 w2 n1 n2
theorem backE_mine {ei : En} : ∀ {ms : List (Nat × Nat)} {e e' : En}, backE ei ms e = some e' → ∀ (i : Nat) (s : Sl), e'[i]? = some (some s) → s.mine = true → ∃ s' : Sl, e[i]? = some (some s') ∧ s'.mine = true
  | [], e, e', g => by cases g; exact fun i s h m => ⟨s, h, m⟩
  | (i, j) :: r, e, e', g => by
    obtain ⟨p, g1, g⟩ := bO_some g
    obtain ⟨p0, g2, g⟩ := bO_some g
    intro l s h m
    obtain ⟨s', h', m'⟩ := backE_mine g l s h m
    by_cases hj : i = l
    · subst hj
      rcases ownAt_some g2 with g | g <;> exact ⟨_, g, rfl⟩
    · have oth : (setOwn e i p)[l]? = e[l]? := by
        unfold setOwn
        rcases ownAt_some g2 with g | g <;> (rw [g]; exact List.getElem?_set_ne hj)
      rw [oth] at h'
      exact ⟨s', h', m'⟩
section
variable {K : PySem.W.Frag}
theorem ref_comp {wi : TI} {g : TG} {tt : TT} {te : TE} {fi : FI} {k : Nat} {cap : List Nat} (ms : List (Nat × Nat)) {fg : FG} {ft : FT} {fe : FE} (hms : ∀ i j1 j2, (i, j1) ∈ ms → (i, j2) ∈ ms → j1 = j2) (hms2 : ∀ i1 i2 j, (i1, j) ∈ ms → (i2, j) ∈ ms → i1 = i2) (hi : RefI K wi fi) (hg : RefG K g fg) (ht : RefT K tt ft) (he : Ref K te fe) : Ref K (tComp wi k cap g tt te) (fComp fi k cap ms fg ft fe) := by
  intro O M W L σ H e e' b Q o hen hf q
  obtain ⟨items, e1, f1, hf⟩ := bE_some hf
  obtain ⟨hsz, hf⟩ := guardP_some hf
  obtain ⟨ys, ei, f2, hf⟩ := bE_some hf
  obtain ⟨e2, f3, hf⟩ := bO_some hf
  cases hf
  have hsz := of_decide_eq_true hsz
  refine hi (fun i => !(ms.any fun z => z.1 == i)) O M W L σ H e e1 items _ o hen f1 fun J H1 k1 en it => ?_
  have o1 := o.keep k1.dom
  let W' : WS := ⟨fun j a => ∃ i s, (i, j) ∈ ms ∧ e1[i]? = some (some s) ∧ s.mine = true ∧ σ[i]? = some (some (.ref a)), fun a => H1 a ≠ none⟩
  have whose : ∀ (i : Nat) s a, e1[i]? = some (some s) → s.mine = true → σ[i]? = some (some (.ref a)) → (aw W a ∨ L a) ∧ ∃ ob, H1 a = some ob ∧ ∀ xs, ob ≠ .tup xs := fun i s a hs hm ha => by
    obtain ⟨v, h1, h2⟩ := en.at' i s hs
    rw [ha] at h1
    cases h1
    cases s with
    | val p => cases hm
    | bor p => cases hm
    | own p => obtain ⟨b, e, w, c⟩ := h2; cases e; exact ⟨.inl ⟨i, w⟩, c.there⟩
    | loc p => obtain ⟨b, e, w, c⟩ := h2; cases e; exact ⟨.inr w, c.there⟩
  have wsub : ∀ a, aw W' a → (aw W a ∨ L a) ∧ ∃ ob, H1 a = some ob ∧ ∀ xs, ob ≠ .tup xs := fun a ⟨j, i, s, hm, hs, hmine, ha⟩ => whose i s a hs hmine ha
  have it := it (aw W') (fun a z => (wsub a z).1) fun i a s hst hs hm ha ⟨j, i', s', hm', hs', hmine', ha'⟩ => by
    have ne : i' ≠ i := fun z => by
      subst z
      have : (ms.any fun z => z.1 == i') = true := List.any_eq_true.mpr ⟨(i', j), hm', by simp⟩
      rw [this] at hst
      cases hst
    exact en.dis i' i s' s ne hs' hs hmine' hm (by rw [ha', ha])
  intro l hl
  have zl : ∀ a ob, H1 a = some ob → a ≠ l := fun a ob h => ne_of_none h hl
  let M' : ASet := uni M (uni L (one l))
  let O' : ASet := fun a => H1 a ≠ none ∨ a = l
  have s0 : Same H1 (upd H1 l (.lst [])) := Same.upd hl
  have ML : ∀ a, (aw W a ∨ L a) → uni M L a := fun a z => z.elim (fun ⟨i, w⟩ => .inl (o.wm i a w)) .inr
  have k0 : Stay (uni M L) (uni M' noA) H1 (upd H1 l (.lst [])) := ⟨fun a xs h => s0 _ _ h, fun a ob h n => ⟨s0 _ _ h, fun z => by
    rcases z with (z | z | z) | z
    · exact n (.inl z)
    · exact n (.inr z)
    · exact zl a ob h z
    · exact z⟩⟩
  have okc0 : ∀ H2, (∀ a, H1 a ≠ none ∨ a = l → H2 a ≠ none) → Okc O' M' W' noA H2 := fun H2 d => ⟨d, fun a z => by
      rcases z with z | z | z
      · exact .inl (o1.old a (o1.mo a z))
      · exact .inl (o1.loc a z).1
      · exact .inr z, fun j a z => by
      rcases ML a (wsub a ⟨j, z⟩).1 with z | z
      · exact .inl z
      · exact .inr (.inl z), fun a z => z.elim⟩
  have lenS : (innE k cap ms e1).length = (capSt k cap σ).length := by
    unfold innE capSt
    rw [List.length_append, List.length_append, capL_len, List.length_map, List.length_replicate, List.length_replicate]
  have en0 : EnRep K (uni M' noA) W' noA (upd H1 l (.lst [])) (capSt k cap σ) (innE k cap ms e1) := by
    have lend : ∀ (i : Nat) s p a, e1[i]? = some (some s) → (s = .own p ∨ s = .loc p) → σ[i]? = some (some (.ref a)) → Cont K (uni M L) H1 a p → ¬ (∃ j, (i, j) ∈ ms) → Lent K (uni M' noA) W' noA (upd H1 l (.lst [])) a p := fun i s p a hs hp ha c nm => by
      have hm : s.mine = true := by rcases hp with rfl | rfl <;> rfl
      have nw : ¬ aw W' a := fun ⟨j, i', s', hm', hs', hmine', ha'⟩ => by
        have ne : i' ≠ i := fun z => nm ⟨j, z ▸ hm'⟩
        exact en.dis i' i s' s ne hs' hs hmine' hm (by rw [ha', ha])
      have c' := c.stay k0 fun ob h => s0 _ _ h
      cases c' with
      | lst h r => exact .lst (.inl h) (by obtain ⟨ob, h1, _⟩ := c.there; show H1 a ≠ none; rw [h1]; exact fun z => nomatch z) nw (fun z => z) r
      | dct h kk r => exact .dct (.inl h) (by obtain ⟨ob, h1, _⟩ := c.there; show H1 a ≠ none; rw [h1]; exact fun z => nomatch z) nw (fun z => z) kk r
    have bors : ∀ p a, Lent K (uni M L) W L H1 a p → Lent K (uni M' noA) W' noA (upd H1 l (.lst [])) a p := fun p a c => by
      cases c with
      | lst h od n m r => exact .lst (h.elim (fun h => .inl (s0 _ _ h)) fun ⟨u, h⟩ => .inr ⟨u, s0 _ _ h⟩) (fun z => Rd.ne h z rfl) (fun z => (wsub a z).1.elim n m) (fun z => z) (r.stay k0)
      | klst h r => exact .klst h (r.stay k0)
      | dct h od n m kk r => exact .dct (h.elim (fun h => .inl (s0 _ _ h)) fun ⟨u, h⟩ => .inr ⟨u, s0 _ _ h⟩) (fun z => Rd.ne h z rfl) (fun z => (wsub a z).1.elim n m) (fun z => z) kk (r.stay k0)
    have row : ∀ (i j : Nat) s, capE e1 ms i j = some s → ∃ v, σ[i]? = some (some v) ∧ SlRep K (uni M' noA) W' noA (upd H1 l (.lst [])) j v s ∧ (s.mine = true → (i, j) ∈ ms ∧ ∃ s', e1[i]? = some (some s') ∧ s'.mine = true) := fun i j s h => by
      unfold capE at h
      have nc : ∀ {p : PV}, ms.contains (i, j) = true → (i, j) ∈ ms := fun z => List.contains_iff_mem.mp z
      cases c : e1[i]? with
      | none => rw [c] at h; cases h
      | some s' =>
        cases s' with
        | none => rw [c] at h; cases h
        | some s' =>
          rw [c] at h
          obtain ⟨v, h1, h2⟩ := en.at' i s' c
          refine ⟨v, h1, ?_⟩
          cases s' with
          | val p => cases h; exact ⟨Rep.stay k0 h2, fun z => nomatch z⟩
          | bor p => cases h; obtain ⟨a, e, c⟩ := h2; exact ⟨⟨a, e, bors p a c⟩, fun z => nomatch z⟩
          | own p =>
            obtain ⟨a, e, w, ct⟩ := h2
            subst e
            dsimp only at h
            cases d : ms.contains (i, j) with
            | true =>
              rw [d, if_pos rfl] at h
              cases h
              have hm := List.contains_iff_mem.mp d
              exact ⟨⟨a, rfl, ⟨i, _, hm, c, rfl, h1⟩, ct.stay k0 fun ob h => s0 _ _ h⟩, fun _ => ⟨hm, _, rfl, rfl⟩⟩
            | false =>
              rw [d, if_neg Bool.false_ne_true] at h
              cases d2 : ms.any (fun z => z.1 == i) with
              | true => rw [d2, if_pos rfl] at h; cases h
              | false =>
                rw [d2, if_neg Bool.false_ne_true] at h
                cases h
                refine ⟨⟨a, rfl, lend i _ p a c (.inl rfl) h1 ct fun ⟨j', hm'⟩ => ?_⟩, fun z => nomatch z⟩
                have : (ms.any fun z => z.1 == i) = true := List.any_eq_true.mpr ⟨(i, j'), hm', by simp⟩
                rw [d2] at this
                cases this
          | loc p =>
            obtain ⟨a, e, w, ct⟩ := h2
            subst e
            dsimp only at h
            cases d : ms.contains (i, j) with
            | true =>
              rw [d, if_pos rfl] at h
              cases h
              have hm := List.contains_iff_mem.mp d
              exact ⟨⟨a, rfl, ⟨i, _, hm, c, rfl, h1⟩, ct.stay k0 fun ob h => s0 _ _ h⟩, fun _ => ⟨hm, _, rfl, rfl⟩⟩
            | false =>
              rw [d, if_neg Bool.false_ne_true] at h
              cases d2 : ms.any (fun z => z.1 == i) with
              | true => rw [d2, if_pos rfl] at h; cases h
              | false =>
                rw [d2, if_neg Bool.false_ne_true] at h
                cases h
                refine ⟨⟨a, rfl, lend i _ p a c (.inr rfl) h1 ct fun ⟨j', hm'⟩ => ?_⟩, fun z => nomatch z⟩
                have : (ms.any fun z => z.1 == i) = true := List.any_eq_true.mpr ⟨(i, j'), hm', by simp⟩
                rw [d2] at this
                cases this
    refine ⟨lenS, fun j s hj => ?_, fun j1 j2 s t hn h1 h2 m1 m2 => ?_⟩
    · obtain ⟨q, i, rfl, hc, hs⟩ := innE_get hj
      obtain ⟨v, h1, h2, _⟩ := row i _ s hs
      exact ⟨v, capSt_at hc h1, h2⟩
    · obtain ⟨q1, i1, rfl, c1, hs1⟩ := innE_get h1
      obtain ⟨q2, i2, rfl, c2, hs2⟩ := innE_get h2
      obtain ⟨v1, a1, _, b1⟩ := row i1 _ s hs1
      obtain ⟨v2, a2, _, b2⟩ := row i2 _ t hs2
      obtain ⟨w1, s1, d1, n1⟩ := b1 m1
      obtain ⟨w2, s2, d2, n2⟩ := b2 m2
      rw [capSt_at c1 a1, capSt_at c2 a2]
      have ne : i1 ≠ i2 := fun z => by subst z; exact hn (hms _ _ _ w1 w2)
      have := en.dis i1 i2 s1 s2 ne d1 d2 n1 n2
      rw [a1, a2] at this
      exact this
  have dl : ∀ a xs, H1 a = some (.tup xs) → a ≠ l := fun a xs h => zl a _ h
  let N : Nat → St → Hp → Prop := fun i σ' H' => ∃ ei' acc rest vs, Keep W' (one l) (upd H1 l (.lst [])) H' ∧ H' l = some (.lst vs) ∧ RepL K (uni M' noA) H' acc vs ∧ EnRep K (uni M' noA) W' noA H' σ' ei' ∧ acc.length ≤ i ∧
    compM fg ft fe (items.drop i) ei' = some (rest, ei) ∧ ys = acc ++ rest
  have k0' : ∀ H', Keep W' (one l) (upd H1 l (.lst [])) H' → ∀ a, H1 a ≠ none ∨ a = l → H' a ≠ none := fun H' kk a z => kk.dom a (by
    rcases z with z | z
    · cases e : H1 a with
      | none => exact absurd e z
      | some u => rw [s0 _ _ e]; exact fun z => nomatch z
    · rw [z, upd_same]; exact fun z => nomatch z)
  refine ⟨fun i m σ' H' => m = items.length - i ∧ i ≤ items.length ∧ N i σ' H', ⟨items.length, by simp, Nat.zero_le _, innE k cap ms e1, [], ys, [], .refl, upd_same, .nil, en0, Nat.le_refl _, by rw [List.drop_zero]; exact f2, rfl⟩, ?_⟩
  rintro i m σ2 H2 ⟨rfl, hil, ei2, acc, rest, vs, kk, hl2, ra, en2, hacc, f4, hys⟩
  have oki := okc0 H2 (k0' H2 kk)
  obtain ⟨itm, its⟩ := it (uni L (one l)) H2 (fun a ob h n => kk.obj a ob (s0 _ _ h) n (zl a ob h)) (fun a xs h => kk.tup a xs (s0 _ _ h)) (fun a z => z.elim .inl fun z => .inr (by rw [show a = l from z]; exact hl))
  by_cases hlt : i < items.length
  · refine .inr ?_
    obtain ⟨go, yl⟩ := itm i items[i] (by simp [hlt])
    refine ⟨go, N (i + 1), fun σ' H' n => ⟨items.length - (i + 1), by omega, rfl, hlt, n⟩, fun x H3 y => ?_⟩
    obtain ⟨s3, rp⟩ := yl x H3 y
    rw [List.drop_eq_getElem_cons hlt] at f4
    obtain ⟨e4, c1, f4⟩ := bO_some f4
    have oki3 := oki.keep (H' := H3) (Keep.same (W := W') (L := noA) s3).dom
    have rp' : Rep K (uni M' noA) H3 items[i] x := rp.stay (.less fun a z => z.elim id fun z => z.elim)
    refine hg O' M' W' noA σ2 H3 ei2 e4 _ x _ oki3 (en2.same s3) rp' c1 fun σ3 en3 => ?_
    obtain ⟨b, e5, c2, f4⟩ := bE_some f4
    refine ht O' M' W' noA σ3 H3 e4 e5 b _ oki3 en3 c2 fun H4 k4 en4 => ?_
    have oki4 := oki3.keep k4.dom
    have nlw : ¬ aw W' l := fun z => by obtain ⟨_, ob, h, _⟩ := wsub l z; rw [hl] at h; cases h
    have kL : ∀ {A B : Hp}, Keep W' noA A B → Keep W' (one l) A B := fun k => ⟨fun a ob h n m => k.obj a ob h n fun z => z, k.tup, k.dom⟩
    have st : ∀ {A B : Hp}, Keep W' noA A B → Okc O' M' W' noA A → Stay (uni M' noA) (uni M' noA) A B := fun k ok => k.stay ok
    have k34 : Keep W' noA H2 H4 := (Keep.same s3).trans k4
    cases b with
    | false =>
      rw [if_neg Bool.false_ne_true]
      exact ⟨e5, acc, rest, vs, kk.trans (kL k34), k34.obj l _ hl2 nlw (fun z => z), ra.stay (st k34 oki), en4, Nat.le_succ_of_le hacc, f4, hys⟩
    | true =>
      rw [if_pos rfl]
      obtain ⟨rv, e6, c3, f4⟩ := bE_some f4
      obtain ⟨p, c4, f4⟩ := bO_some f4
      obtain ⟨rest', e7, c5, f4⟩ := bE_some f4
      cases f4
      refine he O' M' W' noA σ3 H4 e5 e6 rv _ oki4 en4 c3 fun v H5 k5 rb fr => ?_
      have oki5 := oki4.keep k5.dom
      obtain ⟨en5, rp5⟩ := rb.put oki5 c4
      have k35 : Keep W' noA H2 H5 := k34.trans k5
      have hl5 := k35.obj l _ hl2 nlw (fun z => z)
      have ra5 := ra.stay (st k35 oki)
      refine ⟨vs, hl5, szt (by have := ra.length; omega), ?_⟩
      have stw : Stay (uni M' noA) (uni M' noA) H5 (upd H5 l (.lst (vs ++ [v]))) := .write (.inl (.inr (.inr rfl))) hl5 fun _ z => nomatch z
      have kw : Keep W' (one l) H5 (upd H5 l (.lst (vs ++ [v]))) := .write (.inr rfl) hl5 fun _ z => nomatch z
      refine ⟨e6, acc ++ [p], rest', vs ++ [v], (kk.trans (kL k35)).trans kw, upd_same, (ra5.stay stw).app (.cons (rp5.stay stw) .nil), ?_, by rw [List.length_append]; exact Nat.succ_le_succ hacc, c5, by rw [hys, List.append_assoc]; rfl⟩
      refine ⟨en5.len, fun j s hj => ?_, en5.dis⟩
      obtain ⟨u, g1, g2⟩ := en5.at' j s hj
      refine ⟨u, g1, ?_⟩
      cases s with
      | val p => exact Rep.stay stw g2
      | own p =>
        obtain ⟨a, e, w, c⟩ := g2
        exact ⟨a, e, w, c.stay stw fun ob h => by rw [upd_ne (fun z : a = l => nlw (by rw [← z]; exact ⟨j, w⟩))]; exact h⟩
      | loc p => obtain ⟨a, e, w, c⟩ := g2; exact w.elim
      | bor p =>
        obtain ⟨a, e, c⟩ := g2
        refine ⟨a, e, ?_⟩
        have ne : W'.old a → a ≠ l := fun od z => od (by rw [z]; exact hl)
        cases c with
        | lst h od n m r => exact .lst (h.elim (fun h => .inl (by rw [upd_ne (ne od)]; exact h)) fun ⟨u, h⟩ => .inr ⟨u, by rw [upd_ne (ne od)]; exact h⟩) od n m (r.stay stw)
        | klst h r => exact .klst h (r.stay stw)
        | dct h od n m kk r => exact .dct (h.elim (fun h => .inl (by rw [upd_ne (ne od)]; exact h)) fun ⟨u, h⟩ => .inr ⟨u, by rw [upd_ne (ne od)]; exact h⟩) od n m kk (r.stay stw)
  · have e : i = items.length := by omega
    subst e
    rw [List.drop_length] at f4
    cases f4
    rw [List.append_nil] at hys
    subst hys
    have kout : Keep W L H1 H2 := ⟨fun a ob h n m => kk.obj a ob (s0 _ _ h) (fun z => (wsub a z).1.elim n m) (zl a ob h), fun a xs h => kk.tup a xs (s0 _ _ h), fun a h => k0' H2 kk a (.inl h)⟩
    have kf : Stay (uni M L) (uni M (uni L (one l))) H1 H2 := ⟨kout.tup, fun a ob h n => ⟨kk.obj a ob (s0 _ _ h) (fun z => n (ML a (wsub a z).1)) (zl a ob h), fun z => by
      rcases z with z | z | z
      · exact n (.inl z)
      · exact n (.inr z)
      · exact zl a ob h z⟩⟩
    have pend : EnPend K (uni M (uni L (one l))) W (uni L (one l)) H2 σ (fun i => ∃ j, (i, j) ∈ ms) e1 := by
      refine ⟨en.len, fun i s hs => ?_, en.dis⟩
      obtain ⟨v, h1, h2⟩ := en.at' i s hs
      have keepM : ∀ a, s.mine = true → ¬ (∃ j, (i, j) ∈ ms) → v = .ref a → ∀ ob, H1 a = some ob → H2 a = some ob := fun a hm nt ev ob h => by
        subst ev
        refine kk.obj a ob (s0 _ _ h) (fun ⟨j, i', s', hm', hs', hmine', ha'⟩ => ?_) (zl a ob h)
        have ne : i' ≠ i := fun z => nt ⟨j, z ▸ hm'⟩
        exact en.dis i' i s' s ne hs' hs hmine' hm (by rw [ha', h1])
      refine ⟨v, h1, fun z => ?_, fun hm => ?_⟩
      · cases s with
        | val p => exact Rep.stay kf h2
        | own p =>
          obtain ⟨a, e, w, c⟩ := h2
          exact ⟨a, e, w, c.stay kf fun ob h => keepM a rfl (z.elim id fun z => nomatch z) e ob h⟩
        | loc p =>
          obtain ⟨a, e, w, c⟩ := h2
          exact ⟨a, e, .inl w, c.stay kf fun ob h => keepM a rfl (z.elim id fun z => nomatch z) e ob h⟩
        | bor p =>
          obtain ⟨a, e, c⟩ := h2
          refine ⟨a, e, ?_⟩
          cases c with
          | lst h od n m r => exact .lst (h.elim (fun h => .inl (kout.obj _ _ h n m)) fun ⟨u, h⟩ => .inr ⟨u, kout.obj _ _ h n m⟩) od n (fun z => z.elim m (Rd.ne h hl)) (r.stay kf)
          | klst h r => exact .klst h (r.stay kf)
          | dct h od n m kk r => exact .dct (h.elim (fun h => .inl (kout.obj _ _ h n m)) fun ⟨u, h⟩ => .inr ⟨u, kout.obj _ _ h n m⟩) od n (fun z => z.elim m (Rd.ne h hl)) kk (r.stay kf)
      · cases s with
        | val p => cases hm
        | bor p => cases hm
        | own p => obtain ⟨a, e, w, c⟩ := h2; exact ⟨a, e, .inl ⟨p, rfl, w⟩⟩
        | loc p => obtain ⟨a, e, w, c⟩ := h2; exact ⟨a, e, .inr ⟨p, rfl, .inl w⟩⟩
    have enf : EnRep K (uni M (uni L (one l))) W (uni L (one l)) H2 σ e' := backE_ok pend (fun i j p a hm hp ha => by
      rcases ownAt_some hp with g | g
      · obtain ⟨v, h1, a', rfl, ⟨i', s', hm', _, _, ha'⟩, c⟩ := en2.at' j _ g
        have ei := hms2 i i' j hm hm'
        subst ei
        rw [ha] at ha'
        cases ha'
        exact c.stay (.less fun a z => .inl z) fun _ h => h
      · obtain ⟨v, h1, a', rfl, w, c⟩ := en2.at' j _ g
        exact w.elim) f3
    refine .inl ⟨its, q _ _ (k1.trans kout) ⟨l, rfl, fun z => o1.old l z hl, fun z => (o1.loc l z).1 hl, enf, fun i s hs hm e => ?_, .lst hl2 (ra.stay (.less fun a z => .inl z))⟩ (Fr.back (b := .new (.lst _)) k1.dom fun a e => by cases e; exact hl)⟩
    obtain ⟨s', hs', hm'⟩ := backE_mine f3 i s hs hm
    obtain ⟨_, ob, h, _⟩ := whose i s' l hs' hm' e
    rw [hl] at h
    cases h
end
end Mr
set_option Elab.async false
set_option linter.all false
set_option maxRecDepth 100000
set_option maxHeartbeats 4000000
namespace Mr
open PySem L2
inductive Kd where
  | v | b | m
  deriving DecidableEq
noncomputable def slOf : Kd → PV → Sl
  | .v, p => .val p
  | .m, p => .own p
  | .b, .lst ps => .bor (.lst ps)
  | .b, .dct ps => .bor (.dct ps)
  | .b, p => .val p
noncomputable def env0 : List Kd → List PV → En
  | k :: ks, p :: ps => some (slOf k p) :: env0 ks ps
  | _, _ => []
noncomputable def wsOf (ks : List Kd) (vs : List V) (H : Hp) : WS := ⟨fun i a => ks[i]? = some .m ∧ vs[i]? = some (.ref a), fun a => H a ≠ none⟩
noncomputable def mVs : List Kd → List V → List V
  | .m :: ks, v :: vs => v :: mVs ks vs
  | _ :: ks, _ :: vs => mVs ks vs
  | _, _ => []
noncomputable def MutOk (K : PySem.W.Frag) (Z : ASet) (H : Hp) (ks : List Kd) (vs : List V) (qs : List PV) : Prop := ∀ (n : Nat) v q, (mVs ks vs)[n]? = some v → qs[n]? = some q → ∃ a, v = .ref a ∧ Cont K Z H a q
noncomputable def ResOk (K : PySem.W.Frag) (M : ASet) (H H' : Hp) (ks : List Kd) (vs : List V) (r : PV) (qs : List PV) (v : V) : Bool → Prop
  | false => Rep K M H' r v ∧ MutOk K M H' ks vs qs
  | true => ∃ a, v = .ref a ∧ H a = none ∧ Cont K (uni M (one a)) H' a r ∧ MutOk K (uni M (one a)) H' ks vs qs
noncomputable abbrev FN := List PV → Option (PV × List PV)
noncomputable def spM (K : PySem.W.Frag) (ks : List Kd) (fr : Bool) (f : FN) : Sp := fun vs H Q _ => ∃ (M : ASet) (ps : List PV) (r : PV) (qs : List PV), (∀ a, M a → H a ≠ none) ∧ vs.length = ks.length ∧ ps.length = ks.length ∧
  (∀ (i : Nat) k p v, ks[i]? = some k → ps[i]? = some p → vs[i]? = some v → SlRep K M (wsOf ks vs H) noA H i v (slOf k p)) ∧
  (∀ (i j : Nat), i ≠ j → ks[i]? = some .m → ks[j]? = some .m → vs[i]? ≠ vs[j]?) ∧ (∀ i a, wsOf ks vs H i a → M a) ∧
  f ps = some (r, qs) ∧ ∀ v H', Keep (wsOf ks vs H) noA H H' → ResOk K M H H' ks vs r qs v fr → Q v H'
noncomputable def resP (e : En) : Bool → Bv → Option PV
  | false, .val p => some p
  | _, .new p => some p
  | _, .slot i => match e[i]? with
    | some (some (.loc p)) => some p
    | _ => none
  | true, .val _ => none
noncomputable def mutsF (e : En) : Nat → List Kd → Option (List PV)
  | _, [] => some []
  | j, .m :: ks => match e[j]? with
    | some (some (.own q)) => bO (mutsF e (j + 1) ks) fun qs => some (q :: qs)
    | _ => none
  | j, _ :: ks => mutsF e (j + 1) ks
noncomputable def finM (ks : List Kd) (fr : Bool) : Out → Option (PV × List PV)
  | .rt b e => bO (resP e fr b) fun r => bO (mutsF e 0 ks) fun qs => some (r, qs)
  | .nx e => match fr with
    | false => bO (mutsF e 0 ks) fun qs => some (.non, qs)
    | true => none
  | _ => none
noncomputable def fnM (ks : List Kd) (nl : Nat) (fr : Bool) (g : FS) : FN := fun ps => bO (g (env0 ks ps ++ List.replicate nl none)) (finM ks fr)
theorem env0_get : ∀ {ks : List Kd} {ps : List PV} {i : Nat} {s : Sl}, (env0 ks ps)[i]? = some (some s) → ∃ k p, ks[i]? = some k ∧ ps[i]? = some p ∧ s = slOf k p
  | [], ps, i, s, h => by simp [env0] at h
  | k :: ks, [], i, s, h => by simp [env0] at h
  | k :: ks, p :: ps, 0, s, h => by simp [env0] at h; exact ⟨k, p, rfl, rfl, h.symm⟩
  | k :: ks, p :: ps, i + 1, s, h => by
    rw [env0, List.getElem?_cons_succ] at h
    obtain ⟨k', p', h1, h2, h3⟩ := env0_get h
    exact ⟨k', p', by simpa using h1, by simpa using h2, h3⟩
theorem env0_len : ∀ {ks : List Kd} {ps : List PV}, ps.length = ks.length → (env0 ks ps).length = ks.length
  | [], ps, h => rfl
  | k :: ks, [], h => by simp at h
  | k :: ks, p :: ps, h => by rw [env0, List.length_cons, List.length_cons, env0_len (by simpa using h)]
theorem mutsF_get {e : En} : ∀ {ks : List Kd} {vs : List V} {j : Nat} {qs : List PV} {n : Nat} {v : V} {q : PV}, mutsF e j ks = some qs → (mVs ks vs)[n]? = some v → qs[n]? = some q → ∃ i, ks[i]? = some .m ∧ vs[i]? = some v ∧ e[j + i]? = some (some (.own q))
  | [], vs, j, qs, n, v, q, h, h1, h2 => by cases h; simp at h2
  | .m :: ks, [], j, qs, n, v, q, h, h1, h2 => by simp [mVs] at h1
  | .v :: ks, [], j, qs, n, v, q, h, h1, h2 => by simp [mVs] at h1
  | .b :: ks, [], j, qs, n, v, q, h, h1, h2 => by simp [mVs] at h1
  | .v :: ks, x :: vs, j, qs, n, v, q, h, h1, h2 => by
    obtain ⟨i, a, b, c⟩ := mutsF_get (ks := ks) (vs := vs) (j := j + 1) h h1 h2
    exact ⟨i + 1, by simpa using a, by simpa using b, by rw [show j + (i + 1) = j + 1 + i by omega]; exact c⟩
  | .b :: ks, x :: vs, j, qs, n, v, q, h, h1, h2 => by
    obtain ⟨i, a, b, c⟩ := mutsF_get (ks := ks) (vs := vs) (j := j + 1) h h1 h2
    exact ⟨i + 1, by simpa using a, by simpa using b, by rw [show j + (i + 1) = j + 1 + i by omega]; exact c⟩
  | .m :: ks, x :: vs, j, qs, n, v, q, h, h1, h2 => by
    unfold mutsF at h
    split at h
    · rename_i q0 he
      obtain ⟨qs', g, h⟩ := bO_some h
      cases h
      cases n with
      | zero =>
        simp [mVs] at h1 h2
        subst h1 h2
        exact ⟨0, rfl, rfl, he⟩
      | succ n =>
        obtain ⟨i, a, b, c⟩ := mutsF_get (ks := ks) (vs := vs) (j := j + 1) g (by simpa [mVs] using h1) (by simpa using h2)
        exact ⟨i + 1, by simpa using a, by simpa using b, by rw [show j + (i + 1) = j + 1 + i by omega]; exact c⟩
    · cases h
section
variable {K : PySem.W.Frag}
theorem SlRep.noA {M L : ASet} {W : WS} {H : Hp} {i : Nat} {v : V} {s : Sl} (h : SlRep K M W L H i v s) : SlRep K (uni M noA) W L H i v s := by
  have k : Stay M (uni M Mr.noA) H H := .less fun a z => z.elim id fun z => z.elim
  cases s with
  | val p => exact Rep.stay k h
  | own p => obtain ⟨a, e, w, c⟩ := h; exact ⟨a, e, w, c.stay k fun _ h => h⟩
  | loc p => obtain ⟨a, e, w, c⟩ := h; exact ⟨a, e, w, c.stay k fun _ h => h⟩
  | bor p =>
    obtain ⟨a, e, c⟩ := h
    refine ⟨a, e, ?_⟩
    cases c with
    | lst e od n m r => exact .lst e od n m (r.stay k)
    | klst e r => exact .klst e (r.stay k)
    | dct e od n m kk r => exact .dct e od n m kk (r.stay k)
theorem def_ok {ks : List Kd} {nl : Nat} {fr : Bool} {t : TS} {g : FS} {N : List Str} (h : RefS K t g) (hN : N.length = ks.length + nl) {vs : List V} {H : Hp} {Q : VK} {E : XK} (hs : spM K ks fr (fnM ks nl fr g) vs H Q E) : t { nx := fun _ H' => Q .non H', rt := Q } (L2.start N vs) H := by
  obtain ⟨M, ps, r, qs, hM, hvl, hpl, har, hdis, hwm, hf, q⟩ := hs
  obtain ⟨out, g1, hf⟩ := bO_some hf
  let O : ASet := fun a => H a ≠ none
  have o : Okc O M (wsOf ks vs H) noA H := ⟨fun a h => h, hM, hwm, fun a z => z.elim⟩
  have hvN : N.length - vs.length = nl := by omega
  have st : ∀ (i : Nat) v, vs[i]? = some v → (L2.start N vs)[i]? = some (some v) := fun i v hv => by
    unfold L2.start
    have hi := (List.getElem?_eq_some_iff.mp hv).1
    rw [List.getElem?_append_left (by simpa using hi), List.getElem?_map, hv]
    rfl
  have sl : ∀ (i : Nat) s, (env0 ks ps ++ List.replicate nl none)[i]? = some (some s) → ∃ k p v, ks[i]? = some k ∧ ps[i]? = some p ∧ vs[i]? = some v ∧ s = slOf k p := fun i s hi => by
    by_cases hl : i < (env0 ks ps).length
    · rw [List.getElem?_append_left hl] at hi
      obtain ⟨k, p, h1, h2, h3⟩ := env0_get hi
      have : i < vs.length := by have := (List.getElem?_eq_some_iff.mp h1).1; omega
      exact ⟨k, p, vs[i], h1, h2, by simp, h3⟩
    · rw [List.getElem?_append_right (by omega), List.getElem?_replicate] at hi
      split at hi <;> cases hi
  have mk : ∀ k p, (slOf k p).mine = true → k = .m := fun k p hm => by
    cases k with
    | v => cases hm
    | m => rfl
    | b => cases p <;> cases hm
  have en : EnRep K (uni M noA) (wsOf ks vs H) noA H (L2.start N vs) (env0 ks ps ++ List.replicate nl none) := by
    refine ⟨?_, fun i s hi => ?_, fun i j s s' hij h1 h2 m1 m2 => ?_⟩
    · unfold L2.start
      rw [List.length_append, List.length_append, List.length_replicate, List.length_replicate, env0_len hpl, List.length_map, hvN, hvl]
    · obtain ⟨k, p, v, h1, h2, h3, rfl⟩ := sl i s hi
      exact ⟨v, st i v h3, (har i k p v h1 h2 h3).noA⟩
    · obtain ⟨k, p, v, a1, a2, a3, rfl⟩ := sl i s h1
      obtain ⟨k', p', v', b1, b2, b3, rfl⟩ := sl j s' h2
      rw [st i v a3, st j v' b3]
      have e1 := mk _ _ m1
      have e2 := mk _ _ m2
      subst e1 e2
      have := hdis i j hij a1 b1
      rw [a3, b3] at this
      exact fun z => this (by cases z; rfl)
  have gk : ∀ {L' : ASet} {H' : Hp}, Grow (wsOf ks vs H) noA L' H H' → Keep (wsOf ks vs H) noA H H' := fun gr => ⟨gr.obj, gr.tup, gr.dom⟩
  have mu : ∀ {Z Zf : ASet} {L' : ASet} {H' : Hp} {σ' : St} {e' : En} {qs : List PV}, EnRep K Z (wsOf ks vs H) L' H' σ' e' → (∀ a, Zf a → Z a) → mutsF e' 0 ks = some qs → MutOk K Zf H' ks vs qs := fun en' hz hm n v q' h1 h2 => by
    obtain ⟨i, a1, a2, a3⟩ := mutsF_get hm h1 h2
    rw [Nat.zero_add] at a3
    obtain ⟨u, h3, a, rfl, ⟨_, w⟩, c⟩ := en'.at' i _ a3
    rw [a2] at w
    cases w
    exact ⟨a, rfl, c.stay (.less hz) fun _ h => h⟩
  refine h O M (wsOf ks vs H) noA (L2.start N vs) H _ out _ o en g1 ?_
  cases out with
  | bk e' => cases hf
  | ct e' => cases hf
  | nx e' =>
    cases fr with
    | true => cases hf
    | false =>
      obtain ⟨qs', g2, hf⟩ := bO_some hf
      cases hf
      exact fun L' σ' H' gr o' en' => q .non H' (gk gr) ⟨.non, mu en' (fun a z => .inl z) g2⟩
  | rt b e' =>
    obtain ⟨r', g2, hf⟩ := bO_some hf
    obtain ⟨qs', g3, hf⟩ := bO_some hf
    cases hf
    intro L' σ' H' v gr o' rb
    refine q v H' (gk gr) ?_
    cases b with
    | val p =>
      cases fr with
      | true => cases g2
      | false =>
        cases g2
        exact ⟨rb.2.stay (.less fun a z => .inl z), mu rb.1 (fun a z => .inl z) g3⟩
    | new p =>
      cases fr with
      | false =>
        cases g2
        have rb := rb.weak o'
        exact ⟨Rep.stay (.less fun a z => .inl z) rb.2, mu rb.1 (fun a z => .inl z) g3⟩
      | true =>
        cases g2
        obtain ⟨a, rfl, n1, n2, en', fe, c⟩ := rb
        exact ⟨a, rfl, Classical.byContradiction n1, c.stay (.less fun a z => z.elim .inl fun z => .inr (.inr z)) fun _ h => h, mu en' (fun a z => z.elim .inl fun z => .inr (.inr z)) g3⟩
    | slot i =>
      have g2' : (match e'[i]? with | some (some (.loc p)) => some p | _ => none) = some r := by
        cases fr <;> exact g2
      cases c : e'[i]? with
      | none => rw [c] at g2'; cases g2'
      | some s =>
        cases s with
        | none => rw [c] at g2'; cases g2'
        | some s =>
          rw [c] at g2'
          cases s with
          | loc p =>
            cases g2'
            obtain ⟨u, h1, a, rfl, la, ct⟩ := rb.1.at' i _ c
            have := rb.2
            rw [h1] at this
            cases this
            have nO : H a = none := Classical.byContradiction (o'.loc a la).2
            cases fr with
            | false => exact ⟨(ct.stay (.less fun a z => .inl z) fun _ h => h).rep fun z => absurd nO (hM a z), mu rb.1 (fun a z => .inl z) g3⟩
            | true => exact ⟨a, rfl, nO, ct.stay (.less fun b z => z.elim .inl fun z => .inr (by rw [show b = a from z]; exact la)) fun _ h => h, mu rb.1 (fun b z => z.elim .inl fun z => .inr (by rw [show b = a from z]; exact la)) g3⟩
          | _ => cases g2'
noncomputable def argOne (e : En) : Kd → Bv → Option PV
  | .v, b => b.put
  | .b, b => b.get e
  | .m, .slot i => ownAt e i
  | .m, _ => none
noncomputable def argP (e : En) : List Kd → List Bv → Option (List PV)
  | [], [] => some []
  | k :: ks, b :: bs => bO (argOne e k b) fun p => bO (argP e ks bs) fun ps => some (p :: ps)
  | _, _ => none
noncomputable def mSlots : List Kd → List Bv → List Nat
  | .m :: ks, .slot i :: bs => i :: mSlots ks bs
  | _ :: ks, _ :: bs => mSlots ks bs
  | _, _ => []
noncomputable def bSlots : List Kd → List Bv → List Nat
  | .b :: ks, .slot i :: bs => i :: bSlots ks bs
  | _ :: ks, _ :: bs => bSlots ks bs
  | _, _ => []
noncomputable def resB (r : PV) : Bool → Bv
  | true => .new r
  | false => .val r
noncomputable def fCall (ks : List Kd) (fr : Bool) (f : FN) (fa : FA) : FE := fun e => bE (fa e) fun bs e1 => bO (argP e1 ks bs) fun ps =>
  guardP (decide ((mSlots ks bs).Nodup) && (bSlots ks bs).all fun i => !(mSlots ks bs).contains i) (bO (f ps) fun rq => bO (backE (rq.2.map fun q => some (.own q)) (mSlots ks bs).zipIdx e1) fun e2 => some (resB rq.1 fr, e2))
theorem argP_get {e : En} : ∀ {ks : List Kd} {bs : List Bv} {ps : List PV}, argP e ks bs = some ps → ps.length = ks.length ∧ bs.length = ks.length ∧ ∀ (i : Nat) k b p, ks[i]? = some k → bs[i]? = some b → ps[i]? = some p → argOne e k b = some p
  | [], [], ps, h => by cases h; exact ⟨rfl, rfl, fun i k b p h => by simp at h⟩
  | [], _ :: _, ps, h => by cases h
  | _ :: _, [], ps, h => by cases h
  | k :: ks, b :: bs, ps, h => by
    obtain ⟨p, g1, h⟩ := bO_some h
    obtain ⟨ps', g2, h⟩ := bO_some h
    cases h
    obtain ⟨a1, a2, a3⟩ := argP_get g2
    refine ⟨by rw [List.length_cons, List.length_cons, a1], by rw [List.length_cons, List.length_cons, a2], fun i k' b' p' h1 h2 h3 => ?_⟩
    cases i with
    | zero => simp at h1 h2 h3; subst h1 h2 h3; exact g1
    | succ i => exact a3 i k' b' p' (by simpa using h1) (by simpa using h2) (by simpa using h3)
theorem RVs.get {Z : ASet} {H : Hp} {σ : St} : ∀ {bs : List Bv} {vs : List V} {i : Nat} {v : V}, RVs K Z H σ bs vs → vs[i]? = some v → ∃ b, bs[i]? = some b ∧ RV K Z H σ v b
  | _, _, _, _, .nil, h => by simp at h
  | _, _, 0, _, .cons h _, e => by simp at e; subst e; exact ⟨_, rfl, h⟩
  | _, _, i + 1, _, .cons _ r, e => by
    obtain ⟨b, h1, h2⟩ := RVs.get (i := i) r (by simpa using e)
    exact ⟨b, by simpa using h1, h2⟩
theorem RVs.length {Z : ASet} {H : Hp} {σ : St} : ∀ {bs : List Bv} {vs : List V}, RVs K Z H σ bs vs → bs.length = vs.length
  | _, _, .nil => rfl
  | _, _, .cons _ r => by rw [List.length_cons, List.length_cons, RVs.length r]
theorem mSlots_in : ∀ {ks : List Kd} {bs : List Bv} {i j : Nat}, ks[i]? = some .m → bs[i]? = some (.slot j) → ∃ n : Nat, (mSlots ks bs)[n]? = some j
  | [], bs, i, j, h, _ => by simp at h
  | k :: ks, [], i, j, _, h => by simp at h
  | k :: ks, b :: bs, 0, j, h1, h2 => by simp at h1 h2; subst h1 h2; exact ⟨0, rfl⟩
  | k :: ks, b :: bs, i + 1, j, h1, h2 => by
    obtain ⟨n, h⟩ := mSlots_in (ks := ks) (bs := bs) (i := i) (by simpa using h1) (by simpa using h2)
    cases k with
    | v => exact ⟨n, h⟩
    | b => exact ⟨n, h⟩
    | m =>
      cases b with
      | val p => exact ⟨n, h⟩
      | new p => exact ⟨n, h⟩
      | slot l => exact ⟨n + 1, by simpa [mSlots] using h⟩
theorem bSlots_in : ∀ {ks : List Kd} {bs : List Bv} {i j : Nat}, ks[i]? = some .b → bs[i]? = some (.slot j) → j ∈ bSlots ks bs
  | [], bs, i, j, h, _ => by simp at h
  | k :: ks, [], i, j, _, h => by simp at h
  | k :: ks, b :: bs, 0, j, h1, h2 => by simp at h1 h2; subst h1 h2; exact List.mem_cons_self
  | k :: ks, b :: bs, i + 1, j, h1, h2 => by
    have h := bSlots_in (ks := ks) (bs := bs) (i := i) (j := j) (by simpa using h1) (by simpa using h2)
    cases k with
    | v => exact h
    | m => exact h
    | b =>
      cases b with
      | val p => exact h
      | new p => exact h
      | slot l => exact List.mem_cons_of_mem _ h
theorem mSlots_two : ∀ {ks : List Kd} {bs : List Bv} {i1 i2 j : Nat}, (mSlots ks bs).Nodup → i1 ≠ i2 → ks[i1]? = some .m → ks[i2]? = some .m → bs[i1]? = some (.slot j) → bs[i2]? = some (.slot j) → False
  | [], bs, i1, i2, j, _, _, h, _, _, _ => by simp at h
  | k :: ks, [], i1, i2, j, _, _, _, _, h, _ => by simp at h
  | k :: ks, b :: bs, 0, 0, j, _, n, _, _, _, _ => n rfl
  | k :: ks, b :: bs, 0, i2 + 1, j, nd, n, h1, h2, h3, h4 => by
    simp at h1 h3
    subst h1 h3
    obtain ⟨q, h⟩ := mSlots_in (ks := ks) (bs := bs) (i := i2) (j := j) (by simpa using h2) (by simpa using h4)
    rw [mSlots, List.nodup_cons] at nd
    exact nd.1 (List.mem_of_getElem? h)
  | k :: ks, b :: bs, i1 + 1, 0, j, nd, n, h1, h2, h3, h4 => by
    simp at h2 h4
    subst h2 h4
    obtain ⟨q, h⟩ := mSlots_in (ks := ks) (bs := bs) (i := i1) (j := j) (by simpa using h1) (by simpa using h3)
    rw [mSlots, List.nodup_cons] at nd
    exact nd.1 (List.mem_of_getElem? h)
  | k :: ks, b :: bs, i1 + 1, i2 + 1, j, nd, n, h1, h2, h3, h4 => by
    refine mSlots_two (ks := ks) (bs := bs) (i1 := i1) (i2 := i2) (j := j) ?_ (fun z => n (by rw [z])) (by simpa using h1) (by simpa using h2) (by simpa using h3) (by simpa using h4)
    cases k with
    | v => exact nd
    | b => exact nd
    | m =>
      cases b with
      | val p => exact nd
      | new p => exact nd
      | slot l => rw [mSlots, List.nodup_cons] at nd; exact nd.2
theorem mSlots_v {Z : ASet} {H : Hp} {σ : St} {e : En} : ∀ {ks : List Kd} {bs : List Bv} {vs : List V} {ps : List PV} {n j : Nat}, RVs K Z H σ bs vs → argP e ks bs = some ps → (mSlots ks bs)[n]? = some j → ∃ v, (mVs ks vs)[n]? = some v ∧ σ[j]? = some (some v)
  | [], bs, vs, ps, n, j, r, g, h => by cases bs <;> simp [mSlots] at h
  | k :: ks, [], vs, ps, n, j, r, g, h => by simp [mSlots] at h
  | k :: ks, b :: bs, vs, ps, n, j, r, g, h => by
    obtain ⟨p, g1, g⟩ := bO_some g
    obtain ⟨ps', g2, g⟩ := bO_some g
    cases r with
    | cons h0 r =>
      cases k with
      | v => exact mSlots_v (ks := ks) r g2 (by simpa [mSlots] using h)
      | b => exact mSlots_v (ks := ks) r g2 (by simpa [mSlots] using h)
      | m =>
        cases b with
        | val p => cases g1
        | new p => cases g1
        | slot l =>
          cases n with
          | zero => simp [mSlots] at h; subst h; exact ⟨_, rfl, h0⟩
          | succ n =>
            obtain ⟨v, a, b⟩ := mSlots_v (n := n) r g2 (by simpa [mSlots] using h)
            exact ⟨v, by simpa [mVs] using a, b⟩
theorem ref_call {ks : List Kd} {fr : Bool} {f : FN} {ta : TA} {fa : FA} {E : XK} (ha : RefA K ta fa) : Ref K (tCall (spM K ks fr f) [] E ta) (fCall ks fr f fa) := by
  intro O M W L σ H e e' b Q o he hf q
  obtain ⟨bs, e1, f1, hf⟩ := bE_some hf
  obtain ⟨ps, g1, hf⟩ := bO_some hf
  obtain ⟨g2, hf⟩ := guardP_some hf
  obtain ⟨⟨r, qs⟩, g3, hf⟩ := bO_some hf
  obtain ⟨e2, g4, hf⟩ := bO_some hf
  cases hf
  rw [Bool.and_eq_true] at g2
  have nd := of_decide_eq_true g2.1
  have nb : ∀ i ∈ bSlots ks bs, i ∉ mSlots ks bs := fun i hi hm => by
    have := List.all_eq_true.mp g2.2 i hi
    rw [List.contains_iff_mem.mpr hm] at this
    cases this
  refine ha O M W L σ H e e1 bs _ o he f1 fun vs H1 k1 en rv => ?_
  have o1 := o.keep k1.dom
  obtain ⟨pl, bl, ap⟩ := argP_get g1
  have vl := rv.length
  show spM K ks fr f (vs ++ []) H1 Q E
  rw [List.append_nil]
  have wr : ∀ i a, wsOf ks vs H1 i a → ∃ j, bs[i]? = some (.slot j) ∧ σ[j]? = some (some (.ref a)) ∧ j ∈ mSlots ks bs ∧ ∃ p, ownAt e1 j = some p := fun i a ⟨h1, h2⟩ => by
    obtain ⟨b, hb, rb⟩ := rv.get h2
    have hi : i < ks.length := (List.getElem?_eq_some_iff.mp h1).1
    have hp : ps[i]? = some (ps[i]'(by omega)) := List.getElem?_eq_getElem (by omega)
    have := ap i _ b _ h1 hb hp
    cases b with
    | val p => cases this
    | new p => cases this
    | slot j =>
      obtain ⟨n, hn⟩ := mSlots_in h1 hb
      exact ⟨j, hb, rb, List.mem_of_getElem? hn, _, this⟩
  have wml : ∀ i a, wsOf ks vs H1 i a → (aw W a ∨ L a) ∧ ∃ j s, e1[j]? = some (some s) ∧ s.mine = true ∧ σ[j]? = some (some (.ref a)) ∧ j ∈ mSlots ks bs := fun i a h => by
    obtain ⟨j, _, hs, hm, p, hp⟩ := wr i a h
    obtain ⟨a', ha', hz, _⟩ := en.own hp
    rw [hs] at ha'
    cases ha'
    refine ⟨hz, j, ?_⟩
    rcases ownAt_some hp with g | g
    · exact ⟨_, g, rfl, hs, hm⟩
    · exact ⟨_, g, rfl, hs, hm⟩
  have ML : ∀ a, (aw W a ∨ L a) → uni M L a := fun a z => z.elim (fun ⟨i, w⟩ => .inl (o.wm i a w)) .inr
  have nn : ∀ {a : Addr} {o : HO}, Rd H1 a o → H1 a ≠ none := fun h => h.elim (fun h => by rw [h]; exact fun z => nomatch z) fun ⟨u, h⟩ => by rw [h]; exact fun z => nomatch z
  refine ⟨uni M L, ps, r, qs, fun a z => z.elim (fun z => o1.old a (o1.mo a z)) fun z => (o1.loc a z).1, by omega, by omega, fun i k p v h1 h2 h3 => ?_, fun i j hij h1 h2 z => ?_, fun i a z => ML a (wml i a z).1, g3, fun v H' kc res => ?_⟩
  · obtain ⟨b, hb, rb⟩ := rv.get h3
    have hone := ap i k b p h1 hb h2
    cases k with
    | v =>
      cases b with
      | val p' => cases hone; exact rb
      | new p' => exact rb.elim
      | slot j => cases hone
    | m =>
      cases b with
      | val p' => cases hone
      | new p' => cases hone
      | slot j =>
        obtain ⟨a, hs, hz, c⟩ := en.own hone
        have rb' : σ[j]? = some (some v) := rb
        rw [hs] at rb'
        cases rb'
        exact ⟨a, rfl, ⟨h1, h3⟩, c⟩
    | b =>
      have lendR : ∀ p, Rep K (uni M L) H1 p v → SlRep K (uni M L) (wsOf ks vs H1) noA H1 i v (slOf .b p) := fun p hr => by
        cases hr with
        | lst h n r => exact ⟨_, rfl, .lst h (nn h) (fun ⟨i', w⟩ => n (ML _ (wml i' _ w).1)) (fun z => z) r⟩
        | dct h n kk r => exact ⟨_, rfl, .dct h (nn h) (fun ⟨i', w⟩ => n (ML _ (wml i' _ w).1)) (fun z => z) kk r⟩
        | non => exact Rep.non
        | bl b => exact Rep.bl b
        | int b => exact Rep.int b
        | str b => exact Rep.str b
        | ty b => exact Rep.ty b
        | tup h r => exact Rep.tup h r
      cases b with
      | val p' => cases hone; exact lendR _ rb
      | new p' => exact rb.elim
      | slot j =>
        have hone : rd e1 j = some p := hone
        unfold Mr.rd at hone
        cases c : e1[j]? with
        | none => rw [c] at hone; cases hone
        | some s =>
          cases s with
          | none => rw [c] at hone; cases hone
          | some s =>
            rw [c] at hone
            cases hone
            obtain ⟨u, hs, sr⟩ := en.at' j s c
            have rb' : σ[j]? = some (some v) := rb
            rw [hs] at rb'
            cases rb'
            have nm : j ∉ mSlots ks bs := nb j (bSlots_in h1 hb)
            have nw : ∀ a, s.mine = true → σ[j]? = some (some (.ref a)) → ¬ aw (wsOf ks vs H1) a := fun a hm ha ⟨i', w⟩ => by
              obtain ⟨_, j', s', hs', hm', ha', hj'⟩ := wml i' a w
              have ne : j ≠ j' := fun z => nm (z ▸ hj')
              exact en.dis j j' s s' ne c hs' hm hm' (by rw [ha, ha'])
            cases s with
            | val p => exact lendR p sr
            | own p =>
              obtain ⟨a, e, w, ct⟩ := sr
              subst e
              cases ct with
              | lst h r => exact ⟨a, rfl, .lst (.inl h) (nn (.inl h)) (nw a rfl hs) (fun z => z) r⟩
              | dct h kk r => exact ⟨a, rfl, .dct (.inl h) (nn (.inl h)) (nw a rfl hs) (fun z => z) kk r⟩
            | loc p =>
              obtain ⟨a, e, w, ct⟩ := sr
              subst e
              cases ct with
              | lst h r => exact ⟨a, rfl, .lst (.inl h) (nn (.inl h)) (nw a rfl hs) (fun z => z) r⟩
              | dct h kk r => exact ⟨a, rfl, .dct (.inl h) (nn (.inl h)) (nw a rfl hs) (fun z => z) kk r⟩
            | bor p =>
              obtain ⟨a, e, ct⟩ := sr
              subst e
              cases ct with
              | lst h od n m r => exact ⟨a, rfl, .lst h (nn h) (fun ⟨i', w⟩ => (wml i' a w).1.elim n m) (fun z => z) r⟩
              | klst h r => exact ⟨a, rfl, .klst h r⟩
              | dct h od n m kk r => exact ⟨a, rfl, .dct h (nn h) (fun ⟨i', w⟩ => (wml i' a w).1.elim n m) (fun z => z) kk r⟩
  · 
    have hi : i < ks.length := (List.getElem?_eq_some_iff.mp h1).1
    have hj : j < ks.length := (List.getElem?_eq_some_iff.mp h2).1
    have vi : vs[i]? = some (vs[i]'(by omega)) := List.getElem?_eq_getElem (by omega)
    have vj : vs[j]? = some (vs[j]'(by omega)) := List.getElem?_eq_getElem (by omega)
    have key : ∀ (i : Nat) (v : V), ks[i]? = some Kd.m → vs[i]? = some v → ∃ (j : Nat) (a : Addr), v = .ref a ∧ bs[i]? = some (Bv.slot j) ∧ σ[j]? = some (some v) ∧ ∃ p, ownAt e1 j = some p := fun i v h1 h3 => by
      obtain ⟨b, hb, rb⟩ := rv.get h3
      have hi : i < ks.length := (List.getElem?_eq_some_iff.mp h1).1
      have := ap i _ b _ h1 hb (List.getElem?_eq_getElem (show i < ps.length by omega))
      cases b with
      | val p => cases this
      | new p => cases this
      | slot l =>
        obtain ⟨a, ha, _, _⟩ := en.own this
        have rb' : σ[l]? = some (some v) := rb
        rw [ha] at rb'
        cases rb'
        exact ⟨l, a, rfl, hb, ha, _, this⟩
    obtain ⟨l1, a1, x1, y1, z1, p1, w1⟩ := key i _ h1 vi
    obtain ⟨l2, a2, x2, y2, z2, p2, w2⟩ := key j _ h2 vj
    by_cases hl : l1 = l2
    · subst hl; exact mSlots_two nd hij h1 h2 y1 y2
    · have m1 : ∃ s, e1[l1]? = some (some s) ∧ s.mine = true := by rcases ownAt_some w1 with g | g <;> exact ⟨_, g, rfl⟩
      have m2 : ∃ s, e1[l2]? = some (some s) ∧ s.mine = true := by rcases ownAt_some w2 with g | g <;> exact ⟨_, g, rfl⟩
      obtain ⟨s1, b1, c1⟩ := m1
      obtain ⟨s2, b2, c2⟩ := m2
      refine en.dis l1 l2 s1 s2 hl b1 b2 c1 c2 ?_
      rw [z1, z2, ← Option.some.inj (vi.symm.trans (z.trans vj))]
  · 
    have kout : Keep W L H1 H' := ⟨fun a ob h n m => kc.obj a ob h (fun ⟨i, w⟩ => (wml i a w).1.elim n m) (fun z => z), kc.tup, kc.dom⟩
    have pend : ∀ (Zf Lf : ASet), (∀ a ob, H1 a = some ob → ¬ uni M L a → ¬ Zf a) → (∀ a, L a → Lf a) → (∀ a ob, H1 a = some ob → ¬ L a → ¬ Lf a) → EnPend K Zf W Lf H' σ (fun i => ∃ j, (i, j) ∈ (mSlots ks bs).zipIdx) e1 := fun Zf Lf hz hL hL2 => by
      have kf : Stay (uni M L) Zf H1 H' := ⟨kc.tup, fun a ob h n => ⟨kc.obj a ob h (fun ⟨i, w⟩ => n (ML a (wml i a w).1)) (fun z => z), hz a ob h n⟩⟩
      refine ⟨en.len, fun i s hs => ?_, en.dis⟩
      obtain ⟨u, h1, h2⟩ := en.at' i s hs
      have keepM : ∀ a, s.mine = true → ¬ (∃ j, (i, j) ∈ (mSlots ks bs).zipIdx) → u = .ref a → ∀ ob, H1 a = some ob → H' a = some ob := fun a hm nt ev ob h => by
        subst ev
        refine kc.obj a ob h (fun ⟨i', w⟩ => ?_) (fun z => z)
        obtain ⟨_, j', s', hs', hm', ha', hj'⟩ := wml i' a w
        obtain ⟨n, hn⟩ := List.getElem?_of_mem hj'
        have ne : j' ≠ i := fun z => nt ⟨n, by rw [← z]; exact List.mem_zipIdx_iff_getElem?.mpr hn⟩
        exact en.dis j' i s' s ne hs' hs hm' hm (by rw [ha', h1])
      have rk : ∀ {a : Addr} {o : HO}, Rd H1 a o → ¬ L a → ¬ Lf a := fun h n => h.elim (fun h => hL2 _ _ h n) fun ⟨u, h⟩ => hL2 _ _ h n
      refine ⟨u, h1, fun z => ?_, fun hm => ?_⟩
      · cases s with
        | val p => exact Rep.stay kf h2
        | own p => obtain ⟨a, e, w, c⟩ := h2; exact ⟨a, e, w, c.stay kf fun ob h => keepM a rfl (z.elim id fun z => nomatch z) e ob h⟩
        | loc p => obtain ⟨a, e, w, c⟩ := h2; exact ⟨a, e, hL a w, c.stay kf fun ob h => keepM a rfl (z.elim id fun z => nomatch z) e ob h⟩
        | bor p =>
          obtain ⟨a, e, c⟩ := h2
          refine ⟨a, e, ?_⟩
          cases c with
          | lst h od n m r => exact .lst (h.elim (fun h => .inl (kout.obj _ _ h n m)) fun ⟨u, h⟩ => .inr ⟨u, kout.obj _ _ h n m⟩) od n (rk h m) (r.stay kf)
          | klst h r => exact .klst h (r.stay kf)
          | dct h od n m kk r => exact .dct (h.elim (fun h => .inl (kout.obj _ _ h n m)) fun ⟨u, h⟩ => .inr ⟨u, kout.obj _ _ h n m⟩) od n (rk h m) kk (r.stay kf)
      · cases s with
        | val p => cases hm
        | bor p => cases hm
        | own p => obtain ⟨a, e, w, c⟩ := h2; exact ⟨a, e, .inl ⟨p, rfl, w⟩⟩
        | loc p => obtain ⟨a, e, w, c⟩ := h2; exact ⟨a, e, .inr ⟨p, rfl, hL a w⟩⟩
    have back : ∀ (Zf : ASet), MutOk K Zf H' ks vs qs → ∀ i j p a, (i, j) ∈ (mSlots ks bs).zipIdx → ownAt (qs.map fun q => some (.own q)) j = some p → σ[i]? = some (some (.ref a)) → Cont K Zf H' a p := fun Zf mu i j p a hm hp ha => by
      have hm' := List.mem_zipIdx_iff_getElem?.mp hm
      obtain ⟨v', a1, a2⟩ := mSlots_v rv g1 hm'
      dsimp only at a2
      rw [ha] at a2
      cases a2
      have hq : qs[j]? = some p := by
        rcases ownAt_some hp with g | g
        · rw [List.getElem?_map] at g
          cases c : qs[j]? with
          | none => rw [c] at g; cases g
          | some q' => rw [c] at g; cases g; rfl
        · rw [List.getElem?_map] at g
          cases c : qs[j]? with
          | none => rw [c] at g; cases g
          | some q' => rw [c] at g; cases g
      obtain ⟨a', e, c⟩ := mu j _ p a1 hq
      cases e
      exact c
    cases fr with
    | false =>
      obtain ⟨rr, mu⟩ := res
      exact q v H' (k1.trans kout) ⟨backE_ok (pend (uni M L) L (fun _ _ _ n => n) (fun _ z => z) fun _ _ _ n => n) (back _ mu) g4, rr⟩ trivial
    | true =>
      obtain ⟨a, rfl, na, c, mu⟩ := res
      have sub : ∀ b, uni M (uni L (one a)) b → uni (uni M L) (one a) b := fun b z => by
        rcases z with z | z | z
        · exact .inl (.inl z)
        · exact .inl (.inr z)
        · exact .inr z
      have ne : ∀ b ob, H1 b = some ob → b ≠ a := fun b ob h => ne_of_none h na
      have mu' : MutOk K (uni M (uni L (one a))) H' ks vs qs := fun n v q' h1 h2 => by
        obtain ⟨a', e, c⟩ := mu n v q' h1 h2
        exact ⟨a', e, c.stay (.less sub) fun _ h => h⟩
      refine q _ H' (k1.trans kout) ⟨a, rfl, fun z => o1.old a z na, fun z => (o1.loc a z).1 na, backE_ok (pend (uni M (uni L (one a))) (uni L (one a)) (fun b ob h n z => ?_) (fun _ z => .inl z) fun b ob h n z => z.elim n (ne b ob h)) (back _ mu') g4, fun i s hs hm e => ?_, c.stay (.less sub) fun _ h => h⟩ (Fr.back (b := .new r) k1.dom fun b e => by cases e; exact na)
      · rcases z with z | z | z
        · exact n (.inl z)
        · exact n (.inr z)
        · exact ne b ob h z
      · obtain ⟨s', hs', hm'⟩ := backE_mine g4 i s hs hm
        obtain ⟨u, h1, h2⟩ := en.at' i s' hs'
        rw [e] at h1
        cases h1
        cases s' with
        | val p => cases hm'
        | bor p => cases hm'
        | own p => obtain ⟨b, e, w, c⟩ := h2; cases e; obtain ⟨ob, h, _⟩ := c.there; rw [na] at h; cases h
        | loc p => obtain ⟨b, e, w, c⟩ := h2; cases e; obtain ⟨ob, h, _⟩ := c.there; rw [na] at h; cases h
end
end Mr
set_option Elab.async false
set_option linter.all false
set_option maxRecDepth 100000
set_option maxHeartbeats 4000000
namespace Mr
open PySem PySem.Spec L2 PyProof.Rows
mutual
inductive Lies (h : Heap) : PV → Value → Prop
  | non : Lies h .non .none
  | bl (b) : Lies h (.bl b) (.bool b)
  | int (i t) : Lies h (.int i) (.int i t)
  | str (x t) : Lies h (.str x) (.str x t)
  | tup {a : Addr} {its : List Value} {ps : List PV} : IsTup h a its.toArray → LiesL h ps its → Lies h (.tup ps) (.ref a)
  | lst {a : Addr} {its : List Value} {ps : List PV} : h.IsList a its.toArray → LiesL h ps its → Lies h (.lst ps) (.ref a)
inductive LiesL (h : Heap) : List PV → List Value → Prop
  | nil : LiesL h [] []
  | cons {p : PV} {v : Value} {ps : List PV} {vs : List Value} : Lies h p v → LiesL h ps vs → LiesL h (p :: ps) (v :: vs)
end
noncomputable def okP : Nat → PV → Bool
  | _, .non => true
  | _, .bl _ => true
  | _, .int _ => true
  | _, .str _ => true
  | n + 1, .tup ps => ps.all (okP n)
  | n + 1, .lst ps => ps.all (okP n)
  | _, _ => false
section
variable {X : Cx} {pins : List (Addr × Obj)} {σ : L2.St} {H : Hp} {s : Shared}
theorem Rep.lies {Z : ASet} (I : Inv X pins σ H s) : ∀ {n : Nat} {p : PV} {x : V} {v : Value}, okP n p = true → Rep X.K Z H p x → RelV x v → Lies s.heap p v
  | n, .non, x, v, ok, h, r => by cases h; cases r; exact .non
  | n, .bl b, x, v, ok, h, r => by cases h; cases r; exact .bl b
  | n, .int b, x, v, ok, h, r => by cases h; obtain ⟨t, rfl⟩ := r; exact .int b t
  | n, .str b, x, v, ok, h, r => by cases h; obtain ⟨t, rfl⟩ := r; exact .str b t
  | n, .ty b, x, v, ok, h, r => by cases n <;> cases ok
  | n, .dct b, x, v, ok, h, r => by cases n <;> cases ok
  | 0, .tup ps, x, v, ok, h, r => by cases ok
  | 0, .lst ps, x, v, ok, h, r => by cases ok
  | n + 1, .tup ps, x, v, ok, h, r => by
    cases h with
    | tup h rl =>
      cases r
      obtain ⟨its, rv, pl, _⟩ := I.tuple h.sq
      have key : ∀ (ps : List PV) (xs : List V) (its : List Value), ps.all (okP n) = true → RepL X.K Z H ps xs → Vals xs its → LiesL s.heap ps its := fun ps => by
        induction ps with
        | nil => intro xs its _ h1 h2; cases h1; cases h2; exact .nil
        | cons p ps ih =>
          intro xs its ha h1 h2
          rw [List.all_cons, Bool.and_eq_true] at ha
          cases h1 with
          | cons h1 r1 =>
            cases h2 with
            | cons h2 r2 => exact .cons (Rep.lies I (n := n) ha.1 h1 h2) (ih _ _ ha.2 r1 r2)
      exact .tup pl (key ps _ its ok rl rv)
  | n + 1, .lst ps, x, v, ok, h, r => by
    cases h with
    | lst h nz rl =>
      cases r
      obtain ⟨its, rv, pl, _⟩ := I.list (show SqL X.K H _ _ from .inl h)
      have key : ∀ (ps : List PV) (xs : List V) (its : List Value), ps.all (okP n) = true → RepL X.K Z H ps xs → Vals xs its → LiesL s.heap ps its := fun ps => by
        induction ps with
        | nil => intro xs its _ h1 h2; cases h1; cases h2; exact .nil
        | cons p ps ih =>
          intro xs its ha h1 h2
          rw [List.all_cons, Bool.and_eq_true] at ha
          cases h1 with
          | cons h1 r1 =>
            cases h2 with
            | cons h2 r2 => exact .cons (Rep.lies I (n := n) ha.1 h1 h2) (ih _ _ ha.2 r1 r2)
      exact .lst pl.isList (key ps _ its ok rl rv)
theorem RepL.lies {Z : ASet} (I : Inv X pins σ H s) {n : Nat} : ∀ {ps : List PV} {xs : List V} {its : List Value}, ps.all (okP n) = true → RepL X.K Z H ps xs → Vals xs its → LiesL s.heap ps its
  | [], _, _, _, h1, h2 => by cases h1; cases h2; exact .nil
  | p :: ps, _, _, ha, h1, h2 => by
    rw [List.all_cons, Bool.and_eq_true] at ha
    cases h1 with
    | cons h1 r1 =>
      cases h2 with
      | cons h2 r2 => exact .cons (Rep.lies I (n := n) ha.1 h1 h2) (RepL.lies I ha.2 r1 r2)
theorem Red.lies {Z : ASet} (I : Inv X pins σ H s) {n : Nat} {p : PV} {x : V} {v : Value} (ok : okP n p = true) (h : Red X.K Z H p x) (r : RelV x v) : Lies s.heap p v := by
  cases h with
  | rep h => exact h.lies I ok r
  | lst h rl =>
    cases r
    cases n with
    | zero => cases ok
    | succ n =>
      obtain ⟨its, rv, pl, _⟩ := I.list h.sq
      exact .lst pl.isList (RepL.lies I (n := n) ok rl rv)
  | dct h e r => cases n <;> cases ok
end
mutual
noncomputable def eqP : PV → PV → Bool
  | .non, .non => true
  | .bl a, .bl b => a == b
  | .bl a, .int b => (if a then 1 else 0) == b
  | .int a, .bl b => a == (if b then 1 else 0)
  | .int a, .int b => a == b
  | .str a, .str b => a == b
  | .tup xs, .tup ys => eqPL xs ys
  | .lst xs, .lst ys => eqPL xs ys
  | _, _ => false
noncomputable def eqPL : List PV → List PV → Bool
  | [], [] => true
  | x :: xs, y :: ys => eqP x y && eqPL xs ys
  | _, _ => false
end
theorem eqP_tup {xs ys : List PV} : eqP (.tup xs) (.tup ys) = eqPL xs ys := by rw [eqP]
theorem eqP_lst {xs ys : List PV} : eqP (.lst xs) (.lst ys) = eqPL xs ys := by rw [eqP]
theorem LiesL.length {h : Heap} : ∀ {ps : List PV} {vs : List Value}, LiesL h ps vs → ps.length = vs.length
  | _, _, .nil => rfl
  | _, _, .cons _ r => by rw [List.length_cons, List.length_cons, LiesL.length r]
theorem LiesL.get {h : Heap} : ∀ {ps : List PV} {vs : List Value} {i : Nat} {v : Value}, LiesL h ps vs → vs[i]? = some v → ∃ p, ps[i]? = some p ∧ Lies h p v
  | _, _, _, _, .nil, e => by simp at e
  | _, _, 0, _, .cons q _, e => by simp at e; subst e; exact ⟨_, rfl, q⟩
  | _, _, i + 1, _, .cons _ r, e => by
    obtain ⟨v, h1, h2⟩ := LiesL.get (i := i) r (by simpa using e)
    exact ⟨v, by simpa using h1, h2⟩
theorem tup_one {h : Heap} {a : Addr} {xs ys : Array Value} (h1 : IsTup h a xs) (h2 : IsTup h a ys) : xs = ys := by
  obtain ⟨o, g, _, n, d⟩ := h1
  obtain ⟨o', g', _, n', d'⟩ := h2
  rw [g] at g'
  cases g'
  rw [d] at d'
  injection d'
theorem lst_one {h : Heap} {a : Addr} {xs ys : Array Value} (h1 : h.IsList a xs) (h2 : h.IsList a ys) : xs = ys := by
  obtain ⟨o, g, _, n, d⟩ := h1
  obtain ⟨o', g', _, n', d'⟩ := h2
  rw [g] at g'
  cases g'
  rw [d] at d'
  injection d'
theorem tup_lst {h : Heap} {a : Addr} {xs ys : Array Value} (h1 : IsTup h a xs) (h2 : h.IsList a ys) : False := by
  obtain ⟨o, g, c, n, d⟩ := h1
  obtain ⟨o', g', c', n', d'⟩ := h2
  rw [g] at g'
  cases g'
  rw [c] at c'
  exact absurd c' (by decide)
mutual
theorem Lies.same {h : Heap} : ∀ {p : PV} {v : Value}, Lies h p v → ∀ {q : PV}, Lies h q v → eqP p q = true
  | _, _, .non, q, k => by cases k; rfl
  | _, _, .bl b, q, k => by cases k; exact beq_self_eq_true b
  | _, _, .int i t, q, k => by cases k; exact beq_self_eq_true i
  | _, _, .str i t, q, k => by cases k; exact beq_self_eq_true i
  | _, _, .tup ht r, q, k => by
    cases k with
    | tup ht' r' =>
      have e : _ = _ := tup_one ht ht'
      have e := congrArg Array.toList e
      simp only [List.toList_toArray] at e
      subst e
      unfold eqP
      exact LiesL.same r r'
    | lst hl r' => exact (tup_lst ht hl).elim
  | _, _, .lst ht r, q, k => by
    cases k with
    | tup ht' r' => exact (tup_lst ht' ht).elim
    | lst hl r' =>
      have e := congrArg Array.toList (lst_one ht hl)
      simp only [List.toList_toArray] at e
      subst e
      unfold eqP
      exact LiesL.same r r'
theorem LiesL.same {h : Heap} : ∀ {p : List PV} {v : List Value}, LiesL h p v → ∀ {q : List PV}, LiesL h q v → eqPL p q = true
  | _, _, .nil, q, k => by cases k; rfl
  | _, _, .cons h1 r1, q, k => by
    cases k with
    | cons h2 r2 => unfold eqPL; rw [Lies.same h1 h2, LiesL.same r1 r2]; rfl
end
mutual
theorem Lies.fn {h : Heap} : ∀ {p : PV} {v : Value}, Lies h p v → ∀ {q : PV}, Lies h q v → p = q
  | _, _, .non, q, k => by cases k; rfl
  | _, _, .bl b, q, k => by cases k; rfl
  | _, _, .int i t, q, k => by cases k; rfl
  | _, _, .str i t, q, k => by cases k; rfl
  | _, _, .tup ht r, q, k => by
    cases k with
    | tup ht' r' =>
      have e := congrArg Array.toList (tup_one ht ht')
      simp only [List.toList_toArray] at e
      subst e
      rw [LiesL.fn r r']
    | lst hl r' => exact (tup_lst ht hl).elim
  | _, _, .lst ht r, q, k => by
    cases k with
    | tup ht' r' => exact (tup_lst ht' ht).elim
    | lst hl r' =>
      have e := congrArg Array.toList (lst_one ht hl)
      simp only [List.toList_toArray] at e
      subst e
      rw [LiesL.fn r r']
theorem LiesL.fn {h : Heap} : ∀ {p : List PV} {v : List Value}, LiesL h p v → ∀ {q : List PV}, LiesL h q v → p = q
  | _, _, .nil, q, k => by cases k; rfl
  | _, _, .cons h1 r1, q, k => by
    cases k with
    | cons h2 r2 => rw [Lies.fn h1 h2, LiesL.fn r1 r2]
end
theorem eqPL_range : ∀ {ps qs : List PV}, ((List.range (min ps.length qs.length)).all (fun j => eqP (ps.getD j .non) (qs.getD j .non)) && ps.length == qs.length) = eqPL ps qs
  | [], [] => rfl
  | [], _ :: _ => by unfold eqPL; simp
  | _ :: _, [] => by unfold eqPL; simp
  | p :: ps, q :: qs => by
    have ih := eqPL_range (ps := ps) (qs := qs)
    unfold eqPL
    rw [← ih]
    have e : min (p :: ps).length (q :: qs).length = min ps.length qs.length + 1 := by simp only [List.length_cons]; omega
    rw [e, List.range_succ_eq_map, List.all_cons, List.all_map]
    have e2 : ((p :: ps).length == (q :: qs).length) = (ps.length == qs.length) := by
      rw [Bool.eq_iff_iff]; simp
    rw [e2, Bool.and_assoc]
    rfl
section
variable {A : Around} {s : Shared}
theorem toArr {vs : List Value} {j : Nat} (h : j < vs.toArray.size) : vs[j]? = some (vs.toArray[j]) := by simp at h ⊢
theorem eqAt_P : ∀ (n : Nat) (A : Around) {p q : PV} {v u : Value}, A.units + n < cLine → okP n p = true → okP n q = true → Lies s.heap p v → Lies s.heap q u → SeqAt.EqAt A s v u (eqP p q) := by
  intro n
  induction n with
  | zero =>
    intro A p q v u hu o1 o2 h1 h2
    cases h1 with
    | tup _ _ => cases o1
    | lst _ _ => cases o1
    | non =>
      cases h2 with
      | tup _ _ => cases o2
      | lst _ _ => cases o2
      | non => exact .same _
      | bl b => exact .none_bool b
      | int b t => exact .none_int b t
      | str b t => exact .none_str b t
    | bl a =>
      cases h2 with
      | tup _ _ => cases o2
      | lst _ _ => cases o2
      | non => exact .bool_none a
      | bl b => exact .bool_bool a b
      | int b t => exact .bool_int a b t
      | str b t => exact .bool_str a b t
    | int a t' =>
      cases h2 with
      | tup _ _ => cases o2
      | lst _ _ => cases o2
      | non => exact .int_none a t'
      | bl b => exact .int_bool a t' b
      | int b t => exact .int_int a t' b t
      | str b t => exact .int_str a t' b t
    | str a t' =>
      cases h2 with
      | tup _ _ => cases o2
      | lst _ _ => cases o2
      | non => exact .str_none a t'
      | bl b => exact .str_bool a t' b
      | int b t => exact .str_int a t' b t
      | str b t => exact .str_str a t' b t
  | succ n ih =>
    intro A p q v u hu o1 o2 h1 h2
    have hu0 : A.units < cLine := by omega
    have hin : A.in1.units = A.units + 1 := rfl
    have els : ∀ {ps qs : List PV} {vs us : List Value}, ps.all (okP n) = true → qs.all (okP n) = true → LiesL s.heap ps vs → LiesL s.heap qs us → ∀ (j : Nat) (g1 : j < vs.toArray.size) (g2 : j < us.toArray.size), SeqAt.EqAt A.in1 s vs.toArray[j] us.toArray[j] (eqP (ps.getD j .non) (qs.getD j .non)) := fun {ps qs vs us} a1 a2 l1 l2 j g1 g2 => by
      obtain ⟨x, ex, rx⟩ := l1.get (toArr g1)
      obtain ⟨y, ey, ry⟩ := l2.get (toArr g2)
      rw [List.getD_eq_getElem?_getD, List.getD_eq_getElem?_getD, ex, ey]
      exact ih A.in1 (by omega) (List.all_eq_true.mp a1 _ (List.mem_of_getElem? ex)) (List.all_eq_true.mp a2 _ (List.mem_of_getElem? ey)) rx ry
    cases h1 with
    | tup ht r =>
      cases h2 with
      | tup ht' r' =>
        rename_i a its ps a' its' ps'
        by_cases hab : a = a'
        · subst hab
          rw [Lies.same (.tup ht r) (.tup ht' r')]
          exact .same _
        · refine .of_refs hab ?_
          have e : eqP (.tup ps) (.tup ps') = ((List.range (min its.toArray.size its'.toArray.size)).all (fun j => eqP (ps.getD j .non) (ps'.getD j .non)) && its.toArray.size == its'.toArray.size) := by
            rw [eqP_tup, ← eqPL_range, r.length, r'.length, List.size_toArray, List.size_toArray]
          rw [e]
          exact SeqAt.RcAt.tuples (e := fun j => eqP (ps.getD j .non) (ps'.getD j .non)) ht ht' hu0 (els o1 o2 r r')
      | lst hl r' => exact .tuple_list ht hl hu0
      | non => exact .tuple_none ht hu0
      | bl b => exact .tuple_bool b ht hu0
      | int b t => exact .tuple_int b t ht hu0
      | str b t => exact .tuple_str b t ht hu0
    | lst ht r =>
      cases h2 with
      | tup ht' r' => exact .list_tuple ht ht' hu0
      | lst ht' r' =>
        rename_i a its ps a' its' ps'
        by_cases hab : a = a'
        · subst hab
          rw [Lies.same (.lst ht r) (.lst ht' r')]
          exact .same _
        · refine .of_refs hab ?_
          by_cases hsz : its.length = its'.length
          · have e : eqP (.lst ps) (.lst ps') = (List.range its.toArray.size).all (fun j => eqP (ps.getD j .non) (ps'.getD j .non)) := by
              rw [eqP_lst, ← eqPL_range, r.length, r'.length, List.size_toArray, ← hsz, Nat.min_self, beq_self_eq_true, Bool.and_true]
            rw [e]
            exact SeqAt.RcAt.lists (e := fun j => eqP (ps.getD j .non) (ps'.getD j .non)) ht ht' (by simp [hsz]) hu0 (els o1 o2 r r')
          · have e : eqP (.lst ps) (.lst ps') = false := by
              rw [eqP_lst, ← eqPL_range, r.length, r'.length, show (its.length == its'.length) = false by simp [hsz], Bool.and_false]
            rw [e]
            exact SeqAt.RcAt.lists_lengths ht ht' (by simp [hsz]) hu0
      | non => exact .list_none ht hu0
      | bl b => exact .list_bool b ht hu0
      | int b t => exact .list_int b t ht hu0
      | str b t => exact .list_str b t ht hu0
    | non =>
      cases h2 with
      | tup ht' r' => exact .none_tuple ht' hu0
      | lst hl r' => exact .none_list hl hu0
      | non => exact .same _
      | bl b => exact .none_bool b
      | int b t => exact .none_int b t
      | str b t => exact .none_str b t
    | bl a =>
      cases h2 with
      | tup ht' r' => exact .bool_tuple a ht' hu0
      | lst hl r' => exact .bool_list a hl hu0
      | non => exact .bool_none a
      | bl b => exact .bool_bool a b
      | int b t => exact .bool_int a b t
      | str b t => exact .bool_str a b t
    | int a t' =>
      cases h2 with
      | tup ht' r' => exact .int_tuple a t' ht' hu0
      | lst hl r' => exact .int_list a t' hl hu0
      | non => exact .int_none a t'
      | bl b => exact .int_bool a t' b
      | int b t => exact .int_int a t' b t
      | str b t => exact .int_str a t' b t
    | str a t' =>
      cases h2 with
      | tup ht' r' => exact .str_tuple a t' ht' hu0
      | lst hl r' => exact .str_list a t' hl hu0
      | non => exact .str_none a t'
      | bl b => exact .str_bool a t' b
      | int b t => exact .str_int a t' b t
      | str b t => exact .str_str a t' b t
theorem rcAt_P {n : Nat} {A : Around} {p q : PV} {v u : Value} (hu : A.units + (n + 1) < cLine) (o1 : okP (n + 1) p = true) (o2 : okP (n + 1) q = true) (h1 : Lies s.heap p v) (h2 : Lies s.heap q u) : SeqAt.RcAt A s v u (eqP p q) ∧ SeqAt.RcNeAt A s v u (!eqP p q) := by
  have hu0 : A.units < cLine := by omega
  have hin : A.in1.units = A.units + 1 := rfl
  have els : ∀ {ps qs : List PV} {vs us : List Value}, ps.all (okP n) = true → qs.all (okP n) = true → LiesL s.heap ps vs → LiesL s.heap qs us → ∀ (j : Nat) (g1 : j < vs.toArray.size) (g2 : j < us.toArray.size), SeqAt.EqAt A.in1 s vs.toArray[j] us.toArray[j] (eqP (ps.getD j .non) (qs.getD j .non)) := fun {ps qs vs us} a1 a2 l1 l2 j g1 g2 => by
    obtain ⟨x, ex, rx⟩ := l1.get (toArr g1)
    obtain ⟨y, ey, ry⟩ := l2.get (toArr g2)
    rw [List.getD_eq_getElem?_getD, List.getD_eq_getElem?_getD, ex, ey]
    exact eqAt_P n A.in1 (by omega) (List.all_eq_true.mp a1 _ (List.mem_of_getElem? ex)) (List.all_eq_true.mp a2 _ (List.mem_of_getElem? ey)) rx ry
  cases h1 with
  | tup ht r =>
    cases h2 with
    | tup ht' r' =>
      rename_i a its ps a' its' ps'
      have e : eqP (.tup ps) (.tup ps') = ((List.range (min its.toArray.size its'.toArray.size)).all (fun j => eqP (ps.getD j .non) (ps'.getD j .non)) && its.toArray.size == its'.toArray.size) := by
        rw [eqP_tup, ← eqPL_range, r.length, r'.length, List.size_toArray, List.size_toArray]
      rw [e]
      exact ⟨SeqAt.RcAt.tuples (e := fun j => eqP (ps.getD j .non) (ps'.getD j .non)) ht ht' hu0 (els o1 o2 r r'), SeqAt.RcNeAt.tuples (e := fun j => eqP (ps.getD j .non) (ps'.getD j .non)) ht ht' hu0 (els o1 o2 r r')⟩
    | lst hl r' => exact ⟨.tuple_list ht hl hu0, .tuple_list ht hl hu0⟩
    | non => exact ⟨.tuple_none ht hu0, .tuple_none ht hu0⟩
    | bl b => exact ⟨.tuple_bool b ht hu0, .tuple_bool b ht hu0⟩
    | int b t => exact ⟨.tuple_int b t ht hu0, .tuple_int b t ht hu0⟩
    | str b t => exact ⟨.tuple_str b t ht hu0, .tuple_str b t ht hu0⟩
  | lst ht r =>
    cases h2 with
    | tup ht' r' => exact ⟨.list_tuple ht ht' hu0, .list_tuple ht ht' hu0⟩
    | lst ht' r' =>
      rename_i a its ps a' its' ps'
      by_cases hsz : its.length = its'.length
      · have e : eqP (.lst ps) (.lst ps') = (List.range its.toArray.size).all (fun j => eqP (ps.getD j .non) (ps'.getD j .non)) := by
          rw [eqP_lst, ← eqPL_range, r.length, r'.length, List.size_toArray, ← hsz, Nat.min_self, beq_self_eq_true, Bool.and_true]
        rw [e]
        exact ⟨SeqAt.RcAt.lists (e := fun j => eqP (ps.getD j .non) (ps'.getD j .non)) ht ht' (by simp [hsz]) hu0 (els o1 o2 r r'), SeqAt.RcNeAt.lists (e := fun j => eqP (ps.getD j .non) (ps'.getD j .non)) ht ht' (by simp [hsz]) hu0 (els o1 o2 r r')⟩
      · have e : eqP (.lst ps) (.lst ps') = false := by
          rw [eqP_lst, ← eqPL_range, r.length, r'.length, show (its.length == its'.length) = false by simp [hsz], Bool.and_false]
        rw [e]
        exact ⟨SeqAt.RcAt.lists_lengths ht ht' (by simp [hsz]) hu0, SeqAt.RcNeAt.lists_lengths ht ht' (by simp [hsz]) hu0⟩
    | non => exact ⟨.list_none ht hu0, .list_none ht hu0⟩
    | bl b => exact ⟨.list_bool b ht hu0, .list_bool b ht hu0⟩
    | int b t => exact ⟨.list_int b t ht hu0, .list_int b t ht hu0⟩
    | str b t => exact ⟨.list_str b t ht hu0, .list_str b t ht hu0⟩
  | non =>
    cases h2 with
    | tup ht' r' => exact ⟨.none_tuple ht' hu0, .none_tuple ht' hu0⟩
    | lst hl r' => exact ⟨.none_list hl hu0, .none_list hl hu0⟩
    | non => exact ⟨.none_none, .none_none⟩
    | bl b => exact ⟨.none_bool b, .none_bool b⟩
    | int b t => exact ⟨.none_int b t, .none_int b t⟩
    | str b t => exact ⟨.none_str b t, .none_str b t⟩
  | bl a =>
    cases h2 with
    | tup ht' r' => exact ⟨.bool_tuple a ht' hu0, .bool_tuple a ht' hu0⟩
    | lst hl r' => exact ⟨.bool_list a hl hu0, .bool_list a hl hu0⟩
    | non => exact ⟨.bool_none a, .bool_none a⟩
    | bl b => exact ⟨.bool_bool a b, .bool_bool a b⟩
    | int b t => exact ⟨.bool_int a b t, .bool_int a b t⟩
    | str b t => exact ⟨.bool_str a b t, .bool_str a b t⟩
  | int a t' =>
    cases h2 with
    | tup ht' r' => exact ⟨.int_tuple a t' ht' hu0, .int_tuple a t' ht' hu0⟩
    | lst hl r' => exact ⟨.int_list a t' hl hu0, .int_list a t' hl hu0⟩
    | non => exact ⟨.int_none a t', .int_none a t'⟩
    | bl b => exact ⟨.int_bool a t' b, .int_bool a t' b⟩
    | int b t => exact ⟨.int_int a t' b t, .int_int a t' b t⟩
    | str b t => exact ⟨.int_str a t' b t, .int_str a t' b t⟩
  | str a t' =>
    cases h2 with
    | tup ht' r' => exact ⟨.str_tuple a t' ht' hu0, .str_tuple a t' ht' hu0⟩
    | lst hl r' => exact ⟨.str_list a t' hl hu0, .str_list a t' hl hu0⟩
    | non => exact ⟨.str_none a t', .str_none a t'⟩
    | bl b => exact ⟨.str_bool a t' b, .str_bool a t' b⟩
    | int b t => exact ⟨.str_int a t' b t, .str_int a t' b t⟩
    | str b t => exact ⟨.str_str a t' b t, .str_str a t' b t⟩
end
noncomputable def rEqP (K : PySem.W.Frag) (neg : Bool) : R2 := fun x y H Q => ∃ p q, Red K noA H p x ∧ Red K noA H q y ∧ okP 9 p = true ∧ okP 9 q = true ∧ Q (.bl (if neg then !eqP p q else eqP p q)) H
noncomputable def itemsP : PV → Option (List PV)
  | .lst ps => some ps
  | .tup ps => some ps
  | _ => none
noncomputable def rInP (K : PySem.W.Frag) (neg : Bool) : R2 := fun x y H Q => ∃ p q ps, Red K noA H p x ∧ Red K noA H q y ∧ itemsP q = some ps ∧ okP 8 p = true ∧ ps.all (okP 8) = true ∧ Q (.bl (if neg then !ps.any (fun z => eqP z p) else ps.any fun z => eqP z p)) H
section
variable {X : Cx} {k : Nat}
theorem eqPX (K : PySem.W.Frag) (hr : Room k X.A) (hK : X.K = K := by rfl) : OpR X (compareOp .Eq) (rEqP K false) := by
  subst hK
  intro pins s σ H x y v u Q I rx ry h
  obtain ⟨p, q, h1, h2, o1, o2, hQ⟩ := h
  exact (rcAt_P (n := 8) (by have := hr.un; omega) o1 o2 (h1.lies I o1 rx) (h2.lies I o2 ry)).1 _ _ _ _ (fin_bl I hQ rfl)
theorem nePX (K : PySem.W.Frag) (hr : Room k X.A) (hK : X.K = K := by rfl) : OpR X (compareOp .NotEq) (rEqP K true) := by
  subst hK
  intro pins s σ H x y v u Q I rx ry h
  obtain ⟨p, q, h1, h2, o1, o2, hQ⟩ := h
  exact (rcAt_P (n := 8) (by have := hr.un; omega) o1 o2 (h1.lies I o1 rx) (h2.lies I o2 ry)).2 _ _ _ _ (fin_bl I hQ rfl)
theorem LiesL.any {h : Heap} {e : Value → Bool} {f : PV → Bool} (he : ∀ {q : PV} {y : Value}, Lies h q y → e y = f q) : ∀ {ps : List PV} {its : List Value}, LiesL h ps its → its.any e = ps.any f
  | _, _, .nil => rfl
  | _, _, .cons h r => by rw [List.any_cons, List.any_cons, he h, LiesL.any he r]
theorem in_any {s : Shared} {A : Around} {p : PV} {u : Value} (hu : A.units + 8 < cLine) (op : okP 8 p = true) (hp : Lies s.heap p u) {ps : List PV} {its : List Value} (ops : ps.all (okP 8) = true) (hl : LiesL s.heap ps its) :
    ∃ e : Value → Bool, (∀ y, y ∈ its.toArray → SeqAt.EqAt A s y u (e y)) ∧ its.toArray.any e = ps.any fun z => eqP z p := by
  classical
  let e : Value → Bool := fun y => if c : ∃ q, Lies s.heap q y then eqP c.choose p else false
  have he : ∀ {q : PV} {y : Value}, Lies s.heap q y → e y = eqP q p := fun {q y} h => by
    have c : ∃ q, Lies s.heap q y := ⟨q, h⟩
    show (if c : ∃ q, Lies s.heap q y then eqP c.choose p else false) = _
    rw [dif_pos c, Lies.fn c.choose_spec h]
  refine ⟨e, fun y hy => ?_, ?_⟩
  · obtain ⟨j, hj⟩ := List.getElem?_of_mem (show y ∈ its by simpa using hy)
    obtain ⟨q, h1, h2⟩ := hl.get hj
    rw [he h2]
    exact eqAt_P 8 A hu (List.all_eq_true.mp ops _ (List.mem_of_getElem? h1)) op h2 hp
  · rw [List.any_toArray]
    exact LiesL.any (fun h => he h) hl
theorem inPX (K : PySem.W.Frag) (hr : Room k X.A) (hK : X.K = K := by rfl) : OpR X (compareOp .In) (rInP K false) := by
  subst hK
  intro pins s σ H x y v u Q I rx ry h
  obtain ⟨p, q, ps, h1, h2, hi, o1, o2, hQ⟩ := h
  have hu : X.A.in1.units + 8 < cLine := by have := hr.un; show X.A.units + 1 + 8 < _; omega
  have lp := h1.lies I o1 rx
  cases q with
  | lst qs =>
    cases hi
    cases h2.lies I (n := 9) (p := .lst _) o2 ry with
    | lst hl r =>
      obtain ⟨e, e1, e2⟩ := in_any hu o1 lp o2 r
      exact SeqAt.in_listAt e hl e1 (by rw [e2]; exact fin_bl I hQ rfl)
  | tup qs =>
    cases hi
    cases h2.lies I (n := 9) (p := .tup _) o2 ry with
    | tup hl r =>
      obtain ⟨e, e1, e2⟩ := in_any hu o1 lp o2 r
      exact SeqAt.in_tupleAt e hl e1 (by rw [e2]; exact fin_bl I hQ rfl)
  | _ => cases hi
theorem notInPX (K : PySem.W.Frag) (hr : Room k X.A) (hK : X.K = K := by rfl) : OpR X (compareOp .NotIn) (rInP K true) := by
  subst hK
  intro pins s σ H x y v u Q I rx ry h
  obtain ⟨p, q, ps, h1, h2, hi, o1, o2, hQ⟩ := h
  have hu : X.A.in1.units + 8 < cLine := by have := hr.un; show X.A.units + 1 + 8 < _; omega
  have lp := h1.lies I o1 rx
  cases q with
  | lst qs =>
    cases hi
    cases h2.lies I (n := 9) (p := .lst _) o2 ry with
    | lst hl r =>
      obtain ⟨e, e1, e2⟩ := in_any hu o1 lp o2 r
      exact SeqAt.notIn_listAt e hl e1 (by rw [e2]; exact fin_bl I hQ rfl)
  | tup qs =>
    cases hi
    cases h2.lies I (n := 9) (p := .tup _) o2 ry with
    | tup hl r =>
      obtain ⟨e, e1, e2⟩ := in_any hu o1 lp o2 r
      exact SeqAt.notIn_tupleAt e hl e1 (by rw [e2]; exact fin_bl I hQ rfl)
  | _ => cases hi
end
end Mr
set_option Elab.async false
set_option linter.all false
set_option maxRecDepth 100000
set_option maxHeartbeats 4000000
namespace Mr
open PySem PySem.Spec L2 PyProof.Rows
section
variable {K : PySem.W.Frag}
theorem OpOk.or {r r' : R2} {g g' : PV → PV → Option Bv} (h : OpOk K r g) (h' : OpOk K r' g') : OpOk K (fun x y H Q => r x y H Q ∨ r' x y H Q) (fun p q => (g p q).or (g' p q)) := by
  intro Z H x y p q b Q hp hq hg k
  have hg : (g p q).or (g' p q) = some b := hg
  cases c : g p q with
  | some b' => rw [c] at hg; cases hg; exact .inl (h Z H x y p q _ Q hp hq c k)
  | none => rw [c] at hg; exact .inr (h' Z H x y p q b Q hp hq hg k)
theorem CbOk.or {r r' : List V → Hp → VK → Prop} {g g' : List PV → Option Bv} (h : CbOk K r g) (h' : CbOk K r' g') : CbOk K (fun x H Q => r x H Q ∨ r' x H Q) (fun p => (g p).or (g' p)) := by
  intro Z H x p b Q hp hg k
  have hg : (g p).or (g' p) = some b := hg
  cases c : g p with
  | some b' => rw [c] at hg; cases hg; exact .inl (h Z H x p _ Q hp c k)
  | none => rw [c] at hg; exact .inr (h' Z H x p b Q hp hg k)
theorem SlOk.or {r r' : V → Option Int → Option Int → Hp → VK → Prop} {g g' : PV → Option Int → Option Int → Option Bv} (h : SlOk K r g) (h' : SlOk K r' g') : SlOk K (fun x l u H Q => r x l u H Q ∨ r' x l u H Q) (fun p l u => (g p l u).or (g' p l u)) := by
  intro Z H x p lo hi b Q hp hg k
  have hg : (g p lo hi).or (g' p lo hi) = some b := hg
  cases c : g p lo hi with
  | some b' => rw [c] at hg; cases hg; exact .inl (h Z H x p lo hi _ Q hp c k)
  | none => rw [c] at hg; exact .inr (h' Z H x p lo hi b Q hp hg k)
noncomputable def gI (C : Int → Int → Bool) (g : Int → Int → PV) : PV → PV → Option Bv
  | .int i, .int j => guardP (C i j) (some (.val (g i j)))
  | _, _ => none
theorem ok_I {C : Int → Int → Prop} {D : Int → Int → Bool} {g : Int → Int → V} {g' : Int → Int → PV} (hD : ∀ i j, D i j = true → C i j) (hg : ∀ i j Z H, Rep K Z H (g' i j) (g i j)) : OpOk K (rI C g) (gI D g') := by
  intro Z H x y p q b Q hp hq h k
  cases p with
  | int i =>
    cases q with
    | int j =>
      obtain ⟨c, h⟩ := guardP_some h
      cases h
      exact ⟨i, j, hp.int, hq.int, hD i j c, k _ H (Same.refl _) (hg i j Z H)⟩
    | _ => cases h
  | _ => cases h
noncomputable def gI0 (g : Int → Int → PV) : PV → PV → Option Bv
  | .int i, .int j => some (.val (g i j))
  | _, _ => none
theorem ok_I0 {g : Int → Int → V} {g' : Int → Int → PV} (hg : ∀ i j Z H, Rep K Z H (g' i j) (g i j)) : OpOk K (rI0 g) (gI0 g') := by
  intro Z H x y p q b Q hp hq h k
  cases p with
  | int i =>
    cases q with
    | int j => cases h; exact ⟨i, j, hp.int, hq.int, k _ H (Same.refl _) (hg i j Z H)⟩
    | _ => cases h
  | _ => cases h
noncomputable def gSub : PV → PV → Option Bv := gI0 fun i j => .int (i - j)
theorem ok_sub : OpOk K (rI0 fun i j => .int (i - j)) gSub := ok_I0 fun _ _ _ _ => .int _
noncomputable def mulOk (i j : Int) : Bool := decide ((-18446744073709551616 < i ∧ i < 18446744073709551616) ∨ (-18446744073709551616 < j ∧ j < 18446744073709551616))
noncomputable def gMul : PV → PV → Option Bv := gI mulOk fun i j => .int (i * j)
theorem ok_mul : OpOk K (rI CMul fun i j => .int (i * j)) gMul := ok_I (fun i j h => by have := of_decide_eq_true h; show (-(2 ^ 64) < i ∧ i < 2 ^ 64) ∨ (-(2 ^ 64) < j ∧ j < 2 ^ 64); omega) fun _ _ _ _ => .int _
noncomputable def gDiv : PV → PV → Option Bv := gI (fun _ j => decide (0 < j ∧ j < 1000000000000000000000000)) fun i j => .int (i / j)
theorem ok_div : OpOk K (rI CDivB fun i j => .int (i / j)) gDiv := ok_I (fun i j h => by have := of_decide_eq_true h; show 0 < j ∧ j < 2 ^ 200; omega) fun _ _ _ _ => .int _
noncomputable def gMod : PV → PV → Option Bv := gI (fun _ j => decide (0 < j)) fun i j => .int (i % j)
theorem ok_mod : OpOk K (rI (fun _ j => 0 < j) fun i j => .int (i % j)) gMod := ok_I (fun _ _ h => of_decide_eq_true h) fun _ _ _ _ => .int _
noncomputable def gPow : PV → PV → Option Bv := gI (fun i j => decide (0 ≤ j ∧ (Builtin.Int.intBits i : Int) * j ≤ 2 ^ 27)) fun i j => .int (i ^ j.toNat)
theorem ok_pow : OpOk K (rI (fun i j => 0 ≤ j ∧ (Builtin.Int.intBits i : Int) * j ≤ 2 ^ 27) fun i j => .int (i ^ j.toNat)) gPow := ok_I (fun _ _ h => of_decide_eq_true h) fun _ _ _ _ => .int _
noncomputable def gNeg : PV → Option Bv
  | .int i => some (.val (.int (-i)))
  | _ => none
noncomputable def gAddS : PV → PV → Option Bv
  | .str i, .str j => guardP (decide (i.length + j.length < 1000000)) (some (.val (.str (i ++ j))))
  | _, _ => none
theorem ok_addS : OpOk K (fun x y H Q => ∃ i j, x = .str i ∧ y = .str j ∧ i.length + j.length ≤ sizeLine ∧ Q (.str (i ++ j)) H) gAddS := by
  intro Z H x y p q b Q hp hq h k
  cases p with
  | str i =>
    cases q with
    | str j =>
      obtain ⟨c, h⟩ := guardP_some h
      cases h
      exact ⟨i, j, hp.str, hq.str, Nat.le_of_lt (smallP c), k _ H (Same.refl _) (Rep.str (i ++ j))⟩
    | _ => cases h
  | _ => cases h
noncomputable def rCatL (K : PySem.W.Frag) : R2 := fun x y H Q => ∃ a b xs ys, x = .ref a ∧ y = .ref b ∧ SqL K H a xs ∧ SqL K H b ys ∧ xs.length + ys.length ≤ sizeLine ∧ ∀ p, H p = none → Q (.ref p) (upd H p (.lst (xs ++ ys)))
theorem catL {X : Cx} (K : PySem.W.Frag) (hK : X.K = K := by rfl) : OpR X (binaryOp .Add) (rCatL K) := by
  subst hK
  intro pins s σ H x y v u Q I rx ry h
  obtain ⟨a, b, xs, ys, rfl, rfl, ha, hb, hz, q⟩ := h
  cases rx
  cases ry
  obtain ⟨its, r1, p1, _⟩ := I.list ha
  obtain ⟨its2, r2, p2, _⟩ := I.list hb
  obtain ⟨⟨cls, dd, data, sl⟩, ho, hc, n, hd⟩ := id p1.isList
  obtain ⟨⟨cls2, dd2, data2, sl2⟩, ho2, hc2, n2, hd2⟩ := id p2.isList
  simp only at hc hd hc2 hd2
  subst hc hd hc2 hd2
  have l1 := r1.length
  have l2 := r2.length
  have e : its.toArray ++ its2.toArray = (its ++ its2).toArray := by simp
  refine concat_meets ⟨_, ho, rfl⟩ ⟨_, ho2, rfl⟩ noFill_list_add seq_list_add PySem.F.slot_list_add PySem.F.entry_list_add (PySem.F.args_list_add_2 _ _) (list_addW a b its.toArray its2.toArray n n2 dd dd2 sl sl2 (by simp only [List.size_toArray]; omega)) ⟨ho, ho2, ?_⟩
  rw [e]
  exact ⟨.ref s.heap.objs.size, _, I.laid (t' := s.toks) (o := .lst (xs ++ ys)) (fun b ob q => Heap.get?_push_of_some _ q) (Nat.le_refl _) ⟨by rw [List.length_append]; exact hz, its ++ its2, 0, r1.append r2, Heap.get?_push_size _ rfl⟩, rfl, q _ (I.hok.fresh (Nat.le_refl _))⟩
noncomputable def gAddL : PV → PV → Option Bv
  | .lst i, .lst j => guardP (decide (i.length + j.length < 1000000)) (some (.new (.lst (i ++ j))))
  | _, _ => none
theorem newL {Z : ASet} {H : Hp} {a : Addr} {ps : List PV} {xs : List V} (hl : H a = none) (r : RepL K Z H ps xs) : RN K Z H (upd H a (.lst xs)) (.ref a) (.new (.lst ps)) :=
  ⟨a, rfl, hl, .lst upd_same (r.stay (.new (Same.upd hl) hl))⟩
theorem ok_addL : OpOk K (rCatL K) gAddL := by
  intro Z H x y p q b Q hp hq h k
  cases p with
  | lst i =>
    cases q with
    | lst j =>
      obtain ⟨c, h⟩ := guardP_some h
      cases h
      obtain ⟨a, xs, rfl, ha, ra⟩ := hp.lsts
      obtain ⟨a', ys, rfl, ha', ra'⟩ := hq.lsts
      exact ⟨a, a', xs, ys, rfl, rfl, ha.sq, ha'.sq, by rw [← ra.length, ← ra'.length]; exact Nat.le_of_lt (smallP c), fun l hl => k _ _ (Same.upd hl) (newL hl (ra.app ra'))⟩
    | _ => cases h
  | _ => cases h
noncomputable def rCatX (K : PySem.W.Frag) : R2 := fun x y H Q => ∃ a b xs ys, x = .ref a ∧ y = .ref b ∧ TupAt K H a xs ∧ TupAt K H b ys ∧ xs.length + ys.length ≤ sizeLine ∧ ∀ p H', Same H H' → TupAt K H' p (xs ++ ys) → Q (.ref p) H'
theorem catX {X : Cx} (K : PySem.W.Frag) (hK : X.K = K := by rfl) : OpR X (binaryOp .Add) (rCatX K) := by
  subst hK
  intro pins s σ H x y v u Q I rx ry h
  obtain ⟨a, b, xs, ys, rfl, rfl, ha, hb, hz, q⟩ := h
  cases rx
  cases ry
  obtain ⟨its, r1, p1, _⟩ := I.tuple ha.sq
  obtain ⟨its2, r2, p2, _⟩ := I.tuple hb.sq
  refine HT.cat_any p1 p2 (fun z => ⟨.ref b, H, I, rfl, q b H (Same.refl _) (by rw [r1.nil_iff.mp z]; exact hb)⟩) (fun z => ⟨.ref a, H, I, rfl, q a H (Same.refl _) (by rw [r2.nil_iff.mp z, List.append_nil]; exact ha)⟩) (fun _ _ => ?_) (by rw [← r1.length, ← r2.length]; exact hz)
  refine ⟨.ref s.heap.objs.size, _, I.laid (t' := s.toks) (o := .tup (xs ++ ys)) (fun b ob q => Heap.get?_push_of_some _ q) (Nat.le_refl _) ?_, rfl, q _ _ (Same.upd (I.hok.fresh (Nat.le_refl _))) (.inl upd_same)⟩
  exact ⟨by rw [List.length_append]; exact hz, _, r1.append r2, IsTup.new _ _⟩
noncomputable def gAddT : PV → PV → Option Bv
  | .tup i, .tup j => guardP (decide (i.length + j.length < 1000000)) (some (.val (.tup (i ++ j))))
  | _, _ => none
theorem ok_addT : OpOk K (rCatX K) gAddT := by
  intro Z H x y p q b Q hp hq h k
  cases p with
  | tup i =>
    cases q with
    | tup j =>
      obtain ⟨c, h⟩ := guardP_some h
      cases h
      obtain ⟨a, xs, rfl, ha, ra⟩ := hp.tup
      obtain ⟨a', ys, rfl, ha', ra'⟩ := hq.tup
      exact ⟨a, a', xs, ys, rfl, rfl, ha, ha', by rw [← ra.length, ← ra'.length]; exact Nat.le_of_lt (smallP c), fun l H' s t => k _ _ s (Rep.tup t ((ra.app ra').stay (.same s)))⟩
    | _ => cases h
  | _ => cases h
theorem OpR.or {X : Cx} {f : Value → Value → Sem Value} {r r' : R2} (h : OpR X f r) (h' : OpR X f r') : OpR X f (fun x y H Q => r x y H Q ∨ r' x y H Q) := by
  intro pins s σ H x y v u Q I rx ry q
  rcases q with q | q
  · exact h pins s σ H x y v u Q I rx ry q
  · exact h' pins s σ H x y v u Q I rx ry q
noncomputable def rAddX (K : PySem.W.Frag) : R2 := fun x y H Q => rI0 (fun i j => .int (i + j)) x y H Q ∨ ((∃ i j, x = .str i ∧ y = .str j ∧ i.length + j.length ≤ sizeLine ∧ Q (.str (i ++ j)) H) ∨ (rCatL K x y H Q ∨ rCatX K x y H Q))
theorem addX {X : Cx} (K : PySem.W.Frag) (hK : X.K = K := by rfl) : OpR X (binaryOp .Add) (rAddX K) := OpR.or op_add (OpR.or op_add_str (OpR.or (catL K hK) (catX K hK)))
noncomputable def gAdd : PV → PV → Option Bv := fun p q => (gI0 (fun i j => .int (i + j)) p q).or ((gAddS p q).or ((gAddL p q).or (gAddT p q)))
theorem ok_add : OpOk K (rAddX K) gAdd := OpOk.or (ok_I0 fun _ _ _ _ => .int _) (OpOk.or ok_addS (OpOk.or ok_addL ok_addT))
noncomputable def gEq : PV → PV → Option Bv := fun p q => guardP (okP 9 p && okP 9 q) (some (.val (.bl (eqP p q))))
theorem Red.any {Z : ASet} {H : Hp} {p : PV} {v : V} (h : Red K Z H p v) : Red K noA H p v := by
  have k : Stay Z noA H H := .less fun a z => z.elim
  cases h with
  | rep h => exact .rep (h.stay k)
  | lst h r => exact .lst h (r.stay k)
  | dct h e r => exact .dct h e (r.stay k)
theorem ok_eq : OpOk K (rEqP K false) gEq := by
  intro Z H x y p q b Q hp hq h k
  obtain ⟨c, h⟩ := guardP_some h
  rw [Bool.and_eq_true] at c
  cases h
  exact ⟨p, q, hp.any, hq.any, c.1, c.2, k _ H (Same.refl _) (Rep.bl _)⟩
noncomputable def gNe : PV → PV → Option Bv := fun p q => guardP (okP 9 p && okP 9 q) (some (.val (.bl (!eqP p q))))
theorem ok_ne : OpOk K (rEqP K true) gNe := by
  intro Z H x y p q b Q hp hq h k
  obtain ⟨c, h⟩ := guardP_some h
  rw [Bool.and_eq_true] at c
  cases h
  exact ⟨p, q, hp.any, hq.any, c.1, c.2, k _ H (Same.refl _) (Rep.bl _)⟩
noncomputable def gInL (neg : Bool) : PV → PV → Option Bv := fun p q => bO (itemsP q) fun ps => guardP (okP 8 p && ps.all (okP 8)) (some (.val (.bl (if neg then !ps.any (fun z => eqP z p) else ps.any fun z => eqP z p))))
theorem ok_inL (neg : Bool) : OpOk K (rInP K neg) (gInL neg) := by
  intro Z H x y p q b Q hp hq h k
  obtain ⟨ps, g, h⟩ := bO_some h
  obtain ⟨c, h⟩ := guardP_some h
  rw [Bool.and_eq_true] at c
  cases h
  exact ⟨p, q, ps, hp.any, hq.any, g, c.1, c.2, k _ H (Same.refl _) (Rep.bl _)⟩
noncomputable def gInS (neg : Bool) : PV → PV → Option Bv
  | .str i, .str j => some (.val (.bl (if neg then !(!(Builtin.Str.occurrences j i 0 j.length 1).isEmpty) else !(Builtin.Str.occurrences j i 0 j.length 1).isEmpty)))
  | _, _ => none
noncomputable def rInS (neg : Bool) : R2 := fun x y H Q => ∃ i j, x = .str i ∧ y = .str j ∧ Q (.bl (if neg then !(!(Builtin.Str.occurrences j i 0 j.length 1).isEmpty) else !(Builtin.Str.occurrences j i 0 j.length 1).isEmpty)) H
theorem ok_inS (neg : Bool) : OpOk K (rInS neg) (gInS neg) := by
  intro Z H x y p q b Q hp hq h k
  cases p with
  | str i =>
    cases q with
    | str j => cases h; exact ⟨i, j, hp.str, hq.str, k _ H (Same.refl _) (Rep.bl _)⟩
    | _ => cases h
  | _ => cases h
noncomputable def gInD (neg : Bool) : PV → PV → Option Bv
  | p, .dct kvs => bO (keyOf p) fun k => some (.val (.bl (if neg then !(valP kvs k).isSome else (valP kvs k).isSome)))
  | _, _ => none
noncomputable def rInD (neg : Bool) : R2 := fun x y H Q => ∃ a kvs k, y = .ref a ∧ RdK H a kvs ∧ x = kV k ∧ Q (.bl (if neg then !(valV kvs k).isSome else (valV kvs k).isSome)) H
theorem inD {X : Cx} {k : Nat} (hr : Room k X.A) : OpR X (compareOp .In) (rInD false) := by
  intro pins s σ H x y v u Q I rx ry h
  obtain ⟨a, kvs, key, rfl, ha, rfl, q⟩ := h
  cases ry
  exact d_in (by have := hr.un; omega) I (.inl ⟨kvs, key, ha, rfl, rfl⟩) rx fun s' I' => ⟨.bl _, H, I', rfl, q⟩
theorem notInD {X : Cx} {k : Nat} (hr : Room k X.A) : OpR X (compareOp .NotIn) (rInD true) := by
  intro pins s σ H x y v u Q I rx ry h
  obtain ⟨a, kvs, key, rfl, ha, rfl, q⟩ := h
  cases ry
  exact d_notIn (by have := hr.un; omega) I (.inl ⟨kvs, key, ha, rfl, rfl⟩) rx fun s' I' => ⟨.bl _, H, I', rfl, q⟩
theorem ok_inD (neg : Bool) : OpOk K (rInD neg) (gInD neg) := by
  intro Z H x y p q b Q hp hq h k
  cases q with
  | dct kvs =>
    obtain ⟨key, g, h⟩ := bO_some h
    cases h
    obtain ⟨a, ys, rfl, ha, e, r⟩ := hq.dcts
    refine ⟨a, ys, key, rfl, ha, hp.key g, ?_⟩
    have es : (valV ys key).isSome = (valP kvs key).isSome := by
      rcases RepD.val key ⟨e, r⟩ with ⟨h1, h2⟩ | ⟨p', v', h1, h2, _⟩
      · rw [h1, h2]
        rfl
      · rw [h1, h2]
        rfl
    rw [es]
    exact k _ H (Same.refl _) (Rep.bl _)
  | _ => cases h
noncomputable def rInX (K : PySem.W.Frag) (neg : Bool) : R2 := fun x y H Q => rInS neg x y H Q ∨ (rInP K neg x y H Q ∨ rInD neg x y H Q)
theorem inX {X : Cx} {k : Nat} (K : PySem.W.Frag) (hr : Room k X.A) (hK : X.K = K := by rfl) : OpR X (compareOp .In) (rInX K false) := OpR.or op_in_str (OpR.or (inPX K hr hK) (inD hr))
theorem notInX {X : Cx} {k : Nat} (K : PySem.W.Frag) (hr : Room k X.A) (hK : X.K = K := by rfl) : OpR X (compareOp .NotIn) (rInX K true) := OpR.or op_notin_str (OpR.or (notInPX K hr hK) (notInD hr))
noncomputable def gIn (neg : Bool) : PV → PV → Option Bv := fun p q => (gInS neg p q).or ((gInL neg p q).or (gInD neg p q))
theorem ok_in (neg : Bool) : OpOk K (rInX K neg) (gIn neg) := OpOk.or (ok_inS neg) (OpOk.or (ok_inL neg) (ok_inD neg))
noncomputable def gCmpS (f : Str → Str → Bool) : PV → PV → Option Bv
  | .str i, .str j => some (.val (.bl (f i j)))
  | _, _ => none
theorem ok_cmpS {f : Str → Str → Bool} : OpOk K (fun x y H Q => ∃ i j, x = .str i ∧ y = .str j ∧ Q (.bl (f i j)) H) (gCmpS f) := by
  intro Z H x y p q b Q hp hq h k
  cases p with
  | str i =>
    cases q with
    | str j => cases h; exact ⟨i, j, hp.str, hq.str, k _ H (Same.refl _) (Rep.bl _)⟩
    | _ => cases h
  | _ => cases h
noncomputable def rLtX : R2 := fun x y H Q => rI0 (fun i j => .bl (decide (i < j))) x y H Q ∨ ∃ i j, x = .str i ∧ y = .str j ∧ Q (.bl (decide (i.cps.toList < j.cps.toList))) H
theorem ltX {X : Cx} : OpR X (compareOp .Lt) rLtX := OpR.or op_lt op_lt_str
noncomputable def gLt : PV → PV → Option Bv := fun p q => (gI0 (fun i j => .bl (decide (i < j))) p q).or (gCmpS (fun i j => decide (i.cps.toList < j.cps.toList)) p q)
theorem ok_lt : OpOk K rLtX gLt := OpOk.or (ok_I0 fun _ _ _ _ => .bl _) ok_cmpS
noncomputable def rLeX : R2 := fun x y H Q => rI0 (fun i j => .bl (decide (i ≤ j))) x y H Q ∨ ∃ i j, x = .str i ∧ y = .str j ∧ Q (.bl (!decide (j.cps.toList < i.cps.toList))) H
theorem leX {X : Cx} : OpR X (compareOp .LtE) rLeX := OpR.or op_le op_le_str
noncomputable def gLe : PV → PV → Option Bv := fun p q => (gI0 (fun i j => .bl (decide (i ≤ j))) p q).or (gCmpS (fun i j => !decide (j.cps.toList < i.cps.toList)) p q)
theorem ok_le : OpOk K rLeX gLe := OpOk.or (ok_I0 fun _ _ _ _ => .bl _) ok_cmpS
noncomputable def gGt : PV → PV → Option Bv := gI0 fun i j => .bl (decide (j < i))
theorem ok_gt : OpOk K (rI0 fun i j => .bl (decide (j < i))) gGt := ok_I0 fun _ _ _ _ => .bl _
noncomputable def gGe : PV → PV → Option Bv := gI0 fun i j => .bl (decide (j ≤ i))
theorem ok_ge : OpOk K (rI0 fun i j => .bl (decide (j ≤ i))) gGe := ok_I0 fun _ _ _ _ => .bl _
noncomputable def isNone : PV → Bool
  | .non => true
  | _ => false
theorem Red.isNone {Z : ASet} {H : Hp} {p : PV} {v : V} (h : Red K Z H p v) : decide (v = .non) = Mr.isNone p := by
  cases h with
  | rep h => cases h <;> rfl
  | lst h r => rfl
  | dct h e r => rfl
noncomputable def gIs (neg : Bool) : PV → PV → Option Bv
  | p, .non => some (.val (.bl (if neg then !isNone p else isNone p)))
  | _, _ => none
theorem ok_is : OpOk K (fun x y H Q => y = .non ∧ Q (.bl (decide (x = .non))) H) (gIs false) := by
  intro Z H x y p q b Q hp hq h k
  cases q with
  | non => cases h; exact ⟨hq.non, by rw [hp.isNone]; exact k _ H (Same.refl _) (Rep.bl _)⟩
  | _ => cases h
theorem ok_isNot : OpOk K (fun x y H Q => y = .non ∧ Q (.bl (!decide (x = .non))) H) (gIs true) := by
  intro Z H x y p q b Q hp hq h k
  cases q with
  | non => cases h; exact ⟨hq.non, by rw [hp.isNone]; exact k _ H (Same.refl _) (Rep.bl _)⟩
  | _ => cases h
noncomputable def gIx : PV → PV → Option Bv
  | .lst ps, .int i => bO (atI ps i) fun p => some (.val p)
  | .tup ps, .int i => bO (atI ps i) fun p => some (.val p)
  | .str z, .int i => guardP (decide (z.length < 1000000)) (bO (atI z.cps.toList i) fun c => some (.val (.str ⟨#[c]⟩)))
  | .dct kvs, p => bO (keyOf p) fun k => bO (valP kvs k) fun q => some (.val q)
  | _, _ => none
theorem RepL.atI {Z : ASet} {H : Hp} {ps : List PV} {xs : List V} {i : Int} {p : PV} (r : RepL K Z H ps xs) (h : L2.atI ps i = some p) : ∃ v, L2.atI xs i = some v ∧ Rep K Z H p v := by
  unfold L2.atI at h ⊢
  rw [← r.length]
  cases c : ixN ps.length i with
  | none => rw [c] at h; cases h
  | some j => rw [c] at h; exact r.get h
noncomputable def rIxD : R2 := fun x y H Q => ∃ a kvs k v, x = .ref a ∧ RdK H a kvs ∧ y = kV k ∧ valV kvs k = some v ∧ Q v H
theorem ixD {X : Cx} {k : Nat} (hr : Room k X.A) : IxR X rIxD := by
  intro value slice pins s σ H x y v u Q I rx ry h hs
  obtain ⟨a, kvs, key, w, rfl, ha, rfl, hv, q⟩ := h
  cases rx
  have g : DGet H a (kV key) (some w) := .inl ⟨kvs, key, ha, rfl, hv.symm⟩
  have hT := dict_typeIs I g
  unfold subscriptTail
  refine wpAny_bind ?_
  rw [getitemInPython_of_ne hT.not_modules]
  refine wpAny_bind (wpAny_specialOf hT PySem.F.slot_dict_getitem.lookup ?_)
  have fin : wpAny (model X.prog X.w) X.A (subscripted slice false (.ref a) u) (fun r s₃ => wpAny (model X.prog X.w) X.A (letTemporaryGo value (.ref a) r >>= fun _ => pure r) (EP X pins σ Q) X.xe s₃) X.xe s := by
    rw [hs]
    exact wpAny_operating (wpAny_mono (d_getItem (by have := hr.un; omega) I g ry fun w' s3 I3 rw' => (⟨w, H, I3, rw', q⟩ : EP X pins σ Q w' s3)) (fun r s₃ h₃ => wpAny_bind (wpAny_letTemporaryGo (wpAny_pure h₃))) fun _ _ x => x)
  first
    | exact wpAny_pure (wpAny_bind fin)
    | exact wpAny_bind (wpAny_pure (wpAny_bind fin))
    | exact wpAny_bind fin
noncomputable def rIxX (K : PySem.W.Frag) : R2 := fun x y H Q => rIxL K x y H Q ∨ (rIxT K x y H Q ∨ (rIxS x y H Q ∨ rIxD x y H Q))
theorem ixX {X : Cx} {k : Nat} (K : PySem.W.Frag) (hr : Room k X.A) (hK : X.K = K := by rfl) : IxR X (rIxX K) := IxR.or (ixL K hK) (IxR.or (ixT K hK) (IxR.or ix_str (ixD hr)))
theorem ok_ix : OpOk K (rIxX K) gIx := by
  intro Z H x y p q b Q hp hq h k
  cases p with
  | lst ps =>
    cases q with
    | int i =>
      obtain ⟨p, g, h⟩ := bO_some h
      cases h
      obtain ⟨a, xs, rfl, ha, ra⟩ := hp.lsts
      obtain ⟨v, hv, rv⟩ := ra.atI g
      exact .inl ⟨a, xs, i, v, rfl, hq.int, ha.sq, hv, k _ H (Same.refl _) rv⟩
    | _ => cases h
  | tup ps =>
    cases q with
    | int i =>
      obtain ⟨p, g, h⟩ := bO_some h
      cases h
      obtain ⟨a, xs, rfl, ha, ra⟩ := hp.tup
      obtain ⟨v, hv, rv⟩ := ra.atI g
      exact .inr (.inl ⟨a, xs, i, v, rfl, hq.int, ha.sq, hv, k _ H (Same.refl _) rv⟩)
    | _ => cases h
  | str z =>
    cases q with
    | int i =>
      obtain ⟨c, h⟩ := guardP_some h
      obtain ⟨p, g, h⟩ := bO_some h
      cases h
      exact .inr (.inr (.inl ⟨z, i, p, hp.str, hq.int, Nat.le_of_lt (smallP c), g, k _ H (Same.refl _) (Rep.str _)⟩))
    | _ => cases h
  | dct kvs =>
    have h : (bO (keyOf q) fun k => bO (valP kvs k) fun q => some (Bv.val q)) = some b := by cases q <;> exact h
    obtain ⟨key, g, h⟩ := bO_some h
    obtain ⟨p, g2, h⟩ := bO_some h
    cases h
    obtain ⟨a, ys, rfl, ha, e, r⟩ := hp.dcts
    rcases RepD.val key ⟨e, r⟩ with ⟨h1, h2⟩ | ⟨p', v', h1, h2, h3⟩
    · rw [h1] at g2; cases g2
    · rw [h1] at g2
      cases g2
      exact .inr (.inr (.inr ⟨a, ys, key, v', rfl, ha, hq.key g, h2, k _ H (Same.refl _) h3⟩))
  | _ => cases q <;> cases h
noncomputable def cutP (xs : List PV) (lo hi : Option Int) : List PV := (xs.drop (HT.sIx xs.length 0 lo)).take (HT.sIx xs.length xs.length hi - HT.sIx xs.length 0 lo)
theorem RepL.cut {Z : ASet} {H : Hp} {ps : List PV} {xs : List V} (r : RepL K Z H ps xs) (lo hi : Option Int) : RepL K Z H (cutP ps lo hi) (cutV xs lo hi) := by
  unfold cutP cutV
  rw [← r.length]
  exact (r.drop _).take _
noncomputable def rSlX (K : PySem.W.Frag) : V → Option Int → Option Int → Hp → VK → Prop := fun x lo hi H Q => ∃ a xs, x = .ref a ∧ TupAt K H a xs ∧ ∀ p H', Same H H' → TupAt K H' p (cutV xs lo hi) → Q (.ref p) H'
theorem slTX {X : Cx} (K : PySem.W.Frag) (hK : X.K = K := by rfl) : SlR X (rSlX K) := by
  subst hK
  intro pins s σ H x v vl vu lo hi sl Q I rx hs pl pu h
  obtain ⟨a, xs, rfl, hx, q⟩ := h
  by_cases hw : HT.sIx xs.length 0 lo = 0 ∧ HT.sIx xs.length xs.length hi = xs.length
  · cases rx
    obtain ⟨its, r, ht, hz⟩ := I.tuple hx.sq
    have hlen : its.toArray.size = xs.length := by rw [List.size_toArray]; exact r.length.symm
    refine ⟨"tuple", _, PyProof.Rows.slot_tuple_getitem.lookup, ht.typeIs, ?_⟩
    refine HT.getItem_tuple_all ht hs pl pu (by rw [hlen]; exact hw) ⟨.ref a, H, I, rfl, q a H (Same.refl _) ?_⟩
    have e : cutV xs lo hi = xs := by unfold cutV; rw [hw.1, hw.2, List.drop_zero, Nat.sub_zero, List.take_length]
    rw [e]; exact hx
  · exact sl_tup pins s σ H (.ref a) v vl vu lo hi sl Q I rx hs pl pu ⟨a, xs, rfl, hx.sq, hw, fun p hp => q p _ (Same.upd hp) (.inl upd_same)⟩
noncomputable def rSlAll (K : PySem.W.Frag) : V → Option Int → Option Int → Hp → VK → Prop := fun x lo hi H Q => rSlL K x lo hi H Q ∨ (rSlX K x lo hi H Q ∨ (∃ z, x = .str z ∧ z.length ≤ sizeLine ∧ Q (.str (Txt.slice z lo hi)) H))
theorem slX {X : Cx} (K : PySem.W.Frag) (hK : X.K = K := by rfl) : SlR X (rSlAll K) := SlR.or (slL K hK) (SlR.or (slTX K hK) sl_str)
noncomputable def gSl : PV → Option Int → Option Int → Option Bv
  | .lst ps, lo, hi => some (.new (.lst (cutP ps lo hi)))
  | .tup ps, lo, hi => some (.val (.tup (cutP ps lo hi)))
  | .str z, lo, hi => guardP (decide (z.length < 1000000)) (some (.val (.str (Txt.slice z lo hi))))
  | _, _, _ => none
theorem ok_sl : SlOk K (rSlAll K) gSl := by
  intro Z H x p lo hi b Q hp h k
  cases p with
  | lst ps =>
    cases h
    obtain ⟨a, xs, rfl, ha, ra⟩ := hp.lsts
    exact .inl ⟨a, xs, rfl, ha.sq, fun l hl => k _ _ (Same.upd hl) (newL hl (ra.cut lo hi))⟩
  | tup ps =>
    cases h
    obtain ⟨a, xs, rfl, ha, ra⟩ := hp.tup
    exact .inr (.inl ⟨a, xs, rfl, ha, fun l H' s t => k _ _ s (Rep.tup t ((ra.cut lo hi).stay (.same s)))⟩)
  | str z =>
    obtain ⟨c, h⟩ := guardP_some h
    cases h
    exact .inr (.inr ⟨z, hp.str, Nat.le_of_lt (smallP c), k _ H (Same.refl _) (Rep.str _)⟩)
  | _ => cases h
theorem RedL.one {Z : ASet} {H : Hp} {p : PV} {vs : List V} (h : RedL K Z H [p] vs) : ∃ v, vs = [v] ∧ Red K Z H p v := by
  cases h with | cons h r => cases r; exact ⟨_, rfl, h⟩
theorem RedL.two {Z : ASet} {H : Hp} {p q : PV} {vs : List V} (h : RedL K Z H [p, q] vs) : ∃ v u, vs = [v, u] ∧ Red K Z H p v ∧ Red K Z H q u := by
  cases h with | cons h r => cases r with | cons h' r => cases r; exact ⟨_, _, rfl, h, h'⟩
noncomputable def gLen : List PV → Option Bv
  | [.lst ps] => some (.val (.int ps.length))
  | [.tup ps] => some (.val (.int ps.length))
  | [.str z] => guardP (decide (z.length < 1000000)) (some (.val (.int z.length)))
  | _ => none
noncomputable def rLenX (K : PySem.W.Frag) : List V → Hp → VK → Prop := fun xs H Q => (∃ p ys, xs = [.ref p] ∧ (SqL K H p ys ∨ SqT K H p ys) ∧ Q (.int ys.length) H) ∨ ∃ z, xs = [.str z] ∧ z.length ≤ sizeLine ∧ Q (.int z.length) H
theorem lenX {X : Cx} (K : PySem.W.Frag) (hK : X.K = K := by rfl) : CallR X (.builtin "len") (rLenX K) := by subst hK; exact CallR.or call_len_seq call_len_str
theorem ok_len : CbOk K (rLenX K) gLen := by
  intro Z H vs ps b Q hp h k
  unfold gLen at h
  split at h
  · cases h
    obtain ⟨v, rfl, hv⟩ := hp.one
    obtain ⟨a, xs, rfl, ha, ra⟩ := hv.lsts
    exact .inl ⟨a, xs, rfl, .inl ha.sq, k _ H (Same.refl _) (by rw [ra.length]; exact Rep.int _)⟩
  · cases h
    obtain ⟨v, rfl, hv⟩ := hp.one
    obtain ⟨a, xs, rfl, ha, ra⟩ := hv.tup
    exact .inl ⟨a, xs, rfl, .inr ha.sq, k _ H (Same.refl _) (by rw [ra.length]; exact Rep.int _)⟩
  · obtain ⟨c, h⟩ := guardP_some h
    cases h
    obtain ⟨v, rfl, hv⟩ := hp.one
    exact .inr ⟨_, by rw [hv.str], Nat.le_of_lt (smallP c), k _ H (Same.refl _) (Rep.int _)⟩
  · cases h
noncomputable def gTupC : List PV → Option Bv
  | [.lst ps] => some (.val (.tup ps))
  | [.tup ps] => some (.val (.tup ps))
  | _ => none
noncomputable def rTupX (K : PySem.W.Frag) : List V → Hp → VK → Prop := fun xs H Q => ∃ p ys, xs = [.ref p] ∧ ((SqL K H p ys ∧ ∀ l, H l = none → Q (.ref l) (upd H l (.tup ys))) ∨ (SqT K H p ys ∧ Q (.ref p) H))
theorem tupX {X : Cx} (K : PySem.W.Frag) (hK : X.K = K := by rfl) : CallR X (.type "tuple") (rTupX K) := by subst hK; exact call_tuple_of
theorem ok_tupC : CbOk K (rTupX K) gTupC := by
  intro Z H vs ps b Q hp h k
  unfold gTupC at h
  split at h
  · cases h
    obtain ⟨v, rfl, hv⟩ := hp.one
    obtain ⟨a, xs, rfl, ha, ra⟩ := hv.lsts
    exact ⟨a, xs, rfl, .inl ⟨ha.sq, fun l hl => k _ _ (Same.upd hl) (Rep.tup (.inl upd_same) (ra.stay (.same (Same.upd hl))))⟩⟩
  · cases h
    obtain ⟨v, rfl, hv⟩ := hp.one
    obtain ⟨a, xs, rfl, ha, ra⟩ := hv.tup
    exact ⟨a, xs, rfl, .inr ⟨ha.sq, k _ H (Same.refl _) (Rep.tup ha ra)⟩⟩
  · cases h
noncomputable def gListC : List PV → Option Bv
  | [.lst ps] => some (.new (.lst ps))
  | [.tup ps] => some (.new (.lst ps))
  | _ => none
theorem ok_listC : CbOk K (rListL K) gListC := by
  intro Z H vs ps b Q hp h k
  unfold gListC at h
  split at h
  · cases h
    obtain ⟨v, rfl, hv⟩ := hp.one
    obtain ⟨a, xs, rfl, ha, ra⟩ := hv.lsts
    exact ⟨a, xs, rfl, .inl ha.sq, fun l hl => k _ _ (Same.upd hl) (newL hl ra)⟩
  · cases h
    obtain ⟨v, rfl, hv⟩ := hp.one
    obtain ⟨a, xs, rfl, ha, ra⟩ := hv.tup
    exact ⟨a, xs, rfl, .inr ha.sq, fun l hl => k _ _ (Same.upd hl) (newL hl ra)⟩
  · cases h
noncomputable def gAbs : List PV → Option Bv
  | [.int i] => some (.val (.int (if i < 0 then -i else i)))
  | _ => none
noncomputable def gMax2 : List PV → Option Bv
  | [.int i, .int j] => some (.val (.int (if j > i then j else i)))
  | _ => none
theorem ok_max2 : CbOk K (fun xs H Q => ∃ i j, xs = [.int i, .int j] ∧ Q (.int (if j > i then j else i)) H) gMax2 := by
  intro Z H vs ps b Q hp h k
  unfold gMax2 at h
  split at h
  · cases h
    obtain ⟨v, u, rfl, hv, hu⟩ := hp.two
    exact ⟨_, _, by rw [hv.int, hu.int], k _ H (Same.refl _) (Rep.int _)⟩
  · cases h
noncomputable def gMin2 : List PV → Option Bv
  | [.int i, .int j] => some (.val (.int (if j < i then j else i)))
  | _ => none
theorem ok_min2 : CbOk K (fun xs H Q => ∃ i j, xs = [.int i, .int j] ∧ Q (.int (if j < i then j else i)) H) gMin2 := by
  intro Z H vs ps b Q hp h k
  unfold gMin2 at h
  split at h
  · cases h
    obtain ⟨v, u, rfl, hv, hu⟩ := hp.two
    exact ⟨_, _, by rw [hv.int, hu.int], k _ H (Same.refl _) (Rep.int _)⟩
  · cases h
noncomputable def gIntC : List PV → Option Bv
  | [.int i] => some (.val (.int i))
  | [.bl k] => some (.val (.int (if k then 1 else 0)))
  | _ => none
theorem ok_intC : CbOk K (fun xs H Q => (∃ i, xs = [.int i] ∧ Q (.int i) H) ∨ ∃ k, xs = [.bl k] ∧ Q (.int (if k then 1 else 0)) H) gIntC := by
  intro Z H vs ps b Q hp h k
  unfold gIntC at h
  split at h
  · cases h
    obtain ⟨v, rfl, hv⟩ := hp.one
    exact .inl ⟨_, by rw [hv.int], k _ H (Same.refl _) (Rep.int _)⟩
  · cases h
    obtain ⟨v, rfl, hv⟩ := hp.one
    exact .inr ⟨_, by rw [hv.bl], k _ H (Same.refl _) (Rep.int _)⟩
  · cases h
noncomputable def gStrC : List PV → Option Bv
  | [.int i] => guardP (decide (i.natAbs.log2 < 1920)) (some (.val (.str (toString i))))
  | _ => none
noncomputable def strsP : List PV → Option (List Str)
  | [] => some []
  | .str x :: ps => bO (strsP ps) fun xs => some (x :: xs)
  | _ => none
theorem strsP_eq : ∀ {ps : List PV} {xs : List Str}, strsP ps = some xs → ps = xs.map PV.str
  | [], xs, h => by cases h; rfl
  | p :: ps, xs, h => by
    cases p with
    | str x =>
      obtain ⟨ys, g, h⟩ := bO_some h
      cases h
      rw [strsP_eq g]; rfl
    | _ => cases h
theorem RepL.strs {Z : ASet} {H : Hp} : ∀ {xs : List Str} {vs : List V}, RepL K Z H (xs.map PV.str) vs → vs = xs.map V.str
  | [], vs, h => by cases h; rfl
  | x :: xs, vs, h => by cases h with | cons h r => cases h; rw [RepL.strs r]; rfl
noncomputable def itemsW : PV → Option (List PV)
  | .lst ps => some ps
  | .tup ps => some ps
  | .str z => some (z.cps.toList.map fun c => .str ⟨#[c]⟩)
  | _ => none
noncomputable def fIt (f : FE) : FI := fun st e => bE (f e) fun b e1 => match b with
  | .slot i => match e1[i]? with
    | some (some (.bor p)) => bO (itemsW p) fun ps => some (ps, e1)
    | some (some (.own p)) => guardP (st i) (bO (itemsW p) fun ps => some (ps, e1))
    | some (some (.loc p)) => guardP (st i) (bO (itemsW p) fun ps => some (ps, e1))
    | _ => none
  | .val p => bO (itemsW p) fun ps => some (ps, e1)
  | .new p => bO (itemsW p) fun ps => some (ps, e1)
noncomputable def iAny (K : PySem.W.Frag) (tl : TE) : TI := fun σ H R => tl σ H fun x H1 => (∃ a, x = .ref a ∧ (∃ xs, SqL K H1 a xs) ∧ R (Itl K a) H1) ∨ ((∃ a, x = .ref a ∧ (∃ xs, SqT K H1 a xs) ∧ R (Itt K a) H1) ∨ ∃ z, x = .str z ∧ R (Its z) H1)
theorem pi_any (K : PySem.W.Frag) {X : Cx} {tg l : Expr} {tl : TE} (hl : PE X l tl) (hK : X.K = K := by rfl) : PI X tg l (iAny K tl) := by
  subst hK
  intro pins s σ H R I h
  refine thn (hl pins s σ H _ I h) fun v s1 ⟨x, H1, I1, r1, q1⟩ => ?_
  rcases q1 with ⟨a, e, ⟨xs, hq⟩, q⟩ | ⟨a, e, ⟨xs, hq⟩, q⟩ | ⟨z, e, q⟩
  · subst e
    cases r1
    obtain ⟨its, rv, p, hz⟩ := I1.list hq
    refine wpAny_pyIter_list p.isList ?_
    refine ⟨s1.heap.objs.size, [s1.heap.objs.size], _, _, H1, rfl, I1.kept (t' := s1.toks) fun b o e => Heap.get?_push_of_some _ e, turn_list a _, ⟨_, Heap.get?_push_size _ rfl, rfl, rfl⟩, fun b hb => ?_, q⟩
    have e : b = s1.heap.objs.size := by simpa using hb
    subst e
    exact I1.fpOk (Nat.le_refl _) (I1.hok.fresh (Nat.le_refl _))
  · subst e
    cases r1
    obtain ⟨its, rv, p, hz⟩ := I1.tuple hq
    refine wpAny_pyIter_tuple (show s1.heap.IsTuple a its.toArray from p) ?_
    refine ⟨s1.heap.objs.size, [s1.heap.objs.size], _, _, H1, rfl, I1.kept (t' := s1.toks) fun b o e => Heap.get?_push_of_some _ e, turn_tuple a _, ⟨_, Heap.get?_push_size _ rfl, rfl, rfl⟩, fun b hb => ?_, q⟩
    have e : b = s1.heap.objs.size := by simpa using hb
    subst e
    exact I1.fpOk (Nat.le_refl _) (I1.hok.fresh (Nat.le_refl _))
  · subst e
    obtain ⟨t, rfl⟩ := r1
    cases ha : z.cps.all (· < 128) with
    | true =>
      refine wpAny_pyIter_ascii ha ?_
      refine ⟨s1.heap.objs.size, [s1.heap.objs.size], _, _, H1, rfl, I1.kept (t' := s1.toks) fun b o e => Heap.get?_push_of_some _ e, turn_strA z t _, ⟨_, Heap.get?_push_size _ rfl, rfl, rfl⟩, fun b hb => ?_, q⟩
      have e : b = s1.heap.objs.size := by simpa using hb
      subst e
      exact I1.fpOk (Nat.le_refl _) (I1.hok.fresh (Nat.le_refl _))
    | false =>
      refine wpAny_pyIter_wide ha ?_
      refine ⟨s1.heap.objs.size, [s1.heap.objs.size], _, _, H1, rfl, I1.kept (t' := s1.toks) fun b o e => Heap.get?_push_of_some _ e, turn_strW z t _, ⟨_, Heap.get?_push_size _ rfl, rfl, rfl⟩, fun b hb => ?_, q⟩
      have e : b = s1.heap.objs.size := by simpa using hb
      subst e
      exact I1.fpOk (Nat.le_refl _) (I1.hok.fresh (Nat.le_refl _))
theorem stayIt {O M L Wr L' : ASet} {W : WS} {H H' : Hp} (o : Okc O M W L H) (hw : ∀ a, Wr a → aw W a ∨ L a) (k1 : ∀ a ob, H a = some ob → ¬ Wr a → H' a = some ob) (k2 : ∀ a xs, H a = some (.tup xs) → H' a = some (.tup xs)) (k3 : ∀ a, L' a → L a ∨ H a = none) : Stay (uni M L) (uni M L') H H' :=
  ⟨k2, fun a ob h n => ⟨k1 a ob h fun z => n ((hw a z).elim (fun ⟨i, w⟩ => .inl (o.wm i a w)) .inr), fun z => z.elim (fun z => n (.inl z)) fun z => (k3 a z).elim (fun z => n (.inr z)) fun z => by rw [h] at z; cases z⟩⟩
theorem it_list {O M L Wr : ASet} {W : WS} {H : Hp} {a : Addr} {xs : List V} {ps : List PV} (o : Okc O M W L H) (hw : ∀ a, Wr a → aw W a ∨ L a) (ha : (Rd H a (.lst xs) ∧ ¬ Wr a) ∨ KLst K a xs) (r : RepL K (uni M L) H ps xs) : ItOk K M L Wr H (Itl K a) ps := by
  intro L' H' k1 k2 k3
  have st := stayIt o hw k1 k2 k3
  have sq : SqL K H' a xs := by
    rcases ha with ⟨h | ⟨u, h⟩, n⟩ | h
    · exact .inl (.inl (k1 _ _ h n))
    · exact .inl (.inr ⟨u, k1 _ _ h n⟩)
    · exact .inr h
  refine ⟨fun k p hp => ?_, xs, sq, by rw [r.length]; exact Nat.le_refl _⟩
  obtain ⟨v, hv, rv⟩ := r.get hp
  refine ⟨⟨xs, v, sq, hv⟩, fun x H3 y => ?_⟩
  obtain ⟨e, y⟩ := y
  subst e
  have := y xs sq
  rw [hv] at this
  cases this
  exact ⟨Same.refl _, rv.stay st⟩
theorem it_tup {O M L Wr : ASet} {W : WS} {H : Hp} {a : Addr} {xs : List V} {ps : List PV} (o : Okc O M W L H) (hw : ∀ a, Wr a → aw W a ∨ L a) (ha : TupAt K H a xs) (r : RepL K (uni M L) H ps xs) : ItOk K M L Wr H (Itt K a) ps := by
  intro L' H' k1 k2 k3
  have st := stayIt o hw k1 k2 k3
  have sq : SqT K H' a xs := TupAt.sq (ha.elim (fun h => .inl (k2 _ _ h)) .inr)
  refine ⟨fun k p hp => ?_, xs, sq, by rw [r.length]; exact Nat.le_refl _⟩
  obtain ⟨v, hv, rv⟩ := r.get hp
  refine ⟨⟨xs, v, sq, hv⟩, fun x H3 y => ?_⟩
  obtain ⟨e, y⟩ := y
  subst e
  have := y xs sq
  rw [hv] at this
  cases this
  exact ⟨Same.refl _, rv.stay st⟩
theorem it_str {M L Wr : ASet} {H : Hp} {z : Str} : ItOk K M L Wr H (Its z) (z.cps.toList.map fun c => .str ⟨#[c]⟩) := by
  intro L' H' k1 k2 k3
  refine ⟨fun k p hp => ?_, by simp [Its]⟩
  rw [List.getElem?_map] at hp
  cases c : z.cps.toList[k]? with
  | none => rw [c] at hp; cases hp
  | some d =>
    rw [c] at hp
    cases hp
    have hk : k < z.cps.size := by simpa using (List.getElem?_eq_some_iff.mp c).1
    refine ⟨hk, fun x H3 y => ?_⟩
    obtain ⟨e, d', h1, h2⟩ := y
    subst e h2
    rw [← Array.getElem?_toList, c] at h1
    cases h1
    exact ⟨Same.refl _, .str _⟩
theorem ref_it {t : TE} {f : FE} (h : Ref K t f) : RefI K (iAny K t) (fIt f) := by
  intro st O M W L σ H e e' ps R o he hf q
  obtain ⟨x, e1, f1, hf⟩ := bE_some hf
  refine h O M W L σ H e e1 x _ o he f1 fun v H1 k1 rb fr => ?_
  have o1 := o.keep k1.dom
  have en := rb.en o1
  have vals : ∀ p, Rep K (uni M L) H1 p v → itemsW p = some ps → e1 = e' → (∃ a, v = .ref a ∧ (∃ xs, SqL K H1 a xs) ∧ R (Itl K a) H1) ∨ ((∃ a, v = .ref a ∧ (∃ xs, SqT K H1 a xs) ∧ R (Itt K a) H1) ∨ ∃ z, v = .str z ∧ R (Its z) H1) := fun p hp hi ee => by
    subst ee
    cases hp with
    | lst ha n r =>
      cases hi
      exact .inl ⟨_, rfl, ⟨_, .inl ha⟩, q _ H1 k1 en fun Wr hw _ => it_list o1 hw (.inl ⟨ha, fun z => n ((hw _ z).elim (fun ⟨i, w⟩ => .inl (o.wm i _ w)) .inr)⟩) r⟩
    | tup ha r =>
      cases hi
      exact .inr (.inl ⟨_, rfl, ⟨_, ha.sq⟩, q _ H1 k1 en fun Wr hw _ => it_tup o1 hw ha r⟩)
    | str z =>
      cases hi
      exact .inr (.inr ⟨z, rfl, q _ H1 k1 en fun Wr hw _ => it_str⟩)
    | _ => cases hi
  cases x with
  | val p =>
    obtain ⟨ps', g, hf⟩ := bO_some hf
    cases hf
    exact vals p rb.2 g rfl
  | new p =>
    obtain ⟨ps', g, hf⟩ := bO_some hf
    cases hf
    exact vals p (rb.weak o1).2 g rfl
  | slot i =>
    dsimp only at hf
    cases c : e1[i]? with
    | none => rw [c] at hf; cases hf
    | some s =>
      cases s with
      | none => rw [c] at hf; cases hf
      | some s =>
        rw [c] at hf
        obtain ⟨u, hu, sr⟩ := rb.1.at' i s c
        have := rb.2
        rw [hu] at this
        cases this
        cases s with
        | val p => cases hf
        | bor p =>
          obtain ⟨ps', g, hf⟩ := bO_some hf
          cases hf
          obtain ⟨a, rfl, lt⟩ := sr
          cases lt with
          | lst ha od n m r => cases g; exact .inl ⟨a, rfl, ⟨_, .inl ha⟩, q _ H1 k1 en fun Wr hw _ => it_list o1 hw (.inl ⟨ha, fun z => (hw _ z).elim n m⟩) r⟩
          | klst ha r => cases g; exact .inl ⟨a, rfl, ⟨_, .inr ha⟩, q _ H1 k1 en fun Wr hw _ => it_list o1 hw (.inr ha) r⟩
          | dct ha od n m kk r => cases g
        | own p =>
          obtain ⟨hst, hf⟩ := guardP_some hf
          obtain ⟨ps', g, hf⟩ := bO_some hf
          cases hf
          obtain ⟨a, rfl, w, ct⟩ := sr
          cases ct with
          | lst ha r => cases g; exact .inl ⟨a, rfl, ⟨_, SqL.of ha⟩, q _ H1 k1 en fun Wr hw hs => it_list o1 hw (.inl ⟨.inl ha, hs i a _ hst c rfl hu⟩) r⟩
          | dct ha kk r => cases g
        | loc p =>
          obtain ⟨hst, hf⟩ := guardP_some hf
          obtain ⟨ps', g, hf⟩ := bO_some hf
          cases hf
          obtain ⟨a, rfl, w, ct⟩ := sr
          cases ct with
          | lst ha r => cases g; exact .inl ⟨a, rfl, ⟨_, SqL.of ha⟩, q _ H1 k1 en fun Wr hw hs => it_list o1 hw (.inl ⟨.inl ha, hs i a _ hst c rfl hu⟩) r⟩
          | dct ha kk r => cases g
noncomputable def fRng1 (fa : FA) : FI := fun _ e => bE (fa e) fun bs e1 => match bs with
  | [.val (.int j)] => guardP (decide (-1000000000 ≤ j ∧ j < 1000000000)) (some ((List.range j.toNat).map (fun k : Nat => .int (0 + (k : Int))), e1))
  | _ => none
theorem it_rng {M L Wr : ASet} {H : Hp} {lo : Int} {n : Nat} : ItOk K M L Wr H (Itr lo n) ((List.range n).map fun k : Nat => .int (lo + (k : Int))) := by
  intro L' H' k1 k2 k3
  refine ⟨fun k p hp => ?_, by simp [Itr]⟩
  rw [List.getElem?_map] at hp
  by_cases hk : k < n
  · rw [List.getElem?_range hk] at hp
    cases hp
    refine ⟨hk, fun x H3 y => ?_⟩
    obtain ⟨e, y⟩ := y
    subst e y
    exact ⟨Same.refl _, .int _⟩
  · rw [List.getElem?_eq_none (by simpa using hk)] at hp
    cases hp
theorem ref_rng1 {ta : TA} {fa : FA} (h : RefA K ta fa) : RefI K (iRng1 ta) (fRng1 fa) := by
  intro st O M W L σ H e e' ps R o he hf q
  obtain ⟨x, e1, f1, hf⟩ := bE_some hf
  refine h O M W L σ H e e1 x _ o he f1 fun vs H1 k1 en rv => ?_
  split at hf
  · rename_i j
    obtain ⟨c, hf⟩ := guardP_some hf
    have c := of_decide_eq_true c
    cases hf
    cases rv with
    | cons h r =>
      cases r
      cases h
      exact ⟨j, rfl, by omega, by omega, q _ H1 k1 en fun Wr hw _ => it_rng⟩
  · cases hf
noncomputable def fRng2 (fa : FA) : FI := fun _ e => bE (fa e) fun bs e1 => match bs with
  | [.val (.int i), .val (.int j)] => guardP (decide (-1000000000 ≤ i ∧ i < 1000000000 ∧ -1000000000 ≤ j ∧ j < 1000000000)) (some ((List.range (j - i).toNat).map (fun k : Nat => .int (i + (k : Int))), e1))
  | _ => none
noncomputable def fEnm (fa : FA) : FI := fun _ e => bE (fa e) fun bs e1 => match bs with
  | [.val (.tup ps)] => some (ps.zipIdx.map fun z => .tup [.int (z.2 : Int), z.1], e1)
  | _ => none
end
end Mr
set_option Elab.async false
set_option linter.all false
set_option maxRecDepth 100000
set_option maxHeartbeats 4000000
namespace Mr
open PySem PySem.Spec L2 PyProof.Rows
section
variable {K : PySem.W.Frag}
theorem law_imp {f : FN} {vs : List V} {H : Hp} {Q : VK} {E : XK} (hf : ∀ ns : List Int, ns.length ≤ 63 → f [.lst (ns.map PV.int)] = some (.bl true, [])) (h : spLaw K vs H Q E) : spM K [.b] false f vs H Q E := by
  obtain ⟨a, ns, rfl, hS, hl, q⟩ := h
  have rl : ∀ (Z : ASet) (ms : List Int), RepL K Z H (ms.map PV.int) (ms.map V.int) := fun Z ms => by
    induction ms with
    | nil => exact .nil
    | cons m ms ih => exact .cons (.int m) ih
  refine ⟨noA, [.lst (ns.map PV.int)], .bl true, [], fun a z => z.elim, rfl, rfl, fun i k p v h1 h2 h3 => ?_, fun i j hij h1 h2 => ?_, fun i a ⟨h1, _⟩ => ?_, hf ns hl, fun v H' k r => ?_⟩
  · cases i with
    | zero =>
      cases h1
      cases h2
      cases h3
      have nw : ¬ aw (wsOf [.b] [.ref a] H) a := fun ⟨i, h, _⟩ => by
        cases i with
        | zero => cases h
        | succ i => simp at h
      rcases hS with h | h
      · refine ⟨a, rfl, .lst h ?_ nw (fun z => z) (rl _ ns)⟩
        rcases h with h | ⟨u, h⟩
        · show H a ≠ none
          rw [h]; exact fun z => nomatch z
        · show H a ≠ none
          rw [h]; exact fun z => nomatch z
      · exact ⟨a, rfl, .klst h (rl _ ns)⟩
    | succ i => simp at h1
  · cases i with
    | zero => cases h1
    | succ i => simp at h1
  · cases i with
    | zero => cases h1
    | succ i => simp at h1
  · obtain ⟨r, _⟩ := r
    cases r
    exact q H'
noncomputable def kdOf : PV → Option L2.Kd
  | .non => some .non
  | .bl _ => some .bl
  | .int _ => some .int
  | .str _ => some .str
  | .lst _ => some .lst
  | .tup _ => some .tup
  | .dct _ => some .dct
  | .ty _ => none
noncomputable def isiT (k : L2.Kd) : String → Option Bool
  | "str" => some (decide (k = .str))
  | "tuple" => some (decide (k = .tup))
  | "int" => some (decide (k = .int) || decide (k = .bl))
  | "bool" => some (decide (k = .bl))
  | _ => none
theorem isiT_kit {k : L2.Kd} {T : String} {b : Bool} (h : isiT k T = some b) : PySem.W.kitOne K (.type k.nm) (.type T) = some b := by
  unfold isiT at h
  split at h
  · cases h; exact kd_str k
  · cases h; exact kd_tup k
  · cases h; exact kd_int k
  · cases h; exact kd_bool k
  · cases h
noncomputable def rIsiX (K : PySem.W.Frag) : List V → Hp → VK → Prop := fun xs H Q => ∃ p x T k b, xs = [x, .ty T] ∧ Red K noA H p x ∧ kdOf p = some k ∧ isiT k T = some b ∧ Q (.bl b) H
theorem isiX {X : Cx} (K : PySem.W.Frag) (hK : X.K = K := by rfl) : CallR X (.builtin "isinstance") (rIsiX K) := by
  subst hK
  intro pins s σ H xs us Q I r h
  obtain ⟨p, x, T, k, b, rfl, hp, hk, hT, q⟩ := h
  obtain ⟨u, u', rfl, rx, ry⟩ := vals2 r
  cases ry
  have e := isiT_kit (K := X.K) hT
  have fin : ∀ tk, EP X pins σ Q (.bool b) { s with toks := tk } := fun tk => ⟨.bl b, H, I.tok tk, rfl, q⟩
  cases p with
  | non => cases hk; have := hp.non; subst this; cases (show u = Value.none from rx); exact PySem.W.kia_one PySem.W.kitx_none I.kIn True.intro e (fun z => nomatch z) fin
  | bl y => cases hk; have := hp.bl; subst this; cases (show u = Value.bool y from rx); exact PySem.W.kia_one PySem.W.kitx_bool I.kIn True.intro e (fun z => nomatch z) fin
  | int i => cases hk; have := hp.int; subst this; obtain ⟨t, q⟩ := (show ∃ t, u = Value.int i t from rx); cases q; exact PySem.W.kia_one PySem.W.kitx_int I.kIn True.intro e (fun z => nomatch z) fin
  | str y => cases hk; have := hp.str; subst this; obtain ⟨t, q⟩ := (show ∃ t, u = Value.str y t from rx); cases q; exact PySem.W.kia_one PySem.W.kitx_str I.kIn True.intro e (fun z => nomatch z) fin
  | ty y => cases hk
  | tup ps =>
    cases hk
    obtain ⟨a, xs, rfl, ha, _⟩ := hp.tup
    cases (show u = Value.ref a from rx)
    obtain ⟨its, _, ⟨o, h1, h2, _⟩, _⟩ := I.tuple ha.sq
    exact PySem.W.kia_one PySem.W.kitx_tuple I.kIn ⟨o, h1, h2⟩ e (fun z => nomatch z) fin
  | lst ps =>
    cases hk
    obtain ⟨a, xs, rfl, ha, _⟩ := hp.lsts
    cases (show u = Value.ref a from rx)
    obtain ⟨its, _, pl, _⟩ := I.list ha.sq
    obtain ⟨o, h1, h2, _⟩ := pl.isList
    exact PySem.W.kia_one PySem.W.kitx_list I.kIn ⟨o, h1, h2⟩ e (fun z => nomatch z) fin
  | dct kvs =>
    cases hk
    obtain ⟨a, ys, rfl, ha, _, _⟩ := hp.dcts
    cases (show u = Value.ref a from rx)
    obtain ⟨_, _, vs, _, pd⟩ := dk_rd I.hok ha
    obtain ⟨o, es, ep, h1, h2, _⟩ := pd
    exact PySem.W.kia_one PySem.W.kitx_dict I.kIn ⟨o, h1, h2.1⟩ e (fun z => nomatch z) fin
noncomputable def gIsi2 : List PV → Option Bv
  | [p, .ty n] => bO (kdOf p) fun k => bO (isiT k n) fun b => some (.val (.bl b))
  | _ => none
theorem ok_isi : CbOk K (rIsiX K) gIsi2 := by
  intro Z H vs ps b Q hp h k
  unfold gIsi2 at h
  split at h
  · rename_i p n
    obtain ⟨c, g, h⟩ := bO_some h
    obtain ⟨d, g2, h⟩ := bO_some h
    cases h
    obtain ⟨v, u, rfl, hv, hu⟩ := hp.two
    have eu := hu.ty
    subst eu
    exact ⟨p, v, n, c, d, rfl, hv.any, g, g2, k _ H (Same.refl _) (Rep.bl _)⟩
  · cases h
noncomputable def gLower : PV → List PV → Option Bv
  | .str z, [] => guardP (decide (z.length < 1000000)) (some (.val (.str (Txt.lower z))))
  | _, _ => none
noncomputable def gUpper : PV → List PV → Option Bv
  | .str z, [] => guardP (decide (z.length < 1000000)) (some (.val (.str (Txt.upper z))))
  | _, _ => none
noncomputable def gStarts : PV → List PV → Option Bv
  | .str z, [.str y] => some (.val (.bl (Txt.startswith z y)))
  | _, _ => none
noncomputable def gEnds : PV → List PV → Option Bv
  | .str z, [.str y] => some (.val (.bl (Txt.endswith z y)))
  | _, _ => none
noncomputable def gStrip : PV → List PV → Option Bv
  | .str z, [.str y] => guardP (decide (z.length < 1000000)) (some (.val (.str (Txt.stripChars z y))))
  | _, _ => none
noncomputable def gIndexS : PV → List PV → Option Bv
  | .str z, [.str y] => match Builtin.Str.occurrences z y 0 z.length 1 with
    | i :: _ => some (.val (.int i))
    | [] => none
  | _, _ => none
noncomputable def gPart : PV → List PV → Option Bv
  | .str z, [.str y] => guardP (decide (z.length < 1000000) && !(y.length == 0)) (some (.val (.tup [.str (Txt.partition z y).1, .str (Txt.partition z y).2.1, .str (Txt.partition z y).2.2])))
  | _, _ => none
noncomputable def gSplitB : PV → List PV → Option Bv
  | .str z, [.str y] => if y = Str.ofString " " then guardP (decide (z.length < 1000000)) (some (.new (.lst ((Txt.split z y).map PV.str)))) else none
  | _, _ => none
noncomputable def blsP : List PV → Option (List Bool)
  | [] => some []
  | .bl x :: ps => bO (blsP ps) fun xs => some (x :: xs)
  | _ => none
theorem RepL.bls {Z : ASet} {H : Hp} : ∀ {ps : List PV} {xs : List Bool} {vs : List V}, blsP ps = some xs → RepL K Z H ps vs → vs = isBl xs
  | [], xs, vs, g, h => by cases g; cases h; rfl
  | p :: ps, xs, vs, g, h => by
    cases p with
    | bl x =>
      obtain ⟨ys, g1, g⟩ := bO_some g
      cases g
      cases h with | cons h r => cases h; rw [RepL.bls g1 r]; rfl
    | _ => cases g
noncomputable def gAll : List PV → Option Bv
  | [.lst ps] => bO (blsP ps) fun bs => some (.val (.bl (bs.all id)))
  | _ => none
theorem ok_all : CbOk K (rAll K) gAll := by
  intro Z H vs ps b Q hp h k
  unfold gAll at h
  split at h
  · obtain ⟨bs, g, h⟩ := bO_some h
    cases h
    obtain ⟨v, rfl, hv⟩ := hp.one
    obtain ⟨a, xs, rfl, ha, ra⟩ := hv.lsts
    have e := ra.bls g
    subst e
    exact ⟨a, bs, rfl, ha.sq, k _ H (Same.refl _) (Rep.bl _)⟩
  · cases h
noncomputable def gAny : List PV → Option Bv
  | [.lst ps] => bO (blsP ps) fun bs => some (.val (.bl (bs.any id)))
  | _ => none
noncomputable def fChain (g g' : PV → PV → Option Bv) (fa fb fc : FE) : FE := fun e => bE (fa e) fun x e1 => bE (fb e1) fun y e2 => bO (x.weak.get e2) fun p => bO (y.weak.get e2) fun q => bO (g p q) fun b => match b with
  | .val (.bl true) => bE (fc e2) fun z e3 => bO (y.weak.get e3) fun q' => bO (z.weak.get e3) fun r => bO (g' q' r) fun b' => some (b', e3)
  | .val (.bl false) => some (.val (.bl false), e2)
  | _ => none
theorem ref_chain {r r' : R2} {g g' : PV → PV → Option Bv} {ta tb tc : TE} {fa fb fc : FE} (hg : OpOk K r g) (hg' : OpOk K r' g') (ha : Ref K ta fa) (hb : Ref K tb fb) (hc : Ref K tc fc) : Ref K (tChain r r' ta tb tc) (fChain g g' fa fb fc) := by
  intro O M W L σ H e e' b Q o he hf q
  obtain ⟨x, e1, f1, hf⟩ := bE_some hf
  obtain ⟨y, e2, f2, hf⟩ := bE_some hf
  obtain ⟨p, g1, hf⟩ := bO_some hf
  obtain ⟨p', g2, hf⟩ := bO_some hf
  obtain ⟨c, g3, hf⟩ := bO_some hf
  refine ha O M W L σ H e e1 x _ o he f1 fun v1 H1 k1 r1 fr1 => ?_
  have o1 := o.keep k1.dom
  refine hb O M W L σ H1 e1 e2 y _ o1 (r1.en o1) f2 fun v2 H2 k2 r2 fr2 => ?_
  have o2 := o1.keep k2.dom
  have en := r2.en o2
  have ry := r2.rv o2
  refine hg _ H2 v1 v2 p p' c _ (((r1.rv o1).keep o1 k2).red en g1) (ry.red en g2) g3 fun v H3 s rn => ?_
  have k3 : Keep W L H2 H3 := .same s
  have o3 := o2.keep k3.dom
  have en3 := en.same s
  rcases isBlv (x := c) with ⟨d, rfl⟩ | n
  · cases rn
    refine ⟨d, rfl, ?_⟩
    cases d with
    | false => cases hf; rw [if_neg Bool.false_ne_true]; exact q _ H3 ((k1.trans k2).trans k3) ⟨en3, .bl _⟩ trivial
    | true =>
      rw [if_pos rfl]
      obtain ⟨z, e3, f3, hf⟩ := bE_some hf
      obtain ⟨q', g4, hf⟩ := bO_some hf
      obtain ⟨r4, g5, hf⟩ := bO_some hf
      obtain ⟨b', g6, hf⟩ := bO_some hf
      cases hf
      refine hc O M W L σ H3 e2 _ z _ o3 en3 f3 fun v4 H4 k4 r4' fr4 => ?_
      have o4 := o3.keep k4.dom
      have en4 := r4'.en o4
      refine hg' _ H4 v2 v4 q' r4 _ Q (((ry.keep o2 k3).keep o3 k4).red en4 g4) ((r4'.rv o4).red en4 g5) g6 fun v H' s' rn' => ?_
      exact q v H' ((((k1.trans k2).trans k3).trans k4).trans (.same s')) (rn'.rb o4 en4 s') (rn'.fr (((k1.trans k2).trans k3).trans k4).dom)
  · exfalso
    split at hf
    · exact n _ rfl
    · exact n _ rfl
    · cases hf
noncomputable def truP : PV → Option Bool
  | .non => some false
  | .bl b => some b
  | .int i => some (i != 0)
  | .str y => guardP (decide (y.length < 1000000)) (some ((y.length : Int) != 0))
  | .lst ps => some (!ps.isEmpty)
  | .tup ps => some (!ps.isEmpty)
  | _ => none
noncomputable def fTru (f : FE) : FT := fun e => bE (f e) fun b e1 => bO (b.weak.get e1) fun p => bO (truP p) fun c => some (c, e1)
theorem RepL.empty {Z : ASet} {H : Hp} {ps : List PV} {xs : List V} (r : RepL K Z H ps xs) : ps.isEmpty = xs.isEmpty := by cases r <;> rfl
end
end Mr
set_option Elab.async false
set_option linter.all false
set_option maxRecDepth 100000
set_option maxHeartbeats 4000000
namespace Mr
open PySem PySem.Spec L2 PyProof.Rows
theorem ref_comp2 {K : PySem.W.Frag} {wi : TI} {g : TG} {tt : TT} {te : TE} {fi : FI} {k : Nat} {cap : List Nat} (ms : List (Nat × Nat)) {fg : FG} {ft : FT} {fe : FE} (hms : (ms.all fun z => ms.all fun z' => (z.1 == z'.1) == (z.2 == z'.2)) = true) (hi : RefI K wi fi) (hg : RefG K g fg) (ht : RefT K tt ft) (he : Ref K te fe) : Ref K (tComp wi k cap g tt te) (fComp fi k cap ms fg ft fe) := by
  have key : ∀ z ∈ ms, ∀ z' ∈ ms, (z.1 == z'.1) = (z.2 == z'.2) := fun z hz z' hz' => by
    have := List.all_eq_true.mp (List.all_eq_true.mp hms z hz) z' hz'
    simpa using this
  refine ref_comp ms (fun i j1 j2 h1 h2 => ?_) (fun i1 i2 j h1 h2 => ?_) hi hg ht he
  · have := key _ h1 _ h2
    simpa using this
  · have := key _ h1 _ h2
    simpa using this
end Mr
set_option Elab.async false
set_option linter.all false
set_option maxRecDepth 100000
namespace Mr
open PySem PySem.Spec L2 PyProof.Rows
theorem e_fVar (i : Nat) (e : En) : fVar i e = (match e[i]? with
  | some (some (.val p)) => some (.val p, e)
  | some (some _) => some (.slot i, e)
  | _ => none) := rfl
theorem e_fC (p : PV) (e : En) : fC p e = some (.val p, e) := rfl
theorem e_fOp (g : PV → PV → Option Bv) (fa fb : FE) (e : En) : fOp g fa fb e = bE (fa e) fun x e1 => bE (fb e1) fun y e2 => bO (x.weak.get e2) fun p => bO (y.weak.get e2) fun q => bO (g p q) fun b => some (b, e2) := rfl
theorem e_fUn (g : PV → Option Bv) (fa : FE) (e : En) : fUn g fa e = bE (fa e) fun x e1 => bO (x.weak.get e1) fun p => bO (g p) fun b => some (b, e1) := rfl
theorem e_fNil (e : En) : fNil e = some ([], e) := rfl
theorem e_fCons (fa : FE) (fr : FA) (e : En) : fCons fa fr e = bE (fa e) fun x e1 => bE (fr e1) fun xs e2 => some (x.weak :: xs, e2) := rfl
theorem e_fCB (g : List PV → Option Bv) (fa : FA) (e : En) : fCB g fa e = bE (fa e) fun xs e1 => bO (getL e1 xs) fun ps => bO (g ps) fun b => some (b, e1) := rfl
theorem e_fBM (g : PV → List PV → Option Bv) (fo : FE) (fa : FA) (e : En) : fBM g fo fa e = (bE (fo e) fun x e0 => match x with
  | .val (.str z) => bE (fa e0) fun xs e1 => bO (getL e1 xs) fun ps => bO (g (.str z) ps) fun b => some (b, e1)
  | _ => none) := rfl
theorem e_fBM0 (g : PV → List PV → Option Bv) (fo : FE) (e : En) : fBM0 g fo e = (bE (fo e) fun x e0 => match x with
  | .val (.str z) => bO (g (.str z) []) fun b => some (b, e0)
  | _ => none) := rfl
theorem e_fTup (fa : FA) (e : En) : fTup fa e = bE (fa e) fun xs e1 => bO (putL xs) fun ps => guardP (decide (ps.length < 1000000)) (some (.val (.tup ps), e1)) := rfl
theorem e_fLst (fa : FA) (e : En) : fLst fa e = bE (fa e) fun xs e1 => bO (putL xs) fun ps => guardP (decide (ps.length < 1000000)) (some (.new (.lst ps), e1)) := rfl
theorem e_fTest (f : FE) (e : En) : fTest f e = (bE (f e) fun b e1 => match b with
  | .val (.bl c) => some (c, e1)
  | _ => none) := rfl
theorem e_fAnd (f g : FT) (e : En) : fAnd f g e = bE (f e) fun b e1 => bB b (g e1) (some (false, e1)) := rfl
theorem e_fOr (f g : FT) (e : En) : fOr f g e = bE (f e) fun b e1 => bB b (some (true, e1)) (g e1) := rfl
theorem e_fNot (f : FT) (e : En) : fNot f e = bE (f e) fun b e1 => some (!b, e1) := rfl
theorem e_fTrue (e : En) : fTrue e = some (true, e) := rfl
theorem e_fAndV (fa fb : FE) (e : En) : fAndV fa fb e = bE (fa e) fun b e1 => bO (isBv b) fun c => bB c (fb e1) (some (.val (.bl false), e1)) := rfl
theorem e_fOrV (fa fb : FE) (e : En) : fOrV fa fb e = bE (fa e) fun b e1 => bO (isBv b) fun c => bB c (some (.val (.bl true), e1)) (fb e1) := rfl
theorem e_fNotV (fa : FE) (e : En) : fNotV fa e = bE (fa e) fun b e1 => bO (isBv b) fun c => some (.val (.bl (!c)), e1) := rfl
theorem e_fIf (fc : FT) (fa fb : FE) (e : En) : fIf fc fa fb e = bE (fc e) fun b e1 => bB b (fa e1) (fb e1) := rfl
theorem e_fNoPart (e : En) : fNoPart e = some (none, e) := rfl
theorem e_fPart (f : FE) (e : En) : fPart f e = (bE (f e) fun b e1 => match b with
  | .val (.int i) => some (some i, e1)
  | _ => none) := rfl
theorem e_fSl (g : PV → Option Int → Option Int → Option Bv) (fa : FE) (fl fh : FO) (e : En) : fSl g fa fl fh e = bE (fa e) fun x e1 => bE (fl e1) fun lo e2 => bE (fh e2) fun hi e3 => bO (x.weak.get e3) fun p => bO (g p lo hi) fun b => some (b, e3) := rfl
theorem e_sNext (e : En) : sNext e = some (.nx e) := rfl
theorem e_sBreak (e : En) : sBreak e = some (.bk e) := rfl
theorem e_sCont (e : En) : sCont e = some (.ct e) := rfl
theorem e_sRet (f : FE) (e : En) : sRet f e = bE (f e) fun b e1 => some (.rt b e1) := rfl
theorem e_sRetN (e : En) : sRetN e = some (.rt (.val .non) e) := rfl
theorem e_sDrop (f : FE) (e : En) : sDrop f e = bE (f e) fun b e1 => some (.nx e1) := rfl
theorem e_sIf (fc : FT) (f g : FS) (e : En) : sIf fc f g e = bE (fc e) fun b e1 => bB b (f e1) (g e1) := rfl
theorem e_sSet (i : Nat) (f : FE) (e : En) : sSet i f e = (bE (f e) fun b e1 => match b with
  | .val p => some (.nx (e1.set i (some (.val p))))
  | .new p => some (.nx (e1.set i (some (.val p))))
  | .slot j => match e1[j]? with
    | some (some (.bor p)) => some (.nx (e1.set i (some (.bor p))))
    | _ => none) := rfl
theorem e_sSetL (i : Nat) (f : FE) (e : En) : sSetL i f e = (bE (f e) fun b e1 => match b with
  | .new p => some (.nx (e1.set i (some (.loc p))))
  | _ => none) := rfl
theorem e_sRel (i : Nat) (f : FS) (e : En) : sRel i f e = bO (rel i e) f := rfl
theorem e_sApp (i : Nat) (f : FE) (e : En) : sApp i f e = (bO (ownAt e i) fun p0 => match p0 with
  | .lst _ => bE (f e) fun b e1 => bO b.put fun p => match ownAt e1 i with
    | some (.lst ps) => guardP (decide (ps.length < 1000000)) (some (.nx (setOwn e1 i (.lst (ps ++ [p])))))
    | _ => none
  | _ => none) := rfl
theorem e_sSetIx (i : Nat) (fi fv : FE) (e : En) : sSetIx i fi fv e = (bE (fv e) fun b e1 => bO b.put fun p => bO (ownAt e1 i) fun _ => bE (fi e1) fun k e2 => match k with
  | .val (.int k) => match ownAt e2 i with
    | some (.lst ps) => bO (ixN ps.length k) fun j => some (.nx (setOwn e2 i (.lst (ps.set j p))))
    | _ => none
  | _ => none) := rfl
theorem e_sDPut (i : Nat) (fk fv : FE) (e : En) : sDPut i fk fv e = (bE (fv e) fun b e1 => bO b.put fun p => bO (ownAt e1 i) fun _ => bE (fk e1) fun k e2 => bO (k.weak.get e2) fun kp => bO (keyOf kp) fun key => match ownAt e2 i with
    | some (.dct kvs) => guardP (decide (kvs.length < 1000000)) (some (.nx (setOwn e2 i (.dct (putP kvs key p)))))
    | _ => none) := rfl
theorem e_tgName (i : Nat) (p : PV) (e : En) : tgName i p e = some (e.set i (some (.val p))) := rfl
theorem e_tgNil (ps : List PV) (e : En) : tgNil ps e = match ps with | [] => some e | _ => none := rfl
theorem e_tgCons (f : FG) (g : FGs) (ps : List PV) (e : En) : tgCons f g ps e = match ps with | p :: ps => bO (f p e) (g ps) | [] => none := rfl
theorem e_tgTup (n : Nat) (f : FGs) (p : PV) (e : En) : tgTup n f p e = (match p with
  | .tup ps => guardP (decide (ps.length = n)) (f ps e)
  | _ => none) := rfl
theorem e_sAsg (f : FE) (fg : FG) (e : En) : sAsg f fg e = bE (f e) fun b e1 => bO b.put fun p => bO (fg p e1) fun e2 => some (.nx e2) := rfl
theorem e_sPar (i j : Nat) (fa : FA) (e : En) : sPar i j fa e = (bE (fa e) fun bs e1 => bO (putL bs) fun ps => match ps with
  | [p, q] => some (.nx ((e1.set i (some (.val p))).set j (some (.val q))))
  | _ => none) := rfl
theorem e_fIt (f : FE) (st : Nat → Bool) (e : En) : fIt f st e = (bE (f e) fun b e1 => match b with
  | .slot i => match e1[i]? with
    | some (some (.bor p)) => bO (itemsW p) fun ps => some (ps, e1)
    | some (some (.own p)) => guardP (st i) (bO (itemsW p) fun ps => some (ps, e1))
    | some (some (.loc p)) => guardP (st i) (bO (itemsW p) fun ps => some (ps, e1))
    | _ => none
  | .val p => bO (itemsW p) fun ps => some (ps, e1)
  | .new p => bO (itemsW p) fun ps => some (ps, e1)) := rfl
theorem e_fRng1 (fa : FA) (st_ : Nat → Bool) (e : En) : fRng1 fa st_ e = (bE (fa e) fun bs e1 => match bs with
  | [.val (.int j)] => guardP (decide (-1000000000 ≤ j ∧ j < 1000000000)) (some ((List.range j.toNat).map (fun k : Nat => .int (0 + (k : Int))), e1))
  | _ => none) := rfl
theorem e_fRng2 (fa : FA) (st_ : Nat → Bool) (e : En) : fRng2 fa st_ e = (bE (fa e) fun bs e1 => match bs with
  | [.val (.int i), .val (.int j)] => guardP (decide (-1000000000 ≤ i ∧ i < 1000000000 ∧ -1000000000 ≤ j ∧ j < 1000000000)) (some ((List.range (j - i).toNat).map (fun k : Nat => .int (i + (k : Int))), e1))
  | _ => none) := rfl
theorem e_fEnm (fa : FA) (st_ : Nat → Bool) (e : En) : fEnm fa st_ e = (bE (fa e) fun bs e1 => match bs with
  | [.val (.tup ps)] => some (ps.zipIdx.map fun z => .tup [.int (z.2 : Int), z.1], e1)
  | _ => none) := rfl
theorem e_fChain (g g' : PV → PV → Option Bv) (fa fb fc : FE) (e : En) : fChain g g' fa fb fc e = (bE (fa e) fun x e1 => bE (fb e1) fun y e2 => bO (x.weak.get e2) fun p => bO (y.weak.get e2) fun q => bO (g p q) fun b => match b with
  | .val (.bl true) => bE (fc e2) fun z e3 => bO (y.weak.get e3) fun q' => bO (z.weak.get e3) fun r => bO (g' q' r) fun b' => some (b', e3)
  | .val (.bl false) => some (.val (.bl false), e2)
  | _ => none) := rfl
theorem e_fTru (f : FE) (e : En) : fTru f e = bE (f e) fun b e1 => bO (b.weak.get e1) fun p => bO (truP p) fun c => some (c, e1) := rfl
theorem e_fDNew (e : En) : fDNew e = some (.new (.dct []), e) := rfl
end Mr
set_option Elab.async false
set_option linter.all false
set_option maxRecDepth 100000
set_option maxHeartbeats 4000000
namespace L2
open PySem PySem.Spec PyProof.Rows
section
variable {X : Cx} {elts : List Expr} {x1 : Nat} {tpos : Pos}
end
end L2
namespace Mr
open PySem PySem.Spec L2 PyProof.Rows
section
variable {K : PySem.W.Frag}
noncomputable def fEnmA (fa : FA) : FI := fun _ e => bE (fa e) fun bs e1 => match bs with
  | [.val (.tup ps)] => some (ps.zipIdx.map fun z => .tup [.int (z.2 : Int), z.1], e1)
  | [.val (.lst ps)] => some (ps.zipIdx.map fun z => .tup [.int (z.2 : Int), z.1], e1)
  | _ => none
theorem e_fEnmA {fa : FA} {st : Nat → Bool} {e : En} : fEnmA fa st e = bE (fa e) fun bs e1 => match bs with
  | [.val (.tup ps)] => some (ps.zipIdx.map fun z => .tup [.int (z.2 : Int), z.1], e1)
  | [.val (.lst ps)] => some (ps.zipIdx.map fun z => .tup [.int (z.2 : Int), z.1], e1)
  | _ => none := rfl
end
end Mr
set_option Elab.async false
set_option linter.all false
set_option maxRecDepth 100000
set_option maxHeartbeats 4000000
namespace L2
open PySem PySem.Spec PyProof.Rows
section
variable {X : Cx} {e st : Expr} {te ts : TE} {pos p2 : Pos}
end
end L2
namespace Mr
open PySem PySem.Spec L2 PyProof.Rows
section
variable {K : PySem.W.Frag}
noncomputable def gBack : PV → PV → Option Bv
  | .tup ps, .int i => guardP (decide (i = -1)) (some (.val (.tup ps.reverse)))
  | _, _ => none
end
end Mr
set_option Elab.async false
set_option linter.all false
set_option maxRecDepth 100000
set_option maxHeartbeats 4000000
namespace Mr
open PySem PySem.Spec L2 PyProof.Rows
section
variable {K : PySem.W.Frag}
noncomputable def fPop (i : Nat) (f : FE) : FE := fun e => bO (ownAt e i) fun p0 => match p0 with
  | .lst _ => bE (f e) fun b e1 => match b with
    | .val (.int k) => match ownAt e1 i with
      | some (.lst ps) => guardP (decide (-1000000000 ≤ k ∧ k < 1000000000)) (bO (ixN ps.length k) fun j => bO ps[j]? fun p => some (.val p, setOwn e1 i (.lst (ps.eraseIdx j))))
      | _ => none
    | _ => none
  | _ => none
theorem e_fPop {i : Nat} {f : FE} {e : En} : fPop i f e = bO (ownAt e i) fun p0 => match p0 with
  | .lst _ => bE (f e) fun b e1 => match b with
    | .val (.int k) => match ownAt e1 i with
      | some (.lst ps) => guardP (decide (-1000000000 ≤ k ∧ k < 1000000000)) (bO (ixN ps.length k) fun j => bO ps[j]? fun p => some (.val p, setOwn e1 i (.lst (ps.eraseIdx j))))
      | _ => none
    | _ => none
  | _ => none := rfl
noncomputable def leS (a b : Str) : Bool := !ltCps b.cps.toList a.cps.toList
noncomputable def sortP (ss : List Str) : List Str := ss.mergeSort leS
end
end Mr
set_option Elab.async false
set_option linter.all false
set_option maxRecDepth 100000
set_option maxHeartbeats 4000000
namespace Mr
open PySem L2
structure Mark {α : Type} (Q : α → Prop) : Type where
noncomputable def Wp {α : Type} (r : Option α) (Q : α → Prop) (u : Mark Q := ⟨⟩) : Prop := ∃ a, r = some a ∧ Q a
section
variable {α β : Type} {Q : β → Prop}
theorem ix10 : ixN 1 0 = some 0 := by decide
theorem ix20 : ixN 2 0 = some 0 := by decide
theorem ix21 : ixN 2 1 = some 1 := by decide
theorem ix30 : ixN 3 0 = some 0 := by decide
theorem ix31 : ixN 3 1 = some 1 := by decide
theorem ix32 : ixN 3 2 = some 2 := by decide
theorem ix40 : ixN 4 0 = some 0 := by decide
theorem ix41 : ixN 4 1 = some 1 := by decide
theorem ix42 : ixN 4 2 = some 2 := by decide
theorem ix43 : ixN 4 3 = some 3 := by decide
theorem pair_beq {a b c d : Nat} : (((a, b) : Nat × Nat) == (c, d)) = (a == c && b == d) := rfl
theorem at0 {x : α} {xs : List α} : atI (x :: xs) 0 = some x := atI_nat (j := 0) rfl
theorem at1 {x y : α} {xs : List α} : atI (x :: y :: xs) 1 = some y := atI_nat (j := 1) rfl
theorem at2 {x y z : α} {xs : List α} : atI (x :: y :: z :: xs) 2 = some z := atI_nat (j := 2) rfl
theorem at3 {x y z w : α} {xs : List α} : atI (x :: y :: z :: w :: xs) 3 = some w := atI_nat (j := 3) rfl
theorem wp_bE {r : Option (α × En)} {k : α → En → Option β} : Wp (bE r k) Q ↔ Wp r fun z => Wp (k z.1 z.2) Q := by
  constructor
  · rintro ⟨b, h, q⟩
    obtain ⟨a, e, h1, h2⟩ := bE_some h
    exact ⟨(a, e), h1, b, h2, q⟩
  · rintro ⟨⟨a, e⟩, rfl, b, h2, q⟩
    exact ⟨b, h2, q⟩
theorem wp_bO {r : Option α} {k : α → Option β} : Wp (bO r k) Q ↔ Wp r fun z => Wp (k z) Q := by
  constructor
  · rintro ⟨b, h, q⟩
    obtain ⟨a, h1, h2⟩ := bO_some h
    exact ⟨a, h1, b, h2, q⟩
  · rintro ⟨a, rfl, b, h2, q⟩
    exact ⟨b, h2, q⟩
theorem wp_some {b : β} : Wp (some b) Q ↔ Q b := ⟨fun ⟨_, h, q⟩ => by cases h; exact q, fun q => ⟨b, rfl, q⟩⟩
theorem wp_none : Wp (none : Option β) Q ↔ False := by
  constructor
  · rintro ⟨_, h, _⟩; cases h
  · exact False.elim
theorem wp_guard {c : Bool} {k : Option β} : Wp (guardP c k) Q ↔ c = true ∧ Wp k Q := by
  constructor
  · rintro ⟨b, h, q⟩
    obtain ⟨h1, h2⟩ := guardP_some h
    exact ⟨h1, b, h2, q⟩
  · rintro ⟨rfl, b, h, q⟩
    exact ⟨b, h, q⟩
theorem wp_seq {f g : FS} {e : En} {Q : Out → Prop} : Wp (sSeq f g e) Q ↔ Wp (f e) fun o => match o with | .nx e1 => Wp (g e1) Q | o => Q o := by
  unfold sSeq
  cases f e with
  | none => simp [wp_none]
  | some o =>
    rw [wp_some]
    cases o <;> simp [wp_some]
theorem wp_bool {c : Bool} {x y : Option β} : Wp (bB c x y) Q ↔ ((c = true → Wp x Q) ∧ (c = false → Wp y Q)) := by
  cases c <;> simp [bB]
theorem bB_t {x y : β} : bB true x y = x := rfl
theorem bB_f {x y : β} : bB false x y = y := rfl
theorem Wp.mono {r : Option β} {Q Q' : β → Prop} (h : Wp r Q) (k : ∀ b, Q b → Q' b) : Wp r Q' := let ⟨b, e, q⟩ := h; ⟨b, e, k b q⟩
theorem Wp.eq {r : Option β} {b : β} (h : Wp r fun x => x = b) : r = some b := let ⟨_, e, q⟩ := h; q ▸ e
theorem wp_of {r : Option β} {b : β} (h : r = some b) (q : Q b) : Wp r Q := ⟨b, h, q⟩
end
theorem wp_fnM {ks : List Kd} {nl : Nat} {fr : Bool} {g : FS} {ps : List PV} {Q : PV × List PV → Prop} : Wp (fnM ks nl fr g ps) Q ↔ Wp (g (env0 ks ps ++ List.replicate nl none)) fun o => Wp (finM ks fr o) Q := by
  unfold fnM; exact wp_bO
theorem wp_call {ks : List Kd} {fr : Bool} {f : FN} {fa : FA} {e : En} {Q : Bv × En → Prop} : Wp (fCall ks fr f fa e) Q ↔ Wp (fa e) fun z => Wp (argP z.2 ks z.1) fun ps =>
    (decide ((mSlots ks z.1).Nodup) && (bSlots ks z.1).all fun i => !(mSlots ks z.1).contains i) = true ∧ Wp (f ps) fun rq => Wp (backE (rq.2.map fun q => some (.own q)) (mSlots ks z.1).zipIdx z.2) fun e2 => Q (resB rq.1 fr, e2) := by
  unfold fCall
  constructor
  · intro h
    obtain ⟨z, h1, h⟩ := wp_bE.mp h
    obtain ⟨ps, h2, h⟩ := wp_bO.mp h
    obtain ⟨g, h⟩ := wp_guard.mp h
    obtain ⟨rq, h3, h⟩ := wp_bO.mp h
    obtain ⟨e2, h4, h⟩ := wp_bO.mp h
    exact ⟨z, h1, ps, h2, g, rq, h3, e2, h4, wp_some.mp h⟩
  · rintro ⟨z, h1, ps, h2, g, rq, h3, e2, h4, q⟩
    exact wp_bE.mpr ⟨z, h1, wp_bO.mpr ⟨ps, h2, wp_guard.mpr ⟨g, wp_bO.mpr ⟨rq, h3, wp_bO.mpr ⟨e2, h4, wp_some.mpr q⟩⟩⟩⟩⟩
theorem wp_loop {body : PV → En → Option Out} (I : Nat → En → Prop) {Q : Out → Prop} {xs : List PV} (hs : ∀ (i : Nat) x e, xs[i]? = some x → I i e → Wp (body x e) fun o => match o with | .nx e1 => I (i + 1) e1 | .ct e1 => I (i + 1) e1 | .bk e1 => Q (.nx e1) | .rt b e1 => Q (.rt b e1))
    (hd : ∀ e, I xs.length e → Q (.nx e)) {e : En} (h0 : I 0 e) : Wp (loopM body xs e) Q := by
  have key : ∀ (ys : List PV) (i : Nat) (e : En), i ≤ xs.length → xs.drop i = ys → I i e → Wp (loopM body ys e) Q := by
    intro ys
    induction ys with
    | nil =>
      intro i e hil hy hi
      unfold loopM
      rw [wp_some]
      have hl : xs.length ≤ i := by
        have := congrArg List.length hy
        rw [List.length_drop] at this
        simp at this
        omega
      have h : i = xs.length := by omega
      subst h
      exact hd e hi
    | cons x ys ih =>
      intro i e hil hy hi
      have hlt : i < xs.length := by
        have := congrArg List.length hy
        rw [List.length_drop, List.length_cons] at this
        omega
      rw [List.drop_eq_getElem_cons hlt] at hy
      have hx : xs[i]? = some x := by rw [List.getElem?_eq_getElem hlt, (List.cons.inj hy).1]
      obtain ⟨o, h1, h2⟩ := hs i x e hx hi
      unfold loopM
      rw [h1]
      cases o with
      | nx e1 => exact ih (i + 1) e1 hlt (List.cons.inj hy).2 h2
      | ct e1 => exact ih (i + 1) e1 hlt (List.cons.inj hy).2 h2
      | bk e1 => exact wp_some.mpr h2
      | rt b e1 => exact wp_some.mpr h2
  exact key xs 0 e (Nat.zero_le _) rfl h0
theorem wp_fcomp {fi : FI} {k : Nat} {cap : List Nat} {ms : List (Nat × Nat)} {fg : FG} {ft : FT} {fe : FE} {e : En} {Q : Bv × En → Prop} : Wp (fComp fi k cap ms fg ft fe e) Q ↔ Wp (fi (fun i => !(ms.any fun z => z.1 == i)) e) fun z => z.1.length < 1000000 ∧ Wp (compM fg ft fe z.1 (innE k cap ms z.2)) fun w => Wp (backE w.2 ms z.2) fun e2 => Q (.new (.lst w.1), e2) := by
  unfold fComp
  constructor
  · intro h
    obtain ⟨z, h1, h⟩ := wp_bE.mp h
    obtain ⟨g, h⟩ := wp_guard.mp h
    obtain ⟨w, h2, h⟩ := wp_bE.mp h
    obtain ⟨e2, h3, h⟩ := wp_bO.mp h
    exact ⟨z, h1, of_decide_eq_true g, w, h2, e2, h3, wp_some.mp h⟩
  · rintro ⟨z, h1, g, w, h2, e2, h3, q⟩
    exact wp_bE.mpr ⟨z, h1, wp_guard.mpr ⟨decide_eq_true g, wp_bE.mpr ⟨w, h2, wp_bO.mpr ⟨e2, h3, wp_some.mpr q⟩⟩⟩⟩
theorem wp_ffor {fi : FI} {fg : FG} {fb : FS} {e : En} {Q : Out → Prop} : Wp (sFor fi fg fb e) Q ↔ Wp (fi (fun _ => false) e) fun z => Wp (loopM (fun x e => bO (fg x e) fb) z.1 z.2) Q := by
  unfold sFor
  rw [wp_bE]
theorem eqP_nn : eqP PV.non PV.non = true := by simp [eqP]
theorem eqP_nb {y : Bool} : eqP PV.non (PV.bl y) = false := by simp [eqP]
theorem eqP_ni {y : Int} : eqP PV.non (PV.int y) = false := by simp [eqP]
theorem eqP_ns {y : Str} : eqP PV.non (PV.str y) = false := by simp [eqP]
theorem eqP_nt {y : List PV} : eqP PV.non (PV.tup y) = false := by simp [eqP]
theorem eqP_nl {y : List PV} : eqP PV.non (PV.lst y) = false := by simp [eqP]
theorem eqP_bn {x : Bool} : eqP (PV.bl x) PV.non = false := by simp [eqP]
theorem eqP_bb {x : Bool} {y : Bool} : eqP (PV.bl x) (PV.bl y) = (x == y) := by simp [eqP]
theorem eqP_bi {x : Bool} {y : Int} : eqP (PV.bl x) (PV.int y) = ((if x then 1 else 0) == y) := by simp [eqP]
theorem eqP_bs {x : Bool} {y : Str} : eqP (PV.bl x) (PV.str y) = false := by simp [eqP]
theorem eqP_bt {x : Bool} {y : List PV} : eqP (PV.bl x) (PV.tup y) = false := by simp [eqP]
theorem eqP_bl {x : Bool} {y : List PV} : eqP (PV.bl x) (PV.lst y) = false := by simp [eqP]
theorem eqP_in {x : Int} : eqP (PV.int x) PV.non = false := by simp [eqP]
theorem eqP_ib {x : Int} {y : Bool} : eqP (PV.int x) (PV.bl y) = (x == (if y then 1 else 0)) := by simp [eqP]
theorem eqP_ii {x : Int} {y : Int} : eqP (PV.int x) (PV.int y) = (x == y) := by simp [eqP]
theorem eqP_is {x : Int} {y : Str} : eqP (PV.int x) (PV.str y) = false := by simp [eqP]
theorem eqP_it {x : Int} {y : List PV} : eqP (PV.int x) (PV.tup y) = false := by simp [eqP]
theorem eqP_il {x : Int} {y : List PV} : eqP (PV.int x) (PV.lst y) = false := by simp [eqP]
theorem eqP_sn {x : Str} : eqP (PV.str x) PV.non = false := by simp [eqP]
theorem eqP_sb {x : Str} {y : Bool} : eqP (PV.str x) (PV.bl y) = false := by simp [eqP]
theorem eqP_si {x : Str} {y : Int} : eqP (PV.str x) (PV.int y) = false := by simp [eqP]
theorem eqP_ss {x : Str} {y : Str} : eqP (PV.str x) (PV.str y) = (x == y) := by simp [eqP]
theorem eqP_st {x : Str} {y : List PV} : eqP (PV.str x) (PV.tup y) = false := by simp [eqP]
theorem eqP_sl {x : Str} {y : List PV} : eqP (PV.str x) (PV.lst y) = false := by simp [eqP]
theorem eqP_tn {x : List PV} : eqP (PV.tup x) PV.non = false := by simp [eqP]
theorem eqP_tb {x : List PV} {y : Bool} : eqP (PV.tup x) (PV.bl y) = false := by simp [eqP]
theorem eqP_ti {x : List PV} {y : Int} : eqP (PV.tup x) (PV.int y) = false := by simp [eqP]
theorem eqP_ts {x : List PV} {y : Str} : eqP (PV.tup x) (PV.str y) = false := by simp [eqP]
theorem eqP_tt {x : List PV} {y : List PV} : eqP (PV.tup x) (PV.tup y) = eqPL x y := by simp [eqP]
theorem eqP_tl {x : List PV} {y : List PV} : eqP (PV.tup x) (PV.lst y) = false := by simp [eqP]
theorem eqP_ln {x : List PV} : eqP (PV.lst x) PV.non = false := by simp [eqP]
theorem eqP_lb {x : List PV} {y : Bool} : eqP (PV.lst x) (PV.bl y) = false := by simp [eqP]
theorem eqP_li {x : List PV} {y : Int} : eqP (PV.lst x) (PV.int y) = false := by simp [eqP]
theorem eqP_ls {x : List PV} {y : Str} : eqP (PV.lst x) (PV.str y) = false := by simp [eqP]
theorem eqP_lt {x : List PV} {y : List PV} : eqP (PV.lst x) (PV.tup y) = false := by simp [eqP]
theorem eqP_ll {x : List PV} {y : List PV} : eqP (PV.lst x) (PV.lst y) = eqPL x y := by simp [eqP]
theorem eqPL_36 : eqPL [] [] = true := by simp [eqPL]
theorem eqPL_37 {x y : PV} {xs ys : List PV} : eqPL (x :: xs) (y :: ys) = (eqP x y && eqPL xs ys) := by simp [eqPL]
theorem eqPL_38 {y : PV} {ys : List PV} : eqPL [] (y :: ys) = false := by simp [eqPL]
theorem eqPL_39 {x : PV} {xs : List PV} : eqPL (x :: xs) [] = false := by simp [eqPL]
end Mr
set_option Elab.async false
set_option linter.all false
set_option maxRecDepth 100000
set_option maxHeartbeats 4000000
namespace Mr
open PySem PySem.Spec L2 PyProof.Rows
section
variable {K : PySem.W.Frag}
noncomputable def gGet1 : PV → PV → Option Bv
  | .dct kvs, p => bO (keyOf p) fun k => some (.val ((valP kvs k).getD .non))
  | _, _ => none
noncomputable def fGet1 (fa fb : FE) : FE := fun e => bE (fa e) fun x e1 => bO (x.weak.get e1) fun p1 => match p1 with
  | .dct _ => bE (fb e1) fun y e2 => bO (x.weak.get e2) fun p => bO (y.weak.get e2) fun q => bO (gGet1 p q) fun b => some (b, e2)
  | _ => none
theorem ref_get1 {ta tb : TE} {fa fb : FE} (ha : Ref K ta fa) (hb : Ref K tb fb) : Ref K (tDGet1 ta tb) (fGet1 fa fb) := by
  intro O M W L σ H e e' b Q o he hf q
  obtain ⟨x, e1, f1, hf⟩ := bE_some hf
  obtain ⟨p1, g0, hf⟩ := bO_some hf
  cases p1 with
  | dct kvs1 =>
    obtain ⟨y, e2, f2, hf⟩ := bE_some hf
    obtain ⟨p, g1, hf⟩ := bO_some hf
    obtain ⟨p', g2, hf⟩ := bO_some hf
    obtain ⟨c, g3, hf⟩ := bO_some hf
    cases hf
    refine ha O M W L σ H e e1 x _ o he f1 fun v1 H1 k1 r1 fr => ?_
    have o1 := o.keep k1.dom
    obtain ⟨a1, ys1, e11, ha1, _, _⟩ := ((r1.rv o1).red (r1.en o1) g0).dcts
    refine ⟨a1, e11, .inl ⟨ys1, ha1⟩, ?_⟩
    refine hb O M W L σ H1 e1 _ y _ o1 (r1.en o1) f2 fun v2 H2 k2 r2 fr => ?_
    have o2 := o1.keep k2.dom
    have en := r2.en o2
    have rp := ((r1.rv o1).keep o1 k2).red en g1
    have rq := (r2.rv o2).red en g2
    cases p with
    | dct kvs =>
      obtain ⟨key, g4, g3⟩ := bO_some g3
      cases g3
      obtain ⟨a, ys, e3, ha', ek, r⟩ := rp.dcts
      rw [e11] at e3
      cases e3
      refine ⟨valV ys key, .inl ⟨ys, key, ha', rq.key g4, rfl⟩, ?_⟩
      refine q _ H2 (k1.trans k2) ?_ ?_
      · refine ⟨en, ?_⟩
        rcases RepD.val key ⟨ek, r⟩ with ⟨h1, h2⟩ | ⟨p'', v', h1, h2, h3⟩
        · rw [h1, h2]; exact .non
        · rw [h1, h2]; exact h3
      · trivial
    | _ => cases g3
  | _ => cases hf
theorem e_fGet1 {fa fb : FE} {e : En} : fGet1 fa fb e = bE (fa e) fun x e1 => bO (x.weak.get e1) fun p1 => match p1 with
  | .dct _ => bE (fb e1) fun y e2 => bO (x.weak.get e2) fun p => bO (y.weak.get e2) fun q => bO (gGet1 p q) fun b => some (b, e2)
  | _ => none := rfl
end
end Mr
set_option Elab.async false
set_option linter.all false
set_option maxRecDepth 100000
set_option maxHeartbeats 4000000
namespace L2
open PySem PySem.Spec PyProof.Rows PySem.W
section
variable {prog : Program} {w : World} {A : Around} {E : Value → Shared → Prop} {s : Shared} {T : String} {r d : Addr} {n : Nat} {Pz : Nat → Value → Prop} {OKh : Heap → Prop}
noncomputable def Grew (s s' : Shared) : Prop := ∃ h' tk dr, s' = { s with heap := h', toks := tk, drawn := dr } ∧ s.heap.objs.size ≤ h'.objs.size ∧ ∀ b o, s.heap.get? b = some o → h'.get? b = some o
theorem Grew.size {s s' : Shared} (g : Grew s s') : s.heap.objs.size ≤ s'.heap.objs.size := by
  obtain ⟨h', tk, dr, rfl, k, _⟩ := g
  exact k
theorem collect_src {Q : List Value → Shared → Prop} (K : KdlSrc prog w T r d n Pz OKh) (hh : A.handled = none) (hok : OKh s.heap) (hn : n ≤ sizeLine)
    (hq : ∀ vs s', Grew s s' → vs.length = n → (∀ j v, vs[j]? = some v → Pz j v) → Q vs s') : wpAny (model prog w) A (collect (.ref r)) Q E s := by
  have ha := K.there _ hok
  have fin : ∀ (h' : Heap) (tk : Nat) (acc : Array Value) (c : Nat), (∀ b o, s.heap.get? b = some o → h'.get? b = some o) →
      h'.get? s.heap.objs.size = some { cls := .type "list", dict := none, data := .seq acc c, slots := #[] } → ItemsOf Pz acc n →
      wpAny (model prog w) A (match Value.ref s.heap.objs.size with
        | Value.ref a => do
          match (← load a).data with
            | Data.seq xs _ => pure xs.toList
            | _ => unsupported "internal:collect"
        | _ => unsupported "internal:collect") Q E { s with heap := h', toks := tk } := fun h' tk acc c kp hS hacc => by
    show wpAny _ A (load s.heap.objs.size >>= _) _ _ _
    exact wpAny_bind (wpAny_load hS (wpAny_pure (hq _ _ ⟨h', tk, s.drawn, rfl, Nat.le_of_lt (Heap.lt_size hS), kp⟩ (by rw [Array.length_toList]; exact hacc.1) fun j v e => hacc.2 j v (by rw [← Array.getElem?_toList]; exact e))))
  unfold collect
  refine wpAny_bind (wpAny_runValue (codeAny_builtin F.entry_proto_collect ?_))
  rw [Around.under_plainId F.plain_proto_collect _]
  refine wpAny_bind (m := newList []) (wpAny_newObj_type ?_)
  refine wpAny_pure ⟨plainId_quiet F.plain_list_iadd _, codeAny_builtin F.entry_list_iadd ?_⟩
  rw [Around.under_plainId F.plain_list_iadd _]
  have e0 : (s.heap.push { cls := .type "list", data := .seq ([] : List Value).toArray }).get? s.heap.objs.size = some { cls := .type "list", data := .seq #[] 0 } := Heap.get?_push_size _ rfl
  have key := kdl_extend (A := A) (s := { s with heap := s.heap.push { cls := .type "list", data := .seq ([] : List Value).toArray } }) (R := fun rs s' => ∃ h' tk acc c, rs = .ok (.ret (.ref s.heap.objs.size)) ∧ s' = { s with heap := h', toks := tk } ∧ (∀ b o, s.heap.get? b = some o → h'.get? b = some o) ∧ h'.get? s.heap.objs.size = some { cls := .type "list", dict := none, data := .seq acc c, slots := #[] } ∧ ItemsOf Pz acc n) K hh (K.keep _ _ hok fun b _ o e => Heap.get?_push_of_some _ e) s.heap.objs.size (Nat.ne_of_gt ha.1) (Nat.ne_of_gt ha.2) (.ref s.heap.objs.size) 0 e0
    (fun h' tk acc c kp hS hacc => ⟨h', tk, acc, c, rfl, rfl, fun b o e => kp b o (Nat.ne_of_lt (Heap.lt_size e)) (Heap.get?_push_of_some _ e), hS, hacc⟩) hn
  refine wpAny_mono key (fun f s' h => ?_) fun e s' h => ?_
  · cases f with
    | done f =>
      obtain ⟨h', tk, acc, c, e1, rfl, kp, hS, hacc⟩ := h
      cases e1
      exact fin h' tk acc c kp hS hacc
    | again c' =>
      refine ⟨h.1, codeAny_mono h.2 fun rs s2 hr => ?_⟩
      obtain ⟨h', tk, acc, c, rfl, rfl, kp, hS, hacc⟩ := hr
      exact fin h' tk acc c kp hS hacc
  · obtain ⟨h', tk, acc, c, e1, _⟩ := h
    cases e1
theorem tuple_src {Q : Value → Shared → Prop} (K : KdlSrc prog w T r d n Pz OKh) (hnt : T ≠ "tuple") (hh : A.handled = none) (hok : OKh s.heap) (hn : n ≤ sizeLine)
    (hq : ∀ (vs : List Value) s1, Grew s s1 → vs.length = n → (∀ j v, vs[j]? = some v → Pz j v) → Q (.ref s1.heap.objs.size) { s1 with heap := s1.heap.push { cls := .type "tuple", data := .seq vs.toArray } }) :
    wpAny (model prog w) A (call (.type "tuple") [.ref r]) Q E s := by
  have hT := K.type s hok
  refine callType_codes (Q₁ := fun obj s₁ => s₁.TypeIs obj "tuple" ∧ Q obj s₁) F.called_tuple (F.typeCall_tuple_1 _) F.entry_object_init ?_ fun obj s₁ h₁ =>
    ⟨h₁.1, F.args_object_init_2 obj _, object_init_meets F.called_tuple.init.lookup F.called_tuple.made (by decide) prog w A.in1 _ s₁ ⟨h₁.1, rfl, h₁.2⟩⟩
  refine codeAny_of_tree ?_
  refine wpAny_bind (m := checkBuiltinCall "tuple.__new__" ⟨[.type "tuple", .ref r], []⟩) (wpAny_of_eq (F.newCall_tuple_1 _) (wpAny_pure ⟨plainId_quiet F.plain_tuple_new _, codeAny_builtin F.entry_tuple_new ?_⟩))
  rw [Around.under_plainId F.plain_tuple_new _]
  have a1 := sub_tuple_self
  have a2 := init_tuple_lookup
  have a3 := madeHere_tuple
  have a4 : (Value.type T == Value.type "tuple") = false := K.notTuple
  unfold Builtin.«tuple.__new__»
  generalize hC : collect = C
  wp_walk using wpAny_typeOf hT
  subst hC
  refine collect_src K hh hok hn fun vs s1 g hl hv => ?_
  refine wpAny_bind (wpAny_pure ?_)
  unfold Builtin.Tuple.tupleExact
  refine wpAny_bind (m := newObj (.type "tuple") (.seq vs.toArray)) (wpAny_newObj_type ?_ (by show vs.toArray.size ≤ sizeLine; rw [List.size_toArray, hl]; exact hn))
  exact wpAny_pure ⟨⟨_, Heap.get?_push_size _ rfl, rfl⟩, hq vs s1 g hl hv⟩
end
section
variable {X : Cx} {pins : List (Addr × Obj)} {σ : St} {H : Hp} {s s' : Shared}
theorem Inv.grew (I : Inv X pins σ H s) (g : Grew s s') : Inv X pins σ H s' := by
  obtain ⟨h', tk, dr, rfl, _, k⟩ := g
  exact I.call (g' := s.gens) (d' := dr) (t' := tk) (ch := []) (Un.kept k) (I.hok.kept k) I.bare fun _ z => nomatch z
theorem Grew.push (g : Grew s s') (o : Obj) : Grew s { s' with heap := s'.heap.push o } := by
  obtain ⟨h', tk, dr, rfl, gz, k⟩ := g
  exact ⟨h'.push o, tk, dr, rfl, by rw [size_push']; exact Nat.le_succ_of_le gz, fun b u e => Heap.get?_push_of_some _ (k b u e)⟩
end
end L2
set_option Elab.async false
set_option linter.all false
set_option maxRecDepth 100000
set_option maxHeartbeats 4000000
namespace L2
open PySem PySem.Spec PyProof.Rows PySem.W
noncomputable def ValV (v d : Addr) : HO := .ext fun h => h.IsValuesView v d
theorem Rd.upd {H : Hp} {a l : Addr} {o u : HO} (h : Rd H a o) (hl : H l = none) : Rd (upd H l u) a o := by
  have ne : a ≠ l := by
    rintro rfl
    rcases h with h | ⟨_, h⟩ <;> (rw [hl] at h; cases h)
  rcases h with h | ⟨x, h⟩
  · exact .inl (by rw [upd_ne ne]; exact h)
  · exact .inr ⟨x, by rw [upd_ne ne]; exact h⟩
theorem KV.vals {kvs : List (Key × V)} {vs : List (Key × Value)} (r : KV kvs vs) : Vals (kvs.map (·.2)) (vs.map (·.2)) := by
  unfold KV at r
  induction r with
  | nil => exact .nil
  | cons h t ih => exact .cons h.2 ih
theorem KV.len {kvs : List (Key × V)} {vs : List (Key × Value)} (r : KV kvs vs) : kvs.length = vs.length := by
  have := congrArg List.length r.keys
  simpa using this
theorem RdK.upd {H : Hp} {a l : Addr} {kvs : List (Key × V)} {u : HO} (h : RdK H a kvs) (hl : H l = none) : RdK (upd H l u) a kvs := let ⟨ep, e⟩ := h; ⟨ep, Rd.upd e hl⟩
section
variable {X : Cx}
noncomputable def tVals (to : TE) : TE := fun σ H Q => to σ H fun x H1 => ∃ a kvs, x = .ref a ∧ RdK H1 a kvs ∧ ∀ v, H1 v = none → Q (.ref v) (upd H1 v (ValV v a))
theorem pe_vals {o : Expr} {to : TE} {apos cpos : Pos} (ho : PE X o to) (hbase : attributeBase o "values" X.env (eval o X.env) = eval o X.env := by rfl) (hline : (apos.endLine == cpos.line) = true := by rfl) :
    PE X (.Call (.Attribute o "values" apos) [] [] cpos) (tVals to) := by
  intro pins s σ H Q I h
  refine wpAny_Call_method0_late hbase hline (thn (ho pins s σ H _ I h) fun v s1 ⟨x, H1, I1, r1, a, kvs, ex, ha, q1⟩ => ?_)
  subst ex
  obtain rfl : v = Value.ref a := r1
  obtain ⟨hz, hd, vs, rel, dd⟩ := dk_rd I1.hok ha
  refine ⟨"dict", "dict.values", PySem.F.plainAttrs_dict, PySem.F.slot_dict_values, PySem.F.type_dict_values, dd.typeIs, dd.mapOf.noDict, Calls.callWith_builtin rfl (PySem.evalArgs_none ?_)⟩
  refine call_meetsIn PySem.F.slot_dict_values dd.typeIs PySem.F.entry_dict_values (PySem.F.args_dict_values_1 _) (meets_dict_values (mixKind X.prog X.w) a hd) ⟨⟨vs, dd⟩, ?_⟩
  have e0 : (s1.heap.push { cls := .type "dict_values", data := .fields #[.ref a] }).get? s1.heap.objs.size = some { cls := .type "dict_values", data := .fields #[.ref a] } := Heap.get?_push_size _ rfl
  refine ⟨.ref s1.heap.objs.size, _, I1.laid (t' := s1.toks) (o := ValV s1.heap.objs.size a) (fun b u e => Heap.get?_push_of_some _ e) (Nat.le_refl _) ⟨⟨_, e0, rfl, rfl⟩, ⟨_, e0⟩, fun h1 h2 ⟨u, e, c⟩ k => ⟨u, k u e, c⟩⟩, rfl, q1 _ (I1.hok.fresh (Nat.le_refl _))⟩
noncomputable def rTupV : List V → Hp → VK → Prop := fun xs H Q => ∃ v a kvs, xs = [.ref v] ∧ H v = some (ValV v a) ∧ RdK H a kvs ∧ ∀ l, H l = none → Q (.ref l) (upd H l (.tup (kvs.map (·.2))))
theorem tupV (hc : X.calm = true := by rfl) : CallR X (.type "tuple") rTupV := by
  intro pins s σ H xs us Q I r ⟨v, a, kvs, e, hv, ha, q⟩
  subst e
  obtain ⟨u, rfl, rx⟩ := vals1 r
  cases rx
  obtain ⟨hz, hd, vs, rel, dd⟩ := dk_rd I.hok ha
  obtain ⟨ep, dd⟩ := dd.dictAt
  refine tuple_src (kdl_values (knd := mixKind X.prog X.w) (r := v) (d := a) (kvs := vs) (ep := ep)) (by decide) (by exact I.ok.hd hc) ⟨(I.hok v _ hv).1, dd⟩ (by rw [← rel.len]; exact hz) fun ws s1 g hl hw => ?_
  have ew := kdl_vals_eq ws hl hw
  subst ew
  have I1 := I.grew g
  exact ⟨.ref s1.heap.objs.size, _, I1.laid (t' := s1.toks) (o := .tup (kvs.map (·.2))) (fun b o e => Heap.get?_push_of_some _ e) (Nat.le_refl _) ⟨by rw [List.length_map]; exact hz, _, rel.vals, IsTup.new _ _⟩, rfl, q _ (I1.hok.fresh (Nat.le_refl _))⟩
end
end L2
set_option Elab.async false
set_option linter.all false
set_option maxRecDepth 100000
set_option maxHeartbeats 4000000
namespace L2
open PySem PySem.Spec PyProof.Rows PySem.W
section
theorem lay_led (t : SetTable) (es : Array (Int × Value)) (h : Int) (x : Value) : (layNew t es h x).2.1.led = t.led := by
  unfold layNew
  split
  · dsimp only
    generalize hp : SetTable.put t _ = z
    have hz : z.1.led = t.led := by rw [← hp]; rfl
    unfold SetTable.orStandIn
    split
    · exact hz
    · exact hz
  · rfl
theorem relay_lp (t : SetTable) (es : Array (Int × Value)) (n : Nat) : (relayAll t es n).2.1.led = t.led ∧ (t.plain = false → (relayAll t es n).2.1.plain = false) := by
  unfold relayAll
  split
  · rename_i t' order e
    have k : t'.led = t.led ∧ t'.plain = t.plain := by
      unfold SetTable.relaid SetTable.laid at e
      cases c : SetTable.layClean (SetTable.sizeAbove n - 1) (es.map (·.1)) with
      | none => rw [c] at e; cases e
      | some o => rw [c] at e; cases e; exact ⟨rfl, rfl⟩
    dsimp only
    split
    · exact ⟨k.1, fun z => k.2.trans z⟩
    · exact ⟨rfl, fun _ => rfl⟩
  · exact ⟨rfl, fun _ => rfl⟩
variable (prog : Program) (w : World)
noncomputable abbrev byT : Bool := w.params.followText "set-order"
noncomputable def SetAt (h : Heap) (a : Addr) (ks : List Str) (es : Array (Int × Value)) (ep : Nat) (t : SetTable) : Prop :=
  ∃ o, h.get? a = some o ∧ o.ExactSet ∧ o.data = .set es ep t ∧ ElemsOf (PySem.strKind prog w) es.toList ∧ (∃ us, StrsAre (es.toList.map (·.2)) us ∧ us.Perm ks) ∧ es.size < scanBound ∧ t.fits es.size = true ∧ t.led = !byT w ∧ (es.size = 0 ∨ t.plain = false)
noncomputable def StrSet (h : Heap) (a : Addr) (ks : List Str) : Prop := ∃ es ep t, SetAt prog w h a ks es ep t
variable {prog w}
theorem SetAt.at' {h h' : Heap} {a : Addr} {ks : List Str} {es : Array (Int × Value)} {ep : Nat} {t : SetTable} (x : SetAt prog w h a ks es ep t) (k : ∀ o, h.get? a = some o → h'.get? a = some o) : SetAt prog w h' a ks es ep t := let ⟨o, e, r⟩ := x; ⟨o, k o e, r⟩
theorem StrSet.at' {h h' : Heap} {a : Addr} {ks : List Str} (x : StrSet prog w h a ks) (k : ∀ o, h.get? a = some o → h'.get? a = some o) : StrSet prog w h' a ks := let ⟨es, ep, t, r⟩ := x; ⟨es, ep, t, r.at' k⟩
noncomputable def addS (ks : List Str) (x : Str) : List Str := if x ∈ ks then ks else ks ++ [x]
theorem is_str {k x : Str} {t : Tok} : (PySem.strKind prog w).is k (.str x t) = decide (k = x) := KeyKind.is_eq_decide (strKind_is _ _ _ _) k
theorem mem_strs : ∀ {vs : List Value} {us : List Str}, StrsAre vs us → ∀ k, (∃ v ∈ vs, (PySem.strKind prog w).is k v = true) ↔ k ∈ us
  | _, _, .nil, k => by simp
  | _, _, .cons x t r, k => by
    have ih := mem_strs r k
    rw [List.mem_cons, ← ih]
    constructor
    · rintro ⟨v, hv, h⟩
      rcases List.mem_cons.mp hv with rfl | hv
      · rw [is_str] at h; exact .inl (of_decide_eq_true h)
      · exact .inr ⟨v, hv, h⟩
    · rintro (rfl | ⟨v, hv, h⟩)
      · exact ⟨_, List.mem_cons_self, by rw [is_str]; exact decide_eq_true rfl⟩
      · exact ⟨v, List.mem_cons_of_mem _ hv, h⟩
theorem strs_perm : ∀ {vs vs' : List Value} {us : List Str}, vs'.Perm vs → StrsAre vs us → ∃ us', StrsAre vs' us' ∧ us'.Perm us := by
  intro vs vs' us p h
  have e : ∀ {l : List Value} {m : List Str}, StrsAre l m → m = l.map strOf ∧ ∀ v ∈ l, ∃ x t, v = .str x t := fun q => ⟨q.strs.symm, q.all⟩
  obtain ⟨e1, e2⟩ := e h
  refine ⟨vs'.map strOf, strsAre_map _ fun v hv => e2 v (p.mem_iff.mp hv), ?_⟩
  rw [e1]
  exact p.map strOf
variable {A : Around} {E : Value → Shared → Prop} {s : Shared}
theorem SetAt.put {h : Heap} {a : Addr} {o : Obj} {es es' : Array (Int × Value)} {ep : Nat} {t t' : SetTable} {ks' : List Str} (ho : h.get? a = some o) (hex : o.ExactSet) (hd : o.data = .set es ep t)
    (hel : ElemsOf (PySem.strKind prog w) es'.toList) (hu : ∃ us, StrsAre (es'.toList.map (·.2)) us ∧ us.Perm ks') (hb : es'.size < scanBound) (hf : t'.fits es'.size = true) (hl : t'.led = !byT w) (hp : t'.plain = false) :
    ∃ o', (h.update a (Obj.putSet es' t')).get? a = some o' ∧ o'.ExactSet ∧ o'.data = .set es' (ep + 1) t' ∧ SetAt prog w (h.update a (Obj.putSet es' t')) a ks' es' (ep + 1) t' := by
  have g : (h.update a (Obj.putSet es' t')).get? a = some { o with data := .set es' (ep + 1) t' } := by
    have := Heap.get?_update_self (Obj.putSet es' t') ho (by rw [putSet_of es' t' hd]; rfl)
    rw [putSet_of es' t' hd] at this
    exact this
  exact ⟨_, g, hex, rfl, _, g, hex, rfl, hel, hu, hb, hf, hl, .inr hp⟩
theorem elems_strs {l l' : List (Int × Value)} {us : List Str} (p : l'.Perm l) (h : StrsAre (l.map (·.2)) us) : ∃ us', StrsAre (l'.map (·.2)) us' ∧ us'.Perm us := strs_perm (p.map _) h
theorem add_str {a : Addr} {ks : List Str} {x : Str} {tk : Tok} {Q : Bool → Shared → Prop} (hS : StrSet prog w s.heap a ks) (hroom : ks.length + 1 < scanBound)
    (h : ∀ h' b, Heap.SameBut a s.heap h' → StrSet prog w h' a (addS ks x) → Q b { s with heap := h' }) : wpAny (model prog w) A (setAddHashed a (.str x tk) ((PySem.strKind prog w).hash x)) Q E s := by
  obtain ⟨es, ep, t, o, ho, hex, hd, hel, ⟨us, hus, hpm⟩, hb, hf, hled, hpl⟩ := hS
  have hn : es.size = ks.length := by
    have := hus.length
    rw [List.length_map, Array.length_toList, hpm.length_eq] at this
    exact this
  have hkey : (PySem.strKind prog w).is x (.str x tk) = true := strKind_is _ _ _ _
  have hmem : (∃ e ∈ es.toList, (PySem.strKind prog w).is x e.2 = true) ↔ x ∈ ks := by
    rw [← hpm.mem_iff, ← mem_strs (prog := prog) (w := w) hus x]
    constructor
    · rintro ⟨e, he, q⟩; exact ⟨e.2, List.mem_map.mpr ⟨e, he, rfl⟩, q⟩
    · rintro ⟨v, hv, q⟩
      obtain ⟨e, he, rfl⟩ := List.mem_map.mp hv
      exact ⟨e, he, q⟩
  unfold setAddHashed setAddHashedIn
  refine wpAny_holding (wpAny_bind (wpAny_setState_of ho hd hf ?_))
  dsimp only
  rw [byScan_of (x := .str x tk) rfl hb hel]
  simp only [↓reduceIte]
  unfold setAddByScan
  refine wpAny_bind (wpAny_bind (wpAny_rule (wpAny_bind (wpAny_setScan_of hkey ho hd hf hel ?_))))
  cases hr : List.findIdx? (fun e => (PySem.strKind prog w).is x e.2) es.toList with
  | some j =>
    dsimp only
    obtain ⟨hj, hpj, _⟩ := List.findIdx?_eq_some_iff_getElem.mp hr
    have hx : x ∈ ks := hmem.mp ⟨_, List.getElem_mem hj, hpj⟩
    refine wpAny_pure (wpAny_pure ?_)
    have := h s.heap false (Heap.SameBut.refl a s.heap) (by unfold addS; rw [if_pos hx]; exact ⟨es, ep, t, o, ho, hex, hd, hel, ⟨us, hus, hpm⟩, hb, hf, hled, hpl⟩)
    exact this
  | none =>
    dsimp only
    have hx : x ∉ ks := fun z => by
      obtain ⟨e, he, q⟩ := hmem.mpr z
      have := List.findIdx?_eq_none_iff.mp hr e he
      rw [q] at this
      cases this
    have gw : ∀ (b : Bool) {s₁ : Shared} {Q' : Unit → Shared → Prop}, Q' () s₁ → wpAny (model prog w) A (match b with | true => rule "set.scan.the-table-gave-way" | false => pure ()) Q' E s₁ :=
      fun b s₁ Q' hq => by
        cases b
        · exact wpAny_pure hq
        · exact wpAny_rule hq
    have p1 := layNew_perm t es ((PySem.strKind prog w).hash x) (.str x tk)
    have f1 := layNew_fits t es ((PySem.strKind prog w).hash x) (.str x tk)
    have l1 := lay_led t es ((PySem.strKind prog w).hash x) (.str x tk)
    generalize layNew t es ((PySem.strKind prog w).hash x) (.str x tk) = Z at p1 f1 l1 ⊢
    obtain ⟨es1, t1, dum, gave⟩ := Z
    dsimp only at p1 f1 l1 ⊢
    rw [Array.toList_push] at p1
    have el1 : ElemsOf (PySem.strKind prog w) es1.toList := (hel.push hkey rfl).perm p1
    have z1 : es1.size = ks.length + 1 := by rw [← Array.length_toList, p1.length_eq, List.length_append, Array.length_toList, hn]; rfl
    have b1 : es1.size < scanBound := by rw [z1]; exact hroom
    have u1 : ∃ us', StrsAre (es1.toList.map (·.2)) us' ∧ us'.Perm (addS ks x) := by
      have q : StrsAre ((es.toList ++ [((PySem.strKind prog w).hash x, Value.str x tk)]).map (·.2)) (us ++ [x]) := by
        rw [List.map_append]
        have app : ∀ {l : List Value} {m : List Str}, StrsAre l m → StrsAre (l ++ [.str x tk]) (m ++ [x]) := by
          intro l m hl
          induction hl with
          | nil => exact .cons x tk .nil
          | cons y t r ih => exact .cons y t ih
        exact app hus
      obtain ⟨us', a1, a2⟩ := elems_strs p1 q
      exact ⟨us', a1, by unfold addS; rw [if_neg hx]; exact a2.trans (hpm.append_right [x])⟩
    refine wpAny_bind (gw _ ?_)
    have tail : ∀ t2 : SetTable, t2.fits es1.size = true → t2.led = !byT w → t2.plain = false → wpAny (model prog w) A (do
        storeSet a es1 t2
        if (!dum && t2.tooFull) = true then do
            let (es, t, gave) := relayAll t2 es1 (SetTable.grown es1.size)
            (match gave with | true => rule "set.scan.the-table-gave-way" | false => pure ())
            storeSet a es t
            return some true
          else return some true) (fun r s' => wpAny (model prog w) A (match r with | some added => pure added | none => setAddHashedIn a (.str x tk) ((PySem.strKind prog w).hash x) 99999) Q E s') E s := fun t2 f2 l2 pl2 => by
      refine wpAny_bind (wpAny_storeSet_of ho hd ?_ (fits_of_scanBound b1))
      obtain ⟨o2, ho2, hex2, hd2, hS2⟩ := SetAt.put ho hex hd el1 u1 b1 f2 l2 pl2
      have sb := Heap.SameBut.update s.heap a (Obj.putSet es1 t2)
      split
      · have p3 := relayAll_perm t2 es1 (SetTable.grown es1.size)
        have f3 := relayAll_fits t2 es1 (SetTable.grown es1.size)
        obtain ⟨l3, pl3⟩ := relay_lp t2 es1 (SetTable.grown es1.size)
        generalize relayAll t2 es1 (SetTable.grown es1.size) = Y at p3 f3 l3 pl3 ⊢
        obtain ⟨es3, t3, g3⟩ := Y
        dsimp only at p3 f3 l3 pl3 ⊢
        have z3 : es3.size = es1.size := by rw [← Array.length_toList, p3.length_eq, Array.length_toList]
        have b3 : es3.size < scanBound := by rw [z3]; exact b1
        refine wpAny_bind (gw _ (wpAny_bind (wpAny_storeSet_of ho2 hd2 ?_ (fits_of_scanBound b3))))
        obtain ⟨us1, c1, c2⟩ := u1
        obtain ⟨us3, c3, c4⟩ := elems_strs p3 c1
        obtain ⟨_, _, _, _, hS3⟩ := SetAt.put ho2 hex2 hd2 (el1.perm p3) ⟨us3, c3, c4.trans c2⟩ b3 f3 (l3.trans l2) (pl3 pl2)
        exact wpAny_pure (wpAny_pure (h _ true (sb.trans (Heap.SameBut.update _ a _)) ⟨_, _, _, hS3⟩))
      · exact wpAny_pure (wpAny_pure (h _ true sb ⟨_, _, _, hS2⟩))
    cases hp1 : t1.plain with
    | true =>
      simp only [if_true]
      refine wpAny_bind ?_
      rw [hashByValue_scannable 8 (x := .str x tk) rfl]
      refine wpAny_pure ?_
      exact tail { t1 with plain := false } (SetTable.fits_plain_off f1) (l1.trans hled) rfl
    | false =>
      simp only [Bool.false_eq_true, if_false]
      refine wpAny_bind (wpAny_pure ?_)
      simp only [if_true]
      exact tail t1 f1 (l1.trans hled) hp1
end
end L2
set_option Elab.async false
set_option linter.all false
set_option maxRecDepth 100000
set_option maxHeartbeats 4000000
namespace L2
open PySem PySem.Spec PyProof.Rows PySem.W
noncomputable def firsts (ss : List Str) : List Str := ss.foldl addS []
section
variable {prog : Program} {w : World} {A : Around} {E : Value → Shared → Prop} {s : Shared}
end
end L2
set_option Elab.async false
set_option linter.all false
set_option maxRecDepth 100000
set_option maxHeartbeats 4000000
namespace L2
open PySem PySem.Spec PyProof.Rows PySem.W
section
variable {prog : Program} {w : World} {A : Around} {E : Value → Shared → Prop} {s : Shared}
end
end L2
set_option Elab.async false
set_option linter.all false
set_option maxRecDepth 100000
set_option maxHeartbeats 4000000
namespace L2
open PySem PySem.Spec PyProof.Rows PySem.W
section
variable {prog : Program} {w : World} {A : Around} {E : Value → Shared → Prop} {s : Shared}
end
end L2
set_option Elab.async false
set_option linter.all false
set_option maxRecDepth 100000
set_option maxHeartbeats 4000000
namespace L2
open PySem PySem.Spec PyProof.Rows PySem.W
section
variable {prog : Program} {w : World} {A : Around} {E : Value → Shared → Prop} {s : Shared}
noncomputable def SetIt (h : Heap) (I a : Addr) (first : Value) (i n ep : Nat) : Prop := ∃ o, h.get? I = some o ∧ o.cls = .type "set_iterator" ∧ o.data = .fields #[first, rawInt (i : Int), .ref a, rawInt (n : Int), rawInt (ep : Int)]
theorem SetIt.typeIs {I a : Addr} {first : Value} {i n ep : Nat} (x : SetIt s.heap I a first i n ep) : s.TypeIs (.ref I) "set_iterator" := let ⟨o, ho, hc, _⟩ := x; ⟨o, ho, hc⟩
inductive OrdI (w : World) (h : Heap) (es : Array (Int × Value)) (t : SetTable) (a : Addr) (ep : Nat) (ord : List Value) (T : Addr) : Value → Nat → Prop
  | drawn {ps : List Nat} {o : Obj} (i : Nat) (ho : h.get? T = some o) (hd : o.data = .seq (ps.map fun i : Nat => rawInt i).toArray 0) (hc : o.cls = .type "tuple") (he : ∀ j : Nat, (ps[j]?.bind fun p => (es[p]?).map (·.2)) = ord[j]?) (hl : ∀ (j : Nat) p, ps[j]? = some p → p < es.size) (hn : ps.length = es.size) : OrdI w h es t a ep ord T (.ref T) i
  | text (k i : Nat) (hb : byT w = true) (he : ord = (pickOrder (w.params.setOrder a ep) es).toList.map (·.2)) : OrdI w h es t a ep ord T (rawInt (k : Int)) i
  | none (k : Nat) (hb : byT w = false) (hn : es.size = 0) (he : ord = []) : OrdI w h es t a ep ord T (rawInt (k : Int)) 0
  | one0 {x : Int × Value} {p : Nat} (hb : byT w = false) (hn : es = #[x]) (hp : t.place = #[p]) (he : ord = [x.2]) : OrdI w h es t a ep ord T (rawInt 0) 0
  | one1 {x : Int × Value} {p : Nat} (hb : byT w = false) (hn : es = #[x]) (hp : t.place = #[p]) (he : ord = [x.2]) : OrdI w h es t a ep ord T (rawInt ((p + 1 : Nat) : Int)) 1
theorem OrdI.at' {h h' : Heap} {es : Array (Int × Value)} {t : SetTable} {a : Addr} {ep : Nat} {ord : List Value} {T : Addr} {f : Value} {i : Nat} (x : OrdI w h es t a ep ord T f i) (k : ∀ o, h.get? T = some o → h'.get? T = some o) : OrdI w h' es t a ep ord T f i := by
  cases x with
  | drawn i ho hd hc he hl hn => exact .drawn i (k _ ho) hd hc he hl hn
  | text k i hb he => exact .text k i hb he
  | none k hb hn he => exact .none k hb hn he
  | one0 hb hn hp he => exact .one0 hb hn hp he
  | one1 hb hn hp he => exact .one1 hb hn hp he
end
end L2
set_option Elab.async false
set_option linter.all false
set_option maxRecDepth 100000
set_option maxHeartbeats 4000000
namespace L2
open PySem PySem.Spec PyProof.Rows PySem.W
section
variable {prog : Program} {w : World} {A : Around} {E : Value → Shared → Prop} {s : Shared}
theorem SetIt.put {I a : Addr} {f : Value} {i n ep k : Nat} {x : Value} {h : Heap} (hit : SetIt h I a f i n ep) (hk : k < 5) :
    ∃ o, (h.update I (Obj.mapFields (·.setIfInBounds k x))).get? I = some o ∧ o.cls = .type "set_iterator" ∧ o.data = .fields (#[f, rawInt (i : Int), .ref a, rawInt (n : Int), rawInt (ep : Int)].setIfInBounds k x) := by
  obtain ⟨o, ho, hc, hd⟩ := hit
  exact ⟨_, Heap.get?_update_self _ ho (Obj.isFreed_of_fields (Obj.data_mapFields hd _)), (Obj.cls_mapFields ..).trans hc, Obj.data_mapFields hd _⟩
end
end L2
set_option Elab.async false
set_option linter.all false
set_option maxRecDepth 100000
set_option maxHeartbeats 4000000
namespace L2
open PySem PySem.Spec PyProof.Rows PySem.W
section
variable {prog : Program} {w : World} {A : Around} {E : Value → Shared → Prop} {s : Shared}
end
end L2
set_option Elab.async false
set_option linter.all false
set_option maxRecDepth 100000
set_option maxHeartbeats 4000000
namespace L2
open PySem PySem.Spec PyProof.Rows PySem.W
section
variable {X : Cx}
end
end L2
namespace Mr
open PySem PySem.Spec L2 PyProof.Rows
section
variable {K : PySem.W.Frag}
noncomputable def fTVals (fa : FE) : FE := fun e => bE (fa e) fun x e1 => bO (x.weak.get e1) fun p => match p with
  | .dct kvs => some (.val (.tup (kvs.map (·.2))), e1)
  | _ => none
noncomputable def fLVals (fa : FE) : FE := fun e => bE (fa e) fun x e1 => bO (x.weak.get e1) fun p => match p with
  | .dct kvs => some (.new (.lst (kvs.map (·.2))), e1)
  | _ => none
theorem ref_tvals {ta : TE} {fa : FE} (ha : Ref K ta fa) : Ref K (tCB rTupV (tCons (tVals ta) tNil)) (fTVals fa) := by
  intro O M W L σ H e e' b Q o he hf q
  obtain ⟨x, e1, f1, hf⟩ := bE_some hf
  obtain ⟨p, g0, hf⟩ := bO_some hf
  cases p with
  | dct kvs =>
    cases hf
    refine ha O M W L σ H e _ x _ o he f1 fun v1 H1 k1 r1 fr => ?_
    have o1 := o.keep k1.dom
    have en := r1.en o1
    obtain ⟨a, ys, rfl, hd, ek, rl⟩ := ((r1.rv o1).red en g0).dcts
    refine ⟨a, ys, rfl, hd, fun v hv => ⟨v, a, ys, rfl, upd_same, RdK.upd hd hv, fun l hl => ?_⟩⟩
    have s1 : Same H1 (upd H1 v (ValV v a)) := Same.upd hv
    have s2 := Same.upd (o := .tup (ys.map (·.2))) hl
    refine q _ _ ((k1.trans (.same s1)).trans (.same s2)) ⟨(en.same s1).same s2, .tup (.inl upd_same) ((rl.stay (.same s1)).stay (.same s2))⟩ trivial
  | _ => cases hf
noncomputable def fSortSet (fa : FE) : FE := fun e => bE (fa e) fun x e1 => bO (x.weak.get e1) fun p => match p with
  | .lst ps => bO (strsP ps) fun ss => guardP (decide (ss.length < 64)) (some (.new (.lst ((sortP (firsts ss)).map PV.str)), e1))
  | _ => none
theorem e_fTVals {fa : FE} {e : En} : fTVals fa e = bE (fa e) fun x e1 => bO (x.weak.get e1) fun p => match p with
  | .dct kvs => some (.val (.tup (kvs.map (·.2))), e1)
  | _ => none := rfl
theorem e_fLVals {fa : FE} {e : En} : fLVals fa e = bE (fa e) fun x e1 => bO (x.weak.get e1) fun p => match p with
  | .dct kvs => some (.new (.lst (kvs.map (·.2))), e1)
  | _ => none := rfl
theorem e_fSortSet {fa : FE} {e : En} : fSortSet fa e = bE (fa e) fun x e1 => bO (x.weak.get e1) fun p => match p with
  | .lst ps => bO (strsP ps) fun ss => guardP (decide (ss.length < 64)) (some (.new (.lst ((sortP (firsts ss)).map PV.str)), e1))
  | _ => none := rfl
end
end Mr
set_option Elab.async false
set_option linter.all false
set_option maxRecDepth 100000
set_option maxHeartbeats 4000000
namespace Mr
open PySem PySem.Spec L2 PyProof.Rows PySem.W
noncomputable def lexP (lt : PV → PV → Option Bool) : List PV → List PV → Option Bool
  | [], [] => some false
  | [], _ :: _ => some true
  | _ :: _, [] => some false
  | x :: xs, y :: ys => if eqP x y = true then lexP lt xs ys else lt x y
noncomputable def ltP : Nat → PV → PV → Option Bool
  | _, .str a, .str b => some (decide (a.cps.toList < b.cps.toList))
  | _, .int a, .int b => some (decide (a < b))
  | n + 1, .tup xs, .tup ys => lexP (ltP n) xs ys
  | _, _, _ => none
section
variable {s : Shared}
noncomputable def ledP (b : Bool) : PV → Bool
  | .tup (.str _ :: _) => b
  | .tup (.int _ :: _) => !b
  | _ => false
end
end Mr
set_option Elab.async false
set_option linter.all false
set_option maxRecDepth 100000
set_option maxHeartbeats 4000000
namespace Mr
open PySem PySem.Spec L2 PyProof.Rows PySem.W
noncomputable def plP : Nat → PV → Bool
  | _, .non => true
  | _, .int _ => true
  | _, .str _ => true
  | n + 1, .tup ps => ps.all (plP n)
  | _, _ => false
noncomputable def code : Nat → PV → List Int
  | _, .str x => x.cps.toList.map (fun c : Nat => (c : Int) + 1) ++ [0]
  | _, .int i => [i]
  | n + 1, .tup xs => xs.flatMap (fun x => 1 :: code n x) ++ [0]
  | _, _ => [0]
noncomputable abbrev ltC : List Int → List Int → Bool := listB intO
end Mr
set_option Elab.async false
set_option linter.all false
set_option maxRecDepth 100000
set_option maxHeartbeats 4000000
namespace Mr
open PySem PySem.Spec L2 PyProof.Rows PySem.W
mutual
theorem eqP_sym : ∀ p q : PV, eqP p q = eqP q p
  | .non, q => by cases q <;> simp [eqP]
  | .bl a, q => by cases q <;> simp only [eqP] <;> (rw [Bool.eq_iff_iff, beq_iff_eq, beq_iff_eq]; exact eq_comm)
  | .int a, q => by cases q <;> simp only [eqP] <;> (rw [Bool.eq_iff_iff, beq_iff_eq, beq_iff_eq]; exact eq_comm)
  | .str a, q => by cases q <;> simp only [eqP] <;> (rw [Bool.eq_iff_iff, beq_iff_eq, beq_iff_eq]; exact eq_comm)
  | .ty a, q => by cases q <;> simp [eqP]
  | .dct a, q => by cases q <;> simp [eqP]
  | .tup xs, q => by
    cases q with
    | tup ys => simp only [eqP]; exact eqPL_sym xs ys
    | _ => simp [eqP]
  | .lst xs, q => by
    cases q with
    | lst ys => simp only [eqP]; exact eqPL_sym xs ys
    | _ => simp [eqP]
theorem eqPL_sym : ∀ xs ys : List PV, eqPL xs ys = eqPL ys xs
  | [], ys => by cases ys <;> simp [eqPL]
  | x :: xs, [] => by simp [eqPL]
  | x :: xs, y :: ys => by simp only [eqPL]; rw [eqP_sym x y, eqPL_sym xs ys]
end
noncomputable def cmpAll (n : Nat) (ps : List PV) : Bool := ps.all fun p => plP n p && ps.all fun q => (ltP n p q).isSome
noncomputable def leC (n : Nat) (a b : PV) : Bool := !ltC (code n b) (code n a)
noncomputable def sortT (n : Nat) (ps : List PV) : List PV := ps.mergeSort (leC n)
section
variable {X : Cx} {k : Nat}
end
section
variable {K : PySem.W.Frag}
end
end Mr
set_option Elab.async false
set_option linter.all false
set_option maxRecDepth 100000
set_option maxHeartbeats 4000000
namespace Mr
open PySem PySem.Spec L2 PyProof.Rows
section
variable {K : PySem.W.Frag}
end
end Mr
namespace Mr
open PySem PySem.Spec L2 PyProof.Rows
section
variable {K : PySem.W.Frag}
noncomputable def mulC (i j : Int) : Bool := decide (Builtin.Int.intTooBig (Builtin.Int.intBits i + Builtin.Int.intBits j) = false)
theorem op_mulC {X : Cx} : OpR X (binaryOp .Mult) (rI IntMulOk fun i j => .int (i * j)) := opI fun _ _ _ _ _ _ _ hc q => mul_int q hc
noncomputable def gMulC : PV → PV → Option Bv := gI mulC fun i j => .int (i * j)
theorem ok_mulC : OpOk K (rI IntMulOk fun i j => .int (i * j)) gMulC := ok_I (fun i j h => by
  have h := of_decide_eq_true h
  unfold IntMulOk
  rw [h, Bool.and_false]
  exact Bool.false_ne_true) fun _ _ _ _ => .int _
end
end Mr
namespace Mr
open PySem PySem.Spec L2 PyProof.Rows
section
variable {K : PySem.W.Frag}
end
end Mr
set_option Elab.async false
set_option linter.all false
set_option maxRecDepth 100000
set_option maxHeartbeats 4000000
namespace Mr
open PySem L2
section
variable {K : PySem.W.Frag}
noncomputable def fCallT (f : FN) (fa : FE) (i : Nat) : FE := fun e => bE (fa e) fun x e1 => match x with
  | .new p => bO (rd e1 i) fun q => match q with
    | .int k => bO (f [p, .int k]) fun rq => some (.val rq.1, e1)
    | _ => none
  | _ => none
theorem e_fCallT {f : FN} {fa : FE} {i : Nat} {e : En} : fCallT f fa i e = bE (fa e) fun x e1 => match x with
  | .new p => bO (rd e1 i) fun q => match q with
    | .int k => bO (f [p, .int k]) fun rq => some (.val rq.1, e1)
    | _ => none
  | _ => none := rfl
end
end Mr
namespace Mr
open PySem L2
theorem bO_none {α β : Type} {k : α → Option β} : bO (none : Option α) k = none := rfl
theorem bE_none {α β : Type} {k : α → En → Option β} : bE (none : Option (α × En)) k = none := rfl
end Mr
set_option Elab.async false
set_option linter.all false
set_option maxRecDepth 100000
set_option maxHeartbeats 4000000
namespace L2
open PySem PySem.Spec PyProof.Rows PySem.W
section
variable {prog : Program} {w : World} {A : Around} {E : Value → Shared → Prop} {s : Shared}
theorem Grew.trans {s s1 s2 : Shared} (a : Grew s s1) (b : Grew s1 s2) : Grew s s2 := by
  obtain ⟨h1, t1, d1, rfl, z1, k1⟩ := a
  obtain ⟨h2, t2, d2, rfl, z2, k2⟩ := b
  exact ⟨h2, t2, d2, rfl, Nat.le_trans z1 z2, fun x o e => k2 x o (k1 x o e)⟩
end
section
variable {X : Cx}
end
end L2
namespace Mr
open PySem PySem.Spec L2 PyProof.Rows PySem.W
noncomputable def keyP : Key → PV
  | .inl i => .int i
  | .inr x => .str x
noncomputable def pairsP (kvs : List (Key × PV)) : List PV := kvs.map fun z => .tup [keyP z.1, z.2]
section
variable {X : Cx} {k : Nat}
end
section
variable {K : PySem.W.Frag}
noncomputable def fSortI (fa : FE) : FE := fun e => bE (fa e) fun x e1 => bO (x.weak.get e1) fun p => match p with
  | .dct kvs => guardP (decide (kvs.length < 64) && (((pairsP kvs).all (ledP true) || (pairsP kvs).all (ledP false)) && cmpAll 3 (pairsP kvs))) (some (.new (.lst (sortT 3 (pairsP kvs))), e1))
  | _ => none
theorem e_fSortI {fa : FE} {e : En} : fSortI fa e = bE (fa e) fun x e1 => bO (x.weak.get e1) fun p => match p with
  | .dct kvs => guardP (decide (kvs.length < 64) && (((pairsP kvs).all (ledP true) || (pairsP kvs).all (ledP false)) && cmpAll 3 (pairsP kvs))) (some (.new (.lst (sortT 3 (pairsP kvs))), e1))
  | _ => none := rfl
noncomputable def fSortSetW (fa : FE) : FE := fun e => bE (fa e) fun x e1 => bO (x.weak.get e1) fun p => match p with
  | .lst ps => bO (strsP ps) fun ss => guardP (decide (ss.length < 4000) && decide ((firsts ss).length < 64)) (some (.new (.lst ((sortP (firsts ss)).map PV.str)), e1))
  | _ => none
theorem e_fSortSetW {fa : FE} {e : En} : fSortSetW fa e = bE (fa e) fun x e1 => bO (x.weak.get e1) fun p => match p with
  | .lst ps => bO (strsP ps) fun ss => guardP (decide (ss.length < 4000) && decide ((firsts ss).length < 64)) (some (.new (.lst ((sortP (firsts ss)).map PV.str)), e1))
  | _ => none := rfl
end
end Mr
set_option Elab.async false
set_option linter.all false
set_option maxRecDepth 100000
set_option maxHeartbeats 4000000
namespace L2
open PySem PySem.Spec PyProof.Rows PySem.W
section
variable {X : Cx}
noncomputable def rLenD : List V → Hp → VK → Prop := fun xs H Q => ∃ a kvs, xs = [.ref a] ∧ RdK H a kvs ∧ Q (.int kvs.length) H
theorem lenD : CallR X (.builtin "len") rLenD := by
  intro pins s σ H xs us Q I r ⟨a, kvs, e, ha, q⟩
  subst e
  obtain ⟨u, rfl, rx⟩ := vals1 r
  cases rx
  obtain ⟨hz, hd, vs, rel, dd⟩ := dk_rd I.hok ha
  refine call_len_dict hd dd (by have := rel.len; rw [sizeLine_eq] at hz; omega) ?_
  exact ⟨.int kvs.length, H, I.tok _, ⟨s.toks + 1, by rw [rel.len]⟩, q⟩
end
end L2
namespace Mr
open PySem L2
section
variable {K : PySem.W.Frag}
noncomputable def gLenD : List PV → Option Bv
  | [.dct kvs] => some (.val (.int kvs.length))
  | _ => none
theorem ok_lenD : CbOk K rLenD gLenD := by
  intro Z H vs ps b Q hp h k
  unfold gLenD at h
  split at h
  · cases h
    obtain ⟨v, rfl, hv⟩ := hp.one
    obtain ⟨a, ys, rfl, ha, ek, ra⟩ := hv.dcts
    refine ⟨a, ys, rfl, ha, k _ H (Same.refl _) ?_⟩
    have := congrArg List.length ek
    rw [List.length_map, List.length_map] at this
    rw [this]
    exact Rep.int _
  · cases h
noncomputable def rLenY (K : PySem.W.Frag) : List V → Hp → VK → Prop := fun xs H Q => rLenX K xs H Q ∨ rLenD xs H Q
theorem lenY {X : Cx} (K : PySem.W.Frag) (hK : X.K = K := by rfl) : CallR X (.builtin "len") (rLenY K) := CallR.or (lenX K hK) lenD
noncomputable def gLenY : List PV → Option Bv := fun p => (gLen p).or (gLenD p)
theorem ok_lenY : CbOk K (rLenY K) gLenY := CbOk.or ok_len ok_lenD
end
end Mr
set_option Elab.async false
set_option linter.all false
set_option maxRecDepth 100000
set_option maxHeartbeats 4000000
namespace L2
open PySem PySem.Spec PyProof.Rows PySem.W
section
variable {prog : Program} {w : World} {A : Around} {R : Result → Shared → Prop} {I : Addr} {fp wr : List Addr} {n : Nat} {Pz : Nat → Value → Prop} {Sz : Nat → Heap → Prop}
end
end L2
namespace Mr
open PySem PySem.Spec L2 PyProof.Rows PySem.W
noncomputable def btP (ps : List PV) (i j : Nat) : Bool := ltC (code 3 (ps.getD i .non)) (code 3 (ps.getD j .non))
noncomputable def minP (ps : List PV) : PV := ps.getD (argBest (btP ps) (ps.length - 1)) .non
section
variable {X : Cx} {k : Nat}
end
section
variable {K : PySem.W.Frag}
noncomputable def gMin1 : List PV → Option Bv
  | [.lst ps] => guardP (decide (0 < ps.length) && cmpAll 3 ps) (some (.val (minP ps)))
  | _ => none
end
end Mr
namespace Mr
open PySem L2
section
variable {K : PySem.W.Frag}
noncomputable def sExt (i : Nat) (f : FE) : FS := fun e => bO (ownAt e i) fun p0 => match p0 with
  | .lst _ => bE (f e) fun b e1 => match b with
    | .new (.lst qs) => match ownAt e1 i with
      | some (.lst ps) => guardP (decide (ps.length + qs.length < 1000000)) (some (.nx (setOwn e1 i (.lst (ps ++ qs)))))
      | _ => none
    | _ => none
  | _ => none
theorem e_sExt {i : Nat} {f : FE} {e : En} : sExt i f e = bO (ownAt e i) fun p0 => match p0 with
  | .lst _ => bE (f e) fun b e1 => match b with
    | .new (.lst qs) => match ownAt e1 i with
      | some (.lst ps) => guardP (decide (ps.length + qs.length < 1000000)) (some (.nx (setOwn e1 i (.lst (ps ++ qs)))))
      | _ => none
    | _ => none
  | _ => none := rfl
end
end Mr
set_option Elab.async false
set_option linter.all false
set_option maxRecDepth 100000
set_option maxHeartbeats 4000000
namespace L2
open PySem
section
variable {X : Cx} {pins : List (Addr × Obj)} {σ : St} {H : Hp} {s : Shared} {a : Addr} {y d : V} {u r : Value} {A : Around} {E : Value → Shared → Prop}
end
section
variable {X : Cx} {o e f : Expr} {apos cpos : Pos} {td ty tx : TE}
end
end L2
set_option Elab.async false
set_option linter.all false
set_option maxRecDepth 100000
set_option maxHeartbeats 4000000
namespace Mr
open PySem L2
noncomputable abbrev DD := List (Key × List PV)
noncomputable abbrev Tr := List (Key × Addr × List PV)
noncomputable def ofT (t : Tr) : DD := t.map fun z => (z.1, z.2.2)
noncomputable def BX (a : Addr) (t : Tr) : ASet := fun b => b = a ∨ b ∈ t.map (·.2.1)
noncomputable def wB (W : WS) (B : ASet) : WS := ⟨W.w, fun c => W.old c ∧ ¬ B c⟩
structure Sec (K : PySem.W.Frag) (Z : ASet) (H : Hp) (a : Addr) (t : Tr) : Prop where
  dic : IsDK H a (t.map fun z => (z.1, V.ref z.2.1))
  lst : ∀ z ∈ t, ∃ xs, H z.2.1 = some (.lst xs) ∧ RepL K Z H z.2.2 xs
  nd : (a :: t.map (·.2.1)).Nodup
  kd : (t.map (·.1)).Nodup
noncomputable def Bok (O L : ASet) (H : Hp) (B : ASet) : Prop := ∀ b, B b → H b ≠ none ∧ ¬ O b ∧ ¬ L b
theorem Bok.okc {O M L B : ASet} {W : WS} {H : Hp} (o : Okc O M W L H) (b : Bok O L H B) : Okc (uni O B) (uni M B) (wB W B) L H :=
  ⟨fun a h => h.elim (o.old a) fun h => (b a h).1, fun a h => h.elim (fun h => .inl (o.mo a h)) .inr, fun i a h => .inl (o.wm i a h), fun a h => ⟨(o.loc a h).1, fun z => z.elim (o.loc a h).2 fun z => (b a z).2.2 h⟩⟩
structure GrowX (W : WS) (L L' B B' : ASet) (H H' : Hp) : Prop where
  obj : ∀ a o, H a = some o → ¬ aw W a → ¬ L a → ¬ B a → H' a = some o
  tup : ∀ a xs, H a = some (.tup xs) → H' a = some (.tup xs)
  dom : ∀ a, H a ≠ none → H' a ≠ none
  new : ∀ a, L' a → L a ∨ H a = none
  newB : ∀ a, B' a → B a ∨ H a = none
theorem none_of {H H1 : Hp} (d : ∀ a, H a ≠ none → H1 a ≠ none) {a : Addr} (h : H1 a = none) : H a = none := by
  cases e : H a with
  | none => rfl
  | some o => exact absurd h (d a (by rw [e]; exact fun z => nomatch z))
theorem GrowX.keep {W : WS} {L B : ASet} {H H' : Hp} (k : Keep W L H H') : GrowX W L L B B H H' := ⟨fun a o h n m _ => k.obj a o h n m, k.tup, k.dom, fun _ h => .inl h, fun _ h => .inl h⟩
theorem GrowX.refl {W : WS} {L B : ASet} {H : Hp} : GrowX W L L B B H H := .keep .refl
theorem GrowX.trans {W : WS} {L L1 L2 B B1 B2 : ASet} {H H1 H2 : Hp} (a : GrowX W L L1 B B1 H H1) (b : GrowX W L1 L2 B1 B2 H1 H2) : GrowX W L L2 B B2 H H2 :=
  ⟨fun c o h n m l => b.obj c o (a.obj c o h n m l) n (fun z => (a.new c z).elim m fun z => (by rw [h] at z; cases z)) fun z => (a.newB c z).elim l fun z => (by rw [h] at z; cases z),
   fun c xs h => b.tup c xs (a.tup c xs h), fun c h => b.dom c (a.dom c h), fun c h => (b.new c h).elim (a.new c) fun z => .inr (none_of a.dom z), fun c h => (b.newB c h).elim (a.newB c) fun z => .inr (none_of a.dom z)⟩
inductive OutX where
  | nx (e : En) (d : DD) | ct (e : En) (d : DD)
noncomputable abbrev FX := En → DD → Option OutX
structure Now (K : PySem.W.Frag) (O M : ASet) (W : WS) (x : Nat) (a : Addr) (L : ASet) (σ : St) (H : Hp) (e : En) (t : Tr) : Prop where
  ok : Okc O M W L H
  bok : Bok O L H (BX a t)
  en : EnRep K (uni (uni M (BX a t)) L) (wB W (BX a t)) L H σ e
  at' : σ[x]? = some (some (.ref a))
  sec : Sec K (uni (uni M (BX a t)) L) H a t
noncomputable def PostX (K : PySem.W.Frag) (O M : ASet) (W : WS) (x : Nat) (a : Addr) (L : ASet) (H : Hp) (t : Tr) (D : Ends) : OutX → Prop
  | .nx e' d' => ∀ L' σ' H' t', GrowX W L L' (BX a t) (BX a t') H H' → Now K O M W x a L' σ' H' e' t' → ofT t' = d' → D.nx σ' H'
  | .ct e' d' => ∀ L' σ' H' t', GrowX W L L' (BX a t) (BX a t') H H' → Now K O M W x a L' σ' H' e' t' → ofT t' = d' → D.ct σ' H'
theorem PostX.later {K : PySem.W.Frag} {O M L L1 : ASet} {W : WS} {x : Nat} {a : Addr} {H H1 : Hp} {t t1 : Tr} {D : Ends} {r : OutX} (g : GrowX W L L1 (BX a t) (BX a t1) H H1) (h : PostX K O M W x a L H t D r) : PostX K O M W x a L1 H1 t1 D r := by
  cases r with
  | nx e d => exact fun L' σ' H' t' g' => h L' σ' H' t' (g.trans g')
  | ct e d => exact fun L' σ' H' t' g' => h L' σ' H' t' (g.trans g')
section
variable {K : PySem.W.Frag} {x : Nat}
theorem Sec.keep {O M L : ASet} {W : WS} {a : Addr} {t : Tr} {H H' : Hp} (o : Okc O M W L H) (b : Bok O L H (BX a t)) (k : Keep (wB W (BX a t)) L H H') (s : Sec K (uni (uni M (BX a t)) L) H a t) : Sec K (uni (uni M (BX a t)) L) H' a t := by
  have st := k.stay (b.okc o)
  have nb : ∀ c ob, BX a t c → H c = some ob → H' c = some ob := fun c ob hc h => k.obj c ob h (fun ⟨i, w⟩ => (b c hc).2.1 (o.mo _ (o.wm i c w))) (b c hc).2.2
  exact ⟨let ⟨ep, e⟩ := s.dic; ⟨ep, nb a _ (.inl rfl) e⟩, fun z hz => let ⟨xs, h1, h2⟩ := s.lst z hz; ⟨xs, nb _ _ (.inr (List.mem_map.mpr ⟨z, hz, rfl⟩)) h1, h2.stay st⟩, s.nd, s.kd⟩
theorem Now.keep {O M L : ASet} {W : WS} {a : Addr} {t : Tr} {σ : St} {H H' : Hp} {e e' : En} (n : Now K O M W x a L σ H e t) (k : Keep (wB W (BX a t)) L H H') (en : EnRep K (uni (uni M (BX a t)) L) (wB W (BX a t)) L H' σ e') : Now K O M W x a L σ H' e' t :=
  ⟨n.ok.keep k.dom, fun b h => ⟨k.dom b (n.bok b h).1, (n.bok b h).2⟩, en, n.at', n.sec.keep n.ok n.bok k⟩
theorem kw {W : WS} {B L : ASet} {H H' : Hp} (k : Keep (wB W B) L H H') : Keep W L H H' := ⟨k.obj, k.tup, k.dom⟩
noncomputable def xNext : FX := fun e d => some (.nx e d)
noncomputable def xCont : FX := fun e d => some (.ct e d)
noncomputable def xSeq (f g : FX) : FX := fun e d => match f e d with
  | some (.nx e1 d1) => g e1 d1
  | r => r
noncomputable def xIf (fc : FT) (f g : FX) : FX := fun e d => bE (fc e) fun b e1 => bB b (f e1 d) (g e1 d)
noncomputable def xAsg (f : FE) (fg : FG) : FX := fun e d => bE (f e) fun b e1 => bO b.put fun p => bO (fg p e1) fun e2 => some (.nx e2 d)
noncomputable abbrev FIT := En → Option (List PV × En)
noncomputable def xIt (f : FE) : FIT := fun e => bE (f e) fun b e1 => match b with
  | .val (.tup ps) => some (ps, e1)
  | _ => none
noncomputable def xEnm (fa : FA) : FIT := fun e => bE (fa e) fun bs e1 => match bs with
  | [.val (.tup ps)] => some (ps.zipIdx.map fun z => .tup [.int (z.2 : Int), z.1], e1)
  | _ => none
noncomputable def loopX (body : PV → En → DD → Option OutX) : List PV → En → DD → Option OutX
  | [], e, d => some (.nx e d)
  | p :: ps, e, d => match body p e d with
    | some (.nx e1 d1) => loopX body ps e1 d1
    | some (.ct e1 d1) => loopX body ps e1 d1
    | none => none
noncomputable def xFor (fi : FIT) (fg : FG) (fb : FX) : FX := fun e d => bE (fi e) fun ps e1 => loopX (fun x e d => bO (fg x e) fun e2 => fb e2 d) ps e1 d
theorem GrowX.stay {O M L L' : ASet} {W : WS} {a : Addr} {t t' : Tr} {H H' : Hp} (o : Okc O M W L H) (g : GrowX W L L' (BX a t) (BX a t') H H') : Stay (uni (uni M (BX a t)) L) (uni (uni M (BX a t')) L') H H' :=
  ⟨g.tup, fun c ob h n => ⟨g.obj c ob h (fun ⟨i, w⟩ => n (.inl (.inl (o.wm i c w)))) (fun z => n (.inr z)) fun z => n (.inl (.inr z)), fun z => by
    rcases z with (z | z) | z
    · exact n (.inl (.inl z))
    · exact (g.newB c z).elim (fun z => n (.inl (.inr z))) fun z => by rw [h] at z; cases z
    · exact (g.new c z).elim (fun z => n (.inr z)) fun z => by rw [h] at z; cases z⟩⟩
end
end Mr
set_option Elab.async false
set_option linter.all false
set_option maxRecDepth 100000
set_option maxHeartbeats 4000000
namespace Mr
open PySem L2
noncomputable def appP (d : DD) (k : Key) (p : PV) : DD := if (d.any fun kp => decide (kp.1 = k)) = true then d.map (fun kp => if kp.1 = k then (kp.1, kp.2 ++ [p]) else kp) else d ++ [(k, [p])]
section
variable {K : PySem.W.Frag} {x : Nat}
noncomputable def xSDA (fk fv : FE) : FX := fun e d => bE (fk e) fun kb e1 => bO (kb.weak.get e1) fun kp => bO (keyOf kp) fun k => bE (fv e1) fun b e2 => bO b.put fun p =>
  guardP (decide (d.length < 1000000) && d.all fun kp => decide (kp.2.length < 1000000)) (some (.nx e2 (appP d k p)))
noncomputable def sX (x : Nat) (f : FX) : FS := fun e => guardP (decide (x < e.length)) (match f (e.set x none) [] with
  | some (.nx e' d) => some (.rt (.new (.dct (d.map fun kp => (kp.1, .lst kp.2)))) e')
  | _ => none)
end
end Mr
set_option Elab.async false
set_option linter.all false
set_option maxRecDepth 100000
set_option maxHeartbeats 4000000
namespace Mr
open PySem L2
section
variable {K : PySem.W.Frag}
noncomputable def gGet2 : PV → PV → PV → Option Bv
  | .dct kvs, p, z => bO (keyOf p) fun k => some (.val ((valP kvs k).getD z))
  | _, _, _ => none
noncomputable def fGet2 (fa fb fc : FE) : FE := fun e => bE (fa e) fun x e1 => bO (x.weak.get e1) fun p1 => match p1 with
  | .dct _ => bE (fb e1) fun y e2 => bE (fc e2) fun z e3 => bO z.put fun pz => bO (x.weak.get e3) fun p => bO (y.weak.get e3) fun q => bO (gGet2 p q pz) fun b => some (b, e3)
  | _ => none
theorem e_fGet2 {fa fb fc : FE} {e : En} : fGet2 fa fb fc e = bE (fa e) fun x e1 => bO (x.weak.get e1) fun p1 => match p1 with
  | .dct _ => bE (fb e1) fun y e2 => bE (fc e2) fun z e3 => bO z.put fun pz => bO (x.weak.get e3) fun p => bO (y.weak.get e3) fun q => bO (gGet2 p q pz) fun b => some (b, e3)
  | _ => none := rfl
theorem wp_xseq {f g : FX} {e : En} {d : DD} {Q : OutX → Prop} : Wp (xSeq f g e d) Q ↔ Wp (f e d) fun o => match o with | .nx e1 d1 => Wp (g e1 d1) Q | o => Q o := by
  unfold xSeq
  cases f e d with
  | none => simp [wp_none]
  | some o =>
    rw [wp_some]
    cases o <;> simp [wp_some]
theorem wp_xfor {fi : FIT} {fg : FG} {fb : FX} {e : En} {d : DD} {Q : OutX → Prop} : Wp (xFor fi fg fb e d) Q ↔ Wp (fi e) fun z => Wp (loopX (fun x e d => bO (fg x e) fun e2 => fb e2 d) z.1 z.2 d) Q := by
  unfold xFor
  rw [wp_bE]
theorem wp_sX {x : Nat} {f : FX} {e : En} {Q : Out → Prop} : Wp (sX x f e) Q ↔ x < e.length ∧ Wp (f (e.set x none) []) fun o => match o with | .nx e' d => Q (.rt (.new (.dct (d.map fun kp => (kp.1, .lst kp.2)))) e') | .ct _ _ => False := by
  unfold sX
  rw [wp_guard, decide_eq_true_eq]
  refine and_congr_right fun _ => ?_
  cases f (e.set x none) [] with
  | none => simp [wp_none]
  | some o =>
    rw [wp_some]
    cases o <;> simp [wp_some, wp_none]
theorem e_xNext {e : En} {d : DD} : xNext e d = some (.nx e d) := rfl
theorem e_xCont {e : En} {d : DD} : xCont e d = some (.ct e d) := rfl
theorem e_xIf {fc : FT} {f g : FX} {e : En} {d : DD} : xIf fc f g e d = bE (fc e) fun b e1 => bB b (f e1 d) (g e1 d) := rfl
theorem e_xAsg {f : FE} {fg : FG} {e : En} {d : DD} : xAsg f fg e d = bE (f e) fun b e1 => bO b.put fun p => bO (fg p e1) fun e2 => some (.nx e2 d) := rfl
theorem e_xIt {f : FE} {e : En} : xIt f e = bE (f e) fun b e1 => match b with
  | .val (.tup ps) => some (ps, e1)
  | _ => none := rfl
theorem e_xEnm {fa : FA} {e : En} : xEnm fa e = bE (fa e) fun bs e1 => match bs with
  | [.val (.tup ps)] => some (ps.zipIdx.map fun z => .tup [.int (z.2 : Int), z.1], e1)
  | _ => none := rfl
theorem e_xSDA {fk fv : FE} {e : En} {d : DD} : xSDA fk fv e d = bE (fk e) fun kb e1 => bO (kb.weak.get e1) fun kp => bO (keyOf kp) fun k => bE (fv e1) fun b e2 => bO b.put fun p =>
  guardP (decide (d.length < 1000000) && d.all fun kp => decide (kp.2.length < 1000000)) (some (.nx e2 (appP d k p))) := rfl
end
end Mr
set_option Elab.async false
set_option linter.all false
set_option maxRecDepth 100000
set_option maxHeartbeats 4000000
namespace L2
open PySem
section
variable {prog : Program} {w : World} {A : Around} {R : Result → Shared → Prop} {s : Shared}
theorem compLoopD {kx vx target iter : Expr} {ifs : List Expr} {scope : Scope} {pos : Pos} {it : Value} {D : Addr} {env : Env} (I : Nat → Shared → Prop)
    (turn : ∀ n s, I n s → wpAny (model prog w) A (pyNext it) (fun r s₁ => match r with
      | none => R (.ok .next) s₁
      | some v => wpAny (model prog w) A (letOwnedTupleGo target it v) (fun _ s₁' => wpAny (model prog w) A (assign target env v) (fun _ s₂ =>
          wpAny (model prog w) A (forIn ifs true fun c r => if r = true then do let ok ← isTrue c env (eval c env); pure (ForInStep.yield ok) else pure (ForInStep.yield r)) (fun ok s₃ =>
            if ok = true then wpAny (model prog w) A (eval kx env) (fun kv s₄ => wpAny (model prog w) A (eval vx env) (fun vv s₅ =>
              wpAny (model prog w) A (dictSet D kv vv) (fun _ s₆ => ∃ m, m < n ∧ I m s₆) (fun _ _ => False) s₅) (fun _ _ => False) s₄) (fun _ _ => False) s₃
            else ∃ m, m < n ∧ I m s₃) (fun _ _ => False) s₂) (fun _ _ => False) s₁') (fun _ _ => False) s₁) (fun _ _ => False) s)
    (n : Nat) (h : I n s) :
    codeAny (model prog w) A (.compLoop (.DictComp kx vx [⟨target, iter, ifs, 0⟩] scope pos) 0 it (.ref D) env) R s := by
  refine codeAny_loop rfl I (fun n s hI => ?_) n h
  show wpAny _ A ((compTurn (.DictComp kx vx [⟨target, iter, ifs, 0⟩] scope pos) 0 it (.ref D) env).onRaise (fun x => do noteFrame x env; theTreesLotGoes x)) _ _ s
  refine wpAny_noted ?_
  refine wpAny_mono (E := fun _ _ => False) ?_ (fun _ _ q => q) (fun _ _ z => z.elim)
  rw [compTurn_dict]
  refine wpAny_bind (wpAny_standAt (wpAny_bind (wpAny_mono (turn n s hI) (fun r s₁ h₁ => ?_) fun _ _ h' => h')))
  cases r with
  | none => exact wpAny_pure h₁
  | some v =>
    refine wpAny_bind (wpAny_mono h₁ (fun _ s₁' h₁' => ?_) fun _ _ h' => h')
    refine wpAny_bind (wpAny_mono h₁' (fun _ s₂ h₂ => wpAny_bind (wpAny_mono h₂ (fun ok s₃ h₃ => ?_) fun _ _ h' => h')) fun _ _ h' => h')
    cases ok with
    | false => exact wpAny_pure ⟨rfl, h₃⟩
    | true =>
      exact wpAny_bind (wpAny_bind (wpAny_mono h₃ (fun kv s₄ h₄ => wpAny_bind (wpAny_holding (wpAny_mono h₄ (fun vv s₅ h₅ => wpAny_bind (wpAny_standAt (wpAny_holding (wpAny_mono h₅ (fun _ s₆ h₆ => wpAny_pure ⟨rfl, h₆⟩) fun _ _ h' => h')))) fun _ _ h' => h'))) fun _ _ h' => h'))
end
noncomputable def GoalD (J : It) (g : TG) (tt : TT) (tk te : TE) (l : Addr) (σ0 : St) (H0 : Hp) (Q : VK) : Prop :=
  ∃ W : Nat → Nat → St → Hp → Prop, (∃ m, W 0 m σ0 H0) ∧
      ∀ i m σ' H2, W i m σ' H2 → (J.stop i H2 ∧ Q (.ref l) H2) ∨ (J.go i H2 ∧ ∃ N : St → Hp → Prop, (∀ σ3 H3, N σ3 H3 → ∃ m', m' < m ∧ W (i + 1) m' σ3 H3) ∧
        ∀ x H3, J.yld i H2 x H3 → g x σ' H3 fun σ4 H4 => tt σ4 H4 fun b H5 => if b = true then tk σ4 H5 fun kv H6 => te σ4 H6 fun y H7 => ∃ kvs key, IsDK H7 l kvs ∧ kv = kV key ∧ kvs.length < sizeLine ∧ ∀ ep, N σ4 (upd H7 l (.dK (putK kvs key y) ep)) else N σ4 H5)
noncomputable def tDComp (wi : TI) (k : Nat) (cap : List Nat) (g : TG) (tt : TT) (tk te : TE) : TE := fun σ H Q => wi σ H fun J H1 => ∀ l, H1 l = none → GoalD J g tt tk te l (capSt k cap σ) (upd H1 l (.dK [] 0)) Q
section
variable {X : Cx} {kx vx tg iter : Expr} {ifs : List Expr} {scope : Scope} {pos : Pos} {wi : TI} {g : TG} {tt : TT} {tk te : TE} {N : List Str} {k : Nat} {cap : List Nat}
theorem compInvD {pins : List (Addr × Obj)} {σ : St} {H2 : Hp} {s2 : Shared} {cl : List (Str × Addr)} {C : Addr} {fp : List Addr} {h1 : Heap} {tk : Nat} {m0 : Str → Option Value} (S : CompScope X scope N k cap) (I2 : Inv X pins σ H2 s2)
    (hcl1 : ∀ y c, cl.lookup y = some c → X.env.cells.lookup y = some c) (hcl2 : ∀ y, (y, NameKind.free) ∈ scope.names → (cl.lookup y).isSome = true) (hC : C = s2.heap.objs.size + 1)
    (hf : ∀ b ∈ fp, FpOk X pins H2 b) (ho : ∀ b ∈ fp, b < s2.heap.objs.size) (hk : ∀ b o, s2.heap.get? b = some o → h1.get? b = some o) (hD : h1.get? s2.heap.objs.size = some { cls := .type "dict", data := .dict #[] }) (hns : h1.Ns C m0) :
    Inv (cxComp X scope N ⟨cl, C, s2, H2, fp⟩) [] (capSt k cap σ) (upd H2 s2.heap.objs.size (.dK [] 0)) { s2 with heap := h1, toks := tk } := by
  have fr : H2 s2.heap.objs.size = none := I2.hok.fresh (Nat.le_refl _)
  have hCf : H2 C = none := I2.hok.fresh (hC ▸ Nat.le_succ _)
  refine ⟨compOk S I2 hcl1 hcl2 (hC ▸ Nat.le_succ _) hf ho, rfl, I2.bare, Un.laid hk (Nat.le_refl _) fr, ⟨m0, hns, fun i y v e1 e2 e3 => ?_⟩, fun x c e => ?_, ?_, fun x c e => ?_, fun p hp => absurd (show p ∈ ([] : List (Addr × Obj)) from hp) (by simp), I2.hok.laid hk (Nat.le_refl _) ?_, ?_⟩
  · obtain ⟨q, j, rfl, hj, hv⟩ := capSt_get e2
    obtain ⟨z, hz1, hz2, hz3⟩ := S.cap q j hj
    have e1' : N[k + q]? = some y := e1
    rw [hz1] at e1'
    cases e1'
    obtain ⟨m, hn, hl⟩ := I2.loc
    have hfr := S.free (y, .free) (PySem.mem_of_lookup hz3) rfl
    obtain ⟨u, r, l⟩ := hl j y v hz2 hv (by rcases hfr with z | z; exact .inr (.inl z); exact .inr (.inr z))
    refine ⟨u, r, .inr ⟨lookup_relabel_free (env := X.env) hz3, ?_⟩⟩
    obtain ⟨c, hc⟩ := Option.isSome_iff_exists.mp (hcl2 y (PySem.mem_of_lookup hz3))
    rcases l with ⟨hk', _⟩ | ⟨_, c', hc', hcell⟩
    · rcases hfr with z | z <;> (rw [hk'] at z; cases z)
    · have e := hcl1 y c hc
      rw [hc'] at e
      cases e
      obtain ⟨o, ho', hd⟩ := hcell
      exact ⟨_, hc, o, hk _ _ ho', hd⟩
  · obtain ⟨v, o, ho', hd⟩ := I2.cell x c (hcl1 x c e)
    exact ⟨v, o, hk _ _ ho', hd⟩
  · show upd H2 s2.heap.objs.size (.dK [] 0) C = none
    rw [upd_ne (Nat.ne_of_gt (hC ▸ Nat.lt_succ_self _))]
    exact hCf
  · have e' := hcl1 x c e
    obtain ⟨v, q⟩ := I2.cell x c e'
    rw [upd_ne (Nat.ne_of_lt q.lt)]
    exact I2.freeC x c e'
  · exact ⟨Nat.zero_le _, beq_eq_false_iff_ne.mpr (Ne.symm (Nat.ne_of_lt I2.big)), [], .nil, ⟨_, #[], hD, ⟨rfl, rfl, rfl⟩, rfl, (fun _ h => absurd h (by simp)), .nil, List.nodup_nil⟩⟩
  · show (capSt k cap σ).length = N.length
    unfold capSt
    rw [List.length_append, List.length_replicate, List.length_map, S.len]
theorem pe_dcomp (hc : X.calm = true) (S : CompScope X scope N k cap) (hi : PI X tg iter wi) (hg : ∀ c, PG (cxComp X scope N c) tg g) (ht : ∀ c, PTs (cxComp X scope N c) ifs tt) (hk : ∀ c, PE (cxComp X scope N c) kx tk) (he : ∀ c, PE (cxComp X scope N c) vx te)
    (hs : ∀ x, foldedSetIterable iter X.env x = pure x := by intro _; rfl) : PE X (.DictComp kx vx [⟨tg, iter, ifs, 0⟩] scope pos) (tDComp wi k cap g tt tk te) := by
  intro pins s σ H Q I h
  rw [arm_eval_DictComp]
  obtain ⟨cl, hclos, hcl1, hcl2⟩ := closureFor_ok (scope := scope) (env := X.env) (fun p hp hf => I.ok.has p.1 (S.free p hp hf))
  refine wpAny_comprehension_free (use := none) rfl hs hclos S.kind S.names (thn (hi pins s σ H _ I h) fun v s1 h1 => thn h1 fun itv s2 h2 => ?_)
  obtain ⟨it, fp, tn, J, H2, e, I2, T, st2, f2, q2⟩ := h2
  subst e
  obtain ⟨W, ⟨m0, w0⟩, turn⟩ := q2 s2.heap.objs.size (I2.hok.fresh (Nat.le_refl _))
  have hob : ∀ b ∈ fp, b < s2.heap.objs.size := fun b hb => let ⟨o, e, _⟩ := T.obj _ _ st2 b hb; Heap.lt_size e
  refine wpAny_newObj_type (wpAny_newFunctionEnv S.cell (by intro y hy; simp at hy) (fun h₁ hns₁ hsb₁ => ?_) S.kind)
  dsimp only at hns₁ hsb₁ ⊢
  generalize hHH : s2.heap.push { cls := .type "dict", dict := none, data := .dict #[] } = HH at hns₁ hsb₁ ⊢
  have hCC : HH.objs.size = s2.heap.objs.size + 1 := by rw [← hHH, Heap.size_push]
  have old : ∀ b o, s2.heap.get? b = some o → h₁.get? b = some o := fun b o e => hsb₁.extBut b o (Nat.ne_of_lt (hCC ▸ Nat.lt_succ_of_lt (Heap.lt_size e))) (Heap.get?_push_of_some _ (hHH ▸ Heap.get?_push_of_some _ e))
  have hD : h₁.get? s2.heap.objs.size = some { cls := .type "dict", data := .dict #[] } := hsb₁.extBut _ _ (Nat.ne_of_lt (hCC ▸ Nat.lt_succ_self _)) (Heap.get?_push_of_some _ (hHH ▸ Heap.get?_push_size _ rfl))
  have I4 := fun tk => compInvD (tk := tk) S I2 hcl1 hcl2 hCC f2 hob old hD hns₁
  have X' := cxComp X scope N ⟨cl, HH.objs.size, s2, H2, fp⟩
  have stat : ∀ {H' : Hp}, (∀ b ∈ fp, H' b = none) → ∀ b ∈ fp, FpOk (cxComp X scope N ⟨cl, HH.objs.size, s2, H2, fp⟩) [] H' b := fun hn b hb =>
    ⟨hn b hb, Nat.ne_of_lt (hCC ▸ Nat.lt_succ_of_lt (hob b hb)), (compOk S I2 hcl1 hcl2 (hCC ▸ Nat.le_succ _) f2 hob).exfs b hb, .inl hb, fun x c e => (f2 b hb).2.2.2.2.1 x c (hcl1 x c e), fun p hp => absurd (show p ∈ ([] : List (Addr × Obj)) from hp) (by simp)⟩
  have loop : ∀ s₃ : Shared, s₃ = { s2 with heap := h₁, toks := s2.toks + ([] : List (Str × Value)).length } →
      codeAny (model X.prog X.w) X.A (.compLoop (.DictComp kx vx [⟨tg, iter, ifs, 0⟩] scope pos) 0 (.ref it) (.ref s2.heap.objs.size) (compEnvC scope cl HH.objs.size X.env))
        (compPost (model X.prog X.w) X.A X.xe none (EP X pins σ Q) (.ref s2.heap.objs.size) HH.objs.size) s₃ := by
    rintro s₃ rfl
    refine compLoopD (fun n s' => ∃ i σ' H', Inv (cxComp X scope N ⟨cl, HH.objs.size, s2, H2, fp⟩) [] σ' H' s' ∧ tn i s'.heap ∧ (∀ b ∈ fp, H' b = none) ∧ W i n σ' H') ?_ m0
      ⟨0, capSt k cap σ, _, I4 _, T.keep _ _ _ st2 fun b _ o e => old b o e, fun b hb => by rw [upd_ne (Nat.ne_of_lt (hob b hb))]; exact (f2 b hb).1, w0⟩
    rintro n s3 ⟨i, σ3, H3, I3, st3, fr3, w3⟩
    rcases turn i n σ3 H3 w3 with ⟨stop, qn⟩ | ⟨go, NN, hN, step⟩
    · refine thn (T.done (cxComp X scope N ⟨cl, HH.objs.size, s2, H2, fp⟩) rfl rfl rfl hc i [] s3 σ3 H3 _ I3 (stat fr3) st3 stop) fun r s4 ⟨hr, J4⟩ => ?_
      subst hr
      obtain ⟨m, hn, _⟩ := J4.loc
      refine ⟨m, hn, fun h' hs' => ?_⟩
      have keepC : ∀ b o, b ≠ HH.objs.size → s4.heap.get? b = some o → h'.get? b = some o := fun b o hb e => hs'.extBut b o hb e
      have ltC : ∀ b o, s2.heap.get? b = some o → b ≠ HH.objs.size := fun b o e => Nat.ne_of_lt (hCC ▸ Nat.lt_succ_of_lt (Heap.lt_size e))
      have u := J4.base
      have u' : Un (frs X.stack) fp H2 H3 s2.heap h' := ⟨fun b o q n hb hx => keepC b o (ltC b o q) (u.keep b o q n hb hx), fun b o q n hb hx => by
          obtain ⟨sl, e⟩ := u.slot b o q n hb hx
          exact ⟨sl, keepC b _ (ltC b o q) e⟩, u.free, fun b o q hx => by
          obtain ⟨o', e⟩ := u.there b o q hx
          exact ⟨o', keepC b _ (ltC b o q) e⟩, u.tups, u.frzs, u.tbls⟩
      refine ⟨.ref s2.heap.objs.size, H3, I2.call' (ch := fp) J4.os u' (J4.hok.but J4.free keepC) J4.bare fun b hb => ?_, rfl, qn⟩
      obtain ⟨_, f1, _, f3, f4, f5⟩ := f2 b hb
      exact ⟨f3, f1, f4, f5⟩
    · refine thn (T.item (cxComp X scope N ⟨cl, HH.objs.size, s2, H2, fp⟩) rfl rfl rfl hc i [] s3 σ3 H3 _ I3 (stat fr3) st3 go) fun r s4 ⟨u, hr, h4⟩ => ?_
      subst hr
      refine thn h4 fun _ s5 ⟨x, H5, I5, r5, y5, st5, fr5⟩ => ?_
      have I5' := I5.pinned (stat fr5) (T.obj _ _ st5)
      have again : ∀ {s7 : Shared} {σ7 : St} {H7 : Hp}, Inv (cxComp X scope N ⟨cl, HH.objs.size, s2, H2, fp⟩) ([] ++ pinsAt fp s5.heap) σ7 H7 s7 → NN σ7 H7 →
          ∃ m, m < n ∧ ∃ i σ' H', Inv (cxComp X scope N ⟨cl, HH.objs.size, s2, H2, fp⟩) [] σ' H' s7 ∧ tn i s7.heap ∧ (∀ b ∈ fp, H' b = none) ∧ W i m σ' H' := fun {s7 σ7 H7} I7 n7 => by
        obtain ⟨m', hm, w7⟩ := hN σ7 H7 n7
        refine ⟨m', hm, i + 1, σ7, H7, I7.unpinned, T.keep _ _ _ st5 fun b hb o e => (I7.pin (b, o) (List.mem_append_right _ (List.mem_append_right _ (mem_pinsAt hb e)))).1, fun b hb => ?_, w7⟩
        obtain ⟨o, e, d⟩ := T.obj _ _ st5 b hb
        exact (I7.pin (b, o) (List.mem_append_right _ (List.mem_append_right _ (mem_pinsAt hb e)))).2.1
      refine thn (hg _ _ s5 σ3 H5 x u _ I5' r5 (step x H5 y5)) fun _ s6 ⟨σ6, H6, I6, q6⟩ => ?_
      refine thn (ht _ _ s6 σ6 H6 _ I6 q6) fun b s7 ⟨H7, I7, q7⟩ => ?_
      cases b with
      | false => exact again I7 q7
      | true =>
        refine thn (hk _ _ s7 σ6 H7 _ I7 q7) fun kv s8 ⟨kx', H8, I8, r8, q8⟩ => ?_
        refine thn (he _ _ s8 σ6 H8 _ I8 q8) fun y s9 ⟨yv, H9, I9, r9, kvs, key, hl, ek, hz, n9⟩ => ?_
        subst ek
        obtain ⟨z, hd, vs, rel, dd⟩ := dk_of I9.hok hl
        have hz' : vs.length ≤ sizeLine := by rw [← rel.length]; exact z
        have hl' : (putK kvs key yv).length ≤ sizeLine := by have := length_putK kvs key yv; omega
        refine wpAny_dictSet_pairs (hsz := hz') (kV_is r8) dd fun h' dd' hs' => ?_
        have hx' : ∃ q, h'.get? s2.heap.objs.size = some q := let ⟨q, _, _, hq, _⟩ := dd'; ⟨q, hq⟩
        obtain ⟨ep, da⟩ := dd'.dictAt
        exact again (d_write I9 hl.mut hs' hx' (dk_new hl' hd (rel.put key r9) da)) (n9 ep)
  exact codeAny_compStart_dict (loop _ rfl) (T.self X.A 0 _ _ _ (T.keep _ _ _ st2 fun b _ o e => old b o e) (loop _ rfl))
theorem pe_dc (N : List Str) (k : Nat) (cap : List Nat) (XN : List Str) (xs : Scope) (hc : X.calm = true) (hN : X.N = XN) (hx : X.env.scope = xs) (hi : PI X tg iter wi) (chk : compChk XN xs scope N k cap = true)
    (hg : ∀ c, PG (cxComp X scope N c) tg g) (ht : ∀ c, PTs (cxComp X scope N c) ifs tt) (hk : ∀ c, PE (cxComp X scope N c) kx tk) (he : ∀ c, PE (cxComp X scope N c) vx te)
    (hs : ∀ x, foldedSetIterable iter X.env x = pure x := by intro _; rfl) : PE X (.DictComp kx vx [⟨tg, iter, ifs, 0⟩] scope pos) (tDComp wi k cap g tt tk te) := pe_dcomp hc (compScope_of hN hx chk) hi hg ht hk he hs
end
end L2
set_option Elab.async false
set_option linter.all false
set_option maxRecDepth 100000
set_option maxHeartbeats 4000000
namespace Mr
open PySem L2
noncomputable def dcompM (fg : FG) (ft : FT) (fk fe : FE) : List PV → En → List (Key × PV) → Option (List (Key × PV) × En)
  | [], e, d => some (d, e)
  | x :: xs, e, d => bO (fg x e) fun e1 => bE (ft e1) fun b e2 => match b with
    | false => dcompM fg ft fk fe xs e2 d
    | true => bE (fk e2) fun kb e3 => bE (fe e3) fun r e4 => bO (kb.weak.get e4) fun kp => bO (keyOf kp) fun k => bO r.put fun p => dcompM fg ft fk fe xs e4 (putP d k p)
noncomputable def fDComp (fi : FI) (k : Nat) (cap : List Nat) (ms : List (Nat × Nat)) (fg : FG) (ft : FT) (fk fe : FE) : FE := fun e =>
  bE (fi (fun i => !(ms.any fun z => z.1 == i)) e) fun items e1 => guardP (decide (items.length < 1000000)) (bE (dcompM fg ft fk fe items (innE k cap ms e1) []) fun ys ei => bO (backE ei ms e1) fun e2 => some (.new (.dct ys), e2))
section
variable {K : PySem.W.Frag}
theorem ref_dcomp {wi : TI} {g : TG} {tt : TT} {tk te : TE} {fi : FI} {k : Nat} {cap : List Nat} (ms : List (Nat × Nat)) {fg : FG} {ft : FT} {fk fe : FE} (hms : ∀ i j1 j2, (i, j1) ∈ ms → (i, j2) ∈ ms → j1 = j2) (hms2 : ∀ i1 i2 j, (i1, j) ∈ ms → (i2, j) ∈ ms → i1 = i2) (hi : RefI K wi fi) (hg : RefG K g fg) (ht : RefT K tt ft) (hk : Ref K tk fk) (he : Ref K te fe) : Ref K (tDComp wi k cap g tt tk te) (fDComp fi k cap ms fg ft fk fe) := by
  intro O M W L σ H e e' b Q o hen hf q
  obtain ⟨items, e1, f1, hf⟩ := bE_some hf
  obtain ⟨hsz, hf⟩ := guardP_some hf
  obtain ⟨ys, ei, f2, hf⟩ := bE_some hf
  obtain ⟨e2, f3, hf⟩ := bO_some hf
  cases hf
  have hsz := of_decide_eq_true hsz
  refine hi (fun i => !(ms.any fun z => z.1 == i)) O M W L σ H e e1 items _ o hen f1 fun J H1 k1 en it => ?_
  have o1 := o.keep k1.dom
  let W' : WS := ⟨fun j a => ∃ i s, (i, j) ∈ ms ∧ e1[i]? = some (some s) ∧ s.mine = true ∧ σ[i]? = some (some (.ref a)), fun a => H1 a ≠ none⟩
  have whose : ∀ (i : Nat) s a, e1[i]? = some (some s) → s.mine = true → σ[i]? = some (some (.ref a)) → (aw W a ∨ L a) ∧ ∃ ob, H1 a = some ob ∧ ∀ xs, ob ≠ .tup xs := fun i s a hs hm ha => by
    obtain ⟨v, h1, h2⟩ := en.at' i s hs
    rw [ha] at h1
    cases h1
    cases s with
    | val p => cases hm
    | bor p => cases hm
    | own p => obtain ⟨b, e, w, c⟩ := h2; cases e; exact ⟨.inl ⟨i, w⟩, c.there⟩
    | loc p => obtain ⟨b, e, w, c⟩ := h2; cases e; exact ⟨.inr w, c.there⟩
  have wsub : ∀ a, aw W' a → (aw W a ∨ L a) ∧ ∃ ob, H1 a = some ob ∧ ∀ xs, ob ≠ .tup xs := fun a ⟨j, i, s, hm, hs, hmine, ha⟩ => whose i s a hs hmine ha
  have it := it (aw W') (fun a z => (wsub a z).1) fun i a s hst hs hm ha ⟨j, i', s', hm', hs', hmine', ha'⟩ => by
    have ne : i' ≠ i := fun z => by
      subst z
      have : (ms.any fun z => z.1 == i') = true := List.any_eq_true.mpr ⟨(i', j), hm', by simp⟩
      rw [this] at hst
      cases hst
    exact en.dis i' i s' s ne hs' hs hmine' hm (by rw [ha', ha])
  intro l hl
  have zl : ∀ a ob, H1 a = some ob → a ≠ l := fun a ob h => ne_of_none h hl
  let M' : ASet := uni M (uni L (one l))
  let O' : ASet := fun a => H1 a ≠ none ∨ a = l
  have s0 : Same H1 (upd H1 l (.dK [] 0)) := Same.upd hl
  have ML : ∀ a, (aw W a ∨ L a) → uni M L a := fun a z => z.elim (fun ⟨i, w⟩ => .inl (o.wm i a w)) .inr
  have k0 : Stay (uni M L) (uni M' noA) H1 (upd H1 l (.dK [] 0)) := ⟨fun a xs h => s0 _ _ h, fun a ob h n => ⟨s0 _ _ h, fun z => by
    rcases z with (z | z | z) | z
    · exact n (.inl z)
    · exact n (.inr z)
    · exact zl a ob h z
    · exact z⟩⟩
  have okc0 : ∀ H2, (∀ a, H1 a ≠ none ∨ a = l → H2 a ≠ none) → Okc O' M' W' noA H2 := fun H2 d => ⟨d, fun a z => by
      rcases z with z | z | z
      · exact .inl (o1.old a (o1.mo a z))
      · exact .inl (o1.loc a z).1
      · exact .inr z, fun j a z => by
      rcases ML a (wsub a ⟨j, z⟩).1 with z | z
      · exact .inl z
      · exact .inr (.inl z), fun a z => z.elim⟩
  have lenS : (innE k cap ms e1).length = (capSt k cap σ).length := by
    unfold innE capSt
    rw [List.length_append, List.length_append, capL_len, List.length_map, List.length_replicate, List.length_replicate]
  have en0 : EnRep K (uni M' noA) W' noA (upd H1 l (.dK [] 0)) (capSt k cap σ) (innE k cap ms e1) := by
    have lend : ∀ (i : Nat) s p a, e1[i]? = some (some s) → (s = .own p ∨ s = .loc p) → σ[i]? = some (some (.ref a)) → Cont K (uni M L) H1 a p → ¬ (∃ j, (i, j) ∈ ms) → Lent K (uni M' noA) W' noA (upd H1 l (.dK [] 0)) a p := fun i s p a hs hp ha c nm => by
      have hm : s.mine = true := by rcases hp with rfl | rfl <;> rfl
      have nw : ¬ aw W' a := fun ⟨j, i', s', hm', hs', hmine', ha'⟩ => by
        have ne : i' ≠ i := fun z => nm ⟨j, z ▸ hm'⟩
        exact en.dis i' i s' s ne hs' hs hmine' hm (by rw [ha', ha])
      have c' := c.stay k0 fun ob h => s0 _ _ h
      cases c' with
      | lst h r => exact .lst (.inl h) (by obtain ⟨ob, h1, _⟩ := c.there; show H1 a ≠ none; rw [h1]; exact fun z => nomatch z) nw (fun z => z) r
      | dct h kk r => exact .dct (.inl h) (by obtain ⟨ob, h1, _⟩ := c.there; show H1 a ≠ none; rw [h1]; exact fun z => nomatch z) nw (fun z => z) kk r
    have bors : ∀ p a, Lent K (uni M L) W L H1 a p → Lent K (uni M' noA) W' noA (upd H1 l (.dK [] 0)) a p := fun p a c => by
      cases c with
      | lst h od n m r => exact .lst (h.elim (fun h => .inl (s0 _ _ h)) fun ⟨u, h⟩ => .inr ⟨u, s0 _ _ h⟩) (fun z => Rd.ne h z rfl) (fun z => (wsub a z).1.elim n m) (fun z => z) (r.stay k0)
      | klst h r => exact .klst h (r.stay k0)
      | dct h od n m kk r => exact .dct (h.elim (fun h => .inl (s0 _ _ h)) fun ⟨u, h⟩ => .inr ⟨u, s0 _ _ h⟩) (fun z => Rd.ne h z rfl) (fun z => (wsub a z).1.elim n m) (fun z => z) kk (r.stay k0)
    have row : ∀ (i j : Nat) s, capE e1 ms i j = some s → ∃ v, σ[i]? = some (some v) ∧ SlRep K (uni M' noA) W' noA (upd H1 l (.dK [] 0)) j v s ∧ (s.mine = true → (i, j) ∈ ms ∧ ∃ s', e1[i]? = some (some s') ∧ s'.mine = true) := fun i j s h => by
      unfold capE at h
      have nc : ∀ {p : PV}, ms.contains (i, j) = true → (i, j) ∈ ms := fun z => List.contains_iff_mem.mp z
      cases c : e1[i]? with
      | none => rw [c] at h; cases h
      | some s' =>
        cases s' with
        | none => rw [c] at h; cases h
        | some s' =>
          rw [c] at h
          obtain ⟨v, h1, h2⟩ := en.at' i s' c
          refine ⟨v, h1, ?_⟩
          cases s' with
          | val p => cases h; exact ⟨Rep.stay k0 h2, fun z => nomatch z⟩
          | bor p => cases h; obtain ⟨a, e, c⟩ := h2; exact ⟨⟨a, e, bors p a c⟩, fun z => nomatch z⟩
          | own p =>
            obtain ⟨a, e, w, ct⟩ := h2
            subst e
            dsimp only at h
            cases d : ms.contains (i, j) with
            | true =>
              rw [d, if_pos rfl] at h
              cases h
              have hm := List.contains_iff_mem.mp d
              exact ⟨⟨a, rfl, ⟨i, _, hm, c, rfl, h1⟩, ct.stay k0 fun ob h => s0 _ _ h⟩, fun _ => ⟨hm, _, rfl, rfl⟩⟩
            | false =>
              rw [d, if_neg Bool.false_ne_true] at h
              cases d2 : ms.any (fun z => z.1 == i) with
              | true => rw [d2, if_pos rfl] at h; cases h
              | false =>
                rw [d2, if_neg Bool.false_ne_true] at h
                cases h
                refine ⟨⟨a, rfl, lend i _ p a c (.inl rfl) h1 ct fun ⟨j', hm'⟩ => ?_⟩, fun z => nomatch z⟩
                have : (ms.any fun z => z.1 == i) = true := List.any_eq_true.mpr ⟨(i, j'), hm', by simp⟩
                rw [d2] at this
                cases this
          | loc p =>
            obtain ⟨a, e, w, ct⟩ := h2
            subst e
            dsimp only at h
            cases d : ms.contains (i, j) with
            | true =>
              rw [d, if_pos rfl] at h
              cases h
              have hm := List.contains_iff_mem.mp d
              exact ⟨⟨a, rfl, ⟨i, _, hm, c, rfl, h1⟩, ct.stay k0 fun ob h => s0 _ _ h⟩, fun _ => ⟨hm, _, rfl, rfl⟩⟩
            | false =>
              rw [d, if_neg Bool.false_ne_true] at h
              cases d2 : ms.any (fun z => z.1 == i) with
              | true => rw [d2, if_pos rfl] at h; cases h
              | false =>
                rw [d2, if_neg Bool.false_ne_true] at h
                cases h
                refine ⟨⟨a, rfl, lend i _ p a c (.inr rfl) h1 ct fun ⟨j', hm'⟩ => ?_⟩, fun z => nomatch z⟩
                have : (ms.any fun z => z.1 == i) = true := List.any_eq_true.mpr ⟨(i, j'), hm', by simp⟩
                rw [d2] at this
                cases this
    refine ⟨lenS, fun j s hj => ?_, fun j1 j2 s t hn h1 h2 m1 m2 => ?_⟩
    · obtain ⟨q, i, rfl, hc, hs⟩ := innE_get hj
      obtain ⟨v, h1, h2, _⟩ := row i _ s hs
      exact ⟨v, capSt_at hc h1, h2⟩
    · obtain ⟨q1, i1, rfl, c1, hs1⟩ := innE_get h1
      obtain ⟨q2, i2, rfl, c2, hs2⟩ := innE_get h2
      obtain ⟨v1, a1, _, b1⟩ := row i1 _ s hs1
      obtain ⟨v2, a2, _, b2⟩ := row i2 _ t hs2
      obtain ⟨w1, s1, d1, n1⟩ := b1 m1
      obtain ⟨w2, s2, d2, n2⟩ := b2 m2
      rw [capSt_at c1 a1, capSt_at c2 a2]
      have ne : i1 ≠ i2 := fun z => by subst z; exact hn (hms _ _ _ w1 w2)
      have := en.dis i1 i2 s1 s2 ne d1 d2 n1 n2
      rw [a1, a2] at this
      exact this
  have dl : ∀ a xs, H1 a = some (.tup xs) → a ≠ l := fun a xs h => zl a _ h
  let N : Nat → St → Hp → Prop := fun i σ' H' => ∃ ei' acc vs, Keep W' (one l) (upd H1 l (.dK [] 0)) H' ∧ IsDK H' l vs ∧ RepD K (uni M' noA) H' acc vs ∧ EnRep K (uni M' noA) W' noA H' σ' ei' ∧ acc.length ≤ i ∧
    dcompM fg ft fk fe (items.drop i) ei' acc = some (ys, ei)
  have k0' : ∀ H', Keep W' (one l) (upd H1 l (.dK [] 0)) H' → ∀ a, H1 a ≠ none ∨ a = l → H' a ≠ none := fun H' kk a z => kk.dom a (by
    rcases z with z | z
    · cases e : H1 a with
      | none => exact absurd e z
      | some u => rw [s0 _ _ e]; exact fun z => nomatch z
    · rw [z, upd_same]; exact fun z => nomatch z)
  refine ⟨fun i m σ' H' => m = items.length - i ∧ i ≤ items.length ∧ N i σ' H', ⟨items.length, by simp, Nat.zero_le _, innE k cap ms e1, [], [], .refl, ⟨0, upd_same⟩, ⟨rfl, .nil⟩, en0, Nat.le_refl _, by rw [List.drop_zero]; exact f2⟩, ?_⟩
  rintro i m σ2 H2 ⟨rfl, hil, ei2, acc, vs, kk, hl2, ra, en2, hacc, f4⟩
  have oki := okc0 H2 (k0' H2 kk)
  obtain ⟨itm, its⟩ := it (uni L (one l)) H2 (fun a ob h n => kk.obj a ob (s0 _ _ h) n (zl a ob h)) (fun a xs h => kk.tup a xs (s0 _ _ h)) (fun a z => z.elim .inl fun z => .inr (by rw [show a = l from z]; exact hl))
  by_cases hlt : i < items.length
  · refine .inr ?_
    obtain ⟨go, yl⟩ := itm i items[i] (by simp [hlt])
    refine ⟨go, N (i + 1), fun σ' H' n => ⟨items.length - (i + 1), by omega, rfl, hlt, n⟩, fun x H3 y => ?_⟩
    obtain ⟨s3, rp⟩ := yl x H3 y
    rw [List.drop_eq_getElem_cons hlt] at f4
    obtain ⟨e4, c1, f4⟩ := bO_some f4
    have oki3 := oki.keep (H' := H3) (Keep.same (W := W') (L := noA) s3).dom
    have rp' : Rep K (uni M' noA) H3 items[i] x := rp.stay (.less fun a z => z.elim id fun z => z.elim)
    refine hg O' M' W' noA σ2 H3 ei2 e4 _ x _ oki3 (en2.same s3) rp' c1 fun σ3 en3 => ?_
    obtain ⟨b, e5, c2, f4⟩ := bE_some f4
    refine ht O' M' W' noA σ3 H3 e4 e5 b _ oki3 en3 c2 fun H4 k4 en4 => ?_
    have oki4 := oki3.keep k4.dom
    have nlw : ¬ aw W' l := fun z => by obtain ⟨_, ob, h, _⟩ := wsub l z; rw [hl] at h; cases h
    have kL : ∀ {A B : Hp}, Keep W' noA A B → Keep W' (one l) A B := fun k => ⟨fun a ob h n m => k.obj a ob h n fun z => z, k.tup, k.dom⟩
    have st : ∀ {A B : Hp}, Keep W' noA A B → Okc O' M' W' noA A → Stay (uni M' noA) (uni M' noA) A B := fun k ok => k.stay ok
    have k34 : Keep W' noA H2 H4 := (Keep.same s3).trans k4
    cases b with
    | false =>
      rw [if_neg Bool.false_ne_true]
      exact ⟨e5, acc, vs, kk.trans (kL k34), (let ⟨ep, e⟩ := hl2; ⟨ep, k34.obj l _ e nlw (fun z => z)⟩), ⟨ra.1, ra.2.stay (st k34 oki)⟩, en4, Nat.le_succ_of_le hacc, f4⟩
    | true =>
      rw [if_pos rfl]
      obtain ⟨kb, e6, ck, f4⟩ := bE_some f4
      obtain ⟨rv, e7, c3, f4⟩ := bE_some f4
      obtain ⟨kp, cg, f4⟩ := bO_some f4
      obtain ⟨key, cy, f4⟩ := bO_some f4
      obtain ⟨p, c4, f4⟩ := bO_some f4
      refine hk O' M' W' noA σ3 H4 e5 e6 kb _ oki4 en4 ck fun kv H4' k4' rk frk => ?_
      have oki4' := oki4.keep k4'.dom
      refine he O' M' W' noA σ3 H4' e6 e7 rv _ oki4' (rk.en oki4') c3 fun v H5 k5 rb fr => ?_
      have oki5 := oki4'.keep k5.dom
      obtain ⟨en5, rp5⟩ := rb.put oki5 c4
      have ek : kv = kV key := (((rk.rv oki4').keep oki4' k5).red en5 cg).key cy
      have k35 : Keep W' noA H2 H5 := (k34.trans k4').trans k5
      obtain ⟨ep0, hl20⟩ := hl2
      have hl5 := k35.obj l _ hl20 nlw (fun z => z)
      have ra5 : RepD K (uni M' noA) H5 acc vs := ⟨ra.1, ra.2.stay (st k35 oki)⟩
      have lv : vs.length = acc.length := by have := congrArg List.length ra.1; rw [List.length_map, List.length_map] at this; exact this
      refine ⟨vs, key, ⟨_, hl5⟩, ek, by rw [sizeLine_eq]; omega, fun ep => ?_⟩
      have stw : Stay (uni M' noA) (uni M' noA) H5 (upd H5 l (.dK (putK vs key v) ep)) := .write (.inl (.inr (.inr rfl))) hl5 fun _ z => nomatch z
      have kw : Keep W' (one l) H5 (upd H5 l (.dK (putK vs key v) ep)) := .write (.inr rfl) hl5 fun _ z => nomatch z
      have lp : (putP acc key p).length ≤ acc.length + 1 := by
        unfold putP
        split
        · rw [List.length_map]; omega
        · rw [List.length_append]; exact Nat.le_refl _
      refine ⟨e7, putP acc key p, putK vs key v, (kk.trans (kL k35)).trans kw, ⟨ep, upd_same⟩, RepD.put key ⟨ra5.1, ra5.2.stay stw⟩ (rp5.stay stw), ?_, by omega, f4⟩
      refine ⟨en5.len, fun j s hj => ?_, en5.dis⟩
      obtain ⟨u, g1, g2⟩ := en5.at' j s hj
      refine ⟨u, g1, ?_⟩
      cases s with
      | val p => exact Rep.stay stw g2
      | own p =>
        obtain ⟨a, e, w, c⟩ := g2
        exact ⟨a, e, w, c.stay stw fun ob h => by rw [upd_ne (fun z : a = l => nlw (by rw [← z]; exact ⟨j, w⟩))]; exact h⟩
      | loc p => obtain ⟨a, e, w, c⟩ := g2; exact w.elim
      | bor p =>
        obtain ⟨a, e, c⟩ := g2
        refine ⟨a, e, ?_⟩
        have ne : W'.old a → a ≠ l := fun od z => od (by rw [z]; exact hl)
        cases c with
        | lst h od n m r => exact .lst (h.elim (fun h => .inl (by rw [upd_ne (ne od)]; exact h)) fun ⟨u, h⟩ => .inr ⟨u, by rw [upd_ne (ne od)]; exact h⟩) od n m (r.stay stw)
        | klst h r => exact .klst h (r.stay stw)
        | dct h od n m kk r => exact .dct (h.elim (fun h => .inl (by rw [upd_ne (ne od)]; exact h)) fun ⟨u, h⟩ => .inr ⟨u, by rw [upd_ne (ne od)]; exact h⟩) od n m kk (r.stay stw)
  · have e : i = items.length := by omega
    subst e
    rw [List.drop_length] at f4
    cases f4
    have kout : Keep W L H1 H2 := ⟨fun a ob h n m => kk.obj a ob (s0 _ _ h) (fun z => (wsub a z).1.elim n m) (zl a ob h), fun a xs h => kk.tup a xs (s0 _ _ h), fun a h => k0' H2 kk a (.inl h)⟩
    have kf : Stay (uni M L) (uni M (uni L (one l))) H1 H2 := ⟨kout.tup, fun a ob h n => ⟨kk.obj a ob (s0 _ _ h) (fun z => n (ML a (wsub a z).1)) (zl a ob h), fun z => by
      rcases z with z | z | z
      · exact n (.inl z)
      · exact n (.inr z)
      · exact zl a ob h z⟩⟩
    have pend : EnPend K (uni M (uni L (one l))) W (uni L (one l)) H2 σ (fun i => ∃ j, (i, j) ∈ ms) e1 := by
      refine ⟨en.len, fun i s hs => ?_, en.dis⟩
      obtain ⟨v, h1, h2⟩ := en.at' i s hs
      have keepM : ∀ a, s.mine = true → ¬ (∃ j, (i, j) ∈ ms) → v = .ref a → ∀ ob, H1 a = some ob → H2 a = some ob := fun a hm nt ev ob h => by
        subst ev
        refine kk.obj a ob (s0 _ _ h) (fun ⟨j, i', s', hm', hs', hmine', ha'⟩ => ?_) (zl a ob h)
        have ne : i' ≠ i := fun z => nt ⟨j, z ▸ hm'⟩
        exact en.dis i' i s' s ne hs' hs hmine' hm (by rw [ha', h1])
      refine ⟨v, h1, fun z => ?_, fun hm => ?_⟩
      · cases s with
        | val p => exact Rep.stay kf h2
        | own p =>
          obtain ⟨a, e, w, c⟩ := h2
          exact ⟨a, e, w, c.stay kf fun ob h => keepM a rfl (z.elim id fun z => nomatch z) e ob h⟩
        | loc p =>
          obtain ⟨a, e, w, c⟩ := h2
          exact ⟨a, e, .inl w, c.stay kf fun ob h => keepM a rfl (z.elim id fun z => nomatch z) e ob h⟩
        | bor p =>
          obtain ⟨a, e, c⟩ := h2
          refine ⟨a, e, ?_⟩
          cases c with
          | lst h od n m r => exact .lst (h.elim (fun h => .inl (kout.obj _ _ h n m)) fun ⟨u, h⟩ => .inr ⟨u, kout.obj _ _ h n m⟩) od n (fun z => z.elim m (Rd.ne h hl)) (r.stay kf)
          | klst h r => exact .klst h (r.stay kf)
          | dct h od n m kk r => exact .dct (h.elim (fun h => .inl (kout.obj _ _ h n m)) fun ⟨u, h⟩ => .inr ⟨u, kout.obj _ _ h n m⟩) od n (fun z => z.elim m (Rd.ne h hl)) kk (r.stay kf)
      · cases s with
        | val p => cases hm
        | bor p => cases hm
        | own p => obtain ⟨a, e, w, c⟩ := h2; exact ⟨a, e, .inl ⟨p, rfl, w⟩⟩
        | loc p => obtain ⟨a, e, w, c⟩ := h2; exact ⟨a, e, .inr ⟨p, rfl, .inl w⟩⟩
    have enf : EnRep K (uni M (uni L (one l))) W (uni L (one l)) H2 σ e' := backE_ok pend (fun i j p a hm hp ha => by
      rcases ownAt_some hp with g | g
      · obtain ⟨v, h1, a', rfl, ⟨i', s', hm', _, _, ha'⟩, c⟩ := en2.at' j _ g
        have ei := hms2 i i' j hm hm'
        subst ei
        rw [ha] at ha'
        cases ha'
        exact c.stay (.less fun a z => .inl z) fun _ h => h
      · obtain ⟨v, h1, a', rfl, w, c⟩ := en2.at' j _ g
        exact w.elim) f3
    refine .inl ⟨its, q _ _ (k1.trans kout) ⟨l, rfl, fun z => o1.old l z hl, fun z => (o1.loc l z).1 hl, enf, fun i s hs hm e => ?_, .dct hl2.choose_spec ra.1 (ra.2.stay (.less fun a z => .inl z))⟩ (Fr.back (b := .new (.dct _)) k1.dom fun a e => by cases e; exact hl)⟩
    obtain ⟨s', hs', hm'⟩ := backE_mine f3 i s hs hm
    obtain ⟨_, ob, h, _⟩ := whose i s' l hs' hm' e
    rw [hl] at h
    cases h
theorem ref_dcomp2 {wi : TI} {g : TG} {tt : TT} {tk te : TE} {fi : FI} {k : Nat} {cap : List Nat} (ms : List (Nat × Nat)) {fg : FG} {ft : FT} {fk fe : FE} (hms : (ms.all fun z => ms.all fun z' => (z.1 == z'.1) == (z.2 == z'.2)) = true) (hi : RefI K wi fi) (hg : RefG K g fg) (ht : RefT K tt ft) (hk : Ref K tk fk) (he : Ref K te fe) : Ref K (tDComp wi k cap g tt tk te) (fDComp fi k cap ms fg ft fk fe) := by
  have key : ∀ z ∈ ms, ∀ z' ∈ ms, (z.1 == z'.1) = (z.2 == z'.2) := fun z hz z' hz' => by
    have := List.all_eq_true.mp (List.all_eq_true.mp hms z hz) z' hz'
    simpa using this
  refine ref_dcomp ms (fun i j1 j2 h1 h2 => ?_) (fun i1 i2 j h1 h2 => ?_) hi hg ht hk he
  · have := key _ h1 _ h2
    simpa using this
  · have := key _ h1 _ h2
    simpa using this
end
end Mr
set_option Elab.async false
set_option linter.all false
set_option maxRecDepth 100000
set_option maxHeartbeats 4000000
namespace L2
open PySem
section
variable {X : Cx} {kx vx tg iter : Expr} {ifs : List Expr} {scope : Scope} {pos : Pos} {wi : TI} {g : TG} {tt : TT} {tk te : TE} {N : List Str} {k : Nat} {cap : List Nat}
end
end L2
namespace Mr
open PySem L2
theorem wp_fdcomp {fi : FI} {k : Nat} {cap : List Nat} {ms : List (Nat × Nat)} {fg : FG} {ft : FT} {fk fe : FE} {e : En} {Q : Bv × En → Prop} :
    Wp (fDComp fi k cap ms fg ft fk fe e) Q ↔ Wp (fi (fun i => !(ms.any fun z => z.1 == i)) e) fun z => z.1.length < 1000000 ∧ Wp (dcompM fg ft fk fe z.1 (innE k cap ms z.2) []) fun w => Wp (backE w.2 ms z.2) fun e2 => Q (.new (.dct w.1), e2) := by
  unfold fDComp
  constructor
  · intro h
    obtain ⟨z, h1, h⟩ := wp_bE.mp h
    obtain ⟨g, h⟩ := wp_guard.mp h
    obtain ⟨w, h2, h⟩ := wp_bE.mp h
    obtain ⟨e2, h3, h⟩ := wp_bO.mp h
    exact ⟨z, h1, of_decide_eq_true g, w, h2, e2, h3, wp_some.mp h⟩
  · rintro ⟨z, h1, g, w, h2, e2, h3, q⟩
    exact wp_bE.mpr ⟨z, h1, wp_guard.mpr ⟨decide_eq_true g, wp_bE.mpr ⟨w, h2, wp_bO.mpr ⟨e2, h3, wp_some.mpr q⟩⟩⟩⟩
end Mr
set_option Elab.async false
set_option linter.all false
set_option maxRecDepth 100000
set_option maxHeartbeats 4000000
namespace L2
open PySem PyProof.Rows
section
variable {X : Cx}
noncomputable def rIndexL (K : PySem.W.Frag) : V → List V → Hp → VK → Prop := fun x vs H Q => ∃ (l : Addr) (zs : List Str) (y : Str), x = .ref l ∧ vs = [.str y] ∧ SqL K H l (zs.map V.str) ∧ y ∈ zs ∧ zs.length < 1000000 ∧ Q (.int (zs.idxOf y : Nat)) H
theorem isStrOf_at (k : Str) : ∀ {vs : List Value} {ys : List Str}, StrsAre vs ys → ∀ (j : Nat) (h1 : j < vs.length) (h2 : j < ys.length), isStrOf k vs[j] = (ys[j] == k)
  | _, _, .cons n t h, 0, _, _ => rfl
  | _, _, .cons n t h, j + 1, h1, h2 => isStrOf_at k h j (by simpa using h1) (by simpa using h2)
theorem strs_len : ∀ {vs : List Value} {ys : List Str}, StrsAre vs ys → vs.length = ys.length
  | _, _, .nil => rfl
  | _, _, .cons n t h => by rw [List.length_cons, List.length_cons, strs_len h]
theorem mt_indexL (K : PySem.W.Frag) (hK : X.K = K := by rfl) : MtR X "list.index" (rIndexL K) := by
  subst hK
  intro pins s σ H x vs v us Q I rx rv h
  obtain ⟨l, zs, y, rfl, rfl, hq, hy, hz, q⟩ := h
  cases rx
  obtain ⟨u, rfl, t, rfl⟩ := vals1 rv
  obtain ⟨its, r, pl, _⟩ := I.list hq
  have hi : StrsAre its zs := strs_of r
  have hl := pl.isList
  obtain ⟨⟨cls, dd, data, sl⟩, ho, hc, n, hd⟩ := id hl
  simp only at hc hd
  subst hc hd
  have hlen := strs_len hi
  have hj : zs.idxOf y < zs.length := List.idxOf_lt_length_iff.mpr hy
  refine call_meets PySem.F.slot_list_index ⟨_, ho, rfl⟩ PySem.F.entry_list_index (PySem.F.args_list_index_2 _ _)
    (SeqAt.list_indexAt l its.toArray n dd sl (.str y t) (isStrOf y) (zs.idxOf y) (by simpa [hlen] using hj) (by omega) ?_ ?_) ⟨ho, fun w hw => (eq_isStrOf y t hi w (by simpa using hw)).at _ _, ⟨.int (zs.idxOf y : Nat), H, I.tok _, ⟨_, rfl⟩, q⟩⟩
  · show isStrOf y its[zs.idxOf y] = true
    rw [isStrOf_at y hi _ (by omega) hj]
    simpa using List.getElem_idxOf hj
  · intro j hjs hlt
    show isStrOf y its[j] = false
    rw [isStrOf_at y hi j (by simpa using hjs) (by omega)]
    have := List.not_of_lt_findIdx (p := (· == y)) (xs := zs) (i := j) hlt
    simpa using this
end
end L2
namespace Mr
open PySem L2
section
variable {K : PySem.W.Frag}
noncomputable def gIndexL : PV → List PV → Option Bv
  | .lst ps, [.str y] => bO (strsP ps) fun zs => guardP (decide (y ∈ zs) && decide (zs.length < 1000000)) (some (.val (.int (zs.idxOf y : Nat))))
  | _, _ => none
theorem ok_indexL : MtOk K (rIndexL K) gIndexL := by
  intro Z H x vs p ps b Q hp hps h k
  unfold gIndexL at h
  split at h
  · obtain ⟨zs, g, h⟩ := bO_some h
    obtain ⟨c, h⟩ := guardP_some h
    cases h
    rw [Bool.and_eq_true] at c
    obtain ⟨v, rfl, hv⟩ := hps.one
    obtain ⟨a, ys, rfl, ha, ra⟩ := hp.lsts
    rw [strsP_eq g] at ra
    rw [ra.strs] at ha
    exact ⟨a, zs, _, rfl, by rw [hv.str], ha.sq, of_decide_eq_true c.1, of_decide_eq_true c.2, k _ H (Same.refl _) (Rep.int _)⟩
  · cases h
end
end Mr
set_option Elab.async false
set_option linter.all false
set_option maxRecDepth 100000
set_option maxHeartbeats 4000000
namespace L2
open PySem PySem.Spec PyProof.Rows
noncomputable def GtAt (A : Around) (s : Shared) (x y : Value) (c : Bool) : Prop :=
  ∀ (prog : Program) (w : World) (E : Value → Shared → Prop) (Q : Value → Shared → Prop), Q (.bool c) s → wpAny (model prog w) A (richCompare .Gt x y) Q E s
inductive LexG (A : Around) (s : Shared) (fin : Bool) : List (Value × Value) → Bool → Prop
  | done : LexG A s fin [] fin
  | same {p q : Value} {r : List (Value × Value)} {c : Bool} : SeqAt.EqAt A s p q true → LexG A s fin r c → LexG A s fin ((p, q) :: r) c
  | less {p q : Value} {r : List (Value × Value)} {c : Bool} : SeqAt.EqAt A s p q false → GtAt A s p q c → LexG A s fin ((p, q) :: r) c
section
open PySem.SeqAt
open PySem.AutoSeq1 (wpAny_loadPart')
open PySem.MeetsSeq PySem.MeetsSeq2 PySem.MeetsSeq3
end
end L2
namespace Mr
open PySem PySem.Spec L2
noncomputable def lexQ (gt : PV → PV → Option Bool) : List PV → List PV → Option Bool
  | [], [] => some false
  | [], _ :: _ => some false
  | _ :: _, [] => some true
  | x :: xs, y :: ys => if eqP x y = true then lexQ gt xs ys else gt x y
noncomputable def gtP : Nat → PV → PV → Option Bool
  | _, .str a, .str b => some (decide (b.cps.toList < a.cps.toList))
  | _, .int a, .int b => some (decide (b < a))
  | n + 1, .tup xs, .tup ys => lexQ (gtP n) xs ys
  | _, _, _ => none
section
variable {s : Shared}
end
section
variable {X : Cx} {k : Nat}
end
section
variable {K : PySem.W.Frag}
noncomputable def gGtT : PV → PV → Option Bv := fun p q => guardP (okP 3 p && okP 3 q) (bO (gtP 3 p q) fun b => some (.val (.bl b)))
noncomputable def gGtX : PV → PV → Option Bv := fun p q => (gGt p q).or (gGtT p q)
end
end Mr
set_option Elab.async false
set_option linter.all false
set_option maxRecDepth 100000
set_option maxHeartbeats 4000000
namespace L2
open PySem PySem.Spec PyProof.Rows
section
variable {X : Cx} {pos : Pos}
end
end L2
namespace Mr
open PySem L2
section
variable {K : PySem.W.Frag}
noncomputable def tgAny (n : Nat) (f : FGs) : FG := fun p e => match p with
  | .tup ps => guardP (decide (ps.length = n)) (f ps e)
  | .lst ps => guardP (decide (ps.length = n)) (f ps e)
  | _ => none
theorem e_tgAny {n : Nat} {f : FGs} {p : PV} {e : En} : tgAny n f p e = match p with
  | .tup ps => guardP (decide (ps.length = n)) (f ps e)
  | .lst ps => guardP (decide (ps.length = n)) (f ps e)
  | _ => none := rfl
end
end Mr
set_option Elab.async false
set_option linter.all false
set_option maxRecDepth 100000
set_option maxHeartbeats 4000000
namespace L2
open PySem PySem.Spec PyProof.Rows
theorem Paired.getP {α β : Type} {F : α → β → Prop} : ∀ {l : List α} {m : List β} {i : Nat} {x : α}, Paired F l m → l[i]? = some x → ∃ y, m[i]? = some y ∧ F x y
  | _, _, _, _, .nil, h => by simp at h
  | _, _, 0, _, .cons h _, e => by simp at e; subst e; exact ⟨_, rfl, h⟩
  | _, _, i + 1, _, .cons _ r, e => by
    obtain ⟨y, h1, h2⟩ := Paired.getP (i := i) r (by simpa using e)
    exact ⟨y, by simpa using h1, h2⟩
theorem relKey {k : Key} {v : Value} (e : keyIs k v = true) : RelV (kV k) v := by
  rcases keyIs_shape e with ⟨i, t, rfl, rfl⟩ | ⟨x, t, rfl, rfl⟩
  · exact ⟨t, rfl⟩
  · exact ⟨t, rfl⟩
noncomputable def Itk (a : Addr) (kvs : List (Key × V)) (ep : Nat) : It :=
  ⟨fun i H => Rd H a (.dK kvs ep) ∧ i < kvs.length, fun i H x H' => H' = H ∧ ∀ kv, kvs[i]? = some kv → x = kV kv.1, fun i H => Rd H a (.dK kvs ep) ∧ i = kvs.length⟩
theorem turn_keys {P : Program} {w : World} {K : PySem.W.Frag} {tg : Expr} (a it : Addr) (kvs : List (Key × V)) (ep : Nat) : Turn P w K tg (Itk a kvs ep) [it] it (fun i h => h.IsKeyIter it a i kvs.length ep) where
  mem := by simp
  obj := fun i h st b hb => by
    have e : b = it := by simpa using hb
    subst e
    obtain ⟨o, e, c, d⟩ := st
    exact ⟨o, e, fun v z => by rw [d] at z; cases z⟩
  keep := fun i h h' st k => st.at fun o e => k it (by simp) o e
  item := by
    intro X hP hw hK hc i pins s σ H E I hf st hg
    subst hP hw hK
    obtain ⟨hr, hi⟩ := hg
    obtain ⟨_, _, vs, rel, dd⟩ := dk_at I.hok hr
    have hl : kvs.length = vs.length := Paired.length rel
    obtain ⟨q, hq, rq⟩ := Paired.getP rel (List.getElem?_eq_getElem hi)
    rw [hl] at st
    obtain ⟨f0, f1, f2, f3, f4, f5⟩ := hf it (by simp)
    refine wpAny_pyNext_dict_item st dd (k := q.1) (v := q.2) hq fun key h' hk st' sb => ?_
    have I1 : Inv X pins σ H { s with heap := h' } := I.turned (t' := s.toks) (fun b o hb e => (sb.2 b hb).trans e) f0 f1 f3 f4 f5
    obtain ⟨o, e, c, d⟩ := id st'
    rw [← hl] at st'
    refine ⟨key, rfl, go_of (s := { s with heap := h' }) e c d (by decide) ⟨kV q.1, H, I1, relKey hk, ⟨rfl, fun kv hkv => ?_⟩, st', fun b hb => (hf b hb).1⟩⟩
    rw [List.getElem?_eq_getElem hi] at hkv
    cases hkv
    rw [rq.1]
  done := by
    intro X hP hw hK hc i pins s σ H E I hf st hg
    subst hP hw hK
    obtain ⟨hr, hi⟩ := hg
    obtain ⟨_, _, vs, rel, dd⟩ := dk_at I.hok hr
    have hl : kvs.length = vs.length := Paired.length rel
    rw [hl] at st
    obtain ⟨f0, f1, f2, f3, f4, f5⟩ := hf it (by simp)
    exact wpAny_pyNext_dict_end (I.ok.hd hc) st dd (List.getElem?_eq_none_iff.mpr (by omega)) fun h' eb => ⟨rfl, I.turned (t' := s.toks) (fun b o hb e => eb b o hb e) f0 f1 f3 f4 f5⟩
  self := fun _ _ _ _ _ st h => wpAny_pyIter_keyiter st h
section
variable {X : Cx}
noncomputable def iKeys (tl : TE) : TI := fun σ H R => tl σ H fun x H1 => ∃ a kvs ep, x = .ref a ∧ Rd H1 a (.dK kvs ep) ∧ R (Itk a kvs ep) H1
theorem pi_keys {tg l : Expr} {tl : TE} (hl : PE X l tl) : PI X tg l (iKeys tl) := by
  intro pins s σ H R I h
  refine thn (hl pins s σ H _ I h) fun v s1 ⟨x, H1, I1, r1, a, kvs, ep, e, hr, q⟩ => ?_
  subst e
  cases r1
  obtain ⟨_, hd, vs, rel, dd⟩ := dk_at I1.hok hr
  refine wpAny_pyIter_dict hd dd ?_
  refine ⟨s1.heap.objs.size, [s1.heap.objs.size], _, _, H1, rfl, I1.kept (t' := s1.toks) fun b o e => Heap.get?_push_of_some _ e, turn_keys a _ kvs ep, ⟨_, Heap.get?_push_size _ rfl, rfl, by rw [show kvs.length = vs.length from Paired.length rel]; rfl⟩, fun b hb => ?_, q⟩
  have e : b = s1.heap.objs.size := by simpa using hb
  subst e
  exact I1.fpOk (Nat.le_refl _) (I1.hok.fresh (Nat.le_refl _))
end
end L2
namespace Mr
open PySem PySem.Spec L2 PyProof.Rows
section
variable {K : PySem.W.Frag}
noncomputable def dctW : PV → Option (List (Key × PV))
  | .dct kvs => some kvs
  | _ => none
theorem dctW_some {p : PV} {kvs : List (Key × PV)} (h : dctW p = some kvs) : p = .dct kvs := by
  cases p with
  | dct k => cases h; rfl
  | _ => cases h
noncomputable def fDict (f : FE) (st : Nat → Bool) (e : En) : Option (List (Key × PV) × En) := bE (f e) fun b e1 => match b with
  | .slot i => match e1[i]? with
    | some (some (.bor p)) => bO (dctW p) fun ps => some (ps, e1)
    | some (some (.own p)) => guardP (st i) (bO (dctW p) fun ps => some (ps, e1))
    | some (some (.loc p)) => guardP (st i) (bO (dctW p) fun ps => some (ps, e1))
    | _ => none
  | .val p => bO (dctW p) fun ps => some (ps, e1)
  | .new p => bO (dctW p) fun ps => some (ps, e1)
theorem ref_dict {t : TE} {f : FE} (h : Ref K t f) {st : Nat → Bool} {O M L : ASet} {W : WS} {σ : L2.St} {H : Hp} {e e' : En} {kvs : List (Key × PV)} {Q : VK} (o : Okc O M W L H) (he : EnRep K (uni M L) W L H σ e) (hf : fDict f st e = some (kvs, e'))
    (q : ∀ a ys ep H1, Keep W L H H1 → EnRep K (uni M L) W L H1 σ e' → Rd H1 a (.dK ys ep) → RepD K (uni M L) H1 kvs ys →
      (∀ Wr : ASet, (∀ a, Wr a → aw W a ∨ L a) → (∀ (i : Nat) a s, st i = true → e'[i]? = some (some s) → s.mine = true → σ[i]? = some (some (.ref a)) → ¬ Wr a) → ¬ Wr a) → Q (.ref a) H1) : t σ H Q := by
  obtain ⟨x, e1, f1, hf⟩ := bE_some hf
  refine h O M W L σ H e e1 x _ o he f1 fun v H1 k1 rb fr => ?_
  have o1 := o.keep k1.dom
  have en := rb.en o1
  have vals : ∀ p, Rep K (uni M L) H1 p v → dctW p = some kvs → e1 = e' → Q v H1 := fun p hp hi ee => by
    subst ee
    have := dctW_some hi
    subst this
    cases hp with
    | dct ha n ek r => exact q _ _ _ H1 k1 en ha ⟨ek, r⟩ fun Wr hw _ z => n ((hw _ z).elim (fun ⟨i, w⟩ => .inl (o.wm i _ w)) .inr)
  cases x with
  | val p =>
    obtain ⟨ps', g, hf⟩ := bO_some hf
    cases hf
    exact vals p rb.2 g rfl
  | new p =>
    obtain ⟨ps', g, hf⟩ := bO_some hf
    cases hf
    exact vals p (rb.weak o1).2 g rfl
  | slot i =>
    dsimp only at hf
    cases c : e1[i]? with
    | none => rw [c] at hf; cases hf
    | some s =>
      cases s with
      | none => rw [c] at hf; cases hf
      | some s =>
        rw [c] at hf
        obtain ⟨u, hu, sr⟩ := rb.1.at' i s c
        have := rb.2
        rw [hu] at this
        cases this
        cases s with
        | val p => cases hf
        | bor p =>
          obtain ⟨ps', g, hf⟩ := bO_some hf
          cases hf
          have := dctW_some g
          subst this
          obtain ⟨a, rfl, lt⟩ := sr
          cases lt with
          | dct ha od n m ek r => exact q _ _ _ H1 k1 en ha ⟨ek, r⟩ fun Wr hw _ z => (hw _ z).elim n m
        | own p =>
          obtain ⟨hst, hf⟩ := guardP_some hf
          obtain ⟨ps', g, hf⟩ := bO_some hf
          cases hf
          have := dctW_some g
          subst this
          obtain ⟨a, rfl, w, ct⟩ := sr
          cases ct with
          | dct ha ek r => exact q _ _ _ H1 k1 en (.inl ha) ⟨ek, r⟩ fun Wr hw hs => hs i a _ hst c rfl hu
        | loc p =>
          obtain ⟨hst, hf⟩ := guardP_some hf
          obtain ⟨ps', g, hf⟩ := bO_some hf
          cases hf
          have := dctW_some g
          subst this
          obtain ⟨a, rfl, w, ct⟩ := sr
          cases ct with
          | dct ha ek r => exact q _ _ _ H1 k1 en (.inl ha) ⟨ek, r⟩ fun Wr hw hs => hs i a _ hst c rfl hu
theorem rep_key {Z : ASet} {H : Hp} (k : Key) : Rep K Z H (keyP k) (kV k) := by
  cases k with
  | inl i => exact .int i
  | inr x => exact .str x
theorem rd_stay {H H' : Hp} {Wr : ASet} {a : Addr} {u : HO} (h : Rd H a u) (k1 : ∀ a o, H a = some o → ¬ Wr a → H' a = some o) (n : ¬ Wr a) : Rd H' a u := by
  rcases h with h | ⟨o, h⟩
  · exact .inl (k1 _ _ h n)
  · exact .inr ⟨o, k1 _ _ h n⟩
theorem RepD.at {Z : ASet} {H : Hp} {kvs : List (Key × PV)} {ys : List (Key × V)} (r : RepD K Z H kvs ys) {i : Nat} {z : Key × PV} (h : kvs[i]? = some z) : ∃ y, ys[i]? = some y ∧ y.1 = z.1 ∧ Rep K Z H z.2 y.2 := by
  obtain ⟨r1, r2⟩ := r
  obtain ⟨v, hv, rv⟩ := r2.get (i := i) (p := z.2) (by rw [List.getElem?_map, h]; rfl)
  rw [List.getElem?_map] at hv
  cases c : ys[i]? with
  | none => rw [c] at hv; cases hv
  | some y =>
    rw [c] at hv
    cases hv
    have e := congrArg (·[i]?) r1
    simp only [List.getElem?_map, c, h] at e
    exact ⟨y, rfl, Option.some.inj e, rv⟩
theorem RepD.len {Z : ASet} {H : Hp} {kvs : List (Key × PV)} {ys : List (Key × V)} (r : RepD K Z H kvs ys) : kvs.length = ys.length := by
  have := congrArg List.length r.1
  simpa using this.symm
noncomputable def fKeys (f : FE) : FI := fun st e => bO (fDict f st e) fun z => some (z.1.map fun kv => keyP kv.1, z.2)
theorem ref_keys {t : TE} {f : FE} (h : Ref K t f) : RefI K (iKeys t) (fKeys f) := by
  intro st O M W L σ H e e' ps R o he hf q
  obtain ⟨⟨kvs, e1⟩, g1, hf⟩ := bO_some hf
  cases hf
  refine ref_dict h o he g1 fun a ys ep H1 k1 en rd r nw => ⟨a, ys, ep, rfl, rd, q _ H1 k1 en fun Wr hw hs => ?_⟩
  intro L' H' c1 c2 c3
  have rd' := rd_stay rd c1 (nw Wr hw hs)
  refine ⟨fun k p hp => ?_, rd', by rw [List.length_map]; exact r.len⟩
  rw [List.getElem?_map] at hp
  cases c : kvs[k]? with
  | none => rw [c] at hp; cases hp
  | some z =>
    rw [c] at hp
    cases hp
    obtain ⟨y, hy, ey, _⟩ := r.at c
    refine ⟨⟨rd', (List.getElem?_eq_some_iff.mp hy).1⟩, fun x H3 yl => ?_⟩
    obtain ⟨e, yl⟩ := yl
    subst e
    rw [yl y hy, ey]
    exact ⟨Same.refl _, rep_key _⟩
end
end Mr
set_option Elab.async false
set_option linter.all false
set_option maxRecDepth 100000
set_option maxHeartbeats 4000000
namespace Mr
open PySem L2
section
variable {K : PySem.W.Frag}
noncomputable def fIndexL (fa fb : FE) : FE := fun e => bE (fa e) fun x e1 => bO (x.weak.get e1) fun p1 => match p1 with
  | .lst _ => bE (fb e1) fun y e2 => bO (x.weak.get e2) fun p => bO (y.weak.get e2) fun q => bO (gIndexL p [q]) fun b => some (b, e2)
  | _ => none
theorem ref_indexL {ta tb : TE} {fa fb : FE} (ha : Ref K ta fa) (hb : Ref K tb fb) : Ref K (tBM K "list" (rIndexL K) ta (tCons tb tNil)) (fIndexL fa fb) := by
  intro O M W L σ H e e' b Q o he hf q
  obtain ⟨x, e1, f1, hf⟩ := bE_some hf
  obtain ⟨p1, g0, hf⟩ := bO_some hf
  cases p1 with
  | lst ps1 =>
    obtain ⟨y, e2, f2, hf⟩ := bE_some hf
    obtain ⟨p, g1, hf⟩ := bO_some hf
    obtain ⟨p', g2, hf⟩ := bO_some hf
    obtain ⟨c, g3, hf⟩ := bO_some hf
    cases hf
    refine ha O M W L σ H e e1 x _ o he f1 fun v1 H1 k1 r1 fr => ?_
    have o1 := o.keep k1.dom
    obtain ⟨a1, ys1, e11, ha1, _⟩ := ((r1.rv o1).red (r1.en o1) g0).lsts
    refine ⟨by rw [e11]; exact .inl ⟨rfl, ys1, ha1.sq⟩, ?_⟩
    refine hb O M W L σ H1 e1 _ y _ o1 (r1.en o1) f2 fun v2 H2 k2 r2 fr => ?_
    have o2 := o1.keep k2.dom
    have en := r2.en o2
    have rp := ((r1.rv o1).keep o1 k2).red en g1
    have rq := (r2.rv o2).red en g2
    refine ok_indexL _ H2 v1 [v2] p [p'] _ Q rp (.cons rq .nil) g3 fun v H' s rn => ?_
    exact q v H' ((k1.trans k2).trans (.same s)) (rn.rb o2 en s) (rn.fr (k1.trans k2).dom)
  | _ => cases hf
end
end Mr
set_option Elab.async false
set_option linter.all false
set_option maxRecDepth 100000
set_option maxHeartbeats 4000000
namespace L2
open PySem PyProof.Rows
section
variable {X : Cx}
theorem call_reprB : CallR X (.builtin "repr") (fun xs H Q => ∃ b : Bool, xs = [.bl b] ∧ Q (.str (if b then "True" else "False")) H) := by
  intro pins s σ H xs us Q I r h
  obtain ⟨b, rfl, q⟩ := h
  obtain ⟨u, rfl, ru⟩ := vals1 r
  cases ru
  exact PySem.P.repr_of_bool ⟨.str (if b then "True" else "False"), H, I.tok _, ⟨_, rfl⟩, q⟩
noncomputable def insAt {α : Type} (xs : List α) (n : Nat) (y : α) : List α := xs.take n ++ y :: xs.drop n
noncomputable def rInsert : V → List V → Hp → VK → Prop := fun x vs H Q => ∃ (l : Addr) (xs : List V) (k : Int) (y : V), x = .ref l ∧ vs = [.int k, y] ∧ H l = some (.lst xs) ∧ 0 ≤ k ∧ k < 1000000000 ∧ xs.length < 1000000 ∧ Q .non (upd H l (.lst (insAt xs k.toNat y)))
theorem mt_insert : MtM X "list.insert" rInsert := by
  intro pins s σ H x vs v us Q I rx rv h
  obtain ⟨l, xs, k, y, rfl, rfl, hH, hk0, hk1, hz, q⟩ := h
  cases rx
  obtain ⟨u, rfl, ru⟩ : ∃ u2 : Value × Value, us = [u2.1, u2.2] ∧ RelV (.int k) u2.1 ∧ RelV y u2.2 := by
    cases rv with
    | cons h1 t => cases t with | cons h2 t => cases t; exact ⟨(_, _), rfl, h1, h2⟩
  obtain ⟨⟨t, et⟩, ry⟩ := ru
  obtain ⟨z, its, n, r, hl, e⟩ := I.lstM hH
  rw [et]
  have hs : its.length < 1000000 := by rw [← r.length]; exact hz
  have sl : its.length ≤ sizeLine := by rw [sizeLine_eq]; omega
  refine call_meets F.slot_list_insert ⟨_, e, rfl⟩ F.entry_list_insert (F.args_list_insert_3 _ _ _) (PySem.AutoSeq1.list_insert_list_int_val_1 l its.toArray n k t u.2 (by simp [Builtin.List.listFitsIndex]; omega) (by rw [List.size_toArray]; exact sl)) ⟨e, ?_⟩
  refine ⟨.non, _, I.lset (its' := insAt its k.toNat u.2) hH e ?_ ?_ ?_, rfl, q⟩
  · show (its.toArray.extract 0 (if k < 0 then (k + (its.toArray.size : Int)).toNat else min k.toNat its.toArray.size)).push u.2 ++ its.toArray.extract (if k < 0 then (k + (its.toArray.size : Int)).toNat else min k.toNat its.toArray.size) = (insAt its k.toNat u.2).toArray
    rw [if_neg (by omega)]
    apply Array.toList_inj.mp
    unfold insAt
    by_cases hc : k.toNat ≤ its.length
    · simp [Nat.min_eq_left hc, List.take_of_length_le]
    · have hc' : its.length ≤ k.toNat := by omega
      simp [Nat.min_eq_right hc', List.take_of_length_le hc', List.drop_eq_nil_of_le hc']
  · exact (r.take _).append (.cons ry (r.drop _))
  · unfold insAt
    rw [List.length_append, List.length_cons, List.length_take, List.length_drop, sizeLine_eq]
    omega
end
end L2
namespace Mr
open PySem L2
section
variable {K : PySem.W.Frag}
noncomputable def gReprB : List PV → Option Bv
  | [.bl b] => some (.val (.str (if b then "True" else "False")))
  | _ => none
theorem ok_reprB : CbOk K (fun xs H Q => ∃ b : Bool, xs = [.bl b] ∧ Q (.str (if b then "True" else "False")) H) gReprB := by
  intro Z H vs ps b Q hp h k
  unfold gReprB at h
  split at h
  · cases h
    obtain ⟨v, rfl, hv⟩ := hp.one
    exact ⟨_, by rw [hv.bl], k _ H (Same.refl _) (Rep.str _)⟩
  · cases h
noncomputable def fDispN (k : Str) : FE := fun e => some (.new (.dct [(.inr k, .non)]), e)
theorem ref_dispN {k : Str} : Ref K (tDisp [(fun _ H Q => Q (.str k) H, fun _ H Q => Q .non H)]) (fDispN k) := by
  intro O M W L σ H e e' b Q o he hf q
  cases hf
  intro p hp
  refine ⟨upd_same, [(.inr k, .non)], rfl, by show 1 ≤ 15; decide, fun ep => ?_⟩
  rw [upd_upd]
  have s : Same H (upd H p (.dK (mergeK [] [(.inr k, .non)]) ep)) := Same.upd hp
  exact q _ _ (.same s) ⟨p, rfl, fun z => o.old p z hp, fun z => (o.loc p z).1 hp, (he.new s hp).1, (he.new s hp).2, .dct upd_same rfl (.cons .non .nil)⟩ fun a e => by cases e; exact hp
noncomputable def sIns (i : Nat) (fk fv : FE) : FS := fun e => bO (ownAt e i) fun p0 => match p0 with
  | .lst _ => bE (fk e) fun b e1 => match b with
    | .val (.int k) => bE (fv e1) fun b2 e2 => bO b2.put fun p => match ownAt e2 i with
      | some (.lst ps) => guardP (decide (0 ≤ k ∧ k < 1000000000 ∧ ps.length < 1000000)) (some (.nx (setOwn e2 i (.lst (insAt ps k.toNat p)))))
      | _ => none
    | _ => none
  | _ => none
theorem ref_ins {i : Nat} {tk tv : TE} {fk fv : FE} (hk : Ref K tk fk) (hv : Ref K tv fv) : RefS K (tDrop (tBM K "list" rInsert (tVar i) (tCons tk (tCons tv tNil)))) (sIns i fk fv) := by
  intro O M W L σ H e r D o he hf q
  obtain ⟨p0, g0, hf⟩ := bO_some hf
  cases p0 with
  | lst ps0 =>
    obtain ⟨x, e1, f1, hf⟩ := bE_some hf
    cases x with
    | val p1 =>
      cases p1 with
      | int k =>
        obtain ⟨x2, e2, f2, hf⟩ := bE_some hf
        obtain ⟨p, g1, hf⟩ := bO_some hf
        cases c : ownAt e2 i with
        | none => rw [c] at hf; cases hf
        | some q1 =>
          rw [c] at hf
          cases q1 with
          | lst ps =>
            obtain ⟨g2, hf⟩ := guardP_some hf
            have g2 := of_decide_eq_true g2
            cases hf
            obtain ⟨a, ha, hz, ct⟩ := he.own g0
            refine ⟨_, ha, .inl ⟨rfl, ?_⟩, ?_⟩
            · cases ct with | lst e r => exact ⟨_, SqL.of e⟩
            refine hk O M W L σ H e _ _ _ o he f1 fun v H1 k1 rb fr => ?_
            have o1 := o.keep k1.dom
            obtain ⟨en, rp⟩ := rb.put o1 (p := .int k) rfl
            cases rp
            refine hv O M W L σ H1 e1 _ _ _ o1 en f2 fun v2 H2 k2 rb2 fr2 => ?_
            have o2 := o1.keep k2.dom
            obtain ⟨en2, rp2⟩ := rb2.put o2 g1
            obtain ⟨a', ha', hz', ct'⟩ := en2.own c
            rw [ha] at ha'
            cases ha'
            cases ct' with
            | lst e2 r2 =>
              rename_i xs
              have hl := r2.length
              refine ⟨a, xs, k, v2, rfl, rfl, e2, g2.1, g2.2.1, by omega, ?_⟩
              have kw : Keep W L H2 (upd H2 a (.lst (insAt xs k.toNat v2))) := .write hz e2 fun _ z => nomatch z
              have st : Stay (uni M L) (uni M L) H2 (upd H2 a (.lst (insAt xs k.toNat v2))) := .write (hz.elim (fun ⟨i, w⟩ => .inl (o.wm i a w)) .inr) e2 fun _ z => nomatch z
              have rl : RepL K (uni M L) (upd H2 a (.lst (insAt xs k.toNat v2))) (insAt ps k.toNat p) (insAt xs k.toNat v2) := ((r2.take _).app (.cons rp2 (r2.drop _))).stay st
              exact q L σ _ (.keep ((k1.trans k2).trans kw)) (o2.keep kw.dom) (EnRep.write o.wm en2 c ha (.lst upd_same rl))
          | _ => cases hf
      | _ => cases hf
    | _ => cases hf
  | _ => cases hf
end
end Mr
set_option Elab.async false
set_option linter.all false
set_option maxRecDepth 100000
set_option maxHeartbeats 4000000
namespace L2
open PySem Mr
section
variable {X : Cx} {es : List Expr} {t : TA} {r : R2} {i : Nat} {x : Str} {pos' q pos p2 p3 : Pos}
theorem sw_addX (hN : X.N.Nodup) (hi : X.N[i]? = some x) (hx : X.env.scope.names.lookup x = some .local) (ho : OpR X (binaryOp .Add) r) (hv : PE X (.Name x q) (tVar i)) (hl : PAw X es t) :
    PSw X (.Assign [.Name x pos'] (.BinOp (.Name x q) .Add (.List es pos) p2) p3) (tAsg (tOp r (tVar i) (tLst t)) (gName i)) := ⟨ps_set hN hi (.inl hx) (pe_op ho hv (pe_lst hl.h)) rfl (.inr hx)⟩
theorem sw_retX (ho : OpR X (binaryOp .Add) r) (hv : PE X (.Name x q) (tVar i)) (hl : PAw X es t) :
    PSw X (.Return (some (.BinOp (.Name x q) .Add (.List es pos) p2)) p3) (tRet (tOp r (tVar i) (tLst t))) := ⟨ps_ret (pe_op ho hv (pe_lst hl.h))⟩
theorem sw_forX (K : PySem.W.Frag) {tg : Expr} {body : List Stmt} {g : TG} {tb : TS} (hp : PassesOwn (model X.prog X.w) X.A X.env X.xe) (hc : X.calm = true) (ho : OpR X (binaryOp .Add) r) (hv : PE X (.Name x q) (tVar i)) (hl : PAw X es t) (hg : PG X tg g) (hb : PSsw X body tb) (hK : X.K = K := by rfl) :
    PSw X (.For tg (.BinOp (.Name x q) .Add (.List es pos) p2) body [] p3) (tFor (iAny K (tOp r (tVar i) (tLst t))) g tb) := ⟨ps_for hp hc (pi_any K (pe_op ho hv (pe_lst hl.h)) hK) hg hb.h⟩
end
end L2
set_option Elab.async false
set_option linter.all false
set_option maxRecDepth 100000
namespace My
open PySem L2 Mr
set_option linter.all false
set_option maxHeartbeats 4000000
noncomputable def b_standing : FS := (sSeq (sSetL 1 fDNew)
    (sSeq (sFor (fIt (fVar 0)) (tgName 2) (sIf (fTest (fOp (gIn true) (fOp gIx (fVar 2) (fC (.int 0))) (fVar 1))) (sDPut 1 (fOp gIx (fVar 2) (fC (.int 0))) (fVar 2)) sNext))
    (sRet (fTVals (fVar 1)))))
noncomputable def fn_standing : FN := fnM [.b] 2 false b_standing
noncomputable def b_rings_in : FS := (sSeq (sSetL 1 fDNew)
    (sSeq (sSetL 2 (fLst fNil))
    (sSeq (sFor (fKeys (fVar 0)) (tgName 3) (sSeq (sSetL 4 (fLst fNil))
    (sSeq (sSet 5 (fVar 3))
    (sSeq (whileM (fAnd (fTest (fOp (gIs true) (fVar 5) (fC .non))) (fTest (fOp (gIn true) (fVar 5) (fVar 1)))) (sSeq (sDPut 1 (fVar 5) (fVar 3))
    (sSeq (sApp 4 (fVar 5))
    (sSet 5 (fGet1 (fVar 0) (fVar 5))))) 1000)
    (sIf (fAnd (fTest (fOp (gIs true) (fVar 5) (fC .non))) (fTest (fOp gEq (fOp gIx (fVar 1) (fVar 5)) (fVar 3)))) (sApp 2 (fSl gSl (fVar 4) (fPart (fIndexL (fVar 4) (fVar 5))) fNoPart)) sNext)))))
    (sRet (fVar 2)))))
noncomputable def fn_rings_in : FN := fnM [.b] 5 false b_rings_in
noncomputable def b_is_name : FS := (sSeq (sIf (fOr (fNot (fTest (fCB gIsi2 (fCons (fVar 0) (fCons (fC (.ty "str")) fNil))))) (fNot (fTest (fChain gLe gLe (fC (.int 1)) (fCB gLen (fCons (fVar 0) fNil)) (fC (.int 12)))))) (sRet (fC (.bl false))) sNext)
    (sRet (fCB gAll (fCons (fComp (fIt (fVar 0)) 1 [] [] (tgName 0) fTrue (fOp (gIn false) (fVar 0) (fC (.str "abcdefghijklmnopqrstuvwxyz0123456789")))) fNil))))
noncomputable def fn_is_name : FN := fnM [.b] 0 false b_is_name
noncomputable def b_rises : FS := (sRet (fCB gAll (fCons (fComp (fRng1 (fCons (fOp Mr.gSub (fCB gLen (fCons (fVar 0) fNil)) (fC (.int 1))) fNil)) 1 [0] [] (tgName 0) fTrue (fOp gLt (fOp gIx (fVar 1) (fVar 0)) (fOp gIx (fVar 1) (fOp gAdd (fVar 0) (fC (.int 1)))))) fNil)))
noncomputable def fn_rises : FN := fnM [.b] 0 false b_rises
noncomputable def b_law_hand : FS := (sSeq (sSet 2 (fC (.int 0)))
    (sSeq (sIf (fTest (fOp gLt (fVar 1) (fCB gLen (fCons (fVar 0) fNil)))) (sSet 2 (fOp gIx (fVar 0) (fVar 1))) sNext)
    (sSeq (sSet 3 (fOp gMul (fOp gMod (fVar 2) (fOp gMulC (fOp gPow (fC (.int 10)) (fC (.int 60))) (fOp gPow (fC (.int 10)) (fC (.int 30))))) (fCB gIntC (fCons (fOp gGe (fVar 2) (fOp gPow (fC (.int 10)) (fC (.int 18)))) fNil))))
    (sRet (fLst (fCons (fVar 3) (fCons (fOp gMod (fOp gAdd (fOp gAdd (fOp gMod (fVar 2) (fC (.int 2305843009213693951))) (fOp gMul (fC (.int 7919)) (fVar 1))) (fC (.int 3))) (fC (.int 2305843009213693951))) (fCons (fC (.int 0)) fNil))))))))
noncomputable def fn_law_hand : FN := fnM [.b, .b] 2 true b_law_hand
noncomputable def b_law_take : FS := (sSeq (sIf (fTest (fOp gGt (fOp gIx (fVar 0) (fC (.int 0))) (fC (.int 0)))) (sSeq (sSet 2 (fOp gMod (fOp gIx (fVar 0) (fC (.int 0))) (fVar 1)))
    (sSeq (sSetIx 0 (fC (.int 0)) (fOp gDiv (fOp gIx (fVar 0) (fC (.int 0))) (fVar 1)))
    (sRet (fVar 2)))) sNext)
    (sSeq (sSetIx 0 (fC (.int 2)) (fOp gAdd (fOp gIx (fVar 0) (fC (.int 2))) (fC (.int 1))))
    (sSeq (sSet 3 (fOp gAdd (fOp gAdd (fOp gIx (fVar 0) (fC (.int 1))) (fOp gMul (fOp gMul (fC (.int 65537)) (fOp gIx (fVar 0) (fC (.int 2)))) (fOp gIx (fVar 0) (fC (.int 2))))) (fC (.int 11))))
    (sSeq (sSet 3 (fOp gMod (fOp gMul (fVar 3) (fOp gAdd (fC (.int 48271)) (fOp gMul (fC (.int 2)) (fOp gIx (fVar 0) (fC (.int 2)))))) (fC (.int 2305843009213693921))))
    (sSeq (sSet 3 (fOp gMod (fOp gMul (fVar 3) (fOp gAdd (fOp gMod (fVar 3) (fC (.int 1000003))) (fOp gMul (fC (.int 99991)) (fOp gIx (fVar 0) (fC (.int 2)))))) (fC (.int 2305843009213693907))))
    (sRet (fOp gMod (fOp gAdd (fOp gDiv (fVar 3) (fC (.int 97))) (fOp gDiv (fVar 3) (fC (.int 1000033)))) (fVar 1))))))))
noncomputable def fn_law_take : FN := fnM [.m, .b] 2 false b_law_take
noncomputable def b_law_deep : FS := (sSeq (sFor (fRng1 (fCons (fVar 1) fNil)) (tgName 2) (sSet 0 (fTup (fCons (fVar 0) fNil))))
    (sRet (fVar 0)))
noncomputable def fn_law_deep : FN := fnM [.v, .b] 1 false b_law_deep
noncomputable def b_shown : FS := (sSeq (sSetL 2 fDNew)
    (sSeq (sFor (fIt (fCall [.b] false fn_standing (fCons (fVar 0) fNil))) (tgName 3) (sSeq (sSet 4 (fOp gIx (fVar 3) (fC (.int 0))))
    (whileM (fAnd (fTest (fOp (gIs true) (fVar 4) (fC .non))) (fTest (fOp (gIn true) (fVar 4) (fVar 2)))) (sSeq (sDPut 2 (fVar 4) (fC (.bl true)))
    (sSet 4 (fOp gIx (fVar 1) (fVar 4)))) 1000)))
    (sRet (fVar 2))))
noncomputable def fn_shown : FN := fnM [.b, .b] 3 false b_shown
noncomputable def b_is_mark : FS := (sSeq (sIf (fOr (fNot (fTest (fCB gIsi2 (fCons (fVar 0) (fCons (fC (.ty "tuple")) fNil))))) (fOr (fTest (fOp gNe (fCB gLen (fCons (fVar 0) fNil)) (fC (.int 2)))) (fNot (fTest (fCall [.b] false fn_is_name (fCons (fOp gIx (fVar 0) (fC (.int 0))) fNil)))))) (sRet (fC (.bl false))) sNext)
    (sRet (fOrV (fOp (gIs false) (fOp gIx (fVar 0) (fC (.int 1))) (fC .non)) (fAndV (fCall [.b] false fn_is_name (fCons (fOp gIx (fVar 0) (fC (.int 1))) fNil)) (fOp gNe (fOp gIx (fVar 0) (fC (.int 1))) (fOp gIx (fVar 0) (fC (.int 0))))))))
noncomputable def fn_is_mark : FN := fnM [.b] 0 false b_is_mark
noncomputable def b_has_ring : FS := (sRet (fOp gNe (fCall [.b] false fn_rings_in (fCons (fDComp (fIt (fVar 0)) 2 [] [] (tgTup 2 (tgCons (tgName 0) (tgCons (tgName 1) tgNil))) fTrue (fVar 0) (fVar 1)) fNil)) (fLst fNil)))
noncomputable def fn_has_ring : FN := fnM [.b] 0 false b_has_ring
noncomputable def b_law_things : FS := (sSeq (sSet 1 (fOp Mr.gSub (fCall [.m, .b] false fn_law_take (fCons (fVar 0) (fCons (fC (.int 1000)) fNil))) (fC (.int 500))))
    (sSeq (sSetL 2 (fLst (fCons (fC .non) (fCons (fC (.bl true)) (fCons (fC (.bl false)) (fCons (fVar 1) (fCons (fC (.str "")) (fCons (fC (.str "a")) (fCons (fC (.str "a1")) (fCons (fLst fNil) (fCons fDNew (fCons (fDispN "a") (fCons (fLst (fCons (fTup (fCons (fC (.str "a")) (fCons (fC .non) fNil))) fNil)) (fCons (fTup (fCons (fC (.str "a")) (fCons (fC .non) fNil))) (fCons (fTup (fCons (fC (.str "a")) (fCons (fC (.str "b")) fNil))) fNil)))))))))))))))
    (sSeq (sSetL 2 (fOp gAdd (fVar 2) (fLst (fCons (fTup (fCons (fTup (fCons (fC (.str "a")) fNil)) fNil)) (fCons (fTup (fCons (fTup (fCons (fC (.str "a")) (fCons (fC .non) (fCons (fC .non) fNil)))) fNil)) (fCons (fTup (fCons (fLst (fCons (fC (.str "a")) (fCons (fC .non) fNil))) fNil)) (fCons (fTup (fCons (fTup (fCons (fTup (fCons (fC (.str "a")) (fCons (fC .non) fNil))) fNil)) fNil)) (fCons (fTup (fCons (fTup (fCons (fC .non) (fCons (fC .non) fNil))) fNil)) fNil))))))))
    (sSeq (sSetL 2 (fOp gAdd (fVar 2) (fLst (fCons (fTup (fCons (fTup (fCons (fC (.int 0)) (fCons (fC .non) fNil))) fNil)) (fCons (fTup (fCons (fTup (fCons (fC (.str "a")) (fCons (fC (.int 0)) fNil))) fNil)) (fCons (fTup (fCons (fTup (fCons (fC (.str "a")) (fCons (fC (.bl true)) fNil))) fNil)) (fCons (fTup (fCons (fTup (fCons (fC (.str "a")) (fCons (fC (.bl false)) fNil))) fNil)) (fCons (fTup (fCons (fTup (fCons (fC (.str "a")) (fCons (fC (.str "")) fNil))) fNil)) (fCons (fTup (fCons (fTup (fCons (fC (.str "")) (fCons (fC .non) fNil))) fNil)) fNil)))))))))
    (sSeq (sSetL 2 (fOp gAdd (fVar 2) (fLst (fCons (fTup (fCons (fTup (fCons (fC (.str "A")) (fCons (fC .non) fNil))) fNil)) (fCons (fTup (fCons (fTup (fCons (fTup (fCons (fC (.str "a")) fNil)) (fCons (fC .non) fNil))) fNil)) (fCons (fTup (fCons (fTup (fCons (fC (.str "a")) (fCons (fC .non) fNil))) (fCons (fC .non) fNil))) (fCons (fTup (fCons (fC .non) (fCons (fTup (fCons (fC (.str "a")) (fCons (fC .non) fNil))) fNil))) fNil)))))))
    (sSeq (sSetL 2 (fOp gAdd (fVar 2) (fLst (fCons (fTup (fCons (fTup (fCons (fC (.str "a")) (fCons (fTup (fCons (fC (.str "b")) fNil)) fNil))) (fCons (fTup (fCons (fC (.str "b")) (fCons (fC .non) fNil))) fNil))) (fCons (fTup (fCons (fTup (fCons (fC (.str "a")) (fCons (fC (.str "a")) fNil))) fNil)) (fCons (fTup (fCons (fTup (fCons (fC (.str "a")) (fCons (fLst (fCons (fC .non) fNil)) fNil))) fNil)) (fCons (fTup (fCons (fTup (fCons (fC (.str "a-")) (fCons (fC .non) fNil))) fNil)) (fCons (fTup (fCons (fTup (fCons (fC (.str "a ")) (fCons (fC .non) fNil))) fNil)) fNil))))))))
    (sSeq (sSetL 2 (fOp gAdd (fVar 2) (fLst (fCons (fCall [.v, .b] false fn_law_deep (fCons (fC (.str "a")) (fCons (fOp gAdd (fC (.int 1)) (fCall [.m, .b] false fn_law_take (fCons (fVar 0) (fCons (fC (.int 38)) fNil)))) fNil))) (fCons (fCall [.v, .b] false fn_law_deep (fCons (fTup (fCons (fC (.str "a")) (fCons (fC .non) fNil))) (fCons (fC (.int 38)) fNil))) fNil)))))
    (sSeq (sApp 2 (fTup (fCons (fTup (fCons (fC (.str "a")) (fCons (fCall [.v, .b] false fn_law_deep (fCons (fC (.str "b")) (fCons (fC (.int 36)) fNil))) fNil))) fNil)))
    (sRet (fOp gAdd (fVar 2) (fLst (fCons (fTup (fCons (fTup (fCons (fC (.str "a")) (fCons (fC .non) fNil))) (fCons (fTup (fCons (fC (.str "b")) (fCons (fC (.str "a")) fNil))) fNil))) (fCons (fTup (fCons (fTup (fCons (fC (.str "a")) (fCons (fC (.str "b")) fNil))) (fCons (fTup (fCons (fC (.str "b")) (fCons (fC (.str "a")) fNil))) fNil))) (fCons (fTup (fCons (fTup (fCons (fC (.str "abcdefghijklm")) (fCons (fC .non) fNil))) fNil)) fNil))))))))))))))
noncomputable def fn_law_things : FN := fnM [.m] 2 false b_law_things
noncomputable def b_is_marks : FS := (sSeq (sIf (fOr (fNot (fTest (fCB gIsi2 (fCons (fVar 0) (fCons (fC (.ty "tuple")) fNil))))) (fNot (fTest (fCB gAll (fCons (fComp (fIt (fVar 0)) 1 [] [] (tgName 0) fTrue (fCall [.b] false fn_is_mark (fCons (fVar 0) fNil))) fNil))))) (sRet (fC (.bl false))) sNext)
    (sRet (fAndV (fCall [.b] false fn_rises (fCons (fComp (fIt (fVar 0)) 2 [] [] (tgTup 2 (tgCons (tgName 0) (tgCons (tgName 1) tgNil))) fTrue (fVar 0)) fNil)) (fNotV (fCall [.b] false fn_has_ring (fCons (fVar 0) fNil))))))
noncomputable def fn_is_marks : FN := fnM [.b] 0 false b_is_marks
noncomputable def b_is_wish : FS := (sSeq (sIf (fNot (fTest (fCall [.b] false fn_is_marks (fCons (fVar 1) fNil)))) (sRet (fC (.bl false))) sNext)
    (sSeq (sSet 2 (fDComp (fIt (fVar 1)) 2 [] [] (tgTup 2 (tgCons (tgName 0) (tgCons (tgName 1) tgNil))) fTrue (fVar 0) (fVar 1)))
    (sSeq (sIf (fNot (fTest (fCB gAll (fCons (fComp (fIt (fVar 1)) 2 [2] [] (tgTup 2 (tgCons (tgName 0) (tgCons (tgName 1) tgNil))) fTrue (fOrV (fOp (gIs false) (fVar 1) (fC .non)) (fOp (gIn false) (fVar 1) (fVar 2)))) fNil)))) (sRet (fC (.bl false))) sNext)
    (sSeq (sIf (fNot (fTest (fCB gAll (fCons (fComp (fIt (fCall [.b] false fn_standing (fCons (fVar 0) fNil))) 1 [2] [] (tgName 0) fTrue (fOp (gIn false) (fOp gIx (fVar 0) (fC (.int 0))) (fVar 1))) fNil)))) (sRet (fC (.bl false))) sNext)
    (sRet (fOp gEq (fCB gLenY (fCons (fCall [.b, .b] false fn_shown (fCons (fVar 0) (fCons (fVar 2) fNil))) fNil)) (fCB gLenY (fCons (fVar 2) fNil))))))))
noncomputable def fn_is_wish : FN := fnM [.b, .b] 1 false b_is_wish
noncomputable def b_law_are_none : FS := (sSeq (sSet 1 (fCall [.m, .b] false fn_law_take (fCons (fVar 0) (fCons (fC (.int 100000000)) fNil))))
    (sSeq (sSet 2 (fTup (fCons (fTup (fCons (fC (.str "a")) (fCons (fVar 1) (fCons (fC (.str "walls")) (fCons (fTup fNil) fNil))))) fNil)))
    (sSeq (sIf (fOr (fTest (fOp gNe (fCB gReprB (fCons (fCall [.b, .b] false fn_is_wish (fCons (fVar 2) (fCons (fTup (fCons (fTup (fCons (fC (.str "a")) (fCons (fC .non) fNil))) fNil)) fNil))) fNil)) (fC (.str "True")))) (fTest (fOp gNe (fCB gReprB (fCons (fCall [.b, .b] false fn_is_wish (fCons (fTup fNil) (fCons (fTup (fCons (fTup (fCons (fC (.str "a")) (fCons (fC .non) fNil))) fNil)) fNil))) fNil)) (fC (.str "False"))))) (sRet (fC (.bl false))) sNext)
    (sSeq (sIf (fOr (fTest (fOp gNe (fCB gReprB (fCons (fCall [.b, .b] false fn_is_wish (fCons (fTup fNil) (fCons (fTup fNil) fNil))) fNil)) (fC (.str "True")))) (fTest (fOp gNe (fCB gReprB (fCons (fCall [.b, .b] false fn_is_wish (fCons (fVar 2) (fCons (fTup fNil) fNil))) fNil)) (fC (.str "False"))))) (sRet (fC (.bl false))) sNext)
    (sSeq (sFor (fIt (fCall [.m] false fn_law_things (fCons (fVar 0) fNil))) (tgName 3) (sIf (fOr (fTest (fOp gNe (fCB gReprB (fCons (fCall [.b, .b] false fn_is_wish (fCons (fVar 2) (fCons (fVar 3) fNil))) fNil)) (fC (.str "False")))) (fTest (fOp gNe (fCB gReprB (fCons (fCall [.b, .b] false fn_is_wish (fCons (fTup fNil) (fCons (fVar 3) fNil))) fNil)) (fC (.str "False"))))) (sRet (fC (.bl false))) sNext))
    (sRet (fC (.bl true))))))))
noncomputable def fn_law_are_none : FN := fnM [.m] 3 false b_law_are_none
noncomputable def b_law_within : FS := (sSeq (sSet 1 (fTup (fCons (fTup (fCons (fC (.str "e")) (fCons (fC (.int 5)) (fCons (fC (.str "")) (fCons (fTup fNil) fNil))))) fNil)))
    (sSeq (sSet 2 (fLst (fCons (fTup (fCons (fC (.str "b")) (fCons (fC .non) fNil))) (fCons (fTup (fCons (fC (.str "c")) (fCons (fC (.str "b")) fNil))) (fCons (fTup (fCons (fC (.str "d")) (fCons (fC (.str "c")) fNil))) (fCons (fTup (fCons (fC (.str "e")) (fCons (fC (.str "d")) fNil))) fNil))))))
    (sSeq (sIf (fTest (fOp gNe (fCB gReprB (fCons (fCall [.b, .b] false fn_is_wish (fCons (fVar 1) (fCons (fCB gTupC (fCons (fVar 2) fNil)) fNil))) fNil)) (fC (.str "True")))) (sRet (fC (.bl false))) sNext)
    (sSeq (sSet 3 (fLst (fCons (fC .non) (fCons (fC (.bl true)) (fCons (fC (.int 0)) (fCons (fC (.str "dc")) (fCons (fTup fNil) (fCons (fTup (fCons (fC (.str "d")) fNil)) (fCons (fLst (fCons (fC (.str "d")) (fCons (fC (.str "c")) fNil))) (fCons (fTup (fCons (fC (.str "d")) (fCons (fC (.str "c")) (fCons (fC .non) fNil)))) (fCons (fTup (fCons (fC (.str "d")) (fCons (fC (.int 0)) fNil))) (fCons (fTup (fCons (fC (.str "d")) (fCons (fC (.bl true)) fNil))) fNil))))))))))))
    (sSeq (sFor (fIt (fOp gAdd (fVar 3) (fLst (fCons (fTup (fCons (fC (.str "d")) (fCons (fTup (fCons (fC (.str "c")) fNil)) fNil))) (fCons (fTup (fCons (fTup (fCons (fC (.str "d")) fNil)) (fCons (fC (.str "c")) fNil))) fNil))))) (tgName 4) (sSeq (sSetL 5 (fCB gListC (fCons (fVar 2) fNil)))
    (sSeq (sSet 6 (fCall [.m, .b] false fn_law_take (fCons (fVar 0) (fCons (fC (.int 5)) fNil))))
    (sSeq (sIns 5 (fVar 6) (fVar 4))
    (sSeq (sIf (fTest (fOp gNe (fCB gReprB (fCons (fCall [.b, .b] false fn_is_wish (fCons (fVar 1) (fCons (fCB gTupC (fCons (fVar 5) fNil)) fNil))) fNil)) (fC (.str "False")))) (sRet (fC (.bl false))) sNext)
    (sSeq (sSetL 5 (fCB gListC (fCons (fVar 2) fNil)))
    (sSeq (sSetIx 5 (fOp gMod (fVar 6) (fC (.int 4))) (fVar 4))
    (sIf (fOr (fTest (fOp gNe (fCB gReprB (fCons (fCall [.b, .b] false fn_is_wish (fCons (fVar 1) (fCons (fCB gTupC (fCons (fVar 5) fNil)) fNil))) fNil)) (fC (.str "False")))) (fTest (fOp gNe (fCB gReprB (fCons (fCall [.b, .b] false fn_is_wish (fCons (fVar 1) (fCons (fVar 2) fNil))) fNil)) (fC (.str "False"))))) (sRet (fC (.bl false))) sNext))))))))
    (sRet (fC (.bl true))))))))
noncomputable def fn_law_within : FN := fnM [.m] 6 false b_law_within
noncomputable def b_law : FS := (sSeq (sFor (fRng1 (fCons (fCB gMax2 (fCons (fC (.int 1)) (fCons (fCB gMin2 (fCons (fC (.int 6)) (fCons (fCB gLen (fCons (fVar 0) fNil)) fNil))) fNil))) fNil)) (tgName 1) (sSeq (sSetL 2 (fCall [.b, .b] true fn_law_hand (fCons (fVar 0) (fCons (fVar 1) fNil))))
    (sIf (fOr (fNot (fTest (fCall [.m] false fn_law_are_none (fCons (fVar 2) fNil)))) (fNot (fTest (fCall [.m] false fn_law_within (fCons (fVar 2) fNil))))) (sRet (fC (.bl false))) sNext)))
    (sRet (fC (.bl true))))
noncomputable def fn_law : FN := fnM [.b] 2 false b_law
noncomputable def top (i : Nat) : Stmt := PySem.Challenge.pw_answertrees_k58_wishes_of_anything.main.body.getD i (.Pass ⟨0, 0, 0, 0⟩)
noncomputable abbrev s_standing : Stmt := top 1
noncomputable abbrev s_rings_in : Stmt := top 3
noncomputable abbrev s_shown : Stmt := top 5
noncomputable abbrev s_is_name : Stmt := top 9
noncomputable abbrev s_rises : Stmt := top 10
noncomputable abbrev s_is_mark : Stmt := top 12
noncomputable abbrev s_has_ring : Stmt := top 13
noncomputable abbrev s_is_marks : Stmt := top 14
noncomputable abbrev s_is_wish : Stmt := top 16
noncomputable abbrev s_law_hand : Stmt := top 18
noncomputable abbrev s_law_take : Stmt := top 19
noncomputable abbrev s_law_deep : Stmt := top 20
noncomputable abbrev s_law_things : Stmt := top 21
noncomputable abbrev s_law_are_none : Stmt := top 22
noncomputable abbrev s_law_within : Stmt := top 23
noncomputable abbrev s_law : Stmt := top 24
structure Txt (K : PySem.W.Frag) (mg : Str → Option Value) (fs : Nat → Addr) (fds : Nat → FuncData) (tc : Nat → Addr) (u : Nat → Value) : Prop where
  d_standing : Def K mg "standing" s_standing ["pack"] (fs 0) (fds 0)
  d_rings_in : Def K mg "rings_in" s_rings_in ["above"] (fs 1) (fds 1)
  d_shown : Def K mg "shown" s_shown ["pack", "above"] (fs 2) (fds 2)
  d_is_name : Def K mg "is_name" s_is_name ["thing"] (fs 3) (fds 3)
  d_rises : Def K mg "rises" s_rises ["things"] (fs 4) (fds 4)
  d_is_mark : Def K mg "is_mark" s_is_mark ["thing"] (fs 5) (fds 5)
  d_has_ring : Def K mg "has_ring" s_has_ring ["marks"] (fs 6) (fds 6)
  d_is_marks : Def K mg "is_marks" s_is_marks ["thing"] (fs 7) (fds 7)
  d_is_wish : Def K mg "is_wish" s_is_wish ["pack", "thing"] (fs 8) (fds 8)
  d_law_hand : Def K mg "_law_hand" s_law_hand ["_law_script", "_law_k"] (fs 9) (fds 9)
  d_law_take : Def K mg "_law_take" s_law_take ["_law_hand_here", "_law_many"] (fs 10) (fds 10)
  d_law_deep : Def K mg "_law_deep" s_law_deep ["_law_thing", "_law_deep_here"] (fs 11) (fds 11)
  d_law_things : Def K mg "_law_things" s_law_things ["_law_hand_here"] (fs 12) (fds 12)
  d_law_are_none : Def K mg "_law_are_none" s_law_are_none ["_law_hand_here"] (fs 13) (fds 13)
  d_law_within : Def K mg "_law_within" s_law_within ["_law_hand_here"] (fs 14) (fds 14)
  d_law : Def K mg "law" s_law ["_law_script"] (fs 15) (fds 15)
  z_tuple : mg "tuple" = none
  z_len : mg "len" = none
  z_str : mg "str" = none
  z_isinstance : mg "isinstance" = none
  z_all : mg "all" = none
  z_range : mg "range" = none
  z_int : mg "int" = none
  z_repr : mg "repr" = none
  z_list : mg "list" = none
  z_min : mg "min" = none
  z_max : mg "max" = none
  c_NAME_SIGNS : mg "NAME_SIGNS" = some (u 0)
  r_NAME_SIGNS : RelV (.str "abcdefghijklmnopqrstuvwxyz0123456789") (u 0)
  c_LONGEST_NAME : mg "LONGEST_NAME" = some (u 1)
  r_LONGEST_NAME : RelV (.int 12) (u 1)
section
variable {P : Program} {w : World} {K : PySem.W.Frag} {mg : Str → Option Value} {base : Heap} {fs : Nat → Addr} {fds : Nat → FuncData} {tc : Nat → Addr} {u : Nat → Value}
theorem sc_standing : FnScope ["pack", "first", "letter"] ["pack"] (defScope s_standing) := ⟨rfl, rfl, rfl, by decide +kernel, rfl, by decide +kernel, by decide +kernel⟩
theorem ok_standing (T : Txt K mg fs fds tc u)  : FnOk P w K mg base CX0 1 (fs 0) (fds 0) ["pack"] (spM K [.b] false fn_standing) := by
  refine T.d_standing.F.ok sc_standing (fun vs H Q E h => ?_) (fun cdv A outer s H vs Q E hr h => ?_)
  · obtain ⟨_, _, _, _, _, hl, _⟩ := h; exact hl
  · refine ⟨_, (pss_cons (ps_set (i := 1) sc_standing.nd rfl (Or.inl rfl) pe_dnewK)
      (pss_cons (ps_for PassesOwn.never rfl (pi_any K (pv 0)) (pg_name (i := 2) sc_standing.nd rfl (Or.inl rfl)) (pss_one (ps_if (pt_cmpR (notInX K hr) (pe_ix (ixX K hr) (pv 2) pe_int (fun _ _ => rfl)) (pv 1) (by rfl)) (pss_one (ps_dput (hu_of hr) (pv 1) (pe_ix (ixX K hr) (pv 2) pe_int (fun _ _ => rfl)) (pv 2) rfl)) pss_nil)))
      (pss_one (ps_ret (pe_callTy tupV (by rfl) T.z_tuple bt_tuple (pa_cons (pe_vals (pv 1)) pa_nil)))))), ?_⟩
    exact def_ok (g := b_standing) (ref_seq (ref_setL ref_dnew)
      (ref_seq (ref_for (ref_it (ref_var 0)) (ref_gname 2) (ref_ifs (ref_test (ref_op (ok_in true) (ref_op ok_ix (ref_var 2) (ref_int 0)) (ref_var 1))) (ref_dput (ref_var 2) (ref_op ok_ix (ref_var 2) (ref_int 0))) ref_next))
      (ref_ret (ref_tvals (ref_var 1))))) rfl h
theorem sc_rings_in : FnScope ["above", "met", "found", "start", "climbed", "name"] ["above"] (defScope s_rings_in) := ⟨rfl, rfl, rfl, by decide +kernel, rfl, by decide +kernel, by decide +kernel⟩
theorem ok_rings_in (T : Txt K mg fs fds tc u)  : FnOk P w K mg base CX0 1 (fs 1) (fds 1) ["above"] (spM K [.b] false fn_rings_in) := by
  refine T.d_rings_in.F.ok sc_rings_in (fun vs H Q E h => ?_) (fun cdv A outer s H vs Q E hr h => ?_)
  · obtain ⟨_, _, _, _, _, hl, _⟩ := h; exact hl
  · refine ⟨_, (pss_cons (ps_set (i := 1) sc_rings_in.nd rfl (Or.inl rfl) pe_dnewK)
      (pss_cons (ps_set (i := 2) sc_rings_in.nd rfl (Or.inl rfl) (pe_lst pa_nil))
      (pss_cons (ps_for PassesOwn.never rfl (pi_keys (pv 0)) (pg_name (i := 3) sc_rings_in.nd rfl (Or.inl rfl)) (pss_cons (ps_set (i := 4) sc_rings_in.nd rfl (Or.inl rfl) (pe_lst pa_nil))
      (pss_cons (ps_set (i := 5) sc_rings_in.nd rfl (Or.inl rfl) (pv 3))
      (pss_cons (ps_while PassesOwn.never (PW.pt (pw_and (pt_cmpR op_notN (pv 5) pe_non (nomark _)) (pw_and1 (pt_cmpR (notInX K hr) (pv 5) (pv 1) (by rfl))))) (pss_cons (ps_dput (hu_of hr) (pv 1) (pv 5) (pv 3) rfl)
      (pss_cons (ps_expr (pe_bmK K PySem.F.plainAttrs_list PySem.F.slot_list_append PySem.F.type_list_append mt_append (pv 4) (pa_cons (pv 5) pa_nil)))
      (pss_one (ps_set (i := 5) sc_rings_in.nd rfl (Or.inl rfl) (pe_dget1 (hu_of hr) (pv 0) (pv 5) ⟨rfl, by rfl, rfl, rfl⟩))))))
      (pss_one (ps_if (PW.pt (pw_and (pt_cmpR op_notN (pv 5) pe_non (nomark _)) (pw_and1 (pt_cmpR (eqPX K hr) (pe_ix (ixX K hr) (pv 1) (pv 5) (fun _ _ => rfl)) (pv 3) (nomark _))))) (pss_one (ps_expr (pe_bmK K PySem.F.plainAttrs_list PySem.F.slot_list_append PySem.F.type_list_append mt_append (pv 2) (pa_cons (pe_slice (slX K) (pv 4) (po_some (pe_bmK K PySem.F.plainAttrs_list PySem.F.slot_list_index PySem.F.type_list_index (mt_indexL K) (pv 4) (pa_cons (pv 5) pa_nil))) po_none) pa_nil)))) pss_nil))))))
      (pss_one (ps_ret (pv 2)))))), ?_⟩
    exact def_ok (g := b_rings_in) (ref_seq (ref_setL ref_dnew)
      (ref_seq (ref_setL (ref_lst ref_nil))
      (ref_seq (ref_for (ref_keys (ref_var 0)) (ref_gname 3) (ref_seq (ref_setL (ref_lst ref_nil))
      (ref_seq (ref_set (ref_var 3))
      (ref_seq (ref_while 1000 (ref_and (ref_test (ref_op ok_isNot (ref_var 5) ref_non)) (ref_test (ref_op (ok_in true) (ref_var 5) (ref_var 1)))) (ref_seq (ref_dput (ref_var 3) (ref_var 5))
      (ref_seq (ref_app (ref_var 5))
      (ref_set (ref_get1 (ref_var 0) (ref_var 5))))))
      (ref_ifs (ref_and (ref_test (ref_op ok_isNot (ref_var 5) ref_non)) (ref_test (ref_op ok_eq (ref_op ok_ix (ref_var 1) (ref_var 5)) (ref_var 3)))) (ref_app (ref_sl ok_sl (ref_var 4) (ref_part (ref_indexL (ref_var 4) (ref_var 5))) ref_nopart)) ref_next)))))
      (ref_ret (ref_var 2))))) rfl h
theorem sc_is_name : FnScope ["thing"] ["thing"] (defScope s_is_name) := ⟨rfl, rfl, rfl, by decide +kernel, rfl, by decide +kernel, by decide +kernel⟩
theorem ok_is_name (T : Txt K mg fs fds tc u)  : FnOk P w K mg base CX0 1 (fs 3) (fds 3) ["thing"] (spM K [.b] false fn_is_name) := by
  refine T.d_is_name.F.ok sc_is_name (fun vs H Q E h => ?_) (fun cdv A outer s H vs Q E hr h => ?_)
  · obtain ⟨_, _, _, _, _, hl, _⟩ := h; exact hl
  · refine ⟨_, (pss_cons (ps_if (PW.pt (pw_or (pt_not (pt_val (pe_callB (isiX K) (by rfl) T.z_isinstance bt_isinstance (pa_cons (pv 0) (pa_cons (pe_bltn (v := .ty "str") rfl T.z_str bt_str rfl) pa_nil))))) (pw_or1 (pt_not (pt_chain leX leX pe_int (pe_callB (lenX K) (by rfl) T.z_len bt_len (pa_cons (pv 0) pa_nil)) (pe_glob (v := .int 12) rfl T.c_LONGEST_NAME T.r_LONGEST_NAME)))))) (pss_one (ps_ret pe_bl)) pss_nil)
      (pss_one (ps_ret (pe_callB (allL K rfl) (by rfl) T.z_all bt_all (pa_cons (pe_lc ["sign"] 1 [] ["thing"] (defScope s_is_name) rfl rfl rfl (pi_any K (pv 0)) (by decide +kernel) (fun _ => (pg_name (i := 0) (show (["sign"] : List Str).Nodup by decide +kernel) rfl (Or.inl rfl))) (fun _ => pts_nil) (fun _ => (pe_cmpR (inX K hr) (pv 0) (pe_glob (v := .str "abcdefghijklmnopqrstuvwxyz0123456789") rfl T.c_NAME_SIGNS T.r_NAME_SIGNS) (by rfl)))) pa_nil))))), ?_⟩
    exact def_ok (g := b_is_name) (ref_seq (ref_ifs (ref_or (ref_not (ref_tB (ref_cb ok_isi (ref_cons (ref_var 0) (ref_cons (ref_ty "str") ref_nil))))) (ref_not (ref_test (ref_chain ok_le ok_le (ref_int 1) (ref_cb ok_len (ref_cons (ref_var 0) ref_nil)) (ref_int 12))))) (ref_ret (ref_bl false)) ref_next)
      (ref_ret (ref_cb ok_all (ref_cons (ref_comp2 [] (by rfl) (ref_it (ref_var 0)) (ref_gname 0) ref_true (ref_op (ok_in false) (ref_var 0) (ref_str "abcdefghijklmnopqrstuvwxyz0123456789"))) ref_nil)))) rfl h
theorem sc_rises : FnScope ["things"] ["things"] (defScope s_rises) := ⟨rfl, rfl, rfl, by decide +kernel, rfl, by decide +kernel, by decide +kernel⟩
theorem ok_rises (T : Txt K mg fs fds tc u)  : FnOk P w K mg base CX0 1 (fs 4) (fds 4) ["things"] (spM K [.b] false fn_rises) := by
  refine T.d_rises.F.ok sc_rises (fun vs H Q E h => ?_) (fun cdv A outer s H vs Q E hr h => ?_)
  · obtain ⟨_, _, _, _, _, hl, _⟩ := h; exact hl
  · refine ⟨_, (pss_one (ps_ret (pe_callB (allL K rfl) (by rfl) T.z_all bt_all (pa_cons (pe_lc ["at", "things"] 1 [0] ["things"] (defScope s_rises) rfl rfl rfl (pi_range1 rfl T.z_range (pa_cons (pe_op op_sub (pe_callB (lenX K) (by rfl) T.z_len bt_len (pa_cons (pv 0) pa_nil)) pe_int) pa_nil)) (by decide +kernel) (fun _ => (pg_name (i := 0) (show (["at", "things"] : List Str).Nodup by decide +kernel) rfl (Or.inl rfl))) (fun _ => pts_nil) (fun _ => (pe_cmpR ltX (pe_ix (ixX K hr) (pv 1) (pv 0) (fun _ _ => rfl)) (pe_ix (ixX K hr) (pv 1) (pe_op (addX K) (pv 0) pe_int) (fun _ _ => rfl)) (nomark _)))) pa_nil)))), ?_⟩
    exact def_ok (g := b_rises) (ref_ret (ref_cb ok_all (ref_cons (ref_comp2 [] (by rfl) (ref_rng1 (ref_cons (ref_op ok_sub (ref_cb ok_len (ref_cons (ref_var 0) ref_nil)) (ref_int 1)) ref_nil)) (ref_gname 0) ref_true (ref_op ok_lt (ref_op ok_ix (ref_var 1) (ref_var 0)) (ref_op ok_ix (ref_var 1) (ref_op ok_add (ref_var 0) (ref_int 1))))) ref_nil))) rfl h
theorem sc_law_hand : FnScope ["_law_script", "_law_k", "_law_cell", "_law_great"] ["_law_script", "_law_k"] (defScope s_law_hand) := ⟨rfl, rfl, rfl, by decide +kernel, rfl, by decide +kernel, by decide +kernel⟩
theorem ok_law_hand (T : Txt K mg fs fds tc u)  : FnOk P w K mg base CX0 1 (fs 9) (fds 9) ["_law_script", "_law_k"] (spM K [.b, .b] true fn_law_hand) := by
  refine T.d_law_hand.F.ok sc_law_hand (fun vs H Q E h => ?_) (fun cdv A outer s H vs Q E hr h => ?_)
  · obtain ⟨_, _, _, _, _, hl, _⟩ := h; exact hl
  · refine ⟨_, (pss_cons (ps_set (i := 2) sc_law_hand.nd rfl (Or.inl rfl) pe_int)
      (pss_cons (ps_if (pt_cmpR ltX (pv 1) (pe_callB (lenX K) (by rfl) T.z_len bt_len (pa_cons (pv 0) pa_nil)) (nomark _)) (pss_one (ps_set (i := 2) sc_law_hand.nd rfl (Or.inl rfl) (pe_ix (ixX K hr) (pv 0) (pv 1) (fun _ _ => rfl)))) pss_nil)
      (pss_cons (ps_set (i := 3) sc_law_hand.nd rfl (Or.inl rfl) (pe_op op_mul (pe_op op_mod (pv 2) (pe_op op_mulC (pe_op op_powB pe_int pe_int) (pe_op op_powB pe_int pe_int))) (pe_callTy call_int1 (by rfl) T.z_int bt_int (pa_cons (pe_cmpR op_ge (pv 2) (pe_op op_powB pe_int pe_int) (nomark _)) pa_nil))))
      (pss_one (ps_ret (pe_lst (pa_cons (pv 3) (pa_cons (pe_op op_mod (pe_op (addX K) (pe_op (addX K) (pe_op op_mod (pv 2) pe_int) (pe_op op_mul pe_int (pv 1))) pe_int) pe_int) (pa_cons pe_int pa_nil))))))))), ?_⟩
    exact def_ok (g := b_law_hand) (ref_seq (ref_set (ref_int 0))
      (ref_seq (ref_ifs (ref_test (ref_op ok_lt (ref_var 1) (ref_cb ok_len (ref_cons (ref_var 0) ref_nil)))) (ref_set (ref_op ok_ix (ref_var 0) (ref_var 1))) ref_next)
      (ref_seq (ref_set (ref_op ok_mul (ref_op ok_mod (ref_var 2) (ref_op ok_mulC (ref_op ok_pow (ref_int 10) (ref_int 60)) (ref_op ok_pow (ref_int 10) (ref_int 30)))) (ref_cb ok_intC (ref_cons (ref_op ok_ge (ref_var 2) (ref_op ok_pow (ref_int 10) (ref_int 18))) ref_nil))))
      (ref_ret (ref_lst (ref_cons (ref_var 3) (ref_cons (ref_op ok_mod (ref_op ok_add (ref_op ok_add (ref_op ok_mod (ref_var 2) (ref_int 2305843009213693951)) (ref_op ok_mul (ref_int 7919) (ref_var 1))) (ref_int 3)) (ref_int 2305843009213693951)) (ref_cons (ref_int 0) ref_nil)))))))) rfl h
theorem sc_law_take : FnScope ["_law_hand_here", "_law_many", "_law_digit", "_law_mixed"] ["_law_hand_here", "_law_many"] (defScope s_law_take) := ⟨rfl, rfl, rfl, by decide +kernel, rfl, by decide +kernel, by decide +kernel⟩
theorem ok_law_take (T : Txt K mg fs fds tc u)  : FnOk P w K mg base CX0 1 (fs 10) (fds 10) ["_law_hand_here", "_law_many"] (spM K [.m, .b] false fn_law_take) := by
  refine T.d_law_take.F.ok sc_law_take (fun vs H Q E h => ?_) (fun cdv A outer s H vs Q E hr h => ?_)
  · obtain ⟨_, _, _, _, _, hl, _⟩ := h; exact hl
  · refine ⟨_, (pss_cons (ps_if (pt_cmpR op_gt (pe_ix (ixX K hr) (pv 0) pe_int (fun _ _ => rfl)) pe_int (nomark _)) (pss_cons (ps_set (i := 2) sc_law_take.nd rfl (Or.inl rfl) (pe_op op_mod (pe_ix (ixX K hr) (pv 0) pe_int (fun _ _ => rfl)) (pv 1)))
      (pss_cons (ps_asg (pe_op op_fdivB (pe_ix (ixX K hr) (pv 0) pe_int (fun _ _ => rfl)) (pv 1)) (pg_sub (pv 0) pe_int set_list))
      (pss_one (ps_ret (pv 2))))) pss_nil)
      (pss_cons (ps_asg (pe_op (addX K) (pe_ix (ixX K hr) (pv 0) pe_int (fun _ _ => rfl)) pe_int) (pg_sub (pv 0) pe_int set_list))
      (pss_cons (ps_set (i := 3) sc_law_take.nd rfl (Or.inl rfl) (pe_op (addX K) (pe_op (addX K) (pe_ix (ixX K hr) (pv 0) pe_int (fun _ _ => rfl)) (pe_op op_mul (pe_op op_mul pe_int (pe_ix (ixX K hr) (pv 0) pe_int (fun _ _ => rfl))) (pe_ix (ixX K hr) (pv 0) pe_int (fun _ _ => rfl)))) pe_int))
      (pss_cons (ps_set (i := 3) sc_law_take.nd rfl (Or.inl rfl) (pe_op op_mod (pe_op op_mul (pv 3) (pe_op (addX K) pe_int (pe_op op_mul pe_int (pe_ix (ixX K hr) (pv 0) pe_int (fun _ _ => rfl))))) pe_int))
      (pss_cons (ps_set (i := 3) sc_law_take.nd rfl (Or.inl rfl) (pe_op op_mod (pe_op op_mul (pv 3) (pe_op (addX K) (pe_op op_mod (pv 3) pe_int) (pe_op op_mul pe_int (pe_ix (ixX K hr) (pv 0) pe_int (fun _ _ => rfl))))) pe_int))
      (pss_one (ps_ret (pe_op op_mod (pe_op (addX K) (pe_op op_fdivB (pv 3) pe_int) (pe_op op_fdivB (pv 3) pe_int)) (pv 1))))))))), ?_⟩
    exact def_ok (g := b_law_take) (ref_seq (ref_ifs (ref_test (ref_op ok_gt (ref_op ok_ix (ref_var 0) (ref_int 0)) (ref_int 0))) (ref_seq (ref_set (ref_op ok_mod (ref_op ok_ix (ref_var 0) (ref_int 0)) (ref_var 1)))
      (ref_seq (ref_setIx (ref_op ok_div (ref_op ok_ix (ref_var 0) (ref_int 0)) (ref_var 1)) (ref_int 0))
      (ref_ret (ref_var 2)))) ref_next)
      (ref_seq (ref_setIx (ref_op ok_add (ref_op ok_ix (ref_var 0) (ref_int 2)) (ref_int 1)) (ref_int 2))
      (ref_seq (ref_set (ref_op ok_add (ref_op ok_add (ref_op ok_ix (ref_var 0) (ref_int 1)) (ref_op ok_mul (ref_op ok_mul (ref_int 65537) (ref_op ok_ix (ref_var 0) (ref_int 2))) (ref_op ok_ix (ref_var 0) (ref_int 2)))) (ref_int 11)))
      (ref_seq (ref_set (ref_op ok_mod (ref_op ok_mul (ref_var 3) (ref_op ok_add (ref_int 48271) (ref_op ok_mul (ref_int 2) (ref_op ok_ix (ref_var 0) (ref_int 2))))) (ref_int 2305843009213693921)))
      (ref_seq (ref_set (ref_op ok_mod (ref_op ok_mul (ref_var 3) (ref_op ok_add (ref_op ok_mod (ref_var 3) (ref_int 1000003)) (ref_op ok_mul (ref_int 99991) (ref_op ok_ix (ref_var 0) (ref_int 2))))) (ref_int 2305843009213693907)))
      (ref_ret (ref_op ok_mod (ref_op ok_add (ref_op ok_div (ref_var 3) (ref_int 97)) (ref_op ok_div (ref_var 3) (ref_int 1000033))) (ref_var 1)))))))) rfl h
theorem sc_law_deep : FnScope ["_law_thing", "_law_deep_here", "_law_turn"] ["_law_thing", "_law_deep_here"] (defScope s_law_deep) := ⟨rfl, rfl, rfl, by decide +kernel, rfl, by decide +kernel, by decide +kernel⟩
theorem ok_law_deep (T : Txt K mg fs fds tc u)  : FnOk P w K mg base CX0 1 (fs 11) (fds 11) ["_law_thing", "_law_deep_here"] (spM K [.v, .b] false fn_law_deep) := by
  refine T.d_law_deep.F.ok sc_law_deep (fun vs H Q E h => ?_) (fun cdv A outer s H vs Q E hr h => ?_)
  · obtain ⟨_, _, _, _, _, hl, _⟩ := h; exact hl
  · refine ⟨_, (pss_cons (ps_for PassesOwn.never rfl (pi_range1 rfl T.z_range (pa_cons (pv 1) pa_nil)) (pg_name (i := 2) sc_law_deep.nd rfl (Or.inl rfl)) (pss_one (ps_set (i := 0) sc_law_deep.nd rfl (Or.inl rfl) (pe_tup (pa_cons (pv 0) pa_nil)))))
      (pss_one (ps_ret (pv 0)))), ?_⟩
    exact def_ok (g := b_law_deep) (ref_seq (ref_for (ref_rng1 (ref_cons (ref_var 1) ref_nil)) (ref_gname 2) (ref_set (ref_tup (ref_cons (ref_var 0) ref_nil))))
      (ref_ret (ref_var 0))) rfl h
theorem sc_shown : FnScope ["pack", "above", "found", "letter", "name"] ["pack", "above"] (defScope s_shown) := ⟨rfl, rfl, rfl, by decide +kernel, rfl, by decide +kernel, by decide +kernel⟩
theorem ok_shown (T : Txt K mg fs fds tc u) (G_standing : FnOk P w K mg base CX0 1 (fs 0) (fds 0) ["pack"] (spM K [.b] false fn_standing)) : FnOk P w K mg base CX0 2 (fs 2) (fds 2) ["pack", "above"] (spM K [.b, .b] false fn_shown) := by
  refine T.d_shown.F.ok sc_shown (fun vs H Q E h => ?_) (fun cdv A outer s H vs Q E hr h => ?_)
  · obtain ⟨_, _, _, _, _, hl, _⟩ := h; exact hl
  · refine ⟨_, (pss_cons (ps_set (i := 2) sc_shown.nd rfl (Or.inl rfl) pe_dnewK)
      (pss_cons (ps_for PassesOwn.never rfl (pi_any K (pe_fn T.d_standing G_standing hr (by decide) rfl (pa_cons (pv 0) pa_nil))) (pg_name (i := 3) sc_shown.nd rfl (Or.inl rfl)) (pss_cons (ps_set (i := 4) sc_shown.nd rfl (Or.inl rfl) (pe_ix (ixX K hr) (pv 3) pe_int (fun _ _ => rfl)))
      (pss_one (ps_while PassesOwn.never (PW.pt (pw_and (pt_cmpR op_notN (pv 4) pe_non (nomark _)) (pw_and1 (pt_cmpR (notInX K hr) (pv 4) (pv 2) (by rfl))))) (pss_cons (ps_dput (hu_of hr) (pv 2) (pv 4) pe_bl rfl)
      (pss_one (ps_set (i := 4) sc_shown.nd rfl (Or.inl rfl) (pe_ix (ixX K hr) (pv 1) (pv 4) (fun _ _ => rfl)))))))))
      (pss_one (ps_ret (pv 2))))), ?_⟩
    exact def_ok (g := b_shown) (ref_seq (ref_setL ref_dnew)
      (ref_seq (ref_for (ref_it (ref_call (ref_cons (ref_var 0) ref_nil))) (ref_gname 3) (ref_seq (ref_set (ref_op ok_ix (ref_var 3) (ref_int 0)))
      (ref_while 1000 (ref_and (ref_test (ref_op ok_isNot (ref_var 4) ref_non)) (ref_test (ref_op (ok_in true) (ref_var 4) (ref_var 2)))) (ref_seq (ref_dput (ref_bl true) (ref_var 4))
      (ref_set (ref_op ok_ix (ref_var 1) (ref_var 4)))))))
      (ref_ret (ref_var 2)))) rfl h
theorem sc_is_mark : FnScope ["thing"] ["thing"] (defScope s_is_mark) := ⟨rfl, rfl, rfl, by decide +kernel, rfl, by decide +kernel, by decide +kernel⟩
theorem ok_is_mark (T : Txt K mg fs fds tc u) (G_is_name : FnOk P w K mg base CX0 1 (fs 3) (fds 3) ["thing"] (spM K [.b] false fn_is_name)) : FnOk P w K mg base CX0 2 (fs 5) (fds 5) ["thing"] (spM K [.b] false fn_is_mark) := by
  refine T.d_is_mark.F.ok sc_is_mark (fun vs H Q E h => ?_) (fun cdv A outer s H vs Q E hr h => ?_)
  · obtain ⟨_, _, _, _, _, hl, _⟩ := h; exact hl
  · refine ⟨_, (pss_cons (ps_if (PW.pt (pw_or (pt_not (pt_val (pe_callB (isiX K) (by rfl) T.z_isinstance bt_isinstance (pa_cons (pv 0) (pa_cons (pe_bltn (v := .ty "tuple") rfl T.z_tuple bt_tuple rfl) pa_nil))))) (pw_or (pt_cmpR (nePX K hr) (pe_callB (lenX K) (by rfl) T.z_len bt_len (pa_cons (pv 0) pa_nil)) pe_int (nomark _)) (pw_or1 (pt_not (pt_val (pe_fn T.d_is_name G_is_name hr (by decide) rfl (pa_cons (pe_ix (ixX K hr) (pv 0) pe_int (fun _ _ => rfl)) pa_nil)))))))) (pss_one (ps_ret pe_bl)) pss_nil)
      (pss_one (ps_ret (pe_or (pe_cmpR op_isN (pe_ix (ixX K hr) (pv 0) pe_int (fun _ _ => rfl)) pe_non (nomark _)) (pe_one (pe_and (pe_fn T.d_is_name G_is_name hr (by decide) rfl (pa_cons (pe_ix (ixX K hr) (pv 0) pe_int (fun _ _ => rfl)) pa_nil)) (pe_one (pe_cmpR (nePX K hr) (pe_ix (ixX K hr) (pv 0) pe_int (fun _ _ => rfl)) (pe_ix (ixX K hr) (pv 0) pe_int (fun _ _ => rfl)) (nomark _))))))))), ?_⟩
    exact def_ok (g := b_is_mark) (ref_seq (ref_ifs (ref_or (ref_not (ref_tB (ref_cb ok_isi (ref_cons (ref_var 0) (ref_cons (ref_ty "tuple") ref_nil))))) (ref_or (ref_test (ref_op ok_ne (ref_cb ok_len (ref_cons (ref_var 0) ref_nil)) (ref_int 2))) (ref_not (ref_tB (ref_call (ref_cons (ref_op ok_ix (ref_var 0) (ref_int 0)) ref_nil)))))) (ref_ret (ref_bl false)) ref_next)
      (ref_ret (ref_orV (ref_op ok_is (ref_op ok_ix (ref_var 0) (ref_int 1)) ref_non) (ref_andV (ref_call (ref_cons (ref_op ok_ix (ref_var 0) (ref_int 1)) ref_nil)) (ref_op ok_ne (ref_op ok_ix (ref_var 0) (ref_int 1)) (ref_op ok_ix (ref_var 0) (ref_int 0))))))) rfl h
theorem sc_has_ring : FnScope ["marks"] ["marks"] (defScope s_has_ring) := ⟨rfl, rfl, rfl, by decide +kernel, rfl, by decide +kernel, by decide +kernel⟩
theorem ok_has_ring (T : Txt K mg fs fds tc u) (G_rings_in : FnOk P w K mg base CX0 1 (fs 1) (fds 1) ["above"] (spM K [.b] false fn_rings_in)) : FnOk P w K mg base CX0 2 (fs 6) (fds 6) ["marks"] (spM K [.b] false fn_has_ring) := by
  refine T.d_has_ring.F.ok sc_has_ring (fun vs H Q E h => ?_) (fun cdv A outer s H vs Q E hr h => ?_)
  · obtain ⟨_, _, _, _, _, hl, _⟩ := h; exact hl
  · refine ⟨_, (pss_one (ps_ret (pe_cmpR (nePX K hr) (pe_fn T.d_rings_in G_rings_in hr (by decide) rfl (pa_cons (pe_dc ["name", "elder"] 2 [] ["marks"] (defScope s_has_ring) rfl rfl rfl (pi_any K (pv 0)) (by decide +kernel) (fun _ => (pg_tupK (n := 2) K rfl (pgs_cons (pg_name (i := 0) (show (["name", "elder"] : List Str).Nodup by decide +kernel) rfl (Or.inl rfl)) (pgs_cons (pg_name (i := 1) (show (["name", "elder"] : List Str).Nodup by decide +kernel) rfl (Or.inl rfl)) pgs_nil)))) (fun _ => pts_nil) (fun _ => (pv 0)) (fun _ => (pv 1))) pa_nil)) (pe_lst pa_nil) (nomark _)))), ?_⟩
    exact def_ok (g := b_has_ring) (ref_ret (ref_op ok_ne (ref_call (ref_cons (ref_dcomp2 [] (by rfl) (ref_it (ref_var 0)) (ref_gtup (ref_gcons (ref_gname 0) (ref_gcons (ref_gname 1) ref_gnil))) ref_true (ref_var 0) (ref_var 1)) ref_nil)) (ref_lst ref_nil))) rfl h
theorem sc_law_things : FnScope ["_law_hand_here", "_law_number", "_law_things_here"] ["_law_hand_here"] (defScope s_law_things) := ⟨rfl, rfl, rfl, by decide +kernel, rfl, by decide +kernel, by decide +kernel⟩
theorem ok_law_things (T : Txt K mg fs fds tc u) (G_law_take : FnOk P w K mg base CX0 1 (fs 10) (fds 10) ["_law_hand_here", "_law_many"] (spM K [.m, .b] false fn_law_take)) (G_law_deep : FnOk P w K mg base CX0 1 (fs 11) (fds 11) ["_law_thing", "_law_deep_here"] (spM K [.v, .b] false fn_law_deep)) : FnOk P w K mg base CX0 2 (fs 12) (fds 12) ["_law_hand_here"] (spM K [.m] false fn_law_things) := by
  refine T.d_law_things.F.ok sc_law_things (fun vs H Q E h => ?_) (fun cdv A outer s H vs Q E hr h => ?_)
  · obtain ⟨_, _, _, _, _, hl, _⟩ := h; exact hl
  · refine boxed ⟨_, (ssw_cons (sw (ps_set (i := 1) sc_law_things.nd rfl (Or.inl rfl) (pe_op op_sub (pe_fn T.d_law_take G_law_take hr (by decide) rfl (pa_cons (pv 0) (pa_cons pe_int pa_nil))) pe_int)))
      (ssw_cons (sw_setWl (i := 2) sc_law_things.nd rfl rfl (ew_l (pw_c (ew pe_non) (pw_c (ew pe_bl) (pw_c (ew pe_bl) (pw_n (ew (pv 1)) (pw_c (ew pe_str) (pw_c (ew pe_str) (pw_c (ew pe_str) (pw_l (ew_l pw_nil) (pw_d ew_d0 (pw_d (ew_d1 pe_str pe_non) (pw_l (ew_l (pw_t (ew_t (pw_c (ew pe_str) (pw_c (ew pe_non) pw_nil))) pw_nil)) (pw_t (ew_t (pw_c (ew pe_str) (pw_c (ew pe_non) pw_nil))) (pw_t (ew_t (pw_c (ew pe_str) (pw_c (ew pe_str) pw_nil))) pw_nil)))))))))))))))
      (ssw_cons (sw_addX (i := 2) sc_law_things.nd rfl rfl (addX K) (pv 2) (pw_t (ew_t (pw_t (ew_t (pw_c (ew pe_str) pw_nil)) pw_nil)) (pw_t (ew_t (pw_t (ew_t (pw_c (ew pe_str) (pw_c (ew pe_non) (pw_c (ew pe_non) pw_nil)))) pw_nil)) (pw_t (ew_t (pw_l (ew_l (pw_c (ew pe_str) (pw_c (ew pe_non) pw_nil))) pw_nil)) (pw_t (ew_t (pw_t (ew_t (pw_t (ew_t (pw_c (ew pe_str) (pw_c (ew pe_non) pw_nil))) pw_nil)) pw_nil)) (pw_t (ew_t (pw_t (ew_t (pw_c (ew pe_non) (pw_c (ew pe_non) pw_nil))) pw_nil)) pw_nil))))))
      (ssw_cons (sw_addX (i := 2) sc_law_things.nd rfl rfl (addX K) (pv 2) (pw_t (ew_t (pw_t (ew_t (pw_c (ew pe_int) (pw_c (ew pe_non) pw_nil))) pw_nil)) (pw_t (ew_t (pw_t (ew_t (pw_c (ew pe_str) (pw_c (ew pe_int) pw_nil))) pw_nil)) (pw_t (ew_t (pw_t (ew_t (pw_c (ew pe_str) (pw_c (ew pe_bl) pw_nil))) pw_nil)) (pw_t (ew_t (pw_t (ew_t (pw_c (ew pe_str) (pw_c (ew pe_bl) pw_nil))) pw_nil)) (pw_t (ew_t (pw_t (ew_t (pw_c (ew pe_str) (pw_c (ew pe_str) pw_nil))) pw_nil)) (pw_t (ew_t (pw_t (ew_t (pw_c (ew pe_str) (pw_c (ew pe_non) pw_nil))) pw_nil)) pw_nil)))))))
      (ssw_cons (sw_addX (i := 2) sc_law_things.nd rfl rfl (addX K) (pv 2) (pw_t (ew_t (pw_t (ew_t (pw_c (ew pe_str) (pw_c (ew pe_non) pw_nil))) pw_nil)) (pw_t (ew_t (pw_t (ew_t (pw_t (ew_t (pw_c (ew pe_str) pw_nil)) (pw_c (ew pe_non) pw_nil))) pw_nil)) (pw_t (ew_t (pw_t (ew_t (pw_c (ew pe_str) (pw_c (ew pe_non) pw_nil))) (pw_c (ew pe_non) pw_nil))) (pw_t (ew_t (pw_c (ew pe_non) (pw_t (ew_t (pw_c (ew pe_str) (pw_c (ew pe_non) pw_nil))) pw_nil))) pw_nil)))))
      (ssw_cons (sw_addX (i := 2) sc_law_things.nd rfl rfl (addX K) (pv 2) (pw_t (ew_t (pw_t (ew_t (pw_c (ew pe_str) (pw_t (ew_t (pw_c (ew pe_str) pw_nil)) pw_nil))) (pw_t (ew_t (pw_c (ew pe_str) (pw_c (ew pe_non) pw_nil))) pw_nil))) (pw_t (ew_t (pw_t (ew_t (pw_c (ew pe_str) (pw_c (ew pe_str) pw_nil))) pw_nil)) (pw_t (ew_t (pw_t (ew_t (pw_c (ew pe_str) (pw_l (ew_l (pw_c (ew pe_non) pw_nil)) pw_nil))) pw_nil)) (pw_t (ew_t (pw_t (ew_t (pw_c (ew pe_str) (pw_c (ew pe_non) pw_nil))) pw_nil)) (pw_t (ew_t (pw_t (ew_t (pw_c (ew pe_str) (pw_c (ew pe_non) pw_nil))) pw_nil)) pw_nil))))))
      (ssw_cons (sw_addX (i := 2) sc_law_things.nd rfl rfl (addX K) (pv 2) (pw_k (ew (pe_fn T.d_law_deep G_law_deep hr (by decide) rfl (pa_cons pe_str (pa_cons (pe_op (addX K) pe_int (pe_fn T.d_law_take G_law_take hr (by decide) rfl (pa_cons (pv 0) (pa_cons pe_int pa_nil)))) pa_nil)))) (pw_k (ew (pe_fn T.d_law_deep G_law_deep hr (by decide) rfl (pa_cons (pe_tup (pa_cons pe_str (pa_cons pe_non pa_nil))) (pa_cons pe_int pa_nil)))) pw_nil)))
      (ssw_cons (sw (ps_expr (pe_bmK K PySem.F.plainAttrs_list PySem.F.slot_list_append PySem.F.type_list_append mt_append (pv 2) (pa_cons (pe_tup (pa_cons (pe_tup (pa_cons pe_str (pa_cons (pe_fn T.d_law_deep G_law_deep hr (by decide) rfl (pa_cons pe_str (pa_cons pe_int pa_nil))) pa_nil))) pa_nil)) pa_nil))))
      (ssw_one (sw_retX (addX K) (pv 2) (pw_t (ew_t (pw_t (ew_t (pw_c (ew pe_str) (pw_c (ew pe_non) pw_nil))) (pw_t (ew_t (pw_c (ew pe_str) (pw_c (ew pe_str) pw_nil))) pw_nil))) (pw_t (ew_t (pw_t (ew_t (pw_c (ew pe_str) (pw_c (ew pe_str) pw_nil))) (pw_t (ew_t (pw_c (ew pe_str) (pw_c (ew pe_str) pw_nil))) pw_nil))) (pw_t (ew_t (pw_t (ew_t (pw_c (ew pe_str) (pw_c (ew pe_non) pw_nil))) pw_nil)) pw_nil))))))))))))), ?_⟩
    exact def_ok (g := b_law_things) (ref_seq (ref_set (ref_op ok_sub (ref_call (ref_cons (ref_var 0) (ref_cons (ref_int 1000) ref_nil))) (ref_int 500)))
      (ref_seq (ref_setL (ref_lst (ref_cons ref_non (ref_cons (ref_bl true) (ref_cons (ref_bl false) (ref_cons (ref_var 1) (ref_cons (ref_str "") (ref_cons (ref_str "a") (ref_cons (ref_str "a1") (ref_cons (ref_lst ref_nil) (ref_cons ref_dnew (ref_cons (ref_dispN (k := "a")) (ref_cons (ref_lst (ref_cons (ref_tup (ref_cons (ref_str "a") (ref_cons ref_non ref_nil))) ref_nil)) (ref_cons (ref_tup (ref_cons (ref_str "a") (ref_cons ref_non ref_nil))) (ref_cons (ref_tup (ref_cons (ref_str "a") (ref_cons (ref_str "b") ref_nil))) ref_nil)))))))))))))))
      (ref_seq (ref_setL (ref_op ok_add (ref_var 2) (ref_lst (ref_cons (ref_tup (ref_cons (ref_tup (ref_cons (ref_str "a") ref_nil)) ref_nil)) (ref_cons (ref_tup (ref_cons (ref_tup (ref_cons (ref_str "a") (ref_cons ref_non (ref_cons ref_non ref_nil)))) ref_nil)) (ref_cons (ref_tup (ref_cons (ref_lst (ref_cons (ref_str "a") (ref_cons ref_non ref_nil))) ref_nil)) (ref_cons (ref_tup (ref_cons (ref_tup (ref_cons (ref_tup (ref_cons (ref_str "a") (ref_cons ref_non ref_nil))) ref_nil)) ref_nil)) (ref_cons (ref_tup (ref_cons (ref_tup (ref_cons ref_non (ref_cons ref_non ref_nil))) ref_nil)) ref_nil))))))))
      (ref_seq (ref_setL (ref_op ok_add (ref_var 2) (ref_lst (ref_cons (ref_tup (ref_cons (ref_tup (ref_cons (ref_int 0) (ref_cons ref_non ref_nil))) ref_nil)) (ref_cons (ref_tup (ref_cons (ref_tup (ref_cons (ref_str "a") (ref_cons (ref_int 0) ref_nil))) ref_nil)) (ref_cons (ref_tup (ref_cons (ref_tup (ref_cons (ref_str "a") (ref_cons (ref_bl true) ref_nil))) ref_nil)) (ref_cons (ref_tup (ref_cons (ref_tup (ref_cons (ref_str "a") (ref_cons (ref_bl false) ref_nil))) ref_nil)) (ref_cons (ref_tup (ref_cons (ref_tup (ref_cons (ref_str "a") (ref_cons (ref_str "") ref_nil))) ref_nil)) (ref_cons (ref_tup (ref_cons (ref_tup (ref_cons (ref_str "") (ref_cons ref_non ref_nil))) ref_nil)) ref_nil)))))))))
      (ref_seq (ref_setL (ref_op ok_add (ref_var 2) (ref_lst (ref_cons (ref_tup (ref_cons (ref_tup (ref_cons (ref_str "A") (ref_cons ref_non ref_nil))) ref_nil)) (ref_cons (ref_tup (ref_cons (ref_tup (ref_cons (ref_tup (ref_cons (ref_str "a") ref_nil)) (ref_cons ref_non ref_nil))) ref_nil)) (ref_cons (ref_tup (ref_cons (ref_tup (ref_cons (ref_str "a") (ref_cons ref_non ref_nil))) (ref_cons ref_non ref_nil))) (ref_cons (ref_tup (ref_cons ref_non (ref_cons (ref_tup (ref_cons (ref_str "a") (ref_cons ref_non ref_nil))) ref_nil))) ref_nil)))))))
      (ref_seq (ref_setL (ref_op ok_add (ref_var 2) (ref_lst (ref_cons (ref_tup (ref_cons (ref_tup (ref_cons (ref_str "a") (ref_cons (ref_tup (ref_cons (ref_str "b") ref_nil)) ref_nil))) (ref_cons (ref_tup (ref_cons (ref_str "b") (ref_cons ref_non ref_nil))) ref_nil))) (ref_cons (ref_tup (ref_cons (ref_tup (ref_cons (ref_str "a") (ref_cons (ref_str "a") ref_nil))) ref_nil)) (ref_cons (ref_tup (ref_cons (ref_tup (ref_cons (ref_str "a") (ref_cons (ref_lst (ref_cons ref_non ref_nil)) ref_nil))) ref_nil)) (ref_cons (ref_tup (ref_cons (ref_tup (ref_cons (ref_str "a-") (ref_cons ref_non ref_nil))) ref_nil)) (ref_cons (ref_tup (ref_cons (ref_tup (ref_cons (ref_str "a ") (ref_cons ref_non ref_nil))) ref_nil)) ref_nil))))))))
      (ref_seq (ref_setL (ref_op ok_add (ref_var 2) (ref_lst (ref_cons (ref_call (ref_cons (ref_str "a") (ref_cons (ref_op ok_add (ref_int 1) (ref_call (ref_cons (ref_var 0) (ref_cons (ref_int 38) ref_nil)))) ref_nil))) (ref_cons (ref_call (ref_cons (ref_tup (ref_cons (ref_str "a") (ref_cons ref_non ref_nil))) (ref_cons (ref_int 38) ref_nil))) ref_nil)))))
      (ref_seq (ref_app (ref_tup (ref_cons (ref_tup (ref_cons (ref_str "a") (ref_cons (ref_call (ref_cons (ref_str "b") (ref_cons (ref_int 36) ref_nil))) ref_nil))) ref_nil)))
      (ref_ret (ref_op ok_add (ref_var 2) (ref_lst (ref_cons (ref_tup (ref_cons (ref_tup (ref_cons (ref_str "a") (ref_cons ref_non ref_nil))) (ref_cons (ref_tup (ref_cons (ref_str "b") (ref_cons (ref_str "a") ref_nil))) ref_nil))) (ref_cons (ref_tup (ref_cons (ref_tup (ref_cons (ref_str "a") (ref_cons (ref_str "b") ref_nil))) (ref_cons (ref_tup (ref_cons (ref_str "b") (ref_cons (ref_str "a") ref_nil))) ref_nil))) (ref_cons (ref_tup (ref_cons (ref_tup (ref_cons (ref_str "abcdefghijklm") (ref_cons ref_non ref_nil))) ref_nil)) ref_nil)))))))))))))) rfl h
theorem sc_is_marks : FnScope ["thing"] ["thing"] (defScope s_is_marks) := ⟨rfl, rfl, rfl, by decide +kernel, rfl, by decide +kernel, by decide +kernel⟩
theorem ok_is_marks (T : Txt K mg fs fds tc u) (G_rises : FnOk P w K mg base CX0 1 (fs 4) (fds 4) ["things"] (spM K [.b] false fn_rises)) (G_has_ring : FnOk P w K mg base CX0 2 (fs 6) (fds 6) ["marks"] (spM K [.b] false fn_has_ring)) (G_is_mark : FnOk P w K mg base CX0 2 (fs 5) (fds 5) ["thing"] (spM K [.b] false fn_is_mark)) : FnOk P w K mg base CX0 3 (fs 7) (fds 7) ["thing"] (spM K [.b] false fn_is_marks) := by
  refine T.d_is_marks.F.ok sc_is_marks (fun vs H Q E h => ?_) (fun cdv A outer s H vs Q E hr h => ?_)
  · obtain ⟨_, _, _, _, _, hl, _⟩ := h; exact hl
  · refine ⟨_, (pss_cons (ps_if (PW.pt (pw_or (pt_not (pt_val (pe_callB (isiX K) (by rfl) T.z_isinstance bt_isinstance (pa_cons (pv 0) (pa_cons (pe_bltn (v := .ty "tuple") rfl T.z_tuple bt_tuple rfl) pa_nil))))) (pw_or1 (pt_not (pt_val (pe_callB (allL K rfl) (by rfl) T.z_all bt_all (pa_cons (pe_lc ["part"] 1 [] ["thing"] (defScope s_is_marks) rfl rfl rfl (pi_any K (pv 0)) (by decide +kernel) (fun _ => (pg_name (i := 0) (show (["part"] : List Str).Nodup by decide +kernel) rfl (Or.inl rfl))) (fun _ => pts_nil) (fun _ => (pe_fn T.d_is_mark G_is_mark hr (by decide) rfl (pa_cons (pv 0) pa_nil)))) pa_nil))))))) (pss_one (ps_ret pe_bl)) pss_nil)
      (pss_one (ps_ret (pe_and (pe_fn T.d_rises G_rises hr (by decide) rfl (pa_cons (pe_lc ["name", "elder"] 2 [] ["thing"] (defScope s_is_marks) rfl rfl rfl (pi_any K (pv 0)) (by decide +kernel) (fun _ => (pg_tupK (n := 2) K rfl (pgs_cons (pg_name (i := 0) (show (["name", "elder"] : List Str).Nodup by decide +kernel) rfl (Or.inl rfl)) (pgs_cons (pg_name (i := 1) (show (["name", "elder"] : List Str).Nodup by decide +kernel) rfl (Or.inl rfl)) pgs_nil)))) (fun _ => pts_nil) (fun _ => (pv 0))) pa_nil)) (pe_one (pe_not (pe_fn T.d_has_ring G_has_ring hr (by decide) rfl (pa_cons (pv 0) pa_nil)))))))), ?_⟩
    exact def_ok (g := b_is_marks) (ref_seq (ref_ifs (ref_or (ref_not (ref_tB (ref_cb ok_isi (ref_cons (ref_var 0) (ref_cons (ref_ty "tuple") ref_nil))))) (ref_not (ref_tB (ref_cb ok_all (ref_cons (ref_comp2 [] (by rfl) (ref_it (ref_var 0)) (ref_gname 0) ref_true (ref_call (ref_cons (ref_var 0) ref_nil))) ref_nil))))) (ref_ret (ref_bl false)) ref_next)
      (ref_ret (ref_andV (ref_call (ref_cons (ref_comp2 [] (by rfl) (ref_it (ref_var 0)) (ref_gtup (ref_gcons (ref_gname 0) (ref_gcons (ref_gname 1) ref_gnil))) ref_true (ref_var 0)) ref_nil)) (ref_notV (ref_call (ref_cons (ref_var 0) ref_nil)))))) rfl h
theorem sc_is_wish : FnScope ["pack", "thing", "above"] ["pack", "thing"] (defScope s_is_wish) := ⟨rfl, rfl, rfl, by decide +kernel, rfl, by decide +kernel, by decide +kernel⟩
theorem ok_is_wish (T : Txt K mg fs fds tc u) (G_is_marks : FnOk P w K mg base CX0 3 (fs 7) (fds 7) ["thing"] (spM K [.b] false fn_is_marks)) (G_shown : FnOk P w K mg base CX0 2 (fs 2) (fds 2) ["pack", "above"] (spM K [.b, .b] false fn_shown)) (G_standing : FnOk P w K mg base CX0 1 (fs 0) (fds 0) ["pack"] (spM K [.b] false fn_standing)) : FnOk P w K mg base CX0 4 (fs 8) (fds 8) ["pack", "thing"] (spM K [.b, .b] false fn_is_wish) := by
  refine T.d_is_wish.F.ok sc_is_wish (fun vs H Q E h => ?_) (fun cdv A outer s H vs Q E hr h => ?_)
  · obtain ⟨_, _, _, _, _, hl, _⟩ := h; exact hl
  · refine ⟨_, (pss_cons (ps_if (pt_not (pt_val (pe_fn T.d_is_marks G_is_marks hr (by decide) rfl (pa_cons (pv 1) pa_nil)))) (pss_one (ps_ret pe_bl)) pss_nil)
      (pss_cons (ps_set (i := 2) sc_is_wish.nd rfl (Or.inr rfl) (pe_dc ["name", "elder"] 2 [] ["pack", "thing", "above"] (defScope s_is_wish) rfl rfl rfl (pi_any K (pv 1)) (by decide +kernel) (fun _ => (pg_tupK (n := 2) K rfl (pgs_cons (pg_name (i := 0) (show (["name", "elder"] : List Str).Nodup by decide +kernel) rfl (Or.inl rfl)) (pgs_cons (pg_name (i := 1) (show (["name", "elder"] : List Str).Nodup by decide +kernel) rfl (Or.inl rfl)) pgs_nil)))) (fun _ => pts_nil) (fun _ => (pv 0)) (fun _ => (pv 1))))
      (pss_cons (ps_if (pt_not (pt_val (pe_callB (allL K rfl) (by rfl) T.z_all bt_all (pa_cons (pe_lc ["name", "elder", "above"] 2 [2] ["pack", "thing", "above"] (defScope s_is_wish) rfl rfl rfl (pi_any K (pv 1)) (by decide +kernel) (fun _ => (pg_tupK (n := 2) K rfl (pgs_cons (pg_name (i := 0) (show (["name", "elder", "above"] : List Str).Nodup by decide +kernel) rfl (Or.inl rfl)) (pgs_cons (pg_name (i := 1) (show (["name", "elder", "above"] : List Str).Nodup by decide +kernel) rfl (Or.inl rfl)) pgs_nil)))) (fun _ => pts_nil) (fun _ => (pe_or (pe_cmpR op_isN (pv 1) pe_non (nomark _)) (pe_one (pe_cmpR (inX K hr) (pv 1) (pv 2) (by rfl)))))) pa_nil)))) (pss_one (ps_ret pe_bl)) pss_nil)
      (pss_cons (ps_if (pt_not (pt_val (pe_callB (allL K rfl) (by rfl) T.z_all bt_all (pa_cons (pe_lc ["letter", "above"] 1 [2] ["pack", "thing", "above"] (defScope s_is_wish) rfl rfl rfl (pi_any K (pe_fn T.d_standing G_standing hr (by decide) rfl (pa_cons (pv 0) pa_nil))) (by decide +kernel) (fun _ => (pg_name (i := 0) (show (["letter", "above"] : List Str).Nodup by decide +kernel) rfl (Or.inl rfl))) (fun _ => pts_nil) (fun _ => (pe_cmpR (inX K hr) (pe_ix (ixX K hr) (pv 0) pe_int (fun _ _ => rfl)) (pv 1) (by rfl)))) pa_nil)))) (pss_one (ps_ret pe_bl)) pss_nil)
      (pss_one (ps_ret (pe_cmpR (eqPX K hr) (pe_callB (lenY K) (by rfl) T.z_len bt_len (pa_cons (pe_fn T.d_shown G_shown hr (by decide) rfl (pa_cons (pv 0) (pa_cons (pv 2) pa_nil))) pa_nil)) (pe_callB (lenY K) (by rfl) T.z_len bt_len (pa_cons (pv 2) pa_nil)) (nomark _)))))))), ?_⟩
    exact def_ok (g := b_is_wish) (ref_seq (ref_ifs (ref_not (ref_tB (ref_call (ref_cons (ref_var 1) ref_nil)))) (ref_ret (ref_bl false)) ref_next)
      (ref_seq (ref_set (ref_dcomp2 [] (by rfl) (ref_it (ref_var 1)) (ref_gtup (ref_gcons (ref_gname 0) (ref_gcons (ref_gname 1) ref_gnil))) ref_true (ref_var 0) (ref_var 1)))
      (ref_seq (ref_ifs (ref_not (ref_tB (ref_cb ok_all (ref_cons (ref_comp2 [] (by rfl) (ref_it (ref_var 1)) (ref_gtup (ref_gcons (ref_gname 0) (ref_gcons (ref_gname 1) ref_gnil))) ref_true (ref_orV (ref_op ok_is (ref_var 1) ref_non) (ref_op (ok_in false) (ref_var 1) (ref_var 2)))) ref_nil)))) (ref_ret (ref_bl false)) ref_next)
      (ref_seq (ref_ifs (ref_not (ref_tB (ref_cb ok_all (ref_cons (ref_comp2 [] (by rfl) (ref_it (ref_call (ref_cons (ref_var 0) ref_nil))) (ref_gname 0) ref_true (ref_op (ok_in false) (ref_op ok_ix (ref_var 0) (ref_int 0)) (ref_var 1))) ref_nil)))) (ref_ret (ref_bl false)) ref_next)
      (ref_ret (ref_op ok_eq (ref_cb ok_lenY (ref_cons (ref_call (ref_cons (ref_var 0) (ref_cons (ref_var 2) ref_nil))) ref_nil)) (ref_cb ok_lenY (ref_cons (ref_var 2) ref_nil)))))))) rfl h
theorem sc_law_are_none : FnScope ["_law_hand_here", "_law_day", "_law_pack", "_law_thing"] ["_law_hand_here"] (defScope s_law_are_none) := ⟨rfl, rfl, rfl, by decide +kernel, rfl, by decide +kernel, by decide +kernel⟩
theorem ok_law_are_none (T : Txt K mg fs fds tc u) (G_law_take : FnOk P w K mg base CX0 1 (fs 10) (fds 10) ["_law_hand_here", "_law_many"] (spM K [.m, .b] false fn_law_take)) (G_law_things : FnOk P w K mg base CX0 2 (fs 12) (fds 12) ["_law_hand_here"] (spM K [.m] false fn_law_things)) (G_is_wish : FnOk P w K mg base CX0 4 (fs 8) (fds 8) ["pack", "thing"] (spM K [.b, .b] false fn_is_wish)) : FnOk P w K mg base CX0 5 (fs 13) (fds 13) ["_law_hand_here"] (spM K [.m] false fn_law_are_none) := by
  refine T.d_law_are_none.F.ok sc_law_are_none (fun vs H Q E h => ?_) (fun cdv A outer s H vs Q E hr h => ?_)
  · obtain ⟨_, _, _, _, _, hl, _⟩ := h; exact hl
  · refine ⟨_, (pss_cons (ps_set (i := 1) sc_law_are_none.nd rfl (Or.inl rfl) (pe_fn T.d_law_take G_law_take hr (by decide) rfl (pa_cons (pv 0) (pa_cons pe_int pa_nil))))
      (pss_cons (ps_set (i := 2) sc_law_are_none.nd rfl (Or.inl rfl) (pe_tup (pa_cons (pe_tup (pa_cons pe_str (pa_cons (pv 1) (pa_cons pe_str (pa_cons (pe_tup pa_nil) pa_nil))))) pa_nil)))
      (pss_cons (ps_if (PW.pt (pw_or (pt_cmpR (nePX K hr) (pe_callB call_reprB (by rfl) T.z_repr bt_repr (pa_cons (pe_fn T.d_is_wish G_is_wish hr (by decide) rfl (pa_cons (pv 2) (pa_cons (pe_tup (pa_cons (pe_tup (pa_cons pe_str (pa_cons pe_non pa_nil))) pa_nil)) pa_nil))) pa_nil)) pe_str (nomark _)) (pw_or1 (pt_cmpR (nePX K hr) (pe_callB call_reprB (by rfl) T.z_repr bt_repr (pa_cons (pe_fn T.d_is_wish G_is_wish hr (by decide) rfl (pa_cons (pe_tup pa_nil) (pa_cons (pe_tup (pa_cons (pe_tup (pa_cons pe_str (pa_cons pe_non pa_nil))) pa_nil)) pa_nil))) pa_nil)) pe_str (nomark _))))) (pss_one (ps_ret pe_bl)) pss_nil)
      (pss_cons (ps_if (PW.pt (pw_or (pt_cmpR (nePX K hr) (pe_callB call_reprB (by rfl) T.z_repr bt_repr (pa_cons (pe_fn T.d_is_wish G_is_wish hr (by decide) rfl (pa_cons (pe_tup pa_nil) (pa_cons (pe_tup pa_nil) pa_nil))) pa_nil)) pe_str (nomark _)) (pw_or1 (pt_cmpR (nePX K hr) (pe_callB call_reprB (by rfl) T.z_repr bt_repr (pa_cons (pe_fn T.d_is_wish G_is_wish hr (by decide) rfl (pa_cons (pv 2) (pa_cons (pe_tup pa_nil) pa_nil))) pa_nil)) pe_str (nomark _))))) (pss_one (ps_ret pe_bl)) pss_nil)
      (pss_cons (ps_for PassesOwn.never rfl (pi_any K (pe_fn T.d_law_things G_law_things hr (by decide) rfl (pa_cons (pv 0) pa_nil))) (pg_name (i := 3) sc_law_are_none.nd rfl (Or.inl rfl)) (pss_one (ps_if (PW.pt (pw_or (pt_cmpR (nePX K hr) (pe_callB call_reprB (by rfl) T.z_repr bt_repr (pa_cons (pe_fn T.d_is_wish G_is_wish hr (by decide) rfl (pa_cons (pv 2) (pa_cons (pv 3) pa_nil))) pa_nil)) pe_str (nomark _)) (pw_or1 (pt_cmpR (nePX K hr) (pe_callB call_reprB (by rfl) T.z_repr bt_repr (pa_cons (pe_fn T.d_is_wish G_is_wish hr (by decide) rfl (pa_cons (pe_tup pa_nil) (pa_cons (pv 3) pa_nil))) pa_nil)) pe_str (nomark _))))) (pss_one (ps_ret pe_bl)) pss_nil)))
      (pss_one (ps_ret pe_bl))))))), ?_⟩
    exact def_ok (g := b_law_are_none) (ref_seq (ref_set (ref_call (ref_cons (ref_var 0) (ref_cons (ref_int 100000000) ref_nil))))
      (ref_seq (ref_set (ref_tup (ref_cons (ref_tup (ref_cons (ref_str "a") (ref_cons (ref_var 1) (ref_cons (ref_str "walls") (ref_cons (ref_tup ref_nil) ref_nil))))) ref_nil)))
      (ref_seq (ref_ifs (ref_or (ref_test (ref_op ok_ne (ref_cb ok_reprB (ref_cons (ref_call (ref_cons (ref_var 2) (ref_cons (ref_tup (ref_cons (ref_tup (ref_cons (ref_str "a") (ref_cons ref_non ref_nil))) ref_nil)) ref_nil))) ref_nil)) (ref_str "True"))) (ref_test (ref_op ok_ne (ref_cb ok_reprB (ref_cons (ref_call (ref_cons (ref_tup ref_nil) (ref_cons (ref_tup (ref_cons (ref_tup (ref_cons (ref_str "a") (ref_cons ref_non ref_nil))) ref_nil)) ref_nil))) ref_nil)) (ref_str "False")))) (ref_ret (ref_bl false)) ref_next)
      (ref_seq (ref_ifs (ref_or (ref_test (ref_op ok_ne (ref_cb ok_reprB (ref_cons (ref_call (ref_cons (ref_tup ref_nil) (ref_cons (ref_tup ref_nil) ref_nil))) ref_nil)) (ref_str "True"))) (ref_test (ref_op ok_ne (ref_cb ok_reprB (ref_cons (ref_call (ref_cons (ref_var 2) (ref_cons (ref_tup ref_nil) ref_nil))) ref_nil)) (ref_str "False")))) (ref_ret (ref_bl false)) ref_next)
      (ref_seq (ref_for (ref_it (ref_call (ref_cons (ref_var 0) ref_nil))) (ref_gname 3) (ref_ifs (ref_or (ref_test (ref_op ok_ne (ref_cb ok_reprB (ref_cons (ref_call (ref_cons (ref_var 2) (ref_cons (ref_var 3) ref_nil))) ref_nil)) (ref_str "False"))) (ref_test (ref_op ok_ne (ref_cb ok_reprB (ref_cons (ref_call (ref_cons (ref_tup ref_nil) (ref_cons (ref_var 3) ref_nil))) ref_nil)) (ref_str "False")))) (ref_ret (ref_bl false)) ref_next))
      (ref_ret (ref_bl true))))))) rfl h
theorem sc_law_within : FnScope ["_law_hand_here", "_law_pack", "_law_good", "_law_odds", "_law_odd", "_law_some", "_law_at"] ["_law_hand_here"] (defScope s_law_within) := ⟨rfl, rfl, rfl, by decide +kernel, rfl, by decide +kernel, by decide +kernel⟩
theorem ok_law_within (T : Txt K mg fs fds tc u) (G_law_take : FnOk P w K mg base CX0 1 (fs 10) (fds 10) ["_law_hand_here", "_law_many"] (spM K [.m, .b] false fn_law_take)) (G_is_wish : FnOk P w K mg base CX0 4 (fs 8) (fds 8) ["pack", "thing"] (spM K [.b, .b] false fn_is_wish)) : FnOk P w K mg base CX0 5 (fs 14) (fds 14) ["_law_hand_here"] (spM K [.m] false fn_law_within) := by
  refine T.d_law_within.F.ok sc_law_within (fun vs H Q E h => ?_) (fun cdv A outer s H vs Q E hr h => ?_)
  · obtain ⟨_, _, _, _, _, hl, _⟩ := h; exact hl
  · refine boxed ⟨_, (ssw_cons (sw (ps_set (i := 1) sc_law_within.nd rfl (Or.inl rfl) (pe_tup (pa_cons (pe_tup (pa_cons pe_str (pa_cons pe_int (pa_cons pe_str (pa_cons (pe_tup pa_nil) pa_nil))))) pa_nil))))
      (ssw_cons (sw_setWl (i := 2) sc_law_within.nd rfl rfl (ew_l (pw_t (ew_t (pw_c (ew pe_str) (pw_c (ew pe_non) pw_nil))) (pw_t (ew_t (pw_c (ew pe_str) (pw_c (ew pe_str) pw_nil))) (pw_t (ew_t (pw_c (ew pe_str) (pw_c (ew pe_str) pw_nil))) (pw_t (ew_t (pw_c (ew pe_str) (pw_c (ew pe_str) pw_nil))) pw_nil))))))
      (ssw_cons (sw (ps_if (pt_cmpR (nePX K hr) (pe_callB call_reprB (by rfl) T.z_repr bt_repr (pa_cons (pe_fn T.d_is_wish G_is_wish hr (by decide) rfl (pa_cons (pv 1) (pa_cons (pe_callTy (tupX K) (by rfl) T.z_tuple bt_tuple (pa_cons (pv 2) pa_nil)) pa_nil))) pa_nil)) pe_str (nomark _)) (pss_one (ps_ret pe_bl)) pss_nil))
      (ssw_cons (sw_setWl (i := 3) sc_law_within.nd rfl rfl (ew_l (pw_c (ew pe_non) (pw_c (ew pe_bl) (pw_c (ew pe_int) (pw_c (ew pe_str) (pw_t (ew_t pw_nil) (pw_t (ew_t (pw_c (ew pe_str) pw_nil)) (pw_l (ew_l (pw_c (ew pe_str) (pw_c (ew pe_str) pw_nil))) (pw_t (ew_t (pw_c (ew pe_str) (pw_c (ew pe_str) (pw_c (ew pe_non) pw_nil)))) (pw_t (ew_t (pw_c (ew pe_str) (pw_c (ew pe_int) pw_nil))) (pw_t (ew_t (pw_c (ew pe_str) (pw_c (ew pe_bl) pw_nil))) pw_nil))))))))))))
      (ssw_cons (sw_forX K PassesOwn.never rfl (addX K) (pv 3) (pw_t (ew_t (pw_c (ew pe_str) (pw_t (ew_t (pw_c (ew pe_str) pw_nil)) pw_nil))) (pw_t (ew_t (pw_t (ew_t (pw_c (ew pe_str) pw_nil)) (pw_c (ew pe_str) pw_nil))) pw_nil)) (pg_name (i := 4) sc_law_within.nd rfl (Or.inl rfl)) (ssw_cons (sw (ps_set (i := 5) sc_law_within.nd rfl (Or.inl rfl) (pe_callTy (listL K) (by rfl) T.z_list bt_list (pa_cons (pv 2) pa_nil))))
      (ssw_cons (sw (ps_set (i := 6) sc_law_within.nd rfl (Or.inl rfl) (pe_fn T.d_law_take G_law_take hr (by decide) rfl (pa_cons (pv 0) (pa_cons pe_int pa_nil)))))
      (ssw_cons (sw (ps_expr (pe_bmK K PySem.F.plainAttrs_list PySem.F.slot_list_insert PySem.F.type_list_insert mt_insert (pv 5) (pa_cons (pv 6) (pa_cons (pv 4) pa_nil)))))
      (ssw_cons (sw (ps_if (pt_cmpR (nePX K hr) (pe_callB call_reprB (by rfl) T.z_repr bt_repr (pa_cons (pe_fn T.d_is_wish G_is_wish hr (by decide) rfl (pa_cons (pv 1) (pa_cons (pe_callTy (tupX K) (by rfl) T.z_tuple bt_tuple (pa_cons (pv 5) pa_nil)) pa_nil))) pa_nil)) pe_str (nomark _)) (pss_one (ps_ret pe_bl)) pss_nil))
      (ssw_cons (sw (ps_set (i := 5) sc_law_within.nd rfl (Or.inl rfl) (pe_callTy (listL K) (by rfl) T.z_list bt_list (pa_cons (pv 2) pa_nil))))
      (ssw_cons (sw (ps_asg (pv 4) (pg_sub (pv 5) (pe_op op_mod (pv 6) pe_int) set_list)))
      (ssw_one (sw (ps_if (PW.pt (pw_or (pt_cmpR (nePX K hr) (pe_callB call_reprB (by rfl) T.z_repr bt_repr (pa_cons (pe_fn T.d_is_wish G_is_wish hr (by decide) rfl (pa_cons (pv 1) (pa_cons (pe_callTy (tupX K) (by rfl) T.z_tuple bt_tuple (pa_cons (pv 5) pa_nil)) pa_nil))) pa_nil)) pe_str (nomark _)) (pw_or1 (pt_cmpR (nePX K hr) (pe_callB call_reprB (by rfl) T.z_repr bt_repr (pa_cons (pe_fn T.d_is_wish G_is_wish hr (by decide) rfl (pa_cons (pv 1) (pa_cons (pv 2) pa_nil))) pa_nil)) pe_str (nomark _))))) (pss_one (ps_ret pe_bl)) pss_nil))))))))))
      (ssw_one (sw (ps_ret pe_bl)))))))), ?_⟩
    exact def_ok (g := b_law_within) (ref_seq (ref_set (ref_tup (ref_cons (ref_tup (ref_cons (ref_str "e") (ref_cons (ref_int 5) (ref_cons (ref_str "") (ref_cons (ref_tup ref_nil) ref_nil))))) ref_nil)))
      (ref_seq (ref_set (ref_lst (ref_cons (ref_tup (ref_cons (ref_str "b") (ref_cons ref_non ref_nil))) (ref_cons (ref_tup (ref_cons (ref_str "c") (ref_cons (ref_str "b") ref_nil))) (ref_cons (ref_tup (ref_cons (ref_str "d") (ref_cons (ref_str "c") ref_nil))) (ref_cons (ref_tup (ref_cons (ref_str "e") (ref_cons (ref_str "d") ref_nil))) ref_nil))))))
      (ref_seq (ref_ifs (ref_test (ref_op ok_ne (ref_cb ok_reprB (ref_cons (ref_call (ref_cons (ref_var 1) (ref_cons (ref_cb ok_tupC (ref_cons (ref_var 2) ref_nil)) ref_nil))) ref_nil)) (ref_str "True"))) (ref_ret (ref_bl false)) ref_next)
      (ref_seq (ref_set (ref_lst (ref_cons ref_non (ref_cons (ref_bl true) (ref_cons (ref_int 0) (ref_cons (ref_str "dc") (ref_cons (ref_tup ref_nil) (ref_cons (ref_tup (ref_cons (ref_str "d") ref_nil)) (ref_cons (ref_lst (ref_cons (ref_str "d") (ref_cons (ref_str "c") ref_nil))) (ref_cons (ref_tup (ref_cons (ref_str "d") (ref_cons (ref_str "c") (ref_cons ref_non ref_nil)))) (ref_cons (ref_tup (ref_cons (ref_str "d") (ref_cons (ref_int 0) ref_nil))) (ref_cons (ref_tup (ref_cons (ref_str "d") (ref_cons (ref_bl true) ref_nil))) ref_nil))))))))))))
      (ref_seq (ref_for (ref_it (ref_op ok_add (ref_var 3) (ref_lst (ref_cons (ref_tup (ref_cons (ref_str "d") (ref_cons (ref_tup (ref_cons (ref_str "c") ref_nil)) ref_nil))) (ref_cons (ref_tup (ref_cons (ref_tup (ref_cons (ref_str "d") ref_nil)) (ref_cons (ref_str "c") ref_nil))) ref_nil))))) (ref_gname 4) (ref_seq (ref_setL (ref_cb ok_listC (ref_cons (ref_var 2) ref_nil)))
      (ref_seq (ref_set (ref_call (ref_cons (ref_var 0) (ref_cons (ref_int 5) ref_nil))))
      (ref_seq (ref_ins (ref_var 6) (ref_var 4))
      (ref_seq (ref_ifs (ref_test (ref_op ok_ne (ref_cb ok_reprB (ref_cons (ref_call (ref_cons (ref_var 1) (ref_cons (ref_cb ok_tupC (ref_cons (ref_var 5) ref_nil)) ref_nil))) ref_nil)) (ref_str "False"))) (ref_ret (ref_bl false)) ref_next)
      (ref_seq (ref_setL (ref_cb ok_listC (ref_cons (ref_var 2) ref_nil)))
      (ref_seq (ref_setIx (ref_var 4) (ref_op ok_mod (ref_var 6) (ref_int 4)))
      (ref_ifs (ref_or (ref_test (ref_op ok_ne (ref_cb ok_reprB (ref_cons (ref_call (ref_cons (ref_var 1) (ref_cons (ref_cb ok_tupC (ref_cons (ref_var 5) ref_nil)) ref_nil))) ref_nil)) (ref_str "False"))) (ref_test (ref_op ok_ne (ref_cb ok_reprB (ref_cons (ref_call (ref_cons (ref_var 1) (ref_cons (ref_var 2) ref_nil))) ref_nil)) (ref_str "False")))) (ref_ret (ref_bl false)) ref_next))))))))
      (ref_ret (ref_bl true))))))) rfl h
theorem sc_law : FnScope ["_law_script", "_law_k", "_law_hand_here"] ["_law_script"] (defScope s_law) := ⟨rfl, rfl, rfl, by decide +kernel, rfl, by decide +kernel, by decide +kernel⟩
theorem ok_law (T : Txt K mg fs fds tc u) (G_law_hand : FnOk P w K mg base CX0 1 (fs 9) (fds 9) ["_law_script", "_law_k"] (spM K [.b, .b] true fn_law_hand)) (G_law_are_none : FnOk P w K mg base CX0 5 (fs 13) (fds 13) ["_law_hand_here"] (spM K [.m] false fn_law_are_none)) (G_law_within : FnOk P w K mg base CX0 5 (fs 14) (fds 14) ["_law_hand_here"] (spM K [.m] false fn_law_within)) : FnOk P w K mg base CX0 6 (fs 15) (fds 15) ["_law_script"] (spM K [.b] false fn_law) := by
  refine T.d_law.F.ok sc_law (fun vs H Q E h => ?_) (fun cdv A outer s H vs Q E hr h => ?_)
  · obtain ⟨_, _, _, _, _, hl, _⟩ := h; exact hl
  · refine ⟨_, (pss_cons (ps_for PassesOwn.never rfl (pi_range1 rfl T.z_range (pa_cons (pe_callB (call_max2 rfl) (by rfl) T.z_max bt_max (pa_cons pe_int (pa_cons (pe_callB (call_min2 rfl) (by rfl) T.z_min bt_min (pa_cons pe_int (pa_cons (pe_callB (lenX K) (by rfl) T.z_len bt_len (pa_cons (pv 0) pa_nil)) pa_nil))) pa_nil))) pa_nil)) (pg_name (i := 1) sc_law.nd rfl (Or.inl rfl)) (pss_cons (ps_set (i := 2) sc_law.nd rfl (Or.inl rfl) (pe_fn T.d_law_hand G_law_hand hr (by decide) rfl (pa_cons (pv 0) (pa_cons (pv 1) pa_nil))))
      (pss_one (ps_if (PW.pt (pw_or (pt_not (pt_val (pe_fn T.d_law_are_none G_law_are_none hr (by decide) rfl (pa_cons (pv 2) pa_nil)))) (pw_or1 (pt_not (pt_val (pe_fn T.d_law_within G_law_within hr (by decide) rfl (pa_cons (pv 2) pa_nil))))))) (pss_one (ps_ret pe_bl)) pss_nil))))
      (pss_one (ps_ret pe_bl))), ?_⟩
    exact def_ok (g := b_law) (ref_seq (ref_for (ref_rng1 (ref_cons (ref_cb ok_max2 (ref_cons (ref_int 1) (ref_cons (ref_cb ok_min2 (ref_cons (ref_int 6) (ref_cons (ref_cb ok_len (ref_cons (ref_var 0) ref_nil)) ref_nil))) ref_nil))) ref_nil)) (ref_gname 1) (ref_seq (ref_setL (ref_call (ref_cons (ref_var 0) (ref_cons (ref_var 1) ref_nil))))
      (ref_ifs (ref_or (ref_not (ref_tB (ref_call (ref_cons (ref_var 2) ref_nil)))) (ref_not (ref_tB (ref_call (ref_cons (ref_var 2) ref_nil))))) (ref_ret (ref_bl false)) ref_next)))
      (ref_ret (ref_bl true))) rfl h
end
local macro_rules | `(tactic| walk_at "wp") => `(tactic| simp only [wp_fnM, wp_bE, wp_bO, wp_some, wp_none, wp_guard, wp_seq, wp_call, wp_fcomp, wp_ffor, bB_t, bB_f, wp_bool, e_fVar, e_fC, e_fOp, e_fUn, e_fNil, e_fCons, e_fCB, e_fBM, e_fBM0, e_fTup, e_fLst, e_fTest, e_fAnd, e_fOr, e_fNot, e_fTrue, e_fAndV, e_fOrV, e_fNotV, e_fIf, e_fNoPart, e_fPart, e_fSl, e_sNext, e_sBreak, e_sCont, e_sRet, e_sRetN, e_sDrop, e_sIf, e_sSet, e_sSetL, e_sRel, e_sApp, e_sSetIx, e_sDPut, e_tgName, e_tgNil, e_tgCons, e_tgTup, e_sAsg, e_sPar, e_fIt, e_fRng1, e_fRng2, e_fEnm, e_fEnmA, e_fChain, e_fTru, e_fDNew, bE_v, bO_v, isBv, env0, slOf, List.replicate, List.cons_append, List.nil_append, rel, itemsW, putL, getL, argP, argOne, mSlots, bSlots, Mr.resB, backE, innE, capL, capE, Bv.weak, Bv.get, Bv.put, rd, Sl.pv, ownAt, setOwn, finM, resP, mutsF, ix10, ix20, ix21, ix30, ix31, ix32, ix40, ix41, ix42, ix43, at0, at1, at2, at3, gIx, Mr.gSub, gMul, gBack, e_fPop, gDiv, gMod, gPow, gNeg, gAdd, gAddS, gAddL, gAddT, gI, gI0, gEq, gNe, gIn, gInS, gInL, gLt, gLe, gGt, gGe, gCmpS, gIs, isNone, gSl, gLen, gTupC, gListC, gAbs, gMax2, gMin2, gIntC, gStrC, gIsi2, kdOf, isiT, gLower, gUpper, gStarts, gEnds, gStrip, gIndexS, gPart, gSplitB, gAll, gAny, truP, okP, eqP_nn, eqP_nb, eqP_ni, eqP_ns, eqP_nt, eqP_nl, eqP_bn, eqP_bb, eqP_bi, eqP_bs, eqP_bt, eqP_bl, eqP_in, eqP_ib, eqP_ii, eqP_is, eqP_it, eqP_il, eqP_sn, eqP_sb, eqP_si, eqP_ss, eqP_st, eqP_sl, eqP_tn, eqP_tb, eqP_ti, eqP_ts, eqP_tt, eqP_tl, eqP_ln, eqP_lb, eqP_li, eqP_ls, eqP_lt, eqP_ll, eqPL_36, eqPL_37, eqPL_38, eqPL_39, itemsP, List.getElem?_cons_zero, List.getElem?_cons_succ, List.set_cons_zero, List.set_cons_succ, List.zipIdx_cons, List.zipIdx_nil, List.map_cons, List.map_nil, List.all_nil, List.all_cons, List.contains_nil, List.contains_cons, List.any_nil, List.any_cons, List.nodup_cons, List.nodup_nil, List.not_mem_nil, List.mem_cons, not_false_eq_true, and_true, true_and, decide_true, decide_false, Bool.and_self, Bool.and_true, Bool.true_and, Bool.not_true, Bool.not_false, if_true, if_false, ite_true, ite_false, Option.or_some, Option.none_or, Option.some_or, Option.or_none, decide_eq_true_eq, decide_eq_false_iff_not, Bool.and_eq_true, reduceCtorEq, Bool.false_eq_true, List.length_cons, List.length_nil, Nat.reduceAdd, Nat.reduceLT, Int.reduceLT, Int.reduceLE, PV.int.injEq, PV.str.injEq, PV.bl.injEq, Option.some.injEq, pair_beq, beq_self_eq_true, Bool.or_false, Bool.or_true, Bool.true_or, Bool.false_or, Bool.false_and, Bool.and_false, Nat.reduceBEq, List.length_map, List.length_range, Int.reduceToNat, and_self, true_implies, forall_const, Int.reduceAdd, Int.reduceNeg, e_fTVals, e_fLVals, e_fSortSet, gMulC, gInD, keyOf, e_fCallT, Option.getD_none, Option.getD_some, bO_none, bE_none, e_fSortI, e_fSortSetW, e_fGet1, gGet1, gLenY, gLenD, e_sExt, gMin1, wp_xseq, wp_xfor, wp_sX, e_xNext, e_xCont, e_xIf, e_xAsg, e_xIt, e_xEnm, e_xSDA, e_fGet2, gGet2, wp_fdcomp, gIndexL, gGtX, gGtT, e_tgAny])
section
open PySem L2 Mr
set_option maxHeartbeats 4000000
noncomputable abbrev hd (a b c : Int) : PV := .lst [.int a, .int b, .int c]
structure Hand (a b c : Int) (n : Nat) : Prop where
  a0 : 0 ≤ a
  b0 : 0 ≤ b
  b1 : b < 2305843009213693951
  c0 : 0 ≤ c
  c1 : c ≤ n
theorem mulS {i j : Int} (h0 : 0 ≤ i) (h1 : i < 18446744073709551616) : mulOk i j = true := decide_eq_true (.inl ⟨by omega, h1⟩)
theorem mulR {i j : Int} (h0 : 0 ≤ j) (h1 : j < 18446744073709551616) : mulOk i j = true := decide_eq_true (.inr ⟨by omega, h1⟩)
theorem take_ok {a b c m : Int} {n : Nat} {Q : PV × List PV → Prop} (h : Hand a b c n) (hn : n < 1000000) (m0 : 0 < m) (m1 : m < 1073741824) (q : ∀ d a' b' c', 0 ≤ d → d < m → Hand a' b' c' (n + 1) → Q (.int d, [hd a' b' c'])) : Wp (fn_law_take [hd a b c, .int m]) Q := by
  unfold fn_law_take b_law_take
  have a0 := h.a0
  have b0 := h.b0
  have b1 := h.b1
  have c0 := h.c0
  have c1 := h.c1
  walk_at "wp"
  refine ⟨fun ha => ⟨m0, ⟨m0, by omega⟩, q _ _ _ _ (Int.emod_nonneg _ (by omega)) (Int.emod_lt_of_pos _ m0) ⟨Int.ediv_nonneg a0 (by omega), b0, b1, c0, by omega⟩⟩, fun ha => ⟨mulS (by decide) (by decide), mulR (by omega) (by omega), mulS (by decide) (by decide), mulR (by omega) (by omega), mulS (by decide) (by decide), mulS (Int.emod_nonneg _ (by decide)) ?_, m0, q _ _ _ _ (Int.emod_nonneg _ (by omega)) (Int.emod_lt_of_pos _ m0) ⟨a0, b0, b1, by omega, by omega⟩⟩⟩
  have := Int.emod_lt_of_pos ((b + 65537 * (c + 1) * (c + 1) + 11) * (48271 + 2 * (c + 1))) (show (0 : Int) < 2305843009213693921 by decide)
  omega
theorem atI_any {xs : List PV} {k : Int} {Q : PV → Prop} (h0 : 0 ≤ k) (h1 : k < (xs.length : Int)) (q : ∀ x ∈ xs, Q x) : Wp (atI xs k) Q := by
  obtain ⟨c, hc, e⟩ := atI_mem h0 h1
  exact ⟨c, e, q c hc⟩
noncomputable def t_hand : FS := (sSeq (sSet 3 (fOp gMul (fOp gMod (fVar 2) (fOp gMulC (fOp gPow (fC (.int 10)) (fC (.int 60))) (fOp gPow (fC (.int 10)) (fC (.int 30))))) (fCB gIntC (fCons (fOp gGe (fVar 2) (fOp gPow (fC (.int 10)) (fC (.int 18)))) fNil))))
    (sRet (fLst (fCons (fVar 3) (fCons (fOp gMod (fOp gAdd (fOp gAdd (fOp gMod (fVar 2) (fC (.int 2305843009213693951))) (fOp gMul (fC (.int 7919)) (fVar 1))) (fC (.int 3))) (fC (.int 2305843009213693951))) (fCons (fC (.int 0)) fNil))))))
theorem e_hand : b_law_hand = (sSeq (sSet 2 (fC (.int 0)))
    (sSeq (sIf (fTest (fOp gLt (fVar 1) (fCB gLen (fCons (fVar 0) fNil)))) (sSet 2 (fOp gIx (fVar 0) (fVar 1))) sNext) t_hand)) := rfl
theorem hand_tail {x k : Int} {v0 v3 : Option Sl} {Q : Out → Prop} (k0 : 0 ≤ k) (k1 : k < 1000) (q : ∀ a b v0 v1 v2 v3, Hand a b 0 0 → Q (.rt (.new (hd a b 0)) [v0, v1, v2, v3])) : Wp (t_hand [v0, some (.val (.int k)), some (.val (.int x)), v3]) Q := by
  unfold t_hand
  walk_at "wp"
  have m1 : mulOk 7919 k = true := mulS (by decide) (by decide)
  have b0 : 0 ≤ (x % 2305843009213693951 + 7919 * k + 3) % 2305843009213693951 := Int.emod_nonneg _ (by decide)
  have b1 : (x % 2305843009213693951 + 7919 * k + 3) % 2305843009213693951 < 2305843009213693951 := Int.emod_lt_of_pos _ (by decide)
  have m2 : mulOk (x % (10 ^ 60 * 10 ^ 30)) (if 10 ^ 18 ≤ x then 1 else 0) = true := mulR (by split <;> decide) (by split <;> decide)
  have p0 : 0 ≤ x % (10 ^ 60 * 10 ^ 30) * (if 10 ^ 18 ≤ x then 1 else 0) := Int.mul_nonneg (Int.emod_nonneg _ (by decide +kernel)) (by split <;> decide)
  exact ⟨by decide +kernel, by decide +kernel, by decide +kernel, by decide +kernel, by decide +kernel, m2, m1, q _ _ _ _ _ _ ⟨p0, b0, b1, by decide, by decide⟩⟩
theorem hand_ok {ns : List Int} {k : Int} {Q : PV × List PV → Prop} (k0 : 0 ≤ k) (k1 : k < 1000) (hn : ns.length ≤ 63) (q : ∀ a b, Hand a b 0 0 → Q (hd a b 0, [])) : Wp (fn_law_hand [.lst (ns.map PV.int), .int k]) Q := by
  unfold fn_law_hand
  rw [e_hand]
  walk_at "wp"
  refine ⟨fun g => ?_, fun g => ?_⟩
  · refine atI_any k0 (by rw [List.length_map]; exact g) fun p hp => ?_
    obtain ⟨c, _, rfl⟩ := List.mem_map.mp hp
    walk_at "wp"
    refine hand_tail k0 k1 fun a b v0 v1 v2 v3 h => ?_
    walk_at "wp"
    exact q a b h
  · refine hand_tail k0 k1 fun a b v0 v1 v2 v3 h => ?_
    walk_at "wp"
    exact q a b h
end
section
open PySem L2 Mr
set_option maxHeartbeats 4000000
/-- a thing deep in tuples -/
noncomputable def dp (x : PV) : Nat → PV
  | 0 => x
  | n + 1 => .tup [dp x n]
theorem deep_ok {x : PV} {d : Int} {Q : PV × List PV → Prop} (d0 : 0 ≤ d) (d1 : d < 100) (q : Q (dp x d.toNat, [])) : Wp (fn_law_deep [x, .int d]) Q := by
  unfold fn_law_deep b_law_deep
  walk_at "wp"
  refine ⟨⟨by omega, by omega⟩, ?_⟩
  refine wp_loop (fun i e => ∃ v : Option Sl, e = [some (.val (dp x i)), some (.val (.int d)), v]) ?_ ?_ ⟨none, rfl⟩
  · rintro i y e hy ⟨v, rfl⟩
    walk_at "wp"
    exact ⟨_, rfl⟩
  · rintro e ⟨v, rfl⟩
    walk_at "wp"
    exact q
noncomputable def nxt (f : FS) (e : En) : En := match f e with
  | some (.nx e') => e'
  | _ => []
noncomputable def th2 : FS := (sSetL 2 (fLst (fCons (fC .non) (fCons (fC (.bl true)) (fCons (fC (.bl false)) (fCons (fVar 1) (fCons (fC (.str "")) (fCons (fC (.str "a")) (fCons (fC (.str "a1")) (fCons (fLst fNil) (fCons fDNew (fCons (fDispN "a") (fCons (fLst (fCons (fTup (fCons (fC (.str "a")) (fCons (fC .non) fNil))) fNil)) (fCons (fTup (fCons (fC (.str "a")) (fCons (fC .non) fNil))) (fCons (fTup (fCons (fC (.str "a")) (fCons (fC (.str "b")) fNil))) fNil)))))))))))))))
noncomputable def th3 : FS := (sSetL 2 (fOp gAdd (fVar 2) (fLst (fCons (fTup (fCons (fTup (fCons (fC (.str "a")) fNil)) fNil)) (fCons (fTup (fCons (fTup (fCons (fC (.str "a")) (fCons (fC .non) (fCons (fC .non) fNil)))) fNil)) (fCons (fTup (fCons (fLst (fCons (fC (.str "a")) (fCons (fC .non) fNil))) fNil)) (fCons (fTup (fCons (fTup (fCons (fTup (fCons (fC (.str "a")) (fCons (fC .non) fNil))) fNil)) fNil)) (fCons (fTup (fCons (fTup (fCons (fC .non) (fCons (fC .non) fNil))) fNil)) fNil))))))))
noncomputable def th4 : FS := (sSetL 2 (fOp gAdd (fVar 2) (fLst (fCons (fTup (fCons (fTup (fCons (fC (.int 0)) (fCons (fC .non) fNil))) fNil)) (fCons (fTup (fCons (fTup (fCons (fC (.str "a")) (fCons (fC (.int 0)) fNil))) fNil)) (fCons (fTup (fCons (fTup (fCons (fC (.str "a")) (fCons (fC (.bl true)) fNil))) fNil)) (fCons (fTup (fCons (fTup (fCons (fC (.str "a")) (fCons (fC (.bl false)) fNil))) fNil)) (fCons (fTup (fCons (fTup (fCons (fC (.str "a")) (fCons (fC (.str "")) fNil))) fNil)) (fCons (fTup (fCons (fTup (fCons (fC (.str "")) (fCons (fC .non) fNil))) fNil)) fNil)))))))))
noncomputable def th5 : FS := (sSetL 2 (fOp gAdd (fVar 2) (fLst (fCons (fTup (fCons (fTup (fCons (fC (.str "A")) (fCons (fC .non) fNil))) fNil)) (fCons (fTup (fCons (fTup (fCons (fTup (fCons (fC (.str "a")) fNil)) (fCons (fC .non) fNil))) fNil)) (fCons (fTup (fCons (fTup (fCons (fC (.str "a")) (fCons (fC .non) fNil))) (fCons (fC .non) fNil))) (fCons (fTup (fCons (fC .non) (fCons (fTup (fCons (fC (.str "a")) (fCons (fC .non) fNil))) fNil))) fNil)))))))
noncomputable def th6 : FS := (sSetL 2 (fOp gAdd (fVar 2) (fLst (fCons (fTup (fCons (fTup (fCons (fC (.str "a")) (fCons (fTup (fCons (fC (.str "b")) fNil)) fNil))) (fCons (fTup (fCons (fC (.str "b")) (fCons (fC .non) fNil))) fNil))) (fCons (fTup (fCons (fTup (fCons (fC (.str "a")) (fCons (fC (.str "a")) fNil))) fNil)) (fCons (fTup (fCons (fTup (fCons (fC (.str "a")) (fCons (fLst (fCons (fC .non) fNil)) fNil))) fNil)) (fCons (fTup (fCons (fTup (fCons (fC (.str "a-")) (fCons (fC .non) fNil))) fNil)) (fCons (fTup (fCons (fTup (fCons (fC (.str "a ")) (fCons (fC .non) fNil))) fNil)) fNil))))))))
noncomputable def th8 : FS := (sApp 2 (fTup (fCons (fTup (fCons (fC (.str "a")) (fCons (fCall [.v, .b] false fn_law_deep (fCons (fC (.str "b")) (fCons (fC (.int 36)) fNil))) fNil))) fNil)))
noncomputable def th9 : FS := (sRet (fOp gAdd (fVar 2) (fLst (fCons (fTup (fCons (fTup (fCons (fC (.str "a")) (fCons (fC .non) fNil))) (fCons (fTup (fCons (fC (.str "b")) (fCons (fC (.str "a")) fNil))) fNil))) (fCons (fTup (fCons (fTup (fCons (fC (.str "a")) (fCons (fC (.str "b")) fNil))) (fCons (fTup (fCons (fC (.str "b")) (fCons (fC (.str "a")) fNil))) fNil))) (fCons (fTup (fCons (fTup (fCons (fC (.str "abcdefghijklm")) (fCons (fC .non) fNil))) fNil)) fNil))))))
theorem e_things : b_law_things = (sSeq (sSet 1 (fOp Mr.gSub (fCall [.m, .b] false fn_law_take (fCons (fVar 0) (fCons (fC (.int 1000)) fNil))) (fC (.int 500))))
    (sSeq th2 (sSeq th3 (sSeq th4 (sSeq th5 (sSeq th6 (sSeq (sSetL 2 (fOp gAdd (fVar 2) (fLst (fCons (fCall [.v, .b] false fn_law_deep (fCons (fC (.str "a")) (fCons (fOp gAdd (fC (.int 1)) (fCall [.m, .b] false fn_law_take (fCons (fVar 0) (fCons (fC (.int 38)) fNil)))) fNil))) (fCons (fCall [.v, .b] false fn_law_deep (fCons (fTup (fCons (fC (.str "a")) (fCons (fC .non) fNil))) (fCons (fC (.int 38)) fNil))) fNil)))))
    (sSeq th8 th9)))))))) := rfl
noncomputable def lsP : PV → List PV
  | .lst ps => ps
  | _ => []
noncomputable def sl2 (e : En) : PV := match e with
  | [_, _, some s] => s.pv
  | _ => .non
/-- the things drawn: n a number, k how deep -/
noncomputable def L6 (n : Int) : PV := sl2 (nxt th6 (nxt th5 (nxt th4 (nxt th3 (nxt th2 [none, some (.val (.int n)), none])))))
noncomputable def L7 (n : Int) (k : Nat) : List PV := (lsP (L6 n)) ++ [dp (.str "a") k, dp (.tup [.str "a", .non]) 38]
noncomputable def L8 (n : Int) (k : Nat) : PV := sl2 (nxt th8 [none, none, some (.loc (.lst (L7 n k)))])
noncomputable def L9 (n : Int) (k : Nat) : List PV := match th9 [none, none, some (.loc (L8 n k))] with
  | some (.rt (.new (.lst ps)) _) => ps
  | _ => []
theorem th26 {h : PV} {n : Int} {Q : Out → Prop} {g : FS} (q : Wp (g [some (.own h), some (.val (.int n)), some (.loc (L6 n))]) Q) : Wp (sSeq th2 (sSeq th3 (sSeq th4 (sSeq th5 (sSeq th6 g)))) [some (.own h), some (.val (.int n)), none]) Q := by
  have e : sSeq th2 (sSeq th3 (sSeq th4 (sSeq th5 (sSeq th6 g)))) [some (.own h), some (.val (.int n)), none] = g [some (.own h), some (.val (.int n)), some (.loc (L6 n))] := by kernel_rfl
  rw [e]
  exact q
theorem l6 (n : Int) : L6 n = .lst (lsP (L6 n)) := by kernel_rfl
theorem th89 {h : PV} {n : Int} {k : Nat} {Q : Out → Prop} (q : ∀ e, e = [some (.own h), some (.val (.int n)), some (.loc (L8 n k))] → Q (.rt (.new (.lst (L9 n k))) e)) : Wp (sSeq th8 th9 [some (.own h), some (.val (.int n)), some (.loc (.lst (L7 n k)))]) Q := by
  have e : sSeq th8 th9 [some (.own h), some (.val (.int n)), some (.loc (.lst (L7 n k)))] = some (.rt (.new (.lst (L9 n k))) [some (.own h), some (.val (.int n)), some (.loc (L8 n k))]) := by kernel_rfl
  rw [e, wp_some]
  exact q _ rfl
end
section
open PySem L2 Mr
set_option maxHeartbeats 4000000
theorem things_ok {a b c : Int} {m : Nat} {Q : PV × List PV → Prop} (h : Hand a b c m) (hm : m < 900000) (q : ∀ n (k : Nat) a' b' c', 1 ≤ k → k ≤ 38 → Hand a' b' c' (m + 2) → Q (.lst (L9 n k), [hd a' b' c'])) : Wp (fn_law_things [hd a b c]) Q := by
  unfold fn_law_things
  rw [e_things]
  walk_at "wp"
  refine take_ok h (by omega) (by decide) (by decide) fun n a1 b1 c1 n0 n1 h1 => ?_
  walk_at "wp"
  refine wp_seq.mp (th26 ?_)
  rw [l6]
  walk_at "wp"
  refine take_ok h1 (by omega) (by decide) (by decide) fun k a2 b2 c2 k0 k1 h2 => ?_
  walk_at "wp"
  refine deep_ok (by omega) (by omega) ?_
  walk_at "wp"
  refine deep_ok (by decide) (by decide) ?_
  walk_at "wp"
  have ll : (lsP (L6 (n - 500))).length = 33 := by kernel_rfl
  refine ⟨by rw [ll]; decide, wp_seq.mp (th89 (n := n - 500) (k := (1 + k).toNat) fun e he => ?_)⟩
  subst he
  walk_at "wp"
  exact q _ _ _ _ _ (by omega) (by omega) h2
noncomputable def anb : FS := (sIf (fOr (fTest (fOp gNe (fCB gReprB (fCons (fCall [.b, .b] false fn_is_wish (fCons (fVar 2) (fCons (fVar 3) fNil))) fNil)) (fC (.str "False")))) (fTest (fOp gNe (fCB gReprB (fCons (fCall [.b, .b] false fn_is_wish (fCons (fTup fNil) (fCons (fVar 3) fNil))) fNil)) (fC (.str "False"))))) (sRet (fC (.bl false))) sNext)
noncomputable def an2 : FS := (sSet 2 (fTup (fCons (fTup (fCons (fC (.str "a")) (fCons (fVar 1) (fCons (fC (.str "walls")) (fCons (fTup fNil) fNil))))) fNil)))
noncomputable def an3 : FS := (sIf (fOr (fTest (fOp gNe (fCB gReprB (fCons (fCall [.b, .b] false fn_is_wish (fCons (fVar 2) (fCons (fTup (fCons (fTup (fCons (fC (.str "a")) (fCons (fC .non) fNil))) fNil)) fNil))) fNil)) (fC (.str "True")))) (fTest (fOp gNe (fCB gReprB (fCons (fCall [.b, .b] false fn_is_wish (fCons (fTup fNil) (fCons (fTup (fCons (fTup (fCons (fC (.str "a")) (fCons (fC .non) fNil))) fNil)) fNil))) fNil)) (fC (.str "False"))))) (sRet (fC (.bl false))) sNext)
noncomputable def an4 : FS := (sIf (fOr (fTest (fOp gNe (fCB gReprB (fCons (fCall [.b, .b] false fn_is_wish (fCons (fTup fNil) (fCons (fTup fNil) fNil))) fNil)) (fC (.str "True")))) (fTest (fOp gNe (fCB gReprB (fCons (fCall [.b, .b] false fn_is_wish (fCons (fVar 2) (fCons (fTup fNil) fNil))) fNil)) (fC (.str "False"))))) (sRet (fC (.bl false))) sNext)
theorem e_none : b_law_are_none = (sSeq (sSet 1 (fCall [.m, .b] false fn_law_take (fCons (fVar 0) (fCons (fC (.int 100000000)) fNil)))) (sSeq an2 (sSeq an3 (sSeq an4 (sSeq (sFor (fIt (fCall [.m] false fn_law_things (fCons (fVar 0) fNil))) (tgName 3) anb) (sRet (fC (.bl true)))))))) := rfl
noncomputable def PK (d : Int) : PV := .tup [.tup [.str "a", .int d, .str "walls", .tup []]]
theorem an_234 {h : PV} {d : Int} {Q : Out → Prop} {g : FS} (q : Wp (g [some (.own h), some (.val (.int d)), some (.val (PK d)), none]) Q) : Wp (sSeq an2 (sSeq an3 (sSeq an4 g)) [some (.own h), some (.val (.int d)), none, none]) Q := by
  have e : sSeq an2 (sSeq an3 (sSeq an4 g)) [some (.own h), some (.val (.int d)), none, none] = g [some (.own h), some (.val (.int d)), some (.val (PK d)), none] := by kernel_rfl
  rw [e]
  exact q
noncomputable def LST : PV := .tup [.tup [.str "abcdefghijklm", .non]]
theorem an_loop {h : PV} {d n : Int} {k : Nat} (h1 : 1 ≤ k) : loopM (fun x e => anb (List.set e 3 (some (Sl.val x)))) (L9 n k) [some (.own h), some (.val (.int d)), some (.val (PK d)), none] = some (.nx [some (.own h), some (.val (.int d)), some (.val (PK d)), some (.val LST)]) := by
  cases k with
  | zero => omega
  | succ k =>
    cases k with
    | zero => kernel_rfl
    | succ k => kernel_rfl
theorem none_ok {a b c : Int} {m : Nat} {Q : PV × List PV → Prop} (h : Hand a b c m) (hm : m < 800000) (q : ∀ a' b' c', Hand a' b' c' (m + 3) → Q (.bl true, [hd a' b' c'])) : Wp (fn_law_are_none [hd a b c]) Q := by
  unfold fn_law_are_none
  rw [e_none]
  walk_at "wp"
  refine take_ok h (by omega) (by decide) (by decide) fun d a1 b1 c1 d0 d1 h1 => ?_
  walk_at "wp"
  refine wp_seq.mp (an_234 ?_)
  walk_at "wp"
  refine things_ok h1 (by omega) fun n k a2 b2 c2 k0 k1 h2 => ?_
  walk_at "wp"
  refine wp_of (an_loop k0) ?_
  walk_at "wp"
  exact q _ _ _ h2
noncomputable def wit : FS := (sSeq (sIns 5 (fVar 6) (fVar 4))
    (sSeq (sIf (fTest (fOp gNe (fCB gReprB (fCons (fCall [.b, .b] false fn_is_wish (fCons (fVar 1) (fCons (fCB gTupC (fCons (fVar 5) fNil)) fNil))) fNil)) (fC (.str "False")))) (sRet (fC (.bl false))) sNext)
    (sSeq (sSetL 5 (fCB gListC (fCons (fVar 2) fNil)))
    (sSeq (sSetIx 5 (fOp gMod (fVar 6) (fC (.int 4))) (fVar 4))
    (sIf (fOr (fTest (fOp gNe (fCB gReprB (fCons (fCall [.b, .b] false fn_is_wish (fCons (fVar 1) (fCons (fCB gTupC (fCons (fVar 5) fNil)) fNil))) fNil)) (fC (.str "False")))) (fTest (fOp gNe (fCB gReprB (fCons (fCall [.b, .b] false fn_is_wish (fCons (fVar 1) (fCons (fVar 2) fNil))) fNil)) (fC (.str "False"))))) (sRet (fC (.bl false))) sNext)))))
noncomputable def wi1 : FS := (sSet 1 (fTup (fCons (fTup (fCons (fC (.str "e")) (fCons (fC (.int 5)) (fCons (fC (.str "")) (fCons (fTup fNil) fNil))))) fNil)))
noncomputable def wi2 : FS := (sSet 2 (fLst (fCons (fTup (fCons (fC (.str "b")) (fCons (fC .non) fNil))) (fCons (fTup (fCons (fC (.str "c")) (fCons (fC (.str "b")) fNil))) (fCons (fTup (fCons (fC (.str "d")) (fCons (fC (.str "c")) fNil))) (fCons (fTup (fCons (fC (.str "e")) (fCons (fC (.str "d")) fNil))) fNil))))))
noncomputable def wi3 : FS := (sIf (fTest (fOp gNe (fCB gReprB (fCons (fCall [.b, .b] false fn_is_wish (fCons (fVar 1) (fCons (fCB gTupC (fCons (fVar 2) fNil)) fNil))) fNil)) (fC (.str "True")))) (sRet (fC (.bl false))) sNext)
noncomputable def wi4 : FS := (sSet 3 (fLst (fCons (fC .non) (fCons (fC (.bl true)) (fCons (fC (.int 0)) (fCons (fC (.str "dc")) (fCons (fTup fNil) (fCons (fTup (fCons (fC (.str "d")) fNil)) (fCons (fLst (fCons (fC (.str "d")) (fCons (fC (.str "c")) fNil))) (fCons (fTup (fCons (fC (.str "d")) (fCons (fC (.str "c")) (fCons (fC .non) fNil)))) (fCons (fTup (fCons (fC (.str "d")) (fCons (fC (.int 0)) fNil))) (fCons (fTup (fCons (fC (.str "d")) (fCons (fC (.bl true)) fNil))) fNil))))))))))))
theorem e_within : b_law_within = (sSeq wi1 (sSeq wi2 (sSeq wi3 (sSeq wi4 (sSeq (sFor (fIt (fOp gAdd (fVar 3) (fLst (fCons (fTup (fCons (fC (.str "d")) (fCons (fTup (fCons (fC (.str "c")) fNil)) fNil))) (fCons (fTup (fCons (fTup (fCons (fC (.str "d")) fNil)) (fCons (fC (.str "c")) fNil))) fNil))))) (tgName 4) (sSeq (sSetL 5 (fCB gListC (fCons (fVar 2) fNil))) (sSeq (sSet 6 (fCall [.m, .b] false fn_law_take (fCons (fVar 0) (fCons (fC (.int 5)) fNil)))) wit))) (sRet (fC (.bl true)))))))) := rfl
noncomputable def PE5 : PV := .tup [.tup [.str "e", .int 5, .str "", .tup []]]
noncomputable def GD : List PV := [.tup [.str "b", .non], .tup [.str "c", .str "b"], .tup [.str "d", .str "c"], .tup [.str "e", .str "d"]]
noncomputable def OD : List PV := [.non, .bl true, .int 0, .str "dc", .tup [], .tup [.str "d"], .lst [.str "d", .str "c"], .tup [.str "d", .str "c", .non], .tup [.str "d", .int 0], .tup [.str "d", .bl true]]
noncomputable def OD2 : List PV := OD ++ [.tup [.str "d", .tup [.str "c"]], .tup [.tup [.str "d"], .str "c"]]
theorem wi_14 {h : PV} {Q : Out → Prop} {g : FS} (q : Wp (g [some (.own h), some (.val PE5), some (.val (.lst GD)), some (.val (.lst OD)), none, none, none]) Q) : Wp (sSeq wi1 (sSeq wi2 (sSeq wi3 (sSeq wi4 g))) [some (.own h), none, none, none, none, none, none]) Q := by
  have e : sSeq wi1 (sSeq wi2 (sSeq wi3 (sSeq wi4 g))) [some (.own h), none, none, none, none, none, none] = g [some (.own h), some (.val PE5), some (.val (.lst GD)), some (.val (.lst OD)), none, none, none] := by kernel_rfl
  rw [e]
  exact q
theorem wit_ok {h x : PV} {d : Int} (hx : x ∈ OD2) (d0 : 0 ≤ d) (d1 : d < 5) : wit [some (.own h), some (.val PE5), some (.val (.lst GD)), some (.val (.lst OD)), some (.val x), some (.loc (.lst GD)), some (.val (.int d))] =
    some (.nx [some (.own h), some (.val PE5), some (.val (.lst GD)), some (.val (.lst OD)), some (.val x), some (.loc (.lst (GD.set (d % 4).toNat x))), some (.val (.int d))]) := by
  have hd : d = 0 ∨ d = 1 ∨ d = 2 ∨ d = 3 ∨ d = 4 := by omega
  simp only [OD2, OD, List.cons_append, List.nil_append, List.mem_cons, List.not_mem_nil, or_false] at hx
  rcases hx with rfl | rfl | rfl | rfl | rfl | rfl | rfl | rfl | rfl | rfl | rfl | rfl <;> (rcases hd with rfl | rfl | rfl | rfl | rfl <;> kernel_rfl)
theorem within_ok {a b c : Int} {m : Nat} {Q : PV × List PV → Prop} (h : Hand a b c m) (hm : m < 800000) (q : ∀ a' b' c', Hand a' b' c' (m + 12) → Q (.bl true, [hd a' b' c'])) : Wp (fn_law_within [hd a b c]) Q := by
  unfold fn_law_within
  rw [e_within]
  rw [wp_fnM]
  refine wi_14 (h := hd a b c) ?_
  walk_at "wp"
  refine ⟨by decide, ?_⟩
  refine wp_loop (fun i e => ∃ (a b c : Int) (v4 v5 v6 : Option Sl), Hand a b c (m + i) ∧ e = [some (.own (hd a b c)), some (.val PE5), some (.val (.lst GD)), some (.val (.lst OD)), v4, v5, v6]) ?_ ?_ ⟨a, b, c, none, none, none, h, rfl⟩
  · rintro i x e hx ⟨a1, b1, c1, v4, v5, v6, h1, rfl⟩
    have hm2 : x ∈ OD2 := List.mem_of_getElem? hx
    have hi : i < 12 := (List.getElem?_eq_some_iff.mp hx).1
    walk_at "wp"
    refine take_ok h1 (by omega) (by decide) (by decide) fun d a2 b2 c2 d0 d1 h2 => ?_
    walk_at "wp"
    refine wp_of (wit_ok hm2 d0 d1) ?_
    walk_at "wp"
    exact ⟨a2, b2, c2, _, _, _, h2, rfl⟩
  · rintro e ⟨a1, b1, c1, v4, v5, v6, h1, rfl⟩
    walk_at "wp"
    exact q _ _ _ h1
theorem law_wp {ns : List Int} (hn : ns.length ≤ 63) : Wp (fn_law [.lst (ns.map PV.int)]) fun w => w = (.bl true, []) := by
  unfold fn_law b_law
  walk_at "wp"
  have hl : (if (if (ns.length : Int) < 6 then (ns.length : Int) else 6) > 1 then if (ns.length : Int) < 6 then (ns.length : Int) else 6 else 1) ≤ 6 ∧ 1 ≤ (if (if (ns.length : Int) < 6 then (ns.length : Int) else 6) > 1 then if (ns.length : Int) < 6 then (ns.length : Int) else 6 else 1) := by
    constructor <;> (repeat' split) <;> omega
  revert hl
  generalize (if (if (ns.length : Int) < 6 then (ns.length : Int) else 6) > 1 then if (ns.length : Int) < 6 then (ns.length : Int) else 6 else 1) = z
  intro hl
  refine ⟨⟨by omega, by omega⟩, ?_⟩
  refine wp_loop (fun i e => ∃ v1 v2 : Option Sl, e = [some (.bor (.lst (ns.map PV.int))), v1, v2]) ?_ ?_ ⟨none, none, rfl⟩
  · rintro i x e hx ⟨v1, v2, rfl⟩
    rw [List.getElem?_map] at hx
    obtain ⟨y, hk, rfl⟩ := Option.map_eq_some_iff.mp hx
    have hy : y < z.toNat := List.mem_range.mp (List.mem_of_getElem? hk)
    walk_at "wp"
    refine hand_ok (by omega) (by omega) hn fun a b h => ?_
    walk_at "wp"
    refine none_ok h (by decide) fun a1 b1 c1 h1 => ?_
    walk_at "wp"
    refine within_ok h1 (by decide) fun a2 b2 c2 h2 => ?_
    walk_at "wp"
    exact ⟨_, _, rfl⟩
  · rintro e ⟨v1, v2, rfl⟩
    walk_at "wp"
theorem law_true : ∀ ns : List Int, ns.length ≤ 63 → fn_law [.lst (ns.map PV.int)] = some (.bl true, []) := fun ns hn => (law_wp hn).eq
end
theorem all_mk {l : PySem.W.OpenLaw} {w : World} {K : PySem.W.Frag} {h : Heap} {mg : Str → Option Value} {fa f0 f1 f2 f3 f4 f5 f6 f7 f8 f9 f10 f11 f12 f13 f14 f15 : Addr} (X : K.In h) (G : h.Ns mainGlobals mg) (hfa : mg "law" = some (.ref fa))
    {od0 an0 od1 an1 od2 an2 od3 an3 od4 an4 od5 an5 od6 an6 od7 an7 od8 an8 od9 an9 od10 an10 od11 an11 od12 an12 od13 an13 od14 an14 od15 an15 : Option Addr} {sl0 sl1 sl2 sl3 sl4 sl5 sl6 sl7 sl8 sl9 sl10 sl11 sl12 sl13 sl14 sl15 : Array (Option Value)} {oc0 kV0 dc0 pm0 cd0 ct0 oc1 kV1 dc1 pm1 cd1 ct1 oc2 kV2 dc2 pm2 cd2 ct2 oc3 kV3 dc3 pm3 cd3 ct3 oc4 kV4 dc4 pm4 cd4 ct4 oc5 kV5 dc5 pm5 cd5 ct5 oc6 kV6 dc6 pm6 cd6 ct6 oc7 kV7 dc7 pm7 cd7 ct7 oc8 kV8 dc8 pm8 cd8 ct8 oc9 kV9 dc9 pm9 cd9 ct9 oc10 kV10 dc10 pm10 cd10 ct10 oc11 kV11 dc11 pm11 cd11 ct11 oc12 kV12 dc12 pm12 cd12 ct12 oc13 kV13 dc13 pm13 cd13 ct13 oc14 kV14 dc14 pm14 cd14 ct14 oc15 kV15 dc15 pm15 cd15 ct15 : Value} {tk0 tk1 : Tok}
    (a0 : PySem.W.nsIn K mainGlobals "standing" = some (some (.ref f0))) (l0 : K.lookup f0 = some ⟨oc0, od0, .func (PySem.W.fnOf "standing" "standing" (defArgs s_standing) (defBody s_standing) (defScope s_standing) .none kV0 dc0 pm0 an0 cd0 ct0), sl0⟩) (c0 : PySem.W.codeIn K cd0 "standing" = true) (k0 : PySem.W.keepIn K (.ref f0) = true)
    (a1 : PySem.W.nsIn K mainGlobals "rings_in" = some (some (.ref f1))) (l1 : K.lookup f1 = some ⟨oc1, od1, .func (PySem.W.fnOf "rings_in" "rings_in" (defArgs s_rings_in) (defBody s_rings_in) (defScope s_rings_in) .none kV1 dc1 pm1 an1 cd1 ct1), sl1⟩) (c1 : PySem.W.codeIn K cd1 "rings_in" = true) (k1 : PySem.W.keepIn K (.ref f1) = true)
    (a2 : PySem.W.nsIn K mainGlobals "shown" = some (some (.ref f2))) (l2 : K.lookup f2 = some ⟨oc2, od2, .func (PySem.W.fnOf "shown" "shown" (defArgs s_shown) (defBody s_shown) (defScope s_shown) .none kV2 dc2 pm2 an2 cd2 ct2), sl2⟩) (c2 : PySem.W.codeIn K cd2 "shown" = true) (k2 : PySem.W.keepIn K (.ref f2) = true)
    (a3 : PySem.W.nsIn K mainGlobals "is_name" = some (some (.ref f3))) (l3 : K.lookup f3 = some ⟨oc3, od3, .func (PySem.W.fnOf "is_name" "is_name" (defArgs s_is_name) (defBody s_is_name) (defScope s_is_name) .none kV3 dc3 pm3 an3 cd3 ct3), sl3⟩) (c3 : PySem.W.codeIn K cd3 "is_name" = true) (k3 : PySem.W.keepIn K (.ref f3) = true)
    (a4 : PySem.W.nsIn K mainGlobals "rises" = some (some (.ref f4))) (l4 : K.lookup f4 = some ⟨oc4, od4, .func (PySem.W.fnOf "rises" "rises" (defArgs s_rises) (defBody s_rises) (defScope s_rises) .none kV4 dc4 pm4 an4 cd4 ct4), sl4⟩) (c4 : PySem.W.codeIn K cd4 "rises" = true) (k4 : PySem.W.keepIn K (.ref f4) = true)
    (a5 : PySem.W.nsIn K mainGlobals "is_mark" = some (some (.ref f5))) (l5 : K.lookup f5 = some ⟨oc5, od5, .func (PySem.W.fnOf "is_mark" "is_mark" (defArgs s_is_mark) (defBody s_is_mark) (defScope s_is_mark) .none kV5 dc5 pm5 an5 cd5 ct5), sl5⟩) (c5 : PySem.W.codeIn K cd5 "is_mark" = true) (k5 : PySem.W.keepIn K (.ref f5) = true)
    (a6 : PySem.W.nsIn K mainGlobals "has_ring" = some (some (.ref f6))) (l6 : K.lookup f6 = some ⟨oc6, od6, .func (PySem.W.fnOf "has_ring" "has_ring" (defArgs s_has_ring) (defBody s_has_ring) (defScope s_has_ring) .none kV6 dc6 pm6 an6 cd6 ct6), sl6⟩) (c6 : PySem.W.codeIn K cd6 "has_ring" = true) (k6 : PySem.W.keepIn K (.ref f6) = true)
    (a7 : PySem.W.nsIn K mainGlobals "is_marks" = some (some (.ref f7))) (l7 : K.lookup f7 = some ⟨oc7, od7, .func (PySem.W.fnOf "is_marks" "is_marks" (defArgs s_is_marks) (defBody s_is_marks) (defScope s_is_marks) .none kV7 dc7 pm7 an7 cd7 ct7), sl7⟩) (c7 : PySem.W.codeIn K cd7 "is_marks" = true) (k7 : PySem.W.keepIn K (.ref f7) = true)
    (a8 : PySem.W.nsIn K mainGlobals "is_wish" = some (some (.ref f8))) (l8 : K.lookup f8 = some ⟨oc8, od8, .func (PySem.W.fnOf "is_wish" "is_wish" (defArgs s_is_wish) (defBody s_is_wish) (defScope s_is_wish) .none kV8 dc8 pm8 an8 cd8 ct8), sl8⟩) (c8 : PySem.W.codeIn K cd8 "is_wish" = true) (k8 : PySem.W.keepIn K (.ref f8) = true)
    (a9 : PySem.W.nsIn K mainGlobals "_law_hand" = some (some (.ref f9))) (l9 : K.lookup f9 = some ⟨oc9, od9, .func (PySem.W.fnOf "_law_hand" "_law_hand" (defArgs s_law_hand) (defBody s_law_hand) (defScope s_law_hand) .none kV9 dc9 pm9 an9 cd9 ct9), sl9⟩) (c9 : PySem.W.codeIn K cd9 "_law_hand" = true) (k9 : PySem.W.keepIn K (.ref f9) = true)
    (a10 : PySem.W.nsIn K mainGlobals "_law_take" = some (some (.ref f10))) (l10 : K.lookup f10 = some ⟨oc10, od10, .func (PySem.W.fnOf "_law_take" "_law_take" (defArgs s_law_take) (defBody s_law_take) (defScope s_law_take) .none kV10 dc10 pm10 an10 cd10 ct10), sl10⟩) (c10 : PySem.W.codeIn K cd10 "_law_take" = true) (k10 : PySem.W.keepIn K (.ref f10) = true)
    (a11 : PySem.W.nsIn K mainGlobals "_law_deep" = some (some (.ref f11))) (l11 : K.lookup f11 = some ⟨oc11, od11, .func (PySem.W.fnOf "_law_deep" "_law_deep" (defArgs s_law_deep) (defBody s_law_deep) (defScope s_law_deep) .none kV11 dc11 pm11 an11 cd11 ct11), sl11⟩) (c11 : PySem.W.codeIn K cd11 "_law_deep" = true) (k11 : PySem.W.keepIn K (.ref f11) = true)
    (a12 : PySem.W.nsIn K mainGlobals "_law_things" = some (some (.ref f12))) (l12 : K.lookup f12 = some ⟨oc12, od12, .func (PySem.W.fnOf "_law_things" "_law_things" (defArgs s_law_things) (defBody s_law_things) (defScope s_law_things) .none kV12 dc12 pm12 an12 cd12 ct12), sl12⟩) (c12 : PySem.W.codeIn K cd12 "_law_things" = true) (k12 : PySem.W.keepIn K (.ref f12) = true)
    (a13 : PySem.W.nsIn K mainGlobals "_law_are_none" = some (some (.ref f13))) (l13 : K.lookup f13 = some ⟨oc13, od13, .func (PySem.W.fnOf "_law_are_none" "_law_are_none" (defArgs s_law_are_none) (defBody s_law_are_none) (defScope s_law_are_none) .none kV13 dc13 pm13 an13 cd13 ct13), sl13⟩) (c13 : PySem.W.codeIn K cd13 "_law_are_none" = true) (k13 : PySem.W.keepIn K (.ref f13) = true)
    (a14 : PySem.W.nsIn K mainGlobals "_law_within" = some (some (.ref f14))) (l14 : K.lookup f14 = some ⟨oc14, od14, .func (PySem.W.fnOf "_law_within" "_law_within" (defArgs s_law_within) (defBody s_law_within) (defScope s_law_within) .none kV14 dc14 pm14 an14 cd14 ct14), sl14⟩) (c14 : PySem.W.codeIn K cd14 "_law_within" = true) (k14 : PySem.W.keepIn K (.ref f14) = true)
    (a15 : PySem.W.nsIn K mainGlobals "law" = some (some (.ref f15))) (l15 : K.lookup f15 = some ⟨oc15, od15, .func (PySem.W.fnOf "law" "law" (defArgs s_law) (defBody s_law) (defScope s_law) .none kV15 dc15 pm15 an15 cd15 ct15), sl15⟩) (c15 : PySem.W.codeIn K cd15 "law" = true) (k15 : PySem.W.keepIn K (.ref f15) = true)
    (z_tuple : PySem.W.nsIn K mainGlobals "tuple" = some none)
    (z_len : PySem.W.nsIn K mainGlobals "len" = some none)
    (z_str : PySem.W.nsIn K mainGlobals "str" = some none)
    (z_isinstance : PySem.W.nsIn K mainGlobals "isinstance" = some none)
    (z_all : PySem.W.nsIn K mainGlobals "all" = some none)
    (z_range : PySem.W.nsIn K mainGlobals "range" = some none)
    (z_int : PySem.W.nsIn K mainGlobals "int" = some none)
    (z_repr : PySem.W.nsIn K mainGlobals "repr" = some none)
    (z_list : PySem.W.nsIn K mainGlobals "list" = some none)
    (z_min : PySem.W.nsIn K mainGlobals "min" = some none)
    (z_max : PySem.W.nsIn K mainGlobals "max" = some none)
    (e_NAME_SIGNS : PySem.W.nsIn K mainGlobals "NAME_SIGNS" = some (some (.str (Str.ofString "abcdefghijklmnopqrstuvwxyz0123456789") tk0)))
    (e_LONGEST_NAME : PySem.W.nsIn K mainGlobals "LONGEST_NAME" = some (some (.int 12 tk1)))
    : ∃ fd : FuncData, (∀ (s : Shared) (v : Value), BindsTo s fd ⟨[v], []⟩ [("_law_script", v)]) ∧ ∀ base : Heap, K.In base → base.Ns mainGlobals mg → FnOk l.prog w K mg base CX0 6 fa fd ["_law_script"] (spLaw K) := by
  have e := hfa.symm.trans (PySem.W.mg_of X G a15)
  cases e
  have F0 := fun_mk (st := s_standing) l0 c0 k0
  have b0 := F0.binds (ps := ["pack"]) fun _ _ _ _ _ _ us hl => match us, hl with | [_], _ => rfl
  have F1 := fun_mk (st := s_rings_in) l1 c1 k1
  have b1 := F1.binds (ps := ["above"]) fun _ _ _ _ _ _ us hl => match us, hl with | [_], _ => rfl
  have F2 := fun_mk (st := s_shown) l2 c2 k2
  have b2 := F2.binds (ps := ["pack", "above"]) fun _ _ _ _ _ _ us hl => match us, hl with | [_, _], _ => rfl
  have F3 := fun_mk (st := s_is_name) l3 c3 k3
  have b3 := F3.binds (ps := ["thing"]) fun _ _ _ _ _ _ us hl => match us, hl with | [_], _ => rfl
  have F4 := fun_mk (st := s_rises) l4 c4 k4
  have b4 := F4.binds (ps := ["things"]) fun _ _ _ _ _ _ us hl => match us, hl with | [_], _ => rfl
  have F5 := fun_mk (st := s_is_mark) l5 c5 k5
  have b5 := F5.binds (ps := ["thing"]) fun _ _ _ _ _ _ us hl => match us, hl with | [_], _ => rfl
  have F6 := fun_mk (st := s_has_ring) l6 c6 k6
  have b6 := F6.binds (ps := ["marks"]) fun _ _ _ _ _ _ us hl => match us, hl with | [_], _ => rfl
  have F7 := fun_mk (st := s_is_marks) l7 c7 k7
  have b7 := F7.binds (ps := ["thing"]) fun _ _ _ _ _ _ us hl => match us, hl with | [_], _ => rfl
  have F8 := fun_mk (st := s_is_wish) l8 c8 k8
  have b8 := F8.binds (ps := ["pack", "thing"]) fun _ _ _ _ _ _ us hl => match us, hl with | [_, _], _ => rfl
  have F9 := fun_mk (st := s_law_hand) l9 c9 k9
  have b9 := F9.binds (ps := ["_law_script", "_law_k"]) fun _ _ _ _ _ _ us hl => match us, hl with | [_, _], _ => rfl
  have F10 := fun_mk (st := s_law_take) l10 c10 k10
  have b10 := F10.binds (ps := ["_law_hand_here", "_law_many"]) fun _ _ _ _ _ _ us hl => match us, hl with | [_, _], _ => rfl
  have F11 := fun_mk (st := s_law_deep) l11 c11 k11
  have b11 := F11.binds (ps := ["_law_thing", "_law_deep_here"]) fun _ _ _ _ _ _ us hl => match us, hl with | [_, _], _ => rfl
  have F12 := fun_mk (st := s_law_things) l12 c12 k12
  have b12 := F12.binds (ps := ["_law_hand_here"]) fun _ _ _ _ _ _ us hl => match us, hl with | [_], _ => rfl
  have F13 := fun_mk (st := s_law_are_none) l13 c13 k13
  have b13 := F13.binds (ps := ["_law_hand_here"]) fun _ _ _ _ _ _ us hl => match us, hl with | [_], _ => rfl
  have F14 := fun_mk (st := s_law_within) l14 c14 k14
  have b14 := F14.binds (ps := ["_law_hand_here"]) fun _ _ _ _ _ _ us hl => match us, hl with | [_], _ => rfl
  have F15 := fun_mk (st := s_law) l15 c15 k15
  have b15 := F15.binds (ps := ["_law_script"]) fun _ _ _ _ _ _ us hl => match us, hl with | [_], _ => rfl
  have T : Txt K mg (fun i => ([f0, f1, f2, f3, f4, f5, f6, f7, f8, f9, f10, f11, f12, f13, f14, fa] : List Addr).getD i 0) (fun i => ([PySem.W.fnOf "standing" "standing" (defArgs s_standing) (defBody s_standing) (defScope s_standing) .none kV0 dc0 pm0 an0 cd0 ct0, PySem.W.fnOf "rings_in" "rings_in" (defArgs s_rings_in) (defBody s_rings_in) (defScope s_rings_in) .none kV1 dc1 pm1 an1 cd1 ct1, PySem.W.fnOf "shown" "shown" (defArgs s_shown) (defBody s_shown) (defScope s_shown) .none kV2 dc2 pm2 an2 cd2 ct2, PySem.W.fnOf "is_name" "is_name" (defArgs s_is_name) (defBody s_is_name) (defScope s_is_name) .none kV3 dc3 pm3 an3 cd3 ct3, PySem.W.fnOf "rises" "rises" (defArgs s_rises) (defBody s_rises) (defScope s_rises) .none kV4 dc4 pm4 an4 cd4 ct4, PySem.W.fnOf "is_mark" "is_mark" (defArgs s_is_mark) (defBody s_is_mark) (defScope s_is_mark) .none kV5 dc5 pm5 an5 cd5 ct5, PySem.W.fnOf "has_ring" "has_ring" (defArgs s_has_ring) (defBody s_has_ring) (defScope s_has_ring) .none kV6 dc6 pm6 an6 cd6 ct6, PySem.W.fnOf "is_marks" "is_marks" (defArgs s_is_marks) (defBody s_is_marks) (defScope s_is_marks) .none kV7 dc7 pm7 an7 cd7 ct7, PySem.W.fnOf "is_wish" "is_wish" (defArgs s_is_wish) (defBody s_is_wish) (defScope s_is_wish) .none kV8 dc8 pm8 an8 cd8 ct8, PySem.W.fnOf "_law_hand" "_law_hand" (defArgs s_law_hand) (defBody s_law_hand) (defScope s_law_hand) .none kV9 dc9 pm9 an9 cd9 ct9, PySem.W.fnOf "_law_take" "_law_take" (defArgs s_law_take) (defBody s_law_take) (defScope s_law_take) .none kV10 dc10 pm10 an10 cd10 ct10, PySem.W.fnOf "_law_deep" "_law_deep" (defArgs s_law_deep) (defBody s_law_deep) (defScope s_law_deep) .none kV11 dc11 pm11 an11 cd11 ct11, PySem.W.fnOf "_law_things" "_law_things" (defArgs s_law_things) (defBody s_law_things) (defScope s_law_things) .none kV12 dc12 pm12 an12 cd12 ct12, PySem.W.fnOf "_law_are_none" "_law_are_none" (defArgs s_law_are_none) (defBody s_law_are_none) (defScope s_law_are_none) .none kV13 dc13 pm13 an13 cd13 ct13, PySem.W.fnOf "_law_within" "_law_within" (defArgs s_law_within) (defBody s_law_within) (defScope s_law_within) .none kV14 dc14 pm14 an14 cd14 ct14, PySem.W.fnOf "law" "law" (defArgs s_law) (defBody s_law) (defScope s_law) .none kV15 dc15 pm15 an15 cd15 ct15] : List FuncData).getD i (PySem.W.fnOf "law" "law" (defArgs s_law) (defBody s_law) (defScope s_law) .none kV15 dc15 pm15 an15 cd15 ct15)) (fun i => ([0, 0] : List Addr).getD i 0) (fun i => ([.str (Str.ofString "abcdefghijklmnopqrstuvwxyz0123456789") tk0, .int 12 tk1] : List Value).getD i .none) := ⟨⟨F0, PySem.W.mg_of X G a0, b0⟩, ⟨F1, PySem.W.mg_of X G a1, b1⟩, ⟨F2, PySem.W.mg_of X G a2, b2⟩, ⟨F3, PySem.W.mg_of X G a3, b3⟩, ⟨F4, PySem.W.mg_of X G a4, b4⟩, ⟨F5, PySem.W.mg_of X G a5, b5⟩, ⟨F6, PySem.W.mg_of X G a6, b6⟩, ⟨F7, PySem.W.mg_of X G a7, b7⟩, ⟨F8, PySem.W.mg_of X G a8, b8⟩, ⟨F9, PySem.W.mg_of X G a9, b9⟩, ⟨F10, PySem.W.mg_of X G a10, b10⟩, ⟨F11, PySem.W.mg_of X G a11, b11⟩, ⟨F12, PySem.W.mg_of X G a12, b12⟩, ⟨F13, PySem.W.mg_of X G a13, b13⟩, ⟨F14, PySem.W.mg_of X G a14, b14⟩, ⟨F15, PySem.W.mg_of X G a15, b15⟩, PySem.W.mg_none_of X G z_tuple, PySem.W.mg_none_of X G z_len, PySem.W.mg_none_of X G z_str, PySem.W.mg_none_of X G z_isinstance, PySem.W.mg_none_of X G z_all, PySem.W.mg_none_of X G z_range, PySem.W.mg_none_of X G z_int, PySem.W.mg_none_of X G z_repr, PySem.W.mg_none_of X G z_list, PySem.W.mg_none_of X G z_min, PySem.W.mg_none_of X G z_max, PySem.W.mg_of X G e_NAME_SIGNS, ⟨_, rfl⟩, PySem.W.mg_of X G e_LONGEST_NAME, ⟨_, rfl⟩⟩
  refine ⟨PySem.W.fnOf "law" "law" (defArgs s_law) (defBody s_law) (defScope s_law) .none kV15 dc15 pm15 an15 cd15 ct15, fun s v => .of_eq rfl, fun base _ _ => ?_⟩
  have G_standing := ok_standing (P := l.prog) (w := w) (base := base) T 
  have G_rings_in := ok_rings_in (P := l.prog) (w := w) (base := base) T 
  have G_is_name := ok_is_name (P := l.prog) (w := w) (base := base) T 
  have G_rises := ok_rises (P := l.prog) (w := w) (base := base) T 
  have G_law_hand := ok_law_hand (P := l.prog) (w := w) (base := base) T 
  have G_law_take := ok_law_take (P := l.prog) (w := w) (base := base) T 
  have G_law_deep := ok_law_deep (P := l.prog) (w := w) (base := base) T 
  have G_shown := ok_shown (P := l.prog) (w := w) (base := base) T G_standing
  have G_is_mark := ok_is_mark (P := l.prog) (w := w) (base := base) T G_is_name
  have G_has_ring := ok_has_ring (P := l.prog) (w := w) (base := base) T G_rings_in
  have G_law_things := ok_law_things (P := l.prog) (w := w) (base := base) T G_law_take G_law_deep
  have G_is_marks := ok_is_marks (P := l.prog) (w := w) (base := base) T G_rises G_has_ring G_is_mark
  have G_is_wish := ok_is_wish (P := l.prog) (w := w) (base := base) T G_is_marks G_shown G_standing
  have G_law_are_none := ok_law_are_none (P := l.prog) (w := w) (base := base) T G_law_take G_law_things G_is_wish
  have G_law_within := ok_law_within (P := l.prog) (w := w) (base := base) T G_law_take G_is_wish
  have G_law := ok_law (P := l.prog) (w := w) (base := base) T G_law_hand G_law_are_none G_law_within
  exact G_law.imp fun vs H Q E h => law_imp law_true h
theorem walk {l : PySem.W.OpenLaw} {q : Program} {loose : List Str} {XP : (Str → Option Value) → Heap → Prop} {YP : World → Heap → Prop} {d : DefRec} {K : Params → PySem.W.Frag} (hn : l.most = some 63) (hdf : d.params.defaults = [])
    (hY : ∀ (w : World) (h : Heap), YP w h → (K w.params).In h)
    (F : ∀ (w : World) (mg : Str → Option Value) (fa : Addr) (h : Heap), (K w.params).In h → h.Ns mainGlobals mg → mg d.name = some (.ref fa) →
      ∃ fd : FuncData, (∀ (s : Shared) (u : Value), BindsTo s fd ⟨[u], []⟩ [("_law_script", u)]) ∧ ∀ base : Heap, (K w.params).In base → base.Ns mainGlobals mg → FnOk l.prog w (K w.params) mg base CX0 6 fa fd ["_law_script"] (spLaw (K w.params))) :
    PySem.W.WalkO q loose XP YP l.row.toRowW d [] (fun f vs => PySem.call f vs) :=
  L2.walk_of (n := 63) (k := 6) (x := "_law_script") (CX := fun _ => CX0) (sp := fun w => spLaw (K w.params)) hn (by decide) hdf ⟨rfl, by decide, by decide⟩ hY F (fun _ _ a ns hl _ hS => ⟨a, ns, rfl, hS, hl, fun _ => rfl⟩) fun _ _ _ _ _ z => z
end My
open PySem PySem.W PyProof.Rows
set_option maxRecDepth 100000 in
set_option maxHeartbeats 0 in
theorem PySem.Challenge.cw_answertrees_k58_wishes_of_anything_holds : PySem.Challenge.rw_answertrees_k58_wishes_of_anything.Holds := by
  w_on; o_law; k_head; (case hw => w_witness2)
  k_fill
  refine My.walk (l := PySem.Challenge.rw_answertrees_k58_wishes_of_anything) rfl rfl (fun w h Y => PySem.W.kIn_of Y) ?F
  case F =>
    intro w mg fa h KX G hmg
    refine' My.all_mk KX G hmg ?a0 ?l0 ?c0 ?k0 ?a1 ?l1 ?c1 ?k1 ?a2 ?l2 ?c2 ?k2 ?a3 ?l3 ?c3 ?k3 ?a4 ?l4 ?c4 ?k4 ?a5 ?l5 ?c5 ?k5 ?a6 ?l6 ?c6 ?k6 ?a7 ?l7 ?c7 ?k7 ?a8 ?l8 ?c8 ?k8 ?a9 ?l9 ?c9 ?k9 ?a10 ?l10 ?c10 ?k10 ?a11 ?l11 ?c11 ?k11 ?a12 ?l12 ?c12 ?k12 ?a13 ?l13 ?c13 ?k13 ?a14 ?l14 ?c14 ?k14 ?a15 ?l15 ?c15 ?k15 ?z_tuple ?z_len ?z_str ?z_isinstance ?z_all ?z_range ?z_int ?z_repr ?z_list ?z_min ?z_max ?e_NAME_SIGNS ?e_LONGEST_NAME
    (case a0 => k_is)
    (case l0 => k_is)
    (case c0 => k_is)
    (case k0 => k_is)
    (case a1 => k_is)
    (case l1 => k_is)
    (case c1 => k_is)
    (case k1 => k_is)
    (case a2 => k_is)
    (case l2 => k_is)
    (case c2 => k_is)
    (case k2 => k_is)
    (case a3 => k_is)
    (case l3 => k_is)
    (case c3 => k_is)
    (case k3 => k_is)
    (case a4 => k_is)
    (case l4 => k_is)
    (case c4 => k_is)
    (case k4 => k_is)
    (case a5 => k_is)
    (case l5 => k_is)
    (case c5 => k_is)
    (case k5 => k_is)
    (case a6 => k_is)
    (case l6 => k_is)
    (case c6 => k_is)
    (case k6 => k_is)
    (case a7 => k_is)
    (case l7 => k_is)
    (case c7 => k_is)
    (case k7 => k_is)
    (case a8 => k_is)
    (case l8 => k_is)
    (case c8 => k_is)
    (case k8 => k_is)
    (case a9 => k_is)
    (case l9 => k_is)
    (case c9 => k_is)
    (case k9 => k_is)
    (case a10 => k_is)
    (case l10 => k_is)
    (case c10 => k_is)
    (case k10 => k_is)
    (case a11 => k_is)
    (case l11 => k_is)
    (case c11 => k_is)
    (case k11 => k_is)
    (case a12 => k_is)
    (case l12 => k_is)
    (case c12 => k_is)
    (case k12 => k_is)
    (case a13 => k_is)
    (case l13 => k_is)
    (case c13 => k_is)
    (case k13 => k_is)
    (case a14 => k_is)
    (case l14 => k_is)
    (case c14 => k_is)
    (case k14 => k_is)
    (case a15 => k_is)
    (case l15 => k_is)
    (case c15 => k_is)
    (case k15 => k_is)
    (case z_tuple => k_is)
    (case z_len => k_is)
    (case z_str => k_is)
    (case z_isinstance => k_is)
    (case z_all => k_is)
    (case z_range => k_is)
    (case z_int => k_is)
    (case z_repr => k_is)
    (case z_list => k_is)
    (case z_min => k_is)
    (case z_max => k_is)
    (case e_NAME_SIGNS => k_is)
    (case e_LONGEST_NAME => k_is)
#print axioms PySem.Challenge.cw_answertrees_k58_wishes_of_anything_holds

