import PyProof.Rows.All
import Wide.All
import OpenK.AllK
import Wide.FinOn
import Lean
import PyProof.EqAt
import PyProof.EqKinds
import PyProof.TupleCall
import PySem.Challenge.RW_answertrees_k49_what_a_log_leaves
set_option compiler.extract_closed false
set_option Elab.async false
set_option linter.all false
set_option maxRecDepth 100000
namespace L2
open PySem PySem.Spec PyProof.Rows
noncomputable abbrev Key := Sum Int Str
noncomputable def keyIs : Key → Value → Bool
  | .inl k, v => Value.isInt k v
  | .inr x, v => Value.isStrOf x v
noncomputable def keyH (w : World) : Key → Int
  | .inl k => hashInt k
  | .inr x => hashStr w x
theorem keyIs_shape : ∀ {k : Key} {v : Value}, keyIs k v = true → (∃ i t, k = Sum.inl i ∧ v = Value.int i t) ∨ (∃ x t, k = Sum.inr x ∧ v = Value.str x t)
  | .inl i, v, h => by
    obtain ⟨t, e⟩ := Value.isInt_shape (k := i) (v := v) h
    exact .inl ⟨i, t, rfl, e⟩
  | .inr x, v, h => by
    obtain ⟨t, e⟩ := Value.isStrOf_shape (x := x) (v := v) h
    exact .inr ⟨x, t, rfl, e⟩
theorem keyIs_int (i : Int) (t : Tok) : keyIs (.inl i) (.int i t) = true := by simp [keyIs, Value.isInt]
theorem keyIs_str (x : Str) (t : Tok) : keyIs (.inr x) (.str x t) = true := by simp [keyIs, Value.isStrOf]
theorem key_ll (a b : Int) : decide ((Sum.inl a : Key) = Sum.inl b) = (a == b) := by
  by_cases e : a = b
  · subst e; simp
  · have h : ¬ (Sum.inl a : Key) = Sum.inl b := fun q => e (Sum.inl.inj q)
    rw [decide_eq_false h]
    exact (beq_eq_false_iff_ne.mpr e).symm
theorem key_rr (a b : Str) : decide ((Sum.inr a : Key) = Sum.inr b) = decide (a = b) := by
  by_cases e : a = b
  · subst e; simp
  · have h : ¬ (Sum.inr a : Key) = Sum.inr b := fun q => e (Sum.inr.inj q)
    rw [decide_eq_false h, decide_eq_false e]
theorem key_lr (a : Int) (b : Str) : decide ((Sum.inl a : Key) = Sum.inr b) = false := decide_eq_false (fun q => nomatch q)
theorem key_rl (a : Str) (b : Int) : decide ((Sum.inr a : Key) = Sum.inl b) = false := decide_eq_false (fun q => nomatch q)
noncomputable def mixKind (prog : Program) (w : World) : PySem.KeyKind prog w Key where
  is := keyIs
  hash := keyH w
  inj := fun v a b ha hb => by
    rcases keyIs_shape ha with ⟨i, t, rfl, rfl⟩ | ⟨x, t, rfl, rfl⟩
    · rcases keyIs_shape hb with ⟨j, u, rfl, e⟩ | ⟨y, u, rfl, e⟩
      · injection e with e1 _; rw [e1]
      · exact nomatch e
    · rcases keyIs_shape hb with ⟨j, u, rfl, e⟩ | ⟨y, u, rfl, e⟩
      · exact nomatch e
      · injection e with e1 _; rw [e1]
  byValue := fun k v h => by
    rcases keyIs_shape h with ⟨i, t, rfl, rfl⟩ | ⟨x, t, rfl, rfl⟩ <;> rfl
  pyHash := fun hv h => by
    rcases keyIs_shape hv with ⟨i, t, rfl, rfl⟩ | ⟨x, t, rfl, rfl⟩
    · exact wpAny_pyHash_int h
    · exact wpAny_pyHash_str h
  eqBool := fun hu hv h => by
    rcases keyIs_shape hu with ⟨i, t, rfl, rfl⟩ | ⟨x, t, rfl, rfl⟩
    · rcases keyIs_shape hv with ⟨j, u, rfl, rfl⟩ | ⟨y, u, rfl, rfl⟩
      · rw [key_ll] at h; exact wpAny_eqBool_int h
      · rw [key_lr] at h; exact SeqAt.EqAt.int_str i t y u _ _ _ _ h
    · rcases keyIs_shape hv with ⟨j, u, rfl, rfl⟩ | ⟨y, u, rfl, rfl⟩
      · rw [key_rl] at h; exact SeqAt.EqAt.str_int x t j u _ _ _ _ h
      · rw [key_rr] at h; exact wpAny_eqBool_str h
  «strs» := fun k x t v h => by
    rcases keyIs_shape h with ⟨i, u, rfl, e⟩ | ⟨y, u, rfl, e⟩
    · exact nomatch e
    · injection e with e1 _
      subst e1
      cases v <;> rfl
theorem mixKind_int (prog : Program) (w : World) (i : Int) (t : Tok) : (mixKind prog w).is (.inl i) (.int i t) = true := keyIs_int i t
theorem mixKind_str (prog : Program) (w : World) (x : Str) (t : Tok) : (mixKind prog w).is (.inr x) (.str x t) = true := keyIs_str x t
end L2
namespace L2
open PySem PySem.Spec PyProof.Rows
inductive V where
  | non | bl (b : Bool) | int (i : Int) | str (x : Str) | byt (b : Array UInt8) | flt (b : UInt64) | ref (a : Addr) | ty (n : String)
  deriving DecidableEq
noncomputable def RelV : V → Value → Prop
  | .non, u => u = Value.none
  | .bl b, u => u = Value.bool b
  | .int i, u => ∃ t, u = Value.int i t
  | .str x, u => ∃ t, u = Value.str x t
  | .byt b, u => ∃ t, u = Value.bytes b t
  | .flt b, u => ∃ t, u = Value.float b t
  | .ref a, u => u = Value.ref a
  | .ty n, u => u = Value.type n
noncomputable abbrev Vals : List V → List Value → Prop := Paired RelV
theorem Vals.length {xs : List V} {us : List Value} (r : Vals xs us) : xs.length = us.length := Paired.length r
theorem Vals.get : ∀ {xs : List V} {us : List Value} {i : Nat} {x : V}, Vals xs us → xs[i]? = some x → ∃ u, us[i]? = some u ∧ RelV x u
  | _, _, _, _, .nil, e => by simp at e
  | _, _, 0, _, .cons r _, e => by simp at e; subst e; exact ⟨_, rfl, r⟩
  | _, _, i + 1, x, .cons _ t, e => by
    obtain ⟨u, h1, h2⟩ := Vals.get (i := i) (x := x) t (by simpa using e)
    exact ⟨u, by simpa using h1, h2⟩
theorem Vals.set {x : V} {u : Value} (r : RelV x u) : ∀ {xs : List V} {us : List Value} (i : Nat), Vals xs us → Vals (xs.set i x) (us.set i u)
  | _, _, _, .nil => .nil
  | _, _, 0, .cons _ t => .cons r t
  | _, _, i + 1, .cons q t => .cons q (Vals.set r i t)
theorem Vals.append : ∀ {xs ys : List V} {us ws : List Value}, Vals xs us → Vals ys ws → Vals (xs ++ ys) (us ++ ws)
  | _, _, _, _, .nil, s => s
  | _, _, _, _, .cons r t, s => .cons r (Vals.append t s)
theorem Vals.take : ∀ {xs : List V} {us : List Value} (n : Nat), Vals xs us → Vals (xs.take n) (us.take n)
  | _, _, 0, _ => .nil
  | _, _, _ + 1, .nil => .nil
  | _, _, n + 1, .cons r t => .cons r (Vals.take n t)
theorem Vals.drop : ∀ {xs : List V} {us : List Value} (n : Nat), Vals xs us → Vals (xs.drop n) (us.drop n)
  | _, _, 0, r => r
  | _, _, _ + 1, .nil => .nil
  | _, _, n + 1, .cons _ t => Vals.drop n t
theorem Vals.none_of : ∀ {xs : List V} {us : List Value} {i : Nat}, Vals xs us → xs[i]? = none → us[i]? = none := fun {xs us i} r e => by
  have h1 := r.length
  have h2 : xs.length ≤ i := List.getElem?_eq_none_iff.mp e
  exact List.getElem?_eq_none_iff.mpr (by omega)
noncomputable def RelO : Option V → Option Value → Prop
  | some v, some u => RelV v u
  | none, none => True
  | _, _ => False
noncomputable def KV {κ : Type} : List (κ × V) → List (κ × Value) → Prop := Paired fun (p : κ × V) (q : κ × Value) => p.1 = q.1 ∧ RelV p.2 q.2
noncomputable def kV : Key → V
  | .inl i => .int i
  | .inr x => .str x
inductive HO where
  | lst (xs : List V)
  | tup (xs : List V)
  | dK (kvs : List (Key × V)) (ep : Nat) | dT (kvs : List (List Key × V))
  | set (S : Int → Bool) (n : Nat)
  | ins (C dx : Addr) (fs : List (Str × V))
  | own (x : Addr)
  | xd (fs : List (Str × V))
  | met (f x : Addr)
  | rng (lo hi : Int)
  | frz (o : Obj) (u : HO)
  | tbl (ps : Array Value)
  | ext (φ : Heap → Prop)
noncomputable abbrev Hp := Addr → Option HO
noncomputable def upd (H : Hp) (a : Addr) (o : HO) : Hp := fun b => if b = a then some o else H b
theorem upd_same {H : Hp} {a : Addr} {o : HO} : upd H a o a = some o := by unfold upd; rw [if_pos rfl]
theorem upd_ne {H : Hp} {a b : Addr} {o : HO} (h : b ≠ a) : upd H a o b = H b := by unfold upd; rw [if_neg h]
theorem ne_of {H : Hp} {a b : Addr} {o u : HO} (h : H a = some o) (h' : H b = some u) (d : o ≠ u) : a ≠ b := by
  intro e; subst e; rw [h] at h'; exact d (Option.some.inj h')
theorem ne_of_none {H : Hp} {a b : Addr} {o : HO} (h : H a = some o) (h' : H b = none) : a ≠ b := by
  intro e; subst e; rw [h] at h'; cases h'
noncomputable def TupP (h : Heap) (a : Addr) (items : Array Value) : Prop := IsTup h a items ∧ ∀ o, h.get? a = some o → o.dict = none
theorem TupP.new (h : Heap) (items : Array Value) : TupP (h.push { cls := .type "tuple", data := .seq items }) h.objs.size items := ⟨IsTup.new _ _, fun o e => by rw [Heap.get?_push_size _ rfl] at e; cases e; rfl⟩
theorem TupP.of {h : Heap} {a : Addr} {items : Array Value} {n : Nat} {sl : Array (Option Value)} (e : h.get? a = some { cls := .type "tuple", dict := none, data := .seq items n, slots := sl }) : TupP h a items := ⟨⟨_, e, rfl, _, rfl⟩, fun o q => by rw [e] at q; cases q; rfl⟩
section
variable (P : Program) (w : World)
noncomputable def ObjOk (H : Hp) (h : Heap) (a : Addr) : HO → Prop
  | .lst xs => xs.length ≤ sizeLine ∧ ∃ (its : List Value) (n : Nat), Vals xs its ∧ h.get? a = some { cls := .type "list", data := .seq its.toArray n }
  | .tup xs => xs.length ≤ sizeLine ∧ ∃ its : List Value, Vals xs its ∧ TupP h a its.toArray
  | .dK kvs ep => kvs.length ≤ sizeLine ∧ (a == sysModules) = false ∧ ∃ vs, KV kvs vs ∧ h.DictAt (mixKind P w) a vs ep
  | .dT kvs => kvs.length ≤ sizeLine ∧ (a == sysModules) = false ∧ ∃ xs : List (List Key × Addr × Value),
      Paired (fun (p : List Key × V) (q : List Key × Addr × Value) => p.1 = q.1 ∧ H q.2.1 = some (.tup (p.1.map kV)) ∧ RelV p.2 q.2.2) kvs xs ∧
      ∃ o es ep, h.get? a = some o ∧ o.ExactDict ∧ o.data = .dict es ep ∧ es.toList = xs.map (entryOfKey (tupleKind (mixKind P w))) ∧ (xs.map (·.1)).Nodup
  | .set S n => h.SetOf (intKind P w) a S n
  | .ins C dx fs => H dx = some (.own a) ∧ fs.length ≤ 1000 ∧ dx ≠ a ∧ h.get? a = some (PySem.W.instObj C dx) ∧
      ∃ mA, h.Ns1 dx mA ∧ (∀ f, RelO (fs.lookup f) (mA f)) ∧ PySem.Within mA (fs.map (·.1))
  | .own _ => ∃ o, h.get? a = some o
  | .xd fs => ∃ mA, h.Ns1 a mA ∧ ∀ f, RelO (fs.lookup f) (mA f)
  | .rng lo hi => ∃ t u v, h.get? a = some { cls := .type "range", data := .fields #[.int lo t, .int hi u, .int 1 v] }
  | .frz o u => h.get? a = some o ∧ ObjOk H h a u
  | .tbl ps => h.get? a = some { cls := .none, data := .fields ps }
  | .met f x => h.get? a = some (PySem.W.methodObj (.ref f) (.ref x))
  | .ext φ => φ h ∧ (∃ o, h.get? a = some o) ∧ ∀ h1 h2 : Heap, φ h1 → (∀ o, h1.get? a = some o → h2.get? a = some o) → φ h2
noncomputable def HOk (H : Hp) (h : Heap) : Prop := ∀ a o, H a = some o → ObjOk P w H h a o
end
section
variable {P : Program} {w : World} {H H' : Hp} {h h' : Heap} {a : Addr} {o : HO}
theorem ObjOk.lt (x : ObjOk P w H h a o) : a < h.objs.size := by
  cases o with
  | lst xs => obtain ⟨_, _, _, _, e⟩ := x; exact Heap.lt_size e
  | tup xs => obtain ⟨_, _, _, p⟩ := x; exact p.1.lt
  | dK kvs ep => obtain ⟨_, _, _, _, o, _, e, _⟩ := x; exact Heap.lt_size e
  | dT kvs => obtain ⟨_, _, _, _, o, _, _, e, _⟩ := x; exact Heap.lt_size e
  | set S n => obtain ⟨o, _, _, _, e, _⟩ := x; exact Heap.lt_size e
  | ins C dx fs => obtain ⟨_, _, _, e, _⟩ := x; exact Heap.lt_size e
  | own y => obtain ⟨_, e⟩ := x; exact Heap.lt_size e
  | xd fs => obtain ⟨_, ⟨_, _, _, e, _⟩, _⟩ := x; exact Heap.lt_size e
  | rng lo hi => obtain ⟨_, _, _, e⟩ := x; exact Heap.lt_size e
  | frz ob u => obtain ⟨e, _⟩ := x; exact Heap.lt_size e
  | tbl ps => exact Heap.lt_size (show h.get? a = some _ from x)
  | met f y => exact Heap.lt_size (show h.get? a = some _ from x)
  | ext φ => obtain ⟨_, ⟨_, e⟩, _⟩ := x; exact Heap.lt_size e
theorem Paired.mapP {α β : Type} {F G : α → β → Prop} : ∀ {l₁ : List α} {l₂ : List β}, Paired F l₁ l₂ → (∀ a b, F a b → G a b) → Paired G l₁ l₂
  | _, _, .nil, _ => .nil
  | _, _, .cons r t, f => .cons (f _ _ r) (Paired.mapP t f)
theorem ObjOk.stay (x : ObjOk P w H h a o) (k : ∀ b u, (b = a ∨ H b = some (.own a)) → h.get? b = some u → h'.get? b = some u)
    (ho : ∀ b, H b = some (.own a) → H' b = some (.own a)) (ht : ∀ b xs, H b = some (.tup xs) → H' b = some (.tup xs)) : ObjOk P w H' h' a o := by
  induction o with
  | lst xs => obtain ⟨z, its, n, r, e⟩ := x; exact ⟨z, its, n, r, k _ _ (.inl rfl) e⟩
  | tup xs => obtain ⟨z, its, r, ⟨ob, e, c⟩, nd⟩ := x; exact ⟨z, its, r, ⟨ob, k _ _ (.inl rfl) e, c⟩, fun o' e' => by rw [k _ _ (.inl rfl) e] at e'; cases e'; exact nd _ e⟩
  | dK kvs ep => obtain ⟨z, y, vs, r, ob, es, e, c⟩ := x; exact ⟨z, y, vs, r, ob, es, k _ _ (.inl rfl) e, c⟩
  | dT kvs =>
    obtain ⟨z, y, xs, r, ob, es, ep, e, c⟩ := x
    exact ⟨z, y, xs, Paired.mapP r fun p q z => ⟨z.1, ht _ _ z.2.1, z.2.2⟩, ob, es, ep, k _ _ (.inl rfl) e, c⟩
  | set S n => obtain ⟨ob, es, ep, t, e, c⟩ := x; exact ⟨ob, es, ep, t, k _ _ (.inl rfl) e, c⟩
  | ins C dx fs =>
    obtain ⟨d, z, ne, e, mA, ⟨od, es, ep, e2, c⟩, r⟩ := x
    exact ⟨ho _ d, z, ne, k _ _ (.inl rfl) e, mA, ⟨od, es, ep, k _ _ (.inr d) e2, c⟩, r⟩
  | own y => obtain ⟨ob, e⟩ := x; exact ⟨ob, k _ _ (.inl rfl) e⟩
  | xd fs => obtain ⟨mA, ⟨od, es, ep, e, c⟩, r⟩ := x; exact ⟨mA, ⟨od, es, ep, k _ _ (.inl rfl) e, c⟩, r⟩
  | rng lo hi => obtain ⟨t, u, v, e⟩ := x; exact ⟨t, u, v, k _ _ (.inl rfl) e⟩
  | frz ob u ih => obtain ⟨e, q⟩ := x; exact ⟨k _ _ (.inl rfl) e, ih q⟩
  | tbl ps =>
    have e : h.get? a = some { cls := .none, data := .fields ps } := x
    show h'.get? a = some { cls := .none, data := .fields ps }
    exact k a _ (.inl rfl) e
  | met f y =>
    have e : h.get? a = some (PySem.W.methodObj (.ref f) (.ref y)) := x
    show h'.get? a = some (PySem.W.methodObj (.ref f) (.ref y))
    exact k a _ (.inl rfl) e
  | ext φ => obtain ⟨p, ⟨o, e⟩, st⟩ := x; exact ⟨st _ _ p fun o q => k _ _ (.inl rfl) q, ⟨o, k _ _ (.inl rfl) e⟩, st⟩
theorem HOk.lt (x : HOk P w H h) (e : H a = some o) : a < h.objs.size := (x a o e).lt
theorem HOk.fresh (x : HOk P w H h) (e : h.objs.size ≤ a) : H a = none := by
  cases q : H a with
  | none => rfl
  | some u => exact absurd (Nat.lt_of_lt_of_le (x.lt q) e) (Nat.lt_irrefl _)
theorem HOk.kept (x : HOk P w H h) (k : ∀ b u, h.get? b = some u → h'.get? b = some u) : HOk P w H h' := fun a o e =>
  (x a o e).stay (fun b u _ q => k b u q) (fun _ q => q) fun _ _ q => q
theorem HOk.laid (x : HOk P w H h) (k : ∀ b u, h.get? b = some u → h'.get? b = some u) (hp : h.objs.size ≤ a) (new : ObjOk P w (upd H a o) h' a o) : HOk P w (upd H a o) h' := fun b u e => by
  have hn := x.fresh hp
  by_cases hb : b = a
  · subst hb; rw [upd_same] at e; cases e; exact new
  · rw [upd_ne hb] at e
    exact (x b u e).stay (fun c v _ q => k c v q) (fun c q => by rw [upd_ne (ne_of_none q hn)]; exact q) fun c xs q => by rw [upd_ne (ne_of_none q hn)]; exact q
end
noncomputable def Rd (H : Hp) (a : Addr) (u : HO) : Prop := H a = some u ∨ ∃ o, H a = some (.frz o u)
theorem Rd.of {H : Hp} {a : Addr} {u : HO} (h : H a = some u) : Rd H a u := .inl h
theorem Rd.ok {P : Program} {w : World} {H : Hp} {h : Heap} {a : Addr} {u : HO} (r : Rd H a u) (x : HOk P w H h) : ObjOk P w H h a u := by
  rcases r with r | ⟨o, r⟩
  · exact x a u r
  · obtain ⟨_, q⟩ := x a _ r
    exact q
noncomputable def Mut : Option HO → Prop
  | some (.lst _) => True
  | some (.dK _ _) => True
  | some (.dT _) => True
  | some (.set _ _) => True
  | some (.ins _ _ _) => True
  | some (.ext _) => True
  | _ => False
section
variable {P : Program} {w : World} {H : Hp} {h h' : Heap} {x e : Addr} {o' : HO}
theorem HOk.write (ok : HOk P w H h) (mu : Mut (H x)) (he : e = x ∨ H e = some (.own x)) (k : ∀ b u, b ≠ e → h.get? b = some u → h'.get? b = some u) (heo : ∃ u, h'.get? e = some u)
    (new : ObjOk P w (upd H x o') h' x o') : HOk P w (upd H x o') h' := fun b u q => by
  have nown : ∀ c y, H c = some (.own y) → c ≠ x := fun c y r z => by subst z; rw [r] at mu; exact mu
  have ntup : ∀ c xs, H c = some (.tup xs) → c ≠ x := fun c xs r z => by subst z; rw [r] at mu; exact mu
  by_cases hb : b = x
  · subst hb; rw [upd_same] at q; cases q; exact new
  · rw [upd_ne hb] at q
    by_cases hbe : b = e
    · have q' : H b = some (.own x) := by
        rcases he with z | z
        · exact absurd (hbe.trans z) hb
        · rw [hbe]; exact z
      rw [q] at q'; cases q'
      obtain ⟨v, hv⟩ := heo
      exact ⟨v, by rw [hbe]; exact hv⟩
    · refine (ok b u q).stay (fun c v hc r => k c v ?_ r) (fun c r => by rw [upd_ne (nown c b r)]; exact r) fun c xs r => by rw [upd_ne (ntup c xs r)]; exact r
      rcases hc with rfl | hc
      · exact hbe
      · rintro rfl
        rcases he with z | z
        · exact nown c b hc z
        · rw [hc] at z; cases z; exact hb rfl
end
structure Un (fs ex : List Addr) (H H' : Hp) (h h' : Heap) : Prop where
  keep : ∀ b o, h.get? b = some o → H b = none → b ∉ fs → b ∉ ex → h'.get? b = some o
  slot : ∀ b o, h.get? b = some o → H b = none → b ∈ fs → b ∉ ex → ∃ sl, h'.get? b = some { o with slots := sl }
  free : ∀ b o, h.get? b = some o → H b = none → b ∉ ex → H' b = none
  there : ∀ b o, h.get? b = some o → b ∉ ex → ∃ o', h'.get? b = some o'
  tups : ∀ b xs, H b = some (.tup xs) → H' b = some (.tup xs)
  frzs : ∀ b o u, H b = some (.frz o u) → H' b = some (.frz o u)
  tbls : ∀ b ps, H b = some (.tbl ps) → ∃ more, H' b = some (.tbl (ps ++ more))
section
variable {fs fs' ex ex' : List Addr} {H H1 H2 : Hp} {h h1 h2 h' : Heap} {a x e : Addr} {o : HO}
theorem Un.any (u : Un fs ex H H1 h h1) {b : Addr} {ob : Obj} (q : h.get? b = some ob) (n : H b = none) (hx : b ∉ ex) : ∃ sl, h1.get? b = some { ob with slots := sl } := by
  by_cases hb : b ∈ fs
  · exact u.slot b ob q n hb hx
  · exact ⟨ob.slots, u.keep b ob q n hb hx⟩
theorem Un.trans (a : Un fs ex H H1 h h1) (b : Un fs ex H1 H2 h1 h2) : Un fs ex H H2 h h2 where
  keep := fun c ob q n hc hx => b.keep c ob (a.keep c ob q n hc hx) (a.free c ob q n hx) hc hx
  slot := fun c ob q n hc hx => by
    obtain ⟨sl, e1⟩ := a.slot c ob q n hc hx
    obtain ⟨sl', e2⟩ := b.slot c _ e1 (a.free c ob q n hx) hc hx
    exact ⟨sl', e2⟩
  free := fun c ob q n hx => by
    obtain ⟨o', e1⟩ := a.there c ob q hx
    exact b.free c o' e1 (a.free c ob q n hx) hx
  there := fun c ob q hx => by
    obtain ⟨o', e1⟩ := a.there c ob q hx
    exact b.there c o' e1 hx
  tups := fun c xs q => b.tups c xs (a.tups c xs q)
  frzs := fun c ob xs q => b.frzs c ob xs (a.frzs c ob xs q)
  tbls := fun c ps q => by
    obtain ⟨m1, e1⟩ := a.tbls c ps q
    obtain ⟨m2, e2⟩ := b.tbls c _ e1
    exact ⟨m1 ++ m2, by rw [e2, Array.append_assoc]⟩
theorem Un.kept (k : ∀ b u, h.get? b = some u → h'.get? b = some u) : Un fs ex H H h h' :=
  ⟨fun b ob q _ _ _ => k b ob q, fun b ob q _ _ _ => ⟨ob.slots, k b ob q⟩, fun _ _ _ n _ => n, fun b ob q _ => ⟨ob, k b ob q⟩, fun _ _ q => q, fun _ _ _ q => q, fun _ ps q => ⟨#[], by rw [q]; simp⟩⟩
theorem Un.refl : Un fs ex H H h h := Un.kept fun _ _ q => q
theorem Un.laid (k : ∀ b u, h.get? b = some u → h'.get? b = some u) (hp : h.objs.size ≤ a) (hn : H a = none) : Un fs ex H (upd H a o) h h' where
  keep := fun b u q _ _ _ => k b u q
  slot := fun b u q _ _ _ => ⟨u.slots, k b u q⟩
  free := fun b u q n _ => by rw [upd_ne (Nat.ne_of_lt (Nat.lt_of_lt_of_le (Heap.lt_size q) hp))]; exact n
  there := fun b u q _ => ⟨u, k b u q⟩
  tups := fun b xs q => by rw [upd_ne (ne_of_none q hn)]; exact q
  frzs := fun b u xs q => by rw [upd_ne (ne_of_none q hn)]; exact q
  tbls := fun b ps q => ⟨#[], by rw [upd_ne (ne_of_none q hn), q]; simp⟩
theorem Un.write (mu : Mut (H x)) (he : e = x ∨ H e = some (.own x)) (k : ∀ b u, b ≠ e → h.get? b = some u → h'.get? b = some u) (heo : ∃ u, h'.get? e = some u) : Un fs ex H (upd H x o) h h' := by
  have hx : ∀ b, H b = none → b ≠ x := fun b n z => by subst z; rw [n] at mu; exact mu
  have hb : ∀ b, H b = none → b ≠ e := fun b n z => by
    subst z
    rcases he with r | r
    · exact hx b n r
    · rw [n] at r; cases r
  have hm : ∀ b u, H b = some u → ¬ Mut (some u) → b ≠ x := fun b u q nm z => by subst z; rw [q] at mu; exact nm mu
  refine ⟨fun b u q n _ _ => k b u (hb b n) q, fun b u q n _ _ => ⟨u.slots, k b u (hb b n) q⟩, fun b u q n _ => by rw [upd_ne (hx b n)]; exact n, fun b u q _ => ?_,
    fun b xs q => by rw [upd_ne (hm b _ q fun z => z)]; exact q, fun b u xs q => by rw [upd_ne (hm b _ q fun z => z)]; exact q, fun b ps q => ⟨#[], by rw [upd_ne (hm b _ q fun z => z), q]; simp⟩⟩
  by_cases hbe : b = e
  · subst hbe; exact heo
  · exact ⟨u, k b u hbe q⟩
theorem Un.mono (u : Un fs ex H H1 h h1) (hs : ∀ b ∈ fs, b ∈ fs') (hx : ∀ b ∈ ex, b ∈ ex') : Un fs' ex' H H1 h h1 :=
  ⟨fun b ob q n hb he => u.keep b ob q n (fun z => hb (hs b z)) fun z => he (hx b z), fun _ _ q n _ he => u.any q n fun z => he (hx _ z), fun b ob q n he => u.free b ob q n fun z => he (hx b z), fun b ob q he => u.there b ob q fun z => he (hx b z), u.tups, u.frzs, u.tbls⟩
end
noncomputable def trk (h : Heap) (H : Hp) : List Addr := (List.range h.objs.size).filter fun a => (H a).isSome
noncomputable def hidT (h : Heap) (H : Hp) : Heap := PySem.W.hideAll h (trk h H)
theorem hidT_size (h : Heap) (H : Hp) : (hidT h H).objs.size = h.objs.size := PySem.W.hideAll_size _ _
theorem hidT_get {h : Heap} {H : Hp} {b : Addr} {o : Obj} (e : h.get? b = some o) (n : H b = none) : (hidT h H).get? b = some o :=
  PySem.W.hideAll_get _ e fun hm => by
    have q : (H b).isSome = true := (List.mem_filter.mp hm).2
    rw [n] at q; simp at q
theorem of_hidT {h : Heap} {H : Hp} {b : Addr} {o : Obj} (e : (hidT h H).get? b = some o) : h.get? b = some o ∧ H b = none := by
  have e' : h.get? b = some o := PySem.W.of_hideAll (trk h H) e
  refine ⟨e', ?_⟩
  cases q : H b with
  | none => rfl
  | some x =>
    have hm : b ∈ trk h H := List.mem_filter.mpr ⟨List.mem_range.mpr (Heap.lt_size e'), by simp [q]⟩
    have z : (hidT h H).get? b = none := PySem.W.hideAll_none (trk h H) hm
    rw [z] at e; cases e
noncomputable def allNews (g h : Heap) (L : Addr) : List (Addr × Obj) := (List.range h.objs.size).filterMap fun a => if a = L ∨ (g.get? a).isSome = true then none else (h.get? a).map fun o => (a, o)
noncomputable def rest (g h : Heap) (L d : Addr) : List (Addr × Obj) := (allNews g h L).filter fun p => decide (p.1 ≠ d)
end L2
namespace L2
open PySem PySem.Spec PyProof.Rows
structure Mod (K : PySem.W.Frag) (mg : Str → Option Value) (base : Heap) : Prop where
  kin : K.In base
  glob : base.Ns mainGlobals mg
  blt : ∃ mb, base.Ns builtinsNs mb ∧ ∀ x : Str, x ≠ "__name__" → mb x = bootBuiltins x
  nolimit : base.NoLimit
structure Cx where
  prog : Program
  w : World
  K : PySem.W.Frag
  mg : Str → Option Value
  base : Heap
  A : Around
  N : List Str
  s₀ : Shared
  H₀ : Hp
  env : Env
  outer : List Env
  stack : List Env
  ex : List Addr
  fn : Str → Bool
  calm : Bool
  pn : List (Addr × Obj)
  xe : Value → Shared → Prop
noncomputable def frs (l : List Env) : List Addr := l.filterMap (·.frame)
noncomputable abbrev Cx.fs (X : Cx) : List Addr := frs X.outer
noncomputable def Vis (sc : Scope) (x : Str) : Prop := sc.names.lookup x = some .local ∨ sc.names.lookup x = some .cell ∨ sc.names.lookup x = some .free
noncomputable def Loc (sc : Scope) (x : Str) : Prop := sc.names.lookup x = some .local ∨ sc.names.lookup x = some .cell
noncomputable def Look (env : Env) (h : Heap) (m : Str → Option Value) (x : Str) (u : Value) : Prop :=
  (env.kindOf x = some .local ∧ m x = some u) ∨ ((env.kindOf x = some .cell ∨ env.kindOf x = some .free) ∧ ∃ c, env.cells.lookup x = some c ∧ h.IsCell c (some u))
structure Cx.Ok (X : Cx) : Prop where
  mod : Mod X.K X.mg X.base
  kind : X.env.scope.kind = .function
  glob : X.env.globals = mainGlobals
  blt : X.env.builtins = builtinsNs
  above : X.s₀.heap.objs.size ≤ X.env.locals
  inj : ∀ x y c, X.env.cells.lookup x = some c → X.env.cells.lookup y = some c → x = y
  has : ∀ x, (X.env.kindOf x = some .cell ∨ X.env.kindOf x = some .free) → ∃ c, X.env.cells.lookup x = some c
  cab : ∀ x c, X.fn x = true → X.env.cells.lookup x = some c → X.s₀.heap.objs.size ≤ c
  hd : X.calm = true → X.A.handled = none
  frames : X.A.frames = some X.stack
  stk : X.stack = X.outer ∨ (X.stack = X.env :: X.outer ∧ X.env.frame = some X.env.locals)
  exf : ∀ b ∈ X.ex, b ≠ X.env.locals ∧ ∀ x c, X.env.cells.lookup x = some c → c ≠ b
  bs : ∀ b o, X.base.get? b = some o → X.s₀.heap.get? b = some o ∧ X.H₀ b = none
  bsz : X.base.objs.size ≤ X.s₀.heap.objs.size
  noex : ∀ b o, X.base.get? b = some o → b ∉ X.ex
  exfs : ∀ b ∈ X.ex, b ∉ X.fs
  funs : X.s₀.heap.FunFrames X.base X.outer
  frf : ∀ b ∈ X.fs, X.H₀ b = none
structure Inv (X : Cx) (pins : List (Addr × Obj)) (σ : List (Option V)) (H : Hp) (s : Shared) : Prop where
  ok : X.Ok
  os : s.os = X.s₀.os
  bare : AllBare s.gens
  base : Un X.fs X.ex X.H₀ H X.s₀.heap s.heap
  loc : ∃ m, s.heap.Ns X.env.locals m ∧ ∀ (i : Nat) (x : Str) (v : V), X.N[i]? = some x → σ[i]? = some (some v) → Vis X.env.scope x → ∃ u, RelV v u ∧ Look X.env s.heap m x u
  cell : ∀ x c, X.env.cells.lookup x = some c → ∃ v, s.heap.IsCell c v
  free : H X.env.locals = none
  freeC : ∀ x c, X.env.cells.lookup x = some c → H c = none
  pin : ∀ p ∈ X.pn ++ pins, s.heap.get? p.1 = some p.2 ∧ H p.1 = none ∧ p.1 ≠ X.env.locals ∧ p.1 ∉ X.fs ∧ ∀ v, p.2.data ≠ .cell v
  hok : HOk X.prog X.w H s.heap
  len : σ.length = X.N.length
section
variable {X : Cx} {pins : List (Addr × Obj)} {σ : List (Option V)} {H H' : Hp} {s : Shared} {h' : Heap}
theorem Cx.Ok.nofr (ok : X.Ok) {b : Addr} {o : Obj} (e : X.base.get? b = some o) : b ∉ X.fs := fun hb => by
  have := (ok.funs.mem hb).1
  rw [e] at this; cases this
theorem Inv.bs (I : Inv X pins σ H s) : ∀ b o, X.base.get? b = some o → s.heap.get? b = some o ∧ H b = none := fun b o e =>
  ⟨I.base.keep b o (I.ok.bs b o e).1 (I.ok.bs b o e).2 (I.ok.nofr e) (I.ok.noex b o e), I.base.free b o (I.ok.bs b o e).1 (I.ok.bs b o e).2 (I.ok.noex b o e)⟩
theorem Inv.bk (I : Inv X pins σ H s) : ∀ b o, X.base.get? b = some o → s.heap.get? b = some o := fun b o e => (I.bs b o e).1
theorem Inv.mod (I : Inv X pins σ H s) : Mod X.K X.mg X.base := I.ok.mod
theorem Inv.kIn (I : Inv X pins σ H s) : X.K.In s.heap := I.ok.mod.kin.keeps I.bk
theorem Inv.nolimit (I : Inv X pins σ H s) : s.heap.NoLimit := I.ok.mod.nolimit.keeps I.bk
theorem Inv.fr (I : Inv X pins σ H s) : ∃ m, Fr X.base X.env.locals s.heap m :=
  let ⟨m, hn, _⟩ := I.loc
  ⟨m, hn, I.bk, Nat.le_trans I.ok.bsz I.ok.above⟩
theorem Inv.lt (I : Inv X pins σ H s) : X.env.locals < s.heap.objs.size := let ⟨_, hn, _⟩ := I.loc; hn.lt
theorem Inv.sz (I : Inv X pins σ H s) : X.s₀.heap.objs.size ≤ s.heap.objs.size := Nat.le_trans I.ok.above (Nat.le_of_lt I.lt)
theorem Inv.nofs (I : Inv X pins σ H s) {a : Addr} (h : s.heap.objs.size ≤ a) : a ∉ X.fs := fun hb => by
  obtain ⟨_, o, ho, _⟩ := I.ok.funs.mem hb
  exact absurd (Nat.lt_of_lt_of_le (Heap.lt_size ho) (Nat.le_trans I.sz h)) (Nat.lt_irrefl _)
theorem Inv.cne (I : Inv X pins σ H s) : ∀ x c, X.env.cells.lookup x = some c → c ≠ X.env.locals := fun x c e z => by
  obtain ⟨v, o, ho, hd⟩ := I.cell x c e
  obtain ⟨m, ⟨o', es, ep, ho', hd', _⟩, _⟩ := I.loc
  rw [z, ho'] at ho; cases ho; rw [hd'] at hd; cases hd
theorem Inv.funs (I : Inv X pins σ H s) : s.heap.FunFrames X.base X.outer := by
  have all : ∀ (l : List Env), (∀ b ∈ frs l, b ∈ X.fs) → X.s₀.heap.FunFrames X.base l → s.heap.FunFrames X.base l := by
    intro l
    induction l with
    | nil => intro _ _; trivial
    | cons env r ih =>
      intro hs hl
      obtain ⟨hk, ⟨L, o, hf, hn, ho, hd⟩, hr⟩ := hl
      have hL : L ∈ X.fs := hs L (by unfold frs; rw [List.filterMap_cons, hf]; exact List.mem_cons_self)
      obtain ⟨sl, e⟩ := I.base.slot L o ho (I.ok.frf L hL) hL fun z => I.ok.exfs L z hL
      exact ⟨hk, ⟨L, _, hf, hn, e, hd⟩, ih (fun b hb => hs b (by unfold frs; rw [List.filterMap_cons, hf]; exact List.mem_cons_of_mem _ hb)) hr⟩
  exact all X.outer (fun _ hb => hb) I.ok.funs
theorem Inv.stack (I : Inv X pins σ H s) : s.heap.FunFrames X.base X.stack := by
  rcases I.ok.stk with e | ⟨e, hf⟩
  · rw [e]; exact I.funs
  · rw [e]
    obtain ⟨m, hn, _⟩ := I.loc
    refine .cons (by rw [I.ok.kind]; decide) hf hn ?_ I.funs
    exact Heap.get?_none_of_le (Nat.le_trans I.ok.bsz I.ok.above)
theorem Inv.stkSub (I : Inv X pins σ H s) : ∀ b ∈ frs X.stack, b ∈ X.env.locals :: X.fs := fun b hb => by
  rcases I.ok.stk with e | ⟨e, hf⟩
  · rw [e] at hb; exact List.mem_cons_of_mem _ hb
  · rw [e] at hb
    unfold frs at hb
    rw [List.filterMap_cons, hf] at hb
    exact hb
theorem Inv.stkFree (I : Inv X pins σ H s) : ∀ b ∈ frs X.stack, H b = none := fun b hb => by
  rcases List.mem_cons.mp (I.stkSub b hb) with e | hb
  · rw [e]; exact I.free
  · obtain ⟨_, o, ho, _⟩ := I.ok.funs.mem hb
    exact I.base.free b o ho (I.ok.frf b hb) fun z => I.ok.exfs b z hb
theorem Inv.step {g' : Array GenState} {t' : Nat} {d' : Drawn} {ch : List Addr} (I : Inv X pins σ H s)
    (hch : ∀ b ∈ ch, (b ∈ X.ex ∨ X.s₀.heap.objs.size ≤ b) ∧ b ≠ X.env.locals ∧ (∀ x c, X.env.cells.lookup x = some c → c ≠ b) ∧ ∀ p ∈ X.pn ++ pins, p.1 ≠ b)
    (keep : ∀ b o, b ≠ X.env.locals → b ∉ X.fs → b ∉ ch → s.heap.get? b = some o → H b = none → h'.get? b = some o)
    (slot : ∀ b o, b ≠ X.env.locals → b ∈ X.fs → b ∉ ch → s.heap.get? b = some o → H b = none → ∃ sl, h'.get? b = some { o with slots := sl }) (free : ∀ b o, b ∉ ch → s.heap.get? b = some o → H b = none → H' b = none)
    (there : ∀ b o, b ∉ ch → s.heap.get? b = some o → ∃ o', h'.get? b = some o')
    (tups : ∀ b xs, H b = some (.tup xs) → H' b = some (.tup xs)) (frzs : ∀ b o u, H b = some (.frz o u) → H' b = some (.frz o u)) (tbls : ∀ b ps, H b = some (.tbl ps) → ∃ more, H' b = some (.tbl (ps ++ more)))
    (ns : ∀ m, s.heap.Ns X.env.locals m → h'.Ns X.env.locals m) (hok : HOk X.prog X.w H' h') (hg : AllBare g') :
    Inv X pins σ H' { s with heap := h', gens := g', drawn := d', toks := t' } := by
  have neL : ∀ b o, X.s₀.heap.get? b = some o → b ≠ X.env.locals := fun b o e => Nat.ne_of_lt (Nat.lt_of_lt_of_le (Heap.lt_size e) I.ok.above)
  have neC : ∀ b o, X.s₀.heap.get? b = some o → b ∉ X.ex → b ∉ ch := fun b o e hx hb => by
    rcases (hch b hb).1 with z | z
    · exact hx z
    · exact absurd (Nat.lt_of_lt_of_le (Heap.lt_size e) z) (Nat.lt_irrefl _)
  have cellK : ∀ x c, X.env.cells.lookup x = some c → ∀ v, s.heap.IsCell c v → h'.IsCell c v := fun x c e v ⟨o, ho, hd⟩ => by
    have nch : c ∉ ch := fun z => (hch c z).2.2.1 x c e rfl
    by_cases hc : c ∈ X.fs
    · obtain ⟨sl, q⟩ := slot c o (I.cne x c e) hc nch ho (I.freeC x c e)
      exact ⟨_, q, hd⟩
    · exact ⟨o, keep c o (I.cne x c e) hc nch ho (I.freeC x c e), hd⟩
  refine ⟨I.ok, I.os, hg, ⟨fun b o e n hb hx => ?_, fun b o e n hb hx => ?_, fun b o e n hx => ?_, fun b o e hx => ?_, fun b xs e => tups b xs (I.base.tups b xs e), fun b o xs e => frzs b o xs (I.base.frzs b o xs e), fun b ps e => ?_⟩, ?_, fun x c e => ?_, ?_, fun x c e => ?_, fun p hp => ?_, hok, I.len⟩
  · exact keep b o (neL b o e) hb (neC b o e hx) (I.base.keep b o e n hb hx) (I.base.free b o e n hx)
  · obtain ⟨sl, e1⟩ := I.base.slot b o e n hb hx
    obtain ⟨sl', e2⟩ := slot b _ (neL b o e) hb (neC b o e hx) e1 (I.base.free b o e n hx)
    exact ⟨sl', e2⟩
  · obtain ⟨o', e1⟩ := I.base.there b o e hx
    exact free b o' (neC b o e hx) e1 (I.base.free b o e n hx)
  · obtain ⟨o', e1⟩ := I.base.there b o e hx
    exact there b o' (neC b o e hx) e1
  · obtain ⟨m1, e1⟩ := I.base.tbls b ps e
    obtain ⟨m2, e2⟩ := tbls b _ e1
    exact ⟨m1 ++ m2, by rw [e2, Array.append_assoc]⟩
  · obtain ⟨m, hn, hl⟩ := I.loc
    refine ⟨m, ns m hn, fun i x v e1 e2 e3 => ?_⟩
    obtain ⟨u, r, l⟩ := hl i x v e1 e2 e3
    refine ⟨u, r, ?_⟩
    rcases l with l | ⟨k, c, e, z⟩
    · exact .inl l
    · exact .inr ⟨k, c, e, cellK x c e _ z⟩
  · obtain ⟨v, z⟩ := I.cell x c e
    exact ⟨v, cellK x c e v z⟩
  · obtain ⟨m, ⟨o, _, _, ho, _⟩, _⟩ := I.loc
    exact free _ o (fun z => (hch _ z).2.1 rfl) ho I.free
  · obtain ⟨v, o, ho, hd⟩ := I.cell x c e
    exact free c o (fun z => (hch c z).2.2.1 x c e rfl) ho (I.freeC x c e)
  · obtain ⟨e, n, ne, nf, d⟩ := I.pin p hp
    have nch : p.1 ∉ ch := fun z => (hch p.1 z).2.2.2 p hp rfl
    exact ⟨keep p.1 p.2 ne nf nch e n, free p.1 p.2 nch e n, ne, nf, d⟩
theorem Inv.un {t' : Nat} (I : Inv X pins σ H s) (u : Un X.fs [] H H' s.heap h') (hok : HOk X.prog X.w H' h') : Inv X pins σ H' { s with heap := h', toks := t' } := by
  obtain ⟨m, ⟨o, es, ep, ho, r⟩, _⟩ := id I.loc
  obtain ⟨sl, hL⟩ := u.any ho I.free (by simp)
  exact I.step (g' := s.gens) (d' := s.drawn) (ch := []) (fun _ z => nomatch z) (fun b o _ hb _ e n => u.keep b o e n hb (by simp)) (fun b o _ hb _ e n => u.slot b o e n hb (by simp)) (fun b o _ e n => u.free b o e n (by simp)) (fun b o _ e => u.there b o e (by simp)) u.tups u.frzs u.tbls (fun m' hm => by
    obtain ⟨o', es', ep', ho', r'⟩ := hm
    rw [ho] at ho'; cases ho'
    exact ⟨_, es', ep', hL, r'⟩) hok I.bare
theorem Inv.call {g' : Array GenState} {t' : Nat} {d' : Drawn} {ch : List Addr} (I : Inv X pins σ H s) (u : Un (frs X.stack) ch H H' s.heap h') (hok : HOk X.prog X.w H' h') (hg : AllBare g')
    (hch : ∀ b ∈ ch, (b ∈ X.ex ∨ X.s₀.heap.objs.size ≤ b) ∧ b ≠ X.env.locals ∧ (∀ x c, X.env.cells.lookup x = some c → c ≠ b) ∧ ∀ p ∈ X.pn ++ pins, p.1 ≠ b) :
    Inv X pins σ H' { s with heap := h', gens := g', drawn := d', toks := t' } := by
  obtain ⟨m, ⟨o, es, ep, ho, r⟩, _⟩ := id I.loc
  obtain ⟨sl, hL⟩ := u.any ho I.free fun z => (hch _ z).2.1 rfl
  exact I.step (ch := ch) hch (fun b o hL hb hc e n => u.keep b o e n (fun z => (List.mem_cons.mp (I.stkSub b z)).elim hL hb) hc) (fun b o _ _ hc e n => u.any e n hc) (fun b o hc e n => u.free b o e n hc) (fun b o hc e => u.there b o e hc) u.tups u.frzs u.tbls (fun m' hm => by
    obtain ⟨o', es', ep', ho', r'⟩ := hm
    rw [ho] at ho'; cases ho'
    exact ⟨_, es', ep', hL, r'⟩) hok hg
theorem Inv.turned {t' : Nat} {it : Addr} (I : Inv X pins σ H s) (k : ∀ b o, b ≠ it → s.heap.get? b = some o → h'.get? b = some o) (hn : H it = none) (hL : it ≠ X.env.locals)
    (h1 : it ∈ X.ex ∨ X.s₀.heap.objs.size ≤ it) (h2 : ∀ x c, X.env.cells.lookup x = some c → c ≠ it) (h3 : ∀ p ∈ X.pn ++ pins, p.1 ≠ it) : Inv X pins σ H { s with heap := h', toks := t' } := by
  have nit : ∀ b u, H b = some u → b ≠ it := fun b u e z => by rw [z, hn] at e; cases e
  refine I.step (g' := s.gens) (d' := s.drawn) (ch := [it]) (fun b hb => ?_) (fun b o _ _ hc e _ => k b o (fun z => hc (by simp [z])) e) (fun b o _ _ hc e _ => ⟨o.slots, k b o (fun z => hc (by simp [z])) e⟩) (fun _ _ _ _ n => n)
    (fun b o hc e => ⟨o, k b o (fun z => hc (by simp [z])) e⟩) (fun _ _ e => e) (fun _ _ _ e => e) (fun b ps e => ⟨#[], by rw [e]; simp⟩) (fun m hm => ?_) (fun b u e => ?_) I.bare
  · have e : b = it := by simpa using hb
    subst e
    exact ⟨h1, hL, h2, h3⟩
  · obtain ⟨o, es, ep, ho, r⟩ := hm
    exact ⟨o, es, ep, k _ o (Ne.symm hL) ho, r⟩
  · refine (I.hok b u e).stay (fun c v hc q => k c v ?_ q) (fun _ q => q) fun _ _ q => q
    rcases hc with z | z
    · rw [z]; exact nit b u e
    · exact nit c _ z
theorem Inv.tok (I : Inv X pins σ H s) (t : Nat) : Inv X pins σ H { s with toks := t } := I.un (h' := s.heap) (t' := t) Un.refl I.hok
theorem Inv.kept {t' : Nat} (I : Inv X pins σ H s) (k : ∀ b u, s.heap.get? b = some u → h'.get? b = some u) : Inv X pins σ H { s with heap := h', toks := t' } := I.un (Un.kept k) (I.hok.kept k)
theorem Inv.laid {a : Addr} {o : HO} {t' : Nat} (I : Inv X pins σ H s) (k : ∀ b u, s.heap.get? b = some u → h'.get? b = some u) (hp : s.heap.objs.size ≤ a) (new : ObjOk X.prog X.w (upd H a o) h' a o) :
    Inv X pins σ (upd H a o) { s with heap := h', toks := t' } := I.un (Un.laid k hp (I.hok.fresh hp)) (I.hok.laid k hp new)
theorem Inv.write {x e : Addr} {o : HO} {t' : Nat} (I : Inv X pins σ H s) (mu : Mut (H x)) (he : e = x ∨ H e = some (.own x)) (k : ∀ b u, b ≠ e → s.heap.get? b = some u → h'.get? b = some u) (heo : ∃ u, h'.get? e = some u)
    (new : ObjOk X.prog X.w (upd H x o) h' x o) : Inv X pins σ (upd H x o) { s with heap := h', toks := t' } := I.un (Un.write mu he k heo) (I.hok.write mu he k heo new)
theorem Inv.weak {σ' : List (Option V)} (I : Inv X pins σ H s) (hl : σ'.length = σ.length) (w : ∀ (i : Nat) v, σ'[i]? = some (some v) → σ[i]? = some (some v)) : Inv X pins σ' H s :=
  ⟨I.ok, I.os, I.bare, I.base, let ⟨m, hn, hl'⟩ := I.loc; ⟨m, hn, fun i x v e1 e2 e3 => hl' i x v e1 (w i v e2) e3⟩, I.cell, I.free, I.freeC, I.pin, I.hok, hl.trans I.len⟩
theorem Inv.pins_of {pins' : List (Addr × Obj)} (I : Inv X pins σ H s) (h : ∀ p ∈ pins', s.heap.get? p.1 = some p.2 ∧ H p.1 = none ∧ p.1 ≠ X.env.locals ∧ p.1 ∉ X.fs ∧ ∀ v, p.2.data ≠ .cell v) : Inv X pins' σ H s :=
  ⟨I.ok, I.os, I.bare, I.base, I.loc, I.cell, I.free, I.freeC, fun p hp => (List.mem_append.mp hp).elim (fun z => I.pin p (List.mem_append_left _ z)) (h p), I.hok, I.len⟩
theorem nodup_ix {N : List Str} (hN : N.Nodup) {i j : Nat} {x : Str} (a : N[i]? = some x) (b : N[j]? = some x) : i = j := by
  obtain ⟨h1, e1⟩ := List.getElem?_eq_some_iff.mp a
  obtain ⟨h2, e2⟩ := List.getElem?_eq_some_iff.mp b
  exact (List.getElem_inj hN).mp (e1.trans e2.symm)
theorem store_ok2 {M : Model} {A : Around} {E : Value → Shared → Prop} {i : Nat} {x : Str} {v : V} {u : Value} {Q : Unit → Shared → Prop} (I : Inv X pins σ H s) (hN : X.N.Nodup) (hi : X.N[i]? = some x) (hx : Loc X.env.scope x) (r : RelV v u)
    (h : ∀ s', Inv X pins (σ.set i (some v)) H s' → (∃ a, Heap.SameBut a s.heap s'.heap ∧ (a = X.env.locals ∨ X.env.cells.lookup x = some a)) → Q () s') (hf : X.fn x = true ∨ X.env.scope.names.lookup x = some .local := by first | exact .inl rfl | exact .inr rfl | assumption) : wpAny M A (storeName X.env x u) Q E s := by
  obtain ⟨m, hn, hl⟩ := id I.loc
  have hcls : (X.env.scope.kind == .class || (X.env.scope.kind == .module && X.env.locals != X.env.globals)) = false := by rw [I.ok.kind]; rfl
  have hiσ : i < σ.length := by rw [I.len]; exact (List.getElem?_eq_some_iff.mp hi).1
  have cne := I.cne
  have tracked : ∀ {a : Addr} {h' : Heap}, (∃ o, s.heap.get? a = some o ∧ H a = none) → Heap.SameBut a s.heap h' → HOk X.prog X.w H h' := fun {a h'} ha hs b ob e => by
    obtain ⟨_, _, hfree⟩ := ha
    refine (I.hok b ob e).stay (fun c w' hc q => (hs.2 c ?_).trans q) (fun _ q => q) fun _ _ q => q
    rintro rfl
    rcases hc with rfl | hc
    · rw [hfree] at e; cases e
    · rw [hfree] at hc; cases hc
  rcases hx with hk | hk
  · refine wpAny_storeName_local hk hn (fun h' hn' hs => ?_) hcls
    obtain ⟨oL, _, _, hoL, _⟩ := id hn
    refine h _ ⟨I.ok, I.os, I.bare, ⟨fun b o e n hb hx => ?_, fun b o e n hb hx => ?_, I.base.free, fun b o e hx => ?_, I.base.tups, I.base.frzs, I.base.tbls⟩, ⟨_, hn', fun j y v' e1 e2 e3 => ?_⟩, fun y c e => ?_, I.free, I.freeC, fun p hp => ?_, tracked ⟨oL, hoL, I.free⟩ hs, by simpa using I.len⟩ ⟨_, hs, .inl rfl⟩
    · exact (hs.2 b (Nat.ne_of_lt (Nat.lt_of_lt_of_le (Heap.lt_size e) I.ok.above))).trans (I.base.keep b o e n hb hx)
    · obtain ⟨sl, e1⟩ := I.base.slot b o e n hb hx
      exact ⟨sl, (hs.2 b (Nat.ne_of_lt (Nat.lt_of_lt_of_le (Heap.lt_size e) I.ok.above))).trans e1⟩
    · obtain ⟨o', e1⟩ := I.base.there b o e hx
      exact ⟨o', (hs.2 b (Nat.ne_of_lt (Nat.lt_of_lt_of_le (Heap.lt_size e) I.ok.above))).trans e1⟩
    · by_cases hj : j = i
      · subst hj
        rw [hi] at e1; cases e1
        rw [List.getElem?_set_self hiσ] at e2
        cases e2
        exact ⟨u, r, .inl ⟨hk, by simp⟩⟩
      · rw [List.getElem?_set_ne (Ne.symm hj)] at e2
        obtain ⟨u', r', q⟩ := hl j y v' e1 e2 e3
        refine ⟨u', r', ?_⟩
        rcases q with ⟨k, e⟩ | ⟨k, c, e, z⟩
        · refine .inl ⟨k, ?_⟩
          have : y ≠ x := fun e => hj (nodup_ix hN e1 (e ▸ hi))
          simp [this, e]
        · exact .inr ⟨k, c, e, z.sameBut hs (cne y c e)⟩
    · obtain ⟨w', z⟩ := I.cell y c e
      exact ⟨w', z.sameBut hs (cne y c e)⟩
    · obtain ⟨e, n, ne, nf, d⟩ := I.pin p hp
      exact ⟨(hs.2 p.1 ne).trans e, n, ne, nf, d⟩
  · have hfn : X.fn x = true := by
      rcases hf with z | z
      · exact z
      · rw [z] at hk; cases hk
    obtain ⟨c, hc⟩ := I.ok.has x (.inl hk)
    obtain ⟨w', z⟩ := I.cell x c hc
    refine wpAny_storeName_cell I.ok.kind hk hc z (fun h' hc' hs => ?_)
    obtain ⟨oc, hoc, hocd⟩ := id z
    refine h { s with heap := h' } ⟨I.ok, I.os, I.bare, ⟨fun b o e n hb hx => ?_, fun b o e n hb hx => ?_, I.base.free, fun b o e hx => ?_, I.base.tups, I.base.frzs, I.base.tbls⟩, ⟨m, hn.sameBut hs (Ne.symm (cne x c hc)), fun j y v' e1 e2 e3 => ?_⟩, fun y c' e => ?_, I.free, I.freeC, fun p hp => ?_, tracked ⟨oc, hoc, I.freeC x c hc⟩ hs, by simpa using I.len⟩ ⟨c, hs, .inr hc⟩
    · exact (hs.2 b (Nat.ne_of_lt (Nat.lt_of_lt_of_le (Heap.lt_size e) (I.ok.cab x c hfn hc)))).trans (I.base.keep b o e n hb hx)
    · obtain ⟨sl, e1⟩ := I.base.slot b o e n hb hx
      exact ⟨sl, (hs.2 b (Nat.ne_of_lt (Nat.lt_of_lt_of_le (Heap.lt_size e) (I.ok.cab x c hfn hc)))).trans e1⟩
    · obtain ⟨o', e1⟩ := I.base.there b o e hx
      exact ⟨o', (hs.2 b (Nat.ne_of_lt (Nat.lt_of_lt_of_le (Heap.lt_size e) (I.ok.cab x c hfn hc)))).trans e1⟩
    · by_cases hj : j = i
      · subst hj
        rw [hi] at e1; cases e1
        rw [List.getElem?_set_self hiσ] at e2
        cases e2
        exact ⟨u, r, .inr ⟨.inl hk, c, hc, hc'⟩⟩
      · rw [List.getElem?_set_ne (Ne.symm hj)] at e2
        obtain ⟨u', r', q⟩ := hl j y v' e1 e2 e3
        refine ⟨u', r', ?_⟩
        rcases q with q | ⟨k, c', e, z'⟩
        · exact .inl q
        · refine .inr ⟨k, c', e, z'.sameBut hs ?_⟩
          rintro rfl
          exact hj (nodup_ix hN e1 (I.ok.inj _ _ _ e hc ▸ hi))
    · by_cases hcc : c' = c
      · subst hcc; exact ⟨_, hc'⟩
      · obtain ⟨w2, z2⟩ := I.cell y c' e
        exact ⟨w2, z2.sameBut hs hcc⟩
    · obtain ⟨e, n, ne, nf, d⟩ := I.pin p hp
      refine ⟨(hs.2 p.1 ?_).trans e, n, ne, nf, d⟩
      intro q
      rw [q, hoc] at e
      have q' : oc = p.2 := Option.some.inj e
      exact d w' (by rw [← q']; exact hocd)
theorem store_ok {M : Model} {A : Around} {E : Value → Shared → Prop} {i : Nat} {x : Str} {v : V} {u : Value} {Q : Unit → Shared → Prop} (I : Inv X pins σ H s) (hN : X.N.Nodup) (hi : X.N[i]? = some x) (hx : Loc X.env.scope x) (r : RelV v u)
    (h : ∀ s', Inv X pins (σ.set i (some v)) H s' → Q () s') (hf : X.fn x = true ∨ X.env.scope.names.lookup x = some .local := by first | exact .inl rfl | exact .inr rfl | assumption) : wpAny M A (storeName X.env x u) Q E s :=
  store_ok2 I hN hi hx r (fun s' I' _ => h s' I') hf
theorem Inv.call' {s' : Shared} {ch : List Addr} (I : Inv X pins σ H s) (ho : s'.os = s.os) (u : Un (frs X.stack) ch H H' s.heap s'.heap) (hok : HOk X.prog X.w H' s'.heap) (hg : AllBare s'.gens)
    (hch : ∀ b ∈ ch, (b ∈ X.ex ∨ X.s₀.heap.objs.size ≤ b) ∧ b ≠ X.env.locals ∧ (∀ x c, X.env.cells.lookup x = some c → c ≠ b) ∧ ∀ p ∈ X.pn ++ pins, p.1 ≠ b) : Inv X pins σ H' s' := by
  obtain ⟨h', g', d', t', o'⟩ := s'
  have e : o' = s.os := ho
  subst e
  exact I.call (g' := g') (t' := t') (d' := d') u hok hg hch
end
noncomputable abbrev XK := Value → Option Addr → Hp → Prop
noncomputable abbrev St := List (Option V)
noncomputable abbrev VK := V → Hp → Prop
noncomputable abbrev TE := St → Hp → VK → Prop
noncomputable abbrev TT := St → Hp → (Bool → Hp → Prop) → Prop
noncomputable abbrev TA := St → Hp → (List V → Hp → Prop) → Prop
structure Ends where
  nx : St → Hp → Prop
  rt : VK
  bk : St → Hp → Prop := fun _ _ => False
  ct : St → Hp → Prop := fun _ _ => False
noncomputable abbrev TS := Ends → St → Hp → Prop
noncomputable def EP (X : Cx) (pins : List (Addr × Obj)) (σ : St) (Q : VK) (u : Value) (s' : Shared) : Prop := ∃ v H', Inv X pins σ H' s' ∧ RelV v u ∧ Q v H'
noncomputable def TP (X : Cx) (pins : List (Addr × Obj)) (σ : St) (Q : Bool → Hp → Prop) (b : Bool) (s' : Shared) : Prop := ∃ H', Inv X pins σ H' s' ∧ Q b H'
noncomputable def AP (X : Cx) (pins : List (Addr × Obj)) (σ : St) (Q : List V → Hp → Prop) (us : List Value) (s' : Shared) : Prop := ∃ vs H', Inv X pins σ H' s' ∧ Vals vs us ∧ Q vs H'
noncomputable def SP (X : Cx) (pins : List (Addr × Obj)) (D : Ends) (f : Flow) (s' : Shared) : Prop :=
  match f with
  | .next => ∃ σ' H', Inv X pins σ' H' s' ∧ D.nx σ' H'
  | .brk => ∃ σ' H', Inv X pins σ' H' s' ∧ D.bk σ' H'
  | .cont => ∃ σ' H', Inv X pins σ' H' s' ∧ D.ct σ' H'
  | .ret u => ∃ v σ' H', Inv X pins σ' H' s' ∧ RelV v u ∧ D.rt v H'
noncomputable def PE (X : Cx) (e : Expr) (t : TE) : Prop :=
  ∀ (pins : List (Addr × Obj)) (s : Shared) (σ : St) (H : Hp) (Q : VK), Inv X pins σ H s → t σ H Q → wpAny (model X.prog X.w) X.A (eval e X.env) (EP X pins σ Q) X.xe s
noncomputable def PT (X : Cx) (e : Expr) (t : TT) : Prop :=
  ∀ (pins : List (Addr × Obj)) (s : Shared) (σ : St) (H : Hp) (Q : Bool → Hp → Prop), Inv X pins σ H s → t σ H Q → wpAny (model X.prog X.w) X.A (isTrue e X.env (eval e X.env)) (TP X pins σ Q) X.xe s
noncomputable def PW (X : Cx) (e : Expr) (t : TT) : Prop :=
  ∀ (whole : Sem Value) (pins : List (Addr × Obj)) (s : Shared) (σ : St) (H : Hp) (Q : Bool → Hp → Prop), Inv X pins σ H s → t σ H Q → wpAny (model X.prog X.w) X.A (isTrue e X.env whole) (TP X pins σ Q) X.xe s
theorem PW.pt {X : Cx} {e : Expr} {t : TT} (h : PW X e t) : PT X e t := h _
noncomputable def PA (X : Cx) (es : List Expr) (t : TA) : Prop :=
  ∀ (pos : Pos) (pins : List (Addr × Obj)) (s : Shared) (σ : St) (H : Hp) (Q : List V → Hp → Prop), Inv X pins σ H s → t σ H Q → wpAny (model X.prog X.w) X.A (spliced (backTo pos (starEach es X.env))) (AP X pins σ Q) X.xe s
noncomputable def PS (X : Cx) (st : Stmt) (t : TS) : Prop :=
  ∀ (pins : List (Addr × Obj)) (s : Shared) (σ : St) (H : Hp) (D : Ends), Inv X pins σ H s → t D σ H → wpAny (model X.prog X.w) X.A (exec st X.env) (SP X pins D) X.xe s
noncomputable def PSs (X : Cx) (st : List Stmt) (t : TS) : Prop :=
  ∀ (pins : List (Addr × Obj)) (s : Shared) (σ : St) (H : Hp) (D : Ends), Inv X pins σ H s → t D σ H → wpAny (model X.prog X.w) X.A (execs st X.env) (SP X pins D) X.xe s
theorem thn {α : Type} {t : Sem α} {Q Q' : α → Shared → Prop} {M : Model} {A : Around} {E : Value → Shared → Prop} {s : Shared} (h : wpAny M A t Q E s) (hQ : ∀ a s, Q a s → Q' a s) : wpAny M A t Q' E s := wpAny_mono h hQ fun _ _ x => x
end L2
namespace L2
open PySem PySem.Spec PyProof.Rows
section
variable {X : Cx}
noncomputable def tVar (i : Nat) : TE := fun σ H Q => ∃ v, σ[i]? = some (some v) ∧ Q v H
noncomputable def tC (v : V) : TE := fun _ H Q => Q v H
theorem pe_var {i : Nat} {x : Str} {pos : Pos} (hN : X.N[i]? = some x) (hv : Vis X.env.scope x) (hd : (x == ("__debug__" : Str)) = false := by decide) (hcd : (x == ("__classdict__" : Str)) = false := by decide) : PE X (.Name x pos) (tVar i) := by
  intro pins s σ H Q I h
  obtain ⟨v, e, h⟩ := h
  obtain ⟨m, hn, hl⟩ := I.loc
  obtain ⟨u, r, l⟩ := hl i x v hN e hv
  have fin : EP X pins σ Q u s := ⟨v, H, I, r, h⟩
  rcases l with ⟨hk, hm⟩ | ⟨hk, c, hc, hcell⟩
  · exact wpAny_Name (wpAny_loadName_local I.ok.kind hk hn hm fin) hd
  · rcases hk with hk | hk
    · exact wpAny_Name (wpAny_loadName_cell I.ok.kind hk hc hcell fin) hd
    · exact wpAny_Name (wpAny_loadName_free I.ok.kind hk hc hcell fin hcd) hd
theorem pe_int {i j pos} : PE X (.Constant (.int i) j pos) (tC (.int i)) := fun _ _ _ H _ I h => wpAny_Constant_int ⟨.int i, H, I.tok _, ⟨_, rfl⟩, h⟩
theorem pe_non {j pos} : PE X (.Constant .none j pos) (tC .non) := fun _ _ _ H _ I h => Constant_none ⟨.non, H, I, rfl, h⟩
theorem pe_str {x j pos} : PE X (.Constant (.str x) j pos) (tC (.str x)) := fun _ _ _ H _ I h => Calls.Constant_str ⟨.str x, H, I.tok _, ⟨_, rfl⟩, h⟩
noncomputable def Gl (X : Cx) (x : Str) : Prop := X.env.kindOf x = some .globalImplicit
theorem ld_glob {E : Value → Shared → Prop} {pins : List (Addr × Obj)} {s : Shared} {σ : St} {H : Hp} {x : Str} {u : Value} {pos : Pos} {Q : Value → Shared → Prop} (I : Inv X pins σ H s) (hg : Gl X x) (hm : X.mg x = some u) (h : Q u s)
    (hd : (x == ("__debug__" : Str)) = false := by decide) : wpAny (model X.prog X.w) X.A (eval (.Name x pos) X.env) Q E s :=
  Calls.Name_function_global I.ok.kind hg (Calls.loadGlobal_global (by rw [I.ok.glob]; exact I.mod.glob.keeps I.bk) hm h) hd
theorem ld_blt {E : Value → Shared → Prop} {pins : List (Addr × Obj)} {s : Shared} {σ : St} {H : Hp} {x : Str} {u : Value} {pos : Pos} {Q : Value → Shared → Prop} (I : Inv X pins σ H s) (hg : Gl X x) (hm : X.mg x = none) (hv : bootBuiltins x = some u) (h : Q u s)
    (hn : x ≠ "__name__" := by decide) (hd : (x == ("__debug__" : Str)) = false := by decide) : wpAny (model X.prog X.w) X.A (eval (.Name x pos) X.env) Q E s := by
  obtain ⟨mb, h1, h2⟩ := I.mod.blt
  exact Calls.Name_function_global I.ok.kind hg (Calls.loadGlobal_builtin (by rw [I.ok.glob]; exact I.mod.glob.keeps I.bk) hm (by rw [I.ok.blt]; exact h1.keeps I.bk) ((h2 x hn).trans hv) h) hd
variable {a b : Expr} {ta tb : TE} {pos : Pos}
noncomputable def tB (t : TE) : TT := fun σ H Q => t σ H fun x H1 => ∃ c, x = .bl c ∧ Q c H1
theorem pt_val {e : Expr} {t : TE} (h : PE X e t) (he : ∀ whole, isTrue e X.env whole = (do let v ← whole; standAt e.pos; holding [v] (truthy v)) := by intro _; rfl) : PT X e (tB t) := by
  intro pins s σ H Q I hw
  refine isTrue_plain (thn (h pins s σ H _ I hw) fun v s1 ⟨x, H1, I1, r1, q1⟩ => ?_) (he _)
  obtain ⟨d, rfl, q⟩ := q1
  cases r1
  exact wpAny_truthy_bool ⟨H1, I1, q⟩
variable {tA tB' : TT} {rest : List Expr}
noncomputable def tAnd (t u : TT) : TT := fun σ H Q => t σ H fun c H1 => if c = true then u σ H1 Q else Q false H1
noncomputable def tOr (t u : TT) : TT := fun σ H Q => t σ H fun c H1 => if c = true then Q true H1 else u σ H1 Q
noncomputable def tNot (t : TT) : TT := fun σ H Q => t σ H fun c H1 => Q (!c) H1
theorem pw_and1 (ha : PT X a tA) : PW X (.BoolOp .And [a] pos) tA := by
  intro wh pins s σ H Q I h
  refine isTrue_and (thn (ha pins s σ H Q I h) fun c s1 e => ?_)
  cases c with
  | true => exact isTrue_and_nil e
  | false => exact e
theorem pw_and (ha : PT X a tA) (hb : PW X (.BoolOp .And (b :: rest) pos) tB') : PW X (.BoolOp .And (a :: b :: rest) pos) (tAnd tA tB') := by
  intro wh pins s σ H Q I h
  refine isTrue_and (thn (ha pins s σ H _ I h) fun c s1 ⟨H1, I1, q1⟩ => ?_)
  cases c with
  | true => exact hb wh pins s1 σ H1 Q I1 q1
  | false => exact ⟨H1, I1, q1⟩
noncomputable def tAndV (ta tb : TE) : TE := fun σ H Q => ta σ H fun x H1 => ∃ c, x = .bl c ∧ if c = true then tb σ H1 Q else Q (.bl false) H1
noncomputable def tOrV (ta tb : TE) : TE := fun σ H Q => ta σ H fun x H1 => ∃ c, x = .bl c ∧ if c = true then Q (.bl true) H1 else tb σ H1 Q
noncomputable def tNotV (ta : TE) : TE := fun σ H Q => ta σ H fun x H1 => ∃ c, x = .bl c ∧ Q (.bl (!c)) H1
theorem pe_not (ha : PE X a ta) : PE X (.UnaryOp .Not a pos) (tNotV ta) := by
  intro pins s σ H Q I h
  refine UnaryOp_ (thn (ha pins s σ H _ I h) fun v s1 ⟨x, H1, I1, r1, q1⟩ => ?_)
  obtain ⟨c, rfl, q1⟩ := q1
  cases r1
  exact not_of (wpAny_truthy_bool ⟨.bl (!c), H1, I1, rfl, q1⟩)
noncomputable def tIf (t : TT) (ta tb : TE) : TE := fun σ H Q => t σ H fun c H1 => if c = true then ta σ H1 Q else tb σ H1 Q
theorem pe_ifExp {c : Expr} (hc : PT X c tA) (ha : PE X a ta) (hb : PE X b tb) : PE X (.IfExp c a b pos) (tIf tA ta tb) := by
  intro pins s σ H Q I h
  refine wpAny_IfExp (thn (hc pins s σ H _ I h) fun d s1 ⟨H1, I1, q1⟩ => ?_)
  cases d with
  | true => exact ha pins s1 σ H1 Q I1 q1
  | false => exact hb pins s1 σ H1 Q I1 q1
end
end L2
namespace L2
open PySem PySem.Spec PyProof.Rows
noncomputable def SqL (K : PySem.W.Frag) (H : Hp) (a : Addr) (xs : List V) : Prop :=
  Rd H a (.lst xs) ∨
    ∃ (o : Obj) (its : Array Value) (n : Nat), K.lookup a = some o ∧ o.cls = .type "list" ∧ o.dict = none ∧ o.data = .seq its n ∧ its.size ≤ sizeLine ∧ Vals xs its.toList
noncomputable def SqT (K : PySem.W.Frag) (H : Hp) (a : Addr) (xs : List V) : Prop :=
  Rd H a (.tup xs) ∨
    ∃ (o : Obj) (its : Array Value) (n : Nat), K.lookup a = some o ∧ o.cls = .type "tuple" ∧ o.data = .seq its n ∧ its.size ≤ sizeLine ∧ Vals xs its.toList
noncomputable def absV : Value → Option V
  | .none => some .non
  | .bool b => some (.bl b)
  | .int i _ => some (.int i)
  | .str x _ => some (.str x)
  | .bytes b _ => some (.byt b)
  | .float b _ => some (.flt b)
  | .ref a => some (.ref a)
  | .type n => some (.ty n)
  | _ => none
theorem RelV.abs {x : V} {u : Value} (r : RelV x u) : absV u = some x := by
  cases x with
  | non => cases r; rfl
  | bl _ => cases r; rfl
  | int _ => obtain ⟨t, rfl⟩ := r; rfl
  | str _ => obtain ⟨t, rfl⟩ := r; rfl
  | byt _ => obtain ⟨t, rfl⟩ := r; rfl
  | flt _ => obtain ⟨t, rfl⟩ := r; rfl
  | ref _ => cases r; rfl
  | ty _ => cases r; rfl
theorem RelV.inj {x y : V} {u : Value} (r : RelV x u) (q : RelV y u) : x = y := Option.some.inj (r.abs.symm.trans q.abs)
theorem Vals.inj : ∀ {xs ys : List V} {us : List Value}, Vals xs us → Vals ys us → xs = ys
  | _, _, _, .nil, .nil => rfl
  | _, _, _, .cons r t, .cons r' t' => by rw [r.inj r', Vals.inj t t']
section
variable {X : Cx} {pins : List (Addr × Obj)} {σ : St} {H : Hp} {s : Shared} {a : Addr} {xs ys : List V}
theorem SqL.of {K : PySem.W.Frag} (h : H a = some (.lst xs)) : SqL K H a xs := .inl (.inl h)
theorem SqT.of {K : PySem.W.Frag} (h : H a = some (.tup xs)) : SqT K H a xs := .inl (.inl h)
theorem Inv.list (I : Inv X pins σ H s) (h : SqL X.K H a xs) : ∃ its : List Value, Vals xs its ∧ PlainL s.heap a its.toArray ∧ xs.length ≤ sizeLine := by
  rcases h with h | ⟨o, its, n, hk, hc, hd, hs, hz, r⟩
  · obtain ⟨z, its, n, r, e⟩ := h.ok I.hok
    exact ⟨its, r, ⟨_, n, e, rfl, rfl, rfl⟩, z⟩
  · refine ⟨its.toList, r, ⟨o, n, I.kIn a o hk, hc, hd, by simpa using hs⟩, ?_⟩
    have e := r.length
    simp only [Array.length_toList] at e
    omega
theorem Inv.tuple (I : Inv X pins σ H s) (h : SqT X.K H a xs) : ∃ its : List Value, Vals xs its ∧ IsTup s.heap a its.toArray ∧ xs.length ≤ sizeLine := by
  rcases h with h | ⟨o, its, n, hk, hc, hs, hz, r⟩
  · obtain ⟨z, its, r, p⟩ := h.ok I.hok
    exact ⟨its, r, p.1, z⟩
  · refine ⟨its.toList, r, ⟨o, I.kIn a o hk, hc, n, by simpa using hs⟩, ?_⟩
    have e := r.length
    simp only [Array.length_toList] at e
    omega
theorem Inv.list_inj (I : Inv X pins σ H s) (h : SqL X.K H a xs) (h' : SqL X.K H a ys) : xs = ys := by
  obtain ⟨its, r, ⟨o, n, e, _, _, d⟩, _⟩ := I.list h
  obtain ⟨its', r', ⟨o', n', e', _, _, d'⟩, _⟩ := I.list h'
  rw [e] at e'; cases e'
  rw [d] at d'
  injection d' with d1 _
  have : its = its' := by simpa using congrArg Array.toList d1
  subst this
  exact r.inj r'
theorem Inv.tuple_inj (I : Inv X pins σ H s) (h : SqT X.K H a xs) (h' : SqT X.K H a ys) : xs = ys := by
  obtain ⟨its, r, ⟨o, e, _, n, d⟩, _⟩ := I.tuple h
  obtain ⟨its', r', ⟨o', e', _, n', d'⟩, _⟩ := I.tuple h'
  rw [e] at e'; cases e'
  rw [d] at d'
  injection d' with d1 _
  have : its = its' := by simpa using congrArg Array.toList d1
  subst this
  exact r.inj r'
end
noncomputable abbrev Cx.wish (X : Cx) (E : Value → Shared → Prop) : Cx := { X with xe := E }
noncomputable abbrev Cx.nox (X : Cx) : Cx := X.wish fun _ _ => False
theorem Cx.Ok.wish {X : Cx} (ok : X.Ok) (E : Value → Shared → Prop) : (X.wish E).Ok :=
  ⟨ok.mod, ok.kind, ok.glob, ok.blt, ok.above, ok.inj, ok.has, ok.cab, ok.hd, ok.frames, ok.stk, ok.exf, ok.bs, ok.bsz, ok.noex, ok.exfs, ok.funs, ok.frf⟩
theorem Cx.Ok.unwish {X : Cx} {E : Value → Shared → Prop} (ok : (X.wish E).Ok) : X.Ok :=
  ⟨ok.mod, ok.kind, ok.glob, ok.blt, ok.above, ok.inj, ok.has, ok.cab, ok.hd, ok.frames, ok.stk, ok.exf, ok.bs, ok.bsz, ok.noex, ok.exfs, ok.funs, ok.frf⟩
section
variable {X : Cx} {pins : List (Addr × Obj)} {σ : St} {H : Hp} {s : Shared} {E : Value → Shared → Prop}
theorem Inv.wish (I : Inv X pins σ H s) (E : Value → Shared → Prop) : Inv (X.wish E) pins σ H s := ⟨I.ok.wish E, I.os, I.bare, I.base, I.loc, I.cell, I.free, I.freeC, I.pin, I.hok, I.len⟩
theorem Inv.unwish (I : Inv (X.wish E) pins σ H s) : Inv X pins σ H s := ⟨I.ok.unwish, I.os, I.bare, I.base, I.loc, I.cell, I.free, I.freeC, I.pin, I.hok, I.len⟩
theorem SP.unwish {D : Ends} {f : Flow} {s' : Shared} (h : SP (X.wish E) pins D f s') : SP X pins D f s' := by
  cases f with
  | next => obtain ⟨σ', H', I, q⟩ := h; exact ⟨σ', H', I.unwish, q⟩
  | brk => obtain ⟨σ', H', I, q⟩ := h; exact ⟨σ', H', I.unwish, q⟩
  | cont => obtain ⟨σ', H', I, q⟩ := h; exact ⟨σ', H', I.unwish, q⟩
  | ret u => obtain ⟨v, σ', H', I, r, q⟩ := h; exact ⟨v, σ', H', I.unwish, r, q⟩
theorem PE.nox {e : Expr} {t : TE} (h : PE X.nox e t) : PE X e t := fun pins s σ H Q I hw =>
  wpAny_mono (h pins s σ H Q (I.wish _) hw) (fun _ _ ⟨v, H', I', r, q⟩ => ⟨v, H', I'.unwish, r, q⟩) fun _ _ z => False.elim z
theorem PT.nox {e : Expr} {t : TT} (h : PT X.nox e t) : PT X e t := fun pins s σ H Q I hw =>
  wpAny_mono (h pins s σ H Q (I.wish _) hw) (fun _ _ ⟨H', I', q⟩ => ⟨H', I'.unwish, q⟩) fun _ _ z => False.elim z
theorem PSs.nox {st : List Stmt} {t : TS} (h : PSs X.nox st t) : PSs X st t := fun pins s σ H D I hw =>
  wpAny_mono (h pins s σ H D (I.wish _) hw) (fun _ _ q => q.unwish) fun _ _ z => False.elim z
end
section
variable {X : Cx} {st : Stmt} {rest : List Stmt} {t u : TS} {e : Expr} {te : TE} {pos : Pos}
noncomputable def tNext : TS := fun D σ H => D.nx σ H
noncomputable def tSeq (t u : TS) : TS := fun D σ H => t { D with nx := u D } σ H
theorem pss_nil : PSs X [] tNext := fun _ _ σ H _ I h => wpAny_execs_nil ⟨σ, H, I, h⟩
theorem pss_cons (h1 : PS X st t) (h2 : PSs X rest u) : PSs X (st :: rest) (tSeq t u) := by
  intro pins s σ H D I h
  refine wpAny_execs_cons (thn (h1 pins s σ H { D with nx := u D } I h) fun f s1 q => ?_)
  cases f with
  | next =>
    obtain ⟨σ', H', I', q⟩ := q
    exact h2 pins s1 σ' H' D I' q
  | ret v => exact q
  | brk => exact q
  | cont => exact q
theorem pss_one (h1 : PS X st t) : PSs X [st] t := by
  intro pins s σ H D I h
  refine wpAny_execs_cons (thn (h1 pins s σ H D I h) fun f s1 q => ?_)
  cases f with
  | next => exact wpAny_execs_nil q
  | ret v => exact q
  | brk => exact q
  | cont => exact q
noncomputable def tBreak : TS := fun D σ H => D.bk σ H
noncomputable def tCont : TS := fun D σ H => D.ct σ H
theorem Inv.quiet {pins : List (Addr × Obj)} {σ : St} {H : Hp} {s : Shared} (I : Inv X pins σ H s) : interactive X.env = false := by simp [interactive, I.ok.kind]
noncomputable def tDrop (te : TE) : TS := fun D σ H => te σ H fun _ H1 => D.nx σ H1
theorem ps_expr (he : PE X e te) (hs : swapsWith e none pos.line X.env = pure false := by rfl) : PS X (.Expr e pos) (tDrop te) := by
  intro pins s σ H D I h
  exact wpAny_Expr_any (thn (he pins s σ H _ I h) fun v s1 ⟨x, H1, I1, r1, q1⟩ => ⟨σ, H1, I1, q1⟩) I.quiet hs
noncomputable def tRet (te : TE) : TS := fun D σ H => te σ H D.rt
theorem ps_ret (he : PE X e te) : PS X (.Return (some e) pos) (tRet te) := by
  intro pins s σ H D I h
  exact wpAny_Return_some (thn (he pins s σ H _ I h) fun v s1 ⟨x, H1, I1, r1, q1⟩ => ⟨x, σ, H1, I1, r1, q1⟩)
noncomputable def tIfS (c : TT) (t u : TS) : TS := fun D σ H => c σ H fun b H1 => if b = true then t D σ H1 else u D σ H1
theorem ps_if {c : Expr} {a b : List Stmt} {tc : TT} (hc : PT X c tc) (ha : PSs X a t) (hb : PSs X b u) : PS X (.If c a b pos) (tIfS tc t u) := by
  intro pins s σ H D I h
  refine wpAny_If (thn (hc pins s σ H _ I h) fun d s1 ⟨H1, I1, q1⟩ => ?_)
  cases d with
  | true => exact ha pins s1 σ H1 D I1 q1
  | false => exact hb pins s1 σ H1 D I1 q1
noncomputable def tNever : TS := fun _ _ _ => False
end
noncomputable abbrev TG := V → St → Hp → (St → Hp → Prop) → Prop
noncomputable abbrev TGs := List V → St → Hp → (St → Hp → Prop) → Prop
noncomputable def PG (X : Cx) (target : Expr) (t : TG) : Prop :=
  ∀ (pins : List (Addr × Obj)) (s : Shared) (σ : St) (H : Hp) (v : V) (u : Value) (Q : St → Hp → Prop), Inv X pins σ H s → RelV v u → t v σ H Q →
    wpAny (model X.prog X.w) X.A (assign target X.env u) (fun _ s' => ∃ σ' H', Inv X pins σ' H' s' ∧ Q σ' H') X.xe s
noncomputable def PGs (X : Cx) (ts : List Expr) (t : TGs) : Prop :=
  ∀ (pins : List (Addr × Obj)) (s : Shared) (σ : St) (H : Hp) (vs : List V) (us : List Value) (Q : St → Hp → Prop), Inv X pins σ H s → Vals vs us → t vs σ H Q →
    wpAny (model X.prog X.w) X.A (assignInOrder ((assignEach ts X.env).map (·.2)) us) (fun _ s' => ∃ σ' H', Inv X pins σ' H' s' ∧ Q σ' H') X.xe s
noncomputable abbrev TSet := V → V → V → Hp → (Hp → Prop) → Prop
noncomputable def PSet (X : Cx) (t : TSet) : Prop :=
  ∀ (pins : List (Addr × Obj)) (s : Shared) (σ : St) (H : Hp) (o i v : V) (ov iv u : Value) (Q : Hp → Prop), Inv X pins σ H s → RelV o ov → RelV i iv → RelV v u → t o i v H Q →
    wpAny (model X.prog X.w) X.A (setItem ov iv u) (fun _ s' => ∃ H', Inv X pins σ H' s' ∧ Q H') X.xe s
section
variable {X : Cx} {pos : Pos}
noncomputable def gName (i : Nat) : TG := fun v σ H Q => Q (σ.set i (some v)) H
theorem pg_name {i : Nat} {x : Str} (hN : X.N.Nodup) (hi : X.N[i]? = some x) (hx : Loc X.env.scope x) (hf : X.fn x = true ∨ X.env.scope.names.lookup x = some .local := by first | exact .inl rfl | exact .inr rfl | assumption) : PG X (.Name x pos) (gName i) := by
  intro pins s σ H v u Q I r h
  exact wpAny_assign_Name (store_ok I hN hi hx r (fun s' I' => ⟨_, H, I', h⟩) hf)
noncomputable def gNil : TGs := fun vs σ H Q => vs = [] ∧ Q σ H
noncomputable def gCons (t : TG) (u : TGs) : TGs := fun vs σ H Q => ∃ v r, vs = v :: r ∧ t v σ H fun σ' H' => u r σ' H' Q
theorem pgs_nil : PGs X [] gNil := by
  intro pins s σ H vs us Q I r h
  obtain ⟨e, h⟩ := h
  subst e
  cases r
  exact assignInOrder_nil ⟨σ, H, I, h⟩
theorem pgs_cons {e : Expr} {es : List Expr} {t : TG} {u : TGs} (h1 : PG X e t) (h2 : PGs X es u)
    (hs : (assignEach (e :: es) X.env).map (·.2) = assign e X.env :: (assignEach es X.env).map (·.2) := by rfl) : PGs X (e :: es) (gCons t u) := by
  intro pins s σ H vs us Q I r h
  obtain ⟨v, vr, e1, h⟩ := h
  subst e1
  cases r with
  | cons r rr =>
    rw [hs]
    refine assignInOrder_cons (thn (h1 pins s σ H _ _ _ I r h) fun _ s1 ⟨σ1, H1, I1, q1⟩ => ?_)
    exact h2 pins s1 σ1 H1 _ _ Q I1 rr q1
noncomputable def gTup (K : PySem.W.Frag) (n : Nat) (t : TGs) : TG := fun v σ H Q => ∃ a xs, v = .ref a ∧ SqT K H a xs ∧ xs.length = n ∧ t xs σ H Q
theorem pg_tup {es : List Expr} {k : Nat} {t : TGs} {n : Nat} (hc : X.calm = true) (h : PGs X es t)
    (hn : (assignEach es X.env).length = n := by rfl) (hst : (assignEach es X.env).findIdx? (·.1) = none := by rfl) : PG X (.Tuple es k pos) (gTup X.K n t) := by
  intro pins s σ H v u Q I r hw
  obtain ⟨a, xs, e1, hq, hl, hw⟩ := hw
  subst e1
  cases r
  obtain ⟨its, rv, ht, hz⟩ := I.tuple hq
  refine assign_Tuple_tuple (I.ok.hd hc) ht (by simp [hn, ← hl, rv.length]) hst fun h' hx => ?_
  have I1 : Inv X pins σ H { s with heap := h' } := I.kept (t' := s.toks) fun b o e => hx b o (Nat.ne_of_lt (Heap.lt_size e)) e
  exact h pins _ σ H xs _ Q I1 (by simpa using rv) hw
noncomputable def gSub (to ti : TE) (t : TSet) : TG := fun v σ H Q => to σ H fun o H1 => ti σ H1 fun i H2 => t o i v H2 fun H3 => Q σ H3
theorem pg_sub {o i : Expr} {to ti : TE} {t : TSet} (ho : PE X o to) (hi : PE X i ti) (hs : PSet X t)
    (ha : ∀ v, assign (.Subscript o i pos) X.env v = (do
      let ov ← holding [v] (eval o X.env)
      let iv ← holding [v, ov] (eval i X.env)
      standAt pos
      holding [v, ov, iv] (setItem ov iv v)
      release [v, ov, iv] []) := by intro _; rfl) : PG X (.Subscript o i pos) (gSub to ti t) := by
  intro pins s σ H v u Q I r h
  rw [ha]
  refine wpAny_bind (wpAny_holding (thn (ho pins s σ H _ I h) fun ov s1 ⟨x, H1, I1, r1, q1⟩ => ?_))
  refine wpAny_bind (wpAny_holding (thn (hi pins s1 σ H1 _ I1 q1) fun iv s2 ⟨y, H2, I2, r2, q2⟩ => ?_))
  refine wpAny_bind (wpAny_standAt (wpAny_bind (wpAny_holding (thn (hs pins s2 σ H2 x y v ov iv u _ I2 r1 r2 r q2) fun _ s3 ⟨H3, I3, q3⟩ => ?_))))
  exact wpAny_release ⟨σ, H3, I3, q3⟩
noncomputable def tAsg (te : TE) (g : TG) : TS := fun D σ H => te σ H fun x H1 => g x σ H1 D.nx
theorem ps_asg {tg e : Expr} {te : TE} {g : TG} (he : PE X e te) (hg : PG X tg g) (hs : swapsWithSole [tg] e pos.line X.env = pure false := by rfl) (hw : swappedStores [tg] e X.env = pure none := by rfl)
    (h1 : (assignEach [tg] X.env).map (·.2) = [assign tg X.env] := by rfl) : PS X (.Assign [tg] e pos) (tAsg te g) := by
  intro pins s σ H D I h
  refine wpAny_Assign_stores (thn (he pins s σ H _ I h) fun v s1 ⟨x, H1, I1, r1, q1⟩ => ?_) hs hw
  rw [h1]
  exact thn (hg pins s1 σ H1 x v _ I1 r1 q1) fun _ s2 q => q
theorem ps_set {i : Nat} {x : Str} {e : Expr} {te : TE} {pos' : Pos} (hN : X.N.Nodup) (hi : X.N[i]? = some x) (hx : Loc X.env.scope x) (he : PE X e te) (hs : swapsWith e (some (.Name x pos')) pos.line X.env = pure false := by rfl) (hf : X.fn x = true ∨ X.env.scope.names.lookup x = some .local := by first | exact .inl rfl | exact .inr rfl | assumption) :
    PS X (.Assign [.Name x pos'] e pos) (tAsg te (gName i)) := by
  intro pins s σ H D I h
  refine wpAny_Assign_Name (thn (he pins s σ H _ I h) fun v s1 ⟨y, H1, I1, r1, q1⟩ => ?_) hs
  exact store_ok I1 hN hi hx r1 (fun s2 I2 => ⟨_, H1, I2, q1⟩) hf
noncomputable def tPar (i j : Nat) (ta : TA) : TS := fun D σ H => ta σ H fun vs H1 => ∃ v w, vs = [v, w] ∧ D.nx ((σ.set i (some v)).set j (some w)) H1
end
section
variable {X : Cx} {pos : Pos}
end
structure It where
  go : Nat → Hp → Prop
  yld : Nat → Hp → V → Hp → Prop
  stop : Nat → Hp → Prop
noncomputable def FpOk (X : Cx) (pins : List (Addr × Obj)) (H : Hp) (b : Addr) : Prop :=
  H b = none ∧ b ≠ X.env.locals ∧ b ∉ X.fs ∧ (b ∈ X.ex ∨ X.s₀.heap.objs.size ≤ b) ∧ (∀ x c, X.env.cells.lookup x = some c → c ≠ b) ∧ ∀ p ∈ X.pn ++ pins, p.1 ≠ b
theorem Inv.fpOk {X : Cx} {pins : List (Addr × Obj)} {σ : St} {H H' : Hp} {s : Shared} {b : Addr} (I : Inv X pins σ H s) (hb : s.heap.objs.size ≤ b) (hn : H' b = none) : FpOk X pins H' b := by
  refine ⟨hn, Nat.ne_of_gt (Nat.lt_of_lt_of_le I.lt hb), I.nofs hb, .inr (Nat.le_trans I.sz hb), fun x c e z => ?_, fun p hp z => ?_⟩
  · obtain ⟨v, q⟩ := I.cell x c e
    exact absurd (Nat.lt_of_lt_of_le q.lt (by rw [z]; exact hb)) (Nat.lt_irrefl _)
  · exact absurd (Nat.lt_of_lt_of_le (Heap.lt_size (I.pin p hp).1) (by rw [z]; exact hb)) (Nat.lt_irrefl _)
structure Turn (P : Program) (w : World) (K : PySem.W.Frag) (tg : Expr) (J : It) (fp : List Addr) (it : Addr) (tn : Nat → Heap → Prop) : Prop where
  mem : it ∈ fp
  obj : ∀ i h, tn i h → ∀ b ∈ fp, ∃ o, h.get? b = some o ∧ ∀ v, o.data ≠ .cell v
  keep : ∀ i h h', tn i h → (∀ b ∈ fp, ∀ o, h.get? b = some o → h'.get? b = some o) → tn i h'
  item : ∀ (X : Cx), X.prog = P → X.w = w → X.K = K → X.calm = true → ∀ (i : Nat) (pins : List (Addr × Obj)) (s : Shared) (σ : St) (H : Hp) (E : Value → Shared → Prop), Inv X pins σ H s → (∀ b ∈ fp, FpOk X pins H b) → tn i s.heap → J.go i H →
    wpAny (model P w) X.A (pyNext (.ref it)) (fun r s1 => ∃ u, r = some u ∧
      wpAny (model P w) X.A (letOwnedTupleGo tg (.ref it) u) (fun _ s2 => ∃ x H', Inv X pins σ H' s2 ∧ RelV x u ∧ J.yld i H x H' ∧ tn (i + 1) s2.heap ∧ ∀ b ∈ fp, H' b = none) E s1) E s
  done : ∀ (X : Cx), X.prog = P → X.w = w → X.K = K → X.calm = true → ∀ (i : Nat) (pins : List (Addr × Obj)) (s : Shared) (σ : St) (H : Hp) (E : Value → Shared → Prop), Inv X pins σ H s → (∀ b ∈ fp, FpOk X pins H b) → tn i s.heap → J.stop i H →
    wpAny (model P w) X.A (pyNext (.ref it)) (fun r s1 => r = none ∧ Inv X pins σ H s1) E s
  self : ∀ (A : Around) (i : Nat) (s : Shared) (Q : Value → Shared → Prop) (E : Value → Shared → Prop), tn i s.heap → Q (.ref it) s → wpAny (model P w) A (pyIter (.ref it)) Q E s
noncomputable abbrev TI := St → Hp → (It → Hp → Prop) → Prop
noncomputable def PIE (X : Cx) (pins : List (Addr × Obj)) (σ : St) (tg : Expr) (R : It → Hp → Prop) (itv : Value) (s2 : Shared) : Prop :=
  ∃ (it : Addr) (fp : List Addr) (tn : Nat → Heap → Prop) (J : It) (H' : Hp), itv = .ref it ∧ Inv X pins σ H' s2 ∧ Turn X.prog X.w X.K tg J fp it tn ∧ tn 0 s2.heap ∧ (∀ b ∈ fp, FpOk X pins H' b) ∧ R J H'
noncomputable def PI (X : Cx) (tg iter : Expr) (wi : TI) : Prop :=
  ∀ (pins : List (Addr × Obj)) (s : Shared) (σ : St) (H : Hp) (R : It → Hp → Prop), Inv X pins σ H s → wi σ H R →
    wpAny (model X.prog X.w) X.A (eval iter X.env) (fun v s1 => wpAny (model X.prog X.w) X.A (pyIter v) (PIE X pins σ tg R) X.xe s1) X.xe s
theorem go_of {M : Model} {A : Around} {E : Value → Shared → Prop} {s : Shared} {tg : Expr} {it : Addr} {u : Value} {o : Obj} {n : String} {vs : Array Value} {Q : Unit → Shared → Prop} (ho : s.heap.get? it = some o) (hc : o.cls = .type n) (hd : o.data = .fields vs)
    (hn : ["enumerate", "zip", "dict_itemiterator", "dict_reverseitemiterator", "odict_iterator", "itertools.zip_longest", "itertools.pairwise"].contains n = false) (hQ : Q () s) : wpAny M A (letOwnedTupleGo tg (.ref it) u) Q E s := by
  unfold letOwnedTupleGo
  cases tg <;> first
    | exact wpAny_pure hQ
    | (cases u <;> first
        | exact wpAny_pure hQ
        | (refine wpAny_bind (wpAny_load ho ?_)
           rw [hc, hd]
           show wpAny M A (if (["enumerate", "zip", "dict_itemiterator", "dict_reverseitemiterator", "odict_iterator", "itertools.zip_longest", "itertools.pairwise"].contains n && vs[0]? == some (rawInt _)) = true then _ else _) Q E s
           rw [if_neg (by intro h; rw [hn, Bool.false_and] at h; cases h)]
           exact wpAny_pure hQ))
noncomputable def Itl (K : PySem.W.Frag) (a : Addr) : It :=
  ⟨fun i H => ∃ xs x, SqL K H a xs ∧ xs[i]? = some x, fun i H x H' => H' = H ∧ ∀ xs, SqL K H a xs → xs[i]? = some x, fun i H => ∃ xs, SqL K H a xs ∧ xs.length ≤ i⟩
noncomputable def Itt (K : PySem.W.Frag) (a : Addr) : It :=
  ⟨fun i H => ∃ xs x, SqT K H a xs ∧ xs[i]? = some x, fun i H x H' => H' = H ∧ ∀ xs, SqT K H a xs → xs[i]? = some x, fun i H => ∃ xs, SqT K H a xs ∧ xs.length ≤ i⟩
noncomputable def Itr (lo : Int) (n : Nat) : It := ⟨fun i _ => i < n, fun i H x H' => H' = H ∧ x = .int (lo + i), fun i _ => n ≤ i⟩
theorem turn_list {P : Program} {w : World} {K : PySem.W.Frag} {tg : Expr} (a it : Addr) : Turn P w K tg (Itl K a) [it] it (fun i h => h.IsListIter it a i) where
  mem := by simp
  obj := fun i h st b hb => by
    have e : b = it := by simpa using hb
    subst e
    obtain ⟨o, e, c, d⟩ := st
    exact ⟨o, e, fun v z => by rw [d] at z; cases z⟩
  keep := fun i h h' st k => st.at fun o e => k it (by simp) o e
  item := by
    intro X hP hw hK hc i pins s σ H E I hf st hg
    subst hP hw hK
    obtain ⟨xs, x, hq, hx⟩ := hg
    obtain ⟨its, rv, p, hz⟩ := I.list hq
    obtain ⟨u, hu, ru⟩ := rv.get hx
    obtain ⟨f0, f1, f2, f3, f4, f5⟩ := hf it (by simp)
    refine wpAny_pyNext_list_item st p.isList (x := u) (by simpa using hu) fun h' st' sb => ?_
    have I1 : Inv X pins σ H { s with heap := h' } := I.turned (t' := s.toks) (fun b o hb e => (sb.2 b hb).trans e) f0 f1 f3 f4 f5
    obtain ⟨o, e, c, d⟩ := id st'
    exact ⟨u, rfl, go_of (s := { s with heap := h' }) e c d (by decide) ⟨x, H, I1, ru, ⟨rfl, fun ys hy => by rw [I.list_inj hy hq]; exact hx⟩, st', fun b hb => (hf b hb).1⟩⟩
  done := by
    intro X hP hw hK hc i pins s σ H E I hf st hg
    subst hP hw hK
    obtain ⟨xs, hq, hx⟩ := hg
    obtain ⟨its, rv, p, hz⟩ := I.list hq
    obtain ⟨f0, f1, f2, f3, f4, f5⟩ := hf it (by simp)
    have hl := rv.length
    exact wpAny_pyNext_list_end (I.ok.hd hc) st p.isList (by simp; omega) fun h' eb => ⟨rfl, I.turned (t' := s.toks) (fun b o hb e => eb b o hb e) f0 f1 f3 f4 f5⟩
  self := fun _ _ _ _ _ st h => wpAny_pyIter_listiter st h
theorem turn_tuple {P : Program} {w : World} {K : PySem.W.Frag} {tg : Expr} (a it : Addr) : Turn P w K tg (Itt K a) [it] it (fun i h => h.IsTupleIter it a i) where
  mem := by simp
  obj := fun i h st b hb => by
    have e : b = it := by simpa using hb
    subst e
    obtain ⟨o, e, c, d⟩ := st
    exact ⟨o, e, fun v z => by rw [d] at z; cases z⟩
  keep := fun i h h' st k => st.at fun o e => k it (by simp) o e
  item := by
    intro X hP hw hK hc i pins s σ H E I hf st hg
    subst hP hw hK
    obtain ⟨xs, x, hq, hx⟩ := hg
    obtain ⟨its, rv, p, hz⟩ := I.tuple hq
    obtain ⟨u, hu, ru⟩ := rv.get hx
    obtain ⟨f0, f1, f2, f3, f4, f5⟩ := hf it (by simp)
    refine wpAny_pyNext_tuple_item st (show s.heap.IsTuple a its.toArray from p) (x := u) (by simpa using hu) fun h' st' sb => ?_
    have I1 : Inv X pins σ H { s with heap := h' } := I.turned (t' := s.toks) (fun b o hb e => (sb.2 b hb).trans e) f0 f1 f3 f4 f5
    obtain ⟨o, e, c, d⟩ := id st'
    exact ⟨u, rfl, go_of (s := { s with heap := h' }) e c d (by decide) ⟨x, H, I1, ru, ⟨rfl, fun ys hy => by rw [I.tuple_inj hy hq]; exact hx⟩, st', fun b hb => (hf b hb).1⟩⟩
  done := by
    intro X hP hw hK hc i pins s σ H E I hf st hg
    subst hP hw hK
    obtain ⟨xs, hq, hx⟩ := hg
    obtain ⟨its, rv, p, hz⟩ := I.tuple hq
    obtain ⟨f0, f1, f2, f3, f4, f5⟩ := hf it (by simp)
    have hl := rv.length
    exact wpAny_pyNext_tuple_end (I.ok.hd hc) st (show s.heap.IsTuple a its.toArray from p) (by simp; omega) fun h' eb => ⟨rfl, I.turned (t' := s.toks) (fun b o hb e => eb b o hb e) f0 f1 f3 f4 f5⟩
  self := fun _ _ _ _ _ st h => wpAny_pyIter_tupleiter st h
theorem turn_range {P : Program} {w : World} {K : PySem.W.Frag} {tg : Expr} (it : Addr) (lo : Int) (n : Nat) : Turn P w K tg (Itr lo n) [it] it (fun i h => IsRangeIter h it (lo + (i : Nat) * 1) ((n : Int) - (i : Nat)) 1) where
  mem := by simp
  obj := fun i h st b hb => by
    have e : b = it := by simpa using hb
    subst e
    exact ⟨_, st, fun v z => by
      have z' : Data.fields _ = Data.cell v := z
      cases z'⟩
  keep := fun i h h' st k => k it (by simp) _ st
  item := by
    intro X hP hw hK hc i pins s σ H E I hf st hg
    subst hP hw hK
    obtain ⟨f0, f1, f2, f3, f4, f5⟩ := hf it (by simp)
    have W := Walks.range (prog := X.prog) (w := X.w) (I.ok.hd hc) it lo 1 n
    refine W.item i s _ _ hg st fun v h' tk hv st' kk => ?_
    obtain ⟨t, rfl⟩ := hv
    have I1 : Inv X pins σ H { s with heap := h', toks := tk } := I.turned (fun b o hb e => kk b o (by simpa using hb) e) f0 f1 f3 f4 f5
    refine ⟨_, rfl, go_of (s := { s with heap := h', toks := tk }) (n := "range_iterator") st' rfl rfl (by decide) ⟨.int (lo + i), H, I1, ⟨t, ?_⟩, ⟨rfl, rfl⟩, st', fun b hb => (hf b hb).1⟩⟩
    rw [Int.mul_one]
  done := by
    intro X hP hw hK hc i pins s σ H E I hf st hg
    subst hP hw hK
    obtain ⟨f0, f1, f2, f3, f4, f5⟩ := hf it (by simp)
    exact wpAny_pyNext_range_end (I.ok.hd hc) st (by have : n ≤ i := hg; omega) fun h' eb => ⟨rfl, I.turned (t' := s.toks) (fun b o hb e => eb b o hb e) f0 f1 f3 f4 f5⟩
  self := fun _ _ _ _ _ st h => wpAny_pyIter_rangeiter st h
end L2
namespace L2
open PySem PySem.Spec PyProof.Rows
section
variable {X : Cx} {tg : Expr}
noncomputable def iList (K : PySem.W.Frag) (tl : TE) : TI := fun σ H R => tl σ H fun x H1 => ∃ a, x = .ref a ∧ (∃ xs, SqL K H1 a xs) ∧ R (Itl K a) H1
noncomputable def iTup (K : PySem.W.Frag) (tl : TE) : TI := fun σ H R => tl σ H fun x H1 => ∃ a, x = .ref a ∧ (∃ xs, SqT K H1 a xs) ∧ R (Itt K a) H1
theorem pi_list {l : Expr} {tl : TE} (hl : PE X l tl) : PI X tg l (iList X.K tl) := by
  intro pins s σ H R I h
  refine thn (hl pins s σ H _ I h) fun v s1 ⟨x, H1, I1, r1, q1⟩ => ?_
  obtain ⟨a, e, ⟨xs, hq⟩, q⟩ := q1
  subst e
  cases r1
  obtain ⟨its, rv, p, hz⟩ := I1.list hq
  refine wpAny_pyIter_list p.isList ?_
  refine ⟨s1.heap.objs.size, [s1.heap.objs.size], _, _, H1, rfl, I1.kept (t' := s1.toks) fun b o e => Heap.get?_push_of_some _ e, turn_list a _, ⟨_, Heap.get?_push_size _ rfl, rfl, rfl⟩, fun b hb => ?_, q⟩
  have e : b = s1.heap.objs.size := by simpa using hb
  subst e
  exact I1.fpOk (Nat.le_refl _) (I1.hok.fresh (Nat.le_refl _))
theorem pi_tup {l : Expr} {tl : TE} (hl : PE X l tl) : PI X tg l (iTup X.K tl) := by
  intro pins s σ H R I h
  refine thn (hl pins s σ H _ I h) fun v s1 ⟨x, H1, I1, r1, q1⟩ => ?_
  obtain ⟨a, e, ⟨xs, hq⟩, q⟩ := q1
  subst e
  cases r1
  obtain ⟨its, rv, p, hz⟩ := I1.tuple hq
  refine wpAny_pyIter_tuple (show s1.heap.IsTuple a its.toArray from p) ?_
  refine ⟨s1.heap.objs.size, [s1.heap.objs.size], _, _, H1, rfl, I1.kept (t' := s1.toks) fun b o e => Heap.get?_push_of_some _ e, turn_tuple a _, ⟨_, Heap.get?_push_size _ rfl, rfl, rfl⟩, fun b hb => ?_, q⟩
  have e : b = s1.heap.objs.size := by simpa using hb
  subst e
  exact I1.fpOk (Nat.le_refl _) (I1.hok.fresh (Nat.le_refl _))
theorem range_it {pins : List (Addr × Obj)} {σ : St} {H : Hp} {s : Shared} {R : It → Hp → Prop} {E : Value → Shared → Prop} {lo hi : Int} {t u v : Tok} {tk : Nat} (I : Inv X pins σ H s) (h1 : -(2 ^ 62) ≤ lo) (h2 : lo < 2 ^ 62) (h3 : -(2 ^ 62) ≤ hi) (h4 : hi < 2 ^ 62)
    (q : R (Itr lo (hi - lo).toNat) H) : wpAny (model X.prog X.w) X.A (pyIter (.ref s.heap.objs.size)) (PIE X pins σ tg R) E { s with heap := s.heap.push { cls := .type "range", data := .fields #[.int lo t, .int hi u, .int 1 v] }, toks := tk } := by
  refine wpAny_pyIter_range (IsRange.new ..) (small_one h1 h2 h3 h4) ?_
  have I1 : Inv X pins σ H { s with heap := s.heap.push { cls := .type "range", data := .fields #[.int lo t, .int hi u, .int 1 v] }, toks := tk } := I.kept fun b o e => Heap.get?_push_of_some _ e
  refine ⟨(s.heap.push { cls := .type "range", data := .fields #[.int lo t, .int hi u, .int 1 v] }).objs.size, [(s.heap.push { cls := .type "range", data := .fields #[.int lo t, .int hi u, .int 1 v] }).objs.size], _, _, H, rfl,
    I1.kept (t' := tk) fun b o e => Heap.get?_push_of_some _ e, turn_range _ lo (hi - lo).toNat, ?_, fun b hb => ?_, q⟩
  · have e1 : lo + ((0 : Nat) : Int) * 1 = lo := by simp
    have e2 : (((hi - lo).toNat : Nat) : Int) - ((0 : Nat) : Int) = Builtin.Range.rangeSize lo hi 1 := by rw [rangeSize_one]; split <;> omega
    show IsRangeIter _ _ (lo + ((0 : Nat) : Int) * 1) ((((hi - lo).toNat : Nat) : Int) - ((0 : Nat) : Int)) 1
    rw [e1, e2]
    exact Heap.get?_push_size _ rfl
  · have e : b = (s.heap.push { cls := .type "range", data := .fields #[.int lo t, .int hi u, .int 1 v] }).objs.size := by simpa using hb
    subst e
    exact I1.fpOk (Nat.le_refl _) (I1.hok.fresh (Nat.le_refl _))
noncomputable def iRng1 (ta : TA) : TI := fun σ H R => ta σ H fun vs H1 => ∃ j : Int, vs = [.int j] ∧ -(2 ^ 62) ≤ j ∧ j < 2 ^ 62 ∧ R (Itr 0 j.toNat) H1
theorem pi_range1 {a : Expr} {ta : TA} {p pos : Pos} (hg : Gl X "range") (hm : X.mg "range" = none) (ha : PA X [a] ta) (hs : starEach [a] X.env = [(false, eval a X.env)] := by rfl) : PI X tg (.Call (.Name "range" p) [a] [] pos) (iRng1 ta) := by
  intro pins s σ H R I h
  refine Call_ (ld_blt I hg hm boot_range (PyProof.Rows.callWith_type1 (thn (ha pos pins s σ H _ I h) fun us s1 ⟨vs, H1, I1, r1, q1⟩ => ?_) hs rfl))
  obtain ⟨j, e, q1, q2, q⟩ := q1
  subst e
  cases r1 with
  | cons r rr =>
    cases rr
    obtain ⟨t, rfl⟩ := r
    exact call_range_1 (range_it I1 (by omega) (by omega) q1 q2 (by simpa using q))
noncomputable def tFor (wi : TI) (g : TG) (tb : TS) : TS := fun D σ H => wi σ H fun J H1 => ∃ W : Nat → Nat → St → Hp → Prop, (∃ m, W 0 m σ H1) ∧ ∀ i m σ H, W i m σ H →
  (J.stop i H ∧ D.nx σ H) ∨ (J.go i H ∧ ∃ N : St → Hp → Prop, (∀ σ' H', N σ' H' → ∃ m', m' < m ∧ W (i + 1) m' σ' H') ∧ ∀ x H', J.yld i H x H' → g x σ H' fun σ2 H2 => tb { D with nx := N, ct := N, bk := D.nx } σ2 H2)
noncomputable def pinsAt (fp : List Addr) (h : Heap) : List (Addr × Obj) := fp.filterMap fun b => (h.get? b).map fun o => (b, o)
theorem mem_pinsAt {fp : List Addr} {h : Heap} {b : Addr} {o : Obj} (hb : b ∈ fp) (e : h.get? b = some o) : (b, o) ∈ pinsAt fp h := List.mem_filterMap.mpr ⟨b, hb, by rw [e]; rfl⟩
theorem of_pinsAt {fp : List Addr} {h : Heap} {p : Addr × Obj} (hp : p ∈ pinsAt fp h) : p.1 ∈ fp ∧ h.get? p.1 = some p.2 := by
  obtain ⟨b, hb, e⟩ := List.mem_filterMap.mp hp
  cases q : h.get? b with
  | none => rw [q] at e; cases e
  | some o =>
    rw [q] at e
    have e' : (b, o) = p := Option.some.inj e
    subst e'
    exact ⟨hb, q⟩
theorem Inv.pinned {pins : List (Addr × Obj)} {σ : St} {H : Hp} {s : Shared} {fp : List Addr} (I : Inv X pins σ H s) (hf : ∀ b ∈ fp, FpOk X pins H b) (ho : ∀ b ∈ fp, ∃ o, s.heap.get? b = some o ∧ ∀ v, o.data ≠ .cell v) : Inv X (pins ++ pinsAt fp s.heap) σ H s :=
  I.pins_of fun p hp => (List.mem_append.mp hp).elim (fun z => I.pin p (List.mem_append_right _ z)) fun z => by
    obtain ⟨hb, e⟩ := of_pinsAt z
    obtain ⟨f0, f1, f2, _⟩ := hf p.1 hb
    obtain ⟨o, e', d⟩ := ho p.1 hb
    rw [e] at e'; cases e'
    exact ⟨e, f0, f1, f2, d⟩
theorem Inv.unpinned {pins pl : List (Addr × Obj)} {σ : St} {H : Hp} {s : Shared} (I : Inv X (pins ++ pl) σ H s) : Inv X pins σ H s := I.pins_of fun p hp => I.pin p (List.mem_append_right _ (List.mem_append_left _ hp))
theorem ps_for {iter : Expr} {body : List Stmt} {wi : TI} {g : TG} {tb : TS} {pos : Pos} (hp : PassesOwn (model X.prog X.w) X.A X.env X.xe) (hc : X.calm = true) (hi : PI X tg iter wi) (hg : PG X tg g) (hb : PSs X body tb)
    (hs : ∀ x, foldedSetIterable iter X.env x = pure x := by intro _; rfl) : PS X (.For tg iter body [] pos) (tFor wi g tb) := by
  intro pins s σ H D I h
  refine wpAny_For (thn (hi pins s σ H _ I h) fun v s1 h1 => thn h1 fun itv s2 h2 => ?_) hs
  obtain ⟨it, fp, tn, J, H2, e, I2, T, st2, f2, W, ⟨m0, w0⟩, turn⟩ := h2
  subst e
  have stat : ∀ {H' : Hp}, (∀ b ∈ fp, H' b = none) → ∀ b ∈ fp, FpOk X pins H' b := fun hn b hb => ⟨hn b hb, (f2 b hb).2⟩
  refine codeAny_forLoop_any (fun n s' => ∃ i σ' H', Inv X pins σ' H' s' ∧ tn i s'.heap ∧ (∀ b ∈ fp, H' b = none) ∧ W i n σ' H') ?_ m0 ⟨0, σ, H2, I2, st2, fun b hb => (f2 b hb).1, w0⟩
  rintro n s3 ⟨i, σ3, H3, I3, st3, fr3, w3⟩
  rcases turn i n σ3 H3 w3 with ⟨stop, qn⟩ | ⟨go, N, hN, step⟩
  · refine wpAny_passesOwn hp (thn (T.done X rfl rfl rfl hc i pins s3 σ3 H3 X.xe I3 (stat fr3) st3 stop) fun r s4 ⟨hr, I4⟩ => ?_)
    subst hr
    exact wpAny_execs_nil ⟨σ3, H3, I4, qn⟩
  · refine wpAny_passesOwn hp (thn (T.item X rfl rfl rfl hc i pins s3 σ3 H3 X.xe I3 (stat fr3) st3 go) fun r s4 ⟨u, hr, h4⟩ => ?_)
    subst hr
    refine wpAny_passesOwn hp (thn h4 fun _ s5 ⟨x, H5, I5, r5, y5, st5, fr5⟩ => ?_)
    have I5' := I5.pinned (stat fr5) (T.obj _ _ st5)
    refine wpAny_passesOwn hp (thn (hg _ s5 σ3 H5 x u _ I5' r5 (step x H5 y5)) fun _ s6 ⟨σ6, H6, I6, q6⟩ => ?_)
    refine wpAny_passesOwn hp (thn (hb _ s6 σ6 H6 _ I6 q6) fun f s7 q7 => ?_)
    have again : ∀ {σ7 : St} {H7 : Hp}, Inv X (pins ++ pinsAt fp s5.heap) σ7 H7 s7 → N σ7 H7 → ∃ m, m < n ∧ ∃ i σ' H', Inv X pins σ' H' s7 ∧ tn i s7.heap ∧ (∀ b ∈ fp, H' b = none) ∧ W i m σ' H' := fun {σ7 H7} I7 n7 => by
      obtain ⟨m', hm, w7⟩ := hN σ7 H7 n7
      refine ⟨m', hm, i + 1, σ7, H7, I7.unpinned, T.keep _ _ _ st5 fun b hb o e => (I7.pin (b, o) (List.mem_append_right _ (List.mem_append_right _ (mem_pinsAt hb e)))).1, fun b hb => ?_, w7⟩
      obtain ⟨o, e, d⟩ := T.obj _ _ st5 b hb
      exact (I7.pin (b, o) (List.mem_append_right _ (List.mem_append_right _ (mem_pinsAt hb e)))).2.1
    cases f with
    | next => obtain ⟨σ7, H7, I7, n7⟩ := q7; exact again I7 n7
    | cont => obtain ⟨σ7, H7, I7, n7⟩ := q7; exact again I7 n7
    | brk => obtain ⟨σ7, H7, I7, q7⟩ := q7; exact ⟨σ7, H7, I7.unpinned, q7⟩
    | ret v => obtain ⟨x7, σ7, H7, I7, r7, q7⟩ := q7; exact ⟨x7, σ7, H7, I7.unpinned, r7, q7⟩
end
theorem for_list {K : PySem.W.Frag} {a : Addr} {xs : List V} {g : TG} {tb : TS} {D : Ends} {σ : St} {H : Hp} (Pv : Nat → St → Hp → Prop) (h0 : Pv 0 σ H) (hl : ∀ i σ H, i ≤ xs.length → Pv i σ H → SqL K H a xs)
    (hs : ∀ i x σ H, xs[i]? = some x → Pv i σ H → g x σ H fun σ2 H2 => tb { D with nx := Pv (i + 1), ct := Pv (i + 1), bk := D.nx } σ2 H2) (hd : ∀ σ H, Pv xs.length σ H → D.nx σ H) :
    ∃ W : Nat → Nat → St → Hp → Prop, (∃ m, W 0 m σ H) ∧ ∀ i m σ H, W i m σ H →
      ((Itl K a).stop i H ∧ D.nx σ H) ∨ ((Itl K a).go i H ∧ ∃ N : St → Hp → Prop, (∀ σ' H', N σ' H' → ∃ m', m' < m ∧ W (i + 1) m' σ' H') ∧ ∀ x H', (Itl K a).yld i H x H' → g x σ H' fun σ2 H2 => tb { D with nx := N, ct := N, bk := D.nx } σ2 H2) := by
  refine ⟨fun i m σ H => m = xs.length - i ∧ i ≤ xs.length ∧ Pv i σ H, ⟨xs.length, by simp, Nat.zero_le _, h0⟩, ?_⟩
  rintro i m σ H ⟨rfl, hi, p⟩
  have q := hl i σ H hi p
  by_cases hlt : i < xs.length
  · refine .inr ⟨⟨xs, xs[i], q, by simp [hlt]⟩, Pv (i + 1), fun σ' H' p' => ⟨xs.length - (i + 1), by omega, rfl, hlt, p'⟩, fun x H' y => ?_⟩
    obtain ⟨e, y⟩ := y
    subst e
    exact hs i x σ _ (y xs q) p
  · have e : i = xs.length := by omega
    subst e
    exact .inl ⟨⟨xs, q, Nat.le_refl _⟩, hd σ H p⟩
theorem for_tup {K : PySem.W.Frag} {a : Addr} {xs : List V} {g : TG} {tb : TS} {D : Ends} {σ : St} {H : Hp} (Pv : Nat → St → Hp → Prop) (h0 : Pv 0 σ H) (hl : ∀ i σ H, i ≤ xs.length → Pv i σ H → SqT K H a xs)
    (hs : ∀ i x σ H, xs[i]? = some x → Pv i σ H → g x σ H fun σ2 H2 => tb { D with nx := Pv (i + 1), ct := Pv (i + 1), bk := D.nx } σ2 H2) (hd : ∀ σ H, Pv xs.length σ H → D.nx σ H) :
    ∃ W : Nat → Nat → St → Hp → Prop, (∃ m, W 0 m σ H) ∧ ∀ i m σ H, W i m σ H →
      ((Itt K a).stop i H ∧ D.nx σ H) ∨ ((Itt K a).go i H ∧ ∃ N : St → Hp → Prop, (∀ σ' H', N σ' H' → ∃ m', m' < m ∧ W (i + 1) m' σ' H') ∧ ∀ x H', (Itt K a).yld i H x H' → g x σ H' fun σ2 H2 => tb { D with nx := N, ct := N, bk := D.nx } σ2 H2) := by
  refine ⟨fun i m σ H => m = xs.length - i ∧ i ≤ xs.length ∧ Pv i σ H, ⟨xs.length, by simp, Nat.zero_le _, h0⟩, ?_⟩
  rintro i m σ H ⟨rfl, hi, p⟩
  have q := hl i σ H hi p
  by_cases hlt : i < xs.length
  · refine .inr ⟨⟨xs, xs[i], q, by simp [hlt]⟩, Pv (i + 1), fun σ' H' p' => ⟨xs.length - (i + 1), by omega, rfl, hlt, p'⟩, fun x H' y => ?_⟩
    obtain ⟨e, y⟩ := y
    subst e
    exact hs i x σ _ (y xs q) p
  · have e : i = xs.length := by omega
    subst e
    exact .inl ⟨⟨xs, q, Nat.le_refl _⟩, hd σ H p⟩
theorem for_range {lo : Int} {n : Nat} {g : TG} {tb : TS} {D : Ends} {σ : St} {H : Hp} (Pv : Nat → St → Hp → Prop) (h0 : Pv 0 σ H)
    (hs : ∀ i σ H, i < n → Pv i σ H → g (.int (lo + i)) σ H fun σ2 H2 => tb { D with nx := Pv (i + 1), ct := Pv (i + 1), bk := D.nx } σ2 H2) (hd : ∀ σ H, Pv n σ H → D.nx σ H) :
    ∃ W : Nat → Nat → St → Hp → Prop, (∃ m, W 0 m σ H) ∧ ∀ i m σ H, W i m σ H →
      ((Itr lo n).stop i H ∧ D.nx σ H) ∨ ((Itr lo n).go i H ∧ ∃ N : St → Hp → Prop, (∀ σ' H', N σ' H' → ∃ m', m' < m ∧ W (i + 1) m' σ' H') ∧ ∀ x H', (Itr lo n).yld i H x H' → g x σ H' fun σ2 H2 => tb { D with nx := N, ct := N, bk := D.nx } σ2 H2) := by
  refine ⟨fun i m σ H => m = n - i ∧ i ≤ n ∧ Pv i σ H, ⟨n, by simp, Nat.zero_le _, h0⟩, ?_⟩
  rintro i m σ H ⟨rfl, hi, p⟩
  by_cases hlt : i < n
  · refine .inr ⟨hlt, Pv (i + 1), fun σ' H' p' => ⟨n - (i + 1), by omega, rfl, hlt, p'⟩, fun x H' y => ?_⟩
    obtain ⟨e, y⟩ := y
    subst e y
    exact hs i σ _ hlt p
  · have e : i = n := by omega
    subst e
    exact .inl ⟨Nat.le_refl _, hd σ H p⟩
end L2
namespace L2
open PySem PySem.Spec PyProof.Rows
noncomputable abbrev R2 := V → V → Hp → VK → Prop
noncomputable def OpR (X : Cx) (f : Value → Value → Sem Value) (r : R2) : Prop :=
  ∀ (pins : List (Addr × Obj)) (s : Shared) (σ : St) (H : Hp) (x y : V) (v u : Value) (Q : VK), Inv X pins σ H s → RelV x v → RelV y u → r x y H Q →
    wpAny (model X.prog X.w) X.A (f v u) (EP X pins σ Q) X.xe s
noncomputable def UnR (X : Cx) (f : Value → Sem Value) (r : V → Hp → VK → Prop) : Prop :=
  ∀ (pins : List (Addr × Obj)) (s : Shared) (σ : St) (H : Hp) (x : V) (v : Value) (Q : VK), Inv X pins σ H s → RelV x v → r x H Q →
    wpAny (model X.prog X.w) X.A (f v) (EP X pins σ Q) X.xe s
noncomputable def CallR (X : Cx) (f : Value) (r : List V → Hp → VK → Prop) : Prop :=
  ∀ (pins : List (Addr × Obj)) (s : Shared) (σ : St) (H : Hp) (xs : List V) (us : List Value) (Q : VK), Inv X pins σ H s → Vals xs us → r xs H Q →
    wpAny (model X.prog X.w) X.A (call f us) (EP X pins σ Q) X.xe s
noncomputable def tOp (r : R2) (ta tb : TE) : TE := fun σ H Q => ta σ H fun x H1 => tb σ H1 fun y H2 => r x y H2 Q
noncomputable def tUn (r : V → Hp → VK → Prop) (ta : TE) : TE := fun σ H Q => ta σ H fun x H1 => r x H1 Q
noncomputable def rI (C : Int → Int → Prop) (g : Int → Int → V) : R2 := fun x y H Q => ∃ i j, x = .int i ∧ y = .int j ∧ C i j ∧ Q (g i j) H
noncomputable def rI0 (g : Int → Int → V) : R2 := fun x y H Q => ∃ i j, x = .int i ∧ y = .int j ∧ Q (g i j) H
noncomputable def rU (g : Int → V) : V → Hp → VK → Prop := fun x H Q => ∃ i, x = .int i ∧ Q (g i) H
section
variable {X : Cx} {a b c : Expr} {ta tb tc : TE} {pos : Pos}
theorem binT (ha : PE X a ta) (hb : PE X b tb) {pins : List (Addr × Obj)} {s : Shared} {σ : St} {H : Hp} {R : V → V → Hp → Prop} (I : Inv X pins σ H s)
    (h : ta σ H fun x H1 => tb σ H1 fun y H2 => R x y H2) {Q : Value → Shared → Prop} {f : Value → Value → Sem Value}
    (hf : ∀ v u s2 x y H2, Inv X pins σ H2 s2 → RelV x v → RelV y u → R x y H2 → wpAny (model X.prog X.w) X.A (f v u) Q X.xe s2) :
    wpAny (model X.prog X.w) X.A (eval a X.env) (fun v s₁ => wpAny (model X.prog X.w) X.A (eval b X.env) (fun u s₂ => wpAny (model X.prog X.w) X.A (f v u) Q X.xe s₂) X.xe s₁) X.xe s := by
  refine thn (ha pins s σ H _ I h) fun v s1 ⟨x, H1, I1, r1, q1⟩ => ?_
  refine thn (hb pins s1 σ H1 _ I1 q1) fun u s2 ⟨y, H2, I2, r2, q2⟩ => ?_
  exact hf v u s2 x y H2 I2 r1 r2 q2
theorem pe_op {op : Operator} {r : R2} (ho : OpR X (binaryOp op) r) (ha : PE X a ta) (hb : PE X b tb) : PE X (.BinOp a op b pos) (tOp r ta tb) := by
  intro pins s σ H Q I h
  exact wpAny_BinOp (binT ha hb I h fun v u s2 x y H2 I2 rx ry q => ho pins s2 σ H2 x y v u Q I2 rx ry q)
theorem pe_un {op : UnaryOp} {r : V → Hp → VK → Prop} (ho : UnR X (unaryOp op) r) (ha : PE X a ta) : PE X (.UnaryOp op a pos) (tUn r ta) := by
  intro pins s σ H Q I h
  exact UnaryOp_ (thn (ha pins s σ H _ I h) fun v s1 ⟨x, H1, I1, r1, q1⟩ => ho pins s1 σ H1 x v Q I1 r1 q1)
theorem opI {f : Value → Value → Sem Value} {C : Int → Int → Prop} {g : Int → Int → Int}
    (rule : ∀ (i j : Int) (t u : Tok) (s : Shared) (Q : Value → Shared → Prop) (E : Value → Shared → Prop), C i j → Q (.int (g i j) s.toks) { s with toks := s.toks + 1 } → wpAny (model X.prog X.w) X.A (f (.int i t) (.int j u)) Q E s) :
    OpR X f (rI C fun i j => .int (g i j)) := by
  intro pins s σ H x y v u Q I rx ry h
  obtain ⟨i, j, rfl, rfl, hc, q⟩ := h
  obtain ⟨t, rfl⟩ := rx
  obtain ⟨t', rfl⟩ := ry
  exact rule i j t t' s _ _ hc ⟨.int (g i j), H, I.tok _, ⟨_, rfl⟩, q⟩
theorem opI0 {f : Value → Value → Sem Value} {g : Int → Int → Int}
    (rule : ∀ (i j : Int) (t u : Tok) (s : Shared) (Q : Value → Shared → Prop) (E : Value → Shared → Prop), Q (.int (g i j) s.toks) { s with toks := s.toks + 1 } → wpAny (model X.prog X.w) X.A (f (.int i t) (.int j u)) Q E s) :
    OpR X f (rI0 fun i j => .int (g i j)) := by
  intro pins s σ H x y v u Q I rx ry h
  obtain ⟨i, j, rfl, rfl, q⟩ := h
  obtain ⟨t, rfl⟩ := rx
  obtain ⟨t', rfl⟩ := ry
  exact rule i j t t' s _ _ ⟨.int (g i j), H, I.tok _, ⟨_, rfl⟩, q⟩
theorem opB0 {f : Value → Value → Sem Value} {g : Int → Int → Bool}
    (rule : ∀ (i j : Int) (t u : Tok) (s : Shared) (Q : Value → Shared → Prop) (E : Value → Shared → Prop), Q (.bool (g i j)) s → wpAny (model X.prog X.w) X.A (f (.int i t) (.int j u)) Q E s) :
    OpR X f (rI0 fun i j => .bl (g i j)) := by
  intro pins s σ H x y v u Q I rx ry h
  obtain ⟨i, j, rfl, rfl, q⟩ := h
  obtain ⟨t, rfl⟩ := rx
  obtain ⟨t', rfl⟩ := ry
  exact rule i j t t' s _ _ ⟨.bl (g i j), H, I, rfl, q⟩
noncomputable def CDiv (i j : Int) : Prop := 0 < j ∧ j < 1073741824
noncomputable def CMul (i j : Int) : Prop := (-(2 ^ 64) < i ∧ i < 2 ^ 64) ∨ (-(2 ^ 64) < j ∧ j < 2 ^ 64)
theorem CMul.ok {i j : Int} (h : CMul i j) : IntMulOk i j := by
  rcases h with ⟨h1, h2⟩ | ⟨h1, h2⟩
  · exact .of_left (intBits_le_64 h1 h2)
  · exact .of_right (intBits_le_64 h1 h2)
theorem op_add : OpR X (binaryOp .Add) (rI0 fun i j => .int (i + j)) := opI0 fun _ _ _ _ _ _ _ q => add_int q
theorem op_sub : OpR X (binaryOp .Sub) (rI0 fun i j => .int (i - j)) := opI0 fun _ _ _ _ _ _ _ q => sub_int q
theorem op_mul : OpR X (binaryOp .Mult) (rI CMul fun i j => .int (i * j)) := opI fun _ _ _ _ _ _ _ hc q => mul_int q hc.ok
theorem op_fdiv : OpR X (binaryOp .FloorDiv) (rI CDiv fun i j => .int (i / j)) := opI fun i j _ _ _ _ _ hc q => by
  have h1 : (0 : Int) < j := hc.1
  have h2 : j < 1073741824 := hc.2
  exact floordiv_int (by omega) (by rw [Int.fdiv_eq_ediv_of_nonneg i (by omega)]; exact q) (.inl (PyProof.noPylong_small (by omega)))
theorem op_mod : OpR X (binaryOp .Mod) (rI (fun _ j => 0 < j) fun i j => .int (i % j)) := opI fun i j _ _ _ _ _ hc q => by
  have h1 : (0 : Int) < j := hc
  exact mod_int' (by omega) (by rw [Int.fmod_eq_emod_of_nonneg i (by omega)]; exact q)
theorem unI {f : Value → Sem Value} {g : Int → Int}
    (rule : ∀ (i : Int) (t : Tok) (s : Shared) (Q : Value → Shared → Prop) (E : Value → Shared → Prop), Q (.int (g i) s.toks) { s with toks := s.toks + 1 } → wpAny (model X.prog X.w) X.A (f (.int i t)) Q E s) :
    UnR X f (rU fun i => .int (g i)) := by
  intro pins s σ H x v Q I rx h
  obtain ⟨i, rfl, q⟩ := h
  obtain ⟨t, rfl⟩ := rx
  exact rule i t s _ _ ⟨.int (g i), H, I.tok _, ⟨_, rfl⟩, q⟩
theorem un_neg : UnR X (unaryOp .USub) (rU fun i => .int (-i)) := unI fun _ _ _ _ _ q => neg_int q
end
noncomputable def scal : V → V → Bool
  | .non, .non => true | .non, .int _ => true | .int _, .non => true | .non, .bl _ => true | .bl _, .non => true | .non, .str _ => true | .str _, .non => true
  | .int _, .int _ => true | .bl _, .bl _ => true | .str _, .str _ => true | .byt _, .byt _ => true
  | .int _, .str _ => true | .str _, .int _ => true | .bl _, .str _ => true | .str _, .bl _ => true
  | _, _ => false
noncomputable def rEq : R2 := fun x y H Q => scal x y = true ∧ Q (.bl (decide (x = y))) H
noncomputable def rNe : R2 := fun x y H Q => scal x y = true ∧ Q (.bl (!decide (x = y))) H
theorem dec_int {i j : Int} : decide (V.int i = V.int j) = (i == j) := by
  rw [Bool.eq_iff_iff]
  simp
theorem dec_bl {i j : Bool} : decide (V.bl i = V.bl j) = (i == j) := by
  rw [Bool.eq_iff_iff]
  simp
theorem dec_str {i j : Str} : decide (V.str i = V.str j) = (i == j) := by
  rw [Bool.eq_iff_iff]
  simp
theorem dec_byt {i j : Array UInt8} : decide (V.byt i = V.byt j) = (i.toList == j.toList) := by
  rw [Bool.eq_iff_iff]
  cases i
  cases j
  simp
section
variable {X : Cx} {a b c : Expr} {ta tb tc : TE} {pos : Pos}
theorem fin_bl {pins : List (Addr × Obj)} {σ : St} {H : Hp} {s : Shared} {Q : VK} {k k' : Bool} (I : Inv X pins σ H s) (q : Q (.bl k) H) (e : k = k') : EP X pins σ Q (.bool k') s := by
  subst e
  exact ⟨.bl k, H, I, rfl, q⟩
theorem op_eq : OpR X (compareOp .Eq) rEq := by
  intro pins s σ H x y v u Q I rx ry h
  obtain ⟨hs, q⟩ := h
  cases x with
  | non =>
    cases rx
    cases y with
    | non => cases ry; exact PySem.EqNone.eq_none_none (fin_bl I q (by simp))
    | bl j => cases ry; exact PySem.EqNone.eq_none_bool (fin_bl I q (by simp))
    | int j => obtain ⟨t', rfl⟩ := ry; exact PySem.EqNone.eq_none_int (fin_bl I q (by simp))
    | str j => obtain ⟨t', rfl⟩ := ry; exact PySem.EqNone.eq_none_str (fin_bl I q (by simp))
    | _ => exact absurd (show false = true from hs) Bool.false_ne_true
  | bl i =>
    cases rx
    cases y with
    | non => cases ry; exact PySem.EqNone.eq_bool_none (fin_bl I q (by simp))
    | bl j => cases ry; exact eq_bool (fin_bl I q dec_bl)
    | str j => obtain ⟨t', rfl⟩ := ry; exact PySem.EqMixed.eq_bool_str (fin_bl I q (by simp))
    | _ => exact absurd (show false = true from hs) Bool.false_ne_true
  | int i =>
    obtain ⟨t, rfl⟩ := rx
    cases y with
    | non => cases ry; exact PySem.EqNone.eq_int_none (fin_bl I q (by simp))
    | int j => obtain ⟨t', rfl⟩ := ry; exact eq_int (fin_bl I q dec_int)
    | str j => obtain ⟨t', rfl⟩ := ry; exact PySem.EqMixed.eq_int_str (fin_bl I q (by simp))
    | _ => exact absurd (show false = true from hs) Bool.false_ne_true
  | str i =>
    obtain ⟨t, rfl⟩ := rx
    cases y with
    | non => cases ry; exact PySem.EqNone.eq_str_none (fin_bl I q (by simp))
    | bl j => cases ry; exact PySem.EqMixed.eq_str_bool (fin_bl I q (by simp))
    | int j => obtain ⟨t', rfl⟩ := ry; exact PySem.EqMixed.eq_str_int (fin_bl I q (by simp))
    | str j => obtain ⟨t', rfl⟩ := ry; exact eq_str (fin_bl I q dec_str)
    | _ => exact absurd (show false = true from hs) Bool.false_ne_true
  | byt i =>
    obtain ⟨t, rfl⟩ := rx
    cases y with
    | byt j => obtain ⟨t', rfl⟩ := ry; exact PySem.W.eq_bytes (fin_bl I q dec_byt)
    | _ => exact absurd (show false = true from hs) Bool.false_ne_true
  | _ => cases y <;> exact absurd (show false = true from hs) Bool.false_ne_true
theorem op_ne : OpR X (compareOp .NotEq) rNe := by
  intro pins s σ H x y v u Q I rx ry h
  obtain ⟨hs, q⟩ := h
  cases x with
  | non =>
    cases rx
    cases y with
    | non => cases ry; exact PySem.EqNone.ne_none_none (fin_bl I q (by simp))
    | bl j => cases ry; exact PySem.EqNone.ne_none_bool (fin_bl I q (by simp))
    | int j => obtain ⟨t', rfl⟩ := ry; exact PySem.EqNone.ne_none_int (fin_bl I q (by simp))
    | str j => obtain ⟨t', rfl⟩ := ry; exact PySem.EqNone.ne_none_str (fin_bl I q (by simp))
    | _ => exact absurd (show false = true from hs) Bool.false_ne_true
  | bl i =>
    cases rx
    cases y with
    | non => cases ry; exact PySem.EqNone.ne_bool_none (fin_bl I q (by simp))
    | bl j => cases ry; exact ne_bool (fin_bl I q (congrArg not dec_bl))
    | str j => obtain ⟨t', rfl⟩ := ry; exact PySem.EqMixed.ne_bool_str (fin_bl I q (by simp))
    | _ => exact absurd (show false = true from hs) Bool.false_ne_true
  | int i =>
    obtain ⟨t, rfl⟩ := rx
    cases y with
    | non => cases ry; exact PySem.EqNone.ne_int_none (fin_bl I q (by simp))
    | int j => obtain ⟨t', rfl⟩ := ry; exact ne_int (fin_bl I q (congrArg not dec_int))
    | str j => obtain ⟨t', rfl⟩ := ry; exact PySem.EqMixed.ne_int_str (fin_bl I q (by simp))
    | _ => exact absurd (show false = true from hs) Bool.false_ne_true
  | str i =>
    obtain ⟨t, rfl⟩ := rx
    cases y with
    | non => cases ry; exact PySem.EqNone.ne_str_none (fin_bl I q (by simp))
    | bl j => cases ry; exact PySem.EqMixed.ne_str_bool (fin_bl I q (by simp))
    | int j => obtain ⟨t', rfl⟩ := ry; exact PySem.EqMixed.ne_str_int (fin_bl I q (by simp))
    | str j => obtain ⟨t', rfl⟩ := ry; exact ne_str (fin_bl I q (congrArg not dec_str))
    | _ => exact absurd (show false = true from hs) Bool.false_ne_true
  | byt i =>
    obtain ⟨t, rfl⟩ := rx
    cases y with
    | byt j => obtain ⟨t', rfl⟩ := ry; exact PySem.W.ne_bytes (fin_bl I q (congrArg not dec_byt))
    | _ => exact absurd (show false = true from hs) Bool.false_ne_true
  | _ => cases y <;> exact absurd (show false = true from hs) Bool.false_ne_true
theorem op_lt : OpR X (compareOp .Lt) (rI0 fun i j => .bl (decide (i < j))) := opB0 fun _ _ _ _ _ _ _ q => lt_int q
theorem op_gt : OpR X (compareOp .Gt) (rI0 fun i j => .bl (decide (j < i))) := opB0 fun _ _ _ _ _ _ _ q => gt_int q
theorem op_ge : OpR X (compareOp .GtE) (rI0 fun i j => .bl (decide (j ≤ i))) := opB0 fun _ _ _ _ _ _ _ q => ge_int q
theorem nomark (b : Expr) {op : CmpOp} (h : op ≠ .In := by decide) (h2 : op ≠ .NotIn := by decide) : behindInMarks op b = false := by
  have e1 : (op == CmpOp.In) = false := by cases op <;> first | rfl | exact absurd rfl h
  have e2 : (op == CmpOp.NotIn) = false := by cases op <;> first | rfl | exact absurd rfl h2
  cases b <;> simp [behindInMarks, e1, e2]
theorem pe_cmpR {op : CmpOp} {r : R2} (ho : OpR X (compareOp op) r) (ha : PE X a ta) (hb : PE X b tb) (hm : behindInMarks op b = false) : PE X (.Compare a [op] [b] pos) (tOp r ta tb) := by
  intro pins s σ H Q I h
  exact wpAny_Compare1 (binT ha hb I h fun v u s2 x y H2 I2 rx ry q => ho pins s2 σ H2 x y v u Q I2 rx ry q) hm
noncomputable def tTest (t : TE) : TT := fun σ H Q => t σ H fun x H' => ∃ k, x = .bl k ∧ Q k H'
theorem pt_cmpR {op : CmpOp} {r : R2} (ho : OpR X (compareOp op) r) (ha : PE X a ta) (hb : PE X b tb) (hm : behindInMarks op b = false) : PT X (.Compare a [op] [b] pos) (tTest (tOp r ta tb)) := by
  intro pins s σ H Q I h
  refine wpAny_isTrue_Compare1 (thn (ha pins s σ H _ I h) fun v s1 ⟨x, H1, I1, r1, q1⟩ => thn (hb pins s1 σ H1 _ I1 q1) fun u s2 ⟨y, H2, I2, r2, q2⟩ =>
    thn (ho pins s2 σ H2 x y v u _ I2 r1 r2 q2) fun c s3 ⟨z, H3, I3, r3, k, e, q3⟩ => ?_) hm
  subst e
  cases r3
  exact wpAny_truthy_bool ⟨H3, I3, q3⟩
noncomputable def tChain (r r' : R2) (ta tb tc : TE) : TE := fun σ H Q => ta σ H fun x H1 => tb σ H1 fun y H2 => r x y H2 fun z H3 => ∃ k, z = .bl k ∧
  (if k = true then tc σ H3 fun w' H4 => r' y w' H4 Q else Q (.bl false) H3)
theorem line63 : (sizeLine : Nat) < 2 ^ 63 := by rw [sizeLine_eq]; decide
theorem vals1 {x : V} {us : List Value} (r : Vals [x] us) : ∃ u, us = [u] ∧ RelV x u := by
  cases r with
  | cons r1 r2 => cases r2; exact ⟨_, rfl, r1⟩
end
end L2
namespace L2
open PySem PySem.Spec PyProof.Rows
structure ObjM (h : Heap) (x dx C : Addr) (mA : Str → Option Value) : Prop where
  obj : h.get? x = some (PySem.W.instObj C dx)
  ns : h.Ns1 dx mA
  ne : dx ≠ x
section
variable {prog : Program} {w : World} {A : Around} {E : Value → Shared → Prop} {s : Shared} {K : PySem.W.Frag} {x dx C f : Addr} {mA : Str → Option Value} {name : Str} {v : Value}
end
theorem RelO.some_of {v : V} {o : Option Value} (r : RelO (some v) o) : ∃ u, o = some u ∧ RelV v u := by
  cases o with
  | none => exact (show False from r).elim
  | some u => exact ⟨u, rfl, r⟩
theorem RelO.none_of {o : Option Value} (r : RelO none o) : o = none := by
  cases o with
  | none => rfl
  | some u => exact (show False from r).elim
section
variable {P : Program} {w : World} {H H' : Hp} {h h' : Heap} {a C dx : Addr} {fs fs' : List (Str × V)}
end
structure Cls (K : PySem.W.Frag) (C : Addr) : Prop where
  pg : PySem.W.plainGet K C Str.empty = true
  hd : PySem.W.hasDictIn K C = true
  po : PySem.W.plainOver K C = true
  sa : PySem.W.findIn K (.ref C) "__setattr__" = some (some (.builtin "object.__setattr__"))
theorem Cls.get {K : PySem.W.Frag} {C : Addr} (c : Cls K C) (f : Str) : PySem.W.plainGet K C f = true := c.pg
structure Con (K : PySem.W.Frag) (C : Addr) (f : Str) (v : V) (u : Value) : Prop where
  at_ : PySem.W.findIn K (.ref C) f = some (some u)
  rel : RelV v u
  get : PySem.W.specialIn K u "__get__" = some none
  cp : PySem.W.copiedNames.contains f = false
structure Meth (K : PySem.W.Frag) (C : Addr) (m : Str) (f : Addr) : Prop where
  at_ : PySem.W.findIn K (.ref C) m = some (some (.ref f))
  fn : PySem.W.isFn K (.ref f) = true
  kp : PySem.W.keepIn K (.ref f) = true
section
variable {X : Cx} {pins : List (Addr × Obj)} {σ : St} {H : Hp} {s : Shared} {a C dx : Addr} {fs : List (Str × V)} {f : Str} {v : V} {A : Around} {E : Value → Shared → Prop}
end
section
variable {X : Cx} {o e value : Expr} {f : Str} {pos pos' tpos : Pos} {ta tv : TE}
end
section
variable {X : Cx} {pins : List (Addr × Obj)} {σ : St} {H : Hp} {s : Shared} {A : Around} {E : Value → Shared → Prop} {Q : Value → Shared → Prop} {c : Value} {b : Bool}
inductive TyOf (K : PySem.W.Frag) (H : Hp) : V → Value → Prop where
  | non : TyOf K H .non (.type "NoneType")
  | bl (x : Bool) : TyOf K H (.bl x) (.type "bool")
  | int (i : Int) : TyOf K H (.int i) (.type "int")
  | str (x : Str) : TyOf K H (.str x) (.type "str")
  | flt (x : UInt64) : TyOf K H (.flt x) (.type "float")
  | lst {a : Addr} {xs : List V} (e : H a = some (.lst xs)) : TyOf K H (.ref a) (.type "list")
  | frz {a : Addr} {o : Obj} {xs : List V} (e : H a = some (.frz o (.lst xs))) : TyOf K H (.ref a) (.type "list")
  | tup {a : Addr} {xs : List V} (e : H a = some (.tup xs)) : TyOf K H (.ref a) (.type "tuple")
  | dK {a : Addr} {kvs : List (Key × V)} {ep : Nat} (e : H a = some (.dK kvs ep)) : TyOf K H (.ref a) (.type "dict")
  | dT {a : Addr} {kvs : List (List Key × V)} (e : H a = some (.dT kvs)) : TyOf K H (.ref a) (.type "dict")
  | ins {a C dx : Addr} {fs : List (Str × V)} (e : H a = some (.ins C dx fs)) (cl : Cls K C) (ha : PySem.W.findIn K (.ref C) "__class__" = some (some (.builtin "object.__class__")))
      (hn : PySem.W.specialIn K (.builtin "object.__class__") "__get__" = some (some (.builtin "getset_descriptor.__get__"))) (htk : PySem.W.takesIn K (.builtin "object.__class__") = some true)
      (hm : PySem.W.mroIn K C (.type "object") = some true) : TyOf K H (.ref a) (.ref C)
end
end L2
namespace L2
open PySem PySem.Spec PyProof.Rows
structure Room (k : Nat) (A : Around) : Prop where
  hd : A.handled = none
  dp : A.depth + 3 * k + 5 < recursionLimit
  un : A.units + 16 * k + 200 < cLine
  gd : A.guards = some []
theorem Room.mono {j k : Nat} {A : Around} (r : Room k A) (h : j ≤ k) : Room j A := ⟨r.hd, by have := r.dp; omega, by have := r.un; omega, r.gd⟩
theorem Room.deeper {k : Nat} {A : Around} (r : Room (k + 1) A) (env : Env) : Room k (A.deeper env) :=
  ⟨r.hd, by have := r.dp; show A.depth + 1 + 3 * k + 5 < _; omega, by have := r.un; show A.units + 3 + 16 * k + 200 < _; omega, r.gd⟩
theorem Room.in1 {k : Nat} {A : Around} (r : Room (k + 1) A) : Room k A.in1 :=
  ⟨r.hd, by have := r.dp; show A.depth + 3 * k + 5 < _; omega, by have := r.un; show A.units + 1 + 16 * k + 200 < _; omega, r.gd⟩
theorem Room.depth {k : Nat} {A : Around} (r : Room k A) : A.depth < recursionLimit := by have := r.dp; omega
theorem Room.units {k : Nat} {A : Around} (r : Room k A) : A.units + 64 < cLine := by have := r.un; omega
theorem Room.units0 {k : Nat} {A : Around} (r : Room k A) : A.units < cLine := by have := r.un; omega
noncomputable def tNil : TA := fun _ H Q => Q [] H
noncomputable def tCons (ta : TE) (tr : TA) : TA := fun σ H Q => ta σ H fun x H1 => tr σ H1 fun xs H2 => Q (x :: xs) H2
section
variable {X : Cx} {e : Expr} {es : List Expr} {te : TE} {t : TA} {pos : Pos}
theorem pa_nil : PA X [] tNil := fun _ _ _ _ H Q I h => Calls.spliced_nil ⟨[], H, I, .nil, h⟩
theorem pa_cons (ha : PE X e te) (hr : PA X es t) (hs : starEach (e :: es) X.env = (false, eval e X.env) :: starEach es X.env := by rfl) : PA X (e :: es) (tCons te t) := by
  intro pos pins s σ H Q I h
  rw [hs]
  show wpAny _ _ (spliced ((false, eval e X.env) :: backTo pos (starEach es X.env))) _ _ s
  refine Calls.spliced_cons (thn (ha pins s σ H _ I h) fun u s1 ⟨x, H1, I1, r1, q1⟩ => ?_)
  exact thn (hr pos pins s1 σ H1 _ I1 q1) fun us s2 ⟨xs, H2, I2, r2, q2⟩ => ⟨x :: xs, H2, I2, .cons r1 r2, q2⟩
noncomputable def tTup (t : TA) : TE := fun σ H Q => t σ H fun xs H1 => xs.length ≤ sizeLine ∧ ∀ p, H1 p = none → Q (.ref p) (upd H1 p (.tup xs))
noncomputable def tLst (t : TA) : TE := fun σ H Q => t σ H fun xs H1 => xs.length ≤ sizeLine ∧ ∀ p, H1 p = none → Q (.ref p) (upd H1 p (.lst xs))
theorem pe_tup {x1} (h : PA X es t) : PE X (.Tuple es x1 pos) (tTup t) := by
  intro pins s σ H Q I hq
  refine wpAny_Tuple_spliced (thn (h pos pins s σ H _ I hq) fun us s1 ⟨xs, H1, I1, r, z, q⟩ => ⟨by rw [← r.length]; exact z, ?_⟩)
  have hf : H1 s1.heap.objs.size = none := I1.hok.fresh (Nat.le_refl _)
  refine ⟨.ref s1.heap.objs.size, upd H1 s1.heap.objs.size (.tup xs), I1.laid (t' := s1.toks) (fun b u e => Heap.get?_push_of_some _ e) (Nat.le_refl _) ?_, rfl, q _ hf⟩
  exact ⟨z, us, r, TupP.new _ _⟩
theorem pe_lst (h : PA X es t) : PE X (.List es pos) (tLst t) := by
  intro pins s σ H Q I hq
  refine wpAny_List_spliced (thn (h pos pins s σ H _ I hq) fun us s1 ⟨xs, H1, I1, r, z, q⟩ => ⟨by rw [← r.length]; exact z, ?_⟩)
  have hf : H1 s1.heap.objs.size = none := I1.hok.fresh (Nat.le_refl _)
  refine ⟨.ref s1.heap.objs.size, upd H1 s1.heap.objs.size (.lst xs), I1.laid (t' := s1.toks) (fun b u e => Heap.get?_push_of_some _ e) (Nat.le_refl _) ?_, rfl, q _ hf⟩
  exact ⟨z, us, 0, r, Heap.get?_push_size _ rfl⟩
end
noncomputable abbrev Sp := List V → Hp → VK → XK → Prop
noncomputable abbrev CXT := List Env → Hp → Shared → XK → Value → Shared → Prop
structure Env0 (P : Program) (w : World) (K : PySem.W.Frag) (mg : Str → Option Value) (base : Heap) (A : Around) (outer : List Env) (s : Shared) (H : Hp) : Prop where
  frames : A.frames = some outer
  mod : Mod K mg base
  bs : ∀ b o, base.get? b = some o → s.heap.get? b = some o ∧ H b = none
  bsz : base.objs.size ≤ s.heap.objs.size
  funs : s.heap.FunFrames base outer
  frf : ∀ b ∈ frs outer, H b = none
  hok : HOk P w H s.heap
  bare : AllBare s.gens
noncomputable def CE (outer : List Env) (P : Program) (w : World) (H : Hp) (s : Shared) (Q : VK) (u : Value) (s' : Shared) : Prop :=
  ∃ v H', s'.os = s.os ∧ AllBare s'.gens ∧ Un (frs outer) [] H H' s.heap s'.heap ∧ HOk P w H' s'.heap ∧ RelV v u ∧ Q v H'
noncomputable def CR (CX : CXT) (outer : List Env) (P : Program) (w : World) (H : Hp) (s : Shared) (Q : VK) (E : XK) (r : Result) (s' : Shared) : Prop :=
  match r with
  | .ok (.ret u) => CE outer P w H s Q u s'
  | .ok _ => False
  | .error e => CX outer H s E e s'
structure FnOk (P : Program) (w : World) (K : PySem.W.Frag) (mg : Str → Option Value) (base : Heap) (CX : CXT) (k : Nat) (f : Addr) (fd : FuncData) (ps : List Str) (sp : Sp) : Prop where
  len : ∀ vs H Q E, sp vs H Q E → vs.length = ps.length
  run : ∀ (A : Around) (outer : List Env) (s : Shared) (H : Hp) (args : Args) (us : List Value) (vs : List V) (Q : VK) (E : XK), Room k A → Env0 P w K mg base A outer s H → BindsTo s fd args (ps.zip us) → Vals vs us → sp vs H Q E →
    codeAny (model P w) A (.call (.ref f) args) (CR CX outer P w H s Q E) s
theorem FnOk.mono {P : Program} {w : World} {K : PySem.W.Frag} {mg : Str → Option Value} {base : Heap} {CX : CXT} {j k : Nat} {f : Addr} {fd : FuncData} {ps : List Str} {sp : Sp} (F : FnOk P w K mg base CX j f fd ps sp) (h : j ≤ k) :
    FnOk P w K mg base CX k f fd ps sp := ⟨F.len, fun A outer s H args us vs Q E hr => F.run A outer s H args us vs Q E (hr.mono h)⟩
theorem FnOk.imp {P : Program} {w : World} {K : PySem.W.Frag} {mg : Str → Option Value} {base : Heap} {CX : CXT} {k : Nat} {f : Addr} {fd : FuncData} {ps : List Str} {sp sp' : Sp} (F : FnOk P w K mg base CX k f fd ps sp)
    (h : ∀ vs H Q E, sp' vs H Q E → sp vs H Q E) : FnOk P w K mg base CX k f fd ps sp' :=
  ⟨fun vs H Q E q => F.len vs H Q E (h _ _ _ _ q), fun A outer s H args us vs Q E hr he hb hv hs => F.run A outer s H args us vs Q E hr he hb hv (h _ _ _ _ hs)⟩
theorem Env0.in1 {P : Program} {w : World} {K : PySem.W.Frag} {mg : Str → Option Value} {base : Heap} {A : Around} {outer : List Env} {s : Shared} {H : Hp} (e : Env0 P w K mg base A outer s H) :
    Env0 P w K mg base A.in1 outer s H := ⟨e.frames, e.mod, e.bs, e.bsz, e.funs, e.frf, e.hok, e.bare⟩
section
variable {X : Cx} {pins : List (Addr × Obj)} {σ : St} {H : Hp} {s s' : Shared}
theorem Inv.env0 (I : Inv X pins σ H s) : Env0 X.prog X.w X.K X.mg X.base X.A X.stack s H :=
  ⟨I.ok.frames, I.ok.mod, I.bs, Nat.le_trans I.ok.bsz I.sz, I.stack, I.stkFree, I.hok, I.bare⟩
theorem Inv.after {Q : VK} {u : Value} (I : Inv X pins σ H s) (h : CE X.stack X.prog X.w H s Q u s') : EP X pins σ Q u s' := by
  obtain ⟨v, H', os, bare, un, hok, r, q⟩ := h
  obtain ⟨hh, g, d, t, os'⟩ := s'
  obtain rfl : os' = s.os := os
  exact ⟨v, H', I.call (h' := hh) (g' := g) (d' := d) (t' := t) (ch := []) un hok bare (fun b z => absurd z (by simp)), r, q⟩
end
noncomputable def tCall (sp : Sp) (dvs : List V) (E : XK) (t : TA) : TE := fun σ H Q => t σ H fun vs H1 => sp (vs ++ dvs) H1 Q E
noncomputable def Binds (K : PySem.W.Frag) (fd : FuncData) (ps : List Str) (ds : List Value) : Prop :=
  ∀ (s : Shared) (us : List Value), K.In s.heap → (us ++ ds).length = ps.length → BindsTo s fd ⟨us, []⟩ (ps.zip (us ++ ds))
theorem Binds.all {K : PySem.W.Frag} {fd : FuncData} {ps : List Str} (h : ∀ us : List Value, us.length = ps.length → bindArgs fd ⟨us, []⟩ = pure (ps.zip us)) : Binds K fd ps [] := fun s us _ hl => by
  rw [List.append_nil] at hl ⊢
  exact .of_eq (h us hl)
noncomputable def Passes (CX : CXT) (X : Cx) (E : XK) : Prop := ∀ (pins : List (Addr × Obj)) (σ : St) (H : Hp) (s : Shared) (e : Value) (s' : Shared), Inv X pins σ H s → CX X.stack H s E e s' → X.xe e s'
section
variable {X : Cx} {CX : CXT} {k : Nat} {f C : Addr} {fd : FuncData} {ps : List Str} {sp : Sp} {dvs : List V} {ds : List Value} {E : XK} {x m : Str} {p pos apos : Pos} {e o : Expr} {es : List Expr} {ta : TE} {t : TA}
theorem run_fn {pins : List (Addr × Obj)} {σ : St} {H : Hp} {s : Shared} {Q : VK} {us : List Value} {vs : List V} (F : FnOk X.prog X.w X.K X.mg X.base CX k f fd ps sp) (hr : Room k X.A) (hb : Binds X.K fd ps ds) (hd : Vals dvs ds) (hx : Passes CX X E)
    (I : Inv X pins σ H s) (r : Vals vs us) (h : sp (vs ++ dvs) H Q E) : wpAny (model X.prog X.w) X.A (call (.ref f) us) (EP X pins σ Q) X.xe s := by
  have r2 : Vals (vs ++ dvs) (us ++ ds) := r.append hd
  have hl : (us ++ ds).length = ps.length := by rw [← r2.length]; exact F.len _ _ _ _ h
  refine wpAny_call (codeAny_mono (F.run X.A X.stack s H ⟨us, []⟩ (us ++ ds) (vs ++ dvs) Q E hr I.env0 (hb s us I.kIn hl) r2 h) fun r s' hq => ?_)
  cases r with
  | error e => exact hx pins σ H s e s' I hq
  | ok fl =>
    cases fl with
    | ret u => exact I.after hq
    | next => exact False.elim hq
    | brk => exact False.elim hq
    | cont => exact False.elim hq
theorem pe_call (F : FnOk X.prog X.w X.K X.mg X.base CX k f fd ps sp) (hr : Room k X.A) (hg : Gl X x) (hm : X.mg x = some (.ref f)) (hk : PySem.W.keepIn X.K (.ref f) = true) (hb : Binds X.K fd ps ds) (hd : Vals dvs ds) (hx : Passes CX X E)
    (ha : PA X (e :: es) t) (hdb : (x == ("__debug__" : Str)) = false := by decide) (he : starEach (e :: es) X.env = (false, eval e X.env) :: starEach es X.env := by rfl) (hpl : (backTo pos (starEach es X.env)).any (·.1) = false := by rfl) :
    PE X (.Call (.Name x p) (e :: es) [] pos) (tCall sp dvs E t) := by
  intro pins s σ H Q I h
  refine wpAny_Call_Name_kw (ld_glob I hg hm ?_ hdb)
  refine PySem.W.callWith_K (h₀ := X.base) I.ok.mod.kin hk (thn (ha pos pins s σ H _ I h) fun us s1 ⟨vs, H1, I1, r, q⟩ => ⟨I1.kIn, ?_⟩) he hpl
  exact run_fn F hr hb hd hx I1 r q
structure Mk (K : PySem.W.Frag) (C f : Addr) : Prop where
  makes : PySem.W.makesIn K C = true
  init : PySem.W.findIn K (.ref C) "__init__" = some (some (.ref f))
  fn : PySem.W.isFn K (.ref f) = true
  kp : PySem.W.keepIn K (.ref C) = true
end
section
variable {X : Cx} {CX : CXT} {k : Nat} {f C : Addr} {fd : FuncData} {ps ks : List Str} {sp : Sp} {E : XK} {x m : Str} {p pos apos kpos : Pos} {e o : Expr} {es : List Expr} {kws : List Keyword} {te ta : TE} {t tk : TA} {nm : Option Str}
structure KBinds (K : PySem.W.Frag) (fd : FuncData) (ps ks : List Str) (g : List Value → List Value → List Value) (gV : List V → List V → List V) : Prop where
  to : ∀ (s : Shared) (us ws : List Value), K.In s.heap → (g us ws).length = ps.length → BindsTo s fd ⟨us, ks.zip ws⟩ (ps.zip (g us ws))
  rel : ∀ {vs : List V} {us : List Value} {zs : List V} {ws : List Value}, Vals vs us → Vals zs ws → Vals (gV vs zs) (g us ws)
variable {g : List Value → List Value → List Value} {gV : List V → List V → List V}
end
structure FnScope (N P : List Str) (sc : Scope) : Prop where
  kind : sc.kind = .function
  co : sc.isCoroutine = false
  gen : sc.isGenerator = false
  nd : N.Nodup
  pre : N.take P.length = P
  par : ∀ x ∈ P, sc.names.lookup x = some .local ∨ sc.names.lookup x = some .cell
  nofree : ∀ y ∈ sc.names, y.2 ≠ .free
theorem bindL_out {kindOf : Str → Option NameKind} {x : Str} : ∀ {binds : List (Str × Value)} {m : Str → Option Value}, (∀ v, (x, v) ∉ binds) → bindL kindOf binds m x = m x
  | [], _, _ => rfl
  | (n, v) :: r, m, h => by
    unfold bindL
    rw [bindL_out fun w hw => h w (List.mem_cons_of_mem _ hw)]
    split
    · have : x ≠ n := by rintro rfl; exact h v List.mem_cons_self
      simp [this]
    · rfl
theorem bindC_out {kindOf : Str → Option NameKind} {x : Str} : ∀ {binds : List (Str × Value)} {m : Str → Option Value}, (∀ v, (x, v) ∉ binds) → bindC kindOf binds m x = m x
  | [], _, _ => rfl
  | (n, v) :: r, m, h => by
    unfold bindC
    rw [bindC_out fun w hw => h w (List.mem_cons_of_mem _ hw)]
    split
    · rfl
    · have : x ≠ n := by rintro rfl; exact h v List.mem_cons_self
      simp [this]
theorem bindL_get {kindOf : Str → Option NameKind} {x : Str} {v : Value} : ∀ {P : List Str} {vs : List Value} {i : Nat} {m : Str → Option Value}, P.Nodup → P[i]? = some x → vs[i]? = some v → kindOf x = some .local →
    bindL kindOf (P.zip vs) m x = some v
  | [], _, _, _, _, h, _, _ => by simp at h
  | _ :: _, [], _, _, _, _, h, _ => by simp at h
  | p :: P, w :: vs, 0, m, nd, h1, h2, hk => by
    simp at h1 h2; subst h1; subst h2
    show bindL kindOf ((p, w) :: P.zip vs) m p = _
    unfold bindL
    rw [bindL_out fun v hv => (List.nodup_cons.mp nd).1 (List.of_mem_zip hv).1, if_pos hk]
    simp
  | p :: P, w :: vs, i + 1, m, nd, h1, h2, hk => by
    show bindL kindOf ((p, w) :: P.zip vs) m x = _
    unfold bindL
    exact bindL_get (i := i) (List.nodup_cons.mp nd).2 (by simpa using h1) (by simpa using h2) hk
theorem bindC_get {kindOf : Str → Option NameKind} {x : Str} {v : Value} : ∀ {P : List Str} {vs : List Value} {i : Nat} {m : Str → Option Value}, P.Nodup → P[i]? = some x → vs[i]? = some v → kindOf x ≠ some .local →
    bindC kindOf (P.zip vs) m x = some v
  | [], _, _, _, _, h, _, _ => by simp at h
  | _ :: _, [], _, _, _, _, h, _ => by simp at h
  | p :: P, w :: vs, 0, m, nd, h1, h2, hk => by
    simp at h1 h2; subst h1; subst h2
    show bindC kindOf ((p, w) :: P.zip vs) m p = _
    unfold bindC
    rw [bindC_out fun v hv => (List.nodup_cons.mp nd).1 (List.of_mem_zip hv).1, if_neg hk]
    simp
  | p :: P, w :: vs, i + 1, m, nd, h1, h2, hk => by
    show bindC kindOf ((p, w) :: P.zip vs) m x = _
    unfold bindC
    exact bindC_get (i := i) (List.nodup_cons.mp nd).2 (by simpa using h1) (by simpa using h2) hk
noncomputable def start (N : List Str) (vs : List V) : St := vs.map some ++ List.replicate (N.length - vs.length) none
noncomputable def cxOf (CX : CXT) (P : Program) (w : World) (K : PySem.W.Frag) (mg : Str → Option Value) (base : Heap) (N : List Str) (qual : Str) (scope : Scope) (f : Addr) (cd : Value) (A : Around) (outer : List Env) (s : Shared) (H : Hp) (E : XK) : Cx where
  prog := P
  w := w
  K := K
  mg := mg
  base := base
  A := A.deeper (envOfC qual scope s.heap.objs.size f cd)
  N := N
  s₀ := s
  H₀ := H
  env := envOfC qual scope s.heap.objs.size f cd
  outer := outer
  stack := envOfC qual scope s.heap.objs.size f cd :: outer
  ex := []
  calm := true
  fn := fun _ => true
  pn := []
  xe := fun e s' => wpAny (model P w) (A.deeper (envOfC qual scope s.heap.objs.size f cd)) (leaving (envOfC qual scope s.heap.objs.size f cd) e) (fun _ s'' => CX outer H s E e s'') (fun e' s'' => CX outer H s E e' s'') s'
theorem cell_has {sc : Scope} {n : Nat} {x : Str} (h : sc.names.lookup x = some .cell) : ∃ c, (cellsFrom n sc.names []).lookup x = some c := by
  have q := PySem.W.cellsFrom_some sc.names n [] (.inl h)
  exact Option.isSome_iff_exists.mp q
theorem inv_start {CX : CXT} {P : Program} {w : World} {K : PySem.W.Frag} {mg : Str → Option Value} {base : Heap} {N ps : List Str} {qual : Str} {scope : Scope} {f : Addr} {cd : Value} {A : Around} {outer : List Env} {s s1 : Shared} {H : Hp} {E : XK} {us : List Value} {vs : List V}
    (S : FnScope N ps scope) (hd : A.handled = none) (e0 : Env0 P w K mg base A outer s H) (hl : vs.length = ps.length) (r : Vals vs us)
    (x : InCallC s s.heap.objs.size (bindL (envOfC qual scope s.heap.objs.size f cd).kindOf (ps.zip us) fun _ => none) (cellsFrom (s.heap.objs.size + 1) scope.names []) (bindC (envOfC qual scope s.heap.objs.size f cd).kindOf (ps.zip us) fun _ => none) s1) :
    Inv (cxOf CX P w K mg base N qual scope f cd A outer s H E) [] (start N vs) H s1 := by
  have hpl : ps.length ≤ N.length := by have := congrArg List.length S.pre; rw [List.length_take] at this; omega
  obtain ⟨h1, tk, rfl, hk⟩ := x.done
  have noA : ∀ b : Addr, b ∉ (cxOf CX P w K mg base N qual scope f cd A outer s H E).ex := fun b z => absurd (show b ∈ ([] : List Addr) from z) (by simp)
  refine ⟨⟨e0.mod, S.kind, rfl, rfl, Nat.le_refl _, fun y z c h1 h2 => ?_, fun y hy => ?_, fun y c _ h => ?_, fun _ => hd, Around.frames_deeper e0.frames, .inr ⟨rfl, rfl⟩, fun b z => absurd z (noA b), e0.bs, e0.bsz, fun b _ _ => noA b, fun b z => absurd z (noA b), e0.funs, e0.frf⟩,
    rfl, e0.bare, Un.kept hk, ⟨_, x.toInCall.ns, fun i y v h1 h2 h3 => ?_⟩, fun y c h => ⟨_, x.cell y c h⟩, e0.hok.fresh (Nat.le_refl _), fun y c h => ?_, fun p hp => absurd (show p ∈ ([] : List (Addr × Obj)) from hp) (by simp), e0.hok.kept hk, ?_⟩
  · exact name_of_addr x.apart (PySem.mem_of_lookup h1) (PySem.mem_of_lookup h2)
  · have hy : scope.names.lookup y = some .cell ∨ scope.names.lookup y = some .free := hy
    rcases hy with hy | hy
    · exact cell_has hy
    · exact absurd rfl (S.nofree _ (PySem.mem_of_lookup hy))
  · exact Nat.le_of_lt (x.above y c (PySem.mem_of_lookup h))
  · have hi : i < vs.length := by
      unfold start at h2
      by_cases hi : i < vs.length
      · exact hi
      · rw [List.getElem?_append_right (by simpa using hi)] at h2
        rw [List.getElem?_replicate] at h2
        split at h2 <;> cases h2
    have ha : vs[i]? = some v := by
      unfold start at h2
      rw [List.getElem?_append_left (by simpa using hi), List.getElem?_map] at h2
      cases e : vs[i]? with
      | none => rw [e] at h2; cases h2
      | some a => rw [e] at h2; cases h2; rfl
    obtain ⟨u, hu, rv⟩ := r.get ha
    have hp : ps[i]? = some y := by
      rw [← S.pre, List.getElem?_take_of_lt (by omega)]; exact h1
    have ndP : ps.Nodup := by rw [← S.pre]; exact S.nd.sublist (List.take_sublist _ _)
    refine ⟨u, rv, ?_⟩
    rcases S.par y (List.mem_of_getElem? hp) with k | k
    · exact .inl ⟨k, bindL_get ndP hp hu k⟩
    · obtain ⟨c, e⟩ := cell_has (n := s.heap.objs.size + 1) k
      refine .inr ⟨.inl k, c, e, ?_⟩
      have q := x.cell y c e
      rw [bindC_get ndP hp hu (by show scope.names.lookup y ≠ _; rw [k]; decide)] at q
      exact q
  · exact e0.hok.fresh (Nat.le_of_lt (x.above y c (PySem.mem_of_lookup h)))
  · unfold start
    show _ = N.length
    rw [List.length_append, List.length_map, List.length_replicate]
    omega
theorem fn_of {CX : CXT} {P : Program} {w : World} {K : PySem.W.Frag} {mg : Str → Option Value} {base : Heap} {k : Nat} {f : Addr} {name qual : Str} {params : Arguments} {body : List Stmt} {scope : Scope} {dV kV doc pm cdv ct oc : Value} {an od : Option Addr}
    {osl : Array (Option Value)} {N ps : List Str} {sp : Sp} (lk : K.lookup f = some ⟨oc, od, .func (PySem.W.fnOf name qual params body scope dV kV doc pm an cdv ct), osl⟩) (hcd : PySem.W.codeIn K cdv qual = true) (S : FnScope N ps scope)
    (len : ∀ vs H Q E, sp vs H Q E → vs.length = ps.length)
    (hbody : ∀ (A : Around) (outer : List Env) (s : Shared) (H : Hp) (vs : List V) (Q : VK) (E : XK), Room k (A.deeper (envOfC qual scope s.heap.objs.size f cdv)) → sp vs H Q E →
      ∃ t, PSs (cxOf CX P w K mg base N qual scope f cdv A outer s H E) body t ∧ t { nx := fun _ H' => Q .non H', rt := Q } (start N vs) H) :
    FnOk P w K mg base CX (k + 1) f (PySem.W.fnOf name qual params body scope dV kV doc pm an cdv ct) ps sp := by
  refine ⟨len, fun A outer s H args us vs Q E hr e0 hb r hsp => ?_⟩
  have hl := len _ _ _ _ hsp
  have KX : K.In s.heap := e0.mod.kin.keeps fun b o e => (e0.bs b o e).1
  have lim : s.heap.NoLimit := e0.mod.nolimit.keeps fun b o e => (e0.bs b o e).1
  have hkind : ∀ y ∈ ps.zip us, scope.names.lookup y.1 = some .local ∨ (scope.names.lookup y.1 = some .cell ∧ ((cellsFrom (s.heap.objs.size + 1) scope.names []).lookup y.1).isSome = true) := fun ⟨n, v⟩ hy => by
    rcases S.par n (List.of_mem_zip hy).1 with q | q
    · exact .inl q
    · exact .inr ⟨q, PySem.W.cellsFrom_some _ _ _ (.inl q)⟩
  refine codeAny_call_function hr.depth (KX _ _ lk) rfl S.co S.gen rfl (PySem.W.codeRec_of KX hcd) (hb _ _ _ _ ?_)
  refine wpAny_newFunctionEnv_cells S.kind hkind fun env he s1 x => ?_
  subst he
  refine ⟨lim.keeps x.toInCall.keep, codeAny_func ?_⟩
  obtain ⟨t, ht, hq⟩ := hbody A outer s H vs Q E (hr.deeper _) hsp
  have I : Inv (cxOf CX P w K mg base N qual scope f cdv A outer s H E) [] (start N vs) H s1 := inv_start S hr.hd e0 hl r x
  refine wpAny_mono (ht [] s1 (start N vs) H _ I hq) (fun fl s' hs => ?_) fun e s' hs => hs
  have fin : ∀ {σ' : St} {H' : Hp} {v : V} {u : Value}, Inv (cxOf CX P w K mg base N qual scope f cdv A outer s H E) [] σ' H' s' → RelV v u → Q v H' → CE outer P w H s Q u s' :=
    fun {σ' H' v u} J rv q => ⟨v, H', J.os, J.bare, J.base, J.hok, rv, q⟩
  cases fl with
  | ret u =>
    obtain ⟨v, σ', H', J, rv, q⟩ := hs
    exact fin J rv q
  | next =>
    obtain ⟨σ', H', J, q⟩ := hs
    exact fin (v := V.non) (u := Value.none) J rfl q
  | brk =>
    obtain ⟨_, _, _, q⟩ := hs
    exact False.elim q
  | cont =>
    obtain ⟨_, _, _, q⟩ := hs
    exact False.elim q
end L2
namespace L2
open PySem PySem.Spec PyProof.Rows
section
variable {X : Cx} {x : Str} {p pos : Pos} {e : Expr} {es : List Expr} {t : TA} {id T : String} {r : List V → Hp → VK → Prop}
noncomputable def tCB (r : List V → Hp → VK → Prop) (t : TA) : TE := fun σ H Q => t σ H fun vs H1 => r vs H1 Q
theorem pe_callB (hc : CallR X (.builtin id) r) (hg : Gl X x) (hm : X.mg x = none) (hv : bootBuiltins x = some (.builtin id)) (ha : PA X (e :: es) t) (hn : x ≠ "__name__" := by decide) (hdb : (x == ("__debug__" : Str)) = false := by decide)
    (he : starEach (e :: es) X.env = (false, eval e X.env) :: starEach es X.env := by rfl) (hpl : (backTo pos (starEach es X.env)).any (·.1) = false := by rfl) : PE X (.Call (.Name x p) (e :: es) [] pos) (tCB r t) := by
  intro pins s σ H Q I h
  refine wpAny_Call_Name_kw (ld_blt I hg hm hv ?_ hn hdb)
  exact PyProof.Rows.callWith_builtin1 (thn (ha pos pins s σ H _ I h) fun us s1 ⟨vs, H1, I1, r1, q1⟩ => hc pins s1 σ H1 vs us Q I1 r1 q1) he hpl
theorem pe_callTy (hc : CallR X (.type T) r) (hg : Gl X x) (hm : X.mg x = none) (hv : bootBuiltins x = some (.type T)) (ha : PA X (e :: es) t) (hn : x ≠ "__name__" := by decide) (hdb : (x == ("__debug__" : Str)) = false := by decide)
    (he : starEach (e :: es) X.env = (false, eval e X.env) :: starEach es X.env := by rfl) (hpl : (backTo pos (starEach es X.env)).any (·.1) = false := by rfl) : PE X (.Call (.Name x p) (e :: es) [] pos) (tCB r t) := by
  intro pins s σ H Q I h
  refine wpAny_Call_Name_kw (ld_blt I hg hm hv ?_ hn hdb)
  exact PyProof.Rows.callWith_type1 (thn (ha pos pins s σ H _ I h) fun us s1 ⟨vs, H1, I1, r1, q1⟩ => hc pins s1 σ H1 vs us Q I1 r1 q1) he hpl
end
end L2
namespace HT
open PySem PyProof.Rows
section
open PySem.SeqAt
open PySem.AutoSeq1 (wpAny_loadPart')
open PySem.MeetsSeq PySem.MeetsSeq2 PySem.MeetsSeq3
end
section
variable {prog : Program} {w : World} {A : Around} {E : Value → Shared → Prop} {s : Shared}
noncomputable def sIx (n d : Nat) : Option Int → Nat
  | none => d
  | some v => if v < 0 then (v + (n : Int)).toNat else min v.toNat n
end
end HT
namespace L2
open PySem PySem.Spec PyProof.Rows
noncomputable abbrev TO := St → Hp → (Option Int → Hp → Prop) → Prop
noncomputable def PO (X : Cx) (e : Option Expr) (t : TO) : Prop :=
  ∀ (pins : List (Addr × Obj)) (s : Shared) (σ : St) (H : Hp) (Q : Option Int → Hp → Prop), Inv X pins σ H s → t σ H Q →
    wpAny (model X.prog X.w) X.A (evalPart e X.env) (fun u s' => ∃ o H', Inv X pins σ H' s' ∧ IsPart u o ∧ Q o H') X.xe s
noncomputable def tNoPart : TO := fun _ H Q => Q none H
noncomputable def tPart (t : TE) : TO := fun σ H Q => t σ H fun x H1 => ∃ i, x = .int i ∧ Q (some i) H1
section
variable {X : Cx} {e : Expr} {te : TE} {lo hi : Option Expr} {tl th : TO} {pos p2 : Pos}
theorem po_none : PO X none tNoPart := by
  intro pins s σ H Q I h
  rw [evalPart_none]
  exact wpAny_pure ⟨none, H, I, .none, h⟩
theorem po_some (h : PE X e te) : PO X (some e) (tPart te) := by
  intro pins s σ H Q I hw
  rw [evalPart_some]
  refine thn (h pins s σ H _ I hw) fun u s1 ⟨x, H1, I1, r1, q1⟩ => ?_
  obtain ⟨i, rfl, q⟩ := q1
  obtain ⟨t, rfl⟩ := r1
  exact ⟨some i, H1, I1, .int i t, q⟩
noncomputable def SlR (X : Cx) (r : V → Option Int → Option Int → Hp → VK → Prop) : Prop :=
  ∀ (pins : List (Addr × Obj)) (s : Shared) (σ : St) (H : Hp) (x : V) (v vl vu : Value) (lo hi : Option Int) (sl : Addr) (Q : VK), Inv X pins σ H s → RelV x v → s.heap.IsSliceOf sl vl vu .none → IsPart vl lo → IsPart vu hi → r x lo hi H Q →
    ∃ T id, typeLookup (.type T) "__getitem__" = pure (some (.builtin id)) ∧ s.TypeIs v T ∧ wpAny (model X.prog X.w) X.A (getItem v (.ref sl)) (EP X pins σ Q) X.xe s
noncomputable def tSl (r : V → Option Int → Option Int → Hp → VK → Prop) (te : TE) (tl th : TO) : TE := fun σ H Q => te σ H fun x H1 => tl σ H1 fun l H2 => th σ H2 fun u H3 => r x l u H3 Q
theorem pe_slice {r : V → Option Int → Option Int → Hp → VK → Prop} (hr : SlR X r) (he : PE X e te) (hl : PO X lo tl) (hu : PO X hi th) : PE X (.Subscript e (.Slice lo hi none p2) pos) (tSl r te tl th) := by
  intro pins s σ H Q I h
  refine Subscript_ (thn (he pins s σ H _ I h) fun v s1 ⟨x, H1, I1, r1, q1⟩ => ?_)
  refine wpAny_Slice (thn (hl pins s1 σ H1 _ I1 q1) fun vl s2 ⟨l, H2, I2, pl, q2⟩ => thn (hu pins s2 σ H2 _ I2 q2) fun vu s3 ⟨u, H3, I3, pu, q3⟩ => ?_)
  rw [evalPart_none]
  refine wpAny_pure ?_
  have I4 : Inv X pins σ H3 { s3 with heap := s3.heap.push { cls := .type "slice", data := .fields #[vl, vu, .none] } } := I3.kept (t' := s3.toks) fun b ob q => Heap.get?_push_of_some _ q
  obtain ⟨T, id, hT, ht, hg⟩ := hr pins { s3 with heap := s3.heap.push { cls := .type "slice", data := .fields #[vl, vu, .none] } } σ H3 x v vl vu l u s3.heap.objs.size Q I4 r1 (Heap.IsSliceOf.new ..) pl pu q3
  show wpAny (model X.prog X.w) X.A (subscriptTail e (.Slice lo hi none p2) v (.ref s3.heap.objs.size)) (EP X pins σ Q) X.xe { s3 with heap := s3.heap.push { cls := .type "slice", data := .fields #[vl, vu, .none] } }
  exact tail_any (ops := [.ref s3.heap.objs.size, v]) ht hT hg (by with_unfolding_all rfl)
noncomputable def cutV (xs : List V) (lo hi : Option Int) : List V := (xs.drop (HT.sIx xs.length 0 lo)).take (HT.sIx xs.length xs.length hi - HT.sIx xs.length 0 lo)
theorem cutV_length (xs : List V) (lo hi : Option Int) : (cutV xs lo hi).length ≤ xs.length := by
  unfold cutV
  rw [List.length_take, List.length_drop]
  omega
noncomputable def rSlT (K : PySem.W.Frag) : V → Option Int → Option Int → Hp → VK → Prop := fun x lo hi H Q => ∃ a xs, x = .ref a ∧ SqT K H a xs ∧
  ¬ (HT.sIx xs.length 0 lo = 0 ∧ HT.sIx xs.length xs.length hi = xs.length) ∧ ∀ p, H p = none → Q (.ref p) (upd H p (.tup (cutV xs lo hi)))
end
end L2
namespace L2
open PySem PySem.Spec PyProof.Rows
noncomputable def ixN (n : Nat) (i : Int) : Option Nat := if 0 ≤ i then (if i < n then some i.toNat else none) else if -(n : Int) ≤ i then some (i + n).toNat else none
noncomputable def atI {α : Type} (xs : List α) (i : Int) : Option α := (ixN xs.length i).bind fun j => xs[j]?
theorem ixN_seq {n : Nat} {i : Int} {j : Nat} (h : ixN n i = some j) : seqIndex? i n = some j ∧ j < n ∧ -(n : Int) ≤ i ∧ i < n := by
  unfold ixN at h
  by_cases h0 : 0 ≤ i
  · rw [if_pos h0] at h
    by_cases h1 : i < n
    · rw [if_pos h1] at h
      have e : i.toNat = j := Option.some.inj h
      exact ⟨by rw [seqIndex_of h0 h1, e], by omega, by omega, h1⟩
    · rw [if_neg h1] at h; cases h
  · rw [if_neg h0] at h
    by_cases h1 : -(n : Int) ≤ i
    · rw [if_pos h1] at h
      have e : (i + n).toNat = j := Option.some.inj h
      exact ⟨by rw [seqIndex_neg (by omega) h1, e], by omega, h1, by omega⟩
    · rw [if_neg h1] at h; cases h
theorem atI_get {α : Type} {xs : List α} {i : Int} {v : α} (h : atI xs i = some v) : ∃ j, seqIndex? i xs.length = some j ∧ xs[j]? = some v ∧ j < xs.length ∧ -(xs.length : Int) ≤ i ∧ i < xs.length := by
  unfold atI at h
  cases e : ixN xs.length i with
  | none => rw [e] at h; cases h
  | some j =>
    rw [e] at h
    obtain ⟨h1, h2, h3, h4⟩ := ixN_seq e
    exact ⟨j, h1, h, h2, h3, h4⟩
theorem atI_nat {α : Type} {xs : List α} {j : Nat} {v : α} (h : xs[j]? = some v) : atI xs (j : Int) = some v := by
  have hj : j < xs.length := (List.getElem?_eq_some_iff.mp h).1
  have e : ixN xs.length (j : Int) = some j := by
    unfold ixN
    rw [if_pos (by omega), if_pos (by omega)]; simp
  unfold atI; rw [e]; exact h
noncomputable def PlainIx (b : Expr) : Prop := ∀ o i, subscripted b false o i = operate [o, i] (getItem o i)
noncomputable def IxR (X : Cx) (r : R2) : Prop :=
  ∀ (value slice : Expr) (pins : List (Addr × Obj)) (s : Shared) (σ : St) (H : Hp) (x y : V) (v u : Value) (Q : VK), Inv X pins σ H s → RelV x v → RelV y u → r x y H Q →
    subscripted slice false v u = operate [v, u] (getItem v u) → wpAny (model X.prog X.w) X.A (subscriptTail value slice v u) (EP X pins σ Q) X.xe s
noncomputable def MtR (X : Cx) (id : String) (r : V → List V → Hp → VK → Prop) : Prop :=
  ∀ (pins : List (Addr × Obj)) (s : Shared) (σ : St) (H : Hp) (x : V) (xs : List V) (v : Value) (us : List Value) (Q : VK), Inv X pins σ H s → RelV x v → Vals xs us → r x xs H Q →
    wpAny (model X.prog X.w) X.A (call (.builtin id) (v :: us)) (EP X pins σ Q) X.xe s
section
variable {X : Cx} {a b : Expr} {ta tb : TE} {pos : Pos}
theorem pe_ix {r : R2} (hr : IxR X r) (ha : PE X a ta) (hb : PE X b tb) (hs : PlainIx b) : PE X (.Subscript a b pos) (tOp r ta tb) := by
  intro pins s σ H Q I h
  exact Subscript_ (binT ha hb I h fun v u s2 x y H2 I2 rx ry q => hr a b pins s2 σ H2 x y v u Q I2 rx ry q (hs _ _))
noncomputable def rIxL (K : PySem.W.Frag) : R2 := fun x y H Q => ∃ p xs i v, x = .ref p ∧ y = .int i ∧ SqL K H p xs ∧ atI xs i = some v ∧ Q v H
noncomputable def rIxT (K : PySem.W.Frag) : R2 := fun x y H Q => ∃ p xs i v, x = .ref p ∧ y = .int i ∧ SqT K H p xs ∧ atI xs i = some v ∧ Q v H
noncomputable def rIxS : R2 := fun x y H Q => ∃ z i c, x = .str z ∧ y = .int i ∧ z.length ≤ sizeLine ∧ atI z.cps.toList i = some c ∧ Q (.str ⟨#[c]⟩) H
theorem ix_list : IxR X (rIxL X.K) := by
  intro value slice pins s σ H x y v u Q I rx ry h hs
  obtain ⟨p, xs, i, z, rfl, rfl, hq, he, q⟩ := h
  cases rx
  obtain ⟨t, rfl⟩ := ry
  obtain ⟨its, r, pl, hz⟩ := I.list hq
  obtain ⟨j, h1, h2, h3, h4, h5⟩ := atI_get he
  obtain ⟨w, ew, rw'⟩ := r.get h2
  have hl := r.length
  have hn := line63
  have fin : EP X pins σ Q w s := ⟨z, H, I, rw', q⟩
  by_cases h0 : 0 ≤ i
  · have hj : i.toNat = j := by
      rw [seqIndex_of h0 h5] at h1
      exact Option.some.inj h1
    exact item_listR pl.isList h0 (by omega) (by rw [hj]; simpa using ew) fin hs
  · have hj : (i + (its.toArray.size : Int)).toNat = j := by
      rw [seqIndex_neg (by omega) h4] at h1
      rw [List.size_toArray, ← hl]
      exact Option.some.inj h1
    exact subscriptTail_builtinR (x := w) pl.isList.typeIs slot_list_getitem.lookup
      (wpAny_getItem_list_neg (Q := fun r s' => r = w ∧ EP X pins σ Q r s') pl.isList (by omega) (by rw [List.size_toArray] <;> omega) (by omega) (by rw [hj]; simpa using ew) ⟨rfl, fin⟩) hs
theorem ix_tup : IxR X (rIxT X.K) := by
  intro value slice pins s σ H x y v u Q I rx ry h hs
  obtain ⟨p, xs, i, z, rfl, rfl, hq, he, q⟩ := h
  cases rx
  obtain ⟨t, rfl⟩ := ry
  obtain ⟨its, r, pl, hz⟩ := I.tuple hq
  obtain ⟨j, h1, h2, h3, h4, h5⟩ := atI_get he
  obtain ⟨w, ew, rw'⟩ := r.get h2
  have hl := r.length
  have hn := line63
  have fin : EP X pins σ Q w s := ⟨z, H, I, rw', q⟩
  exact subscriptTail_builtinR (x := w) pl.typeIs slot_tuple_getitem.lookup
    (getItem_tuple (j := j) (Q := fun r s' => r = w ∧ EP X pins σ Q r s') pl (by omega) (by omega) (by rw [List.size_toArray, ← hl]; exact h1) (by simpa using ew) ⟨rfl, fin⟩) hs
theorem ix_str : IxR X rIxS := by
  intro value slice pins s σ H x y v u Q I rx ry h hs
  obtain ⟨z, i, c, rfl, rfl, hz, he, q⟩ := h
  obtain ⟨t, rfl⟩ := rx
  obtain ⟨t', rfl⟩ := ry
  obtain ⟨j, h1, h2, h3, h4, h5⟩ := atI_get he
  have hl : z.cps.toList.length = z.length := by simp [Str.length]
  rw [hl] at h1 h4 h5
  have hn := line63
  exact tail_any (typeIs_str s z t) slot_str_getitem.lookup (getItem_str (c := c) (by
    have e1 : decide (i < -(2 ^ 63 : Int)) = false := decide_eq_false (by omega)
    have e2 : decide (i ≥ 2 ^ 63) = false := decide_eq_false (by omega)
    rw [e1, e2, Bool.or_false]) (by rw [h1]; simpa using h2) ⟨.str ⟨#[c]⟩, H, I.tok _, ⟨_, rfl⟩, q⟩) hs
theorem mapSeq_set (its : List Value) (n j : Nat) (u : Value) : Obj.mapSeq (·.setIfInBounds j u) { cls := .type "list", data := .seq its.toArray n } = { cls := .type "list", data := .seq (its.set j u).toArray n } := by
  simp [Obj.mapSeq]
theorem Inv.lst {pins : List (Addr × Obj)} {σ : St} {H : Hp} {s : Shared} {p : Addr} {xs : List V} (I : Inv X pins σ H s) (h : H p = some (.lst xs)) :
    ∃ (its : List Value) (n : Nat), Vals xs its ∧ s.heap.get? p = some { cls := .type "list", data := .seq its.toArray n } ∧ xs.length ≤ sizeLine := by
  obtain ⟨z, its, n, r, e⟩ := I.hok p _ h
  exact ⟨its, n, r, e, z⟩
theorem Inv.lstUpd {pins : List (Addr × Obj)} {σ : St} {H : Hp} {s : Shared} {p : Addr} {xs ys : List V} {its its' : List Value} {n n' : Nat} {f : Obj → Obj} (I : Inv X pins σ H s) (h : H p = some (.lst xs))
    (ho : s.heap.get? p = some { cls := .type "list", data := .seq its.toArray n }) (hf : f { cls := .type "list", data := .seq its.toArray n } = { cls := .type "list", data := .seq its'.toArray n' }) (r : Vals ys its') (hz : ys.length ≤ sizeLine) (t : Nat) :
    Inv X pins σ (upd H p (.lst ys)) { s with heap := s.heap.update p f, toks := t } := by
  have e : (s.heap.update p f).get? p = some { cls := .type "list", data := .seq its'.toArray n' } := by
    rw [Heap.get?_update_self f ho (by rw [hf] <;> rfl), hf]
  refine I.write (x := p) (e := p) (by rw [h]; trivial) (.inl rfl) (fun b u hb q => (Heap.get?_update_other _ _ (Ne.symm hb)).trans q) ⟨_, e⟩ ?_
  exact ⟨hz, its', n', r, e⟩
noncomputable def rSetL : V → V → V → Hp → (Hp → Prop) → Prop := fun o i v H Q => ∃ p xs k j, o = .ref p ∧ i = .int k ∧ H p = some (.lst xs) ∧ ixN xs.length k = some j ∧ Q (upd H p (.lst (xs.set j v)))
theorem set_list : PSet X rSetL := by
  intro pins s σ H o i v ov iv u Q I ro ri rv h
  obtain ⟨p, xs, k, j, rfl, rfl, hp, hj, q⟩ := h
  cases ro
  obtain ⟨t, rfl⟩ := ri
  obtain ⟨its, n, r, ho, hz⟩ := I.lst hp
  obtain ⟨h1, h2, h3, h4⟩ := ixN_seq hj
  have hl := r.length
  have hn := line63
  have I' : Inv X pins σ (upd H p (.lst (xs.set j v))) { s with heap := s.heap.update p (Obj.mapSeq (·.setIfInBounds j u)) } :=
    I.lstUpd hp ho (mapSeq_set its n j u) (r.set rv j) (by rw [List.length_set]; exact hz) s.toks
  by_cases h0 : 0 ≤ k
  · have hk : k.toNat = j := by
      rw [seqIndex_of h0 h4] at h1
      exact Option.some.inj h1
    exact PySem.W.ki_setAt ho h0 (by omega) (by rw [List.size_toArray, ← hl]; exact h4) (by rw [hk]; exact ⟨_, I', q⟩)
  · have hk : (k + (its.toArray.size : Int)).toNat = j := by
      rw [seqIndex_neg (by omega) h3] at h1
      rw [List.size_toArray, ← hl]
      exact Option.some.inj h1
    exact PySem.W.ki_setBack ho (by omega) (by rw [List.size_toArray, ← hl]; exact h3) (by omega) (by rw [hk]; exact ⟨_, I', q⟩)
theorem slice_bounds (lo hi : Option Int) (n : Nat) : (sliceBounds lo hi none n).1 = ((HT.sIx n 0 lo : Nat) : Int) ∧ (sliceBounds lo hi none n).2.1 = ((HT.sIx n n hi : Nat) : Int) ∧ (sliceBounds lo hi none n).2.2 = 1 := by
  refine ⟨?_, ?_, rfl⟩
  · cases lo with
    | none => simp [sliceBounds, HT.sIx]
    | some i =>
      simp only [sliceBounds, HT.sIx, Option.getD_none, show (1 : Int) > 0 by decide, if_true]
      by_cases h : i < 0
      · simp only [h, if_true] <;> omega
      · simp only [h, if_false] <;> omega
  · cases hi with
    | none => simp [sliceBounds, HT.sIx]
    | some i =>
      simp only [sliceBounds, HT.sIx, Option.getD_none, show (1 : Int) > 0 by decide, if_true]
      by_cases h : i < 0
      · simp only [h, if_true] <;> omega
      · simp only [h, if_false] <;> omega
theorem slicePick_cut (its : List Value) (lo hi : Option Int) : slicePick its.toArray lo hi none = ((its.drop (HT.sIx its.length 0 lo)).take (HT.sIx its.length its.length hi - HT.sIx its.length 0 lo)).toArray := by
  obtain ⟨h1, h2, h3⟩ := slice_bounds lo hi its.toArray.size
  unfold slicePick
  rw [h1, h2, h3]
  simp only [sliceRange_one, pick_run, List.size_toArray] <;> rfl
noncomputable def rSlL (K : PySem.W.Frag) : V → Option Int → Option Int → Hp → VK → Prop := fun x lo hi H Q => ∃ a xs, x = .ref a ∧ SqL K H a xs ∧ ∀ p, H p = none → Q (.ref p) (upd H p (.lst (cutV xs lo hi)))
theorem sl_list : SlR X (rSlL X.K) := by
  intro pins s σ H x v vl vu lo hi sl Q I rx hs pl pu h
  obtain ⟨a, xs, rfl, hx, q⟩ := h
  cases rx
  obtain ⟨its, r, ht, hz⟩ := I.list hx
  have hlen := r.length
  refine ⟨"list", _, slot_list_getitem.lookup, ht.isList.typeIs, ?_⟩
  refine wpAny_getItem_list_slice ht.isList hs pl pu .none (by simp) ?_ (by rw [List.size_toArray] <;> omega)
  rw [slicePick_cut, ← hlen]
  refine ⟨.ref s.heap.objs.size, _, I.laid (t' := s.toks) (o := .lst (cutV xs lo hi)) (fun b ob q => Heap.get?_push_of_some _ q) (Nat.le_refl _) ?_, rfl, q _ (I.hok.fresh (Nat.le_refl _))⟩
  exact ⟨Nat.le_trans (cutV_length xs lo hi) hz, _, 0, (r.drop (HT.sIx xs.length 0 lo)).take (HT.sIx xs.length xs.length hi - HT.sIx xs.length 0 lo), Heap.get?_push_size _ rfl⟩
noncomputable def flatV : V → Bool
  | .non => true
  | .bl _ => true
  | .int _ => true
  | .str _ => true
  | _ => false
noncomputable def eqV : V → V → Bool
  | .non, .non => true
  | .bl a, .bl b => a == b
  | .bl a, .int b => (if a then 1 else 0) == b
  | .int a, .bl b => a == (if b then 1 else 0)
  | .int a, .int b => a == b
  | .str a, .str b => a == b
  | _, _ => false
theorem eqAt_V {A : Around} {s : Shared} {y x : V} {u v : Value} (ry : RelV y u) (rx : RelV x v) (fy : flatV y = true) (fx : flatV x = true) : SeqAt.EqAt A s u v (eqV y x) := by
  cases y with
  | non =>
    cases ry
    cases x with
    | non => cases rx; exact SeqAt.EqAt.same _
    | bl b => cases rx; exact SeqAt.EqAt.none_bool b
    | int b => obtain ⟨t, rfl⟩ := rx; exact SeqAt.EqAt.none_int b t
    | str b => obtain ⟨t, rfl⟩ := rx; exact SeqAt.EqAt.none_str b t
    | _ => exact absurd (show false = true from fx) Bool.false_ne_true
  | bl a =>
    cases ry
    cases x with
    | non => cases rx; exact SeqAt.EqAt.bool_none a
    | bl b => cases rx; exact SeqAt.EqAt.bool_bool a b
    | int b => obtain ⟨t, rfl⟩ := rx; exact SeqAt.EqAt.bool_int a b t
    | str b => obtain ⟨t, rfl⟩ := rx; exact SeqAt.EqAt.bool_str a b t
    | _ => exact absurd (show false = true from fx) Bool.false_ne_true
  | int a =>
    obtain ⟨t', rfl⟩ := ry
    cases x with
    | non => cases rx; exact SeqAt.EqAt.int_none a t'
    | bl b => cases rx; exact SeqAt.EqAt.int_bool a t' b
    | int b => obtain ⟨t, rfl⟩ := rx; exact SeqAt.EqAt.int_int a t' b t
    | str b => obtain ⟨t, rfl⟩ := rx; exact SeqAt.EqAt.int_str a t' b t
    | _ => exact absurd (show false = true from fx) Bool.false_ne_true
  | str a =>
    obtain ⟨t', rfl⟩ := ry
    cases x with
    | non => cases rx; exact SeqAt.EqAt.str_none a t'
    | bl b => cases rx; exact SeqAt.EqAt.str_bool a t' b
    | int b => obtain ⟨t, rfl⟩ := rx; exact SeqAt.EqAt.str_int a t' b t
    | str b => obtain ⟨t, rfl⟩ := rx; exact SeqAt.EqAt.str_str a t' b t
    | _ => exact absurd (show false = true from fx) Bool.false_ne_true
  | _ => exact absurd (show false = true from fy) Bool.false_ne_true
noncomputable def eqU (x : V) (u : Value) : Bool := match u with
  | .none => eqV .non x
  | .bool b => eqV (.bl b) x
  | .int i _ => eqV (.int i) x
  | .str z _ => eqV (.str z) x
  | _ => false
theorem eqU_of {x y : V} {u : Value} (r : RelV y u) (f : flatV y = true) : eqU x u = eqV y x := by
  cases y with
  | non => cases r; rfl
  | bl b => cases r; rfl
  | int i => obtain ⟨t, rfl⟩ := r; rfl
  | str z => obtain ⟨t, rfl⟩ := r; rfl
  | _ => exact absurd (show false = true from f) Bool.false_ne_true
theorem any_eqU {x : V} : ∀ {xs : List V} {us : List Value}, Vals xs us → xs.all flatV = true → us.any (eqU x) = xs.any fun y => eqV y x
  | _, _, .nil, _ => rfl
  | y :: xs, u :: us, .cons r t, f => by
    rw [List.all_cons, Bool.and_eq_true] at f
    rw [List.any_cons, List.any_cons, eqU_of r f.1, any_eqU t f.2]
theorem mem_eqAt {A : Around} {s : Shared} {x : V} {v : Value} (rx : RelV x v) (fx : flatV x = true) : ∀ {xs : List V} {us : List Value}, Vals xs us → xs.all flatV = true → ∀ u ∈ us, SeqAt.EqAt A s u v (eqU x u)
  | _, _, .nil, _ => fun u hu => by cases hu
  | y :: xs, u :: us, .cons r t, f => fun u' hu => by
    rw [List.all_cons, Bool.and_eq_true] at f
    rcases List.mem_cons.mp hu with rfl | hu
    · rw [eqU_of r f.1]; exact eqAt_V r rx f.1 fx
    · exact mem_eqAt rx fx t f.2 u' hu
noncomputable def inV (x : V) (xs : List V) : Bool := xs.any fun y => eqV y x
noncomputable def rIn (K : PySem.W.Frag) (neg : Bool) : R2 := fun x y H Q => ∃ p xs, y = .ref p ∧ (SqL K H p xs ∨ SqT K H p xs) ∧ flatV x = true ∧ xs.all flatV = true ∧ Q (.bl (if neg then !inV x xs else inV x xs)) H
theorem op_in_seq : OpR X (compareOp .In) (rIn X.K false) := by
  intro pins s σ H x y v u Q I rx ry h
  obtain ⟨p, xs, rfl, hq, fx, fs, q⟩ := h
  cases ry
  rcases hq with hq | hq
  · obtain ⟨its, r, pl, hz⟩ := I.list hq
    refine SeqAt.in_listAt (eqU x) pl.isList (fun w hw => mem_eqAt rx fx r fs w (by simpa using hw)) ⟨.bl _, H, I, rfl, ?_⟩
    rw [show its.toArray.any (eqU x) = its.any (eqU x) by simp, any_eqU r fs]
    exact q
  · obtain ⟨its, r, pl, hz⟩ := I.tuple hq
    refine SeqAt.in_tupleAt (eqU x) pl (fun w hw => mem_eqAt rx fx r fs w (by simpa using hw)) ⟨.bl _, H, I, rfl, ?_⟩
    rw [show its.toArray.any (eqU x) = its.any (eqU x) by simp, any_eqU r fs]
    exact q
theorem op_notIn_seq : OpR X (compareOp .NotIn) (rIn X.K true) := by
  intro pins s σ H x y v u Q I rx ry h
  obtain ⟨p, xs, rfl, hq, fx, fs, q⟩ := h
  cases ry
  rcases hq with hq | hq
  · obtain ⟨its, r, pl, hz⟩ := I.list hq
    refine SeqAt.notIn_listAt (eqU x) pl.isList (fun w hw => mem_eqAt rx fx r fs w (by simpa using hw)) ⟨.bl _, H, I, rfl, ?_⟩
    rw [show its.toArray.any (eqU x) = its.any (eqU x) by simp, any_eqU r fs]
    exact q
  · obtain ⟨its, r, pl, hz⟩ := I.tuple hq
    refine SeqAt.notIn_tupleAt (eqU x) pl (fun w hw => mem_eqAt rx fx r fs w (by simpa using hw)) ⟨.bl _, H, I, rfl, ?_⟩
    rw [show its.toArray.any (eqU x) = its.any (eqU x) by simp, any_eqU r fs]
    exact q
theorem call_len_seq : CallR X (.builtin "len") (fun xs H Q => ∃ p ys, xs = [.ref p] ∧ (SqL X.K H p ys ∨ SqT X.K H p ys) ∧ Q (.int ys.length) H) := by
  intro pins s σ H xs us Q I r h
  obtain ⟨p, ys, rfl, hq, q⟩ := h
  obtain ⟨u, rfl, rx⟩ := vals1 r
  cases rx
  have hn := line63
  rcases hq with hq | hq
  · obtain ⟨its, r', pl, hz⟩ := I.list hq
    have hlen := r'.length
    exact Calls.call_len_list pl.isList (by simp only [List.size_toArray] <;> omega) ⟨.int ys.length, H, I.tok _, ⟨s.toks + 1, by rw [List.size_toArray, hlen]⟩, q⟩
  · obtain ⟨its, r', pl, hz⟩ := I.tuple hq
    have hlen := r'.length
    exact len_tuple pl (by simp only [List.size_toArray] <;> omega) ⟨.int ys.length, H, I.tok _, ⟨s.toks + 1, by rw [List.size_toArray, hlen]⟩, q⟩
theorem call_tuple_of : CallR X (.type "tuple") (fun xs H Q => ∃ p ys, xs = [.ref p] ∧ ((SqL X.K H p ys ∧ ∀ l, H l = none → Q (.ref l) (upd H l (.tup ys))) ∨ (SqT X.K H p ys ∧ Q (.ref p) H))) := by
  intro pins s σ H xs us Q I r h
  obtain ⟨p, ys, rfl, h⟩ := h
  obtain ⟨u, rfl, rx⟩ := vals1 r
  cases rx
  rcases h with ⟨hq, q⟩ | ⟨hq, q⟩
  · obtain ⟨its, r', pl, hz⟩ := I.list hq
    have hlen := r'.length
    refine call_tuple_list pl.isList (fun h' kp => ?_) (by simp only [List.size_toArray] <;> omega)
    have I1 : Inv X pins σ H { s with heap := h' } := I.kept (t' := s.toks) kp
    have I2 : Inv X pins σ (upd H h'.objs.size (.tup ys)) { s with heap := h'.push { cls := .type "tuple", data := .seq its.toArray } } :=
      I1.laid (t' := s.toks) (fun b o e => Heap.get?_push_of_some _ e) (Nat.le_refl _) (show ObjOk X.prog X.w _ _ _ (.tup ys) from ⟨hz, its, r', TupP.new _ _⟩)
    exact ⟨.ref h'.objs.size, _, I2, rfl, q _ (I1.hok.fresh (Nat.le_refl _))⟩
  · obtain ⟨its, r', pl, hz⟩ := I.tuple hq
    exact call_tuple_same pl ⟨.ref p, H, I, rfl, q⟩
noncomputable def tyV (K : PySem.W.Frag) (T : String) (x : V) (H : Hp) : Prop := match x with
  | .str _ => T = "str"
  | .int _ => T = "int"
  | .ref p => (T = "list" ∧ ∃ xs, SqL K H p xs) ∨ (T = "tuple" ∧ ∃ o, K.lookup p = some o ∧ o.cls = .type "tuple" ∧ o.dict = none) ∨
      (T = "dict" ∧ ((∃ kvs ep, H p = some (.dK kvs ep)) ∨ ∃ kvs, H p = some (.dT kvs))) ∨ (T = "set" ∧ ∃ S n, H p = some (.set S n))
  | _ => False
theorem tyV_is {pins : List (Addr × Obj)} {σ : St} {H : Hp} {s : Shared} {T : String} {x : V} {v : Value} (I : Inv X pins σ H s) (r : RelV x v) (ty : tyV X.K T x H) :
    s.TypeIs v T ∧ ∀ a, v = .ref a → ∃ ob, s.heap.get? a = some ob ∧ ob.dict = none := by
  cases x with
  | str z =>
    obtain ⟨t, rfl⟩ := r
    cases (show T = "str" from ty)
    exact ⟨typeIs_str s z t, fun _ e => nomatch e⟩
  | int i =>
    obtain ⟨t, rfl⟩ := r
    cases (show T = "int" from ty)
    exact ⟨typeIs_int s i t, fun _ e => nomatch e⟩
  | ref p =>
    cases r
    rcases ty with ⟨rfl, xs, hq⟩ | ⟨rfl, o, hk, hc, hd⟩ | ⟨rfl, hk⟩ | ⟨rfl, S, n, hk⟩
    · obtain ⟨its, _, pl, _⟩ := I.list hq
      refine ⟨pl.isList.typeIs, fun a e => ?_⟩
      cases e
      obtain ⟨o, n, e, c, hd, _⟩ := pl
      exact ⟨o, e, hd⟩
    · refine ⟨⟨o, I.kIn p o hk, hc⟩, fun a e => ?_⟩
      cases e
      exact ⟨o, I.kIn _ o hk, hd⟩
    · have z : ∃ o, s.heap.get? p = some o ∧ o.ExactDict := by
        rcases hk with ⟨kvs, ep, hk⟩ | ⟨kvs, hk⟩
        · obtain ⟨_, _, _, _, o, _, e, ex, _⟩ := I.hok p _ hk
          exact ⟨o, e, ex⟩
        · obtain ⟨_, _, _, _, o, _, _, e, ex, _⟩ := I.hok p _ hk
          exact ⟨o, e, ex⟩
      obtain ⟨o, e, ex⟩ := z
      refine ⟨⟨o, e, ex.1⟩, fun a e2 => ?_⟩
      cases e2
      exact ⟨o, e, ex.2.1⟩
    · obtain ⟨o, _, _, _, e, ex, _⟩ := I.hok p _ hk
      refine ⟨⟨o, e, ex.1⟩, fun a e2 => ?_⟩
      cases e2
      exact ⟨o, e, ex.2.1⟩
  | _ => exact False.elim ty
noncomputable def tBM0 (K : PySem.W.Frag) (T : String) (r : V → List V → Hp → VK → Prop) (to : TE) : TE := fun σ H Q => to σ H fun x H1 => tyV K T x H1 ∧ r x [] H1 Q
noncomputable def tBM (K : PySem.W.Frag) (T : String) (r : V → List V → Hp → VK → Prop) (to : TE) (t : TA) : TE := fun σ H Q => to σ H fun x H1 => tyV K T x H1 ∧ t σ H1 fun xs H2 => r x xs H2 Q
variable {o e : Expr} {es : List Expr} {to : TE} {t : TA} {name : Str} {apos cpos : Pos} {T id : String} {r : V → List V → Hp → VK → Prop}
theorem pe_bm (pa : PlainAttrs T) (slot : Slot T name id) (hty : typeOf (.builtin id) = pure (.type "method_descriptor")) (hm : MtR X id r) (ho : PE X o to) (ha : PA X (e :: es) t)
    (hbase : attributeBase o name X.env (eval o X.env) = eval o X.env := by rfl)
    (hfew : ((backTo cpos (starEach (e :: es) X.env)).all (fun x => !x.1) && (backToKw cpos (keywordEach [] X.env)).all (fun x => x.1.isSome)
      && decide ((e :: es).length + ([] : List Keyword).length + (if ([] : List Keyword).isEmpty then 0 else 1) < 30)) = true := by rfl)
    (hline : (apos.endLine == cpos.line) = true := by rfl) (hs : starEach (e :: es) X.env = (false, eval e X.env) :: starEach es X.env := by rfl) (hplain : (backTo cpos (starEach es X.env)).any (·.1) = false := by rfl) :
    PE X (.Call (.Attribute o name apos) (e :: es) [] cpos) (tBM X.K T r to t) := by
  intro pins s σ H Q I h
  refine wpAny_Call_method_late hbase hfew hline rfl (thn (ho pins s σ H _ I h) fun v s1 ⟨x, H1, I1, r1, ty, q1⟩ => ?_)
  obtain ⟨h1, h2⟩ := tyV_is I1 r1 ty
  refine ⟨T, id, pa, slot, hty, h1, h2, ?_⟩
  have hA := ha cpos pins s1 σ H1 _ I1 q1
  rw [hs] at hA ⊢
  refine Calls.callWith_builtin (by show (false || (backTo cpos (starEach es X.env)).any (·.1)) = false; rw [hplain] <;> rfl) (Calls.evalArgs_plain ?_)
  exact thn hA fun us s2 ⟨vs, H2, I2, r2, q2⟩ => hm pins s2 σ H2 x vs v us Q I2 r1 r2 q2
end
end L2
namespace L2
open PySem PySem.Spec PyProof.Rows
noncomputable def MtM (X : Cx) (id : String) (r : V → List V → Hp → VK → Prop) : Prop :=
  ∀ (pins : List (Addr × Obj)) (s : Shared) (σ : St) (H : Hp) (x : V) (xs : List V) (v : Value) (us : List Value) (Q : VK), Inv X pins σ H s → RelV x v → Vals xs us → r x xs H Q →
    wpAny (model X.prog X.w) X.A (call (.builtin id) (v :: us)) (EP X pins σ Q) X.xe s
theorem Vals.one : ∀ {x : V} {us : List Value}, Vals [x] us → ∃ u, us = [u] ∧ RelV x u
  | _, _, .cons r .nil => ⟨_, rfl, r⟩
theorem Vals.zero : ∀ {us : List Value}, Vals [] us → us = []
  | _, .nil => rfl
theorem Vals.eraseIdx : ∀ {xs : List V} {us : List Value} (i : Nat), Vals xs us → Vals (xs.eraseIdx i) (us.eraseIdx i)
  | _, _, _, .nil => .nil
  | _, _, 0, .cons _ t => t
  | _, _, i + 1, .cons r t => .cons r (Vals.eraseIdx i t)
theorem Vals.reverse {xs : List V} {us : List Value} (h : Vals xs us) : Vals xs.reverse us.reverse := by
  induction h with
  | nil => exact .nil
  | cons r t ih => rw [List.reverse_cons, List.reverse_cons]; exact Vals.append ih (.cons r .nil)
theorem Vals.rep {xs : List V} {us : List Value} (h : Vals xs us) : ∀ k : Nat, Vals (List.replicate k xs).flatten (List.replicate k us).flatten
  | 0 => .nil
  | k + 1 => by
    rw [List.replicate_succ, List.replicate_succ, List.flatten_cons, List.flatten_cons]
    exact Vals.append h (Vals.rep h k)
section
variable {X : Cx} {pins : List (Addr × Obj)} {σ : St} {H : Hp} {s : Shared} {l b : Addr} {xs ys zs : List V}
theorem Inv.lset {its its' : List Value} {n : Nat} {f : Array Value → Array Value} {t' : Nat} (I : Inv X pins σ H s) (hH : H l = some (.lst xs))
    (e : s.heap.get? l = some { cls := .type "list", data := .seq its.toArray n }) (hf : f its.toArray = its'.toArray) (hv : Vals ys its') (hz : ys.length ≤ sizeLine) :
    Inv X pins σ (upd H l (.lst ys)) { s with heap := s.heap.update l (Obj.mapSeq f), toks := t' } := by
  have q := PySem.IsL.update e f
  rw [hf] at q
  refine I.write (x := l) (e := l) (by rw [hH]; exact trivial) (.inl rfl) (fun b' u hb hu => (Heap.get?_update_other s.heap (Obj.mapSeq f) (Ne.symm hb)).trans hu) ⟨_, q⟩ ?_
  exact ⟨hz, its', _, hv, q⟩
theorem Inv.fresh (I : Inv X pins σ H s) : H s.heap.objs.size = none := I.hok.fresh (Nat.le_refl _)
theorem Inv.lstM (I : Inv X pins σ H s) (hH : H l = some (.lst xs)) : xs.length ≤ sizeLine ∧ ∃ (its : List Value) (n : Nat), Vals xs its ∧ xs.length = its.length ∧ s.heap.get? l = some { cls := .type "list", data := .seq its.toArray n } := by
  obtain ⟨z, its, n, r, e⟩ := I.hok l _ hH
  exact ⟨z, its, n, r, r.length, e⟩
theorem notLongL {n : Nat} (h : n ≤ sizeLine) : Builtin.List.listTooLong n = false := by
  unfold Builtin.List.listTooLong
  exact decide_eq_false (by omega)
end
section
variable {X : Cx}
noncomputable def rAppend : V → List V → Hp → VK → Prop := fun x vs H Q => ∃ l xs y, x = .ref l ∧ vs = [y] ∧ H l = some (.lst xs) ∧ xs.length < sizeLine ∧ Q .non (upd H l (.lst (xs ++ [y])))
theorem mt_append : MtM X "list.append" rAppend := by
  intro pins s σ H x vs v us Q I rx rv h
  obtain ⟨l, xs, y, rfl, rfl, hH, hz, q⟩ := h
  cases rx
  obtain ⟨u, rfl, ru⟩ := rv.one
  obtain ⟨z, its, n, r, hl, e⟩ := I.lstM hH
  refine call_meets F.slot_list_append ⟨_, e, rfl⟩ F.entry_list_append (F.args_list_append_2 _ _) (PySem.list_append l its.toArray n u (by rw [List.size_toArray]; omega)) ⟨e, ?_⟩
  refine ⟨.non, _, I.lset (its' := its ++ [u]) hH e (by simp) (r.append (.cons ru .nil)) ?_, rfl, q⟩
  rw [List.length_append, List.length_singleton]
  omega
noncomputable def rPopAt : V → List V → Hp → VK → Prop := fun x vs H Q => ∃ l xs i k y, x = .ref l ∧ vs = [.int i] ∧ H l = some (.lst xs) ∧ -(2 ^ 63) ≤ i ∧ i < 2 ^ 63 ∧ seqIndex? i xs.length = some k ∧ xs[k]? = some y ∧ Q y (upd H l (.lst (xs.eraseIdx k)))
noncomputable def rCat : R2 := fun x y H Q => ∃ l b xs zs, x = .ref l ∧ y = .ref b ∧ H l = some (.lst xs) ∧ H b = some (.lst zs) ∧ xs.length + zs.length ≤ sizeLine ∧ ∀ p, H p = none → Q (.ref p) (upd H p (.lst (xs ++ zs)))
end
section
variable {prog : Program} {w : World} {A : Around} {E : Value → Shared → Prop} {s : Shared}
theorem bounds_run {a c n : Nat} (hac : a ≤ c) (hc : c ≤ n) : sliceBounds (some (a : Int)) (some (c : Int)) none n = ((a : Int), (c : Int), 1) := by
  simp only [sliceBounds, Option.getD_none]
  have h1 : ¬ ((a : Int) < 0) := by omega
  have h2 : ¬ ((c : Int) < 0) := by omega
  simp only [h1, h2, if_false, show (1 : Int) > 0 by decide, if_true]
  congr 1
  · omega
  · congr 1; omega
set_option maxRecDepth 100000 in
theorem setItem_slice {l b sl : Addr} {items new : Array Value} {n n2 : Nat} {vl vu : Value} {a c : Nat} {Q : Unit → Shared → Prop}
    (e : s.heap.get? l = some { cls := .type "list", data := .seq items n }) (e2 : s.heap.get? b = some { cls := .type "list", data := .seq new n2 }) (hne : l ≠ b)
    (hs : s.heap.IsSliceOf sl vl vu .none) (pl : IsPart vl (some (a : Int))) (pu : IsPart vu (some (c : Int))) (hac : a ≤ c) (hc : c ≤ items.size)
    (hsz : items.size + new.size ≤ sizeLine) (h : Q () { s with heap := s.heap.update l (Obj.mapSeq fun xs => xs.extract 0 a ++ new ++ xs.extract c xs.size) }) :
    wpAny (model prog w) A (setItem (.ref l) (.ref sl) (.ref b)) Q E s := by
  have hl : s.heap.IsList l items := PySem.IsL.isList e
  have hb : s.heap.IsList b new := PySem.IsL.isList e2
  obtain ⟨os, hos, hcs, hds⟩ := id hs
  have hTs : s.TypeIs (.ref sl) "slice" := ⟨os, hos, hcs⟩
  have hstep : ¬ ((rawPart none == rawInt 0) = true) := Bool.false_ne_true
  have hsame : Builtin.List.listSameRef (.ref l) (.ref b) = false := by
    unfold Builtin.List.listSameRef
    exact beq_eq_false_iff_ne.mpr hne
  have hmax : (max (a : Int) (c : Int)).toNat = c := by omega
  have hz' : ((fun xs : Array Value => xs.extract 0 a ++ new ++ xs.extract c xs.size) items).size ≤ sizeLine + 1 := by
    simp only [Array.size_append, Array.size_extract]
    omega
  unfold setItem
  try with_reducible refine wpAny_holding ?_
  first | refine wpAny_bind (wpAny_pure ?_) | skip
  refine wpAny_bind (wpAny_sequenceKey hl.typeIs (by decide) ?_)
  refine wpAny_bind (wpAny_callSpecial?_slot (name := Str.ofString "__setitem__") hl.typeIs slot_list_setitem
    (wpAny_call_entry slot_list_setitem hl.typeIs entry_list_setitem ?_ (args_list_setitem _ _ _)))
  show wpAny _ _ (Builtin.List.listSubscript? (.ref sl) >>= _) _ _ s
  refine wpAny_bind ?_
  unfold Builtin.List.listSubscript?
  refine wpAny_bind (wpAny_specialOf hTs slice_no_index ?_)
  simp only [Option.isNone_none, if_true]
  refine wpAny_pure ?_
  show wpAny _ _ (typeOf (.ref sl) >>= _) _ _ s
  refine wpAny_bind (wpAny_typeOf hTs ?_)
  first
    | rw [if_neg (by decide)]
    | refine PySem.W.KFB.if_not (by decide) ?_
  rw [listSliceParts_eq]
  refine wpAny_bind (wpAny_bind (wpAny_field hos hds (x := .none) rfl (wpAny_bind (wpAny_listPart .none ?_))))
  rw [if_neg hstep]
  refine wpAny_bind (wpAny_field hos hds (x := vl) rfl (wpAny_bind (wpAny_listPart pl ?_)))
  refine wpAny_bind (wpAny_field hos hds (x := vu) rfl (wpAny_bind (wpAny_listPart pu (wpAny_pure ?_))))
  first
    | simp only [hsame, Bool.false_eq_true, if_false]
    | refine PySem.W.KFB.if_not hsame ?_
    | (dsimp only
       rw [if_neg (by rw [hsame]; exact Bool.false_ne_true)])
  refine wpAny_bind (m := Builtin.List.listAllItems (.ref b) "must assign iterable to extended slice") ?_
  unfold Builtin.List.listAllItems
  refine wpAny_bind (wpAny_typeOf hb.typeIs ?_)
  first
    | refine PySem.W.KFB.if_so (by decide) ?_
    | rw [if_pos (by decide)]
    | simp only [beq_self_eq_true, Bool.true_or, if_true]
  unfold Builtin.List.listItems
  refine wpAny_bind (wpAny_seqItems e2 rfl (wpAny_pure ?_))
  refine wpAny_bind (wpAny_bind (wpAny_seqItems e rfl (wpAny_pure ?_)))
  refine wpAny_bind (wpAny_of_eq ((sliceIndices_raw (some (a : Int)) (some (c : Int)) none items.size (by simp)).trans (congrArg (pure : Int × Int × Int → Sem (Int × Int × Int)) (bounds_run hac hc))) ?_)
  show wpAny _ _ (if ((1 : Int) == 1) = true then _ else _) _ _ s
  rw [if_pos (by decide)]
  refine wpAny_bind (wpAny_rule ?_)
  first
    | simp only [notLongL hsz, Bool.false_eq_true, if_false]
    | refine PySem.W.KFB.if_not (notLongL hsz) ?_
  first | refine wpAny_bind (wpAny_pure ?_) | skip
  show wpAny _ _ (updateSeq l (fun xs => xs.extract 0 ((a : Int)).toNat ++ new ++ xs.extract (max (a : Int) (c : Int)).toNat xs.size) >>= _) _ _ s
  rw [hmax, Int.toNat_natCast]
  refine wpAny_bind (wpAny_updateSeq (hz := Nat.le_trans (Nat.le_add_right _ _) hsz) (_hz' := hz') e rfl ?_)
  refine wpAny_bind (wpAny_letGo ?_)
  first
    | exact wpAny_bind (wpAny_pure (wpAny_pure ⟨.none, rfl, wpAny_pure h⟩))
    | exact wpAny_pure ⟨.none, rfl, wpAny_pure h⟩
end
section
variable {X : Cx}
end
end L2
namespace Att
open PySem PySem.W PySem.Calls PyProof.Rows
theorem ints_of_wellAll {P : Params} {h : Heap} : ∀ (ns : List Int) (vs : List Value), WellAll P h vs (ns.map WData.int) → IntsAre vs ns := by
  intro ns
  induction ns with
  | nil =>
    intro vs w
    rw [List.map_nil] at w
    cases w
    exact .nil
  | cons n ns ih =>
    intro vs w
    rw [List.map_cons] at w
    cases w with
    | cons a b =>
      cases a
      exact .cons _ _ (ih _ b)
theorem script_of {l : OpenLaw} {n : Nat} (hn : l.most = some n) {P : Params} {h : Heap} {args : List WData} {vals : List Value}
    (hpre : l.row.toRowW.claim.pre args = true) (hwl : WellAll P h vals args) :
    ∃ a vs ns, vals = [Value.ref a] ∧ args = [WData.list (ns.map WData.int)] ∧ h.get? a = some { cls := .type "list", data := .seq vs.toArray } ∧ IntsAre vs ns ∧ ns.length ≤ n := by
  have hsh : WShape.hasAll [] args [.list .int] = true := (pre_splitW hpre).1
  have hc : l.pre.holds [] { args := args } = true := (pre_splitW hpre).2
  obtain ⟨d, r, rfl, h1, h2⟩ := hasAllW_cons hsh
  obtain rfl := hasAllW_nil h2
  obtain ⟨xs, rfl, h3⟩ := hasW_list h1
  obtain ⟨ns, rfl⟩ := items_int h3
  have hlen : ns.length ≤ n := by
    unfold OpenLaw.pre at hc
    have h4 : (WTm.not (.lt (.lit (.int (n : Int))) (.len (.arg 0)))).holds [] { args := [.list (ns.map .int)] } = true := by
      have h4 := (holds_andW hc).1
      rw [hn] at h4
      exact h4
    have h5 := condW_of h4 (w_not (w_lt w_lit (w_len_list (w_arg rfl))))
    rw [List.length_map] at h5
    refine Nat.le_of_not_lt fun q => ?_
    have q' : (n : Int) < ((ns.length : Nat) : Int) := by omega
    first
      | (rw [decide_eq_true q'] at h5; exact absurd h5 (by decide))
      | (simp at h5; omega)
  cases hwl with
  | cons w1 w2 =>
    cases w2
    cases w1 with
    | list ho hall => exact ⟨_, _, ns, rfl, rfl, ho, ints_of_wellAll ns _ hall, hlen⟩
theorem post_true (l : OpenLaw) (args : List WData) : l.row.toRowW.claim.post args (.bool true) args = true :=
  postW_of (r := l.row.toRowW) (X := (true == true))
    (show WShape.has [] (.bool true) .bool = true by first | rfl | decide | simp [WShape.has, WShape.arms, WShape.armsAll])
    (show (WTm.eq .res (.lit (.bool true))).value [] { args := args, res := some (.bool true), after := args } = some (.bool (true == true)) from w_eq_bool (w_res rfl) w_lit) rfl
theorem attach_call {l : OpenLaw} {n : Nat} {q : Program} {loose : List Str} {XP : (Str → Option Value) → Heap → Prop} {YP : World → Heap → Prop} {d : DefRec}
    (hn : l.most = some n) (hdf : d.params.defaults = [])
    (call : ∀ (w : World) (s₀ s₁ : Shared) (mg mb : Str → Option Value) (fa : Addr) (o : Obj) (pm cd doc : Value) (a : Addr) (vs : List Value) (ns : List Int),
      Ground q loose [] XP w s₀ mg mb s₁.heap → YP w s₁.heap →
      s₁.heap.get? fa = some o → o.data = .func (docDef d.name d.params d.body d.scope pm cd doc) → s₁.heap.CodeRec cd d.name → mg d.name = some (.ref fa) →
      s₁.heap.get? a = some { cls := .type "list", data := .seq vs.toArray } → IntsAre vs ns → ns.length ≤ n → s₁.gens = #[] →
      codeAny (model l.prog w) callerA (.call (.ref fa) ⟨[.ref a], []⟩) (fun r s' => r = .ok (.ret (.bool true)) ∧ OldK s₁.heap s'.heap ∧ s'.os = s₁.os ∧ AllBare s'.gens) s₁) :
    WalkO q loose XP YP l.row.toRowW d [] (fun f vs => PySem.call f vs) := by
  intro w s₀ s₁ mg mb G Y fa o pm cd doc dV kV ho hd hcd hD hmg hg args vals as hpre hlay hrd hwl hlo
  obtain rfl : dV = .none := Dflts.none hD hdf
  obtain rfl : kV = .none := Dflts.noKw hD
  obtain ⟨a, vs, ns, rfl, rfl, hobj, hints, hlen⟩ := script_of hn hpre hwl
  refine enter_call (codeAny_mono (call w s₀ s₁ mg mb fa o pm cd doc a vs ns G Y ho (fd_plain hd) hcd hmg hobj hints hlen hg) fun r s' hq => ?_)
  obtain ⟨rfl, h2, h3, h4⟩ := hq
  exact ⟨.inl ⟨.bool true, .bool true, [], rfl, fun _ => rfl, .bool true, post_true l _, fun _ => ⟨List.Pairwise.nil, fun _ hm => (nomatch hm)⟩⟩, h2, h3, h4⟩
section
variable {prog : Program} {w : World} {A : Around} {E : Value → Shared → Prop} {s : Shared} {K : Frag}
end
end Att
namespace L2
open PySem PySem.Spec PyProof.Rows
theorem vals_ints : ∀ {vs : List Value} {ns : List Int}, IntsAre vs ns → Vals (ns.map V.int) vs
  | _, _, .nil => .nil
  | _, _, .cons n t h => .cons ⟨t, rfl⟩ (vals_ints h)
noncomputable def Only (H : Hp) : Prop := ∀ b, H b = none ∨ ∃ o xs, H b = some (.frz o (.lst xs))
theorem law_call {P : Program} {w : World} {K : PySem.W.Frag} {mg mb : Str → Option Value} {CX : CXT} {k : Nat} {fa a : Addr} {fd : FuncData} {x : Str} {sp : Sp} {s₁ : Shared} {vs : List Value} {ns : List Int}
    (KX : K.In s₁.heap) (hns : s₁.heap.Ns mainGlobals mg) (hb : s₁.heap.Ns builtinsNs mb) (hbb : ∀ x : Str, x ≠ "__name__" → mb x = bootBuiltins x) (hlim : s₁.heap.NoLimit) (hg : s₁.gens = #[])
    (ha : s₁.heap.get? a = some { cls := .type "list", data := .seq vs.toArray }) (hi : IntsAre vs ns) (hl : ns.length ≤ sizeLine) (hr : Room k callerA)
    (F : ∀ base : Heap, K.In base → base.Ns mainGlobals mg → FnOk P w K mg base CX k fa fd [x] sp) (hbind : ∀ (s : Shared) (u : Value), BindsTo s fd ⟨[u], []⟩ [(x, u)])
    (hsp : ∀ H : Hp, Only H → SqL K H a (ns.map V.int) → sp [.ref a] H (fun v _ => v = .bl true) fun _ _ _ => False)
    (hCX : ∀ H e s', CX [] H s₁ (fun _ _ _ => False) e s' → False) :
    codeAny (model P w) callerA (.call (.ref fa) ⟨[.ref a], []⟩) (fun r s' => r = .ok (.ret (.bool true)) ∧ OldK s₁.heap s'.heap ∧ s'.os = s₁.os ∧ AllBare s'.gens) s₁ := by
  have rv := vals_ints hi
  have lenV := hi.length
  have core : ∀ H : Hp, Only H → SqL K H a (ns.map V.int) → HOk P w H s₁.heap → (∀ b, H b ≠ none → b = a) → (H a ≠ none → K.lookup a = none) →
      codeAny (model P w) callerA (.call (.ref fa) ⟨[.ref a], []⟩) (fun r s' => r = .ok (.ret (.bool true)) ∧ OldK s₁.heap s'.heap ∧ s'.os = s₁.os ∧ AllBare s'.gens) s₁ := by
    intro H hO hS hok hA hK
    have base_of : ∀ {b : Addr} {o : Obj}, s₁.heap.get? b = some o → H b = none → (hidT s₁.heap H).get? b = some o := fun e n => hidT_get e n
    have noA : ∀ {b : Addr} {o : Obj} {es : Array DictEntry} {ep : Nat}, s₁.heap.get? b = some o → o.data = .dict es ep → H b = none := fun {b o es ep} e d => by
      cases q : H b with
      | none => rfl
      | some u =>
        have e' : b = a := hA b (by rw [q]; simp)
        subst e'
        rw [ha] at e; cases e
        have d' : Data.seq vs.toArray _ = Data.dict es ep := d
        cases d'
    have nsK : ∀ {b : Addr} {m : Str → Option Value}, s₁.heap.Ns b m → (hidT s₁.heap H).Ns b m := fun {b m} ⟨o, es, ep, e, d, r⟩ => ⟨o, es, ep, base_of e (noA e d), d, r⟩
    have hKb : K.In (hidT s₁.heap H) := fun b o e => base_of (KX b o e) (by
      cases q : H b with
      | none => rfl
      | some u =>
        have e' : b = a := hA b (by rw [q]; simp)
        subst e'
        rw [hK (by rw [q]; simp)] at e; cases e)
    have hM : Mod K mg (hidT s₁.heap H) := ⟨hKb, nsK hns, ⟨mb, nsK hb, hbb⟩, let ⟨mc, h1, h2⟩ := hlim; ⟨mc, nsK h1, h2⟩⟩
    have e0 : Env0 P w K mg (hidT s₁.heap H) callerA [] s₁ H := ⟨rfl, hM, fun b o e => of_hidT e, Nat.le_of_eq (hidT_size _ _), trivial, fun b hb => absurd (show b ∈ ([] : List Addr) from hb) (by simp), hok, .of_eq hg⟩
    refine codeAny_mono ((F _ hKb (nsK hns)).run callerA [] s₁ H ⟨[.ref a], []⟩ [.ref a] [.ref a] _ _ hr e0 (hbind s₁ (.ref a)) (.cons rfl .nil) (hsp H hO hS)) fun r s' h => ?_
    cases r with
    | error e => exact (hCX H e s' h).elim
    | ok fl =>
      cases fl with
      | next => exact False.elim h
      | brk => exact False.elim h
      | cont => exact False.elim h
      | ret u =>
        obtain ⟨v, H', os, bare, un, hok', r', q⟩ := h
        have q' : v = .bl true := q
        subst q'
        obtain rfl : u = Value.bool true := r'
        refine ⟨rfl, OldK.of_keep fun b o e => ?_, os, bare⟩
        cases q : H b with
        | none => exact un.keep b o e q (by intro z; exact absurd (show b ∈ ([] : List Addr) from z) (by simp)) (by simp)
        | some u =>
          rcases hO b with z | ⟨ob, xs, z⟩
          · rw [q] at z; cases z
          · have z2 := un.frzs b ob _ z
            obtain ⟨e1, _⟩ := hok b _ z
            obtain ⟨e2, _⟩ := hok' b _ z2
            rw [e] at e1; cases e1
            exact e2
  cases hk : K.lookup a with
  | some o =>
    have e := KX a o hk
    rw [ha] at e
    cases e
    refine core (fun _ => none) (fun _ => .inl rfl) (.inr ⟨_, vs.toArray, _, hk, rfl, rfl, rfl, by rw [List.size_toArray, lenV]; exact hl, by simpa using rv⟩) (fun b u z => by have z' : (none : Option HO) = some u := z; cases z') (fun b z => absurd rfl z) fun z => absurd rfl z
  | none =>
    refine core (fun b => if b = a then some (.frz { cls := .type "list", data := .seq vs.toArray } (.lst (ns.map V.int))) else none) (fun b => ?_) (.inl (.inr ⟨{ cls := .type "list", data := .seq vs.toArray }, if_pos rfl⟩)) (fun b u z => ?_) (fun b z => ?_) fun _ => hk
    · by_cases hb : b = a
      · exact .inr ⟨_, _, if_pos hb⟩
      · exact .inl (if_neg hb)
    · by_cases hb : b = a
      · have z' := (if_pos hb).symm.trans z
        cases z'
        subst hb
        exact ⟨ha, by rw [List.length_map]; exact hl, vs, _, rv, ha⟩
      · have z' := (if_neg hb).symm.trans z
        cases z'
    · by_cases hb : b = a
      · exact hb
      · exact absurd (if_neg hb) z
end L2
namespace L2
open PySem PySem.Spec PyProof.Rows
theorem walk_of {l : PySem.W.OpenLaw} {n k : Nat} {q : Program} {loose : List Str} {XP : (Str → Option Value) → Heap → Prop} {YP : World → Heap → Prop} {d : DefRec} {K : Params → PySem.W.Frag} {CX : World → CXT} {sp : World → Sp} {x : Str}
    (hn : l.most = some n) (hn2 : n ≤ sizeLine) (hdf : d.params.defaults = []) (hr : Room k callerA)
    (hY : ∀ (w : World) (h : Heap), YP w h → (K w.params).In h)
    (F : ∀ (w : World) (mg : Str → Option Value) (fa : Addr) (h : Heap), (K w.params).In h → h.Ns mainGlobals mg → mg d.name = some (.ref fa) →
      ∃ fd : FuncData, (∀ (s : Shared) (u : Value), BindsTo s fd ⟨[u], []⟩ [(x, u)]) ∧
        ∀ base : Heap, (K w.params).In base → base.Ns mainGlobals mg → FnOk l.prog w (K w.params) mg base (CX w) k fa fd [x] (sp w))
    (hsp : ∀ (w : World) (H : Hp) (a : Addr) (ns : List Int), ns.length ≤ n → Only H → SqL (K w.params) H a (ns.map V.int) → sp w [.ref a] H (fun v _ => v = .bl true) fun _ _ _ => False)
    (hCX : ∀ (w : World) (H : Hp) (s : Shared) (e : Value) (s' : Shared), CX w [] H s (fun _ _ _ => False) e s' → False) :
    PySem.W.WalkO q loose XP YP l.row.toRowW d [] (fun f vs => PySem.call f vs) := by
  refine Att.attach_call hn hdf fun w s₀ s₁ mg mb fa o pm cd doc a vs ns G Y ho hd hcd hmg hobj hints hlen hg => ?_
  have KX := hY w _ Y
  obtain ⟨fd, hb, hF⟩ := F w mg fa _ KX G.T.g hmg
  exact law_call KX G.T.g G.T.b G.T.builtins G.T.nolimit hg hobj hints (Nat.le_trans hlen hn2) hr hF hb (fun H hO hS => hsp w H a ns hlen hO hS) fun H e s' => hCX w H s₁ e s'
end L2
namespace L2
open PySem PySem.Spec PyProof.Rows
noncomputable def defArgs (s : Stmt) : Arguments := match s with
  | .FunctionDef _ a _ _ _ _ _ _ _ _ => a
  | _ => { posonlyargs := [], args := [], vararg := none, kwonlyargs := [], kw_defaults := [], kwarg := none, defaults := [] }
noncomputable def defBody (s : Stmt) : List Stmt := match s with
  | .FunctionDef _ _ b _ _ _ _ _ _ _ => b
  | _ => []
noncomputable def defScope (s : Stmt) : Scope := match s with
  | .FunctionDef _ _ _ _ _ _ sc _ _ _ => sc
  | _ => { kind := .function, names := [], isGenerator := false, isCoroutine := false }
noncomputable abbrev CX0 : CXT := fun _ _ _ _ _ _ => False
noncomputable abbrev E0 : XK := fun _ _ _ => False
theorem pass0 {X : Cx} : Passes CX0 X E0 := fun _ _ _ _ _ _ _ h => h.elim
structure Fun (K : PySem.W.Frag) (x qual : Str) (st : Stmt) (f : Addr) (fd : FuncData) : Prop where
  ex : ∃ (oc : Value) (od : Option Addr) (kV doc pm : Value) (an : Option Addr) (cdv ct : Value) (osl : Array (Option Value)),
    fd = PySem.W.fnOf x qual (defArgs st) (defBody st) (defScope st) .none kV doc pm an cdv ct ∧ K.lookup f = some ⟨oc, od, .func fd, osl⟩ ∧ PySem.W.codeIn K cdv qual = true
  kp : PySem.W.keepIn K (.ref f) = true
section
variable {P : Program} {w : World} {K : PySem.W.Frag} {mg : Str → Option Value} {base : Heap}
theorem Fun.ok {x qual : Str} {st : Stmt} {f : Addr} {fd : FuncData} {N ps : List Str} {k : Nat} {sp : Sp} (F : Fun K x qual st f fd) (S : FnScope N ps (defScope st)) (len : ∀ vs H Q E, sp vs H Q E → vs.length = ps.length)
    (hbody : ∀ (cdv : Value) (A : Around) (outer : List Env) (s : Shared) (H : Hp) (vs : List V) (Q : VK) (E : XK), Room k (A.deeper (envOfC qual (defScope st) s.heap.objs.size f cdv)) → sp vs H Q E →
      ∃ t, PSs (cxOf CX0 P w K mg base N qual (defScope st) f cdv A outer s H E).nox (defBody st) t ∧ t { nx := fun _ H' => Q .non H', rt := Q } (start N vs) H) : FnOk P w K mg base CX0 (k + 1) f fd ps sp := by
  obtain ⟨oc, od, kV, doc, pm, an, cdv, ct, osl, rfl, lk, hcd⟩ := F.ex
  refine fn_of lk hcd S len fun A outer s H vs Q E hr hsp => ?_
  obtain ⟨t, h, q⟩ := hbody cdv A outer s H vs Q E hr hsp
  exact ⟨t, h.nox, q⟩
theorem Fun.binds {x qual : Str} {st : Stmt} {f : Addr} {fd : FuncData} {ps : List Str} (F : Fun K x qual st f fd)
    (h : ∀ (kV doc pm : Value) (an : Option Addr) (cdv ct : Value) (us : List Value), us.length = ps.length → bindArgs (PySem.W.fnOf x qual (defArgs st) (defBody st) (defScope st) .none kV doc pm an cdv ct) ⟨us, []⟩ = pure (ps.zip us)) : Binds K fd ps [] := by
  obtain ⟨oc, od, kV, doc, pm, an, cdv, ct, osl, rfl, lk, hcd⟩ := F.ex
  exact .all (h kV doc pm an cdv ct)
theorem fun_mk {x qual : Str} {st : Stmt} {f : Addr} {oc : Value} {od an : Option Addr} {osl : Array (Option Value)} {kV doc pm cdv ct : Value} (l : K.lookup f = some ⟨oc, od, .func (PySem.W.fnOf x qual (defArgs st) (defBody st) (defScope st) .none kV doc pm an cdv ct), osl⟩)
    (c : PySem.W.codeIn K cdv qual = true) (k : PySem.W.keepIn K (.ref f) = true) : Fun K x qual st f (PySem.W.fnOf x qual (defArgs st) (defBody st) (defScope st) .none kV doc pm an cdv ct) := ⟨⟨oc, od, kV, doc, pm, an, cdv, ct, osl, rfl, l, c⟩, k⟩
end
section
variable {X : Cx}
theorem pv (i : Nat) {x : Str} {pos : Pos} (hN : X.N[i]? = some x := by rfl) (hv : Vis X.env.scope x := by first | exact Or.inl rfl | exact Or.inr (Or.inl rfl) | exact Or.inr (Or.inr rfl)) (hd : (x == ("__debug__" : Str)) = false := by decide)
    (hcd : (x == ("__classdict__" : Str)) = false := by decide) : PE X (.Name x pos) (tVar i) := pe_var hN hv hd hcd
end
theorem iteF {A B : Prop} (h : B) : if false = true then A else B := by
  rw [if_neg Bool.false_ne_true]
  exact h
theorem iteT {A B : Prop} (h : A) : if true = true then A else B := by
  rw [if_pos rfl]
  exact h
theorem ite2 {c A B : Prop} [Decidable c] (h1 : c → A) (h2 : ¬ c → B) : if c then A else B := by
  by_cases h : c
  · rw [if_pos h]
    exact h1 h
  · rw [if_neg h]
    exact h2 h
noncomputable def Same (H H' : Hp) : Prop := ∀ b o, H b = some o → H' b = some o
theorem Same.refl (H : Hp) : Same H H := fun _ _ h => h
theorem Same.trans {H H1 H2 : Hp} (a : Same H H1) (b : Same H1 H2) : Same H H2 := fun c o h => b c o (a c o h)
theorem Same.free {H H' : Hp} (e : Same H H') {l : Addr} (h : H' l = Option.none) : H l = Option.none := by
  cases q : H l with
  | none => rfl
  | some o =>
    rw [e l o q] at h
    cases h
theorem Same.seq {K : PySem.W.Frag} {H H' : Hp} {a : Addr} {xs : List V} (e : Same H H') (h : SqL K H a xs) : SqL K H' a xs := by
  rcases h with (h | ⟨o, h⟩) | h
  · exact .inl (.inl (e _ _ h))
  · exact .inl (.inr ⟨o, e _ _ h⟩)
  · exact .inr h
end L2
set_option Elab.async false
set_option linter.all false
set_option maxRecDepth 100000
set_option maxHeartbeats 4000000
namespace L2
open PySem PySem.Spec PyProof.Rows
theorem closure_ok {env : Env} : ∀ (names : List (Str × NameKind)) (acc : List (Str × Addr)), (∀ p ∈ names, p.2 = .free → ∃ c, env.cells.lookup p.1 = some c) →
    (∀ y c, acc.lookup y = some c → env.cells.lookup y = some c) →
    ∃ cl, (forIn names acc (fun (p : Str × NameKind) (cs : List (Str × Addr)) => if (p.2 == NameKind.free) = true then (do let a ← cellOf env p.1; pure (ForInStep.yield ((p.1, a) :: cs))) else (pure (ForInStep.yield cs) : Sem _)) : Sem _) = pure cl ∧
      (∀ y c, cl.lookup y = some c → env.cells.lookup y = some c) ∧ (∀ y, (acc.lookup y).isSome = true → (cl.lookup y).isSome = true) ∧ ∀ y, (y, NameKind.free) ∈ names → (cl.lookup y).isSome = true
  | [], acc, _, h => ⟨acc, rfl, h, fun _ z => z, fun _ z => nomatch z⟩
  | (n, k) :: r, acc, hf, h => by
    by_cases hk : k = .free
    · subst hk
      obtain ⟨c, hc⟩ := hf (n, .free) List.mem_cons_self rfl
      obtain ⟨cl, e, h1, h2, h3⟩ := closure_ok r ((n, c) :: acc) (fun p hp => hf p (List.mem_cons_of_mem _ hp)) (fun y d hd => by
        rw [List.lookup_cons] at hd
        cases q : y == n with
        | true => rw [q] at hd; cases hd; rw [eq_of_beq q]; exact hc
        | false => rw [q] at hd; exact h y d hd)
      refine ⟨cl, ?_, h1, fun y hy => h2 y ?_, fun y hy => ?_⟩
      · rw [List.forIn_cons]
        have e0 : cellOf env n = pure c := by unfold cellOf; rw [hc]
        simp only [beq_self_eq_true, if_true, e0, pure_bind]
        exact e
      · rw [List.lookup_cons]
        cases q : y == n with
        | true => rfl
        | false => exact hy
      · rcases List.mem_cons.mp hy with q | q
        · cases q
          refine h2 n ?_
          rw [List.lookup_cons, beq_self_eq_true]
          rfl
        · exact h3 y q
    · obtain ⟨cl, e, h1, h2, h3⟩ := closure_ok r acc (fun p hp => hf p (List.mem_cons_of_mem _ hp)) h
      refine ⟨cl, ?_, h1, h2, fun y hy => ?_⟩
      · rw [List.forIn_cons]
        have e0 : (k == NameKind.free) = false := by simpa using hk
        simp only [e0, Bool.false_eq_true, if_false, pure_bind]
        exact e
      · rcases List.mem_cons.mp hy with q | q
        · cases q; exact absurd rfl hk
        · exact h3 y q
theorem closureFor_ok {env : Env} {scope : Scope} (hf : ∀ p ∈ scope.names, p.2 = .free → ∃ c, env.cells.lookup p.1 = some c) :
    ∃ cl, closureFor scope env = pure cl ∧ (∀ y c, cl.lookup y = some c → env.cells.lookup y = some c) ∧ ∀ y, (y, NameKind.free) ∈ scope.names → (cl.lookup y).isSome = true := by
  obtain ⟨cl, e, h1, _, h3⟩ := closure_ok (env := env) scope.names [] hf (fun y c h => by simp at h)
  refine ⟨cl, ?_, h1, h3⟩
  unfold closureFor
  have e' := congrArg (fun m : Sem (List (Str × Addr)) => m >>= fun cs => pure cs) e
  simp only [pure_bind] at e'
  rw [← e']
structure CompIn where
  cl : List (Str × Addr)
  C : Addr
  s : Shared
  H : Hp
  ex : List Addr
noncomputable def cxComp (X : Cx) (scope : Scope) (N : List Str) (c : CompIn) : Cx :=
  { X with N := N, s₀ := c.s, H₀ := c.H, env := compEnvC scope c.cl c.C X.env, outer := X.stack, stack := X.stack, ex := c.ex, fn := fun _ => false, pn := [], xe := fun _ _ => False }
noncomputable def capSt (k : Nat) (cap : List Nat) (σ : St) : St := List.replicate k none ++ cap.map fun i => (σ[i]?).getD none
noncomputable def tTrue : TT := fun _ H Q => Q true H
section
variable {prog : Program} {w : World} {A : Around} {R : Result → Shared → Prop} {s : Shared}
theorem compLoopT {elt target iter : Expr} {ifs : List Expr} {scope : Scope} {pos : Pos} {it acc : Value} {env : Env} (I : Nat → Shared → Prop)
    (turn : ∀ n s, I n s → wpAny (model prog w) A (pyNext it) (fun r s₁ => match r with
      | none => R (.ok .next) s₁
      | some v => wpAny (model prog w) A (letOwnedTupleGo target it v) (fun _ s₁' => wpAny (model prog w) A (assign target env v) (fun _ s₂ =>
          wpAny (model prog w) A (forIn ifs true fun c r => if r = true then do let ok ← isTrue c env (eval c env); pure (ForInStep.yield ok) else pure (ForInStep.yield r)) (fun ok s₃ =>
            if ok = true then wpAny (model prog w) A (eval elt env) (fun x s₄ =>
              wpAny (model prog w) A (call (.builtin "list.append") [acc, x]) (fun _ s₅ => ∃ m, m < n ∧ I m s₅) (fun _ _ => False) s₄) (fun _ _ => False) s₃
            else ∃ m, m < n ∧ I m s₃) (fun _ _ => False) s₂) (fun _ _ => False) s₁') (fun _ _ => False) s₁) (fun _ _ => False) s)
    (n : Nat) (h : I n s) :
    codeAny (model prog w) A (.compLoop (.ListComp elt [⟨target, iter, ifs, 0⟩] scope pos) 0 it acc env) R s := by
  refine codeAny_loop rfl I (fun n s hI => ?_) n h
  show wpAny _ A ((compTurn (.ListComp elt [⟨target, iter, ifs, 0⟩] scope pos) 0 it acc env).onRaise (fun x => do noteFrame x env; theTreesLotGoes x)) _ _ s
  refine wpAny_noted ?_
  refine wpAny_mono (E := fun _ _ => False) ?_ (fun _ _ q => q) (fun _ _ z => z.elim)
  rw [compTurn_list]
  refine wpAny_bind (wpAny_standAt (wpAny_bind (wpAny_mono (turn n s hI) (fun r s₁ h₁ => ?_) fun _ _ h' => h')))
  cases r with
  | none => exact wpAny_pure h₁
  | some v =>
    refine wpAny_bind (wpAny_mono h₁ (fun _ s₁' h₁' => ?_) fun _ _ h' => h')
    refine wpAny_bind (wpAny_mono h₁' (fun _ s₂ h₂ => wpAny_bind (wpAny_mono h₂ (fun ok s₃ h₃ => ?_) fun _ _ h' => h')) fun _ _ h' => h')
    cases ok with
    | false => exact wpAny_pure ⟨rfl, h₃⟩
    | true =>
      exact wpAny_bind (wpAny_bind (wpAny_mono h₃ (fun x s₄ h₄ => wpAny_bind (wpAny_mono h₄ (fun _ s₅ h₅ => wpAny_pure (wpAny_pure ⟨rfl, h₅⟩)) fun _ _ h' => h')) fun _ _ h' => h'))
end
noncomputable def PTs (X : Cx) (ifs : List Expr) (t : TT) : Prop :=
  ∀ (pins : List (Addr × Obj)) (s : Shared) (σ : St) (H : Hp) (Q : Bool → Hp → Prop), Inv X pins σ H s → t σ H Q →
    wpAny (model X.prog X.w) X.A (forIn ifs true fun c r => if r = true then do let ok ← isTrue c X.env (eval c X.env); pure (ForInStep.yield ok) else pure (ForInStep.yield r)) (TP X pins σ Q) X.xe s
theorem pts_nil {X : Cx} : PTs X [] tTrue := fun pins s σ H Q I h => wpAny_tests_nil ⟨H, I, h⟩
theorem pts_one {X : Cx} {c : Expr} {t : TT} (h : PT X c t) : PTs X [c] t := fun pins s σ H Q I hq => wpAny_tests_one (h pins s σ H Q I hq)
theorem lookup_relabel_free {env : Env} : ∀ {names : List (Str × NameKind)} {x : Str}, names.lookup x = some .free →
    (names.map fun (n, k) => if (k == NameKind.free && env.scope.kind == .function && env.kindOf n == some .cell) then (n, NameKind.cell) else (n, k)).lookup x = some .cell ∨
    (names.map fun (n, k) => if (k == NameKind.free && env.scope.kind == .function && env.kindOf n == some .cell) then (n, NameKind.cell) else (n, k)).lookup x = some .free
  | [], _, h => by simp at h
  | (n, k) :: r, x, h => by
    have ih := @lookup_relabel_free env r x
    show List.lookup x ((if (k == NameKind.free && env.scope.kind == .function && env.kindOf n == some .cell) = true then (n, NameKind.cell) else (n, k)) :: _) = _ ∨ List.lookup x ((if (k == NameKind.free && env.scope.kind == .function && env.kindOf n == some .cell) = true then (n, NameKind.cell) else (n, k)) :: _) = _
    cases hx : x == n with
    | true =>
      simp only [List.lookup_cons, hx] at h
      cases h
      by_cases hc : (NameKind.free == NameKind.free && env.scope.kind == .function && env.kindOf n == some .cell) = true
      · rw [if_pos hc]; left; simp only [List.lookup_cons, hx]
      · rw [if_neg hc]; right; simp only [List.lookup_cons, hx]
    | false =>
      simp only [List.lookup_cons, hx] at h
      by_cases hc : (k == NameKind.free && env.scope.kind == .function && env.kindOf n == some .cell) = true
      · rw [if_pos hc]; simp only [List.lookup_cons, hx]; exact ih h
      · rw [if_neg hc]; simp only [List.lookup_cons, hx]; exact ih h
theorem lookup_relabel_cf {env : Env} : ∀ {names : List (Str × NameKind)} {x : Str}, (∀ y ∈ names, y.2 ≠ .cell) →
    ((names.map fun (n, k) => if (k == NameKind.free && env.scope.kind == .function && env.kindOf n == some .cell) then (n, NameKind.cell) else (n, k)).lookup x = some .cell ∨
    (names.map fun (n, k) => if (k == NameKind.free && env.scope.kind == .function && env.kindOf n == some .cell) then (n, NameKind.cell) else (n, k)).lookup x = some .free) → (x, NameKind.free) ∈ names
  | [], _, _, h => by simp at h
  | (n, k) :: r, x, hn, h => by
    have ih := @lookup_relabel_cf env r x (fun y hy => hn y (List.mem_cons_of_mem _ hy))
    have h' : List.lookup x ((if (k == NameKind.free && env.scope.kind == .function && env.kindOf n == some .cell) = true then (n, NameKind.cell) else (n, k)) :: (r.map fun (n, k) => if (k == NameKind.free && env.scope.kind == .function && env.kindOf n == some .cell) then (n, NameKind.cell) else (n, k))) = some .cell ∨ List.lookup x ((if (k == NameKind.free && env.scope.kind == .function && env.kindOf n == some .cell) = true then (n, NameKind.cell) else (n, k)) :: (r.map fun (n, k) => if (k == NameKind.free && env.scope.kind == .function && env.kindOf n == some .cell) then (n, NameKind.cell) else (n, k))) = some .free := h
    cases hx : x == n with
    | true =>
      have e := eq_of_beq hx
      subst e
      by_cases hc : (k == NameKind.free && env.scope.kind == .function && env.kindOf x == some .cell) = true
      · have hk : k = .free := by
          have := (Bool.and_eq_true _ _ |>.mp ((Bool.and_eq_true _ _ |>.mp hc).1)).1
          exact eq_of_beq this
        subst hk
        exact List.mem_cons_self
      · rw [if_neg hc] at h'
        simp only [List.lookup_cons, hx] at h'
        have hk := hn (x, k) List.mem_cons_self
        rcases h' with z | z
        · exact absurd (Option.some.inj z) hk
        · rw [Option.some.inj z]; exact List.mem_cons_self
    | false =>
      refine List.mem_cons_of_mem _ (ih ?_)
      by_cases hc : (k == NameKind.free && env.scope.kind == .function && env.kindOf n == some .cell) = true
      · rw [if_pos hc] at h'; simp only [List.lookup_cons, hx] at h'; exact h'
      · rw [if_neg hc] at h'; simp only [List.lookup_cons, hx] at h'; exact h'
noncomputable def GoalW (J : It) (g : TG) (tt : TT) (te : TE) (l : Addr) (σ0 : St) (H0 : Hp) (Q : VK) : Prop :=
  ∃ W : Nat → Nat → St → Hp → Prop, (∃ m, W 0 m σ0 H0) ∧
      ∀ i m σ' H2, W i m σ' H2 → (J.stop i H2 ∧ Q (.ref l) H2) ∨ (J.go i H2 ∧ ∃ N : St → Hp → Prop, (∀ σ3 H3, N σ3 H3 → ∃ m', m' < m ∧ W (i + 1) m' σ3 H3) ∧
        ∀ x H3, J.yld i H2 x H3 → g x σ' H3 fun σ4 H4 => tt σ4 H4 fun b H5 => if b = true then te σ4 H5 fun y H6 => ∃ xs, H6 l = some (.lst xs) ∧ xs.length < sizeLine ∧ N σ4 (upd H6 l (.lst (xs ++ [y]))) else N σ4 H5)
noncomputable def tComp (wi : TI) (k : Nat) (cap : List Nat) (g : TG) (tt : TT) (te : TE) : TE := fun σ H Q => wi σ H fun J H1 => ∀ l, H1 l = none → GoalW J g tt te l (capSt k cap σ) (upd H1 l (.lst [])) Q
structure CompScope (X : Cx) (scope : Scope) (N : List Str) (k : Nat) (cap : List Nat) : Prop where
  kind : scope.kind = .function
  names : ∀ y ∈ scope.names, y.2 = .local → scope.names.lookup y.1 = some .local
  cell : ∀ y ∈ scope.names, y.2 ≠ .cell
  free : ∀ y ∈ scope.names, y.2 = .free → X.env.kindOf y.1 = some .cell ∨ X.env.kindOf y.1 = some .free
  len : N.length = k + cap.length
  cap : ∀ j i, cap[j]? = some i → ∃ y, N[k + j]? = some y ∧ X.N[i]? = some y ∧ scope.names.lookup y = some .free
theorem capSt_get {k : Nat} {cap : List Nat} {σ : St} {j : Nat} {v : V} (h : (capSt k cap σ)[j]? = some (some v)) : ∃ q i, j = k + q ∧ cap[q]? = some i ∧ σ[i]? = some (some v) := by
  unfold capSt at h
  by_cases hj : j < k
  · rw [List.getElem?_append_left (by simpa using hj), List.getElem?_replicate] at h
    split at h <;> cases h
  · rw [List.getElem?_append_right (by simpa using hj), List.length_replicate, List.getElem?_map] at h
    cases q : cap[j - k]? with
    | none => rw [q] at h; cases h
    | some i =>
      rw [q] at h
      have h' : (σ[i]?).getD none = some v := Option.some.inj h
      refine ⟨j - k, i, by omega, q, ?_⟩
      cases r : σ[i]? with
      | none => rw [r] at h'; cases h'
      | some o => rw [r] at h'; have : o = some v := h'; rw [this]
theorem HOk.but {P : Program} {w : World} {H : Hp} {h h' : Heap} {C : Addr} (x : HOk P w H h) (hC : H C = none) (k : ∀ b o, b ≠ C → h.get? b = some o → h'.get? b = some o) : HOk P w H h' := fun b u e => by
  have nit : ∀ b u, H b = some u → b ≠ C := fun b u e z => by rw [z, hC] at e; cases e
  refine (x b u e).stay (fun c v hc q => k c v ?_ q) (fun _ q => q) fun _ _ q => q
  rcases hc with z | z
  · rw [z]; exact nit b u e
  · exact nit c _ z
section
variable {X : Cx} {elt tg iter : Expr} {ifs : List Expr} {scope : Scope} {pos : Pos} {wi : TI} {g : TG} {tt : TT} {te : TE} {N : List Str} {k : Nat} {cap : List Nat}
theorem compOk {pins : List (Addr × Obj)} {σ : St} {H2 : Hp} {s2 : Shared} {cl : List (Str × Addr)} {C : Addr} {fp : List Addr} (S : CompScope X scope N k cap) (I2 : Inv X pins σ H2 s2)
    (hcl1 : ∀ y c, cl.lookup y = some c → X.env.cells.lookup y = some c) (hcl2 : ∀ y, (y, NameKind.free) ∈ scope.names → (cl.lookup y).isSome = true) (hC : s2.heap.objs.size ≤ C)
    (hf : ∀ b ∈ fp, FpOk X pins H2 b) (ho : ∀ b ∈ fp, b < s2.heap.objs.size) : (cxComp X scope N ⟨cl, C, s2, H2, fp⟩).Ok where
  mod := I2.ok.mod
  kind := S.kind
  glob := I2.ok.glob
  blt := I2.ok.blt
  above := hC
  inj := fun x y c h1 h2 => I2.ok.inj x y c (hcl1 x c h1) (hcl1 y c h2)
  has := fun x h => by
    have h' : (x, NameKind.free) ∈ scope.names := lookup_relabel_cf (env := X.env) S.cell h
    exact Option.isSome_iff_exists.mp (hcl2 x h')
  cab := fun _ _ z => by cases z
  hd := I2.ok.hd
  frames := I2.ok.frames
  stk := .inl rfl
  exf := fun b hb => ⟨Nat.ne_of_lt (Nat.lt_of_lt_of_le (ho b hb) hC), fun x c e => (hf b hb).2.2.2.2.1 x c (hcl1 x c e)⟩
  bs := I2.bs
  bsz := Nat.le_trans I2.ok.bsz I2.sz
  noex := fun b o e hb => by
    rcases (hf b hb).2.2.2.1 with z | z
    · exact I2.ok.noex b o e z
    · exact absurd (Nat.lt_of_lt_of_le (Heap.lt_size e) (Nat.le_trans I2.ok.bsz z)) (Nat.lt_irrefl _)
  exfs := fun b hb hb' => by
    rcases List.mem_cons.mp (I2.stkSub b hb') with z | z
    · exact (hf b hb).2.1 z
    · exact (hf b hb).2.2.1 z
  funs := I2.stack
  frf := I2.stkFree
theorem compInv {pins : List (Addr × Obj)} {σ : St} {H2 : Hp} {s2 : Shared} {cl : List (Str × Addr)} {C : Addr} {fp : List Addr} {h1 : Heap} {tk : Nat} {m0 : Str → Option Value} (S : CompScope X scope N k cap) (I2 : Inv X pins σ H2 s2)
    (hcl1 : ∀ y c, cl.lookup y = some c → X.env.cells.lookup y = some c) (hcl2 : ∀ y, (y, NameKind.free) ∈ scope.names → (cl.lookup y).isSome = true) (hC : C = s2.heap.objs.size + 1)
    (hf : ∀ b ∈ fp, FpOk X pins H2 b) (ho : ∀ b ∈ fp, b < s2.heap.objs.size) (hk : ∀ b o, s2.heap.get? b = some o → h1.get? b = some o) (hD : h1.get? s2.heap.objs.size = some { cls := .type "list", data := .seq #[] 0 }) (hns : h1.Ns C m0) :
    Inv (cxComp X scope N ⟨cl, C, s2, H2, fp⟩) [] (capSt k cap σ) (upd H2 s2.heap.objs.size (.lst [])) { s2 with heap := h1, toks := tk } := by
  have fr : H2 s2.heap.objs.size = none := I2.hok.fresh (Nat.le_refl _)
  have hCf : H2 C = none := I2.hok.fresh (hC ▸ Nat.le_succ _)
  refine ⟨compOk S I2 hcl1 hcl2 (hC ▸ Nat.le_succ _) hf ho, rfl, I2.bare, Un.laid hk (Nat.le_refl _) fr, ⟨m0, hns, fun i y v e1 e2 e3 => ?_⟩, fun x c e => ?_, ?_, fun x c e => ?_, fun p hp => absurd (show p ∈ ([] : List (Addr × Obj)) from hp) (by simp), I2.hok.laid hk (Nat.le_refl _) ?_, ?_⟩
  · obtain ⟨q, j, rfl, hj, hv⟩ := capSt_get e2
    obtain ⟨z, hz1, hz2, hz3⟩ := S.cap q j hj
    have e1' : N[k + q]? = some y := e1
    rw [hz1] at e1'
    cases e1'
    obtain ⟨m, hn, hl⟩ := I2.loc
    have hfr := S.free (y, .free) (PySem.mem_of_lookup hz3) rfl
    obtain ⟨u, r, l⟩ := hl j y v hz2 hv (by rcases hfr with z | z; exact .inr (.inl z); exact .inr (.inr z))
    refine ⟨u, r, .inr ⟨lookup_relabel_free (env := X.env) hz3, ?_⟩⟩
    obtain ⟨c, hc⟩ := Option.isSome_iff_exists.mp (hcl2 y (PySem.mem_of_lookup hz3))
    rcases l with ⟨hk', _⟩ | ⟨_, c', hc', hcell⟩
    · rcases hfr with z | z <;> (rw [hk'] at z; cases z)
    · have e := hcl1 y c hc
      rw [hc'] at e
      cases e
      obtain ⟨o, ho', hd⟩ := hcell
      exact ⟨_, hc, o, hk _ _ ho', hd⟩
  · obtain ⟨v, o, ho', hd⟩ := I2.cell x c (hcl1 x c e)
    exact ⟨v, o, hk _ _ ho', hd⟩
  · show upd H2 s2.heap.objs.size (.lst []) C = none
    rw [upd_ne (Nat.ne_of_gt (hC ▸ Nat.lt_succ_self _))]
    exact hCf
  · have e' := hcl1 x c e
    obtain ⟨v, q⟩ := I2.cell x c e'
    rw [upd_ne (Nat.ne_of_lt q.lt)]
    exact I2.freeC x c e'
  · exact ⟨Nat.zero_le _, [], 0, .nil, hD⟩
  · show (capSt k cap σ).length = N.length
    unfold capSt
    rw [List.length_append, List.length_replicate, List.length_map, S.len]
theorem pe_comp (hc : X.calm = true) (S : CompScope X scope N k cap) (hi : PI X tg iter wi) (hg : ∀ c, PG (cxComp X scope N c) tg g) (ht : ∀ c, PTs (cxComp X scope N c) ifs tt) (he : ∀ c, PE (cxComp X scope N c) elt te)
    (hs : ∀ x, foldedSetIterable iter X.env x = pure x := by intro _; rfl) : PE X (.ListComp elt [⟨tg, iter, ifs, 0⟩] scope pos) (tComp wi k cap g tt te) := by
  intro pins s σ H Q I h
  rw [eval_ListComp]
  obtain ⟨cl, hclos, hcl1, hcl2⟩ := closureFor_ok (scope := scope) (env := X.env) (fun p hp hf => I.ok.has p.1 (S.free p hp hf))
  refine wpAny_comprehension_free (use := none) rfl hs hclos S.kind S.names (thn (hi pins s σ H _ I h) fun v s1 h1 => thn h1 fun itv s2 h2 => ?_)
  obtain ⟨it, fp, tn, J, H2, e, I2, T, st2, f2, q2⟩ := h2
  subst e
  obtain ⟨W, ⟨m0, w0⟩, turn⟩ := q2 s2.heap.objs.size (I2.hok.fresh (Nat.le_refl _))
  have hob : ∀ b ∈ fp, b < s2.heap.objs.size := fun b hb => let ⟨o, e, _⟩ := T.obj _ _ st2 b hb; Heap.lt_size e
  refine wpAny_newObj_type (wpAny_newFunctionEnv S.cell (by intro y hy; simp at hy) (fun h₁ hns₁ hsb₁ => ?_) S.kind)
  dsimp only at hns₁ hsb₁ ⊢
  generalize hHH : s2.heap.push { cls := .type "list", dict := none, data := .seq ([] : List Value).toArray } = HH at hns₁ hsb₁ ⊢
  have hCC : HH.objs.size = s2.heap.objs.size + 1 := by rw [← hHH, Heap.size_push]
  have old : ∀ b o, s2.heap.get? b = some o → h₁.get? b = some o := fun b o e => hsb₁.extBut b o (Nat.ne_of_lt (hCC ▸ Nat.lt_succ_of_lt (Heap.lt_size e))) (Heap.get?_push_of_some _ (hHH ▸ Heap.get?_push_of_some _ e))
  have hD : h₁.get? s2.heap.objs.size = some { cls := .type "list", data := .seq #[] 0 } := hsb₁.extBut _ _ (Nat.ne_of_lt (hCC ▸ Nat.lt_succ_self _)) (Heap.get?_push_of_some _ (hHH ▸ Heap.get?_push_size _ rfl))
  have I4 := fun tk => compInv (tk := tk) S I2 hcl1 hcl2 hCC f2 hob old hD hns₁
  have X' := cxComp X scope N ⟨cl, HH.objs.size, s2, H2, fp⟩
  have stat : ∀ {H' : Hp}, (∀ b ∈ fp, H' b = none) → ∀ b ∈ fp, FpOk (cxComp X scope N ⟨cl, HH.objs.size, s2, H2, fp⟩) [] H' b := fun hn b hb =>
    ⟨hn b hb, Nat.ne_of_lt (hCC ▸ Nat.lt_succ_of_lt (hob b hb)), (compOk S I2 hcl1 hcl2 (hCC ▸ Nat.le_succ _) f2 hob).exfs b hb, .inl hb, fun x c e => (f2 b hb).2.2.2.2.1 x c (hcl1 x c e), fun p hp => absurd (show p ∈ ([] : List (Addr × Obj)) from hp) (by simp)⟩
  have loop : ∀ s₃ : Shared, s₃ = { s2 with heap := h₁, toks := s2.toks + ([] : List (Str × Value)).length } →
      codeAny (model X.prog X.w) X.A (.compLoop (.ListComp elt [⟨tg, iter, ifs, 0⟩] scope pos) 0 (.ref it) (.ref s2.heap.objs.size) (compEnvC scope cl HH.objs.size X.env))
        (compPost (model X.prog X.w) X.A X.xe none (EP X pins σ Q) (.ref s2.heap.objs.size) HH.objs.size) s₃ := by
    rintro s₃ rfl
    refine compLoopT (fun n s' => ∃ i σ' H', Inv (cxComp X scope N ⟨cl, HH.objs.size, s2, H2, fp⟩) [] σ' H' s' ∧ tn i s'.heap ∧ (∀ b ∈ fp, H' b = none) ∧ W i n σ' H') ?_ m0
      ⟨0, capSt k cap σ, _, I4 _, T.keep _ _ _ st2 fun b _ o e => old b o e, fun b hb => by rw [upd_ne (Nat.ne_of_lt (hob b hb))]; exact (f2 b hb).1, w0⟩
    rintro n s3 ⟨i, σ3, H3, I3, st3, fr3, w3⟩
    rcases turn i n σ3 H3 w3 with ⟨stop, qn⟩ | ⟨go, NN, hN, step⟩
    · refine thn (T.done (cxComp X scope N ⟨cl, HH.objs.size, s2, H2, fp⟩) rfl rfl rfl hc i [] s3 σ3 H3 _ I3 (stat fr3) st3 stop) fun r s4 ⟨hr, J4⟩ => ?_
      subst hr
      obtain ⟨m, hn, _⟩ := J4.loc
      refine ⟨m, hn, fun h' hs' => ?_⟩
      have keepC : ∀ b o, b ≠ HH.objs.size → s4.heap.get? b = some o → h'.get? b = some o := fun b o hb e => hs'.extBut b o hb e
      have ltC : ∀ b o, s2.heap.get? b = some o → b ≠ HH.objs.size := fun b o e => Nat.ne_of_lt (hCC ▸ Nat.lt_succ_of_lt (Heap.lt_size e))
      have u := J4.base
      have u' : Un (frs X.stack) fp H2 H3 s2.heap h' := ⟨fun b o q n hb hx => keepC b o (ltC b o q) (u.keep b o q n hb hx), fun b o q n hb hx => by
          obtain ⟨sl, e⟩ := u.slot b o q n hb hx
          exact ⟨sl, keepC b _ (ltC b o q) e⟩, u.free, fun b o q hx => by
          obtain ⟨o', e⟩ := u.there b o q hx
          exact ⟨o', keepC b _ (ltC b o q) e⟩, u.tups, u.frzs, u.tbls⟩
      refine ⟨.ref s2.heap.objs.size, H3, I2.call' (ch := fp) J4.os u' (J4.hok.but J4.free keepC) J4.bare fun b hb => ?_, rfl, qn⟩
      obtain ⟨_, f1, _, f3, f4, f5⟩ := f2 b hb
      exact ⟨f3, f1, f4, f5⟩
    · refine thn (T.item (cxComp X scope N ⟨cl, HH.objs.size, s2, H2, fp⟩) rfl rfl rfl hc i [] s3 σ3 H3 _ I3 (stat fr3) st3 go) fun r s4 ⟨u, hr, h4⟩ => ?_
      subst hr
      refine thn h4 fun _ s5 ⟨x, H5, I5, r5, y5, st5, fr5⟩ => ?_
      have I5' := I5.pinned (stat fr5) (T.obj _ _ st5)
      have again : ∀ {s7 : Shared} {σ7 : St} {H7 : Hp}, Inv (cxComp X scope N ⟨cl, HH.objs.size, s2, H2, fp⟩) ([] ++ pinsAt fp s5.heap) σ7 H7 s7 → NN σ7 H7 →
          ∃ m, m < n ∧ ∃ i σ' H', Inv (cxComp X scope N ⟨cl, HH.objs.size, s2, H2, fp⟩) [] σ' H' s7 ∧ tn i s7.heap ∧ (∀ b ∈ fp, H' b = none) ∧ W i m σ' H' := fun {s7 σ7 H7} I7 n7 => by
        obtain ⟨m', hm, w7⟩ := hN σ7 H7 n7
        refine ⟨m', hm, i + 1, σ7, H7, I7.unpinned, T.keep _ _ _ st5 fun b hb o e => (I7.pin (b, o) (List.mem_append_right _ (List.mem_append_right _ (mem_pinsAt hb e)))).1, fun b hb => ?_, w7⟩
        obtain ⟨o, e, d⟩ := T.obj _ _ st5 b hb
        exact (I7.pin (b, o) (List.mem_append_right _ (List.mem_append_right _ (mem_pinsAt hb e)))).2.1
      refine thn (hg _ _ s5 σ3 H5 x u _ I5' r5 (step x H5 y5)) fun _ s6 ⟨σ6, H6, I6, q6⟩ => ?_
      refine thn (ht _ _ s6 σ6 H6 _ I6 q6) fun b s7 ⟨H7, I7, q7⟩ => ?_
      cases b with
      | false => exact again I7 q7
      | true =>
        refine thn (he _ _ s7 σ6 H7 _ I7 q7) fun y s8 ⟨yv, H8, I8, r8, xs, hl, hz, n8⟩ => ?_
        refine thn (mt_append _ s8 σ6 H8 (.ref s2.heap.objs.size) [yv] (.ref s2.heap.objs.size) [y] (fun _ H9 => NN σ6 H9) I8 rfl (.cons r8 .nil) ⟨_, xs, yv, rfl, rfl, hl, hz, n8⟩) fun _ s9 ⟨_, H9, I9, _, q9⟩ => ?_
        exact again I9 q9
  exact codeAny_compStart_list (loop _ rfl) (T.self X.A 0 _ _ _ (T.keep _ _ _ st2 fun b _ o e => old b o e) (loop _ rfl))
end
end L2
set_option Elab.async false
set_option linter.all false
set_option maxRecDepth 100000
set_option maxHeartbeats 4000000
namespace L2
open PySem PySem.Spec PyProof.Rows
section
variable {X : Cx} {tg : Expr}
end
noncomputable def isBl (bs : List Bool) : List V := bs.map V.bl
theorem bl_of {bs : List Bool} {its : List Value} (r : Vals (isBl bs) its) : ∀ i : Nat, its[i]? = (bs[i]?).map Value.bool := by
  induction bs generalizing its with
  | nil => cases r; intro i; simp
  | cons b bs ih =>
    cases r with
    | cons r rr =>
      cases r
      intro i
      cases i with
      | zero => rfl
      | succ i => exact ih rr i
theorem range_all {n : Nat} {f : Nat → Bool} {l : List Bool} (hn : l.length = n) (h : ∀ i b, l[i]? = some b → f i = b) : (List.range n).all f = l.all id := by
  induction l generalizing n f with
  | nil => subst hn; rfl
  | cons b l ih =>
    subst hn
    rw [List.length_cons, List.range_succ_eq_map, List.all_cons, List.all_map, List.all_cons, h 0 b rfl, ih (n := l.length) (f := f ∘ Nat.succ) rfl fun i b e => h (i + 1) b e]
    rfl
section
variable {X : Cx}
theorem call_all (hc : X.calm = true) : CallR X (.builtin "all") (fun xs H Q => ∃ p bs, xs = [.ref p] ∧ SqL X.K H p (isBl bs) ∧ Q (.bl (bs.all id)) H) := by
  intro pins s σ H xs us Q I r h
  obtain ⟨p, bs, rfl, hq, q⟩ := h
  obtain ⟨u, rfl, rx⟩ := vals1 r
  cases rx
  obtain ⟨its, rv, pl, hz⟩ := I.list hq
  have hg := bl_of rv
  have hlen : bs.length = its.length := by have := rv.length; simpa [isBl] using this
  refine call_all_walk (wpAny_pyIter_list pl.isList ?_)
  have hlt : p < s.heap.objs.size := let ⟨o, _, e, _⟩ := pl; Heap.lt_size e
  refine ⟨s.heap.objs.size, _, _, _, _, _, fun i => (bs[i]?).getD false, rfl, Walks.list (by exact I.ok.hd hc) s.heap.objs.size p (Nat.ne_of_lt hlt) its.toArray, ⟨⟨_, Heap.get?_push_size _ rfl, rfl, rfl⟩, pl.isList.at fun o e => Heap.get?_push_of_some _ e⟩, ?_, ?_⟩
  · intro i v s' Q' E' hv hq'
    have hv' : its[i]? = some v := by simpa using hv
    rw [hg i] at hv'
    cases e : bs[i]? with
    | none => rw [e] at hv'; cases hv'
    | some b =>
      dsimp only at hq'
      rw [e] at hv' hq'
      cases hv'
      exact wpAny_truthy_bool hq'
  · intro h' tk hk
    have e1 : (List.range its.toArray.size).all (fun i => (bs[i]?).getD false) = bs.all id := range_all (by simpa using hlen) (fun i b e => by rw [e]; rfl)
    rw [e1]
    have I1 : Inv X pins σ H { s with heap := s.heap.push { cls := .type "list_iterator", data := .fields #[.ref p, .int 0 0] }, toks := s.toks } := I.kept fun b o e => Heap.get?_push_of_some _ e
    have f1 := I.fpOk (H' := H) (Nat.le_refl _) (I.hok.fresh (Nat.le_refl _))
    obtain ⟨f0, f1, f2, f3, f4, f5⟩ := f1
    exact ⟨.bl _, H, I1.turned (it := s.heap.objs.size) (fun b o hb e => hk b o (by simpa using hb) e) f0 f1 f3 f4 f5, rfl, q⟩
theorem strs_of : ∀ {ys : List Str} {its : List Value}, Vals (ys.map V.str) its → StrsAre its ys
  | [], _, r => by cases r; exact .nil
  | y :: ys, _, r => by
    cases r with
    | cons r rr =>
      obtain ⟨t, rfl⟩ := r
      exact .cons y t (strs_of rr)
noncomputable def rJoin (K : PySem.W.Frag) : V → List V → Hp → VK → Prop := fun x vs H Q => ∃ z p ys, x = .str z ∧ vs = [.ref p] ∧ SqL K H p (ys.map V.str) ∧ (ys.map (·.length)).sum + ys.length * z.length ≤ 16777216 ∧ Q (.str (Txt.join z ys)) H
theorem mt_join : MtR X "str.join" (rJoin X.K) := by
  intro pins s σ H x vs v us Q I rx rv h
  obtain ⟨z, p, ys, rfl, rfl, hq, hz, q⟩ := h
  obtain ⟨t, rfl⟩ := rx
  obtain ⟨u, rfl, rp⟩ := vals1 rv
  cases rp
  obtain ⟨its, r, pl, _⟩ := I.list hq
  exact join_list pl.isList (by simpa using strs_of r) hz fun t' k => ⟨.str (Txt.join z ys), H, I.tok k, ⟨t', rfl⟩, q⟩
theorem op_powB : OpR X (binaryOp .Pow) (rI (fun i j => 0 ≤ j ∧ (Builtin.Int.intBits i : Int) * j ≤ 2 ^ 27) fun i j => .int (i ^ j.toNat)) := opI fun _ _ _ _ _ _ _ hc q => pow_int hc.1 hc.2 q
end
noncomputable def compChk (XN : List Str) (xs scope : Scope) (N : List Str) (k : Nat) (cap : List Nat) : Bool :=
  scope.kind == .function && (scope.names.all fun y => y.2 != .local || scope.names.lookup y.1 == some .local) && (scope.names.all fun y => y.2 != .cell) &&
  (scope.names.all fun y => y.2 != .free || xs.names.lookup y.1 == some .cell || xs.names.lookup y.1 == some .free) && N.length == k + cap.length &&
  (List.range cap.length).all fun j => match cap[j]?, N[k + j]? with
    | some i, some y => XN[i]? == some y && scope.names.lookup y == some .free
    | _, _ => false
theorem compScope_of {X : Cx} {XN : List Str} {xs scope : Scope} {N : List Str} {k : Nat} {cap : List Nat} (hN : X.N = XN) (hs : X.env.scope = xs) (h : compChk XN xs scope N k cap = true) : CompScope X scope N k cap := by
  subst hN hs
  unfold compChk at h
  simp only [Bool.and_eq_true, List.all_eq_true, Bool.or_eq_true, bne_iff_ne, ne_eq, beq_iff_eq] at h
  obtain ⟨⟨⟨⟨⟨h1, h2⟩, h3⟩, h4⟩, h5⟩, h6⟩ := h
  refine ⟨h1, fun y hy e => (h2 y hy).resolve_left (fun z => z e), h3, fun y hy e => ?_, h5, fun j i e => ?_⟩
  · rcases h4 y hy with (z | z) | z
    · exact absurd e z
    · exact .inl z
    · exact .inr z
  · have hj : j < cap.length := (List.getElem?_eq_some_iff.mp e).1
    have q := h6 j (List.mem_range.mpr hj)
    rw [e] at q
    cases r : N[k + j]? with
    | none => rw [r] at q; cases q
    | some y =>
      rw [r] at q
      simp only [Bool.and_eq_true, beq_iff_eq] at q
      exact ⟨y, rfl, q.1, q.2⟩
section
variable {X : Cx} {elt tg iter : Expr} {ifs : List Expr} {scope : Scope} {pos : Pos} {wi : TI} {g : TG} {tt : TT} {te : TE} {N : List Str} {k : Nat} {cap : List Nat} {XN : List Str} {xs : Scope}
theorem pe_lc (N : List Str) (k : Nat) (cap : List Nat) (XN : List Str) (xs : Scope) (hc : X.calm = true) (hN : X.N = XN) (hx : X.env.scope = xs) (hi : PI X tg iter wi) (chk : compChk XN xs scope N k cap = true)
    (hg : ∀ c, PG (cxComp X scope N c) tg g) (ht : ∀ c, PTs (cxComp X scope N c) ifs tt) (he : ∀ c, PE (cxComp X scope N c) elt te)
    (hs : ∀ x, foldedSetIterable iter X.env x = pure x := by intro _; rfl) : PE X (.ListComp elt [⟨tg, iter, ifs, 0⟩] scope pos) (tComp wi k cap g tt te) := pe_comp hc (compScope_of hN hx chk) hi hg ht he hs
end
section
variable {wi : TI} {k : Nat} {cap : List Nat} {g : TG} {tt : TT} {te : TE} {σ : St} {H1 : Hp} {Q : VK} {l : Addr}
noncomputable def turnOf (g : TG) (tt : TT) (te : TE) (l : Addr) (x : V) (σ : St) (H : Hp) (N : St → Hp → Prop) : Prop :=
  g x σ H fun σ4 H4 => tt σ4 H4 fun b H5 => if b = true then te σ4 H5 fun y H6 => ∃ xs, H6 l = some (.lst xs) ∧ xs.length < sizeLine ∧ N σ4 (upd H6 l (.lst (xs ++ [y]))) else N σ4 H5
theorem comp_gen (J : It) (n : Nat) (Pv : Nat → St → Hp → Prop) (h0 : Pv 0 (capSt k cap σ) (upd H1 l (.lst [])))
    (hstop : ∀ σ H, Pv n σ H → J.stop n H) (hgo : ∀ i σ H, i < n → Pv i σ H → J.go i H)
    (hs : ∀ i σ H x H', i < n → Pv i σ H → J.yld i H x H' → turnOf g tt te l x σ H' (Pv (i + 1))) (hd : ∀ σ H, Pv n σ H → Q (.ref l) H) :
    GoalW J g tt te l (capSt k cap σ) (upd H1 l (.lst [])) Q := by
  refine ⟨fun i m σ H => m = n - i ∧ i ≤ n ∧ Pv i σ H, ⟨n, by simp, Nat.zero_le _, h0⟩, ?_⟩
  rintro i m σ H ⟨rfl, hi, p⟩
  by_cases hlt : i < n
  · exact .inr ⟨hgo i σ H hlt p, Pv (i + 1), fun σ' H' p' => ⟨n - (i + 1), by omega, rfl, hlt, p'⟩, fun x H' y => hs i σ H x H' hlt p y⟩
  · have e : i = n := by omega
    subst e
    exact .inl ⟨hstop σ H p, hd σ H p⟩
theorem comp_range (lo : Int) (n : Nat) (Pv : Nat → St → Hp → Prop) (h0 : Pv 0 (capSt k cap σ) (upd H1 l (.lst [])))
    (hs : ∀ i σ H, i < n → Pv i σ H → turnOf g tt te l (.int (lo + i)) σ H (Pv (i + 1))) (hd : ∀ σ H, Pv n σ H → Q (.ref l) H) :
    GoalW (Itr lo n) g tt te l (capSt k cap σ) (upd H1 l (.lst [])) Q :=
  comp_gen (Itr lo n) n Pv h0 (fun _ _ _ => Nat.le_refl n) (fun _ _ _ h _ => h) (fun i σ H x H' hi p y => by obtain ⟨e1, e2⟩ := y; subst e1 e2; exact hs i σ _ hi p) hd
end
structure Def (K : PySem.W.Frag) (mg : Str → Option Value) (x : Str) (st : Stmt) (ps : List Str) (f : Addr) (fd : FuncData) : Prop where
  F : Fun K x x st f fd
  m : mg x = some (.ref f)
  b : Binds K fd ps []
section
variable {X : Cx} {x : Str} {st : Stmt} {ps : List Str} {f : Addr} {fd : FuncData} {j k : Nat} {sp : Sp} {e : Expr} {es : List Expr} {t : TA} {p pos : Pos}
theorem pe_fn (D : Def X.K X.mg x st ps f fd) (G : FnOk X.prog X.w X.K X.mg X.base CX0 j f fd ps sp) (hr : Room k X.A) (hjk : j ≤ k) (hg : Gl X x) (ha : PA X (e :: es) t) (hdb : (x == ("__debug__" : Str)) = false := by decide)
    (he : starEach (e :: es) X.env = (false, eval e X.env) :: starEach es X.env := by rfl) (hpl : (backTo pos (starEach es X.env)).any (·.1) = false := by rfl) :
    PE X (.Call (.Name x p) (e :: es) [] pos) (tCall sp [] E0 t) := pe_call G (hr.mono hjk) hg D.m D.F.kp D.b .nil pass0 ha hdb he hpl
end
end L2
set_option Elab.async false
set_option linter.all false
set_option maxRecDepth 100000
set_option maxHeartbeats 4000000
namespace L2
open PySem PySem.Spec PyProof.Rows
noncomputable def eqLV : List V → List V → Bool
  | [], [] => true
  | x :: xs, y :: ys => eqV x y && eqLV xs ys
  | _, _ => false
theorem eqLV_len : ∀ {xs ys : List V}, xs.length ≠ ys.length → eqLV xs ys = false
  | [], [], h => absurd rfl h
  | [], _ :: _, _ => rfl
  | _ :: _, [], _ => rfl
  | x :: xs, y :: ys, h => by
    unfold eqLV
    rw [eqLV_len (xs := xs) (ys := ys) (by simpa using h), Bool.and_false]
theorem eqLV_range : ∀ {xs ys : List V}, xs.length = ys.length → (List.range xs.length).all (fun j => eqV ((xs[j]?).getD .non) ((ys[j]?).getD .non)) = eqLV xs ys
  | [], [], _ => rfl
  | [], _ :: _, h => by cases h
  | _ :: _, [], h => by cases h
  | x :: xs, y :: ys, h => by
    have ih := eqLV_range (xs := xs) (ys := ys) (by simpa using h)
    rw [List.length_cons, List.range_succ_eq_map, List.all_cons, List.all_map]
    unfold eqLV
    rw [← ih]
    rfl
theorem Vals.get' : ∀ {xs : List V} {us : List Value} {i : Nat} {u : Value}, Vals xs us → us[i]? = some u → ∃ x, xs[i]? = some x ∧ RelV x u
  | _, _, _, _, .nil, h => by simp at h
  | _, _, 0, _, .cons r _, h => by simp at h; subst h; exact ⟨_, rfl, r⟩
  | _, _, i + 1, _, .cons _ t, h => Vals.get' (i := i) t (by simpa using h)
section
variable {X : Cx} {k : Nat}
end
theorem bt_all : bootBuiltins "all" = some (.builtin "all") := by decide +kernel
theorem bt_len : bootBuiltins "len" = some (.builtin "len") := by decide +kernel
theorem bt_repr : bootBuiltins "repr" = some (.builtin "repr") := by decide +kernel
theorem bt_sorted : bootBuiltins "sorted" = some (.builtin "sorted") := by decide +kernel
theorem bt_tuple : bootBuiltins "tuple" = some (.type "tuple") := by decide +kernel
theorem bt_enumerate : bootBuiltins "enumerate" = some (.type "enumerate") := by decide +kernel
theorem tSeq_i {t u : TS} {D : Ends} {σ : St} {H : Hp} (h : t { D with nx := u D } σ H) : tSeq t u D σ H := h
theorem cxOf_K {CX : CXT} {P : Program} {w : World} {K : PySem.W.Frag} {mg : Str → Option Value} {base : Heap} {N : List Str} {qual : Str} {scope : Scope} {f : Addr} {cd : Value} {A : Around} {outer : List Env} {s : Shared} {H : Hp} {E : XK} : (cxOf CX P w K mg base N qual scope f cd A outer s H E).K = K := rfl
theorem cxComp_K {X : Cx} {scope : Scope} {N : List Str} {c : CompIn} : (cxComp X scope N c).K = X.K := rfl
section
variable {X : Cx}
theorem call_lenL : CallR X (.builtin "len") (fun xs H Q => ∃ p ys, xs = [.ref p] ∧ SqL X.K H p ys ∧ Q (.int ys.length) H) := by
  intro pins s σ H xs us Q I r h
  obtain ⟨p, ys, e, hq, q⟩ := h
  exact call_len_seq pins s σ H xs us Q I r ⟨p, ys, e, .inl hq, q⟩
end
end L2
set_option Elab.async false
set_option linter.all false
set_option maxRecDepth 100000
set_option maxHeartbeats 4000000
namespace L2
open PySem PySem.Spec PyProof.Rows
noncomputable def But (p : Addr) (H H' : Hp) : Prop := ∀ b o, H b = some o → b ≠ p → H' b = some o
theorem But.refl {p : Addr} {H : Hp} : But p H H := fun _ _ h _ => h
theorem But.trans {p : Addr} {H H1 H2 : Hp} (a : But p H H1) (b : But p H1 H2) : But p H H2 := fun c o h n => b c o (a c o h n) n
theorem But.of {p : Addr} {H H1 : Hp} (a : Same H H1) : But p H H1 := fun c o h _ => a c o h
theorem Same.upd {H : Hp} {l : Addr} {o : HO} (h : H l = none) : Same H (upd H l o) := fun b u e => by rw [upd_ne (ne_of_none e h)]; exact e
theorem But.upd {p : Addr} {H : Hp} {o : HO} : But p H (upd H p o) := fun b u e n => by rw [upd_ne n]; exact e
theorem SqL.same {K : PySem.W.Frag} {H H' : Hp} {a : Addr} {xs : List V} (h : SqL K H a xs) (s : Same H H') : SqL K H' a xs := Same.seq s h
theorem SqT.same {K : PySem.W.Frag} {H H' : Hp} {a : Addr} {xs : List V} (h : SqT K H a xs) (s : Same H H') : SqT K H' a xs := by
  rcases h with (h | ⟨o, h⟩) | h
  · exact .inl (.inl (s _ _ h))
  · exact .inl (.inr ⟨o, s _ _ h⟩)
  · exact .inr h
theorem SqL.but {K : PySem.W.Frag} {H H' : Hp} {a p : Addr} {xs : List V} (h : SqL K H a xs) (s : But p H H') (n : a ≠ p) : SqL K H' a xs := by
  rcases h with (h | ⟨o, h⟩) | h
  · exact .inl (.inl (s _ _ h n))
  · exact .inl (.inr ⟨o, s _ _ h n⟩)
  · exact .inr h
theorem SqT.but {K : PySem.W.Frag} {H H' : Hp} {a p : Addr} {xs : List V} (h : SqT K H a xs) (s : But p H H') (n : a ≠ p) : SqT K H' a xs := by
  rcases h with (h | ⟨o, h⟩) | h
  · exact .inl (.inl (s _ _ h n))
  · exact .inl (.inr ⟨o, s _ _ h n⟩)
  · exact .inr h
theorem szl {n : Nat} (h : n ≤ 16777216) : n ≤ sizeLine := by rw [PySem.sizeLine_eq]; exact h
theorem szt {n : Nat} (h : n < 16777216) : n < sizeLine := by rw [PySem.sizeLine_eq]; exact h
theorem len_cps (z : Str) : z.cps.toList.length = z.length := by simp [Str.length]
theorem atI_sign {z : Str} {d : Int} (h0 : 0 ≤ d) (h : d < (z.length : Int)) : ∃ c, c ∈ z.cps.toList ∧ atI z.cps.toList d = some c := by
  obtain ⟨j, rfl⟩ : ∃ j : Nat, d = (j : Int) := ⟨d.toNat, by omega⟩
  have hj : j < z.cps.toList.length := by have e := len_cps z; omega
  exact ⟨z.cps.toList[j], List.getElem_mem hj, atI_nat (by simp [hj])⟩
theorem atI_mem {α : Type} {xs : List α} {d : Int} (h0 : 0 ≤ d) (h : d < (xs.length : Int)) : ∃ c, c ∈ xs ∧ atI xs d = some c := by
  obtain ⟨j, rfl⟩ : ∃ j : Nat, d = (j : Int) := ⟨d.toNat, by omega⟩
  have hj : j < xs.length := by omega
  exact ⟨xs[j], List.getElem_mem hj, atI_nat (by simp [hj])⟩
theorem join_len {ys : List Str} (h : ∀ y ∈ ys, y.length = 1) : (ys.map (·.length)).sum = ys.length := by
  induction ys with
  | nil => rfl
  | cons y ys ih =>
    rw [List.map_cons, List.sum_cons, List.length_cons, ih fun z hz => h z (List.mem_cons_of_mem _ hz), h y List.mem_cons_self]
    omega
theorem joined {ys : List Str} : (Txt.join (Str.ofString "") ys).length ≤ (ys.map (·.length)).sum := by
  show (Builtin.Str.glued _ ys).length ≤ _
  rw [StrLaws.glued_eq_join]
  have h := StrLaws.join_length_le (Str.ofString "") ys
  have e : (Str.ofString "").length = 0 := by decide +kernel
  rw [e] at h
  omega
section
variable {k : Nat} {cap : List Nat} {g : TG} {tt : TT} {te : TE} {σ : St} {H : Hp} {Q : VK} {l : Addr}
theorem take_filter {α : Type} {p : α → Bool} {vs : List α} {i : Nat} {x : α} (h : vs[i]? = some x) : (vs.take (i + 1)).filter p = (vs.take i).filter p ++ (if p x = true then [x] else []) := by
  rw [List.take_add_one, h, List.filter_append]
  congr 1
  by_cases e : p x = true
  · simp [e]
  · simp [e]
end
theorem iteDn {c : Prop} [Decidable c] {A B : Prop} (hc : ¬ c) (h : B) : if decide c = true then A else B := by
  rw [decide_eq_false hc]; exact iteF h
theorem iteDy {c : Prop} [Decidable c] {A B : Prop} (hc : c) (h : A) : if decide c = true then A else B := by
  rw [decide_eq_true hc]; exact iteT h
theorem iteD {c : Prop} [Decidable c] {A B : Prop} (h1 : c → A) (h2 : ¬ c → B) : if decide c = true then A else B := by
  by_cases hc : c
  · exact iteDy hc (h1 hc)
  · exact iteDn hc (h2 hc)
theorem Same.but {H H0 H1 H2 : Hp} {p : Addr} (s : Same H H0) (n : H0 p = none) (s1 : Same H0 H1) (b : But p H1 H2) : Same H H2 := fun c o h => b c o (s1 c o (s c o h)) (ne_of_none (s c o h) n)
noncomputable def PotO (o : Option HO) : Prop := ∃ a b : Int, o = some (.lst [.int a, .int b]) ∧ 0 ≤ a ∧ 0 ≤ b ∧ b < 2147483647
noncomputable abbrev Pot (H : Hp) (p : Addr) : Prop := PotO (H p)
theorem Pot.same {H H' : Hp} {p : Addr} (h : Pot H p) (s : Same H H') : Pot H' p := let ⟨a, b, e, r⟩ := h; ⟨a, b, s _ _ e, r⟩
theorem Pot.ne {H : Hp} {p : Addr} (h : Pot H p) {l : Addr} (n : H l = none) : p ≠ l := let ⟨_, _, e, _⟩ := h; ne_of_none e n
noncomputable def spLaw (K : PySem.W.Frag) : Sp := fun vs H Q _ => ∃ (a : Addr) (ns : List Int), vs = [.ref a] ∧ SqL K H a (ns.map V.int) ∧ ns.length ≤ 63 ∧ ∀ H', Q (.bl true) H'
end L2
set_option Elab.async false
set_option linter.all false
set_option maxRecDepth 100000
set_option maxHeartbeats 4000000
namespace PySem
open Sem (wp)
open AutoSeq1 (wpAny_loadPart')
section
variable {prog : Program} {w : World} {A : Around} {E : Value → Shared → Prop} {s : Shared}
theorem ours_nextOf_tuple_item {it t : Addr} {i : Nat} {items} {x : Value} {Q : Value → Shared → Prop} (hit : s.heap.IsTupleIter it t i)
    (ht : s.heap.IsTuple t items) (hx : items[i]? = some x)
    (hQ : ∀ h', h'.IsTupleIter it t (i + 1) → Heap.SameBut it s.heap h' → Q x { s with heap := h' }) :
    wpAny (model prog w) A (Builtin.SmallTypes.nextOf (.ref it)) Q E s := by
  obtain ⟨o, ho, hc, hd⟩ := id hit
  obtain ⟨ol, hol, _, nl, hdl⟩ := ht
  unfold Builtin.SmallTypes.nextOf
  refine wpAny_bind (wpAny_callSpecial?_slot (name := Str.ofString "__next__") hit.typeIs F.slot_tuple_iterator_next
    (wpAny_call_entry F.slot_tuple_iterator_next hit.typeIs F.entry_tuple_iterator_next ?_ (F.args_tuple_iterator_next_1 _)))
  show wpAny _ _ (field (.ref it) 0 >>= _) _ _ s
  refine wpAny_bind (wpAny_field ho hd (x := .ref t) rfl ?_)
  show wpAny _ _ (if (Value.ref t == Value.none) = true then _ else _) _ _ s
  rw [if_neg (show ¬ ((Value.ref t == Value.none) = true) from Bool.false_ne_true)]
  show wpAny _ _ (field (.ref it) 1 >>= _) _ _ s
  refine wpAny_bind (wpAny_field ho hd (x := .int i 0) rfl ?_)
  show wpAny _ _ (seqItems? (.ref t) >>= _) _ _ s
  refine wpAny_bind (wpAny_seqItems hol hdl ?_)
  simp only [Int.toNat_natCast, hx]
  refine wpAny_bind (wpAny_setField ho hd (by simp) (wpAny_pure ⟨x, rfl, wpAny_pure (hQ _ ?_ (Heap.SameBut.update ..))⟩))
  exact ⟨_, Heap.get?_update_self _ ho (Obj.isFreed_of_fields (Obj.data_mapFields hd _)), (Obj.cls_mapFields ..).trans hc, by
    rw [Obj.data_mapFields hd]; simp [rawInt]⟩
theorem ours_nextOf_tuple_end {it l : Addr} {i : Nat} {items} {Q : Value → Shared → Prop} (hh : A.handled = none)
    (hit : s.heap.IsTupleIter it l i) (hl : s.heap.IsTuple l items) (hx : items[i]? = none)
    (hE : ∀ h' e, Heap.ExtBut it s.heap h' → (∃ o, h'.get? e = some o ∧ o.cls = .type "StopIteration") → E (.ref e) { s with heap := h' }) :
    wpAny (model prog w) A (Builtin.SmallTypes.nextOf (.ref it)) Q E s := by
  obtain ⟨o, ho, hc, hd⟩ := id hit
  obtain ⟨ol, hol, _, nl, hdl⟩ := hl
  unfold Builtin.SmallTypes.nextOf
  refine wpAny_bind (wpAny_callSpecial?_slot (name := Str.ofString "__next__") hit.typeIs F.slot_tuple_iterator_next
    (wpAny_call_entry F.slot_tuple_iterator_next hit.typeIs F.entry_tuple_iterator_next ?_ (F.args_tuple_iterator_next_1 _)))
  show wpAny _ _ (field (.ref it) 0 >>= _) _ _ s
  refine wpAny_bind (wpAny_field ho hd (x := .ref l) rfl ?_)
  show wpAny _ _ (if (Value.ref l == Value.none) = true then _ else _) _ _ s
  rw [if_neg (show ¬ ((Value.ref l == Value.none) = true) from Bool.false_ne_true)]
  show wpAny _ _ (field (.ref it) 1 >>= _) _ _ s
  refine wpAny_bind (wpAny_field ho hd (x := .int i 0) rfl ?_)
  show wpAny _ _ (seqItems? (.ref l) >>= _) _ _ s
  refine wpAny_bind (wpAny_seqItems hol hdl ?_)
  simp only [Int.toNat_natCast, hx]
  refine wpAny_bind (wpAny_rule (wpAny_bind (wpAny_setField ho hd (by simp) ?_)))
  show wpAny _ _ (newExc (.type "StopIteration") [] >>= _) _ _ _
  refine wpAny_bind ?_
  simp only [newExc, newTuple]
  refine wpAny_bind (wpAny_newObj_type ?_ (by size_fits))
  refine wpAny_bind (m := firstArgMember _ _) (wpAny_of_eq (a := Value.none) (by first | rfl | (simp only [firstArgMember]; rfl)) ?_)
  refine wpAny_newObj_type ?_ (by size_fits)
  simp only [raiseNew]
  refine wpAny_bind (wpAny_handled ?_)
  first | rw [show A.in1.handled = none from hh] | rw [hh]
  refine wpAny_bind (wpAny_pure (wpAny_throw ?_))
  exact hE _ _ (((Heap.SameBut.update ..).extBut.push _).push _) ⟨_, Heap.get?_push_size _ rfl, rfl⟩
end
theorem ours_Draws_tuple {prog : Program} {w : World} {A : Around} (hh : A.handled = none) (it l : Addr) (hne : l ≠ it) (items : Array Value) :
    Draws prog w A it [it, l] items.size (fun i v => items[i]? = some v) (fun i h => h.IsTupleIter it l i ∧ h.IsTuple l items) where
  live := fun _ _ st => let ⟨o, ho, _⟩ := st.1; ⟨o, ho⟩
  frame := fun _ _ _ st hk => ⟨st.1.at fun o e => hk it (by simp) o e, let ⟨o, e, r⟩ := st.2; ⟨o, hk l (by simp) o e, r⟩⟩
  item := fun i s Q E hi st hQ => by
    refine ours_nextOf_tuple_item st.1 st.2 (x := items[i]) (by simp [hi]) fun h' hit' hs' => ?_
    exact hQ _ h' s.toks (by simp [hi]) ⟨hit', st.2.extBut hs'.extBut hne⟩ hs'
  done := fun s Q E st hE => ours_nextOf_tuple_end hh st.1 st.2 (by simp) hE
theorem ours_meets_enumerate_newT (l : Addr) (items : Array Value) (n : Nat) (dct : Option Addr) (sl : Array (Option Value)) :
    Meets (Builtin.«enumerate.__new__» ⟨[.type "enumerate", .ref l], []⟩) (fun _ R s => s.heap.get? l = some { cls := .type "tuple", dict := dct, data := .seq items n, slots := sl } ∧
      R (.ok (.ret (.ref (s.heap.push { cls := .type "tuple_iterator", data := .fields #[.ref l, .int 0 0] }).objs.size)))
        { s with heap := (s.heap.push { cls := .type "tuple_iterator", data := .fields #[.ref l, .int 0 0] }).push { cls := .type "enumerate", data := .fields #[.none, .bool false, .ref s.heap.objs.size, rawInt 0, .none, .none] } }) :=
  .of_wp fun prog w A R s h => by
    obtain ⟨hp, g, d, tk, os⟩ := s; obtain ⟨hl, h⟩ := h
    have hsub := sub_enumerate
    have hL : Heap.IsTuple (Shared.heap ⟨hp, g, d, tk, os⟩) l items := ⟨_, hl, rfl, n, rfl⟩
    wp_walk using wpAny_loadPart' hl
    refine wpAny_stack_any fun st => wpAny_pure ?_
    split
    · rename_i c _ _ _ _ _
      cases (c == Value.type "enumerate")
      · wp_walk using wpAny_loadPart' hl, wpAny_pyIter_tuple hL
        exact ⟨_, rfl, h⟩
      · wp_walk using wpAny_loadPart' hl, wpAny_pyIter_tuple hL
        exact ⟨_, rfl, h⟩
    · wp_walk using wpAny_loadPart' hl, wpAny_pyIter_tuple hL
      exact ⟨_, rfl, h⟩
section
variable {prog : Program} {w : World} {A : Around} {E : Value → Shared → Prop} {s : Shared}
theorem ours_call_enumerate_tuple {l : Addr} {items : Array Value} {Q : Value → Shared → Prop} (hL : s.heap.IsTuple l items)
    (h : ∀ h', IsEnum h' (s.heap.objs.size + 1) s.heap.objs.size 0 .none → h'.IsTupleIter s.heap.objs.size l 0 → h'.objs.size = s.heap.objs.size + 2 →
      (∀ b o, s.heap.get? b = some o → h'.get? b = some o) → Q (.ref (s.heap.objs.size + 1)) { s with heap := h' }) :
    wpAny (model prog w) A (call (.type "enumerate") [.ref l]) Q E s := by
  obtain ⟨⟨c, dct, dt, sl⟩, hl, hc, n, hd⟩ := hL
  replace hc : c = .type "tuple" := hc
  replace hd : dt = .seq items n := hd
  subst hc hd
  refine callType_new F.called_enumerate (by decide) (F.typeCall_enumerate_1 _) (F.newCall_enumerate_1 _) (fun obj => F.args_object_init_2 obj _) F.entry_enumerate_new
    (ours_meets_enumerate_newT l items n dct sl) ⟨hl, ?_⟩
  have hz : (s.heap.push { cls := .type "tuple_iterator", data := .fields #[.ref l, .int 0 0] }).objs.size = s.heap.objs.size + 1 := Heap.size_push ..
  show _ ∧ _
  rw [hz]
  have he : IsEnum ((s.heap.push { cls := .type "tuple_iterator", data := .fields #[.ref l, .int 0 0] }).push
      { cls := .type "enumerate", data := .fields #[.none, .bool false, .ref s.heap.objs.size, rawInt 0, .none, .none] }) (s.heap.objs.size + 1) s.heap.objs.size 0 .none := by
    have := Heap.get?_push_size (s.heap.push { cls := .type "tuple_iterator", data := .fields #[.ref l, .int 0 0] })
      (o := { cls := .type "enumerate", data := .fields #[.none, .bool false, .ref s.heap.objs.size, rawInt 0, .none, .none] }) rfl
    rw [hz] at this; exact this
  refine ⟨⟨_, he, rfl⟩, h _ he ⟨_, Heap.get?_push_of_some _ (Heap.get?_push_size _ rfl), rfl, rfl⟩ (by rw [Heap.size_push, hz]) fun b o x => Heap.get?_push_of_some _ (Heap.get?_push_of_some _ x)⟩
end
end PySem
namespace L2
open PySem PySem.Spec PyProof.Rows
theorem Inv.turnedL {X : Cx} {pins : List (Addr × Obj)} {σ : St} {H : Hp} {s : Shared} {h' : Heap} {t' : Nat} {fp : List Addr} (I : Inv X pins σ H s) (k : ∀ b o, b ∉ fp → s.heap.get? b = some o → h'.get? b = some o) (hf : ∀ b ∈ fp, FpOk X pins H b) :
    Inv X pins σ H { s with heap := h', toks := t' } := by
  have nit : ∀ b u, H b = some u → b ∉ fp := fun b u e z => by rw [(hf b z).1] at e; cases e
  refine I.step (g' := s.gens) (d' := s.drawn) (ch := fp) (fun b hb => ?_) (fun b o _ _ hc e _ => k b o hc e) (fun b o _ _ hc e _ => ⟨o.slots, k b o hc e⟩) (fun _ _ _ _ n => n)
    (fun b o hc e => ⟨o, k b o hc e⟩) (fun _ _ e => e) (fun _ _ _ e => e) (fun b ps e => ⟨#[], by rw [e]; simp⟩) (fun m hm => ?_) (fun b u e => ?_) I.bare
  · obtain ⟨_, f1, _, f3, f4, f5⟩ := hf b hb
    exact ⟨f3, f1, f4, f5⟩
  · obtain ⟨o, es, ep, ho, r⟩ := hm
    exact ⟨o, es, ep, k _ o (fun z => (hf _ z).2.1 rfl) ho, r⟩
  · refine (I.hok b u e).stay (fun c v hc q => k c v ?_ q) (fun _ q => q) fun _ _ q => q
    rcases hc with z | z
    · rw [z]; exact nit b u e
    · exact nit c _ z
theorem Inv.un2 {X : Cx} {pins : List (Addr × Obj)} {σ : St} {H : Hp} {s : Shared} {h' : Heap} {t' : Nat} {fp : List Addr} {xs : List V} (I : Inv X pins σ H s) (k : ∀ b o, b ∉ fp → s.heap.get? b = some o → h'.get? b = some o) (hf : ∀ b ∈ fp, FpOk X pins H b)
    (hfr : H s.heap.objs.size = none) (hno : s.heap.objs.size ∉ fp) (new : ObjOk X.prog X.w (upd H s.heap.objs.size (.tup xs)) h' s.heap.objs.size (.tup xs)) (ht : ∀ b ∈ fp, ∀ o, s.heap.get? b = some o → ∃ o', h'.get? b = some o') :
    Inv X pins σ (upd H s.heap.objs.size (.tup xs)) { s with heap := h', toks := t' } := by
  have nit : ∀ b u, H b = some u → b ∉ fp := fun b u e z => by rw [(hf b z).1] at e; cases e
  have nT : ∀ b o, s.heap.get? b = some o → b ≠ s.heap.objs.size := fun b o e => Nat.ne_of_lt (Heap.lt_size e)
  refine I.step (g' := s.gens) (d' := s.drawn) (ch := fp) (fun b hb => ?_) (fun b o _ _ hc e _ => k b o hc e) (fun b o _ _ hc e _ => ⟨o.slots, k b o hc e⟩) (fun b o _ e n => by rw [upd_ne (nT b o e)]; exact n)
    (fun b o hc e => ⟨o, k b o hc e⟩) (fun b ys e => by rw [upd_ne (ne_of_none e hfr)]; exact e) (fun b o u e => by rw [upd_ne (ne_of_none e hfr)]; exact e) (fun b ps e => ⟨#[], by rw [upd_ne (ne_of_none e hfr), e]; simp⟩) (fun m hm => ?_) (fun b u e => ?_) I.bare
  · obtain ⟨_, f1, _, f3, f4, f5⟩ := hf b hb
    exact ⟨f3, f1, f4, f5⟩
  · obtain ⟨o, es, ep, ho, r⟩ := hm
    exact ⟨o, es, ep, k _ o (fun z => (hf _ z).2.1 rfl) ho, r⟩
  · by_cases hb : b = s.heap.objs.size
    · subst hb; rw [upd_same] at e; cases e; exact new
    · rw [upd_ne hb] at e
      refine (I.hok b u e).stay (fun c v hc q => k c v ?_ q) (fun c q => by rw [upd_ne (ne_of_none q hfr)]; exact q) fun c ys q => by rw [upd_ne (ne_of_none q hfr)]; exact q
      rcases hc with z | z
      · rw [z]; exact nit b u e
      · exact nit c _ z
noncomputable def Ite (K : PySem.W.Frag) (a : Addr) : It :=
  ⟨fun i H => ∃ xs x, SqT K H a xs ∧ xs[i]? = some x, fun i H v H' => ∃ t, H t = none ∧ v = .ref t ∧ ∀ xs, SqT K H a xs → ∃ x, xs[i]? = some x ∧ H' = upd H t (.tup [.int i, x]), fun i H => ∃ xs, SqT K H a xs ∧ xs.length = i⟩
theorem turn_enumT {P : Program} {w : World} {K : PySem.W.Frag} {elts : List Expr} {x1} {pos : Pos} (a it e : Addr) (hei : e ≠ it) : Turn P w K (.Tuple elts x1 pos) (Ite K a) [e, it] e (fun i h => (∃ old, IsEnum h e it i old) ∧ h.IsTupleIter it a i) where
  mem := by simp
  obj := fun i h st b hb => by
    obtain ⟨⟨old, he⟩, o, ho, c, d⟩ := st
    rcases List.mem_cons.mp hb with z | z
    · subst z; exact ⟨_, he, fun v z => by cases z⟩
    · have z : b = it := by simpa using z
      subst z; exact ⟨o, ho, fun v z => by rw [d] at z; cases z⟩
  keep := fun i h h' st k => ⟨let ⟨old, he⟩ := st.1; ⟨old, k e (by simp) _ he⟩, st.2.at fun o q => k it (by simp) o q⟩
  item := by
    intro X hP hw hK hc i pins s σ H E I hf st hg
    subst hP hw hK
    obtain ⟨xs, x, hq, hx⟩ := hg
    obtain ⟨its, rv, p, hz⟩ := I.tuple hq
    obtain ⟨u, hu, ru⟩ := rv.get hx
    obtain ⟨⟨old, he⟩, ht⟩ := st
    have hne : a ≠ it := fun z => by
      obtain ⟨o, ho, c, _⟩ := ht
      obtain ⟨o', ho', c', _⟩ := p
      subst z
      rw [ho] at ho'; cases ho'
      rw [c] at c'
      exact absurd (Value.type.inj c') (by decide)
    have hae : a ≠ e := fun z => by
      obtain ⟨o', ho', c', _⟩ := p
      subst z
      rw [he] at ho'; cases ho'
      exact absurd (Value.type.inj c') (by decide)
    have hlt : i < its.toArray.size := by have := (List.getElem?_eq_some_iff.mp hu).1; simpa using this
    refine wpAny_pyNext_enum_itemD (ours_Draws_tuple (A := X.A.in1) (by exact I.ok.hd hc) it a hne its.toArray) he ⟨ht, p⟩ hlt hei (by simp [hei, Ne.symm hae]) fun v h' tk hPv ho' st' htup hsz hk => ?_
    have ev : v = u := by
      have h1 : its[i]? = some v := by simpa using hPv
      rw [hu] at h1; exact (Option.some.inj h1).symm
    subst ev
    refine ⟨_, rfl, wpAny_letOwnedTupleGo_enum (s := { s with heap := h', toks := tk + 1 }) ho' fun h2 he2 sb => ?_⟩
    have hTe : s.heap.objs.size ≠ e := fun z => by
      have := Heap.lt_size he; rw [← z] at this; exact Nat.lt_irrefl _ this
    have hTi : s.heap.objs.size ≠ it := fun z => by
      obtain ⟨o, ho, _⟩ := ht
      have := Heap.lt_size ho; rw [← z] at this; exact Nat.lt_irrefl _ this
    have hk2 : ∀ b o, b ∉ [e, it] → s.heap.get? b = some o → h2.get? b = some o := fun b o hb q =>
      sb.extBut b o (fun z => hb (by simp [z])) (hk b o (fun z => hb (by simp [z])) (fun z => hb (by simp [z])) q)
    have I1 : Inv X pins σ H { s with heap := h2, toks := tk + 1 } := I.turnedL hk2 hf
    have hfr : H s.heap.objs.size = none := I.hok.fresh (Nat.le_refl _)
    have htup2 : h2.get? s.heap.objs.size = some { cls := .type "tuple", data := .seq #[.int i tk, v] } := sb.extBut _ _ hTe htup
    have I2 : Inv X pins σ (upd H s.heap.objs.size (.tup [.int i, x])) { s with heap := h2, toks := tk + 1 } := by
      refine I.un2 hk2 hf hfr (by simp [hTe, hTi]) ⟨by show 2 ≤ sizeLine; decide, [.int i tk, v], .cons ⟨_, rfl⟩ (.cons ru .nil), TupP.of htup2⟩ (fun b hb o q => ?_)
      rcases List.mem_cons.mp hb with r | r
      · subst r; exact ⟨_, he2⟩
      · have r : b = it := by simpa using r
        subst r
        obtain ⟨o', ho', _⟩ := st'.1.extBut sb.extBut (Ne.symm hei)
        exact ⟨o', ho'⟩
    refine ⟨.ref s.heap.objs.size, _, I2, rfl, ⟨s.heap.objs.size, hfr, rfl, fun ys hy => ⟨x, by rw [I.tuple_inj hy hq]; exact hx, rfl⟩⟩, ⟨⟨_, he2⟩, st'.1.extBut sb.extBut (Ne.symm hei)⟩, fun b hb => ?_⟩
    have hbT : b ≠ s.heap.objs.size := fun z => by
      rcases List.mem_cons.mp hb with r | r
      · exact hTe (z ▸ r)
      · have r : b = it := by simpa using r
        exact hTi (z ▸ r)
    rw [upd_ne hbT]
    exact (hf b hb).1
  done := by
    intro X hP hw hK hc i pins s σ H E I hf st hg
    subst hP hw hK
    obtain ⟨xs, hq, hx⟩ := hg
    obtain ⟨its, rv, p, hz⟩ := I.tuple hq
    obtain ⟨⟨old, he⟩, ht⟩ := st
    have hl := rv.length
    have hne : a ≠ it := fun z => by
      obtain ⟨o, ho, c, _⟩ := ht
      obtain ⟨o', ho', c', _⟩ := p
      subst z
      rw [ho] at ho'; cases ho'
      rw [c] at c'
      exact absurd (Value.type.inj c') (by decide)
    have ei : (i : Nat) = its.toArray.size := by simp; omega
    subst ei
    obtain ⟨f0, f1, f2, f3, f4, f5⟩ := hf it (by simp)
    exact wpAny_pyNext_enum_endD (ours_Draws_tuple (A := X.A.in1) (by exact I.ok.hd hc) it a hne its.toArray) he ⟨ht, p⟩ fun h' eb => ⟨rfl, I.turned (t' := s.toks) (fun b o hb e => eb b o hb e) f0 f1 f3 f4 f5⟩
  self := fun _ _ _ _ _ st h => let ⟨_, he⟩ := st.1; wpAny_pyIter_enum he h
end L2
set_option Elab.async false
set_option linter.all false
set_option maxRecDepth 100000
set_option maxHeartbeats 4000000
namespace L2
open PySem PySem.Spec PyProof.Rows
section
variable {X : Cx} {elts : List Expr} {x1 : Nat} {tpos : Pos}
end
section
variable {X : Cx} {elts : List Expr} {x1 : Nat} {tpos : Pos}
end
section
variable {k : Nat} {cap : List Nat} {g : TG} {tt : TT} {te : TE} {σ : St} {H : Hp} {Q : VK} {l : Addr}
end
theorem inV_str {n : Str} {row : List Str} : inV (.str n) (row.map V.str) = row.contains n := by
  unfold inV
  induction row with
  | nil => rfl
  | cons x r ih =>
    rw [List.map_cons, List.any_cons, ih, List.contains_cons]
    congr 1
    show (x == n) = (n == x)
    by_cases e : x = n
    · subst e; simp
    · rw [beq_eq_false_iff_ne.mpr e, beq_eq_false_iff_ne.mpr (Ne.symm e)]
theorem flat_strs {row : List Str} : (row.map V.str).all flatV = true := by
  induction row with
  | nil => rfl
  | cons x r ih => rw [List.map_cons, List.all_cons, ih]; rfl
end L2
set_option Elab.async false
set_option linter.all false
set_option maxRecDepth 100000
set_option maxHeartbeats 4000000
namespace L2
open PySem PySem.Spec PyProof.Rows
section
variable {X : Cx} {k : Nat}
theorem ixL (K : PySem.W.Frag) (h : X.K = K := by rfl) : IxR X (rIxL K) := h ▸ ix_list
theorem ixT (K : PySem.W.Frag) (h : X.K = K := by rfl) : IxR X (rIxT K) := h ▸ ix_tup
theorem slL (K : PySem.W.Frag) (h : X.K = K := by rfl) : SlR X (rSlL K) := h ▸ sl_list
theorem inQ (K : PySem.W.Frag) (h : X.K = K := by rfl) : OpR X (compareOp .In) (rIn K false) := h ▸ op_in_seq
theorem notInQ (K : PySem.W.Frag) (h : X.K = K := by rfl) : OpR X (compareOp .NotIn) (rIn K true) := h ▸ op_notIn_seq
noncomputable def rEqL (K : PySem.W.Frag) : R2 := fun x y H Q => ∃ a b xs ys, x = .ref a ∧ y = .ref b ∧ SqL K H a xs ∧ SqL K H b ys ∧ (xs.length = ys.length → xs.all flatV = true ∧ ys.all flatV = true) ∧ Q (.bl (eqLV xs ys)) H
noncomputable def rLenL (K : PySem.W.Frag) : List V → Hp → VK → Prop := fun xs H Q => ∃ p ys, xs = [.ref p] ∧ SqL K H p ys ∧ Q (.int ys.length) H
noncomputable def rLenT (K : PySem.W.Frag) : List V → Hp → VK → Prop := fun xs H Q => ∃ p ys, xs = [.ref p] ∧ SqT K H p ys ∧ Q (.int ys.length) H
theorem lenL (K : PySem.W.Frag) (h : X.K = K := by rfl) : CallR X (.builtin "len") (rLenL K) := h ▸ call_lenL
noncomputable def rAll (K : PySem.W.Frag) : List V → Hp → VK → Prop := fun xs H Q => ∃ p bs, xs = [.ref p] ∧ SqL K H p (isBl bs) ∧ Q (.bl (bs.all id)) H
noncomputable def rAny (K : PySem.W.Frag) : List V → Hp → VK → Prop := fun xs H Q => ∃ p bs, xs = [.ref p] ∧ SqL K H p (isBl bs) ∧ Q (.bl (bs.any id)) H
theorem allL (K : PySem.W.Frag) (hc : X.calm = true) (h : X.K = K := by rfl) : CallR X (.builtin "all") (rAll K) := h ▸ call_all hc
noncomputable def rMaxL (K : PySem.W.Frag) : List V → Hp → VK → Prop := fun xs H Q => ∃ (p : Addr) (ns : List Int), xs = [.ref p] ∧ SqL K H p (ns.map V.int) ∧ 0 < ns.length ∧ ∀ M, M ∈ ns → (∀ a, a ∈ ns → a ≤ M) → Q (.int M) H
noncomputable def rIsi (K : PySem.W.Frag) : List V → Hp → VK → Prop := fun xs H Q => ∃ x T t b, xs = [x, .ty T] ∧ TyOf K H x t ∧ PySem.W.kitOne K t (.type T) = some b ∧ Q (.bl b) H
noncomputable def rTupL (K : PySem.W.Frag) : List V → Hp → VK → Prop := fun xs H Q => ∃ p ys, xs = [.ref p] ∧ SqL K H p ys ∧ ∀ l, H l = none → Q (.ref l) (upd H l (.tup ys))
theorem tupL (K : PySem.W.Frag) (h : X.K = K := by rfl) : CallR X (.type "tuple") (rTupL K) := by
  subst h
  intro pins s σ H xs us Q I r ⟨p, ys, e, hq, q⟩
  exact call_tuple_of pins s σ H xs us Q I r ⟨p, ys, e, .inl ⟨hq, q⟩⟩
noncomputable def rListL (K : PySem.W.Frag) : List V → Hp → VK → Prop := fun xs H Q => ∃ p ys, xs = [.ref p] ∧ (SqL K H p ys ∨ SqT K H p ys) ∧ ∀ l, H l = none → Q (.ref l) (upd H l (.lst ys))
theorem joinK (K : PySem.W.Frag) (h : X.K = K := by rfl) : MtR X "str.join" (rJoin K) := h ▸ mt_join
theorem pg_tupK (K : PySem.W.Frag) {es : List Expr} {j : Nat} {t : TGs} {n : Nat} {pos : Pos} (hc : X.calm = true) (h : PGs X es t) (hK : X.K = K := by rfl)
    (hn : (assignEach es X.env).length = n := by rfl) (hst : (assignEach es X.env).findIdx? (·.1) = none := by rfl) : PG X (.Tuple es j pos) (gTup K n t) := hK ▸ pg_tup hc h hn hst
theorem pi_lst (K : PySem.W.Frag) {tg l : Expr} {tl : TE} (hl : PE X l tl) (h : X.K = K := by rfl) : PI X tg l (iList K tl) := h ▸ pi_list hl
theorem pi_tpl (K : PySem.W.Frag) {tg l : Expr} {tl : TE} (hl : PE X l tl) (h : X.K = K := by rfl) : PI X tg l (iTup K tl) := h ▸ pi_tup hl
theorem pe_bmK (K : PySem.W.Frag) {o e : Expr} {es : List Expr} {to : TE} {t : TA} {name : Str} {apos cpos : Pos} {T id : String} {r : V → List V → Hp → VK → Prop} (pa : PlainAttrs T) (slot : Slot T name id) (hty : typeOf (.builtin id) = pure (.type "method_descriptor")) (hm : MtR X id r) (ho : PE X o to) (ha : PA X (e :: es) t) (hK : X.K = K := by rfl)
    (hbase : attributeBase o name X.env (eval o X.env) = eval o X.env := by rfl)
    (hfew : ((backTo cpos (starEach (e :: es) X.env)).all (fun x => !x.1) && (backToKw cpos (keywordEach [] X.env)).all (fun x => x.1.isSome)
      && decide ((e :: es).length + ([] : List Keyword).length + (if ([] : List Keyword).isEmpty then 0 else 1) < 30)) = true := by rfl)
    (hline : (apos.endLine == cpos.line) = true := by rfl) (hs : starEach (e :: es) X.env = (false, eval e X.env) :: starEach es X.env := by rfl) (hplain : (backTo cpos (starEach es X.env)).any (·.1) = false := by rfl) :
    PE X (.Call (.Attribute o name apos) (e :: es) [] cpos) (tBM K T r to t) := hK ▸ pe_bm pa slot hty hm ho ha hbase hfew hline hs hplain
end
end L2
set_option Elab.async false
set_option linter.all false
set_option maxRecDepth 100000
set_option maxHeartbeats 4000000
namespace L2
open PySem PySem.Spec PyProof.Rows
section
variable {X : Cx}
noncomputable def rLower : V → List V → Hp → VK → Prop := fun x vs H Q => ∃ z, x = .str z ∧ vs = [] ∧ z.length ≤ 5592405 ∧ Q (.str (Txt.lower z)) H
noncomputable def rIndexS : V → List V → Hp → VK → Prop := fun x vs H Q => ∃ z y i rest, x = .str z ∧ vs = [.str y] ∧ Builtin.Str.occurrences z y 0 z.length 1 = i :: rest ∧ Q (.int i) H
noncomputable def rSplit : V → List V → Hp → VK → Prop := fun x vs H Q => ∃ z y, x = .str z ∧ vs = [.str y] ∧ (y.length == 0) = false ∧ z.length ≤ 1000000 ∧ (Txt.split z y).length ≤ 16777216 ∧ (Builtin.Str.partsBetween z (Builtin.Str.occurrences z y 0 z.length (z.length + 1)) y.length).length ≤ sizeLine ∧
  ∀ l, H l = none → Q (.ref l) (upd H l (.lst ((Txt.split z y).map V.str)))
end
end L2
set_option Elab.async false
set_option linter.all false
set_option maxRecDepth 100000
set_option maxHeartbeats 4000000
namespace PM
open PySem PyProof.Rows
noncomputable def joinC : List (List Nat) → List Nat
  | [] => []
  | [x] => x
  | x :: y :: r => x ++ 32 :: joinC (y :: r)
noncomputable def walk (sm : Nat → Nat) : List Nat → List Nat → Bool → List Nat
  | [], f, _ => f
  | c :: r, f, w => if c = 32 then walk sm r f (!f.isEmpty) else walk sm r (f ++ (if w = true then [32] else []) ++ [sm c]) false
noncomputable def step (f p : List Nat) : List Nat := if p = [] then f else f ++ (if (!f.isEmpty) = true then [32] else []) ++ p
noncomputable abbrev SP : Str := Str.ofString " "
theorem SP_codes : SP.cps.toList = [32] := by decide +kernel
theorem join_codes : ∀ ys : List Str, (Str.join SP ys).cps.toList = joinC (ys.map fun y => y.cps.toList)
  | [] => rfl
  | [x] => rfl
  | x :: y :: r => by
    have ih := join_codes (y :: r)
    show (x ++ SP ++ Str.join SP (y :: r)).cps.toList = _
    rw [Str.cps_append, Str.cps_append, Array.toList_append, Array.toList_append, ih, SP_codes]
    simp [joinC]
noncomputable def W (x : Str) : Str := ⟨(walk lo1 x.cps.toList [] false).toArray⟩
end PM
set_option Elab.async false
set_option linter.all false
set_option maxRecDepth 100000
set_option maxHeartbeats 4000000
namespace L2
open PySem PySem.Spec PyProof.Rows
inductive Kd where
  | non | bl | int | str | lst | tup | dct
  deriving DecidableEq
noncomputable def Kd.nm : Kd → String
  | .non => "NoneType" | .bl => "bool" | .int => "int" | .str => "str" | .lst => "list" | .tup => "tuple" | .dct => "dict"
noncomputable def IsK (H : Hp) (v : V) : Kd → Prop
  | .non => v = .non
  | .bl => ∃ b, v = .bl b
  | .int => ∃ i, v = .int i
  | .str => ∃ x, v = .str x
  | .lst => ∃ a xs, v = .ref a ∧ H a = some (.lst xs)
  | .tup => ∃ a xs, v = .ref a ∧ H a = some (.tup xs)
  | .dct => ∃ a kvs ep, v = .ref a ∧ H a = some (.dK kvs ep)
theorem IsK.ty {K : PySem.W.Frag} {H : Hp} {v : V} {k : Kd} (h : IsK H v k) : TyOf K H v (.type k.nm) := by
  cases k with
  | non => cases (show v = .non from h); exact .non
  | bl => obtain ⟨b, rfl⟩ := h; exact .bl b
  | int => obtain ⟨b, rfl⟩ := h; exact .int b
  | str => obtain ⟨b, rfl⟩ := h; exact .str b
  | lst => obtain ⟨a, xs, rfl, e⟩ := h; exact .lst e
  | tup => obtain ⟨a, xs, rfl, e⟩ := h; exact .tup e
  | dct => obtain ⟨a, xs, ep, rfl, e⟩ := h; exact .dK e
theorem IsK.same {H H' : Hp} {v : V} {k : Kd} (h : IsK H v k) (s : Same H H') : IsK H' v k := by
  cases k with
  | non => exact h
  | bl => exact h
  | int => exact h
  | str => exact h
  | lst => obtain ⟨a, xs, rfl, e⟩ := h; exact ⟨a, xs, rfl, s _ _ e⟩
  | tup => obtain ⟨a, xs, rfl, e⟩ := h; exact ⟨a, xs, rfl, s _ _ e⟩
  | dct => obtain ⟨a, xs, ep, rfl, e⟩ := h; exact ⟨a, xs, ep, rfl, s _ _ e⟩
section
variable {X : Cx}
end
section
variable {k : Nat} {cap : List Nat} {g : TG} {tt : TT} {te : TE} {σ : St} {H : Hp} {Q : VK} {l : Addr}
end
end L2
set_option Elab.async false
set_option linter.all false
set_option maxRecDepth 100000
set_option maxHeartbeats 4000000
namespace HT
open PySem PySem.Spec PyProof.Rows
section
variable {prog : Program} {w : World} {A : Around} {E : Value → Shared → Prop} {s : Shared}
end
end HT
namespace L2
open PySem PySem.Spec PyProof.Rows
section
variable {X : Cx}
noncomputable def rSlW : V → Option Int → Option Int → Hp → VK → Prop := fun x lo hi H Q => ∃ a xs, x = .ref a ∧ H a = some (.tup xs) ∧ ∀ p H', Same H H' → H' p = some (.tup (cutV xs lo hi)) → Q (.ref p) H'
noncomputable def rCatW : R2 := fun x y H Q => ∃ a b xs ys, x = .ref a ∧ y = .ref b ∧ H a = some (.tup xs) ∧ H b = some (.tup ys) ∧ xs.length + ys.length ≤ sizeLine ∧ ∀ p H', Same H H' → H' p = some (.tup (xs ++ ys)) → Q (.ref p) H'
noncomputable def rMulS : R2 := fun x y H Q => ∃ z n, x = .str z ∧ y = .int n ∧ 0 ≤ n ∧ n ≤ 1000000 ∧ z.length = 1 ∧ ∀ w : Str, (w.length : Int) = n → (∀ c ∈ w.cps.toList, c ∈ z.cps.toList) → Q (.str w) H
noncomputable def rJoinT (K : PySem.W.Frag) : V → List V → Hp → VK → Prop := fun x vs H Q => ∃ z p ys, x = .str z ∧ vs = [.ref p] ∧ SqT K H p (ys.map V.str) ∧ (ys.map (·.length)).sum + ys.length * z.length ≤ 16777216 ∧ Q (.str (Txt.join z ys)) H
end
section
variable {k : Nat} {cap : List Nat} {g : TG} {tt : TT} {te : TE} {σ : St} {H : Hp} {Q : VK} {l : Addr}
end
end L2
set_option Elab.async false
set_option linter.all false
set_option maxRecDepth 100000
set_option maxHeartbeats 4000000
namespace L2
open PySem PySem.Spec PyProof.Rows
section
variable {κ : Type} [DecidableEq κ]
noncomputable def valV (kvs : List (κ × V)) (k : κ) : Option V := (kvs.find? fun kv => decide (kv.1 = k)).map (·.2)
noncomputable def putK (kvs : List (κ × V)) (k : κ) (v : V) : List (κ × V) :=
  if (kvs.any fun kv => decide (kv.1 = k)) = true then kvs.map (fun kv => if kv.1 = k then (kv.1, v) else kv) else kvs ++ [(k, v)]
noncomputable def dropK (kvs : List (κ × V)) (k : κ) : List (κ × V) := kvs.filter fun kv => decide (kv.1 ≠ k)
theorem valV_pos {p : κ × V} {r : List (κ × V)} {k : κ} (e : p.1 = k) : valV (p :: r) k = some p.2 := by simp [valV, List.find?_cons, e]
theorem valV_neg {p : κ × V} {r : List (κ × V)} {k : κ} (e : ¬ p.1 = k) : valV (p :: r) k = valV r k := by simp [valV, List.find?_cons, e]
theorem valV_any (k : κ) : ∀ kvs : List (κ × V), (kvs.any fun kv => decide (kv.1 = k)) = (valV kvs k).isSome
  | [] => rfl
  | p :: r => by
    rw [List.any_cons]
    by_cases e : p.1 = k
    · simp only [valV_pos e, decide_eq_true e, Bool.true_or, Option.isSome_some]
    · rw [valV_neg e, decide_eq_false e, Bool.false_or]; exact valV_any k r
theorem length_putK (kvs : List (κ × V)) (k : κ) (v : V) : (putK kvs k v).length ≤ kvs.length + 1 := by
  unfold putK
  split
  · rw [List.length_map]; omega
  · rw [List.length_append, List.length_cons, List.length_nil]; omega
theorem RelO.isSome_eq {o : Option V} {u : Option Value} (r : RelO o u) : o.isSome = u.isSome := by
  cases o with
  | none => cases u with
    | none => rfl
    | some _ => exact (show False from r).elim
  | some _ => cases u with
    | none => exact (show False from r).elim
    | some _ => rfl
theorem RelO.getD {o : Option V} {u : Option Value} {d : V} {d' : Value} (r : RelO o u) (rd : RelV d d') : RelV (o.getD d) (u.getD d') := by
  cases o with
  | none => cases u with
    | none => exact rd
    | some _ => exact (show False from r).elim
  | some _ => cases u with
    | none => exact (show False from r).elim
    | some _ => exact r
theorem KV.val {kvs : List (κ × V)} {vs : List (κ × Value)} (r : KV kvs vs) (k : κ) : RelO (valV kvs k) (valueAt vs k) := by
  unfold KV at r
  induction r with
  | nil => exact True.intro
  | @cons p q ps qs h t ih =>
    obtain ⟨h1, h2⟩ := h
    by_cases e : p.1 = k
    · have e' : q.1 = k := h1.symm.trans e
      have b : valueAt (q :: qs) k = some q.2 := by simp [valueAt, List.find?_cons, e']
      rw [valV_pos e, b]; exact h2
    · have e' : ¬ q.1 = k := fun z => e (h1.trans z)
      have b : valueAt (q :: qs) k = valueAt qs k := by simp [valueAt, List.find?_cons, e']
      rw [valV_neg e, b]; exact ih
theorem KV.any {kvs : List (κ × V)} {vs : List (κ × Value)} (r : KV kvs vs) (k : κ) : (kvs.any fun kv => decide (kv.1 = k)) = vs.any fun kv => decide (kv.1 = k) := by
  unfold KV at r
  induction r with
  | nil => rfl
  | cons h t ih => rw [List.any_cons, List.any_cons, ih, h.1]
theorem KV.repl {kvs : List (κ × V)} {vs : List (κ × Value)} (r : KV kvs vs) (k : κ) {y : V} {u : Value} (ry : RelV y u) :
    KV (kvs.map fun kv => if kv.1 = k then (kv.1, y) else kv) (vs.map fun kv => if kv.1 = k then (kv.1, u) else kv) := by
  unfold KV at r ⊢
  induction r with
  | nil => exact .nil
  | @cons p q ps qs h t ih =>
    rw [List.map_cons, List.map_cons]
    refine .cons ?_ ih
    obtain ⟨h1, h2⟩ := h
    by_cases e : p.1 = k
    · rw [if_pos e, if_pos (h1.symm.trans e)]; exact ⟨h1, ry⟩
    · rw [if_neg e, if_neg (fun z => e (h1.trans z))]; exact ⟨h1, h2⟩
theorem KV.put {kvs : List (κ × V)} {vs : List (κ × Value)} (r : KV kvs vs) (k : κ) {y : V} {u : Value} (ry : RelV y u) : KV (putK kvs k y) (stored vs k u) := by
  unfold putK stored
  rw [r.any k]
  by_cases e : (vs.any fun kv => decide (kv.1 = k)) = true
  · rw [if_pos e, if_pos e]; exact r.repl k ry
  · rw [if_neg e, if_neg e]; exact Paired.snoc r ⟨rfl, ry⟩
theorem KV.drop {kvs : List (κ × V)} {vs : List (κ × Value)} (r : KV kvs vs) (k : κ) : KV (dropK kvs k) (without vs k) := by
  unfold KV at r ⊢
  unfold dropK without
  induction r with
  | nil => exact .nil
  | @cons p q ps qs h t ih =>
    obtain ⟨h1, h2⟩ := h
    rw [List.filter_cons, List.filter_cons]
    by_cases e : p.1 = k
    · have a : ¬ decide (p.1 ≠ k) = true := by simp [e]
      have b : ¬ decide (q.1 ≠ k) = true := by simp [h1.symm.trans e]
      rw [if_neg a, if_neg b]; exact ih
    · have e' : ¬ q.1 = k := fun z => e (h1.trans z)
      have a : decide (p.1 ≠ k) = true := by simp [e]
      have b : decide (q.1 ≠ k) = true := by simp [e']
      rw [if_pos a, if_pos b]; exact .cons ⟨h1, h2⟩ ih
theorem KV.keys {kvs : List (κ × V)} {vs : List (κ × Value)} (r : KV kvs vs) : kvs.map (·.1) = vs.map (·.1) := by
  unfold KV at r
  induction r with
  | nil => rfl
  | cons h t ih => rw [List.map_cons, List.map_cons, ih, h.1]
theorem KV.length {kvs : List (κ × V)} {vs : List (κ × Value)} (r : KV kvs vs) : kvs.length = vs.length := Paired.length r
end
theorem kV_is {P : Program} {w : World} {k : Key} {u : Value} (r : RelV (kV k) u) : (mixKind P w).is k u = true := by
  cases k with
  | inl i => obtain ⟨t, e⟩ := (show ∃ t, u = Value.int i t from r); subst e; exact mixKind_int P w i t
  | inr x => obtain ⟨t, e⟩ := (show ∃ t, u = Value.str x t from r); subst e; exact mixKind_str P w x t
theorem items_are {P : Program} {w : World} : ∀ {ks : List Key} {us : List Value}, Vals (ks.map kV) us → ItemsAre (mixKind P w) ks us
  | [], _, r => by rw [List.map_nil] at r; cases r; exact .nil
  | k :: ks, _, r => by
    rw [List.map_cons] at r
    cases r with
    | cons h t => exact .cons (kV_is h) (items_are t)
noncomputable abbrev KT (H : Hp) : List (List Key × V) → List (List Key × Addr × Value) → Prop := Paired fun p q => p.1 = q.1 ∧ H q.2.1 = some (.tup (p.1.map kV)) ∧ RelV p.2 q.2.2
theorem KT.val {H : Hp} {kvs : List (List Key × V)} {xs : List (List Key × Addr × Value)} (r : KT H kvs xs) (k : List Key) : RelO (valV kvs k) ((atKey xs k).map (·.2)) := by
  induction r with
  | nil => exact True.intro
  | @cons p q ps qs h t ih =>
    obtain ⟨h1, _, h2⟩ := h
    by_cases e : p.1 = k
    · have e' : q.1 = k := h1.symm.trans e
      have b : atKey (q :: qs) k = some q.2 := by simp [atKey, List.find?_cons, e']
      rw [valV_pos e, b]; exact h2
    · have e' : ¬ q.1 = k := fun z => e (h1.trans z)
      have b : atKey (q :: qs) k = atKey qs k := by simp [atKey, List.find?_cons, e']
      rw [valV_neg e, b]; exact ih
theorem KT.repl {H : Hp} {kvs : List (List Key × V)} {xs : List (List Key × Addr × Value)} (r : KT H kvs xs) (k : List Key) {y : V} {u : Value} (ry : RelV y u) :
    KT H (kvs.map fun kv => if kv.1 = k then (kv.1, y) else kv) (xs.map (putAt k u)) := by
  induction r with
  | nil => exact .nil
  | @cons p q ps qs h t ih =>
    rw [List.map_cons, List.map_cons]
    refine .cons ?_ ih
    obtain ⟨h1, h2, h3⟩ := h
    unfold putAt
    by_cases e : p.1 = k
    · rw [if_pos e, if_pos (h1.symm.trans e)]; exact ⟨h1, h2, ry⟩
    · rw [if_neg e, if_neg (fun z => e (h1.trans z))]; exact ⟨h1, h2, h3⟩
theorem KT.put {H : Hp} {kvs : List (List Key × V)} {xs : List (List Key × Addr × Value)} (r : KT H kvs xs) (k : List Key) {b : Addr} {y : V} {u : Value} (hb : H b = some (.tup (k.map kV))) (ry : RelV y u) :
    KT H (putK kvs k y) (storedH xs k b u) := by
  have e : (kvs.any fun kv => decide (kv.1 = k)) = (atKey xs k).isSome := by
    rw [valV_any, (r.val k).isSome_eq, Option.isSome_map]
  unfold putK storedH
  rw [e]
  by_cases q : (atKey xs k).isSome = true
  · rw [if_pos q, if_pos q]; exact r.repl k ry
  · rw [if_neg q, if_neg q]; exact Paired.snoc r ⟨rfl, hb, ry⟩
theorem KT.keeps {H H' : Hp} {kvs : List (List Key × V)} {xs : List (List Key × Addr × Value)} (r : KT H kvs xs) (ht : ∀ b ys, H b = some (.tup ys) → H' b = some (.tup ys)) : KT H' kvs xs :=
  Paired.mapP r fun _ _ z => ⟨z.1, ht _ _ z.2.1, z.2.2⟩
noncomputable def RdK (H : Hp) (a : Addr) (kvs : List (Key × V)) : Prop := ∃ ep, Rd H a (.dK kvs ep)
noncomputable def IsDK (H : Hp) (a : Addr) (kvs : List (Key × V)) : Prop := ∃ ep, H a = some (.dK kvs ep)
theorem IsDK.rd {H : Hp} {a : Addr} {kvs : List (Key × V)} (h : IsDK H a kvs) : RdK H a kvs := let ⟨ep, e⟩ := h; ⟨ep, .inl e⟩
theorem IsDK.mut {H : Hp} {a : Addr} {kvs : List (Key × V)} (h : IsDK H a kvs) : Mut (H a) := by obtain ⟨_, e⟩ := h; rw [e]; exact True.intro
section
variable {P : Program} {w : World} {H : Hp} {h : Heap} {a : Addr}
theorem rd_of {u : HO} (ok : HOk P w H h) (e : Rd H a u) : ObjOk P w H h a u := e.ok ok
theorem dk_at {kvs : List (Key × V)} {ep : Nat} (ok : HOk P w H h) (e : Rd H a (.dK kvs ep)) : kvs.length ≤ sizeLine ∧ (a == sysModules) = false ∧ ∃ vs, KV kvs vs ∧ h.DictAt (mixKind P w) a vs ep :=
  show ObjOk P w H h a (.dK kvs ep) from rd_of ok e
theorem dk_rd {kvs : List (Key × V)} (ok : HOk P w H h) (e : RdK H a kvs) : kvs.length ≤ sizeLine ∧ (a == sysModules) = false ∧ ∃ vs, KV kvs vs ∧ h.DictOf (mixKind P w) a vs :=
  let ⟨_, e⟩ := e; let ⟨z, y, vs, r, d⟩ := dk_at ok e; ⟨z, y, vs, r, d.dictOf⟩
theorem dk_of {kvs : List (Key × V)} (ok : HOk P w H h) (e : IsDK H a kvs) : kvs.length ≤ sizeLine ∧ (a == sysModules) = false ∧ ∃ vs, KV kvs vs ∧ h.DictOf (mixKind P w) a vs := dk_rd ok e.rd
theorem key_of {ks : List Key} (ok : HOk P w H h) (e : H a = some (.tup (ks.map kV))) : (tupleKind (mixKind P w)).is h ks a := by
  obtain ⟨_, its, r, ⟨o, h1, h2, n, h3⟩, _⟩ := (show ObjOk P w H h a (.tup (ks.map kV)) from ok a _ e)
  exact ⟨o, its.toArray, n, h1, h2, h3, by simpa using items_are r⟩
theorem dt_rd {kvs : List (List Key × V)} (ok : HOk P w H h) (e : Rd H a (.dT kvs)) : kvs.length ≤ sizeLine ∧ (a == sysModules) = false ∧
    ∃ xs, KT H kvs xs ∧ h.DictOfH (tupleKind (mixKind P w)) a xs := by
  obtain ⟨z, y, xs, r, o, es, ep, h1, h2, h3, h4, h5⟩ := (show ObjOk P w H h a (.dT kvs) from rd_of ok e)
  refine ⟨z, y, xs, r, o, es, ep, h1, h2, h3, h4, fun x hx => ?_, h5⟩
  have all : ∀ {l : List (List Key × V)} {m : List (List Key × Addr × Value)}, KT H l m → ∀ x ∈ m, (tupleKind (mixKind P w)).is h x.1 x.2.1 := by
    intro l m q
    induction q with
    | nil => intro x hx; exact nomatch hx
    | @cons p q ps qs hq t ih =>
      intro x hx
      rcases List.mem_cons.mp hx with e | hx
      · subst e
        exact key_of ok (by rw [← hq.1]; exact hq.2.1)
      · exact ih x hx
  exact all r x hx
theorem dt_of {kvs : List (List Key × V)} (ok : HOk P w H h) (e : H a = some (.dT kvs)) : kvs.length ≤ sizeLine ∧ (a == sysModules) = false ∧
    ∃ xs, KT H kvs xs ∧ h.DictOfH (tupleKind (mixKind P w)) a xs := dt_rd ok (.inl e)
end
noncomputable def DGet (H : Hp) (a : Addr) (y : V) (r : Option V) : Prop :=
  (∃ kvs k, RdK H a kvs ∧ y = kV k ∧ r = valV kvs k) ∨ ∃ kvs k b, Rd H a (.dT kvs) ∧ y = .ref b ∧ H b = some (.tup (k.map kV)) ∧ r = valV kvs k
noncomputable def DPut (H : Hp) (a : Addr) (y v : V) (Q : Hp → Prop) : Prop :=
  (∃ kvs k, IsDK H a kvs ∧ y = kV k ∧ kvs.length < sizeLine ∧ ∀ ep, Q (upd H a (.dK (putK kvs k v) ep))) ∨
  ∃ kvs k b, H a = some (.dT kvs) ∧ y = .ref b ∧ H b = some (.tup (k.map kV)) ∧ kvs.length < sizeLine ∧ Q (upd H a (.dT (putK kvs k v)))
theorem DGet.k {H : Hp} {a : Addr} {kvs : List (Key × V)} {k : Key} (e : IsDK H a kvs) : DGet H a (kV k) (valV kvs k) := .inl ⟨kvs, k, e.rd, rfl, rfl⟩
theorem DGet.t {H : Hp} {a b : Addr} {kvs : List (List Key × V)} {k : List Key} (e : H a = some (.dT kvs)) (eb : H b = some (.tup (k.map kV))) : DGet H a (.ref b) (valV kvs k) := .inr ⟨kvs, k, b, .inl e, rfl, eb, rfl⟩
section
variable {X : Cx} {pins : List (Addr × Obj)} {σ : St} {H : Hp} {s : Shared} {a : Addr} {y v : V} {u r : Value} {o : Option V} {A : Around} {E : Value → Shared → Prop}
theorem Inv.big (I : Inv X pins σ H s) : sysModules < s.heap.objs.size := by
  have h : mainGlobals < s.heap.objs.size := (I.mod.glob.keeps I.bk).lt
  exact Nat.lt_trans (by decide) h
theorem d_getItem {Q : Value → Shared → Prop} (hu : A.units + 1 < cLine) (I : Inv X pins σ H s) (g : DGet H a y (some v)) (ry : RelV y u) (h : ∀ w' s', Inv X pins σ H s' → RelV v w' → Q w' s') :
    wpAny (model X.prog X.w) A (getItem (.ref a) u) Q E s := by
  rcases g with ⟨kvs, k, e, ey, l⟩ | ⟨kvs, k, b, e, ey, eb, l⟩
  · subst ey
    obtain ⟨z, hd, vs, rel, dd⟩ := dk_rd I.hok e
    obtain ⟨w', hw, rw'⟩ := RelO.some_of (v := v) (o := valueAt vs k) (by rw [l]; exact rel.val k)
    exact wpAny_getItem_of (kV_is ry) dd.mapOf hw (h w' _ (I.tok _) rw')
  · subst ey
    cases (show u = Value.ref b from ry)
    obtain ⟨z, hd, xs, rel, dd⟩ := dt_rd I.hok e
    obtain ⟨w', hw, rw'⟩ := RelO.some_of (v := v) (o := (atKey xs k).map (·.2)) (by rw [l]; exact rel.val k)
    obtain ⟨p, hp, hp2⟩ := Option.map_eq_some_iff.mp hw
    refine wpAny_getItem_heap (tupleKind_room_in1 hu) (key_of I.hok eb) dd hp ?_
    rw [hp2]
    exact h w' _ (I.tok _) rw'
theorem d_write {h' : Heap} {t' : Nat} {ob : HO} (I : Inv X pins σ H s) (mu : Mut (H a)) (hs : Heap.SameBut a s.heap h') (he : ∃ q, h'.get? a = some q) (new : ObjOk X.prog X.w (upd H a ob) h' a ob) :
    Inv X pins σ (upd H a ob) { s with heap := h', toks := t' } :=
  I.write (x := a) (e := a) mu (.inl rfl) (fun b q hb z => (hs.2 b hb).trans z) he new
theorem dk_new {ep : Nat} {P : Program} {w : World} {H' : Hp} {h' : Heap} {kvs : List (Key × V)} {vs : List (Key × Value)} (z : kvs.length ≤ sizeLine) (hd : (a == sysModules) = false) (rel : KV kvs vs) (dd : h'.DictAt (mixKind P w) a vs ep) :
    ObjOk P w H' h' a (.dK kvs ep) := ⟨z, hd, vs, rel, dd⟩
theorem d_setItem {Z : Hp → Prop} {Q : Unit → Shared → Prop} (hu : A.units + 1 < cLine) (I : Inv X pins σ H s) (g : DPut H a y v Z) (ry : RelV y u) (rv : RelV v r) (h : ∀ H' s', Inv X pins σ H' s' → Z H' → Q () s') :
    wpAny (model X.prog X.w) A (setItem (.ref a) u r) Q E s := by
  rcases g with ⟨kvs, k, e, ey, l, eH⟩ | ⟨kvs, k, b, e, ey, eb, l, eH⟩
  · subst ey
    obtain ⟨z, hd, vs, rel, dd⟩ := dk_of I.hok e
    have hz : vs.length ≤ sizeLine := by rw [← rel.length]; exact z
    have hl : (putK kvs k v).length ≤ sizeLine := by have := length_putK kvs k v; omega
    refine wpAny_setItem_pairs (hsz := hz) (kV_is ry) dd fun h' dd' hs => ?_
    obtain ⟨ep, da⟩ := dd'.dictAt
    refine h _ _ ?_ (eH ep)
    have he : ∃ q, h'.get? a = some q := let ⟨q, _, _, hq, _⟩ := dd'; ⟨q, hq⟩
    exact d_write I e.mut hs he (dk_new hl hd (rel.put k rv) da)
  · subst ey
    cases (show u = Value.ref b from ry)
    obtain ⟨z, hd, xs, rel, dd⟩ := dt_of I.hok e
    have hz : xs.length ≤ sizeLine := by rw [← Paired.length rel]; exact z
    have hl : (putK kvs k v).length ≤ sizeLine := by have := length_putK kvs k v; omega
    refine wpAny_setItem_heap (hsz := hz) (tupleKind_room_in1 hu) (key_of I.hok eb) dd fun h' dd' hs => h _ _ ?_ eH
    obtain ⟨q, es, ep, hq, h2, h3, h4, _, h5⟩ := dd'
    refine d_write I (by rw [e]; exact True.intro) hs ⟨q, hq⟩ ⟨hl, hd, _, (rel.put k eb rv).keeps fun c ys ec => ?_, q, es, ep, hq, h2, h3, h4, h5⟩
    rw [upd_ne (ne_of ec e (fun z => nomatch z))]
    exact ec
end
section
variable {X : Cx} {pins : List (Addr × Obj)} {σ : St} {H : Hp} {s : Shared} {a : Addr} {kvs : List (Key × V)} {k : Key} {u : Value} {A : Around} {E : Value → Shared → Prop}
end
noncomputable def NoSl (i : Expr) : Prop := ∀ ov iv, subscripted i false ov iv = operate [ov, iv] (getItem ov iv)
theorem subD_of {prog : Program} {w : World} {A : Around} {E : Value → Shared → Prop} {s : Shared} {env : Env} {value slice : Expr} {pos : Pos} {T id : String} {Q : Value → Shared → Prop}
    (hl : typeLookup (.type T) "__getitem__" = pure (some (.builtin id))) (hs : NoSl slice)
    (h : wpAny (model prog w) A (eval value env) (fun o s₁ => wpAny (model prog w) A (eval slice env) (fun i s₂ => s₂.TypeIs o T ∧ wpAny (model prog w) A (getItem o i) Q E s₂) E s₁) E s) :
    wpAny (model prog w) A (eval (.Subscript value slice pos) env) Q E s := by
  refine Subscript_ (wpAny_mono h (fun o s₁ h₁ => wpAny_mono h₁ (fun i s₂ h₂ => ?_) fun _ _ x => x) fun _ _ x => x)
  obtain ⟨hT, h₂⟩ := h₂
  unfold subscriptTail
  refine wpAny_bind ?_
  rw [getitemInPython_of_ne hT.not_modules]
  refine wpAny_bind (wpAny_specialOf hT hl ?_)
  have fin : wpAny (model prog w) A (subscripted slice false o i) (fun r s₃ => wpAny (model prog w) A (letTemporaryGo value o r >>= fun _ => pure r) Q E s₃) E s₂ := by
    rw [hs o i]
    exact wpAny_operating (wpAny_mono h₂ (fun r s₃ h₃ => wpAny_bind (wpAny_letTemporaryGo (wpAny_pure h₃))) fun _ _ x => x)
  first
    | exact wpAny_pure (wpAny_bind fin)
    | exact wpAny_bind (wpAny_pure (wpAny_bind fin))
    | exact wpAny_bind fin
theorem dict_typeIs {X : Cx} {pins : List (Addr × Obj)} {σ : St} {H : Hp} {s : Shared} {a : Addr} {y : V} {o : Option V} (I : Inv X pins σ H s) (g : DGet H a y o) : s.TypeIs (.ref a) "dict" := by
  rcases g with ⟨kvs, k, e, _, _⟩ | ⟨kvs, k, b, e, _, _, _⟩
  · obtain ⟨_, _, vs, _, dd⟩ := dk_rd I.hok e
    exact dd.typeIs
  · obtain ⟨_, _, xs, _, dd⟩ := dt_rd I.hok e
    exact dd.typeIs
section
variable {X : Cx} {o i e value : Expr} {pos pos' tpos : Pos} {td ty tv : TE}
end
theorem dk_empty {P : Program} {w : World} {H : Hp} (h : Heap) (hb : sysModules < h.objs.size) : ObjOk P w H (h.push { cls := .type "dict", data := .dict #[] }) h.objs.size (.dK [] 0) :=
  ⟨Nat.zero_le _, beq_eq_false_iff_ne.mpr (Ne.symm (Nat.ne_of_lt hb)), [], .nil, _, #[], Heap.get?_push_size _ rfl, ⟨rfl, rfl, rfl⟩, rfl, (fun _ he => by simp at he), PySem.Pairs.nil, List.nodup_nil⟩
noncomputable def tDNewK : TE := fun _ H Q => ∀ p, H p = none → Q (.ref p) (upd H p (.dK [] 0))
section
variable {X : Cx} {pos : Pos}
theorem pe_dnewK : PE X (.Dict [] [] pos) tDNewK := fun pins s σ H Q I h =>
  wpAny_Dict_empty ⟨.ref s.heap.objs.size, _, I.laid (a := s.heap.objs.size) (o := .dK [] 0) (t' := s.toks) (fun _ _ q => Heap.get?_push_of_some _ q) (Nat.le_refl _) (dk_empty s.heap I.big), rfl, h _ (I.hok.fresh (Nat.le_refl _))⟩
end
noncomputable def tPairs : List (TE × TE) → St → Hp → (List (V × V) → Hp → Prop) → Prop
  | [], _, H, Q => Q [] H
  | (tk, tv) :: r, σ, H, Q => tk σ H fun x H1 => tv σ H1 fun y H2 => tPairs r σ H2 fun ps H3 => Q ((x, y) :: ps) H3
noncomputable def mergeK (kvs more : List (Key × V)) : List (Key × V) := more.foldl (fun acc kv => putK acc kv.1 kv.2) kvs
noncomputable def tDisp (trs : List (TE × TE)) : TE := fun σ H Q => ∀ p, H p = none → tPairs trs σ (upd H p (.dK [] 0)) fun ps H2 => H2 p = some (.dK [] 0) ∧ ∃ kvs : List (Key × V), ps = kvs.map (fun kv => (kV kv.1, kv.2)) ∧ kvs.length ≤ 15 ∧ ∀ ep, Q (.ref p) (upd H2 p (.dK (mergeK [] kvs) ep))
structure M1 (X : Cx) (o : Expr) (m : Str) (apos : Pos) (e : Expr) (cpos : Pos) : Prop where
  base : attributeBase o m X.env (eval o X.env) = eval o X.env
  few : ((backTo cpos (starEach [e] X.env)).all (fun x => !x.1) && (backToKw cpos (keywordEach [] X.env)).all (fun x => x.1.isSome)
    && decide (([e] : List Expr).length + ([] : List Keyword).length + (if ([] : List Keyword).isEmpty then 0 else 1) < 30)) = true
  line : (apos.endLine == cpos.line) = true
  trees : backTo cpos (starEach [e] X.env) = [(false, eval e X.env)]
structure M2 (X : Cx) (o : Expr) (m : Str) (apos : Pos) (e f : Expr) (cpos : Pos) : Prop where
  base : attributeBase o m X.env (eval o X.env) = eval o X.env
  few : ((backTo cpos (starEach [e, f] X.env)).all (fun x => !x.1) && (backToKw cpos (keywordEach [] X.env)).all (fun x => x.1.isSome)
    && decide (([e, f] : List Expr).length + ([] : List Keyword).length + (if ([] : List Keyword).isEmpty then 0 else 1) < 30)) = true
  line : (apos.endLine == cpos.line) = true
  trees : backTo cpos (starEach [e, f] X.env) = [(false, eval e X.env), (false, eval f X.env)]
section
variable {X : Cx} {pins : List (Addr × Obj)} {σ : St} {H : Hp} {s : Shared} {a : Addr} {y d : V} {u r : Value} {o : Option V} {A : Around} {E : Value → Shared → Prop}
end
section
variable {X : Cx} {o e f : Expr} {apos cpos : Pos} {td ty tx : TE}
end
section
variable {X : Cx} {pins : List (Addr × Obj)} {σ : St} {H : Hp} {s : Shared} {a : Addr} {kvs : List (Key × V)} {A : Around} {E : Value → Shared → Prop}
end
section
variable {X : Cx} {pins : List (Addr × Obj)} {σ : St} {H : Hp} {s : Shared} {a : Addr} {y : V} {u : Value} {A : Around} {E : Value → Shared → Prop}
end
end L2
set_option Elab.async false
set_option linter.all false
set_option maxRecDepth 100000
set_option maxHeartbeats 4000000
namespace HT
open PySem PySem.Spec PyProof.Rows
end HT
namespace L2
open PySem PySem.Spec PyProof.Rows
section
variable {X : Cx}
noncomputable def rRep1 : R2 := fun x y H Q => ∃ a v n, x = .ref a ∧ y = .int n ∧ H a = some (.tup [v]) ∧ 1 ≤ n ∧ n ≤ 1000 ∧ ∀ p H', Same H H' → H' p = some (.tup (List.replicate n.toNat v)) → Q (.ref p) H'
end
end L2
namespace L2
open PySem PySem.Spec PyProof.Rows
section
variable {k : Nat} {cap : List Nat} {g : TG} {tt : TT} {te : TE} {σ : St} {H : Hp} {Q : VK} {l : Addr}
end
noncomputable def Kp (H H' : Hp) : Prop := ∀ a o, H a = some o → H' a = some o ∨ ∃ xs ys, o = .lst xs ∧ H' a = some (.lst ys)
theorem Kp.of {H H' : Hp} (s : Same H H') : Kp H H' := fun a o h => .inl (s a o h)
theorem Kp.trans {H H1 H2 : Hp} (a : Kp H H1) (b : Kp H1 H2) : Kp H H2 := fun c o h => by
  rcases a c o h with r | ⟨xs, ys, rfl, r⟩
  · exact b c o r
  · rcases b c _ r with q | ⟨us, ws, e, q⟩
    · exact .inr ⟨xs, ys, rfl, q⟩
    · exact .inr ⟨xs, ws, rfl, q⟩
theorem Kp.but {H H' : Hp} {p : Addr} (h : Pot H p) (h' : Pot H' p) (b : But p H H') : Kp H H' := fun a o e => by
  by_cases z : a = p
  · subst z
    obtain ⟨i, j, e1, _⟩ := h
    obtain ⟨i', j', e2, _⟩ := h'
    rw [e1] at e
    cases e
    exact .inr ⟨_, _, rfl, e2⟩
  · exact .inl (b a o e z)
theorem Kp.lst {H : Hp} {l : Addr} {xs ys : List V} (e : H l = some (.lst xs)) : Kp H (upd H l (.lst ys)) := fun a o h => by
  by_cases z : a = l
  · subst z; rw [e] at h; cases h; exact .inr ⟨_, _, rfl, upd_same⟩
  · exact .inl (by rw [upd_ne z]; exact h)
theorem Kp.tup {H H' : Hp} (k : Kp H H') {a : Addr} {xs : List V} (h : H a = some (.tup xs)) : H' a = some (.tup xs) := by
  rcases k a _ h with r | ⟨_, _, e, _⟩
  · exact r
  · cases e
structure Tg (H : Hp) (v : V) (k : Kd) : Prop where
  is : IsK H v k
  few : ∀ x, v = .str x → x.length ≤ 1000000
theorem Tg.kp {H H' : Hp} {v : V} {k : Kd} (t : Tg H v k) (s : Kp H H') : Tg H' v k := by
  refine ⟨?_, t.few⟩
  have h := t.is
  cases k with
  | non => exact h
  | bl => exact h
  | int => exact h
  | str => exact h
  | lst =>
    obtain ⟨a, xs, rfl, e⟩ := h
    rcases s _ _ e with r | ⟨_, ys, _, r⟩
    · exact ⟨a, xs, rfl, r⟩
    · exact ⟨a, ys, rfl, r⟩
  | tup => obtain ⟨a, xs, rfl, e⟩ := h; exact ⟨a, xs, rfl, s.tup e⟩
  | dct =>
    obtain ⟨a, xs, ep, rfl, e⟩ := h
    rcases s _ _ e with r | ⟨_, _, z, _⟩
    · exact ⟨a, xs, ep, rfl, r⟩
    · cases z
theorem Tg.same {H H' : Hp} {v : V} {k : Kd} (t : Tg H v k) (s : Same H H') : Tg H' v k := t.kp (.of s)
noncomputable def tupOf (H : Hp) : V → Option (List V)
  | .ref a => match H a with | some (.tup xs) => some xs | _ => none
  | _ => none
theorem tupOf_at {H : Hp} {a : Addr} {xs : List V} (h : H a = some (.tup xs)) : tupOf H (.ref a) = some xs := by unfold tupOf; simp only [h]
theorem Tg.tup {H : Hp} {v : V} {k : Kd} (t : Tg H v k) : (k = .tup ∧ ∃ a xs, v = .ref a ∧ H a = some (.tup xs) ∧ tupOf H v = some xs) ∨ (k ≠ .tup ∧ tupOf H v = none) := by
  have h := t.is
  cases k with
  | non => cases (show v = .non from h); exact .inr ⟨(fun z => nomatch z), rfl⟩
  | bl => obtain ⟨_, rfl⟩ := h; exact .inr ⟨(fun z => nomatch z), rfl⟩
  | int => obtain ⟨_, rfl⟩ := h; exact .inr ⟨(fun z => nomatch z), rfl⟩
  | str => obtain ⟨_, rfl⟩ := h; exact .inr ⟨(fun z => nomatch z), rfl⟩
  | lst => obtain ⟨a, xs, rfl, e⟩ := h; exact .inr ⟨(fun z => nomatch z), by unfold tupOf; simp only [e]⟩
  | tup => obtain ⟨a, xs, rfl, e⟩ := h; exact .inl ⟨rfl, a, xs, rfl, e, tupOf_at e⟩
  | dct => obtain ⟨a, xs, ep, rfl, e⟩ := h; exact .inr ⟨(fun z => nomatch z), by unfold tupOf; simp only [e]⟩
theorem Tg.tup_kp {H H' : Hp} {v : V} {k : Kd} (t : Tg H v k) (s : Kp H H') : tupOf H' v = tupOf H v := by
  rcases t.tup with ⟨rfl, a, xs, rfl, e, e2⟩ | ⟨n, e⟩
  · rw [e2]; exact tupOf_at (s.tup e)
  · rw [e]
    rcases (t.kp s).tup with ⟨z, _⟩ | ⟨_, e'⟩
    · exact absurd z n
    · exact e'
noncomputable def AnyD : Nat → Hp → V → Prop
  | 0, H, v => ∃ k, Tg H v k
  | n + 1, H, v => (∃ k, Tg H v k) ∧ ∀ xs, tupOf H v = some xs → xs.length ≤ 1000 ∧ ∀ x ∈ xs, AnyD n H x
theorem AnyD.tg : ∀ {n : Nat} {H : Hp} {v : V}, AnyD n H v → ∃ k, Tg H v k
  | 0, _, _, h => h
  | _ + 1, _, _, h => h.1
theorem AnyD.kp : ∀ {n : Nat} {H H' : Hp} {v : V}, AnyD n H v → Kp H H' → AnyD n H' v
  | 0, _, _, _, ⟨k, t⟩, s => ⟨k, t.kp s⟩
  | n + 1, _, _, _, ⟨⟨k, t⟩, h⟩, s => ⟨⟨k, t.kp s⟩, fun xs e => by
      rw [t.tup_kp s] at e
      exact ⟨(h xs e).1, fun x hx => AnyD.kp ((h xs e).2 x hx) s⟩⟩
noncomputable def Any (H : Hp) (v : V) : Prop := ∀ n, AnyD n H v
theorem Any.kp {H H' : Hp} {v : V} (h : Any H v) (s : Kp H H') : Any H' v := fun n => (h n).kp s
end L2
set_option Elab.async false
set_option linter.all false
set_option maxRecDepth 100000
set_option maxHeartbeats 4000000
namespace L2
open PySem PySem.Spec PyProof.Rows
section
variable {X : Cx} {es : List Expr} {te : TE} {t : TA}
theorem pa_c {a b c} (ha : PE X (.Constant a b c) te) (hr : PA X es t) : PA X (.Constant a b c :: es) (tCons te t) := pa_cons ha hr rfl
end
section
variable {X : Cx} {elt tg iter : Expr} {ifs : List Expr} {scope : Scope} {pos : Pos} {wi : TI} {g : TG} {tt : TT} {te : TE} {N : List Str} {k : Nat} {cap : List Nat}
theorem ps_comp {iy : Nat} {y : Str} {py spos : Pos} (hc : X.calm = true) (hNd : X.N.Nodup) (hiy : X.N[iy]? = some y) (hy : X.env.scope.names.lookup y = some .local)
    (S : CompScope X scope N k cap) (hi : PI X tg iter wi) (hg : ∀ c, PG (cxComp X scope N c) tg g) (ht : ∀ c, PTs (cxComp X scope N c) ifs tt) (he : ∀ c, PE (cxComp X scope N c) elt te)
    (hsw : swapsWith (.ListComp elt [⟨tg, iter, ifs, 0⟩] scope pos) (some (.Name y py)) spos.line X.env = pure true)
    (hs : ∀ x, foldedSetIterable iter X.env x = pure x := by intro _; rfl) : PS X (.Assign [.Name y py] (.ListComp elt [⟨tg, iter, ifs, 0⟩] scope pos) spos) (tAsg (tComp wi k cap g tt te) (gName iy)) := by
  intro pins s σ H D I h
  rw [exec_Assign_Name_used _ _ _ _ hsw]
  refine wpAny_bind (wpAny_standAt (wpAny_bind ?_))
  obtain ⟨cl, hclos, hcl1, hcl2⟩ := closureFor_ok (scope := scope) (env := X.env) (fun p hp hf => I.ok.has p.1 (S.free p hp hf))
  show wpAny _ X.A (do let _ ← comprehension (.ListComp elt [⟨tg, iter, ifs, 0⟩] scope pos) scope X.env _ (newList []) false (eval iter X.env) (some (assign (.Name y py) X.env))) _ _ s
  refine wpAny_bind (wpAny_mono (wpAny_comprehension_free (use := some (assign (.Name y py) X.env)) (Q := fun _ s' => SP X pins D .next s') rfl hs hclos S.kind S.names (thn (hi pins s σ H _ I h) fun v s1 h1 => thn h1 fun itv s2 h2 => ?_)) (fun _ s' hq => wpAny_pure (wpAny_pure hq)) fun _ _ e => e)
  obtain ⟨it, fp, tn, J, H2, e, I2, T, st2, f2, q2⟩ := h2
  subst e
  obtain ⟨W, ⟨m0, w0⟩, turn⟩ := q2 s2.heap.objs.size (I2.hok.fresh (Nat.le_refl _))
  have hob : ∀ b ∈ fp, b < s2.heap.objs.size := fun b hb => let ⟨o, e, _⟩ := T.obj _ _ st2 b hb; Heap.lt_size e
  refine wpAny_newObj_type (wpAny_newFunctionEnv S.cell (by intro y hy; simp at hy) (fun h₁ hns₁ hsb₁ => ?_) S.kind)
  dsimp only at hns₁ hsb₁ ⊢
  generalize hHH : s2.heap.push { cls := .type "list", dict := none, data := .seq ([] : List Value).toArray } = HH at hns₁ hsb₁ ⊢
  have hCC : HH.objs.size = s2.heap.objs.size + 1 := by rw [← hHH, Heap.size_push]
  have old : ∀ b o, s2.heap.get? b = some o → h₁.get? b = some o := fun b o e => hsb₁.extBut b o (Nat.ne_of_lt (hCC ▸ Nat.lt_succ_of_lt (Heap.lt_size e))) (Heap.get?_push_of_some _ (hHH ▸ Heap.get?_push_of_some _ e))
  have hD : h₁.get? s2.heap.objs.size = some { cls := .type "list", data := .seq #[] 0 } := hsb₁.extBut _ _ (Nat.ne_of_lt (hCC ▸ Nat.lt_succ_self _)) (Heap.get?_push_of_some _ (hHH ▸ Heap.get?_push_size _ rfl))
  have I4 := fun tk => compInv (tk := tk) S I2 hcl1 hcl2 hCC f2 hob old hD hns₁
  have X' := cxComp X scope N ⟨cl, HH.objs.size, s2, H2, fp⟩
  have stat : ∀ {H' : Hp}, (∀ b ∈ fp, H' b = none) → ∀ b ∈ fp, FpOk (cxComp X scope N ⟨cl, HH.objs.size, s2, H2, fp⟩) [] H' b := fun hn b hb =>
    ⟨hn b hb, Nat.ne_of_lt (hCC ▸ Nat.lt_succ_of_lt (hob b hb)), (compOk S I2 hcl1 hcl2 (hCC ▸ Nat.le_succ _) f2 hob).exfs b hb, .inl hb, fun x c e => (f2 b hb).2.2.2.2.1 x c (hcl1 x c e), fun p hp => absurd (show p ∈ ([] : List (Addr × Obj)) from hp) (by simp)⟩
  have loop : ∀ s₃ : Shared, s₃ = { s2 with heap := h₁, toks := s2.toks + ([] : List (Str × Value)).length } →
      codeAny (model X.prog X.w) X.A (.compLoop (.ListComp elt [⟨tg, iter, ifs, 0⟩] scope pos) 0 (.ref it) (.ref s2.heap.objs.size) (compEnvC scope cl HH.objs.size X.env))
        (compPost (model X.prog X.w) X.A X.xe (some (assign (.Name y py) X.env)) (fun _ s' => SP X pins D .next s') (.ref s2.heap.objs.size) HH.objs.size) s₃ := by
    rintro s₃ rfl
    refine compLoopT (fun n s' => ∃ i σ' H', Inv (cxComp X scope N ⟨cl, HH.objs.size, s2, H2, fp⟩) [] σ' H' s' ∧ tn i s'.heap ∧ (∀ b ∈ fp, H' b = none) ∧ W i n σ' H') ?_ m0
      ⟨0, capSt k cap σ, _, I4 _, T.keep _ _ _ st2 fun b _ o e => old b o e, fun b hb => by rw [upd_ne (Nat.ne_of_lt (hob b hb))]; exact (f2 b hb).1, w0⟩
    rintro n s3 ⟨i, σ3, H3, I3, st3, fr3, w3⟩
    rcases turn i n σ3 H3 w3 with ⟨stop, qn⟩ | ⟨go, NN, hN, step⟩
    · refine thn (T.done (cxComp X scope N ⟨cl, HH.objs.size, s2, H2, fp⟩) rfl rfl rfl hc i [] s3 σ3 H3 _ I3 (stat fr3) st3 stop) fun r s4 ⟨hr, J4⟩ => ?_
      subst hr
      obtain ⟨m, hn, _⟩ := J4.loc
      obtain ⟨oC, es, ep, hoC, hdC, rC⟩ := hn
      have ltC : ∀ b o, s2.heap.get? b = some o → b ≠ HH.objs.size := fun b o e => Nat.ne_of_lt (hCC ▸ Nat.lt_succ_of_lt (Heap.lt_size e))
      have szC : s2.heap.objs.size ≤ HH.objs.size := hCC ▸ Nat.le_succ _
      have u := J4.base
      have I4x : Inv X pins σ H3 s4 := I2.call' (ch := fp) J4.os u J4.hok J4.bare fun b hb => by
        obtain ⟨_, f1, _, f3, f4, f5⟩ := f2 b hb
        exact ⟨f3, f1, f4, f5⟩
      have lC : HH.objs.size ≠ X.env.locals := Nat.ne_of_gt (Nat.lt_of_lt_of_le I2.lt szC)
      have I4p : Inv X ((HH.objs.size, oC) :: pins) σ H3 s4 := I4x.pins_of fun p hp => by
        rcases List.mem_cons.mp hp with r | r
        · rw [r]
          exact ⟨hoC, J4.free, lC, I2.nofs szC, fun v z => by rw [hdC] at z; cases z⟩
        · exact I4x.pin p (List.mem_append_right _ r)
      show wpAny _ X.A (assign (.Name y py) X.env (.ref s2.heap.objs.size)) _ _ _
      refine wpAny_assign_Name (store_ok I4p hNd hiy (.inl hy) (v := .ref s2.heap.objs.size) rfl (fun s5 I5 => ?_) (.inr hy))
      have hC5 := I5.pin (HH.objs.size, oC) (List.mem_append_right _ List.mem_cons_self)
      refine ⟨m, ⟨oC, es, ep, hC5.1, hdC, rC⟩, fun h' hs' => ⟨_, H3, ?_, qn⟩⟩
      have I6 : Inv X pins (σ.set iy (some (.ref s2.heap.objs.size))) H3 s5 := I5.pins_of fun p hp => I5.pin p (List.mem_append_right _ (List.mem_cons_of_mem _ hp))
      refine I6.turned (it := HH.objs.size) (t' := s5.toks) (fun b o hb e => hs'.extBut b o hb e) J4.free lC (.inr (Nat.le_trans I2.sz szC)) (fun x c e => ?_) (fun p hp => ?_)
      · obtain ⟨v, q⟩ := I2.cell x c e
        exact Nat.ne_of_lt (Nat.lt_of_lt_of_le q.lt szC)
      · exact ltC p.1 p.2 (I2.pin p hp).1
    · refine thn (T.item (cxComp X scope N ⟨cl, HH.objs.size, s2, H2, fp⟩) rfl rfl rfl hc i [] s3 σ3 H3 _ I3 (stat fr3) st3 go) fun r s4 ⟨u, hr, h4⟩ => ?_
      subst hr
      refine thn h4 fun _ s5 ⟨x, H5, I5, r5, y5, st5, fr5⟩ => ?_
      have I5' := I5.pinned (stat fr5) (T.obj _ _ st5)
      have again : ∀ {s7 : Shared} {σ7 : St} {H7 : Hp}, Inv (cxComp X scope N ⟨cl, HH.objs.size, s2, H2, fp⟩) ([] ++ pinsAt fp s5.heap) σ7 H7 s7 → NN σ7 H7 →
          ∃ m, m < n ∧ ∃ i σ' H', Inv (cxComp X scope N ⟨cl, HH.objs.size, s2, H2, fp⟩) [] σ' H' s7 ∧ tn i s7.heap ∧ (∀ b ∈ fp, H' b = none) ∧ W i m σ' H' := fun {s7 σ7 H7} I7 n7 => by
        obtain ⟨m', hm, w7⟩ := hN σ7 H7 n7
        refine ⟨m', hm, i + 1, σ7, H7, I7.unpinned, T.keep _ _ _ st5 fun b hb o e => (I7.pin (b, o) (List.mem_append_right _ (List.mem_append_right _ (mem_pinsAt hb e)))).1, fun b hb => ?_, w7⟩
        obtain ⟨o, e, d⟩ := T.obj _ _ st5 b hb
        exact (I7.pin (b, o) (List.mem_append_right _ (List.mem_append_right _ (mem_pinsAt hb e)))).2.1
      refine thn (hg _ _ s5 σ3 H5 x u _ I5' r5 (step x H5 y5)) fun _ s6 ⟨σ6, H6, I6, q6⟩ => ?_
      refine thn (ht _ _ s6 σ6 H6 _ I6 q6) fun b s7 ⟨H7, I7, q7⟩ => ?_
      cases b with
      | false => exact again I7 q7
      | true =>
        refine thn (he _ _ s7 σ6 H7 _ I7 q7) fun y s8 ⟨yv, H8, I8, r8, xs, hl, hz, n8⟩ => ?_
        refine thn (mt_append _ s8 σ6 H8 (.ref s2.heap.objs.size) [yv] (.ref s2.heap.objs.size) [y] (fun _ H9 => NN σ6 H9) I8 rfl (.cons r8 .nil) ⟨_, xs, yv, rfl, rfl, hl, hz, n8⟩) fun _ s9 ⟨_, H9, I9, _, q9⟩ => ?_
        exact again I9 q9
  exact codeAny_compStart_list (loop _ rfl) (T.self X.A 0 _ _ _ (T.keep _ _ _ st2 fun b _ o e => old b o e) (loop _ rfl))
theorem ps_setLC {i : Nat} {y : Str} {py spos : Pos} (N : List Str) (k : Nat) (cap : List Nat) (XN : List Str) (xs : Scope) (hc : X.calm = true) (hN : X.N = XN) (hx : X.env.scope = xs) (hNd : X.N.Nodup) (hiy : X.N[i]? = some y) (hy : X.env.scope.names.lookup y = some .local)
    (hi : PI X tg iter wi) (chk : compChk XN xs scope N k cap = true) (hg : ∀ c, PG (cxComp X scope N c) tg g) (ht : ∀ c, PTs (cxComp X scope N c) ifs tt) (he : ∀ c, PE (cxComp X scope N c) elt te)
    (hsw : swapsWith (.ListComp elt [⟨tg, iter, ifs, 0⟩] scope pos) (some (.Name y py)) spos.line X.env = pure true := by rfl)
    (hs : ∀ x, foldedSetIterable iter X.env x = pure x := by intro _; rfl) : PS X (.Assign [.Name y py] (.ListComp elt [⟨tg, iter, ifs, 0⟩] scope pos) spos) (tAsg (tComp wi k cap g tt te) (gName i)) :=
  ps_comp hc hNd hiy hy (compScope_of hN hx chk) hi hg ht he hsw hs
end
section
variable {X : Cx} {es : List Expr} {e : Expr} {te tk tv : TE} {t : TA}
structure PEw (X : Cx) (e : Expr) (t : TE) : Prop where
  h : PE X e t
structure PAw (X : Cx) (es : List Expr) (t : TA) : Prop where
  h : PA X es t
theorem ew (h : PE X e te) : PEw X e te := ⟨h⟩
theorem pw_nil : PAw X [] tNil := ⟨pa_nil⟩
theorem pw_c {a b c} (ha : PEw X (.Constant a b c) te) (hr : PAw X es t) : PAw X (.Constant a b c :: es) (tCons te t) := ⟨pa_c ha.h hr.h⟩
theorem ew_l {pos : Pos} (h : PAw X es t) : PEw X (.List es pos) (tLst t) := ⟨pe_lst h.h⟩
theorem ps_setWl {i : Nat} {x : Str} {pos' pos p3 : Pos} (hN : X.N.Nodup) (hi : X.N[i]? = some x) (hx : X.env.scope.names.lookup x = some .local) (he : PEw X (.List es pos) te) : PS X (.Assign [.Name x pos'] (.List es pos) p3) (tAsg te (gName i)) := ps_set hN hi (.inl hx) he.h rfl (.inr hx)
end
section
variable {X : Cx} {es : List Expr} {te : TE} {t : TA} {st : Stmt} {rest : List Stmt} {ts us : TS}
structure PSw (X : Cx) (st : Stmt) (t : TS) : Prop where
  h : PS X st t
structure PSsw (X : Cx) (st : List Stmt) (t : TS) : Prop where
  h : PSs X st t
theorem sw (h : PS X st ts) : PSw X st ts := ⟨h⟩
theorem ssw_cons (h1 : PSw X st ts) (h2 : PSsw X rest us) : PSsw X (st :: rest) (tSeq ts us) := ⟨pss_cons h1.h h2.h⟩
theorem ssw_one (h1 : PSw X st ts) : PSsw X [st] ts := ⟨pss_one h1.h⟩
theorem sw_setWl {i : Nat} {x : Str} {pos' pos p3 : Pos} (hN : X.N.Nodup) (hi : X.N[i]? = some x) (hx : X.env.scope.names.lookup x = some .local) (he : PEw X (.List es pos) te) : PSw X (.Assign [.Name x pos'] (.List es pos) p3) (tAsg te (gName i)) := ⟨ps_setWl hN hi hx he⟩
theorem boxed {body : List Stmt} {D : Ends} {σ : St} {H : Hp} (h : ∃ t, PSsw X body t ∧ t D σ H) : ∃ t, PSs X body t ∧ t D σ H := let ⟨t, a, b⟩ := h; ⟨t, a.h, b⟩
end
end L2
set_option Elab.async false
set_option linter.all false
set_option maxRecDepth 100000
set_option maxHeartbeats 4000000
namespace L2
open PySem PySem.Spec PyProof.Rows
section
variable {X : Cx} {pos : Pos} {k : Nat} {a b e : Expr} {es rest : List Expr} {te ta tb : TE} {t : Str → TE}
theorem op_mulB : OpR X (binaryOp .Mult) (rI IntMulOk fun i j => .int (i * j)) := opI fun _ _ _ _ _ _ _ hc q => mul_int q hc
noncomputable def jNil : Str → TE := fun acc _ H Q => acc.length ≤ sizeLine ∧ Q (.str acc) H
noncomputable def jCons (te : TE) (t : Str → TE) : Str → TE := fun acc σ H Q => te σ H fun v H1 => ∃ y, v = .str y ∧ (acc ++ y).length ≤ sizeLine ∧ t (acc ++ y) σ H1 Q
noncomputable def tFS (t : Str → TE) : TE := t Str.empty
noncomputable def tFmtS (te : TE) : TE := fun σ H Q => te σ H fun v H1 => ∃ y, v = .str y ∧ y.length ≤ sizeLine ∧ Q (.str y) H1
noncomputable def tFmtI (te : TE) : TE := fun σ H Q => te σ H fun v H1 => ∃ i, v = .int i ∧ i.natAbs.log2 < 1920 ∧ Q (.str (toString i)) H1
noncomputable def tOrS (ta tb : TE) : TE := fun σ H Q => ta σ H fun x H1 => ∃ y, x = .str y ∧ y.length ≤ sizeLine ∧ if ((y.length : Int) != 0) = true then Q (.str y) H1 else tb σ H1 Q
noncomputable def rNeL (K : PySem.W.Frag) : R2 := fun x y H Q => ∃ a b xs ys, x = .ref a ∧ y = .ref b ∧ SqL K H a xs ∧ SqL K H b ys ∧ (xs.length = ys.length → xs.all flatV = true ∧ ys.all flatV = true) ∧ Q (.bl (!eqLV xs ys)) H
theorem neL (K : PySem.W.Frag) (hr : Room k X.A) (hK : X.K = K := by rfl) : OpR X (compareOp .NotEq) (rNeL K) := by
  subst hK
  intro pins s σ H x y v u Q I rx ry h
  obtain ⟨a, b, xs, ys, rfl, rfl, ha, hb, hf, q⟩ := h
  cases rx
  cases ry
  obtain ⟨its, r1, p1, _⟩ := I.list ha
  obtain ⟨its2, r2, p2, _⟩ := I.list hb
  have l1 := r1.length
  have l2 := r2.length
  by_cases e : xs.length = ys.length
  · obtain ⟨f1, f2⟩ := hf e
    refine SeqAt.RcNeAt.lists (e := fun j => eqV ((xs[j]?).getD .non) ((ys[j]?).getD .non)) p1.isList p2.isList (by simp; omega) hr.units0 (fun j h1 h2 => ?_) _ _ _ _ ?_
    · have g1 : its[j]? = some (its.toArray[j]) := by simp at h1 ⊢
      have g2 : its2[j]? = some (its2.toArray[j]) := by simp at h2 ⊢
      obtain ⟨x, ex, rx⟩ := r1.get' g1
      obtain ⟨y, ey, ry⟩ := r2.get' g2
      rw [ex, ey]
      exact eqAt_V rx ry (List.all_eq_true.mp f1 _ (List.mem_of_getElem? ex)) (List.all_eq_true.mp f2 _ (List.mem_of_getElem? ey))
    · have e1 : its.toArray.size = xs.length := by simp; omega
      rw [e1, eqLV_range e]
      exact ⟨.bl _, H, I, rfl, q⟩
  · refine SeqAt.RcNeAt.lists_lengths p1.isList p2.isList (by simp; omega) hr.units0 _ _ _ _ ?_
    rw [eqLV_len e] at q
    exact ⟨.bl true, H, I, rfl, q⟩
end
noncomputable def Pur (H : Hp) (p g : Addr) : Prop := ∃ (xs : List Int) (s c : Int), H p = some (.lst [.ref g, .int s, .int c]) ∧ H g = some (.lst (xs.map V.int)) ∧ p ≠ g
noncomputable def Fr (p g : Addr) (H H' : Hp) : Prop := ∀ b o, H b = some o → b ≠ p → b ≠ g → H' b = some o
theorem Fr.refl {p g : Addr} {H : Hp} : Fr p g H H := fun _ _ h _ _ => h
theorem Fr.trans {p g : Addr} {H H1 H2 : Hp} (a : Fr p g H H1) (b : Fr p g H1 H2) : Fr p g H H2 := fun c o h n m => b c o (a c o h n m) n m
theorem Fr.of {p g : Addr} {H H1 : Hp} (a : Same H H1) : Fr p g H H1 := fun c o h _ _ => a c o h
theorem Fr.new {p g l : Addr} {H H1 : Hp} {o : HO} (f : Fr p g H H1) (n : H1 l = none) : Fr p g H (upd H1 l o) := f.trans (.of (Same.upd n))
theorem Pur.same {H H' : Hp} {p g : Addr} (h : Pur H p g) (s : Same H H') : Pur H' p g := let ⟨xs, i, c, e1, e2, n⟩ := h; ⟨xs, i, c, s _ _ e1, s _ _ e2, n⟩
theorem Pur.upd {H : Hp} {p g l : Addr} {o : HO} (h : Pur H p g) (h1 : p ≠ l) (h2 : g ≠ l) : Pur (upd H l o) p g := let ⟨xs, i, c, e1, e2, n⟩ := h; ⟨xs, i, c, by rw [upd_ne h1]; exact e1, by rw [upd_ne h2]; exact e2, n⟩
theorem Pur.new {H : Hp} {p g l : Addr} {o : HO} (h : Pur H p g) (n : H l = none) : Pur (L2.upd H l o) p g := h.same (Same.upd n)
theorem Pur.neg {H : Hp} {p g l : Addr} (h : Pur H p g) (n : H l = none) : g ≠ l := let ⟨_, _, _, _, e, _⟩ := h; ne_of_none e n
theorem Fr.kp {H H' : Hp} {p g : Addr} (h : Pur H p g) (h' : Pur H' p g) (f : Fr p g H H') : Kp H H' := fun a o e => by
  obtain ⟨xs, s, c, e1, e2, n⟩ := h
  obtain ⟨xs', s', c', e1', e2', n'⟩ := h'
  by_cases z : a = p
  · subst z
    rw [e1] at e; cases e
    exact .inr ⟨_, _, rfl, e1'⟩
  · by_cases z2 : a = g
    · subst z2
      rw [e2] at e; cases e
      exact .inr ⟨_, _, rfl, e2'⟩
    · exact .inl (f a o e z z2)
section
variable {k : Nat} {cap : List Nat} {gg : TG} {tt : TT} {te : TE} {σ : St} {H : Hp} {Q : VK} {l : Addr}
end
section
variable {k : Nat} {cap : List Nat} {g : TG} {tt : TT} {te : TE} {σ : St} {H : Hp} {Q : VK} {l : Addr}
end
end L2
set_option Elab.async false
set_option linter.all false
set_option maxRecDepth 100000
set_option maxHeartbeats 4000000
namespace L2
open PySem PySem.Spec PyProof.Rows
noncomputable def LtAt (A : Around) (s : Shared) (x y : Value) (c : Bool) : Prop :=
  ∀ (prog : Program) (w : World) (E : Value → Shared → Prop) (Q : Value → Shared → Prop), Q (.bool c) s → wpAny (model prog w) A (richCompare .Lt x y) Q E s
inductive LexR (A : Around) (s : Shared) (fin : Bool) : List (Value × Value) → Bool → Prop
  | done : LexR A s fin [] fin
  | same {p q : Value} {r : List (Value × Value)} {c : Bool} : SeqAt.EqAt A s p q true → LexR A s fin r c → LexR A s fin ((p, q) :: r) c
  | less {p q : Value} {r : List (Value × Value)} {c : Bool} : SeqAt.EqAt A s p q false → LtAt A s p q c → LexR A s fin ((p, q) :: r) c
section
open PySem.SeqAt
open PySem.AutoSeq1 (wpAny_loadPart')
open PySem.MeetsSeq PySem.MeetsSeq2 PySem.MeetsSeq3
theorem lt_lex (l b : Addr) (us vs : Array Value) (n m : Nat) (d1 d2 : Option Addr) (k1 k2 : Array (Option Value)) (c : Bool) :
    Meets (Builtin.«tuple.__lt__» ⟨[.ref l, .ref b], []⟩) (fun A R s => s.heap.get? l = some ⟨.type "tuple", d1, .seq us n, k1⟩ ∧ s.heap.get? b = some ⟨.type "tuple", d2, .seq vs m, k2⟩ ∧
      LexR A.in1 s (decide (us.size < vs.size)) (us.toList.zip vs.toList) c ∧ R (.ok (.ret (.bool c))) s) :=
  .of_wp fun prog w A R s h => by
    obtain ⟨hp, gg, dd, tk, os⟩ := s
    obtain ⟨hl, hb, hx, hr⟩ := h
    have f2 := AutoSeq1.sub_tuple_tuple
    wp_walk using wpAny_loadPart' hl, wpAny_loadPart' hb, wpAny_forIn_list _ (fun rest acc s' => acc.1 = none ∧ s' = ⟨hp, gg, dd, tk, os⟩ ∧ LexR A.in1 ⟨hp, gg, dd, tk, os⟩ (decide (us.size < vs.size)) rest c) _
    case turn =>
      rintro ⟨y, x⟩ rest acc s' ⟨ha, rfl, hx'⟩
      cases hx' with
      | same he hrest =>
        refine wpAny_bind (he prog w _ _ ?_)
        wp_walk
        exact ⟨rfl, rfl, hrest⟩
      | less he hlt =>
        refine wpAny_bind (he prog w _ _ ?_)
        have hq := hlt prog w
        wp_walk using hq
        exact ⟨_, rfl, by simpa using hr⟩
    case fin =>
      rintro ⟨b1, b2⟩ s' ⟨ha, rfl, hx'⟩
      simp only at ha
      subst ha
      cases hx'
      wp_walk
      exact ⟨_, rfl, by simpa [Builtin.Tuple.tupleCompareSizes] using hr⟩
    case h => exact ⟨rfl, rfl, hx⟩
end
theorem lt_tup {A : Around} {s : Shared} {l b : Addr} {us vs : Array Value} {c : Bool} (hl : IsTup s.heap l us) (hb : IsTup s.heap b vs) (hu : A.units < cLine) (hx : LexR A.in1 s (decide (us.size < vs.size)) (us.toList.zip vs.toList) c) :
    LtAt A s (.ref l) (.ref b) c := by
  intro prog w E Q q
  obtain ⟨⟨c1, d1, t1, k1⟩, g1, e1, n, r1⟩ := id hl
  obtain ⟨⟨c2, d2, t2, k2⟩, g2, e2, m, r2⟩ := id hb
  simp only at e1 r1 e2 r2
  subst e1 r1 e2 r2
  exact richCompare_meets_room (op := .Lt) ⟨_, g1, rfl⟩ ⟨_, g2, rfl⟩ PySem.F.slot_tuple_lt PySem.F.entry_tuple_lt (PySem.F.args_tuple_lt_2 _ _) (lt_lex l b us vs n m d1 d2 k1 k2 c) ⟨g1, g2, hx, (fun x => nomatch x), q⟩ hu
noncomputable def CmpD (K : PySem.W.Frag) (H : Hp) : Nat → V → V → Prop
  | 0, x, y => (∃ i j, x = .str i ∧ y = .str j) ∨ ∃ i j, x = .int i ∧ y = .int j
  | n + 1, x, y => CmpD K H n x y ∨ ∃ a b xs ys, x = .ref a ∧ y = .ref b ∧ SqT K H a xs ∧ SqT K H b ys ∧ ∀ (i : Nat) u v, xs[i]? = some u → ys[i]? = some v → CmpD K H n u v
section
variable {X : Cx} {pins : List (Addr × Obj)} {σ : St} {H : Hp} {s : Shared}
end
section
open PySem.W
noncomputable def Al {α : Type} (n : Nat) (P : α → Prop) : KasT α → Prop
  | .ret a => P a
  | .ask i j k => i < n ∧ j < n ∧ ∀ b, Al n P (k b)
theorem Al.bind {α β : Type} {n : Nat} {P : α → Prop} {R : β → Prop} {f : α → KasT β} : ∀ {t : KasT α}, Al n P t → (∀ a, P a → Al n R (f a)) → Al n R (t.bind f)
  | .ret a, h, hf => hf a h
  | .ask _ _ _, h, hf => ⟨h.1, h.2.1, fun b => Al.bind (h.2.2 b) hf⟩
theorem Al.run {α : Type} {n : Nat} {P : α → Prop} {cmp : Nat → Nat → (Bool → Shared → Prop) → Shared → Prop} {G : α → Shared → Prop} {s : Shared}
    (hc : ∀ i j (C : Bool → Shared → Prop), i < n → j < n → (∀ b, C b s) → cmp i j C s) (hg : ∀ a, P a → G a s) : ∀ {t : KasT α}, Al n P t → t.kasWp cmp G s
  | .ret a, h => hg a h
  | .ask i j _, h => hc i j _ h.1 h.2.1 fun b => Al.run hc hg (h.2.2 b)
noncomputable def Rng (n : Nat) (p : Array Nat) : Prop := p.Perm (List.toArray (List.range n))
theorem Rng.lt {n : Nat} {p : Array Nat} (h0 : 0 < n) (h : Rng n p) (i : Nat) : p.getD i 0 < n := by
  by_cases hi : i < p.size
  · have e : p.getD i 0 = p[i] := by simp [Array.getD, hi]
    rw [e]
    have hm : p[i] ∈ p := Array.getElem_mem hi
    have := (h.mem_iff).mp hm
    simpa using this
  · have e : p.getD i 0 = 0 := by simp [Array.getD, hi]
    omega
theorem Rng.rev {n : Nat} {p : Array Nat} (h : Rng n p) (i j : Nat) : Rng n (kas_rev p i j) := (mirror_perm p i j ((j - i) / 2)).trans h
theorem Rng.bub {n : Nat} {p : Array Nat} (h : Rng n p) (i j : Nat) : Rng n (bubble p i j) := (bubble_perm p i j).trans h
theorem al_asc {n : Nat} {p : Array Nat} (h0 : 0 < n) (h : Rng n p) : ∀ f m, Al n (fun _ => True) (kas_asc p f m)
  | 0, m => trivial
  | f + 1, m => ⟨h.lt h0 _, h.lt h0 _, fun b => by
    cases b with
    | true => exact trivial
    | false => exact al_asc h0 h f (m + 1)⟩
theorem al_desc {n : Nat} (h0 : 0 < n) : ∀ f (p : Array Nat) m q, Rng n p → Al n (fun r : Array Nat × Nat × Nat => Rng n r.1) (kas_desc f p m q)
  | 0, p, m, q, h => h
  | f + 1, p, m, q, h => ⟨h.lt h0 _, h.lt h0 _, fun b => by
    cases b with
    | true =>
      show Al n _ (if q > 0 then _ else _)
      split
      · exact al_desc h0 f _ _ _ (h.rev _ _)
      · exact al_desc h0 f _ _ _ h
    | false =>
      refine ⟨h.lt h0 _, h.lt h0 _, fun d => ?_⟩
      cases d with
      | true => exact h
      | false => exact al_desc h0 f _ _ _ h⟩
theorem al_tail3 {n : Nat} (h0 : 0 < n) {p : Array Nat} (h : Rng n p) (m k : Nat) : Al n (fun r : Nat × Array Nat => Rng n r.2) (kas_tail3 m k p) :=
  (al_asc h0 (h.rev 0 m) _ _).bind fun _ _ => h.rev 0 m
theorem al_descPart {n : Nat} (h0 : 0 < n) {p : Array Nat} (h : Rng n p) (m k : Nat) : Al n (fun r : Nat × Array Nat => Rng n r.2) (kas_descPart m k p) := by
  refine (al_desc h0 _ _ _ _ h).bind fun r hr => ?_
  split
  · exact al_tail3 h0 (hr.rev _ _) _ _
  · exact al_tail3 h0 hr _ _
theorem al_count {n : Nat} (h0 : 0 < n) {p : Array Nat} (h : Rng n p) (k : Nat) : Al n (fun r : Nat × Array Nat => Rng n r.2) (kas_count k p) := by
  refine (al_asc h0 h _ _).bind fun m _ => ?_
  split
  · exact h
  · split
    · refine ⟨h.lt h0 _, h.lt h0 _, fun b => ?_⟩
      cases b with
      | true => exact h
      | false => exact al_descPart h0 (h.rev _ _) _ _
    · exact al_descPart h0 h _ _
theorem al_place {n : Nat} (h0 : 0 < n) {p : Array Nat} (h : Rng n p) (k : Nat) : ∀ f l r, Al n (fun _ => True) (kas_place p k f l r)
  | 0, _, _ => trivial
  | f + 1, l, r => by
    unfold kas_place
    split
    · exact trivial
    · refine ⟨h.lt h0 _, h.lt h0 _, fun b => ?_⟩
      cases b with
      | true => exact al_place h0 h k f _ _
      | false => exact al_place h0 h k f _ _
theorem al_bin {n : Nat} (h0 : 0 < n) : ∀ f (p : Array Nat) k, Rng n p → Al n (Rng n) (kas_bin f p k)
  | 0, _, _, h => h
  | f + 1, p, k, h => (al_place h0 h k _ _ _).bind fun l _ => al_bin h0 f _ _ (h.bub _ _)
theorem al_sort {n : Nat} (h0 : 0 < n) : Al n (Rng n) (kas_sort n) := by
  refine (al_count h0 (show Rng n _ from Array.Perm.refl _) n).bind fun r hr => ?_
  split
  · exact al_bin h0 _ _ _ hr
  · exact hr
theorem Rng.perm {vs : List Value} {p : Array Nat} (h : Rng vs.length p) : (p.toList.map fun i => vs.getD i Value.none).Perm vs := by
  have h1 : p.toList.Perm (List.range vs.length) := by simpa using Array.perm_iff_toList_perm.mp h
  have h2 := h1.map fun i => vs.getD i Value.none
  have e : (List.range vs.length).map (fun i => vs.getD i Value.none) = vs := by
    apply List.ext_getElem
    · simp
    · intro i a1 a2
      simp [List.getElem?_eq_getElem a2]
  rw [e] at h2
  exact h2
end
section
open PySem.W
variable {prog : Program} {w : World} {A : Around} {E : Value → Shared → Prop} {s : Shared}
end
section
open PySem.W
variable {X : Cx} {pins : List (Addr × Obj)} {σ : St} {H : Hp} {s : Shared} {k : Nat}
theorem Vals.perm {ys : List V} {us ws : List Value} (p : us.Perm ws) : ∀ {ys : List V}, Vals ys ws → ∃ zs, zs.Perm ys ∧ Vals zs us := by
  induction p with
  | nil => intro ys r; exact ⟨ys, .refl _, r⟩
  | cons x p ih =>
    intro ys r
    cases r with
    | cons r1 rr =>
      obtain ⟨zs, h1, h2⟩ := ih rr
      exact ⟨_ :: zs, h1.cons _, .cons r1 h2⟩
  | swap x y l =>
    intro ys r
    cases r with
    | cons r1 rr =>
      cases rr with
      | cons r2 r3 => exact ⟨_ :: _ :: _, .swap .., .cons r2 (.cons r1 r3)⟩
  | trans p1 p2 i1 i2 =>
    intro ys r
    obtain ⟨zs, h1, h2⟩ := i2 r
    obtain ⟨ws, h3, h4⟩ := i1 h2
    exact ⟨ws, h3.trans h1, h4⟩
noncomputable def Led (K : PySem.W.Frag) (H : Hp) (F : V → List V) (y : V) : Prop := ∃ a n us, y = .ref a ∧ F y = .str n :: us ∧ SqT K H a (.str n :: us)
noncomputable def rSorted (K : PySem.W.Frag) : List V → Hp → VK → Prop := fun xs H Q => ∃ p ys, xs = [.ref p] ∧ SqL K H p ys ∧ ys.length < 64 ∧ ∃ F : V → List V, (∀ y ∈ ys, Led K H F y) ∧
  (∀ x ∈ ys, ∀ y ∈ ys, ∀ (i : Nat) u v, (F x)[i]? = some u → (F y)[i]? = some v → CmpD K H 1 u v) ∧ ∀ l out, out.Perm ys → H l = none → Q (.ref l) (upd H l (.lst out))
noncomputable def rInC (K : PySem.W.Frag) : R2 := fun x y H Q => ∃ p ys, y = .ref p ∧ SqL K H p ys ∧ (∀ z ∈ ys, CmpD K H 2 z x) ∧ ∀ b, Q (.bl b) H
end
end L2
set_option Elab.async false
set_option linter.all false
set_option maxRecDepth 100000
set_option maxHeartbeats 4000000
namespace HT
open PySem PySem.Spec PyProof.Rows
section
variable {prog : Program} {w : World} {A : Around} {E : Value → Shared → Prop} {s : Shared}
end
end HT
namespace L2
open PySem PySem.Spec PyProof.Rows
section
variable {X : Cx} {e st : Expr} {te ts : TE} {pos p2 : Pos}
theorem vals_pick {f : Nat → Nat} : ∀ (ms : List Nat) {ys : List V} {us : List Value}, Vals ys us → Vals (ms.filterMap fun m => ys[f m]?) (ms.filterMap fun m => us[f m]?)
  | [], _, _, _ => .nil
  | m :: ms, ys, us, r => by
    rw [List.filterMap_cons, List.filterMap_cons]
    cases ey : ys[f m]? with
    | none =>
      rw [Vals.none_of r ey]
      exact vals_pick ms r
    | some y =>
      obtain ⟨u, eu, ru⟩ := Vals.get r ey
      rw [eu]
      exact .cons ru (vals_pick ms r)
noncomputable def tBack (te ts : TE) : TE := fun σ H Q => te σ H fun x H1 => ∃ a xs, x = .ref a ∧ H1 a = some (.tup xs) ∧ ts σ H1 fun k H2 => k = .int (-1) ∧ H2 a = some (.tup xs) ∧ ∀ p zs, H2 p = none → zs.length ≤ xs.length → (∀ z ∈ zs, z ∈ xs) → Q (.ref p) (upd H2 p (.tup zs))
end
end L2
set_option Elab.async false
set_option linter.all false
set_option maxRecDepth 100000
set_option maxHeartbeats 4000000
namespace L2
open PySem PySem.Spec PyProof.Rows
section
variable {X : Cx}
theorem vals_of_strs : ∀ {us : List Value} {ss : List Str}, StrsAre us ss → Vals (ss.map V.str) us
  | [], _, .nil => .nil
  | _ :: _, _, .cons x t r => .cons ⟨t, rfl⟩ (vals_of_strs r)
noncomputable def rSortS (K : PySem.W.Frag) : List V → Hp → VK → Prop := fun xs H Q => ∃ p ss, xs = [.ref p] ∧ SqL K H p (ss.map V.str) ∧ ss.length < 64 ∧ ∀ l out, out.Perm ss → sortedS out = true → H l = none → Q (.ref l) (upd H l (.lst (out.map V.str)))
theorem sortedStr (K : PySem.W.Frag) (hK : X.K = K := by rfl) : CallR X (.builtin "sorted") (rSortS K) := by
  subst hK
  intro pins s σ H xs us Q I r ⟨p, ss, e, hq, h64, q⟩
  subst e
  obtain ⟨u, rfl, rx⟩ := vals1 r
  cases rx
  obtain ⟨vs, rv, pl, hz⟩ := I.list hq
  have hlen := rv.length
  rw [List.length_map] at hlen hz
  refine sorted_strs pl.isList (strs_of rv) (by omega) fun out ss' h1 h2 h3 => ?_
  obtain ⟨c, hat⟩ := sortedAll_at s.heap vs out
  exact ⟨.ref (s.heap.objs.size + 1), _, I.laid (t' := s.toks) (o := .lst (ss'.map V.str)) (fun b o e => sortedAll_old e) (Nat.le_succ _) ⟨by rw [List.length_map, h2.length_eq]; exact hz, out.toList, c, vals_of_strs h1, hat⟩, rfl, q _ ss' h2 h3 (I.hok.fresh (Nat.le_succ _))⟩
noncomputable def rLjust : V → List V → Hp → VK → Prop := fun x vs H Q => ∃ z n f, x = .str z ∧ vs = [.int n, .str f] ∧ PadOk n = true ∧ n ≤ 1000 ∧ f.length = 1 ∧ ∀ t : Str, t.length ≤ z.length + 1000 → Q (.str t) H
end
end L2
set_option Elab.async false
set_option linter.all false
set_option maxRecDepth 100000
set_option maxHeartbeats 4000000
namespace L2
open PySem PySem.Spec PyProof.Rows
noncomputable def ltV0 : V → V → Bool
  | .str a, .str b => decide (a.cps.toList < b.cps.toList)
  | .int a, .int b => decide (a < b)
  | _, _ => false
noncomputable def eqD (H : Hp) : Nat → V → V → Bool
  | 0, x, y => eqV x y
  | n + 1, x, y => match tupOf H x, tupOf H y with
    | some xs, some ys => (List.range (min xs.length ys.length)).all (fun j => eqD H n (xs.getD j .non) (ys.getD j .non)) && xs.length == ys.length
    | _, _ => eqV x y
noncomputable def lexW (fin : Bool) (eq lt : V → V → Bool) : List V → List V → Bool
  | x :: xs, y :: ys => if eq x y then lexW fin eq lt xs ys else lt x y
  | _, _ => fin
noncomputable def ltD (H : Hp) : Nat → V → V → Bool
  | 0, x, y => ltV0 x y
  | n + 1, x, y => match tupOf H x, tupOf H y with
    | some xs, some ys => lexW (decide (xs.length < ys.length)) (eqD H n) (ltD H n) xs ys
    | _, _ => ltV0 x y
noncomputable def CmpE (H : Hp) : Nat → V → V → Prop
  | 0, x, y => (∃ i j, x = .str i ∧ y = .str j) ∨ ∃ i j, x = .int i ∧ y = .int j
  | n + 1, x, y => ((∃ i j, x = .str i ∧ y = .str j) ∨ ∃ i j, x = .int i ∧ y = .int j) ∨ ∃ a b xs ys, x = .ref a ∧ y = .ref b ∧ H a = some (.tup xs) ∧ H b = some (.tup ys) ∧ ∀ (i : Nat) u v, xs[i]? = some u → ys[i]? = some v → CmpE H n u v
theorem eqD_flat {H : Hp} {n : Nat} {x y : V} (h : (∃ i j, x = .str i ∧ y = .str j) ∨ ∃ i j, x = .int i ∧ y = .int j) : eqD H n x y = eqV x y ∧ ltD H n x y = ltV0 x y := by
  cases n with
  | zero => exact ⟨rfl, rfl⟩
  | succ n =>
    rcases h with ⟨i, j, rfl, rfl⟩ | ⟨i, j, rfl, rfl⟩ <;> exact ⟨rfl, rfl⟩
section
variable {X : Cx} {pins : List (Addr × Obj)} {σ : St} {H : Hp} {s : Shared} {k : Nat}
theorem CmpE.flat {A : Around} {n : Nat} {x y : V} {v u : Value} (h : (∃ i j, x = .str i ∧ y = .str j) ∨ ∃ i j, x = .int i ∧ y = .int j) (r1 : RelV x v) (r2 : RelV y u) : SeqAt.EqAt A s v u (eqD H n x y) ∧ LtAt A s v u (ltD H n x y) := by
  rw [(eqD_flat h).1, (eqD_flat h).2]
  rcases h with ⟨i, j, rfl, rfl⟩ | ⟨i, j, rfl, rfl⟩
  · have e := eqAt_V (A := A) (s := s) r1 r2 rfl rfl
    obtain ⟨t, rfl⟩ := r1
    obtain ⟨t', rfl⟩ := r2
    exact ⟨e, fun prog w E Q q => PySem.P.lt_str q⟩
  · have e := eqAt_V (A := A) (s := s) r1 r2 rfl rfl
    obtain ⟨t, rfl⟩ := r1
    obtain ⟨t', rfl⟩ := r2
    exact ⟨e, fun prog w E Q q => PyProof.Rows.lt_int q⟩
end
theorem CmpE.kp {H H' : Hp} (s : Kp H H') : ∀ {n : Nat} {x y : V}, CmpE H n x y → CmpE H' n x y
  | 0, _, _, h => h
  | n + 1, _, _, .inl h => .inl h
  | n + 1, _, _, .inr ⟨a, b, xs, ys, e1, e2, ha, hb, k⟩ => .inr ⟨a, b, xs, ys, e1, e2, s.tup ha, s.tup hb, fun i u v h1 h2 => CmpE.kp s (k i u v h1 h2)⟩
theorem all_on {α : Type} {f g : α → Bool} : ∀ {l : List α}, (∀ j ∈ l, f j = g j) → l.all f = l.all g
  | [], _ => rfl
  | a :: l, h => by rw [List.all_cons, List.all_cons, h a List.mem_cons_self, all_on fun j hj => h j (List.mem_cons_of_mem _ hj)]
theorem lexW_congr {fin : Bool} {eq lt eq' lt' : V → V → Bool} : ∀ {xs ys : List V}, (∀ (i : Nat) u v, xs[i]? = some u → ys[i]? = some v → eq' u v = eq u v ∧ lt' u v = lt u v) → lexW fin eq' lt' xs ys = lexW fin eq lt xs ys
  | [], _, _ => by unfold lexW; rfl
  | _ :: _, [], _ => by unfold lexW; rfl
  | x :: xs, y :: ys, h => by
    unfold lexW
    rw [(h 0 x y rfl rfl).1, (h 0 x y rfl rfl).2, lexW_congr fun i u v a b => h (i + 1) u v a b]
theorem CmpE.keeps {H H' : Hp} (s : Kp H H') : ∀ {n : Nat} {x y : V}, CmpE H n x y → eqD H' n x y = eqD H n x y ∧ ltD H' n x y = ltD H n x y
  | 0, _, _, _ => ⟨rfl, rfl⟩
  | n + 1, x, y, h => by
    rcases h with h | ⟨a, b, xs, ys, rfl, rfl, ha, hb, k⟩
    · rw [(eqD_flat h).1, (eqD_flat h).2, (eqD_flat h).1, (eqD_flat h).2]; exact ⟨rfl, rfl⟩
    · have ih : ∀ (i : Nat) u v, xs[i]? = some u → ys[i]? = some v → eqD H' n u v = eqD H n u v ∧ ltD H' n u v = ltD H n u v := fun i u v h1 h2 => CmpE.keeps s (k i u v h1 h2)
      constructor
      · unfold eqD
        rw [tupOf_at ha, tupOf_at hb, tupOf_at (s.tup ha), tupOf_at (s.tup hb)]
        show ((List.range (min xs.length ys.length)).all _ && xs.length == ys.length) = ((List.range (min xs.length ys.length)).all _ && xs.length == ys.length)
        congr 1
        refine all_on fun j hj => ?_
        have hj := List.mem_range.mp hj
        have h1 : j < xs.length := by omega
        have h2 : j < ys.length := by omega
        rw [List.getD_eq_getElem?_getD, List.getD_eq_getElem?_getD, List.getElem?_eq_getElem h1, List.getElem?_eq_getElem h2]
        exact (ih j _ _ (List.getElem?_eq_getElem h1) (List.getElem?_eq_getElem h2)).1
      · unfold ltD
        rw [tupOf_at ha, tupOf_at hb, tupOf_at (s.tup ha), tupOf_at (s.tup hb)]
        exact lexW_congr ih
end L2
set_option Elab.async false
set_option linter.all false
set_option maxRecDepth 100000
set_option maxHeartbeats 4000000
namespace L2
open PySem PySem.Spec PyProof.Rows
section
open PySem.W
noncomputable def AlB {α : Type} (ans : Nat → Nat → Bool) (P : α → Prop) : KasT α → Prop
  | .ret a => P a
  | .ask i j k => AlB ans P (k (ans i j))
theorem AlB.bind {α β : Type} {ans : Nat → Nat → Bool} {P : α → Prop} {R : β → Prop} {f : α → KasT β} : ∀ {t : KasT α}, AlB ans P t → (∀ a, P a → AlB ans R (f a)) → AlB ans R (t.bind f)
  | .ret a, h, hf => hf a h
  | .ask i j k, h, hf => AlB.bind (t := k (ans i j)) h hf
theorem AlB.mono {α : Type} {ans : Nat → Nat → Bool} {P R : α → Prop} (hf : ∀ a, P a → R a) : ∀ {t : KasT α}, AlB ans P t → AlB ans R t
  | .ret a, h => hf a h
  | .ask i j k, h => AlB.mono hf (t := k (ans i j)) h
theorem AlB.run {α : Type} {n : Nat} {ans : Nat → Nat → Bool} {P R : α → Prop} {cmp : Nat → Nat → (Bool → Shared → Prop) → Shared → Prop} {G : α → Shared → Prop} {s : Shared}
    (hc : ∀ i j (C : Bool → Shared → Prop), i < n → j < n → C (ans i j) s → cmp i j C s) (hg : ∀ a, P a → R a → G a s) : ∀ {t : KasT α}, Al n P t → AlB ans R t → t.kasWp cmp G s
  | .ret a, h, h' => hg a h h'
  | .ask i j _, h, h' => hc i j _ h.1 h.2.1 (AlB.run hc hg (h.2.2 _) h')
variable (O : KeyOrd) (key : Nat → O.α)
noncomputable def Ky (p : Array Nat) (i : Nat) : O.α := key (p.getD i 0)
noncomputable def Upto (p : Array Nat) (k : Nat) : Prop := ∀ i j, i ≤ j → j < k → O.kle (Ky O key p i) (Ky O key p j)
noncomputable def Downto (p : Array Nat) (k : Nat) : Prop := ∀ i j, i ≤ j → j < k → O.kle (Ky O key p j) (Ky O key p i)
noncomputable abbrev anB (i j : Nat) : Bool := O.blt (key i) (key j)
variable {O} {key}
theorem Ky_of {p q : Array Nat} {i j : Nat} (h : p[i]? = q[j]?) : Ky O key p i = Ky O key q j := by
  unfold Ky
  rw [Array.getD_eq_getD_getElem?, Array.getD_eq_getD_getElem?, h]
theorem Ky_rev {p : Array Nat} {i j : Nat} (hj : j ≤ p.size) (k : Nat) : Ky O key (kas_rev p i j) k = if i ≤ k ∧ k < j then Ky O key p (i + j - 1 - k) else Ky O key p k := by
  have e := getElem?_mirror_all (xs := p) (i := i) hj k
  split
  · rename_i h; rw [if_pos h] at e; exact Ky_of e
  · rename_i h; rw [if_neg h] at e; exact Ky_of e
theorem rev_size (p : Array Nat) (i j : Nat) : (kas_rev p i j).size = p.size := mirror_size ..
theorem Ky_revE {p : Array Nat} {i j : Nat} (hj : j ≤ p.size) (he : ∀ k, i ≤ k → k < j → Ky O key p k = Ky O key p (j - 1)) (k : Nat) : Ky O key (kas_rev p i j) k = Ky O key p k := by
  rw [Ky_rev hj]
  split
  · rename_i h; rw [he _ (by omega) (by omega), he k h.1 h.2]
  · rfl
theorem Upto.more {p : Array Nat} {x : Nat} (h : Upto O key p x) (hx : 1 ≤ x) (hl : O.kle (Ky O key p (x - 1)) (Ky O key p x)) : Upto O key p (x + 1) := by
  intro i j hij hj
  by_cases h1 : j < x
  · exact h i j hij h1
  · have e : j = x := by omega
    subst e
    by_cases h2 : i = j
    · subst h2; exact KeyOrd.kle_refl _
    · exact KeyOrd.kle_trans (h i (j - 1) (by omega) (by omega)) hl
theorem Downto.more {p : Array Nat} {x : Nat} (h : Downto O key p x) (hx : 1 ≤ x) (hl : O.kle (Ky O key p x) (Ky O key p (x - 1))) : Downto O key p (x + 1) := by
  intro i j hij hj
  by_cases h1 : j < x
  · exact h i j hij h1
  · have e : j = x := by omega
    subst e
    by_cases h2 : i = j
    · subst h2; exact KeyOrd.kle_refl _
    · exact KeyOrd.kle_trans hl (h i (j - 1) (by omega) (by omega))
theorem b_asc {p : Array Nat} : ∀ (f m : Nat), 1 ≤ m → Upto O key p m → AlB (anB O key) (fun r => m ≤ r ∧ r ≤ m + f ∧ Upto O key p r ∧ (r = m + f ∨ O.klt (Ky O key p r) (Ky O key p (r - 1)))) (kas_asc p f m)
  | 0, m, _, h => ⟨Nat.le_refl _, Nat.le_refl _, h, .inl rfl⟩
  | f + 1, m, h1, h => by
    show AlB (anB O key) _ (if O.blt (Ky O key p m) (Ky O key p (m - 1)) = true then _ else _)
    cases e : O.blt (Ky O key p m) (Ky O key p (m - 1)) with
    | true =>
      rw [if_pos rfl]
      exact ⟨Nat.le_refl _, by omega, h, .inr e⟩
    | false =>
      rw [if_neg Bool.false_ne_true]
      refine (b_asc f (m + 1) (by omega) (h.more h1 e)).mono fun r ⟨a, b, c, d⟩ => ⟨by omega, by omega, c, ?_⟩
      rcases d with d | d
      · exact .inl (by omega)
      · exact .inr d
noncomputable def Eqs (O : KeyOrd) (key : Nat → O.α) (p : Array Nat) (m q : Nat) : Prop := q + 1 ≤ m ∧ ∀ i, m - (q + 1) ≤ i → i < m → Ky O key p i = Ky O key p (m - 1)
theorem Eqs.none {p : Array Nat} {m : Nat} (h : 1 ≤ m) : Eqs O key p m 0 := ⟨by omega, fun i h1 h2 => by rw [show i = m - 1 by omega]⟩
theorem b_desc : ∀ (f : Nat) (p : Array Nat) (m q : Nat), 1 ≤ m → m + f ≤ p.size → Downto O key p m → Eqs O key p m q → AlB (anB O key) (fun r : Array Nat × Nat × Nat => r.1.size = p.size ∧ m ≤ r.2.1 ∧ r.2.1 ≤ m + f ∧ Downto O key r.1 r.2.1 ∧ Eqs O key r.1 r.2.1 r.2.2) (kas_desc f p m q)
  | 0, p, m, q, _, _, h, he => ⟨rfl, Nat.le_refl _, Nat.le_refl _, h, he⟩
  | f + 1, p, m, q, h1, hz, h, he => by
    show AlB (anB O key) _ (if O.blt (Ky O key p m) (Ky O key p (m - 1)) = true then (if q > 0 then kas_desc f (kas_rev p (m - (q + 1)) m) (m + 1) 0 else kas_desc f p (m + 1) 0) else _)
    cases e : O.blt (Ky O key p m) (Ky O key p (m - 1)) with
    | true =>
      rw [if_pos rfl]
      have hd := h.more h1 (KeyOrd.kle_of_klt e)
      split
      · have ev : ∀ k, Ky O key (kas_rev p (m - (q + 1)) m) k = Ky O key p k := Ky_revE (by omega) he.2
        have hd' : Downto O key (kas_rev p (m - (q + 1)) m) (m + 1) := fun i j a b => by rw [ev, ev]; exact hd i j a b
        refine (b_desc f _ (m + 1) 0 (by omega) (by rw [rev_size]; omega) hd' (Eqs.none (by omega))).mono fun r ⟨a, b, c, d, z⟩ => ⟨by rw [a, rev_size], by omega, by omega, d, z⟩
      · exact (b_desc f p (m + 1) 0 (by omega) (by omega) hd (Eqs.none (by omega))).mono fun r ⟨a, b, c, d, z⟩ => ⟨a, by omega, by omega, d, z⟩
    | false =>
      rw [if_neg Bool.false_ne_true]
      show AlB (anB O key) _ (if O.blt (Ky O key p (m - 1)) (Ky O key p m) = true then _ else _)
      cases e2 : O.blt (Ky O key p (m - 1)) (Ky O key p m) with
      | true =>
        rw [if_pos rfl]
        exact ⟨rfl, Nat.le_refl _, Nat.le_add_right m (f + 1), h, he⟩
      | false =>
        rw [if_neg Bool.false_ne_true]
        have eq : Ky O key p m = Ky O key p (m - 1) := KeyOrd.kle_antisymm e2 e
        refine (b_desc f p (m + 1) (q + 1) (by omega) (by omega) (h.more h1 (by rw [eq]; exact KeyOrd.kle_refl _)) ⟨by have := he.1; omega, fun i a b => ?_⟩).mono fun r ⟨a, b, c, d, z⟩ => ⟨a, by omega, by omega, d, z⟩
        rw [show m + 1 - 1 = m by omega]
        by_cases hi : i = m
        · rw [hi]
        · rw [eq]; exact he.2 i (by omega) (by omega)
theorem b_tail3 {p : Array Nat} {m k : Nat} (h1 : 1 ≤ m) (hk : m ≤ k) (hz : k ≤ p.size) (h : Downto O key p m) : AlB (anB O key) (fun r : Nat × Array Nat => 1 ≤ r.1 ∧ r.1 ≤ k ∧ r.2.size = p.size ∧ Upto O key r.2 r.1) (kas_tail3 m k p) := by
  have hu : Upto O key (kas_rev p 0 m) m := fun i j a b => by
    rw [Ky_rev (by omega), Ky_rev (by omega), if_pos (by omega), if_pos (by omega)]
    exact h _ _ (by omega) (by omega)
  exact (b_asc (k - m) m h1 hu).bind fun r ⟨a, b, c, _⟩ => ⟨by omega, by omega, rev_size .., c⟩
theorem b_descPart {p : Array Nat} {m k : Nat} (hk : m + 1 ≤ k) (hz : k ≤ p.size) (h : Downto O key p (m + 1)) : AlB (anB O key) (fun r : Nat × Array Nat => 1 ≤ r.1 ∧ r.1 ≤ k ∧ r.2.size = p.size ∧ Upto O key r.2 r.1) (kas_descPart m k p) := by
  refine (b_desc (k - (m + 1)) p (m + 1) 0 (by omega) (by omega) h (Eqs.none (by omega))).bind fun r ⟨a, b, c, d, z⟩ => ?_
  split
  · have ev : ∀ i, Ky O key (kas_rev r.1 (r.2.1 - (r.2.2 + 1)) r.2.1) i = Ky O key r.1 i := Ky_revE (by omega) z.2
    refine (b_tail3 (p := kas_rev r.1 (r.2.1 - (r.2.2 + 1)) r.2.1) (by omega) (by omega) (by rw [rev_size]; omega) fun i j x y => ?_).mono fun r' ⟨x, y, w, v⟩ => ⟨x, y, by rw [w, rev_size, a], v⟩
    rw [ev, ev]; exact d i j x y
  · exact (b_tail3 (by omega) (by omega) (by omega) d).mono fun r' ⟨x, y, w, v⟩ => ⟨x, y, by rw [w, a], v⟩
theorem b_count {p : Array Nat} {k : Nat} (h1 : 1 ≤ k) (hz : k ≤ p.size) : AlB (anB O key) (fun r : Nat × Array Nat => 1 ≤ r.1 ∧ r.1 ≤ k ∧ r.2.size = p.size ∧ Upto O key r.2 r.1) (kas_count k p) := by
  have u1 : Upto O key p 1 := fun i j a b => by rw [show i = j by omega]; exact KeyOrd.kle_refl _
  refine (b_asc (k - 1) 1 (Nat.le_refl _) u1).bind fun m ⟨a, b, c, d⟩ => ?_
  by_cases hm : m = k
  · rw [if_pos (by simpa using hm)]
    exact ⟨a, by omega, rfl, c⟩
  · rw [if_neg (by simpa using hm)]
    have lt : O.klt (Ky O key p m) (Ky O key p (m - 1)) := d.resolve_left (by omega)
    by_cases h2 : m > 1
    · rw [if_pos h2]
      show AlB (anB O key) _ (if O.blt (Ky O key p 0) (Ky O key p (m - 1)) = true then _ else _)
      cases e : O.blt (Ky O key p 0) (Ky O key p (m - 1)) with
      | true =>
        rw [if_pos rfl]
        exact ⟨a, by omega, rfl, c⟩
      | false =>
        rw [if_neg Bool.false_ne_true]
        have al : ∀ i, 0 ≤ i → i < m → Ky O key p i = Ky O key p (m - 1) := fun i _ hi =>
          KeyOrd.kle_antisymm (c i (m - 1) (by omega) (by omega)) (KeyOrd.kle_trans e (c 0 i (by omega) hi))
        have ev : ∀ i, Ky O key (kas_rev p 0 m) i = Ky O key p i := Ky_revE (by omega) al
        have dm : Downto O key p m := fun i j x y => by rw [al i (by omega) (by omega), al j (by omega) y]; exact KeyOrd.kle_refl _
        have dn := dm.more a (KeyOrd.kle_of_klt lt)
        refine (b_descPart (p := kas_rev p 0 m) (by omega) (by rw [rev_size]; omega) fun i j x y => ?_).mono fun r' ⟨x, y, w, v⟩ => ⟨x, y, by rw [w, rev_size], v⟩
        rw [ev, ev]; exact dn i j x y
    · rw [if_neg h2]
      have e1 : m = 1 := by omega
      subst e1
      have d1 : Downto O key p 1 := fun i j x y => by rw [show i = j by omega]; exact KeyOrd.kle_refl _
      exact b_descPart (by omega) hz (d1.more (Nat.le_refl _) (KeyOrd.kle_of_klt lt))
theorem b_place {p : Array Nat} {k : Nat} (h : Upto O key p k) : ∀ (f l r : Nat), l ≤ r → r ≤ k → r - l ≤ f → (∀ i, i < l → O.kle (Ky O key p i) (Ky O key p k)) → (∀ i, r ≤ i → i < k → O.klt (Ky O key p k) (Ky O key p i)) →
    AlB (anB O key) (fun l => l ≤ k ∧ (∀ i, i < l → O.kle (Ky O key p i) (Ky O key p k)) ∧ ∀ i, l ≤ i → i < k → O.klt (Ky O key p k) (Ky O key p i)) (kas_place p k f l r)
  | 0, l, r, h1, h2, h3, ha, hb => by
    have e : l = r := by omega
    subst e
    exact ⟨h2, ha, hb⟩
  | f + 1, l, r, h1, h2, h3, ha, hb => by
    unfold kas_place
    split
    · have e : l = r := by omega
      subst e
      exact ⟨h2, ha, hb⟩
    · show AlB (anB O key) _ (if O.blt (Ky O key p k) (Ky O key p ((l + r) / 2)) = true then _ else _)
      cases e : O.blt (Ky O key p k) (Ky O key p ((l + r) / 2)) with
      | true =>
        rw [if_pos rfl]
        exact b_place h f l ((l + r) / 2) (by omega) (by omega) (by omega) ha fun i a b => KeyOrd.klt_of_klt_of_kle e (h _ _ a b)
      | false =>
        rw [if_neg Bool.false_ne_true]
        exact b_place h f ((l + r) / 2 + 1) r (by omega) h2 (by omega) (fun i a => KeyOrd.kle_trans (h i ((l + r) / 2) (by omega) (by omega)) e) hb
theorem Ky_bub {p : Array Nat} {k d : Nat} (hk : k < p.size) (hd : d ≤ k) (i : Nat) : Ky O key (bubble p k d) i = if i = k - d then Ky O key p k else if k - d < i ∧ i ≤ k then Ky O key p (i - 1) else Ky O key p i := by
  have e := getElem?_bubble hk d hd i
  by_cases h1 : i = k - d
  · rw [if_pos h1] at e ⊢; exact Ky_of e
  · rw [if_neg h1] at e ⊢
    by_cases h2 : k - d < i ∧ i ≤ k
    · rw [if_pos h2] at e ⊢; exact Ky_of e
    · rw [if_neg h2] at e ⊢; exact Ky_of e
theorem b_bin : ∀ (f : Nat) (p : Array Nat) (k : Nat), k + f ≤ p.size → Upto O key p k → AlB (anB O key) (fun q => Upto O key q (k + f)) (kas_bin f p k)
  | 0, p, k, _, h => h
  | f + 1, p, k, hz, h => by
    refine (b_place h k 0 k (by omega) (Nat.le_refl _) (by omega) (fun i hi => by omega) (fun i a b => by omega)).bind fun l ⟨hl, ha, hb⟩ => ?_
    have hu : Upto O key (bubble p k (k - l)) (k + 1) := fun i j x y => by
      rw [Ky_bub (by omega) (by omega), Ky_bub (by omega) (by omega), show k - (k - l) = l by omega]
      by_cases j1 : j = l
      · rw [if_pos j1]
        by_cases i1 : i = l
        · rw [if_pos i1]; exact KeyOrd.kle_refl _
        · rw [if_neg i1, if_neg (show ¬ (l < i ∧ i ≤ k) by omega)]; exact ha i (by omega)
      · rw [if_neg j1]
        by_cases j2 : l < j
        · rw [if_pos (show l < j ∧ j ≤ k from ⟨j2, by omega⟩)]
          by_cases i1 : i = l
          · rw [if_pos i1]; exact KeyOrd.kle_of_klt (hb (j - 1) (by omega) (by omega))
          · rw [if_neg i1]
            by_cases i2 : l < i
            · rw [if_pos (show l < i ∧ i ≤ k from ⟨i2, by omega⟩)]; exact h _ _ (by omega) (by omega)
            · rw [if_neg (show ¬ (l < i ∧ i ≤ k) by omega)]; exact h _ _ (by omega) (by omega)
        · rw [if_neg (show ¬ (l < j ∧ j ≤ k) by omega), if_neg (show ¬ i = l by omega), if_neg (show ¬ (l < i ∧ i ≤ k) by omega)]; exact h _ _ x (by omega)
    have := b_bin f (bubble p k (k - l)) (k + 1) (by rw [bubble_size]; omega) hu
    rw [show k + 1 + f = k + (f + 1) by omega] at this
    exact this
theorem b_sort {n : Nat} (h1 : 1 ≤ n) : AlB (anB O key) (fun q => Upto O key q n) (kas_sort n) := by
  have hs : (List.toArray (List.range n)).size = n := by simp
  refine (b_count h1 (p := List.toArray (List.range n)) (by rw [hs]; exact Nat.le_refl _)).bind fun r ⟨a, b, c, d⟩ => ?_
  rw [hs] at c
  split
  · have := b_bin (n - max r.1 1) r.2 (max r.1 1) (by omega) (by rw [show max r.1 1 = r.1 by omega]; exact d)
    rw [show max r.1 1 + (n - max r.1 1) = n by omega] at this
    exact this
  · have e : r.1 = n := by omega
    rw [e] at d
    exact d
end
end L2
set_option Elab.async false
set_option linter.all false
set_option maxRecDepth 100000
set_option maxHeartbeats 4000000
namespace L2
open PySem PySem.Spec PyProof.Rows
section
open PySem.W
variable {prog : Program} {w : World} {A : Around} {E : Value → Shared → Prop} {s : Shared}
theorem range_get (vs : List Value) : (List.range vs.length).map (fun i => vs.getD i Value.none) = vs := by
  apply List.ext_getElem
  · simp
  · intro i a1 a2
    simp [List.getElem?_eq_getElem a2]
noncomputable def RanksG (prog : Program) (w : World) (A : Around) (vs : List Value) (R : Array Nat → Prop) (s : Shared) : Prop :=
  ∃ κ : SortKind, (∀ (Q : SortKind → Shared → Prop) (E : Value → Shared → Prop), Q κ s → wpAny (model prog w) A (keyKind' vs.toArray) Q E s) ∧
    ∀ G : Array Nat → Shared → Prop, (∀ p, Rng vs.length p → R p → G p s) → (kas_sort vs.length).kasWp (kas_ask prog w A κ vs) G s
theorem sort_ranG {R : Array Nat → Prop} {a : Addr} {vs : List Value} {n : Nat} {P : PySem.Fin → Shared → Prop} (ho : s.heap.get? a = some (seqObj "list" vs.toArray n)) (h64 : vs.length < 64)
    (hk : 2 ≤ vs.length → ∀ h' : Heap, (∀ b o, b ≠ a → s.heap.get? b = some o → h'.get? b = some o) → RanksG prog w A vs R { s with heap := h' }) (hR : vs.length < 2 → R (List.range vs.length).toArray)
    (h : ∀ (out : Array Value) (p : Array Nat), Rng vs.length p → R p → out.toList = p.toList.map (fun i => vs.getD i Value.none) → P (.done (.ret .none)) { s with heap := sortedHeap s.heap a vs out }) : wpAny (model prog w) A (Builtin.«list.sort» ⟨[.ref a], []⟩) P E s := by
  have la : a < s.heap.objs.size := Heap.lt_size ho
  have small : vs.length ≤ sizeLine := by rw [sizeLine_eq]; omega
  obtain ⟨e1, k1⟩ : ∃ e1, (s.heap.update a (Obj.mapSeq fun _ => (#[] : Array Value))).get? a = some (seqObj "list" #[] e1) := ⟨_, get?_update_seq ho fun _ => #[]⟩
  generalize hU : s.heap.update a (Obj.mapSeq fun _ => (#[] : Array Value)) = U at k1
  have zU : U.objs.size = s.heap.objs.size := by rw [← hU]; exact Heap.size_update ..
  have kp : ∀ b o, b ≠ a → s.heap.get? b = some o → ((U.push (seqObj "tuple" vs.toArray 0)).push (seqObj "list" #[] 0)).get? b = some o := fun b o nb gb => by
    refine Heap.get?_push_of_some _ (Heap.get?_push_of_some _ ?_)
    rw [← hU, Heap.get?_update_ne _ _ _ _ nb]; exact gb
  have k2 : ((U.push (seqObj "tuple" vs.toArray 0)).push (seqObj "list" #[] 0)).get? a = some (seqObj "list" #[] e1) := Heap.get?_push_of_some _ (Heap.get?_push_of_some _ k1)
  rw [list_sort_plain]
  refine wpAny_bind (listItems_at ho rfl (wpAny_bind (listUpdate_at ho rfl ?_ (by simpa using small) (Nat.zero_le _))))
  have k1' := k1
  rw [← hU] at k1'
  refine wpAny_bind (seqEpoch_at k1' rfl (wpAny_bind (wpAny_newTuple (wpAny_bind (wpAny_newList (wpAny_holding ?_) (Nat.zero_le _))) (by simpa using small))))
  rw [hU]
  show wpAny (model prog w) A _ P E { s with heap := (U.push (seqObj "tuple" vs.toArray 0)).push (seqObj "list" #[] 0) }
  have fin : ∀ (out : Array Value) (p : Array Nat), Rng vs.length p → R p → out.toList = p.toList.map (fun i => vs.getD i Value.none) → P (.done (.ret .none)) { s with heap := ((U.push (seqObj "tuple" vs.toArray 0)).push (seqObj "list" #[] 0)).update a (Obj.mapSeq fun _ => out) } := fun out p h1 h2 h3 => by
    have := h out p h1 h2 h3
    unfold sortedHeap at this
    rw [hU] at this
    exact this
  dsimp only
  by_cases h2 : vs.toArray.size < 2
  · rw [if_pos h2, if_pos h2]
    refine wpAny_bind (wpAny_pure ?_)
    rw [StateT.run_pure]
    refine wpAny_bind (wpAny_pure ?_)
    dsimp only
    have ev : ((vs.toArray.zip vs.toArray).map fun x => x.2).toList = vs := by simp [List.map_snd_zip]
    refine wpAny_bind (seqEpoch_at k2 rfl (wpAny_bind (listUpdate_at k2 rfl ?_ (Nat.zero_le _) ?_)))
    · simp only [bne_self_eq_false, Bool.false_eq_true, if_false]
      exact wpAny_pure (fin _ (List.range vs.length).toArray (Array.Perm.refl _) (hR (by rw [List.size_toArray] at h2; exact h2)) (by rw [show (arrOf (SortSt.mk' general' (vs.toArray.zip vs.toArray) #[] 7 none)) = vs.toArray.zip vs.toArray from rfl, ev, List.toList_toArray, range_get]))
    · rw [← Array.length_toList, show (arrOf (SortSt.mk' general' (vs.toArray.zip vs.toArray) #[] 7 none)) = vs.toArray.zip vs.toArray from rfl, ev]; exact Nat.le_succ_of_le small
  · rw [if_neg h2, if_neg h2]
    have l2 : 2 ≤ vs.length := by rw [List.size_toArray] at h2; omega
    obtain ⟨κ, kd, ak⟩ := hk l2 _ kp
    refine wpAny_bind (kd _ _ ?_)
    refine wpAny_bind (wpAny_mono (kat_run (ks := vs) (vs := vs) (Q := fun st' s' => s' = { s with heap := (U.push (seqObj "tuple" vs.toArray 0)).push (seqObj "list" #[] 0) } ∧ ∃ p : Array Nat, (Rng vs.length p ∧ R p) ∧ arrOf st' = p.map (kas_item (vs.toArray.zip vs.toArray)) ∧ failedOf st' = none)
      (G := fun p s' => s' = { s with heap := (U.push (seqObj "tuple" vs.toArray 0)).push (seqObj "list" #[] 0) } ∧ Rng vs.length p ∧ R p) rfl l2 h64 (fun p st' s' _ ar fl g => ⟨g.1, p, g.2, ar, fl⟩) (ak _ fun p h1 h2 => ⟨rfl, h1, h2⟩)) ?_ fun _ _ e => e)
    rintro ⟨⟨⟩, st'⟩ s' ⟨rfl, p, ⟨hp, hr⟩, ar, fl⟩
    dsimp only
    have out := kat_snds rfl ar
    have pm := hp.perm
    rw [out]
    refine wpAny_bind (seqEpoch_at k2 rfl (wpAny_bind (listUpdate_at k2 rfl ?_ (Nat.zero_le _) ?_)))
    · rw [fl]
      simp only [bne_self_eq_false, Bool.false_eq_true, if_false]
      exact wpAny_pure (fin _ p hp hr (by simp))
    · rw [List.size_toArray, pm.length_eq]; exact Nat.le_succ_of_le small
theorem sorted_ranG {R : Array Nat → Prop} {l : Addr} {vs : List Value} {Q : Value → Shared → Prop} (hl : s.heap.IsList l vs.toArray) (h64 : vs.length < 64)
    (hk : 2 ≤ vs.length → ∀ h' : Heap, (∀ b o, s.heap.get? b = some o → h'.get? b = some o) → RanksG prog w A.in1.in1 vs R { s with heap := h' }) (hR : vs.length < 2 → R (List.range vs.length).toArray)
    (h : ∀ (out : Array Value) (p : Array Nat), Rng vs.length p → R p → out.toList = p.toList.map (fun i => vs.getD i Value.none) → Q (.ref (s.heap.objs.size + 1)) { s with heap := sortedAll s.heap vs out }) : wpAny (model prog w) A (call (.builtin "sorted") [.ref l]) Q E s := by
  have small : vs.length ≤ sizeLine := by rw [sizeLine_eq]; omega
  refine Calls.call_function_entry kind_sorted plain_sorted entry_sorted (args_sorted1 _) ?_
  unfold Builtin.«sorted»
  refine wpAny_bind (m := checkCount "sorted" 1 1 _) (wpAny_pure (wpAny_bind (collect_list hl (wpAny_bind (wpAny_newList ?_ (by simpa using small))) (by simpa using small))))
  generalize hU : (s.heap.push (seqObj "list" #[] 0)).update s.heap.objs.size (Obj.mapSeq (· ++ vs.toArray)) = U
  have zU : U.objs.size = s.heap.objs.size + 1 := by rw [← hU, Heap.size_update]; exact size_push' ..
  have kU : ∀ b o, s.heap.get? b = some o → U.get? b = some o := fun b o gb => by
    rw [← hU, Heap.get?_update_ne _ _ _ _ (Nat.ne_of_lt (Heap.lt_size gb))]
    exact Heap.get?_push_of_some _ gb
  have at' : (U.push (seqObj "list" vs.toArray 0)).get? (s.heap.objs.size + 1) = some (seqObj "list" vs.toArray 0) := by rw [← zU]; exact Heap.get?_push_size _ rfl
  show wpAny _ _ _ _ _ { s with heap := U.push (seqObj "list" vs.toArray 0) }
  rw [zU]
  refine wpAny_bind (wpAny_holding (wpAny_call_entry slot_list_sort ⟨_, at', rfl⟩ entry_list_sort ?bd (args_list_sort _)))
  case bd =>
    refine sort_ranG at' h64 (fun l2 h' kp => hk l2 h' fun b o gb => kp b o (Nat.ne_of_lt (Nat.lt_succ_of_lt (Heap.lt_size gb))) (Heap.get?_push_of_some _ (kU b o gb))) hR fun out p p1 p2 p3 => ⟨_, rfl, wpAny_pure ⟨_, rfl, ?_⟩⟩
    have := h out p p1 p2 p3
    unfold sortedAll at this
    rw [hU] at this
    exact this
end
end L2
set_option Elab.async false
set_option linter.all false
set_option maxRecDepth 100000
set_option maxHeartbeats 4000000
namespace L2
open PySem PySem.Spec PyProof.Rows
section
open PySem.W
variable {X : Cx} {pins : List (Addr × Obj)} {σ : St} {H : Hp} {s : Shared} {k : Nat}
noncomputable def LedE (H : Hp) (y : V) : Prop := ∃ a n us, y = .ref a ∧ H a = some (.tup (.str n :: us))
theorem LedE.led {K : PySem.W.Frag} {y : V} (h : LedE H y) : Led K H (fun v => (tupOf H v).getD []) y := by
  obtain ⟨a, n, us, rfl, e⟩ := h
  exact ⟨a, n, us, rfl, by dsimp only; rw [tupOf_at e]; rfl, SqT.of e⟩
theorem vals_pickE {ys : List V} {vs : List Value} (r : Vals ys vs) : ∀ ps : List Nat, (∀ i ∈ ps, i < vs.length) → Vals (ps.map fun i => ys.getD i .non) (ps.map fun i => vs.getD i Value.none)
  | [], _ => .nil
  | i :: ps, h => by
    have hlen := r.length
    have hi := h i List.mem_cons_self
    obtain ⟨x, hx, rx⟩ := r.get' (show vs[i]? = some vs[i] by simp)
    refine .cons ?_ (vals_pickE r ps fun j hj => h j (List.mem_cons_of_mem _ hj))
    dsimp only
    rw [List.getD_eq_getElem?_getD, hx, List.getD_eq_getElem?_getD, List.getElem?_eq_getElem hi]
    exact rx
end
end L2
set_option Elab.async false
set_option linter.all false
set_option maxRecDepth 100000
set_option maxHeartbeats 4000000
namespace L2
open PySem PySem.Spec PyProof.Rows
noncomputable def intO : KeyOrd where
  α := Int
  blt a b := decide (a < b)
  irrefl a := decide_eq_false (by omega)
  trans a b c h1 h2 := decide_eq_true (by have := of_decide_eq_true h1; have := of_decide_eq_true h2; omega)
  negTrans a b c h := by
    have h := of_decide_eq_true h
    by_cases g : a < b
    · exact .inl (decide_eq_true g)
    · exact .inr (decide_eq_true (by omega))
  total a b h1 h2 := by have := of_decide_eq_false h1; have := of_decide_eq_false h2; omega
theorem ko_asym {A : KeyOrd} {a b : A.α} (h : A.blt a b = true) : A.blt b a = false := KeyOrd.klt_asymm (O := A) h
theorem ko_cases {A : KeyOrd} (a b : A.α) : (A.blt a b = true ∧ A.blt b a = false) ∨ (A.blt b a = true ∧ A.blt a b = false) ∨ (a = b) := by
  cases h1 : A.blt a b with
  | true => exact .inl ⟨rfl, ko_asym h1⟩
  | false =>
    cases h2 : A.blt b a with
    | true => exact .inr (.inl ⟨rfl, rfl⟩)
    | false => exact .inr (.inr (A.total a b h1 h2))
noncomputable def stepB (A : KeyOrd) (a b : A.α) (r : Bool) : Bool := A.blt a b || (!A.blt b a && r)
theorem stepB_lt {A : KeyOrd} {a b : A.α} {r : Bool} (h : A.blt a b = true) : stepB A a b r = true := by unfold stepB; rw [h]; rfl
theorem stepB_gt {A : KeyOrd} {a b : A.α} {r : Bool} (h : A.blt b a = true) : stepB A a b r = false := by unfold stepB; rw [h, ko_asym h]; rfl
theorem stepB_eq {A : KeyOrd} {a : A.α} {r : Bool} : stepB A a a r = r := by unfold stepB; rw [A.irrefl]; rfl
theorem stepB_trans {A : KeyOrd} {a b c : A.α} {r r' r'' : Bool} (hr : r = true → r' = true → r'' = true) (h1 : stepB A a b r = true) (h2 : stepB A b c r' = true) : stepB A a c r'' = true := by
  rcases ko_cases (A := A) a b with ⟨x, _⟩ | ⟨x, _⟩ | x
  · rcases ko_cases (A := A) b c with ⟨y, _⟩ | ⟨y, _⟩ | y
    · exact stepB_lt (A.trans _ _ _ x y)
    · rw [stepB_gt y] at h2; cases h2
    · rw [← y]; exact stepB_lt x
  · rw [stepB_gt x] at h1; cases h1
  · subst x
    rw [stepB_eq] at h1
    rcases ko_cases (A := A) a c with ⟨y, _⟩ | ⟨y, _⟩ | y
    · exact stepB_lt y
    · rw [stepB_gt y] at h2; cases h2
    · subst y
      rw [stepB_eq] at h2 ⊢
      exact hr h1 h2
theorem stepB_neg {A : KeyOrd} {a b c : A.α} {r r' r'' : Bool} (hr : r'' = true → r = true ∨ r' = true) (h : stepB A a c r'' = true) : stepB A a b r = true ∨ stepB A b c r' = true := by
  rcases ko_cases (A := A) a b with ⟨x, _⟩ | ⟨x, _⟩ | x
  · exact .inl (stepB_lt x)
  · right
    rcases ko_cases (A := A) a c with ⟨y, _⟩ | ⟨y, _⟩ | y
    · exact stepB_lt (A.trans _ _ _ x y)
    · rw [stepB_gt y] at h; cases h
    · rw [← y]; exact stepB_lt x
  · subst x
    rcases ko_cases (A := A) a c with ⟨y, _⟩ | ⟨y, _⟩ | y
    · exact .inr (stepB_lt y)
    · rw [stepB_gt y] at h; cases h
    · subst y
      rw [stepB_eq] at h ⊢
      rw [stepB_eq]
      exact hr h
theorem stepB_total {A : KeyOrd} {a b : A.α} {r r' : Bool} (h1 : stepB A a b r = false) (h2 : stepB A b a r' = false) : a = b ∧ r = false ∧ r' = false := by
  rcases ko_cases (A := A) a b with ⟨x, _⟩ | ⟨x, _⟩ | x
  · rw [stepB_lt x] at h1; cases h1
  · rw [stepB_lt x] at h2; cases h2
  · subst x
    rw [stepB_eq] at h1 h2
    exact ⟨rfl, h1, h2⟩
noncomputable def prodO (A B : KeyOrd) : KeyOrd where
  α := A.α × B.α
  blt x y := stepB A x.1 y.1 (B.blt x.2 y.2)
  irrefl a := by rw [stepB_eq]; exact B.irrefl _
  trans a b c h1 h2 := stepB_trans (fun x y => B.trans _ _ _ x y) h1 h2
  negTrans a b c h := stepB_neg (fun x => B.negTrans _ b.2 _ x) h
  total a b h1 h2 := by
    obtain ⟨x, y, z⟩ := stepB_total h1 h2
    exact Prod.ext x (B.total _ _ y z)
noncomputable def listB (A : KeyOrd) : List A.α → List A.α → Bool
  | [], [] => false
  | [], _ :: _ => true
  | _ :: _, [] => false
  | x :: xs, y :: ys => stepB A x y (listB A xs ys)
theorem listB_irr {A : KeyOrd} : ∀ xs : List A.α, listB A xs xs = false
  | [] => rfl
  | x :: xs => by unfold listB; rw [stepB_eq]; exact listB_irr xs
theorem listB_trans {A : KeyOrd} : ∀ xs ys zs : List A.α, listB A xs ys = true → listB A ys zs = true → listB A xs zs = true
  | [], [], _, h, _ => by cases h
  | [], _ :: _, [], _, h => by cases h
  | [], _ :: _, _ :: _, _, _ => rfl
  | _ :: _, [], _, h, _ => by cases h
  | _ :: _, _ :: _, [], _, h => by cases h
  | x :: xs, y :: ys, z :: zs, h1, h2 => stepB_trans (listB_trans xs ys zs) h1 h2
theorem listB_neg {A : KeyOrd} : ∀ xs ys zs : List A.α, listB A xs zs = true → listB A xs ys = true ∨ listB A ys zs = true
  | [], [], zs, h => .inr h
  | [], _ :: _, _, _ => .inl rfl
  | _ :: _, _, [], h => by cases h
  | _ :: _, [], _ :: _, _ => .inr rfl
  | x :: xs, y :: ys, z :: zs, h => stepB_neg (listB_neg xs ys zs) h
theorem listB_total {A : KeyOrd} : ∀ xs ys : List A.α, listB A xs ys = false → listB A ys xs = false → xs = ys
  | [], [], _, _ => rfl
  | [], _ :: _, h, _ => by cases h
  | _ :: _, [], _, h => by cases h
  | x :: xs, y :: ys, h1, h2 => by
    obtain ⟨a, b, c⟩ := stepB_total h1 h2
    rw [a, listB_total xs ys b c]
noncomputable def listO (A : KeyOrd) : KeyOrd := ⟨List A.α, listB A, listB_irr, listB_trans, listB_neg, listB_total⟩
noncomputable def letO : KeyOrd := prodO strKind.toKeyOrd (prodO intO (prodO strKind.toKeyOrd (listO strKind.toKeyOrd)))
end L2
set_option Elab.async false
set_option linter.all false
set_option maxRecDepth 100000
set_option maxHeartbeats 4000000
namespace L2
open PySem PySem.Spec PyProof.Rows
noncomputable abbrev strO : KeyOrd := strKind.toKeyOrd
theorem str_cps {a b : Str} (h : a.cps.toList = b.cps.toList) : a = b := by
  cases a with
  | mk x =>
    cases b with
    | mk y => congr 1; exact Array.toList_inj.mp h
theorem step_str {n m : Str} {R : Bool} : (if eqV (.str n) (.str m) = true then R else ltV0 (.str n) (.str m)) = stepB strO n.cps.toList m.cps.toList R := by
  show (if (n == m) = true then R else decide (n.cps.toList < m.cps.toList)) = _
  by_cases e : n = m
  · subst e
    rw [if_pos (beq_self_eq_true n), stepB_eq]
  · rw [if_neg (by simpa using e)]
    rcases ko_cases (A := strO) n.cps.toList m.cps.toList with ⟨x, _⟩ | ⟨x, y⟩ | x
    · rw [stepB_lt x]; exact x
    · rw [stepB_gt x]; exact y
    · exact absurd (str_cps x) e
theorem step_int {n m : Int} {R : Bool} : (if eqV (.int n) (.int m) = true then R else ltV0 (.int n) (.int m)) = stepB intO n m R := by
  show (if (n == m) = true then R else decide (n < m)) = _
  by_cases e : n = m
  · subst e
    rw [if_pos (beq_self_eq_true n)]
    exact (stepB_eq (A := intO) (a := n)).symm
  · rw [if_neg (by simpa using e)]
    rcases ko_cases (A := intO) n m with ⟨x, _⟩ | ⟨x, y⟩ | x
    · rw [stepB_lt x]; exact x
    · rw [stepB_gt x]; exact y
    · exact absurd x e
theorem lex_strs {fin : Bool} : ∀ (rs qs : List Str), fin = decide (rs.length < qs.length) → lexW fin eqV ltV0 (rs.map V.str) (qs.map V.str) = listB strO (rs.map fun x => x.cps.toList) (qs.map fun x => x.cps.toList)
  | [], [], h => by rw [h]; rfl
  | [], _ :: _, h => by rw [h]; exact decide_eq_true (by simp)
  | _ :: _, [], h => by rw [h]; exact decide_eq_false (by simp)
  | r :: rs, q :: qs, h => by
    show (if eqV (.str r) (.str q) = true then lexW fin eqV ltV0 (rs.map V.str) (qs.map V.str) else ltV0 (.str r) (.str q)) = stepB strO r.cps.toList q.cps.toList (listB strO (rs.map fun x => x.cps.toList) (qs.map fun x => x.cps.toList))
    rw [step_str, lex_strs rs qs (by rw [h]; simp)]
theorem cps_inj : ∀ {rs qs : List Str}, rs.map (fun x => x.cps.toList) = qs.map (fun x => x.cps.toList) → rs = qs
  | [], [], _ => rfl
  | [], _ :: _, h => by cases h
  | _ :: _, [], h => by cases h
  | r :: rs, q :: qs, h => by
    rw [List.map_cons, List.map_cons] at h
    injection h with h1 h2
    rw [str_cps h1, cps_inj h2]
theorem eq_strs {H : Hp} {a b : Addr} {rs qs : List Str} (ha : H a = some (.tup (rs.map V.str))) (hb : H b = some (.tup (qs.map V.str))) : eqD H 1 (.ref a) (.ref b) = decide (rs = qs) := by
  unfold eqD
  rw [tupOf_at ha, tupOf_at hb]
  show ((List.range (min (rs.map V.str).length (qs.map V.str).length)).all (fun j => eqV ((rs.map V.str).getD j .non) ((qs.map V.str).getD j .non)) && (rs.map V.str).length == (qs.map V.str).length) = _
  rw [List.length_map, List.length_map]
  by_cases e : rs = qs
  · subst e
    rw [decide_eq_true rfl, beq_self_eq_true, Bool.and_true, Nat.min_self]
    refine List.all_eq_true.mpr fun j hj => ?_
    have hj := List.mem_range.mp hj
    have g : (rs.map V.str).getD j .non = .str rs[j] := by rw [List.getD_eq_getElem?_getD, List.getElem?_map, List.getElem?_eq_getElem hj]; rfl
    rw [g]
    exact beq_self_eq_true rs[j]
  · rw [decide_eq_false e]
    by_cases hl : rs.length = qs.length
    · rw [hl, beq_self_eq_true, Bool.and_true, Nat.min_self]
      cases hh : (List.range qs.length).all (fun j => eqV ((rs.map V.str).getD j .non) ((qs.map V.str).getD j .non)) with
      | false => rfl
      | true =>
        refine absurd (List.ext_getElem hl fun j h1 h2 => ?_) e
        have h := List.all_eq_true.mp hh j (List.mem_range.mpr h2)
        have g1 : (rs.map V.str).getD j .non = .str rs[j] := by rw [List.getD_eq_getElem?_getD, List.getElem?_map, List.getElem?_eq_getElem h1]; rfl
        have g2 : (qs.map V.str).getD j .non = .str qs[j] := by rw [List.getD_eq_getElem?_getD, List.getElem?_map, List.getElem?_eq_getElem h2]; rfl
        rw [g1, g2] at h
        exact eq_of_beq (show (rs[j] == qs[j]) = true from h)
    · rw [show (rs.length == qs.length) = false by simpa using hl, Bool.and_false]
noncomputable def letK (n : Str) (d : Int) (h : Str) (rs : List Str) : letO.α := (n.cps.toList, d, h.cps.toList, rs.map fun x => x.cps.toList)
theorem letK_inj {n n' : Str} {d d' : Int} {h h' : Str} {rs rs' : List Str} (e : letK n d h rs = letK n' d' h' rs') : n = n' ∧ d = d' ∧ h = h' ∧ rs = rs' := by
  have e1 := congrArg Prod.fst e
  have e2 := congrArg (fun z => z.2.1) e
  have e3 := congrArg (fun z => z.2.2.1) e
  have e4 := congrArg (fun z => z.2.2.2) e
  exact ⟨str_cps e1, e2, str_cps e3, cps_inj e4⟩
structure LetAt (H : Hp) (v : V) (n : Str) (d : Int) (h : Str) (rs : List Str) : Prop where
  at' : ∃ a r, v = .ref a ∧ H a = some (.tup [.str n, .int d, .str h, .ref r]) ∧ H r = some (.tup (rs.map V.str))
theorem LetAt.lt {H : Hp} {v v' : V} {n n' : Str} {d d' : Int} {h h' : Str} {rs rs' : List Str} (x : LetAt H v n d h rs) (y : LetAt H v' n' d' h' rs') :
    ltD H 2 v v' = letO.blt (letK n d h rs) (letK n' d' h' rs') := by
  obtain ⟨a, r, rfl, ha, hr⟩ := x.at'
  obtain ⟨b, q, rfl, hb, hq⟩ := y.at'
  have e : ltD H 2 (.ref a) (.ref b) = lexW (decide (4 < 4)) (eqD H 1) (ltD H 1) [.str n, .int d, .str h, .ref r] [.str n', .int d', .str h', .ref q] := by
    conv => lhs; unfold ltD
    rw [tupOf_at ha, tupOf_at hb]
    rfl
  rw [e]
  have er : ltD H 1 (.ref r) (.ref q) = listB strO (rs.map fun x => x.cps.toList) (rs'.map fun x => x.cps.toList) := by
    unfold ltD
    rw [tupOf_at hr, tupOf_at hq]
    show lexW (decide ((rs.map V.str).length < (rs'.map V.str).length)) eqV ltV0 (rs.map V.str) (rs'.map V.str) = _
    exact lex_strs rs rs' (by rw [List.length_map, List.length_map])
  show (if eqV (.str n) (.str n') = true then (if eqV (.int d) (.int d') = true then (if eqV (.str h) (.str h') = true then (if eqD H 1 (.ref r) (.ref q) = true then decide (4 < 4) else ltD H 1 (.ref r) (.ref q)) else ltV0 (.str h) (.str h')) else ltV0 (.int d) (.int d')) else ltV0 (.str n) (.str n')) =
    stepB strO n.cps.toList n'.cps.toList (stepB intO d d' (stepB strO h.cps.toList h'.cps.toList (listB strO (rs.map fun x => x.cps.toList) (rs'.map fun x => x.cps.toList))))
  rw [step_str, step_int, step_str]
  congr 3
  rw [eq_strs hr hq, er]
  by_cases e : rs = rs'
  · subst e
    rw [decide_eq_true rfl, if_pos rfl, listB_irr]
    rfl
  · rw [decide_eq_false e, if_neg Bool.false_ne_true]
theorem LetAt.eq {H : Hp} {v v' : V} {n n' : Str} {d d' : Int} {h h' : Str} {rs rs' : List Str} (x : LetAt H v n d h rs) (y : LetAt H v' n' d' h' rs') (hk : eqD H 2 v v' = false) :
    letK n d h rs ≠ letK n' d' h' rs' := by
  intro e
  obtain ⟨rfl, rfl, rfl, rfl⟩ := letK_inj e
  obtain ⟨a, r, rfl, ha, hr⟩ := x.at'
  obtain ⟨b, q, rfl, hb, hq⟩ := y.at'
  unfold eqD at hk
  rw [tupOf_at ha, tupOf_at hb] at hk
  have h2 : ((eqD H 1 (.str n) (.str n) && (eqD H 1 (.int d) (.int d) && (eqD H 1 (.str h) (.str h) && (eqD H 1 (.ref r) (.ref q) && true)))) && (4 == 4)) = false := hk
  have e1 : eqD H 1 (.str n) (.str n) = true := beq_self_eq_true n
  have e2 : eqD H 1 (.int d) (.int d) = true := beq_self_eq_true d
  have e3 : eqD H 1 (.str h) (.str h) = true := beq_self_eq_true h
  rw [e1, e2, e3, eq_strs hr hq, decide_eq_true rfl] at h2
  cases h2
section
variable {X : Cx} {pins : List (Addr × Obj)} {σ : St} {H : Hp} {s : Shared} {k : Nat}
end
noncomputable def kvL (H : Hp) (v : V) : letO.α := match tupOf H v with
  | some [.str n, .int d, .str h, .ref r] => (n.cps.toList, d, h.cps.toList, ((tupOf H (.ref r)).getD []).map fun z => match z with | .str x => x.cps.toList | _ => [])
  | _ => ([], (0 : Int), [], [])
theorem LetAt.key {H : Hp} {v : V} {n : Str} {d : Int} {h : Str} {rs : List Str} (x : LetAt H v n d h rs) : kvL H v = letK n d h rs := by
  obtain ⟨a, r, rfl, ha, hr⟩ := x.at'
  unfold kvL letK
  rw [tupOf_at ha]
  dsimp only
  rw [tupOf_at hr]
  show (_, _, _, ((rs.map V.str).map _)) = _
  rw [List.map_map]
  rfl
end L2
set_option Elab.async false
set_option linter.all false
set_option maxRecDepth 100000
set_option maxHeartbeats 4000000
namespace Mr
open PySem L2
inductive PV where
  | non | bl (b : Bool) | int (i : Int) | str (x : Str) | ty (n : String)
  | tup (xs : List PV) | lst (xs : List PV) | dct (kvs : List (Key × PV))
noncomputable abbrev ASet := Addr → Prop
noncomputable def uni (A B : ASet) : ASet := fun a => A a ∨ B a
noncomputable def one (l : Addr) : ASet := fun a => a = l
noncomputable def noA : ASet := fun _ => False
structure WS where
  w : Nat → ASet
  old : ASet
instance : CoeFun WS (fun _ => Nat → ASet) := ⟨WS.w⟩
noncomputable def aw (W : WS) : ASet := fun a => ∃ i, W i a
noncomputable def TupAt (K : PySem.W.Frag) (H : Hp) (a : Addr) (xs : List V) : Prop := H a = some (.tup xs) ∨
    ∃ (o : Obj) (its : Array Value) (n : Nat), K.lookup a = some o ∧ o.cls = .type "tuple" ∧ o.dict = none ∧ o.data = .seq its n ∧ its.size ≤ sizeLine ∧ Vals xs its.toList
noncomputable def KLst (K : PySem.W.Frag) (a : Addr) (xs : List V) : Prop :=
    ∃ (o : Obj) (its : Array Value) (n : Nat), K.lookup a = some o ∧ o.cls = .type "list" ∧ o.dict = none ∧ o.data = .seq its n ∧ its.size ≤ sizeLine ∧ Vals xs its.toList
theorem TupAt.sq {K : PySem.W.Frag} {H : Hp} {a : Addr} {xs : List V} (h : TupAt K H a xs) : SqT K H a xs := h.elim SqT.of fun ⟨o, its, n, a, b, _, c⟩ => .inr ⟨o, its, n, a, b, c⟩
mutual
inductive Rep (K : PySem.W.Frag) (Z : ASet) (H : Hp) : PV → V → Prop
  | non : Rep K Z H .non .non
  | bl (b : Bool) : Rep K Z H (.bl b) (.bl b)
  | int (i : Int) : Rep K Z H (.int i) (.int i)
  | str (x : Str) : Rep K Z H (.str x) (.str x)
  | ty (n : String) : Rep K Z H (.ty n) (.ty n)
  | tup {a : Addr} {xs : List V} {ps : List PV} : TupAt K H a xs → RepL K Z H ps xs → Rep K Z H (.tup ps) (.ref a)
  | lst {a : Addr} {xs : List V} {ps : List PV} : Rd H a (.lst xs) → ¬ Z a → RepL K Z H ps xs → Rep K Z H (.lst ps) (.ref a)
  | dct {a : Addr} {ep : Nat} {ys : List (Key × V)} {kvs : List (Key × PV)} : Rd H a (.dK ys ep) → ¬ Z a → ys.map (·.1) = kvs.map (·.1) → RepL K Z H (kvs.map (·.2)) (ys.map (·.2)) → Rep K Z H (.dct kvs) (.ref a)
inductive RepL (K : PySem.W.Frag) (Z : ASet) (H : Hp) : List PV → List V → Prop
  | nil : RepL K Z H [] []
  | cons {p : PV} {v : V} {ps : List PV} {vs : List V} : Rep K Z H p v → RepL K Z H ps vs → RepL K Z H (p :: ps) (v :: vs)
end
structure Stay (Z Z' : ASet) (H H' : Hp) : Prop where
  tup : ∀ a xs, H a = some (.tup xs) → H' a = some (.tup xs)
  obj : ∀ a o, H a = some o → ¬ Z a → H' a = some o ∧ ¬ Z' a
theorem Stay.rd {Z Z' : ASet} {H H' : Hp} (k : Stay Z Z' H H') {a : Addr} {o : HO} (h : Rd H a o) (n : ¬ Z a) : Rd H' a o ∧ ¬ Z' a := by
  rcases h with h | ⟨u, h⟩
  · exact ⟨.inl (k.obj _ _ h n).1, (k.obj _ _ h n).2⟩
  · exact ⟨.inr ⟨u, (k.obj _ _ h n).1⟩, (k.obj _ _ h n).2⟩
mutual
theorem Rep.stay {K : PySem.W.Frag} {Z Z' : ASet} {H H' : Hp} (k : Stay Z Z' H H') : ∀ {p : PV} {v : V}, Rep K Z H p v → Rep K Z' H' p v
  | _, _, .non => .non
  | _, _, .bl b => .bl b
  | _, _, .int b => .int b
  | _, _, .str b => .str b
  | _, _, .ty b => .ty b
  | _, _, .tup h r => .tup (h.elim (fun h => .inl (k.tup _ _ h)) .inr) (RepL.stay k r)
  | _, _, .lst h n r => .lst (k.rd h n).1 (k.rd h n).2 (RepL.stay k r)
  | _, _, .dct h n e r => .dct (k.rd h n).1 (k.rd h n).2 e (RepL.stay k r)
theorem RepL.stay {K : PySem.W.Frag} {Z Z' : ASet} {H H' : Hp} (k : Stay Z Z' H H') : ∀ {p : List PV} {v : List V}, RepL K Z H p v → RepL K Z' H' p v
  | _, _, .nil => .nil
  | _, _, .cons h r => .cons (Rep.stay k h) (RepL.stay k r)
end
theorem Stay.refl {Z : ASet} {H : Hp} : Stay Z Z H H := ⟨fun _ _ h => h, fun _ _ h n => ⟨h, n⟩⟩
theorem Stay.same {Z : ASet} {H H' : Hp} (s : Same H H') : Stay Z Z H H' := ⟨fun _ _ h => s _ _ h, fun _ _ h n => ⟨s _ _ h, n⟩⟩
theorem Stay.less {Z Z' : ASet} {H : Hp} (h : ∀ a, Z' a → Z a) : Stay Z Z' H H := ⟨fun _ _ h => h, fun _ _ e n => ⟨e, fun z => n (h _ z)⟩⟩
theorem Stay.new {Z : ASet} {H H' : Hp} {l : Addr} (s : Same H H') (hl : H l = none) : Stay Z (uni Z (one l)) H H' :=
  ⟨fun _ _ h => s _ _ h, fun a o h n => ⟨s _ _ h, fun z => z.elim n fun e => by rw [show a = l from e, hl] at h; cases h⟩⟩
theorem RepL.length {K : PySem.W.Frag} {Z : ASet} {H : Hp} : ∀ {ps : List PV} {vs : List V}, RepL K Z H ps vs → ps.length = vs.length
  | _, _, .nil => rfl
  | _, _, .cons _ r => by rw [List.length_cons, List.length_cons, RepL.length r]
theorem RepL.get {K : PySem.W.Frag} {Z : ASet} {H : Hp} : ∀ {ps : List PV} {vs : List V} {i : Nat} {p : PV}, RepL K Z H ps vs → ps[i]? = some p → ∃ v, vs[i]? = some v ∧ Rep K Z H p v
  | _, _, _, _, .nil, h => by simp at h
  | _, _, 0, _, .cons h _, e => by simp at e; subst e; exact ⟨_, rfl, h⟩
  | _, _, i + 1, _, .cons _ r, e => by
    obtain ⟨v, h1, h2⟩ := RepL.get (i := i) r (by simpa using e)
    exact ⟨v, by simpa using h1, h2⟩
theorem RepL.get' {K : PySem.W.Frag} {Z : ASet} {H : Hp} : ∀ {ps : List PV} {vs : List V} {i : Nat} {v : V}, RepL K Z H ps vs → vs[i]? = some v → ∃ p, ps[i]? = some p ∧ Rep K Z H p v
  | _, _, _, _, .nil, h => by simp at h
  | _, _, 0, _, .cons h _, e => by simp at e; subst e; exact ⟨_, rfl, h⟩
  | _, _, i + 1, _, .cons _ r, e => by
    obtain ⟨v, h1, h2⟩ := RepL.get' (i := i) r (by simpa using e)
    exact ⟨v, by simpa using h1, h2⟩
theorem RepL.app {K : PySem.W.Frag} {Z : ASet} {H : Hp} : ∀ {ps qs : List PV} {vs ws : List V}, RepL K Z H ps vs → RepL K Z H qs ws → RepL K Z H (ps ++ qs) (vs ++ ws)
  | _, _, _, _, .nil, s => s
  | _, _, _, _, .cons h r, s => .cons h (RepL.app r s)
theorem RepL.drop {K : PySem.W.Frag} {Z : ASet} {H : Hp} : ∀ {ps : List PV} {vs : List V} (n : Nat), RepL K Z H ps vs → RepL K Z H (ps.drop n) (vs.drop n)
  | _, _, 0, h => h
  | _, _, _ + 1, .nil => .nil
  | _, _, n + 1, .cons _ r => RepL.drop n r
theorem RepL.take {K : PySem.W.Frag} {Z : ASet} {H : Hp} : ∀ {ps : List PV} {vs : List V} (n : Nat), RepL K Z H ps vs → RepL K Z H (ps.take n) (vs.take n)
  | _, _, 0, _ => .nil
  | _, _, _ + 1, .nil => .nil
  | _, _, n + 1, .cons h r => .cons h (RepL.take n r)
theorem RepL.set {K : PySem.W.Frag} {Z : ASet} {H : Hp} {p : PV} {v : V} (h : Rep K Z H p v) : ∀ {ps : List PV} {vs : List V} (n : Nat), RepL K Z H ps vs → RepL K Z H (ps.set n p) (vs.set n v)
  | _, _, _, .nil => .nil
  | _, _, 0, .cons _ r => .cons h r
  | _, _, n + 1, .cons q r => .cons q (RepL.set h n r)
noncomputable def LstAt (K : PySem.W.Frag) (H : Hp) (a : Addr) (xs : List V) : Prop := Rd H a (.lst xs) ∨ KLst K a xs
theorem LstAt.sq {K : PySem.W.Frag} {H : Hp} {a : Addr} {xs : List V} (h : LstAt K H a xs) : SqL K H a xs := h
inductive Red (K : PySem.W.Frag) (Z : ASet) (H : Hp) : PV → V → Prop
  | rep {p : PV} {v : V} : Rep K Z H p v → Red K Z H p v
  | lst {a : Addr} {xs : List V} {ps : List PV} : LstAt K H a xs → RepL K Z H ps xs → Red K Z H (.lst ps) (.ref a)
  | dct {a : Addr} {ep : Nat} {ys : List (Key × V)} {kvs : List (Key × PV)} : Rd H a (.dK ys ep) → ys.map (·.1) = kvs.map (·.1) → RepL K Z H (kvs.map (·.2)) (ys.map (·.2)) → Red K Z H (.dct kvs) (.ref a)
section
variable {K : PySem.W.Frag} {Z : ASet} {H : Hp} {v : V}
theorem Red.int {i : Int} (h : Red K Z H (.int i) v) : v = .int i := by cases h with | rep h => cases h; rfl
theorem Red.str {i : Str} (h : Red K Z H (.str i) v) : v = .str i := by cases h with | rep h => cases h; rfl
theorem Red.bl {i : Bool} (h : Red K Z H (.bl i) v) : v = .bl i := by cases h with | rep h => cases h; rfl
theorem Red.non (h : Red K Z H .non v) : v = .non := by cases h with | rep h => cases h; rfl
theorem Red.ty {n : String} (h : Red K Z H (.ty n) v) : v = .ty n := by cases h with | rep h => cases h; rfl
theorem Red.tup {ps : List PV} (h : Red K Z H (.tup ps) v) : ∃ a xs, v = .ref a ∧ TupAt K H a xs ∧ RepL K Z H ps xs := by
  cases h with | rep h => cases h with | tup h r => exact ⟨_, _, rfl, h, r⟩
end
inductive Sl where
  | val (p : PV) | own (p : PV) | loc (p : PV) | bor (p : PV)
noncomputable def Sl.pv : Sl → PV
  | .val p => p | .own p => p | .loc p => p | .bor p => p
noncomputable def Sl.mine : Sl → Bool
  | .own _ => true | .loc _ => true | _ => false
noncomputable abbrev En := List (Option Sl)
inductive Cont (K : PySem.W.Frag) (Z : ASet) (H : Hp) (a : Addr) : PV → Prop
  | lst {xs : List V} {ps : List PV} : H a = some (.lst xs) → RepL K Z H ps xs → Cont K Z H a (.lst ps)
  | dct {ep : Nat} {ys : List (Key × V)} {kvs : List (Key × PV)} : H a = some (.dK ys ep) → ys.map (·.1) = kvs.map (·.1) → RepL K Z H (kvs.map (·.2)) (ys.map (·.2)) → Cont K Z H a (.dct kvs)
theorem Cont.red {K : PySem.W.Frag} {Z : ASet} {H : Hp} {a : Addr} {p : PV} (h : Cont K Z H a p) : Red K Z H p (.ref a) := by
  cases h with
  | lst e r => exact .lst (.inl (.inl e)) r
  | dct e k r => exact .dct (.inl e) k r
theorem Cont.rep {K : PySem.W.Frag} {Z : ASet} {H : Hp} {a : Addr} {p : PV} (h : Cont K Z H a p) (n : ¬ Z a) : Rep K Z H p (.ref a) := by
  cases h with
  | lst e r => exact .lst (.inl e) n r
  | dct e k r => exact .dct (.inl e) n k r
theorem Cont.there {K : PySem.W.Frag} {Z : ASet} {H : Hp} {a : Addr} {p : PV} (h : Cont K Z H a p) : ∃ o, H a = some o ∧ ∀ xs, o ≠ .tup xs := by
  cases h with
  | lst e r => exact ⟨_, e, fun _ z => nomatch z⟩
  | dct e k r => exact ⟨_, e, fun _ z => nomatch z⟩
theorem Cont.stay {K : PySem.W.Frag} {Z Z' : ASet} {H H' : Hp} {a : Addr} {p : PV} (k : Stay Z Z' H H') (e : ∀ o, H a = some o → H' a = some o) (h : Cont K Z H a p) : Cont K Z' H' a p := by
  cases h with
  | lst h r => exact .lst (e _ h) (r.stay k)
  | dct h q r => exact .dct (e _ h) q (r.stay k)
inductive Lent (K : PySem.W.Frag) (Z : ASet) (W : WS) (L : ASet) (H : Hp) (a : Addr) : PV → Prop
  | lst {xs : List V} {ps : List PV} : Rd H a (.lst xs) → W.old a → ¬ aw W a → ¬ L a → RepL K Z H ps xs → Lent K Z W L H a (.lst ps)
  | klst {xs : List V} {ps : List PV} : KLst K a xs → RepL K Z H ps xs → Lent K Z W L H a (.lst ps)
  | dct {ep : Nat} {ys : List (Key × V)} {kvs : List (Key × PV)} : Rd H a (.dK ys ep) → W.old a → ¬ aw W a → ¬ L a → ys.map (·.1) = kvs.map (·.1) → RepL K Z H (kvs.map (·.2)) (ys.map (·.2)) → Lent K Z W L H a (.dct kvs)
theorem Lent.red {K : PySem.W.Frag} {Z L : ASet} {W : WS} {H : Hp} {a : Addr} {p : PV} (h : Lent K Z W L H a p) : Red K Z H p (.ref a) := by
  cases h with
  | lst e _ _ _ r => exact .lst (.inl e) r
  | klst e r => exact .lst (.inr e) r
  | dct e _ _ _ k r => exact .dct e k r
noncomputable def SlRep (K : PySem.W.Frag) (Z : ASet) (W : WS) (L : ASet) (H : Hp) (i : Nat) (v : V) : Sl → Prop
  | .val p => Rep K Z H p v
  | .own p => ∃ a, v = .ref a ∧ W i a ∧ Cont K Z H a p
  | .loc p => ∃ a, v = .ref a ∧ L a ∧ Cont K Z H a p
  | .bor p => ∃ a, v = .ref a ∧ Lent K Z W L H a p
theorem SlRep.red {K : PySem.W.Frag} {Z L : ASet} {W : WS} {H : Hp} {i : Nat} {v : V} {s : Sl} (h : SlRep K Z W L H i v s) : Red K Z H s.pv v := by
  cases s with
  | val p => exact .rep h
  | own p => obtain ⟨a, rfl, _, c⟩ := h; exact c.red
  | loc p => obtain ⟨a, rfl, _, c⟩ := h; exact c.red
  | bor p => obtain ⟨a, rfl, c⟩ := h; exact c.red
structure EnRep (K : PySem.W.Frag) (Z : ASet) (W : WS) (L : ASet) (H : Hp) (σ : St) (e : En) : Prop where
  len : e.length = σ.length
  at' : ∀ (i : Nat) s, e[i]? = some (some s) → ∃ v, σ[i]? = some (some v) ∧ SlRep K Z W L H i v s
  dis : ∀ (i j : Nat) s t, i ≠ j → e[i]? = some (some s) → e[j]? = some (some t) → s.mine = true → t.mine = true → σ[i]? ≠ σ[j]?
structure Okc (O M : ASet) (W : WS) (L : ASet) (H : Hp) : Prop where
  old : ∀ a, O a → H a ≠ none
  mo : ∀ a, M a → O a
  wm : ∀ i a, W i a → M a
  loc : ∀ a, L a → H a ≠ none ∧ ¬ O a
structure Keep (W : WS) (L : ASet) (H H' : Hp) : Prop where
  obj : ∀ a o, H a = some o → ¬ aw W a → ¬ L a → H' a = some o
  tup : ∀ a xs, H a = some (.tup xs) → H' a = some (.tup xs)
  dom : ∀ a, H a ≠ none → H' a ≠ none
theorem Keep.refl {W : WS} {L : ASet} {H : Hp} : Keep W L H H := ⟨fun _ _ h _ _ => h, fun _ _ h => h, fun _ h => h⟩
theorem Keep.trans {W : WS} {L : ASet} {H H1 H2 : Hp} (a : Keep W L H H1) (b : Keep W L H1 H2) : Keep W L H H2 := ⟨fun c o h n m => b.obj c o (a.obj c o h n m) n m, fun c o h => b.tup c o (a.tup c o h), fun c h => b.dom c (a.dom c h)⟩
theorem Keep.same {W : WS} {L : ASet} {H H' : Hp} (s : Same H H') : Keep W L H H' := ⟨fun _ _ h _ _ => s _ _ h, fun _ _ h => s _ _ h, fun a h => by
  cases e : H a with
  | none => exact absurd e h
  | some o => rw [s _ _ e]; exact fun z => nomatch z⟩
theorem Okc.keep {O M L : ASet} {W : WS} {H H' : Hp} (o : Okc O M W L H) (d : ∀ a, H a ≠ none → H' a ≠ none) : Okc O M W L H' := ⟨fun a h => d a (o.old a h), o.mo, o.wm, fun a h => ⟨d a (o.loc a h).1, (o.loc a h).2⟩⟩
theorem Keep.stay {O M L : ASet} {W : WS} {H H' : Hp} (o : Okc O M W L H) (k : Keep W L H H') : Stay (uni M L) (uni M L) H H' :=
  ⟨k.tup, fun a u h n => ⟨k.obj a u h (fun ⟨i, z⟩ => n (.inl (o.wm i a z))) fun z => n (.inr z), n⟩⟩
theorem EnRep.stay {K : PySem.W.Frag} {Z Z' L : ASet} {W : WS} {H H' : Hp} {σ : St} {e : En} (h : EnRep K Z W L H σ e) (k : Stay Z Z' H H') (ow : ∀ a o, aw W a ∨ L a → H a = some o → H' a = some o) (bo : ∀ a o, H a = some o → ¬ aw W a → ¬ L a → H' a = some o) : EnRep K Z' W L H' σ e :=
  ⟨h.len, fun i s q => by
    obtain ⟨v, h1, h2⟩ := h.at' i s q
    refine ⟨v, h1, ?_⟩
    cases s with
    | val p => exact Rep.stay k h2
    | own p => obtain ⟨a, e, w, c⟩ := h2; exact ⟨a, e, w, c.stay k fun o q => ow a o (.inl ⟨_, w⟩) q⟩
    | loc p => obtain ⟨a, e, w, c⟩ := h2; exact ⟨a, e, w, c.stay k fun o q => ow a o (.inr w) q⟩
    | bor p =>
      obtain ⟨a, e, c⟩ := h2
      refine ⟨a, e, ?_⟩
      cases c with
      | lst e od n m r => exact .lst (e.elim (fun e => .inl (bo _ _ e n m)) fun ⟨u, e⟩ => .inr ⟨u, bo _ _ e n m⟩) od n m (r.stay k)
      | klst e r => exact .klst e (r.stay k)
      | dct e od n m kk r => exact .dct (e.elim (fun e => .inl (bo _ _ e n m)) fun ⟨u, e⟩ => .inr ⟨u, bo _ _ e n m⟩) od n m kk (r.stay k), h.dis⟩
theorem EnRep.same {K : PySem.W.Frag} {Z L : ASet} {W : WS} {H H' : Hp} {σ : St} {e : En} (h : EnRep K Z W L H σ e) (s : Same H H') : EnRep K Z W L H' σ e := h.stay (.same s) (fun a o _ q => s a o q) fun a o q _ _ => s a o q
noncomputable def Free (σ : St) (e : En) (a : Addr) : Prop := ∀ (i : Nat) s, e[i]? = some (some s) → s.mine = true → σ[i]? ≠ some (some (.ref a))
theorem Rd.ne {H : Hp} {a l : Addr} {o : HO} (h : Rd H a o) (hl : H l = none) : a ≠ l := by
  rintro rfl
  rcases h with h | ⟨_, h⟩ <;> (rw [hl] at h; cases h)
theorem EnRep.new {K : PySem.W.Frag} {M L : ASet} {W : WS} {H H' : Hp} {σ : St} {e : En} {l : Addr} (h : EnRep K (uni M L) W L H σ e) (s : Same H H') (hl : H l = none) : EnRep K (uni M (uni L (one l))) W (uni L (one l)) H' σ e ∧ Free σ e l := by
  have k : Stay (uni M L) (uni M (uni L (one l))) H H' := ⟨fun _ _ h => s _ _ h, fun a o h n => ⟨s _ _ h, fun z => by
    rcases z with z | z | z
    · exact n (.inl z)
    · exact n (.inr z)
    · rw [show a = l from z, hl] at h; cases h⟩⟩
  refine ⟨⟨h.len, fun i sl q => ?_, h.dis⟩, fun i sl q hm e => ?_⟩
  · obtain ⟨v, h1, h2⟩ := h.at' i sl q
    refine ⟨v, h1, ?_⟩
    cases sl with
    | val p => exact Rep.stay k h2
    | own p => obtain ⟨a, e, w, c⟩ := h2; exact ⟨a, e, w, c.stay k fun o q => s _ _ q⟩
    | loc p => obtain ⟨a, e, w, c⟩ := h2; exact ⟨a, e, .inl w, c.stay k fun o q => s _ _ q⟩
    | bor p =>
      obtain ⟨a, e, c⟩ := h2
      refine ⟨a, e, ?_⟩
      cases c with
      | lst e od n m r => exact .lst (e.elim (fun e => .inl (s _ _ e)) fun ⟨u, e⟩ => .inr ⟨u, s _ _ e⟩) od n (fun z => z.elim m (Rd.ne e hl)) (r.stay k)
      | klst e r => exact .klst e (r.stay k)
      | dct e od n m kk r => exact .dct (e.elim (fun e => .inl (s _ _ e)) fun ⟨u, e⟩ => .inr ⟨u, s _ _ e⟩) od n (fun z => z.elim m (Rd.ne e hl)) kk (r.stay k)
  · obtain ⟨v, h1, h2⟩ := h.at' i sl q
    rw [h1] at e
    cases e
    cases sl with
    | val p => cases hm
    | bor p => cases hm
    | own p => obtain ⟨a, e, w, c⟩ := h2; cases e; obtain ⟨o, e, _⟩ := c.there; rw [hl] at e; cases e
    | loc p => obtain ⟨a, e, w, c⟩ := h2; cases e; obtain ⟨o, e, _⟩ := c.there; rw [hl] at e; cases e
theorem EnRep.unnew {K : PySem.W.Frag} {M L : ASet} {W : WS} {H : Hp} {σ : St} {e : En} {l : Addr} (h : EnRep K (uni M (uni L (one l))) W (uni L (one l)) H σ e) (f : Free σ e l) : EnRep K (uni M L) W L H σ e := by
  have k : Stay (uni M (uni L (one l))) (uni M L) H H := .less fun a z => z.elim .inl fun z => .inr (.inl z)
  refine ⟨h.len, fun i sl q => ?_, h.dis⟩
  obtain ⟨v, h1, h2⟩ := h.at' i sl q
  refine ⟨v, h1, ?_⟩
  cases sl with
  | val p => exact Rep.stay k h2
  | own p => obtain ⟨a, e, w, c⟩ := h2; exact ⟨a, e, w, c.stay k fun o q => q⟩
  | loc p =>
    obtain ⟨a, e, w, c⟩ := h2
    refine ⟨a, e, w.elim id fun z => ?_, c.stay k fun o q => q⟩
    exfalso
    have z : a = l := z
    subst z e
    exact f i _ q rfl h1
  | bor p =>
    obtain ⟨a, e, c⟩ := h2
    refine ⟨a, e, ?_⟩
    cases c with
    | lst e od n m r => exact .lst e od n (fun z => m (.inl z)) (r.stay k)
    | klst e r => exact .klst e (r.stay k)
    | dct e od n m kk r => exact .dct e od n (fun z => m (.inl z)) kk (r.stay k)
theorem EnRep.less {K : PySem.W.Frag} {Z Z' L : ASet} {W : WS} {H : Hp} {σ : St} {e : En} (h : EnRep K Z W L H σ e) (l : ∀ a, Z' a → Z a) : EnRep K Z' W L H σ e := h.stay (.less l) (fun a o _ q => q) fun a o q _ _ => q
inductive Bv where
  | val (p : PV) | slot (i : Nat) | new (p : PV)
noncomputable def rd (e : En) (i : Nat) : Option PV := match e[i]? with
  | some (some s) => some s.pv
  | _ => none
noncomputable def Bv.get (e : En) : Bv → Option PV
  | .val p => some p
  | .new p => some p
  | .slot i => rd e i
noncomputable def Bv.weak : Bv → Bv
  | .new p => .val p
  | b => b
noncomputable def Bv.put : Bv → Option PV
  | .val p => some p
  | .new p => some p
  | .slot _ => none
noncomputable def RB (K : PySem.W.Frag) (O M : ASet) (W : WS) (L : ASet) (H : Hp) (σ : St) (e : En) (v : V) : Bv → Prop
  | .val p => EnRep K (uni M L) W L H σ e ∧ Rep K (uni M L) H p v
  | .slot i => EnRep K (uni M L) W L H σ e ∧ σ[i]? = some (some v)
  | .new p => ∃ a, v = .ref a ∧ ¬ O a ∧ ¬ L a ∧ EnRep K (uni M (uni L (one a))) W (uni L (one a)) H σ e ∧ Free σ e a ∧ Cont K (uni M (uni L (one a))) H a p
theorem RB.weak {K : PySem.W.Frag} {O M L : ASet} {W : WS} {H : Hp} {σ : St} {e : En} {v : V} {b : Bv} (o : Okc O M W L H) (h : RB K O M W L H σ e v b) : RB K O M W L H σ e v b.weak := by
  cases b with
  | val p => exact h
  | slot i => exact h
  | new p =>
    obtain ⟨a, rfl, n1, n2, h1, hf, h2⟩ := h
    exact ⟨h1.unnew hf, (h2.stay (.less fun _ z => z.elim .inl fun z => .inr (.inl z)) fun _ q => q).rep fun z => z.elim (fun z => n1 (o.mo _ z)) n2⟩
theorem RB.en {K : PySem.W.Frag} {O M L : ASet} {W : WS} {H : Hp} {σ : St} {e : En} {v : V} {b : Bv} (o : Okc O M W L H) (h : RB K O M W L H σ e v b) : EnRep K (uni M L) W L H σ e := by
  cases b with
  | val p => exact h.1
  | slot i => exact h.1
  | new p => exact (RB.weak (b := .new p) o h).1
noncomputable def RV (K : PySem.W.Frag) (Z : ASet) (H : Hp) (σ : St) (v : V) : Bv → Prop
  | .val p => Rep K Z H p v
  | .slot i => σ[i]? = some (some v)
  | .new _ => False
theorem RB.rv {K : PySem.W.Frag} {O M L : ASet} {W : WS} {H : Hp} {σ : St} {e : En} {v : V} {b : Bv} (o : Okc O M W L H) (h : RB K O M W L H σ e v b) : RV K (uni M L) H σ v b.weak := by
  have h := h.weak o
  cases b with
  | val p => exact h.2
  | slot i => exact h.2
  | new p => exact h.2
theorem RV.keep {K : PySem.W.Frag} {O M L : ASet} {W : WS} {H H' : Hp} {σ : St} {v : V} {b : Bv} (o : Okc O M W L H) (k : Keep W L H H') (h : RV K (uni M L) H σ v b) : RV K (uni M L) H' σ v b := by
  cases b with
  | val p => exact Rep.stay (k.stay o) h
  | slot i => exact h
  | new p => exact h
theorem EnRep.rd {K : PySem.W.Frag} {Z L : ASet} {W : WS} {H : Hp} {σ : St} {e : En} {i : Nat} {p : PV} {v : V} (h : EnRep K Z W L H σ e) (g : rd e i = some p) (hv : σ[i]? = some (some v)) : Red K Z H p v := by
  unfold Mr.rd at g
  cases q : e[i]? with
  | none => rw [q] at g; cases g
  | some s =>
    cases s with
    | none => rw [q] at g; cases g
    | some s =>
      rw [q] at g
      cases g
      obtain ⟨w, h1, h2⟩ := h.at' i s q
      rw [hv] at h1
      cases h1
      exact h2.red
theorem RV.red {K : PySem.W.Frag} {Z L : ASet} {W : WS} {H : Hp} {σ : St} {e : En} {v : V} {b : Bv} {p : PV} (h : RV K Z H σ v b) (he : EnRep K Z W L H σ e) (g : b.get e = some p) : Red K Z H p v := by
  cases b with
  | val q => cases g; exact .rep h
  | slot i => exact he.rd g h
  | new q => exact h.elim
noncomputable def Fr (H : Hp) (v : V) : Bv → Prop
  | .new _ => ∀ a, v = .ref a → H a = none
  | _ => True
theorem Fr.back {H H1 : Hp} {v : V} {b : Bv} (d : ∀ a, H a ≠ none → H1 a ≠ none) (h : Fr H1 v b) : Fr H v b := by
  cases b with
  | val p => trivial
  | slot i => trivial
  | new p =>
    intro a e
    cases z : H a with
    | none => rfl
    | some o => exact absurd (h a e) (d a (by rw [z]; exact fun z => nomatch z))
inductive RVs (K : PySem.W.Frag) (Z : ASet) (H : Hp) (σ : St) : List Bv → List V → Prop
  | nil : RVs K Z H σ [] []
  | cons {b : Bv} {v : V} {bs : List Bv} {vs : List V} : RV K Z H σ v b → RVs K Z H σ bs vs → RVs K Z H σ (b :: bs) (v :: vs)
theorem RVs.keep {K : PySem.W.Frag} {O M L : ASet} {W : WS} {H H' : Hp} {σ : St} (o : Okc O M W L H) (k : Keep W L H H') : ∀ {bs : List Bv} {vs : List V}, RVs K (uni M L) H σ bs vs → RVs K (uni M L) H' σ bs vs
  | _, _, .nil => .nil
  | _, _, .cons h r => .cons (h.keep o k) (RVs.keep o k r)
end Mr
set_option Elab.async false
set_option linter.all false
set_option maxRecDepth 100000
set_option maxHeartbeats 4000000
namespace Mr
open PySem L2
noncomputable def bO {α β : Type} (r : Option α) (k : α → Option β) : Option β := match r with
  | some a => k a
  | none => none
theorem bO_some {α β : Type} {r : Option α} {k : α → Option β} {b : β} (h : bO r k = some b) : ∃ a, r = some a ∧ k a = some b := by
  cases r with
  | none => cases h
  | some x => exact ⟨x, rfl, h⟩
noncomputable def bB {β : Type} (c : Bool) (x y : β) : β := match c with | true => x | false => y
noncomputable def RN (K : PySem.W.Frag) (Z : ASet) (H H' : Hp) (v : V) : Bv → Prop
  | .val p => Rep K Z H' p v
  | .new p => ∃ a, v = .ref a ∧ H a = none ∧ Cont K (uni Z (one a)) H' a p
  | .slot _ => False
theorem RN.fr {K : PySem.W.Frag} {Z : ASet} {H0 H H' : Hp} {v : V} {b : Bv} (d : ∀ a, H0 a ≠ none → H a ≠ none) (h : RN K Z H H' v b) : Fr H0 v b := by
  refine Fr.back d ?_
  cases b with
  | val p => trivial
  | slot i => trivial
  | new p =>
    obtain ⟨a, rfl, n, c⟩ := h
    intro a' e
    cases e
    exact n
inductive RedL (K : PySem.W.Frag) (Z : ASet) (H : Hp) : List PV → List V → Prop
  | nil : RedL K Z H [] []
  | cons {p : PV} {v : V} {ps : List PV} {vs : List V} : Red K Z H p v → RedL K Z H ps vs → RedL K Z H (p :: ps) (v :: vs)
noncomputable def getL (e : En) : List Bv → Option (List PV)
  | [] => some []
  | b :: bs => bO (b.get e) fun p => bO (getL e bs) fun ps => some (p :: ps)
theorem RVs.red {K : PySem.W.Frag} {Z L : ASet} {W : WS} {H : Hp} {σ : St} {e : En} (he : EnRep K Z W L H σ e) : ∀ {bs : List Bv} {vs : List V} {ps : List PV}, RVs K Z H σ bs vs → getL e bs = some ps → RedL K Z H ps vs
  | _, _, _, .nil, g => by cases g; exact .nil
  | _, _, _, .cons h r, g => by
    obtain ⟨p, g1, g⟩ := bO_some g
    obtain ⟨ps, g2, g⟩ := bO_some g
    cases g
    exact .cons (h.red he g1) (RVs.red he r g2)
section
variable {K : PySem.W.Frag}
noncomputable def putL : List Bv → Option (List PV)
  | [] => some []
  | b :: bs => bO b.put fun p => bO (putL bs) fun ps => some (p :: ps)
theorem RVs.put {Z : ASet} {H : Hp} {σ : St} : ∀ {bs : List Bv} {vs : List V} {ps : List PV}, RVs K Z H σ bs vs → putL bs = some ps → RepL K Z H ps vs
  | _, _, _, .nil, g => by cases g; exact .nil
  | b :: _, _, _, .cons h r, g => by
    obtain ⟨p, g1, g⟩ := bO_some g
    obtain ⟨ps, g2, g⟩ := bO_some g
    cases g
    cases b with
    | val p => cases g1; exact .cons h (RVs.put r g2)
    | slot i => cases g1
    | new p => exact h.elim
end
end Mr
set_option Elab.async false
set_option linter.all false
set_option maxRecDepth 100000
set_option maxHeartbeats 4000000
namespace Mr
open PySem L2
inductive Out where
  | nx (e : En) | rt (b : Bv) (e : En) | bk (e : En) | ct (e : En)
structure Grow (W : WS) (L L' : ASet) (H H' : Hp) : Prop where
  obj : ∀ a o, H a = some o → ¬ aw W a → ¬ L a → H' a = some o
  tup : ∀ a xs, H a = some (.tup xs) → H' a = some (.tup xs)
  dom : ∀ a, H a ≠ none → H' a ≠ none
  new : ∀ a, L' a → L a ∨ H a = none
theorem Grow.refl {W : WS} {L : ASet} {H : Hp} : Grow W L L H H := ⟨fun _ _ h _ _ => h, fun _ _ h => h, fun _ h => h, fun _ h => .inl h⟩
theorem Grow.keep {W : WS} {L : ASet} {H H' : Hp} (k : Keep W L H H') : Grow W L L H H' := ⟨k.obj, k.tup, k.dom, fun _ h => .inl h⟩
theorem Grow.trans {W : WS} {L L1 L2 : ASet} {H H1 H2 : Hp} (a : Grow W L L1 H H1) (b : Grow W L1 L2 H1 H2) : Grow W L L2 H H2 :=
  ⟨fun c o h n m => b.obj c o (a.obj c o h n m) n fun z => (a.new c z).elim m fun z => (by rw [h] at z; cases z), fun c xs h => b.tup c xs (a.tup c xs h), fun c h => b.dom c (a.dom c h), fun c h => by
    rcases b.new c h with z | z
    · exact a.new c z
    · refine .inr ?_
      cases e : H c with
      | none => rfl
      | some o => exact absurd z (a.dom c (by rw [e]; exact fun z => nomatch z))⟩
section
variable {K : PySem.W.Frag}
theorem set_get {α : Type} {l : List α} {i j : Nat} {x y : α} (h : (l.set i x)[j]? = some y) : (i = j ∧ i < l.length ∧ x = y) ∨ (i ≠ j ∧ l[j]? = some y) := by
  by_cases e : i = j
  · subst e
    have hl : i < l.length := by
      have := (List.getElem?_eq_some_iff.mp h).1
      simpa using this
    rw [List.getElem?_set_self hl] at h
    exact .inl ⟨rfl, hl, Option.some.inj h⟩
  · rw [List.getElem?_set_ne e] at h
    exact .inr ⟨e, h⟩
theorem EnRep.put {Z L : ASet} {W : WS} {H : Hp} {σ : St} {e : En} {i : Nat} {s : Sl} {v : V} (h : EnRep K Z W L H σ e) (hm : s.mine = false) (hs : SlRep K Z W L H i v s) : EnRep K Z W L H (σ.set i (some v)) (e.set i (some s)) := by
  refine ⟨by rw [List.length_set, List.length_set]; exact h.len, fun j t q => ?_, fun j k s1 s2 hjk q1 q2 m1 m2 => ?_⟩
  · rcases set_get q with ⟨rfl, hl, e⟩ | ⟨hn, q⟩
    · cases e
      exact ⟨v, by rw [List.getElem?_set_self (by rw [← h.len]; exact hl)], hs⟩
    · rw [List.getElem?_set_ne hn]
      exact h.at' j t q
  · rcases set_get q1 with ⟨rfl, hl, e⟩ | ⟨hn1, q1⟩
    · cases e; rw [hm] at m1; cases m1
    · rcases set_get q2 with ⟨rfl, hl, e⟩ | ⟨hn2, q2⟩
      · cases e; rw [hm] at m2; cases m2
      · rw [List.getElem?_set_ne hn1, List.getElem?_set_ne hn2]
        exact h.dis j k s1 s2 hjk q1 q2 m1 m2
theorem EnRep.putL {M L : ASet} {W : WS} {H : Hp} {σ : St} {e : En} {i : Nat} {p : PV} {a : Addr} (h : EnRep K (uni M (uni L (one a))) W (uni L (one a)) H σ e) (hf : Free σ e a) (hc : Cont K (uni M (uni L (one a))) H a p) :
    EnRep K (uni M (uni L (one a))) W (uni L (one a)) H (σ.set i (some (.ref a))) (e.set i (some (.loc p))) := by
  refine ⟨by rw [List.length_set, List.length_set]; exact h.len, fun j t q => ?_, fun j k s1 s2 hjk q1 q2 m1 m2 => ?_⟩
  · rcases set_get q with ⟨rfl, hl, e⟩ | ⟨hn, q⟩
    · cases e
      exact ⟨_, by rw [List.getElem?_set_self (by rw [← h.len]; exact hl)], a, rfl, .inr rfl, hc⟩
    · rw [List.getElem?_set_ne hn]
      exact h.at' j t q
  · rcases set_get q1 with ⟨rfl, hl, e⟩ | ⟨hn1, q1⟩
    · rcases set_get q2 with ⟨rfl, hl, e⟩ | ⟨hn2, q2⟩
      · exact absurd rfl hjk
      · rw [List.getElem?_set_ne hn2, List.getElem?_set_self (by rw [← h.len]; exact hl)]
        exact fun z => hf k s2 q2 m2 z.symm
    · rcases set_get q2 with ⟨rfl, hl, e⟩ | ⟨hn2, q2⟩
      · rw [List.getElem?_set_ne hn1, List.getElem?_set_self (by rw [← h.len]; exact hl)]
        exact fun z => hf j s1 q1 m1 z
      · rw [List.getElem?_set_ne hn1, List.getElem?_set_ne hn2]
        exact h.dis j k s1 s2 hjk q1 q2 m1 m2
noncomputable def rel (i : Nat) (e : En) : Option En := match e[i]? with
  | some (some (.loc p)) => some (e.set i (some (.val p)))
  | some (some (.val p)) => some e
  | _ => none
theorem EnRep.rel {O M L : ASet} {W : WS} {H : Hp} {σ : St} {e : En} {i : Nat} {p : PV} (o : Okc O M W L H) (h : EnRep K (uni M L) W L H σ e) (hi : e[i]? = some (some (.loc p))) : ∃ L', (∀ a, L' a → L a) ∧ EnRep K (uni M L') W L' H σ (e.set i (some (.val p))) := by
  obtain ⟨v, h1, a, rfl, la, c⟩ := h.at' i _ hi
  refine ⟨fun b => L b ∧ b ≠ a, fun b z => z.1, by rw [List.length_set]; exact h.len, fun j t q => ?_, fun j k s1 s2 hjk q1 q2 m1 m2 => ?_⟩
  · have k : Stay (uni M L) (uni M fun b => L b ∧ b ≠ a) H H := .less fun b z => z.elim .inl fun z => .inr z.1
    rcases set_get q with ⟨rfl, hl, e⟩ | ⟨hn, q⟩
    · cases e
      refine ⟨_, h1, (c.stay k fun _ q => q).rep fun z => ?_⟩
      rcases z with z | z
      · exact (o.loc a la).2 (o.mo a z)
      · exact z.2 rfl
    · obtain ⟨v, g1, g2⟩ := h.at' j t q
      refine ⟨v, g1, ?_⟩
      cases t with
      | val p => exact Rep.stay k g2
      | own p => obtain ⟨b, e, w, c⟩ := g2; exact ⟨b, e, w, c.stay k fun o q => q⟩
      | loc p =>
        obtain ⟨b, e, w, c⟩ := g2
        refine ⟨b, e, ⟨w, fun z => ?_⟩, c.stay k fun o q => q⟩
        subst z
        subst e
        exact h.dis i j _ _ hn hi q rfl rfl (h1.trans g1.symm)
      | bor p =>
        obtain ⟨b, e, c⟩ := g2
        refine ⟨b, e, ?_⟩
        cases c with
        | lst e od n m r => exact .lst e od n (fun z => m z.1) (r.stay k)
        | klst e r => exact .klst e (r.stay k)
        | dct e od n m kk r => exact .dct e od n (fun z => m z.1) kk (r.stay k)
  · rcases set_get q1 with ⟨rfl, hl, e⟩ | ⟨hn1, q1⟩
    · cases e; cases m1
    · rcases set_get q2 with ⟨rfl, hl, e⟩ | ⟨hn2, q2⟩
      · cases e; cases m2
      · exact h.dis j k s1 s2 hjk q1 q2 m1 m2
noncomputable def setOwn (e : En) (i : Nat) (p : PV) : En := match e[i]? with
  | some (some (.own _)) => e.set i (some (.own p))
  | _ => e.set i (some (.loc p))
noncomputable def ownAt (e : En) (i : Nat) : Option PV := match e[i]? with
  | some (some (.own p)) => some p
  | some (some (.loc p)) => some p
  | _ => none
theorem ownAt_some {e : En} {i : Nat} {p : PV} (h : ownAt e i = some p) : (e[i]? = some (some (.own p)) ∨ e[i]? = some (some (.loc p))) := by
  unfold ownAt at h
  split at h
  · cases h; exact .inl (by assumption)
  · cases h; exact .inr (by assumption)
  · cases h
theorem EnRep.own {Z L : ASet} {W : WS} {H : Hp} {σ : St} {e : En} {i : Nat} {p : PV} (h : EnRep K Z W L H σ e) (g : ownAt e i = some p) : ∃ a, σ[i]? = some (some (.ref a)) ∧ (aw W a ∨ L a) ∧ Cont K Z H a p := by
  rcases ownAt_some g with g | g
  · obtain ⟨v, h1, a, rfl, w, c⟩ := h.at' i _ g
    exact ⟨a, h1, .inl ⟨i, w⟩, c⟩
  · obtain ⟨v, h1, a, rfl, w, c⟩ := h.at' i _ g
    exact ⟨a, h1, .inr w, c⟩
theorem Stay.write {Z : ASet} {H : Hp} {a : Addr} {o ob : HO} (z : Z a) (h : H a = some ob) (nt : ∀ xs, ob ≠ .tup xs) : Stay Z Z H (upd H a o) :=
  ⟨fun b xs e => by rw [upd_ne (ne_of e h fun z => nt _ z.symm)]; exact e, fun b u e n => ⟨by rw [upd_ne (fun q : b = a => n (by rw [q]; exact z))]; exact e, n⟩⟩
theorem EnRep.write {M L : ASet} {W : WS} {H : Hp} {σ : St} {e : En} {i : Nat} {p q : PV} {a : Addr} {ob : HO} (wm : ∀ i a, W i a → M a) (h : EnRep K (uni M L) W L H σ e) (g : ownAt e i = some p) (ha : σ[i]? = some (some (.ref a))) (c : Cont K (uni M L) (upd H a ob) a q) :
    EnRep K (uni M L) W L (upd H a ob) σ (setOwn e i q) := by
  obtain ⟨a', h1, hz, c0⟩ := h.own g
  rw [ha] at h1
  cases h1
  have za : uni M L a := hz.elim (fun ⟨i, w⟩ => .inl (wm i a w)) .inr
  obtain ⟨o0, e0, nt⟩ := c0.there
  have k : Stay (uni M L) (uni M L) H (upd H a ob) := .write za e0 nt
  have hl : i < e.length := by
    rcases ownAt_some g with g | g <;> exact (List.getElem?_eq_some_iff.mp g).1
  have hm : ∃ s, e[i]? = some (some s) ∧ s.mine = true := by
    rcases ownAt_some g with g | g <;> exact ⟨_, g, rfl⟩
  obtain ⟨s0, hs0, hm0⟩ := hm
  have key : ∀ s', (setOwn e i q)[i]? = some (some s') → ∃ v, σ[i]? = some (some v) ∧ SlRep K (uni M L) W L (upd H a ob) i v s' := fun s' z => by
    unfold setOwn at z
    rcases ownAt_some g with g | g
    · rw [g] at z
      rw [List.getElem?_set_self hl] at z
      cases z
      obtain ⟨v, h1, a', rfl, w, _⟩ := h.at' i _ g
      rw [ha] at h1; cases h1
      exact ⟨_, ha, a, rfl, w, c⟩
    · rw [g] at z
      rw [List.getElem?_set_self hl] at z
      cases z
      obtain ⟨v, h1, a', rfl, w, _⟩ := h.at' i _ g
      rw [ha] at h1; cases h1
      exact ⟨_, ha, a, rfl, w, c⟩
  have oth : ∀ j, i ≠ j → (setOwn e i q)[j]? = e[j]? := fun j hj => by
    unfold setOwn
    rcases ownAt_some g with g | g <;> (rw [g]; exact List.getElem?_set_ne hj)
  refine ⟨?_, fun j t z => ?_, fun j l s1 s2 hjk q1 q2 m1 m2 => ?_⟩
  · rw [← h.len]; unfold setOwn; rcases ownAt_some g with g | g <;> (rw [g]; exact List.length_set)
  · by_cases hj : i = j
    · subst hj; exact key t z
    · rw [oth j hj] at z
      obtain ⟨v, g1, g2⟩ := h.at' j t z
      refine ⟨v, g1, ?_⟩
      cases t with
      | val p => exact Rep.stay k g2
      | own p =>
        obtain ⟨b, e', w, c⟩ := g2
        subst e'
        have hb : b ≠ a := fun z' => h.dis i j s0 _ hj hs0 z hm0 rfl (by rw [ha, g1, z'])
        exact ⟨b, rfl, w, c.stay k fun o q => by rw [upd_ne hb]; exact q⟩
      | loc p =>
        obtain ⟨b, e', w, c⟩ := g2
        subst e'
        have hb : b ≠ a := fun z' => h.dis i j s0 _ hj hs0 z hm0 rfl (by rw [ha, g1, z'])
        exact ⟨b, rfl, w, c.stay k fun o q => by rw [upd_ne hb]; exact q⟩
      | bor p =>
        obtain ⟨b, e', c⟩ := g2
        refine ⟨b, e', ?_⟩
        cases c with
        | lst e od n m r =>
          have hb : b ≠ a := fun z' => hz.elim (fun w => n (z' ▸ w)) fun w => m (z' ▸ w)
          exact .lst (e.elim (fun e => .inl (by rw [upd_ne hb]; exact e)) fun ⟨u, e⟩ => .inr ⟨u, by rw [upd_ne hb]; exact e⟩) od n m (r.stay k)
        | klst e r => exact .klst e (r.stay k)
        | dct e od n m kk r =>
          have hb : b ≠ a := fun z' => hz.elim (fun w => n (z' ▸ w)) fun w => m (z' ▸ w)
          exact .dct (e.elim (fun e => .inl (by rw [upd_ne hb]; exact e)) fun ⟨u, e⟩ => .inr ⟨u, by rw [upd_ne hb]; exact e⟩) od n m kk (r.stay k)
  · have mine : ∀ (j : Nat) (s : Sl), (setOwn e i q)[j]? = some (some s) → s.mine = true → ∃ s' : Sl, e[j]? = some (some s') ∧ s'.mine = true := fun j s z m => by
      by_cases hj : i = j
      · subst hj; exact ⟨s0, hs0, hm0⟩
      · rw [oth j hj] at z; exact ⟨s, z, m⟩
    obtain ⟨t1, w1, n1⟩ := mine j s1 q1 m1
    obtain ⟨t2, w2, n2⟩ := mine l s2 q2 m2
    exact h.dis j l t1 t2 hjk w1 w2 n1 n2
theorem Keep.write {W : WS} {L : ASet} {H : Hp} {a : Addr} {ob o : HO} (hz : aw W a ∨ L a) (h : H a = some ob) (nt : ∀ xs, ob ≠ .tup xs) : Keep W L H (upd H a o) :=
  ⟨fun b u e n m => by rw [upd_ne (fun q : b = a => hz.elim (fun z => n (by rw [q]; exact z)) fun z => m (by rw [q]; exact z))]; exact e, fun b xs e => by rw [upd_ne (ne_of e h fun z => nt _ z.symm)]; exact e, fun b e => by
    by_cases hb : b = a
    · subst hb; rw [upd_same]; exact fun z => nomatch z
    · rw [upd_ne hb]; exact e⟩
theorem RB.put {O M L : ASet} {W : WS} {H : Hp} {σ : St} {e : En} {v : V} {b : Bv} {p : PV} (o : Okc O M W L H) (h : RB K O M W L H σ e v b) (g : b.put = some p) : EnRep K (uni M L) W L H σ e ∧ Rep K (uni M L) H p v := by
  have h := h.weak o
  cases b with
  | val q => cases g; exact h
  | new q => cases g; exact h
  | slot i => cases g
end
end Mr
set_option Elab.async false
set_option linter.all false
set_option maxRecDepth 100000
set_option maxHeartbeats 4000000
namespace Mr
open PySem L2
noncomputable def valP (kvs : List (Key × PV)) (k : Key) : Option PV := (kvs.find? fun kv => decide (kv.1 = k)).map (·.2)
noncomputable def putP (kvs : List (Key × PV)) (k : Key) (v : PV) : List (Key × PV) :=
  if (kvs.any fun kv => decide (kv.1 = k)) = true then kvs.map (fun kv => if kv.1 = k then (kv.1, v) else kv) else kvs ++ [(k, v)]
section
variable {K : PySem.W.Frag} {Z : ASet} {H : Hp}
noncomputable def RepD (K : PySem.W.Frag) (Z : ASet) (H : Hp) (kvs : List (Key × PV)) (ys : List (Key × V)) : Prop := ys.map (·.1) = kvs.map (·.1) ∧ RepL K Z H (kvs.map (·.2)) (ys.map (·.2))
theorem RepD.cases {kvs : List (Key × PV)} {ys : List (Key × V)} (h : RepD K Z H kvs ys) : (kvs = [] ∧ ys = []) ∨ ∃ k p v r s, kvs = (k, p) :: r ∧ ys = (k, v) :: s ∧ Rep K Z H p v ∧ RepD K Z H r s := by
  obtain ⟨h1, h2⟩ := h
  cases kvs with
  | nil =>
    cases ys with
    | nil => exact .inl ⟨rfl, rfl⟩
    | cons y ys => cases h1
  | cons x kvs =>
    cases ys with
    | nil => cases h1
    | cons y ys =>
      obtain ⟨a, p⟩ := x
      obtain ⟨b, v⟩ := y
      rw [List.map_cons, List.map_cons] at h1
      have h1' := List.cons.inj h1
      have e : b = a := h1'.1
      subst e
      cases h2 with
      | cons h2 r2 => exact .inr ⟨b, p, v, kvs, ys, rfl, rfl, h2, h1'.2, r2⟩
theorem RepD.cons {k : Key} {p : PV} {v : V} {r : List (Key × PV)} {s : List (Key × V)} (h : Rep K Z H p v) (hr : RepD K Z H r s) : RepD K Z H ((k, p) :: r) ((k, v) :: s) :=
  ⟨by rw [List.map_cons, List.map_cons, hr.1], .cons h hr.2⟩
theorem RepD.val : ∀ {kvs : List (Key × PV)} {ys : List (Key × V)} (k : Key), RepD K Z H kvs ys → (valP kvs k = none ∧ valV ys k = none) ∨ ∃ p v, valP kvs k = some p ∧ valV ys k = some v ∧ Rep K Z H p v
  | [], ys, k, h => by
    rcases h.cases with ⟨_, rfl⟩ | ⟨_, _, _, _, _, e, _⟩
    · exact .inl ⟨rfl, rfl⟩
    · cases e
  | x :: kvs, ys, k, h => by
    rcases h.cases with ⟨e, _⟩ | ⟨j, p, v, r, s, e, e', hp, hr⟩
    · cases e
    · cases e
      subst e'
      by_cases hj : j = k
      · exact .inr ⟨p, v, by simp [valP, List.find?_cons, hj], by simp [valV, List.find?_cons, hj], hp⟩
      · have a : valP ((j, p) :: kvs) k = valP kvs k := by simp [valP, List.find?_cons, hj]
        have b : valV ((j, v) :: s) k = valV s k := by simp [valV, List.find?_cons, hj]
        rw [a, b]
        exact RepD.val k hr
theorem RepD.any {kvs : List (Key × PV)} {ys : List (Key × V)} (k : Key) (h : RepD K Z H kvs ys) : (kvs.any fun kv => decide (kv.1 = k)) = ys.any fun kv => decide (kv.1 = k) := by
  have e1 : (kvs.any fun kv => decide (kv.1 = k)) = (kvs.map (·.1)).any fun j => decide (j = k) := by rw [List.any_map]; rfl
  have e2 : (ys.any fun kv => decide (kv.1 = k)) = (ys.map (·.1)).any fun j => decide (j = k) := by rw [List.any_map]; rfl
  rw [e1, e2, h.1]
theorem RepD.repl {p : PV} {v : V} (hp : Rep K Z H p v) (k : Key) : ∀ {kvs : List (Key × PV)} {ys : List (Key × V)}, RepD K Z H kvs ys → RepD K Z H (kvs.map fun kv => if kv.1 = k then (kv.1, p) else kv) (ys.map fun kv => if kv.1 = k then (kv.1, v) else kv)
  | [], ys, h => by
    rcases h.cases with ⟨_, rfl⟩ | ⟨_, _, _, _, _, e, _⟩
    · exact h
    · cases e
  | x :: kvs, ys, h => by
    rcases h.cases with ⟨e, _⟩ | ⟨j, q, u, r, s, e, e', hq, hr⟩
    · cases e
    · cases e
      subst e'
      rw [List.map_cons, List.map_cons]
      by_cases hj : j = k
      · rw [if_pos hj, if_pos hj]; exact .cons hp (RepD.repl hp k hr)
      · rw [if_neg hj, if_neg hj]; exact .cons hq (RepD.repl hp k hr)
theorem RepD.put {kvs : List (Key × PV)} {ys : List (Key × V)} {p : PV} {v : V} (k : Key) (h : RepD K Z H kvs ys) (hp : Rep K Z H p v) : RepD K Z H (putP kvs k p) (putK ys k v) := by
  unfold putP putK
  rw [h.any k]
  split
  · exact h.repl hp k
  · exact ⟨by rw [List.map_append, List.map_append, h.1]; rfl, by rw [List.map_append, List.map_append]; exact h.2.app (.cons hp .nil)⟩
end
noncomputable def keyOf : PV → Option Key
  | .int i => some (.inl i)
  | .str x => some (.inr x)
  | _ => none
section
variable {K : PySem.W.Frag}
theorem Red.key {Z : ASet} {H : Hp} {p : PV} {v : V} {k : Key} (h : Red K Z H p v) (g : keyOf p = some k) : v = kV k := by
  cases p with
  | int i => cases g; exact h.int
  | str i => cases g; exact h.str
  | _ => cases g
end
end Mr
set_option Elab.async false
set_option linter.all false
set_option maxRecDepth 100000
set_option maxHeartbeats 4000000
namespace Mr
open PySem L2
structure EnPend (K : PySem.W.Frag) (Z : ASet) (W : WS) (L : ASet) (H : Hp) (σ : St) (T : Nat → Prop) (e : En) : Prop where
  len : e.length = σ.length
  at' : ∀ (i : Nat) s, e[i]? = some (some s) → ∃ v, σ[i]? = some (some v) ∧ ((¬ T i ∨ s.mine = false) → SlRep K Z W L H i v s) ∧ (s.mine = true → ∃ a, v = .ref a ∧ ((∃ p, s = .own p ∧ W i a) ∨ ∃ p, s = .loc p ∧ L a))
  dis : ∀ (i j : Nat) s t, i ≠ j → e[i]? = some (some s) → e[j]? = some (some t) → s.mine = true → t.mine = true → σ[i]? ≠ σ[j]?
section
variable {K : PySem.W.Frag}
section
variable {O M L : ASet} {W : WS} {σ : St} {H1 : Hp} {e1 : En} {l : Addr} {ms : List (Nat × Nat)} {k : Nat} {cap : List Nat} {ob0 : HO}
end
end
end Mr
set_option Elab.async false
set_option linter.all false
set_option maxRecDepth 100000
set_option maxHeartbeats 4000000
namespace Mr
open PySem L2
inductive Kd where
  | v | b | m
  deriving DecidableEq
noncomputable def slOf : Kd → PV → Sl
  | .v, p => .val p
  | .m, p => .own p
  | .b, .lst ps => .bor (.lst ps)
  | .b, .dct ps => .bor (.dct ps)
  | .b, p => .val p
noncomputable def env0 : List Kd → List PV → En
  | k :: ks, p :: ps => some (slOf k p) :: env0 ks ps
  | _, _ => []
section
variable {K : PySem.W.Frag}
theorem SlRep.noA {M L : ASet} {W : WS} {H : Hp} {i : Nat} {v : V} {s : Sl} (h : SlRep K M W L H i v s) : SlRep K (uni M noA) W L H i v s := by
  have k : Stay M (uni M Mr.noA) H H := .less fun a z => z.elim id fun z => z.elim
  cases s with
  | val p => exact Rep.stay k h
  | own p => obtain ⟨a, e, w, c⟩ := h; exact ⟨a, e, w, c.stay k fun _ h => h⟩
  | loc p => obtain ⟨a, e, w, c⟩ := h; exact ⟨a, e, w, c.stay k fun _ h => h⟩
  | bor p =>
    obtain ⟨a, e, c⟩ := h
    refine ⟨a, e, ?_⟩
    cases c with
    | lst e od n m r => exact .lst e od n m (r.stay k)
    | klst e r => exact .klst e (r.stay k)
    | dct e od n m kk r => exact .dct e od n m kk (r.stay k)
theorem RVs.get {Z : ASet} {H : Hp} {σ : St} : ∀ {bs : List Bv} {vs : List V} {i : Nat} {v : V}, RVs K Z H σ bs vs → vs[i]? = some v → ∃ b, bs[i]? = some b ∧ RV K Z H σ v b
  | _, _, _, _, .nil, h => by simp at h
  | _, _, 0, _, .cons h _, e => by simp at e; subst e; exact ⟨_, rfl, h⟩
  | _, _, i + 1, _, .cons _ r, e => by
    obtain ⟨b, h1, h2⟩ := RVs.get (i := i) r (by simpa using e)
    exact ⟨b, by simpa using h1, h2⟩
theorem RVs.length {Z : ASet} {H : Hp} {σ : St} : ∀ {bs : List Bv} {vs : List V}, RVs K Z H σ bs vs → bs.length = vs.length
  | _, _, .nil => rfl
  | _, _, .cons _ r => by rw [List.length_cons, List.length_cons, RVs.length r]
end
end Mr
set_option Elab.async false
set_option linter.all false
set_option maxRecDepth 100000
set_option maxHeartbeats 4000000
namespace Mr
open PySem PySem.Spec L2 PyProof.Rows
mutual
inductive Lies (h : Heap) : PV → Value → Prop
  | non : Lies h .non .none
  | bl (b : Bool) : Lies h (.bl b) (.bool b)
  | int (i : Int) (t : Tok) : Lies h (.int i) (.int i t)
  | str (x : Str) (t : Tok) : Lies h (.str x) (.str x t)
  | tup {a : Addr} {its : List Value} {ps : List PV} : IsTup h a its.toArray → LiesL h ps its → Lies h (.tup ps) (.ref a)
  | lst {a : Addr} {its : List Value} {ps : List PV} : h.IsList a its.toArray → LiesL h ps its → Lies h (.lst ps) (.ref a)
inductive LiesL (h : Heap) : List PV → List Value → Prop
  | nil : LiesL h [] []
  | cons {p : PV} {v : Value} {ps : List PV} {vs : List Value} : Lies h p v → LiesL h ps vs → LiesL h (p :: ps) (v :: vs)
end
noncomputable def okP : Nat → PV → Bool
  | _, .non => true
  | _, .bl _ => true
  | _, .int _ => true
  | _, .str _ => true
  | n + 1, .tup ps => ps.all (okP n)
  | n + 1, .lst ps => ps.all (okP n)
  | _, _ => false
section
variable {X : Cx} {pins : List (Addr × Obj)} {σ : L2.St} {H : Hp} {s : Shared}
theorem Rep.lies {Z : ASet} (I : Inv X pins σ H s) : ∀ {n : Nat} {p : PV} {x : V} {v : Value}, okP n p = true → Rep X.K Z H p x → RelV x v → Lies s.heap p v
  | n, .non, x, v, ok, h, r => by cases h; cases r; exact .non
  | n, .bl b, x, v, ok, h, r => by cases h; cases r; exact .bl b
  | n, .int b, x, v, ok, h, r => by cases h; obtain ⟨t, rfl⟩ := r; exact .int b t
  | n, .str b, x, v, ok, h, r => by cases h; obtain ⟨t, rfl⟩ := r; exact .str b t
  | n, .ty b, x, v, ok, h, r => by cases n <;> cases ok
  | n, .dct b, x, v, ok, h, r => by cases n <;> cases ok
  | 0, .tup ps, x, v, ok, h, r => by cases ok
  | 0, .lst ps, x, v, ok, h, r => by cases ok
  | n + 1, .tup ps, x, v, ok, h, r => by
    cases h with
    | tup h rl =>
      cases r
      obtain ⟨its, rv, pl, _⟩ := I.tuple h.sq
      have key : ∀ (ps : List PV) (xs : List V) (its : List Value), ps.all (okP n) = true → RepL X.K Z H ps xs → Vals xs its → LiesL s.heap ps its := fun ps => by
        induction ps with
        | nil => intro xs its _ h1 h2; cases h1; cases h2; exact .nil
        | cons p ps ih =>
          intro xs its ha h1 h2
          rw [List.all_cons, Bool.and_eq_true] at ha
          cases h1 with
          | cons h1 r1 =>
            cases h2 with
            | cons h2 r2 => exact .cons (Rep.lies I (n := n) ha.1 h1 h2) (ih _ _ ha.2 r1 r2)
      exact .tup pl (key ps _ its ok rl rv)
  | n + 1, .lst ps, x, v, ok, h, r => by
    cases h with
    | lst h nz rl =>
      cases r
      obtain ⟨its, rv, pl, _⟩ := I.list (show SqL X.K H _ _ from .inl h)
      have key : ∀ (ps : List PV) (xs : List V) (its : List Value), ps.all (okP n) = true → RepL X.K Z H ps xs → Vals xs its → LiesL s.heap ps its := fun ps => by
        induction ps with
        | nil => intro xs its _ h1 h2; cases h1; cases h2; exact .nil
        | cons p ps ih =>
          intro xs its ha h1 h2
          rw [List.all_cons, Bool.and_eq_true] at ha
          cases h1 with
          | cons h1 r1 =>
            cases h2 with
            | cons h2 r2 => exact .cons (Rep.lies I (n := n) ha.1 h1 h2) (ih _ _ ha.2 r1 r2)
      exact .lst pl.isList (key ps _ its ok rl rv)
theorem RepL.lies {Z : ASet} (I : Inv X pins σ H s) {n : Nat} : ∀ {ps : List PV} {xs : List V} {its : List Value}, ps.all (okP n) = true → RepL X.K Z H ps xs → Vals xs its → LiesL s.heap ps its
  | [], _, _, _, h1, h2 => by cases h1; cases h2; exact .nil
  | p :: ps, _, _, ha, h1, h2 => by
    rw [List.all_cons, Bool.and_eq_true] at ha
    cases h1 with
    | cons h1 r1 =>
      cases h2 with
      | cons h2 r2 => exact .cons (Rep.lies I (n := n) ha.1 h1 h2) (RepL.lies I ha.2 r1 r2)
theorem Red.lies {Z : ASet} (I : Inv X pins σ H s) {n : Nat} {p : PV} {x : V} {v : Value} (ok : okP n p = true) (h : Red X.K Z H p x) (r : RelV x v) : Lies s.heap p v := by
  cases h with
  | rep h => exact h.lies I ok r
  | lst h rl =>
    cases r
    cases n with
    | zero => cases ok
    | succ n =>
      obtain ⟨its, rv, pl, _⟩ := I.list h.sq
      exact .lst pl.isList (RepL.lies I (n := n) ok rl rv)
  | dct h e r => cases n <;> cases ok
end
mutual
noncomputable def eqP : PV → PV → Bool
  | .non, .non => true
  | .bl a, .bl b => a == b
  | .bl a, .int b => (if a then 1 else 0) == b
  | .int a, .bl b => a == (if b then 1 else 0)
  | .int a, .int b => a == b
  | .str a, .str b => a == b
  | .tup xs, .tup ys => eqPL xs ys
  | .lst xs, .lst ys => eqPL xs ys
  | _, _ => false
noncomputable def eqPL : List PV → List PV → Bool
  | [], [] => true
  | x :: xs, y :: ys => eqP x y && eqPL xs ys
  | _, _ => false
end
theorem eqP_tup {xs ys : List PV} : eqP (.tup xs) (.tup ys) = eqPL xs ys := by rw [eqP]
theorem eqP_lst {xs ys : List PV} : eqP (.lst xs) (.lst ys) = eqPL xs ys := by rw [eqP]
theorem LiesL.length {h : Heap} : ∀ {ps : List PV} {vs : List Value}, LiesL h ps vs → ps.length = vs.length
  | _, _, .nil => rfl
  | _, _, .cons _ r => by rw [List.length_cons, List.length_cons, LiesL.length r]
theorem LiesL.get {h : Heap} : ∀ {ps : List PV} {vs : List Value} {i : Nat} {v : Value}, LiesL h ps vs → vs[i]? = some v → ∃ p, ps[i]? = some p ∧ Lies h p v
  | _, _, _, _, .nil, e => by simp at e
  | _, _, 0, _, .cons q _, e => by simp at e; subst e; exact ⟨_, rfl, q⟩
  | _, _, i + 1, _, .cons _ r, e => by
    obtain ⟨v, h1, h2⟩ := LiesL.get (i := i) r (by simpa using e)
    exact ⟨v, by simpa using h1, h2⟩
theorem tup_one {h : Heap} {a : Addr} {xs ys : Array Value} (h1 : IsTup h a xs) (h2 : IsTup h a ys) : xs = ys := by
  obtain ⟨o, g, _, n, d⟩ := h1
  obtain ⟨o', g', _, n', d'⟩ := h2
  rw [g] at g'
  cases g'
  rw [d] at d'
  injection d'
theorem lst_one {h : Heap} {a : Addr} {xs ys : Array Value} (h1 : h.IsList a xs) (h2 : h.IsList a ys) : xs = ys := by
  obtain ⟨o, g, _, n, d⟩ := h1
  obtain ⟨o', g', _, n', d'⟩ := h2
  rw [g] at g'
  cases g'
  rw [d] at d'
  injection d'
theorem tup_lst {h : Heap} {a : Addr} {xs ys : Array Value} (h1 : IsTup h a xs) (h2 : h.IsList a ys) : False := by
  obtain ⟨o, g, c, n, d⟩ := h1
  obtain ⟨o', g', c', n', d'⟩ := h2
  rw [g] at g'
  cases g'
  rw [c] at c'
  exact absurd c' (by decide)
mutual
theorem Lies.same {h : Heap} : ∀ {p : PV} {v : Value}, Lies h p v → ∀ {q : PV}, Lies h q v → eqP p q = true
  | _, _, .non, q, k => by cases k; rfl
  | _, _, .bl b, q, k => by cases k; exact beq_self_eq_true b
  | _, _, .int i t, q, k => by cases k; exact beq_self_eq_true i
  | _, _, .str i t, q, k => by cases k; exact beq_self_eq_true i
  | _, _, .tup ht r, q, k => by
    cases k with
    | tup ht' r' =>
      have e : _ = _ := tup_one ht ht'
      have e := congrArg Array.toList e
      simp only [List.toList_toArray] at e
      subst e
      unfold eqP
      exact LiesL.same r r'
    | lst hl r' => exact (tup_lst ht hl).elim
  | _, _, .lst ht r, q, k => by
    cases k with
    | tup ht' r' => exact (tup_lst ht' ht).elim
    | lst hl r' =>
      have e := congrArg Array.toList (lst_one ht hl)
      simp only [List.toList_toArray] at e
      subst e
      unfold eqP
      exact LiesL.same r r'
theorem LiesL.same {h : Heap} : ∀ {p : List PV} {v : List Value}, LiesL h p v → ∀ {q : List PV}, LiesL h q v → eqPL p q = true
  | _, _, .nil, q, k => by cases k; rfl
  | _, _, .cons h1 r1, q, k => by
    cases k with
    | cons h2 r2 => unfold eqPL; rw [Lies.same h1 h2, LiesL.same r1 r2]; rfl
end
mutual
theorem Lies.fn {h : Heap} : ∀ {p : PV} {v : Value}, Lies h p v → ∀ {q : PV}, Lies h q v → p = q
  | _, _, .non, q, k => by cases k; rfl
  | _, _, .bl b, q, k => by cases k; rfl
  | _, _, .int i t, q, k => by cases k; rfl
  | _, _, .str i t, q, k => by cases k; rfl
  | _, _, .tup ht r, q, k => by
    cases k with
    | tup ht' r' =>
      have e := congrArg Array.toList (tup_one ht ht')
      simp only [List.toList_toArray] at e
      subst e
      rw [LiesL.fn r r']
    | lst hl r' => exact (tup_lst ht hl).elim
  | _, _, .lst ht r, q, k => by
    cases k with
    | tup ht' r' => exact (tup_lst ht' ht).elim
    | lst hl r' =>
      have e := congrArg Array.toList (lst_one ht hl)
      simp only [List.toList_toArray] at e
      subst e
      rw [LiesL.fn r r']
theorem LiesL.fn {h : Heap} : ∀ {p : List PV} {v : List Value}, LiesL h p v → ∀ {q : List PV}, LiesL h q v → p = q
  | _, _, .nil, q, k => by cases k; rfl
  | _, _, .cons h1 r1, q, k => by
    cases k with
    | cons h2 r2 => rw [Lies.fn h1 h2, LiesL.fn r1 r2]
end
theorem eqPL_range : ∀ {ps qs : List PV}, ((List.range (min ps.length qs.length)).all (fun j => eqP (ps.getD j .non) (qs.getD j .non)) && ps.length == qs.length) = eqPL ps qs
  | [], [] => rfl
  | [], _ :: _ => by unfold eqPL; simp
  | _ :: _, [] => by unfold eqPL; simp
  | p :: ps, q :: qs => by
    have ih := eqPL_range (ps := ps) (qs := qs)
    unfold eqPL
    rw [← ih]
    have e : min (p :: ps).length (q :: qs).length = min ps.length qs.length + 1 := by simp only [List.length_cons]; omega
    rw [e, List.range_succ_eq_map, List.all_cons, List.all_map]
    have e2 : ((p :: ps).length == (q :: qs).length) = (ps.length == qs.length) := by
      rw [Bool.eq_iff_iff]; simp
    rw [e2, Bool.and_assoc]
    rfl
section
variable {A : Around} {s : Shared}
theorem toArr {vs : List Value} {j : Nat} (h : j < vs.toArray.size) : vs[j]? = some (vs.toArray[j]) := by simp at h ⊢
theorem eqAt_P : ∀ (n : Nat) (A : Around) {p q : PV} {v u : Value}, A.units + n < cLine → okP n p = true → okP n q = true → Lies s.heap p v → Lies s.heap q u → SeqAt.EqAt A s v u (eqP p q) := by
  intro n
  induction n with
  | zero =>
    intro A p q v u hu o1 o2 h1 h2
    cases h1 with
    | tup _ _ => cases o1
    | lst _ _ => cases o1
    | non =>
      cases h2 with
      | tup _ _ => cases o2
      | lst _ _ => cases o2
      | non => exact .same _
      | bl b => exact .none_bool b
      | int b t => exact .none_int b t
      | str b t => exact .none_str b t
    | bl a =>
      cases h2 with
      | tup _ _ => cases o2
      | lst _ _ => cases o2
      | non => exact .bool_none a
      | bl b => exact .bool_bool a b
      | int b t => exact .bool_int a b t
      | str b t => exact .bool_str a b t
    | int a t' =>
      cases h2 with
      | tup _ _ => cases o2
      | lst _ _ => cases o2
      | non => exact .int_none a t'
      | bl b => exact .int_bool a t' b
      | int b t => exact .int_int a t' b t
      | str b t => exact .int_str a t' b t
    | str a t' =>
      cases h2 with
      | tup _ _ => cases o2
      | lst _ _ => cases o2
      | non => exact .str_none a t'
      | bl b => exact .str_bool a t' b
      | int b t => exact .str_int a t' b t
      | str b t => exact .str_str a t' b t
  | succ n ih =>
    intro A p q v u hu o1 o2 h1 h2
    have hu0 : A.units < cLine := by omega
    have hin : A.in1.units = A.units + 1 := rfl
    have els : ∀ {ps qs : List PV} {vs us : List Value}, ps.all (okP n) = true → qs.all (okP n) = true → LiesL s.heap ps vs → LiesL s.heap qs us → ∀ (j : Nat) (g1 : j < vs.toArray.size) (g2 : j < us.toArray.size), SeqAt.EqAt A.in1 s vs.toArray[j] us.toArray[j] (eqP (ps.getD j .non) (qs.getD j .non)) := fun {ps qs vs us} a1 a2 l1 l2 j g1 g2 => by
      obtain ⟨x, ex, rx⟩ := l1.get (toArr g1)
      obtain ⟨y, ey, ry⟩ := l2.get (toArr g2)
      rw [List.getD_eq_getElem?_getD, List.getD_eq_getElem?_getD, ex, ey]
      exact ih A.in1 (by omega) (List.all_eq_true.mp a1 _ (List.mem_of_getElem? ex)) (List.all_eq_true.mp a2 _ (List.mem_of_getElem? ey)) rx ry
    cases h1 with
    | tup ht r =>
      cases h2 with
      | tup ht' r' =>
        rename_i a its ps a' its' ps'
        by_cases hab : a = a'
        · subst hab
          rw [Lies.same (.tup ht r) (.tup ht' r')]
          exact .same _
        · refine .of_refs hab ?_
          have e : eqP (.tup ps) (.tup ps') = ((List.range (min its.toArray.size its'.toArray.size)).all (fun j => eqP (ps.getD j .non) (ps'.getD j .non)) && its.toArray.size == its'.toArray.size) := by
            rw [eqP_tup, ← eqPL_range, r.length, r'.length, List.size_toArray, List.size_toArray]
          rw [e]
          exact SeqAt.RcAt.tuples (e := fun j => eqP (ps.getD j .non) (ps'.getD j .non)) ht ht' hu0 (els o1 o2 r r')
      | lst hl r' => exact .tuple_list ht hl hu0
      | non => exact .tuple_none ht hu0
      | bl b => exact .tuple_bool b ht hu0
      | int b t => exact .tuple_int b t ht hu0
      | str b t => exact .tuple_str b t ht hu0
    | lst ht r =>
      cases h2 with
      | tup ht' r' => exact .list_tuple ht ht' hu0
      | lst ht' r' =>
        rename_i a its ps a' its' ps'
        by_cases hab : a = a'
        · subst hab
          rw [Lies.same (.lst ht r) (.lst ht' r')]
          exact .same _
        · refine .of_refs hab ?_
          by_cases hsz : its.length = its'.length
          · have e : eqP (.lst ps) (.lst ps') = (List.range its.toArray.size).all (fun j => eqP (ps.getD j .non) (ps'.getD j .non)) := by
              rw [eqP_lst, ← eqPL_range, r.length, r'.length, List.size_toArray, ← hsz, Nat.min_self, beq_self_eq_true, Bool.and_true]
            rw [e]
            exact SeqAt.RcAt.lists (e := fun j => eqP (ps.getD j .non) (ps'.getD j .non)) ht ht' (by simp [hsz]) hu0 (els o1 o2 r r')
          · have e : eqP (.lst ps) (.lst ps') = false := by
              rw [eqP_lst, ← eqPL_range, r.length, r'.length, show (its.length == its'.length) = false by simp [hsz], Bool.and_false]
            rw [e]
            exact SeqAt.RcAt.lists_lengths ht ht' (by simp [hsz]) hu0
      | non => exact .list_none ht hu0
      | bl b => exact .list_bool b ht hu0
      | int b t => exact .list_int b t ht hu0
      | str b t => exact .list_str b t ht hu0
    | non =>
      cases h2 with
      | tup ht' r' => exact .none_tuple ht' hu0
      | lst hl r' => exact .none_list hl hu0
      | non => exact .same _
      | bl b => exact .none_bool b
      | int b t => exact .none_int b t
      | str b t => exact .none_str b t
    | bl a =>
      cases h2 with
      | tup ht' r' => exact .bool_tuple a ht' hu0
      | lst hl r' => exact .bool_list a hl hu0
      | non => exact .bool_none a
      | bl b => exact .bool_bool a b
      | int b t => exact .bool_int a b t
      | str b t => exact .bool_str a b t
    | int a t' =>
      cases h2 with
      | tup ht' r' => exact .int_tuple a t' ht' hu0
      | lst hl r' => exact .int_list a t' hl hu0
      | non => exact .int_none a t'
      | bl b => exact .int_bool a t' b
      | int b t => exact .int_int a t' b t
      | str b t => exact .int_str a t' b t
    | str a t' =>
      cases h2 with
      | tup ht' r' => exact .str_tuple a t' ht' hu0
      | lst hl r' => exact .str_list a t' hl hu0
      | non => exact .str_none a t'
      | bl b => exact .str_bool a t' b
      | int b t => exact .str_int a t' b t
      | str b t => exact .str_str a t' b t
end
section
variable {X : Cx} {k : Nat}
theorem LiesL.any {h : Heap} {e : Value → Bool} {f : PV → Bool} (he : ∀ {q : PV} {y : Value}, Lies h q y → e y = f q) : ∀ {ps : List PV} {its : List Value}, LiesL h ps its → its.any e = ps.any f
  | _, _, .nil => rfl
  | _, _, .cons h r => by rw [List.any_cons, List.any_cons, he h, LiesL.any he r]
end
end Mr
set_option Elab.async false
set_option linter.all false
set_option maxRecDepth 100000
set_option maxHeartbeats 4000000
namespace Mr
open PySem PySem.Spec L2 PyProof.Rows
section
variable {K : PySem.W.Frag}
noncomputable def gI0 (g : Int → Int → PV) : PV → PV → Option Bv
  | .int i, .int j => some (.val (g i j))
  | _, _ => none
noncomputable def gSub : PV → PV → Option Bv := gI0 fun i j => .int (i - j)
theorem Red.any {Z : ASet} {H : Hp} {p : PV} {v : V} (h : Red K Z H p v) : Red K noA H p v := by
  have k : Stay Z noA H H := .less fun a z => z.elim
  cases h with
  | rep h => exact .rep (h.stay k)
  | lst h r => exact .lst h (r.stay k)
  | dct h e r => exact .dct h e (r.stay k)
theorem RepL.atI {Z : ASet} {H : Hp} {ps : List PV} {xs : List V} {i : Int} {p : PV} (r : RepL K Z H ps xs) (h : L2.atI ps i = some p) : ∃ v, L2.atI xs i = some v ∧ Rep K Z H p v := by
  unfold L2.atI at h ⊢
  rw [← r.length]
  cases c : ixN ps.length i with
  | none => rw [c] at h; cases h
  | some j => rw [c] at h; exact r.get h
theorem RedL.one {Z : ASet} {H : Hp} {p : PV} {vs : List V} (h : RedL K Z H [p] vs) : ∃ v, vs = [v] ∧ Red K Z H p v := by
  cases h with | cons h r => cases r; exact ⟨_, rfl, h⟩
theorem RepL.strs {Z : ASet} {H : Hp} : ∀ {xs : List Str} {vs : List V}, RepL K Z H (xs.map PV.str) vs → vs = xs.map V.str
  | [], vs, h => by cases h; rfl
  | x :: xs, vs, h => by cases h with | cons h r => cases h; rw [RepL.strs r]; rfl
end
end Mr
set_option Elab.async false
set_option linter.all false
set_option maxRecDepth 100000
set_option maxHeartbeats 4000000
namespace Mr
open PySem PySem.Spec L2 PyProof.Rows
section
variable {K : PySem.W.Frag}
theorem RepL.empty {Z : ASet} {H : Hp} {ps : List PV} {xs : List V} (r : RepL K Z H ps xs) : ps.isEmpty = xs.isEmpty := by cases r <;> rfl
end
end Mr
set_option Elab.async false
set_option linter.all false
set_option maxRecDepth 100000
set_option maxHeartbeats 4000000
namespace Mr
open PySem PySem.Spec L2 PyProof.Rows
end Mr
set_option Elab.async false
set_option linter.all false
set_option maxRecDepth 100000
namespace Mr
open PySem PySem.Spec L2 PyProof.Rows
end Mr
set_option Elab.async false
set_option linter.all false
set_option maxRecDepth 100000
set_option maxHeartbeats 4000000
namespace L2
open PySem PySem.Spec PyProof.Rows
noncomputable def IteL (K : PySem.W.Frag) (a : Addr) : It :=
  ⟨fun i H => ∃ xs x, SqL K H a xs ∧ xs[i]? = some x, fun i H v H' => ∃ t, H t = none ∧ v = .ref t ∧ ∀ xs, SqL K H a xs → ∃ x, xs[i]? = some x ∧ H' = upd H t (.tup [.int i, x]), fun i H => ∃ xs, SqL K H a xs ∧ xs.length = i⟩
theorem turn_enumL {P : Program} {w : World} {K : PySem.W.Frag} {elts : List Expr} {x1} {pos : Pos} (a it e : Addr) (hei : e ≠ it) : Turn P w K (.Tuple elts x1 pos) (IteL K a) [e, it] e (fun i h => (∃ old, IsEnum h e it i old) ∧ h.IsListIter it a i) where
  mem := by simp
  obj := fun i h st b hb => by
    obtain ⟨⟨old, he⟩, o, ho, c, d⟩ := st
    rcases List.mem_cons.mp hb with z | z
    · subst z; exact ⟨_, he, fun v z => by cases z⟩
    · have z : b = it := by simpa using z
      subst z; exact ⟨o, ho, fun v z => by rw [d] at z; cases z⟩
  keep := fun i h h' st k => ⟨let ⟨old, he⟩ := st.1; ⟨old, k e (by simp) _ he⟩, st.2.at fun o q => k it (by simp) o q⟩
  item := by
    intro X hP hw hK hc i pins s σ H E I hf st hg
    subst hP hw hK
    obtain ⟨xs, x, hq, hx⟩ := hg
    obtain ⟨its, rv, p, hz⟩ := I.list hq
    obtain ⟨u, hu, ru⟩ := rv.get hx
    obtain ⟨⟨old, he⟩, ht⟩ := st
    have hne : a ≠ it := fun z => by
      obtain ⟨o, ho, c, _⟩ := ht
      obtain ⟨o', _, ho', c', _, _⟩ := p
      subst z
      rw [ho] at ho'; cases ho'
      rw [c] at c'
      exact absurd (Value.type.inj c') (by decide)
    have hae : a ≠ e := fun z => by
      obtain ⟨o', _, ho', c', _, _⟩ := p
      subst z
      rw [he] at ho'; cases ho'
      exact absurd (Value.type.inj c') (by decide)
    have hlt : i < its.toArray.size := by have := (List.getElem?_eq_some_iff.mp hu).1; simpa using this
    refine wpAny_pyNext_enum_itemD (Draws.list (A := X.A.in1) (by exact I.ok.hd hc) it a hne its.toArray) he ⟨ht, p.isList⟩ hlt hei (by simp [hei, Ne.symm hae]) fun v h' tk hPv ho' st' htup hsz hk => ?_
    have ev : v = u := by
      have h1 : its[i]? = some v := by simpa using hPv
      rw [hu] at h1; exact (Option.some.inj h1).symm
    subst ev
    refine ⟨_, rfl, wpAny_letOwnedTupleGo_enum (s := { s with heap := h', toks := tk + 1 }) ho' fun h2 he2 sb => ?_⟩
    have hTe : s.heap.objs.size ≠ e := fun z => by
      have := Heap.lt_size he; rw [← z] at this; exact Nat.lt_irrefl _ this
    have hTi : s.heap.objs.size ≠ it := fun z => by
      obtain ⟨o, ho, _⟩ := ht
      have := Heap.lt_size ho; rw [← z] at this; exact Nat.lt_irrefl _ this
    have hk2 : ∀ b o, b ∉ [e, it] → s.heap.get? b = some o → h2.get? b = some o := fun b o hb q =>
      sb.extBut b o (fun z => hb (by simp [z])) (hk b o (fun z => hb (by simp [z])) (fun z => hb (by simp [z])) q)
    have I1 : Inv X pins σ H { s with heap := h2, toks := tk + 1 } := I.turnedL hk2 hf
    have hfr : H s.heap.objs.size = none := I.hok.fresh (Nat.le_refl _)
    have htup2 : h2.get? s.heap.objs.size = some { cls := .type "tuple", data := .seq #[.int i tk, v] } := sb.extBut _ _ hTe htup
    have I2 : Inv X pins σ (upd H s.heap.objs.size (.tup [.int i, x])) { s with heap := h2, toks := tk + 1 } := by
      refine I.un2 hk2 hf hfr (by simp [hTe, hTi]) ⟨by show 2 ≤ sizeLine; decide, [.int i tk, v], .cons ⟨_, rfl⟩ (.cons ru .nil), TupP.of htup2⟩ (fun b hb o q => ?_)
      rcases List.mem_cons.mp hb with r | r
      · subst r; exact ⟨_, he2⟩
      · have r : b = it := by simpa using r
        subst r
        obtain ⟨o', ho', _⟩ := st'.1.extBut sb.extBut (Ne.symm hei)
        exact ⟨o', ho'⟩
    refine ⟨.ref s.heap.objs.size, _, I2, rfl, ⟨s.heap.objs.size, hfr, rfl, fun ys hy => ⟨x, by rw [I.list_inj hy hq]; exact hx, rfl⟩⟩, ⟨⟨_, he2⟩, st'.1.extBut sb.extBut (Ne.symm hei)⟩, fun b hb => ?_⟩
    have hbT : b ≠ s.heap.objs.size := fun z => by
      rcases List.mem_cons.mp hb with r | r
      · exact hTe (z ▸ r)
      · have r : b = it := by simpa using r
        exact hTi (z ▸ r)
    rw [upd_ne hbT]
    exact (hf b hb).1
  done := by
    intro X hP hw hK hc i pins s σ H E I hf st hg
    subst hP hw hK
    obtain ⟨xs, hq, hx⟩ := hg
    obtain ⟨its, rv, p, hz⟩ := I.list hq
    obtain ⟨⟨old, he⟩, ht⟩ := st
    have hl := rv.length
    have hne : a ≠ it := fun z => by
      obtain ⟨o, ho, c, _⟩ := ht
      obtain ⟨o', _, ho', c', _, _⟩ := p
      subst z
      rw [ho] at ho'; cases ho'
      rw [c] at c'
      exact absurd (Value.type.inj c') (by decide)
    have ei : (i : Nat) = its.toArray.size := by simp; omega
    subst ei
    obtain ⟨f0, f1, f2, f3, f4, f5⟩ := hf it (by simp)
    exact wpAny_pyNext_enum_endD (Draws.list (A := X.A.in1) (by exact I.ok.hd hc) it a hne its.toArray) he ⟨ht, p.isList⟩ fun h' eb => ⟨rfl, I.turned (t' := s.toks) (fun b o hb e => eb b o hb e) f0 f1 f3 f4 f5⟩
  self := fun _ _ _ _ _ st h => let ⟨_, he⟩ := st.1; wpAny_pyIter_enum he h
section
variable {X : Cx} {elts : List Expr} {x1 : Nat} {tpos : Pos}
noncomputable def iEnumA (K : PySem.W.Frag) (ta : TA) : TI := fun σ H R => ta σ H fun vs H1 => (∃ a xs, vs = [.ref a] ∧ SqT K H1 a xs ∧ R (Ite K a) H1) ∨ ∃ a xs, vs = [.ref a] ∧ SqL K H1 a xs ∧ R (IteL K a) H1
theorem pi_enumA {a : Expr} {ta : TA} {p pos : Pos} (hg : Gl X "enumerate") (hm : X.mg "enumerate" = none) (ha : PA X [a] ta) (hs : starEach [a] X.env = [(false, eval a X.env)] := by rfl) : PI X (.Tuple elts x1 tpos) (.Call (.Name "enumerate" p) [a] [] pos) (iEnumA X.K ta) := by
  intro pins s σ H R I h
  refine Call_ (ld_blt I hg hm bt_enumerate (PyProof.Rows.callWith_type1 (thn (ha pos pins s σ H _ I h) fun us s1 ⟨vs, H1, I1, r1, q1⟩ => ?_) hs rfl))
  rcases q1 with ⟨t, xs, e, hq, q⟩ | ⟨t, xs, e, hq, q⟩
  · subst e
    obtain ⟨u, rfl, rx⟩ := vals1 r1
    cases rx
    obtain ⟨its, rv, pt, hz⟩ := I1.tuple hq
    refine ours_call_enumerate_tuple (show s1.heap.IsTuple t its.toArray from pt) fun h' he ht hsz hk => ?_
    have I2 : Inv X pins σ H1 { s1 with heap := h' } := I1.kept (t' := s1.toks) hk
    refine wpAny_pyIter_enum (s := { s1 with heap := h' }) he ?_
    refine ⟨s1.heap.objs.size + 1, [s1.heap.objs.size + 1, s1.heap.objs.size], _, _, H1, rfl, I2, turn_enumT t s1.heap.objs.size (s1.heap.objs.size + 1) (Nat.succ_ne_self _), ⟨⟨_, he⟩, ht⟩, fun b hb => ?_, q⟩
    rcases List.mem_cons.mp hb with r | r
    · subst r; exact I1.fpOk (Nat.le_succ _) (I1.hok.fresh (Nat.le_succ _))
    · have r : b = s1.heap.objs.size := by simpa using r
      subst r; exact I1.fpOk (Nat.le_refl _) (I1.hok.fresh (Nat.le_refl _))
  · subst e
    obtain ⟨u, rfl, rx⟩ := vals1 r1
    cases rx
    obtain ⟨its, rv, pt, hz⟩ := I1.list hq
    refine call_enumerate_list pt.isList fun h' he ht hsz hk => ?_
    have I2 : Inv X pins σ H1 { s1 with heap := h' } := I1.kept (t' := s1.toks) hk
    refine wpAny_pyIter_enum (s := { s1 with heap := h' }) he ?_
    refine ⟨s1.heap.objs.size + 1, [s1.heap.objs.size + 1, s1.heap.objs.size], _, _, H1, rfl, I2, turn_enumL t s1.heap.objs.size (s1.heap.objs.size + 1) (Nat.succ_ne_self _), ⟨⟨_, he⟩, ht⟩, fun b hb => ?_, q⟩
    rcases List.mem_cons.mp hb with r | r
    · subst r; exact I1.fpOk (Nat.le_succ _) (I1.hok.fresh (Nat.le_succ _))
    · have r : b = s1.heap.objs.size := by simpa using r
      subst r; exact I1.fpOk (Nat.le_refl _) (I1.hok.fresh (Nat.le_refl _))
theorem pi_enmA (K : PySem.W.Frag) {a : Expr} {ta : TA} {p pos : Pos} (hg : Gl X "enumerate") (hm : X.mg "enumerate" = none) (ha : PA X [a] ta) (h : X.K = K := by rfl) (hs : starEach [a] X.env = [(false, eval a X.env)] := by rfl) :
    PI X (.Tuple elts x1 tpos) (.Call (.Name "enumerate" p) [a] [] pos) (iEnumA K ta) := h ▸ pi_enumA hg hm ha hs
end
end L2
namespace Mr
open PySem PySem.Spec L2 PyProof.Rows
section
variable {K : PySem.W.Frag}
end
end Mr
set_option Elab.async false
set_option linter.all false
set_option maxRecDepth 100000
set_option maxHeartbeats 4000000
namespace L2
open PySem PySem.Spec PyProof.Rows
section
variable {X : Cx} {e st : Expr} {te ts : TE} {pos p2 : Pos}
end
end L2
namespace Mr
open PySem PySem.Spec L2 PyProof.Rows
section
variable {K : PySem.W.Frag}
theorem RepL.rev {Z : ASet} {H : Hp} : ∀ {ps : List PV} {xs : List V}, RepL K Z H ps xs → RepL K Z H ps.reverse xs.reverse
  | _, _, .nil => .nil
  | _, _, .cons a r => by rw [List.reverse_cons, List.reverse_cons]; exact RepL.app (RepL.rev r) (.cons a .nil)
end
end Mr
set_option Elab.async false
set_option linter.all false
set_option maxRecDepth 100000
set_option maxHeartbeats 4000000
namespace Mr
open PySem PySem.Spec L2 PyProof.Rows
section
variable {K : PySem.W.Frag}
noncomputable def sLe (a b : Str) : Prop := ¬ b.cps.toList < a.cps.toList
theorem sLe_trans {a b c : Str} (h : sLe a b) (h' : sLe b c) : sLe a c := List.not_lt.mpr (List.le_trans (List.not_lt.mp h) (List.not_lt.mp h'))
theorem sLe_anti {a b : Str} (h : sLe a b) (h' : sLe b a) : a = b := by
  have := List.le_antisymm (List.not_lt.mp h) (List.not_lt.mp h')
  exact Str.ext' (by cases a; cases b; simp at this; exact this)
theorem rising_pair : ∀ {x : Str} {r : List Str}, risingS x r = true → (x :: r).Pairwise sLe
  | x, [], _ => List.pairwise_singleton _ _
  | x, y :: r, h => by
    have h : (!ltCps y.cps.toList x.cps.toList && risingS y r) = true := h
    rw [Bool.and_eq_true] at h
    have ih := rising_pair h.2
    have hxy : sLe x y := by
      have := h.1
      rw [ltCps_eq] at this
      simpa [sLe] using this
    refine List.pairwise_cons.mpr ⟨fun z hz => ?_, ih⟩
    rcases List.mem_cons.mp hz with e | e
    · rw [e]; exact hxy
    · exact sLe_trans hxy ((List.pairwise_cons.mp ih).1 z e)
theorem sorted_pair {l : List Str} (h : sortedS l = true) : l.Pairwise sLe := by
  cases l with
  | nil => exact .nil
  | cons x r => exact rising_pair h
theorem sorted_uniq : ∀ {a b : List Str}, a.Pairwise sLe → b.Pairwise sLe → a.Perm b → a = b
  | [], b, _, _, p => (List.Perm.nil_eq p)
  | x :: a, [], _, _, p => absurd p.symm.nil_eq (by simp)
  | x :: a, y :: b, ha, hb, p => by
    have hx := (List.pairwise_cons.mp ha).1
    have hy := (List.pairwise_cons.mp hb).1
    have e : x = y := by
      rcases List.mem_cons.mp (p.mem_iff.mp List.mem_cons_self) with z | z
      · exact z
      · rcases List.mem_cons.mp (p.mem_iff.mpr List.mem_cons_self) with w | w
        · exact w.symm
        · exact sLe_anti (hx y w) (hy x z)
    subst e
    rw [sorted_uniq (List.pairwise_cons.mp ha).2 (List.pairwise_cons.mp hb).2 p.cons_inv]
noncomputable def leS (a b : Str) : Bool := !ltCps b.cps.toList a.cps.toList
theorem leS_iff {a b : Str} : leS a b = true ↔ sLe a b := by
  unfold leS sLe
  rw [ltCps_eq]
  simp
noncomputable def sortP (ss : List Str) : List Str := ss.mergeSort leS
theorem sortP_sorted (ss : List Str) : (sortP ss).Pairwise sLe := by
  have := List.pairwise_mergeSort (le := leS) (fun a b c h1 h2 => leS_iff.mpr (sLe_trans (leS_iff.mp h1) (leS_iff.mp h2))) (fun a b => by
    rw [Bool.or_eq_true, leS_iff, leS_iff]
    by_cases h : sLe a b
    · exact .inl h
    · right
      unfold sLe at h ⊢
      have h := Classical.not_not.mp h
      exact List.not_lt.mpr (List.le_of_lt h)) ss
  exact this.imp fun h => leS_iff.mp h
theorem sortP_is (ss : List Str) : (sortP ss).Perm ss := List.mergeSort_perm ss leS
theorem sortP_eq {ss out : List Str} (hp : out.Perm ss) (hs : sortedS out = true) : sortP ss = out := sorted_uniq (sortP_sorted ss) (sorted_pair hs) ((sortP_is ss).trans hp.symm)
end
end Mr
set_option Elab.async false
set_option linter.all false
set_option maxRecDepth 100000
set_option maxHeartbeats 4000000
namespace Mr
open PySem PySem.Spec L2 PyProof.Rows
section
variable {K : PySem.W.Frag}
end
end Mr
set_option Elab.async false
set_option linter.all false
set_option maxRecDepth 100000
set_option maxHeartbeats 4000000
namespace L2
open PySem PySem.Spec PyProof.Rows PySem.W
section
variable {prog : Program} {w : World} {A : Around} {E : Value → Shared → Prop} {s : Shared} {T : String} {r d : Addr} {n : Nat} {Pz : Nat → Value → Prop} {OKh : Heap → Prop}
noncomputable def Grew (s s' : Shared) : Prop := ∃ h' tk dr, s' = { s with heap := h', toks := tk, drawn := dr } ∧ s.heap.objs.size ≤ h'.objs.size ∧ ∀ b o, s.heap.get? b = some o → h'.get? b = some o
theorem Grew.size {s s' : Shared} (g : Grew s s') : s.heap.objs.size ≤ s'.heap.objs.size := by
  obtain ⟨h', tk, dr, rfl, k, _⟩ := g
  exact k
theorem collect_src {Q : List Value → Shared → Prop} (K : KdlSrc prog w T r d n Pz OKh) (hh : A.handled = none) (hok : OKh s.heap) (hn : n ≤ sizeLine)
    (hq : ∀ vs s', Grew s s' → vs.length = n → (∀ j v, vs[j]? = some v → Pz j v) → Q vs s') : wpAny (model prog w) A (collect (.ref r)) Q E s := by
  have ha := K.there _ hok
  have fin : ∀ (h' : Heap) (tk : Nat) (acc : Array Value) (c : Nat), (∀ b o, s.heap.get? b = some o → h'.get? b = some o) →
      h'.get? s.heap.objs.size = some { cls := .type "list", dict := none, data := .seq acc c, slots := #[] } → ItemsOf Pz acc n →
      wpAny (model prog w) A (match Value.ref s.heap.objs.size with
        | Value.ref a => do
          match (← load a).data with
            | Data.seq xs _ => pure xs.toList
            | _ => unsupported "internal:collect"
        | _ => unsupported "internal:collect") Q E { s with heap := h', toks := tk } := fun h' tk acc c kp hS hacc => by
    show wpAny _ A (load s.heap.objs.size >>= _) _ _ _
    exact wpAny_bind (wpAny_load hS (wpAny_pure (hq _ _ ⟨h', tk, s.drawn, rfl, Nat.le_of_lt (Heap.lt_size hS), kp⟩ (by rw [Array.length_toList]; exact hacc.1) fun j v e => hacc.2 j v (by rw [← Array.getElem?_toList]; exact e))))
  unfold collect
  refine wpAny_bind (wpAny_runValue (codeAny_builtin F.entry_proto_collect ?_))
  rw [Around.under_plainId F.plain_proto_collect _]
  refine wpAny_bind (m := newList []) (wpAny_newObj_type ?_)
  refine wpAny_pure ⟨plainId_quiet F.plain_list_iadd _, codeAny_builtin F.entry_list_iadd ?_⟩
  rw [Around.under_plainId F.plain_list_iadd _]
  have e0 : (s.heap.push { cls := .type "list", data := .seq ([] : List Value).toArray }).get? s.heap.objs.size = some { cls := .type "list", data := .seq #[] 0 } := Heap.get?_push_size _ rfl
  have key := kdl_extend (A := A) (s := { s with heap := s.heap.push { cls := .type "list", data := .seq ([] : List Value).toArray } }) (R := fun rs s' => ∃ h' tk acc c, rs = .ok (.ret (.ref s.heap.objs.size)) ∧ s' = { s with heap := h', toks := tk } ∧ (∀ b o, s.heap.get? b = some o → h'.get? b = some o) ∧ h'.get? s.heap.objs.size = some { cls := .type "list", dict := none, data := .seq acc c, slots := #[] } ∧ ItemsOf Pz acc n) K hh (K.keep _ _ hok fun b _ o e => Heap.get?_push_of_some _ e) s.heap.objs.size (Nat.ne_of_gt ha.1) (Nat.ne_of_gt ha.2) (.ref s.heap.objs.size) 0 e0
    (fun h' tk acc c kp hS hacc => ⟨h', tk, acc, c, rfl, rfl, fun b o e => kp b o (Nat.ne_of_lt (Heap.lt_size e)) (Heap.get?_push_of_some _ e), hS, hacc⟩) hn
  refine wpAny_mono key (fun f s' h => ?_) fun e s' h => ?_
  · cases f with
    | done f =>
      obtain ⟨h', tk, acc, c, e1, rfl, kp, hS, hacc⟩ := h
      cases e1
      exact fin h' tk acc c kp hS hacc
    | again c' =>
      refine ⟨h.1, codeAny_mono h.2 fun rs s2 hr => ?_⟩
      obtain ⟨h', tk, acc, c, rfl, rfl, kp, hS, hacc⟩ := hr
      exact fin h' tk acc c kp hS hacc
  · obtain ⟨h', tk, acc, c, e1, _⟩ := h
    cases e1
theorem sorted_strs_from {v : Value} {R : List Str → Prop} {Q : Value → Shared → Prop}
    (hcol : ∀ (E' : Value → Shared → Prop) (Q' : List Value → Shared → Prop), (∀ vs s1 ss, Grew s s1 → StrsAre vs ss → R ss → Q' vs s1) → wpAny (model prog w) A.in1 (collect v) Q' E' s) (h64 : ∀ ss, R ss → ss.length < 64)
    (hq : ∀ (a : Addr) s2 (out : List Value) c ss ss', Grew s s2 → s.heap.objs.size ≤ a → s2.heap.get? a = some (seqObj "list" out.toArray c) → StrsAre out ss' → R ss → ss'.Perm ss → sortedS ss' = true → Q (.ref a) s2) :
    wpAny (model prog w) A (call (.builtin "sorted") [v]) Q E s := by
  refine Calls.call_function_entry kind_sorted plain_sorted entry_sorted (args_sorted1 _) ?_
  unfold Builtin.«sorted»
  refine wpAny_bind (m := checkCount "sorted" 1 1 _) (wpAny_pure (wpAny_bind (hcol _ _ fun vs s1 ss g hS hR => ?_)))
  have hl : vs.length < 64 := by rw [hS.length]; exact h64 ss hR
  refine wpAny_bind (wpAny_newList ?_ (by simp only [sizeLine_eq]; omega))
  have e1 : (s1.heap.push (seqObj "list" vs.toArray 0)).get? s1.heap.objs.size = some (seqObj "list" vs.toArray 0) := Heap.get?_push_size _ rfl
  refine wpAny_bind (wpAny_holding (wpAny_call_entry slot_list_sort ⟨_, e1, rfl⟩ entry_list_sort (list_sort_treeK strKind_oneLt e1 hS.keysOf (fun v₁ v₂ rest e => keyKind_strs (by rw [← e]; exact hS)) hl fun st' a1 a2 => ⟨_, rfl, ?_⟩) (args_list_sort _)))
  obtain ⟨ss', b1, b2, b3⟩ := sorted_out_str hS a1 a2
  refine wpAny_pure ⟨_, rfl, ?_⟩
  obtain ⟨c, hc⟩ := sortedHeap_at (out := (arrOf st').map (·.2)) e1
  refine hq s1.heap.objs.size _ ((arrOf st').map (·.2)).toList c ss ss' ?_ g.size (by rw [Array.toArray_toList]; exact hc) b1 hR b2 b3
  obtain ⟨h', tk, dr, rfl, gz, k⟩ := g
  refine ⟨_, tk, dr, rfl, Nat.le_trans gz (Nat.le_of_lt (Heap.lt_size hc)), fun b o e => ?_⟩
  have hb := Heap.lt_size (k b o e)
  rw [sortedHeap_old (Nat.ne_of_lt hb) (by rw [size_push']; exact Nat.lt_succ_of_lt hb)]
  exact Heap.get?_push_of_some _ (k b o e)
end
section
variable {X : Cx} {pins : List (Addr × Obj)} {σ : St} {H : Hp} {s s' : Shared}
theorem Grew.push (g : Grew s s') (o : Obj) : Grew s { s' with heap := s'.heap.push o } := by
  obtain ⟨h', tk, dr, rfl, gz, k⟩ := g
  exact ⟨h'.push o, tk, dr, rfl, by rw [size_push']; exact Nat.le_succ_of_le gz, fun b u e => Heap.get?_push_of_some _ (k b u e)⟩
end
end L2
set_option Elab.async false
set_option linter.all false
set_option maxRecDepth 100000
set_option maxHeartbeats 4000000
namespace L2
open PySem PySem.Spec PyProof.Rows PySem.W
theorem Rd.upd {H : Hp} {a l : Addr} {o u : HO} (h : Rd H a o) (hl : H l = none) : Rd (upd H l u) a o := by
  have ne : a ≠ l := by
    rintro rfl
    rcases h with h | ⟨_, h⟩ <;> (rw [hl] at h; cases h)
  rcases h with h | ⟨x, h⟩
  · exact .inl (by rw [upd_ne ne]; exact h)
  · exact .inr ⟨x, by rw [upd_ne ne]; exact h⟩
theorem KV.vals {kvs : List (Key × V)} {vs : List (Key × Value)} (r : KV kvs vs) : Vals (kvs.map (·.2)) (vs.map (·.2)) := by
  unfold KV at r
  induction r with
  | nil => exact .nil
  | cons h t ih => exact .cons h.2 ih
theorem KV.len {kvs : List (Key × V)} {vs : List (Key × Value)} (r : KV kvs vs) : kvs.length = vs.length := by
  have := congrArg List.length r.keys
  simpa using this
theorem RdK.upd {H : Hp} {a l : Addr} {kvs : List (Key × V)} {u : HO} (h : RdK H a kvs) (hl : H l = none) : RdK (upd H l u) a kvs := let ⟨ep, e⟩ := h; ⟨ep, Rd.upd e hl⟩
theorem Inv.laidG {X : Cx} {pins : List (Addr × Obj)} {σ : St} {H : Hp} {s s' : Shared} {a : Addr} {o : HO} (I : Inv X pins σ H s) (g : Grew s s') (hp : s.heap.objs.size ≤ a) (new : ObjOk X.prog X.w (L2.upd H a o) s'.heap a o) : Inv X pins σ (L2.upd H a o) s' := by
  obtain ⟨h', tk, dr, rfl, _, k⟩ := g
  exact I.call (g' := s.gens) (d' := dr) (t' := tk) (ch := []) (Un.laid k hp (I.hok.fresh hp)) (I.hok.laid k hp new) I.bare fun _ z => nomatch z
section
variable {X : Cx}
noncomputable def rSortD : List V → Hp → VK → Prop := fun xs H Q => ∃ a kvs ss, xs = [.ref a] ∧ RdK H a kvs ∧ kvs.map (·.1) = ss.map Sum.inr ∧ ss.length < 64 ∧ ∀ l out, out.Perm ss → sortedS out = true → H l = none → Q (.ref l) (upd H l (.lst (out.map V.str)))
theorem strs_keys {prog : Program} {w : World} : ∀ {ss : List Str} {vs : List (Key × Value)} {us : List Value}, vs.map (·.1) = ss.map Sum.inr → us.length = vs.length → (∀ (j : Nat) v, us[j]? = some v → ∃ k x, vs[j]? = some (k, x) ∧ (mixKind prog w).is k v = true) → StrsAre us ss
  | [], [], [], _, _, _ => .nil
  | [], [], _ :: _, _, h, _ => by cases h
  | [], _ :: _, _, h, _, _ => by cases h
  | _ :: _, [], _, h, _, _ => by cases h
  | _ :: _, _ :: _, [], _, h, _ => by cases h
  | t :: ss, (k, x) :: vs, u :: us, h, hl, hu => by
    rw [List.map_cons, List.map_cons] at h
    have h := List.cons.inj h
    have e : k = Sum.inr t := h.1
    subst e
    obtain ⟨k', x', e', hk⟩ := hu 0 u rfl
    cases e'
    rcases keyIs_shape (show keyIs (Sum.inr t) u = true from hk) with ⟨i, tk, z, _⟩ | ⟨y, tk, z, rfl⟩
    · cases z
    · cases z
      exact .cons _ tk (strs_keys h.2 (by simpa using hl) fun j v e => hu (j + 1) v (by simpa using e))
theorem sortD (hc : X.calm = true := by rfl) : CallR X (.builtin "sorted") rSortD := by
  intro pins s σ H xs us Q I r ⟨a, kvs, ss, e, ha, hk, h64, q⟩
  subst e
  obtain ⟨u, rfl, rx⟩ := vals1 r
  cases rx
  obtain ⟨hz, hd, vs, rel, dd⟩ := dk_rd I.hok ha
  obtain ⟨ep, dd⟩ := dd.dictAt
  rw [rel.keys] at hk
  refine sorted_strs_from (R := fun tt => tt = ss) (fun E' Q' k => ?_) (fun tt e => by rw [e]; exact h64) fun l s2 out c tt tt' g hl hat h1 h2 h3 h4 => ?_
  · exact collect_src (kdl_dict (knd := mixKind X.prog X.w) (d := a) (kvs := vs) (ep := ep) hd) (by exact I.ok.hd hc) dd (by rw [← rel.len]; exact hz) fun ws s1 g hl hw => k ws s1 ss g (strs_keys hk hl hw) rfl
  · subst h2
    exact ⟨.ref l, _, I.laidG (o := .lst (tt'.map V.str)) g hl ⟨by rw [List.length_map, h3.length_eq]; rw [sizeLine_eq]; omega, out, c, vals_of_strs h1, hat⟩, rfl, q _ tt' h3 h4 (I.hok.fresh hl)⟩
end
end L2
set_option Elab.async false
set_option linter.all false
set_option maxRecDepth 100000
set_option maxHeartbeats 4000000
namespace L2
open PySem PySem.Spec PyProof.Rows PySem.W
section
variable (prog : Program) (w : World)
noncomputable abbrev byT : Bool := w.params.followText "set-order"
noncomputable def SetAt (h : Heap) (a : Addr) (ks : List Str) (es : Array (Int × Value)) (ep : Nat) (t : SetTable) : Prop :=
  ∃ o, h.get? a = some o ∧ o.ExactSet ∧ o.data = .set es ep t ∧ ElemsOf (PySem.strKind prog w) es.toList ∧ (∃ us, StrsAre (es.toList.map (·.2)) us ∧ us.Perm ks) ∧ es.size < scanBound ∧ t.fits es.size = true ∧ t.led = !byT w ∧ (es.size = 0 ∨ t.plain = false)
noncomputable def StrSet (h : Heap) (a : Addr) (ks : List Str) : Prop := ∃ es ep t, SetAt prog w h a ks es ep t
variable {prog w}
theorem SetAt.at' {h h' : Heap} {a : Addr} {ks : List Str} {es : Array (Int × Value)} {ep : Nat} {t : SetTable} (x : SetAt prog w h a ks es ep t) (k : ∀ o, h.get? a = some o → h'.get? a = some o) : SetAt prog w h' a ks es ep t := let ⟨o, e, r⟩ := x; ⟨o, k o e, r⟩
theorem StrSet.at' {h h' : Heap} {a : Addr} {ks : List Str} (x : StrSet prog w h a ks) (k : ∀ o, h.get? a = some o → h'.get? a = some o) : StrSet prog w h' a ks := let ⟨es, ep, t, r⟩ := x; ⟨es, ep, t, r.at' k⟩
variable {A : Around} {E : Value → Shared → Prop} {s : Shared}
theorem SetAt.put {h : Heap} {a : Addr} {o : Obj} {es es' : Array (Int × Value)} {ep : Nat} {t t' : SetTable} {ks' : List Str} (ho : h.get? a = some o) (hex : o.ExactSet) (hd : o.data = .set es ep t)
    (hel : ElemsOf (PySem.strKind prog w) es'.toList) (hu : ∃ us, StrsAre (es'.toList.map (·.2)) us ∧ us.Perm ks') (hb : es'.size < scanBound) (hf : t'.fits es'.size = true) (hl : t'.led = !byT w) (hp : t'.plain = false) :
    ∃ o', (h.update a (Obj.putSet es' t')).get? a = some o' ∧ o'.ExactSet ∧ o'.data = .set es' (ep + 1) t' ∧ SetAt prog w (h.update a (Obj.putSet es' t')) a ks' es' (ep + 1) t' := by
  have g : (h.update a (Obj.putSet es' t')).get? a = some { o with data := .set es' (ep + 1) t' } := by
    have := Heap.get?_update_self (Obj.putSet es' t') ho (by rw [putSet_of es' t' hd]; rfl)
    rw [putSet_of es' t' hd] at this
    exact this
  exact ⟨_, g, hex, rfl, _, g, hex, rfl, hel, hu, hb, hf, hl, .inr hp⟩
end
end L2
set_option Elab.async false
set_option linter.all false
set_option maxRecDepth 100000
set_option maxHeartbeats 4000000
namespace L2
open PySem PySem.Spec PyProof.Rows PySem.W
section
variable {prog : Program} {w : World} {A : Around} {E : Value → Shared → Prop} {s : Shared}
end
end L2
set_option Elab.async false
set_option linter.all false
set_option maxRecDepth 100000
set_option maxHeartbeats 4000000
namespace L2
open PySem PySem.Spec PyProof.Rows PySem.W
section
variable {prog : Program} {w : World} {A : Around} {E : Value → Shared → Prop} {s : Shared}
end
end L2
set_option Elab.async false
set_option linter.all false
set_option maxRecDepth 100000
set_option maxHeartbeats 4000000
namespace L2
open PySem PySem.Spec PyProof.Rows PySem.W
section
variable {prog : Program} {w : World} {A : Around} {E : Value → Shared → Prop} {s : Shared}
end
end L2
set_option Elab.async false
set_option linter.all false
set_option maxRecDepth 100000
set_option maxHeartbeats 4000000
namespace L2
open PySem PySem.Spec PyProof.Rows PySem.W
section
variable {prog : Program} {w : World} {A : Around} {E : Value → Shared → Prop} {s : Shared}
noncomputable def SetIt (h : Heap) (I a : Addr) (first : Value) (i n ep : Nat) : Prop := ∃ o, h.get? I = some o ∧ o.cls = .type "set_iterator" ∧ o.data = .fields #[first, rawInt (i : Int), .ref a, rawInt (n : Int), rawInt (ep : Int)]
theorem SetIt.typeIs {I a : Addr} {first : Value} {i n ep : Nat} (x : SetIt s.heap I a first i n ep) : s.TypeIs (.ref I) "set_iterator" := let ⟨o, ho, hc, _⟩ := x; ⟨o, ho, hc⟩
inductive OrdI (w : World) (h : Heap) (es : Array (Int × Value)) (t : SetTable) (a : Addr) (ep : Nat) (ord : List Value) (T : Addr) : Value → Nat → Prop
  | drawn {ps : List Nat} {o : Obj} (i : Nat) (ho : h.get? T = some o) (hd : o.data = .seq (ps.map fun i : Nat => rawInt i).toArray 0) (hc : o.cls = .type "tuple") (he : ∀ j : Nat, (ps[j]?.bind fun p => (es[p]?).map (·.2)) = ord[j]?) (hl : ∀ (j : Nat) p, ps[j]? = some p → p < es.size) (hn : ps.length = es.size) : OrdI w h es t a ep ord T (.ref T) i
  | text (k i : Nat) (hb : byT w = true) (he : ord = (pickOrder (w.params.setOrder a ep) es).toList.map (·.2)) : OrdI w h es t a ep ord T (rawInt (k : Int)) i
  | none (k : Nat) (hb : byT w = false) (hn : es.size = 0) (he : ord = []) : OrdI w h es t a ep ord T (rawInt (k : Int)) 0
  | one0 {x : Int × Value} {p : Nat} (hb : byT w = false) (hn : es = #[x]) (hp : t.place = #[p]) (he : ord = [x.2]) : OrdI w h es t a ep ord T (rawInt 0) 0
  | one1 {x : Int × Value} {p : Nat} (hb : byT w = false) (hn : es = #[x]) (hp : t.place = #[p]) (he : ord = [x.2]) : OrdI w h es t a ep ord T (rawInt ((p + 1 : Nat) : Int)) 1
theorem OrdI.at' {h h' : Heap} {es : Array (Int × Value)} {t : SetTable} {a : Addr} {ep : Nat} {ord : List Value} {T : Addr} {f : Value} {i : Nat} (x : OrdI w h es t a ep ord T f i) (k : ∀ o, h.get? T = some o → h'.get? T = some o) : OrdI w h' es t a ep ord T f i := by
  cases x with
  | drawn i ho hd hc he hl hn => exact .drawn i (k _ ho) hd hc he hl hn
  | text k i hb he => exact .text k i hb he
  | none k hb hn he => exact .none k hb hn he
  | one0 hb hn hp he => exact .one0 hb hn hp he
  | one1 hb hn hp he => exact .one1 hb hn hp he
end
end L2
set_option Elab.async false
set_option linter.all false
set_option maxRecDepth 100000
set_option maxHeartbeats 4000000
namespace L2
open PySem PySem.Spec PyProof.Rows PySem.W
section
variable {prog : Program} {w : World} {A : Around} {E : Value → Shared → Prop} {s : Shared}
theorem SetIt.put {I a : Addr} {f : Value} {i n ep k : Nat} {x : Value} {h : Heap} (hit : SetIt h I a f i n ep) (hk : k < 5) :
    ∃ o, (h.update I (Obj.mapFields (·.setIfInBounds k x))).get? I = some o ∧ o.cls = .type "set_iterator" ∧ o.data = .fields (#[f, rawInt (i : Int), .ref a, rawInt (n : Int), rawInt (ep : Int)].setIfInBounds k x) := by
  obtain ⟨o, ho, hc, hd⟩ := hit
  exact ⟨_, Heap.get?_update_self _ ho (Obj.isFreed_of_fields (Obj.data_mapFields hd _)), (Obj.cls_mapFields ..).trans hc, Obj.data_mapFields hd _⟩
end
end L2
set_option Elab.async false
set_option linter.all false
set_option maxRecDepth 100000
set_option maxHeartbeats 4000000
namespace L2
open PySem PySem.Spec PyProof.Rows PySem.W
section
variable {prog : Program} {w : World} {A : Around} {E : Value → Shared → Prop} {s : Shared}
end
end L2
set_option Elab.async false
set_option linter.all false
set_option maxRecDepth 100000
set_option maxHeartbeats 4000000
namespace L2
open PySem PySem.Spec PyProof.Rows PySem.W
section
variable {X : Cx}
end
end L2
namespace Mr
open PySem PySem.Spec L2 PyProof.Rows
section
variable {K : PySem.W.Frag}
end
end Mr
set_option Elab.async false
set_option linter.all false
set_option maxRecDepth 100000
set_option maxHeartbeats 4000000
namespace Mr
open PySem PySem.Spec L2 PyProof.Rows PySem.W
noncomputable def lexP (lt : PV → PV → Option Bool) : List PV → List PV → Option Bool
  | [], [] => some false
  | [], _ :: _ => some true
  | _ :: _, [] => some false
  | x :: xs, y :: ys => if eqP x y = true then lexP lt xs ys else lt x y
noncomputable def ltP : Nat → PV → PV → Option Bool
  | _, .str a, .str b => some (decide (a.cps.toList < b.cps.toList))
  | _, .int a, .int b => some (decide (a < b))
  | n + 1, .tup xs, .tup ys => lexP (ltP n) xs ys
  | _, _, _ => none
section
variable {s : Shared}
theorem lexR_P {A : Around} {lt : PV → PV → Option Bool} : ∀ {xs ys : List PV} {us vs : List Value} {c : Bool} {fin : Bool}, LiesL s.heap xs us → LiesL s.heap ys vs → (∀ x ∈ xs, ∀ y ∈ ys, ∀ u v, Lies s.heap x u → Lies s.heap y v → SeqAt.EqAt A s u v (eqP x y) ∧ ∀ b, lt x y = some b → LtAt A s u v b) →
    fin = decide (us.length < vs.length) → lexP lt xs ys = some c → LexR A s fin (us.zip vs) c := by
  intro xs
  induction xs with
  | nil =>
    intro ys us vs c fin h1 h2 hk hf h
    cases h1
    cases h2 <;> (cases h; rw [hf]; exact .done)
  | cons x xs ih =>
    intro ys us vs c fin h1 h2 hk hf h
    cases h1 with
    | cons r1 rr1 =>
      cases h2 with
      | nil => cases h; rw [hf]; exact .done
      | @cons y _ ys _ r2 rr2 =>
        obtain ⟨he, hl⟩ := hk x List.mem_cons_self y List.mem_cons_self _ _ r1 r2
        unfold lexP at h
        cases e : eqP x y with
        | true =>
          rw [e] at he
          rw [if_pos e] at h
          exact .same he (ih rr1 rr2 (fun a ha b hb => hk a (List.mem_cons_of_mem _ ha) b (List.mem_cons_of_mem _ hb)) (by rw [hf]; simp) h)
        | false =>
          rw [e] at he
          rw [if_neg (by rw [e]; exact Bool.false_ne_true)] at h
          exact .less he (hl c h)
theorem ltAt_P : ∀ (n : Nat) (A : Around) {p q : PV} {v u : Value} {b : Bool}, A.units + n < cLine → okP n p = true → okP n q = true → Lies s.heap p v → Lies s.heap q u → ltP n p q = some b → LtAt A s v u b := by
  intro n
  induction n with
  | zero =>
    intro A p q v u b hu o1 o2 h1 h2 h
    cases p with
    | str x =>
      cases q with
      | str y => cases h; cases h1; cases h2; exact fun prog w E Q q => PySem.P.lt_str q
      | _ => cases h
    | int x =>
      cases q with
      | int y => cases h; cases h1; cases h2; exact fun prog w E Q q => PyProof.Rows.lt_int q
      | _ => cases h
    | _ => cases q <;> cases h
  | succ n ih =>
    intro A p q v u b hu o1 o2 h1 h2 h
    cases p with
    | str x =>
      cases q with
      | str y => cases h; cases h1; cases h2; exact fun prog w E Q q => PySem.P.lt_str q
      | _ => cases h
    | int x =>
      cases q with
      | int y => cases h; cases h1; cases h2; exact fun prog w E Q q => PyProof.Rows.lt_int q
      | _ => cases h
    | tup xs =>
      cases q with
      | tup ys =>
        cases h1 with
        | tup t1 l1 =>
          cases h2 with
          | tup t2 l2 =>
            have hin : A.in1.units = A.units + 1 := rfl
            have o1 : xs.all (okP n) = true := o1
            have o2 : ys.all (okP n) = true := o2
            refine lt_tup t1 t2 (by omega) ?_
            simpa using lexR_P (A := A.in1) (s := s) l1 l2 (fun x hx y hy u v a b => ⟨eqAt_P n A.in1 (by omega) (List.all_eq_true.mp o1 x hx) (List.all_eq_true.mp o2 y hy) a b, fun c hc => ih A.in1 (by omega) (List.all_eq_true.mp o1 x hx) (List.all_eq_true.mp o2 y hy) a b hc⟩) rfl h
      | _ => cases h
    | _ => cases q <;> cases h
theorem kl_restP {prog : Program} {w : World} {A : Around} {fin : Bool} {lt : PV → PV → Option Bool} {C : Bool → Shared → Prop} : ∀ {xs ys : List PV} {us vs : List Value} {c : Bool} (i : Nat), 1 ≤ i → LiesL s.heap xs us → LiesL s.heap ys vs →
    (∀ x ∈ xs, ∀ y ∈ ys, ∀ u v, Lies s.heap x u → Lies s.heap y v → SeqAt.EqAt A s u v (eqP x y) ∧ ∀ b, lt x y = some b → LtAt A s u v b) → fin = decide (us.length < vs.length) → lexP lt xs ys = some c → C c s → KatLex prog w A true fin C (us.zip vs) i s := by
  intro xs
  induction xs with
  | nil =>
    intro ys us vs c i hi h1 h2 hk hf h hC
    cases h1
    cases h2 <;> (cases h; exact kat_nil (by rw [hf]; exact hC))
  | cons x xs ih =>
    intro ys us vs c i hi h1 h2 hk hf h hC
    cases h1 with
    | cons r1 rr1 =>
      cases h2 with
      | nil => cases h; exact kat_nil (by rw [hf]; exact hC)
      | @cons y _ ys _ r2 rr2 =>
        obtain ⟨he, hl⟩ := hk x List.mem_cons_self y List.mem_cons_self _ _ r1 r2
        refine kat_cons (he prog w _ _ ?_)
        unfold lexP at h
        cases e : eqP x y with
        | true =>
          rw [if_pos e] at h
          exact kat_yes (ih (i + 1) (by omega) rr1 rr2 (fun a ha b hb => hk a (List.mem_cons_of_mem _ ha) b (List.mem_cons_of_mem _ hb)) (by rw [hf]; simp) h hC)
        | false =>
          rw [if_neg (by rw [e]; exact Bool.false_ne_true)] at h
          refine kat_no ?_
          have e0 : (true && i == 0) = false := by simp; omega
          rw [e0]
          exact kat_one _ _ (hl c h prog w _ _ hC)
noncomputable def ledP (b : Bool) : PV → Bool
  | .tup (.str _ :: _) => b
  | .tup (.int _ :: _) => !b
  | _ => false
noncomputable def ledT (b : Bool) : String := if b then "str" else "int"
theorem askP {prog : Program} {w : World} {A : Around} {b : Bool} {n : Nat} {ps : List PV} {vs : List Value} (hl : LiesL s.heap ps vs) (hu : A.units + n < cLine) (led : ∀ p ∈ ps, ledP b p = true) (ok : ∀ p ∈ ps, okP (n + 1) p = true)
    {i j : Nat} {c : Bool} {C : Bool → Shared → Prop} {p q : PV} (hp : ps[i]? = some p) (hq : ps[j]? = some q) (hc : ltP (n + 1) p q = some c) (hC : C c s) : kas_ask prog w A (tuples' (Value.type (ledT b) != Value.type "tuple")) vs i j C s := by
  have kt : (Value.type (ledT b) != Value.type "tuple") = true := by cases b <;> decide
  obtain ⟨u, hu1, lu⟩ : ∃ u, vs[i]? = some u ∧ Lies s.heap p u := by
    have hlt : i < vs.length := by rw [← hl.length]; exact (List.getElem?_eq_some_iff.mp hp).1
    obtain ⟨p', e, l⟩ := hl.get (List.getElem?_eq_getElem hlt)
    rw [hp] at e; cases e
    exact ⟨_, List.getElem?_eq_getElem hlt, l⟩
  obtain ⟨v, hv1, lv⟩ : ∃ v, vs[j]? = some v ∧ Lies s.heap q v := by
    have hlt : j < vs.length := by rw [← hl.length]; exact (List.getElem?_eq_some_iff.mp hq).1
    obtain ⟨p', e, l⟩ := hl.get (List.getElem?_eq_getElem hlt)
    rw [hq] at e; cases e
    exact ⟨_, List.getElem?_eq_getElem hlt, l⟩
  have l1 := led p (List.mem_of_getElem? hp)
  have l2 := led q (List.mem_of_getElem? hq)
  have o1 := ok p (List.mem_of_getElem? hp)
  have o2 := ok q (List.mem_of_getElem? hq)
  show wpAny _ _ (keyLt' _ (vs.getD i Value.none) (vs.getD j Value.none)) C _ s
  rw [List.getD_eq_getElem?_getD, hu1, List.getD_eq_getElem?_getD, hv1, kt]
  cases lu with
  | @tup _ us xs t1 r1 =>
    cases lv with
    | @tup _ vs' ys t2 r2 =>
      obtain ⟨oa, ga, _, na, da⟩ := t1
      obtain ⟨ob, gb, _, nb, db⟩ := t2
      refine kat_lt ga da gb db ?_
      have o1 : xs.all (okP n) = true := o1
      have o2 : ys.all (okP n) = true := o2
      have key : ∀ x ∈ xs, ∀ y ∈ ys, ∀ u v, Lies s.heap x u → Lies s.heap y v → SeqAt.EqAt A s u v (eqP x y) ∧ ∀ b, ltP n x y = some b → LtAt A s u v b := fun x hx y hy u v a b =>
        ⟨eqAt_P n A hu (List.all_eq_true.mp o1 x hx) (List.all_eq_true.mp o2 y hy) a b, fun c hc => ltAt_P n A hu (List.all_eq_true.mp o1 x hx) (List.all_eq_true.mp o2 y hy) a b hc⟩
      have hc : lexP (ltP n) xs ys = some c := hc
      cases r1 with
      | nil => cases l1
      | @cons x u0 xs us a1 a2 =>
        cases r2 with
        | nil => cases l2
        | @cons y v0 ys vs' b1 b2 =>
          obtain ⟨he, _⟩ := key x List.mem_cons_self y List.mem_cons_self _ _ a1 b1
          refine kat_cons (he prog w _ _ ?_)
          unfold lexP at hc
          cases e : eqP x y with
          | true =>
            rw [if_pos e] at hc
            exact kat_yes (kl_restP 1 (Nat.le_refl _) a2 b2 (fun a ha b hb => key a (List.mem_cons_of_mem _ ha) b (List.mem_cons_of_mem _ hb)) (by simp) hc hC)
          | false =>
            rw [if_neg (by rw [e]; exact Bool.false_ne_true)] at hc
            refine kat_no ?_
            cases x with
            | str x =>
              cases y with
              | str y =>
                have hc : some (decide (x.cps.toList < y.cps.toList)) = some c := by cases n <;> exact hc
                cases hc
                cases a1
                cases b1
                exact oneLt_str hC
              | int y => cases b <;> cases l1 <;> cases l2
              | _ => cases l2
            | int x =>
              cases y with
              | int y =>
                have hc : some (decide (x < y)) = some c := by cases n <;> exact hc
                cases hc
                cases a1
                cases b1
                exact oneLt_int hC
              | str y => cases b <;> cases l1 <;> cases l2
              | _ => cases l2
            | _ => cases l1
    | _ => cases l2
  | _ => cases l1
end
end Mr
set_option Elab.async false
set_option linter.all false
set_option maxRecDepth 100000
set_option maxHeartbeats 4000000
namespace Mr
open PySem PySem.Spec L2 PyProof.Rows PySem.W
noncomputable def plP : Nat → PV → Bool
  | _, .non => true
  | _, .int _ => true
  | _, .str _ => true
  | n + 1, .tup ps => ps.all (plP n)
  | _, _ => false
theorem plP_ok : ∀ {n : Nat} {p : PV}, plP n p = true → okP n p = true := by
  intro n
  induction n with
  | zero => intro p h; cases p <;> first | rfl | cases h
  | succ n ih =>
    intro p h
    cases p with
    | tup ps => exact List.all_eq_true.mpr fun x hx => ih (List.all_eq_true.mp h x hx)
    | lst ps => cases h
    | dct ps => cases h
    | ty x => cases h
    | bl x => cases h
    | _ => rfl
theorem eqPL_eq {n : Nat} (ih : ∀ {p q : PV}, plP n p = true → plP n q = true → eqP p q = true → p = q) : ∀ {xs ys : List PV}, xs.all (plP n) = true → ys.all (plP n) = true → eqPL xs ys = true → xs = ys
  | [], [], _, _, _ => rfl
  | [], _ :: _, _, _, h => by simp [eqPL] at h
  | _ :: _, [], _, _, h => by simp [eqPL] at h
  | x :: xs, y :: ys, h1, h2, h => by
    simp only [eqPL, Bool.and_eq_true] at h
    rw [List.all_cons, Bool.and_eq_true] at h1 h2
    rw [ih h1.1 h2.1 h.1, eqPL_eq ih h1.2 h2.2 h.2]
theorem eqP_eq : ∀ {n : Nat} {p q : PV}, plP n p = true → plP n q = true → eqP p q = true → p = q := by
  intro n
  induction n with
  | zero =>
    intro p q h1 h2 h
    cases p <;> cases q <;> first | rfl | (cases h1; done) | (cases h2; done) | (simp [eqP] at h; try subst h; try rfl)
  | succ n ih =>
    intro p q h1 h2 h
    cases p with
    | tup xs =>
      cases q with
      | tup ys => rw [eqP_tup] at h; rw [eqPL_eq ih h1 h2 h]
      | _ => simp [eqP] at h
    | lst xs => cases h1
    | dct xs => cases h1
    | ty xs => cases h1
    | bl xs => cases h1
    | non => cases q <;> first | rfl | (simp [eqP] at h)
    | int i => cases q <;> first | (cases h2; done) | (simp [eqP] at h; try subst h; try rfl)
    | str i => cases q <;> first | (cases h2; done) | (simp [eqP] at h; try subst h; try rfl)
theorem eqPL_refl {n : Nat} (ih : ∀ {p : PV}, plP n p = true → eqP p p = true) : ∀ {xs : List PV}, xs.all (plP n) = true → eqPL xs xs = true
  | [], _ => by simp [eqPL]
  | x :: xs, h => by
    rw [List.all_cons, Bool.and_eq_true] at h
    simp only [eqPL, Bool.and_eq_true]
    exact ⟨ih h.1, eqPL_refl ih h.2⟩
theorem eqP_refl : ∀ {n : Nat} {p : PV}, plP n p = true → eqP p p = true := by
  intro n
  induction n with
  | zero => intro p h; cases p <;> first | (simp [eqP]; done) | cases h
  | succ n ih =>
    intro p h
    cases p with
    | tup xs => rw [eqP_tup]; exact eqPL_refl ih h
    | lst xs => cases h
    | dct xs => cases h
    | ty xs => cases h
    | bl xs => cases h
    | _ => simp [eqP]
noncomputable def code : Nat → PV → List Int
  | _, .str x => x.cps.toList.map (fun c : Nat => (c : Int) + 1) ++ [0]
  | _, .int i => [i]
  | n + 1, .tup xs => xs.flatMap (fun x => 1 :: code n x) ++ [0]
  | _, _ => [0]
noncomputable abbrev ltC : List Int → List Int → Bool := listB intO
theorem ltC_pre (a r r' : List Int) : ltC (a ++ r) (a ++ r') = ltC r r' := by
  induction a with
  | nil => rfl
  | cons x a ih =>
    show stepB intO x x (ltC (a ++ r) (a ++ r')) = _
    exact (stepB_eq (A := intO) (a := x)).trans ih
theorem ltC_cons {x y : Int} {r r' : List Int} : ltC (x :: r) (y :: r') = if x = y then ltC r r' else decide (x < y) := by
  show stepB intO x y (ltC r r') = _
  rcases ko_cases (A := intO) x y with ⟨a, b⟩ | ⟨a, b⟩ | a
  · rw [stepB_lt a]
    have a := of_decide_eq_true a
    rw [if_neg (by omega), decide_eq_true a]
  · rw [stepB_gt a]
    have a := of_decide_eq_true a
    rw [if_neg (by omega), decide_eq_false (by omega)]
  · subst a
    rw [if_pos rfl]
    exact stepB_eq (A := intO) (a := x)
theorem ltC_str : ∀ (a b : List Nat) (r r' : List Int), ltC ((a.map fun c : Nat => (c : Int) + 1) ++ [0] ++ r) ((b.map fun c : Nat => (c : Int) + 1) ++ [0] ++ r') = if a = b then ltC r r' else decide (a < b)
  | [], [], r, r' => by
    rw [if_pos rfl]
    exact ltC_pre [0] r r'
  | [], y :: b, r, r' => by
    rw [if_neg (by simp)]
    show ltC (0 :: r) (((y : Int) + 1) :: _) = _
    rw [ltC_cons, if_neg (by omega), decide_eq_true (by omega)]
    exact (decide_eq_true (by simp)).symm
  | x :: a, [], r, r' => by
    rw [if_neg (by simp)]
    show ltC (((x : Int) + 1) :: _) (0 :: r') = _
    rw [ltC_cons, if_neg (by omega), decide_eq_false (by omega)]
    exact (decide_eq_false (by simp)).symm
  | x :: a, y :: b, r, r' => by
    show ltC (((x : Int) + 1) :: ((a.map fun c : Nat => (c : Int) + 1) ++ [0] ++ r)) (((y : Int) + 1) :: ((b.map fun c : Nat => (c : Int) + 1) ++ [0] ++ r')) = _
    rw [ltC_cons, ltC_str a b r r']
    by_cases e : x = y
    · subst e
      rw [if_pos rfl]
      by_cases e2 : a = b
      · subst e2; rw [if_pos rfl, if_pos rfl]
      · rw [if_neg e2, if_neg (by simpa using e2)]
        congr 1
        simp [List.cons_lt_cons_iff]
    · rw [if_neg (by omega), if_neg (by intro z; exact e (List.cons.inj z).1)]
      by_cases h : x < y
      · rw [decide_eq_true (show (x : Int) + 1 < y + 1 by omega)]
        exact (decide_eq_true (List.cons_lt_cons_iff.mpr (.inl h))).symm
      · rw [decide_eq_false (show ¬ (x : Int) + 1 < y + 1 by omega)]
        refine (decide_eq_false fun z => ?_).symm
        rcases List.cons_lt_cons_iff.mp z with z | z
        · exact h z
        · exact e z.1
theorem code_lex {n : Nat} (ih : ∀ {p q : PV} {b : Bool} (r r' : List Int), plP n p = true → plP n q = true → ltP n p q = some b → ltC (code n p ++ r) (code n q ++ r') = if eqP p q = true then ltC r r' else b) :
    ∀ {xs ys : List PV} {b : Bool} (r r' : List Int), xs.all (plP n) = true → ys.all (plP n) = true → lexP (ltP n) xs ys = some b →
      ltC (xs.flatMap (fun x => 1 :: code n x) ++ [0] ++ r) (ys.flatMap (fun x => 1 :: code n x) ++ [0] ++ r') = if eqPL xs ys = true then ltC r r' else b
  | [], [], b, r, r', _, _, h => by
    rw [if_pos (by simp [eqPL])]
    exact ltC_pre [0] r r'
  | [], y :: ys, b, r, r', _, _, h => by
    cases h
    rw [if_neg (by simp [eqPL])]
    show ltC (0 :: r) (1 :: _) = _
    rw [ltC_cons]; rfl
  | x :: xs, [], b, r, r', _, _, h => by
    cases h
    rw [if_neg (by simp [eqPL])]
    show ltC (1 :: _) (0 :: r') = _
    rw [ltC_cons]; rfl
  | x :: xs, y :: ys, b, r, r', h1, h2, h => by
    rw [List.all_cons, Bool.and_eq_true] at h1 h2
    have e1 : ∀ (z : PV) (zs : List PV) (w : List Int), (z :: zs).flatMap (fun x => 1 :: code n x) ++ [0] ++ w = 1 :: (code n z ++ (zs.flatMap (fun x => 1 :: code n x) ++ [0] ++ w)) := fun z zs w => by simp
    rw [e1, e1, ltC_cons, if_pos rfl]
    unfold lexP at h
    cases e : eqP x y with
    | true =>
      rw [if_pos e] at h
      have exy := eqP_eq h1.1 h2.1 e
      subst exy
      rw [ltC_pre, code_lex ih r r' h1.2 h2.2 h]
      simp only [eqPL, e, Bool.true_and]
    | false =>
      rw [if_neg (by rw [e]; exact Bool.false_ne_true)] at h
      rw [ih _ _ h1.1 h2.1 h, if_neg (by rw [e]; exact Bool.false_ne_true), if_neg (by simp [eqPL, e])]
theorem code_lt : ∀ {n : Nat} {p q : PV} {b : Bool} (r r' : List Int), plP n p = true → plP n q = true → ltP n p q = some b → ltC (code n p ++ r) (code n q ++ r') = if eqP p q = true then ltC r r' else b := by
  have str : ∀ {n : Nat} {x y : Str} {b : Bool} (r r' : List Int), ltP n (.str x) (.str y) = some b → ltC (code n (.str x) ++ r) (code n (.str y) ++ r') = if eqP (.str x) (.str y) = true then ltC r r' else b := fun {n x y b} r r' h => by
    have h : some (decide (x.cps.toList < y.cps.toList)) = some b := by cases n <;> exact h
    cases h
    have e1 : ∀ z : Str, code n (.str z) = z.cps.toList.map (fun c : Nat => (c : Int) + 1) ++ [0] := fun z => by cases n <;> rfl
    rw [e1, e1, ltC_str]
    by_cases e : x = y
    · subst e; rw [if_pos rfl, if_pos (by simp [eqP])]
    · rw [if_neg (fun z => e (str_cps z)), if_neg (by simpa [eqP] using e)]
  have int : ∀ {n : Nat} {x y : Int} {b : Bool} (r r' : List Int), ltP n (.int x) (.int y) = some b → ltC (code n (.int x) ++ r) (code n (.int y) ++ r') = if eqP (.int x) (.int y) = true then ltC r r' else b := fun {n x y b} r r' h => by
    have h : some (decide (x < y)) = some b := by cases n <;> exact h
    cases h
    have e1 : ∀ z : Int, code n (.int z) = [z] := fun z => by cases n <;> rfl
    rw [e1, e1]
    show ltC (x :: r) (y :: r') = _
    rw [ltC_cons]
    by_cases e : x = y
    · subst e; rw [if_pos rfl, if_pos (by simp [eqP])]
    · rw [if_neg e, if_neg (by simpa [eqP] using e)]
  intro n
  induction n with
  | zero =>
    intro p q b r r' h1 h2 h
    cases p with
    | str x => cases q with
      | str y => exact str r r' h
      | _ => cases h
    | int x => cases q with
      | int y => exact int r r' h
      | _ => cases h
    | _ => cases q <;> cases h
  | succ n ih =>
    intro p q b r r' h1 h2 h
    cases p with
    | str x => cases q with
      | str y => exact str r r' h
      | _ => cases h
    | int x => cases q with
      | int y => exact int r r' h
      | _ => cases h
    | tup xs => cases q with
      | tup ys =>
        rw [eqP_tup]
        exact code_lex ih r r' h1 h2 h
      | _ => cases h
    | _ => cases q <;> cases h
end Mr
set_option Elab.async false
set_option linter.all false
set_option maxRecDepth 100000
set_option maxHeartbeats 4000000
namespace Mr
open PySem PySem.Spec L2 PyProof.Rows PySem.W
theorem tri_lex {n : Nat} (ih : ∀ {p q : PV}, ltP n p q = some false → ltP n q p = some false → eqP p q = true) (sym : ∀ p q : PV, eqP p q = eqP q p) : ∀ {xs ys : List PV}, lexP (ltP n) xs ys = some false → lexP (ltP n) ys xs = some false → eqPL xs ys = true
  | [], [], _, _ => by simp [eqPL]
  | [], _ :: _, h, _ => by cases h
  | _ :: _, [], _, h => by cases h
  | x :: xs, y :: ys, h, h' => by
    unfold lexP at h h'
    rw [sym y x] at h'
    cases e : eqP x y with
    | true =>
      rw [if_pos e] at h h'
      simp only [eqPL, e, Bool.true_and]
      exact tri_lex ih sym h h'
    | false =>
      rw [if_neg (by rw [e]; exact Bool.false_ne_true)] at h h'
      rw [ih h h'] at e
      cases e
mutual
theorem eqP_sym : ∀ p q : PV, eqP p q = eqP q p
  | .non, q => by cases q <;> simp [eqP]
  | .bl a, q => by cases q <;> simp only [eqP] <;> (rw [Bool.eq_iff_iff, beq_iff_eq, beq_iff_eq]; exact eq_comm)
  | .int a, q => by cases q <;> simp only [eqP] <;> (rw [Bool.eq_iff_iff, beq_iff_eq, beq_iff_eq]; exact eq_comm)
  | .str a, q => by cases q <;> simp only [eqP] <;> (rw [Bool.eq_iff_iff, beq_iff_eq, beq_iff_eq]; exact eq_comm)
  | .ty a, q => by cases q <;> simp [eqP]
  | .dct a, q => by cases q <;> simp [eqP]
  | .tup xs, q => by
    cases q with
    | tup ys => simp only [eqP]; exact eqPL_sym xs ys
    | _ => simp [eqP]
  | .lst xs, q => by
    cases q with
    | lst ys => simp only [eqP]; exact eqPL_sym xs ys
    | _ => simp [eqP]
theorem eqPL_sym : ∀ xs ys : List PV, eqPL xs ys = eqPL ys xs
  | [], ys => by cases ys <;> simp [eqPL]
  | x :: xs, [] => by simp [eqPL]
  | x :: xs, y :: ys => by simp only [eqPL]; rw [eqP_sym x y, eqPL_sym xs ys]
end
theorem tri : ∀ {n : Nat} {p q : PV}, ltP n p q = some false → ltP n q p = some false → eqP p q = true := by
  have str : ∀ {x y : Str}, ¬ x.cps.toList < y.cps.toList → ¬ y.cps.toList < x.cps.toList → eqP (.str x) (.str y) = true := fun h h' => by
    have e := List.le_antisymm (List.not_lt.mp h') (List.not_lt.mp h)
    rw [str_cps e]
    simp [eqP]
  have int : ∀ {x y : Int}, ¬ x < y → ¬ y < x → eqP (.int x) (.int y) = true := fun h h' => by
    have e : _ = _ := Int.le_antisymm (Int.not_lt.mp h') (Int.not_lt.mp h)
    rw [e]
    simp [eqP]
  intro n
  induction n with
  | zero =>
    intro p q h h'
    cases p with
    | str x => cases q with
      | str y => exact str (of_decide_eq_false (Option.some.inj h)) (of_decide_eq_false (Option.some.inj h'))
      | _ => cases h
    | int x => cases q with
      | int y => exact int (of_decide_eq_false (Option.some.inj h)) (of_decide_eq_false (Option.some.inj h'))
      | _ => cases h
    | _ => cases q <;> cases h
  | succ n ih =>
    intro p q h h'
    cases p with
    | str x => cases q with
      | str y => exact str (of_decide_eq_false (Option.some.inj h)) (of_decide_eq_false (Option.some.inj h'))
      | _ => cases h
    | int x => cases q with
      | int y => exact int (of_decide_eq_false (Option.some.inj h)) (of_decide_eq_false (Option.some.inj h'))
      | _ => cases h
    | tup xs => cases q with
      | tup ys => rw [eqP_tup]; exact tri_lex ih eqP_sym h h'
      | _ => cases h
    | _ => cases q <;> cases h
noncomputable def cmpAll (n : Nat) (ps : List PV) : Bool := ps.all fun p => plP n p && ps.all fun q => (ltP n p q).isSome
noncomputable abbrev codO : KeyOrd := listO intO
noncomputable def leC (n : Nat) (a b : PV) : Bool := !ltC (code n b) (code n a)
noncomputable def sortT (n : Nat) (ps : List PV) : List PV := ps.mergeSort (leC n)
theorem leC_trans {n : Nat} (a b c : PV) (h1 : leC n a b = true) (h2 : leC n b c = true) : leC n a c = true := by
  unfold leC at *
  rw [Bool.not_eq_true'] at *
  exact KeyOrd.kle_trans (O := codO) h1 h2
theorem leC_total {n : Nat} (a b : PV) : (leC n a b || leC n b a) = true := by
  unfold leC
  rcases ko_cases (A := codO) (code n a) (code n b) with ⟨x, y⟩ | ⟨x, y⟩ | x
  · rw [show ltC (code n b) (code n a) = false from y]; rfl
  · rw [show ltC (code n a) (code n b) = false from y]; simp
  · rw [x, show ltC (code n b) (code n b) = false from codO.irrefl _]; rfl
theorem sortT_perm (n : Nat) (ps : List PV) : (sortT n ps).Perm ps := List.mergeSort_perm ps (leC n)
theorem sortT_sorted (n : Nat) (ps : List PV) : (sortT n ps).Pairwise fun a b => leC n a b = true := List.pairwise_mergeSort leC_trans leC_total ps
theorem sorted_oneP {n : Nat} : ∀ {a b : List PV}, a.Pairwise (fun x y => leC n x y = true) → b.Pairwise (fun x y => leC n x y = true) → a.Perm b → (∀ x ∈ a, ∀ y ∈ a, leC n x y = true → leC n y x = true → x = y) → a = b
  | [], b, _, _, p, _ => List.Perm.nil_eq p
  | x :: a, [], _, _, p, _ => absurd p.symm.nil_eq (by simp)
  | x :: a, y :: b, ha, hb, p, an => by
    have hx := (List.pairwise_cons.mp ha).1
    have hy := (List.pairwise_cons.mp hb).1
    have e : x = y := by
      rcases List.mem_cons.mp (p.mem_iff.mp List.mem_cons_self) with z | z
      · exact z
      · rcases List.mem_cons.mp (p.mem_iff.mpr List.mem_cons_self) with w | w
        · exact w.symm
        · exact an x List.mem_cons_self y (List.mem_cons_of_mem _ w) (hx y w) (hy x z)
    subst e
    rw [sorted_oneP (List.pairwise_cons.mp ha).2 (List.pairwise_cons.mp hb).2 p.cons_inv fun u hu v hv => an u (List.mem_cons_of_mem _ hu) v (List.mem_cons_of_mem _ hv)]
theorem cmp_blt {n : Nat} {ps : List PV} (h : cmpAll n ps = true) {p q : PV} (hp : p ∈ ps) (hq : q ∈ ps) : ltP n p q = some (ltC (code n p) (code n q)) := by
  have a := List.all_eq_true.mp h p hp
  have b := List.all_eq_true.mp h q hq
  rw [Bool.and_eq_true] at a b
  have c := List.all_eq_true.mp a.2 q hq
  obtain ⟨v, e⟩ := Option.isSome_iff_exists.mp c
  have c' := List.all_eq_true.mp b.2 p hp
  obtain ⟨v', e'⟩ := Option.isSome_iff_exists.mp c'
  have k := code_lt [] [] a.1 b.1 e
  rw [List.append_nil, List.append_nil] at k
  rw [e, k]
  cases z : eqP p q with
  | false => rw [if_neg Bool.false_ne_true]
  | true =>
    rw [if_pos rfl]
    have epq := eqP_eq a.1 b.1 z
    subst epq
    rw [e] at e'
    cases e'
    show some v = some false
    have irr : ∀ {m : Nat} {p : PV} {v : Bool}, plP m p = true → ltP m p p = some v → v = false := by
      intro m p v hp h
      cases v with
      | false => rfl
      | true =>
        exfalso
        cases m with
        | zero =>
          cases p with
          | str x => exact absurd (of_decide_eq_true (Option.some.inj h)) (List.lt_irrefl _)
          | int x => exact absurd (of_decide_eq_true (Option.some.inj h)) (by omega)
          | _ => cases h
        | succ m =>
          cases p with
          | str x => exact absurd (of_decide_eq_true (Option.some.inj h)) (List.lt_irrefl _)
          | int x => exact absurd (of_decide_eq_true (Option.some.inj h)) (by omega)
          | tup xs =>
            have key : ∀ {l : List PV}, l.all (plP m) = true → lexP (ltP m) l l = some false := by
              intro l
              induction l with
              | nil => intro _; rfl
              | cons x l ih =>
                intro hl
                rw [List.all_cons, Bool.and_eq_true] at hl
                unfold lexP
                rw [if_pos (eqP_refl hl.1)]
                exact ih hl.2
            have := key (show xs.all (plP m) = true from hp)
            rw [show lexP (ltP m) xs xs = some true from h] at this
            cases this
          | _ => cases h
    rw [irr a.1 e]
theorem cmp_anti {n : Nat} {ps : List PV} (h : cmpAll n ps = true) {p q : PV} (hp : p ∈ ps) (hq : q ∈ ps) (h1 : leC n p q = true) (h2 : leC n q p = true) : p = q := by
  have a := List.all_eq_true.mp h p hp
  have b := List.all_eq_true.mp h q hq
  rw [Bool.and_eq_true] at a b
  unfold leC at h1 h2
  rw [Bool.not_eq_true'] at h1 h2
  refine eqP_eq a.1 b.1 (tri (n := n) ?_ ?_)
  · rw [cmp_blt h hp hq, h2]
  · rw [cmp_blt h hq hp, h1]
section
variable {X : Cx} {k : Nat}
noncomputable def rSortP (K : PySem.W.Frag) : List V → Hp → VK → Prop := fun xs H Q => ∃ p ys ps b, xs = [.ref p] ∧ SqL K H p ys ∧ RepL K noA H ps ys ∧ ys.length < 64 ∧ (∀ x ∈ ps, ledP b x = true) ∧ cmpAll 3 ps = true ∧
  ∀ l (ix : List Nat), ix.Perm (List.range ps.length) → (ix.map fun i => ps.getD i .non).Pairwise (fun a b => leC 3 a b = true) → H l = none → Q (.ref l) (upd H l (.lst (ix.map fun i => ys.getD i .non)))
theorem firsts_of {s : Shared} {b : Bool} : ∀ {ps : List PV} {vs : List Value}, LiesL s.heap ps vs → (∀ x ∈ ps, ledP b x = true) → ∃ fs, KatTups s.heap vs fs ∧ fs.length = vs.length ∧ ∀ v ∈ fs, (∃ x t, b = true ∧ v = .str x t) ∨ ∃ x t, b = false ∧ v = .int x t
  | [], _, .nil, _ => ⟨[], .nil, rfl, fun _ h => nomatch h⟩
  | p :: ps, _, .cons l r, h => by
    obtain ⟨fs, h1, h2, h3⟩ := firsts_of r fun z hz => h z (List.mem_cons_of_mem _ hz)
    have hp := h p List.mem_cons_self
    cases l with
    | tup t1 r1 =>
      obtain ⟨o, g1, g2, m, g3⟩ := t1
      cases r1 with
      | nil => cases hp
      | cons a1 a2 =>
        cases a1 with
        | str x t =>
          refine ⟨.str x t :: fs, .cons g1 g2 g3 (by simp) h1, by rw [List.length_cons, List.length_cons, h2], fun v hv => ?_⟩
          rcases List.mem_cons.mp hv with e | e
          · exact .inl ⟨x, t, hp, e⟩
          · exact h3 v e
        | int x t =>
          refine ⟨.int x t :: fs, .cons g1 g2 g3 (by simp) h1, by rw [List.length_cons, List.length_cons, h2], fun v hv => ?_⟩
          rcases List.mem_cons.mp hv with e | e
          · exact .inr ⟨x, t, by simpa [ledP] using hp, e⟩
          · exact h3 v e
        | _ => cases hp
    | _ => cases hp
theorem ranksP {P : Program} {w : World} {A : Around} {s : Shared} {b : Bool} {ps : List PV} {vs : List Value} (hL : LiesL s.heap ps vs) (hu : A.units + 2 < cLine) (led : ∀ x ∈ ps, ledP b x = true) (ok : ∀ x ∈ ps, okP 3 x = true) (cmp : cmpAll 3 ps = true) (h2 : 2 ≤ vs.length) :
    RanksG P w A vs (fun p => Upto codO (fun i => code 3 (ps.getD i .non)) p vs.length) s := by
  have hl := hL.length
  obtain ⟨fs, k1, k2, k3⟩ := firsts_of hL led
  refine ⟨tuples' (Value.type (ledT b) != Value.type "tuple"), fun Q E q => kat_kind k1 (by omega) (fun v hv => ?_) (by cases b <;> decide) q, fun G hG => AlB.run (n := vs.length) (ans := anB codO (fun i => code 3 (ps.getD i .non))) (fun i j C hi hj hC => ?_) (fun p h1 h2 => hG p h1 h2) (al_sort (by omega)) (b_sort (by omega))⟩
  · rcases k3 v hv with ⟨x, t, rfl, rfl⟩ | ⟨x, t, rfl, rfl⟩
    · exact Looks.of_pure rfl
    · exact Looks.of_pure rfl
  · have e1 : ps[i]? = some ps[i] := List.getElem?_eq_getElem (by omega)
    have e2 : ps[j]? = some ps[j] := List.getElem?_eq_getElem (by omega)
    refine askP (n := 2) hL hu led ok e1 e2 (cmp_blt cmp (List.getElem_mem _) (List.getElem_mem _)) ?_
    have hC : C (codO.blt (code 3 (ps.getD i .non)) (code 3 (ps.getD j .non))) _ := hC
    rw [List.getD_eq_getElem?_getD, e1, List.getD_eq_getElem?_getD, e2] at hC
    exact hC
theorem uptoP {ps : List PV} {p : Array Nat} {m : Nat} (h : Upto codO (fun i => code 3 (ps.getD i .non)) p m) (hm : p.toList.length = m) : (p.toList.map fun i => ps.getD i .non).Pairwise (fun a b => leC 3 a b = true) := by
  rw [List.pairwise_iff_getElem]
  intro i j hi hj hij
  rw [List.length_map] at hi hj
  have h := h i j (by omega) (by omega)
  rw [List.getElem_map, List.getElem_map]
  have ky : ∀ (i : Nat) (hi : i < p.toList.length), Ky codO (fun i => code 3 (ps.getD i .non)) p i = code 3 (ps.getD p.toList[i] .non) := fun i hi => by
    unfold Ky
    rw [Array.getD_eq_getD_getElem?, ← Array.getElem?_toList, List.getElem?_eq_getElem hi]
    rfl
  rw [ky i hi, ky j hj] at h
  show (!ltC _ _) = true
  rw [Bool.not_eq_true']
  exact h
theorem sortPX (K : PySem.W.Frag) (hr : Room k X.A) (hK : X.K = K := by rfl) : CallR X (.builtin "sorted") (rSortP K) := by
  subst hK
  intro pins s σ H xs us Q I r ⟨p, ys, ps, b, e, hq, rp, h64, led, cmp, q⟩
  subst e
  obtain ⟨u, rfl, rx⟩ := vals1 r
  cases rx
  obtain ⟨vs, rv, pl, hz⟩ := I.list hq
  have hlen := rv.length
  have hpl := rp.length
  have ok : ∀ x ∈ ps, okP 3 x = true := fun x hx => by
    have := List.all_eq_true.mp cmp x hx
    rw [Bool.and_eq_true] at this
    exact plP_ok this.1
  refine sorted_ranG (R := fun p => Upto codO (fun i => code 3 (ps.getD i .non)) p vs.length) pl.isList (by omega) (fun l2 h' kp => ?_) (fun h2 i j a b => ?_) fun out p h1 h2 h3 => ?_
  · have I' := I.kept (t' := s.toks) kp
    have hL : LiesL h' ps vs := RepL.lies I' (n := 3) (List.all_eq_true.mpr ok) rp rv
    exact ranksP (s := { s with heap := h' }) hL (by have := hr.un; show X.A.units + 1 + 1 + 2 < _; omega) led ok cmp l2
  · rw [show i = j by omega]; exact KeyOrd.kle_refl _
  · have hp : p.toList.Perm (List.range vs.length) := by simpa using Array.perm_iff_toList_perm.mp h1
    have hlt : ∀ i ∈ p.toList, i < vs.length := fun i hi => List.mem_range.mp (hp.mem_iff.mp hi)
    have z2 := vals_pickE rv p.toList hlt
    rw [← h3] at z2
    have hpz : p.toList.length = vs.length := by rw [hp.length_eq, List.length_range]
    obtain ⟨c, hat⟩ := sortedAll_at s.heap vs out
    refine ⟨.ref (s.heap.objs.size + 1), _, I.laid (t' := s.toks) (o := .lst (p.toList.map fun i => ys.getD i .non)) (fun b o e => sortedAll_old e) (Nat.le_succ _) ⟨by rw [List.length_map, hpz, ← hlen]; exact hz, out.toList, c, z2, hat⟩, rfl, q _ _ (by rw [hpl, hlen]; exact hp) (uptoP h2 hpz) (I.hok.fresh (Nat.le_succ _))⟩
end
section
variable {K : PySem.W.Frag}
end
end Mr
set_option Elab.async false
set_option linter.all false
set_option maxRecDepth 100000
set_option maxHeartbeats 4000000
namespace L2
open PySem PySem.Spec PyProof.Rows
inductive NK where
  | k (x : Key)
  | t (xs : List NK)
noncomputable instance : DecidableEq NK := fun a b => Classical.propDecidable _
mutual
inductive IsN (h : Heap) : NK → Value → Prop
  | k {x : Key} {v : Value} : keyIs x v = true → IsN h (.k x) v
  | t {xs : List NK} {a : Addr} {us : List Value} : IsTup h a us.toArray → IsL h xs us → IsN h (.t xs) (.ref a)
inductive IsL (h : Heap) : List NK → List Value → Prop
  | nil : IsL h [] []
  | cons {x : NK} {v : Value} {xs : List NK} {vs : List Value} : IsN h x v → IsL h xs vs → IsL h (x :: xs) (v :: vs)
end
mutual
noncomputable def dpN : NK → Nat
  | .k _ => 0
  | .t xs => dpL xs + 1
noncomputable def dpL : List NK → Nat
  | [] => 0
  | x :: xs => max (dpN x) (dpL xs)
end
mutual
noncomputable def hashN (w : World) : NK → Int
  | .k x => keyH w x
  | .t xs => reduceHash (Builtin.Tuple.tupleHashOf (hashL w xs))
noncomputable def hashL (w : World) : List NK → List Int
  | [] => []
  | x :: xs => hashN w x :: hashL w xs
end
mutual
noncomputable def drN : NK → Nat
  | .k _ => 1
  | .t xs => drL xs + 1
noncomputable def drL : List NK → Nat
  | [] => 0
  | x :: xs => drN x + drL xs
end
theorem hashL_c (w : World) (x : NK) (xs : List NK) : hashL w (x :: xs) = hashN w x :: hashL w xs := by rw [hashL]
theorem hashL_n (w : World) : hashL w [] = [] := by rw [hashL]
theorem drL_c (x : NK) (xs : List NK) : drL (x :: xs) = drN x + drL xs := by rw [drL]
theorem drL_n : drL [] = 0 := by rw [drL]
theorem dpL_c (x : NK) (xs : List NK) : dpL (x :: xs) = max (dpN x) (dpL xs) := by rw [dpL]
theorem dpN_t (xs : List NK) : dpN (.t xs) = dpL xs + 1 := by rw [dpN]
theorem hashN_t (w : World) (xs : List NK) : hashN w (.t xs) = reduceHash (Builtin.Tuple.tupleHashOf (hashL w xs)) := by rw [hashN]
theorem drN_t (xs : List NK) : drN (.t xs) = drL xs + 1 := by rw [drN]
theorem IsL.length {h : Heap} : ∀ {xs : List NK} {vs : List Value}, IsL h xs vs → xs.length = vs.length
  | _, _, .nil => rfl
  | _, _, .cons _ r => by rw [List.length_cons, List.length_cons, r.length]
theorem IsL.get {h : Heap} : ∀ {xs : List NK} {vs : List Value} {j : Nat} {v : Value}, IsL h xs vs → vs[j]? = some v → ∃ x, xs[j]? = some x ∧ IsN h x v
  | _, _, _, _, .nil, e => by simp at e
  | _, _, 0, _, .cons i _, e => by simp at e; subst e; exact ⟨_, rfl, i⟩
  | _, _, j + 1, _, .cons _ r, e => by simpa using r.get (j := j) (by simpa using e)
theorem dp_mem {x : NK} : ∀ {xs : List NK}, x ∈ xs → dpN x ≤ dpL xs
  | y :: xs, h => by
    unfold dpL
    rcases List.mem_cons.mp h with rfl | h
    · exact Nat.le_max_left _ _
    · exact Nat.le_trans (dp_mem h) (Nat.le_max_right _ _)
theorem tup_data {h : Heap} {a : Addr} {us vs : List Value} (x : IsTup h a us.toArray) (y : IsTup h a vs.toArray) : us = vs := by
  obtain ⟨o, e, c, n, d⟩ := x
  obtain ⟨o', e', c', n', d'⟩ := y
  rw [e] at e'; cases e'
  rw [d] at d'; cases d'; rfl
theorem key_inj {a b : Key} {v : Value} (ha : keyIs a v = true) (hb : keyIs b v = true) : a = b := by
  rcases keyIs_shape ha with ⟨i, t, rfl, rfl⟩ | ⟨x, t, rfl, rfl⟩ <;> rcases keyIs_shape hb with ⟨j, u, rfl, e⟩ | ⟨y, u, rfl, e⟩ <;> cases e <;> rfl
theorem key_noref {a : Key} {l : Addr} (h : keyIs a (.ref l) = true) : False := by rcases keyIs_shape h with ⟨_, _, _, e⟩ | ⟨_, _, _, e⟩ <;> cases e
theorem IsN.inj {h : Heap} : ∀ {n : Nat} {x y : NK} {v : Value}, dpN x ≤ n → IsN h x v → IsN h y v → x = y := by
  intro n
  induction n with
  | zero =>
    intro x y v hd hx hy
    cases hx with
    | k hk =>
      cases hy with
      | k hk' => rw [key_inj hk hk']
      | t _ _ => exact (key_noref hk).elim
    | t p l => unfold dpN at hd; omega
  | succ n ih =>
    intro x y v hd hx hy
    cases hx with
    | k hk =>
      cases hy with
      | k hk' => rw [key_inj hk hk']
      | t _ _ => exact (key_noref hk).elim
    | @t xs a us p l =>
      cases hy with
      | k hk => exact (key_noref hk).elim
      | @t ys _ vs p' l' =>
        obtain rfl := tup_data p p'
        have hd' : dpL xs ≤ n := by unfold dpN at hd; omega
        have key : ∀ {xs ys : List NK} {us : List Value}, dpL xs ≤ n → IsL h xs us → IsL h ys us → xs = ys := by
          intro xs
          induction xs with
          | nil => intro ys us _ l1 l2; cases l1; cases l2; rfl
          | cons x xs ihx =>
            intro ys us hd l1 l2
            cases l1 with
            | cons i1 r1 =>
              cases l2 with
              | cons i2 r2 =>
                unfold dpL at hd
                rw [ih (by omega) i1 i2, ihx (by omega) r1 r2]
        rw [key hd' l l']
section
variable {prog : Program} {w : World}
theorem nk_hash : ∀ (n : Nat) {A : Around} {E : Value → Shared → Prop} {s : Shared} {x : NK} {v : Value} {Q : Int → Shared → Prop}, dpN x ≤ n → A.units + n < cLine → IsN s.heap x v → Q (hashN w x) { s with toks := s.toks + drN x } → wpAny (model prog w) A (pyHash v) Q E s := by
  intro n
  induction n with
  | zero =>
    intro A E s x v Q hd hu hx h
    cases hx with
    | k hk => exact (mixKind prog w).pyHash hk (by unfold hashN drN at h; exact h)
    | t p l => unfold dpN at hd; omega
  | succ n ih =>
    intro A E s x v Q hd hu hx h
    cases hx with
    | k hk => exact (mixKind prog w).pyHash hk (by unfold hashN drN at h; exact h)
    | @t xs a us p l =>
      have hT : s.TypeIs (.ref a) "tuple" := let ⟨o, e, c, _⟩ := p; ⟨o, e, c⟩
      have hd' : dpL xs ≤ n := by unfold dpN at hd; omega
      obtain ⟨o, ho, _, m, hdt⟩ := p
      unfold pyHash
      first | unfold pyHashByItsType | skip
      first | refine wpAny_bind (wpAny_cRoomFor_or (.inr (by omega)) ?_) | skip
      refine wpAny_bind (wpAny_specialOf hT F.slot_tuple_hash.lookup ?_)
      show wpAny _ _ (if (some (Value.builtin "tuple.__hash__") == some Value.none) = true then _ else _) Q E s
      rw [if_neg (show ¬ ((some (Value.builtin "tuple.__hash__") == some Value.none) = true) by rw [beq_builtin_none]; exact Bool.false_ne_true)]
      refine wpAny_bind (wpAny_specialOf hT F.slot_tuple_hash.lookup ?_)
      show wpAny _ _ (callSpecialIfBoundUnlessNone? (.ref a) "__hash__" _ >>= _) Q E s
      refine wpAny_bind (wpAny_callSpecialIfBoundUnlessNone?_slot hT F.slot_tuple_hash (wpAny_call_entry F.slot_tuple_hash hT F.entry_tuple_hash ?_ (F.args_tuple_hash_1 _)))
      show wpAny _ _ (Builtin.Tuple.tupleItemsOf (.ref a) >>= _) _ _ s
      refine wpAny_bind (wpAny_tupleItemsOf ho hdt (wpAny_bind ?_))
      rw [← Array.forIn_toList]
      have hin : A.in1.units = A.units + 1 := rfl
      refine wpAny_forIn_list _ (fun rest (b : Array Int) s' => ∃ left, dpL left ≤ n ∧ IsL s.heap left rest ∧ hashL w xs = b.toList ++ hashL w left ∧ ∃ tk, s' = { s with toks := tk } ∧ tk + drL left = s.toks + drL xs) _ ?_ ?_ _ _ ⟨xs, hd', l, rfl, s.toks, rfl, rfl⟩
      · rintro y rest b s' ⟨left, hdl, hl, hb, tk, rfl, ht⟩
        cases hl with
        | @cons z _ zs _ i r =>
          rw [dpL_c] at hdl
          refine wpAny_bind (ih (s := { s with toks := tk }) (x := z) (by omega) (by omega) i ?_)
          rw [hashL_c] at hb
          rw [drL_c] at ht
          first
            | exact wpAny_pure ⟨zs, by omega, r, by rw [hb, Array.toList_push]; simp, tk + drN z, rfl, by omega⟩
            | exact wpAny_bind (wpAny_pure (wpAny_pure ⟨zs, by omega, r, by rw [hb, Array.toList_push]; simp, tk + drN z, rfl, by omega⟩))
      · rintro b s' ⟨left, hdl, hl, hb, tk, rfl, ht⟩
        cases hl
        rw [hashL_n, List.append_nil] at hb
        rw [drL_n] at ht
        show wpAny _ _ (retInt (Builtin.Tuple.tupleHashOf b.toList)) _ _ _
        rw [hashN_t, drN_t, hb] at h
        unfold reduceHash at h
        refine wpAny_ret_mkInt ?_
        show wpAny _ _ (if (decide (-(2 : Int) ^ 63 ≤ Builtin.Tuple.tupleHashOf b.toList) && decide (Builtin.Tuple.tupleHashOf b.toList < 2 ^ 63)) = true then _ else _) Q E _
        have e1 : tk + 1 = s.toks + (drL xs + 1) := by omega
        by_cases hr : (decide (-(2 : Int) ^ 63 ≤ Builtin.Tuple.tupleHashOf b.toList) && decide (Builtin.Tuple.tupleHashOf b.toList < 2 ^ 63)) = true
        · rw [if_pos hr] at h ⊢
          exact wpAny_pure (by rw [← e1] at h; exact h)
        · rw [if_neg hr] at h ⊢
          exact wpAny_bind (wpAny_rule (wpAny_pure (by rw [← e1] at h; exact h)))
theorem nk_eq : ∀ (n : Nat) {A : Around} {s : Shared} {x y : NK} {u v : Value}, dpN x ≤ n → dpN y ≤ n → A.units + n < cLine → IsN s.heap x u → IsN s.heap y v → SeqAt.EqAt A s u v (decide (x = y)) := by
  intro n
  have flat : ∀ {A : Around} {s : Shared} {a b : Key} {u v : Value}, keyIs a u = true → keyIs b v = true → SeqAt.EqAt A s u v (decide (NK.k a = NK.k b)) := by
    intro A s a b u v ha hb prog w E Q q
    have e : decide (NK.k a = NK.k b) = decide (a = b) := by
      by_cases h : a = b
      · rw [h]; simp
      · rw [decide_eq_false h, decide_eq_false fun z => h (NK.k.inj z)]
    rw [e] at q
    exact (mixKind prog w).eqBool ha hb q
  have mixL : ∀ {A : Around} {s : Shared} {a : Key} {xs : List NK} {u : Value} {l : Addr} {us : List Value}, A.units < cLine → keyIs a u = true → IsTup s.heap l us.toArray → SeqAt.EqAt A s u (.ref l) (decide (NK.k a = NK.t xs)) ∧ SeqAt.EqAt A s (.ref l) u (decide (NK.t xs = NK.k a)) := by
    intro A s a xs u l us hu ha p
    rw [decide_eq_false (fun z => nomatch z), decide_eq_false (fun z => nomatch z)]
    rcases keyIs_shape ha with ⟨i, t, rfl, rfl⟩ | ⟨z, t, rfl, rfl⟩
    · exact ⟨SeqAt.EqAt.int_tuple i t p hu, SeqAt.EqAt.tuple_int i t p hu⟩
    · exact ⟨SeqAt.EqAt.str_tuple z t p hu, SeqAt.EqAt.tuple_str z t p hu⟩
  induction n with
  | zero =>
    intro A s x y u v hx hy hu ix iy
    cases ix with
    | k ha => cases iy with
      | k hb => exact flat ha hb
      | t p l => unfold dpN at hy; omega
    | t p l => unfold dpN at hx; omega
  | succ n ih =>
    intro A s x y u v hx hy hu ix iy
    cases ix with
    | k ha => cases iy with
      | k hb => exact flat ha hb
      | t p l => exact (mixL (by omega) ha p).1
    | @t xs a us p l => cases iy with
      | k hb => exact (mixL (by omega) hb p).2
      | @t ys b vs p' l' =>
        have hdx : dpL xs ≤ n := by unfold dpN at hx; omega
        have hdy : dpL ys ≤ n := by unfold dpN at hy; omega
        have hin : A.in1.units = A.units + 1 := rfl
        by_cases hab : a = b
        · subst hab
          have e : NK.t xs = NK.t ys := IsN.inj (n := n + 1) hx (.t p l) (.t p' l')
          rw [decide_eq_true e]
          exact SeqAt.EqAt.same _
        · have l1 := l.length
          have l2 := l'.length
          have e : decide (NK.t xs = NK.t ys) = ((List.range (min us.toArray.size vs.toArray.size)).all (fun j => decide (xs[j]? = ys[j]?)) && us.toArray.size == vs.toArray.size) := by
            rw [List.size_toArray, List.size_toArray, ← l1, ← l2]
            by_cases hxy : xs = ys
            · subst hxy; simp
            · rw [decide_eq_false fun z => hxy (NK.t.inj z)]
              symm
              rw [Bool.and_eq_false_iff]
              by_cases hl : xs.length = ys.length
              · left
                rw [List.all_eq_false]
                apply Classical.byContradiction
                intro hno
                apply hxy
                apply List.ext_getElem? 
                intro j
                by_cases hj : j < xs.length
                · apply Classical.byContradiction
                  intro hne
                  exact hno ⟨j, List.mem_range.mpr (by omega), by simpa using hne⟩
                · rw [List.getElem?_eq_none (by omega), List.getElem?_eq_none (by omega)]
              · right; simpa using hl
          rw [e]
          refine SeqAt.EqAt.of_refs hab (SeqAt.RcAt.tuples (e := fun j => decide (xs[j]? = ys[j]?)) p p' (by omega) fun j h1 h2 => ?_)
          obtain ⟨x', ex, jx⟩ := l.get (j := j) (v := us.toArray[j]) (by simp at h1 ⊢)
          obtain ⟨y', ey, jy⟩ := l'.get (j := j) (v := vs.toArray[j]) (by simp at h2 ⊢)
          have hh := ih (A := A.in1) (s := s) (Nat.le_trans (dp_mem (List.mem_of_getElem? ex)) hdx) (Nat.le_trans (dp_mem (List.mem_of_getElem? ey)) hdy) (by omega) jx jy
          have e2 : decide (xs[j]? = ys[j]?) = decide (x' = y') := by rw [ex, ey]; simp
          show SeqAt.EqAt A.in1 s _ _ (decide (xs[j]? = ys[j]?))
          rw [e2]
          exact hh
end
end L2
set_option Elab.async false
set_option linter.all false
set_option maxRecDepth 100000
set_option maxHeartbeats 4000000
namespace L2
open PySem PySem.Spec PyProof.Rows
section
variable {prog : Program} {w : World}
mutual
theorem IsN.keeps {h h' : Heap} (k : ∀ a us, IsTup h a us → IsTup h' a us) : ∀ {x : NK} {v : Value}, IsN h x v → IsN h' x v
  | _, _, .k e => .k e
  | _, _, .t p l => .t (k _ _ p) (l.keeps k)
theorem IsL.keeps {h h' : Heap} (k : ∀ a us, IsTup h a us → IsTup h' a us) : ∀ {xs : List NK} {vs : List Value}, IsL h xs vs → IsL h' xs vs
  | _, _, .nil => .nil
  | _, _, .cons i r => .cons (i.keeps k) (r.keeps k)
end
theorem tup_keeps {h h' : Heap} {d : Addr} {o : Obj} {es ep} (ho : h.get? d = some o) (hd : o.data = .dict es ep) (hs : Heap.SameBut d h h') (a : Addr) (us : Array Value) (x : IsTup h a us) : IsTup h' a us := by
  obtain ⟨o', ho', hc, n, hd'⟩ := x
  have hne : a ≠ d := by
    rintro rfl
    obtain rfl : o' = o := Option.some.inj (ho'.symm.trans ho)
    rw [hd] at hd'; exact nomatch hd'
  exact ⟨o', (hs.2 a hne).trans ho', hc, n, hd'⟩
theorem nk_quiet : ∀ (m : Nat) {A : Around} {E : Value → Shared → Prop} {s : Shared} {x : NK} {v : Value} {Q : Bool → Shared → Prop}, dpN x ≤ m → IsN s.heap x v → Q true s → wpAny (model prog w) A (eqIsQuiet m v) Q E s := by
  have flat : ∀ {m : Nat} {A : Around} {E : Value → Shared → Prop} {s : Shared} {x : Key} {v : Value} {Q : Bool → Shared → Prop}, keyIs x v = true → Q true s → wpAny (model prog w) A (eqIsQuiet m v) Q E s := by
    intro m A E s x v Q hk h
    rw [eqIsQuiet_byValue m ((mixKind prog w).byValue x v hk)]
    exact wpAny_pure h
  intro m
  induction m with
  | zero =>
    intro A E s x v Q hd hx h
    cases hx with
    | k hk => exact flat hk h
    | t p l => rw [dpN_t] at hd; omega
  | succ m ih =>
    intro A E s x v Q hd hx h
    cases hx with
    | k hk => exact flat hk h
    | @t xs a us p l =>
      have hT : s.TypeIs (.ref a) "tuple" := let ⟨o, e, c, _⟩ := p; ⟨o, e, c⟩
      have hd' : dpL xs ≤ m := by rw [dpN_t] at hd; omega
      obtain ⟨o, ho, _, n, hdt⟩ := p
      unfold eqIsQuiet
      refine wpAny_bind (wpAny_specialOf hT F.slot_tuple_eq.lookup ?_)
      show wpAny _ _ (isInstance (.ref a) (.type "tuple") >>= _) _ _ s
      refine wpAny_bind (wpAny_isInstance hT isSubtype_tuple_tuple ?_)
      simp only [Bool.not_true, Bool.false_eq_true, if_false]
      refine wpAny_bind (wpAny_seqItems ho hdt ?_)
      refine wpAny_bind ?_
      show wpAny _ _ (forIn us.toArray _ _) _ _ s
      rw [← Array.forIn_toList]
      refine wpAny_forIn_list _ (fun rest r s' => r.1 = none ∧ s' = s ∧ ∃ left, dpL left ≤ m ∧ IsL s.heap left rest) _ ?_ ?_ _ _ ⟨rfl, rfl, xs, hd', l⟩
      · rintro v rest r s' ⟨hr, rfl, left, hdl, hl⟩
        cases hl with
        | @cons z _ zs _ i t =>
          rw [dpL_c] at hdl
          refine wpAny_bind (ih (x := z) (by omega) i ?_)
          simp only [Bool.not_true, Bool.false_eq_true, if_false]
          exact wpAny_pure ⟨rfl, rfl, zs, by omega, t⟩
      · rintro ⟨r1, r2⟩ s' ⟨hr, rfl, _⟩
        simp only at hr
        subst hr
        exact wpAny_pure h
noncomputable def nkKind (prog : Program) (w : World) : HeapKind prog w (List NK) where
  is := fun h ks a => IsN h (.t ks) (.ref a) ∧ dpL ks ≤ 4
  hash := fun ks => hashN w (.t ks)
  draws := fun ks => drN (.t ks)
  room := fun A => A.units + 6 < cLine
  inj := fun hx hy => NK.t.inj (IsN.inj (Nat.le_refl _) hx.1 hy.1)
  keeps := fun x ho hd hs => ⟨x.1.keeps (tup_keeps ho hd hs), x.2⟩
  pyHash := fun {A} _ _ _ _ _ hu hk h => nk_hash 5 (by rw [dpN_t]; have := hk.2; omega) (by have : A.units + 6 < cLine := hu; omega) hk.1 h
  eqBool := fun {A E s x y a b Q} hu hx hy h => by
    have hu : A.units + 6 < cLine := hu
    refine nk_eq 5 (by rw [dpN_t]; have := hx.2; omega) (by rw [dpN_t]; have := hy.2; omega) (by omega) hx.1 hy.1 prog w E Q ?_
    have e : decide (NK.t x = NK.t y) = decide (x = y) := by
      by_cases z : x = y
      · rw [decide_eq_true z, decide_eq_true (congrArg NK.t z)]
      · rw [decide_eq_false z, decide_eq_false fun q => z (NK.t.inj q)]
    rw [e]; exact h
  quiet := fun hk h => nk_quiet 8 (by rw [dpN_t]; have := hk.2; omega) hk.1 h
end
mutual
inductive NkV (H : Hp) : NK → V → Prop
  | k {x : Key} : NkV H (.k x) (kV x)
  | t {xs : List NK} {a : Addr} {us : List V} : H a = some (.tup us) → NkL H xs us → NkV H (.t xs) (.ref a)
inductive NkL (H : Hp) : List NK → List V → Prop
  | nil : NkL H [] []
  | cons {x : NK} {v : V} {xs : List NK} {vs : List V} : NkV H x v → NkL H xs vs → NkL H (x :: xs) (v :: vs)
end
mutual
theorem NkV.kp {H H' : Hp} (k : ∀ a us, H a = some (.tup us) → H' a = some (.tup us)) : ∀ {x : NK} {v : V}, NkV H x v → NkV H' x v
  | _, _, .k => .k
  | _, _, .t p l => .t (k _ _ p) (l.kp k)
theorem NkL.kp {H H' : Hp} (k : ∀ a us, H a = some (.tup us) → H' a = some (.tup us)) : ∀ {xs : List NK} {vs : List V}, NkL H xs vs → NkL H' xs vs
  | _, _, .nil => .nil
  | _, _, .cons i r => .cons (i.kp k) (r.kp k)
end
section
variable {P : Program} {w : World} {H : Hp} {h : Heap}
mutual
theorem NkV.is (ok : HOk P w H h) : ∀ {x : NK} {v : V} {u : Value}, NkV H x v → RelV v u → IsN h x u
  | _, _, _, .k, r => .k (kV_is (P := P) (w := w) r)
  | _, _, _, .t p l, r => by
    obtain ⟨_, its, rs, q, _⟩ := (show ObjOk P w H h _ (.tup _) from ok _ _ p)
    cases (show _ = Value.ref _ from r)
    exact .t q (l.is ok rs)
theorem NkL.is (ok : HOk P w H h) : ∀ {xs : List NK} {vs : List V} {us : List Value}, NkL H xs vs → Vals vs us → IsL h xs us
  | _, _, _, .nil, .nil => .nil
  | _, _, _, .cons i r, .cons a b => .cons (i.is ok a) (r.is ok b)
end
end
noncomputable abbrev NE := List NK × Addr × V
noncomputable abbrev KN : List NE → List (List NK × Addr × Value) → Prop := Paired fun p q => p.1 = q.1 ∧ p.2.1 = q.2.1 ∧ RelV p.2.2 q.2.2
noncomputable def DN (w : World) (a : Addr) (kvs : List NE) (ep : Nat) : HO := .ext fun h => (a == sysModules) = false ∧ kvs.length ≤ sizeLine ∧ ∃ xs, KN kvs xs ∧ ∃ o es, h.get? a = some o ∧ o.ExactDict ∧ o.data = .dict es ep ∧ es.toList = xs.map (fun x => (⟨hashN w (.t x.1), .ref x.2.1, x.2.2⟩ : DictEntry)) ∧ (xs.map (·.1)).Nodup
noncomputable def KsOk (H : Hp) (kvs : List NE) : Prop := ∀ kv ∈ kvs, NkV H (.t kv.1) (.ref kv.2.1) ∧ dpL kv.1 ≤ 4
noncomputable def lkN (kvs : List NE) (k : List NK) : Option V := (kvs.find? fun x => decide (x.1 = k)).map (·.2.2)
noncomputable def putN (kvs : List NE) (k : List NK) (b : Addr) (v : V) : List NE := if (lkN kvs k).isSome then kvs.map (fun x => if x.1 = k then (x.1, x.2.1, v) else x) else kvs ++ [(k, b, v)]
theorem KN.val {kvs : List NE} {xs : List (List NK × Addr × Value)} (r : KN kvs xs) (k : List NK) : RelO (lkN kvs k) ((atKey xs k).map (·.2)) := by
  induction r with
  | nil => exact True.intro
  | @cons p q ps qs h t ih =>
    obtain ⟨h1, _, h2⟩ := h
    by_cases e : p.1 = k
    · have e' : q.1 = k := h1.symm.trans e
      have b : atKey (q :: qs) k = some q.2 := by simp [atKey, List.find?_cons, e']
      have b2 : lkN (p :: ps) k = some p.2.2 := by simp [lkN, List.find?_cons, e]
      rw [b2, b]; exact h2
    · have e' : ¬ q.1 = k := fun z => e (h1.trans z)
      have b : atKey (q :: qs) k = atKey qs k := by simp [atKey, List.find?_cons, e']
      have b2 : lkN (p :: ps) k = lkN ps k := by simp [lkN, List.find?_cons, e]
      rw [b2, b]; exact ih
theorem KN.put {kvs : List NE} {xs : List (List NK × Addr × Value)} (r : KN kvs xs) (k : List NK) (b : Addr) {y : V} {u : Value} (ry : RelV y u) : KN (putN kvs k b y) (storedH xs k b u) := by
  have e : (lkN kvs k).isSome = (atKey xs k).isSome := by rw [(r.val k).isSome_eq, Option.isSome_map]
  unfold putN storedH
  rw [e]
  by_cases q : (atKey xs k).isSome = true
  · rw [if_pos q, if_pos q]
    clear e q
    induction r with
    | nil => exact .nil
    | @cons p q ps qs h t ih =>
      rw [List.map_cons, List.map_cons]
      refine .cons ?_ ih
      obtain ⟨h1, h2, h3⟩ := h
      unfold putAt
      by_cases e : p.1 = k
      · rw [if_pos e, if_pos (h1.symm.trans e)]; exact ⟨h1, h2, ry⟩
      · rw [if_neg e, if_neg (fun z => e (h1.trans z))]; exact ⟨h1, h2, h3⟩
  · rw [if_neg q, if_neg q]; exact Paired.snoc r ⟨rfl, rfl, ry⟩
theorem length_putN (kvs : List NE) (k : List NK) (b : Addr) (v : V) : (putN kvs k b v).length ≤ kvs.length + 1 := by
  unfold putN
  split
  · rw [List.length_map]; omega
  · rw [List.length_append]; exact Nat.le_refl _
section
variable {P : Program} {w : World} {H : Hp} {h : Heap} {a : Addr} {kvs : List NE} {ep : Nat}
theorem dn_at (ok : HOk P w H h) (e : H a = some (DN w a kvs ep)) (hk : KsOk H kvs) : (a == sysModules) = false ∧ kvs.length ≤ sizeLine ∧ ∃ xs, KN kvs xs ∧ h.DictOfH (nkKind P w) a xs := by
  obtain ⟨z, y, xs, r, o, es, h1, h2, h3, h4, h5⟩ := (show ObjOk P w H h a (DN w a kvs ep) from ok a _ e).1
  refine ⟨z, y, xs, r, o, es, ep, h1, h2, h3, h4, fun x hx => ?_, h5⟩
  have all : ∀ {l : List NE} {m : List (List NK × Addr × Value)}, KN l m → KsOk H l → ∀ x ∈ m, (nkKind P w).is h x.1 x.2.1 := by
    intro l m q
    induction q with
    | nil => intro _ x hx; exact nomatch hx
    | @cons p q ps qs hq t ih =>
      intro hk x hx
      rcases List.mem_cons.mp hx with e | hx
      · subst e
        obtain ⟨g1, g2⟩ := hk p List.mem_cons_self
        rw [← hq.1, ← hq.2.1]
        exact ⟨g1.is ok rfl, g2⟩
      · exact ih (fun kv h => hk kv (List.mem_cons_of_mem _ h)) x hx
  exact all r hk x hx
theorem dn_ok {xs : List (List NK × Addr × Value)} {H : Hp} (z : (a == sysModules) = false) (y : kvs.length ≤ sizeLine) (r : KN kvs xs) (dd : h.DictOfH (nkKind P w) a xs) : ∃ ep, ObjOk P w H h a (DN w a kvs ep) := by
  obtain ⟨o, es, ep, h1, h2, h3, h4, _, h5⟩ := dd
  exact ⟨ep, ⟨z, y, xs, r, o, es, h1, h2, h3, h4, h5⟩, ⟨o, h1⟩, fun g1 g2 ⟨z, y, xs, r, o, es, h1, h⟩ k => ⟨z, y, xs, r, o, es, k _ h1, h⟩⟩
end
noncomputable def NGet (w : World) (H : Hp) (a : Addr) (y : V) (r : Option V) : Prop := DGet H a y r ∨ ∃ kvs ep b ks, H a = some (DN w a kvs ep) ∧ KsOk H kvs ∧ y = .ref b ∧ NkV H (.t ks) (.ref b) ∧ dpL ks ≤ 4 ∧ r = lkN kvs ks
noncomputable def NPut (w : World) (H : Hp) (a : Addr) (y v : V) (Q : Hp → Prop) : Prop := DPut H a y v Q ∨ ∃ kvs ep b ks, H a = some (DN w a kvs ep) ∧ KsOk H kvs ∧ y = .ref b ∧ NkV H (.t ks) (.ref b) ∧ dpL ks ≤ 4 ∧ kvs.length < sizeLine ∧ ∀ ep, Q (upd H a (DN w a (putN kvs ks b v) ep))
section
variable {X : Cx} {pins : List (Addr × Obj)} {σ : St} {H : Hp} {s : Shared} {a : Addr} {y v : V} {u r : Value} {A : Around} {E : Value → Shared → Prop}
theorem n_getItem {Q : Value → Shared → Prop} (hu : A.units + 8 < cLine) (I : Inv X pins σ H s) (g : NGet X.w H a y (some v)) (ry : RelV y u) (h : ∀ w' s', Inv X pins σ H s' → RelV v w' → Q w' s') :
    wpAny (model X.prog X.w) A (getItem (.ref a) u) Q E s := by
  rcases g with g | ⟨kvs, ep, b, ks, e, hk, ey, hb, hd, l⟩
  · exact d_getItem (by omega) I g ry h
  · subst ey
    cases (show u = Value.ref b from ry)
    obtain ⟨_, _, xs, rel, dd⟩ := dn_at I.hok e hk
    obtain ⟨w', hw, rw'⟩ := RelO.some_of (v := v) (o := (atKey xs ks).map (·.2)) (by rw [l]; exact rel.val ks)
    obtain ⟨p, hp, hp2⟩ := Option.map_eq_some_iff.mp hw
    refine wpAny_getItem_heap (knd := nkKind X.prog X.w) (show A.in1.units + 6 < cLine by show A.units + 1 + 6 < _; omega) ⟨hb.is I.hok rfl, hd⟩ dd hp ?_
    rw [hp2]
    exact h w' _ (I.tok _) rw'
theorem n_setItem {Z : Hp → Prop} {Q : Unit → Shared → Prop} (hu : A.units + 8 < cLine) (I : Inv X pins σ H s) (g : NPut X.w H a y v Z) (ry : RelV y u) (rv : RelV v r) (h : ∀ H' s', Inv X pins σ H' s' → Z H' → Q () s') :
    wpAny (model X.prog X.w) A (setItem (.ref a) u r) Q E s := by
  rcases g with g | ⟨kvs, ep, b, ks, e, hk, ey, hb, hd, hl, q⟩
  · exact d_setItem (by omega) I g ry rv h
  · subst ey
    cases (show u = Value.ref b from ry)
    obtain ⟨z, y, xs, rel, dd⟩ := dn_at I.hok e hk
    refine wpAny_setItem_heap (knd := nkKind X.prog X.w) (hsz := by rw [← Paired.length rel]; exact y) (show A.in1.units + 6 < cLine by show A.units + 1 + 6 < _; omega) ⟨hb.is I.hok rfl, hd⟩ dd fun h' dd' hs => ?_
    have he : ∃ q, h'.get? a = some q := let ⟨q, _, _, hq, _⟩ := dd'; ⟨q, hq⟩
    obtain ⟨ep', ok⟩ := dn_ok (H := upd H a (DN X.w a (putN kvs ks b v) 0)) z (show (putN kvs ks b v).length ≤ sizeLine by have := length_putN kvs ks b v; omega) (rel.put ks b rv) dd'
    exact h _ _ (d_write I (by rw [e]; exact True.intro) hs he (ob := DN X.w a (putN kvs ks b v) ep') ⟨ok.1, ok.2.1, ok.2.2⟩) (q ep')
theorem ndict_typeIs {o : Option V} (I : Inv X pins σ H s) (g : NGet X.w H a y o) : s.TypeIs (.ref a) "dict" := by
  rcases g with g | ⟨kvs, ep, b, ks, e, hk, _⟩
  · exact dict_typeIs I g
  · obtain ⟨_, _, xs, _, dd⟩ := dn_at I.hok e hk
    exact dd.typeIs
end
noncomputable def tNGet (w : World) (td ty : TE) : TE := fun σ H Q => td σ H fun x H1 => ty σ H1 fun y H2 => ∃ a v, x = .ref a ∧ NGet w H2 a y (some v) ∧ Q v H2
noncomputable def sNPut (w : World) (td ty tv : TE) : TS := fun D σ H => tv σ H fun v H1 => td σ H1 fun x H2 => ty σ H2 fun y H3 => ∃ a, x = .ref a ∧ NPut w H3 a y v (D.nx σ)
noncomputable def tNNew (w : World) : TE := fun _ H Q => (∀ p, H p = none → Q (.ref p) (upd H p (.dK [] 0))) ∨ ∀ p, H p = none → Q (.ref p) (upd H p (DN w p [] 0))
section
variable {X : Cx} {o i value : Expr} {pos pos' : Pos} {td ty tv : TE} {k : Nat}
theorem pe_nget (w : World) (hr : Room k X.A) (ho : PE X o td) (hi : PE X i ty) (hs : NoSl i) (hw : X.w = w := by rfl) : PE X (.Subscript o i pos) (tNGet w td ty) := by
  subst hw
  intro pins s σ H Q I h
  refine subD_of PySem.F.slot_dict_getitem.lookup hs (thn (ho pins s σ H _ I h) fun u s1 ⟨x, H1, I1, rx, q1⟩ => thn (hi pins s1 σ H1 _ I1 q1) fun iv s2 ⟨y, H2, I2, ry, a, v, ex, g, q2⟩ => ?_)
  subst ex
  obtain rfl : u = Value.ref a := rx
  exact ⟨ndict_typeIs I2 g, n_getItem (by have := hr.un; omega) I2 g ry fun w' s3 I3 rw' => ⟨v, H2, I3, rw', q2⟩⟩
theorem ps_nput (w : World) (hr : Room k X.A) (ho : PE X o td) (hi : PE X i ty) (hv : PE X value tv) (hs : swapsWith value (some (.Subscript o i pos')) pos.line X.env = pure false) (hw : X.w = w := by rfl) :
    PS X (.Assign [.Subscript o i pos'] value pos) (sNPut w td ty tv) := by
  subst hw
  intro pins s σ H D I h
  refine wpAny_Assign_Subscript (thn (hv pins s σ H _ I h) fun r s1 ⟨v, H1, I1, rv, q1⟩ => thn (ho pins s1 σ H1 _ I1 q1) fun u s2 ⟨x, H2, I2, rx, q2⟩ => thn (hi pins s2 σ H2 _ I2 q2) fun iv s3 ⟨y, H3, I3, ry, a, ex, g⟩ => ?_) hs
  subst ex
  obtain rfl : u = Value.ref a := rx
  exact n_setItem (by have := hr.un; omega) I3 g ry rv fun H4 s4 I4 q3 => ⟨σ, H4, I4, q3⟩
theorem pe_nnew (w : World) (hw : X.w = w := by rfl) : PE X (.Dict [] [] pos) (tNNew w) := by
  subst hw
  intro pins s σ H Q I h
  rcases h with h | h
  · exact pe_dnewK pins s σ H Q I h
  · refine wpAny_Dict_empty ⟨.ref s.heap.objs.size, _, I.laid (a := s.heap.objs.size) (o := DN X.w s.heap.objs.size [] 0) (t' := s.toks) (fun _ _ q => Heap.get?_push_of_some _ q) (Nat.le_refl _) ?_, rfl, h _ (I.hok.fresh (Nat.le_refl _))⟩
    have he : (s.heap.push { cls := .type "dict", data := .dict #[] }).get? s.heap.objs.size = some { cls := .type "dict", data := .dict #[] } := Heap.get?_push_size _ rfl
    refine ⟨⟨beq_eq_false_iff_ne.mpr (Ne.symm (Nat.ne_of_lt I.big)), Nat.zero_le _, [], .nil, _, #[], he, ⟨rfl, rfl, rfl⟩, rfl, rfl, List.nodup_nil⟩, ⟨_, he⟩, fun g1 g2 ⟨z, y, xs, r, o, es, h1, h⟩ k => ⟨z, y, xs, r, o, es, k _ h1, h⟩⟩
end
end L2
set_option Elab.async false
set_option linter.all false
set_option maxRecDepth 100000
set_option maxHeartbeats 4000000
namespace L2
open PySem PySem.Spec PyProof.Rows
section
variable {prog : Program} {w : World} {A : Around} {E : Value → Shared → Prop} {s : Shared}
theorem iterK {d : Addr} {od : Obj} {es : Array DictEntry} {ep : Nat} {Q : Value → Shared → Prop} (hd : (d == sysModules) = false) (ho : s.heap.get? d = some od) (hx : od.ExactDict) (hdat : od.data = .dict es ep)
    (hQ : Q (.ref s.heap.objs.size) { s with heap := s.heap.push { cls := .type "dict_keyiterator", data := .fields #[.ref d, .int 0 0, .int es.size 0, .int ep 0] } }) :
    wpAny (model prog w) A (pyIter (.ref d)) Q E s := by
  have hT : s.TypeIs (.ref d) "dict" := ⟨od, ho, hx.1⟩
  refine wpAny_pyIter_slot hT F.slot_dict_iter (wpAny_call_entry F.slot_dict_iter hT F.entry_dict_iter ?_ (F.args_dict_iter_1 _))
  unfold Builtin.«dict.__iter__»
  refine wpAny_bind ?_
  unfold Builtin.Dict.dictSlotNone
  refine wpAny_bind (wpAny_notOrdered_dict hT (wpAny_pure ?_))
  show wpAny _ _ (Builtin.Dict.showsAll d >>= _) _ _ s
  unfold Builtin.Dict.showsAll
  rw [if_neg (by rw [hd]; exact Bool.false_ne_true)]
  refine wpAny_bind (wpAny_pure (wpAny_bind (wpAny_dictEntries ho hdat (wpAny_bind (wpAny_dictEpoch ho hdat (wpAny_bind (wpAny_newObj_type (wpAny_pure ⟨_, rfl, "dict_keyiterator", _, ⟨_, Heap.get?_push_size _ rfl, rfl⟩, F.slot_dict_keyiterator_next.lookup, ?_⟩))))))))
  simpa [rawInt] using hQ
theorem nextK {it d : Addr} {i n ep : Nat} {od : Obj} {es : Array DictEntry} {Q : Option Value → Shared → Prop} (hh : A.handled = none) (hn : n = es.size) (hit : s.heap.IsKeyIter it d i n ep) (hod : s.heap.get? d = some od) (hdd : od.data = .dict es ep)
    (hQ : ∀ e h', es[i]? = some e → h'.IsKeyIter it d (i + 1) n ep → Heap.SameBut it s.heap h' → Q (some e.key) { s with heap := h' })
    (hN : es[i]? = none → ∀ h', Heap.ExtBut it s.heap h' → Q none { s with heap := h' }) :
    wpAny (model prog w) A (pyNext (.ref it)) Q E s := by
  subst hn
  obtain ⟨o, ho, hc, hd⟩ := id hit
  unfold pyNext
  refine wpAny_bind (wpAny_attempt (wpAny_callSpecial?_slot (name := Str.ofString "__next__") hit.typeIs F.slot_dict_keyiterator_next
    (wpAny_call_entry F.slot_dict_keyiterator_next hit.typeIs F.entry_dict_keyiterator_next ?_ (F.args_dict_keyiterator_next_1 _))))
  refine wpAny_bind (wpAny_pure ?_)
  refine wpAny_bind ?_
  refine wpAny_bind ?_
  first | refine wpAny_bind (wpAny_typeNameOfWhole_keyiter hit.typeIs (wpAny_pure ?_)) | refine wpAny_bind (wpAny_typeNameOf_keyiter hit.typeIs (wpAny_pure ?_))
  refine wpAny_bind (wpAny_fieldsOf ho hd ?_)
  have hown : Builtin.Dict_items.ownsTuple "dict_keyiterator" = false := by decide
  simp only [hown, Bool.false_eq_true, if_false]
  show wpAny _ _ (if (Value.ref d == Value.none) = true then _ else _) _ _ s
  rw [if_neg (show ¬ ((Value.ref d == Value.none) = true) from Bool.false_ne_true)]
  refine wpAny_bind (wpAny_pure ?_)
  refine wpAny_bind (wpAny_dictEntries hod hdd ?_)
  rw [if_neg (by simp)]
  refine wpAny_bind (wpAny_pure ?_)
  refine wpAny_bind (wpAny_dictEpoch hod hdd ?_)
  rw [if_neg (by simp)]
  refine wpAny_pure ?_
  by_cases hlt : i < es.size
  · simp only [show ¬ ((i : Int) < 0) from by omega, if_false, Int.toNat_natCast, Array.getElem?_eq_getElem hlt]
    refine wpAny_bind ?_
    first | refine wpAny_bind (wpAny_typeNameOfWhole_keyiter hit.typeIs (wpAny_pure ?_)) | refine wpAny_bind (wpAny_typeNameOf_keyiter hit.typeIs (wpAny_pure ?_))
    refine wpAny_bind (wpAny_isOneOf_keyiter hit.typeIs ?_)
    show wpAny _ _ (setField (.ref it) 1 (rawInt ((i : Int) + 1)) >>= _) _ _ s
    refine wpAny_bind (wpAny_setField ho hd (by simp) ?_)
    have hit' : (s.heap.update it (Obj.mapFields (·.setIfInBounds 1 (rawInt ((i : Int) + 1))))).IsKeyIter it d (i + 1) es.size ep :=
      ⟨_, Heap.get?_update_self _ ho (Obj.isFreed_of_fields (Obj.data_mapFields hd _)), (Obj.cls_mapFields ..).trans hc, by rw [Obj.data_mapFields hd]; simp [rawInt]⟩
    refine wpAny_bind (wpAny_holding ?_)
    refine wpAny_bind (wpAny_isOneOf_keyiter (s := { s with heap := s.heap.update it (Obj.mapFields (·.setIfInBounds 1 (rawInt ((i : Int) + 1)))) }) hit'.typeIs ?_)
    show wpAny _ _ (pure es[i].key) _ _ _
    exact wpAny_pure (wpAny_pure ⟨_, rfl, wpAny_pure (hQ _ _ (Array.getElem?_eq_getElem hlt) hit' (Heap.SameBut.update ..))⟩)
  · have hge : es.size ≤ i := by omega
    simp only [show ¬ ((i : Int) < 0) from by omega, if_false, Int.toNat_natCast, Array.getElem?_eq_none hge]
    refine wpAny_bind ?_
    first | refine wpAny_bind (wpAny_typeNameOfWhole_keyiter hit.typeIs (wpAny_pure ?_)) | refine wpAny_bind (wpAny_typeNameOf_keyiter hit.typeIs (wpAny_pure ?_))
    show wpAny _ _ (setField (.ref it) 0 .none >>= _) _ _ s
    refine wpAny_bind (wpAny_setField ho hd (by simp) ?_)
    show wpAny _ _ (newExc (.type "StopIteration") [] >>= _) _ _ _
    refine wpAny_bind ?_
    simp only [newExc, newTuple]
    refine wpAny_bind (wpAny_newObj_type ?_ (by size_fits))
    refine wpAny_bind (m := firstArgMember _ _) (wpAny_of_eq (a := Value.none) (by first | rfl | (simp only [firstArgMember]; rfl)) ?_)
    refine wpAny_newObj_type ?_ (by size_fits)
    simp only [raiseNew]
    refine wpAny_bind (wpAny_handled ?_)
    rw [show A.in1.handled = none from hh]
    refine wpAny_bind (wpAny_pure (wpAny_throw ?_))
    refine wpAny_bind (wpAny_isInstance (T := "StopIteration") (b := true) ⟨_, Heap.get?_push_size _ rfl, rfl⟩ isSubtype_stop ?_)
    exact wpAny_pure (hN (Array.getElem?_eq_none hge) _ (((Heap.SameBut.update ..).extBut.push _).push _))
end
noncomputable def Itn (w : World) (a : Addr) (kvs : List NE) (ep : Nat) : It :=
  ⟨fun i H => H a = some (DN w a kvs ep) ∧ i < kvs.length, fun i H x H' => H' = H ∧ ∀ kv, kvs[i]? = some kv → x = .ref kv.2.1, fun i H => H a = some (DN w a kvs ep) ∧ i = kvs.length⟩
theorem turn_nk {P : Program} {w : World} {K : PySem.W.Frag} {tg : Expr} (a it : Addr) (kvs : List NE) (ep : Nat) : Turn P w K tg (Itn w a kvs ep) [it] it (fun i h => h.IsKeyIter it a i kvs.length ep) where
  mem := by simp
  obj := fun i h st b hb => by
    have e : b = it := by simpa using hb
    subst e
    obtain ⟨o, e, c, d⟩ := st
    exact ⟨o, e, fun v z => by rw [d] at z; cases z⟩
  keep := fun i h h' st k => st.at fun o e => k it (by simp) o e
  item := by
    intro X hP hw hK hc i pins s σ H E I hf st hg
    subst hP hw hK
    obtain ⟨hr, hi⟩ := hg
    obtain ⟨z, y, xs, rel, o, es, h1, h2, h3, h4, h5⟩ := (show ObjOk X.prog X.w H s.heap a (DN X.w a kvs ep) from I.hok a _ hr).1
    have hl : kvs.length = xs.length := Paired.length rel
    have hz : kvs.length = es.size := by rw [hl, ← Array.length_toList, h4, List.length_map]
    obtain ⟨f0, f1, f2, f3, f4, f5⟩ := hf it (by simp)
    refine nextK (I.ok.hd hc) hz st h1 h3 (fun e h' he st' sb => ?_) (fun hn => ?_)
    · have I1 : Inv X pins σ H { s with heap := h' } := I.turned (t' := s.toks) (fun b o hb e => (sb.2 b hb).trans e) f0 f1 f3 f4 f5
      obtain ⟨o', e', c', d'⟩ := id st'
      have hx : es[i]? = (xs[i]?).map (fun x => (⟨hashN X.w (.t x.1), .ref x.2.1, x.2.2⟩ : DictEntry)) := by rw [← Array.getElem?_toList, h4, List.getElem?_map]
      rw [he] at hx
      cases hq : xs[i]? with
      | none => rw [hq] at hx; cases hx
      | some q =>
        rw [hq] at hx
        cases hx
        have rq : ∀ kv, kvs[i]? = some kv → kv.2.1 = q.2.1 := by
          intro kv hkv
          have get : ∀ {l : List NE} {m : List (List NK × Addr × Value)} {i : Nat} {x y}, KN l m → l[i]? = some x → m[i]? = some y → x.2.1 = y.2.1 := by
            intro l m i x y r
            induction r generalizing i with
            | nil => intro e; simp at e
            | cons h t ih =>
              cases i with
              | zero => intro e e2; simp at e e2; subst e e2; exact h.2.1
              | succ j => intro e e2; exact ih (by simpa using e) (by simpa using e2)
          exact get rel hkv hq
        refine ⟨.ref q.2.1, rfl, go_of (s := { s with heap := h' }) e' c' d' (by decide) ⟨.ref q.2.1, H, I1, rfl, ⟨rfl, fun kv hkv => by rw [rq kv hkv]⟩, st', fun b hb => (hf b hb).1⟩⟩
    · rw [Array.getElem?_eq_getElem (by omega)] at hn; cases hn
  done := by
    intro X hP hw hK hc i pins s σ H E I hf st hg
    subst hP hw hK
    obtain ⟨hr, hi⟩ := hg
    obtain ⟨z, y, xs, rel, o, es, h1, h2, h3, h4, h5⟩ := (show ObjOk X.prog X.w H s.heap a (DN X.w a kvs ep) from I.hok a _ hr).1
    have hl : kvs.length = xs.length := Paired.length rel
    have hz : kvs.length = es.size := by rw [hl, ← Array.length_toList, h4, List.length_map]
    obtain ⟨f0, f1, f2, f3, f4, f5⟩ := hf it (by simp)
    refine nextK (I.ok.hd hc) hz st h1 h3 (fun e h' he st' sb => ?_) (fun hn h' eb => ⟨rfl, I.turned (t' := s.toks) (fun b o hb e => eb b o hb e) f0 f1 f3 f4 f5⟩)
    rw [Array.getElem?_eq_none (by omega)] at he; cases he
  self := fun _ _ _ _ _ st h => wpAny_pyIter_keyiter st h
section
variable {X : Cx}
noncomputable def iNk (w : World) (tl : TE) : TI := fun σ H R => tl σ H fun x H1 => ∃ a kvs ep, x = .ref a ∧ H1 a = some (DN w a kvs ep) ∧ R (Itn w a kvs ep) H1
theorem pi_nk (w : World) {tg l : Expr} {tl : TE} (hl : PE X l tl) (hw : X.w = w := by rfl) : PI X tg l (iNk w tl) := by
  subst hw
  intro pins s σ H R I h
  refine thn (hl pins s σ H _ I h) fun v s1 ⟨x, H1, I1, r1, a, kvs, ep, e, hr, q⟩ => ?_
  subst e
  cases r1
  obtain ⟨z, y, xs, rel, o, es, h1, h2, h3, h4, h5⟩ := (show ObjOk X.prog X.w H1 s1.heap a (DN X.w a kvs ep) from I1.hok a _ hr).1
  have hz : kvs.length = es.size := by rw [show kvs.length = xs.length from Paired.length rel, ← Array.length_toList, h4, List.length_map]
  refine iterK z h1 h2 h3 ?_
  refine ⟨s1.heap.objs.size, [s1.heap.objs.size], _, _, H1, rfl, I1.kept (t' := s1.toks) fun b o e => Heap.get?_push_of_some _ e, turn_nk a _ kvs ep, ⟨_, Heap.get?_push_size _ rfl, rfl, by rw [hz]; rfl⟩, fun b hb => ?_, q⟩
  have e : b = s1.heap.objs.size := by simpa using hb
  subst e
  exact I1.fpOk (Nat.le_refl _) (I1.hok.fresh (Nat.le_refl _))
end
end L2
set_option Elab.async false
set_option linter.all false
set_option maxRecDepth 100000
set_option maxHeartbeats 4000000
namespace L2
open PySem PySem.Spec PyProof.Rows
mutual
inductive DtV (H : Hp) : PyData → V → Prop
  | non : DtV H .none .non
  | int (i : Int) : DtV H (.int i) (.int i)
  | str (x : Str) : DtV H (.str x) (.str x)
  | tup {a : Addr} {us : List V} {ds : List PyData} : H a = some (.tup us) → DtL H ds us → DtV H (.tuple ds) (.ref a)
inductive DtL (H : Hp) : List PyData → List V → Prop
  | nil : DtL H [] []
  | cons {d : PyData} {v : V} {ds : List PyData} {vs : List V} : DtV H d v → DtL H ds vs → DtL H (d :: ds) (v :: vs)
end
mutual
theorem DtV.kp {H H' : Hp} (k : ∀ a us, H a = some (.tup us) → H' a = some (.tup us)) : ∀ {d : PyData} {v : V}, DtV H d v → DtV H' d v
  | _, _, .non => .non
  | _, _, .int i => .int i
  | _, _, .str x => .str x
  | _, _, .tup p l => .tup (k _ _ p) (l.kp k)
theorem DtL.kp {H H' : Hp} (k : ∀ a us, H a = some (.tup us) → H' a = some (.tup us)) : ∀ {ds : List PyData} {vs : List V}, DtL H ds vs → DtL H' ds vs
  | _, _, .nil => .nil
  | _, _, .cons i r => .cons (i.kp k) (r.kp k)
end
theorem DtL.of {H : Hp} {f : V → PyData} : ∀ {vs : List V}, (∀ v ∈ vs, DtV H (f v) v) → DtL H (vs.map f) vs
  | [], _ => .nil
  | v :: vs, h => .cons (h v List.mem_cons_self) (DtL.of fun u hu => h u (List.mem_cons_of_mem _ hu))
theorem DtL.map {α : Type} {H : Hp} {f : α → PyData} {g : α → V} : ∀ {xs : List α}, (∀ x ∈ xs, DtV H (f x) (g x)) → DtL H (xs.map f) (xs.map g)
  | [], _ => .nil
  | x :: xs, h => .cons (h x List.mem_cons_self) (DtL.map fun u hu => h u (List.mem_cons_of_mem _ hu))
section
variable {P : Program} {w : World} {H : Hp} {h : Heap}
mutual
theorem DtV.reads (ok : HOk P w H h) : ∀ {d : PyData} {v : V} {u : Value}, DtV H d v → RelV v u → ∃ as, Reads h u d as
  | _, _, _, .non, r => by cases (show _ = Value.none from r); exact ⟨_, .none⟩
  | _, _, _, .int i, r => by obtain ⟨t, e⟩ := (show ∃ t, _ = Value.int i t from r); subst e; exact ⟨_, .int i t⟩
  | _, _, _, .str x, r => by obtain ⟨t, e⟩ := (show ∃ t, _ = Value.str x t from r); subst e; exact ⟨_, .str x t⟩
  | _, _, _, .tup p l, r => by
    obtain ⟨_, its, rs, ⟨o, h1, h2, n, h3⟩, _⟩ := (show ObjOk P w H h _ (.tup _) from ok _ _ p)
    cases (show _ = Value.ref _ from r)
    obtain ⟨as, q⟩ := l.reads ok rs
    exact ⟨as, .tuple h1 h2 h3 (by simpa using q)⟩
theorem DtL.reads (ok : HOk P w H h) : ∀ {ds : List PyData} {vs : List V} {us : List Value}, DtL H ds vs → Vals vs us → ∃ as, ReadsAll h us ds as
  | _, _, _, .nil, .nil => ⟨_, .nil⟩
  | _, _, _, .cons i r, .cons a b => let ⟨_, q⟩ := i.reads ok a; let ⟨_, q2⟩ := r.reads ok b; ⟨_, .cons q q2⟩
end
end
structure Sm (n k : Nat) (d : PyData) : Prop where
  len : d.shown.length ≤ n
  sh : d.showable = true
  nd : d.hasDict = false
  dp : d.depth ≤ k
theorem Sm.mono {n m k j : Nat} {d : PyData} (h : Sm n k d) (a : n ≤ m) (b : k ≤ j) : Sm m j d := ⟨Nat.le_trans h.len a, h.sh, h.nd, Nat.le_trans h.dp b⟩
theorem Sm.non : Sm 4 0 .none := ⟨by simp only [PyData.shown]; decide, by simp [PyData.showable], by simp only [PyData.hasDict], by simp only [PyData.depth, Nat.le_refl]⟩
theorem Sm.str {x : Str} {n : Nat} (h : ∀ c ∈ x.cps.toList, c < 16 ^ 8) (hl : x.length ≤ n) : Sm (10 * n + 2) 0 (.str x) := by
  refine ⟨?_, by simp [PyData.showable], by simp only [PyData.hasDict], by simp only [PyData.depth, Nat.le_refl]⟩
  simp only [PyData.shown]
  have := StrLaws.reprText_len x h
  omega
theorem all_len {n k : Nat} : ∀ {ds : List PyData}, (∀ d ∈ ds, Sm n k d) → (PyData.showableAll ds = true ∧ PyData.hasDictAll ds = false ∧ PyData.depthAll ds ≤ k) ∧ (Str.join ", " (PyData.shownAll ds)).length ≤ ds.length * (n + 2)
  | [], _ => by
    refine ⟨⟨by simp [PyData.showableAll], by simp only [PyData.hasDictAll], by simp only [PyData.depthAll, Nat.zero_le]⟩, ?_⟩
    simp only [PyData.shownAll, List.length_nil, Nat.zero_mul]
    show (Str.join ", " []).length ≤ 0
    decide
  | d :: ds, h => by
    have h1 := h d List.mem_cons_self
    obtain ⟨⟨a, b, c⟩, e⟩ := all_len fun x hx => h x (List.mem_cons_of_mem _ hx)
    have h3 := h1.dp
    refine ⟨⟨by simp [PyData.showableAll, h1.sh, a], by simp only [PyData.hasDictAll, h1.nd, b, Bool.or_self], by simp only [PyData.depthAll]; omega⟩, ?_⟩
    have h2 := h1.len
    cases ds with
    | nil =>
      simp only [PyData.shownAll, List.length_cons, List.length_nil]
      show d.shown.length ≤ _
      omega
    | cons d2 ds =>
      simp only [PyData.shownAll] at e ⊢
      show (d.shown ++ ", " ++ Str.join ", " (d2.shown :: PyData.shownAll ds)).length ≤ _
      rw [strLen_append, strLen_append]
      have e3 : (", " : Str).length = 2 := by decide
      rw [e3, List.length_cons, Nat.succ_mul]
      simp only [List.length_cons] at e ⊢
      omega
theorem Sm.tup {ds : List PyData} {n k m : Nat} (h : ∀ d ∈ ds, Sm n k d) (hl : ds.length ≤ m) : Sm (m * (n + 2) + 3) (k + 1) (.tuple ds) := by
  obtain ⟨⟨a, b, c⟩, e⟩ := all_len h
  refine ⟨?_, by simpa [PyData.showable] using a, by simpa only [PyData.hasDict] using b, by simp only [PyData.depth]; omega⟩
  simp only [PyData.shown]
  unfold tupleText
  rw [strLen_append, strLen_append]
  have h1 : ("(" : Str).length = 1 := by decide
  have h2 : (if ((PyData.shownAll ds).length == 1) = true then (",)" : String) else ")" : String).length ≤ 2 := by split <;> decide
  have h3 : ds.length * (n + 2) ≤ m * (n + 2) := Nat.mul_le_mul_right _ hl
  have h4 : (Str.ofString (if ((PyData.shownAll ds).length == 1) = true then (",)" : String) else ")" : String)).length ≤ 2 := by split <;> decide
  have h5 : ((if ((PyData.shownAll ds).length == 1) = true then (",)" : String) else ")" : String) : Str).length ≤ 2 := h4
  omega
noncomputable def rRepr : List V → Hp → VK → Prop := fun xs H Q => ∃ a d, xs = [.ref a] ∧ DtV H d (.ref a) ∧ Sm 16000000 40 d ∧ Q (.str d.shown) H
theorem call_repr {X : Cx} {k : Nat} (hr : Room k X.A) : CallR X (.builtin "repr") rRepr := by
  intro pins s σ H xs us Q I r h
  obtain ⟨a, d, rfl, hd, hs, q⟩ := h
  obtain ⟨u, rfl, ru⟩ := vals1 r
  cases ru
  obtain ⟨as, rd⟩ := hd.reads I.hok (show RelV (.ref a) (.ref a) from rfl)
  have h1 := hs.dp
  have h2 := hr.un
  have h3 := hs.len
  refine repr_of_reads' rd hs.sh (PyData.noDict_hsm hs.nd) hr.gd (by omega) (fun _ _ e => e) (fun h' u tk hk => ⟨.str d.shown, H, I.kept (t' := tk) hk, ⟨_, rfl⟩, q⟩) (Nat.le_trans h3 (by unfold sizeLine; decide))
end L2
set_option Elab.async false
set_option linter.all false
set_option maxRecDepth 100000
set_option maxHeartbeats 4000000
namespace L2
open PySem PySem.Spec PyProof.Rows
noncomputable def KpT (H H' : Hp) : Prop := ∀ a us, H a = some (.tup us) → H' a = some (.tup us)
theorem Same.kt {H H' : Hp} (s : Same H H') : KpT H H' := fun a us e => s a _ e
theorem KpT.trans {H H1 H2 : Hp} (a : KpT H H1) (b : KpT H1 H2) : KpT H H2 := fun c us e => b c us (a c us e)
theorem KpT.upd {H : Hp} {l : Addr} {xs ys : List V} (e : H l = some (.lst xs)) : KpT H (upd H l (.lst ys)) := fun a us h => by rw [upd_ne (ne_of h e (fun z => nomatch z))]; exact h
section
variable {k : Nat} {cap : List Nat} {g : TG} {tt : TT} {te : TE} {σ : St} {H : Hp} {Q : VK} {l : Addr}
theorem comp_ents {α : Type} (J : It) (es : List α) (x : α → V) (p : α → Bool) (R : Hp → α → V → Prop) (Good : St → Prop) (h0 : Good (capSt k cap σ)) (hl : H l = none) (hlen : es.length < sizeLine)
    (hstop : ∀ H', Same H H' → J.stop es.length H') (hgo : ∀ i H', i < es.length → Same H H' → J.go i H')
    (hyld : ∀ i H1 v H2, i < es.length → Same H H1 → J.yld i H1 v H2 → H2 = H1 ∧ ∃ e, es[i]? = some e ∧ v = x e)
    (m : ∀ H1 H2 e v, KpT H1 H2 → R H1 e v → R H2 e v)
    (ht : ∀ e σ H1 ys (N : St → Hp → Prop), e ∈ es → Good σ → Same H H1 → H1 l = some (.lst ys) → ys.length < sizeLine → (p e = false → ∀ σ', Good σ' → N σ' H1) →
      (p e = true → ∀ σ' v H2, Good σ' → Same H1 H2 → R H2 e v → N σ' (upd H2 l (.lst (ys ++ [v])))) → turnOf g tt te l (x e) σ H1 N)
    (hd : ∀ H' ys, Same H H' → Paired (R H') (es.filter p) ys → H' l = some (.lst ys) → Q (.ref l) H') : GoalW J g tt te l (capSt k cap σ) (upd H l (.lst [])) Q := by
  refine comp_gen J es.length (fun i σ' H' => i ≤ es.length ∧ Good σ' ∧ Same H H' ∧ ∃ ys, Paired (R H') ((es.take i).filter p) ys ∧ H' l = some (.lst ys)) ⟨Nat.zero_le _, h0, Same.upd hl, [], .nil, upd_same⟩
    (fun σ' H' ⟨_, _, s, _⟩ => hstop H' s) (fun i σ' H' hi ⟨_, _, s, _⟩ => hgo i H' hi s) (fun i σ' H' v H'' hi ⟨_, gd, s, ys, py, e⟩ y => ?_) (fun σ' H' ⟨_, _, s, ys, py, e⟩ => ?_)
  · obtain ⟨e1, en, he, ev⟩ := hyld i H' v H'' hi s y
    subst e1 ev
    have hz : ys.length < sizeLine := by
      rw [← Paired.length py]
      have a1 := List.length_filter_le p (es.take i)
      rw [List.length_take] at a1
      omega
    refine ht en σ' _ ys _ (List.mem_of_getElem? he) gd s e hz (fun hp σ2 g2 => ⟨hi, g2, s, ys, ?_, e⟩) (fun hp σ2 v H2 g2 s2 r => ⟨hi, g2, fun b o hb => ?_, ys ++ [v], ?_, upd_same⟩)
    · rw [take_filter he, if_neg (by rw [hp]; exact Bool.false_ne_true), List.append_nil]; exact py
    · rw [upd_ne (ne_of_none hb hl)]; exact s2 _ _ (s _ _ hb)
    · rw [take_filter he, if_pos hp]
      have k2 := KpT.upd (ys := ys ++ [v]) (s2 _ _ e)
      exact Paired.snoc (Paired.mapP py fun a b r => m _ _ a b (s2.kt.trans k2) r) (m _ _ _ _ k2 r)
  · rw [List.take_length] at py
    exact hd H' ys s py e
end
theorem for_nk {w : World} {a : Addr} {kvs : List NE} {ep : Nat} {g : TG} {tb : TS} {D : Ends} {σ : St} {H : Hp} (Pv : Nat → St → Hp → Prop) (h0 : Pv 0 σ H) (hl : ∀ i σ H, i ≤ kvs.length → Pv i σ H → H a = some (DN w a kvs ep))
    (hs : ∀ i kv σ H, kvs[i]? = some kv → Pv i σ H → g (.ref kv.2.1) σ H fun σ2 H2 => tb { D with nx := Pv (i + 1), ct := Pv (i + 1), bk := D.nx } σ2 H2) (hd : ∀ σ H, Pv kvs.length σ H → D.nx σ H) :
    ∃ W : Nat → Nat → St → Hp → Prop, (∃ m, W 0 m σ H) ∧ ∀ i m σ H, W i m σ H →
      ((Itn w a kvs ep).stop i H ∧ D.nx σ H) ∨ ((Itn w a kvs ep).go i H ∧ ∃ N : St → Hp → Prop, (∀ σ' H', N σ' H' → ∃ m', m' < m ∧ W (i + 1) m' σ' H') ∧ ∀ x H', (Itn w a kvs ep).yld i H x H' → g x σ H' fun σ2 H2 => tb { D with nx := N, ct := N, bk := D.nx } σ2 H2) := by
  refine ⟨fun i m σ H => m = kvs.length - i ∧ i ≤ kvs.length ∧ Pv i σ H, ⟨kvs.length, by simp, Nat.zero_le _, h0⟩, ?_⟩
  rintro i m σ H ⟨rfl, hi, p⟩
  have q := hl i σ H hi p
  by_cases hlt : i < kvs.length
  · refine .inr ⟨⟨q, hlt⟩, Pv (i + 1), fun σ' H' p' => ⟨kvs.length - (i + 1), by omega, rfl, hlt, p'⟩, fun x H' y => ?_⟩
    obtain ⟨e, y⟩ := y
    subst e
    rw [y _ (List.getElem?_eq_getElem hlt)]
    exact hs i _ σ _ (List.getElem?_eq_getElem hlt) p
  · have e : i = kvs.length := by omega
    subst e
    exact .inl ⟨⟨q, rfl⟩, hd σ H p⟩
theorem for_enumL {K : PySem.W.Frag} {a : Addr} {xs : List V} {g : TG} {tb : TS} {D : Ends} {σ : St} {H : Hp} (Pv : Nat → St → Hp → Prop) (h0 : Pv 0 σ H) (hl : ∀ i σ H, i ≤ xs.length → Pv i σ H → SqL K H a xs)
    (hs : ∀ i x t σ H, xs[i]? = some x → H t = none → Pv i σ H → g (.ref t) σ (upd H t (.tup [.int i, x])) fun σ2 H2 => tb { D with nx := Pv (i + 1), ct := Pv (i + 1), bk := D.nx } σ2 H2) (hd : ∀ σ H, Pv xs.length σ H → D.nx σ H) :
    ∃ W : Nat → Nat → St → Hp → Prop, (∃ m, W 0 m σ H) ∧ ∀ i m σ H, W i m σ H →
      ((IteL K a).stop i H ∧ D.nx σ H) ∨ ((IteL K a).go i H ∧ ∃ N : St → Hp → Prop, (∀ σ' H', N σ' H' → ∃ m', m' < m ∧ W (i + 1) m' σ' H') ∧ ∀ x H', (IteL K a).yld i H x H' → g x σ H' fun σ2 H2 => tb { D with nx := N, ct := N, bk := D.nx } σ2 H2) := by
  refine ⟨fun i m σ H => m = xs.length - i ∧ i ≤ xs.length ∧ Pv i σ H, ⟨xs.length, by simp, Nat.zero_le _, h0⟩, ?_⟩
  rintro i m σ H ⟨rfl, hi, p⟩
  have q := hl i σ H hi p
  by_cases hlt : i < xs.length
  · refine .inr ⟨⟨xs, xs[i], q, by simp [hlt]⟩, Pv (i + 1), fun σ' H' p' => ⟨xs.length - (i + 1), by omega, rfl, hlt, p'⟩, fun x H' y => ?_⟩
    obtain ⟨t, ht, rfl, y⟩ := y
    obtain ⟨x, hx, rfl⟩ := y xs q
    exact hs i x t σ H hx ht p
  · have e : i = xs.length := by omega
    subst e
    exact .inl ⟨⟨xs, q, rfl⟩, hd σ H p⟩
end L2
set_option Elab.async false
set_option linter.all false
set_option maxRecDepth 100000
set_option maxHeartbeats 4000000
namespace L2
open PySem PySem.Spec PyProof.Rows Mr
mutual
inductive Tr (H : Hp) : PV → V → Prop
  | non : Tr H .non .non
  | bl (b : Bool) : Tr H (.bl b) (.bl b)
  | int (i : Int) : Tr H (.int i) (.int i)
  | str (x : Str) : Tr H (.str x) (.str x)
  | tup {a : Addr} {us : List V} {ps : List PV} : H a = some (.tup us) → TrL H ps us → Tr H (.tup ps) (.ref a)
inductive TrL (H : Hp) : List PV → List V → Prop
  | nil : TrL H [] []
  | cons {p : PV} {v : V} {ps : List PV} {vs : List V} : Tr H p v → TrL H ps vs → TrL H (p :: ps) (v :: vs)
end
mutual
theorem Tr.kp {H H' : Hp} (k : KpT H H') : ∀ {p : PV} {v : V}, Tr H p v → Tr H' p v
  | _, _, .non => .non
  | _, _, .bl b => .bl b
  | _, _, .int b => .int b
  | _, _, .str b => .str b
  | _, _, .tup h r => .tup (k _ _ h) (r.kp k)
theorem TrL.kp {H H' : Hp} (k : KpT H H') : ∀ {p : List PV} {v : List V}, TrL H p v → TrL H' p v
  | _, _, .nil => .nil
  | _, _, .cons h r => .cons (h.kp k) (r.kp k)
end
mutual
theorem Tr.rep {K : PySem.W.Frag} {Z : ASet} {H : Hp} : ∀ {p : PV} {v : V}, Tr H p v → Rep K Z H p v
  | _, _, .non => .non
  | _, _, .bl b => .bl b
  | _, _, .int b => .int b
  | _, _, .str b => .str b
  | _, _, .tup h r => .tup (.inl h) r.rep
theorem TrL.rep {K : PySem.W.Frag} {Z : ASet} {H : Hp} : ∀ {p : List PV} {v : List V}, TrL H p v → RepL K Z H p v
  | _, _, .nil => .nil
  | _, _, .cons h r => .cons h.rep r.rep
end
theorem Tr.tup' {H : Hp} {ps : List PV} {v : V} (h : Tr H (.tup ps) v) : ∃ a us, v = .ref a ∧ H a = some (.tup us) ∧ TrL H ps us := by
  cases h with | tup h r => exact ⟨_, _, rfl, h, r⟩
theorem TrL.length {H : Hp} : ∀ {ps : List PV} {vs : List V}, TrL H ps vs → ps.length = vs.length
  | _, _, .nil => rfl
  | _, _, .cons _ r => by rw [List.length_cons, List.length_cons, r.length]
theorem TrL.get {H : Hp} : ∀ {ps : List PV} {vs : List V} {i : Nat} {v : V}, TrL H ps vs → vs[i]? = some v → ∃ p, ps[i]? = some p ∧ Tr H p v
  | _, _, _, _, .nil, e => by simp at e
  | _, _, 0, _, .cons h _, e => by simp at e; subst e; exact ⟨_, rfl, h⟩
  | _, _, i + 1, v, .cons _ r, e => by
    obtain ⟨p, h1, h2⟩ := r.get (i := i) (v := v) (by simpa using e)
    exact ⟨p, by simpa using h1, h2⟩
theorem TrL.get' {H : Hp} : ∀ {ps : List PV} {vs : List V} {i : Nat} {p : PV}, TrL H ps vs → ps[i]? = some p → ∃ v, vs[i]? = some v ∧ Tr H p v
  | _, _, _, _, .nil, e => by simp at e
  | _, _, 0, _, .cons h _, e => by simp at e; subst e; exact ⟨_, rfl, h⟩
  | _, _, i + 1, p, .cons _ r, e => by
    obtain ⟨v, h1, h2⟩ := r.get' (i := i) (p := p) (by simpa using e)
    exact ⟨v, by simpa using h1, h2⟩
theorem TrL.app {H : Hp} : ∀ {ps qs : List PV} {vs us : List V}, TrL H ps vs → TrL H qs us → TrL H (ps ++ qs) (vs ++ us)
  | _, _, _, _, .nil, s => s
  | _, _, _, _, .cons h r, s => .cons h (r.app s)
theorem TrL.strs {H : Hp} : ∀ {xs : List Str}, TrL H (xs.map PV.str) (xs.map V.str)
  | [] => .nil
  | x :: xs => .cons (.str x) TrL.strs
theorem TrL.paired {α : Type} {H : Hp} {f : α → PV} : ∀ {xs : List α} {vs : List V}, Paired (fun a v => Tr H (f a) v) xs vs → TrL H (xs.map f) vs
  | _, _, .nil => .nil
  | _, _, .cons h r => .cons h (TrL.paired r)
mutual
noncomputable def keyP : PV → NK
  | .str x => .k (.inr x)
  | .int i => .k (.inl i)
  | .tup ps => .t (keyPL ps)
  | _ => .k (.inl 0)
noncomputable def keyPL : List PV → List NK
  | [] => []
  | p :: ps => keyP p :: keyPL ps
end
mutual
noncomputable def keyed : PV → Bool
  | .str _ => true
  | .int _ => true
  | .tup ps => keyedL ps
  | _ => false
noncomputable def keyedL : List PV → Bool
  | [] => true
  | p :: ps => keyed p && keyedL ps
end
mutual
theorem Tr.nk {H : Hp} : ∀ {p : PV} {v : V}, Tr H p v → keyed p = true → NkV H (keyP p) v
  | _, _, .non, h => by simp [keyed] at h
  | _, _, .bl b, h => by simp [keyed] at h
  | _, _, .int i, _ => by simp only [keyP]; exact .k (x := .inl i)
  | _, _, .str x, _ => by simp only [keyP]; exact .k (x := .inr x)
  | _, _, .tup h r, q => by simp only [keyP]; exact .t h (r.nk (by simpa [keyed] using q))
theorem TrL.nk {H : Hp} : ∀ {p : List PV} {v : List V}, TrL H p v → keyedL p = true → NkL H (keyPL p) v
  | _, _, .nil, _ => by simp only [keyPL]; exact .nil
  | _, _, .cons h r, q => by
    simp only [keyedL, Bool.and_eq_true] at q
    simp only [keyPL]
    exact .cons (h.nk q.1) (r.nk q.2)
end
mutual
theorem keyP_inj : ∀ {p q : PV}, keyed p = true → keyed q = true → keyP p = keyP q → p = q
  | .str x, .str y, _, _, e => by simp [keyP] at e; rw [e]
  | .str x, .int y, _, _, e => by simp [keyP] at e
  | .str x, .tup y, _, _, e => by simp [keyP] at e
  | .int x, .str y, _, _, e => by simp [keyP] at e
  | .int x, .int y, _, _, e => by simp [keyP] at e; rw [e]
  | .int x, .tup y, _, _, e => by simp [keyP] at e
  | .tup x, .str y, _, _, e => by simp [keyP] at e
  | .tup x, .int y, _, _, e => by simp [keyP] at e
  | .tup x, .tup y, h1, h2, e => by
    simp only [keyP, NK.t.injEq] at e
    rw [keyPL_inj (by simpa [keyed] using h1) (by simpa [keyed] using h2) e]
  | .non, _, h, _, _ => by simp [keyed] at h
  | .bl _, _, h, _, _ => by simp [keyed] at h
  | .ty _, _, h, _, _ => by simp [keyed] at h
  | .lst _, _, h, _, _ => by simp [keyed] at h
  | .dct _, _, h, _, _ => by simp [keyed] at h
  | .str _, .non, _, h, _ => by simp [keyed] at h
  | .str _, .bl _, _, h, _ => by simp [keyed] at h
  | .str _, .ty _, _, h, _ => by simp [keyed] at h
  | .str _, .lst _, _, h, _ => by simp [keyed] at h
  | .str _, .dct _, _, h, _ => by simp [keyed] at h
  | .int _, .non, _, h, _ => by simp [keyed] at h
  | .int _, .bl _, _, h, _ => by simp [keyed] at h
  | .int _, .ty _, _, h, _ => by simp [keyed] at h
  | .int _, .lst _, _, h, _ => by simp [keyed] at h
  | .int _, .dct _, _, h, _ => by simp [keyed] at h
  | .tup _, .non, _, h, _ => by simp [keyed] at h
  | .tup _, .bl _, _, h, _ => by simp [keyed] at h
  | .tup _, .ty _, _, h, _ => by simp [keyed] at h
  | .tup _, .lst _, _, h, _ => by simp [keyed] at h
  | .tup _, .dct _, _, h, _ => by simp [keyed] at h
theorem keyPL_inj : ∀ {p q : List PV}, keyedL p = true → keyedL q = true → keyPL p = keyPL q → p = q
  | [], [], _, _, _ => rfl
  | [], _ :: _, _, _, e => by simp [keyPL] at e
  | _ :: _, [], _, _, e => by simp [keyPL] at e
  | p :: ps, q :: qs, h1, h2, e => by
    have h1 : keyed p = true ∧ keyedL ps = true := by simpa [keyedL] using h1
    have h2 : keyed q = true ∧ keyedL qs = true := by simpa [keyedL] using h2
    simp only [keyPL, List.cons.injEq] at e
    rw [keyP_inj h1.1 h2.1 e.1, keyPL_inj h1.2 h2.2 e.2]
end
mutual
noncomputable def datP : PV → PyData
  | .str x => .str x
  | .int i => .int i
  | .tup ps => .tuple (datPL ps)
  | _ => .none
noncomputable def datPL : List PV → List PyData
  | [] => []
  | p :: ps => datP p :: datPL ps
end
mutual
noncomputable def shows : PV → Bool
  | .str _ => true
  | .int _ => true
  | .non => true
  | .tup ps => showsL ps
  | _ => false
noncomputable def showsL : List PV → Bool
  | [] => true
  | p :: ps => shows p && showsL ps
end
mutual
theorem Tr.dt {H : Hp} : ∀ {p : PV} {v : V}, Tr H p v → shows p = true → DtV H (datP p) v
  | _, _, .non, h => by simp only [datP]; exact .non
  | _, _, .bl b, h => by simp [shows] at h
  | _, _, .int i, _ => by simp only [datP]; exact .int i
  | _, _, .str x, _ => by simp only [datP]; exact .str x
  | _, _, .tup h r, q => by simp only [datP]; exact .tup h (r.dt (by simpa [shows] using q))
theorem TrL.dt {H : Hp} : ∀ {p : List PV} {v : List V}, TrL H p v → showsL p = true → DtL H (datPL p) v
  | _, _, .nil, _ => by simp only [datPL]; exact .nil
  | _, _, .cons h r, q => by
    simp only [showsL, Bool.and_eq_true] at q
    simp only [datPL]
    exact .cons (h.dt q.1) (r.dt q.2)
end
theorem datPL_map : ∀ ps : List PV, datPL ps = ps.map datP
  | [] => by simp only [datPL, List.map_nil]
  | p :: ps => by simp only [datPL, List.map_cons, datPL_map ps]
theorem showsL_all : ∀ ps : List PV, showsL ps = ps.all shows
  | [] => by simp only [showsL, List.all_nil]
  | p :: ps => by simp only [showsL, List.all_cons, showsL_all ps]
noncomputable def Sh (n k : Nat) (p : PV) : Prop := shows p = true ∧ Sm n k (datP p)
theorem Sh.mono {n m k j : Nat} {p : PV} (h : Sh n k p) (a : n ≤ m) (b : k ≤ j) : Sh m j p := ⟨h.1, h.2.mono a b⟩
theorem Sh.tup {ps : List PV} {n k m : Nat} (h : ∀ p ∈ ps, Sh n k p) (hl : ps.length ≤ m) : Sh (m * (n + 2) + 3) (k + 1) (.tup ps) := by
  refine ⟨by simp only [shows]; rw [showsL_all]; exact List.all_eq_true.mpr fun p hp => (h p hp).1, ?_⟩
  simp only [datP]
  rw [datPL_map]
  refine Sm.tup (fun d hd => ?_) (by rw [List.length_map]; exact hl)
  obtain ⟨p, hp, rfl⟩ := List.mem_map.mp hd
  exact (h p hp).2
theorem Sh.non : Sh 4 0 .non := ⟨by simp only [shows], by simp only [datP]; exact Sm.non⟩
theorem Sh.str {x : Str} {n : Nat} (h : ∀ c ∈ x.cps.toList, c < 16 ^ 8) (hl : x.length ≤ n) : Sh (10 * n + 2) 0 (.str x) := ⟨by simp only [shows], by simp only [datP]; exact Sm.str h hl⟩
noncomputable def rSortQ (K : PySem.W.Frag) : List V → Hp → VK → Prop := fun xs H Q => ∃ p ys ps, xs = [.ref p] ∧ SqL K H p ys ∧ TrL H ps ys ∧ ys.length < 64 ∧ (∀ x ∈ ps, ledP true x = true) ∧ cmpAll 3 ps = true ∧
  ∀ l zs, TrL H (sortT 3 ps) zs → H l = none → Q (.ref l) (upd H l (.lst zs))
theorem TrL.pick {H : Hp} {ps : List PV} {ys : List V} (r : TrL H ps ys) : ∀ {ix : List Nat}, (∀ i ∈ ix, i < ps.length) → TrL H (ix.map fun i => ps.getD i .non) (ix.map fun i => ys.getD i .non)
  | [], _ => .nil
  | i :: ix, h => by
    have hi := h i List.mem_cons_self
    have e := List.getElem?_eq_getElem hi
    obtain ⟨v, ev, rv⟩ := r.get' e
    refine .cons ?_ (TrL.pick r fun j hj => h j (List.mem_cons_of_mem _ hj))
    dsimp only
    rw [List.getD_eq_getElem?_getD, List.getD_eq_getElem?_getD, e, ev]
    exact rv
theorem sortQ {X : Cx} {k : Nat} (K : PySem.W.Frag) (hr : Room k X.A) (hK : X.K = K := by rfl) : CallR X (.builtin "sorted") (rSortQ K) := by
  intro pins s σ H xs us Q I r ⟨p, ys, ps, e, hq, rp, h64, led, cmp, q⟩
  refine sortPX K hr hK pins s σ H xs us Q I r ⟨p, ys, ps, true, e, hq, rp.rep, h64, led, cmp, fun l ix h1 h2 hl => q l _ ?_ hl⟩
  have hix : ∀ i ∈ ix, i < ps.length := fun i hi => List.mem_range.mp (h1.mem_iff.mp hi)
  have pm : (ix.map fun i => ps.getD i .non).Perm ps := by
    have := h1.map fun i => ps.getD i PV.non
    have e : (List.range ps.length).map (fun i => ps.getD i PV.non) = ps := by
      apply List.ext_getElem
      · simp
      · intro i a1 a2
        simp [List.getElem?_eq_getElem a2]
    rw [e] at this
    exact this
  have es : sortT 3 ps = ix.map fun i => ps.getD i .non :=
    sorted_oneP (sortT_sorted 3 ps) h2 ((sortT_perm 3 ps).trans pm.symm) fun x hx y hy => cmp_anti cmp ((sortT_perm 3 ps).mem_iff.mp hx) ((sortT_perm 3 ps).mem_iff.mp hy)
  rw [es]
  exact rp.pick hix
end L2
set_option Elab.async false
set_option linter.all false
set_option maxRecDepth 100000
set_option maxHeartbeats 4000000
namespace L2
open PySem PySem.Spec PyProof.Rows Mr
noncomputable instance pvDec : DecidableEq PV := fun a b => Classical.propDecidable _
structure En where
  w : Str
  t : PV
  r : List PV
  b : Bool
noncomputable def dP (e : En) : PV := .tup (.str e.w :: e.t :: e.r)
noncomputable def eP (e : En) : PV := .tup [dP e, .bl e.b]
section
variable {κ : Type} [DecidableEq κ]
noncomputable def putG (acc : List (κ × En)) (k : κ) (e : En) : List (κ × En) := if (acc.any fun x => decide (x.1 = k)) = true then acc.map (fun x => if x.1 = k then (x.1, e) else x) else acc ++ [(k, e)]
theorem put_pair {R : κ × En → NE → Prop} {acc : List (κ × En)} {kvs : List NE} {k : κ} {ks : List NK} {b : Addr} {v : V} {e : En} (p : Paired R acc kvs) (hk : ∀ x kv, R x kv → (x.1 = k ↔ kv.1 = ks)) (hn : R (k, e) (ks, b, v))
    (hu : ∀ x kv, R x kv → x.1 = k → R (x.1, e) (kv.1, kv.2.1, v)) : Paired R (putG acc k e) (putN kvs ks b v) := by
  have ha : (acc.any fun x => decide (x.1 = k)) = (lkN kvs ks).isSome := by
    clear hn hu
    induction p with
    | nil => rfl
    | @cons x kv xs kvs h t ih =>
      rw [List.any_cons, ih]
      have z := hk x kv h
      by_cases c : x.1 = k
      · have b2 : lkN (kv :: kvs) ks = some kv.2.2 := by simp [lkN, List.find?_cons, z.mp c]
        rw [decide_eq_true c, b2]; rfl
      · have c' : ¬ kv.1 = ks := fun q => c (z.mpr q)
        have b2 : lkN (kv :: kvs) ks = lkN kvs ks := by simp [lkN, List.find?_cons, c']
        rw [decide_eq_false c, b2, Bool.false_or]
  unfold putG putN
  rw [ha]
  by_cases q : (lkN kvs ks).isSome = true
  · rw [if_pos q, if_pos q]
    clear ha q
    induction p with
    | nil => exact .nil
    | @cons x kv xs kvs h t ih =>
      rw [List.map_cons, List.map_cons]
      refine .cons ?_ ih
      by_cases c : x.1 = k
      · rw [if_pos c, if_pos ((hk x kv h).mp c)]; exact hu x kv h c
      · rw [if_neg c, if_neg fun z => c ((hk x kv h).mpr z)]; exact h
  · rw [if_neg q, if_neg q]; exact Paired.snoc p hn
theorem put_pairK {R : κ × En → Key × V → Prop} {acc : List (κ × En)} {kvs : List (Key × V)} {k : κ} {ks : Key} {v : V} {e : En} (p : Paired R acc kvs) (hk : ∀ x kv, R x kv → (x.1 = k ↔ kv.1 = ks)) (hn : R (k, e) (ks, v))
    (hu : ∀ x kv, R x kv → x.1 = k → R (x.1, e) (kv.1, v)) : Paired R (putG acc k e) (putK kvs ks v) := by
  have ha : (acc.any fun x => decide (x.1 = k)) = kvs.any fun kv => decide (kv.1 = ks) := by
    clear hn hu
    induction p with
    | nil => rfl
    | @cons x kv xs kvs h t ih =>
      rw [List.any_cons, List.any_cons, ih]
      by_cases c : x.1 = k
      · rw [decide_eq_true c, decide_eq_true ((hk x kv h).mp c)]
      · rw [decide_eq_false c, decide_eq_false fun z => c ((hk x kv h).mpr z)]
  unfold putG putK
  rw [ha]
  by_cases q : (kvs.any fun kv => decide (kv.1 = ks)) = true
  · rw [if_pos q, if_pos q]
    clear ha q
    induction p with
    | nil => exact .nil
    | @cons x kv xs kvs h t ih =>
      rw [List.map_cons, List.map_cons]
      refine .cons ?_ ih
      by_cases c : x.1 = k
      · rw [if_pos c, if_pos ((hk x kv h).mp c)]; exact hu x kv h c
      · rw [if_neg c, if_neg fun z => c ((hk x kv h).mpr z)]; exact h
  · rw [if_neg q, if_neg q]; exact Paired.snoc p hn
noncomputable def foldG (f : En → κ) (p : En → Bool) (es : List En) : List (κ × En) := es.foldl (fun acc e => if p e = true then putG acc (f e) e else acc) []
theorem foldG_snoc (f : En → κ) (p : En → Bool) (es : List En) (e : En) : foldG f p (es ++ [e]) = if p e = true then putG (foldG f p es) (f e) e else foldG f p es := by
  unfold foldG; rw [List.foldl_append]; rfl
theorem foldG_take {f : En → κ} {p : En → Bool} {es : List En} {i : Nat} {e : En} (h : es[i]? = some e) : foldG f p (es.take (i + 1)) = if p e = true then putG (foldG f p (es.take i)) (f e) e else foldG f p (es.take i) := by
  rw [List.take_add_one, h]; exact foldG_snoc f p (es.take i) e
theorem putG_length (acc : List (κ × En)) (k : κ) (e : En) : (putG acc k e).length ≤ acc.length + 1 := by
  unfold putG; split
  · rw [List.length_map]; omega
  · rw [List.length_append]; exact Nat.le_refl _
theorem foldG_ind {f : En → κ} {p : En → Bool} (P : List En → List (κ × En) → Prop) (h0 : P [] []) (h1 : ∀ es e acc, P es acc → P (es ++ [e]) (if p e = true then putG acc (f e) e else acc)) : ∀ es, P es (foldG f p es) := by
  intro es
  have : ∀ n, ∀ es : List En, es.length = n → P es (foldG f p es) := by
    intro n
    induction n with
    | zero => intro es h; have : es = [] := List.length_eq_zero_iff.mp h; subst this; exact h0
    | succ n ih =>
      intro es h
      have hne : es ≠ [] := fun z => by rw [z] at h; cases h
      have e := List.dropLast_concat_getLast hne
      rw [← e, foldG_snoc]
      exact h1 _ _ _ (ih _ (by rw [List.length_dropLast]; omega))
  exact this _ es rfl
theorem foldG_length (f : En → κ) (p : En → Bool) (es : List En) : (foldG f p es).length ≤ es.length :=
  foldG_ind (f := f) (p := p) (fun es acc => acc.length ≤ es.length) (Nat.le_refl _) (fun es e acc h => by
    rw [List.length_append]
    split
    · have := putG_length acc (f e) e; show _ ≤ _ + 1; omega
    · show _ ≤ _ + 1; omega) es
theorem putG_mem {acc : List (κ × En)} {k : κ} {e : En} {x : κ × En} (h : x ∈ putG acc k e) : x = (k, e) ∨ x ∈ acc ∧ x.1 ≠ k := by
  unfold putG at h
  split at h
  · obtain ⟨y, hy, rfl⟩ := List.mem_map.mp h
    by_cases c : y.1 = k
    · rw [if_pos c]; left; rw [c]
    · rw [if_neg c]; exact .inr ⟨hy, c⟩
  · rename_i hn
    rcases List.mem_append.mp h with h | h
    · refine .inr ⟨h, fun z => hn (List.any_eq_true.mpr ⟨x, h, decide_eq_true z⟩)⟩
    · exact .inl (List.mem_singleton.mp h)
theorem foldG_mem (f : En → κ) (p : En → Bool) (es : List En) : ∀ x ∈ foldG f p es, x.2 ∈ es ∧ p x.2 = true ∧ f x.2 = x.1 :=
  foldG_ind (f := f) (p := p) (fun es acc => ∀ x ∈ acc, x.2 ∈ es ∧ p x.2 = true ∧ f x.2 = x.1) (fun _ h => nomatch h) (fun es e acc h x hx => by
    split at hx
    · rename_i hp
      rcases putG_mem hx with rfl | hx
      · exact ⟨List.mem_append_right _ List.mem_cons_self, hp, rfl⟩
      · have := h x hx.1; exact ⟨List.mem_append_left _ this.1, this.2⟩
    · have := h x hx; exact ⟨List.mem_append_left _ this.1, this.2⟩) es
theorem putG_keys (acc : List (κ × En)) (k : κ) (e : En) : (putG acc k e).map (·.1) = if (acc.any fun x => decide (x.1 = k)) = true then acc.map (·.1) else acc.map (·.1) ++ [k] := by
  unfold putG
  split
  · rw [List.map_map]
    apply List.map_congr_left
    intro x _
    show (if x.1 = k then (x.1, e) else x).1 = x.1
    split <;> rfl
  · rw [List.map_append]; rfl
theorem foldG_nodup (f : En → κ) (p : En → Bool) (es : List En) : ((foldG f p es).map (·.1)).Nodup :=
  foldG_ind (f := f) (p := p) (fun _ acc => (acc.map (·.1)).Nodup) List.nodup_nil (fun es e acc h => by
    split
    · rw [putG_keys]
      split
      · exact h
      · rename_i hn
        rw [List.nodup_append]
        refine ⟨h, by simp, fun a ha b hb => ?_⟩
        rw [List.mem_singleton] at hb
        subst hb
        rintro rfl
        obtain ⟨x, hx, hxe⟩ := List.mem_map.mp ha
        exact hn (List.any_eq_true.mpr ⟨x, hx, decide_eq_true hxe⟩)
    · exact h) es
theorem foldG_congr {f : En → κ} {p q : En → Bool} {es : List En} (h : ∀ e ∈ es, p e = q e) : foldG f p es = foldG f q es := by
  have key : ∀ (es : List En) (acc : List (κ × En)), (∀ e ∈ es, p e = q e) → es.foldl (fun acc e => if p e = true then putG acc (f e) e else acc) acc = es.foldl (fun acc e => if q e = true then putG acc (f e) e else acc) acc := by
    intro es
    induction es with
    | nil => intro acc _; rfl
    | cons e es ih =>
      intro acc h
      rw [List.foldl_cons, List.foldl_cons, h e List.mem_cons_self]
      exact ih _ fun x hx => h x (List.mem_cons_of_mem _ hx)
  exact key es [] h
end
noncomputable abbrev sCome : Str := Str.ofString "come"
noncomputable abbrev sGo : Str := Str.ofString "go"
noncomputable abbrev sJoin : Str := Str.ofString "join"
noncomputable abbrev sSplit : Str := Str.ofString "split"
noncomputable abbrev sFree : Str := Str.ofString "free"
noncomputable abbrev sRead : Str := Str.ofString "read"
noncomputable abbrev sUnread : Str := Str.ofString "unread"
noncomputable abbrev sLetter : Str := Str.ofString "letter"
noncomputable abbrev sHand : Str := Str.ofString "hand"
noncomputable def kindE (e : En) : Str := if [sCome, sGo].contains e.w then sLetter else if [sRead, sUnread].contains e.w then sRead else sHand
noncomputable def saidE (es : List En) : List ((Str × PV) × En) := foldG (fun e => (kindE e, e.t)) (fun e => e.b) es
noncomputable def lastE (ws : List Str) (es : List En) : List (PV × En) := foldG (fun e => e.t) (fun e => e.b && ws.contains e.w) es
theorem said_kind (c : Str) (es : List En) : ((saidE es).filter fun x => decide (x.1.1 = c)).map (fun x => (x.1.2, x.2)) = foldG (fun e => e.t) (fun e => e.b && decide (kindE e = c)) es := by
  unfold saidE
  have key : ∀ (es : List En) (acc : List ((Str × PV) × En)), ((es.foldl (fun acc e => if e.b = true then putG acc (kindE e, e.t) e else acc) acc).filter fun x => decide (x.1.1 = c)).map (fun x => (x.1.2, x.2)) =
      es.foldl (fun acc e => if (e.b && decide (kindE e = c)) = true then putG acc e.t e else acc) ((acc.filter fun x => decide (x.1.1 = c)).map fun x => (x.1.2, x.2)) := by
    intro es
    induction es with
    | nil => intro acc; rfl
    | cons e es ih =>
      intro acc
      rw [List.foldl_cons, List.foldl_cons, ih]
      congr 1
      cases hb : e.b with
      | false => simp
      | true =>
        rw [if_pos rfl, Bool.true_and]
        have hany : ∀ acc : List ((Str × PV) × En), kindE e = c → (((acc.filter fun x => decide (x.1.1 = c)).map fun x => (x.1.2, x.2)).any fun x => decide (x.1 = e.t)) = acc.any fun x => decide (x.1 = (kindE e, e.t)) := by
          intro acc hc
          induction acc with
          | nil => rfl
          | cons x acc ih =>
            obtain ⟨⟨a, b⟩, en⟩ := x
            by_cases h1 : a = c
            · rw [List.filter_cons, if_pos (by simpa using h1), List.map_cons, List.any_cons, List.any_cons, ih]
              congr 1
              subst h1
              rw [hc]
              by_cases h2 : b = e.t
              · subst h2; simp
              · simp [h2]
            · rw [List.filter_cons, if_neg (by simpa using h1), List.any_cons, ih]
              have : ¬ (a, b) = (kindE e, e.t) := fun z => h1 (by rw [← hc]; exact congrArg Prod.fst z)
              rw [decide_eq_false this, Bool.false_or]
        by_cases hc : kindE e = c
        · rw [if_pos (decide_eq_true hc)]
          unfold putG
          rw [hany acc hc]
          by_cases ha : (acc.any fun x => decide (x.1 = (kindE e, e.t))) = true
          · rw [if_pos ha, if_pos ha]
            clear ha hany
            induction acc with
            | nil => rfl
            | cons x acc ihx =>
              obtain ⟨⟨a, b⟩, en⟩ := x
              rw [List.map_cons]
              by_cases h2 : (a, b) = (kindE e, e.t)
              · have ha : a = c := by rw [← hc]; exact congrArg Prod.fst h2
                have hb' : b = e.t := congrArg Prod.snd h2
                rw [if_pos h2, List.filter_cons, if_pos (by simpa using ha), List.filter_cons, if_pos (by simpa using ha), List.map_cons, List.map_cons, List.map_cons, ihx]
                dsimp only
                rw [if_pos hb']
              · rw [if_neg h2]
                by_cases h1 : a = c
                · rw [List.filter_cons, if_pos (by simpa using h1), List.filter_cons, if_pos (by simpa using h1), List.map_cons, List.map_cons, List.map_cons, ihx]
                  have : ¬ b = e.t := fun z => h2 (by rw [h1, z, hc])
                  dsimp only
                  rw [if_neg this]
                · rw [List.filter_cons, if_neg (by simpa using h1), List.filter_cons, if_neg (by simpa using h1), ihx]
          · rw [if_neg ha, if_neg ha, List.filter_append, List.map_append]
            congr 1
            rw [List.filter_cons, if_pos (by simpa using hc)]
            rfl
        · rw [if_neg (by simpa using hc)]
          unfold putG
          split
          · congr 1
            clear hany
            rename_i ha
            clear ha
            induction acc with
            | nil => rfl
            | cons x acc ihx =>
              obtain ⟨⟨a, b⟩, en⟩ := x
              rw [List.map_cons]
              by_cases h2 : (a, b) = (kindE e, e.t)
              · have ha : ¬ a = c := fun z => hc (by rw [← z]; exact (congrArg Prod.fst h2).symm)
                rw [if_pos h2, List.filter_cons, if_neg (by simpa using ha), List.filter_cons, if_neg (by simpa using ha), ihx]
              · rw [if_neg h2]
                by_cases h1 : a = c
                · rw [List.filter_cons, if_pos (by simpa using h1), List.filter_cons, if_pos (by simpa using h1), ihx]
                · rw [List.filter_cons, if_neg (by simpa using h1), List.filter_cons, if_neg (by simpa using h1), ihx]
          · rw [List.filter_append, List.filter_cons, if_neg (by simpa using hc)]
            simp
  exact key es []
theorem said_word {c : Str} {q : En → Bool} {es : List En} (hq : ∀ e, q e = true → kindE e = c) : ((saidE es).filter fun x => q x.2).map (fun x => (x.1.2, x.2)) = (foldG (fun e => e.t) (fun e => e.b && decide (kindE e = c)) es).filter fun x => q x.2 := by
  rw [← said_kind, List.filter_map, List.filter_filter]
  congr 1
  apply List.filter_congr
  intro x hx
  have h := foldG_mem _ _ es x hx
  show q x.2 = (q x.2 && decide (x.1.1 = c))
  cases e : q x.2 with
  | false => rfl
  | true =>
    have : x.1.1 = kindE x.2 := (congrArg Prod.fst h.2.2).symm
    rw [this, decide_eq_true (hq _ e)]; rfl
end L2
set_option Elab.async false
set_option linter.all false
set_option maxRecDepth 100000
set_option maxHeartbeats 4000000
namespace L2
open PySem PySem.Spec PyProof.Rows Mr
noncomputable def Nm (x : Str) : Prop := x.length ≤ 14 ∧ ∀ c ∈ x.cps.toList, c < 16 ^ 8
theorem Nm.sh {x : Str} (h : Nm x) : Sh 142 0 (.str x) := Sh.str h.2 h.1
noncomputable def LetP (p : PV) : Prop := ∃ (n : Str) (d : Int) (h : Str) (rs : List Str), p = .tup [.str n, .int d, .str h, .tup (rs.map PV.str)] ∧ Nm n ∧ Sh 20 0 (.int d) ∧ Nm h ∧ rs.length ≤ 3 ∧ ∀ r ∈ rs, Nm r
theorem LetP.sh {p : PV} (h : LetP p) : Sh 1751 2 p := by
  obtain ⟨n, d, h, rs, rfl, h1, h2, h3, h4, h5⟩ := h
  refine Sh.tup (n := 435) (m := 4) (k := 1) (fun q hq => ?_) (Nat.le_refl 4)
  simp only [List.mem_cons, List.mem_nil_iff, or_false] at hq
  rcases hq with rfl | rfl | rfl | rfl
  · exact h1.sh.mono (by decide) (by decide)
  · exact h2.mono (by decide) (by decide)
  · exact h3.sh.mono (by decide) (by decide)
  · refine Sh.tup (n := 142) (m := 3) (k := 0) (fun q hq => ?_) (by rw [List.length_map]; exact h4)
    obtain ⟨r, hr, rfl⟩ := List.mem_map.mp hq
    exact (h5 r hr).sh
theorem keyedL_strs : ∀ rs : List Str, keyedL (rs.map PV.str) = true
  | [] => by simp [keyedL]
  | _ :: rs => by simp [keyedL, keyed, keyedL_strs rs]
theorem dpL_strs : ∀ rs : List Str, dpL (keyPL (rs.map PV.str)) = 0
  | [] => by simp [keyPL, dpL]
  | _ :: rs => by simp [keyPL, keyP, dpL, dpN, dpL_strs rs]
theorem LetP.key {p : PV} (h : LetP p) : keyed p = true ∧ ∃ ps, p = .tup ps ∧ keyP p = .t (keyPL ps) ∧ dpL (keyPL ps) ≤ 1 := by
  obtain ⟨n, d, h, rs, rfl, _⟩ := h
  refine ⟨by simp [keyed, keyedL, keyedL_strs], _, rfl, by simp only [keyP], ?_⟩
  simp [keyPL, keyP, dpL, dpN, dpL_strs]
structure EnOk (e : En) : Prop where
  ok : ((e.w = sCome ∨ e.w = sGo) ∧ e.r = [] ∧ LetP e.t) ∨ (((e.w = sJoin ∧ ∃ o, e.r = [.str o] ∧ Nm o) ∨ ((e.w = sSplit ∨ e.w = sFree ∨ e.w = sRead ∨ e.w = sUnread) ∧ e.r = [])) ∧ ∃ x, e.t = .str x ∧ Nm x)
theorem EnOk.kindL {e : En} (h : kindE e = sLetter) (o : EnOk e) : LetP e.t := by
  rcases o.ok with ⟨_, _, h⟩ | ⟨hw, _⟩
  · exact h
  · exfalso
    unfold kindE at h
    rcases hw with ⟨hw, _⟩ | ⟨hw | hw | hw | hw, _⟩ <;> rw [hw] at h <;> revert h <;> decide +kernel
theorem EnOk.kindN {e : En} (h : kindE e ≠ sLetter) (o : EnOk e) : ∃ x, e.t = .str x ∧ Nm x := by
  rcases o.ok with ⟨hw, _⟩ | ⟨_, h⟩
  · exfalso
    apply h
    unfold kindE
    rcases hw with hw | hw <;> rw [hw] <;> decide +kernel
  · exact h
theorem kind_letter (e : En) (o : EnOk e) : decide (kindE e = sLetter) = [sCome, sGo].contains e.w := by
  unfold kindE
  rcases o.ok with ⟨hw | hw, _⟩ | ⟨⟨hw, _⟩ | ⟨hw | hw | hw | hw, _⟩, _⟩ <;> rw [hw] <;> decide +kernel
theorem kind_hand (e : En) (o : EnOk e) : decide (kindE e = sHand) = [sJoin, sSplit, sFree].contains e.w := by
  unfold kindE
  rcases o.ok with ⟨hw | hw, _⟩ | ⟨⟨hw, _⟩ | ⟨hw | hw | hw | hw, _⟩, _⟩ <;> rw [hw] <;> decide +kernel
theorem kind_read (e : En) (o : EnOk e) : decide (kindE e = sRead) = [sRead, sUnread].contains e.w := by
  unfold kindE
  rcases o.ok with ⟨hw | hw, _⟩ | ⟨⟨hw, _⟩ | ⟨hw | hw | hw | hw, _⟩, _⟩ <;> rw [hw] <;> decide +kernel
theorem said_last {c : Str} {ws : List Str} {q : En → Bool} {es : List En} (ok : ∀ e ∈ es, EnOk e) (hc : ∀ e, EnOk e → decide (kindE e = c) = ws.contains e.w) (hq : ∀ e, q e = true → kindE e = c) :
    ((saidE es).filter fun x => q x.2).map (fun x => (x.1.2, x.2)) = (lastE ws es).filter fun x => q x.2 := by
  rw [said_word hq]
  congr 1
  exact foldG_congr fun e he => by rw [hc e (ok e he)]
noncomputable def isW (w : Str) (e : En) : Bool := e.w == w
theorem isW_kind {w c : Str} (h : kindE ⟨w, .non, [], true⟩ = c) : ∀ e, isW w e = true → kindE e = c := fun e he => by
  have : e.w = w := eq_of_beq he
  rw [← h]
  unfold kindE
  rw [this]
noncomputable def packT (es : List En) : PV := .tup (sortT 3 (((lastE [sCome, sGo] es).filter fun x => isW sCome x.2).map (·.1)))
noncomputable def packK (es : List En) : PV := .tup (sortT 3 (((saidE es).filter fun x => isW sCome x.2).map (·.1.2)))
theorem pack_eq {es : List En} (ok : ∀ e ∈ es, EnOk e) : packK es = packT es := by
  unfold packK packT
  rw [← said_last (c := sLetter) ok kind_letter (isW_kind (by decide +kernel)), List.map_map]
  rfl
theorem let_lt {p q : PV} (hp : LetP p) (hq : LetP q) : (ltP 3 p q).isSome = true ∧ plP 3 p = true ∧ ledP true p = true := by
  obtain ⟨n, d, h, rs, rfl, _⟩ := hp
  obtain ⟨n', d', h', rs', rfl, _⟩ := hq
  have hst : ∀ a b : List Str, (lexP (ltP 1) (a.map PV.str) (b.map PV.str)).isSome = true := by
    intro a
    induction a with
    | nil => intro b; cases b <;> rfl
    | cons x a ih =>
      intro b
      cases b with
      | nil => rfl
      | cons y b =>
        rw [List.map_cons, List.map_cons]
        unfold lexP
        split
        · exact ih b
        · rfl
  refine ⟨?_, ?_, rfl⟩
  · show (lexP (ltP 2) [.str n, .int d, .str h, .tup (rs.map PV.str)] [.str n', .int d', .str h', .tup (rs'.map PV.str)]).isSome = true
    simp only [lexP]
    split
    · split
      · split
        · split
          · rfl
          · exact hst rs rs'
        · rfl
      · rfl
    · rfl
  · simp [plP]
theorem let_cmp {ps : List PV} (h : ∀ p ∈ ps, LetP p) : cmpAll 3 ps = true ∧ ∀ p ∈ ps, ledP true p = true := by
  refine ⟨List.all_eq_true.mpr fun p hp => ?_, fun p hp => (let_lt (h p hp) (h p hp)).2.2⟩
  rw [Bool.and_eq_true]
  exact ⟨(let_lt (h p hp) (h p hp)).2.1, List.all_eq_true.mpr fun q hq => (let_lt (h p hp) (h q hq)).1⟩
theorem last_let {es : List En} (ok : ∀ e ∈ es, EnOk e) : ∀ x ∈ lastE [sCome, sGo] es, LetP x.1 := fun x hx => by
  obtain ⟨h1, h2, h3⟩ := foldG_mem _ _ es x hx
  rw [← h3]
  have o := ok _ h1
  refine EnOk.kindL ?_ o
  rw [Bool.and_eq_true] at h2
  exact of_decide_eq_true ((kind_letter _ o).trans h2.2)
theorem pack_let {es : List En} (ok : ∀ e ∈ es, EnOk e) : ∀ p ∈ ((lastE [sCome, sGo] es).filter fun x => isW sCome x.2).map (·.1), LetP p := fun p hp => by
  obtain ⟨x, hx, rfl⟩ := List.mem_map.mp hp
  exact last_let ok x (List.mem_filter.mp hx).1
theorem sh_len {es : List En} {n k : Nat} {ps : List PV} (hl : es.length ≤ 41) (h : ∀ p ∈ ps, Sh n k p) (hz : ps.length ≤ es.length) : Sh (41 * (n + 2) + 3) (k + 1) (.tup ps) := Sh.tup h (by omega)
theorem pack_sh {es : List En} (ok : ∀ e ∈ es, EnOk e) (hl : es.length ≤ 41) : Sh 71876 3 (packT es) := by
  refine sh_len (n := 1751) (k := 2) hl (fun p hp => ?_) ?_
  · exact (pack_let ok p ((sortT_perm 3 _).mem_iff.mp hp)).sh
  · rw [(sortT_perm 3 _).length_eq, List.length_map]
    exact Nat.le_trans (List.length_filter_le _ _) (foldG_length _ _ es)
noncomputable def strP : PV → Str
  | .str x => x
  | _ => Str.ofString ""
noncomputable def names (L : List (PV × En)) : List Str := L.map fun x => strP x.1
noncomputable def lkE (L : List (PV × En)) (n : Str) : En := ((L.find? fun x => decide (x.1 = .str n)).map (·.2)).getD ⟨Str.ofString "", .non, [], false⟩
structure NmL (L : List (PV × En)) : Prop where
  str : ∀ x ∈ L, ∃ n, x.1 = .str n ∧ Nm n
  nd : (L.map (·.1)).Nodup
theorem NmL.lk {L : List (PV × En)} (h : NmL L) {x : PV × En} (hx : x ∈ L) : lkE L (strP x.1) = x.2 := by
  obtain ⟨n, e, _⟩ := h.str x hx
  have nd := h.nd
  clear h
  unfold lkE
  have es : strP x.1 = n := by rw [e]; rfl
  rw [es, ← e]
  induction L with
  | nil => exact nomatch hx
  | cons y L ih =>
    rw [List.map_cons, List.nodup_cons] at nd
    rw [List.find?_cons]
    rcases List.mem_cons.mp hx with rfl | hx
    · rw [decide_eq_true rfl]; rfl
    · have : ¬ y.1 = x.1 := fun z => nd.1 (by rw [z]; exact List.mem_map.mpr ⟨x, hx, rfl⟩)
      rw [decide_eq_false this]
      exact ih hx nd.2
theorem NmL.filt {L : List (PV × En)} (h : NmL L) (q : En → Bool) : ((sortP (names L)).filter fun n => q (lkE L n)).Perm (names (L.filter fun x => q x.2)) := by
  refine ((sortP_is (names L)).filter _).trans (List.Perm.of_eq ?_)
  unfold names
  rw [List.filter_map]
  congr 1
  apply List.filter_congr
  intro x hx
  show q (lkE L (strP x.1)) = q x.2
  rw [h.lk hx]
theorem last_nm {ws : List Str} {c : Str} {es : List En} (ok : ∀ e ∈ es, EnOk e) (hc : ∀ e, EnOk e → decide (kindE e = c) = ws.contains e.w) (hn : c ≠ sLetter) : NmL (lastE ws es) :=
  ⟨fun x hx => by
    obtain ⟨h1, h2, h3⟩ := foldG_mem _ _ es x hx
    rw [← h3]
    have o := ok _ h1
    rw [Bool.and_eq_true, ← hc _ o] at h2
    exact EnOk.kindN (fun z => hn ((of_decide_eq_true h2.2).symm.trans z)) o, foldG_nodup _ _ es⟩
noncomputable def readsT (es : List En) : PV := .tup (((sortP (names (lastE [sRead, sUnread] es))).filter fun n => isW sRead (lkE (lastE [sRead, sUnread] es) n)).map PV.str)
noncomputable def readsK (es : List En) : PV := .tup ((sortP (((saidE es).filter fun x => isW sRead x.2).map fun x => strP x.1.2)).map PV.str)
theorem reads_eq {es : List En} (ok : ∀ e ∈ es, EnOk e) : readsK es = readsT es := by
  have nm := last_nm (es := es) ok kind_read (by decide +kernel)
  unfold readsK readsT
  congr 2
  have e : ((saidE es).filter fun x => isW sRead x.2).map (fun x => strP x.1.2) = names ((lastE [sRead, sUnread] es).filter fun x => isW sRead x.2) := by
    unfold names
    rw [← said_last (c := sRead) ok kind_read (isW_kind (by decide +kernel)), List.map_map]
    rfl
  rw [e]
  exact sorted_uniq (sortP_sorted _) ((sortP_sorted _).filter _) ((sortP_is _).trans (nm.filt _).symm)
noncomputable def r0 (e : En) : PV := if isW sJoin e = true then e.r.headD .non else .non
noncomputable def notF (e : En) : Bool := !isW sFree e
noncomputable def marksT (es : List En) : PV := .tup (((sortP (names (lastE [sJoin, sSplit, sFree] es))).filter fun n => notF (lkE (lastE [sJoin, sSplit, sFree] es) n)).map fun n => .tup [.str n, r0 (lkE (lastE [sJoin, sSplit, sFree] es) n)])
noncomputable def marksL (es : List En) : List PV := ((saidE es).filter fun x => [sJoin, sSplit].contains x.2.w).map fun x => .tup [x.1.2, r0 x.2]
noncomputable def marksK (es : List En) : PV := .tup (sortT 3 (marksL es))
theorem marksL_eq {es : List En} (ok : ∀ e ∈ es, EnOk e) : marksL es = ((lastE [sJoin, sSplit, sFree] es).filter fun x => notF x.2).map fun x => .tup [x.1, r0 x.2] := by
  unfold marksL
  have h := said_last (c := sHand) (q := fun e => [sJoin, sSplit].contains e.w) ok kind_hand (fun e he => by
    simp only [List.contains_cons, List.contains_nil, Bool.or_false, Bool.or_eq_true, beq_iff_eq] at he
    unfold kindE
    rcases he with he | he <;> rw [he] <;> decide +kernel)
  have h2 : (lastE [sJoin, sSplit, sFree] es).filter (fun x => [sJoin, sSplit].contains x.2.w) = (lastE [sJoin, sSplit, sFree] es).filter fun x => notF x.2 := by
    apply List.filter_congr
    intro x hx
    have h := (foldG_mem _ _ es x hx).2.1
    rw [Bool.and_eq_true] at h
    have h := h.2
    simp only [List.contains_cons, List.contains_nil, Bool.or_false, Bool.or_eq_true, beq_iff_eq] at h
    unfold notF isW
    rcases h with h | h | h <;> rw [h] <;> decide +kernel
  rw [← h2, ← h, List.map_map]
  rfl
theorem marks_cmp {L : List (PV × En)} (nm : NmL L) (hr : ∀ x ∈ L, plP 2 (r0 x.2) = true) (q : En → Bool) : cmpAll 3 ((L.filter fun x => q x.2).map fun x => PV.tup [x.1, r0 x.2]) = true ∧ ∀ p ∈ ((L.filter fun x => q x.2).map fun x => PV.tup [x.1, r0 x.2]), ledP true p = true := by
  refine ⟨List.all_eq_true.mpr fun p hp => ?_, fun p hp => ?_⟩
  · obtain ⟨x, hx, rfl⟩ := List.mem_map.mp hp
    have hx := (List.mem_filter.mp hx).1
    obtain ⟨n, en, _⟩ := nm.str x hx
    rw [Bool.and_eq_true]
    refine ⟨?_, List.all_eq_true.mpr fun p' hp' => ?_⟩
    · rw [en]; simp [plP, hr x hx]
    · obtain ⟨y, hy, rfl⟩ := List.mem_map.mp hp'
      have hy := (List.mem_filter.mp hy).1
      obtain ⟨m, em, _⟩ := nm.str y hy
      by_cases h : n = m
      · have : x.2 = y.2 := by rw [← nm.lk hx, ← nm.lk hy, en, em, h]
        rw [en, em, this, h]
        show (lexP (ltP 2) [.str m, r0 y.2] [.str m, r0 y.2]).isSome = true
        have e1 : eqP (.str m) (.str m) = true := by simp [eqP]
        simp only [lexP]
        rw [if_pos e1, if_pos (eqP_refl (hr y hy))]
        rfl
      · rw [en, em]
        show (lexP (ltP 2) [.str n, r0 x.2] [.str m, r0 y.2]).isSome = true
        have e1 : ¬ eqP (.str n) (.str m) = true := by simp [eqP, h]
        simp only [lexP]
        rw [if_neg e1]
        rfl
  · obtain ⟨x, hx, rfl⟩ := List.mem_map.mp hp
    obtain ⟨n, en, _⟩ := nm.str x (List.mem_filter.mp hx).1
    rw [en]; rfl
theorem r0_ok {e : En} (o : EnOk e) : plP 2 (r0 e) = true ∧ Sh 142 0 (r0 e) := by
  unfold r0
  have n : plP 2 PV.non = true ∧ Sh 142 0 PV.non := ⟨rfl, Sh.non.mono (by decide) (by decide)⟩
  split
  · rcases o.ok with ⟨_, h, _⟩ | ⟨⟨_, x, h, hx⟩ | ⟨_, h⟩, _⟩
    · rw [h]; exact n
    · rw [h]; exact ⟨rfl, hx.sh⟩
    · rw [h]; exact n
  · exact n
theorem marks_eq {es : List En} (ok : ∀ e ∈ es, EnOk e) : marksK es = marksT es := by
  have nm := last_nm (es := es) ok kind_hand (by decide +kernel)
  have hr : ∀ x ∈ lastE [sJoin, sSplit, sFree] es, plP 2 (r0 x.2) = true := fun x hx => (r0_ok (ok _ (foldG_mem _ _ es x hx).1)).1
  unfold marksK marksT
  rw [marksL_eq ok]
  generalize lastE [sJoin, sSplit, sFree] es = L at nm hr
  obtain ⟨cmp, led⟩ := marks_cmp nm hr notF
  congr 1
  have pm : (((sortP (names L)).filter fun n => notF (lkE L n)).map fun n => PV.tup [.str n, r0 (lkE L n)]).Perm ((L.filter fun x => notF x.2).map fun x => PV.tup [x.1, r0 x.2]) := by
    refine ((nm.filt notF).map _).trans (List.Perm.of_eq ?_)
    unfold names
    rw [List.map_map]
    apply List.map_congr_left
    intro x hx
    have hx := (List.mem_filter.mp hx).1
    obtain ⟨n, en, _⟩ := nm.str x hx
    show PV.tup [.str (strP x.1), r0 (lkE L (strP x.1))] = _
    rw [nm.lk hx, en]
    rfl
  refine sorted_oneP (n := 3) (sortT_sorted 3 _) ?_ ((sortT_perm 3 _).trans pm.symm) fun x hx y hy => cmp_anti cmp ((sortT_perm 3 _).mem_iff.mp hx) ((sortT_perm 3 _).mem_iff.mp hy)
  rw [List.pairwise_map]
  refine List.Pairwise.imp_of_mem ?_ ((sortP_sorted (names L)).filter _)
  intro a b ha hb hab
  have ma := pm.mem_iff.mp (List.mem_map.mpr ⟨a, ha, rfl⟩)
  have mb := pm.mem_iff.mp (List.mem_map.mpr ⟨b, hb, rfl⟩)
  unfold leC
  have hc := cmp_blt cmp mb ma
  rw [Bool.not_eq_true']
  have : ltP 3 (PV.tup [.str b, r0 (lkE L b)]) (PV.tup [.str a, r0 (lkE L a)]) = some false := by
    show lexP (ltP 2) [.str b, r0 (lkE L b)] [.str a, r0 (lkE L a)] = some false
    simp only [lexP]
    by_cases h : b = a
    · subst h
      have e1 : eqP (.str b) (.str b) = true := by simp [eqP]
      obtain ⟨x, hx, ex⟩ := List.mem_map.mp (((nm.filt notF).mem_iff).mp hb)
      have hx := (List.mem_filter.mp hx).1
      have e2 : eqP (r0 (lkE L b)) (r0 (lkE L b)) = true := by
        rw [← ex, nm.lk hx]
        exact eqP_refl (hr x hx)
      rw [if_pos e1, if_pos e2]
    · have e1 : ¬ eqP (.str b) (.str a) = true := by simp [eqP, h]
      rw [if_neg e1]
      show some (decide (b.cps.toList < a.cps.toList)) = some false
      rw [decide_eq_false hab]
  rw [this] at hc
  exact (Option.some.inj hc).symm
noncomputable def toldE (es : List En) : PV := .tup [packT es, marksT es, readsT es]
noncomputable def keptE (es : List En) : PV := .tup [packK es, marksK es, readsK es]
theorem kept_told {es : List En} (ok : ∀ e ∈ es, EnOk e) : keptE es = toldE es := by unfold keptE toldE; rw [pack_eq ok, marks_eq ok, reads_eq ok]
theorem names_len {ws : List Str} {es : List En} {q : Str → Bool} : ((sortP (names (lastE ws es))).filter q).length ≤ es.length := by
  refine Nat.le_trans (List.length_filter_le _ _) ?_
  rw [(sortP_is _).length_eq]
  unfold names
  rw [List.length_map]
  exact foldG_length _ _ es
theorem names_nm {L : List (PV × En)} (nm : NmL L) {q : Str → Bool} : ∀ n ∈ (sortP (names L)).filter q, ∃ x ∈ L, x.1 = .str n ∧ Nm n ∧ lkE L n = x.2 := fun n hn => by
  have h := (sortP_is _).mem_iff.mp (List.mem_filter.mp hn).1
  unfold names at h
  obtain ⟨x, hx, rfl⟩ := List.mem_map.mp h
  obtain ⟨m, em, hm⟩ := nm.str x hx
  have e : strP x.1 = m := by rw [em]; rfl
  refine ⟨x, hx, ?_, ?_, nm.lk hx⟩
  · rw [e]; exact em
  · rw [e]; exact hm
theorem told_sh {es : List En} (ok : ∀ e ∈ es, EnOk e) (hl : es.length ≤ 41) : Sh 215637 4 (toldE es) := by
  refine Sh.tup (n := 71876) (m := 3) (k := 3) (fun p hp => ?_) (Nat.le_refl 3)
  simp only [List.mem_cons, List.mem_nil_iff, or_false] at hp
  rcases hp with rfl | rfl | rfl
  · exact pack_sh ok hl
  · have nm := last_nm (es := es) ok kind_hand (by decide +kernel)
    refine (sh_len (n := 291) (k := 1) hl (fun p hp => ?_) ?_).mono (by decide) (by decide)
    · obtain ⟨n, hn, rfl⟩ := List.mem_map.mp hp
      obtain ⟨x, hx, _, h1, h2⟩ := names_nm nm n hn
      refine (Sh.tup (ps := [.str n, r0 (lkE (lastE [sJoin, sSplit, sFree] es) n)]) (n := 142) (m := 2) (k := 0) (fun p hp => ?_) (Nat.le_refl 2)).mono (by decide) (by decide)
      simp only [List.mem_cons, List.mem_nil_iff, or_false] at hp
      rcases hp with rfl | rfl
      · exact h1.sh
      · rw [h2]; exact (r0_ok (ok _ (foldG_mem _ _ es x hx).1)).2
    · rw [List.length_map]; exact names_len
  · have nm := last_nm (es := es) ok kind_read (by decide +kernel)
    refine (sh_len (n := 142) (k := 0) hl (fun p hp => ?_) ?_).mono (by decide) (by decide)
    · obtain ⟨n, hn, rfl⟩ := List.mem_map.mp hp
      obtain ⟨x, hx, _, h1, h2⟩ := names_nm nm n hn
      exact h1.sh
    · rw [List.length_map]; exact names_len
end L2
set_option Elab.async false
set_option linter.all false
set_option maxRecDepth 100000
set_option maxHeartbeats 4000000
namespace L2
open PySem PySem.Spec PyProof.Rows
noncomputable abbrev ABC : Str := Str.ofString "abcdefghijklmnopqrstuvwxyz0123456789"
noncomputable def BoxO (c : Nat) (o : Option HO) : Prop := ∃ a b i : Int, o = some (.lst [.int a, .int b, .int i]) ∧ 0 ≤ a ∧ 0 ≤ b ∧ b < 2305843009213693951 ∧ 0 ≤ i ∧ i ≤ c
noncomputable abbrev Box (c : Nat) (H : Hp) (p : Addr) : Prop := BoxO c (H p)
theorem Box.same {c : Nat} {H H' : Hp} {p : Addr} (h : Box c H p) (s : Same H H') : Box c H' p := let ⟨a, b, i, e, r⟩ := h; ⟨a, b, i, s _ _ e, r⟩
theorem Box.up {c d : Nat} {H : Hp} {p : Addr} (h : Box c H p) (hl : c ≤ d) : Box d H p := let ⟨a, b, i, e, h1, h2, h3, h4, h5⟩ := h; ⟨a, b, i, e, h1, h2, h3, h4, by omega⟩
theorem Box.ne {c : Nat} {H : Hp} {p : Addr} (h : Box c H p) {l : Addr} (n : H l = none) : p ≠ l := let ⟨_, _, _, e, _⟩ := h; ne_of_none e n
theorem kpBox {c d : Nat} {H H' : Hp} {p : Addr} (h : Box c H p) (h' : Box d H' p) (b : But p H H') : Kp H H' := fun a o e => by
  by_cases z : a = p
  · subst z
    obtain ⟨i, j, k, e1, _⟩ := h
    obtain ⟨i', j', k', e2, _⟩ := h'
    rw [e1] at e
    cases e
    exact .inr ⟨_, _, rfl, e2⟩
  · exact .inl (b a o e z)
noncomputable def spTk : Sp := fun vs H Q _ => ∃ (p : Addr) (n : Int) (c : Nat), vs = [.ref p, .int n] ∧ Box c H p ∧ c < 1000000 ∧ 0 < n ∧ n < 1073741824 ∧ ∀ d H', 0 ≤ d → d < n → Box (c + 1) H' p → But p H H' → Q (.int d) H'
theorem big60 : (0 : Int) < (10 : Int) ^ (60 : Int).toNat := by decide +kernel
theorem box_of {K : PySem.W.Frag} {p : Addr} {H : Hp} {xs : List V} {m c : Nat} {n : Int} {R : V → Hp → Prop} (hp : Box c H p) (hc : c < 1000000) (hm : xs.length = m) (hn : (m : Int) = n) (h0 : 0 < m) (hb : m ≤ 1000) (h : ∀ v H2, v ∈ xs → Box (c + 1) H2 p → But p H H2 → R v H2) :
    m ≤ sizeLine ∧ ∀ l, H l = none → spTk [.ref p, .int n] (upd H l (.lst xs)) (fun y H2 => ∃ x x_1, y = .int x_1 ∧ SqL K H2 l x ∧ ∃ x_2, atI x x_1 = some x_2 ∧ R x_2 H2) E0 := by
  subst hm hn
  refine ⟨szl (by omega), fun l hl => ⟨p, _, c, rfl, Box.same (p := p) hp (Same.upd hl), hc, by omega, by omega, fun d H1 d0 d1 hp1 f1 => ?_⟩⟩
  have hl1 := f1 l _ upd_same (Box.ne hp hl).symm
  obtain ⟨v, hv1, hv2⟩ := atI_mem d0 d1
  exact ⟨_, _, rfl, SqL.of hl1, _, hv2, h v H1 hv1 hp1 ((But.of (Same.upd hl)).trans f1)⟩
section
variable {k : Nat} {cap : List Nat} {gg : TG} {tt : TT} {te : TE} {σ : St} {H : Hp} {Q : VK} {l : Addr}
theorem comp_drawB (lo : Int) (n : Nat) (p : Addr) (c wt : Nat) (R : Hp → V → Prop) (Good : St → Prop) (h0 : Good (capSt k cap σ)) (hp : Box c H p) (hl : H l = none) (hlen : n ≤ 1000000)
    (m : ∀ H1 H2 y, Kp H1 H2 → R H1 y → R H2 y)
    (ht : ∀ i σ H1 xs (N : St → Hp → Prop), i < n → Good σ → Box (c + wt * i) H1 p → H1 l = some (.lst xs) → xs.length = i → But p H H1 →
      (∀ σ' y H2, Good σ' → R H2 y → Box (c + wt * i + wt) H2 p → But p H1 H2 → ∃ xs, H2 l = some (.lst xs) ∧ xs.length < sizeLine ∧ N σ' (upd H2 l (.lst (xs ++ [y])))) → turnOf gg tt te l (.int (lo + i)) σ H1 N)
    (hd : ∀ ys H1, ys.length = n → (∀ y ∈ ys, R H1 y) → H1 l = some (.lst ys) → Box (c + wt * n) H1 p → But p H H1 → Q (.ref l) H1) : GoalW (Itr lo n) gg tt te l (capSt k cap σ) (upd H l (.lst [])) Q := by
  have pl : p ≠ l := Box.ne hp hl
  refine comp_range lo n (fun i σ' H' => Good σ' ∧ ∃ ys : List V, H' l = some (.lst ys) ∧ ys.length = i ∧ (∀ y ∈ ys, R H' y) ∧ Box (c + wt * i) H' p ∧ But p H H') ⟨h0, [], upd_same, rfl, (fun _ h => nomatch h), Box.same (p := p) hp (Same.upd hl), But.of (Same.upd hl)⟩
    (fun i σ' H' hi ⟨gd, ys, e, hy, hR, hp', b⟩ => ?_) (fun σ' H' ⟨_, ys, e, hy, hR, hp', b⟩ => hd ys H' hy hR e hp' b)
  refine ht i σ' H' ys _ hi gd hp' e hy b fun σ2 y H2 g2 ry p2 b2 => ?_
  have e2 : H2 l = some (.lst ys) := b2 l _ e pl.symm
  refine ⟨ys, e2, szt (by omega), g2, ys ++ [y], upd_same, by simp [hy], fun z hz => ?_, ?_, fun d o h n1 => ?_⟩
  · rcases List.mem_append.mp hz with r | r
    · exact m _ _ _ (Kp.lst e2) (m _ _ _ (kpBox hp' p2 b2) (hR z r))
    · rw [List.mem_singleton.mp r]; exact m _ _ _ (Kp.lst e2) ry
  · show BoxO _ (upd H2 l _ p); rw [upd_ne pl, Nat.mul_succ, ← Nat.add_assoc]; exact p2
  · rw [upd_ne (ne_of_none h hl)]
    exact b2 d o (b d o h n1) n1
end
theorem Box.kt {c d : Nat} {H H' : Hp} {p : Addr} (h : Box c H p) (b : But p H H') : KpT H H' := fun a us e => b a _ e fun z => by subst z; obtain ⟨i, j, k, e1, _⟩ := h; rw [e1] at e; cases e
theorem But.ne {p l : Addr} {H H' : Hp} {xs : List V} (b : But p H H') (e : H l = some (.lst xs)) (n : l ≠ p) : H' l = some (.lst xs) := b l _ e n
noncomputable def spNm : Sp := fun vs H Q _ => ∃ (p : Addr) (c : Nat), vs = [.ref p] ∧ Box c H p ∧ c < 100000 ∧ ∀ (x : Str) H', Nm x → Box (c + 20) H' p → But p H H' → Q (.str x) H'
noncomputable def spPool : Sp := fun vs H Q _ => ∃ (p : Addr) (c m : Nat), vs = [.ref p, .int (m : Int)] ∧ Box c H p ∧ c < 10000 ∧ 2 ≤ m ∧ m ≤ 6 ∧ ∀ (l : Addr) (zs : List Str) H', H l = none → H' l = some (.lst (zs.map V.str)) → 1 ≤ zs.length → zs.length ≤ m → (∀ z ∈ zs, Nm z) → Box (c + 120) H' p → But p H H' → Q (.ref l) H'
structure Pl (H : Hp) (p l : Addr) (zs : List Str) : Prop where
  el : H l = some (.lst (zs.map V.str))
  np : l ≠ p
  lo : 2 ≤ zs.length
  hi : zs.length ≤ 6
  nm : ∀ z ∈ zs, Nm z
theorem Pl.but {H H' : Hp} {p l : Addr} {zs : List Str} (h : Pl H p l zs) (b : But p H H') : Pl H' p l zs := ⟨b _ _ h.el h.np, h.np, h.lo, h.hi, h.nm⟩
theorem Pl.new {H : Hp} {p l m : Addr} {o : HO} {zs : List Str} (h : Pl H p l zs) (n : H m = none) : Pl (upd H m o) p l zs := h.but (But.of (Same.upd n))
noncomputable def spNames : Sp := fun vs H Q _ => ∃ (p : Addr) (c m : Nat), vs = [.ref p, .int (m : Int)] ∧ Box c H p ∧ c < 10000 ∧ 2 ≤ m ∧ m ≤ 6 ∧ ∀ (l : Addr) (zs : List Str) H', H l = none → Pl H' p l zs → Box (c + 120) H' p → But p H H' → Q (.ref l) H'
noncomputable def spOf : Sp := fun vs H Q _ => ∃ (p l : Addr) (c : Nat) (xs : List V), vs = [.ref p, .ref l] ∧ Box c H p ∧ c < 100000 ∧ H l = some (.lst xs) ∧ l ≠ p ∧ 1 ≤ xs.length ∧ xs.length ≤ 60 ∧ ∀ (x : V) H', x ∈ xs → Box (c + 1) H' p → But p H H' → Q x H'
noncomputable def LtV (H : Hp) (v : V) : Prop := ∃ x, LetP x ∧ Tr H x v
theorem LtV.kp {H H' : Hp} {v : V} (h : LtV H v) (k : KpT H H') : LtV H' v := let ⟨x, a, b⟩ := h; ⟨x, a, b.kp k⟩
structure Lts (H : Hp) (p l : Addr) (vs : List V) : Prop where
  el : H l = some (.lst vs)
  np : l ≠ p
  lo : 1 ≤ vs.length
  hi : vs.length ≤ 6
  lt : ∀ v ∈ vs, LtV H v
theorem Lts.but {H H' : Hp} {p l : Addr} {vs : List V} (h : Lts H p l vs) (b : But p H H') (k : KpT H H') : Lts H' p l vs := ⟨b _ _ h.el h.np, h.np, h.lo, h.hi, fun v hv => (h.lt v hv).kp k⟩
noncomputable def spLetters : Sp := fun vs H Q _ => ∃ (p l : Addr) (c m : Nat) (zs : List Str), vs = [.ref p, .ref l, .int (m : Int)] ∧ Box c H p ∧ c < 20000 ∧ 1 ≤ m ∧ m ≤ 6 ∧ Pl H p l zs ∧ ∀ (g : Addr) (us : List V) H', H g = none → Lts H' p g us → Box (c + 60) H' p → But p H H' → Q (.ref g) H'
noncomputable def DdV (H : Hp) (v : V) : Prop := ∃ e : En, Tr H (dP e) v ∧ EnOk e
theorem DdV.kp {H H' : Hp} {v : V} (h : DdV H v) (k : KpT H H') : DdV H' v := let ⟨x, a, b⟩ := h; ⟨x, a.kp k, b⟩
noncomputable def spDeed : Sp := fun vs H Q _ => ∃ (p l g : Addr) (c : Nat) (zs : List Str) (us : List V), vs = [.ref p, .ref l, .ref g] ∧ Box c H p ∧ c < 30000 ∧ Pl H p l zs ∧ Lts H p g us ∧ ∀ v H', DdV H' v → Box (c + 5) H' p → But p H H' → Q v H'
noncomputable def spStart (K : PySem.W.Frag) : Sp := fun vs H Q _ => ∃ (a : Addr) (ns : List Int), vs = [.ref a] ∧ SqL K H a (ns.map V.int) ∧ ns.length ≤ 63 ∧ ∀ p H', H p = none → Box 0 H' p → Same H H' → Q (.ref p) H'
noncomputable def LgT (H : Hp) (v : V) (es : List En) : Prop := Tr H (.tup (es.map eP)) v ∧ es.length ≤ 41 ∧ ∀ e ∈ es, EnOk e
theorem LgT.kp {H H' : Hp} {v : V} {es : List En} (h : LgT H v es) (k : KpT H H') : LgT H' v es := ⟨h.1.kp k, h.2⟩
noncomputable def RL (H : Hp) (x : Mr.PV × En) (kv : NE) : Prop := LetP x.1 ∧ .t kv.1 = keyP x.1 ∧ Tr H x.1 (.ref kv.2.1) ∧ Tr H (dP x.2) kv.2.2
noncomputable def RK (H : Hp) (x : Mr.PV × En) (kv : Key × V) : Prop := ∃ n, x.1 = .str n ∧ kv.1 = .inr n ∧ Tr H (dP x.2) kv.2
noncomputable def RS (H : Hp) (x : (Str × Mr.PV) × En) (kv : NE) : Prop := keyed x.1.2 = true ∧ dpN (keyP x.1.2) ≤ 2 ∧ kv.1 = [.k (.inr x.1.1), keyP x.1.2] ∧ Tr H (.tup [.str x.1.1, x.1.2]) (.ref kv.2.1) ∧ Tr H (dP x.2) kv.2.2
noncomputable def spLast (w : World) : Sp := fun vs H Q _ => ∃ (a b : Addr) (es : List En) (ws : List Str), vs = [.ref a, .ref b] ∧ LgT H (.ref a) es ∧ H b = some (.tup (ws.map V.str)) ∧ ((ws = [sCome, sGo] ∧ ∀ f kvs ep H', Same H H' → H' f = some (DN w f kvs ep) → Paired (RL H') (lastE ws es) kvs → Q (.ref f) H') ∨
  ((∃ c, c ≠ sLetter ∧ ∀ e, EnOk e → decide (kindE e = c) = ws.contains e.w) ∧ ∀ f kvs H', Same H H' → IsDK H' f kvs → Paired (RK H') (lastE ws es) kvs → Q (.ref f) H'))
noncomputable def spSaid (w : World) : Sp := fun vs H Q _ => ∃ (a : Addr) (es : List En), vs = [.ref a] ∧ LgT H (.ref a) es ∧ ∀ f kvs ep H', Same H H' → H' f = some (DN w f kvs ep) → Paired (RS H') (saidE es) kvs → Q (.ref f) H'
noncomputable def spTold (F : List En → Mr.PV) : Sp := fun vs H Q _ => ∃ (a : Addr) (es : List En), vs = [.ref a] ∧ LgT H (.ref a) es ∧ ∀ v H', Same H H' → Tr H' (F es) v → Q v H'
noncomputable def spRight : Sp := fun vs H Q _ => ∃ (a : Addr) (es : List En), vs = [.ref a] ∧ LgT H (.ref a) es ∧ ∀ H', Same H H' → Q (.bl true) H'
theorem RL.kp {H H' : Hp} (k : KpT H H') {x : Mr.PV × En} {kv : NE} (h : RL H x kv) : RL H' x kv := ⟨h.1, h.2.1, h.2.2.1.kp k, h.2.2.2.kp k⟩
theorem RK.kp {H H' : Hp} (k : KpT H H') {x : Mr.PV × En} {kv : Key × V} (h : RK H x kv) : RK H' x kv := let ⟨n, a, b, c⟩ := h; ⟨n, a, b, c.kp k⟩
theorem RS.kp {H H' : Hp} (k : KpT H H') {x : (Str × Mr.PV) × En} {kv : NE} (h : RS H x kv) : RS H' x kv := ⟨h.1, h.2.1, h.2.2.1, h.2.2.2.1.kp k, h.2.2.2.2.kp k⟩
theorem RL.ks {H : Hp} {xs : List (Mr.PV × En)} {kvs : List NE} (p : Paired (RL H) xs kvs) : KsOk H kvs := by
  induction p with
  | nil => exact fun _ h => nomatch h
  | @cons x kv xs kvs h t ih =>
    intro kv' hkv
    rcases List.mem_cons.mp hkv with rfl | hkv
    · obtain ⟨h1, h2, h3, _⟩ := h
      obtain ⟨k1, ps, e1, e2, e3⟩ := h1.key
      refine ⟨by rw [h2]; exact h3.nk k1, ?_⟩
      rw [e2] at h2
      rw [NK.t.inj h2]; omega
    · exact ih kv' hkv
theorem RS.ks {H : Hp} {xs : List ((Str × Mr.PV) × En)} {kvs : List NE} (p : Paired (RS H) xs kvs) : KsOk H kvs := by
  induction p with
  | nil => exact fun _ h => nomatch h
  | @cons x kv xs kvs h t ih =>
    intro kv' hkv
    rcases List.mem_cons.mp hkv with rfl | hkv
    · obtain ⟨h1, h2, h3, h4, _⟩ := h
      refine ⟨?_, ?_⟩
      · have := h4.nk (by simp [keyed, keyedL, h1])
        rw [h3]
        simpa [keyP, keyPL] using this
      · rw [h3]
        simp [dpL, dpN]
        omega
    · exact ih kv' hkv
theorem LgT.at_ {H : Hp} {es : List En} {vs : List V} (h : TrL H (es.map eP) vs) {i : Nat} {x : V} (e : vs[i]? = some x) : ∃ en t d u us, es[i]? = some en ∧ x = .ref t ∧ H t = some (.tup [.ref d, .bl en.b]) ∧ Tr H (dP en) (.ref d) ∧ H d = some (.tup (.str en.w :: u :: us)) ∧ Tr H en.t u ∧ TrL H en.r us := by
  obtain ⟨p, hp, ht⟩ := h.get e
  rw [List.getElem?_map] at hp
  obtain ⟨en, hen, rfl⟩ := Option.map_eq_some_iff.mp hp
  obtain ⟨t, us, rfl, h1, h2⟩ := Tr.tup' (show Tr H (.tup [dP en, .bl en.b]) x from ht)
  cases h2 with
  | cons a r => cases r with
    | cons b r => cases r; cases b with
      | bl _ =>
        obtain ⟨d, ws, rfl, h3, h4⟩ := Tr.tup' (show Tr H (.tup (.str en.w :: en.t :: en.r)) _ from a)
        cases h4 with
        | cons a1 r1 => cases a1; cases r1 with
          | cons a2 r2 => exact ⟨en, t, d, _, _, hen, rfl, h1, a, h3, a2, r2⟩
theorem at0 {c : V} {r : List V} : atI (c :: r) 0 = some c := atI_nat (j := 0) rfl
theorem KpT.dn {w : World} {H : Hp} {a : Addr} {kvs : List NE} {ep : Nat} {ob : HO} (e : H a = some (DN w a kvs ep)) : KpT H (L2.upd H a ob) := fun c us h => by rw [upd_ne (ne_of h e (fun z => by unfold DN at z; cases z))]; exact h
theorem KpT.dk {H : Hp} {a : Addr} {kvs : List (Key × V)} {ob : HO} (e : IsDK H a kvs) : KpT H (L2.upd H a ob) := fun c us h => by obtain ⟨ep, e⟩ := e; rw [upd_ne (ne_of h e (fun z => nomatch z))]; exact h
theorem RL.put {H : Hp} {acc : List (Mr.PV × En)} {kvs : List NE} {e : En} {ks : List NK} {b : Addr} {v : V} (p : Paired (RL H) acc kvs) (hl : LetP e.t) (hk : .t ks = keyP e.t) (hb : Tr H e.t (.ref b)) (hv : Tr H (dP e) v) : Paired (RL H) (putG acc e.t e) (putN kvs ks b v) := by
  refine put_pair p (fun x kv h => ⟨fun z => ?_, fun z => ?_⟩) ⟨hl, hk, hb, hv⟩ fun x kv h z => ⟨h.1, h.2.1, h.2.2.1, hv⟩
  · have := h.2.1
    rw [z, ← hk] at this
    exact NK.t.inj this
  · have := h.2.1
    rw [z, hk] at this
    exact (keyP_inj hl.key.1 h.1.key.1 this).symm
theorem RK.put {H : Hp} {acc : List (Mr.PV × En)} {kvs : List (Key × V)} {e : En} {n : Str} {v : V} (p : Paired (RK H) acc kvs) (hn : e.t = .str n) (hv : Tr H (dP e) v) : Paired (RK H) (putG acc e.t e) (putK kvs (.inr n) v) := by
  refine put_pairK p (fun x kv h => ⟨fun z => ?_, fun z => ?_⟩) ⟨n, hn, rfl, hv⟩ fun x kv ⟨m, a, b, _⟩ z => ⟨m, a, b, hv⟩
  · obtain ⟨m, a, b, _⟩ := h
    rw [a, hn] at z
    rw [b, Mr.PV.str.inj z]
  · obtain ⟨m, a, b, _⟩ := h
    rw [b] at z
    rw [a, hn, Sum.inr.inj z]
theorem RS.put {H : Hp} {acc : List ((Str × Mr.PV) × En)} {kvs : List NE} {e : En} {b : Addr} {v : V} (p : Paired (RS H) acc kvs) (h1 : keyed e.t = true) (h2 : dpN (keyP e.t) ≤ 2) (hb : Tr H (.tup [.str (kindE e), e.t]) (.ref b)) (hv : Tr H (dP e) v) :
    Paired (RS H) (putG acc (kindE e, e.t) e) (putN kvs [.k (.inr (kindE e)), keyP e.t] b v) := by
  refine put_pair p (fun x kv h => ⟨fun z => ?_, fun z => ?_⟩) ⟨h1, h2, rfl, hb, hv⟩ fun x kv h z => ⟨h.1, h.2.1, h.2.2.1, h.2.2.2.1, hv⟩
  · rw [h.2.2.1, z]
  · rw [h.2.2.1] at z
    injection z with z1 z2
    injection z2 with z2 _
    injection z1 with z1
    have e1 : x.1.1 = kindE e := Sum.inr.inj z1
    have e2 : x.1.2 = e.t := keyP_inj h.1 h1 z2
    exact Prod.ext e1 e2
theorem fold_small {κ : Type} [DecidableEq κ] {f : En → κ} {p : En → Bool} {es : List En} {i : Nat} {α : Type} {R : κ × En → α → Prop} {kvs : List α} (hl : es.length ≤ 41) (q : Paired R (foldG f p (es.take i)) kvs) : kvs.length ≤ 41 := by
  rw [← Paired.length q]
  have h1 := foldG_length f p (es.take i)
  rw [List.length_take] at h1
  omega
theorem EnOk.keys {e : En} (o : EnOk e) : keyed e.t = true ∧ dpN (keyP e.t) ≤ 2 := by
  rcases o.ok with ⟨_, _, h⟩ | ⟨_, x, h, _⟩
  · obtain ⟨k1, ps, e1, e2, e3⟩ := h.key
    exact ⟨k1, by rw [e2, dpN_t]; omega⟩
  · rw [h]; exact ⟨by simp [keyed], by simp [keyP, dpN]⟩
end L2
set_option Elab.async false
set_option linter.all false
set_option maxRecDepth 100000
set_option maxHeartbeats 4000000
namespace L2
open PySem PySem.Spec PyProof.Rows
theorem Paired.zipP {α β : Type} {R : α → β → Prop} {xs : List α} {ys : List β} (p : Paired R xs ys) : ∃ zs : List (α × β), zs.map (·.1) = xs ∧ zs.map (·.2) = ys ∧ ∀ z ∈ zs, R z.1 z.2 := by
  induction p with
  | nil => exact ⟨[], rfl, rfl, fun _ h => nomatch h⟩
  | @cons x y xs ys h t ih =>
    obtain ⟨zs, h1, h2, h3⟩ := ih
    refine ⟨(x, y) :: zs, by rw [List.map_cons, h1], by rw [List.map_cons, h2], fun z hz => ?_⟩
    rcases List.mem_cons.mp hz with rfl | hz
    · exact h
    · exact h3 z hz
theorem Paired.mapF {α β γ : Type} {R : α → β → Prop} {f : γ → α} : ∀ {zs : List γ} {ys : List β}, Paired (fun z y => R (f z) y) zs ys → Paired R (zs.map f) ys
  | _, _, .nil => .nil
  | _, _, .cons h t => .cons h (Paired.mapF t)
theorem Paired.eqMap {α β : Type} {f : α → β} : ∀ {zs : List α} {ys : List β}, Paired (fun z y => y = f z) zs ys → ys = zs.map f
  | _, _, .nil => rfl
  | _, _, .cons h t => by rw [List.map_cons, h, Paired.eqMap t]
section
variable {k : Nat} {cap : List Nat} {g : TG} {tt : TT} {te : TE} {σ : St} {H : Hp} {Q : VK} {l : Addr}
theorem comp_dn {w : World} {f : Addr} {kvs : List NE} {ep : Nat} {α : Type} {xs : List α} {R0 : α → NE → Prop} (hf : H f = some (DN w f kvs ep)) (pr : Paired R0 xs kvs) (p : α → Bool) (R : Hp → α → V → Prop) (Good : St → Prop) (h0 : Good (capSt k cap σ)) (hl : H l = none) (hlen : kvs.length < sizeLine)
    (m : ∀ H1 H2 e v, KpT H1 H2 → R H1 e v → R H2 e v)
    (ht : ∀ x kv σ H1 ys (N : St → Hp → Prop), x ∈ xs → kv ∈ kvs → R0 x kv → Good σ → Same H H1 → H1 l = some (.lst ys) → ys.length < sizeLine → (p x = false → ∀ σ', Good σ' → N σ' H1) →
      (p x = true → ∀ σ' v H2, Good σ' → Same H1 H2 → R H2 x v → N σ' (upd H2 l (.lst (ys ++ [v])))) → turnOf g tt te l (.ref kv.2.1) σ H1 N)
    (hd : ∀ H' ys, Same H H' → Paired (R H') (xs.filter p) ys → H' l = some (.lst ys) → Q (.ref l) H') : GoalW (Itn w f kvs ep) g tt te l (capSt k cap σ) (upd H l (.lst [])) Q := by
  obtain ⟨zs, z1, z2, z3⟩ := Paired.zipP pr
  have hz : zs.length = kvs.length := by rw [← z2, List.length_map]
  refine comp_ents (Itn w f kvs ep) zs (fun z => .ref z.2.2.1) (fun z => p z.1) (fun G z v => R G z.1 v) Good h0 hl (by omega) (fun H' s => ⟨s _ _ hf, hz⟩) (fun i H' hi s => ⟨s _ _ hf, by omega⟩) (fun i H1 v H2 hi s y => ⟨y.1, zs[i], List.getElem?_eq_getElem hi, y.2 _ ?_⟩) (fun H1 H2 e v k r => m H1 H2 e.1 v k r)
    (fun z σ H1 ys N hz gd s e hlt n1 n2 => ht z.1 z.2 σ H1 ys N (by rw [← z1]; exact List.mem_map.mpr ⟨z, hz, rfl⟩) (by rw [← z2]; exact List.mem_map.mpr ⟨z, hz, rfl⟩) (z3 z hz) gd s e hlt n1 n2) (fun H' ys s py e => hd H' ys s ?_ e)
  · rw [← z2, List.getElem?_map, List.getElem?_eq_getElem hi]; rfl
  · have := Paired.mapF (f := fun z : α × NE => z.1) (R := R H') py
    rw [← z1, List.filter_map]
    exact this
theorem comp_strs {K : PySem.W.Frag} {a : Addr} {ss : List Str} (hS : SqL K H a (ss.map V.str)) (p : Str → Bool) (R : Hp → Str → V → Prop) (Good : St → Prop) (h0 : Good (capSt k cap σ)) (hl : H l = none) (hlen : ss.length < sizeLine)
    (m : ∀ H1 H2 e v, KpT H1 H2 → R H1 e v → R H2 e v)
    (ht : ∀ n σ H1 ys (N : St → Hp → Prop), n ∈ ss → Good σ → Same H H1 → H1 l = some (.lst ys) → ys.length < sizeLine → (p n = false → ∀ σ', Good σ' → N σ' H1) →
      (p n = true → ∀ σ' v H2, Good σ' → Same H1 H2 → R H2 n v → N σ' (upd H2 l (.lst (ys ++ [v])))) → turnOf g tt te l (.str n) σ H1 N)
    (hd : ∀ H' ys, Same H H' → Paired (R H') (ss.filter p) ys → H' l = some (.lst ys) → Q (.ref l) H') : GoalW (Itl K a) g tt te l (capSt k cap σ) (upd H l (.lst [])) Q :=
  comp_ents (Itl K a) ss V.str p R Good h0 hl hlen (fun H' s => ⟨_, hS.same s, by rw [List.length_map]; exact Nat.le_refl _⟩) (fun i H' hi s => ⟨_, V.str ss[i], hS.same s, by rw [List.getElem?_map, List.getElem?_eq_getElem hi]; rfl⟩)
    (fun i H1 v H2 hi s y => ⟨y.1, ss[i], List.getElem?_eq_getElem hi, by
      have := y.2 _ (hS.same s)
      rw [List.getElem?_map, List.getElem?_eq_getElem hi] at this
      exact (Option.some.inj this).symm⟩) m ht hd
end
theorem lkN_mem {kvs : List NE} (nd : (kvs.map (·.1)).Nodup) {kv : NE} (h : kv ∈ kvs) : lkN kvs kv.1 = some kv.2.2 := by
  unfold lkN
  induction kvs with
  | nil => exact nomatch h
  | cons y L ih =>
    rw [List.map_cons, List.nodup_cons] at nd
    rw [List.find?_cons]
    rcases List.mem_cons.mp h with rfl | hx
    · rw [decide_eq_true rfl]; rfl
    · have : ¬ y.1 = kv.1 := fun z => nd.1 (by rw [z]; exact List.mem_map.mpr ⟨kv, hx, rfl⟩)
      rw [decide_eq_false this]
      exact ih nd.2 hx
theorem nodup_of {κ : Type} {R : κ × En → NE → Prop} (inj : ∀ x y kv kv', R x kv → R y kv' → kv.1 = kv'.1 → x.1 = y.1) {xs : List (κ × En)} {kvs : List NE} (p : Paired R xs kvs) (nd : (xs.map (·.1)).Nodup) : (kvs.map (·.1)).Nodup := by
  induction p with
  | nil => exact List.nodup_nil
  | @cons x kv xs kvs h t ih =>
    rw [List.map_cons, List.nodup_cons] at nd ⊢
    refine ⟨fun z => ?_, ih nd.2⟩
    obtain ⟨kv', hk, e⟩ := List.mem_map.mp z
    have back : ∀ {xs : List (κ × En)} {kvs : List NE}, Paired R xs kvs → kv' ∈ kvs → ∃ y ∈ xs, R y kv' := by
      intro xs kvs q
      induction q with
      | nil => intro h; exact nomatch h
      | @cons a b as bs h t ih =>
        intro hm
        rcases List.mem_cons.mp hm with rfl | hm
        · exact ⟨a, List.mem_cons_self, h⟩
        · obtain ⟨y, h1, h2⟩ := ih hm; exact ⟨y, List.mem_cons_of_mem _ h1, h2⟩
    obtain ⟨y, hy, ry⟩ := back t hk
    exact nd.1 (List.mem_map.mpr ⟨y, hy, inj y x kv' kv ry h e⟩)
theorem RL.get {w : World} {H H1 : Hp} {f : Addr} {kvs : List NE} {ep : Nat} {ws : List Str} {es : List En} {kv : NE} (hf : H f = some (DN w f kvs ep)) (p : Paired (RL H) (lastE ws es) kvs) (s : Same H H1) (h : kv ∈ kvs) : NGet w H1 f (.ref kv.2.1) (some kv.2.2) := by
  have ks := RL.ks (Paired.mapP p fun _ _ r => RL.kp s.kt r)
  exact .inr ⟨kvs, ep, kv.2.1, kv.1, s _ _ hf, ks, rfl, (ks kv h).1, (ks kv h).2, (lkN_mem (nodup_of (fun x y a b rx ry e => keyP_inj rx.1.key.1 ry.1.key.1 (by rw [← rx.2.1, ← ry.2.1, e])) p (foldG_nodup _ _ es)) h).symm⟩
theorem RS.get {w : World} {H H1 : Hp} {f : Addr} {kvs : List NE} {ep : Nat} {es : List En} {kv : NE} (hf : H f = some (DN w f kvs ep)) (p : Paired (RS H) (saidE es) kvs) (s : Same H H1) (h : kv ∈ kvs) : NGet w H1 f (.ref kv.2.1) (some kv.2.2) := by
  have ks := RS.ks (Paired.mapP p fun _ _ r => RS.kp s.kt r)
  refine .inr ⟨kvs, ep, kv.2.1, kv.1, s _ _ hf, ks, rfl, (ks kv h).1, (ks kv h).2, (lkN_mem (nodup_of (fun x y a b rx ry e => ?_) p (foldG_nodup _ _ es)) h).symm⟩
  rw [rx.2.2.1, ry.2.2.1] at e
  injection e with e1 e2
  injection e2 with e2 _
  injection e1 with e1
  exact Prod.ext (Sum.inr.inj e1) (keyP_inj rx.1 ry.1 e2)
theorem RK.keys {H : Hp} {L : List (Mr.PV × En)} {kvs : List (Key × V)} (p : Paired (RK H) L kvs) : kvs.map (·.1) = (names L).map Sum.inr := by
  unfold names
  induction p with
  | nil => rfl
  | @cons x kv xs kvs h t ih =>
    obtain ⟨n, a, b, _⟩ := h
    rw [List.map_cons, List.map_cons, List.map_cons, ih, a, b]
    rfl
theorem RK.get {w : World} {H H1 : Hp} {f : Addr} {L : List (Mr.PV × En)} {kvs : List (Key × V)} {n : Str} (hf : IsDK H f kvs) (p : Paired (RK H) L kvs) (nm : NmL L) (s : Same H H1) (h : n ∈ names L) : ∃ v, NGet w H1 f (.str n) (some v) ∧ Tr H1 (dP (lkE L n)) v := by
  unfold names at h
  obtain ⟨x, hx, rfl⟩ := List.mem_map.mp h
  rw [nm.lk hx]
  obtain ⟨n, en, _⟩ := nm.str x hx
  have e : strP x.1 = n := by rw [en]; rfl
  rw [e]
  have key : ∀ {L : List (Mr.PV × En)} {kvs : List (Key × V)}, Paired (RK H) L kvs → (L.map (·.1)).Nodup → x ∈ L → ∃ v, valV kvs (.inr n) = some v ∧ Tr H (dP x.2) v := by
    intro L kvs p
    induction p with
    | nil => intro _ h; exact nomatch h
    | @cons y kv ys kvs h t ih =>
      intro nd hm
      rw [List.map_cons, List.nodup_cons] at nd
      rcases List.mem_cons.mp hm with rfl | hm
      · obtain ⟨m, a, b, c⟩ := h
        rw [en] at a
        cases a
        exact ⟨kv.2, valV_pos b, c⟩
      · obtain ⟨v, h1, h2⟩ := ih nd.2 hm
        refine ⟨v, ?_, h2⟩
        rw [valV_neg, h1]
        intro z
        obtain ⟨m, a, b, c⟩ := h
        rw [b] at z
        exact nd.1 (by rw [a, Sum.inr.inj z, ← en]; exact List.mem_map.mpr ⟨x, hm, rfl⟩)
  obtain ⟨v, h1, h2⟩ := key p nm.nd hx
  obtain ⟨ep, hf⟩ := hf
  exact ⟨v, .inl (.inl ⟨kvs, .inr n, ⟨ep, .inl (s _ _ hf)⟩, rfl, h1.symm⟩), h2.kp s.kt⟩
theorem dP_at {H : Hp} {e : En} {v : V} (h : Tr H (dP e) v) : ∃ d u us, v = .ref d ∧ H d = some (.tup (.str e.w :: u :: us)) ∧ Tr H e.t u ∧ TrL H e.r us := by
  obtain ⟨d, ws, rfl, h3, h4⟩ := Tr.tup' (show Tr H (.tup (.str e.w :: e.t :: e.r)) _ from h)
  cases h4 with
  | cons a1 r1 => cases a1; cases r1 with
    | cons a2 r2 => exact ⟨d, _, _, rfl, h3, a2, r2⟩
theorem pair_at {H : Hp} {c : Str} {p : Mr.PV} {a : Addr} (h : Tr H (.tup [.str c, p]) (.ref a)) : ∃ u, H a = some (.tup [.str c, u]) ∧ Tr H p u := by
  obtain ⟨d, ws, e, h3, h4⟩ := h.tup'
  cases e
  cases h4 with
  | cons a1 r1 => cases a1; cases r1 with
    | cons a2 r2 => cases r2; exact ⟨_, h3, a2⟩
theorem last_len {ws : List Str} {es : List En} (hl : es.length ≤ 41) : (lastE ws es).length ≤ 41 := Nat.le_trans (foldG_length _ _ es) hl
theorem said_len {es : List En} (hl : es.length ≤ 41) : (saidE es).length ≤ 41 := Nat.le_trans (foldG_length _ _ es) hl
theorem Paired.getR {α β : Type} {R : α → β → Prop} : ∀ {xs : List α} {ys : List β} {i : Nat} {y : β}, Paired R xs ys → ys[i]? = some y → ∃ x, xs[i]? = some x ∧ R x y
  | _, _, _, _, .nil, e => by simp at e
  | _, _, 0, _, .cons h _, e => by simp at e; subst e; exact ⟨_, rfl, h⟩
  | _, _, i + 1, y, .cons _ r, e => by
    obtain ⟨x, h1, h2⟩ := Paired.getR (i := i) (y := y) r (by simpa using e)
    exact ⟨x, by simpa using h1, h2⟩
theorem join_r {e : En} (o : EnOk e) (h : e.w = sJoin) : ∃ o, e.r = [.str o] ∧ r0 e = .str o := by
  rcases o.ok with ⟨h1 | h1, _⟩ | ⟨⟨_, o, h1, _⟩ | ⟨h1 | h1 | h1 | h1, _⟩, _⟩
  · rw [h] at h1; exact absurd h1 (by decide +kernel)
  · rw [h] at h1; exact absurd h1 (by decide +kernel)
  · refine ⟨o, h1, ?_⟩
    unfold r0 isW
    rw [if_pos (beq_iff_eq.mpr h), h1]; rfl
  · rw [h] at h1; exact absurd h1 (by decide +kernel)
  · rw [h] at h1; exact absurd h1 (by decide +kernel)
  · rw [h] at h1; exact absurd h1 (by decide +kernel)
  · rw [h] at h1; exact absurd h1 (by decide +kernel)
theorem nojoin_r {e : En} (h : ¬ e.w = sJoin) : r0 e = .non := by
  unfold r0 isW
  rw [if_neg fun z => h (eq_of_beq z)]
noncomputable def mkL (es : List En) (i : Nat) : List Mr.PV := (((saidE es).take i).filter fun x => [sJoin, sSplit].contains x.2.w).map fun x => .tup [x.1.2, r0 x.2]
theorem mkL_step {es : List En} {i : Nat} {x : (Str × Mr.PV) × En} (h : (saidE es)[i]? = some x) : mkL es (i + 1) = mkL es i ++ if [sJoin, sSplit].contains x.2.w = true then [.tup [x.1.2, r0 x.2]] else [] := by
  unfold mkL
  rw [take_filter h, List.map_append]
  congr 1
  split <;> rfl
theorem mkL_all (es : List En) : mkL es (saidE es).length = marksL es := by unfold mkL marksL; rw [List.take_length]
theorem mkL_len {es : List En} {i : Nat} (hl : es.length ≤ 41) : (mkL es i).length ≤ 41 := by
  unfold mkL
  rw [List.length_map]
  refine Nat.le_trans (List.length_filter_le _ _) ?_
  rw [List.length_take]
  have := said_len hl
  omega
end L2
set_option Elab.async false
set_option linter.all false
set_option maxRecDepth 100000
set_option maxHeartbeats 4000000
namespace L2
open PySem PySem.Spec PyProof.Rows
noncomputable def Cd (x : Str) : Prop := ∀ c ∈ x.cps.toList, c < 16 ^ 8
theorem join_codes {zs : List Str} (h : ∀ z ∈ zs, Cd z) : Cd (Txt.join (Str.ofString "") zs) := by
  show Cd (Builtin.Str.glued _ zs)
  rw [StrLaws.glued_eq_join]
  have key : ∀ zs : List Str, (∀ z ∈ zs, Cd z) → Cd (Str.join (Str.ofString "") zs) := by
    intro zs
    induction zs with
    | nil => intro _ c hc; exact absurd hc (by show ¬ c ∈ ([] : List Nat); simp)
    | cons x r ih =>
      intro h
      cases r with
      | nil => exact h x List.mem_cons_self
      | cons y r =>
        have e : (Str.join (Str.ofString "") (x :: y :: r)).cps = x.cps ++ (Str.ofString "").cps ++ (Str.join (Str.ofString "") (y :: r)).cps := rfl
        intro c hc
        rw [e, Array.toList_append, Array.toList_append] at hc
        have e0 : (Str.ofString "").cps.toList = [] := by decide +kernel
        rw [e0, List.append_nil] at hc
        rcases List.mem_append.mp hc with hc | hc
        · exact h x List.mem_cons_self c hc
        · exact ih (fun z hz => h z (List.mem_cons_of_mem _ hz)) c hc
  exact key zs h
theorem strs_cd : ∀ {ys : List V}, (∀ y ∈ ys, ∃ x : Str, y = .str x ∧ x.length = 1 ∧ Cd x) → ∃ zs : List Str, ys = zs.map V.str ∧ (∀ z ∈ zs, z.length = 1) ∧ ∀ z ∈ zs, Cd z
  | [], _ => ⟨[], rfl, (fun _ h => nomatch h), fun _ h => nomatch h⟩
  | y :: ys, h => by
    obtain ⟨zs, e, hz, hc⟩ := strs_cd (ys := ys) fun z hz => h z (List.mem_cons_of_mem _ hz)
    obtain ⟨x, rfl, hx, hx2⟩ := h y List.mem_cons_self
    refine ⟨x :: zs, by rw [e]; rfl, fun z hm => ?_, fun z hm => ?_⟩
    · rcases List.mem_cons.mp hm with r | r
      · rw [r]; exact hx
      · exact hz z r
    · rcases List.mem_cons.mp hm with r | r
      · rw [r]; exact hx2
      · exact hc z r
theorem strs_nmE : ∀ {ys : List V}, (∀ y ∈ ys, ∃ x : Str, y = .str x ∧ Nm x) → ∃ zs : List Str, ys = zs.map V.str ∧ (∀ z ∈ zs, Nm z)
  | [], _ => ⟨[], rfl, fun _ h => nomatch h⟩
  | y :: ys, h => by
    obtain ⟨zs, e, hz⟩ := strs_nmE (ys := ys) fun z hz => h z (List.mem_cons_of_mem _ hz)
    obtain ⟨x, rfl, hx⟩ := h y List.mem_cons_self
    refine ⟨x :: zs, by rw [e]; rfl, fun z hm => ?_⟩
    rcases List.mem_cons.mp hm with r | r
    · rw [r]; exact hx
    · exact hz z r
theorem abc_cd {c : Nat} (h : c ∈ ABC.cps.toList) : Cd ⟨#[c]⟩ := by
  have all : ∀ c ∈ ABC.cps.toList, c < 16 ^ 8 := by decide +kernel
  intro d hd
  have : d = c := by simpa using hd
  rw [this]; exact all c h
end L2
set_option Elab.async false
set_option linter.all false
set_option maxRecDepth 100000
set_option maxHeartbeats 4000000
namespace L2
open PySem PySem.Spec PyProof.Rows
noncomputable def constsV : List Expr → Option (List V)
  | [] => some []
  | .Constant (.str x) _ _ :: es => (constsV es).map (V.str x :: ·)
  | .Constant (.int i) _ _ :: es => (constsV es).map (V.int i :: ·)
  | _ => none
section
variable {X : Cx} {pos : Pos}
theorem pa_consts : ∀ {es : List Expr} {vs : List V}, constsV es = some vs → PA X es (fun _ H Q => Q vs H)
  | [], vs, h => by cases h; exact pa_nil
  | e :: es, vs, h => by
    unfold constsV at h
    split at h
    · rename_i h0; cases h0
    · rename_i x k ps es' h0
      cases h0
      obtain ⟨us, h1, h2⟩ := Option.map_eq_some_iff.mp h
      subst h2
      exact pa_cons pe_str (pa_consts h1)
    · rename_i x k ps es' h0
      cases h0
      obtain ⟨us, h1, h2⟩ := Option.map_eq_some_iff.mp h
      subst h2
      exact pa_cons pe_int (pa_consts h1)
    · cases h
noncomputable def tLstC (vs : List V) : TE := fun _ H Q => vs.length ≤ sizeLine ∧ ∀ p, H p = none → Q (.ref p) (upd H p (.lst vs))
theorem pe_lstC {es : List Expr} (vs : List V) (h : constsV es = some vs) : PE X (.List es pos) (tLstC vs) := pe_lst (pa_consts h)
end
end L2
set_option Elab.async false
set_option linter.all false
set_option maxRecDepth 100000
set_option maxHeartbeats 4000000
namespace L2
open PySem PySem.Spec PyProof.Rows
section
variable {X : Cx} {e st : Expr} {te ts : TE} {pos p2 : Pos}
noncomputable def tBackL (K : PySem.W.Frag) (te ts : TE) : TE := fun σ H Q => te σ H fun x H1 => ∃ a xs, x = .ref a ∧ SqL K H1 a xs ∧ ts σ H1 fun k H2 => k = .int (-1) ∧ SqL K H2 a xs ∧ ∀ p zs, H2 p = none → zs.length ≤ xs.length → (∀ z ∈ zs, z ∈ xs) → Q (.ref p) (upd H2 p (.lst zs))
theorem pe_backL (K : PySem.W.Frag) (he : PE X e te) (hs : PE X st ts) (hK : X.K = K := by rfl) : PE X (.Subscript e (.Slice none none (some st) p2) pos) (tBackL K te ts) := by
  subst hK
  intro pins s σ H Q I h
  refine Subscript_ (thn (he pins s σ H _ I h) fun v s1 ⟨x, H1, I1, r1, a, xs, ex, ha, q1⟩ => ?_)
  subst ex
  cases r1
  refine wpAny_Slice ?_
  rw [evalPart_none]
  refine wpAny_pure ?_
  rw [evalPart_some]
  refine wpAny_pure (thn (hs pins s1 σ H1 _ I1 q1) fun u s2 ⟨k, H2, I2, r2, ek, ha2, q2⟩ => ?_)
  subst ek
  obtain ⟨t, rfl⟩ := r2
  have I3 : Inv X pins σ H2 { s2 with heap := s2.heap.push { cls := .type "slice", data := .fields #[.none, .none, .int (-1) t] } } := I2.kept (t' := s2.toks) fun b ob q => Heap.get?_push_of_some _ q
  obtain ⟨its, rr, pt, hz⟩ := I3.list ha2
  have hlen := rr.length
  refine tail_any (ops := [.ref a, .ref s2.heap.objs.size]) pt.isList.typeIs slot_list_getitem.lookup (wpAny_getItem_list_slice pt.isList (Heap.IsSliceOf.new ..) .none .none (.int (-1) t) (by decide) ?_ (by rw [List.size_toArray] <;> omega)) (by with_unfolding_all rfl)
  have hle := slicePick_size_le its.toArray none none (some (-1))
  unfold slicePick at hle ⊢
  have rz := vals_pick (f := fun m => m) (sliceRange (sliceBounds none none (some (-1)) its.toArray.size).1 (sliceBounds none none (some (-1)) its.toArray.size).2.1 (sliceBounds none none (some (-1)) its.toArray.size).2.2) rr
  have el : ∀ m : Nat, its.toArray[m]? = its[m]? := fun m => by simp
  simp only [el, List.size_toArray] at hle rz ⊢
  have hl2 := rz.length
  refine ⟨.ref _, _, I3.laid (t' := s2.toks) (o := .lst _) (fun b ob q => Heap.get?_push_of_some _ q) (Nat.le_refl _) ⟨?_, _, 0, rz, Heap.get?_push_size _ rfl⟩, rfl, q2 _ _ (I3.hok.fresh (Nat.le_refl _)) ?_ ?_⟩
  · exact Nat.le_trans (by rw [hl2]; omega) hz
  · rw [hl2]; omega
  · intro z hz'
    obtain ⟨m, _, hm⟩ := List.mem_filterMap.mp hz'
    exact List.mem_of_getElem? hm
end
end L2
set_option Elab.async false
set_option linter.all false
set_option maxRecDepth 100000
namespace My
open PySem L2
set_option linter.all false
set_option maxHeartbeats 4000000
local macro_rules | `(tactic| walk_at "vc0") => `(tactic| simp only [tPar, tAsg, tOp, tUn, tC, tVar, rI, rI0, rU, tCB, tCons, tNil, tRet, tLst, tTup, gName, tIfS, tTest, tNext, tBreak, tCont, tDrop, tCall, tIf, tNot, tAnd, tOr, tB, tAndV, tOrV, tNotV, tChain, tSl, tPart, tNoPart, tBM, tBM0, rIxL, rIxT, rIxS, rSlT, rSlL, rIn, rCat, rEqL, rLenL, rLenT, rAll, rAny, rMaxL, rIsi, rTupL, rListL, rLower, rSplit, rIndexS, rEq, rNe, rJoin, rJoinT, rSlW, rCatW, rMulS, rRep1, jNil, jCons, tFS, tFmtS, tFmtI, tOrS, rNeL, rPopAt, rSorted, rInC, tBack, rSortS, rLjust, tDNewK, tDisp, tPairs, tNever, rAppend, rSetL, gSub, gTup, gCons, gNil, tyV, L2.start, cxOf_K, cxComp_K, gt_iff_lt, ge_iff_le, List.map_cons, List.map_nil, List.cons_append, List.nil_append, List.length_cons, List.length_nil, List.replicate, List.getElem?_cons_zero, List.getElem?_cons_succ, List.set_cons_zero, List.set_cons_succ, Option.some.injEq, V.int.injEq, V.str.injEq, V.bl.injEq, V.ref.injEq, V.ty.injEq, List.cons.injEq, and_true, true_and, exists_eq_left, exists_eq_left', exists_eq_right, exists_and_left, exists_and_right, exists_eq_or_imp, exists_const, Nat.reduceAdd, Nat.reduceSub, ite_true, ite_false, Bool.false_eq_true, if_true, if_false, and_assoc, Bool.not_true, Bool.not_false, Bool.true_and, Bool.false_and, decide_true, decide_false, reduceCtorEq, false_and, exists_false, or_false, false_or, tNGet, sNPut, tNNew, iNk, rSortD, rSortQ, rRepr, iEnumA, tLstC, tBackL])
local macro_rules | `(tactic| walk_at "vc1") => `(tactic| simp only [tPar, tAsg, tOp, tUn, tC, tVar, rI, rI0, rU, tCB, tCons, tNil, tRet, tLst, tTup, gName, tTest, tNext, tBreak, tCont, tDrop, tCall, tIf, tNot, tAnd, tOr, tB, tAndV, tOrV, tNotV, tChain, tSl, tPart, tNoPart, tBM, tBM0, rIxL, rIxT, rIxS, rSlT, rSlL, rIn, rCat, rEqL, rLenL, rLenT, rAll, rAny, rMaxL, rIsi, rTupL, rListL, rLower, rSplit, rIndexS, rEq, rNe, rJoin, rJoinT, rSlW, rCatW, rMulS, rRep1, jNil, jCons, tFS, tFmtS, tFmtI, tOrS, rNeL, rPopAt, rSorted, rInC, tBack, rSortS, rLjust, tDNewK, tDisp, tPairs, tNever, rAppend, rSetL, gSub, gTup, gCons, gNil, tyV, L2.start, cxOf_K, cxComp_K, gt_iff_lt, ge_iff_le, List.map_cons, List.map_nil, List.cons_append, List.nil_append, List.length_cons, List.length_nil, List.replicate, List.getElem?_cons_zero, List.getElem?_cons_succ, List.set_cons_zero, List.set_cons_succ, Option.some.injEq, V.int.injEq, V.str.injEq, V.bl.injEq, V.ref.injEq, V.ty.injEq, List.cons.injEq, and_true, true_and, exists_eq_left, exists_eq_left', exists_eq_right, exists_and_left, exists_and_right, exists_eq_or_imp, exists_const, Nat.reduceAdd, Nat.reduceSub, ite_true, ite_false, Bool.false_eq_true, if_true, if_false, and_assoc, Bool.not_true, Bool.not_false, Bool.true_and, Bool.false_and, decide_true, decide_false, reduceCtorEq, false_and, exists_false, or_false, false_or, tNGet, tNNew, iNk, rSortD, rSortQ, rRepr, iEnumA, tLstC, tBackL])
local macro_rules | `(tactic| walk_at "vc2") => `(tactic| simp only [tPar, tAsg, tOp, tUn, tC, tVar, rI, rI0, rU, tCB, tCons, tNil, tRet, tLst, tTup, gName, tIfS, tTest, tNext, tBreak, tCont, tDrop, tCall, tIf, tNot, tAnd, tOr, tB, tAndV, tOrV, tNotV, tChain, tSl, tPart, tNoPart, tBM, tBM0, rIxL, rIxT, rIxS, rSlT, rSlL, rIn, rCat, rEqL, rLenL, rLenT, rAll, rAny, rMaxL, rIsi, rTupL, rListL, rLower, rSplit, rIndexS, rEq, rNe, rJoin, rJoinT, rSlW, rCatW, rMulS, rRep1, jNil, jCons, tFS, tFmtS, tFmtI, tOrS, rNeL, rPopAt, rSorted, rInC, tBack, rSortS, rLjust, tDNewK, tDisp, tPairs, tNever, rAppend, rSetL, gSub, gTup, gCons, gNil, tyV, L2.start, cxOf_K, cxComp_K, gt_iff_lt, ge_iff_le, List.map_cons, List.map_nil, List.cons_append, List.nil_append, List.length_cons, List.length_nil, List.replicate, List.getElem?_cons_zero, List.getElem?_cons_succ, List.set_cons_zero, List.set_cons_succ, Option.some.injEq, V.int.injEq, V.str.injEq, V.bl.injEq, V.ref.injEq, V.ty.injEq, List.cons.injEq, and_true, true_and, exists_eq_left, exists_eq_left', exists_eq_right, exists_and_left, exists_and_right, exists_eq_or_imp, exists_const, Nat.reduceAdd, Nat.reduceSub, ite_true, ite_false, Bool.false_eq_true, if_true, if_false, and_assoc, Bool.not_true, Bool.not_false, Bool.true_and, Bool.false_and, decide_true, decide_false, reduceCtorEq, false_and, exists_false, or_false, false_or, tNGet, sNPut, tNNew, iNk, rSortD, rSortQ, rRepr, iEnumA, tLstC, tBackL, tTrue])
local macro_rules | `(tactic| walk_at "vc3") => `(tactic| simp only [tPar, tAsg, tOp, tUn, tC, tVar, rI, rI0, rU, tCB, tCons, tNil, tRet, tLst, tTup, gName, tIfS, tTest, tNext, tBreak, tCont, tDrop, tCall, tIf, tNot, tAnd, tOr, tB, tAndV, tOrV, tNotV, tChain, tSl, tPart, tNoPart, tBM0, rIxL, rIxT, rIxS, rSlT, rSlL, rIn, rCat, rEqL, rLenL, rLenT, rAll, rAny, rMaxL, rIsi, rTupL, rListL, rLower, rSplit, rIndexS, rEq, rNe, rJoin, rJoinT, rSlW, rCatW, rMulS, rRep1, jNil, jCons, tFS, tFmtS, tFmtI, tOrS, rNeL, rPopAt, rSorted, rInC, tBack, rSortS, rLjust, tDNewK, tDisp, tPairs, tNever, rAppend, rSetL, gSub, gTup, gCons, gNil, tyV, L2.start, cxOf_K, cxComp_K, gt_iff_lt, ge_iff_le, List.map_cons, List.map_nil, List.cons_append, List.nil_append, List.length_cons, List.length_nil, List.replicate, List.getElem?_cons_zero, List.getElem?_cons_succ, List.set_cons_zero, List.set_cons_succ, Option.some.injEq, V.int.injEq, V.str.injEq, V.bl.injEq, V.ref.injEq, V.ty.injEq, List.cons.injEq, and_true, true_and, exists_eq_left, exists_eq_left', exists_eq_right, exists_and_left, exists_and_right, exists_eq_or_imp, exists_const, Nat.reduceAdd, Nat.reduceSub, ite_true, ite_false, Bool.false_eq_true, if_true, if_false, and_assoc, Bool.not_true, Bool.not_false, Bool.true_and, Bool.false_and, decide_true, decide_false, reduceCtorEq, false_and, exists_false, or_false, false_or, tNGet, sNPut, tNNew, iNk, rSortD, rSortQ, rRepr, iEnumA, tLstC, tBackL])
local macro_rules | `(tactic| walk_at "vc4") => `(tactic| simp only [tPar, tAsg, tOp, tUn, tC, tVar, rI, rI0, rU, tCB, tCons, tNil, tRet, tLst, tTup, gName, tIfS, tTest, tNext, tBreak, tCont, tDrop, tCall, tIf, tNot, tAnd, tOr, tB, tAndV, tOrV, tNotV, tChain, tSl, tPart, tNoPart, tBM, tBM0, rIxL, rIxT, rIxS, rSlT, rSlL, rIn, rCat, rEqL, rLenL, rLenT, rAll, rAny, rMaxL, rIsi, rTupL, rListL, rLower, rSplit, rIndexS, rEq, rNe, rJoin, rJoinT, rSlW, rCatW, rMulS, rRep1, jNil, jCons, tFS, tFmtS, tFmtI, tOrS, rNeL, rPopAt, rSorted, rInC, tBack, rSortS, rLjust, tDNewK, tDisp, tPairs, tNever, rAppend, rSetL, gSub, gTup, gCons, gNil, tyV, L2.start, cxOf_K, cxComp_K, gt_iff_lt, ge_iff_le, List.map_cons, List.map_nil, List.cons_append, List.nil_append, List.length_cons, List.length_nil, List.replicate, List.getElem?_cons_zero, List.getElem?_cons_succ, List.set_cons_zero, List.set_cons_succ, Option.some.injEq, V.int.injEq, V.str.injEq, V.bl.injEq, V.ref.injEq, V.ty.injEq, List.cons.injEq, and_true, true_and, exists_eq_left, exists_eq_left', exists_eq_right, exists_and_left, exists_and_right, exists_eq_or_imp, exists_const, Nat.reduceAdd, Nat.reduceSub, ite_true, ite_false, Bool.false_eq_true, if_true, if_false, and_assoc, Bool.not_true, Bool.not_false, Bool.true_and, Bool.false_and, decide_true, decide_false, reduceCtorEq, false_and, exists_false, or_false, false_or, tNGet, sNPut, tNNew, iNk, rSortD, rSortQ, rRepr, iEnumA, tLstC, tBackL, tTrue, id])
noncomputable def top (i : Nat) : Stmt := PySem.Challenge.pw_answertrees_k49_what_a_log_leaves.main.body.getD i (.Pass ⟨0, 0, 0, 0⟩)
noncomputable abbrev s_last_deeds : Stmt := top 1
noncomputable abbrev s_pack_of : Stmt := top 2
noncomputable abbrev s_marks_of : Stmt := top 3
noncomputable abbrev s_reads_of : Stmt := top 4
noncomputable abbrev s_law_start : Stmt := top 6
noncomputable abbrev s_law_take : Stmt := top 7
noncomputable abbrev s_law_name : Stmt := top 8
noncomputable abbrev s_law_pool : Stmt := top 9
noncomputable abbrev s_law_of : Stmt := top 10
noncomputable abbrev s_law_names : Stmt := top 11
noncomputable abbrev s_law_letters : Stmt := top 12
noncomputable abbrev s_law_deed : Stmt := top 13
noncomputable abbrev s_law_said : Stmt := top 14
noncomputable abbrev s_law_kept_by : Stmt := top 15
noncomputable abbrev s_law_right : Stmt := top 16
noncomputable abbrev s_law : Stmt := top 17
structure Txt (K : PySem.W.Frag) (mg : Str → Option Value) (fs : Nat → Addr) (fds : Nat → FuncData) (tc : Nat → Addr) (u : Nat → Value) : Prop where
  d_last_deeds : Def K mg "last_deeds" s_last_deeds ["log", "words"] (fs 0) (fds 0)
  d_pack_of : Def K mg "pack_of" s_pack_of ["log"] (fs 1) (fds 1)
  d_marks_of : Def K mg "marks_of" s_marks_of ["log"] (fs 2) (fds 2)
  d_reads_of : Def K mg "reads_of" s_reads_of ["log"] (fs 3) (fds 3)
  d_law_start : Def K mg "_law_start" s_law_start ["_law_script"] (fs 4) (fds 4)
  d_law_take : Def K mg "_law_take" s_law_take ["_law_state", "_law_many"] (fs 5) (fds 5)
  d_law_name : Def K mg "_law_name" s_law_name ["_law_state"] (fs 6) (fds 6)
  d_law_pool : Def K mg "_law_pool" s_law_pool ["_law_state", "_law_many"] (fs 7) (fds 7)
  d_law_of : Def K mg "_law_of" s_law_of ["_law_state", "_law_some"] (fs 8) (fds 8)
  d_law_names : Def K mg "_law_names" s_law_names ["_law_state", "_law_many"] (fs 9) (fds 9)
  d_law_letters : Def K mg "_law_letters" s_law_letters ["_law_state", "_law_pool_here", "_law_many"] (fs 10) (fds 10)
  d_law_deed : Def K mg "_law_deed" s_law_deed ["_law_state", "_law_pool_here", "_law_letters_here"] (fs 11) (fds 11)
  d_law_said : Def K mg "_law_said" s_law_said ["_law_log"] (fs 12) (fds 12)
  d_law_kept_by : Def K mg "_law_kept_by" s_law_kept_by ["_law_log"] (fs 13) (fds 13)
  d_law_right : Def K mg "_law_right" s_law_right ["_law_log"] (fs 14) (fds 14)
  d_law : Def K mg "law" s_law ["_law_script"] (fs 15) (fds 15)
  z_enumerate : mg "enumerate" = none
  z_tuple : mg "tuple" = none
  z_sorted : mg "sorted" = none
  z_range : mg "range" = none
  z_len : mg "len" = none
  z_repr : mg "repr" = none
  z_all : mg "all" = none

noncomputable def N10 : List Str := [Str.ofString "p0", Str.ofString "q1", Str.ofString "x", Str.ofString "7", Str.ofString "yy", Str.ofString "u2u", Str.ofString "left", Str.ofString "w", Str.ofString "v9", Str.ofString "g"]
theorem nm10 : ∀ n ∈ N10, Nm n := by
  intro n hn
  unfold N10 at hn
  simp only [List.mem_cons, List.mem_nil_iff, or_false] at hn
  rcases hn with h | h | h | h | h | h | h | h | h | h <;> rw [h] <;> exact ⟨by decide +kernel, by decide +kernel⟩
theorem names_rd {K : PySem.W.Frag} {p l : Addr} {c m : Nat} {H H1 : Hp} {Q : VK} {zs : List Str} (hl : H l = none) (hp1 : Box (c + 120) H1 p) (b1 : But p H H1) (hz : H1 l = some (.lst (zs.map V.str))) (np : l ≠ p) (z1 : 1 ≤ zs.length) (zm : zs.length ≤ m) (m2 : 2 ≤ m) (m6 : m ≤ 6) (hn : ∀ z ∈ zs, Nm z)
    (q : ∀ (l : Addr) (zs : List Str) H', H l = none → Pl H' p l zs → Box (c + 120) H' p → But p H H' → Q (.ref l) H') :
    tSeq (tFor (iList K (tLstC [V.str (Str.ofString "p0"), V.str (Str.ofString "q1"), V.str (Str.ofString "x"), V.str (Str.ofString "7"), V.str (Str.ofString "yy"), V.str (Str.ofString "u2u"), V.str (Str.ofString "left"), V.str (Str.ofString "w"), V.str (Str.ofString "v9"), V.str (Str.ofString "g")])) (gName 3)
          (tIfS
            (tAnd (tTest (tOp (rI0 fun i j => V.bl (decide (i < j))) (tCB (rLenL K) (tCons (tVar 2) tNil)) (tVar 1)))
              (tTest (tOp (rIn K true) (tVar 3) (tVar 2))))
            (tDrop (tBM K "list" rAppend (tVar 2) (tCons (tVar 3) tNil))) tNext))
        (tRet (tVar 2)) { nx := fun x H' => Q V.non H', rt := Q } [some (V.ref p), some (V.int (m : Int)), some (V.ref l), none] H1 := by
  refine tSeq_i ⟨by decide, fun a ha => ⟨a, rfl, ⟨_, SqL.of upd_same⟩, ?_⟩⟩
  have s1 := Same.upd (o := .lst (N10.map V.str)) ha
  have npa : a ≠ p := (Box.ne hp1 ha).symm
  have nla : a ≠ l := (ne_of_none hz ha).symm
  refine for_list (K := K) (a := a) (xs := N10.map V.str) (fun i σ H' => Box (c + 120) H' p ∧ But p H H' ∧ H' a = some (.lst (N10.map V.str)) ∧ (∃ zs : List Str, H' l = some (.lst (zs.map V.str)) ∧ 1 ≤ zs.length ∧ zs.length ≤ m ∧ (∀ z ∈ zs, Nm z) ∧ (1 ≤ i → 2 ≤ zs.length ∨ zs = [Str.ofString "p0"]) ∧ (2 ≤ i → 2 ≤ zs.length)) ∧ ∃ v3, σ = [some (.ref p), some (.int (m : Int)), some (.ref l), v3])
    ⟨Box.same (p := p) hp1 s1, b1.trans (But.of s1), upd_same, ⟨zs, s1 _ _ hz, z1, zm, hn, (fun h => absurd h (by decide)), fun h => absurd h (by decide)⟩, _, rfl⟩ (fun i σ H' _ ⟨_, _, e, _⟩ => SqL.of e) ?_ ?_
  · rintro i x σ H2 hx ⟨hp2, b2, ha2, ⟨ws, hw, w1, wm, wn, wa, wb⟩, v3, rfl⟩
    rw [List.getElem?_map] at hx
    obtain ⟨n, hn10, rfl⟩ := Option.map_eq_some_iff.mp hx
    walk_at "vc0"
    refine ⟨_, SqL.of hw, ?_⟩
    rw [List.length_map]
    have keep : (ws.length < m → ws.contains n = true) → (1 ≤ i + 1 → 2 ≤ ws.length ∨ ws = [Str.ofString "p0"]) ∧ (2 ≤ i + 1 → 2 ≤ ws.length) := by
      intro hc
      by_cases h2 : 2 ≤ ws.length
      · exact ⟨fun _ => .inl h2, fun _ => h2⟩
      · have hm := hc (by omega)
        obtain ⟨z, ez⟩ : ∃ z, ws = [z] := by
          match ws, w1, h2 with
          | [z], _, _ => exact ⟨z, rfl⟩
          | _ :: _ :: _, _, h => exact absurd (by simp) h
        subst ez
        have en : n = z := by simpa using hm
        subst en
        match i, hn10, wa, wb with
        | 0, hn10, _, _ =>
          have : n = Str.ofString "p0" := (Option.some.inj hn10).symm
          exact ⟨fun _ => .inr (by rw [this]), fun h => absurd h (by decide)⟩
        | 1, hn10, wa, _ =>
          have e1 : n = Str.ofString "q1" := (Option.some.inj hn10).symm
          rcases wa (Nat.le_refl _) with h | h
          · exact absurd h (by simp)
          · have : n = Str.ofString "p0" := by injection h
            rw [e1] at this
            exact absurd this (by decide +kernel)
        | i + 2, _, _, wb => exact absurd (wb (by omega)) (by simp)
    refine iteD (fun hlt => ⟨_, .inl (SqL.of hw), rfl, flat_strs, ?_⟩) (fun hlt => ⟨hp2, b2, ha2, ⟨ws, hw, w1, wm, wn, keep (fun h => absurd (Int.ofNat_lt.mpr h) hlt)⟩, _, rfl⟩)
    rw [inV_str]
    cases hcx : ws.contains n with
    | true => exact iteF ⟨hp2, b2, ha2, ⟨ws, hw, w1, wm, wn, keep fun _ => hcx⟩, _, rfl⟩
    | false =>
      have hlt := Int.ofNat_lt.mp hlt
      refine iteT ⟨.inl ⟨_, SqL.of hw⟩, _, hw, szt (by rw [List.length_map]; omega), ?_, ?_, ?_, ⟨ws ++ [n], ?_, ?_, ?_, ?_, ?_, ?_⟩, _, rfl⟩
      · show BoxO _ (upd H2 l _ p); rw [upd_ne np.symm]; exact hp2
      · exact fun b o hb n1 => by rw [upd_ne (ne_of_none hb hl)]; exact b2 b o hb n1
      · rw [upd_ne nla]; exact ha2
      · rw [upd_same, List.map_append, List.map_singleton]
      · rw [List.length_append]; show 1 ≤ _ + 1; omega
      · rw [List.length_append]; show _ + 1 ≤ m; omega
      · intro z hz'
        rcases List.mem_append.mp hz' with h | h
        · exact wn z h
        · rw [List.mem_singleton.mp h]; exact nm10 n (List.mem_of_getElem? hn10)
      · intro _; left; rw [List.length_append]; show 2 ≤ _ + 1; omega
      · intro _; rw [List.length_append]; show 2 ≤ _ + 1; omega
  · rintro σ H2 ⟨hp2, b2, ha2, ⟨ws, hw, w1, wm, wn, wa, wb⟩, v3, rfl⟩
    exact ⟨_, rfl, q l ws H2 hl ⟨hw, np, wb (by decide), by omega, wn⟩ hp2 b2⟩

theorem deed_tail {K : PySem.W.Frag} {p l g : Addr} {c : Nat} {H H1 : Hp} {Q : VK} {zs : List Str} {us : List V} {w : Str} (hp : Box c H p) (hp1 : Box (c + 1) H1 p) (hc : c < 30000) (b1 : But p H H1) (hP : Pl H1 p l zs) (hG : Lts H1 p g us)
    (hw : w = sCome ∨ w = sGo ∨ w = sJoin ∨ w = sSplit ∨ w = sFree ∨ w = sRead ∨ w = sUnread) (q : ∀ v H', DdV H' v → Box (c + 5) H' p → But p H H' → Q v H') :
    tSeq
      (tIfS
        (tTest
          (tOp (rIn K false) (tVar 3)
            (tTup (tCons (tC (V.str (Str.ofString "come"))) (tCons (tC (V.str (Str.ofString "go"))) tNil)))))
        (tRet (tTup (tCons (tVar 3) (tCons (tCall spOf [] E0 (tCons (tVar 0) (tCons (tVar 2) tNil))) tNil))))
        tNext)
      (tSeq
        (tAsg (tCall spTk [] E0 (tCons (tVar 0) (tCons (tCB (rLenL K) (tCons (tVar 1) tNil)) tNil))) (gName 4))
        (tSeq
          (tIfS (tTest (tOp rEq (tVar 3) (tC (V.str (Str.ofString "join")))))
            (tRet
              (tTup
                (tCons (tVar 3)
                  (tCons (tOp (rIxL K) (tVar 1) (tVar 4))
                    (tCons
                      (tOp (rIxL K) (tVar 1)
                        (tOp (rI (fun x j => 0 < j) fun i j => V.int (i % j))
                          (tOp (rI0 fun i j => V.int (i + j))
                            (tOp (rI0 fun i j => V.int (i + j)) (tVar 4) (tC (V.int 1)))
                            (tCall spTk [] E0
                              (tCons (tVar 0)
                                (tCons
                                  (tOp (rI0 fun i j => V.int (i - j))
                                    (tCB (rLenL K) (tCons (tVar 1) tNil)) (tC (V.int 1)))
                                  tNil))))
                          (tCB (rLenL K) (tCons (tVar 1) tNil))))
                      tNil)))))
            tNext)
          (tRet (tTup (tCons (tVar 3) (tCons (tOp (rIxL K) (tVar 1) (tVar 4)) tNil))))))
      { nx := fun x H' => Q V.non H', rt := Q }
      [some (V.ref p), some (V.ref l), some (V.ref g), some (V.str w), none] H1 := by
  have zl := hP.lo
  have zh := hP.hi
  have gl := hG.lo
  have gh := hG.hi
  refine tSeq_i ?_; walk_at "vc0"
  refine ⟨by decide, fun t1 ht1 => ⟨_, .inr (SqT.of upd_same), rfl, rfl, ?_⟩⟩
  have s1 := Same.upd (o := .tup [V.str (Str.ofString "come"), V.str (Str.ofString "go")]) ht1
  rw [show inV (V.str w) [V.str (Str.ofString "come"), V.str (Str.ofString "go")] = [sCome, sGo].contains w from inV_str (row := [sCome, sGo])]
  split
  · rename_i h1
    refine ⟨p, g, c + 1, us, rfl, Box.same (p := p) hp1 s1, by omega, s1 _ _ hG.el, hG.np, gl, by omega, fun v H2 hv hp2 b2 => ⟨by decide, fun t2 ht2 => ?_⟩⟩
    have s3 := Same.upd (o := .tup [V.str w, v]) ht2
    have k2 : KpT H1 H2 := s1.kt.trans (Box.kt (d := 0) (Box.same (p := p) hp1 s1) b2)
    obtain ⟨x, lx, tx⟩ := hG.lt v hv
    refine q _ _ ⟨⟨w, x, [], true⟩, .tup upd_same (.cons (.str w) (.cons (tx.kp (k2.trans s3.kt)) .nil)), ⟨.inl ⟨?_, rfl, lx⟩⟩⟩ (Box.up (p := p) (Box.same (p := p) hp2 s3) (by omega)) (((b1.trans (But.of s1)).trans b2).trans (But.of s3))
    simpa [List.contains_cons] using h1
  · rename_i h1
    have hw2 : w = sJoin ∨ w = sSplit ∨ w = sFree ∨ w = sRead ∨ w = sUnread := by
      rcases hw with h | h | h
      · rw [h] at h1; exact absurd (by decide +kernel) h1
      · rw [h] at h1; exact absurd (by decide +kernel) h1
      · exact h
    have hp1' := Box.same (p := p) hp1 s1
    have hP' := hP.but (But.of s1)
    generalize upd H1 t1 (.tup [V.str (Str.ofString "come"), V.str (Str.ofString "go")]) = G1 at s1 hp1' hP'
    have b1' := b1.trans (But.of s1)
    refine tSeq_i ?_; walk_at "vc0"
    refine ⟨_, SqL.of hP'.el, p, _, _, rfl, hp1', by omega, by rw [List.length_map]; omega, by rw [List.length_map]; omega, fun d H2 d0 d1 hp2 b2 => ?_⟩
    rw [List.length_map] at d1
    have hP2 := hP'.but b2
    obtain ⟨v, hv, hat⟩ := atI_mem (xs := zs.map V.str) d0 (by rw [List.length_map]; exact d1)
    obtain ⟨y, hy, rfl⟩ := List.mem_map.mp hv
    have b12 := b1'.trans b2
    refine tSeq_i ?_; walk_at "vc0"
    refine ⟨rfl, iteD (fun e1 => ⟨_, SqL.of hP2.el, _, hat, _, SqL.of hP2.el, p, _, _, rfl, hp2, by omega, by rw [List.length_map]; omega, by rw [List.length_map]; omega, fun e H3 e0 e1' hp3 b3 => ?_⟩) (fun e1 => ⟨_, SqL.of hP2.el, _, hat, by decide, fun t ht => ?_⟩)⟩
    · have hP3 := hP2.but b3
      have ll : (0 : Int) < ((zs.map V.str).length : Int) := by rw [List.length_map]; omega
      obtain ⟨v2, hv2, hat2⟩ := atI_mem (xs := zs.map V.str) (Int.emod_nonneg (d + 1 + e) (by omega)) (Int.emod_lt_of_pos (d + 1 + e) ll)
      obtain ⟨y2, hy2, rfl⟩ := List.mem_map.mp hv2
      refine ⟨e, rfl, _, SqL.of hP3.el, ll, _, SqL.of hP3.el, _, hat2, by decide, fun t ht => ?_⟩
      exact q _ _ ⟨⟨w, .str y, [.str y2], true⟩, .tup upd_same (.cons (.str w) (.cons (.str y) (.cons (.str y2) .nil))), ⟨.inr ⟨.inl ⟨e1, y2, rfl, hP3.nm y2 hy2⟩, y, rfl, hP3.nm y hy⟩⟩⟩ (Box.up (p := p) (Box.same (p := p) hp3 (Same.upd ht)) (by omega)) ((b12.trans b3).trans (But.of (Same.upd ht)))
    · refine q _ _ ⟨⟨w, .str y, [], true⟩, .tup upd_same (.cons (.str w) (.cons (.str y) .nil)), ⟨.inr ⟨.inr ⟨?_, rfl⟩, y, rfl, hP2.nm y hy⟩⟩⟩ (Box.up (p := p) (Box.same (p := p) hp2 (Same.upd ht)) (by omega)) (b12.trans (But.of (Same.upd ht)))
      rcases hw2 with h | h | h | h | h
      · exact absurd h e1
      · exact .inl h
      · exact .inr (.inl h)
      · exact .inr (.inr (.inl h))
      · exact .inr (.inr (.inr h))

theorem deep_ok {d : Int} {i : Nat} (h0 : 0 ≤ d) (h : d < 10 ^ (60 * i)) (hi : i < 63) : IntMulOk d (10 ^ Int.toNat 60) := by
  obtain ⟨n, rfl⟩ := Int.eq_ofNat_of_zero_le h0
  have h' : n < 10 ^ (60 * i) := by exact_mod_cast h
  have key : ∀ k, (10 : Nat) ^ k ≤ 2 ^ (4 * k) := fun k => by rw [Nat.pow_mul]; exact Nat.pow_le_pow_left (by decide) k
  have h2 : (n : Int).natAbs < 2 ^ (4 * (60 * i)) := Nat.lt_of_lt_of_le h' (key _)
  have e : (2 : Nat) ^ 20 = 1048576 := by decide
  refine IntMulOk.of_bits (Nat.le_trans (PyProof.Rows.intBits_le h2) (by rw [e]; omega)) (by decide +kernel)
theorem deep_lt {d cell : Int} {i : Nat} (h0 : 0 ≤ d) (h : d < 10 ^ (60 * i)) : (0 ≤ d * 10 ^ Int.toNat 60 + cell % 10 ^ Int.toNat 60 ∧ d * 10 ^ Int.toNat 60 + cell % 10 ^ Int.toNat 60 < 10 ^ (60 * (i + 1))) ∧ d < 10 ^ (60 * (i + 1)) := by
  have hB : (0 : Int) < 10 ^ Int.toNat 60 := big60
  have e : (10 : Int) ^ (60 * (i + 1)) = 10 ^ (60 * i) * 10 ^ Int.toNat 60 := by
    rw [Nat.mul_succ, Int.pow_add]; rfl
  rw [e]
  generalize (10 : Int) ^ Int.toNat 60 = B at hB
  generalize (10 : Int) ^ (60 * i) = A at h
  have r1 := Int.emod_lt_of_pos cell hB
  have r0 := Int.emod_nonneg cell (Int.ne_of_gt hB)
  have m1 : (d + 1) * B ≤ A * B := Int.mul_le_mul_of_nonneg_right (by omega) (by omega)
  have m2 : (d + 1) * B = d * B + B := by rw [Int.add_mul, Int.one_mul]
  have m3 : 0 ≤ d * B := Int.mul_nonneg h0 (by omega)
  have m4 : d * 1 ≤ d * B := Int.mul_le_mul_of_nonneg_left (by omega) h0
  refine ⟨⟨by omega, by omega⟩, by omega⟩

noncomputable def EV (H : Hp) (v : V) : Prop := ∃ e : En, Tr H (eP e) v ∧ EnOk e
theorem EV.kp {H H' : Hp} {v : V} (h : EV H v) (k : KpT H H') : EV H' v := let ⟨e, a, b⟩ := h; ⟨e, a.kp k, b⟩
theorem ev_all {H : Hp} : ∀ {vs : List V}, (∀ v ∈ vs, EV H v) → ∃ es : List En, TrL H (es.map eP) vs ∧ ∀ e ∈ es, EnOk e
  | [], _ => ⟨[], .nil, fun _ h => nomatch h⟩
  | v :: vs, h => by
    obtain ⟨es, h1, h2⟩ := ev_all fun u hu => h u (List.mem_cons_of_mem _ hu)
    obtain ⟨e, h3, h4⟩ := h v List.mem_cons_self
    refine ⟨e :: es, .cons h3 h1, fun x hx => ?_⟩
    rcases List.mem_cons.mp hx with rfl | hx
    · exact h4
    · exact h2 x hx
noncomputable def LsV (H : Hp) (v : V) : Prop := ∃ x vs, v = .ref x ∧ H x = some (.lst vs) ∧ vs.length ≤ 41 ∧ ∀ u ∈ vs, EV H u
theorem LsV.same {H H' : Hp} {v : V} (h : LsV H v) (s : Same H H') : LsV H' v := let ⟨x, vs, a, b, c, d⟩ := h; ⟨x, vs, a, s _ _ b, c, fun u hu => (d u hu).kp s.kt⟩

section
variable {P : Program} {w : World} {K : PySem.W.Frag} {mg : Str → Option Value} {base : Heap} {fs : Nat → Addr} {fds : Nat → FuncData} {tc : Nat → Addr} {u : Nat → Value}
theorem sc_last_deeds : FnScope ["log", "words", "found", "deed", "stands"] ["log", "words"] (defScope s_last_deeds) := ⟨rfl, rfl, rfl, by decide +kernel, rfl, by decide +kernel, by decide +kernel⟩
set_option maxHeartbeats 4000000 in
theorem ok_last_deeds (T : Txt K mg fs fds tc u)  : FnOk P w K mg base CX0 1 (fs 0) (fds 0) ["log", "words"] (spLast w) := by
  refine T.d_last_deeds.F.ok sc_last_deeds (fun vs H Q E h => ?_) (fun cdv A outer s H vs Q E hr h => ?_)
  · obtain ⟨a, b, es, ws, rfl, hL, hb, q⟩ := h
    rfl
  · obtain ⟨a, b, es, ws, rfl, hL, hb, q⟩ := h
    refine ⟨_, (pss_cons (ps_set (i := 2) sc_last_deeds.nd rfl (Or.inl rfl) (pe_nnew w))
      (pss_cons (ps_for PassesOwn.never rfl (pi_tpl K (pv 0)) (pg_tupK (n := 2) K rfl (pgs_cons (pg_name (i := 3) sc_last_deeds.nd rfl (Or.inl rfl)) (pgs_cons (pg_name (i := 4) sc_last_deeds.nd rfl (Or.inl rfl)) pgs_nil))) (pss_one (ps_if (PW.pt (pw_and (pt_val (pv 4)) (pw_and1 (pt_cmpR (inQ K) (pe_ix (ixT K) (pv 3) pe_int (fun _ _ => rfl)) (pv 1) (by rfl))))) (pss_one (ps_nput w hr (pv 2) (pe_ix (ixT K) (pv 3) pe_int (fun _ _ => rfl)) (pv 3) rfl)) pss_nil)))
      (pss_one (ps_ret (pv 2))))), ?_⟩
    obtain ⟨hT, hl, ok⟩ := hL
    obtain ⟨a', vs, ea, ha, hv⟩ := hT.tup'
    cases ea
    have hlv : es.length = vs.length := by rw [← hv.length, List.length_map]
    refine tSeq_i ?_; walk_at "vc0"
    rcases q with ⟨hw, q⟩ | ⟨⟨c, hc1, hc2⟩, q⟩
    · refine .inr fun f hf => ?_
      have fa : ∀ {H1 : Hp} {ob}, Same H H1 → Same H (upd H1 f ob) := fun s1 b2 o2 h2 => by rw [upd_ne (ne_of_none h2 hf)]; exact s1 _ _ h2
      refine tSeq_i ⟨_, rfl, a, rfl, ⟨_, SqT.of (Same.upd hf _ _ ha)⟩, for_tup (K := K) (a := a) (xs := vs) (fun i σ H' => Same H H' ∧ (∃ kvs ep, H' f = some (DN w f kvs ep) ∧ Paired (RL H') (lastE ws (es.take i)) kvs) ∧ ∃ v3 v4, σ = [some (.ref a), some (.ref b), some (.ref f), v3, v4]) ⟨Same.upd hf, ⟨[], 0, upd_same, .nil⟩, _, _, rfl⟩ (fun i σ H' _ ⟨s', _⟩ => (SqT.of ha).same s') ?_ ?_⟩
      · rintro i x σ H1 hx ⟨s1, ⟨kvs, ep, hf1, pr⟩, v3, v4, rfl⟩
        obtain ⟨en, t, d, uu, us, he, rfl, ht, hd, hdd, hu, hr'⟩ := LgT.at_ (hv.kp s1.kt) hx
        walk_at "vc0"
        have hlst : lastE ws (es.take (i + 1)) = if (en.b && ws.contains en.w) = true then putG (lastE ws (es.take i)) en.t en else lastE ws (es.take i) := foldG_take he
        refine ⟨_, SqT.of ht, rfl, _, _, rfl, _, _, rfl, rfl, _, rfl, ?_⟩
        split
        · rename_i hb1
          refine ⟨_, rfl, _, SqT.of hdd, _, at0, _, .inr (SqT.of (s1 _ _ hb)), rfl, flat_strs, ?_⟩
          rw [inV_str]
          split
          · rename_i hw1
            rw [if_pos (by rw [hb1, hw1]; rfl)] at hlst
            rw [hlst]
            have o := ok _ (List.mem_of_getElem? he)
            have hlet : LetP en.t := EnOk.kindL (of_decide_eq_true ((kind_letter _ o).trans (by rw [← hw]; exact hw1))) o
            obtain ⟨k1, ps, e1, e2, e3⟩ := hlet.key
            have hu' := hu
            rw [e1] at hu'
            obtain ⟨b', us', rfl, hb', _⟩ := hu'.tup'
            refine ⟨_, rfl, _, SqT.of hdd, _, atI_nat (j := 1) rfl, .inr ⟨kvs, ep, b', keyPL ps, hf1, RL.ks pr, rfl, by rw [← e2]; exact hu.nk k1, by omega, szt (by have := fold_small hl pr; omega), fun ep' => ⟨fa s1, ⟨_, ⟨_, upd_same⟩, ?_⟩, _, rfl⟩⟩⟩
            exact Paired.mapP (RL.put pr hlet e2.symm hu hd) fun _ _ r => RL.kp (KpT.dn hf1) r
          · rename_i hw1
            rw [if_neg (by rw [Bool.and_eq_true]; exact fun z => hw1 z.2)] at hlst
            rw [hlst]
            exact ⟨s1, ⟨_, ⟨_, hf1⟩, pr⟩, _, rfl⟩
        · rename_i hb1
          rw [if_neg (by rw [Bool.and_eq_true]; exact fun z => hb1 z.1)] at hlst
          rw [hlst]
          exact ⟨s1, ⟨_, ⟨_, hf1⟩, pr⟩, _, rfl⟩
      · rintro σ H1 ⟨s1, ⟨kvs, ep, hf1, pr⟩, v3, v4, rfl⟩
        rw [← hlv, List.take_length] at pr
        exact ⟨_, rfl, q f kvs ep H1 s1 hf1 pr⟩
    · refine .inl fun f hf => ?_
      have fa : ∀ {H1 : Hp} {ob}, Same H H1 → Same H (upd H1 f ob) := fun s1 b2 o2 h2 => by rw [upd_ne (ne_of_none h2 hf)]; exact s1 _ _ h2
      refine tSeq_i ⟨_, rfl, a, rfl, ⟨_, SqT.of (Same.upd hf _ _ ha)⟩, for_tup (K := K) (a := a) (xs := vs) (fun i σ H' => Same H H' ∧ (∃ kvs, IsDK H' f kvs ∧ Paired (RK H') (lastE ws (es.take i)) kvs) ∧ ∃ v3 v4, σ = [some (.ref a), some (.ref b), some (.ref f), v3, v4]) ⟨Same.upd hf, ⟨[], ⟨0, upd_same⟩, .nil⟩, _, _, rfl⟩ (fun i σ H' _ ⟨s', _⟩ => (SqT.of ha).same s') ?_ ?_⟩
      · rintro i x σ H1 hx ⟨s1, ⟨kvs, hf1, pr⟩, v3, v4, rfl⟩
        obtain ⟨en, t, d, uu, us, he, rfl, ht, hd, hdd, hu, hr'⟩ := LgT.at_ (hv.kp s1.kt) hx
        walk_at "vc0"
        have hlst : lastE ws (es.take (i + 1)) = if (en.b && ws.contains en.w) = true then putG (lastE ws (es.take i)) en.t en else lastE ws (es.take i) := foldG_take he
        refine ⟨_, SqT.of ht, rfl, _, _, rfl, _, _, rfl, rfl, _, rfl, ?_⟩
        split
        · rename_i hb1
          refine ⟨_, rfl, _, SqT.of hdd, _, at0, _, .inr (SqT.of (s1 _ _ hb)), rfl, flat_strs, ?_⟩
          rw [inV_str]
          split
          · rename_i hw1
            rw [if_pos (by rw [hb1, hw1]; rfl)] at hlst
            rw [hlst]
            have o := ok _ (List.mem_of_getElem? he)
            obtain ⟨n, hn, _⟩ := EnOk.kindN (fun z => hc1 ((of_decide_eq_true ((hc2 _ o).trans hw1)).symm.trans z)) o
            have hu' := hu
            rw [hn] at hu'
            cases hu'
            refine ⟨_, rfl, _, SqT.of hdd, _, atI_nat (j := 1) rfl, .inl (.inl ⟨kvs, .inr n, hf1, rfl, szt (by have := fold_small hl pr; omega), fun ep' => ⟨fa s1, ⟨_, ⟨_, upd_same⟩, ?_⟩, _, rfl⟩⟩)⟩
            exact Paired.mapP (RK.put pr hn hd) fun _ _ r => RK.kp (KpT.dk hf1) r
          · rename_i hw1
            rw [if_neg (by rw [Bool.and_eq_true]; exact fun z => hw1 z.2)] at hlst
            rw [hlst]
            exact ⟨s1, ⟨_, hf1, pr⟩, _, rfl⟩
        · rename_i hb1
          rw [if_neg (by rw [Bool.and_eq_true]; exact fun z => hb1 z.1)] at hlst
          rw [hlst]
          exact ⟨s1, ⟨_, hf1, pr⟩, _, rfl⟩
      · rintro σ H1 ⟨s1, ⟨kvs, hf1, pr⟩, v3, v4, rfl⟩
        rw [← hlv, List.take_length] at pr
        exact ⟨_, rfl, q f kvs H1 s1 hf1 pr⟩
theorem sc_law_start : FnScope ["_law_script", "_law_deep", "_law_mixed", "_law_k", "_law_cell"] ["_law_script"] (defScope s_law_start) := ⟨rfl, rfl, rfl, by decide +kernel, rfl, by decide +kernel, by decide +kernel⟩
set_option maxHeartbeats 4000000 in
theorem ok_law_start (T : Txt K mg fs fds tc u)  : FnOk P w K mg base CX0 1 (fs 4) (fds 4) ["_law_script"] (spStart K) := by
  refine T.d_law_start.F.ok sc_law_start (fun vs H Q E h => ?_) (fun cdv A outer s H vs Q E hr h => ?_)
  · obtain ⟨a, ns, rfl, hS, hl, q⟩ := h
    rfl
  · obtain ⟨a, ns, rfl, hS, hl, q⟩ := h
    refine ⟨_, (pss_cons (ps_asg (pe_tup (pa_cons pe_int (pa_cons pe_int pa_nil))) (pg_tupK (n := 2) K rfl (pgs_cons (pg_name (i := 1) sc_law_start.nd rfl (Or.inl rfl)) (pgs_cons (pg_name (i := 2) sc_law_start.nd rfl (Or.inl rfl)) pgs_nil))))
      (pss_cons (ps_for PassesOwn.never rfl (pi_enmA K rfl T.z_enumerate (pa_cons (pe_slice (slL K) (pv 0) po_none (po_some pe_int)) pa_nil)) (pg_tupK (n := 2) K rfl (pgs_cons (pg_name (i := 3) sc_law_start.nd rfl (Or.inl rfl)) (pgs_cons (pg_name (i := 4) sc_law_start.nd rfl (Or.inl rfl)) pgs_nil))) (pss_cons (ps_if (pt_cmpR op_ge (pv 4) (pe_op op_powB pe_int pe_int) (nomark _)) (pss_one (ps_set (i := 1) sc_law_start.nd rfl (Or.inl rfl) (pe_op op_add (pe_op op_mulB (pv 1) (pe_op op_powB pe_int pe_int)) (pe_op op_mod (pv 4) (pe_op op_powB pe_int pe_int))))) pss_nil)
      (pss_one (ps_set (i := 2) sc_law_start.nd rfl (Or.inl rfl) (pe_op op_mod (pe_op op_add (pe_op op_add (pe_op op_add (pe_op op_mul (pv 2) pe_int) (pe_op op_mod (pv 4) pe_int)) (pe_op op_mul pe_int (pv 3))) pe_int) pe_int)))))
      (pss_one (ps_ret (pe_lst (pa_cons (pv 1) (pa_cons (pv 2) (pa_cons pe_int pa_nil)))))))), ?_⟩
    refine tSeq_i ?_; walk_at "vc0"
    refine ⟨by decide, fun p hp => ⟨_, SqT.of upd_same, rfl, _, _, rfl, _, _, rfl, rfl, ?_⟩⟩
    have s0 := Same.upd (o := .tup [V.int 0, V.int 17]) hp
    obtain ⟨ms, hms, hml⟩ : ∃ ms : List Int, cutV (ns.map V.int) none (some 63) = ms.map V.int ∧ ms.length ≤ 63 := by
      have hlen := cutV_length (ns.map V.int) none (some 63)
      rw [List.length_map] at hlen
      have e : cutV (ns.map V.int) none (some 63) = ((ns.drop (HT.sIx (ns.map V.int).length 0 none)).take (HT.sIx (ns.map V.int).length (ns.map V.int).length (some 63) - HT.sIx (ns.map V.int).length 0 none)).map V.int := by
        unfold cutV
        rw [List.map_take, List.map_drop]
      refine ⟨_, e, ?_⟩
      rw [e, List.length_map] at hlen
      omega
    refine tSeq_i ⟨_, rfl, 63, rfl, a, _, rfl, hS.same s0, fun l hnl => ?_⟩
    rw [hms]
    have s1 := Same.upd (o := .lst (ms.map V.int)) hnl
    have el : upd (upd H p (.tup [V.int 0, V.int 17])) l (.lst (ms.map V.int)) l = some (.lst (ms.map V.int)) := upd_same
    generalize upd (upd H p (.tup [V.int 0, V.int 17])) l (.lst (ms.map V.int)) = G at s1 el
    refine .inr ⟨l, _, rfl, SqL.of el, for_enumL (K := K) (a := l) (xs := ms.map V.int) (fun i σ H' => Same G H' ∧ ∃ (d mx : Int) (v3 v4 : Option V), 0 ≤ d ∧ d < 10 ^ (60 * i) ∧ 0 ≤ mx ∧ mx < 2305843009213693951 ∧ σ = [some (.ref a), some (.int d), some (.int mx), v3, v4]) ⟨Same.refl _, 0, 17, _, _, by decide, by decide, by decide, by decide, rfl⟩ (fun i σ H' _ ⟨s', _⟩ => SqL.of (s' _ _ el)) ?_ ?_⟩
    · rintro i x t σ H1 hx ht ⟨s2, d, mx, v3, v4, d0, d1, x0, x1, rfl⟩
      have hi : i < 63 := by
        have := (List.getElem?_eq_some_iff.mp hx).1
        rw [List.length_map] at this
        omega
      rw [List.getElem?_map] at hx
      obtain ⟨cell, hc, rfl⟩ := Option.map_eq_some_iff.mp hx
      have s3 := Same.upd (o := .tup [V.int i, V.int cell]) ht
      walk_at "vc0"
      refine ⟨_, SqT.of upd_same, rfl, _, _, rfl, _, _, rfl, rfl, ?_⟩
      have s23 := s2.trans s3
      generalize upd H1 t (.tup [V.int i, V.int cell]) = G1 at s23
      refine tSeq_i ?_; walk_at "vc0"
      have dl := deep_lt (cell := cell) d0 d1
      have m0 : 0 ≤ (mx * 40993 + cell % 2305843009213693907 + 1009 * (i : Int) + 7) % 2305843009213693951 := Int.emod_nonneg _ (by decide)
      have m1 : (mx * 40993 + cell % 2305843009213693907 + 1009 * (i : Int) + 7) % 2305843009213693951 < 2305843009213693951 := Int.emod_lt_of_pos _ (by decide)
      refine ⟨by decide, by decide +kernel, iteD (fun _ => ⟨by decide, by decide +kernel, deep_ok d0 d1 hi, by decide, by decide +kernel, big60, .inr ⟨by decide, by decide⟩, by decide, .inl ⟨by decide, by decide⟩, by decide, s23, _, dl.1.1, dl.1.2, _, m0, m1, rfl, rfl, _, rfl⟩) (fun _ => ⟨.inr ⟨by decide, by decide⟩, by decide, .inl ⟨by decide, by decide⟩, by decide, s23, _, d0, dl.2, _, m0, m1, rfl, rfl, _, rfl⟩)⟩
    · rintro σ H1 ⟨s2, d, mx, v3, v4, d0, d1, x0, x1, rfl⟩
      walk_at "vc0"
      exact ⟨by decide, fun r hr' => q r _ (by
        cases e : H r with
        | none => rfl
        | some o => rw [s2 _ _ (s1 _ _ (s0 _ _ e))] at hr'; cases hr') ⟨d, mx, 0, upd_same, d0, x0, x1, by decide, by decide⟩ ((((s0.trans s1).trans s2)).trans (Same.upd hr'))⟩
theorem sc_law_take : FnScope ["_law_state", "_law_many", "_law_digit", "_law_once"] ["_law_state", "_law_many"] (defScope s_law_take) := ⟨rfl, rfl, rfl, by decide +kernel, rfl, by decide +kernel, by decide +kernel⟩
set_option maxHeartbeats 4000000 in
theorem ok_law_take (T : Txt K mg fs fds tc u)  : FnOk P w K mg base CX0 1 (fs 5) (fds 5) ["_law_state", "_law_many"] spTk := by
  refine T.d_law_take.F.ok sc_law_take (fun vs H Q E h => ?_) (fun cdv A outer s H vs Q E hr h => ?_)
  · obtain ⟨p, n, c, rfl, hp, hc, hn0, hn, q⟩ := h
    rfl
  · obtain ⟨p, n, c, rfl, hp, hc, hn0, hn, q⟩ := h
    refine ⟨_, (pss_cons (ps_if (pt_cmpR op_gt (pe_ix (ixL K) (pv 0) pe_int (fun _ _ => rfl)) pe_int (nomark _)) (pss_cons (ps_set (i := 2) sc_law_take.nd rfl (Or.inl rfl) (pe_op op_mod (pe_ix (ixL K) (pv 0) pe_int (fun _ _ => rfl)) (pv 1)))
      (pss_cons (ps_asg (pe_op op_fdiv (pe_ix (ixL K) (pv 0) pe_int (fun _ _ => rfl)) (pv 1)) (pg_sub (pv 0) pe_int set_list))
      (pss_one (ps_ret (pv 2))))) pss_nil)
      (pss_cons (ps_asg (pe_op op_add (pe_ix (ixL K) (pv 0) pe_int (fun _ _ => rfl)) pe_int) (pg_sub (pv 0) pe_int set_list))
      (pss_cons (ps_set (i := 3) sc_law_take.nd rfl (Or.inl rfl) (pe_op op_mod (pe_op op_add (pe_op op_add (pe_op op_mul (pe_ix (ixL K) (pv 0) pe_int (fun _ _ => rfl)) pe_int) (pe_op op_mul (pe_op op_mul pe_int (pe_ix (ixL K) (pv 0) pe_int (fun _ _ => rfl))) (pe_ix (ixL K) (pv 0) pe_int (fun _ _ => rfl)))) pe_int) pe_int))
      (pss_cons (ps_set (i := 3) sc_law_take.nd rfl (Or.inl rfl) (pe_op op_mod (pe_op op_mul (pv 3) (pe_op op_add (pe_op op_mod (pv 3) pe_int) (pe_op op_mul pe_int (pe_ix (ixL K) (pv 0) pe_int (fun _ _ => rfl))))) pe_int))
      (pss_one (ps_ret (pe_op op_mod (pe_op op_add (pe_op op_fdiv (pv 3) pe_int) (pe_op op_fdiv (pv 3) pe_int)) (pv 1)))))))), ?_⟩
    obtain ⟨a, b, i, he, ha, hb0, hb, hi0, hi⟩ := hp
    refine tSeq_i ?_; walk_at "vc0"
    refine ⟨_, SqL.of he, _, rfl, _, rfl, ?_⟩
    refine ite2 (fun _ => ?_) (fun _ => ?_)
    · refine tSeq_i ?_; walk_at "vc0"
      refine ⟨_, SqL.of he, _, rfl, _, rfl, hn0, ?_⟩
      refine tSeq_i ?_; walk_at "vc0"
      refine ⟨_, SqL.of he, _, rfl, _, rfl, ⟨hn0, hn⟩, _, he, _, rfl, ?_⟩
      exact q _ _ (Int.emod_nonneg _ (by omega)) (Int.emod_lt_of_pos _ hn0) ⟨_, _, _, upd_same, Int.ediv_nonneg ha (by omega), hb0, hb, hi0, by omega⟩ But.upd
    · refine tSeq_i ?_; walk_at "vc0"
      refine ⟨_, SqL.of he, _, rfl, _, rfl, _, he, _, rfl, ?_⟩
      have hu : upd H p (HO.lst ([V.int a, V.int b, V.int i].set (Int.toNat 2) (V.int (i + 1)))) p = some (.lst [.int a, .int b, .int (i + 1)]) := upd_same
      refine tSeq_i ?_; walk_at "vc0"
      refine ⟨_, SqL.of hu, _, rfl, _, rfl, .inl ⟨by omega, by omega⟩, _, SqL.of hu, _, rfl, _, rfl, .inl ⟨by decide, by decide⟩, _, SqL.of hu, _, rfl, _, rfl, .inr ⟨by omega, by omega⟩, by decide, ?_⟩
      have o0 : 0 ≤ (b * 39373 + 65537 * (i + 1) * (i + 1) + 101) % 2305843009213693921 := Int.emod_nonneg _ (by decide)
      have o1 : (b * 39373 + 65537 * (i + 1) * (i + 1) + 101) % 2305843009213693921 < 2305843009213693921 := Int.emod_lt_of_pos _ (by decide)
      generalize (b * 39373 + 65537 * (i + 1) * (i + 1) + 101) % 2305843009213693921 = O at o0 o1
      refine tSeq_i ?_; walk_at "vc0"
      refine ⟨by decide, _, SqL.of hu, _, rfl, _, rfl, .inl ⟨by decide, by decide⟩, .inl ⟨by omega, by omega⟩, by decide, ⟨by decide, by decide⟩, ⟨by decide, by decide⟩, hn0, ?_⟩
      exact q _ _ (Int.emod_nonneg _ (by omega)) (Int.emod_lt_of_pos _ hn0) ⟨_, _, _, hu, ha, hb0, hb, by omega, by omega⟩ But.upd
theorem sc_law_said : FnScope ["_law_log", "_law_said_here", "_law_deed_here", "_law_stands", "_law_kind"] ["_law_log"] (defScope s_law_said) := ⟨rfl, rfl, rfl, by decide +kernel, rfl, by decide +kernel, by decide +kernel⟩
set_option maxHeartbeats 4000000 in
theorem ok_law_said (T : Txt K mg fs fds tc u)  : FnOk P w K mg base CX0 1 (fs 12) (fds 12) ["_law_log"] (spSaid w) := by
  refine T.d_law_said.F.ok sc_law_said (fun vs H Q E h => ?_) (fun cdv A outer s H vs Q E hr h => ?_)
  · obtain ⟨a, es, rfl, hL, q⟩ := h
    rfl
  · obtain ⟨a, es, rfl, hL, q⟩ := h
    refine ⟨_, (pss_cons (ps_set (i := 1) sc_law_said.nd rfl (Or.inl rfl) (pe_nnew w))
      (pss_cons (ps_for PassesOwn.never rfl (pi_tpl K (pv 0)) (pg_tupK (n := 2) K rfl (pgs_cons (pg_name (i := 2) sc_law_said.nd rfl (Or.inl rfl)) (pgs_cons (pg_name (i := 3) sc_law_said.nd rfl (Or.inl rfl)) pgs_nil))) (pss_cons (ps_set (i := 4) sc_law_said.nd rfl (Or.inl rfl) (pe_ifExp (pt_cmpR (inQ K) (pe_ix (ixT K) (pv 2) pe_int (fun _ _ => rfl)) (pe_tup (pa_cons pe_str (pa_cons pe_str pa_nil))) (by rfl)) pe_str (pe_ifExp (pt_cmpR (inQ K) (pe_ix (ixT K) (pv 2) pe_int (fun _ _ => rfl)) (pe_tup (pa_cons pe_str (pa_cons pe_str pa_nil))) (by rfl)) pe_str pe_str)))
      (pss_one (ps_if (pt_val (pv 3)) (pss_one (ps_nput w hr (pv 1) (pe_tup (pa_cons (pv 4) (pa_cons (pe_ix (ixT K) (pv 2) pe_int (fun _ _ => rfl)) pa_nil))) (pv 2) rfl)) pss_nil))))
      (pss_one (ps_ret (pv 1))))), ?_⟩
    obtain ⟨hT, hl, ok⟩ := hL
    obtain ⟨a', vs, ea, ha, hv⟩ := hT.tup'
    cases ea
    have hlv : es.length = vs.length := by rw [← hv.length, List.length_map]
    refine tSeq_i ?_; walk_at "vc0"
    refine .inr fun f hf => ?_
    have fa : ∀ {H1 : Hp} {ob}, Same H H1 → Same H (upd H1 f ob) := fun s1 b2 o2 h2 => by rw [upd_ne (ne_of_none h2 hf)]; exact s1 _ _ h2
    refine tSeq_i ⟨_, rfl, a, rfl, ⟨_, SqT.of (Same.upd hf _ _ ha)⟩, for_tup (K := K) (a := a) (xs := vs) (fun i σ H' => Same H H' ∧ (∃ kvs ep, H' f = some (DN w f kvs ep) ∧ Paired (RS H') (saidE (es.take i)) kvs) ∧ ∃ v3 v4 v5, σ = [some (.ref a), some (.ref f), v3, v4, v5]) ⟨Same.upd hf, ⟨[], 0, upd_same, .nil⟩, _, _, _, rfl⟩ (fun i σ H' _ ⟨s', _⟩ => (SqT.of ha).same s') ?_ ?_⟩
    · rintro i x σ H1 hx ⟨s1, ⟨kvs, ep, hf1, pr⟩, v3, v4, v5, rfl⟩
      obtain ⟨en, t, d, uu, us, he, rfl, ht, hd, hdd, hu, hr'⟩ := LgT.at_ (hv.kp s1.kt) hx
      walk_at "vc0"
      refine ⟨_, SqT.of ht, rfl, _, _, rfl, _, _, rfl, rfl, ?_⟩
      have hlst : saidE (es.take (i + 1)) = if en.b = true then putG (saidE (es.take i)) (kindE en, en.t) en else saidE (es.take i) := foldG_take he
      have o := ok _ (List.mem_of_getElem? he)
      have rest : ∀ (G : Hp) (kd : Str), kd = kindE en → Same H1 G → (tIfS (tB (tVar 3)) (sNPut w (tVar 1) (tTup (tCons (tVar 4) (tCons (tOp (rIxT K) (tVar 2) (tC (V.int 1))) tNil))) (tVar 2)) tNext)
          { nx := fun σ H' => Same H H' ∧ (∃ kvs, (∃ x, H' f = some (DN w f kvs x)) ∧ Paired (RS H') (saidE (List.take (i + 1) es)) kvs) ∧ ∃ v3 v4 v5, σ = [some (V.ref a), some (V.ref f), v3, v4, v5],
            rt := Q, bk := tRet (tVar 1) { nx := fun x H' => Q V.non H', rt := Q },
            ct := fun σ H' => Same H H' ∧ (∃ kvs, (∃ x, H' f = some (DN w f kvs x)) ∧ Paired (RS H') (saidE (List.take (i + 1) es)) kvs) ∧ ∃ v3 v4 v5, σ = [some (V.ref a), some (V.ref f), v3, v4, v5] }
          [some (V.ref a), some (V.ref f), some (V.ref d), some (V.bl en.b), some (V.str kd)] G := by
        rintro G kd rfl sG
        walk_at "vc0"
        split
        · rename_i hb1
          rw [if_pos hb1] at hlst
          rw [hlst]
          refine ⟨_, SqT.of (sG _ _ hdd), _, atI_nat (j := 1) rfl, by decide, fun t2 ht2 => ?_⟩
          have s2 := Same.upd (o := .tup [V.str (kindE en), uu]) ht2
          have sA := sG.trans s2
          have hf2 := sA _ _ hf1
          have tk : Tr (upd G t2 (.tup [V.str (kindE en), uu])) (.tup [.str (kindE en), en.t]) (.ref t2) := .tup upd_same (.cons (.str _) (.cons (hu.kp sA.kt) .nil))
          have pr2 := Paired.mapP pr fun _ _ r => RS.kp sA.kt r
          obtain ⟨k1, k2⟩ := o.keys
          refine .inr ⟨kvs, ep, t2, [.k (.inr (kindE en)), keyP en.t], hf2, RS.ks pr2, rfl, ?_, ?_, szt (by have := fold_small hl pr; omega), fun ep' => ⟨fa (s1.trans sA), ⟨_, ⟨_, upd_same⟩, ?_⟩, _, rfl⟩⟩
          · have := tk.nk (by simp [keyed, keyedL, k1])
            simpa [keyP, keyPL] using this
          · simp [dpL, dpN]; omega
          · exact Paired.mapP (RS.put pr2 k1 k2 tk (hd.kp sA.kt)) fun _ _ r => RS.kp (KpT.dn hf2) r
        · rename_i hb1
          rw [if_neg hb1] at hlst
          rw [hlst]
          exact ⟨s1.trans sG, ⟨_, ⟨_, sG _ _ hf1⟩, Paired.mapP pr fun _ _ r => RS.kp sG.kt r⟩, _, rfl⟩
      refine tSeq_i ?_
      walk_at "vc1"
      refine ⟨_, SqT.of hdd, _, at0, by decide, fun p hp => ⟨_, .inr (SqT.of upd_same), rfl, rfl, ?_⟩⟩
      have s2 := Same.upd (o := .tup [V.str (Str.ofString "come"), V.str (Str.ofString "go")]) hp
      rw [show inV (V.str en.w) [V.str (Str.ofString "come"), V.str (Str.ofString "go")] = [sCome, sGo].contains en.w from inV_str (row := [sCome, sGo])]
      split
      · rename_i h1
        exact rest _ _ (by unfold kindE; rw [if_pos h1]) s2
      · rename_i h1
        refine ⟨_, SqT.of (s2 _ _ hdd), _, at0, by decide, fun p2 hp2 => ⟨_, .inr (SqT.of upd_same), rfl, rfl, ?_⟩⟩
        have s3 := Same.upd (o := .tup [V.str (Str.ofString "read"), V.str (Str.ofString "unread")]) hp2
        rw [show inV (V.str en.w) [V.str (Str.ofString "read"), V.str (Str.ofString "unread")] = [sRead, sUnread].contains en.w from inV_str (row := [sRead, sUnread])]
        split
        · rename_i h2
          exact rest _ _ (by unfold kindE; rw [if_neg h1, if_pos h2]) (s2.trans s3)
        · rename_i h2
          exact rest _ _ (by unfold kindE; rw [if_neg h1, if_neg h2]) (s2.trans s3)
    · rintro σ H1 ⟨s1, ⟨kvs, ep, hf1, pr⟩, v3, v4, v5, rfl⟩
      rw [← hlv, List.take_length] at pr
      exact ⟨_, rfl, q f kvs ep H1 s1 hf1 pr⟩
theorem sc_pack_of : FnScope ["log", "last"] ["log"] (defScope s_pack_of) := ⟨rfl, rfl, rfl, by decide +kernel, rfl, by decide +kernel, by decide +kernel⟩
set_option maxHeartbeats 4000000 in
theorem ok_pack_of (T : Txt K mg fs fds tc u) (G_last_deeds : FnOk P w K mg base CX0 1 (fs 0) (fds 0) ["log", "words"] (spLast w)) : FnOk P w K mg base CX0 2 (fs 1) (fds 1) ["log"] (spTold packT) := by
  refine T.d_pack_of.F.ok sc_pack_of (fun vs H Q E h => ?_) (fun cdv A outer s H vs Q E hr h => ?_)
  · obtain ⟨a, es, rfl, hL, q⟩ := h
    rfl
  · obtain ⟨a, es, rfl, hL, q⟩ := h
    refine ⟨_, (pss_cons (ps_set (i := 1) sc_pack_of.nd rfl (Or.inr rfl) (pe_fn T.d_last_deeds G_last_deeds hr (by decide) rfl (pa_cons (pv 0) (pa_cons (pe_tup (pa_cons pe_str (pa_cons pe_str pa_nil))) pa_nil))))
      (pss_one (ps_ret (pe_callTy (tupL K) (by rfl) T.z_tuple bt_tuple (pa_cons (pe_callB (sortQ K hr) (by rfl) T.z_sorted bt_sorted (pa_cons (pe_lc ["letter", "last"] 1 [1] ["log", "last"] (defScope s_pack_of) rfl rfl rfl (pi_nk w (pv 1)) (by decide +kernel) (fun _ => (pg_name (i := 0) (show (["letter", "last"] : List Str).Nodup by decide +kernel) rfl (Or.inl rfl))) (fun _ => (pts_one (pt_cmpR op_eq (pe_ix (ixT K) (pe_nget w hr (pv 1) (pv 0) (fun _ _ => rfl)) pe_int (fun _ _ => rfl)) pe_str (nomark _)))) (fun _ => (pv 0))) pa_nil)) pa_nil))))), ?_⟩
    refine tSeq_i ?_; walk_at "vc0"
    refine ⟨by decide, fun p hp => ?_⟩
    have s0 := Same.upd (o := .tup [V.str (Str.ofString "come"), V.str (Str.ofString "go")]) hp
    refine ⟨a, p, es, [sCome, sGo], rfl, hL.kp s0.kt, upd_same, .inl ⟨rfl, fun f kvs ep H1 s1 hf pr => ?_⟩⟩
    obtain ⟨_, hl, ok⟩ := hL
    have lk : kvs.length ≤ 41 := by rw [← Paired.length pr]; exact last_len hl
    refine ⟨_, rfl, f, kvs, ep, rfl, hf, fun l hnl => comp_dn hf pr (fun x => isW sCome x.2) (fun G x v => Tr G x.1 v) (fun σ => ∃ o, σ = [o, some (V.ref f)]) ⟨_, rfl⟩ hnl (szt (by omega)) (fun _ _ _ _ k r => r.kp k) ?_ ?_⟩
    · rintro x kv σ H2 ys N hx hkv r0 ⟨o, rfl⟩ s2 hl2 hz n1 n2
      obtain ⟨d, u, us, ed, hd, hu, _⟩ := dP_at (r0.kp s2.kt).2.2.2
      unfold turnOf
      walk_at "vc0"
      refine ⟨_, RL.get hf pr s2 hkv, _, ed, _, SqT.of hd, _, at0, rfl, iteD (fun e1 => ⟨_, hl2, hz, n2 (beq_iff_eq.mpr (V.str.inj e1)) _ _ _ ⟨_, rfl⟩ (Same.refl _) (r0.kp s2.kt).2.2.1⟩) (fun e1 => n1 ?_ _ ⟨_, rfl⟩)⟩
      exact beq_eq_false_iff_ne.mpr fun z => e1 (congrArg V.str z)
    · intro H2 ys s2 py hl2
      have tl := TrL.paired (f := fun x : Mr.PV × En => x.1) py
      obtain ⟨c1, c2⟩ := let_cmp (pack_let (es := es) ok)
      refine ⟨l, rfl, ys, SqL.of hl2, _, tl, ?_, c2, c1, fun m zs hzs hm => ⟨zs, SqL.of upd_same, fun t ht => q _ _ (((s0.trans s1).trans s2).trans ((Same.upd hm).trans (Same.upd ht))) (.tup upd_same (hzs.kp ((Same.upd hm).trans (Same.upd ht)).kt))⟩⟩
      have e1 := Paired.length py
      have e2 := List.length_filter_le (fun x : Mr.PV × En => isW sCome x.2) (lastE [sCome, sGo] es)
      have e3 := last_len (ws := [sCome, sGo]) hl
      omega
theorem sc_marks_of : FnScope ["log", "last", "held"] ["log"] (defScope s_marks_of) := ⟨rfl, rfl, rfl, by decide +kernel, rfl, by decide +kernel, by decide +kernel⟩
set_option maxHeartbeats 4000000 in
theorem ok_marks_of (T : Txt K mg fs fds tc u) (G_last_deeds : FnOk P w K mg base CX0 1 (fs 0) (fds 0) ["log", "words"] (spLast w)) : FnOk P w K mg base CX0 2 (fs 2) (fds 2) ["log"] (spTold marksT) := by
  refine T.d_marks_of.F.ok sc_marks_of (fun vs H Q E h => ?_) (fun cdv A outer s H vs Q E hr h => ?_)
  · obtain ⟨a, es, rfl, hL, q⟩ := h
    rfl
  · obtain ⟨a, es, rfl, hL, q⟩ := h
    refine ⟨_, (pss_cons (ps_set (i := 1) sc_marks_of.nd rfl (Or.inr rfl) (pe_fn T.d_last_deeds G_last_deeds hr (by decide) rfl (pa_cons (pv 0) (pa_cons (pe_tup (pa_cons pe_str (pa_cons pe_str (pa_cons pe_str pa_nil)))) pa_nil))))
      (pss_cons (ps_setLC (i := 2) ["name", "last"] 1 [1] ["log", "last", "held"] (defScope s_marks_of) rfl rfl rfl sc_marks_of.nd rfl rfl (pi_lst K (pe_callB sortD (by rfl) T.z_sorted bt_sorted (pa_cons (pv 1) pa_nil))) (by decide +kernel) (fun _ => (pg_name (i := 0) (show (["name", "last"] : List Str).Nodup by decide +kernel) rfl (Or.inl rfl))) (fun _ => (pts_one (pt_cmpR op_ne (pe_ix (ixT K) (pe_nget w hr (pv 1) (pv 0) (fun _ _ => rfl)) pe_int (fun _ _ => rfl)) pe_str (nomark _)))) (fun _ => (pv 0)))
      (pss_one (ps_ret (pe_callTy (tupL K) (by rfl) T.z_tuple bt_tuple (pa_cons (pe_lc ["name", "last"] 1 [1] ["log", "last", "held"] (defScope s_marks_of) rfl rfl rfl (pi_lst K (pv 2)) (by decide +kernel) (fun _ => (pg_name (i := 0) (show (["name", "last"] : List Str).Nodup by decide +kernel) rfl (Or.inl rfl))) (fun _ => pts_nil) (fun _ => (pe_tup (pa_cons (pv 0) (pa_cons (pe_ifExp (pt_cmpR op_eq (pe_ix (ixT K) (pe_nget w hr (pv 1) (pv 0) (fun _ _ => rfl)) pe_int (fun _ _ => rfl)) pe_str (nomark _)) (pe_ix (ixT K) (pe_nget w hr (pv 1) (pv 0) (fun _ _ => rfl)) pe_int (fun _ _ => rfl)) pe_non) pa_nil))))) pa_nil)))))), ?_⟩
    refine tSeq_i ?_; walk_at "vc0"
    refine ⟨by decide, fun p hp => ?_⟩
    have s0 := Same.upd (o := .tup [V.str (Str.ofString "join"), V.str (Str.ofString "split"), V.str (Str.ofString "free")]) hp
    refine ⟨a, p, es, [sJoin, sSplit, sFree], rfl, hL.kp s0.kt, upd_same, .inr ⟨⟨sHand, by decide +kernel, kind_hand⟩, fun f kvs H1 s1 hf pr => ?_⟩⟩
    obtain ⟨_, hl, ok⟩ := hL
    have nm := last_nm (es := es) ok kind_hand (by decide +kernel)
    have ln : (names (lastE [sJoin, sSplit, sFree] es)).length ≤ 41 := by unfold names; rw [List.length_map]; exact last_len hl
    refine tSeq_i ?_
    refine ⟨_, rfl, f, kvs, names (lastE [sJoin, sSplit, sFree] es), rfl, hf.rd, RK.keys pr, by omega, fun g out h1 h2 hg => ⟨g, rfl, ⟨_, SqL.of upd_same⟩, fun l hnl => ?_⟩⟩
    have eo : out = Mr.sortP (names (lastE [sJoin, sSplit, sFree] es)) := (Mr.sortP_eq h1 h2).symm
    have sg := Same.upd (o := .lst (out.map V.str)) hg
    refine comp_strs (K := K) (SqL.of upd_same) (fun n => notF (lkE (lastE [sJoin, sSplit, sFree] es) n)) (fun G n v => v = .str n) (fun σ => ∃ o, σ = [o, some (V.ref f)]) ⟨_, rfl⟩ hnl (szt (by rw [h1.length_eq]; omega)) (fun _ _ _ _ k r => r) ?_ ?_
    · rintro n σ H2 ys N hn ⟨o, rfl⟩ s2 hl2 hz n1 n2
      obtain ⟨v, hv, hv2⟩ := RK.get (w := w) hf pr nm (sg.trans s2) (h1.mem_iff.mp hn)
      obtain ⟨d, u, us, ed, hd, hu, _⟩ := dP_at hv2
      unfold turnOf
      walk_at "vc0"
      refine ⟨_, hv, _, ed, _, SqT.of hd, _, at0, rfl, ?_⟩
      by_cases e1 : (lkE (lastE [sJoin, sSplit, sFree] es) n).w = sFree
      · rw [decide_eq_true (congrArg V.str e1)]
        refine iteF (n1 ?_ _ ⟨_, rfl⟩)
        unfold notF isW
        rw [e1]; decide +kernel
      · rw [decide_eq_false fun z => e1 (V.str.inj z)]
        refine iteT ⟨_, hl2, hz, n2 ?_ _ _ _ ⟨_, rfl⟩ (Same.refl _) rfl⟩
        unfold notF isW
        rw [beq_eq_false_iff_ne.mpr e1]; rfl
    · intro H2 ys s2 py hl2
      rw [Paired.eqMap py] at hl2
      walk_at "vc0"
      refine ⟨_, rfl, l, rfl, ⟨_, SqL.of hl2⟩, fun m hm => comp_strs (K := K) (SqL.of hl2) (fun _ => true) (fun G n v => Tr G (.tup [.str n, r0 (lkE (lastE [sJoin, sSplit, sFree] es) n)]) v) (fun σ => ∃ o, σ = [o, some (V.ref f)]) ⟨_, rfl⟩ hm (szt (Nat.lt_of_le_of_lt (List.length_filter_le _ _) (by rw [h1.length_eq]; omega))) (fun _ _ _ _ k r => r.kp k) ?_ ?_⟩
      · rintro n σ H3 zs N hn ⟨o, rfl⟩ s3 hl3 hz n1 n2
        have hn' := h1.mem_iff.mp (List.mem_filter.mp hn).1
        obtain ⟨v, hv, hv2⟩ := RK.get (w := w) hf pr nm ((sg.trans s2).trans s3) hn'
        obtain ⟨d, u, us, ed, hd, hu, hus⟩ := dP_at hv2
        unfold names at hn'
        obtain ⟨x, hx, ex⟩ := List.mem_map.mp hn'
        have elk : lkE (lastE [sJoin, sSplit, sFree] es) n = x.2 := by rw [← ex]; exact nm.lk hx
        have o := ok _ (foldG_mem _ _ es x hx).1
        unfold turnOf
        walk_at "vc2"
        refine ⟨_, hv, _, ed, _, SqT.of hd, _, at0, rfl, iteD (fun e1 => ?_) (fun e1 => ?_)⟩
        · have e1 := V.str.inj e1
          have er : ∃ o, x.2.r = [.str o] := by
            rw [elk] at e1
            rcases o.ok with ⟨h | h, _⟩ | ⟨⟨_, o, h, _⟩ | ⟨h | h | h | h, _⟩, _⟩
            · rw [e1] at h; exact absurd h (by decide +kernel)
            · rw [e1] at h; exact absurd h (by decide +kernel)
            · exact ⟨o, h⟩
            · rw [e1] at h; exact absurd h (by decide +kernel)
            · rw [e1] at h; exact absurd h (by decide +kernel)
            · rw [e1] at h; exact absurd h (by decide +kernel)
            · rw [e1] at h; exact absurd h (by decide +kernel)
          obtain ⟨o', er⟩ := er
          have e0 : r0 (lkE (lastE [sJoin, sSplit, sFree] es) n) = .str o' := by
            unfold r0 isW
            rw [if_pos (beq_iff_eq.mpr e1), elk, er]; rfl
          rw [elk, er] at hus
          cases hus with
          | cons q1 q2 =>
            cases q1; cases q2
            refine ⟨_, hv, _, ed, _, SqT.of hd, _, atI_nat (j := 2) rfl, by decide, fun t ht => ⟨_, Same.upd ht _ _ hl3, hz, n2 rfl _ _ _ ⟨_, rfl⟩ (Same.upd ht) ?_⟩⟩
            rw [e0]
            exact .tup upd_same (.cons (.str n) (.cons (.str o') .nil))
        · have e0 : r0 (lkE (lastE [sJoin, sSplit, sFree] es) n) = .non := by
            unfold r0 isW
            rw [if_neg fun z => e1 (congrArg V.str (eq_of_beq z))]
          refine ⟨by decide, fun t ht => ⟨_, Same.upd ht _ _ hl3, hz, n2 rfl _ _ _ ⟨_, rfl⟩ (Same.upd ht) ?_⟩⟩
          rw [e0]
          exact .tup upd_same (.cons (.str n) (.cons .non .nil))
      · intro H3 zs s3 pz hl3
        rw [List.filter_eq_self.mpr (fun _ _ => rfl)] at pz
        have tl := TrL.paired (f := fun n : Str => Mr.PV.tup [.str n, r0 (lkE (lastE [sJoin, sSplit, sFree] es) n)]) pz
        rw [eo] at tl
        exact ⟨m, rfl, zs, SqL.of hl3, fun t ht => q _ _ (((((s0.trans s1).trans sg).trans s2).trans s3).trans (Same.upd ht)) (.tup upd_same (tl.kp (Same.upd ht).kt))⟩
theorem sc_reads_of : FnScope ["log", "last"] ["log"] (defScope s_reads_of) := ⟨rfl, rfl, rfl, by decide +kernel, rfl, by decide +kernel, by decide +kernel⟩
set_option maxHeartbeats 4000000 in
theorem ok_reads_of (T : Txt K mg fs fds tc u) (G_last_deeds : FnOk P w K mg base CX0 1 (fs 0) (fds 0) ["log", "words"] (spLast w)) : FnOk P w K mg base CX0 2 (fs 3) (fds 3) ["log"] (spTold readsT) := by
  refine T.d_reads_of.F.ok sc_reads_of (fun vs H Q E h => ?_) (fun cdv A outer s H vs Q E hr h => ?_)
  · obtain ⟨a, es, rfl, hL, q⟩ := h
    rfl
  · obtain ⟨a, es, rfl, hL, q⟩ := h
    refine ⟨_, (pss_cons (ps_set (i := 1) sc_reads_of.nd rfl (Or.inr rfl) (pe_fn T.d_last_deeds G_last_deeds hr (by decide) rfl (pa_cons (pv 0) (pa_cons (pe_tup (pa_cons pe_str (pa_cons pe_str pa_nil))) pa_nil))))
      (pss_one (ps_ret (pe_callTy (tupL K) (by rfl) T.z_tuple bt_tuple (pa_cons (pe_lc ["name", "last"] 1 [1] ["log", "last"] (defScope s_reads_of) rfl rfl rfl (pi_lst K (pe_callB sortD (by rfl) T.z_sorted bt_sorted (pa_cons (pv 1) pa_nil))) (by decide +kernel) (fun _ => (pg_name (i := 0) (show (["name", "last"] : List Str).Nodup by decide +kernel) rfl (Or.inl rfl))) (fun _ => (pts_one (pt_cmpR op_eq (pe_ix (ixT K) (pe_nget w hr (pv 1) (pv 0) (fun _ _ => rfl)) pe_int (fun _ _ => rfl)) pe_str (nomark _)))) (fun _ => (pv 0))) pa_nil))))), ?_⟩
    refine tSeq_i ?_; walk_at "vc0"
    refine ⟨by decide, fun p hp => ?_⟩
    have s0 := Same.upd (o := .tup [V.str (Str.ofString "read"), V.str (Str.ofString "unread")]) hp
    refine ⟨a, p, es, [sRead, sUnread], rfl, hL.kp s0.kt, upd_same, .inr ⟨⟨sRead, by decide +kernel, kind_read⟩, fun f kvs H1 s1 hf pr => ?_⟩⟩
    obtain ⟨_, hl, ok⟩ := hL
    have nm := last_nm (es := es) ok kind_read (by decide +kernel)
    have ln : (names (lastE [sRead, sUnread] es)).length ≤ 41 := by unfold names; rw [List.length_map]; exact last_len hl
    refine ⟨_, rfl, f, kvs, names (lastE [sRead, sUnread] es), rfl, hf.rd, RK.keys pr, by omega, fun g out h1 h2 hg => ⟨g, rfl, ⟨_, SqL.of upd_same⟩, fun l hnl => ?_⟩⟩
    have eo : out = Mr.sortP (names (lastE [sRead, sUnread] es)) := (Mr.sortP_eq h1 h2).symm
    have sg := Same.upd (o := .lst (out.map V.str)) hg
    refine comp_strs (K := K) (SqL.of upd_same) (fun n => isW sRead (lkE (lastE [sRead, sUnread] es) n)) (fun G n v => Tr G (.str n) v) (fun σ => ∃ o, σ = [o, some (V.ref f)]) ⟨_, rfl⟩ hnl (szt (by rw [h1.length_eq]; omega)) (fun _ _ _ _ k r => r.kp k) ?_ ?_
    · rintro n σ H2 ys N hn ⟨o, rfl⟩ s2 hl2 hz n1 n2
      obtain ⟨v, hv, hv2⟩ := RK.get (w := w) hf pr nm (sg.trans s2) (h1.mem_iff.mp hn)
      obtain ⟨d, u, us, ed, hd, hu, _⟩ := dP_at hv2
      unfold turnOf
      walk_at "vc0"
      refine ⟨_, hv, _, ed, _, SqT.of hd, _, at0, rfl, iteD (fun e1 => ⟨_, hl2, hz, n2 (beq_iff_eq.mpr (V.str.inj e1)) _ _ _ ⟨_, rfl⟩ (Same.refl _) (.str n)⟩) (fun e1 => n1 ?_ _ ⟨_, rfl⟩)⟩
      exact beq_eq_false_iff_ne.mpr fun z => e1 (congrArg V.str z)
    · intro H2 ys s2 py hl2
      have tl := TrL.paired (f := fun n : Str => Mr.PV.str n) py
      rw [eo] at tl
      exact ⟨l, rfl, ys, SqL.of hl2, fun t ht => q _ _ ((((s0.trans s1).trans sg).trans s2).trans (Same.upd ht)) (.tup upd_same (tl.kp (Same.upd ht).kt))⟩
theorem sc_law_name : FnScope ["_law_state", "_law_some", "_law_signs"] ["_law_state"] (defScope s_law_name) := ⟨rfl, rfl, rfl, by decide +kernel, rfl, by decide +kernel, by decide +kernel⟩
set_option maxHeartbeats 4000000 in
theorem ok_law_name (T : Txt K mg fs fds tc u) (G_law_take : FnOk P w K mg base CX0 1 (fs 5) (fds 5) ["_law_state", "_law_many"] spTk) : FnOk P w K mg base CX0 2 (fs 6) (fds 6) ["_law_state"] spNm := by
  refine T.d_law_name.F.ok sc_law_name (fun vs H Q E h => ?_) (fun cdv A outer s H vs Q E hr h => ?_)
  · obtain ⟨p, c, rfl, hp, hc, q⟩ := h
    rfl
  · obtain ⟨p, c, rfl, hp, hc, q⟩ := h
    refine boxed ⟨_, (ssw_cons (sw_setWl (i := 1) sc_law_name.nd rfl rfl (ew_l (pw_c (ew pe_str) (pw_c (ew pe_str) (pw_c (ew pe_str) (pw_c (ew pe_str) (pw_c (ew pe_str) (pw_c (ew pe_str) (pw_c (ew pe_str) (pw_c (ew pe_str) (pw_c (ew pe_str) (pw_c (ew pe_str) (pw_c (ew pe_str) (pw_c (ew pe_str) (pw_c (ew pe_str) (pw_c (ew pe_str) (pw_c (ew pe_str) (pw_c (ew pe_str) pw_nil))))))))))))))))))
      (ssw_cons (sw (ps_if (pt_cmpR op_gt (pe_fn T.d_law_take G_law_take hr (by decide) rfl (pa_cons (pv 0) (pa_cons pe_int pa_nil))) pe_int (nomark _)) (pss_one (ps_ret (pe_ix (ixL K) (pv 1) (pe_fn T.d_law_take G_law_take hr (by decide) rfl (pa_cons (pv 0) (pa_cons pe_int pa_nil))) (fun _ _ => rfl)))) pss_nil))
      (ssw_cons (sw (ps_set (i := 2) sc_law_name.nd rfl (Or.inr rfl) pe_str))
      (ssw_one (sw (ps_ret (pe_bmK K PySem.F.plainAttrs_str PySem.F.slot_str_join PySem.F.type_str_join (joinK K) pe_str (pa_cons (pe_lc ["_law_k", "_law_signs", "_law_state"] 1 [2, 0] ["_law_state", "_law_some", "_law_signs"] (defScope s_law_name) rfl rfl rfl (pi_range1 rfl T.z_range (pa_cons (pe_op op_add pe_int (pe_fn T.d_law_take G_law_take hr (by decide) rfl (pa_cons (pv 0) (pa_cons pe_int pa_nil)))) pa_nil)) (by decide +kernel) (fun _ => (pg_name (i := 0) (show (["_law_k", "_law_signs", "_law_state"] : List Str).Nodup by decide +kernel) rfl (Or.inl rfl))) (fun _ => pts_nil) (fun _ => (pe_ix ix_str (pv 1) (pe_fn T.d_law_take G_law_take hr (by decide) rfl (pa_cons (pv 2) (pa_cons pe_int pa_nil))) (fun _ _ => rfl)))) pa_nil)))))))), ?_⟩
    have e36 : ABC.length = 36 := by decide +kernel
    have e0 : (Str.ofString "").length = 0 := by decide +kernel
    refine tSeq_i ?_; walk_at "vc0"
    refine ⟨by decide, fun l hl => ?_⟩
    have hpl := (Box.ne hp hl).symm
    have hlv : ∀ v ∈ [V.str (Str.ofString "b"), V.str (Str.ofString "a1"), V.str (Str.ofString "zz"), V.str (Str.ofString "m0n"), V.str (Str.ofString "a"), V.str (Str.ofString "k9"), V.str (Str.ofString "0"), V.str (Str.ofString "queen"), V.str (Str.ofString "lett12"), V.str (Str.ofString "z"), V.str (Str.ofString "b2"), V.str (Str.ofString "00"), V.str (Str.ofString "abcdefghijkl"), V.str (Str.ofString "c"), V.str (Str.ofString "aa"), V.str (Str.ofString "9")], ∃ x : Str, v = .str x ∧ Nm x := by
      intro v hv
      simp only [List.mem_cons, List.mem_nil_iff, or_false] at hv
      rcases hv with h | h | h | h | h | h | h | h | h | h | h | h | h | h | h | h <;> exact ⟨_, h, ⟨by decide +kernel, by decide +kernel⟩⟩
    have hL16 : ([V.str (Str.ofString "b"), V.str (Str.ofString "a1"), V.str (Str.ofString "zz"), V.str (Str.ofString "m0n"), V.str (Str.ofString "a"), V.str (Str.ofString "k9"), V.str (Str.ofString "0"), V.str (Str.ofString "queen"), V.str (Str.ofString "lett12"), V.str (Str.ofString "z"), V.str (Str.ofString "b2"), V.str (Str.ofString "00"), V.str (Str.ofString "abcdefghijkl"), V.str (Str.ofString "c"), V.str (Str.ofString "aa"), V.str (Str.ofString "9")].length : Int) = 16 := rfl
    generalize [V.str (Str.ofString "b"), V.str (Str.ofString "a1"), V.str (Str.ofString "zz"), V.str (Str.ofString "m0n"), V.str (Str.ofString "a"), V.str (Str.ofString "k9"), V.str (Str.ofString "0"), V.str (Str.ofString "queen"), V.str (Str.ofString "lett12"), V.str (Str.ofString "z"), V.str (Str.ofString "b2"), V.str (Str.ofString "00"), V.str (Str.ofString "abcdefghijkl"), V.str (Str.ofString "c"), V.str (Str.ofString "aa"), V.str (Str.ofString "9")] = L16 at hlv hL16
    refine tSeq_i ?_; walk_at "vc0"
    refine ⟨p, _, c, rfl, Box.same (p := p) hp (Same.upd hl), by omega, by decide, by decide, fun d H1 d0 d1 hp1 b1 => ⟨d, rfl, iteD (fun _ => ?_) (fun _ => ?_)⟩⟩
    · refine ⟨p, _, _, rfl, hp1, by omega, by decide, by decide, fun d2 H2 e0' e1' hp2 b2 => ?_⟩
      have hl2 := b2 l _ (b1 l _ upd_same hpl) hpl
      obtain ⟨v, hv1, hv2⟩ := atI_mem (xs := L16) e0' (by rw [hL16]; exact e1')
      obtain ⟨x, rfl, hx⟩ := hlv v hv1
      exact ⟨_, _, rfl, SqL.of hl2, _, hv2, q x H2 hx (Box.up (p := p) hp2 (by omega)) (((But.of (Same.upd hl)).trans b1).trans b2)⟩
    · refine tSeq_i ?_; walk_at "vc3"
      refine ⟨rfl, _, rfl, p, 12, _, rfl, hp1, by omega, by decide, by decide, fun m H2 m0 m1 hp2 b2 => ⟨_, _, rfl, rfl, _, rfl, by omega, by omega, fun l4 hl4 => comp_drawB 0 _ p (c + 1 + 1) 1 (fun _ v => ∃ x : Str, v = .str x ∧ x.length = 1 ∧ Cd x) (fun σ => ∃ o, σ = [o, some (V.str ABC), some (.ref p)]) ⟨_, rfl⟩ hp2 hl4 (by omega) (fun _ _ _ _ h => h) ?_ ?_⟩⟩
      · rintro i σ H4 xs N hi ⟨o, rfl⟩ hp4 hx hxl b4 hN
        unfold turnOf
        walk_at "vc2"
        refine ⟨p, _, _, rfl, hp4, by omega, by decide, by decide, fun d H5 d0 d1 hp5 b5 => ?_⟩
        obtain ⟨cc, hcm, hcc⟩ := atI_sign (z := ABC) d0 (by rw [e36]; exact d1)
        exact ⟨_, rfl, szl (by rw [e36]; decide), _, hcc, hN _ _ _ ⟨_, rfl⟩ ⟨_, rfl, rfl, abc_cd hcm⟩ hp5 b5⟩
      · intro ys H4 hyl hR hy hp4 b4
        obtain ⟨zs, e, hz, hcd⟩ := strs_cd hR
        subst e
        rw [List.length_map] at hyl
        refine ⟨_, l4, zs, rfl, rfl, SqL.of hy, by rw [e0, join_len hz]; omega, q _ H4 ?_ (Box.up (p := p) hp4 (by omega)) ((((But.of (Same.upd hl)).trans b1).trans b2).trans b4)⟩
        refine ⟨?_, join_codes hcd⟩
        have h := joined (ys := zs)
        rw [join_len hz] at h
        omega
theorem sc_law_of : FnScope ["_law_state", "_law_some"] ["_law_state", "_law_some"] (defScope s_law_of) := ⟨rfl, rfl, rfl, by decide +kernel, rfl, by decide +kernel, by decide +kernel⟩
set_option maxHeartbeats 4000000 in
theorem ok_law_of (T : Txt K mg fs fds tc u) (G_law_take : FnOk P w K mg base CX0 1 (fs 5) (fds 5) ["_law_state", "_law_many"] spTk) : FnOk P w K mg base CX0 2 (fs 8) (fds 8) ["_law_state", "_law_some"] spOf := by
  refine T.d_law_of.F.ok sc_law_of (fun vs H Q E h => ?_) (fun cdv A outer s H vs Q E hr h => ?_)
  · obtain ⟨p, l, c, xs, rfl, hp, hc, hl, np, l1, l2, q⟩ := h
    rfl
  · obtain ⟨p, l, c, xs, rfl, hp, hc, hl, np, l1, l2, q⟩ := h
    refine ⟨_, (pss_one (ps_ret (pe_ix (ixL K) (pv 1) (pe_fn T.d_law_take G_law_take hr (by decide) rfl (pa_cons (pv 0) (pa_cons (pe_callB (lenL K) (by rfl) T.z_len bt_len (pa_cons (pv 1) pa_nil)) pa_nil))) (fun _ _ => rfl)))), ?_⟩
    walk_at "vc0"
    refine ⟨_, SqL.of hl, p, _, c, rfl, hp, by omega, by omega, by omega, fun d H1 d0 d1 hp1 b1 => ?_⟩
    obtain ⟨y, hy, hat⟩ := atI_mem d0 d1
    exact ⟨_, _, rfl, SqL.of (b1 _ _ hl np), _, hat, q y H1 hy hp1 b1⟩
theorem sc_law_kept_by : FnScope ["_law_log", "_law_said_here", "_law_pack", "_law_marks", "_law_key"] ["_law_log"] (defScope s_law_kept_by) := ⟨rfl, rfl, rfl, by decide +kernel, rfl, by decide +kernel, by decide +kernel⟩
set_option maxHeartbeats 4000000 in
theorem ok_law_kept_by (T : Txt K mg fs fds tc u) (G_law_said : FnOk P w K mg base CX0 1 (fs 12) (fds 12) ["_law_log"] (spSaid w)) : FnOk P w K mg base CX0 2 (fs 13) (fds 13) ["_law_log"] (spTold keptE) := by
  refine T.d_law_kept_by.F.ok sc_law_kept_by (fun vs H Q E h => ?_) (fun cdv A outer s H vs Q E hr h => ?_)
  · obtain ⟨a, es, rfl, hL, q⟩ := h
    rfl
  · obtain ⟨a, es, rfl, hL, q⟩ := h
    refine ⟨_, (pss_cons (ps_set (i := 1) sc_law_kept_by.nd rfl (Or.inr rfl) (pe_fn T.d_law_said G_law_said hr (by decide) rfl (pa_cons (pv 0) pa_nil)))
      (pss_cons (ps_set (i := 2) sc_law_kept_by.nd rfl (Or.inl rfl) (pe_callTy (tupL K) (by rfl) T.z_tuple bt_tuple (pa_cons (pe_callB (sortQ K hr) (by rfl) T.z_sorted bt_sorted (pa_cons (pe_lc ["_law_key", "_law_said_here"] 1 [1] ["_law_log", "_law_said_here", "_law_pack", "_law_marks", "_law_key"] (defScope s_law_kept_by) rfl rfl rfl (pi_nk w (pv 1)) (by decide +kernel) (fun _ => (pg_name (i := 0) (show (["_law_key", "_law_said_here"] : List Str).Nodup by decide +kernel) rfl (Or.inl rfl))) (fun _ => (pts_one (pt_cmpR op_eq (pe_ix (ixT K) (pe_nget w hr (pv 1) (pv 0) (fun _ _ => rfl)) pe_int (fun _ _ => rfl)) pe_str (nomark _)))) (fun _ => (pe_ix (ixT K) (pv 0) pe_int (fun _ _ => rfl)))) pa_nil)) pa_nil)))
      (pss_cons (ps_set (i := 3) sc_law_kept_by.nd rfl (Or.inl rfl) (pe_lst pa_nil))
      (pss_cons (ps_for PassesOwn.never rfl (pi_nk w (pv 1)) (pg_name (i := 4) sc_law_kept_by.nd rfl (Or.inl rfl)) (pss_one (ps_if (pt_cmpR (inQ K) (pe_ix (ixT K) (pe_nget w hr (pv 1) (pv 4) (fun _ _ => rfl)) pe_int (fun _ _ => rfl)) (pe_tup (pa_cons pe_str (pa_cons pe_str pa_nil))) (by rfl)) (pss_one (ps_expr (pe_bmK K PySem.F.plainAttrs_list PySem.F.slot_list_append PySem.F.type_list_append mt_append (pv 3) (pa_cons (pe_tup (pa_cons (pe_ix (ixT K) (pv 4) pe_int (fun _ _ => rfl)) (pa_cons (pe_ifExp (pt_cmpR op_eq (pe_ix (ixT K) (pe_nget w hr (pv 1) (pv 4) (fun _ _ => rfl)) pe_int (fun _ _ => rfl)) pe_str (nomark _)) (pe_ix (ixT K) (pe_nget w hr (pv 1) (pv 4) (fun _ _ => rfl)) pe_int (fun _ _ => rfl)) pe_non) pa_nil))) pa_nil)))) pss_nil)))
      (pss_one (ps_ret (pe_tup (pa_cons (pv 2) (pa_cons (pe_callTy (tupL K) (by rfl) T.z_tuple bt_tuple (pa_cons (pe_callB (sortQ K hr) (by rfl) T.z_sorted bt_sorted (pa_cons (pv 3) pa_nil)) pa_nil)) (pa_cons (pe_callTy (tupL K) (by rfl) T.z_tuple bt_tuple (pa_cons (pe_callB (sortedStr K) (by rfl) T.z_sorted bt_sorted (pa_cons (pe_lc ["_law_key", "_law_said_here"] 1 [1] ["_law_log", "_law_said_here", "_law_pack", "_law_marks", "_law_key"] (defScope s_law_kept_by) rfl rfl rfl (pi_nk w (pv 1)) (by decide +kernel) (fun _ => (pg_name (i := 0) (show (["_law_key", "_law_said_here"] : List Str).Nodup by decide +kernel) rfl (Or.inl rfl))) (fun _ => (pts_one (pt_cmpR op_eq (pe_ix (ixT K) (pe_nget w hr (pv 1) (pv 0) (fun _ _ => rfl)) pe_int (fun _ _ => rfl)) pe_str (nomark _)))) (fun _ => (pe_ix (ixT K) (pv 0) pe_int (fun _ _ => rfl)))) pa_nil)) pa_nil)) pa_nil)))))))))), ?_⟩
    refine tSeq_i ?_; walk_at "vc0"
    refine ⟨a, es, rfl, hL, fun f kvs ep H1 s1 hf pr => ?_⟩
    obtain ⟨_, hl, ok⟩ := hL
    have sl := said_len hl
    have lk : kvs.length ≤ 41 := by rw [← Paired.length pr]; exact sl
    refine tSeq_i ?_
    walk_at "vc0"
    refine ⟨_, rfl, f, kvs, ep, rfl, hf, fun l hnl => comp_dn hf pr (fun x => isW sCome x.2) (fun G x v => Tr G x.1.2 v) (fun σ => ∃ o, σ = [o, some (V.ref f)]) ⟨_, rfl⟩ hnl (szt (by omega)) (fun _ _ _ _ k r => r.kp k) ?_ ?_⟩
    · rintro x kv σ H2 ys N hx hkv r0 ⟨o, rfl⟩ s2 hl2 hz n1 n2
      obtain ⟨d, u, us, ed, hd, hu, _⟩ := dP_at (r0.kp s2.kt).2.2.2.2
      obtain ⟨u2, hu2, tu2⟩ := pair_at (r0.kp s2.kt).2.2.2.1
      unfold turnOf
      walk_at "vc0"
      refine ⟨_, RS.get hf pr s2 hkv, _, ed, _, SqT.of hd, _, at0, rfl, iteD (fun e1 => ⟨_, SqT.of hu2, _, atI_nat (j := 1) rfl, _, hl2, hz, n2 (beq_iff_eq.mpr (V.str.inj e1)) _ _ _ ⟨_, rfl⟩ (Same.refl _) tu2⟩) (fun e1 => n1 ?_ _ ⟨_, rfl⟩)⟩
      exact beq_eq_false_iff_ne.mpr fun z => e1 (congrArg V.str z)
    · intro H2 ys s2 py hl2
      have tl := TrL.paired (f := fun x : (Str × Mr.PV) × En => x.1.2) py
      have pl : ∀ p ∈ ((saidE es).filter fun x => isW sCome x.2).map (fun x => x.1.2), LetP p := fun p hp => by
        have e : ((saidE es).filter fun x => isW sCome x.2).map (fun x => x.1.2) = ((lastE [sCome, sGo] es).filter fun x => isW sCome x.2).map (·.1) := by
          rw [← said_last (c := sLetter) ok kind_letter (isW_kind (by decide +kernel)), List.map_map]
          rfl
        rw [e] at hp
        exact pack_let ok p hp
      obtain ⟨c1, c2⟩ := let_cmp pl
      refine ⟨l, rfl, ys, SqL.of hl2, _, tl, ?_, c2, c1, fun m zs hzs hm => ⟨zs, SqL.of upd_same, fun t ht => ?_⟩⟩
      · have e1 := Paired.length py
        have e2 := List.length_filter_le (fun x : (Str × Mr.PV) × En => isW sCome x.2) (saidE es)
        omega
      have sP := s2.trans ((Same.upd (o := .lst zs) hm).trans (Same.upd (o := .tup zs) ht))
      have tP : Tr (upd (upd H2 m (.lst zs)) t (.tup zs)) (packK es) (.ref t) := .tup upd_same (hzs.kp ((Same.upd hm).trans (Same.upd ht)).kt)
      generalize upd (upd H2 m (.lst zs)) t (.tup zs) = G at sP tP
      have hf2 := sP _ _ hf
      have pr2 := Paired.mapP pr fun _ _ r => RS.kp sP.kt r
      have s01 := s1.trans sP
      refine tSeq_i ?_; walk_at "vc0"
      refine ⟨Nat.zero_le _, fun ml hml => ?_⟩
      have nf : ml ≠ f := fun z => by rw [z, hf2] at hml; cases hml
      have fm : ∀ {G1 : Hp} {ob}, Same G G1 → Same G (upd G1 ml ob) := fun s1 b2 o2 h2 => by rw [upd_ne (ne_of_none h2 hml)]; exact s1 _ _ h2
      refine tSeq_i ⟨_, rfl, f, kvs, ep, rfl, by rw [upd_ne nf.symm]; exact hf2, for_nk (w := w) (fun i σ H' => Same G H' ∧ (∃ vs, H' ml = some (.lst vs) ∧ TrL H' (mkL es i) vs) ∧ ∃ v4, σ = [some (V.ref a), some (V.ref f), some (V.ref t), some (V.ref ml), v4]) ⟨fm (Same.refl _), ⟨[], upd_same, .nil⟩, _, rfl⟩ (fun i σ H' _ ⟨s', _⟩ => s' _ _ hf2) ?_ ?_⟩
      · rintro i kv σ H3 hkv ⟨s3, ⟨vs, hm3, tv⟩, v4, rfl⟩
        obtain ⟨x, hx, rx⟩ := Paired.getR pr2 hkv
        have r3 := rx.kp s3.kt
        have o := ok _ (foldG_mem _ _ es x (List.mem_of_getElem? hx)).1
        obtain ⟨d, u, us, ed, hd, hu, hus⟩ := dP_at r3.2.2.2.2
        obtain ⟨u2, hu2, tu2⟩ := pair_at r3.2.2.2.1
        have gt := RS.get hf2 pr2 s3 (List.mem_of_getElem? hkv)
        have lv : vs.length ≤ 41 := by rw [← tv.length]; exact mkL_len hl
        have st := mkL_step hx
        walk_at "vc0"
        refine ⟨_, gt, _, ed, _, SqT.of hd, _, at0, by decide, fun p hp => ⟨_, .inr (SqT.of upd_same), rfl, rfl, ?_⟩⟩
        have s4 := Same.upd (o := .tup [V.str (Str.ofString "join"), V.str (Str.ofString "split")]) hp
        have s34 := s3.trans s4
        have gt2 := RS.get hf2 pr2 s34 (List.mem_of_getElem? hkv)
        rw [show inV (V.str x.2.w) [V.str (Str.ofString "join"), V.str (Str.ofString "split")] = [sJoin, sSplit].contains x.2.w from inV_str (row := [sJoin, sSplit])]
        have fin : ∀ (t2 : Addr) (y : V), upd H3 p (.tup [V.str (Str.ofString "join"), V.str (Str.ofString "split")]) t2 = none → Tr H3 (r0 x.2) y → TrL (upd (upd (upd H3 p (.tup [V.str (Str.ofString "join"), V.str (Str.ofString "split")])) t2 (.tup [u2, y])) ml (.lst (vs ++ [.ref t2]))) (mkL es i ++ [.tup [x.1.2, r0 x.2]]) (vs ++ [.ref t2]) := fun t2 y ht2 ty => by
          have s5 := Same.upd (o := .tup [u2, y]) ht2
          have k6 := KpT.upd (ys := vs ++ [.ref t2]) (s5 _ _ (s4 _ _ hm3))
          exact TrL.app (tv.kp ((s4.trans s5).kt.trans k6)) (.cons (Tr.kp k6 (.tup upd_same (.cons (tu2.kp (s4.trans s5).kt) (.cons (ty.kp (s4.trans s5).kt) .nil)))) .nil)
        split
        · rename_i h1
          rw [if_pos h1] at st
          rw [st]
          refine ⟨.inl ⟨_, SqL.of (s4 _ _ hm3)⟩, _, SqT.of (s4 _ _ hu2), _, atI_nat (j := 1) rfl, _, gt2, _, ed, _, SqT.of (s4 _ _ hd), _, at0, rfl, iteD (fun e1 => ?_) (fun e1 => ?_)⟩
          · obtain ⟨o', er, e0⟩ := join_r o (V.str.inj e1)
            rw [er] at hus
            cases hus with
            | cons q1 q2 =>
              cases q1; cases q2
              refine ⟨_, gt2, _, ed, _, SqT.of (s4 _ _ hd), _, atI_nat (j := 2) rfl, by decide, fun p2 hp2 => ⟨vs, (Same.upd hp2) _ _ (s4 _ _ hm3), szt (by omega), fm (s34.trans (Same.upd hp2)), ⟨_, upd_same, fin p2 _ hp2 (by rw [e0]; exact .str o')⟩, _, rfl⟩⟩
          · refine ⟨by decide, fun p2 hp2 => ⟨vs, (Same.upd hp2) _ _ (s4 _ _ hm3), szt (by omega), fm (s34.trans (Same.upd hp2)), ⟨_, upd_same, fin p2 _ hp2 (by rw [nojoin_r fun z => e1 (congrArg V.str z)]; exact .non)⟩, _, rfl⟩⟩
        · rename_i h1
          rw [if_neg h1, List.append_nil] at st
          rw [st]
          exact ⟨s34, ⟨_, s4 _ _ hm3, tv.kp s4.kt⟩, _, rfl⟩
      · rintro σ H3 ⟨s3, ⟨vs, hm3, tv⟩, v4, rfl⟩
        rw [← Paired.length pr, mkL_all] at tv
        have nmH := last_nm (es := es) ok kind_hand (by decide +kernel)
        obtain ⟨c3, c4⟩ := marks_cmp nmH (fun x hx => (r0_ok (ok _ (foldG_mem _ _ es x hx).1)).1) notF
        rw [← marksL_eq ok] at c3 c4
        walk_at "vc0"
        refine ⟨vs, SqL.of hm3, _, tv, ?_, c4, c3, fun m2 zs2 hz2 hm2 => ⟨zs2, SqL.of upd_same, fun t2 ht2 => ?_⟩⟩
        · have e1 := tv.length
          have e2 : (marksL es).length ≤ 41 := by rw [← mkL_all]; exact mkL_len hl
          omega
        have s4 := (Same.upd (o := .lst zs2) hm2).trans (Same.upd (o := .tup zs2) ht2)
        have tM : Tr (upd (upd H3 m2 (.lst zs2)) t2 (.tup zs2)) (marksK es) (.ref t2) := .tup upd_same (hz2.kp s4.kt)
        generalize upd (upd H3 m2 (.lst zs2)) t2 (.tup zs2) = G4 at s4 tM
        have s34 := s3.trans s4
        have hf4 := s34 _ _ hf2
        have pr4 := Paired.mapP pr2 fun _ _ r => RS.kp s34.kt r
        refine ⟨_, rfl, f, kvs, ep, rfl, hf4, fun l5 hl5 => comp_dn hf4 pr4 (fun x => isW sRead x.2) (fun _ x v => v = .str (strP x.1.2)) (fun σ => ∃ o, σ = [o, some (V.ref f)]) ⟨_, rfl⟩ hl5 (szt (by omega)) (fun _ _ _ _ k r => r) ?_ ?_⟩
        · rintro x kv σ H5 ys N hx hkv r0 ⟨o, rfl⟩ s5 hl5 hz n1 n2
          obtain ⟨d, u, us, ed, hd, hu, _⟩ := dP_at (r0.kp s5.kt).2.2.2.2
          obtain ⟨u2, hu2, tu2⟩ := pair_at (r0.kp s5.kt).2.2.2.1
          unfold turnOf
          walk_at "vc0"
          refine ⟨_, RS.get hf4 pr4 s5 hkv, _, ed, _, SqT.of hd, _, at0, rfl, iteD (fun e1 => ⟨_, SqT.of hu2, _, atI_nat (j := 1) rfl, _, hl5, hz, n2 (beq_iff_eq.mpr (V.str.inj e1)) _ _ _ ⟨_, rfl⟩ (Same.refl _) ?_⟩) (fun e1 => n1 ?_ _ ⟨_, rfl⟩)⟩
          · obtain ⟨m1, m2, m3⟩ := foldG_mem _ _ es x hx
            have e3 : x.2.t = x.1.2 := congrArg Prod.snd m3
            have oo := ok _ m1
            obtain ⟨n, en, _⟩ := EnOk.kindN (fun z => absurd ((isW_kind (w := sRead) (c := sRead) (by decide +kernel) x.2 (beq_iff_eq.mpr (V.str.inj e1))).symm.trans z) (by decide +kernel)) oo
            rw [← e3, en] at tu2
            cases tu2
            rw [← e3, en]; rfl
          · exact beq_eq_false_iff_ne.mpr fun z => e1 (congrArg V.str z)
        · intro H5 ys s5 py hl5
          have ey := Paired.eqMap py
          have ey2 : ys = (((saidE es).filter fun x => isW sRead x.2).map fun x => strP x.1.2).map V.str := by rw [ey, List.map_map]; rfl
          rw [ey2] at hl5
          refine ⟨l5, rfl, _, SqL.of hl5, ?_, fun l6 out h1 h2 hl6 => ⟨_, SqL.of upd_same, fun l7 hl7 => ⟨by decide, fun p hp => ?_⟩⟩⟩
          · rw [List.length_map]
            have e2 := List.length_filter_le (fun x : (Str × Mr.PV) × En => isW sRead x.2) (saidE es)
            omega
          have s6 := (Same.upd (o := .lst (out.map V.str)) hl6).trans (Same.upd (o := .tup (out.map V.str)) hl7)
          have s7 := s6.trans (Same.upd (o := .tup [V.ref t, V.ref t2, V.ref l7]) hp)
          have eo := (Mr.sortP_eq h1 h2).symm
          refine q _ _ ((((s01.trans s34).trans s5)).trans s7) (.tup upd_same (.cons (tP.kp ((s34.trans s5).trans s7).kt) (.cons (tM.kp (s5.trans s7).kt) (.cons (.tup (Same.upd hp _ _ upd_same) ?_) .nil))))
          rw [eo]
          exact TrL.strs
theorem sc_law_pool : FnScope ["_law_state", "_law_many", "_law_found", "_law_k", "_law_name_here"] ["_law_state", "_law_many"] (defScope s_law_pool) := ⟨rfl, rfl, rfl, by decide +kernel, rfl, by decide +kernel, by decide +kernel⟩
set_option maxHeartbeats 4000000 in
theorem ok_law_pool (T : Txt K mg fs fds tc u) (G_law_name : FnOk P w K mg base CX0 2 (fs 6) (fds 6) ["_law_state"] spNm) : FnOk P w K mg base CX0 3 (fs 7) (fds 7) ["_law_state", "_law_many"] spPool := by
  refine T.d_law_pool.F.ok sc_law_pool (fun vs H Q E h => ?_) (fun cdv A outer s H vs Q E hr h => ?_)
  · obtain ⟨p, c, m, rfl, hp, hc, m2, m6, q⟩ := h
    rfl
  · obtain ⟨p, c, m, rfl, hp, hc, m2, m6, q⟩ := h
    refine ⟨_, (pss_cons (ps_set (i := 2) sc_law_pool.nd rfl (Or.inl rfl) (pe_lst pa_nil))
      (pss_cons (ps_for PassesOwn.never rfl (pi_range1 rfl T.z_range (pa_cons (pv 1) pa_nil)) (pg_name (i := 3) sc_law_pool.nd rfl (Or.inl rfl)) (pss_cons (ps_set (i := 4) sc_law_pool.nd rfl (Or.inl rfl) (pe_fn T.d_law_name G_law_name hr (by decide) rfl (pa_cons (pv 0) pa_nil)))
      (pss_one (ps_if (pt_cmpR (notInQ K) (pv 4) (pv 2) (by rfl)) (pss_one (ps_expr (pe_bmK K PySem.F.plainAttrs_list PySem.F.slot_list_append PySem.F.type_list_append mt_append (pv 2) (pa_cons (pv 4) pa_nil)))) pss_nil))))
      (pss_one (ps_ret (pv 2))))), ?_⟩
    refine tSeq_i ?_; walk_at "vc0"
    refine ⟨Nat.zero_le _, fun l hl => ?_⟩
    have np : l ≠ p := (Box.ne hp hl).symm
    refine tSeq_i ⟨_, rfl, _, rfl, by omega, by omega, for_range (lo := 0) (n := m) (fun i σ H' => Box (c + 20 * i) H' p ∧ But p H H' ∧ (∃ zs : List Str, H' l = some (.lst (zs.map V.str)) ∧ (0 < i → 1 ≤ zs.length) ∧ zs.length ≤ i ∧ ∀ z ∈ zs, Nm z) ∧ ∃ v3 v4, σ = [some (.ref p), some (.int (m : Int)), some (.ref l), v3, v4]) ?_ ?_ ?_⟩
    · exact ⟨Box.same (p := p) hp (Same.upd hl), But.of (Same.upd hl), ⟨[], upd_same, (fun h => absurd h (by decide)), Nat.le_refl _, fun _ h => nomatch h⟩, _, _, rfl⟩
    · rintro i σ H1 hi ⟨hp1, f1, ⟨zs, hz, hz0, hz1, hz2⟩, v3, v4, rfl⟩
      show tSeq _ _ _ _ _
      refine tSeq_i ?_; walk_at "vc0"
      refine ⟨p, c + 20 * i, rfl, hp1, by omega, fun x H2 x1 hp2 f2 => ?_⟩
      have hp2 : Box (c + 20 * (i + 1)) H2 p := hp2
      have hl2 := f2 l _ hz np
      walk_at "vc0"
      refine ⟨_, .inl (SqL.of hl2), rfl, flat_strs, ?_⟩
      rw [inV_str]
      cases hcx : zs.contains x with
      | false =>
        refine iteT ⟨.inl ⟨_, SqL.of hl2⟩, _, hl2, szt (by rw [List.length_map]; omega), ?_, ?_, ⟨zs ++ [x], ?_, ?_, ?_, ?_⟩, ?_⟩
        · show BoxO _ (upd H2 l _ p); rw [upd_ne np.symm]; exact hp2
        · exact fun b o hb n1 => by rw [upd_ne (ne_of_none hb hl)]; exact f2 b o (f1 b o hb n1) n1
        · rw [upd_same, List.map_append, List.map_singleton]
        · intro _; rw [List.length_append]; show 1 ≤ _ + 1; omega
        · rw [List.length_append]; show _ + 1 ≤ _; omega
        · intro z hz'
          rcases List.mem_append.mp hz' with h | h
          · exact hz2 z h
          · rw [List.mem_singleton.mp h]; exact x1
        · exact ⟨_, rfl⟩
      | true =>
        have hne : 1 ≤ zs.length := by
          cases zs with
          | nil => cases hcx
          | cons _ _ => exact Nat.succ_le_succ (Nat.zero_le _)
        exact iteF ⟨hp2, f1.trans f2, ⟨zs, hl2, fun _ => hne, by omega, hz2⟩, _, rfl⟩
    · rintro σ H1 ⟨hp1, f1, ⟨zs, hz, hz0, hz1, hz2⟩, v3, v4, rfl⟩
      exact ⟨_, rfl, q l zs H1 hl hz (hz0 (by omega)) hz1 hz2 (Box.up (p := p) hp1 (by omega)) f1⟩
theorem sc_law_letters : FnScope ["_law_state", "_law_pool_here", "_law_many", "_law_found", "_law_k", "_law_day", "_law_head", "_law_row"] ["_law_state", "_law_pool_here", "_law_many"] (defScope s_law_letters) := ⟨rfl, rfl, rfl, by decide +kernel, rfl, by decide +kernel, by decide +kernel⟩
set_option maxHeartbeats 4000000 in
theorem ok_law_letters (T : Txt K mg fs fds tc u) (G_law_take : FnOk P w K mg base CX0 1 (fs 5) (fds 5) ["_law_state", "_law_many"] spTk) (G_law_of : FnOk P w K mg base CX0 2 (fs 8) (fds 8) ["_law_state", "_law_some"] spOf) : FnOk P w K mg base CX0 3 (fs 10) (fds 10) ["_law_state", "_law_pool_here", "_law_many"] spLetters := by
  refine T.d_law_letters.F.ok sc_law_letters (fun vs H Q E h => ?_) (fun cdv A outer s H vs Q E hr h => ?_)
  · obtain ⟨p, l, c, m, zs, rfl, hp, hc, m1, m6, hP, q⟩ := h
    rfl
  · obtain ⟨p, l, c, m, zs, rfl, hp, hc, m1, m6, hP, q⟩ := h
    refine ⟨_, (pss_cons (ps_set (i := 3) sc_law_letters.nd rfl (Or.inl rfl) (pe_lst pa_nil))
      (pss_cons (ps_for PassesOwn.never rfl (pi_range1 rfl T.z_range (pa_cons (pv 2) pa_nil)) (pg_name (i := 4) sc_law_letters.nd rfl (Or.inl rfl)) (pss_cons (ps_set (i := 5) sc_law_letters.nd rfl (Or.inl rfl) (pe_ix (ixL K) (pe_lstC [V.int 0, V.int 1, V.int 1, V.int 2, V.int 99999999] rfl) (pe_fn T.d_law_take G_law_take hr (by decide) rfl (pa_cons (pv 0) (pa_cons pe_int pa_nil))) (fun _ _ => rfl)))
      (pss_cons (ps_set (i := 6) sc_law_letters.nd rfl (Or.inl rfl) (pe_ix (ixL K) (pe_lstC [V.str (Str.ofString ""), V.str (Str.ofString "walls"), V.str (Str.ofString "re: walls"), V.str (Str.ofString "old: re: walls"), V.str (Str.ofString "gates"), V.str (Str.ofString "re: gates")] rfl) (pe_fn T.d_law_take G_law_take hr (by decide) rfl (pa_cons (pv 0) (pa_cons pe_int pa_nil))) (fun _ _ => rfl)))
      (pss_cons (ps_set (i := 7) sc_law_letters.nd rfl (Or.inl rfl) (pe_callTy (tupL K) (by rfl) T.z_tuple bt_tuple (pa_cons (pe_lc ["_law_at", "_law_state", "_law_pool_here"] 1 [0, 1] ["_law_state", "_law_pool_here", "_law_many", "_law_found", "_law_k", "_law_day", "_law_head", "_law_row"] (defScope s_law_letters) rfl rfl rfl (pi_range1 rfl T.z_range (pa_cons (pe_fn T.d_law_take G_law_take hr (by decide) rfl (pa_cons (pv 0) (pa_cons pe_int pa_nil))) pa_nil)) (by decide +kernel) (fun _ => (pg_name (i := 0) (show (["_law_at", "_law_state", "_law_pool_here"] : List Str).Nodup by decide +kernel) rfl (Or.inl rfl))) (fun _ => pts_nil) (fun _ => (pe_fn T.d_law_of G_law_of hr (by decide) rfl (pa_cons (pv 1) (pa_cons (pv 2) pa_nil))))) pa_nil)))
      (pss_one (ps_expr (pe_bmK K PySem.F.plainAttrs_list PySem.F.slot_list_append PySem.F.type_list_append mt_append (pv 3) (pa_cons (pe_tup (pa_cons (pe_fn T.d_law_of G_law_of hr (by decide) rfl (pa_cons (pv 0) (pa_cons (pv 1) pa_nil))) (pa_cons (pv 5) (pa_cons (pv 6) (pa_cons (pv 7) pa_nil))))) pa_nil))))))))
      (pss_one (ps_ret (pv 3))))), ?_⟩
    refine tSeq_i ?_; walk_at "vc0"
    refine ⟨Nat.zero_le _, fun g hg => ?_⟩
    have np : g ≠ p := (Box.ne hp hg).symm
    have hge : ∀ {G : Hp} {ob}, But p H G → But p H (upd G g ob) := fun b1 b2 o2 h2 n => by rw [upd_ne (ne_of_none h2 hg)]; exact b1 _ _ h2 n
    refine tSeq_i ⟨_, rfl, _, rfl, by omega, by omega, for_range (lo := 0) (n := m) (fun i σ H' => Box (c + 10 * i) H' p ∧ But p H H' ∧ (∃ us : List V, H' g = some (.lst us) ∧ us.length = i ∧ ∀ u ∈ us, LtV H' u) ∧ ∃ v4 v5 v6 v7, σ = [some (.ref p), some (.ref l), some (.int (m : Int)), some (.ref g), v4, v5, v6, v7]) ?_ ?_ ?_⟩
    · exact ⟨Box.same (p := p) hp (Same.upd hg), But.of (Same.upd hg), ⟨[], upd_same, rfl, fun _ h => nomatch h⟩, _, _, _, _, rfl⟩
    · rintro i σ H1 hi ⟨hp1, b1, ⟨us, hu, hul, hut⟩, v4, v5, v6, v7, rfl⟩
      have hP1 := hP.but b1
      show tSeq _ _ _ _ _
      refine tSeq_i ?_; walk_at "vc0"
      refine box_of (xs := [V.int 0, V.int 1, V.int 1, V.int 2, V.int 99999999]) hp1 (by omega) rfl rfl (by decide) (by decide) fun v H2 hv hp2 b2 => ?_
      obtain ⟨day, rfl, hday⟩ : ∃ d : Int, v = .int d ∧ Sh 20 0 (.int d) := by
        simp only [List.mem_cons, List.mem_nil_iff, or_false] at hv
        rcases hv with h | h | h | h | h <;> exact ⟨_, h, rfl, ⟨by decide +kernel, by decide +kernel, rfl, by decide +kernel⟩⟩
      refine tSeq_i ?_; walk_at "vc0"
      refine box_of (xs := [V.str (Str.ofString ""), V.str (Str.ofString "walls"), V.str (Str.ofString "re: walls"), V.str (Str.ofString "old: re: walls"), V.str (Str.ofString "gates"), V.str (Str.ofString "re: gates")]) hp2 (by omega) rfl rfl (by decide) (by decide) fun v H3 hv hp3 b3 => ?_
      obtain ⟨hd, rfl, hhd⟩ : ∃ x : Str, v = .str x ∧ Nm x := by
        simp only [List.mem_cons, List.mem_nil_iff, or_false] at hv
        rcases hv with h | h | h | h | h | h <;> exact ⟨_, h, ⟨by decide +kernel, by decide +kernel⟩⟩
      have b13 := b2.trans b3
      have hP3 := hP1.but b13
      have hu3 := b13 _ _ hu np
      have k13 : KpT H1 H3 := Box.kt (d := 0) hp1 b13
      refine tSeq_i ?_; walk_at "vc0"
      refine ⟨_, rfl, p, 4, _, rfl, hp3, by omega, by decide, by decide, fun mm H4 m0 m1' hp4 b4 => ⟨_, rfl, by omega, by omega, fun l4 hl4 => comp_drawB 0 _ p (c + 10 * i + 1 + 1 + 1) 1 (fun _ v => ∃ x : Str, v = .str x ∧ Nm x) (fun σ => ∃ o, σ = [o, some (V.ref p), some (V.ref l)]) ⟨_, rfl⟩ hp4 hl4 (by omega) (fun _ _ _ _ h => h) ?_ ?_⟩⟩
      · rintro j σ H5 xs N hj ⟨o, rfl⟩ hp5 hx hxl b5 hN
        have hP5 := (hP3.but b4).but b5
        have z1 := hP5.lo
        have z2 := hP5.hi
        unfold turnOf
        walk_at "vc2"
        refine ⟨p, l, _, zs.map V.str, rfl, hp5, by omega, hP5.el, hP5.np, by rw [List.length_map]; omega, by rw [List.length_map]; omega, fun x H6 hx6 hp6 b6 => ?_⟩
        obtain ⟨y, hy, rfl⟩ := List.mem_map.mp hx6
        exact hN _ _ _ ⟨_, rfl⟩ ⟨y, rfl, hP5.nm y hy⟩ hp6 b6
      · intro ys H5 hyl hR hy5 hp5 b5
        obtain ⟨rs, rfl, hrs⟩ := strs_nmE hR
        rw [List.length_map] at hyl
        have hP5 := (hP3.but b4).but b5
        have z1 := hP5.lo
        have z2 := hP5.hi
        have b35 := b4.trans b5
        have hu5 := b35 _ _ hu3 np
        have k15 : KpT H1 H5 := k13.trans (Box.kt (d := 0) hp3 b35)
        refine ⟨l4, rfl, _, SqL.of hy5, fun t ht => ⟨.inl ⟨_, SqL.of (Same.upd ht _ _ hu5)⟩, p, l, _, zs.map V.str, rfl, Box.same (p := p) hp5 (Same.upd ht), by omega, Same.upd ht _ _ hP5.el, hP5.np, by rw [List.length_map]; omega, by rw [List.length_map]; omega, fun x H6 hx6 hp6 b6 => ⟨by decide, fun t2 ht2 => ?_⟩⟩⟩
        obtain ⟨y, hy, rfl⟩ := List.mem_map.mp hx6
        have st := Same.upd (o := .tup (rs.map V.str)) ht
        have s2 := Same.upd (o := .tup [V.str y, V.int day, V.str hd, V.ref t]) ht2
        have k6 : KpT (upd H5 t (.tup (rs.map V.str))) H6 := Box.kt (d := 0) (Box.same (p := p) hp5 st) b6
        have hu6 := b6 _ _ (st _ _ hu5) np
        have kg := KpT.upd (ys := us ++ [.ref t2]) (s2 _ _ hu6)
        refine ⟨us, s2 _ _ hu6, szt (by omega), ?_, ?_, ⟨us ++ [.ref t2], upd_same, by rw [List.length_append, hul]; rfl, fun u hu => ?_⟩, _, rfl⟩
        · show BoxO _ (upd _ g _ p)
          rw [upd_ne np.symm]
          exact Box.up (p := p) (Box.same (p := p) hp6 s2) (by omega)
        · exact hge ((((b1.trans b13).trans b35).trans (But.of st)).trans (b6.trans (But.of s2)))
        · rcases List.mem_append.mp hu with hu | hu
          · exact (hut u hu).kp (((k15.trans st.kt).trans k6).trans (s2.kt.trans kg))
          · rw [List.mem_singleton.mp hu]
            refine ⟨_, ⟨y, day, hd, rs, rfl, hP5.nm y hy, hday, hhd, by omega, hrs⟩, Tr.kp kg (.tup upd_same (.cons (.str y) (.cons (.int day) (.cons (.str hd) (.cons (.tup (s2 _ _ (k6 _ _ upd_same)) TrL.strs) .nil)))))⟩
    · rintro σ H1 ⟨hp1, b1, ⟨us, hu, hul, hut⟩, v4, v5, v6, v7, rfl⟩
      exact ⟨_, rfl, q g us H1 hg ⟨hu, np, by omega, by omega, hut⟩ (Box.up (p := p) hp1 (by omega)) b1⟩
theorem sc_law_deed : FnScope ["_law_state", "_law_pool_here", "_law_letters_here", "_law_word", "_law_at"] ["_law_state", "_law_pool_here", "_law_letters_here"] (defScope s_law_deed) := ⟨rfl, rfl, rfl, by decide +kernel, rfl, by decide +kernel, by decide +kernel⟩
set_option maxHeartbeats 4000000 in
theorem ok_law_deed (T : Txt K mg fs fds tc u) (G_law_take : FnOk P w K mg base CX0 1 (fs 5) (fds 5) ["_law_state", "_law_many"] spTk) (G_law_of : FnOk P w K mg base CX0 2 (fs 8) (fds 8) ["_law_state", "_law_some"] spOf) : FnOk P w K mg base CX0 3 (fs 11) (fds 11) ["_law_state", "_law_pool_here", "_law_letters_here"] spDeed := by
  refine T.d_law_deed.F.ok sc_law_deed (fun vs H Q E h => ?_) (fun cdv A outer s H vs Q E hr h => ?_)
  · obtain ⟨p, l, g, c, zs, us, rfl, hp, hc, hP, hG, q⟩ := h
    rfl
  · obtain ⟨p, l, g, c, zs, us, rfl, hp, hc, hP, hG, q⟩ := h
    refine ⟨_, (pss_cons (ps_set (i := 3) sc_law_deed.nd rfl (Or.inl rfl) (pe_ix (ixL K) (pe_lstC [V.str (Str.ofString "come"), V.str (Str.ofString "come"), V.str (Str.ofString "come"), V.str (Str.ofString "go"), V.str (Str.ofString "join"), V.str (Str.ofString "join"), V.str (Str.ofString "split"), V.str (Str.ofString "free"), V.str (Str.ofString "read"), V.str (Str.ofString "unread")] rfl) (pe_fn T.d_law_take G_law_take hr (by decide) rfl (pa_cons (pv 0) (pa_cons pe_int pa_nil))) (fun _ _ => rfl)))
      (pss_cons (ps_if (pt_cmpR (inQ K) (pv 3) (pe_tup (pa_cons pe_str (pa_cons pe_str pa_nil))) (by rfl)) (pss_one (ps_ret (pe_tup (pa_cons (pv 3) (pa_cons (pe_fn T.d_law_of G_law_of hr (by decide) rfl (pa_cons (pv 0) (pa_cons (pv 2) pa_nil))) pa_nil))))) pss_nil)
      (pss_cons (ps_set (i := 4) sc_law_deed.nd rfl (Or.inl rfl) (pe_fn T.d_law_take G_law_take hr (by decide) rfl (pa_cons (pv 0) (pa_cons (pe_callB (lenL K) (by rfl) T.z_len bt_len (pa_cons (pv 1) pa_nil)) pa_nil))))
      (pss_cons (ps_if (pt_cmpR op_eq (pv 3) pe_str (nomark _)) (pss_one (ps_ret (pe_tup (pa_cons (pv 3) (pa_cons (pe_ix (ixL K) (pv 1) (pv 4) (fun _ _ => rfl)) (pa_cons (pe_ix (ixL K) (pv 1) (pe_op op_mod (pe_op op_add (pe_op op_add (pv 4) pe_int) (pe_fn T.d_law_take G_law_take hr (by decide) rfl (pa_cons (pv 0) (pa_cons (pe_op op_sub (pe_callB (lenL K) (by rfl) T.z_len bt_len (pa_cons (pv 1) pa_nil)) pe_int) pa_nil)))) (pe_callB (lenL K) (by rfl) T.z_len bt_len (pa_cons (pv 1) pa_nil))) (fun _ _ => rfl)) pa_nil)))))) pss_nil)
      (pss_one (ps_ret (pe_tup (pa_cons (pv 3) (pa_cons (pe_ix (ixL K) (pv 1) (pv 4) (fun _ _ => rfl)) pa_nil))))))))), ?_⟩
    refine tSeq_i ?_; walk_at "vc0"
    refine box_of (xs := [V.str (Str.ofString "come"), V.str (Str.ofString "come"), V.str (Str.ofString "come"), V.str (Str.ofString "go"), V.str (Str.ofString "join"), V.str (Str.ofString "join"), V.str (Str.ofString "split"), V.str (Str.ofString "free"), V.str (Str.ofString "read"), V.str (Str.ofString "unread")]) hp (by omega) rfl rfl (by decide) (by decide) fun v H2 hv hp2 b2 => ?_
    obtain ⟨w', rfl, hw⟩ : ∃ x : Str, v = .str x ∧ (x = sCome ∨ x = sGo ∨ x = sJoin ∨ x = sSplit ∨ x = sFree ∨ x = sRead ∨ x = sUnread) := by
      simp only [List.mem_cons, List.mem_nil_iff, or_false] at hv
      rcases hv with h | h | h | h | h | h | h | h | h | h
      · exact ⟨_, h, .inl rfl⟩
      · exact ⟨_, h, .inl rfl⟩
      · exact ⟨_, h, .inl rfl⟩
      · exact ⟨_, h, .inr (.inl rfl)⟩
      · exact ⟨_, h, .inr (.inr (.inl rfl))⟩
      · exact ⟨_, h, .inr (.inr (.inl rfl))⟩
      · exact ⟨_, h, .inr (.inr (.inr (.inl rfl)))⟩
      · exact ⟨_, h, .inr (.inr (.inr (.inr (.inl rfl))))⟩
      · exact ⟨_, h, .inr (.inr (.inr (.inr (.inr (.inl rfl)))))⟩
      · exact ⟨_, h, .inr (.inr (.inr (.inr (.inr (.inr rfl)))))⟩
    exact deed_tail hp hp2 hc b2 (hP.but b2) (hG.but b2 (Box.kt (d := 0) hp b2)) hw q
theorem sc_law_right : FnScope ["_law_log", "_law_told"] ["_law_log"] (defScope s_law_right) := ⟨rfl, rfl, rfl, by decide +kernel, rfl, by decide +kernel, by decide +kernel⟩
set_option maxHeartbeats 4000000 in
theorem ok_law_right (T : Txt K mg fs fds tc u) (G_pack_of : FnOk P w K mg base CX0 2 (fs 1) (fds 1) ["log"] (spTold packT)) (G_marks_of : FnOk P w K mg base CX0 2 (fs 2) (fds 2) ["log"] (spTold marksT)) (G_reads_of : FnOk P w K mg base CX0 2 (fs 3) (fds 3) ["log"] (spTold readsT)) (G_law_kept_by : FnOk P w K mg base CX0 2 (fs 13) (fds 13) ["_law_log"] (spTold keptE)) : FnOk P w K mg base CX0 3 (fs 14) (fds 14) ["_law_log"] spRight := by
  refine T.d_law_right.F.ok sc_law_right (fun vs H Q E h => ?_) (fun cdv A outer s H vs Q E hr h => ?_)
  · obtain ⟨a, es, rfl, hL, q⟩ := h
    rfl
  · obtain ⟨a, es, rfl, hL, q⟩ := h
    refine ⟨_, (pss_cons (ps_set (i := 1) sc_law_right.nd rfl (Or.inl rfl) (pe_tup (pa_cons (pe_fn T.d_pack_of G_pack_of hr (by decide) rfl (pa_cons (pv 0) pa_nil)) (pa_cons (pe_fn T.d_marks_of G_marks_of hr (by decide) rfl (pa_cons (pv 0) pa_nil)) (pa_cons (pe_fn T.d_reads_of G_reads_of hr (by decide) rfl (pa_cons (pv 0) pa_nil)) pa_nil)))))
      (pss_one (ps_ret (pe_cmpR op_eq (pe_callB (call_repr hr) (by rfl) T.z_repr bt_repr (pa_cons (pv 1) pa_nil)) (pe_callB (call_repr hr) (by rfl) T.z_repr bt_repr (pa_cons (pe_fn T.d_law_kept_by G_law_kept_by hr (by decide) rfl (pa_cons (pv 0) pa_nil)) pa_nil)) (nomark _))))), ?_⟩
    refine tSeq_i ?_; walk_at "vc0"
    refine ⟨a, es, rfl, hL, fun v1 H1 s1 t1 => ⟨a, es, rfl, hL.kp s1.kt, fun v2 H2 s2 t2 => ⟨a, es, rfl, hL.kp (s1.trans s2).kt, fun v3 H3 s3 t3 => ⟨by decide, fun p hp => ?_⟩⟩⟩⟩
    have u := Same.upd (o := .tup [v1, v2, v3]) hp
    have tt : Tr (upd H3 p (.tup [v1, v2, v3])) (toldE es) (.ref p) := .tup upd_same (.cons (t1.kp ((s2.trans s3).trans u).kt) (.cons (t2.kp (s3.trans u).kt) (.cons (t3.kp u.kt) .nil)))
    have hs := told_sh hL.2.2 hL.2.1
    refine ⟨_, tt.dt hs.1, hs.2.mono (by decide) (by decide), a, es, rfl, hL.kp (((s1.trans s2).trans s3).trans u).kt, fun v4 H4 s4 t4 => ?_⟩
    rw [kept_told hL.2.2] at t4
    obtain ⟨b, us, rfl, _⟩ := Tr.tup' (show Tr H4 (.tup [packT es, marksT es, readsT es]) v4 from t4)
    refine ⟨b, rfl, _, t4.dt hs.1, hs.2.mono (by decide) (by decide), rfl, ?_⟩
    rw [decide_eq_true rfl]
    exact q _ ((((s1.trans s2).trans s3).trans u).trans s4)
theorem sc_law_names : FnScope ["_law_state", "_law_many", "_law_found", "_law_name_here"] ["_law_state", "_law_many"] (defScope s_law_names) := ⟨rfl, rfl, rfl, by decide +kernel, rfl, by decide +kernel, by decide +kernel⟩
set_option maxHeartbeats 4000000 in
theorem ok_law_names (T : Txt K mg fs fds tc u) (G_law_pool : FnOk P w K mg base CX0 3 (fs 7) (fds 7) ["_law_state", "_law_many"] spPool) : FnOk P w K mg base CX0 4 (fs 9) (fds 9) ["_law_state", "_law_many"] spNames := by
  refine T.d_law_names.F.ok sc_law_names (fun vs H Q E h => ?_) (fun cdv A outer s H vs Q E hr h => ?_)
  · obtain ⟨p, c, m, rfl, hp, hc, m2, m6, q⟩ := h
    rfl
  · obtain ⟨p, c, m, rfl, hp, hc, m2, m6, q⟩ := h
    refine ⟨_, (pss_cons (ps_set (i := 2) sc_law_names.nd rfl (Or.inl rfl) (pe_fn T.d_law_pool G_law_pool hr (by decide) rfl (pa_cons (pv 0) (pa_cons (pv 1) pa_nil))))
      (pss_cons (ps_for PassesOwn.never rfl (pi_lst K (pe_lstC [V.str (Str.ofString "p0"), V.str (Str.ofString "q1"), V.str (Str.ofString "x"), V.str (Str.ofString "7"), V.str (Str.ofString "yy"), V.str (Str.ofString "u2u"), V.str (Str.ofString "left"), V.str (Str.ofString "w"), V.str (Str.ofString "v9"), V.str (Str.ofString "g")] rfl)) (pg_name (i := 3) sc_law_names.nd rfl (Or.inl rfl)) (pss_one (ps_if (PW.pt (pw_and (pt_cmpR op_lt (pe_callB (lenL K) (by rfl) T.z_len bt_len (pa_cons (pv 2) pa_nil)) (pv 1) (nomark _)) (pw_and1 (pt_cmpR (notInQ K) (pv 3) (pv 2) (by rfl))))) (pss_one (ps_expr (pe_bmK K PySem.F.plainAttrs_list PySem.F.slot_list_append PySem.F.type_list_append mt_append (pv 2) (pa_cons (pv 3) pa_nil)))) pss_nil)))
      (pss_one (ps_ret (pv 2))))), ?_⟩
    refine tSeq_i ?_; walk_at "vc0"
    exact ⟨p, c, m, rfl, hp, hc, m2, m6, fun l zs H1 hl hz z1 zm hn hp1 b1 => names_rd hl hp1 b1 hz (Box.ne hp hl).symm z1 zm m2 m6 hn q⟩
theorem sc_law : FnScope ["_law_script", "_law_state", "_law_pool_here", "_law_letters_here", "_law_log", "_law_k", "_law_deed_here", "_law_at", "_law_logs"] ["_law_script"] (defScope s_law) := ⟨rfl, rfl, rfl, by decide +kernel, rfl, by decide +kernel, by decide +kernel⟩
set_option maxHeartbeats 4000000 in
theorem ok_law (T : Txt K mg fs fds tc u) (G_law_start : FnOk P w K mg base CX0 1 (fs 4) (fds 4) ["_law_script"] (spStart K)) (G_law_names : FnOk P w K mg base CX0 4 (fs 9) (fds 9) ["_law_state", "_law_many"] spNames) (G_law_letters : FnOk P w K mg base CX0 3 (fs 10) (fds 10) ["_law_state", "_law_pool_here", "_law_many"] spLetters) (G_law_take : FnOk P w K mg base CX0 1 (fs 5) (fds 5) ["_law_state", "_law_many"] spTk) (G_law_deed : FnOk P w K mg base CX0 3 (fs 11) (fds 11) ["_law_state", "_law_pool_here", "_law_letters_here"] spDeed) (G_law_right : FnOk P w K mg base CX0 3 (fs 14) (fds 14) ["_law_log"] spRight) : FnOk P w K mg base CX0 5 (fs 15) (fds 15) ["_law_script"] (spLaw K) := by
  refine T.d_law.F.ok sc_law (fun vs H Q E h => ?_) (fun cdv A outer s H vs Q E hr h => ?_)
  · obtain ⟨a, ns, rfl, hS, hl, q⟩ := h
    rfl
  · obtain ⟨a, ns, rfl, hS, hl, q⟩ := h
    refine ⟨_, (pss_cons (ps_set (i := 1) sc_law.nd rfl (Or.inl rfl) (pe_fn T.d_law_start G_law_start hr (by decide) rfl (pa_cons (pv 0) pa_nil)))
      (pss_cons (ps_set (i := 2) sc_law.nd rfl (Or.inl rfl) (pe_fn T.d_law_names G_law_names hr (by decide) rfl (pa_cons (pv 1) (pa_cons (pe_op op_add pe_int (pe_fn T.d_law_take G_law_take hr (by decide) rfl (pa_cons (pv 1) (pa_cons pe_int pa_nil)))) pa_nil))))
      (pss_cons (ps_set (i := 3) sc_law.nd rfl (Or.inl rfl) (pe_fn T.d_law_letters G_law_letters hr (by decide) rfl (pa_cons (pv 1) (pa_cons (pv 2) (pa_cons (pe_op op_add pe_int (pe_fn T.d_law_take G_law_take hr (by decide) rfl (pa_cons (pv 1) (pa_cons pe_int pa_nil)))) pa_nil)))))
      (pss_cons (ps_set (i := 4) sc_law.nd rfl (Or.inl rfl) (pe_lst pa_nil))
      (pss_cons (ps_for PassesOwn.never rfl (pi_range1 rfl T.z_range (pa_cons (pe_fn T.d_law_take G_law_take hr (by decide) rfl (pa_cons (pv 1) (pa_cons pe_int pa_nil))) pa_nil)) (pg_name (i := 5) sc_law.nd rfl (Or.inl rfl)) (pss_cons (ps_set (i := 6) sc_law.nd rfl (Or.inl rfl) (pe_fn T.d_law_deed G_law_deed hr (by decide) rfl (pa_cons (pv 1) (pa_cons (pv 2) (pa_cons (pv 3) pa_nil)))))
      (pss_one (ps_expr (pe_bmK K PySem.F.plainAttrs_list PySem.F.slot_list_append PySem.F.type_list_append mt_append (pv 4) (pa_cons (pe_tup (pa_cons (pv 6) (pa_cons (pe_cmpR op_gt (pe_fn T.d_law_take G_law_take hr (by decide) rfl (pa_cons (pv 1) (pa_cons pe_int pa_nil))) pe_int (nomark _)) pa_nil))) pa_nil))))))
      (pss_cons (ps_set (i := 7) sc_law.nd rfl (Or.inl rfl) (pe_fn T.d_law_take G_law_take hr (by decide) rfl (pa_cons (pv 1) (pa_cons (pe_op op_add (pe_callB (lenL K) (by rfl) T.z_len bt_len (pa_cons (pv 4) pa_nil)) pe_int) pa_nil))))
      (pss_cons (ps_set (i := 8) sc_law.nd rfl (Or.inl rfl) (pe_lst (pa_cons (pv 4) (pa_cons (pe_slice (slL K) (pv 4) po_none (po_some (pv 7))) (pa_cons (pe_slice (slL K) (pv 4) (po_some (pv 7)) po_none) (pa_cons (pe_backL K (pv 4) (pe_un un_neg pe_int)) (pa_cons (pe_lc ["_law_deed_here", "_law_stands"] 2 [] ["_law_script", "_law_state", "_law_pool_here", "_law_letters_here", "_law_log", "_law_k", "_law_deed_here", "_law_at", "_law_logs"] (defScope s_law) rfl rfl rfl (pi_lst K (pv 4)) (by decide +kernel) (fun _ => (pg_tupK (n := 2) K rfl (pgs_cons (pg_name (i := 0) (show (["_law_deed_here", "_law_stands"] : List Str).Nodup by decide +kernel) rfl (Or.inl rfl)) (pgs_cons (pg_name (i := 1) (show (["_law_deed_here", "_law_stands"] : List Str).Nodup by decide +kernel) rfl (Or.inl rfl)) pgs_nil)))) (fun _ => pts_nil) (fun _ => (pe_tup (pa_cons (pv 0) (pa_cons (pe_not (pv 1)) pa_nil))))) (pa_cons (pv 4) pa_nil))))))))
      (pss_one (ps_ret (pe_callB (allL K rfl) (by rfl) T.z_all bt_all (pa_cons (pe_lc ["_law_one"] 1 [] ["_law_script", "_law_state", "_law_pool_here", "_law_letters_here", "_law_log", "_law_k", "_law_deed_here", "_law_at", "_law_logs"] (defScope s_law) rfl rfl rfl (pi_lst K (pv 8)) (by decide +kernel) (fun _ => (pg_name (i := 0) (show (["_law_one"] : List Str).Nodup by decide +kernel) rfl (Or.inl rfl))) (fun _ => pts_nil) (fun _ => (pe_fn T.d_law_right G_law_right hr (by decide) rfl (pa_cons (pe_callTy (tupL K) (by rfl) T.z_tuple bt_tuple (pa_cons (pv 0) pa_nil)) pa_nil)))) pa_nil))))))))))), ?_⟩
    refine tSeq_i ?_; walk_at "vc0"
    refine ⟨a, ns, rfl, hS, hl, fun p H1 hp hp1 s1 => ?_⟩
    refine tSeq_i ?_; walk_at "vc0"
    refine ⟨p, 5, 0, rfl, hp1, by decide, by decide, by decide, fun d H2 d0 d1 hp2 b2 => ?_⟩
    obtain ⟨m, rfl⟩ : ∃ m : Nat, d = (m : Int) := ⟨d.toNat, by omega⟩
    refine ⟨m, rfl, p, 1, 2 + m, by rw [Int.natCast_add]; rfl, hp2, by decide, by omega, by omega, fun pl zs H3 hpl hP3 hp3 b3 => ?_⟩
    refine tSeq_i ?_; walk_at "vc0"
    refine ⟨p, 6, _, rfl, hp3, by decide, by decide, by decide, fun d H4 e0 e1 hp4 b4 => ?_⟩
    obtain ⟨m', rfl⟩ : ∃ m : Nat, d = (m : Int) := ⟨d.toNat, by omega⟩
    refine ⟨m', rfl, p, pl, _, 1 + m', zs, by rw [Int.natCast_add]; rfl, hp4, by decide, by omega, by omega, hP3.but b4, fun g us H5 hg hG5 hp5 b5 => ?_⟩
    have hP5 := (hP3.but b4).but b5
    refine tSeq_i ?_; walk_at "vc0"
    refine ⟨Nat.zero_le _, fun lg hlg => ?_⟩
    have nlp : lg ≠ p := (Box.ne hp5 hlg).symm
    have nll : lg ≠ pl := (ne_of_none hP5.el hlg).symm
    have nlg : lg ≠ g := (ne_of_none hG5.el hlg).symm
    have s5 := Same.upd (o := .lst []) hlg
    have hp5' : Box 1000 (upd H5 lg (.lst [])) p := Box.up (p := p) (Box.same (p := p) hp5 s5) (by decide)
    refine tSeq_i ⟨_, rfl, p, 41, 1000, rfl, hp5', by decide, by decide, by decide, fun d H6 f0 f1 hp6 b6 => ⟨_, rfl, by omega, by omega, for_range (lo := 0) (n := d.toNat) (fun i σ H' => Box (1001 + 6 * i) H' p ∧ Pl H' p pl zs ∧ Lts H' p g us ∧ (∃ vs, H' lg = some (.lst vs) ∧ vs.length = i ∧ ∀ u ∈ vs, EV H' u) ∧ ∃ v5 v6, σ = [some (.ref a), some (.ref p), some (.ref pl), some (.ref g), some (.ref lg), v5, v6, none, none]) ?_ ?_ ?_⟩⟩
    · exact ⟨hp6, (hP5.but (But.of s5)).but b6, (hG5.but (But.of s5) s5.kt).but b6 (Box.kt (d := 0) hp5' b6), ⟨[], b6 _ _ upd_same nlp, rfl, fun _ h => nomatch h⟩, _, _, rfl⟩
    · rintro i σ H7 hi ⟨hp7, hP7, hG7, ⟨vs, hv, hvl, hve⟩, v5, v6, rfl⟩
      show tSeq _ _ _ _ _
      refine tSeq_i ?_; walk_at "vc0"
      refine ⟨p, pl, g, _, zs, us, rfl, hp7, by omega, hP7, hG7, fun v H8 hd8 hp8 b8 => ?_⟩
      have k78 : KpT H7 H8 := Box.kt (d := 0) hp7 b8
      walk_at "vc0"
      refine ⟨.inl ⟨_, SqL.of (b8 _ _ hv nlp)⟩, p, 4, _, rfl, hp8, by omega, by decide, by decide, fun d' H9 _ _ hp9 b9 => ⟨d', rfl, by decide, fun t ht => ?_⟩⟩
      have s9 := Same.upd (o := .tup [v, V.bl (decide (0 < d'))]) ht
      have hv9 := s9 _ _ (b9 _ _ (b8 _ _ hv nlp) nlp)
      have k9 : KpT H8 (upd H9 t (.tup [v, V.bl (decide (0 < d'))])) := (Box.kt (d := 0) hp8 b9).trans s9.kt
      have kg := KpT.upd (ys := vs ++ [.ref t]) hv9
      have bB := (b8.trans b9).trans (But.of s9)
      refine ⟨vs, hv9, szt (by omega), ?_, ?_, ?_, ⟨vs ++ [.ref t], upd_same, by rw [List.length_append, hvl]; rfl, fun u hu => ?_⟩, _, rfl⟩
      · show BoxO _ (upd _ lg _ p)
        rw [upd_ne nlp.symm]
        exact Box.up (p := p) (Box.same (p := p) hp9 s9) (by omega)
      · have hPx := hP7.but bB
        exact ⟨by rw [upd_ne nll.symm]; exact hPx.el, hPx.np, hPx.lo, hPx.hi, hPx.nm⟩
      · have hGx := hG7.but bB (k78.trans k9)
        exact ⟨by rw [upd_ne nlg.symm]; exact hGx.el, hGx.np, hGx.lo, hGx.hi, fun v hv => (hGx.lt v hv).kp kg⟩
      · rcases List.mem_append.mp hu with hu | hu
        · exact (hve u hu).kp (k78.trans (k9.trans kg))
        · rw [List.mem_singleton.mp hu]
          obtain ⟨e, te, oe⟩ := hd8
          exact ⟨⟨e.w, e.t, e.r, decide (0 < d')⟩, Tr.kp kg (.tup upd_same (.cons (te.kp k9) (.cons (.bl _) .nil))), ⟨oe.ok⟩⟩
    · rintro σ H7 ⟨hp7, hP7, hG7, ⟨vs, hv, hvl, hve⟩, v5, v6, rfl⟩
      have hv41 : vs.length ≤ 41 := by omega
      dsimp only
      refine tSeq_i ?_; walk_at "vc0"
      refine ⟨_, SqL.of hv, p, _, _, rfl, hp7, by omega, by omega, by omega, fun at' H8 a0 a1 hp8 b8 => ?_⟩
      have k78 : KpT H7 H8 := Box.kt (d := 0) hp7 b8
      have hv8 := b8 _ _ hv nlp
      have he8 : ∀ u ∈ vs, EV H8 u := fun u hu => (hve u hu).kp k78
      refine tSeq_i ?_; walk_at "vc0"
      refine ⟨vs, SqL.of hv8, fun l1 hl1 => ⟨vs, SqL.of (Same.upd hl1 _ _ hv8), fun l2 hl2 => ?_⟩⟩
      have u1 := Same.upd (o := .lst (cutV vs none (some at'))) hl1
      have u2 := Same.upd (o := .lst (cutV vs (some at') none)) hl2
      have hv2 := u2 _ _ (u1 _ _ hv8)
      refine ⟨vs, SqL.of hv2, SqL.of hv2, fun l3 zs3 hl3 hz3 hm3 => ?_⟩
      have u3 := Same.upd (o := .lst zs3) hl3
      have s83 := (u1.trans u2).trans u3
      have cm : ∀ {lo hi y}, y ∈ cutV vs lo hi → y ∈ vs := fun h => List.mem_of_mem_drop (List.mem_of_mem_take h)
      have L1 : LsV _ (.ref l1) := ⟨l1, _, rfl, (u2.trans u3) _ _ upd_same, Nat.le_trans (cutV_length _ _ _) hv41, fun u hu => (he8 u (cm hu)).kp s83.kt⟩
      have L2 : LsV _ (.ref l2) := ⟨l2, _, rfl, u3 _ _ upd_same, Nat.le_trans (cutV_length _ _ _) hv41, fun u hu => (he8 u (cm hu)).kp s83.kt⟩
      have L3 : LsV (upd (upd (upd H8 l1 (.lst (cutV vs none (some at')))) l2 (.lst (cutV vs (some at') none))) l3 (.lst zs3)) (.ref l3) := ⟨l3, zs3, rfl, upd_same, by omega, fun u hu => (he8 u (hm3 u hu)).kp s83.kt⟩
      have hvG := s83 _ _ hv8
      have heG : ∀ u ∈ vs, EV _ u := fun u hu => (he8 u hu).kp s83.kt
      generalize upd (upd (upd H8 l1 (.lst (cutV vs none (some at')))) l2 (.lst (cutV vs (some at') none))) l3 (.lst zs3) = G at L1 L2 L3 hvG heG
      have L0 : LsV G (.ref lg) := ⟨lg, vs, rfl, hvG, hv41, heG⟩
      refine ⟨_, rfl, lg, rfl, ⟨_, SqL.of hvG⟩, fun l4 hl4 => comp_ents (Itl K lg) vs id (fun _ => true) (fun G _ y => EV G y) (fun σ => ∃ o1 o2, σ = [o1, o2]) ⟨_, _, rfl⟩ hl4 (szt (by omega)) (fun H' s => ⟨vs, SqL.of (s _ _ hvG), Nat.le_refl _⟩) (fun i H' hi s => ⟨vs, vs[i], SqL.of (s _ _ hvG), by simp [hi]⟩) (fun i H1 v H2 hi s y => ⟨y.1, v, y.2 _ (SqL.of (s _ _ hvG)), rfl⟩) (fun _ _ _ _ k r => r.kp k) ?_ ?_⟩
      · rintro v σ H9 ys N hv ⟨o1, o2, rfl⟩ s9 hl9 hz n1 n2
        obtain ⟨e, te, oe⟩ := (heG v hv).kp s9.kt
        obtain ⟨t, us', rfl, ht, hts⟩ := Tr.tup' (show Tr H9 (.tup [dP e, .bl e.b]) v from te)
        cases hts with
        | cons a1 r1 =>
          cases r1 with
          | cons a2 r2 =>
            cases r2
            cases a2
            unfold turnOf
            walk_at "vc4"
            refine ⟨_, SqT.of ht, rfl, _, _, rfl, _, _, rfl, rfl, _, rfl, by decide, fun t2 ht2 => ⟨ys, Same.upd ht2 _ _ hl9, hz, n2 rfl _ _ _ ⟨_, _, rfl⟩ (Same.upd ht2) ?_⟩⟩
            exact ⟨⟨e.w, e.t, e.r, !e.b⟩, .tup upd_same (.cons (a1.kp (Same.upd ht2).kt) (.cons (.bl _) .nil)), ⟨oe.ok⟩⟩
      · intro H9 ys s9 py hl9
        have L4 : LsV H9 (.ref l4) := by
          obtain ⟨zz, z1, z2, z3⟩ := Paired.zipP py
          have hle := Paired.length py
          have hlf := List.length_filter_le (fun _ : V => true) vs
          refine ⟨l4, ys, rfl, hl9, by omega, fun u hu => ?_⟩
          rw [← z2] at hu
          obtain ⟨z, hz, rfl⟩ := List.mem_map.mp hu
          exact z3 z hz
        refine ⟨by decide, fun l5 hl5 => ?_⟩
        have u5 := Same.upd (o := .lst [V.ref lg, V.ref l1, V.ref l2, V.ref l3, V.ref l4, V.ref lg]) hl5
        have hL : ∀ v ∈ [V.ref lg, V.ref l1, V.ref l2, V.ref l3, V.ref l4, V.ref lg], LsV (upd H9 l5 (.lst [V.ref lg, V.ref l1, V.ref l2, V.ref l3, V.ref l4, V.ref lg])) v := fun v hv => by
          simp only [List.mem_cons, List.mem_nil_iff, or_false] at hv
          rcases hv with rfl | rfl | rfl | rfl | rfl | rfl
          · exact L0.same (s9.trans u5)
          · exact L1.same (s9.trans u5)
          · exact L2.same (s9.trans u5)
          · exact L3.same (s9.trans u5)
          · exact L4.same u5
          · exact L0.same (s9.trans u5)
        have e5 : upd H9 l5 (.lst [V.ref lg, V.ref l1, V.ref l2, V.ref l3, V.ref l4, V.ref lg]) l5 = some (.lst [V.ref lg, V.ref l1, V.ref l2, V.ref l3, V.ref l4, V.ref lg]) := upd_same
        generalize upd H9 l5 (.lst [V.ref lg, V.ref l1, V.ref l2, V.ref l3, V.ref l4, V.ref lg]) = G5 at hL e5
        refine ⟨_, rfl, l5, rfl, ⟨_, SqL.of e5⟩, fun l6 hl6 => comp_ents (Itl K l5) [V.ref lg, V.ref l1, V.ref l2, V.ref l3, V.ref l4, V.ref lg] id (fun _ => true) (fun _ _ y => y = .bl true) (fun σ => ∃ o, σ = [o]) ⟨_, rfl⟩ hl6 (szt (by show 6 < _; decide)) (fun H' s => ⟨_, SqL.of (s _ _ e5), Nat.le_refl _⟩) (fun i H' hi s => ⟨_, _, SqL.of (s _ _ e5), List.getElem?_eq_getElem hi⟩) (fun i H1 v H2 hi s y => ⟨y.1, v, y.2 _ (SqL.of (s _ _ e5)), rfl⟩) (fun _ _ _ _ _ r => r) ?_ ?_⟩
        · rintro v σ H10 ys N hv ⟨o, rfl⟩ s10 hl10 hz n1 n2
          obtain ⟨x, vs', rfl, hx, hxl, hxe⟩ := (hL v hv).same s10
          obtain ⟨es, h1, h2⟩ := ev_all hxe
          have hel : es.length = vs'.length := by rw [← h1.length, List.length_map]
          unfold turnOf
          walk_at "vc4"
          refine ⟨vs', SqL.of hx, fun t ht => ⟨t, es, rfl, ⟨.tup upd_same (h1.kp (Same.upd ht).kt), by omega, h2⟩, fun H11 s11 => ⟨ys, s11 _ _ (Same.upd ht _ _ hl10), hz, n2 rfl _ _ _ ⟨_, rfl⟩ ((Same.upd ht).trans s11) rfl⟩⟩⟩
        · intro H10 ys s10 py hl10
          have ey := Paired.eqMap (f := fun _ => V.bl true) py
          refine ⟨l6, rfl, [true, true, true, true, true, true], SqL.of (by rw [hl10, ey]; rfl), q _⟩
end
theorem all_mk {l : PySem.W.OpenLaw} {w : World} {K : PySem.W.Frag} {h : Heap} {mg : Str → Option Value} {fa f0 f1 f2 f3 f4 f5 f6 f7 f8 f9 f10 f11 f12 f13 f14 f15 : Addr} (X : K.In h) (G : h.Ns mainGlobals mg) (hfa : mg "law" = some (.ref fa))
    {od0 an0 od1 an1 od2 an2 od3 an3 od4 an4 od5 an5 od6 an6 od7 an7 od8 an8 od9 an9 od10 an10 od11 an11 od12 an12 od13 an13 od14 an14 od15 an15 : Option Addr} {sl0 sl1 sl2 sl3 sl4 sl5 sl6 sl7 sl8 sl9 sl10 sl11 sl12 sl13 sl14 sl15 : Array (Option Value)} {oc0 kV0 dc0 pm0 cd0 ct0 oc1 kV1 dc1 pm1 cd1 ct1 oc2 kV2 dc2 pm2 cd2 ct2 oc3 kV3 dc3 pm3 cd3 ct3 oc4 kV4 dc4 pm4 cd4 ct4 oc5 kV5 dc5 pm5 cd5 ct5 oc6 kV6 dc6 pm6 cd6 ct6 oc7 kV7 dc7 pm7 cd7 ct7 oc8 kV8 dc8 pm8 cd8 ct8 oc9 kV9 dc9 pm9 cd9 ct9 oc10 kV10 dc10 pm10 cd10 ct10 oc11 kV11 dc11 pm11 cd11 ct11 oc12 kV12 dc12 pm12 cd12 ct12 oc13 kV13 dc13 pm13 cd13 ct13 oc14 kV14 dc14 pm14 cd14 ct14 oc15 kV15 dc15 pm15 cd15 ct15 : Value} 
    (a0 : PySem.W.nsIn K mainGlobals "last_deeds" = some (some (.ref f0))) (l0 : K.lookup f0 = some ⟨oc0, od0, .func (PySem.W.fnOf "last_deeds" "last_deeds" (defArgs s_last_deeds) (defBody s_last_deeds) (defScope s_last_deeds) .none kV0 dc0 pm0 an0 cd0 ct0), sl0⟩) (c0 : PySem.W.codeIn K cd0 "last_deeds" = true) (k0 : PySem.W.keepIn K (.ref f0) = true)
    (a1 : PySem.W.nsIn K mainGlobals "pack_of" = some (some (.ref f1))) (l1 : K.lookup f1 = some ⟨oc1, od1, .func (PySem.W.fnOf "pack_of" "pack_of" (defArgs s_pack_of) (defBody s_pack_of) (defScope s_pack_of) .none kV1 dc1 pm1 an1 cd1 ct1), sl1⟩) (c1 : PySem.W.codeIn K cd1 "pack_of" = true) (k1 : PySem.W.keepIn K (.ref f1) = true)
    (a2 : PySem.W.nsIn K mainGlobals "marks_of" = some (some (.ref f2))) (l2 : K.lookup f2 = some ⟨oc2, od2, .func (PySem.W.fnOf "marks_of" "marks_of" (defArgs s_marks_of) (defBody s_marks_of) (defScope s_marks_of) .none kV2 dc2 pm2 an2 cd2 ct2), sl2⟩) (c2 : PySem.W.codeIn K cd2 "marks_of" = true) (k2 : PySem.W.keepIn K (.ref f2) = true)
    (a3 : PySem.W.nsIn K mainGlobals "reads_of" = some (some (.ref f3))) (l3 : K.lookup f3 = some ⟨oc3, od3, .func (PySem.W.fnOf "reads_of" "reads_of" (defArgs s_reads_of) (defBody s_reads_of) (defScope s_reads_of) .none kV3 dc3 pm3 an3 cd3 ct3), sl3⟩) (c3 : PySem.W.codeIn K cd3 "reads_of" = true) (k3 : PySem.W.keepIn K (.ref f3) = true)
    (a4 : PySem.W.nsIn K mainGlobals "_law_start" = some (some (.ref f4))) (l4 : K.lookup f4 = some ⟨oc4, od4, .func (PySem.W.fnOf "_law_start" "_law_start" (defArgs s_law_start) (defBody s_law_start) (defScope s_law_start) .none kV4 dc4 pm4 an4 cd4 ct4), sl4⟩) (c4 : PySem.W.codeIn K cd4 "_law_start" = true) (k4 : PySem.W.keepIn K (.ref f4) = true)
    (a5 : PySem.W.nsIn K mainGlobals "_law_take" = some (some (.ref f5))) (l5 : K.lookup f5 = some ⟨oc5, od5, .func (PySem.W.fnOf "_law_take" "_law_take" (defArgs s_law_take) (defBody s_law_take) (defScope s_law_take) .none kV5 dc5 pm5 an5 cd5 ct5), sl5⟩) (c5 : PySem.W.codeIn K cd5 "_law_take" = true) (k5 : PySem.W.keepIn K (.ref f5) = true)
    (a6 : PySem.W.nsIn K mainGlobals "_law_name" = some (some (.ref f6))) (l6 : K.lookup f6 = some ⟨oc6, od6, .func (PySem.W.fnOf "_law_name" "_law_name" (defArgs s_law_name) (defBody s_law_name) (defScope s_law_name) .none kV6 dc6 pm6 an6 cd6 ct6), sl6⟩) (c6 : PySem.W.codeIn K cd6 "_law_name" = true) (k6 : PySem.W.keepIn K (.ref f6) = true)
    (a7 : PySem.W.nsIn K mainGlobals "_law_pool" = some (some (.ref f7))) (l7 : K.lookup f7 = some ⟨oc7, od7, .func (PySem.W.fnOf "_law_pool" "_law_pool" (defArgs s_law_pool) (defBody s_law_pool) (defScope s_law_pool) .none kV7 dc7 pm7 an7 cd7 ct7), sl7⟩) (c7 : PySem.W.codeIn K cd7 "_law_pool" = true) (k7 : PySem.W.keepIn K (.ref f7) = true)
    (a8 : PySem.W.nsIn K mainGlobals "_law_of" = some (some (.ref f8))) (l8 : K.lookup f8 = some ⟨oc8, od8, .func (PySem.W.fnOf "_law_of" "_law_of" (defArgs s_law_of) (defBody s_law_of) (defScope s_law_of) .none kV8 dc8 pm8 an8 cd8 ct8), sl8⟩) (c8 : PySem.W.codeIn K cd8 "_law_of" = true) (k8 : PySem.W.keepIn K (.ref f8) = true)
    (a9 : PySem.W.nsIn K mainGlobals "_law_names" = some (some (.ref f9))) (l9 : K.lookup f9 = some ⟨oc9, od9, .func (PySem.W.fnOf "_law_names" "_law_names" (defArgs s_law_names) (defBody s_law_names) (defScope s_law_names) .none kV9 dc9 pm9 an9 cd9 ct9), sl9⟩) (c9 : PySem.W.codeIn K cd9 "_law_names" = true) (k9 : PySem.W.keepIn K (.ref f9) = true)
    (a10 : PySem.W.nsIn K mainGlobals "_law_letters" = some (some (.ref f10))) (l10 : K.lookup f10 = some ⟨oc10, od10, .func (PySem.W.fnOf "_law_letters" "_law_letters" (defArgs s_law_letters) (defBody s_law_letters) (defScope s_law_letters) .none kV10 dc10 pm10 an10 cd10 ct10), sl10⟩) (c10 : PySem.W.codeIn K cd10 "_law_letters" = true) (k10 : PySem.W.keepIn K (.ref f10) = true)
    (a11 : PySem.W.nsIn K mainGlobals "_law_deed" = some (some (.ref f11))) (l11 : K.lookup f11 = some ⟨oc11, od11, .func (PySem.W.fnOf "_law_deed" "_law_deed" (defArgs s_law_deed) (defBody s_law_deed) (defScope s_law_deed) .none kV11 dc11 pm11 an11 cd11 ct11), sl11⟩) (c11 : PySem.W.codeIn K cd11 "_law_deed" = true) (k11 : PySem.W.keepIn K (.ref f11) = true)
    (a12 : PySem.W.nsIn K mainGlobals "_law_said" = some (some (.ref f12))) (l12 : K.lookup f12 = some ⟨oc12, od12, .func (PySem.W.fnOf "_law_said" "_law_said" (defArgs s_law_said) (defBody s_law_said) (defScope s_law_said) .none kV12 dc12 pm12 an12 cd12 ct12), sl12⟩) (c12 : PySem.W.codeIn K cd12 "_law_said" = true) (k12 : PySem.W.keepIn K (.ref f12) = true)
    (a13 : PySem.W.nsIn K mainGlobals "_law_kept_by" = some (some (.ref f13))) (l13 : K.lookup f13 = some ⟨oc13, od13, .func (PySem.W.fnOf "_law_kept_by" "_law_kept_by" (defArgs s_law_kept_by) (defBody s_law_kept_by) (defScope s_law_kept_by) .none kV13 dc13 pm13 an13 cd13 ct13), sl13⟩) (c13 : PySem.W.codeIn K cd13 "_law_kept_by" = true) (k13 : PySem.W.keepIn K (.ref f13) = true)
    (a14 : PySem.W.nsIn K mainGlobals "_law_right" = some (some (.ref f14))) (l14 : K.lookup f14 = some ⟨oc14, od14, .func (PySem.W.fnOf "_law_right" "_law_right" (defArgs s_law_right) (defBody s_law_right) (defScope s_law_right) .none kV14 dc14 pm14 an14 cd14 ct14), sl14⟩) (c14 : PySem.W.codeIn K cd14 "_law_right" = true) (k14 : PySem.W.keepIn K (.ref f14) = true)
    (a15 : PySem.W.nsIn K mainGlobals "law" = some (some (.ref f15))) (l15 : K.lookup f15 = some ⟨oc15, od15, .func (PySem.W.fnOf "law" "law" (defArgs s_law) (defBody s_law) (defScope s_law) .none kV15 dc15 pm15 an15 cd15 ct15), sl15⟩) (c15 : PySem.W.codeIn K cd15 "law" = true) (k15 : PySem.W.keepIn K (.ref f15) = true)
    (z_enumerate : PySem.W.nsIn K mainGlobals "enumerate" = some none)
    (z_tuple : PySem.W.nsIn K mainGlobals "tuple" = some none)
    (z_sorted : PySem.W.nsIn K mainGlobals "sorted" = some none)
    (z_range : PySem.W.nsIn K mainGlobals "range" = some none)
    (z_len : PySem.W.nsIn K mainGlobals "len" = some none)
    (z_repr : PySem.W.nsIn K mainGlobals "repr" = some none)
    (z_all : PySem.W.nsIn K mainGlobals "all" = some none)
    : ∃ fd : FuncData, (∀ (s : Shared) (v : Value), BindsTo s fd ⟨[v], []⟩ [("_law_script", v)]) ∧ ∀ base : Heap, K.In base → base.Ns mainGlobals mg → FnOk l.prog w K mg base CX0 5 fa fd ["_law_script"] (spLaw K) := by
  have e := hfa.symm.trans (PySem.W.mg_of X G a15)
  cases e
  have F0 := fun_mk (st := s_last_deeds) l0 c0 k0
  have b0 := F0.binds (ps := ["log", "words"]) fun _ _ _ _ _ _ us hl => match us, hl with | [_, _], _ => rfl
  have F1 := fun_mk (st := s_pack_of) l1 c1 k1
  have b1 := F1.binds (ps := ["log"]) fun _ _ _ _ _ _ us hl => match us, hl with | [_], _ => rfl
  have F2 := fun_mk (st := s_marks_of) l2 c2 k2
  have b2 := F2.binds (ps := ["log"]) fun _ _ _ _ _ _ us hl => match us, hl with | [_], _ => rfl
  have F3 := fun_mk (st := s_reads_of) l3 c3 k3
  have b3 := F3.binds (ps := ["log"]) fun _ _ _ _ _ _ us hl => match us, hl with | [_], _ => rfl
  have F4 := fun_mk (st := s_law_start) l4 c4 k4
  have b4 := F4.binds (ps := ["_law_script"]) fun _ _ _ _ _ _ us hl => match us, hl with | [_], _ => rfl
  have F5 := fun_mk (st := s_law_take) l5 c5 k5
  have b5 := F5.binds (ps := ["_law_state", "_law_many"]) fun _ _ _ _ _ _ us hl => match us, hl with | [_, _], _ => rfl
  have F6 := fun_mk (st := s_law_name) l6 c6 k6
  have b6 := F6.binds (ps := ["_law_state"]) fun _ _ _ _ _ _ us hl => match us, hl with | [_], _ => rfl
  have F7 := fun_mk (st := s_law_pool) l7 c7 k7
  have b7 := F7.binds (ps := ["_law_state", "_law_many"]) fun _ _ _ _ _ _ us hl => match us, hl with | [_, _], _ => rfl
  have F8 := fun_mk (st := s_law_of) l8 c8 k8
  have b8 := F8.binds (ps := ["_law_state", "_law_some"]) fun _ _ _ _ _ _ us hl => match us, hl with | [_, _], _ => rfl
  have F9 := fun_mk (st := s_law_names) l9 c9 k9
  have b9 := F9.binds (ps := ["_law_state", "_law_many"]) fun _ _ _ _ _ _ us hl => match us, hl with | [_, _], _ => rfl
  have F10 := fun_mk (st := s_law_letters) l10 c10 k10
  have b10 := F10.binds (ps := ["_law_state", "_law_pool_here", "_law_many"]) fun _ _ _ _ _ _ us hl => match us, hl with | [_, _, _], _ => rfl
  have F11 := fun_mk (st := s_law_deed) l11 c11 k11
  have b11 := F11.binds (ps := ["_law_state", "_law_pool_here", "_law_letters_here"]) fun _ _ _ _ _ _ us hl => match us, hl with | [_, _, _], _ => rfl
  have F12 := fun_mk (st := s_law_said) l12 c12 k12
  have b12 := F12.binds (ps := ["_law_log"]) fun _ _ _ _ _ _ us hl => match us, hl with | [_], _ => rfl
  have F13 := fun_mk (st := s_law_kept_by) l13 c13 k13
  have b13 := F13.binds (ps := ["_law_log"]) fun _ _ _ _ _ _ us hl => match us, hl with | [_], _ => rfl
  have F14 := fun_mk (st := s_law_right) l14 c14 k14
  have b14 := F14.binds (ps := ["_law_log"]) fun _ _ _ _ _ _ us hl => match us, hl with | [_], _ => rfl
  have F15 := fun_mk (st := s_law) l15 c15 k15
  have b15 := F15.binds (ps := ["_law_script"]) fun _ _ _ _ _ _ us hl => match us, hl with | [_], _ => rfl
  have T : Txt K mg (fun i => ([f0, f1, f2, f3, f4, f5, f6, f7, f8, f9, f10, f11, f12, f13, f14, fa] : List Addr).getD i 0) (fun i => ([PySem.W.fnOf "last_deeds" "last_deeds" (defArgs s_last_deeds) (defBody s_last_deeds) (defScope s_last_deeds) .none kV0 dc0 pm0 an0 cd0 ct0, PySem.W.fnOf "pack_of" "pack_of" (defArgs s_pack_of) (defBody s_pack_of) (defScope s_pack_of) .none kV1 dc1 pm1 an1 cd1 ct1, PySem.W.fnOf "marks_of" "marks_of" (defArgs s_marks_of) (defBody s_marks_of) (defScope s_marks_of) .none kV2 dc2 pm2 an2 cd2 ct2, PySem.W.fnOf "reads_of" "reads_of" (defArgs s_reads_of) (defBody s_reads_of) (defScope s_reads_of) .none kV3 dc3 pm3 an3 cd3 ct3, PySem.W.fnOf "_law_start" "_law_start" (defArgs s_law_start) (defBody s_law_start) (defScope s_law_start) .none kV4 dc4 pm4 an4 cd4 ct4, PySem.W.fnOf "_law_take" "_law_take" (defArgs s_law_take) (defBody s_law_take) (defScope s_law_take) .none kV5 dc5 pm5 an5 cd5 ct5, PySem.W.fnOf "_law_name" "_law_name" (defArgs s_law_name) (defBody s_law_name) (defScope s_law_name) .none kV6 dc6 pm6 an6 cd6 ct6, PySem.W.fnOf "_law_pool" "_law_pool" (defArgs s_law_pool) (defBody s_law_pool) (defScope s_law_pool) .none kV7 dc7 pm7 an7 cd7 ct7, PySem.W.fnOf "_law_of" "_law_of" (defArgs s_law_of) (defBody s_law_of) (defScope s_law_of) .none kV8 dc8 pm8 an8 cd8 ct8, PySem.W.fnOf "_law_names" "_law_names" (defArgs s_law_names) (defBody s_law_names) (defScope s_law_names) .none kV9 dc9 pm9 an9 cd9 ct9, PySem.W.fnOf "_law_letters" "_law_letters" (defArgs s_law_letters) (defBody s_law_letters) (defScope s_law_letters) .none kV10 dc10 pm10 an10 cd10 ct10, PySem.W.fnOf "_law_deed" "_law_deed" (defArgs s_law_deed) (defBody s_law_deed) (defScope s_law_deed) .none kV11 dc11 pm11 an11 cd11 ct11, PySem.W.fnOf "_law_said" "_law_said" (defArgs s_law_said) (defBody s_law_said) (defScope s_law_said) .none kV12 dc12 pm12 an12 cd12 ct12, PySem.W.fnOf "_law_kept_by" "_law_kept_by" (defArgs s_law_kept_by) (defBody s_law_kept_by) (defScope s_law_kept_by) .none kV13 dc13 pm13 an13 cd13 ct13, PySem.W.fnOf "_law_right" "_law_right" (defArgs s_law_right) (defBody s_law_right) (defScope s_law_right) .none kV14 dc14 pm14 an14 cd14 ct14, PySem.W.fnOf "law" "law" (defArgs s_law) (defBody s_law) (defScope s_law) .none kV15 dc15 pm15 an15 cd15 ct15] : List FuncData).getD i (PySem.W.fnOf "law" "law" (defArgs s_law) (defBody s_law) (defScope s_law) .none kV15 dc15 pm15 an15 cd15 ct15)) (fun i => ([] : List Addr).getD i 0) (fun i => ([] : List Value).getD i .none) := ⟨⟨F0, PySem.W.mg_of X G a0, b0⟩, ⟨F1, PySem.W.mg_of X G a1, b1⟩, ⟨F2, PySem.W.mg_of X G a2, b2⟩, ⟨F3, PySem.W.mg_of X G a3, b3⟩, ⟨F4, PySem.W.mg_of X G a4, b4⟩, ⟨F5, PySem.W.mg_of X G a5, b5⟩, ⟨F6, PySem.W.mg_of X G a6, b6⟩, ⟨F7, PySem.W.mg_of X G a7, b7⟩, ⟨F8, PySem.W.mg_of X G a8, b8⟩, ⟨F9, PySem.W.mg_of X G a9, b9⟩, ⟨F10, PySem.W.mg_of X G a10, b10⟩, ⟨F11, PySem.W.mg_of X G a11, b11⟩, ⟨F12, PySem.W.mg_of X G a12, b12⟩, ⟨F13, PySem.W.mg_of X G a13, b13⟩, ⟨F14, PySem.W.mg_of X G a14, b14⟩, ⟨F15, PySem.W.mg_of X G a15, b15⟩, PySem.W.mg_none_of X G z_enumerate, PySem.W.mg_none_of X G z_tuple, PySem.W.mg_none_of X G z_sorted, PySem.W.mg_none_of X G z_range, PySem.W.mg_none_of X G z_len, PySem.W.mg_none_of X G z_repr, PySem.W.mg_none_of X G z_all⟩
  refine ⟨PySem.W.fnOf "law" "law" (defArgs s_law) (defBody s_law) (defScope s_law) .none kV15 dc15 pm15 an15 cd15 ct15, fun s v => .of_eq rfl, fun base _ _ => ?_⟩
  have G_last_deeds := ok_last_deeds (P := l.prog) (w := w) (base := base) T 
  have G_law_start := ok_law_start (P := l.prog) (w := w) (base := base) T 
  have G_law_take := ok_law_take (P := l.prog) (w := w) (base := base) T 
  have G_law_said := ok_law_said (P := l.prog) (w := w) (base := base) T 
  have G_pack_of := ok_pack_of (P := l.prog) (w := w) (base := base) T G_last_deeds
  have G_marks_of := ok_marks_of (P := l.prog) (w := w) (base := base) T G_last_deeds
  have G_reads_of := ok_reads_of (P := l.prog) (w := w) (base := base) T G_last_deeds
  have G_law_name := ok_law_name (P := l.prog) (w := w) (base := base) T G_law_take
  have G_law_of := ok_law_of (P := l.prog) (w := w) (base := base) T G_law_take
  have G_law_kept_by := ok_law_kept_by (P := l.prog) (w := w) (base := base) T G_law_said
  have G_law_pool := ok_law_pool (P := l.prog) (w := w) (base := base) T G_law_name
  have G_law_letters := ok_law_letters (P := l.prog) (w := w) (base := base) T G_law_take G_law_of
  have G_law_deed := ok_law_deed (P := l.prog) (w := w) (base := base) T G_law_take G_law_of
  have G_law_right := ok_law_right (P := l.prog) (w := w) (base := base) T G_pack_of G_marks_of G_reads_of G_law_kept_by
  have G_law_names := ok_law_names (P := l.prog) (w := w) (base := base) T G_law_pool
  exact ok_law T G_law_start G_law_names G_law_letters G_law_take G_law_deed G_law_right
theorem walk {l : PySem.W.OpenLaw} {q : Program} {loose : List Str} {XP : (Str → Option Value) → Heap → Prop} {YP : World → Heap → Prop} {d : DefRec} {K : Params → PySem.W.Frag} (hn : l.most = some 63) (hdf : d.params.defaults = [])
    (hY : ∀ (w : World) (h : Heap), YP w h → (K w.params).In h)
    (F : ∀ (w : World) (mg : Str → Option Value) (fa : Addr) (h : Heap), (K w.params).In h → h.Ns mainGlobals mg → mg d.name = some (.ref fa) →
      ∃ fd : FuncData, (∀ (s : Shared) (u : Value), BindsTo s fd ⟨[u], []⟩ [("_law_script", u)]) ∧ ∀ base : Heap, (K w.params).In base → base.Ns mainGlobals mg → FnOk l.prog w (K w.params) mg base CX0 5 fa fd ["_law_script"] (spLaw (K w.params))) :
    PySem.W.WalkO q loose XP YP l.row.toRowW d [] (fun f vs => PySem.call f vs) :=
  L2.walk_of (n := 63) (k := 5) (x := "_law_script") (CX := fun _ => CX0) (sp := fun w => spLaw (K w.params)) hn (by decide) hdf ⟨rfl, by decide, by decide, rfl⟩ hY F (fun _ _ a ns hl _ hS => ⟨a, ns, rfl, hS, hl, fun _ => rfl⟩) fun _ _ _ _ _ z => z
end My
open PySem PySem.W PyProof.Rows
set_option maxRecDepth 100000 in
set_option maxHeartbeats 0 in
theorem PySem.Challenge.cw_answertrees_k49_what_a_log_leaves_holds : PySem.Challenge.rw_answertrees_k49_what_a_log_leaves.Holds := by
  w_on; o_law; k_head; (case hw => w_witness2)
  k_fill
  refine My.walk (l := PySem.Challenge.rw_answertrees_k49_what_a_log_leaves) rfl rfl (fun w h Y => PySem.W.kIn_of Y) ?F
  case F =>
    intro w mg fa h KX G hmg
    refine' My.all_mk KX G hmg ?a0 ?l0 ?c0 ?k0 ?a1 ?l1 ?c1 ?k1 ?a2 ?l2 ?c2 ?k2 ?a3 ?l3 ?c3 ?k3 ?a4 ?l4 ?c4 ?k4 ?a5 ?l5 ?c5 ?k5 ?a6 ?l6 ?c6 ?k6 ?a7 ?l7 ?c7 ?k7 ?a8 ?l8 ?c8 ?k8 ?a9 ?l9 ?c9 ?k9 ?a10 ?l10 ?c10 ?k10 ?a11 ?l11 ?c11 ?k11 ?a12 ?l12 ?c12 ?k12 ?a13 ?l13 ?c13 ?k13 ?a14 ?l14 ?c14 ?k14 ?a15 ?l15 ?c15 ?k15 ?z_enumerate ?z_tuple ?z_sorted ?z_range ?z_len ?z_repr ?z_all
    (case a0 => k_is)
    (case l0 => k_is)
    (case c0 => k_is)
    (case k0 => k_is)
    (case a1 => k_is)
    (case l1 => k_is)
    (case c1 => k_is)
    (case k1 => k_is)
    (case a2 => k_is)
    (case l2 => k_is)
    (case c2 => k_is)
    (case k2 => k_is)
    (case a3 => k_is)
    (case l3 => k_is)
    (case c3 => k_is)
    (case k3 => k_is)
    (case a4 => k_is)
    (case l4 => k_is)
    (case c4 => k_is)
    (case k4 => k_is)
    (case a5 => k_is)
    (case l5 => k_is)
    (case c5 => k_is)
    (case k5 => k_is)
    (case a6 => k_is)
    (case l6 => k_is)
    (case c6 => k_is)
    (case k6 => k_is)
    (case a7 => k_is)
    (case l7 => k_is)
    (case c7 => k_is)
    (case k7 => k_is)
    (case a8 => k_is)
    (case l8 => k_is)
    (case c8 => k_is)
    (case k8 => k_is)
    (case a9 => k_is)
    (case l9 => k_is)
    (case c9 => k_is)
    (case k9 => k_is)
    (case a10 => k_is)
    (case l10 => k_is)
    (case c10 => k_is)
    (case k10 => k_is)
    (case a11 => k_is)
    (case l11 => k_is)
    (case c11 => k_is)
    (case k11 => k_is)
    (case a12 => k_is)
    (case l12 => k_is)
    (case c12 => k_is)
    (case k12 => k_is)
    (case a13 => k_is)
    (case l13 => k_is)
    (case c13 => k_is)
    (case k13 => k_is)
    (case a14 => k_is)
    (case l14 => k_is)
    (case c14 => k_is)
    (case k14 => k_is)
    (case a15 => k_is)
    (case l15 => k_is)
    (case c15 => k_is)
    (case k15 => k_is)
    (case z_enumerate => k_is)
    (case z_tuple => k_is)
    (case z_sorted => k_is)
    (case z_range => k_is)
    (case z_len => k_is)
    (case z_repr => k_is)
    (case z_all => k_is)
#print axioms PySem.Challenge.cw_answertrees_k49_what_a_log_leaves_holds

