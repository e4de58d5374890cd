import PyProof.Rows.All
import Wide.All
import OpenK.AllK
import Wide.FinOn
import Lean
import PyProof.EqAt
import PyProof.EqKinds
import PyProof.TupleCall
import PySem.Challenge.RW_answertrees_k13_what_are_marks
set_option compiler.extract_closed false
set_option Elab.async false
set_option linter.all false
set_option maxRecDepth 100000
namespace L2
open PySem PySem.Spec PyProof.Rows
noncomputable abbrev Key := Sum Int Str
noncomputable def jH : Key → Value → Bool
 | .inl k, v => Value.isInt k v
 | .inr x, v => Value.isStrOf x v
noncomputable def UL (w : World) : Key → Int
 | .inl k => hashInt k
 | .inr x => hashStr w x
theorem cK : ∀ {k : Key} {v : Value}, jH k v = true → (∃ i t, k = Sum.inl i ∧ v = Value.int i t) ∨ (∃ x t, k = Sum.inr x ∧ v = Value.str x t)
 | .inl i, v, h => by
  obtain ⟨t, e⟩ := Value.isInt_shape (k := i) (v := v) h
  exact .inl ⟨i, t, rfl, e⟩
 | .inr x, v, h => by
  obtain ⟨t, e⟩ := Value.isStrOf_shape (x := x) (v := v) h
  exact .inr ⟨x, t, rfl, e⟩
theorem CF (i : Int) (t : Tok) : jH (.inl i) (.int i t) = true := by simp [jH, Value.isInt]
theorem CN (x : Str) (t : Tok) : jH (.inr x) (.str x t) = true := by simp [jH, Value.isStrOf]
theorem OX (a b : Int) : decide ((Sum.inl a : Key) = Sum.inl b) = (a == b) := by
 by_cases e : a = b
 ·subst e; simp
 ·have h : ¬ (Sum.inl a : Key) = Sum.inl b := fun q => e (Sum.inl.inj q)
  rw [decide_eq_false h]
  exact (beq_eq_false_iff_ne.mpr e).symm
theorem RC (a b : Str) : decide ((Sum.inr a : Key) = Sum.inr b) = decide (a = b) := by
 by_cases e : a = b
 ·subst e; simp
 ·have h : ¬ (Sum.inr a : Key) = Sum.inr b := fun q => e (Sum.inr.inj q)
  rw [decide_eq_false h, decide_eq_false e]
theorem N1 (a : Int) (b : Str) : decide ((Sum.inl a : Key) = Sum.inr b) = false := decide_eq_false (fun q => nomatch q)
theorem NR (a : Str) (b : Int) : decide ((Sum.inr a : Key) = Sum.inl b) = false := decide_eq_false (fun q => nomatch q)
noncomputable def cN (prog : Program) (w : World) : PySem.KeyKind prog w Key where
 is := jH
 hash := UL w
 inj := fun v a b ha hb => by
  rcases cK ha with ⟨i, t, rfl, rfl⟩ | ⟨x, t, rfl, rfl⟩
  ·rcases cK hb with ⟨j, u, rfl, e⟩ | ⟨y, u, rfl, e⟩
   ·injection e with e1 _; rw [e1]
   ·exact nomatch e
  ·rcases cK hb with ⟨j, u, rfl, e⟩ | ⟨y, u, rfl, e⟩
   ·exact nomatch e
   ·injection e with e1 _; rw [e1]
 byValue := fun k v h => by
  rcases cK h with ⟨i, t, rfl, rfl⟩ | ⟨x, t, rfl, rfl⟩ <;> rfl
 pyHash := fun hv h => by
  rcases cK hv with ⟨i, t, rfl, rfl⟩ | ⟨x, t, rfl, rfl⟩
  ·exact wpAny_pyHash_int h
  ·exact wpAny_pyHash_str h
 eqBool := fun hu hv h => by
  rcases cK hu with ⟨i, t, rfl, rfl⟩ | ⟨x, t, rfl, rfl⟩
  ·rcases cK hv with ⟨j, u, rfl, rfl⟩ | ⟨y, u, rfl, rfl⟩
   ·rw [OX] at h; exact wpAny_eqBool_int h
   ·rw [N1] at h; exact SeqAt.EqAt.int_str i t y u _ _ _ _ h
  ·rcases cK hv with ⟨j, u, rfl, rfl⟩ | ⟨y, u, rfl, rfl⟩
   ·rw [NR] at h; exact SeqAt.EqAt.str_int x t j u _ _ _ _ h
   ·rw [RC] at h; exact wpAny_eqBool_str h
 «strs» := fun k x t v h => by
  rcases cK h with ⟨i, u, rfl, e⟩ | ⟨y, u, rfl, e⟩
  ·exact nomatch e
  ·injection e with e1 _
   subst e1
   cases v <;> rfl
theorem xJ (prog : Program) (w : World) (i : Int) (t : Tok) : (cN prog w).is (.inl i) (.int i t) = true := CF i t
theorem xT (prog : Program) (w : World) (x : Str) (t : Tok) : (cN prog w).is (.inr x) (.str x t) = true := CN x t
end L2
namespace L2
open PySem PySem.Spec PyProof.Rows
inductive V where
 | aZ | bl (b : Bool) | int (i : Int) | str (x : Str) | WC (b : Array UInt8) | T5 (b : UInt64) | ref (a : Addr) | ty (n : String)
 deriving DecidableEq
noncomputable def RelV : V → Value → Prop
 | .aZ, u => u = Value.none
 | .bl b, u => u = Value.bool b
 | .int i, u => ∃ t, u = Value.int i t
 | .str x, u => ∃ t, u = Value.str x t
 | .WC b, u => ∃ t, u = Value.bytes b t
 | .T5 b, u => ∃ t, u = Value.float b t
 | .ref a, u => u = Value.ref a
 | .ty n, u => u = Value.type n
noncomputable abbrev Vals : List V → List Value → Prop := Paired RelV
theorem Vals.length {xs : List V} {us : List Value} (r : Vals xs us) : xs.length = us.length := Paired.length r
theorem Vals.get : ∀ {xs : List V} {us : List Value} {i : Nat} {x : V}, Vals xs us → xs[i]? = some x → ∃ u, us[i]? = some u ∧ RelV x u
 | _, _, _, _, .nil, e => by simp at e
 | _, _, 0, _, .cons r _, e => by simp at e; subst e; exact ⟨_, rfl, r⟩
 | _, _, i + 1, x, .cons _ t, e => by
  obtain ⟨u, h1, h2⟩ := Vals.get (i := i) (x := x) t (by simpa using e)
  exact ⟨u, by simpa using h1, h2⟩
theorem Vals.set {x : V} {u : Value} (r : RelV x u) : ∀ {xs : List V} {us : List Value} (i : Nat), Vals xs us → Vals (xs.set i x) (us.set i u)
 | _, _, _, .nil => .nil
 | _, _, 0, .cons _ t => .cons r t
 | _, _, i + 1, .cons q t => .cons q (Vals.set r i t)
theorem Vals.append : ∀ {xs ys : List V} {us ws : List Value}, Vals xs us → Vals ys ws → Vals (xs ++ ys) (us ++ ws)
 | _, _, _, _, .nil, s => s
 | _, _, _, _, .cons r t, s => .cons r (Vals.append t s)
theorem Vals.take : ∀ {xs : List V} {us : List Value} (n : Nat), Vals xs us → Vals (xs.take n) (us.take n)
 | _, _, 0, _ => .nil
 | _, _, _ + 1, .nil => .nil
 | _, _, n + 1, .cons r t => .cons r (Vals.take n t)
theorem Vals.drop : ∀ {xs : List V} {us : List Value} (n : Nat), Vals xs us → Vals (xs.drop n) (us.drop n)
 | _, _, 0, r => r
 | _, _, _ + 1, .nil => .nil
 | _, _, n + 1, .cons _ t => Vals.drop n t
theorem Vals.none_of : ∀ {xs : List V} {us : List Value} {i : Nat}, Vals xs us → xs[i]? = none → us[i]? = none := fun {xs us i} r e => by
 have h1 := r.length
 have h2 : xs.length ≤ i := List.getElem?_eq_none_iff.mp e
 exact List.getElem?_eq_none_iff.mpr (by omega)
noncomputable def nT : Option V → Option Value → Prop
 | some v, some u => RelV v u
 | none, none => True
 | _, _ => False
noncomputable def KV {κ : Type} : List (κ × V) → List (κ × Value) → Prop := Paired fun (p : κ × V) (q : κ × Value) => p.1 = q.1 ∧ RelV p.2 q.2
noncomputable def kV : Key → V
 | .inl i => .int i
 | .inr x => .str x
inductive HO where
 | lst (xs : List V)
 | tup (xs : List V)
 | dK (kvs : List (Key × V)) (ep : Nat) | dT (kvs : List (List Key × V))
 | set (S : Int → Bool) (n : Nat)
 | ins (C dx : Addr) (fs : List (Str × V))
 | own (x : Addr)
 | xd (fs : List (Str × V))
 | met (f x : Addr)
 | XA (lo hi : Int)
 | D1 (o : Obj) (u : HO)
 | P7 (ps : Array Value)
 | ext (φ : Heap → Prop)
noncomputable abbrev Hp := Addr → Option HO
noncomputable def upd (H : Hp) (a : Addr) (o : HO) : Hp := fun b => if b = a then some o else H b
theorem cG {H : Hp} {a : Addr} {o : HO} : upd H a o a = some o := by unfold upd; rw [if_pos rfl]
theorem bL {H : Hp} {a b : Addr} {o : HO} (h : b ≠ a) : upd H a o b = H b := by unfold upd; rw [if_neg h]
theorem K6 {H : Hp} {a : Addr} {o u : HO} : upd (upd H a o) a u = upd H a u := by
 funext b; unfold upd; split <;> rfl
theorem G5 {H : Hp} {a b : Addr} {o u : HO} (h : H a = some o) (h' : H b = some u) (d : o ≠ u) : a ≠ b := by
 intro e; subst e; rw [h] at h'; exact d (Option.some.inj h')
theorem dM {H : Hp} {a b : Addr} {o : HO} (h : H a = some o) (h' : H b = none) : a ≠ b := by
 intro e; subst e; rw [h] at h'; cases h'
section
variable (P : Program) (w : World)
noncomputable def fS (H : Hp) (h : Heap) (a : Addr) : HO → Prop
 | .lst xs => xs.length ≤ sizeLine ∧ ∃ (its : List Value) (n : Nat), Vals xs its ∧ h.get? a = some { cls := .type "list", data := .seq its.toArray n }
 | .tup xs => xs.length ≤ sizeLine ∧ ∃ its : List Value, Vals xs its ∧ IsTup h a its.toArray
 | .dK kvs ep => kvs.length ≤ sizeLine ∧ (a == sysModules) = false ∧ ∃ vs, KV kvs vs ∧ h.DictAt (cN P w) a vs ep
 | .dT kvs => kvs.length ≤ sizeLine ∧ (a == sysModules) = false ∧ ∃ xs : List (List Key × Addr × Value),
   Paired (fun (p : List Key × V) (q : List Key × Addr × Value) => p.1 = q.1 ∧ H q.2.1 = some (.tup (p.1.map kV)) ∧ RelV p.2 q.2.2) kvs xs ∧
   ∃ o es ep, h.get? a = some o ∧ o.ExactDict ∧ o.data = .dict es ep ∧ es.toList = xs.map (entryOfKey (tupleKind (cN P w))) ∧ (xs.map (·.1)).Nodup
 | .set S n => h.SetOf (intKind P w) a S n
 | .ins C dx fs => H dx = some (.own a) ∧ fs.length ≤ 1000 ∧ dx ≠ a ∧ h.get? a = some (PySem.W.instObj C dx) ∧
   ∃ mA, h.Ns1 dx mA ∧ (∀ f, nT (fs.lookup f) (mA f)) ∧ PySem.Within mA (fs.map (·.1))
 | .own _ => ∃ o, h.get? a = some o
 | .xd fs => ∃ mA, h.Ns1 a mA ∧ ∀ f, nT (fs.lookup f) (mA f)
 | .XA lo hi => ∃ t u v, h.get? a = some { cls := .type "range", data := .fields #[.int lo t, .int hi u, .int 1 v] }
 | .D1 o u => h.get? a = some o ∧ fS H h a u
 | .P7 ps => h.get? a = some { cls := .none, data := .fields ps }
 | .met f x => h.get? a = some (PySem.W.methodObj (.ref f) (.ref x))
 | .ext φ => φ h ∧ (∃ o, h.get? a = some o) ∧ ∀ h1 h2 : Heap, φ h1 → (∀ o, h1.get? a = some o → h2.get? a = some o) → φ h2
noncomputable def mJ (H : Hp) (h : Heap) : Prop := ∀ a o, H a = some o → fS P w H h a o
end
section
variable {P : Program} {w : World} {H H' : Hp} {h h' : Heap} {a : Addr} {o : HO}
theorem fS.lt (x : fS P w H h a o) : a < h.objs.size := by
 cases o with
 | lst xs => obtain ⟨_, _, _, _, e⟩ := x; exact Heap.lt_size e
 | tup xs => obtain ⟨_, _, _, p⟩ := x; exact p.lt
 | dK kvs ep => obtain ⟨_, _, _, _, o, _, e, _⟩ := x; exact Heap.lt_size e
 | dT kvs => obtain ⟨_, _, _, _, o, _, _, e, _⟩ := x; exact Heap.lt_size e
 | set S n => obtain ⟨o, _, _, _, e, _⟩ := x; exact Heap.lt_size e
 | ins C dx fs => obtain ⟨_, _, _, e, _⟩ := x; exact Heap.lt_size e
 | own y => obtain ⟨_, e⟩ := x; exact Heap.lt_size e
 | xd fs => obtain ⟨_, ⟨_, _, _, e, _⟩, _⟩ := x; exact Heap.lt_size e
 | XA lo hi => obtain ⟨_, _, _, e⟩ := x; exact Heap.lt_size e
 | D1 ob u => obtain ⟨e, _⟩ := x; exact Heap.lt_size e
 | P7 ps => exact Heap.lt_size (show h.get? a = some _ from x)
 | met f y => exact Heap.lt_size (show h.get? a = some _ from x)
 | ext φ => obtain ⟨_, ⟨_, e⟩, _⟩ := x; exact Heap.lt_size e
theorem Paired.NY {α β : Type} {F G : α → β → Prop} : ∀ {l₁ : List α} {l₂ : List β}, Paired F l₁ l₂ → (∀ a b, F a b → G a b) → Paired G l₁ l₂
 | _, _, .nil, _ => .nil
 | _, _, .cons r t, f => .cons (f _ _ r) (Paired.NY t f)
theorem fS.aR (x : fS P w H h a o) (k : ∀ b u, (b = a ∨ H b = some (.own a)) → h.get? b = some u → h'.get? b = some u)
  (ho : ∀ b, H b = some (.own a) → H' b = some (.own a)) (ht : ∀ b xs, H b = some (.tup xs) → H' b = some (.tup xs)) : fS P w H' h' a o := by
 induction o with
 | lst xs => obtain ⟨z, its, n, r, e⟩ := x; exact ⟨z, its, n, r, k _ _ (.inl rfl) e⟩
 | tup xs => obtain ⟨z, its, r, ob, e, c⟩ := x; exact ⟨z, its, r, ob, k _ _ (.inl rfl) e, c⟩
 | dK kvs ep => obtain ⟨z, y, vs, r, ob, es, e, c⟩ := x; exact ⟨z, y, vs, r, ob, es, k _ _ (.inl rfl) e, c⟩
 | dT kvs =>
  obtain ⟨z, y, xs, r, ob, es, ep, e, c⟩ := x
  exact ⟨z, y, xs, Paired.NY r fun p q z => ⟨z.1, ht _ _ z.2.1, z.2.2⟩, ob, es, ep, k _ _ (.inl rfl) e, c⟩
 | set S n => obtain ⟨ob, es, ep, t, e, c⟩ := x; exact ⟨ob, es, ep, t, k _ _ (.inl rfl) e, c⟩
 | ins C dx fs =>
  obtain ⟨d, z, ne, e, mA, ⟨od, es, ep, e2, c⟩, r⟩ := x
  exact ⟨ho _ d, z, ne, k _ _ (.inl rfl) e, mA, ⟨od, es, ep, k _ _ (.inr d) e2, c⟩, r⟩
 | own y => obtain ⟨ob, e⟩ := x; exact ⟨ob, k _ _ (.inl rfl) e⟩
 | xd fs => obtain ⟨mA, ⟨od, es, ep, e, c⟩, r⟩ := x; exact ⟨mA, ⟨od, es, ep, k _ _ (.inl rfl) e, c⟩, r⟩
 | XA lo hi => obtain ⟨t, u, v, e⟩ := x; exact ⟨t, u, v, k _ _ (.inl rfl) e⟩
 | D1 ob u ih => obtain ⟨e, q⟩ := x; exact ⟨k _ _ (.inl rfl) e, ih q⟩
 | P7 ps =>
  have e : h.get? a = some { cls := .none, data := .fields ps } := x
  show h'.get? a = some { cls := .none, data := .fields ps }
  exact k a _ (.inl rfl) e
 | met f y =>
  have e : h.get? a = some (PySem.W.methodObj (.ref f) (.ref y)) := x
  show h'.get? a = some (PySem.W.methodObj (.ref f) (.ref y))
  exact k a _ (.inl rfl) e
 | ext φ => obtain ⟨p, ⟨o, e⟩, st⟩ := x; exact ⟨st _ _ p fun o q => k _ _ (.inl rfl) q, ⟨o, k _ _ (.inl rfl) e⟩, st⟩
theorem mJ.lt (x : mJ P w H h) (e : H a = some o) : a < h.objs.size := (x a o e).lt
theorem mJ.fresh (x : mJ P w H h) (e : h.objs.size ≤ a) : H a = none := by
 cases q : H a with
 | none => rfl
 | some u => exact absurd (Nat.lt_of_lt_of_le (x.lt q) e) (Nat.lt_irrefl _)
theorem mJ.kept (x : mJ P w H h) (k : ∀ b u, h.get? b = some u → h'.get? b = some u) : mJ P w H h' := fun a o e =>
 (x a o e).aR (fun b u _ q => k b u q) (fun _ q => q) fun _ _ q => q
theorem mJ.laid (x : mJ P w H h) (k : ∀ b u, h.get? b = some u → h'.get? b = some u) (hp : h.objs.size ≤ a) (new : fS P w (upd H a o) h' a o) : mJ P w (upd H a o) h' := fun b u e => by
 have hn := x.fresh hp
 by_cases hb : b = a
 ·subst hb; rw [cG] at e; cases e; exact new
 ·rw [bL hb] at e
  exact (x b u e).aR (fun c v _ q => k c v q) (fun c q => by rw [bL (dM q hn)]; exact q) fun c xs q => by rw [bL (dM q hn)]; exact q
end
noncomputable def Rd (H : Hp) (a : Addr) (u : HO) : Prop := H a = some u ∨ ∃ o, H a = some (.D1 o u)
theorem Rd.of {H : Hp} {a : Addr} {u : HO} (h : H a = some u) : Rd H a u := .inl h
theorem Rd.ok {P : Program} {w : World} {H : Hp} {h : Heap} {a : Addr} {u : HO} (r : Rd H a u) (x : mJ P w H h) : fS P w H h a u := by
 rcases r with r | ⟨o, r⟩
 ·exact x a u r
 ·obtain ⟨_, q⟩ := x a _ r
  exact q
noncomputable def SN : Option HO → Prop
 | some (.lst _) => True
 | some (.dK _ _) => True
 | some (.dT _) => True
 | some (.set _ _) => True
 | some (.ins _ _ _) => True
 | some (.ext _) => True
 | _ => False
section
variable {P : Program} {w : World} {H : Hp} {h h' : Heap} {x e : Addr} {o' : HO}
theorem mJ.write (ok : mJ P w H h) (mu : SN (H x)) (he : e = x ∨ H e = some (.own x)) (k : ∀ b u, b ≠ e → h.get? b = some u → h'.get? b = some u) (heo : ∃ u, h'.get? e = some u)
  (new : fS P w (upd H x o') h' x o') : mJ P w (upd H x o') h' := fun b u q => by
 have nown : ∀ c y, H c = some (.own y) → c ≠ x := fun c y r z => by subst z; rw [r] at mu; exact mu
 have ntup : ∀ c xs, H c = some (.tup xs) → c ≠ x := fun c xs r z => by subst z; rw [r] at mu; exact mu
 by_cases hb : b = x
 ·subst hb; rw [cG] at q; cases q; exact new
 ·rw [bL hb] at q
  by_cases hbe : b = e
  ·have q' : H b = some (.own x) := by
    rcases he with z | z
    ·exact absurd (hbe.trans z) hb
    ·rw [hbe]; exact z
   rw [q] at q'; cases q'
   obtain ⟨v, hv⟩ := heo
   exact ⟨v, by rw [hbe]; exact hv⟩
  ·refine (ok b u q).aR (fun c v hc r => k c v ?_ r) (fun c r => by rw [bL (nown c b r)]; exact r) fun c xs r => by rw [bL (ntup c xs r)]; exact r
   rcases hc with rfl | hc
   ·exact hbe
   ·rintro rfl
    rcases he with z | z
    ·exact nown c b hc z
    ·rw [hc] at z; cases z; exact hb rfl
end
structure Un (fs ex : List Addr) (H H' : Hp) (h h' : Heap) : Prop where
 keep : ∀ b o, h.get? b = some o → H b = none → b ∉ fs → b ∉ ex → h'.get? b = some o
 slot : ∀ b o, h.get? b = some o → H b = none → b ∈ fs → b ∉ ex → ∃ sl, h'.get? b = some { o with slots := sl }
 free : ∀ b o, h.get? b = some o → H b = none → b ∉ ex → H' b = none
 there : ∀ b o, h.get? b = some o → b ∉ ex → ∃ o', h'.get? b = some o'
 nS : ∀ b xs, H b = some (.tup xs) → H' b = some (.tup xs)
 mY : ∀ b o u, H b = some (.D1 o u) → H' b = some (.D1 o u)
 oA : ∀ b ps, H b = some (.P7 ps) → ∃ more, H' b = some (.P7 (ps ++ more))
section
variable {fs fs' ex ex' : List Addr} {H H1 H2 : Hp} {h h1 h2 h' : Heap} {a x e : Addr} {o : HO}
theorem Un.any (u : Un fs ex H H1 h h1) {b : Addr} {ob : Obj} (q : h.get? b = some ob) (n : H b = none) (hx : b ∉ ex) : ∃ sl, h1.get? b = some { ob with slots := sl } := by
 by_cases hb : b ∈ fs
 ·exact u.slot b ob q n hb hx
 ·exact ⟨ob.slots, u.keep b ob q n hb hx⟩
theorem Un.trans (a : Un fs ex H H1 h h1) (b : Un fs ex H1 H2 h1 h2) : Un fs ex H H2 h h2 where
 keep := fun c ob q n hc hx => b.keep c ob (a.keep c ob q n hc hx) (a.free c ob q n hx) hc hx
 slot := fun c ob q n hc hx => by
  obtain ⟨sl, e1⟩ := a.slot c ob q n hc hx
  obtain ⟨sl', e2⟩ := b.slot c _ e1 (a.free c ob q n hx) hc hx
  exact ⟨sl', e2⟩
 free := fun c ob q n hx => by
  obtain ⟨o', e1⟩ := a.there c ob q hx
  exact b.free c o' e1 (a.free c ob q n hx) hx
 there := fun c ob q hx => by
  obtain ⟨o', e1⟩ := a.there c ob q hx
  exact b.there c o' e1 hx
 nS := fun c xs q => b.nS c xs (a.nS c xs q)
 mY := fun c ob xs q => b.mY c ob xs (a.mY c ob xs q)
 oA := fun c ps q => by
  obtain ⟨m1, e1⟩ := a.oA c ps q
  obtain ⟨m2, e2⟩ := b.oA c _ e1
  exact ⟨m1 ++ m2, by rw [e2, Array.append_assoc]⟩
theorem Un.kept (k : ∀ b u, h.get? b = some u → h'.get? b = some u) : Un fs ex H H h h' :=
 ⟨fun b ob q _ _ _ => k b ob q, fun b ob q _ _ _ => ⟨ob.slots, k b ob q⟩, fun _ _ _ n _ => n, fun b ob q _ => ⟨ob, k b ob q⟩, fun _ _ q => q, fun _ _ _ q => q, fun _ ps q => ⟨#[], by rw [q]; simp⟩⟩
theorem Un.refl : Un fs ex H H h h := Un.kept fun _ _ q => q
theorem Un.laid (k : ∀ b u, h.get? b = some u → h'.get? b = some u) (hp : h.objs.size ≤ a) (hn : H a = none) : Un fs ex H (upd H a o) h h' where
 keep := fun b u q _ _ _ => k b u q
 slot := fun b u q _ _ _ => ⟨u.slots, k b u q⟩
 free := fun b u q n _ => by rw [bL (Nat.ne_of_lt (Nat.lt_of_lt_of_le (Heap.lt_size q) hp))]; exact n
 there := fun b u q _ => ⟨u, k b u q⟩
 nS := fun b xs q => by rw [bL (dM q hn)]; exact q
 mY := fun b u xs q => by rw [bL (dM q hn)]; exact q
 oA := fun b ps q => ⟨#[], by rw [bL (dM q hn), q]; simp⟩
theorem Un.write (mu : SN (H x)) (he : e = x ∨ H e = some (.own x)) (k : ∀ b u, b ≠ e → h.get? b = some u → h'.get? b = some u) (heo : ∃ u, h'.get? e = some u) : Un fs ex H (upd H x o) h h' := by
 have hx : ∀ b, H b = none → b ≠ x := fun b n z => by subst z; rw [n] at mu; exact mu
 have hb : ∀ b, H b = none → b ≠ e := fun b n z => by
  subst z
  rcases he with r | r
  ·exact hx b n r
  ·rw [n] at r; cases r
 have hm : ∀ b u, H b = some u → ¬ SN (some u) → b ≠ x := fun b u q nm z => by subst z; rw [q] at mu; exact nm mu
 refine ⟨fun b u q n _ _ => k b u (hb b n) q, fun b u q n _ _ => ⟨u.slots, k b u (hb b n) q⟩, fun b u q n _ => by rw [bL (hx b n)]; exact n, fun b u q _ => ?_,
  fun b xs q => by rw [bL (hm b _ q fun z => z)]; exact q, fun b u xs q => by rw [bL (hm b _ q fun z => z)]; exact q, fun b ps q => ⟨#[], by rw [bL (hm b _ q fun z => z), q]; simp⟩⟩
 by_cases hbe : b = e
 ·subst hbe; exact heo
 ·exact ⟨u, k b u hbe q⟩
theorem Un.mono (u : Un fs ex H H1 h h1) (hs : ∀ b ∈ fs, b ∈ fs') (hx : ∀ b ∈ ex, b ∈ ex') : Un fs' ex' H H1 h h1 :=
 ⟨fun b ob q n hb he => u.keep b ob q n (fun z => hb (hs b z)) fun z => he (hx b z), fun _ _ q n _ he => u.any q n fun z => he (hx _ z), fun b ob q n he => u.free b ob q n fun z => he (hx b z), fun b ob q he => u.there b ob q fun z => he (hx b z), u.nS, u.mY, u.oA⟩
end
noncomputable def V7 (h : Heap) (H : Hp) : List Addr := (List.range h.objs.size).filter fun a => (H a).isSome
noncomputable def u4 (h : Heap) (H : Hp) : Heap := PySem.W.hideAll h (V7 h H)
theorem CP (h : Heap) (H : Hp) : (u4 h H).objs.size = h.objs.size := PySem.W.hideAll_size _ _
theorem ER {h : Heap} {H : Hp} {b : Addr} {o : Obj} (e : h.get? b = some o) (n : H b = none) : (u4 h H).get? b = some o :=
 PySem.W.hideAll_get _ e fun hm => by
  have q : (H b).isSome = true := (List.mem_filter.mp hm).2
  rw [n] at q; simp at q
theorem LZ {h : Heap} {H : Hp} {b : Addr} {o : Obj} (e : (u4 h H).get? b = some o) : h.get? b = some o ∧ H b = none := by
 have e' : h.get? b = some o := PySem.W.of_hideAll (V7 h H) e
 refine ⟨e', ?_⟩
 cases q : H b with
 | none => rfl
 | some x =>
  have hm : b ∈ V7 h H := List.mem_filter.mpr ⟨List.mem_range.mpr (Heap.lt_size e'), by simp [q]⟩
  have z : (u4 h H).get? b = none := PySem.W.hideAll_none (V7 h H) hm
  rw [z] at e; cases e
noncomputable def K3 (g h : Heap) (L : Addr) : List (Addr × Obj) := (List.range h.objs.size).filterMap fun a => if a = L ∨ (g.get? a).isSome = true then none else (h.get? a).map fun o => (a, o)
noncomputable def rest (g h : Heap) (L d : Addr) : List (Addr × Obj) := (K3 g h L).filter fun p => decide (p.1 ≠ d)
end L2
namespace L2
open PySem PySem.Spec PyProof.Rows
structure Mod (K : PySem.W.Frag) (mg : Str → Option Value) (base : Heap) : Prop where
 WT : K.In base
 glob : base.Ns mainGlobals mg
 blt : ∃ mb, base.Ns builtinsNs mb ∧ ∀ x : Str, x ≠ "__name__" → mb x = bootBuiltins x
 nolimit : base.NoLimit
structure Cx where
 prog : Program
 w : World
 K : PySem.W.Frag
 mg : Str → Option Value
 base : Heap
 A : Around
 N : List Str
 i9 : Shared
 HR : Hp
 env : Env
 outer : List Env
 stack : List Env
 ex : List Addr
 fn : Str → Bool
 calm : Bool
 pn : List (Addr × Obj)
 xe : Value → Shared → Prop
noncomputable def DX (l : List Env) : List Addr := l.filterMap (·.frame)
noncomputable abbrev Cx.fs (X : Cx) : List Addr := DX X.outer
noncomputable def XM (sc : Scope) (x : Str) : Prop := sc.names.lookup x = some .local ∨ sc.names.lookup x = some .cell ∨ sc.names.lookup x = some .free
noncomputable def Loc (sc : Scope) (x : Str) : Prop := sc.names.lookup x = some .local ∨ sc.names.lookup x = some .cell
noncomputable def Look (env : Env) (h : Heap) (m : Str → Option Value) (x : Str) (u : Value) : Prop :=
 (env.kindOf x = some .local ∧ m x = some u) ∨ ((env.kindOf x = some .cell ∨ env.kindOf x = some .free) ∧ ∃ c, env.cells.lookup x = some c ∧ h.IsCell c (some u))
structure Cx.Ok (X : Cx) : Prop where
 mod : Mod X.K X.mg X.base
 kind : X.env.scope.kind = .function
 glob : X.env.globals = mainGlobals
 blt : X.env.builtins = builtinsNs
 above : X.i9.heap.objs.size ≤ X.env.locals
 inj : ∀ x y c, X.env.cells.lookup x = some c → X.env.cells.lookup y = some c → x = y
 has : ∀ x, (X.env.kindOf x = some .cell ∨ X.env.kindOf x = some .free) → ∃ c, X.env.cells.lookup x = some c
 SH : ∀ x c, X.fn x = true → X.env.cells.lookup x = some c → X.i9.heap.objs.size ≤ c
 hd : X.calm = true → X.A.handled = none
 frames : X.A.frames = some X.stack
 TM : X.stack = X.outer ∨ (X.stack = X.env :: X.outer ∧ X.env.frame = some X.env.locals)
 XC : ∀ b ∈ X.ex, b ≠ X.env.locals ∧ ∀ x c, X.env.cells.lookup x = some c → c ≠ b
 bs : ∀ b o, X.base.get? b = some o → X.i9.heap.get? b = some o ∧ X.HR b = none
 EJ : X.base.objs.size ≤ X.i9.heap.objs.size
 CO : ∀ b o, X.base.get? b = some o → b ∉ X.ex
 AV : ∀ b ∈ X.ex, b ∉ X.fs
 pA : X.i9.heap.FunFrames X.base X.outer
 MP : ∀ b ∈ X.fs, X.HR b = none
structure Inv (X : Cx) (pins : List (Addr × Obj)) (σ : List (Option V)) (H : Hp) (s : Shared) : Prop where
 ok : X.Ok
 os : s.os = X.i9.os
 bare : AllBare s.gens
 base : Un X.fs X.ex X.HR H X.i9.heap s.heap
 loc : ∃ m, s.heap.Ns X.env.locals m ∧ ∀ (i : Nat) (x : Str) (v : V), X.N[i]? = some x → σ[i]? = some (some v) → XM X.env.scope x → ∃ u, RelV v u ∧ Look X.env s.heap m x u
 cell : ∀ x c, X.env.cells.lookup x = some c → ∃ v, s.heap.IsCell c v
 free : H X.env.locals = none
 lA : ∀ x c, X.env.cells.lookup x = some c → H c = none
 pin : ∀ p ∈ X.pn ++ pins, s.heap.get? p.1 = some p.2 ∧ H p.1 = none ∧ p.1 ≠ X.env.locals ∧ p.1 ∉ X.fs ∧ ∀ v, p.2.data ≠ .cell v
 dJ : mJ X.prog X.w H s.heap
 len : σ.length = X.N.length
section
variable {X : Cx} {pins : List (Addr × Obj)} {σ : List (Option V)} {H H' : Hp} {s : Shared} {h' : Heap}
theorem Cx.Ok.WO (ok : X.Ok) {b : Addr} {o : Obj} (e : X.base.get? b = some o) : b ∉ X.fs := fun hb => by
 have := (ok.pA.mem hb).1
 rw [e] at this; cases this
theorem Inv.bs (I : Inv X pins σ H s) : ∀ b o, X.base.get? b = some o → s.heap.get? b = some o ∧ H b = none := fun b o e =>
 ⟨I.base.keep b o (I.ok.bs b o e).1 (I.ok.bs b o e).2 (I.ok.WO e) (I.ok.CO b o e), I.base.free b o (I.ok.bs b o e).1 (I.ok.bs b o e).2 (I.ok.CO b o e)⟩
theorem Inv.bk (I : Inv X pins σ H s) : ∀ b o, X.base.get? b = some o → s.heap.get? b = some o := fun b o e => (I.bs b o e).1
theorem Inv.mod (I : Inv X pins σ H s) : Mod X.K X.mg X.base := I.ok.mod
theorem Inv.DL (I : Inv X pins σ H s) : X.K.In s.heap := I.ok.mod.WT.keeps I.bk
theorem Inv.nolimit (I : Inv X pins σ H s) : s.heap.NoLimit := I.ok.mod.nolimit.keeps I.bk
theorem Inv.fr (I : Inv X pins σ H s) : ∃ m, Fr X.base X.env.locals s.heap m :=
 let ⟨m, hn, _⟩ := I.loc
 ⟨m, hn, I.bk, Nat.le_trans I.ok.EJ I.ok.above⟩
theorem Inv.lt (I : Inv X pins σ H s) : X.env.locals < s.heap.objs.size := let ⟨_, hn, _⟩ := I.loc; hn.lt
theorem Inv.sz (I : Inv X pins σ H s) : X.i9.heap.objs.size ≤ s.heap.objs.size := Nat.le_trans I.ok.above (Nat.le_of_lt I.lt)
theorem Inv.V8 (I : Inv X pins σ H s) {a : Addr} (h : s.heap.objs.size ≤ a) : a ∉ X.fs := fun hb => by
 obtain ⟨_, o, ho, _⟩ := I.ok.pA.mem hb
 exact absurd (Nat.lt_of_lt_of_le (Heap.lt_size ho) (Nat.le_trans I.sz h)) (Nat.lt_irrefl _)
theorem Inv.Q5 (I : Inv X pins σ H s) : ∀ x c, X.env.cells.lookup x = some c → c ≠ X.env.locals := fun x c e z => by
 obtain ⟨v, o, ho, hd⟩ := I.cell x c e
 obtain ⟨m, ⟨o', es, ep, ho', hd', _⟩, _⟩ := I.loc
 rw [z, ho'] at ho; cases ho; rw [hd'] at hd; cases hd
theorem Inv.pA (I : Inv X pins σ H s) : s.heap.FunFrames X.base X.outer := by
 have all : ∀ (l : List Env), (∀ b ∈ DX l, b ∈ X.fs) → X.i9.heap.FunFrames X.base l → s.heap.FunFrames X.base l := by
  intro l
  induction l with
  | nil => intro _ _; trivial
  | cons env r ih =>
   intro hs hl
   obtain ⟨hk, ⟨L, o, hf, hn, ho, hd⟩, hr⟩ := hl
   have hL : L ∈ X.fs := hs L (by unfold DX; rw [List.filterMap_cons, hf]; exact List.mem_cons_self)
   obtain ⟨sl, e⟩ := I.base.slot L o ho (I.ok.MP L hL) hL fun z => I.ok.AV L z hL
   exact ⟨hk, ⟨L, _, hf, hn, e, hd⟩, ih (fun b hb => hs b (by unfold DX; rw [List.filterMap_cons, hf]; exact List.mem_cons_of_mem _ hb)) hr⟩
 exact all X.outer (fun _ hb => hb) I.ok.pA
theorem Inv.stack (I : Inv X pins σ H s) : s.heap.FunFrames X.base X.stack := by
 rcases I.ok.TM with e | ⟨e, hf⟩
 ·rw [e]; exact I.pA
 ·rw [e]
  obtain ⟨m, hn, _⟩ := I.loc
  refine .cons (by rw [I.ok.kind]; decide) hf hn ?_ I.pA
  exact Heap.get?_none_of_le (Nat.le_trans I.ok.EJ I.ok.above)
theorem Inv.AH (I : Inv X pins σ H s) : ∀ b ∈ DX X.stack, b ∈ X.env.locals :: X.fs := fun b hb => by
 rcases I.ok.TM with e | ⟨e, hf⟩
 ·rw [e] at hb; exact List.mem_cons_of_mem _ hb
 ·rw [e] at hb
  unfold DX at hb
  rw [List.filterMap_cons, hf] at hb
  exact hb
theorem Inv.BS (I : Inv X pins σ H s) : ∀ b ∈ DX X.stack, H b = none := fun b hb => by
 rcases List.mem_cons.mp (I.AH b hb) with e | hb
 ·rw [e]; exact I.free
 ·obtain ⟨_, o, ho, _⟩ := I.ok.pA.mem hb
  exact I.base.free b o ho (I.ok.MP b hb) fun z => I.ok.AV b z hb
theorem Inv.step {g' : Array GenState} {t' : Nat} {d' : Drawn} {ch : List Addr} (I : Inv X pins σ H s)
  (hch : ∀ b ∈ ch, (b ∈ X.ex ∨ X.i9.heap.objs.size ≤ b) ∧ b ≠ X.env.locals ∧ (∀ x c, X.env.cells.lookup x = some c → c ≠ b) ∧ ∀ p ∈ X.pn ++ pins, p.1 ≠ b)
  (keep : ∀ b o, b ≠ X.env.locals → b ∉ X.fs → b ∉ ch → s.heap.get? b = some o → H b = none → h'.get? b = some o)
  (slot : ∀ b o, b ≠ X.env.locals → b ∈ X.fs → b ∉ ch → s.heap.get? b = some o → H b = none → ∃ sl, h'.get? b = some { o with slots := sl }) (free : ∀ b o, b ∉ ch → s.heap.get? b = some o → H b = none → H' b = none)
  (there : ∀ b o, b ∉ ch → s.heap.get? b = some o → ∃ o', h'.get? b = some o')
  (nS : ∀ b xs, H b = some (.tup xs) → H' b = some (.tup xs)) (mY : ∀ b o u, H b = some (.D1 o u) → H' b = some (.D1 o u)) (oA : ∀ b ps, H b = some (.P7 ps) → ∃ more, H' b = some (.P7 (ps ++ more)))
  (ns : ∀ m, s.heap.Ns X.env.locals m → h'.Ns X.env.locals m) (dJ : mJ X.prog X.w H' h') (hg : AllBare g') :
  Inv X pins σ H' { s with heap := h', gens := g', drawn := d', toks := t' } := by
 have XT : ∀ b o, X.i9.heap.get? b = some o → b ≠ X.env.locals := fun b o e => Nat.ne_of_lt (Nat.lt_of_lt_of_le (Heap.lt_size e) I.ok.above)
 have neC : ∀ b o, X.i9.heap.get? b = some o → b ∉ X.ex → b ∉ ch := fun b o e hx hb => by
  rcases (hch b hb).1 with z | z
  ·exact hx z
  ·exact absurd (Nat.lt_of_lt_of_le (Heap.lt_size e) z) (Nat.lt_irrefl _)
 have cellK : ∀ x c, X.env.cells.lookup x = some c → ∀ v, s.heap.IsCell c v → h'.IsCell c v := fun x c e v ⟨o, ho, hd⟩ => by
  have nch : c ∉ ch := fun z => (hch c z).2.2.1 x c e rfl
  by_cases hc : c ∈ X.fs
  ·obtain ⟨sl, q⟩ := slot c o (I.Q5 x c e) hc nch ho (I.lA x c e)
   exact ⟨_, q, hd⟩
  ·exact ⟨o, keep c o (I.Q5 x c e) hc nch ho (I.lA x c e), hd⟩
 refine ⟨I.ok, I.os, hg, ⟨fun b o e n hb hx => ?_, fun b o e n hb hx => ?_, fun b o e n hx => ?_, fun b o e hx => ?_, fun b xs e => nS b xs (I.base.nS b xs e), fun b o xs e => mY b o xs (I.base.mY b o xs e), fun b ps e => ?_⟩, ?_, fun x c e => ?_, ?_, fun x c e => ?_, fun p hp => ?_, dJ, I.len⟩
 ·exact keep b o (XT b o e) hb (neC b o e hx) (I.base.keep b o e n hb hx) (I.base.free b o e n hx)
 ·obtain ⟨sl, e1⟩ := I.base.slot b o e n hb hx
  obtain ⟨sl', e2⟩ := slot b _ (XT b o e) hb (neC b o e hx) e1 (I.base.free b o e n hx)
  exact ⟨sl', e2⟩
 ·obtain ⟨o', e1⟩ := I.base.there b o e hx
  exact free b o' (neC b o e hx) e1 (I.base.free b o e n hx)
 ·obtain ⟨o', e1⟩ := I.base.there b o e hx
  exact there b o' (neC b o e hx) e1
 ·obtain ⟨m1, e1⟩ := I.base.oA b ps e
  obtain ⟨m2, e2⟩ := oA b _ e1
  exact ⟨m1 ++ m2, by rw [e2, Array.append_assoc]⟩
 ·obtain ⟨m, hn, hl⟩ := I.loc
  refine ⟨m, ns m hn, fun i x v e1 e2 e3 => ?_⟩
  obtain ⟨u, r, l⟩ := hl i x v e1 e2 e3
  refine ⟨u, r, ?_⟩
  rcases l with l | ⟨k, c, e, z⟩
  ·exact .inl l
  ·exact .inr ⟨k, c, e, cellK x c e _ z⟩
 ·obtain ⟨v, z⟩ := I.cell x c e
  exact ⟨v, cellK x c e v z⟩
 ·obtain ⟨m, ⟨o, _, _, ho, _⟩, _⟩ := I.loc
  exact free _ o (fun z => (hch _ z).2.1 rfl) ho I.free
 ·obtain ⟨v, o, ho, hd⟩ := I.cell x c e
  exact free c o (fun z => (hch c z).2.2.1 x c e rfl) ho (I.lA x c e)
 ·obtain ⟨e, n, ne, nf, d⟩ := I.pin p hp
  have nch : p.1 ∉ ch := fun z => (hch p.1 z).2.2.2 p hp rfl
  exact ⟨keep p.1 p.2 ne nf nch e n, free p.1 p.2 nch e n, ne, nf, d⟩
theorem Inv.un {t' : Nat} (I : Inv X pins σ H s) (u : Un X.fs [] H H' s.heap h') (dJ : mJ X.prog X.w H' h') : Inv X pins σ H' { s with heap := h', toks := t' } := by
 obtain ⟨m, ⟨o, es, ep, ho, r⟩, _⟩ := id I.loc
 obtain ⟨sl, hL⟩ := u.any ho I.free (by simp)
 exact I.step (g' := s.gens) (d' := s.drawn) (ch := []) (fun _ z => nomatch z) (fun b o _ hb _ e n => u.keep b o e n hb (by simp)) (fun b o _ hb _ e n => u.slot b o e n hb (by simp)) (fun b o _ e n => u.free b o e n (by simp)) (fun b o _ e => u.there b o e (by simp)) u.nS u.mY u.oA (fun m' hm => by
  obtain ⟨o', es', ep', ho', r'⟩ := hm
  rw [ho] at ho'; cases ho'
  exact ⟨_, es', ep', hL, r'⟩) dJ I.bare
theorem Inv.call {g' : Array GenState} {t' : Nat} {d' : Drawn} {ch : List Addr} (I : Inv X pins σ H s) (u : Un (DX X.stack) ch H H' s.heap h') (dJ : mJ X.prog X.w H' h') (hg : AllBare g')
  (hch : ∀ b ∈ ch, (b ∈ X.ex ∨ X.i9.heap.objs.size ≤ b) ∧ b ≠ X.env.locals ∧ (∀ x c, X.env.cells.lookup x = some c → c ≠ b) ∧ ∀ p ∈ X.pn ++ pins, p.1 ≠ b) :
  Inv X pins σ H' { s with heap := h', gens := g', drawn := d', toks := t' } := by
 obtain ⟨m, ⟨o, es, ep, ho, r⟩, _⟩ := id I.loc
 obtain ⟨sl, hL⟩ := u.any ho I.free fun z => (hch _ z).2.1 rfl
 exact I.step (ch := ch) hch (fun b o hL hb hc e n => u.keep b o e n (fun z => (List.mem_cons.mp (I.AH b z)).elim hL hb) hc) (fun b o _ _ hc e n => u.any e n hc) (fun b o hc e n => u.free b o e n hc) (fun b o hc e => u.there b o e hc) u.nS u.mY u.oA (fun m' hm => by
  obtain ⟨o', es', ep', ho', r'⟩ := hm
  rw [ho] at ho'; cases ho'
  exact ⟨_, es', ep', hL, r'⟩) dJ hg
theorem Inv.turned {t' : Nat} {it : Addr} (I : Inv X pins σ H s) (k : ∀ b o, b ≠ it → s.heap.get? b = some o → h'.get? b = some o) (hn : H it = none) (hL : it ≠ X.env.locals)
  (h1 : it ∈ X.ex ∨ X.i9.heap.objs.size ≤ it) (h2 : ∀ x c, X.env.cells.lookup x = some c → c ≠ it) (h3 : ∀ p ∈ X.pn ++ pins, p.1 ≠ it) : Inv X pins σ H { s with heap := h', toks := t' } := by
 have nit : ∀ b u, H b = some u → b ≠ it := fun b u e z => by rw [z, hn] at e; cases e
 refine I.step (g' := s.gens) (d' := s.drawn) (ch := [it]) (fun b hb => ?_) (fun b o _ _ hc e _ => k b o (fun z => hc (by simp [z])) e) (fun b o _ _ hc e _ => ⟨o.slots, k b o (fun z => hc (by simp [z])) e⟩) (fun _ _ _ _ n => n)
  (fun b o hc e => ⟨o, k b o (fun z => hc (by simp [z])) e⟩) (fun _ _ e => e) (fun _ _ _ e => e) (fun b ps e => ⟨#[], by rw [e]; simp⟩) (fun m hm => ?_) (fun b u e => ?_) I.bare
 ·have e : b = it := by simpa using hb
  subst e
  exact ⟨h1, hL, h2, h3⟩
 ·obtain ⟨o, es, ep, ho, r⟩ := hm
  exact ⟨o, es, ep, k _ o (Ne.symm hL) ho, r⟩
 ·refine (I.dJ b u e).aR (fun c v hc q => k c v ?_ q) (fun _ q => q) fun _ _ q => q
  rcases hc with z | z
  ·rw [z]; exact nit b u e
  ·exact nit c _ z
theorem Inv.tok (I : Inv X pins σ H s) (t : Nat) : Inv X pins σ H { s with toks := t } := I.un (h' := s.heap) (t' := t) Un.refl I.dJ
theorem Inv.kept {t' : Nat} (I : Inv X pins σ H s) (k : ∀ b u, s.heap.get? b = some u → h'.get? b = some u) : Inv X pins σ H { s with heap := h', toks := t' } := I.un (Un.kept k) (I.dJ.kept k)
theorem Inv.laid {a : Addr} {o : HO} {t' : Nat} (I : Inv X pins σ H s) (k : ∀ b u, s.heap.get? b = some u → h'.get? b = some u) (hp : s.heap.objs.size ≤ a) (new : fS X.prog X.w (upd H a o) h' a o) :
  Inv X pins σ (upd H a o) { s with heap := h', toks := t' } := I.un (Un.laid k hp (I.dJ.fresh hp)) (I.dJ.laid k hp new)
theorem Inv.write {x e : Addr} {o : HO} {t' : Nat} (I : Inv X pins σ H s) (mu : SN (H x)) (he : e = x ∨ H e = some (.own x)) (k : ∀ b u, b ≠ e → s.heap.get? b = some u → h'.get? b = some u) (heo : ∃ u, h'.get? e = some u)
  (new : fS X.prog X.w (upd H x o) h' x o) : Inv X pins σ (upd H x o) { s with heap := h', toks := t' } := I.un (Un.write mu he k heo) (I.dJ.write mu he k heo new)
theorem Inv.weak {σ' : List (Option V)} (I : Inv X pins σ H s) (hl : σ'.length = σ.length) (w : ∀ (i : Nat) v, σ'[i]? = some (some v) → σ[i]? = some (some v)) : Inv X pins σ' H s :=
 ⟨I.ok, I.os, I.bare, I.base, let ⟨m, hn, hl'⟩ := I.loc; ⟨m, hn, fun i x v e1 e2 e3 => hl' i x v e1 (w i v e2) e3⟩, I.cell, I.free, I.lA, I.pin, I.dJ, hl.trans I.len⟩
theorem Inv.B7 {pins' : List (Addr × Obj)} (I : Inv X pins σ H s) (h : ∀ p ∈ pins', s.heap.get? p.1 = some p.2 ∧ H p.1 = none ∧ p.1 ≠ X.env.locals ∧ p.1 ∉ X.fs ∧ ∀ v, p.2.data ≠ .cell v) : Inv X pins' σ H s :=
 ⟨I.ok, I.os, I.bare, I.base, I.loc, I.cell, I.free, I.lA, fun p hp => (List.mem_append.mp hp).elim (fun z => I.pin p (List.mem_append_left _ z)) (h p), I.dJ, I.len⟩
theorem yH {N : List Str} (hN : N.Nodup) {i j : Nat} {x : Str} (a : N[i]? = some x) (b : N[j]? = some x) : i = j := by
 obtain ⟨h1, e1⟩ := List.getElem?_eq_some_iff.mp a
 obtain ⟨h2, e2⟩ := List.getElem?_eq_some_iff.mp b
 exact (List.getElem_inj hN).mp (e1.trans e2.symm)
theorem DS {M : Model} {A : Around} {E : Value → Shared → Prop} {i : Nat} {x : Str} {v : V} {u : Value} {Q : Unit → Shared → Prop} (I : Inv X pins σ H s) (hN : X.N.Nodup) (hi : X.N[i]? = some x) (hx : Loc X.env.scope x) (r : RelV v u)
  (h : ∀ s', Inv X pins (σ.set i (some v)) H s' → (∃ a, Heap.SameBut a s.heap s'.heap ∧ (a = X.env.locals ∨ X.env.cells.lookup x = some a)) → Q () s') (hf : X.fn x = true ∨ X.env.scope.names.lookup x = some .local := by first | exact .inl rfl | exact .inr rfl | assumption) : wpAny M A (storeName X.env x u) Q E s := by
 obtain ⟨m, hn, hl⟩ := id I.loc
 have hcls : (X.env.scope.kind == .class || (X.env.scope.kind == .module && X.env.locals != X.env.globals)) = false := by rw [I.ok.kind]; rfl
 have hiσ : i < σ.length := by rw [I.len]; exact (List.getElem?_eq_some_iff.mp hi).1
 have Q5 := I.Q5
 have tracked : ∀ {a : Addr} {h' : Heap}, (∃ o, s.heap.get? a = some o ∧ H a = none) → Heap.SameBut a s.heap h' → mJ X.prog X.w H h' := fun {a h'} ha hs b ob e => by
  obtain ⟨_, _, hfree⟩ := ha
  refine (I.dJ b ob e).aR (fun c w' hc q => (hs.2 c ?_).trans q) (fun _ q => q) fun _ _ q => q
  rintro rfl
  rcases hc with rfl | hc
  ·rw [hfree] at e; cases e
  ·rw [hfree] at hc; cases hc
 rcases hx with hk | hk
 ·refine wpAny_storeName_local hk hn (fun h' hn' hs => ?_) hcls
  obtain ⟨oL, _, _, hoL, _⟩ := id hn
  refine h _ ⟨I.ok, I.os, I.bare, ⟨fun b o e n hb hx => ?_, fun b o e n hb hx => ?_, I.base.free, fun b o e hx => ?_, I.base.nS, I.base.mY, I.base.oA⟩, ⟨_, hn', fun j y v' e1 e2 e3 => ?_⟩, fun y c e => ?_, I.free, I.lA, fun p hp => ?_, tracked ⟨oL, hoL, I.free⟩ hs, by simpa using I.len⟩ ⟨_, hs, .inl rfl⟩
  ·exact (hs.2 b (Nat.ne_of_lt (Nat.lt_of_lt_of_le (Heap.lt_size e) I.ok.above))).trans (I.base.keep b o e n hb hx)
  ·obtain ⟨sl, e1⟩ := I.base.slot b o e n hb hx
   exact ⟨sl, (hs.2 b (Nat.ne_of_lt (Nat.lt_of_lt_of_le (Heap.lt_size e) I.ok.above))).trans e1⟩
  ·obtain ⟨o', e1⟩ := I.base.there b o e hx
   exact ⟨o', (hs.2 b (Nat.ne_of_lt (Nat.lt_of_lt_of_le (Heap.lt_size e) I.ok.above))).trans e1⟩
  ·by_cases hj : j = i
   ·subst hj
    rw [hi] at e1; cases e1
    rw [List.getElem?_set_self hiσ] at e2
    cases e2
    exact ⟨u, r, .inl ⟨hk, by simp⟩⟩
   ·rw [List.getElem?_set_ne (Ne.symm hj)] at e2
    obtain ⟨u', r', q⟩ := hl j y v' e1 e2 e3
    refine ⟨u', r', ?_⟩
    rcases q with ⟨k, e⟩ | ⟨k, c, e, z⟩
    ·refine .inl ⟨k, ?_⟩
     have : y ≠ x := fun e => hj (yH hN e1 (e ▸ hi))
     simp [this, e]
    ·exact .inr ⟨k, c, e, z.sameBut hs (Q5 y c e)⟩
  ·obtain ⟨w', z⟩ := I.cell y c e
   exact ⟨w', z.sameBut hs (Q5 y c e)⟩
  ·obtain ⟨e, n, ne, nf, d⟩ := I.pin p hp
   exact ⟨(hs.2 p.1 ne).trans e, n, ne, nf, d⟩
 ·have hfn : X.fn x = true := by
   rcases hf with z | z
   ·exact z
   ·rw [z] at hk; cases hk
  obtain ⟨c, hc⟩ := I.ok.has x (.inl hk)
  obtain ⟨w', z⟩ := I.cell x c hc
  refine wpAny_storeName_cell I.ok.kind hk hc z (fun h' hc' hs => ?_)
  obtain ⟨oc, hoc, hocd⟩ := id z
  refine h { s with heap := h' } ⟨I.ok, I.os, I.bare, ⟨fun b o e n hb hx => ?_, fun b o e n hb hx => ?_, I.base.free, fun b o e hx => ?_, I.base.nS, I.base.mY, I.base.oA⟩, ⟨m, hn.sameBut hs (Ne.symm (Q5 x c hc)), fun j y v' e1 e2 e3 => ?_⟩, fun y c' e => ?_, I.free, I.lA, fun p hp => ?_, tracked ⟨oc, hoc, I.lA x c hc⟩ hs, by simpa using I.len⟩ ⟨c, hs, .inr hc⟩
  ·exact (hs.2 b (Nat.ne_of_lt (Nat.lt_of_lt_of_le (Heap.lt_size e) (I.ok.SH x c hfn hc)))).trans (I.base.keep b o e n hb hx)
  ·obtain ⟨sl, e1⟩ := I.base.slot b o e n hb hx
   exact ⟨sl, (hs.2 b (Nat.ne_of_lt (Nat.lt_of_lt_of_le (Heap.lt_size e) (I.ok.SH x c hfn hc)))).trans e1⟩
  ·obtain ⟨o', e1⟩ := I.base.there b o e hx
   exact ⟨o', (hs.2 b (Nat.ne_of_lt (Nat.lt_of_lt_of_le (Heap.lt_size e) (I.ok.SH x c hfn hc)))).trans e1⟩
  ·by_cases hj : j = i
   ·subst hj
    rw [hi] at e1; cases e1
    rw [List.getElem?_set_self hiσ] at e2
    cases e2
    exact ⟨u, r, .inr ⟨.inl hk, c, hc, hc'⟩⟩
   ·rw [List.getElem?_set_ne (Ne.symm hj)] at e2
    obtain ⟨u', r', q⟩ := hl j y v' e1 e2 e3
    refine ⟨u', r', ?_⟩
    rcases q with q | ⟨k, c', e, z'⟩
    ·exact .inl q
    ·refine .inr ⟨k, c', e, z'.sameBut hs ?_⟩
     rintro rfl
     exact hj (yH hN e1 (I.ok.inj _ _ _ e hc ▸ hi))
  ·by_cases hcc : c' = c
   ·subst hcc; exact ⟨_, hc'⟩
   ·obtain ⟨w2, z2⟩ := I.cell y c' e
    exact ⟨w2, z2.sameBut hs hcc⟩
  ·obtain ⟨e, n, ne, nf, d⟩ := I.pin p hp
   refine ⟨(hs.2 p.1 ?_).trans e, n, ne, nf, d⟩
   intro q
   rw [q, hoc] at e
   have q' : oc = p.2 := Option.some.inj e
   exact d w' (by rw [← q']; exact hocd)
theorem nK {M : Model} {A : Around} {E : Value → Shared → Prop} {i : Nat} {x : Str} {v : V} {u : Value} {Q : Unit → Shared → Prop} (I : Inv X pins σ H s) (hN : X.N.Nodup) (hi : X.N[i]? = some x) (hx : Loc X.env.scope x) (r : RelV v u)
  (h : ∀ s', Inv X pins (σ.set i (some v)) H s' → Q () s') (hf : X.fn x = true ∨ X.env.scope.names.lookup x = some .local := by first | exact .inl rfl | exact .inr rfl | assumption) : wpAny M A (storeName X.env x u) Q E s :=
 DS I hN hi hx r (fun s' I' _ => h s' I') hf
theorem Inv.M5 {s' : Shared} {ch : List Addr} (I : Inv X pins σ H s) (ho : s'.os = s.os) (u : Un (DX X.stack) ch H H' s.heap s'.heap) (dJ : mJ X.prog X.w H' s'.heap) (hg : AllBare s'.gens)
  (hch : ∀ b ∈ ch, (b ∈ X.ex ∨ X.i9.heap.objs.size ≤ b) ∧ b ≠ X.env.locals ∧ (∀ x c, X.env.cells.lookup x = some c → c ≠ b) ∧ ∀ p ∈ X.pn ++ pins, p.1 ≠ b) : Inv X pins σ H' s' := by
 obtain ⟨h', g', d', t', o'⟩ := s'
 have e : o' = s.os := ho
 subst e
 exact I.call (g' := g') (t' := t') (d' := d') u dJ hg hch
end
noncomputable abbrev XK := Value → Option Addr → Hp → Prop
noncomputable abbrev St := List (Option V)
noncomputable abbrev VK := V → Hp → Prop
noncomputable abbrev TE := St → Hp → VK → Prop
noncomputable abbrev TT := St → Hp → (Bool → Hp → Prop) → Prop
noncomputable abbrev TA := St → Hp → (List V → Hp → Prop) → Prop
structure Ends where
 nx : St → Hp → Prop
 rt : VK
 bk : St → Hp → Prop := fun _ _ => False
 ct : St → Hp → Prop := fun _ _ => False
noncomputable abbrev TS := Ends → St → Hp → Prop
noncomputable def EP (X : Cx) (pins : List (Addr × Obj)) (σ : St) (Q : VK) (u : Value) (s' : Shared) : Prop := ∃ v H', Inv X pins σ H' s' ∧ RelV v u ∧ Q v H'
noncomputable def TP (X : Cx) (pins : List (Addr × Obj)) (σ : St) (Q : Bool → Hp → Prop) (b : Bool) (s' : Shared) : Prop := ∃ H', Inv X pins σ H' s' ∧ Q b H'
noncomputable def AP (X : Cx) (pins : List (Addr × Obj)) (σ : St) (Q : List V → Hp → Prop) (us : List Value) (s' : Shared) : Prop := ∃ vs H', Inv X pins σ H' s' ∧ Vals vs us ∧ Q vs H'
noncomputable def SP (X : Cx) (pins : List (Addr × Obj)) (D : Ends) (f : Flow) (s' : Shared) : Prop :=
 match f with
 | .next => ∃ σ' H', Inv X pins σ' H' s' ∧ D.nx σ' H'
 | .brk => ∃ σ' H', Inv X pins σ' H' s' ∧ D.bk σ' H'
 | .cont => ∃ σ' H', Inv X pins σ' H' s' ∧ D.ct σ' H'
 | .ret u => ∃ v σ' H', Inv X pins σ' H' s' ∧ RelV v u ∧ D.rt v H'
noncomputable def PE (X : Cx) (e : Expr) (t : TE) : Prop :=
 ∀ (pins : List (Addr × Obj)) (s : Shared) (σ : St) (H : Hp) (Q : VK), Inv X pins σ H s → t σ H Q → wpAny (model X.prog X.w) X.A (eval e X.env) (EP X pins σ Q) X.xe s
noncomputable def PT (X : Cx) (e : Expr) (t : TT) : Prop :=
 ∀ (pins : List (Addr × Obj)) (s : Shared) (σ : St) (H : Hp) (Q : Bool → Hp → Prop), Inv X pins σ H s → t σ H Q → wpAny (model X.prog X.w) X.A (isTrue e X.env (eval e X.env)) (TP X pins σ Q) X.xe s
noncomputable def PW (X : Cx) (e : Expr) (t : TT) : Prop :=
 ∀ (whole : Sem Value) (pins : List (Addr × Obj)) (s : Shared) (σ : St) (H : Hp) (Q : Bool → Hp → Prop), Inv X pins σ H s → t σ H Q → wpAny (model X.prog X.w) X.A (isTrue e X.env whole) (TP X pins σ Q) X.xe s
theorem PW.pt {X : Cx} {e : Expr} {t : TT} (h : PW X e t) : PT X e t := h _
noncomputable def PA (X : Cx) (es : List Expr) (t : TA) : Prop :=
 ∀ (pos : Pos) (pins : List (Addr × Obj)) (s : Shared) (σ : St) (H : Hp) (Q : List V → Hp → Prop), Inv X pins σ H s → t σ H Q → wpAny (model X.prog X.w) X.A (spliced (backTo pos (starEach es X.env))) (AP X pins σ Q) X.xe s
noncomputable def PS (X : Cx) (st : Stmt) (t : TS) : Prop :=
 ∀ (pins : List (Addr × Obj)) (s : Shared) (σ : St) (H : Hp) (D : Ends), Inv X pins σ H s → t D σ H → wpAny (model X.prog X.w) X.A (exec st X.env) (SP X pins D) X.xe s
noncomputable def z6 (X : Cx) (st : List Stmt) (t : TS) : Prop :=
 ∀ (pins : List (Addr × Obj)) (s : Shared) (σ : St) (H : Hp) (D : Ends), Inv X pins σ H s → t D σ H → wpAny (model X.prog X.w) X.A (execs st X.env) (SP X pins D) X.xe s
theorem d6 {α : Type} {t : Sem α} {Q Q' : α → Shared → Prop} {M : Model} {A : Around} {E : Value → Shared → Prop} {s : Shared} (h : wpAny M A t Q E s) (hQ : ∀ a s, Q a s → Q' a s) : wpAny M A t Q' E s := wpAny_mono h hQ fun _ _ x => x
end L2
namespace L2
open PySem PySem.Spec PyProof.Rows
section
variable {X : Cx}
noncomputable def DB (i : Nat) : TE := fun σ H Q => ∃ v, σ[i]? = some (some v) ∧ Q v H
noncomputable def tC (v : V) : TE := fun _ H Q => Q v H
theorem QV {i : Nat} {x : Str} {pos : Pos} (hN : X.N[i]? = some x) (hv : XM X.env.scope x) (hd : (x == ("__debug__" : Str)) = false := by decide) (hcd : (x == ("__classdict__" : Str)) = false := by decide) : PE X (.Name x pos) (DB i) := by
 intro pins s σ H Q I h
 obtain ⟨v, e, h⟩ := h
 obtain ⟨m, hn, hl⟩ := I.loc
 obtain ⟨u, r, l⟩ := hl i x v hN e hv
 have fin : EP X pins σ Q u s := ⟨v, H, I, r, h⟩
 rcases l with ⟨hk, hm⟩ | ⟨hk, c, hc, hcell⟩
 ·exact wpAny_Name (wpAny_loadName_local I.ok.kind hk hn hm fin) hd
 ·rcases hk with hk | hk
  ·exact wpAny_Name (wpAny_loadName_cell I.ok.kind hk hc hcell fin) hd
  ·exact wpAny_Name (wpAny_loadName_free I.ok.kind hk hc hcell fin hcd) hd
theorem aJ {i j pos} : PE X (.Constant (.int i) j pos) (tC (.int i)) := fun _ _ _ H _ I h => wpAny_Constant_int ⟨.int i, H, I.tok _, ⟨_, rfl⟩, h⟩
theorem jK {b j pos} : PE X (.Constant (.bool b) j pos) (tC (.bl b)) := fun _ _ _ H _ I h => Constant_bool ⟨.bl b, H, I, rfl, h⟩
theorem fW {j pos} : PE X (.Constant .none j pos) (tC .aZ) := fun _ _ _ H _ I h => Constant_none ⟨.aZ, H, I, rfl, h⟩
theorem dI {x j pos} : PE X (.Constant (.str x) j pos) (tC (.str x)) := fun _ _ _ H _ I h => Calls.Constant_str ⟨.str x, H, I.tok _, ⟨_, rfl⟩, h⟩
noncomputable def Gl (X : Cx) (x : Str) : Prop := X.env.kindOf x = some .globalImplicit
theorem B6 {E : Value → Shared → Prop} {pins : List (Addr × Obj)} {s : Shared} {σ : St} {H : Hp} {x : Str} {u : Value} {pos : Pos} {Q : Value → Shared → Prop} (I : Inv X pins σ H s) (hg : Gl X x) (hm : X.mg x = some u) (h : Q u s)
  (hd : (x == ("__debug__" : Str)) = false := by decide) : wpAny (model X.prog X.w) X.A (eval (.Name x pos) X.env) Q E s :=
 Calls.Name_function_global I.ok.kind hg (Calls.loadGlobal_global (by rw [I.ok.glob]; exact I.mod.glob.keeps I.bk) hm h) hd
theorem vH {E : Value → Shared → Prop} {pins : List (Addr × Obj)} {s : Shared} {σ : St} {H : Hp} {x : Str} {u : Value} {pos : Pos} {Q : Value → Shared → Prop} (I : Inv X pins σ H s) (hg : Gl X x) (hm : X.mg x = none) (hv : bootBuiltins x = some u) (h : Q u s)
  (hn : x ≠ "__name__" := by decide) (hd : (x == ("__debug__" : Str)) = false := by decide) : wpAny (model X.prog X.w) X.A (eval (.Name x pos) X.env) Q E s := by
 obtain ⟨mb, h1, h2⟩ := I.mod.blt
 exact Calls.Name_function_global I.ok.kind hg (Calls.loadGlobal_builtin (by rw [I.ok.glob]; exact I.mod.glob.keeps I.bk) hm (by rw [I.ok.blt]; exact h1.keeps I.bk) ((h2 x hn).trans hv) h) hd
theorem BO {x : Str} {v : V} {u : Value} {pos : Pos} (hg : Gl X x) (hm : X.mg x = some u) (r : RelV v u) (hd : (x == ("__debug__" : Str)) = false := by decide) : PE X (.Name x pos) (tC v) :=
 fun _ _ _ H _ I h => B6 I hg hm ⟨v, H, I, r, h⟩ hd
theorem iW {x : Str} {v : V} {u : Value} {pos : Pos} (hg : Gl X x) (hm : X.mg x = none) (hv : bootBuiltins x = some u) (r : RelV v u) (hn : x ≠ "__name__" := by decide) (hd : (x == ("__debug__" : Str)) = false := by decide) : PE X (.Name x pos) (tC v) :=
 fun _ _ _ H _ I h => vH I hg hm hv ⟨v, H, I, r, h⟩ hn hd
variable {a b : Expr} {ta tb : TE} {pos : Pos}
noncomputable def tB (t : TE) : TT := fun σ H Q => t σ H fun x H1 => ∃ c, x = .bl c ∧ Q c H1
theorem hB {e : Expr} {t : TE} (h : PE X e t) (he : ∀ whole, isTrue e X.env whole = (do let v ← whole; standAt e.pos; holding [v] (truthy v)) := by intro _; rfl) : PT X e (tB t) := by
 intro pins s σ H Q I hw
 refine isTrue_plain (d6 (h pins s σ H _ I hw) fun v s1 ⟨x, H1, I1, r1, q1⟩ => ?_) (he _)
 obtain ⟨d, rfl, q⟩ := q1
 cases r1
 exact wpAny_truthy_bool ⟨H1, I1, q⟩
variable {tA tB' : TT} {rest : List Expr}
noncomputable def UY (t u : TT) : TT := fun σ H Q => t σ H fun c H1 => if c = true then u σ H1 Q else Q false H1
noncomputable def YM (t u : TT) : TT := fun σ H Q => t σ H fun c H1 => if c = true then Q true H1 else u σ H1 Q
noncomputable def U1 (t : TT) : TT := fun σ H Q => t σ H fun c H1 => Q (!c) H1
theorem nU (ha : PT X a tA) : PW X (.BoolOp .And [a] pos) tA := by
 intro wh pins s σ H Q I h
 refine isTrue_and (d6 (ha pins s σ H Q I h) fun c s1 e => ?_)
 cases c with
 | true => exact isTrue_and_nil e
 | false => exact e
theorem lN (ha : PT X a tA) : PW X (.BoolOp .Or [a] pos) tA := by
 intro wh pins s σ H Q I h
 refine isTrue_or (d6 (ha pins s σ H Q I h) fun c s1 e => ?_)
 cases c with
 | false => exact isTrue_or_nil e
 | true => exact e
theorem sU (ha : PT X a tA) (hb : PW X (.BoolOp .And (b :: rest) pos) tB') : PW X (.BoolOp .And (a :: b :: rest) pos) (UY tA tB') := by
 intro wh pins s σ H Q I h
 refine isTrue_and (d6 (ha pins s σ H _ I h) fun c s1 ⟨H1, I1, q1⟩ => ?_)
 cases c with
 | true => exact hb wh pins s1 σ H1 Q I1 q1
 | false => exact ⟨H1, I1, q1⟩
theorem kX (ha : PT X a tA) (hb : PW X (.BoolOp .Or (b :: rest) pos) tB') : PW X (.BoolOp .Or (a :: b :: rest) pos) (YM tA tB') := by
 intro wh pins s σ H Q I h
 refine isTrue_or (d6 (ha pins s σ H _ I h) fun c s1 ⟨H1, I1, q1⟩ => ?_)
 cases c with
 | true => exact ⟨H1, I1, q1⟩
 | false => exact hb wh pins s1 σ H1 Q I1 q1
theorem iQ (ha : PT X a tA) : PT X (.UnaryOp .Not a pos) (U1 tA) := by
 intro pins s σ H Q I h
 exact isTrue_not (ha pins s σ H (fun c H1 => Q (!c) H1) I h)
noncomputable def M6 (ta tb : TE) : TE := fun σ H Q => ta σ H fun x H1 => ∃ c, x = .bl c ∧ if c = true then tb σ H1 Q else Q (.bl false) H1
noncomputable def SX (ta tb : TE) : TE := fun σ H Q => ta σ H fun x H1 => ∃ c, x = .bl c ∧ if c = true then Q (.bl true) H1 else tb σ H1 Q
noncomputable def ND (ta : TE) : TE := fun σ H Q => ta σ H fun x H1 => ∃ c, x = .bl c ∧ Q (.bl (!c)) H1
theorem uW {op} {t : TE} (h : PE X a t) : PE X (.BoolOp op [a] pos) t := fun pins s σ H Q I hw => BoolOp_one (h pins s σ H Q I hw)
theorem AG (ha : PE X a ta) (hb : PE X (.BoolOp .And (b :: rest) pos) tb) : PE X (.BoolOp .And (a :: b :: rest) pos) (M6 ta tb) := by
 intro pins s σ H Q I h
 refine BoolOp_and (d6 (ha pins s σ H _ I h) fun v s1 ⟨x, H1, I1, r1, q1⟩ => ?_)
 obtain ⟨c, rfl, q1⟩ := q1
 cases r1
 refine wpAny_truthy_bool ?_
 cases c with
 | true => exact hb pins s1 σ H1 Q I1 q1
 | false => exact ⟨.bl false, H1, I1, rfl, q1⟩
theorem UO (ha : PE X a ta) (hb : PE X (.BoolOp .Or (b :: rest) pos) tb) : PE X (.BoolOp .Or (a :: b :: rest) pos) (SX ta tb) := by
 intro pins s σ H Q I h
 refine BoolOp_or (d6 (ha pins s σ H _ I h) fun v s1 ⟨x, H1, I1, r1, q1⟩ => ?_)
 obtain ⟨c, rfl, q1⟩ := q1
 cases r1
 refine wpAny_truthy_bool ?_
 cases c with
 | false => exact hb pins s1 σ H1 Q I1 q1
 | true => exact ⟨.bl true, H1, I1, rfl, q1⟩
theorem HX (ha : PE X a ta) : PE X (.UnaryOp .Not a pos) (ND ta) := by
 intro pins s σ H Q I h
 refine UnaryOp_ (d6 (ha pins s σ H _ I h) fun v s1 ⟨x, H1, I1, r1, q1⟩ => ?_)
 obtain ⟨c, rfl, q1⟩ := q1
 cases r1
 exact not_of (wpAny_truthy_bool ⟨.bl (!c), H1, I1, rfl, q1⟩)
noncomputable def YN (t : TT) (ta tb : TE) : TE := fun σ H Q => t σ H fun c H1 => if c = true then ta σ H1 Q else tb σ H1 Q
theorem lO {c : Expr} (hc : PT X c tA) (ha : PE X a ta) (hb : PE X b tb) : PE X (.IfExp c a b pos) (YN tA ta tb) := by
 intro pins s σ H Q I h
 refine wpAny_IfExp (d6 (hc pins s σ H _ I h) fun d s1 ⟨H1, I1, q1⟩ => ?_)
 cases d with
 | true => exact ha pins s1 σ H1 Q I1 q1
 | false => exact hb pins s1 σ H1 Q I1 q1
end
end L2
namespace L2
open PySem PySem.Spec PyProof.Rows
noncomputable def jC (K : PySem.W.Frag) (H : Hp) (a : Addr) (xs : List V) : Prop :=
 Rd H a (.lst xs) ∨
  ∃ (o : Obj) (its : Array Value) (n : Nat), K.lookup a = some o ∧ o.cls = .type "list" ∧ o.dict = none ∧ o.data = .seq its n ∧ its.size ≤ sizeLine ∧ Vals xs its.toList
noncomputable def nD (K : PySem.W.Frag) (H : Hp) (a : Addr) (xs : List V) : Prop :=
 Rd H a (.tup xs) ∨
  ∃ (o : Obj) (its : Array Value) (n : Nat), K.lookup a = some o ∧ o.cls = .type "tuple" ∧ o.data = .seq its n ∧ its.size ≤ sizeLine ∧ Vals xs its.toList
noncomputable def XY : Value → Option V
 | .none => some .aZ
 | .bool b => some (.bl b)
 | .int i _ => some (.int i)
 | .str x _ => some (.str x)
 | .bytes b _ => some (.WC b)
 | .float b _ => some (.T5 b)
 | .ref a => some (.ref a)
 | .type n => some (.ty n)
 | _ => none
theorem RelV.abs {x : V} {u : Value} (r : RelV x u) : XY u = some x := by
 cases x with
 | aZ => cases r; rfl
 | bl _ => cases r; rfl
 | int _ => obtain ⟨t, rfl⟩ := r; rfl
 | str _ => obtain ⟨t, rfl⟩ := r; rfl
 | WC _ => obtain ⟨t, rfl⟩ := r; rfl
 | T5 _ => obtain ⟨t, rfl⟩ := r; rfl
 | ref _ => cases r; rfl
 | ty _ => cases r; rfl
theorem RelV.inj {x y : V} {u : Value} (r : RelV x u) (q : RelV y u) : x = y := Option.some.inj (r.abs.symm.trans q.abs)
theorem Vals.inj : ∀ {xs ys : List V} {us : List Value}, Vals xs us → Vals ys us → xs = ys
 | _, _, _, .nil, .nil => rfl
 | _, _, _, .cons r t, .cons r' t' => by rw [r.inj r', Vals.inj t t']
section
variable {X : Cx} {pins : List (Addr × Obj)} {σ : St} {H : Hp} {s : Shared} {a : Addr} {xs ys : List V}
theorem jC.of {K : PySem.W.Frag} (h : H a = some (.lst xs)) : jC K H a xs := .inl (.inl h)
theorem nD.of {K : PySem.W.Frag} (h : H a = some (.tup xs)) : nD K H a xs := .inl (.inl h)
theorem Inv.list (I : Inv X pins σ H s) (h : jC X.K H a xs) : ∃ its : List Value, Vals xs its ∧ PlainL s.heap a its.toArray ∧ xs.length ≤ sizeLine := by
 rcases h with h | ⟨o, its, n, hk, hc, hd, hs, hz, r⟩
 ·obtain ⟨z, its, n, r, e⟩ := h.ok I.dJ
  exact ⟨its, r, ⟨_, n, e, rfl, rfl, rfl⟩, z⟩
 ·refine ⟨its.toList, r, ⟨o, n, I.DL a o hk, hc, hd, by simpa using hs⟩, ?_⟩
  have e := r.length
  simp only [Array.length_toList] at e
  omega
theorem Inv.tuple (I : Inv X pins σ H s) (h : nD X.K H a xs) : ∃ its : List Value, Vals xs its ∧ IsTup s.heap a its.toArray ∧ xs.length ≤ sizeLine := by
 rcases h with h | ⟨o, its, n, hk, hc, hs, hz, r⟩
 ·obtain ⟨z, its, r, p⟩ := h.ok I.dJ
  exact ⟨its, r, p, z⟩
 ·refine ⟨its.toList, r, ⟨o, I.DL a o hk, hc, n, by simpa using hs⟩, ?_⟩
  have e := r.length
  simp only [Array.length_toList] at e
  omega
theorem Inv.G3 (I : Inv X pins σ H s) (h : jC X.K H a xs) (h' : jC X.K H a ys) : xs = ys := by
 obtain ⟨its, r, ⟨o, n, e, _, _, d⟩, _⟩ := I.list h
 obtain ⟨its', r', ⟨o', n', e', _, _, d'⟩, _⟩ := I.list h'
 rw [e] at e'; cases e'
 rw [d] at d'
 injection d' with d1 _
 have : its = its' := by simpa using congrArg Array.toList d1
 subst this
 exact r.inj r'
theorem Inv.C4 (I : Inv X pins σ H s) (h : nD X.K H a xs) (h' : nD X.K H a ys) : xs = ys := by
 obtain ⟨its, r, ⟨o, e, _, n, d⟩, _⟩ := I.tuple h
 obtain ⟨its', r', ⟨o', e', _, n', d'⟩, _⟩ := I.tuple h'
 rw [e] at e'; cases e'
 rw [d] at d'
 injection d' with d1 _
 have : its = its' := by simpa using congrArg Array.toList d1
 subst this
 exact r.inj r'
end
noncomputable abbrev Cx.pT (X : Cx) (E : Value → Shared → Prop) : Cx := { X with xe := E }
noncomputable abbrev Cx.MZ (X : Cx) : Cx := X.pT fun _ _ => False
theorem Cx.Ok.pT {X : Cx} (ok : X.Ok) (E : Value → Shared → Prop) : (X.pT E).Ok :=
 ⟨ok.mod, ok.kind, ok.glob, ok.blt, ok.above, ok.inj, ok.has, ok.SH, ok.hd, ok.frames, ok.TM, ok.XC, ok.bs, ok.EJ, ok.CO, ok.AV, ok.pA, ok.MP⟩
theorem Cx.Ok.jR {X : Cx} {E : Value → Shared → Prop} (ok : (X.pT E).Ok) : X.Ok :=
 ⟨ok.mod, ok.kind, ok.glob, ok.blt, ok.above, ok.inj, ok.has, ok.SH, ok.hd, ok.frames, ok.TM, ok.XC, ok.bs, ok.EJ, ok.CO, ok.AV, ok.pA, ok.MP⟩
section
variable {X : Cx} {pins : List (Addr × Obj)} {σ : St} {H : Hp} {s : Shared} {E : Value → Shared → Prop}
theorem Inv.pT (I : Inv X pins σ H s) (E : Value → Shared → Prop) : Inv (X.pT E) pins σ H s := ⟨I.ok.pT E, I.os, I.bare, I.base, I.loc, I.cell, I.free, I.lA, I.pin, I.dJ, I.len⟩
theorem Inv.jR (I : Inv (X.pT E) pins σ H s) : Inv X pins σ H s := ⟨I.ok.jR, I.os, I.bare, I.base, I.loc, I.cell, I.free, I.lA, I.pin, I.dJ, I.len⟩
theorem SP.jR {D : Ends} {f : Flow} {s' : Shared} (h : SP (X.pT E) pins D f s') : SP X pins D f s' := by
 cases f with
 | next => obtain ⟨σ', H', I, q⟩ := h; exact ⟨σ', H', I.jR, q⟩
 | brk => obtain ⟨σ', H', I, q⟩ := h; exact ⟨σ', H', I.jR, q⟩
 | cont => obtain ⟨σ', H', I, q⟩ := h; exact ⟨σ', H', I.jR, q⟩
 | ret u => obtain ⟨v, σ', H', I, r, q⟩ := h; exact ⟨v, σ', H', I.jR, r, q⟩
theorem PE.MZ {e : Expr} {t : TE} (h : PE X.MZ e t) : PE X e t := fun pins s σ H Q I hw =>
 wpAny_mono (h pins s σ H Q (I.pT _) hw) (fun _ _ ⟨v, H', I', r, q⟩ => ⟨v, H', I'.jR, r, q⟩) fun _ _ z => False.elim z
theorem PT.MZ {e : Expr} {t : TT} (h : PT X.MZ e t) : PT X e t := fun pins s σ H Q I hw =>
 wpAny_mono (h pins s σ H Q (I.pT _) hw) (fun _ _ ⟨H', I', q⟩ => ⟨H', I'.jR, q⟩) fun _ _ z => False.elim z
theorem z6.MZ {st : List Stmt} {t : TS} (h : z6 X.MZ st t) : z6 X st t := fun pins s σ H D I hw =>
 wpAny_mono (h pins s σ H D (I.pT _) hw) (fun _ _ q => q.jR) fun _ _ z => False.elim z
end
section
variable {X : Cx} {st : Stmt} {rest : List Stmt} {t u : TS} {e : Expr} {te : TE} {pos : Pos}
noncomputable def M8 : TS := fun D σ H => D.nx σ H
noncomputable def NO (t u : TS) : TS := fun D σ H => t { D with nx := u D } σ H
theorem cY : z6 X [] M8 := fun _ _ σ H _ I h => wpAny_execs_nil ⟨σ, H, I, h⟩
theorem aP (h1 : PS X st t) (h2 : z6 X rest u) : z6 X (st :: rest) (NO t u) := by
 intro pins s σ H D I h
 refine wpAny_execs_cons (d6 (h1 pins s σ H { D with nx := u D } I h) fun f s1 q => ?_)
 cases f with
 | next =>
  obtain ⟨σ', H', I', q⟩ := q
  exact h2 pins s1 σ' H' D I' q
 | ret v => exact q
 | brk => exact q
 | cont => exact q
theorem aV (h1 : PS X st t) : z6 X [st] t := by
 intro pins s σ H D I h
 refine wpAny_execs_cons (d6 (h1 pins s σ H D I h) fun f s1 q => ?_)
 cases f with
 | next => exact wpAny_execs_nil q
 | ret v => exact q
 | brk => exact q
 | cont => exact q
theorem Inv.quiet {pins : List (Addr × Obj)} {σ : St} {H : Hp} {s : Shared} (I : Inv X pins σ H s) : interactive X.env = false := by simp [interactive, I.ok.kind]
noncomputable def MW (te : TE) : TS := fun D σ H => te σ H fun _ H1 => D.nx σ H1
theorem lY (he : PE X e te) (hs : swapsWith e none pos.line X.env = pure false := by rfl) : PS X (.Expr e pos) (MW te) := by
 intro pins s σ H D I h
 exact wpAny_Expr_any (d6 (he pins s σ H _ I h) fun v s1 ⟨x, H1, I1, r1, q1⟩ => ⟨σ, H1, I1, q1⟩) I.quiet hs
noncomputable def S5 (te : TE) : TS := fun D σ H => te σ H D.rt
theorem cJ (he : PE X e te) : PS X (.Return (some e) pos) (S5 te) := by
 intro pins s σ H D I h
 exact wpAny_Return_some (d6 (he pins s σ H _ I h) fun v s1 ⟨x, H1, I1, r1, q1⟩ => ⟨x, σ, H1, I1, r1, q1⟩)
noncomputable def VD (c : TT) (t u : TS) : TS := fun D σ H => c σ H fun b H1 => if b = true then t D σ H1 else u D σ H1
theorem fT {c : Expr} {a b : List Stmt} {tc : TT} (hc : PT X c tc) (ha : z6 X a t) (hb : z6 X b u) : PS X (.If c a b pos) (VD tc t u) := by
 intro pins s σ H D I h
 refine wpAny_If (d6 (hc pins s σ H _ I h) fun d s1 ⟨H1, I1, q1⟩ => ?_)
 cases d with
 | true => exact ha pins s1 σ H1 D I1 q1
 | false => exact hb pins s1 σ H1 D I1 q1
end
noncomputable abbrev TG := V → St → Hp → (St → Hp → Prop) → Prop
noncomputable abbrev HE := List V → St → Hp → (St → Hp → Prop) → Prop
noncomputable def PG (X : Cx) (target : Expr) (t : TG) : Prop :=
 ∀ (pins : List (Addr × Obj)) (s : Shared) (σ : St) (H : Hp) (v : V) (u : Value) (Q : St → Hp → Prop), Inv X pins σ H s → RelV v u → t v σ H Q →
  wpAny (model X.prog X.w) X.A (assign target X.env u) (fun _ s' => ∃ σ' H', Inv X pins σ' H' s' ∧ Q σ' H') X.xe s
noncomputable def S9 (X : Cx) (ts : List Expr) (t : HE) : Prop :=
 ∀ (pins : List (Addr × Obj)) (s : Shared) (σ : St) (H : Hp) (vs : List V) (us : List Value) (Q : St → Hp → Prop), Inv X pins σ H s → Vals vs us → t vs σ H Q →
  wpAny (model X.prog X.w) X.A (assignInOrder ((assignEach ts X.env).map (·.2)) us) (fun _ s' => ∃ σ' H', Inv X pins σ' H' s' ∧ Q σ' H') X.xe s
noncomputable abbrev N3 := V → V → V → Hp → (Hp → Prop) → Prop
noncomputable def TZ (X : Cx) (t : N3) : Prop :=
 ∀ (pins : List (Addr × Obj)) (s : Shared) (σ : St) (H : Hp) (o i v : V) (ov iv u : Value) (Q : Hp → Prop), Inv X pins σ H s → RelV o ov → RelV i iv → RelV v u → t o i v H Q →
  wpAny (model X.prog X.w) X.A (setItem ov iv u) (fun _ s' => ∃ H', Inv X pins σ H' s' ∧ Q H') X.xe s
section
variable {X : Cx} {pos : Pos}
noncomputable def nH (i : Nat) : TG := fun v σ H Q => Q (σ.set i (some v)) H
theorem cS {i : Nat} {x : Str} (hN : X.N.Nodup) (hi : X.N[i]? = some x) (hx : Loc X.env.scope x) (hf : X.fn x = true ∨ X.env.scope.names.lookup x = some .local := by first | exact .inl rfl | exact .inr rfl | assumption) : PG X (.Name x pos) (nH i) := by
 intro pins s σ H v u Q I r h
 exact wpAny_assign_Name (nK I hN hi hx r (fun s' I' => ⟨_, H, I', h⟩) hf)
noncomputable def T4 : HE := fun vs σ H Q => vs = [] ∧ Q σ H
noncomputable def NG (t : TG) (u : HE) : HE := fun vs σ H Q => ∃ v r, vs = v :: r ∧ t v σ H fun σ' H' => u r σ' H' Q
theorem uX : S9 X [] T4 := by
 intro pins s σ H vs us Q I r h
 obtain ⟨e, h⟩ := h
 subst e
 cases r
 exact assignInOrder_nil ⟨σ, H, I, h⟩
theorem jV {e : Expr} {es : List Expr} {t : TG} {u : HE} (h1 : PG X e t) (h2 : S9 X es u)
  (hs : (assignEach (e :: es) X.env).map (·.2) = assign e X.env :: (assignEach es X.env).map (·.2) := by rfl) : S9 X (e :: es) (NG t u) := by
 intro pins s σ H vs us Q I r h
 obtain ⟨v, vr, e1, h⟩ := h
 subst e1
 cases r with
 | cons r rr =>
  rw [hs]
  refine assignInOrder_cons (d6 (h1 pins s σ H _ _ _ I r h) fun _ s1 ⟨σ1, H1, I1, q1⟩ => ?_)
  exact h2 pins s1 σ1 H1 _ _ Q I1 rr q1
noncomputable def OV (K : PySem.W.Frag) (n : Nat) (t : HE) : TG := fun v σ H Q => ∃ a xs, v = .ref a ∧ nD K H a xs ∧ xs.length = n ∧ t xs σ H Q
theorem RZ {es : List Expr} {k : Nat} {t : HE} {n : Nat} (hc : X.calm = true) (h : S9 X es t)
  (hn : (assignEach es X.env).length = n := by rfl) (hst : (assignEach es X.env).findIdx? (·.1) = none := by rfl) : PG X (.Tuple es k pos) (OV X.K n t) := by
 intro pins s σ H v u Q I r hw
 obtain ⟨a, xs, e1, hq, hl, hw⟩ := hw
 subst e1
 cases r
 obtain ⟨its, rv, ht, hz⟩ := I.tuple hq
 refine assign_Tuple_tuple (I.ok.hd hc) ht (by simp [hn, ← hl, rv.length]) hst fun h' hx => ?_
 have I1 : Inv X pins σ H { s with heap := h' } := I.kept (t' := s.toks) fun b o e => hx b o (Nat.ne_of_lt (Heap.lt_size e)) e
 exact h pins _ σ H xs _ Q I1 (by simpa using rv) hw
noncomputable def zR (to ti : TE) (t : N3) : TG := fun v σ H Q => to σ H fun o H1 => ti σ H1 fun i H2 => t o i v H2 fun H3 => Q σ H3
theorem FW {o i : Expr} {to ti : TE} {t : N3} (ho : PE X o to) (hi : PE X i ti) (hs : TZ X t)
  (ha : ∀ v, assign (.Subscript o i pos) X.env v = (do
   let ov ← holding [v] (eval o X.env)
   let iv ← holding [v, ov] (eval i X.env)
   standAt pos
   holding [v, ov, iv] (setItem ov iv v)
   release [v, ov, iv] []) := by intro _; rfl) : PG X (.Subscript o i pos) (zR to ti t) := by
 intro pins s σ H v u Q I r h
 rw [ha]
 refine wpAny_bind (wpAny_holding (d6 (ho pins s σ H _ I h) fun ov s1 ⟨x, H1, I1, r1, q1⟩ => ?_))
 refine wpAny_bind (wpAny_holding (d6 (hi pins s1 σ H1 _ I1 q1) fun iv s2 ⟨y, H2, I2, r2, q2⟩ => ?_))
 refine wpAny_bind (wpAny_standAt (wpAny_bind (wpAny_holding (d6 (hs pins s2 σ H2 x y v ov iv u _ I2 r1 r2 r q2) fun _ s3 ⟨H3, I3, q3⟩ => ?_))))
 exact wpAny_release ⟨σ, H3, I3, q3⟩
noncomputable def tF (te : TE) (g : TG) : TS := fun D σ H => te σ H fun x H1 => g x σ H1 D.nx
theorem z5 {tg e : Expr} {te : TE} {g : TG} (he : PE X e te) (hg : PG X tg g) (hs : swapsWithSole [tg] e pos.line X.env = pure false := by rfl) (hw : swappedStores [tg] e X.env = pure none := by rfl)
  (h1 : (assignEach [tg] X.env).map (·.2) = [assign tg X.env] := by rfl) : PS X (.Assign [tg] e pos) (tF te g) := by
 intro pins s σ H D I h
 refine wpAny_Assign_stores (d6 (he pins s σ H _ I h) fun v s1 ⟨x, H1, I1, r1, q1⟩ => ?_) hs hw
 rw [h1]
 exact d6 (hg pins s1 σ H1 x v _ I1 r1 q1) fun _ s2 q => q
theorem bY {i : Nat} {x : Str} {e : Expr} {te : TE} {pos' : Pos} (hN : X.N.Nodup) (hi : X.N[i]? = some x) (hx : Loc X.env.scope x) (he : PE X e te) (hs : swapsWith e (some (.Name x pos')) pos.line X.env = pure false := by rfl) (hf : X.fn x = true ∨ X.env.scope.names.lookup x = some .local := by first | exact .inl rfl | exact .inr rfl | assumption) :
  PS X (.Assign [.Name x pos'] e pos) (tF te (nH i)) := by
 intro pins s σ H D I h
 refine wpAny_Assign_Name (d6 (he pins s σ H _ I h) fun v s1 ⟨y, H1, I1, r1, q1⟩ => ?_) hs
 exact nK I1 hN hi hx r1 (fun s2 I2 => ⟨_, H1, I2, q1⟩) hf
noncomputable def TC (i j : Nat) (ta : TA) : TS := fun D σ H => ta σ H fun vs H1 => ∃ v w, vs = [v, w] ∧ D.nx ((σ.set i (some v)).set j (some w)) H1
theorem Q2 {i j : Nat} {x y : Str} {a b : Expr} {ta : TA} {px py pt : Pos} {kt k2 pt2} (hc : X.calm = true) (hN : X.N.Nodup) (hi : X.N[i]? = some x) (hj : X.N[j]? = some y) (hij : i ≠ j)
  (hx : X.env.scope.names.lookup x = some .local) (hy : X.env.scope.names.lookup y = some .local) (ha : PA X [a, b] ta)
  (hw : swappedStores [.Tuple [.Name x px, .Name y py] kt pt] (.Tuple [a, b] k2 pt2) X.env = pure (some [x, y]))
  (hs : swapsWithSole [.Tuple [.Name x px, .Name y py] kt pt] (.Tuple [a, b] k2 pt2) pos.line X.env = pure false := by rfl) :
  PS X (.Assign [.Tuple [.Name x px, .Name y py] kt pt] (.Tuple [a, b] k2 pt2) pos) (TC i j ta) := by
 intro pins s σ H D I h
 rw [exec_Assign_arm]
 refine wpAny_bind (wpAny_standAt ?_)
 rw [hs]
 refine wpAny_bind (wpAny_pure ?_)
 rw [if_neg (by decide)]
 refine wpAny_bind (Tuple_ (d6 (ha _ pins s σ H _ I h) fun us s1 ⟨vs, H1, I1, r1, q1⟩ => ?_))
 obtain ⟨v, w, e1, q1⟩ := q1
 subst e1
 obtain ⟨u1, u2, rfl, rv, rw'⟩ : ∃ u1 u2, us = [u1, u2] ∧ RelV v u1 ∧ RelV w u2 := by
  cases r1 with
  | cons p q =>
   cases q with
   | cons p' q' =>
    cases q'
    exact ⟨_, _, rfl, p, p'⟩
 refine wpAny_newObj_type ?_ (by show 2 ≤ sizeLine; decide)
 have I2 : Inv X pins σ H1 { s1 with heap := s1.heap.push { cls := .type "tuple", data := .seq [u1, u2].toArray } } := I1.kept (t' := s1.toks) fun b o e => Heap.get?_push_of_some _ e
 rw [hw]
 refine wpAny_bind (wpAny_pure ?_)
 show wpAny (model X.prog X.w) X.A (do rule "assign.swapped-stores"; let items ← unpackItems (.ref s1.heap.objs.size) 2 none; assignInOrder [fun v => bindName X.env y v, fun v => bindName X.env x v] items.reverse; pure Flow.next) _ _ _
 refine wpAny_bind (wpAny_rule (wpAny_bind (unpackItems_tuple (items := #[u1, u2]) (I.ok.hd hc) (IsTup.new s1.heap _) fun h' hx' => ?_)))
 have I3 := I2.kept (h' := h') (t' := s1.toks) fun b o e => hx' b o (Nat.ne_of_lt (Heap.lt_size e)) e
 show wpAny _ _ (assignInOrder [fun v => bindName X.env y v, fun v => bindName X.env x v] [u2, u1] >>= fun _ => pure Flow.next) _ _ _
 refine wpAny_bind (assignInOrder_cons (wpAny_bindName (nK I3 hN hj (.inl hy) rw' (fun s2 I4 => ?_) (.inr hy))))
 refine assignInOrder_cons (wpAny_bindName (nK I4 hN hi (.inl hx) rv (fun s3 I5 => assignInOrder_nil (wpAny_pure ?_)) (.inr hx)))
 rw [List.set_comm _ _ (Ne.symm hij)] at I5
 exact ⟨_, H1, I5, q1⟩
end
section
variable {X : Cx} {pos : Pos}
noncomputable def IE (c : TT) (tb : TS) : TS := fun D σ H => ∃ W : Nat → St → Hp → Prop, (∃ m, W m σ H) ∧ ∀ m σ H, W m σ H →
 c σ H fun b H1 => if b = true then ∃ N : St → Hp → Prop, (∀ σ' H', N σ' H' → ∃ m', m' < m ∧ W m' σ' H') ∧ tb { D with nx := N, ct := N, bk := D.nx } σ H1 else D.nx σ H1
theorem EY {c : Expr} {body : List Stmt} {tc : TT} {tb : TS} (hp : PassesOwn (model X.prog X.w) X.A X.env X.xe) (hc : PT X c tc) (hb : z6 X body tb) : PS X (.While c body [] pos) (IE tc tb) := by
 intro pins s σ H D I h
 obtain ⟨W, ⟨m0, w0⟩, turn⟩ := h
 refine wpAny_While (codeAny_whileLoop (fun n s' => ∃ σ' H', Inv X pins σ' H' s' ∧ W n σ' H') ?_ m0 ⟨σ, H, I, w0⟩)
 rintro n s1 ⟨σ1, H1, I1, w1⟩
 refine wpAny_passesOwn hp (d6 (hc pins s1 σ1 H1 _ I1 (turn n σ1 H1 w1)) fun b s2 ⟨H2, I2, q2⟩ => ?_)
 cases b with
 | true =>
  obtain ⟨N, hN, q2⟩ := q2
  rw [if_pos rfl]
  refine wpAny_passesOwn hp (d6 (hb pins s2 σ1 H2 _ I2 q2) fun f s3 q3 => ?_)
  cases f with
  | next =>
   obtain ⟨σ3, H3, I3, n3⟩ := q3
   obtain ⟨m', hm, w3⟩ := hN σ3 H3 n3
   exact ⟨m', hm, σ3, H3, I3, w3⟩
  | cont =>
   obtain ⟨σ3, H3, I3, n3⟩ := q3
   obtain ⟨m', hm, w3⟩ := hN σ3 H3 n3
   exact ⟨m', hm, σ3, H3, I3, w3⟩
  | brk => exact q3
  | ret v => exact q3
 | false =>
  rw [if_neg Bool.false_ne_true]
  exact wpAny_execs_nil ⟨σ1, H2, I2, q2⟩
end
structure It where
 go : Nat → Hp → Prop
 SO : Nat → Hp → V → Hp → Prop
 stop : Nat → Hp → Prop
noncomputable def sD (X : Cx) (pins : List (Addr × Obj)) (H : Hp) (b : Addr) : Prop :=
 H b = none ∧ b ≠ X.env.locals ∧ b ∉ X.fs ∧ (b ∈ X.ex ∨ X.i9.heap.objs.size ≤ b) ∧ (∀ x c, X.env.cells.lookup x = some c → c ≠ b) ∧ ∀ p ∈ X.pn ++ pins, p.1 ≠ b
theorem Inv.zT {X : Cx} {pins : List (Addr × Obj)} {σ : St} {H H' : Hp} {s : Shared} {b : Addr} (I : Inv X pins σ H s) (hb : s.heap.objs.size ≤ b) (hn : H' b = none) : sD X pins H' b := by
 refine ⟨hn, Nat.ne_of_gt (Nat.lt_of_lt_of_le I.lt hb), I.V8 hb, .inr (Nat.le_trans I.sz hb), fun x c e z => ?_, fun p hp z => ?_⟩
 ·obtain ⟨v, q⟩ := I.cell x c e
  exact absurd (Nat.lt_of_lt_of_le q.lt (by rw [z]; exact hb)) (Nat.lt_irrefl _)
 ·exact absurd (Nat.lt_of_lt_of_le (Heap.lt_size (I.pin p hp).1) (by rw [z]; exact hb)) (Nat.lt_irrefl _)
structure Turn (P : Program) (w : World) (K : PySem.W.Frag) (tg : Expr) (J : It) (fp : List Addr) (it : Addr) (tn : Nat → Heap → Prop) : Prop where
 mem : it ∈ fp
 obj : ∀ i h, tn i h → ∀ b ∈ fp, ∃ o, h.get? b = some o ∧ ∀ v, o.data ≠ .cell v
 keep : ∀ i h h', tn i h → (∀ b ∈ fp, ∀ o, h.get? b = some o → h'.get? b = some o) → tn i h'
 item : ∀ (X : Cx), X.prog = P → X.w = w → X.K = K → X.calm = true → ∀ (i : Nat) (pins : List (Addr × Obj)) (s : Shared) (σ : St) (H : Hp) (E : Value → Shared → Prop), Inv X pins σ H s → (∀ b ∈ fp, sD X pins H b) → tn i s.heap → J.go i H →
  wpAny (model P w) X.A (pyNext (.ref it)) (fun r s1 => ∃ u, r = some u ∧
   wpAny (model P w) X.A (letOwnedTupleGo tg (.ref it) u) (fun _ s2 => ∃ x H', Inv X pins σ H' s2 ∧ RelV x u ∧ J.SO i H x H' ∧ tn (i + 1) s2.heap ∧ ∀ b ∈ fp, H' b = none) E s1) E s
 done : ∀ (X : Cx), X.prog = P → X.w = w → X.K = K → X.calm = true → ∀ (i : Nat) (pins : List (Addr × Obj)) (s : Shared) (σ : St) (H : Hp) (E : Value → Shared → Prop), Inv X pins σ H s → (∀ b ∈ fp, sD X pins H b) → tn i s.heap → J.stop i H →
  wpAny (model P w) X.A (pyNext (.ref it)) (fun r s1 => r = none ∧ Inv X pins σ H s1) E s
 self : ∀ (A : Around) (i : Nat) (s : Shared) (Q : Value → Shared → Prop) (E : Value → Shared → Prop), tn i s.heap → Q (.ref it) s → wpAny (model P w) A (pyIter (.ref it)) Q E s
noncomputable abbrev TI := St → Hp → (It → Hp → Prop) → Prop
noncomputable def YO (X : Cx) (pins : List (Addr × Obj)) (σ : St) (tg : Expr) (R : It → Hp → Prop) (itv : Value) (s2 : Shared) : Prop :=
 ∃ (it : Addr) (fp : List Addr) (tn : Nat → Heap → Prop) (J : It) (H' : Hp), itv = .ref it ∧ Inv X pins σ H' s2 ∧ Turn X.prog X.w X.K tg J fp it tn ∧ tn 0 s2.heap ∧ (∀ b ∈ fp, sD X pins H' b) ∧ R J H'
noncomputable def PI (X : Cx) (tg iter : Expr) (wi : TI) : Prop :=
 ∀ (pins : List (Addr × Obj)) (s : Shared) (σ : St) (H : Hp) (R : It → Hp → Prop), Inv X pins σ H s → wi σ H R →
  wpAny (model X.prog X.w) X.A (eval iter X.env) (fun v s1 => wpAny (model X.prog X.w) X.A (pyIter v) (YO X pins σ tg R) X.xe s1) X.xe s
theorem uF {M : Model} {A : Around} {E : Value → Shared → Prop} {s : Shared} {tg : Expr} {it : Addr} {u : Value} {o : Obj} {n : String} {vs : Array Value} {Q : Unit → Shared → Prop} (ho : s.heap.get? it = some o) (hc : o.cls = .type n) (hd : o.data = .fields vs)
    (hn : ["enumerate", "zip", "dict_itemiterator", "dict_reverseitemiterator", "odict_iterator", "itertools.zip_longest", "itertools.pairwise"].contains n = false) (hQ : Q () s) : wpAny M A (letOwnedTupleGo tg (.ref it) u) Q E s := by
  unfold letOwnedTupleGo
  cases tg <;> first
    | exact wpAny_pure hQ
    | (cases u <;> first
        | exact wpAny_pure hQ
        | (refine wpAny_bind (wpAny_load ho ?_)
           rw [hc, hd]
           show wpAny M A (if (["enumerate", "zip", "dict_itemiterator", "dict_reverseitemiterator", "odict_iterator", "itertools.zip_longest", "itertools.pairwise"].contains n && vs[0]? == some (rawInt _)) = true then _ else _) Q E s
           rw [if_neg (by intro h; rw [hn, Bool.false_and] at h; cases h)]
           exact wpAny_pure hQ))
noncomputable def V1 (K : PySem.W.Frag) (a : Addr) : It :=
 ⟨fun i H => ∃ xs x, jC K H a xs ∧ xs[i]? = some x, fun i H x H' => H' = H ∧ ∀ xs, jC K H a xs → xs[i]? = some x, fun i H => ∃ xs, jC K H a xs ∧ xs.length ≤ i⟩
noncomputable def V3 (K : PySem.W.Frag) (a : Addr) : It :=
 ⟨fun i H => ∃ xs x, nD K H a xs ∧ xs[i]? = some x, fun i H x H' => H' = H ∧ ∀ xs, nD K H a xs → xs[i]? = some x, fun i H => ∃ xs, nD K H a xs ∧ xs.length ≤ i⟩
noncomputable def UZ (lo : Int) (n : Nat) : It := ⟨fun i _ => i < n, fun i H x H' => H' = H ∧ x = .int (lo + i), fun i _ => n ≤ i⟩
theorem DE {P : Program} {w : World} {K : PySem.W.Frag} {tg : Expr} (a it : Addr) : Turn P w K tg (V1 K a) [it] it (fun i h => h.IsListIter it a i) where
 mem := by simp
 obj := fun i h st b hb => by
  have e : b = it := by simpa using hb
  subst e
  obtain ⟨o, e, c, d⟩ := st
  exact ⟨o, e, fun v z => by rw [d] at z; cases z⟩
 keep := fun i h h' st k => st.at fun o e => k it (by simp) o e
 item := by
  intro X hP hw hK hc i pins s σ H E I hf st hg
  subst hP hw hK
  obtain ⟨xs, x, hq, hx⟩ := hg
  obtain ⟨its, rv, p, hz⟩ := I.list hq
  obtain ⟨u, hu, ru⟩ := rv.get hx
  obtain ⟨f0, f1, f2, f3, f4, f5⟩ := hf it (by simp)
  refine wpAny_pyNext_list_item st p.isList (x := u) (by simpa using hu) fun h' st' sb => ?_
  have I1 : Inv X pins σ H { s with heap := h' } := I.turned (t' := s.toks) (fun b o hb e => (sb.2 b hb).trans e) f0 f1 f3 f4 f5
  obtain ⟨o, e, c, d⟩ := id st'
  exact ⟨u, rfl, uF (s := { s with heap := h' }) e c d (by decide) ⟨x, H, I1, ru, ⟨rfl, fun ys hy => by rw [I.G3 hy hq]; exact hx⟩, st', fun b hb => (hf b hb).1⟩⟩
 done := by
  intro X hP hw hK hc i pins s σ H E I hf st hg
  subst hP hw hK
  obtain ⟨xs, hq, hx⟩ := hg
  obtain ⟨its, rv, p, hz⟩ := I.list hq
  obtain ⟨f0, f1, f2, f3, f4, f5⟩ := hf it (by simp)
  have hl := rv.length
  exact wpAny_pyNext_list_end (I.ok.hd hc) st p.isList (by simp; omega) fun h' eb => ⟨rfl, I.turned (t' := s.toks) (fun b o hb e => eb b o hb e) f0 f1 f3 f4 f5⟩
 self := fun _ _ _ _ _ st h => wpAny_pyIter_listiter st h
theorem zV {P : Program} {w : World} {K : PySem.W.Frag} {tg : Expr} (a it : Addr) : Turn P w K tg (V3 K a) [it] it (fun i h => h.IsTupleIter it a i) where
 mem := by simp
 obj := fun i h st b hb => by
  have e : b = it := by simpa using hb
  subst e
  obtain ⟨o, e, c, d⟩ := st
  exact ⟨o, e, fun v z => by rw [d] at z; cases z⟩
 keep := fun i h h' st k => st.at fun o e => k it (by simp) o e
 item := by
  intro X hP hw hK hc i pins s σ H E I hf st hg
  subst hP hw hK
  obtain ⟨xs, x, hq, hx⟩ := hg
  obtain ⟨its, rv, p, hz⟩ := I.tuple hq
  obtain ⟨u, hu, ru⟩ := rv.get hx
  obtain ⟨f0, f1, f2, f3, f4, f5⟩ := hf it (by simp)
  refine wpAny_pyNext_tuple_item st (show s.heap.IsTuple a its.toArray from p) (x := u) (by simpa using hu) fun h' st' sb => ?_
  have I1 : Inv X pins σ H { s with heap := h' } := I.turned (t' := s.toks) (fun b o hb e => (sb.2 b hb).trans e) f0 f1 f3 f4 f5
  obtain ⟨o, e, c, d⟩ := id st'
  exact ⟨u, rfl, uF (s := { s with heap := h' }) e c d (by decide) ⟨x, H, I1, ru, ⟨rfl, fun ys hy => by rw [I.C4 hy hq]; exact hx⟩, st', fun b hb => (hf b hb).1⟩⟩
 done := by
  intro X hP hw hK hc i pins s σ H E I hf st hg
  subst hP hw hK
  obtain ⟨xs, hq, hx⟩ := hg
  obtain ⟨its, rv, p, hz⟩ := I.tuple hq
  obtain ⟨f0, f1, f2, f3, f4, f5⟩ := hf it (by simp)
  have hl := rv.length
  exact wpAny_pyNext_tuple_end (I.ok.hd hc) st (show s.heap.IsTuple a its.toArray from p) (by simp; omega) fun h' eb => ⟨rfl, I.turned (t' := s.toks) (fun b o hb e => eb b o hb e) f0 f1 f3 f4 f5⟩
 self := fun _ _ _ _ _ st h => wpAny_pyIter_tupleiter st h
theorem zM {P : Program} {w : World} {K : PySem.W.Frag} {tg : Expr} (it : Addr) (lo : Int) (n : Nat) : Turn P w K tg (UZ lo n) [it] it (fun i h => IsRangeIter h it (lo + (i : Nat) * 1) ((n : Int) - (i : Nat)) 1) where
 mem := by simp
 obj := fun i h st b hb => by
  have e : b = it := by simpa using hb
  subst e
  exact ⟨_, st, fun v z => by
   have z' : Data.fields _ = Data.cell v := z
   cases z'⟩
 keep := fun i h h' st k => k it (by simp) _ st
 item := by
  intro X hP hw hK hc i pins s σ H E I hf st hg
  subst hP hw hK
  obtain ⟨f0, f1, f2, f3, f4, f5⟩ := hf it (by simp)
  have W := Walks.range (prog := X.prog) (w := X.w) (I.ok.hd hc) it lo 1 n
  refine W.item i s _ _ hg st fun v h' tk hv st' kk => ?_
  obtain ⟨t, rfl⟩ := hv
  have I1 : Inv X pins σ H { s with heap := h', toks := tk } := I.turned (fun b o hb e => kk b o (by simpa using hb) e) f0 f1 f3 f4 f5
  refine ⟨_, rfl, uF (s := { s with heap := h', toks := tk }) (n := "range_iterator") st' rfl rfl (by decide) ⟨.int (lo + i), H, I1, ⟨t, ?_⟩, ⟨rfl, rfl⟩, st', fun b hb => (hf b hb).1⟩⟩
  rw [Int.mul_one]
 done := by
  intro X hP hw hK hc i pins s σ H E I hf st hg
  subst hP hw hK
  obtain ⟨f0, f1, f2, f3, f4, f5⟩ := hf it (by simp)
  exact wpAny_pyNext_range_end (I.ok.hd hc) st (by have : n ≤ i := hg; omega) fun h' eb => ⟨rfl, I.turned (t' := s.toks) (fun b o hb e => eb b o hb e) f0 f1 f3 f4 f5⟩
 self := fun _ _ _ _ _ st h => wpAny_pyIter_rangeiter st h
end L2
namespace L2
open PySem PySem.Spec PyProof.Rows
section
variable {X : Cx} {tg : Expr}
theorem EE {pins : List (Addr × Obj)} {σ : St} {H : Hp} {s : Shared} {R : It → Hp → Prop} {E : Value → Shared → Prop} {lo hi : Int} {t u v : Tok} {tk : Nat} (I : Inv X pins σ H s) (h1 : -(2 ^ 62) ≤ lo) (h2 : lo < 2 ^ 62) (h3 : -(2 ^ 62) ≤ hi) (h4 : hi < 2 ^ 62)
  (q : R (UZ lo (hi - lo).toNat) H) : wpAny (model X.prog X.w) X.A (pyIter (.ref s.heap.objs.size)) (YO X pins σ tg R) E { s with heap := s.heap.push { cls := .type "range", data := .fields #[.int lo t, .int hi u, .int 1 v] }, toks := tk } := by
 refine wpAny_pyIter_range (IsRange.new ..) (small_one h1 h2 h3 h4) ?_
 have I1 : Inv X pins σ H { s with heap := s.heap.push { cls := .type "range", data := .fields #[.int lo t, .int hi u, .int 1 v] }, toks := tk } := I.kept fun b o e => Heap.get?_push_of_some _ e
 refine ⟨(s.heap.push { cls := .type "range", data := .fields #[.int lo t, .int hi u, .int 1 v] }).objs.size, [(s.heap.push { cls := .type "range", data := .fields #[.int lo t, .int hi u, .int 1 v] }).objs.size], _, _, H, rfl,
  I1.kept (t' := tk) fun b o e => Heap.get?_push_of_some _ e, zM _ lo (hi - lo).toNat, ?_, fun b hb => ?_, q⟩
 ·have e1 : lo + ((0 : Nat) : Int) * 1 = lo := by simp
  have e2 : (((hi - lo).toNat : Nat) : Int) - ((0 : Nat) : Int) = Builtin.Range.rangeSize lo hi 1 := by rw [rangeSize_one]; split <;> omega
  show IsRangeIter _ _ (lo + ((0 : Nat) : Int) * 1) ((((hi - lo).toNat : Nat) : Int) - ((0 : Nat) : Int)) 1
  rw [e1, e2]
  exact Heap.get?_push_size _ rfl
 ·have e : b = (s.heap.push { cls := .type "range", data := .fields #[.int lo t, .int hi u, .int 1 v] }).objs.size := by simpa using hb
  subst e
  exact I1.zT (Nat.le_refl _) (I1.dJ.fresh (Nat.le_refl _))
noncomputable def M3 (ta : TA) : TI := fun σ H R => ta σ H fun vs H1 => ∃ j : Int, vs = [.int j] ∧ -(2 ^ 62) ≤ j ∧ j < 2 ^ 62 ∧ R (UZ 0 j.toNat) H1
theorem fN {a : Expr} {ta : TA} {p pos : Pos} (hg : Gl X "range") (hm : X.mg "range" = none) (ha : PA X [a] ta) (hs : starEach [a] X.env = [(false, eval a X.env)] := by rfl) : PI X tg (.Call (.Name "range" p) [a] [] pos) (M3 ta) := by
 intro pins s σ H R I h
 refine Call_ (vH I hg hm boot_range (PyProof.Rows.callWith_type1 (d6 (ha pos pins s σ H _ I h) fun us s1 ⟨vs, H1, I1, r1, q1⟩ => ?_) hs rfl))
 obtain ⟨j, e, q1, q2, q⟩ := q1
 subst e
 cases r1 with
 | cons r rr =>
  cases rr
  obtain ⟨t, rfl⟩ := r
  exact call_range_1 (EE I1 (by omega) (by omega) q1 q2 (by simpa using q))
noncomputable def U3 (wi : TI) (g : TG) (tb : TS) : TS := fun D σ H => wi σ H fun J H1 => ∃ W : Nat → Nat → St → Hp → Prop, (∃ m, W 0 m σ H1) ∧ ∀ i m σ H, W i m σ H →
 (J.stop i H ∧ D.nx σ H) ∨ (J.go i H ∧ ∃ N : St → Hp → Prop, (∀ σ' H', N σ' H' → ∃ m', m' < m ∧ W (i + 1) m' σ' H') ∧ ∀ x H', J.SO i H x H' → g x σ H' fun σ2 H2 => tb { D with nx := N, ct := N, bk := D.nx } σ2 H2)
noncomputable def pB (fp : List Addr) (h : Heap) : List (Addr × Obj) := fp.filterMap fun b => (h.get? b).map fun o => (b, o)
theorem hV {fp : List Addr} {h : Heap} {b : Addr} {o : Obj} (hb : b ∈ fp) (e : h.get? b = some o) : (b, o) ∈ pB fp h := List.mem_filterMap.mpr ⟨b, hb, by rw [e]; rfl⟩
theorem CG {fp : List Addr} {h : Heap} {p : Addr × Obj} (hp : p ∈ pB fp h) : p.1 ∈ fp ∧ h.get? p.1 = some p.2 := by
 obtain ⟨b, hb, e⟩ := List.mem_filterMap.mp hp
 cases q : h.get? b with
 | none => rw [q] at e; cases e
 | some o =>
  rw [q] at e
  have e' : (b, o) = p := Option.some.inj e
  subst e'
  exact ⟨hb, q⟩
theorem Inv.pinned {pins : List (Addr × Obj)} {σ : St} {H : Hp} {s : Shared} {fp : List Addr} (I : Inv X pins σ H s) (hf : ∀ b ∈ fp, sD X pins H b) (ho : ∀ b ∈ fp, ∃ o, s.heap.get? b = some o ∧ ∀ v, o.data ≠ .cell v) : Inv X (pins ++ pB fp s.heap) σ H s :=
 I.B7 fun p hp => (List.mem_append.mp hp).elim (fun z => I.pin p (List.mem_append_right _ z)) fun z => by
  obtain ⟨hb, e⟩ := CG z
  obtain ⟨f0, f1, f2, _⟩ := hf p.1 hb
  obtain ⟨o, e', d⟩ := ho p.1 hb
  rw [e] at e'; cases e'
  exact ⟨e, f0, f1, f2, d⟩
theorem Inv.lU {pins pl : List (Addr × Obj)} {σ : St} {H : Hp} {s : Shared} (I : Inv X (pins ++ pl) σ H s) : Inv X pins σ H s := I.B7 fun p hp => I.pin p (List.mem_append_right _ (List.mem_append_left _ hp))
theorem jA {iter : Expr} {body : List Stmt} {wi : TI} {g : TG} {tb : TS} {pos : Pos} (hp : PassesOwn (model X.prog X.w) X.A X.env X.xe) (hc : X.calm = true) (hi : PI X tg iter wi) (hg : PG X tg g) (hb : z6 X body tb)
  (hs : ∀ x, foldedSetIterable iter X.env x = pure x := by intro _; rfl) : PS X (.For tg iter body [] pos) (U3 wi g tb) := by
 intro pins s σ H D I h
 refine wpAny_For (d6 (hi pins s σ H _ I h) fun v s1 h1 => d6 h1 fun itv s2 h2 => ?_) hs
 obtain ⟨it, fp, tn, J, H2, e, I2, T, st2, f2, W, ⟨m0, w0⟩, turn⟩ := h2
 subst e
 have stat : ∀ {H' : Hp}, (∀ b ∈ fp, H' b = none) → ∀ b ∈ fp, sD X pins H' b := fun hn b hb => ⟨hn b hb, (f2 b hb).2⟩
 refine codeAny_forLoop_any (fun n s' => ∃ i σ' H', Inv X pins σ' H' s' ∧ tn i s'.heap ∧ (∀ b ∈ fp, H' b = none) ∧ W i n σ' H') ?_ m0 ⟨0, σ, H2, I2, st2, fun b hb => (f2 b hb).1, w0⟩
 rintro n s3 ⟨i, σ3, H3, I3, st3, fr3, w3⟩
 rcases turn i n σ3 H3 w3 with ⟨stop, qn⟩ | ⟨go, N, hN, step⟩
 ·refine wpAny_passesOwn hp (d6 (T.done X rfl rfl rfl hc i pins s3 σ3 H3 X.xe I3 (stat fr3) st3 stop) fun r s4 ⟨hr, I4⟩ => ?_)
  subst hr
  exact wpAny_execs_nil ⟨σ3, H3, I4, qn⟩
 ·refine wpAny_passesOwn hp (d6 (T.item X rfl rfl rfl hc i pins s3 σ3 H3 X.xe I3 (stat fr3) st3 go) fun r s4 ⟨u, hr, h4⟩ => ?_)
  subst hr
  refine wpAny_passesOwn hp (d6 h4 fun _ s5 ⟨x, H5, I5, r5, y5, st5, fr5⟩ => ?_)
  have I5' := I5.pinned (stat fr5) (T.obj _ _ st5)
  refine wpAny_passesOwn hp (d6 (hg _ s5 σ3 H5 x u _ I5' r5 (step x H5 y5)) fun _ s6 ⟨σ6, H6, I6, q6⟩ => ?_)
  refine wpAny_passesOwn hp (d6 (hb _ s6 σ6 H6 _ I6 q6) fun f s7 q7 => ?_)
  have again : ∀ {σ7 : St} {H7 : Hp}, Inv X (pins ++ pB fp s5.heap) σ7 H7 s7 → N σ7 H7 → ∃ m, m < n ∧ ∃ i σ' H', Inv X pins σ' H' s7 ∧ tn i s7.heap ∧ (∀ b ∈ fp, H' b = none) ∧ W i m σ' H' := fun {σ7 H7} I7 n7 => by
   obtain ⟨m', hm, w7⟩ := hN σ7 H7 n7
   refine ⟨m', hm, i + 1, σ7, H7, I7.lU, T.keep _ _ _ st5 fun b hb o e => (I7.pin (b, o) (List.mem_append_right _ (List.mem_append_right _ (hV hb e)))).1, fun b hb => ?_, w7⟩
   obtain ⟨o, e, d⟩ := T.obj _ _ st5 b hb
   exact (I7.pin (b, o) (List.mem_append_right _ (List.mem_append_right _ (hV hb e)))).2.1
  cases f with
  | next => obtain ⟨σ7, H7, I7, n7⟩ := q7; exact again I7 n7
  | cont => obtain ⟨σ7, H7, I7, n7⟩ := q7; exact again I7 n7
  | brk => obtain ⟨σ7, H7, I7, q7⟩ := q7; exact ⟨σ7, H7, I7.lU, q7⟩
  | ret v => obtain ⟨x7, σ7, H7, I7, r7, q7⟩ := q7; exact ⟨x7, σ7, H7, I7.lU, r7, q7⟩
end
end L2
namespace L2
open PySem PySem.Spec PyProof.Rows
noncomputable abbrev R2 := V → V → Hp → VK → Prop
noncomputable def gZ (X : Cx) (f : Value → Value → Sem Value) (r : R2) : Prop :=
 ∀ (pins : List (Addr × Obj)) (s : Shared) (σ : St) (H : Hp) (x y : V) (v u : Value) (Q : VK), Inv X pins σ H s → RelV x v → RelV y u → r x y H Q →
  wpAny (model X.prog X.w) X.A (f v u) (EP X pins σ Q) X.xe s
noncomputable def WQ (X : Cx) (f : Value → Sem Value) (r : V → Hp → VK → Prop) : Prop :=
 ∀ (pins : List (Addr × Obj)) (s : Shared) (σ : St) (H : Hp) (x : V) (v : Value) (Q : VK), Inv X pins σ H s → RelV x v → r x H Q →
  wpAny (model X.prog X.w) X.A (f v) (EP X pins σ Q) X.xe s
noncomputable def eR (X : Cx) (f : Value) (r : List V → Hp → VK → Prop) : Prop :=
 ∀ (pins : List (Addr × Obj)) (s : Shared) (σ : St) (H : Hp) (xs : List V) (us : List Value) (Q : VK), Inv X pins σ H s → Vals xs us → r xs H Q →
  wpAny (model X.prog X.w) X.A (call f us) (EP X pins σ Q) X.xe s
noncomputable def VP (r : R2) (ta tb : TE) : TE := fun σ H Q => ta σ H fun x H1 => tb σ H1 fun y H2 => r x y H2 Q
noncomputable def YQ (r : V → Hp → VK → Prop) (ta : TE) : TE := fun σ H Q => ta σ H fun x H1 => r x H1 Q
noncomputable def rI (C : Int → Int → Prop) (g : Int → Int → V) : R2 := fun x y H Q => ∃ i j, x = .int i ∧ y = .int j ∧ C i j ∧ Q (g i j) H
noncomputable def AR (g : Int → Int → V) : R2 := fun x y H Q => ∃ i j, x = .int i ∧ y = .int j ∧ Q (g i j) H
noncomputable def rU (g : Int → V) : V → Hp → VK → Prop := fun x H Q => ∃ i, x = .int i ∧ Q (g i) H
section
variable {X : Cx} {a b c : Expr} {ta tb tc : TE} {pos : Pos}
theorem OM (ha : PE X a ta) (hb : PE X b tb) {pins : List (Addr × Obj)} {s : Shared} {σ : St} {H : Hp} {R : V → V → Hp → Prop} (I : Inv X pins σ H s)
  (h : ta σ H fun x H1 => tb σ H1 fun y H2 => R x y H2) {Q : Value → Shared → Prop} {f : Value → Value → Sem Value}
  (hf : ∀ v u s2 x y H2, Inv X pins σ H2 s2 → RelV x v → RelV y u → R x y H2 → wpAny (model X.prog X.w) X.A (f v u) Q X.xe s2) :
  wpAny (model X.prog X.w) X.A (eval a X.env) (fun v s₁ => wpAny (model X.prog X.w) X.A (eval b X.env) (fun u s₂ => wpAny (model X.prog X.w) X.A (f v u) Q X.xe s₂) X.xe s₁) X.xe s := by
 refine d6 (ha pins s σ H _ I h) fun v s1 ⟨x, H1, I1, r1, q1⟩ => ?_
 refine d6 (hb pins s1 σ H1 _ I1 q1) fun u s2 ⟨y, H2, I2, r2, q2⟩ => ?_
 exact hf v u s2 x y H2 I2 r1 r2 q2
theorem bA {op : Operator} {r : R2} (ho : gZ X (binaryOp op) r) (ha : PE X a ta) (hb : PE X b tb) : PE X (.BinOp a op b pos) (VP r ta tb) := by
 intro pins s σ H Q I h
 exact wpAny_BinOp (OM ha hb I h fun v u s2 x y H2 I2 rx ry q => ho pins s2 σ H2 x y v u Q I2 rx ry q)
theorem TJ {op : UnaryOp} {r : V → Hp → VK → Prop} (ho : WQ X (unaryOp op) r) (ha : PE X a ta) : PE X (.UnaryOp op a pos) (YQ r ta) := by
 intro pins s σ H Q I h
 exact UnaryOp_ (d6 (ha pins s σ H _ I h) fun v s1 ⟨x, H1, I1, r1, q1⟩ => ho pins s1 σ H1 x v Q I1 r1 q1)
theorem VI {f : Value → Value → Sem Value} {C : Int → Int → Prop} {g : Int → Int → Int}
  (rule : ∀ (i j : Int) (t u : Tok) (s : Shared) (Q : Value → Shared → Prop) (E : Value → Shared → Prop), C i j → Q (.int (g i j) s.toks) { s with toks := s.toks + 1 } → wpAny (model X.prog X.w) X.A (f (.int i t) (.int j u)) Q E s) :
  gZ X f (rI C fun i j => .int (g i j)) := by
 intro pins s σ H x y v u Q I rx ry h
 obtain ⟨i, j, rfl, rfl, hc, q⟩ := h
 obtain ⟨t, rfl⟩ := rx
 obtain ⟨t', rfl⟩ := ry
 exact rule i j t t' s _ _ hc ⟨.int (g i j), H, I.tok _, ⟨_, rfl⟩, q⟩
theorem US {f : Value → Value → Sem Value} {g : Int → Int → Int}
  (rule : ∀ (i j : Int) (t u : Tok) (s : Shared) (Q : Value → Shared → Prop) (E : Value → Shared → Prop), Q (.int (g i j) s.toks) { s with toks := s.toks + 1 } → wpAny (model X.prog X.w) X.A (f (.int i t) (.int j u)) Q E s) :
  gZ X f (AR fun i j => .int (g i j)) := by
 intro pins s σ H x y v u Q I rx ry h
 obtain ⟨i, j, rfl, rfl, q⟩ := h
 obtain ⟨t, rfl⟩ := rx
 obtain ⟨t', rfl⟩ := ry
 exact rule i j t t' s _ _ ⟨.int (g i j), H, I.tok _, ⟨_, rfl⟩, q⟩
theorem J7 {f : Value → Value → Sem Value} {g : Int → Int → Bool}
  (rule : ∀ (i j : Int) (t u : Tok) (s : Shared) (Q : Value → Shared → Prop) (E : Value → Shared → Prop), Q (.bool (g i j)) s → wpAny (model X.prog X.w) X.A (f (.int i t) (.int j u)) Q E s) :
  gZ X f (AR fun i j => .bl (g i j)) := by
 intro pins s σ H x y v u Q I rx ry h
 obtain ⟨i, j, rfl, rfl, q⟩ := h
 obtain ⟨t, rfl⟩ := rx
 obtain ⟨t', rfl⟩ := ry
 exact rule i j t t' s _ _ ⟨.bl (g i j), H, I, rfl, q⟩
noncomputable def KW (i j : Int) : Prop := (-(2 ^ 64) < i ∧ i < 2 ^ 64) ∨ (-(2 ^ 64) < j ∧ j < 2 ^ 64)
theorem KW.ok {i j : Int} (h : KW i j) : IntMulOk i j := by
 rcases h with ⟨h1, h2⟩ | ⟨h1, h2⟩
 ·exact .of_left (intBits_le_64 h1 h2)
 ·exact .of_right (intBits_le_64 h1 h2)
theorem PF : gZ X (binaryOp .Add) (AR fun i j => .int (i + j)) := US fun _ _ _ _ _ _ _ q => add_int q
theorem IG : gZ X (binaryOp .Sub) (AR fun i j => .int (i - j)) := US fun _ _ _ _ _ _ _ q => sub_int q
theorem kG : gZ X (binaryOp .Mult) (rI KW fun i j => .int (i * j)) := VI fun _ _ _ _ _ _ _ hc q => mul_int q hc.ok
theorem iL : gZ X (binaryOp .Mod) (rI (fun _ j => 0 < j) fun i j => .int (i % j)) := VI fun i j _ _ _ _ _ hc q => by
 have h1 : (0 : Int) < j := hc
 exact mod_int' (by omega) (by rw [Int.fmod_eq_emod_of_nonneg i (by omega)]; exact q)
theorem Y7 {f : Value → Sem Value} {g : Int → Int}
  (rule : ∀ (i : Int) (t : Tok) (s : Shared) (Q : Value → Shared → Prop) (E : Value → Shared → Prop), Q (.int (g i) s.toks) { s with toks := s.toks + 1 } → wpAny (model X.prog X.w) X.A (f (.int i t)) Q E s) :
  WQ X f (rU fun i => .int (g i)) := by
 intro pins s σ H x v Q I rx h
 obtain ⟨i, rfl, q⟩ := h
 obtain ⟨t, rfl⟩ := rx
 exact rule i t s _ _ ⟨.int (g i), H, I.tok _, ⟨_, rfl⟩, q⟩
theorem OG : WQ X (unaryOp .USub) (rU fun i => .int (-i)) := Y7 fun _ _ _ _ _ q => neg_int q
end
section
variable {X : Cx} {a b c : Expr} {ta tb tc : TE} {pos : Pos}
theorem iO {pins : List (Addr × Obj)} {σ : St} {H : Hp} {s : Shared} {Q : VK} {k k' : Bool} (I : Inv X pins σ H s) (q : Q (.bl k) H) (e : k = k') : EP X pins σ Q (.bool k') s := by
 subst e
 exact ⟨.bl k, H, I, rfl, q⟩
theorem SY : gZ X (compareOp .Lt) (AR fun i j => .bl (decide (i < j))) := J7 fun _ _ _ _ _ _ _ q => lt_int q
theorem SV : gZ X (compareOp .LtE) (AR fun i j => .bl (decide (i ≤ j))) := J7 fun _ _ _ _ _ _ _ q => le_int q
theorem sJ : gZ X (compareOp .Gt) (AR fun i j => .bl (decide (j < i))) := J7 fun _ _ _ _ _ _ _ q => gt_int q
theorem U5 : gZ X (compareOp .GtE) (AR fun i j => .bl (decide (j ≤ i))) := J7 fun _ _ _ _ _ _ _ q => ge_int q
theorem DM : gZ X (compareOp .Lt) (fun x y H Q => ∃ i j, x = .str i ∧ y = .str j ∧ Q (.bl (decide (i.cps.toList < j.cps.toList))) H) := by
 intro pins s σ H x y v u Q I rx ry h
 obtain ⟨i, j, rfl, rfl, q⟩ := h
 obtain ⟨t, rfl⟩ := rx
 obtain ⟨t', rfl⟩ := ry
 exact lt_str (iO I q rfl)
theorem CI : gZ X (compareOp .In) (fun x y H Q => ∃ i j, x = .str i ∧ y = .str j ∧ Q (.bl (!(Builtin.Str.occurrences j i 0 j.length 1).isEmpty)) H) := by
 intro pins s σ H x y v u Q I rx ry h
 obtain ⟨i, j, rfl, rfl, q⟩ := h
 obtain ⟨t, rfl⟩ := rx
 obtain ⟨t', rfl⟩ := ry
 exact in_str (iO I q rfl)
theorem RD : gZ X (compareOp .Is) (fun x y H Q => y = .aZ ∧ Q (.bl (decide (x = .aZ))) H) := by
 intro pins s σ H x y v u Q I rx ry h
 obtain ⟨rfl, q⟩ := h
 cases ry
 refine is_none_gen (iO I q ?_)
 cases x <;> first
  | (cases rx; rfl)
  | (obtain ⟨t, rfl⟩ := rx; rfl)
theorem u5 : gZ X (compareOp .IsNot) (fun x y H Q => y = .aZ ∧ Q (.bl (!decide (x = .aZ))) H) := by
 intro pins s σ H x y v u Q I rx ry h
 obtain ⟨rfl, q⟩ := h
 cases ry
 refine isnot_none_gen (iO I q ?_)
 cases x <;> first
  | (cases rx; rfl)
  | (obtain ⟨t, rfl⟩ := rx; rfl)
theorem wW : gZ X (compareOp .NotIn) (fun x y H Q => ∃ i j, x = .str i ∧ y = .str j ∧ Q (.bl (!(!(Builtin.Str.occurrences j i 0 j.length 1).isEmpty))) H) := by
 intro pins s σ H x y v u Q I rx ry h
 obtain ⟨i, j, rfl, rfl, q⟩ := h
 obtain ⟨t, rfl⟩ := rx
 obtain ⟨t', rfl⟩ := ry
 exact notIn_str (iO I q rfl)
theorem gZ.or {f : Value → Value → Sem Value} {r r' : R2} (h : gZ X f r) (h' : gZ X f r') : gZ X f (fun x y H Q => r x y H Q ∨ r' x y H Q) := by
 intro pins s σ H x y v u Q I rx ry q
 rcases q with q | q
 ·exact h pins s σ H x y v u Q I rx ry q
 ·exact h' pins s σ H x y v u Q I rx ry q
theorem cD (b : Expr) {op : CmpOp} (h : op ≠ .In := by decide) (h2 : op ≠ .NotIn := by decide) : behindInMarks op b = false := by
 have e1 : (op == CmpOp.In) = false := by cases op <;> first | rfl | exact absurd rfl h
 have e2 : (op == CmpOp.NotIn) = false := by cases op <;> first | rfl | exact absurd rfl h2
 cases b <;> simp [behindInMarks, e1, e2]
theorem jG {op : CmpOp} {r : R2} (ho : gZ X (compareOp op) r) (ha : PE X a ta) (hb : PE X b tb) (hm : behindInMarks op b = false) : PE X (.Compare a [op] [b] pos) (VP r ta tb) := by
 intro pins s σ H Q I h
 exact wpAny_Compare1 (OM ha hb I h fun v u s2 x y H2 I2 rx ry q => ho pins s2 σ H2 x y v u Q I2 rx ry q) hm
noncomputable def ET (t : TE) : TT := fun σ H Q => t σ H fun x H' => ∃ k, x = .bl k ∧ Q k H'
theorem bW {op : CmpOp} {r : R2} (ho : gZ X (compareOp op) r) (ha : PE X a ta) (hb : PE X b tb) (hm : behindInMarks op b = false) : PT X (.Compare a [op] [b] pos) (ET (VP r ta tb)) := by
 intro pins s σ H Q I h
 refine wpAny_isTrue_Compare1 (d6 (ha pins s σ H _ I h) fun v s1 ⟨x, H1, I1, r1, q1⟩ => d6 (hb pins s1 σ H1 _ I1 q1) fun u s2 ⟨y, H2, I2, r2, q2⟩ =>
  d6 (ho pins s2 σ H2 x y v u _ I2 r1 r2 q2) fun c s3 ⟨z, H3, I3, r3, k, e, q3⟩ => ?_) hm
 subst e
 cases r3
 exact wpAny_truthy_bool ⟨H3, I3, q3⟩
noncomputable def G2 (r r' : R2) (ta tb tc : TE) : TE := fun σ H Q => ta σ H fun x H1 => tb σ H1 fun y H2 => r x y H2 fun z H3 => ∃ k, z = .bl k ∧
 (if k = true then tc σ H3 fun w' H4 => r' y w' H4 Q else Q (.bl false) H3)
theorem HW {op op' : CmpOp} {r r' : R2} (ho : gZ X (compareOp op) r) (ho' : gZ X (compareOp op') r') (ha : PE X a ta) (hb : PE X b tb) (hc : PE X c tc)
  (hm : lastMarks [op, op'] [b, c] = false := by with_unfolding_all rfl) : PT X (.Compare a [op, op'] [b, c] pos) (ET (G2 r r' ta tb tc)) := by
 intro pins s σ H Q I h
 refine isTrue_chain (d6 (ha pins s σ H _ I h) fun v s1 ⟨x, H1, I1, r1, q1⟩ => test_link (d6 (hb pins s1 σ H1 _ I1 q1) fun u s2 ⟨y, H2, I2, r2, q2⟩ =>
  d6 (ho pins s2 σ H2 x y v u _ I2 r1 r2 q2) fun d s3 ⟨z, H3, I3, r3, k, e, q3⟩ => ?_)) hm
 subst e
 cases r3
 refine wpAny_truthy_bool ?_
 cases k with
 | false =>
  obtain ⟨k', e', q'⟩ := q3
  cases e'
  exact ite_ff ⟨H3, I3, q'⟩
 | true =>
  refine ite_tt (test_last (d6 (hc pins s3 σ H3 _ I3 q3) fun w' s4 ⟨z', H4, I4, r4, q4⟩ => d6 (ho' pins s4 σ H4 y z' u w' _ I4 r2 r4 q4) fun d' s5 ⟨z2, H5, I5, r5, k2, e2, q5⟩ => ?_))
  subst e2
  cases r5
  exact wpAny_truthy_bool ⟨H5, I5, q5⟩
theorem oV : (sizeLine : Nat) < 2 ^ 63 := by rw [sizeLine_eq]; decide
theorem zX : gZ X (binaryOp .Add) (fun x y H Q => ∃ i j, x = .str i ∧ y = .str j ∧ i.length + j.length ≤ sizeLine ∧ Q (.str (i ++ j)) H) := by
 intro pins s σ H x y v u Q I rx ry h
 obtain ⟨i, j, rfl, rfl, hz, q⟩ := h
 obtain ⟨t, rfl⟩ := rx
 obtain ⟨t', rfl⟩ := ry
 exact add_str (fun t' tk => ⟨.str (i ++ j), H, I.tok _, ⟨_, rfl⟩, q⟩) hz
theorem vals1 {x : V} {us : List Value} (r : Vals [x] us) : ∃ u, us = [u] ∧ RelV x u := by
 cases r with
 | cons r1 r2 => cases r2; exact ⟨_, rfl, r1⟩
theorem vals2 {x y : V} {us : List Value} (r : Vals [x, y] us) : ∃ u w', us = [u, w'] ∧ RelV x u ∧ RelV y w' := by
 cases r with
 | cons r1 r2 =>
  cases r2 with
  | cons r3 r4 => cases r4; exact ⟨_, _, rfl, r1, r3⟩
theorem CK (hc : X.calm = true) : eR X (.builtin "max") (fun xs H Q => ∃ i j, xs = [.int i, .int j] ∧ Q (.int (if j > i then j else i)) H) := by
 intro pins s σ H xs us Q I r h
 obtain ⟨i, j, rfl, q⟩ := h
 obtain ⟨u, w', rfl, ⟨t, rfl⟩, ⟨t', rfl⟩⟩ := vals2 r
 refine max_two_ints (I.ok.hd hc) fun h' tk k => ⟨_, H, I.kept k, ?_, q⟩
 by_cases hj : j > i
 ·rw [if_pos hj, if_pos hj]; exact ⟨_, rfl⟩
 ·rw [if_neg hj, if_neg hj]; exact ⟨_, rfl⟩
theorem DJ (hc : X.calm = true) : eR X (.builtin "min") (fun xs H Q => ∃ i j, xs = [.int i, .int j] ∧ Q (.int (if j < i then j else i)) H) := by
 intro pins s σ H xs us Q I r h
 obtain ⟨i, j, rfl, q⟩ := h
 obtain ⟨u, w', rfl, ⟨t, rfl⟩, ⟨t', rfl⟩⟩ := vals2 r
 refine min_two_ints (I.ok.hd hc) fun h' tk k => ⟨_, H, I.kept k, ?_, q⟩
 by_cases hj : j < i
 ·rw [if_pos hj, if_pos hj]; exact ⟨_, rfl⟩
 ·rw [if_neg hj, if_neg hj]; exact ⟨_, rfl⟩
theorem DT : eR X (.type "int") (fun xs H Q => (∃ i, xs = [.int i] ∧ Q (.int i) H) ∨ ∃ k, xs = [.bl k] ∧ Q (.int (if k then 1 else 0)) H) := by
 intro pins s σ H xs us Q I r h
 rcases h with ⟨i, rfl, q⟩ | ⟨k, rfl, q⟩
 ·obtain ⟨u, rfl, t, rfl⟩ := vals1 r
  exact call_int_int ⟨.int i, H, I, ⟨_, rfl⟩, q⟩
 ·obtain ⟨u, rfl, r1⟩ := vals1 r
  cases r1
  exact call_int_bool ⟨.int (if k then 1 else 0), H, I.tok _, ⟨_, rfl⟩, q⟩
theorem oE : eR X (.type "str") (fun xs H Q => ∃ i, xs = [.int i] ∧ i.natAbs.log2 < 1920 ∧ Q (.str (toString i)) H) := by
 intro pins s σ H xs us Q I r h
 obtain ⟨i, rfl, hz, q⟩ := h
 obtain ⟨u, rfl, t, rfl⟩ := vals1 r
 exact PySem.P.str_of_int hz ⟨.str _, H, I.tok _, ⟨_, rfl⟩, q⟩
end
end L2
namespace L2
open PySem PySem.Spec PyProof.Rows
structure TV (h : Heap) (x dx C : Addr) (mA : Str → Option Value) : Prop where
 obj : h.get? x = some (PySem.W.instObj C dx)
 ns : h.Ns1 dx mA
 ne : dx ≠ x
theorem DU {h : Heap} {dx : Addr} {mA : Str → Option Value} (n : h.Ns1 dx mA) : ∃ od, h.get? dx = some od ∧ ∀ name, PySem.W.lookIn name od = some (mA name) := by
 obtain ⟨o, es, ep, ho, hd, hk, _, hm⟩ := n
 refine ⟨o, ho, fun name => ?_⟩
 have e := hm name
 unfold nsFind findBy at e
 rw [← Array.find?_toList] at e
 unfold PySem.W.lookIn
 rw [hd]
 dsimp only
 split
 ·rename_i y q
  rw [q] at e
  exact congrArg some e
 ·rename_i q
  rw [q] at e
  have a : es.toList.any (·.refKey) = false := by
   rw [List.any_eq_false]
   intro y hy
   obtain ⟨z, t, hkey⟩ := hk y (Array.mem_toList_iff.mp hy)
   simp [DictEntry.refKey, hkey]
  have a' : ¬ es.toList.any (·.refKey) = true := by rw [a]; exact Bool.false_ne_true
  rw [if_neg a']
  exact congrArg some e
theorem TV.look {h : Heap} {x dx C : Addr} {mA : Str → Option Value} (I : TV h x dx C mA) : ∃ od, PySem.W.InstAt h x (PySem.W.instObj C dx) C (some od) ∧ ∀ name, PySem.W.lookIn name od = some (mA name) :=
 let ⟨od, ho, hl⟩ := DU I.ns
 ⟨od, ⟨I.obj, rfl, rfl, ho⟩, hl⟩
section
variable {prog : Program} {w : World} {A : Around} {E : Value → Shared → Prop} {s : Shared} {K : PySem.W.Frag} {x dx C f : Addr} {mA : Str → Option Value} {name : Str} {v : Value}
end
theorem nT.some_of {v : V} {o : Option Value} (r : nT (some v) o) : ∃ u, o = some u ∧ RelV v u := by
 cases o with
 | none => exact (show False from r).elim
 | some u => exact ⟨u, rfl, r⟩
theorem nT.none_of {o : Option Value} (r : nT none o) : o = none := by
 cases o with
 | none => rfl
 | some u => exact (show False from r).elim
section
variable {P : Program} {w : World} {H H' : Hp} {h h' : Heap} {a C dx : Addr} {fs fs' : List (Str × V)}
end
structure WE (K : PySem.W.Frag) (C : Addr) : Prop where
 pg : PySem.W.plainGet K C Str.empty = true
 hd : PySem.W.hasDictIn K C = true
 po : PySem.W.plainOver K C = true
 sa : PySem.W.findIn K (.ref C) "__setattr__" = some (some (.builtin "object.__setattr__"))
theorem WE.get {K : PySem.W.Frag} {C : Addr} (c : WE K C) (f : Str) : PySem.W.plainGet K C f = true := c.pg
structure ZI (K : PySem.W.Frag) (C : Addr) (f : Str) (v : V) (u : Value) : Prop where
 at_ : PySem.W.findIn K (.ref C) f = some (some u)
 rel : RelV v u
 get : PySem.W.specialIn K u "__get__" = some none
 cp : PySem.W.copiedNames.contains f = false
structure Meth (K : PySem.W.Frag) (C : Addr) (m : Str) (f : Addr) : Prop where
 at_ : PySem.W.findIn K (.ref C) m = some (some (.ref f))
 fn : PySem.W.isFn K (.ref f) = true
 kp : PySem.W.keepIn K (.ref f) = true
section
variable {X : Cx} {pins : List (Addr × Obj)} {σ : St} {H : Hp} {s : Shared} {a C dx : Addr} {fs : List (Str × V)} {f : Str} {v : V} {A : Around} {E : Value → Shared → Prop}
end
section
variable {X : Cx} {o e value : Expr} {f : Str} {pos pos' tpos : Pos} {ta tv : TE}
end
section
variable {X : Cx} {pins : List (Addr × Obj)} {σ : St} {H : Hp} {s : Shared} {A : Around} {E : Value → Shared → Prop} {Q : Value → Shared → Prop} {c : Value} {b : Bool}
inductive pZ (K : PySem.W.Frag) (H : Hp) : V → Value → Prop where
 | aZ : pZ K H .aZ (.type "NoneType")
 | bl (x : Bool) : pZ K H (.bl x) (.type "bool")
 | int (i : Int) : pZ K H (.int i) (.type "int")
 | str (x : Str) : pZ K H (.str x) (.type "str")
 | T5 (x : UInt64) : pZ K H (.T5 x) (.type "float")
 | lst {a : Addr} {xs : List V} (e : H a = some (.lst xs)) : pZ K H (.ref a) (.type "list")
 | D1 {a : Addr} {o : Obj} {xs : List V} (e : H a = some (.D1 o (.lst xs))) : pZ K H (.ref a) (.type "list")
 | tup {a : Addr} {xs : List V} (e : H a = some (.tup xs)) : pZ K H (.ref a) (.type "tuple")
 | dK {a : Addr} {kvs : List (Key × V)} {ep : Nat} (e : H a = some (.dK kvs ep)) : pZ K H (.ref a) (.type "dict")
 | dT {a : Addr} {kvs : List (List Key × V)} (e : H a = some (.dT kvs)) : pZ K H (.ref a) (.type "dict")
 | ins {a C dx : Addr} {fs : List (Str × V)} (e : H a = some (.ins C dx fs)) (cl : WE K C) (ha : PySem.W.findIn K (.ref C) "__class__" = some (some (.builtin "object.__class__")))
   (hn : PySem.W.specialIn K (.builtin "object.__class__") "__get__" = some (some (.builtin "getset_descriptor.__get__"))) (htk : PySem.W.takesIn K (.builtin "object.__class__") = some true)
   (hm : PySem.W.mroIn K C (.type "object") = some true) : pZ K H (.ref a) (.ref C)
end
end L2
namespace L2
open PySem PySem.Spec PyProof.Rows
structure fA (k : Nat) (A : Around) : Prop where
 hd : A.handled = none
 dp : A.depth + 3 * k + 5 < recursionLimit
 un : A.units + 16 * k + 200 < cLine
theorem fA.mono {j k : Nat} {A : Around} (r : fA k A) (h : j ≤ k) : fA j A := ⟨r.hd, by have := r.dp; omega, by have := r.un; omega⟩
theorem fA.deeper {k : Nat} {A : Around} (r : fA (k + 1) A) (env : Env) : fA k (A.deeper env) :=
 ⟨r.hd, by have := r.dp; show A.depth + 1 + 3 * k + 5 < _; omega, by have := r.un; show A.units + 3 + 16 * k + 200 < _; omega⟩
theorem fA.in1 {k : Nat} {A : Around} (r : fA (k + 1) A) : fA k A.in1 :=
 ⟨r.hd, by have := r.dp; show A.depth + 3 * k + 5 < _; omega, by have := r.un; show A.units + 1 + 16 * k + 200 < _; omega⟩
theorem fA.depth {k : Nat} {A : Around} (r : fA k A) : A.depth < recursionLimit := by have := r.dp; omega
theorem fA.units {k : Nat} {A : Around} (r : fA k A) : A.units + 64 < cLine := by have := r.un; omega
theorem fA.GI {k : Nat} {A : Around} (r : fA k A) : A.units < cLine := by have := r.un; omega
noncomputable def zP : TA := fun _ H Q => Q [] H
noncomputable def fF (ta : TE) (tr : TA) : TA := fun σ H Q => ta σ H fun x H1 => tr σ H1 fun xs H2 => Q (x :: xs) H2
section
variable {X : Cx} {e : Expr} {es : List Expr} {te : TE} {t : TA} {pos : Pos}
theorem aK : PA X [] zP := fun _ _ _ _ H Q I h => Calls.spliced_nil ⟨[], H, I, .nil, h⟩
theorem aC (ha : PE X e te) (hr : PA X es t) (hs : starEach (e :: es) X.env = (false, eval e X.env) :: starEach es X.env := by rfl) : PA X (e :: es) (fF te t) := by
 intro pos pins s σ H Q I h
 rw [hs]
 show wpAny _ _ (spliced ((false, eval e X.env) :: backTo pos (starEach es X.env))) _ _ s
 refine Calls.spliced_cons (d6 (ha pins s σ H _ I h) fun u s1 ⟨x, H1, I1, r1, q1⟩ => ?_)
 exact d6 (hr pos pins s1 σ H1 _ I1 q1) fun us s2 ⟨xs, H2, I2, r2, q2⟩ => ⟨x :: xs, H2, I2, .cons r1 r2, q2⟩
noncomputable def OD (t : TA) : TE := fun σ H Q => t σ H fun xs H1 => xs.length ≤ sizeLine ∧ ∀ p, H1 p = none → Q (.ref p) (upd H1 p (.tup xs))
noncomputable def QA (t : TA) : TE := fun σ H Q => t σ H fun xs H1 => xs.length ≤ sizeLine ∧ ∀ p, H1 p = none → Q (.ref p) (upd H1 p (.lst xs))
theorem lJ {x1} (h : PA X es t) : PE X (.Tuple es x1 pos) (OD t) := by
 intro pins s σ H Q I hq
 refine wpAny_Tuple_spliced (d6 (h pos pins s σ H _ I hq) fun us s1 ⟨xs, H1, I1, r, z, q⟩ => ⟨by rw [← r.length]; exact z, ?_⟩)
 have hf : H1 s1.heap.objs.size = none := I1.dJ.fresh (Nat.le_refl _)
 refine ⟨.ref s1.heap.objs.size, upd H1 s1.heap.objs.size (.tup xs), I1.laid (t' := s1.toks) (fun b u e => Heap.get?_push_of_some _ e) (Nat.le_refl _) ?_, rfl, q _ hf⟩
 exact ⟨z, us, r, ⟨_, Heap.get?_push_size _ rfl, rfl, _, rfl⟩⟩
theorem eP (h : PA X es t) : PE X (.List es pos) (QA t) := by
 intro pins s σ H Q I hq
 refine wpAny_List_spliced (d6 (h pos pins s σ H _ I hq) fun us s1 ⟨xs, H1, I1, r, z, q⟩ => ⟨by rw [← r.length]; exact z, ?_⟩)
 have hf : H1 s1.heap.objs.size = none := I1.dJ.fresh (Nat.le_refl _)
 refine ⟨.ref s1.heap.objs.size, upd H1 s1.heap.objs.size (.lst xs), I1.laid (t' := s1.toks) (fun b u e => Heap.get?_push_of_some _ e) (Nat.le_refl _) ?_, rfl, q _ hf⟩
 exact ⟨z, us, 0, r, Heap.get?_push_size _ rfl⟩
end
noncomputable abbrev Sp := List V → Hp → VK → XK → Prop
noncomputable abbrev DK := List Env → Hp → Shared → XK → Value → Shared → Prop
structure zN (P : Program) (w : World) (K : PySem.W.Frag) (mg : Str → Option Value) (base : Heap) (A : Around) (outer : List Env) (s : Shared) (H : Hp) : Prop where
 frames : A.frames = some outer
 mod : Mod K mg base
 bs : ∀ b o, base.get? b = some o → s.heap.get? b = some o ∧ H b = none
 EJ : base.objs.size ≤ s.heap.objs.size
 pA : s.heap.FunFrames base outer
 MP : ∀ b ∈ DX outer, H b = none
 dJ : mJ P w H s.heap
 bare : AllBare s.gens
noncomputable def CE (outer : List Env) (P : Program) (w : World) (H : Hp) (s : Shared) (Q : VK) (u : Value) (s' : Shared) : Prop :=
 ∃ v H', s'.os = s.os ∧ AllBare s'.gens ∧ Un (DX outer) [] H H' s.heap s'.heap ∧ mJ P w H' s'.heap ∧ RelV v u ∧ Q v H'
noncomputable def CR (CX : DK) (outer : List Env) (P : Program) (w : World) (H : Hp) (s : Shared) (Q : VK) (E : XK) (r : Result) (s' : Shared) : Prop :=
 match r with
 | .ok (.ret u) => CE outer P w H s Q u s'
 | .ok _ => False
 | .error e => CX outer H s E e s'
structure dE (P : Program) (w : World) (K : PySem.W.Frag) (mg : Str → Option Value) (base : Heap) (CX : DK) (k : Nat) (f : Addr) (fd : FuncData) (ps : List Str) (sp : Sp) : Prop where
 len : ∀ vs H Q E, sp vs H Q E → vs.length = ps.length
 run : ∀ (A : Around) (outer : List Env) (s : Shared) (H : Hp) (args : Args) (us : List Value) (vs : List V) (Q : VK) (E : XK), fA k A → zN P w K mg base A outer s H → BindsTo s fd args (ps.zip us) → Vals vs us → sp vs H Q E →
  codeAny (model P w) A (.call (.ref f) args) (CR CX outer P w H s Q E) s
theorem dE.mono {P : Program} {w : World} {K : PySem.W.Frag} {mg : Str → Option Value} {base : Heap} {CX : DK} {j k : Nat} {f : Addr} {fd : FuncData} {ps : List Str} {sp : Sp} (F : dE P w K mg base CX j f fd ps sp) (h : j ≤ k) :
  dE P w K mg base CX k f fd ps sp := ⟨F.len, fun A outer s H args us vs Q E hr => F.run A outer s H args us vs Q E (hr.mono h)⟩
theorem dE.imp {P : Program} {w : World} {K : PySem.W.Frag} {mg : Str → Option Value} {base : Heap} {CX : DK} {k : Nat} {f : Addr} {fd : FuncData} {ps : List Str} {sp sp' : Sp} (F : dE P w K mg base CX k f fd ps sp)
  (h : ∀ vs H Q E, sp' vs H Q E → sp vs H Q E) : dE P w K mg base CX k f fd ps sp' :=
 ⟨fun vs H Q E q => F.len vs H Q E (h _ _ _ _ q), fun A outer s H args us vs Q E hr he hb hv hs => F.run A outer s H args us vs Q E hr he hb hv (h _ _ _ _ hs)⟩
theorem zN.in1 {P : Program} {w : World} {K : PySem.W.Frag} {mg : Str → Option Value} {base : Heap} {A : Around} {outer : List Env} {s : Shared} {H : Hp} (e : zN P w K mg base A outer s H) :
  zN P w K mg base A.in1 outer s H := ⟨e.frames, e.mod, e.bs, e.EJ, e.pA, e.MP, e.dJ, e.bare⟩
section
variable {X : Cx} {pins : List (Addr × Obj)} {σ : St} {H : Hp} {s s' : Shared}
theorem Inv.mH (I : Inv X pins σ H s) : zN X.prog X.w X.K X.mg X.base X.A X.stack s H :=
 ⟨I.ok.frames, I.ok.mod, I.bs, Nat.le_trans I.ok.EJ I.sz, I.stack, I.BS, I.dJ, I.bare⟩
theorem Inv.after {Q : VK} {u : Value} (I : Inv X pins σ H s) (h : CE X.stack X.prog X.w H s Q u s') : EP X pins σ Q u s' := by
 obtain ⟨v, H', os, bare, un, dJ, r, q⟩ := h
 obtain ⟨hh, g, d, t, os'⟩ := s'
 obtain rfl : os' = s.os := os
 exact ⟨v, H', I.call (h' := hh) (g' := g) (d' := d) (t' := t) (ch := []) un dJ bare (fun b z => absurd z (by simp)), r, q⟩
end
noncomputable def IA (sp : Sp) (dvs : List V) (E : XK) (t : TA) : TE := fun σ H Q => t σ H fun vs H1 => sp (vs ++ dvs) H1 Q E
noncomputable def Binds (K : PySem.W.Frag) (fd : FuncData) (ps : List Str) (ds : List Value) : Prop :=
 ∀ (s : Shared) (us : List Value), K.In s.heap → (us ++ ds).length = ps.length → BindsTo s fd ⟨us, []⟩ (ps.zip (us ++ ds))
theorem Binds.all {K : PySem.W.Frag} {fd : FuncData} {ps : List Str} (h : ∀ us : List Value, us.length = ps.length → bindArgs fd ⟨us, []⟩ = pure (ps.zip us)) : Binds K fd ps [] := fun s us _ hl => by
 rw [List.append_nil] at hl ⊢
 exact .of_eq (h us hl)
noncomputable def Passes (CX : DK) (X : Cx) (E : XK) : Prop := ∀ (pins : List (Addr × Obj)) (σ : St) (H : Hp) (s : Shared) (e : Value) (s' : Shared), Inv X pins σ H s → CX X.stack H s E e s' → X.xe e s'
section
variable {X : Cx} {CX : DK} {k : Nat} {f C : Addr} {fd : FuncData} {ps : List Str} {sp : Sp} {dvs : List V} {ds : List Value} {E : XK} {x m : Str} {p pos apos : Pos} {e o : Expr} {es : List Expr} {ta : TE} {t : TA}
theorem NM {pins : List (Addr × Obj)} {σ : St} {H : Hp} {s : Shared} {Q : VK} {us : List Value} {vs : List V} (F : dE X.prog X.w X.K X.mg X.base CX k f fd ps sp) (hr : fA k X.A) (hb : Binds X.K fd ps ds) (hd : Vals dvs ds) (hx : Passes CX X E)
  (I : Inv X pins σ H s) (r : Vals vs us) (h : sp (vs ++ dvs) H Q E) : wpAny (model X.prog X.w) X.A (call (.ref f) us) (EP X pins σ Q) X.xe s := by
 have r2 : Vals (vs ++ dvs) (us ++ ds) := r.append hd
 have hl : (us ++ ds).length = ps.length := by rw [← r2.length]; exact F.len _ _ _ _ h
 refine wpAny_call (codeAny_mono (F.run X.A X.stack s H ⟨us, []⟩ (us ++ ds) (vs ++ dvs) Q E hr I.mH (hb s us I.DL hl) r2 h) fun r s' hq => ?_)
 cases r with
 | error e => exact hx pins σ H s e s' I hq
 | ok fl =>
  cases fl with
  | ret u => exact I.after hq
  | next => exact False.elim hq
  | brk => exact False.elim hq
  | cont => exact False.elim hq
theorem LK (F : dE X.prog X.w X.K X.mg X.base CX k f fd ps sp) (hr : fA k X.A) (hg : Gl X x) (hm : X.mg x = some (.ref f)) (hk : PySem.W.keepIn X.K (.ref f) = true) (hb : Binds X.K fd ps ds) (hd : Vals dvs ds) (hx : Passes CX X E)
  (ha : PA X (e :: es) t) (hdb : (x == ("__debug__" : Str)) = false := by decide) (he : starEach (e :: es) X.env = (false, eval e X.env) :: starEach es X.env := by rfl) (hpl : (backTo pos (starEach es X.env)).any (·.1) = false := by rfl) :
  PE X (.Call (.Name x p) (e :: es) [] pos) (IA sp dvs E t) := by
 intro pins s σ H Q I h
 refine wpAny_Call_Name_kw (B6 I hg hm ?_ hdb)
 refine PySem.W.callWith_K (h₀ := X.base) I.ok.mod.WT hk (d6 (ha pos pins s σ H _ I h) fun us s1 ⟨vs, H1, I1, r, q⟩ => ⟨I1.DL, ?_⟩) he hpl
 exact NM F hr hb hd hx I1 r q
structure Mk (K : PySem.W.Frag) (C f : Addr) : Prop where
 makes : PySem.W.makesIn K C = true
 init : PySem.W.findIn K (.ref C) "__init__" = some (some (.ref f))
 fn : PySem.W.isFn K (.ref f) = true
 kp : PySem.W.keepIn K (.ref C) = true
end
section
variable {X : Cx} {CX : DK} {k : Nat} {f C : Addr} {fd : FuncData} {ps ks : List Str} {sp : Sp} {E : XK} {x m : Str} {p pos apos kpos : Pos} {e o : Expr} {es : List Expr} {kws : List Keyword} {te ta : TE} {t tk : TA} {nm : Option Str}
structure WN (K : PySem.W.Frag) (fd : FuncData) (ps ks : List Str) (g : List Value → List Value → List Value) (gV : List V → List V → List V) : Prop where
 to : ∀ (s : Shared) (us ws : List Value), K.In s.heap → (g us ws).length = ps.length → BindsTo s fd ⟨us, ks.zip ws⟩ (ps.zip (g us ws))
 rel : ∀ {vs : List V} {us : List Value} {zs : List V} {ws : List Value}, Vals vs us → Vals zs ws → Vals (gV vs zs) (g us ws)
variable {g : List Value → List Value → List Value} {gV : List V → List V → List V}
end
structure dH (N P : List Str) (sc : Scope) : Prop where
 kind : sc.kind = .function
 co : sc.isCoroutine = false
 gen : sc.isGenerator = false
 nd : N.Nodup
 pre : N.take P.length = P
 par : ∀ x ∈ P, sc.names.lookup x = some .local ∨ sc.names.lookup x = some .cell
 Q3 : ∀ y ∈ sc.names, y.2 ≠ .free
theorem uH {kindOf : Str → Option NameKind} {x : Str} : ∀ {binds : List (Str × Value)} {m : Str → Option Value}, (∀ v, (x, v) ∉ binds) → bindL kindOf binds m x = m x
 | [], _, _ => rfl
 | (n, v) :: r, m, h => by
  unfold bindL
  rw [uH fun w hw => h w (List.mem_cons_of_mem _ hw)]
  split
  ·have : x ≠ n := by rintro rfl; exact h v List.mem_cons_self
   simp [this]
  ·rfl
theorem uL {kindOf : Str → Option NameKind} {x : Str} : ∀ {binds : List (Str × Value)} {m : Str → Option Value}, (∀ v, (x, v) ∉ binds) → bindC kindOf binds m x = m x
 | [], _, _ => rfl
 | (n, v) :: r, m, h => by
  unfold bindC
  rw [uL fun w hw => h w (List.mem_cons_of_mem _ hw)]
  split
  ·rfl
  ·have : x ≠ n := by rintro rfl; exact h v List.mem_cons_self
   simp [this]
theorem t7 {kindOf : Str → Option NameKind} {x : Str} {v : Value} : ∀ {P : List Str} {vs : List Value} {i : Nat} {m : Str → Option Value}, P.Nodup → P[i]? = some x → vs[i]? = some v → kindOf x = some .local →
  bindL kindOf (P.zip vs) m x = some v
 | [], _, _, _, _, h, _, _ => by simp at h
 | _ :: _, [], _, _, _, _, h, _ => by simp at h
 | p :: P, w :: vs, 0, m, nd, h1, h2, hk => by
  simp at h1 h2; subst h1; subst h2
  show bindL kindOf ((p, w) :: P.zip vs) m p = _
  unfold bindL
  rw [uH fun v hv => (List.nodup_cons.mp nd).1 (List.of_mem_zip hv).1, if_pos hk]
  simp
 | p :: P, w :: vs, i + 1, m, nd, h1, h2, hk => by
  show bindL kindOf ((p, w) :: P.zip vs) m x = _
  unfold bindL
  exact t7 (i := i) (List.nodup_cons.mp nd).2 (by simpa using h1) (by simpa using h2) hk
theorem tX {kindOf : Str → Option NameKind} {x : Str} {v : Value} : ∀ {P : List Str} {vs : List Value} {i : Nat} {m : Str → Option Value}, P.Nodup → P[i]? = some x → vs[i]? = some v → kindOf x ≠ some .local →
  bindC kindOf (P.zip vs) m x = some v
 | [], _, _, _, _, h, _, _ => by simp at h
 | _ :: _, [], _, _, _, _, h, _ => by simp at h
 | p :: P, w :: vs, 0, m, nd, h1, h2, hk => by
  simp at h1 h2; subst h1; subst h2
  show bindC kindOf ((p, w) :: P.zip vs) m p = _
  unfold bindC
  rw [uL fun v hv => (List.nodup_cons.mp nd).1 (List.of_mem_zip hv).1, if_neg hk]
  simp
 | p :: P, w :: vs, i + 1, m, nd, h1, h2, hk => by
  show bindC kindOf ((p, w) :: P.zip vs) m x = _
  unfold bindC
  exact tX (i := i) (List.nodup_cons.mp nd).2 (by simpa using h1) (by simpa using h2) hk
noncomputable def start (N : List Str) (vs : List V) : St := vs.map some ++ List.replicate (N.length - vs.length) none
noncomputable def C2 (CX : DK) (P : Program) (w : World) (K : PySem.W.Frag) (mg : Str → Option Value) (base : Heap) (N : List Str) (qual : Str) (scope : Scope) (f : Addr) (cd : Value) (A : Around) (outer : List Env) (s : Shared) (H : Hp) (E : XK) : Cx where
 prog := P
 w := w
 K := K
 mg := mg
 base := base
 A := A.deeper (envOfC qual scope s.heap.objs.size f cd)
 N := N
 i9 := s
 HR := H
 env := envOfC qual scope s.heap.objs.size f cd
 outer := outer
 stack := envOfC qual scope s.heap.objs.size f cd :: outer
 ex := []
 calm := true
 fn := fun _ => true
 pn := []
 xe := fun e s' => wpAny (model P w) (A.deeper (envOfC qual scope s.heap.objs.size f cd)) (leaving (envOfC qual scope s.heap.objs.size f cd) e) (fun _ s'' => CX outer H s E e s'') (fun e' s'' => CX outer H s E e' s'') s'
theorem x4 {sc : Scope} {n : Nat} {x : Str} (h : sc.names.lookup x = some .cell) : ∃ c, (cellsFrom n sc.names []).lookup x = some c := by
 have q := PySem.W.cellsFrom_some sc.names n [] (.inl h)
 exact Option.isSome_iff_exists.mp q
theorem C6 {CX : DK} {P : Program} {w : World} {K : PySem.W.Frag} {mg : Str → Option Value} {base : Heap} {N ps : List Str} {qual : Str} {scope : Scope} {f : Addr} {cd : Value} {A : Around} {outer : List Env} {s s1 : Shared} {H : Hp} {E : XK} {us : List Value} {vs : List V}
  (S : dH N ps scope) (hd : A.handled = none) (e0 : zN P w K mg base A outer s H) (hl : vs.length = ps.length) (r : Vals vs us)
  (x : InCallC s s.heap.objs.size (bindL (envOfC qual scope s.heap.objs.size f cd).kindOf (ps.zip us) fun _ => none) (cellsFrom (s.heap.objs.size + 1) scope.names []) (bindC (envOfC qual scope s.heap.objs.size f cd).kindOf (ps.zip us) fun _ => none) s1) :
  Inv (C2 CX P w K mg base N qual scope f cd A outer s H E) [] (start N vs) H s1 := by
 have hpl : ps.length ≤ N.length := by have := congrArg List.length S.pre; rw [List.length_take] at this; omega
 obtain ⟨h1, tk, rfl, hk⟩ := x.done
 have eB : ∀ b : Addr, b ∉ (C2 CX P w K mg base N qual scope f cd A outer s H E).ex := fun b z => absurd (show b ∈ ([] : List Addr) from z) (by simp)
 refine ⟨⟨e0.mod, S.kind, rfl, rfl, Nat.le_refl _, fun y z c h1 h2 => ?_, fun y hy => ?_, fun y c _ h => ?_, fun _ => hd, Around.frames_deeper e0.frames, .inr ⟨rfl, rfl⟩, fun b z => absurd z (eB b), e0.bs, e0.EJ, fun b _ _ => eB b, fun b z => absurd z (eB b), e0.pA, e0.MP⟩,
  rfl, e0.bare, Un.kept hk, ⟨_, x.toInCall.ns, fun i y v h1 h2 h3 => ?_⟩, fun y c h => ⟨_, x.cell y c h⟩, e0.dJ.fresh (Nat.le_refl _), fun y c h => ?_, fun p hp => absurd (show p ∈ ([] : List (Addr × Obj)) from hp) (by simp), e0.dJ.kept hk, ?_⟩
 ·exact name_of_addr x.apart (PySem.mem_of_lookup h1) (PySem.mem_of_lookup h2)
 ·have hy : scope.names.lookup y = some .cell ∨ scope.names.lookup y = some .free := hy
  rcases hy with hy | hy
  ·exact x4 hy
  ·exact absurd rfl (S.Q3 _ (PySem.mem_of_lookup hy))
 ·exact Nat.le_of_lt (x.above y c (PySem.mem_of_lookup h))
 ·have hi : i < vs.length := by
   unfold start at h2
   by_cases hi : i < vs.length
   ·exact hi
   ·rw [List.getElem?_append_right (by simpa using hi)] at h2
    rw [List.getElem?_replicate] at h2
    split at h2 <;> cases h2
  have ha : vs[i]? = some v := by
   unfold start at h2
   rw [List.getElem?_append_left (by simpa using hi), List.getElem?_map] at h2
   cases e : vs[i]? with
   | none => rw [e] at h2; cases h2
   | some a => rw [e] at h2; cases h2; rfl
  obtain ⟨u, hu, rv⟩ := r.get ha
  have hp : ps[i]? = some y := by
   rw [← S.pre, List.getElem?_take_of_lt (by omega)]; exact h1
  have ndP : ps.Nodup := by rw [← S.pre]; exact S.nd.sublist (List.take_sublist _ _)
  refine ⟨u, rv, ?_⟩
  rcases S.par y (List.mem_of_getElem? hp) with k | k
  ·exact .inl ⟨k, t7 ndP hp hu k⟩
  ·obtain ⟨c, e⟩ := x4 (n := s.heap.objs.size + 1) k
   refine .inr ⟨.inl k, c, e, ?_⟩
   have q := x.cell y c e
   rw [tX ndP hp hu (by show scope.names.lookup y ≠ _; rw [k]; decide)] at q
   exact q
 ·exact e0.dJ.fresh (Nat.le_of_lt (x.above y c (PySem.mem_of_lookup h)))
 ·unfold start
  show _ = N.length
  rw [List.length_append, List.length_map, List.length_replicate]
  omega
theorem UA {CX : DK} {P : Program} {w : World} {K : PySem.W.Frag} {mg : Str → Option Value} {base : Heap} {k : Nat} {f : Addr} {name qual : Str} {params : Arguments} {body : List Stmt} {scope : Scope} {dV kV doc pm cdv ct oc : Value} {an od : Option Addr}
  {osl : Array (Option Value)} {N ps : List Str} {sp : Sp} (lk : K.lookup f = some ⟨oc, od, .func (PySem.W.fnOf name qual params body scope dV kV doc pm an cdv ct), osl⟩) (hcd : PySem.W.codeIn K cdv qual = true) (S : dH N ps scope)
  (len : ∀ vs H Q E, sp vs H Q E → vs.length = ps.length)
  (hbody : ∀ (A : Around) (outer : List Env) (s : Shared) (H : Hp) (vs : List V) (Q : VK) (E : XK), fA k (A.deeper (envOfC qual scope s.heap.objs.size f cdv)) → sp vs H Q E →
   ∃ t, z6 (C2 CX P w K mg base N qual scope f cdv A outer s H E) body t ∧ t { nx := fun _ H' => Q .aZ H', rt := Q } (start N vs) H) :
  dE P w K mg base CX (k + 1) f (PySem.W.fnOf name qual params body scope dV kV doc pm an cdv ct) ps sp := by
 refine ⟨len, fun A outer s H args us vs Q E hr e0 hb r hsp => ?_⟩
 have hl := len _ _ _ _ hsp
 have KX : K.In s.heap := e0.mod.WT.keeps fun b o e => (e0.bs b o e).1
 have lim : s.heap.NoLimit := e0.mod.nolimit.keeps fun b o e => (e0.bs b o e).1
 have hkind : ∀ y ∈ ps.zip us, scope.names.lookup y.1 = some .local ∨ (scope.names.lookup y.1 = some .cell ∧ ((cellsFrom (s.heap.objs.size + 1) scope.names []).lookup y.1).isSome = true) := fun ⟨n, v⟩ hy => by
  rcases S.par n (List.of_mem_zip hy).1 with q | q
  ·exact .inl q
  ·exact .inr ⟨q, PySem.W.cellsFrom_some _ _ _ (.inl q)⟩
 refine codeAny_call_function hr.depth (KX _ _ lk) rfl S.co S.gen rfl (PySem.W.codeRec_of KX hcd) (hb _ _ _ _ ?_)
 refine wpAny_newFunctionEnv_cells S.kind hkind fun env he s1 x => ?_
 subst he
 refine ⟨lim.keeps x.toInCall.keep, codeAny_func ?_⟩
 obtain ⟨t, ht, hq⟩ := hbody A outer s H vs Q E (hr.deeper _) hsp
 have I : Inv (C2 CX P w K mg base N qual scope f cdv A outer s H E) [] (start N vs) H s1 := C6 S hr.hd e0 hl r x
 refine wpAny_mono (ht [] s1 (start N vs) H _ I hq) (fun fl s' hs => ?_) fun e s' hs => hs
 have fin : ∀ {σ' : St} {H' : Hp} {v : V} {u : Value}, Inv (C2 CX P w K mg base N qual scope f cdv A outer s H E) [] σ' H' s' → RelV v u → Q v H' → CE outer P w H s Q u s' :=
  fun {σ' H' v u} J rv q => ⟨v, H', J.os, J.bare, J.base, J.dJ, rv, q⟩
 cases fl with
 | ret u =>
  obtain ⟨v, σ', H', J, rv, q⟩ := hs
  exact fin J rv q
 | next =>
  obtain ⟨σ', H', J, q⟩ := hs
  exact fin (v := V.aZ) (u := Value.none) J rfl q
 | brk =>
  obtain ⟨_, _, _, q⟩ := hs
  exact False.elim q
 | cont =>
  obtain ⟨_, _, _, q⟩ := hs
  exact False.elim q
end L2
namespace L2
open PySem PySem.Spec PyProof.Rows
section
variable {X : Cx} {x : Str} {p pos : Pos} {e : Expr} {es : List Expr} {t : TA} {id T : String} {r : List V → Hp → VK → Prop}
noncomputable def V5 (r : List V → Hp → VK → Prop) (t : TA) : TE := fun σ H Q => t σ H fun vs H1 => r vs H1 Q
theorem bC (hc : eR X (.builtin id) r) (hg : Gl X x) (hm : X.mg x = none) (hv : bootBuiltins x = some (.builtin id)) (ha : PA X (e :: es) t) (hn : x ≠ "__name__" := by decide) (hdb : (x == ("__debug__" : Str)) = false := by decide)
  (he : starEach (e :: es) X.env = (false, eval e X.env) :: starEach es X.env := by rfl) (hpl : (backTo pos (starEach es X.env)).any (·.1) = false := by rfl) : PE X (.Call (.Name x p) (e :: es) [] pos) (V5 r t) := by
 intro pins s σ H Q I h
 refine wpAny_Call_Name_kw (vH I hg hm hv ?_ hn hdb)
 exact PyProof.Rows.callWith_builtin1 (d6 (ha pos pins s σ H _ I h) fun us s1 ⟨vs, H1, I1, r1, q1⟩ => hc pins s1 σ H1 vs us Q I1 r1 q1) he hpl
theorem hW (hc : eR X (.type T) r) (hg : Gl X x) (hm : X.mg x = none) (hv : bootBuiltins x = some (.type T)) (ha : PA X (e :: es) t) (hn : x ≠ "__name__" := by decide) (hdb : (x == ("__debug__" : Str)) = false := by decide)
  (he : starEach (e :: es) X.env = (false, eval e X.env) :: starEach es X.env := by rfl) (hpl : (backTo pos (starEach es X.env)).any (·.1) = false := by rfl) : PE X (.Call (.Name x p) (e :: es) [] pos) (V5 r t) := by
 intro pins s σ H Q I h
 refine wpAny_Call_Name_kw (vH I hg hm hv ?_ hn hdb)
 exact PyProof.Rows.callWith_type1 (d6 (ha pos pins s σ H _ I h) fun us s1 ⟨vs, H1, I1, r1, q1⟩ => hc pins s1 σ H1 vs us Q I1 r1 q1) he hpl
end
end L2
namespace HT
open PySem PyProof.Rows
section
open PySem.SeqAt
open PySem.AutoSeq1 (wpAny_loadPart')
open PySem.MeetsSeq PySem.MeetsSeq2 PySem.MeetsSeq3
end
section
variable {prog : Program} {w : World} {A : Around} {E : Value → Shared → Prop} {s : Shared}
theorem K9 {t b : Addr} {vs ws : List Value} {Q : Value → Shared → Prop} (ht : IsTup s.heap t vs.toArray) (hb : IsTup s.heap b ws.toArray) (hv : vs ≠ [])
  (h1 : ws = [] → Q (.ref t) s) (h2 : ws ≠ [] → Q (.ref s.heap.objs.size) { s with heap := s.heap.push { cls := .type "tuple", data := .seq (vs ++ ws).toArray } })
  (hsz : vs.length + ws.length ≤ sizeLine) : wpAny (model prog w) A (binaryOp .Add (.ref t) (.ref b)) Q E s := by
 obtain ⟨⟨cls, dd, data, sl⟩, ho, hc, n, hd⟩ := id ht
 obtain ⟨⟨cls2, dd2, data2, sl2⟩, ho2, hc2, n2, hd2⟩ := id hb
 simp only at hc hd hc2 hd2
 subst hc hd hc2 hd2
 have e : vs.toArray ++ ws.toArray = (vs ++ ws).toArray := by simp
 by_cases hw : ws = []
 ·exact concat_meets ⟨_, ho, rfl⟩ ⟨_, ho2, rfl⟩ noFill_tuple_add seq_tuple_add PySem.F.slot_tuple_add PySem.F.entry_tuple_add (PySem.F.args_tuple_add_2 _ _)
   (tuple_addW1 t b vs.toArray ws.toArray n n2 dd dd2 sl sl2 (by simpa using hv) (by simp [hw])) ⟨ho, ho2, h1 hw⟩
 ·refine concat_meets ⟨_, ho, rfl⟩ ⟨_, ho2, rfl⟩ noFill_tuple_add seq_tuple_add PySem.F.slot_tuple_add PySem.F.entry_tuple_add (PySem.F.args_tuple_add_2 _ _)
   (tuple_addW2 t b vs.toArray ws.toArray n n2 dd dd2 sl sl2 (by simpa using hv) (by simpa using hw) (by rw [List.size_toArray, List.size_toArray]; exact hsz)) ⟨ho, ho2, ?_⟩
  rw [e]
  exact h2 hw
noncomputable def fY (n d : Nat) : Option Int → Nat
 | none => d
 | some v => if v < 0 then (v + (n : Int)).toNat else min v.toNat n
theorem xZ (n d : Nat) : fY n d none = d := rfl
theorem A2 (n d k : Nat) : fY n d (some (k : Int)) = min k n := by
 show (if (k : Int) < 0 then ((k : Int) + (n : Int)).toNat else min (k : Int).toNat n) = min k n
 rw [if_neg (by omega), Int.toNat_natCast]
theorem Q0 (n d : Nat) (hd : d ≤ n) (o : Option Int) : fY n d o ≤ n := by
 cases o with
 | none => exact hd
 | some v =>
  show (if v < 0 then (v + (n : Int)).toNat else min v.toNat n) ≤ n
  by_cases hv : v < 0
  ·rw [if_pos hv]; omega
  ·rw [if_neg hv]; exact Nat.min_le_right _ _
theorem BR (v : Int) (n d : Nat) : (if v < 0 then max (v + (n : Int)) 0 else min v (n : Int)) = ((fY n d (some v) : Nat) : Int) := by
 show (if v < 0 then max (v + (n : Int)) 0 else min v (n : Int)) = (((if v < 0 then (v + (n : Int)).toNat else min v.toNat n) : Nat) : Int)
 by_cases hv : v < 0
 ·simp only [if_pos hv]; omega
 ·simp only [if_neg hv]; omega
theorem AI (lo hi : Option Int) (n : Nat) : Builtin.Slice.sliceAdjust lo hi 1 (n : Int) = (((fY n 0 lo : Nat) : Int), ((fY n n hi : Nat) : Int)) := by
 have h1 : ¬ ((1 : Int) < 0) := by omega
 unfold Builtin.Slice.sliceAdjust
 simp only [h1, if_false]
 refine Prod.ext ?_ ?_
 ·cases lo with
  | none => rfl
  | some v => exact BR v n 0
 ·cases hi with
  | none => rfl
  | some v => exact BR v n n
theorem zC (i j : Nat) : Builtin.Slice.slicePlaces (i : Int) (j : Int) 1 = j - i := by
 unfold Builtin.Slice.slicePlaces
 have h1 : (1 : Int) > 0 := by omega
 simp only [h1, if_true, Int.ediv_one]
 split <;> omega
theorem qO {v : Value} {o : Option Int} {Q : Option Int → Shared → Prop} (p : IsPart v o) (h : Q o s) : wpAny (model prog w) A (Builtin.Slice.slicePartIndex v) Q E s := by
 cases p with
 | none => exact slicePart_none h
 | int i t => exact slicePart_int h
theorem j5 {sl : Addr} {vl vu : Value} {lo hi : Option Int} {n : Nat} {Q : Int × Int × Nat → Shared → Prop} (hs : s.heap.IsSliceOf sl vl vu .none) (pl : IsPart vl lo) (pu : IsPart vu hi)
  (h : Q (((fY n 0 lo : Nat) : Int), 1, fY n n hi - fY n 0 lo) s) : wpAny (model prog w) A (Builtin.Slice.sliceApplied (.ref sl) (pure (n : Int))) Q E s := by
 obtain ⟨os, hos, hcs, hds⟩ := id hs
 unfold Builtin.Slice.sliceApplied Builtin.Slice.sliceFields
 refine wpAny_bind (wpAny_bind (wpAny_field hos hds (x := vl) rfl (wpAny_bind (wpAny_field hos hds (x := vu) rfl (wpAny_bind (wpAny_field hos hds (x := .none) rfl (wpAny_pure ?_)))))))
 refine wpAny_bind (slicePart_none ?_)
 show wpAny _ _ (if ((1 : Int) == 0) = true then _ else _) _ _ s
 rw [if_neg (by decide)]
 refine wpAny_bind (qO pl (wpAny_bind (qO pu (wpAny_bind (wpAny_pure ?_)))))
 show wpAny _ _ (match Builtin.Slice.sliceAdjust lo hi 1 (n : Int) with | (lo, hi) => pure (lo, (1 : Int), Builtin.Slice.slicePlaces lo hi 1)) _ _ s
 rw [AI lo hi n]
 show wpAny _ _ (pure (((fY n 0 lo : Nat) : Int), (1 : Int), Builtin.Slice.slicePlaces ((fY n 0 lo : Nat) : Int) ((fY n n hi : Nat) : Int) 1)) _ _ s
 rw [zC]
 exact wpAny_pure h
theorem GV (xs : Array Value) (i k : Nat) : ((List.range k).filterMap fun (m : Nat) => xs[((i : Int) + (m : Int) * 1).toNat]?).toArray = ((xs.toList.drop i).take k).toArray := by
 have e : (fun (m : Nat) => xs[((i : Int) + (m : Int) * 1).toNat]?) = fun m => xs[i + m]? := by
  funext m
  have : ((i : Int) + (m : Int) * 1).toNat = i + m := by omega
  rw [this]
 rw [e]
 have := pick_run xs i k
 rw [List.filterMap_map] at this
 have e2 : ((fun x => xs[x]?) ∘ fun x => i + x) = fun m => xs[i + m]? := rfl
 rw [e2] at this
 rw [this]
theorem oG {t sl : Addr} {items : Array Value} {vl vu : Value} {lo hi : Option Int} {Q : Value → Shared → Prop} (ht : IsTup s.heap t items) (hs : s.heap.IsSliceOf sl vl vu .none) (pl : IsPart vl lo) (pu : IsPart vu hi)
  (hw : ¬ (fY items.size 0 lo = 0 ∧ fY items.size items.size hi = items.size))
  (h : Q (.ref s.heap.objs.size) { s with heap := s.heap.push { cls := .type "tuple", data := .seq ((items.toList.drop (fY items.size 0 lo)).take (fY items.size items.size hi - fY items.size 0 lo)).toArray } })
  (hsz : items.size ≤ sizeLine) : wpAny (model prog w) A (getItem (.ref t) (.ref sl)) Q E s := by
 have htake : sizeOk (.seq ((items.toList.drop (fY items.size 0 lo)).take (fY items.size items.size hi - fY items.size 0 lo)).toArray) := by
  show ((items.toList.drop (fY items.size 0 lo)).take (fY items.size items.size hi - fY items.size 0 lo)).toArray.size ≤ sizeLine
  rw [List.size_toArray, List.length_take, List.length_drop, Array.length_toList]
  omega
 have hj : fY items.size items.size hi ≤ items.size := Q0 _ _ (Nat.le_refl _) hi
 obtain ⟨os, hos, hcs, hds⟩ := id hs
 have hTs : s.TypeIs (.ref sl) "slice" := ⟨os, hos, hcs⟩
 unfold getItem
 try with_reducible refine wpAny_holding ?_
 first | refine wpAny_bind (wpAny_pure ?_) | skip
 refine wpAny_bind (wpAny_sequenceKey ht.typeIs (by decide) ?_)
 refine wpAny_bind (wpAny_callSpecial?_slot (name := Str.ofString "__getitem__") ht.typeIs PyProof.Rows.slot_tuple_getitem
  (wpAny_call_entry PyProof.Rows.slot_tuple_getitem ht.typeIs entry_tuple_getitem ?_ (args_tuple_getitem _ _)))
 show wpAny _ _ (Builtin.Tuple.tupleItemsOf (.ref t) >>= _) _ _ s
 refine wpAny_bind (tupleItemsOf_ ht ?_)
 refine wpAny_bind (wpAny_typeOf hTs ?_)
 rw [if_pos (by decide)]
 refine wpAny_bind (j5 hs pl pu ?_)
 have hno : ¬ ((((fY items.size 0 lo : Nat) : Int) == 0 && (1 : Int) == 1 && (fY items.size items.size hi - fY items.size 0 lo) == items.size) = true) := by
  intro q
  rw [Bool.and_eq_true, Bool.and_eq_true] at q
  have q1 : ((fY items.size 0 lo : Nat) : Int) = 0 := eq_of_beq q.1.1
  have q2 : fY items.size items.size hi - fY items.size 0 lo = items.size := eq_of_beq q.2
  exact hw ⟨by omega, by omega⟩
 show wpAny _ _ (if (((fY items.size 0 lo : Nat) : Int) == 0 && (1 : Int) == 1 && (fY items.size items.size hi - fY items.size 0 lo) == items.size) = true then _ else _) _ _ s
 rw [if_neg hno, GV]
 first
  | exact wpAny_bind (m := Builtin.Tuple.tupleExact _) (wpAny_newObj_type (wpAny_pure ⟨_, rfl, wpAny_pure h⟩) htake)
  | exact wpAny_bind (m := Builtin.Tuple.tupleExact _) (wpAny_newObj_type (wpAny_bind (wpAny_pure (wpAny_pure ⟨_, rfl, wpAny_pure h⟩))) htake)
  | exact wpAny_bind (wpAny_bind (m := Builtin.Tuple.tupleExact _) (wpAny_newObj_type (wpAny_pure (wpAny_pure ⟨_, rfl, wpAny_pure h⟩)) htake))
  | exact wpAny_bind (wpAny_bind (m := Builtin.Tuple.tupleExact _) (wpAny_newObj_type (wpAny_pure ⟨_, rfl, wpAny_pure h⟩) htake))
end
end HT
namespace L2
open PySem PySem.Spec PyProof.Rows
noncomputable abbrev TO := St → Hp → (Option Int → Hp → Prop) → Prop
noncomputable def PO (X : Cx) (e : Option Expr) (t : TO) : Prop :=
 ∀ (pins : List (Addr × Obj)) (s : Shared) (σ : St) (H : Hp) (Q : Option Int → Hp → Prop), Inv X pins σ H s → t σ H Q →
  wpAny (model X.prog X.w) X.A (evalPart e X.env) (fun u s' => ∃ o H', Inv X pins σ H' s' ∧ IsPart u o ∧ Q o H') X.xe s
noncomputable def BA : TO := fun _ H Q => Q none H
noncomputable def M0 (t : TE) : TO := fun σ H Q => t σ H fun x H1 => ∃ i, x = .int i ∧ Q (some i) H1
section
variable {X : Cx} {e : Expr} {te : TE} {lo hi : Option Expr} {tl th : TO} {pos p2 : Pos}
theorem eM : PO X none BA := by
 intro pins s σ H Q I h
 rw [evalPart_none]
 exact wpAny_pure ⟨none, H, I, .none, h⟩
theorem eI (h : PE X e te) : PO X (some e) (M0 te) := by
 intro pins s σ H Q I hw
 rw [evalPart_some]
 refine d6 (h pins s σ H _ I hw) fun u s1 ⟨x, H1, I1, r1, q1⟩ => ?_
 obtain ⟨i, rfl, q⟩ := q1
 obtain ⟨t, rfl⟩ := r1
 exact ⟨some i, H1, I1, .int i t, q⟩
noncomputable def DC (X : Cx) (r : V → Option Int → Option Int → Hp → VK → Prop) : Prop :=
 ∀ (pins : List (Addr × Obj)) (s : Shared) (σ : St) (H : Hp) (x : V) (v vl vu : Value) (lo hi : Option Int) (sl : Addr) (Q : VK), Inv X pins σ H s → RelV x v → s.heap.IsSliceOf sl vl vu .none → IsPart vl lo → IsPart vu hi → r x lo hi H Q →
  ∃ T id, typeLookup (.type T) "__getitem__" = pure (some (.builtin id)) ∧ s.TypeIs v T ∧ wpAny (model X.prog X.w) X.A (getItem v (.ref sl)) (EP X pins σ Q) X.xe s
theorem DC.or {r r' : V → Option Int → Option Int → Hp → VK → Prop} (h : DC X r) (h' : DC X r') : DC X (fun x lo hi H Q => r x lo hi H Q ∨ r' x lo hi H Q) := by
 intro pins s σ H x v vl vu lo hi sl Q I rx hs pl pu q
 rcases q with q | q
 ·exact h pins s σ H x v vl vu lo hi sl Q I rx hs pl pu q
 ·exact h' pins s σ H x v vl vu lo hi sl Q I rx hs pl pu q
noncomputable def YT (r : V → Option Int → Option Int → Hp → VK → Prop) (te : TE) (tl th : TO) : TE := fun σ H Q => te σ H fun x H1 => tl σ H1 fun l H2 => th σ H2 fun u H3 => r x l u H3 Q
theorem dS {r : V → Option Int → Option Int → Hp → VK → Prop} (hr : DC X r) (he : PE X e te) (hl : PO X lo tl) (hu : PO X hi th) : PE X (.Subscript e (.Slice lo hi none p2) pos) (YT r te tl th) := by
 intro pins s σ H Q I h
 refine Subscript_ (d6 (he pins s σ H _ I h) fun v s1 ⟨x, H1, I1, r1, q1⟩ => ?_)
 refine wpAny_Slice (d6 (hl pins s1 σ H1 _ I1 q1) fun vl s2 ⟨l, H2, I2, pl, q2⟩ => d6 (hu pins s2 σ H2 _ I2 q2) fun vu s3 ⟨u, H3, I3, pu, q3⟩ => ?_)
 rw [evalPart_none]
 refine wpAny_pure ?_
 have I4 : Inv X pins σ H3 { s3 with heap := s3.heap.push { cls := .type "slice", data := .fields #[vl, vu, .none] } } := I3.kept (t' := s3.toks) fun b ob q => Heap.get?_push_of_some _ q
 obtain ⟨T, id, hT, ht, hg⟩ := hr pins { s3 with heap := s3.heap.push { cls := .type "slice", data := .fields #[vl, vu, .none] } } σ H3 x v vl vu l u s3.heap.objs.size Q I4 r1 (Heap.IsSliceOf.new ..) pl pu q3
 show wpAny (model X.prog X.w) X.A (subscriptTail e (.Slice lo hi none p2) v (.ref s3.heap.objs.size)) (EP X pins σ Q) X.xe { s3 with heap := s3.heap.push { cls := .type "slice", data := .fields #[vl, vu, .none] } }
 exact tail_any (ops := [.ref s3.heap.objs.size, v]) ht hT hg (by with_unfolding_all rfl)
noncomputable def qP (xs : List V) (lo hi : Option Int) : List V := (xs.drop (HT.fY xs.length 0 lo)).take (HT.fY xs.length xs.length hi - HT.fY xs.length 0 lo)
theorem pQ (xs : List V) (lo hi : Option Int) : (qP xs lo hi).length ≤ xs.length := by
 unfold qP
 rw [List.length_take, List.length_drop]
 omega
noncomputable def WY (K : PySem.W.Frag) : V → Option Int → Option Int → Hp → VK → Prop := fun x lo hi H Q => ∃ a xs, x = .ref a ∧ nD K H a xs ∧
 ¬ (HT.fY xs.length 0 lo = 0 ∧ HT.fY xs.length xs.length hi = xs.length) ∧ ∀ p, H p = none → Q (.ref p) (upd H p (.tup (qP xs lo hi)))
theorem R9 : DC X (WY X.K) := by
 intro pins s σ H x v vl vu lo hi sl Q I rx hs pl pu h
 obtain ⟨a, xs, rfl, hx, hw, q⟩ := h
 cases rx
 obtain ⟨its, r, ht, hz⟩ := I.tuple hx
 have hlen : its.toArray.size = xs.length := by rw [List.size_toArray]; exact r.length.symm
 refine ⟨"tuple", _, PyProof.Rows.slot_tuple_getitem.lookup, ht.typeIs, ?_⟩
 refine HT.oG ht hs pl pu (by rw [hlen]; exact hw) ?_ (by rw [hlen]; exact hz)
 rw [hlen]
 refine ⟨.ref s.heap.objs.size, _, I.laid (t' := s.toks) (o := .tup (qP xs lo hi)) (fun b ob q => Heap.get?_push_of_some _ q) (Nat.le_refl _) ?_, rfl, q _ (I.dJ.fresh (Nat.le_refl _))⟩
 exact ⟨Nat.le_trans (pQ xs lo hi) hz, _, (r.drop (HT.fY xs.length 0 lo)).take (HT.fY xs.length xs.length hi - HT.fY xs.length 0 lo), IsTup.new _ _⟩
theorem Vals.A8 {xs : List V} {us : List Value} (r : Vals xs us) : us = [] ↔ xs = [] := by
 cases r with
 | nil => simp
 | cons _ _ => simp
end
end L2
namespace L2
open PySem PySem.Spec PyProof.Rows
noncomputable def sV (n : Nat) (i : Int) : Option Nat := if 0 ≤ i then (if i < n then some i.toNat else none) else if -(n : Int) ≤ i then some (i + n).toNat else none
noncomputable def pM {α : Type} (xs : List α) (i : Int) : Option α := (sV xs.length i).bind fun j => xs[j]?
theorem BG {n : Nat} {i : Int} {j : Nat} (h : sV n i = some j) : seqIndex? i n = some j ∧ j < n ∧ -(n : Int) ≤ i ∧ i < n := by
 unfold sV at h
 by_cases h0 : 0 ≤ i
 ·rw [if_pos h0] at h
  by_cases h1 : i < n
  ·rw [if_pos h1] at h
   have e : i.toNat = j := Option.some.inj h
   exact ⟨by rw [seqIndex_of h0 h1, e], by omega, by omega, h1⟩
  ·rw [if_neg h1] at h; cases h
 ·rw [if_neg h0] at h
  by_cases h1 : -(n : Int) ≤ i
  ·rw [if_pos h1] at h
   have e : (i + n).toNat = j := Option.some.inj h
   exact ⟨by rw [seqIndex_neg (by omega) h1, e], by omega, h1, by omega⟩
  ·rw [if_neg h1] at h; cases h
theorem u6 {α : Type} {xs : List α} {i : Int} {v : α} (h : pM xs i = some v) : ∃ j, seqIndex? i xs.length = some j ∧ xs[j]? = some v ∧ j < xs.length ∧ -(xs.length : Int) ≤ i ∧ i < xs.length := by
 unfold pM at h
 cases e : sV xs.length i with
 | none => rw [e] at h; cases h
 | some j =>
  rw [e] at h
  obtain ⟨h1, h2, h3, h4⟩ := BG e
  exact ⟨j, h1, h, h2, h3, h4⟩
theorem jO {α : Type} {xs : List α} {j : Nat} {v : α} (h : xs[j]? = some v) : pM xs (j : Int) = some v := by
 have hj : j < xs.length := (List.getElem?_eq_some_iff.mp h).1
 have e : sV xs.length (j : Int) = some j := by
  unfold sV
  rw [if_pos (by omega), if_pos (by omega)]; simp
 unfold pM; rw [e]; exact h
noncomputable def MJ (b : Expr) : Prop := ∀ o i, subscripted b false o i = operate [o, i] (getItem o i)
noncomputable def zG (X : Cx) (r : R2) : Prop :=
 ∀ (value slice : Expr) (pins : List (Addr × Obj)) (s : Shared) (σ : St) (H : Hp) (x y : V) (v u : Value) (Q : VK), Inv X pins σ H s → RelV x v → RelV y u → r x y H Q →
  subscripted slice false v u = operate [v, u] (getItem v u) → wpAny (model X.prog X.w) X.A (subscriptTail value slice v u) (EP X pins σ Q) X.xe s
noncomputable def MK (X : Cx) (id : String) (r : V → List V → Hp → VK → Prop) : Prop :=
 ∀ (pins : List (Addr × Obj)) (s : Shared) (σ : St) (H : Hp) (x : V) (xs : List V) (v : Value) (us : List Value) (Q : VK), Inv X pins σ H s → RelV x v → Vals xs us → r x xs H Q →
  wpAny (model X.prog X.w) X.A (call (.builtin id) (v :: us)) (EP X pins σ Q) X.xe s
section
variable {X : Cx} {a b : Expr} {ta tb : TE} {pos : Pos}
theorem zG.or {r r' : R2} (h : zG X r) (h' : zG X r') : zG X (fun x y H Q => r x y H Q ∨ r' x y H Q) := by
 intro value slice pins s σ H x y v u Q I rx ry q hs
 rcases q with q | q
 ·exact h value slice pins s σ H x y v u Q I rx ry q hs
 ·exact h' value slice pins s σ H x y v u Q I rx ry q hs
theorem MK.or {id : String} {r r' : V → List V → Hp → VK → Prop} (h : MK X id r) (h' : MK X id r') : MK X id (fun x xs H Q => r x xs H Q ∨ r' x xs H Q) := by
 intro pins s σ H x xs v us Q I rx rs q
 rcases q with q | q
 ·exact h pins s σ H x xs v us Q I rx rs q
 ·exact h' pins s σ H x xs v us Q I rx rs q
theorem cE {r : R2} (hr : zG X r) (ha : PE X a ta) (hb : PE X b tb) (hs : MJ b) : PE X (.Subscript a b pos) (VP r ta tb) := by
 intro pins s σ H Q I h
 exact Subscript_ (OM ha hb I h fun v u s2 x y H2 I2 rx ry q => hr a b pins s2 σ H2 x y v u Q I2 rx ry q (hs _ _))
noncomputable def OI (K : PySem.W.Frag) : R2 := fun x y H Q => ∃ p xs i v, x = .ref p ∧ y = .int i ∧ jC K H p xs ∧ pM xs i = some v ∧ Q v H
noncomputable def Q4 (K : PySem.W.Frag) : R2 := fun x y H Q => ∃ p xs i v, x = .ref p ∧ y = .int i ∧ nD K H p xs ∧ pM xs i = some v ∧ Q v H
noncomputable def U2 : R2 := fun x y H Q => ∃ z i c, x = .str z ∧ y = .int i ∧ z.length ≤ sizeLine ∧ pM z.cps.toList i = some c ∧ Q (.str ⟨#[c]⟩) H
theorem LD : zG X (OI X.K) := by
 intro value slice pins s σ H x y v u Q I rx ry h hs
 obtain ⟨p, xs, i, z, rfl, rfl, hq, he, q⟩ := h
 cases rx
 obtain ⟨t, rfl⟩ := ry
 obtain ⟨its, r, pl, hz⟩ := I.list hq
 obtain ⟨j, h1, h2, h3, h4, h5⟩ := u6 he
 obtain ⟨w, ew, rw'⟩ := r.get h2
 have hl := r.length
 have hn := oV
 have fin : EP X pins σ Q w s := ⟨z, H, I, rw', q⟩
 by_cases h0 : 0 ≤ i
 ·have hj : i.toNat = j := by
   rw [seqIndex_of h0 h5] at h1
   exact Option.some.inj h1
  exact item_listR pl.isList h0 (by omega) (by rw [hj]; simpa using ew) fin hs
 ·have hj : (i + (its.toArray.size : Int)).toNat = j := by
   rw [seqIndex_neg (by omega) h4] at h1
   rw [List.size_toArray, ← hl]
   exact Option.some.inj h1
  exact subscriptTail_builtinR (x := w) pl.isList.typeIs slot_list_getitem.lookup
   (wpAny_getItem_list_neg (Q := fun r s' => r = w ∧ EP X pins σ Q r s') pl.isList (by omega) (by rw [List.size_toArray] <;> omega) (by omega) (by rw [hj]; simpa using ew) ⟨rfl, fin⟩) hs
theorem P2 : zG X (Q4 X.K) := by
 intro value slice pins s σ H x y v u Q I rx ry h hs
 obtain ⟨p, xs, i, z, rfl, rfl, hq, he, q⟩ := h
 cases rx
 obtain ⟨t, rfl⟩ := ry
 obtain ⟨its, r, pl, hz⟩ := I.tuple hq
 obtain ⟨j, h1, h2, h3, h4, h5⟩ := u6 he
 obtain ⟨w, ew, rw'⟩ := r.get h2
 have hl := r.length
 have hn := oV
 have fin : EP X pins σ Q w s := ⟨z, H, I, rw', q⟩
 exact subscriptTail_builtinR (x := w) pl.typeIs slot_tuple_getitem.lookup
  (getItem_tuple (j := j) (Q := fun r s' => r = w ∧ EP X pins σ Q r s') pl (by omega) (by omega) (by rw [List.size_toArray, ← hl]; exact h1) (by simpa using ew) ⟨rfl, fin⟩) hs
theorem PJ : zG X U2 := by
 intro value slice pins s σ H x y v u Q I rx ry h hs
 obtain ⟨z, i, c, rfl, rfl, hz, he, q⟩ := h
 obtain ⟨t, rfl⟩ := rx
 obtain ⟨t', rfl⟩ := ry
 obtain ⟨j, h1, h2, h3, h4, h5⟩ := u6 he
 have hl : z.cps.toList.length = z.length := by simp [Str.length]
 rw [hl] at h1 h4 h5
 have hn := oV
 exact tail_any (typeIs_str s z t) slot_str_getitem.lookup (getItem_str (c := c) (by
  have e1 : decide (i < -(2 ^ 63 : Int)) = false := decide_eq_false (by omega)
  have e2 : decide (i ≥ 2 ^ 63) = false := decide_eq_false (by omega)
  rw [e1, e2, Bool.or_false]) (by rw [h1]; simpa using h2) ⟨.str ⟨#[c]⟩, H, I.tok _, ⟨_, rfl⟩, q⟩) hs
theorem z8 (its : List Value) (n j : Nat) (u : Value) : Obj.mapSeq (·.setIfInBounds j u) { cls := .type "list", data := .seq its.toArray n } = { cls := .type "list", data := .seq (its.set j u).toArray n } := by
 simp [Obj.mapSeq]
theorem Inv.lst {pins : List (Addr × Obj)} {σ : St} {H : Hp} {s : Shared} {p : Addr} {xs : List V} (I : Inv X pins σ H s) (h : H p = some (.lst xs)) :
  ∃ (its : List Value) (n : Nat), Vals xs its ∧ s.heap.get? p = some { cls := .type "list", data := .seq its.toArray n } ∧ xs.length ≤ sizeLine := by
 obtain ⟨z, its, n, r, e⟩ := I.dJ p _ h
 exact ⟨its, n, r, e, z⟩
theorem Inv.QF {pins : List (Addr × Obj)} {σ : St} {H : Hp} {s : Shared} {p : Addr} {xs ys : List V} {its its' : List Value} {n n' : Nat} {f : Obj → Obj} (I : Inv X pins σ H s) (h : H p = some (.lst xs))
  (ho : s.heap.get? p = some { cls := .type "list", data := .seq its.toArray n }) (hf : f { cls := .type "list", data := .seq its.toArray n } = { cls := .type "list", data := .seq its'.toArray n' }) (r : Vals ys its') (hz : ys.length ≤ sizeLine) (t : Nat) :
  Inv X pins σ (upd H p (.lst ys)) { s with heap := s.heap.update p f, toks := t } := by
 have e : (s.heap.update p f).get? p = some { cls := .type "list", data := .seq its'.toArray n' } := by
  rw [Heap.get?_update_self f ho (by rw [hf] <;> rfl), hf]
 refine I.write (x := p) (e := p) (by rw [h]; trivial) (.inl rfl) (fun b u hb q => (Heap.get?_update_other _ _ (Ne.symm hb)).trans q) ⟨_, e⟩ ?_
 exact ⟨hz, its', n', r, e⟩
noncomputable def MX : V → V → V → Hp → (Hp → Prop) → Prop := fun o i v H Q => ∃ p xs k j, o = .ref p ∧ i = .int k ∧ H p = some (.lst xs) ∧ sV xs.length k = some j ∧ Q (upd H p (.lst (xs.set j v)))
theorem set_list : TZ X MX := by
 intro pins s σ H o i v ov iv u Q I ro ri rv h
 obtain ⟨p, xs, k, j, rfl, rfl, hp, hj, q⟩ := h
 cases ro
 obtain ⟨t, rfl⟩ := ri
 obtain ⟨its, n, r, ho, hz⟩ := I.lst hp
 obtain ⟨h1, h2, h3, h4⟩ := BG hj
 have hl := r.length
 have hn := oV
 have I' : Inv X pins σ (upd H p (.lst (xs.set j v))) { s with heap := s.heap.update p (Obj.mapSeq (·.setIfInBounds j u)) } :=
  I.QF hp ho (z8 its n j u) (r.set rv j) (by rw [List.length_set]; exact hz) s.toks
 by_cases h0 : 0 ≤ k
 ·have hk : k.toNat = j := by
   rw [seqIndex_of h0 h4] at h1
   exact Option.some.inj h1
  exact PySem.W.ki_setAt ho h0 (by omega) (by rw [List.size_toArray, ← hl]; exact h4) (by rw [hk]; exact ⟨_, I', q⟩)
 ·have hk : (k + (its.toArray.size : Int)).toNat = j := by
   rw [seqIndex_neg (by omega) h3] at h1
   rw [List.size_toArray, ← hl]
   exact Option.some.inj h1
  exact PySem.W.ki_setBack ho (by omega) (by rw [List.size_toArray, ← hl]; exact h3) (by omega) (by rw [hk]; exact ⟨_, I', q⟩)
theorem vX (lo hi : Option Int) (n : Nat) : (sliceBounds lo hi none n).1 = ((HT.fY n 0 lo : Nat) : Int) ∧ (sliceBounds lo hi none n).2.1 = ((HT.fY n n hi : Nat) : Int) ∧ (sliceBounds lo hi none n).2.2 = 1 := by
 refine ⟨?_, ?_, rfl⟩
 ·cases lo with
  | none => simp [sliceBounds, HT.fY]
  | some i =>
   simp only [sliceBounds, HT.fY, Option.getD_none, show (1 : Int) > 0 by decide, if_true]
   by_cases h : i < 0
   ·simp only [h, if_true] <;> omega
   ·simp only [h, if_false] <;> omega
 ·cases hi with
  | none => simp [sliceBounds, HT.fY]
  | some i =>
   simp only [sliceBounds, HT.fY, Option.getD_none, show (1 : Int) > 0 by decide, if_true]
   by_cases h : i < 0
   ·simp only [h, if_true] <;> omega
   ·simp only [h, if_false] <;> omega
theorem tO (its : List Value) (lo hi : Option Int) : slicePick its.toArray lo hi none = ((its.drop (HT.fY its.length 0 lo)).take (HT.fY its.length its.length hi - HT.fY its.length 0 lo)).toArray := by
 obtain ⟨h1, h2, h3⟩ := vX lo hi its.toArray.size
 unfold slicePick
 rw [h1, h2, h3]
 simp only [sliceRange_one, pick_run, List.size_toArray] <;> rfl
noncomputable def R6 (K : PySem.W.Frag) : V → Option Int → Option Int → Hp → VK → Prop := fun x lo hi H Q => ∃ a xs, x = .ref a ∧ jC K H a xs ∧ ∀ p, H p = none → Q (.ref p) (upd H p (.lst (qP xs lo hi)))
theorem LQ : DC X (R6 X.K) := by
 intro pins s σ H x v vl vu lo hi sl Q I rx hs pl pu h
 obtain ⟨a, xs, rfl, hx, q⟩ := h
 cases rx
 obtain ⟨its, r, ht, hz⟩ := I.list hx
 have hlen := r.length
 refine ⟨"list", _, slot_list_getitem.lookup, ht.isList.typeIs, ?_⟩
 refine wpAny_getItem_list_slice ht.isList hs pl pu .none (by simp) ?_ (by rw [List.size_toArray] <;> omega)
 rw [tO, ← hlen]
 refine ⟨.ref s.heap.objs.size, _, I.laid (t' := s.toks) (o := .lst (qP xs lo hi)) (fun b ob q => Heap.get?_push_of_some _ q) (Nat.le_refl _) ?_, rfl, q _ (I.dJ.fresh (Nat.le_refl _))⟩
 exact ⟨Nat.le_trans (pQ xs lo hi) hz, _, 0, (r.drop (HT.fY xs.length 0 lo)).take (HT.fY xs.length xs.length hi - HT.fY xs.length 0 lo), Heap.get?_push_size _ rfl⟩
noncomputable def BJ : V → Bool
 | .aZ => true
 | .bl _ => true
 | .int _ => true
 | .str _ => true
 | _ => false
noncomputable def wX : V → V → Bool
 | .aZ, .aZ => true
 | .bl a, .bl b => a == b
 | .bl a, .int b => (if a then 1 else 0) == b
 | .int a, .bl b => a == (if b then 1 else 0)
 | .int a, .int b => a == b
 | .str a, .str b => a == b
 | _, _ => false
theorem RH {A : Around} {s : Shared} {y x : V} {u v : Value} (ry : RelV y u) (rx : RelV x v) (fy : BJ y = true) (fx : BJ x = true) : SeqAt.EqAt A s u v (wX y x) := by
 cases y with
 | aZ =>
  cases ry
  cases x with
  | aZ => cases rx; exact SeqAt.EqAt.same _
  | bl b => cases rx; exact SeqAt.EqAt.none_bool b
  | int b => obtain ⟨t, rfl⟩ := rx; exact SeqAt.EqAt.none_int b t
  | str b => obtain ⟨t, rfl⟩ := rx; exact SeqAt.EqAt.none_str b t
  | _ => exact absurd (show false = true from fx) Bool.false_ne_true
 | bl a =>
  cases ry
  cases x with
  | aZ => cases rx; exact SeqAt.EqAt.bool_none a
  | bl b => cases rx; exact SeqAt.EqAt.bool_bool a b
  | int b => obtain ⟨t, rfl⟩ := rx; exact SeqAt.EqAt.bool_int a b t
  | str b => obtain ⟨t, rfl⟩ := rx; exact SeqAt.EqAt.bool_str a b t
  | _ => exact absurd (show false = true from fx) Bool.false_ne_true
 | int a =>
  obtain ⟨t', rfl⟩ := ry
  cases x with
  | aZ => cases rx; exact SeqAt.EqAt.int_none a t'
  | bl b => cases rx; exact SeqAt.EqAt.int_bool a t' b
  | int b => obtain ⟨t, rfl⟩ := rx; exact SeqAt.EqAt.int_int a t' b t
  | str b => obtain ⟨t, rfl⟩ := rx; exact SeqAt.EqAt.int_str a t' b t
  | _ => exact absurd (show false = true from fx) Bool.false_ne_true
 | str a =>
  obtain ⟨t', rfl⟩ := ry
  cases x with
  | aZ => cases rx; exact SeqAt.EqAt.str_none a t'
  | bl b => cases rx; exact SeqAt.EqAt.str_bool a t' b
  | int b => obtain ⟨t, rfl⟩ := rx; exact SeqAt.EqAt.str_int a t' b t
  | str b => obtain ⟨t, rfl⟩ := rx; exact SeqAt.EqAt.str_str a t' b t
  | _ => exact absurd (show false = true from fx) Bool.false_ne_true
 | _ => exact absurd (show false = true from fy) Bool.false_ne_true
theorem uV : eR X (.builtin "len") (fun xs H Q => ∃ p ys, xs = [.ref p] ∧ (jC X.K H p ys ∨ nD X.K H p ys) ∧ Q (.int ys.length) H) := by
 intro pins s σ H xs us Q I r h
 obtain ⟨p, ys, rfl, hq, q⟩ := h
 obtain ⟨u, rfl, rx⟩ := vals1 r
 cases rx
 have hn := oV
 rcases hq with hq | hq
 ·obtain ⟨its, r', pl, hz⟩ := I.list hq
  have hlen := r'.length
  exact Calls.call_len_list pl.isList (by simp only [List.size_toArray] <;> omega) ⟨.int ys.length, H, I.tok _, ⟨s.toks + 1, by rw [List.size_toArray, hlen]⟩, q⟩
 ·obtain ⟨its, r', pl, hz⟩ := I.tuple hq
  have hlen := r'.length
  exact len_tuple pl (by simp only [List.size_toArray] <;> omega) ⟨.int ys.length, H, I.tok _, ⟨s.toks + 1, by rw [List.size_toArray, hlen]⟩, q⟩
theorem wG : eR X (.builtin "len") (fun xs H Q => ∃ z, xs = [.str z] ∧ z.length ≤ sizeLine ∧ Q (.int z.length) H) := by
 intro pins s σ H xs us Q I r h
 obtain ⟨z, rfl, hz, q⟩ := h
 obtain ⟨u, rfl, t, rfl⟩ := vals1 r
 have hn := oV
 exact len_str (by omega) ⟨.int z.length, H, I.tok _, ⟨_, rfl⟩, q⟩
theorem eR.or {f : Value} {r r' : List V → Hp → VK → Prop} (h : eR X f r) (h' : eR X f r') : eR X f (fun xs H Q => r xs H Q ∨ r' xs H Q) := by
 intro pins s σ H xs us Q I rs q
 rcases q with q | q
 ·exact h pins s σ H xs us Q I rs q
 ·exact h' pins s σ H xs us Q I rs q
theorem vG : eR X (.type "list") (fun xs H Q => ∃ p ys, xs = [.ref p] ∧ (jC X.K H p ys ∨ nD X.K H p ys) ∧ ∀ l, H l = none → Q (.ref l) (upd H l (.lst ys))) := by
 intro pins s σ H xs us Q I r h
 obtain ⟨p, ys, rfl, hq, q⟩ := h
 obtain ⟨u, rfl, rx⟩ := vals1 r
 cases rx
 have fin : ∀ (its : List Value), Vals ys its → ys.length ≤ sizeLine → ∀ (h' : Heap) (c' : Nat), (∀ b o', s.heap.get? b = some o' → h'.get? b = some o') →
   h'.get? s.heap.objs.size = some { cls := .type "list", dict := none, data := .seq its.toArray c', slots := #[] } → EP X pins σ Q (.ref s.heap.objs.size) { s with heap := h' } := fun its r' hz h' c' kp e =>
  ⟨.ref s.heap.objs.size, _, I.laid (t' := s.toks) kp (Nat.le_refl _) (show fS X.prog X.w _ h' _ (.lst ys) from ⟨hz, its, c', r', e⟩), rfl, q _ (I.dJ.fresh (Nat.le_refl _))⟩
 rcases hq with hq | hq
 ·obtain ⟨its, r', pl, hz⟩ := I.list hq
  have hlen := r'.length
  obtain ⟨o, ho, hc, n, hd⟩ := pl.isList
  exact call_list_seq p (.inl rfl) ho hc hd (fun h' c' kp e => fin its r' hz h' c' kp e) (by simp only [List.size_toArray] <;> omega)
 ·obtain ⟨its, r', pl, hz⟩ := I.tuple hq
  have hlen := r'.length
  obtain ⟨o, ho, hc, n, hd⟩ := pl
  exact call_list_seq p (.inr rfl) ho hc hd (fun h' c' kp e => fin its r' hz h' c' kp e) (by simp only [List.size_toArray] <;> omega)
theorem tN : eR X (.type "tuple") (fun xs H Q => ∃ p ys, xs = [.ref p] ∧ ((jC X.K H p ys ∧ ∀ l, H l = none → Q (.ref l) (upd H l (.tup ys))) ∨ (nD X.K H p ys ∧ Q (.ref p) H))) := by
 intro pins s σ H xs us Q I r h
 obtain ⟨p, ys, rfl, h⟩ := h
 obtain ⟨u, rfl, rx⟩ := vals1 r
 cases rx
 rcases h with ⟨hq, q⟩ | ⟨hq, q⟩
 ·obtain ⟨its, r', pl, hz⟩ := I.list hq
  have hlen := r'.length
  refine call_tuple_list pl.isList (fun h' kp => ?_) (by simp only [List.size_toArray] <;> omega)
  have I1 : Inv X pins σ H { s with heap := h' } := I.kept (t' := s.toks) kp
  have I2 : Inv X pins σ (upd H h'.objs.size (.tup ys)) { s with heap := h'.push { cls := .type "tuple", data := .seq its.toArray } } :=
   I1.laid (t' := s.toks) (fun b o e => Heap.get?_push_of_some _ e) (Nat.le_refl _) (show fS X.prog X.w _ _ _ (.tup ys) from ⟨hz, its, r', IsTup.new _ _⟩)
  exact ⟨.ref h'.objs.size, _, I2, rfl, q _ (I1.dJ.fresh (Nat.le_refl _))⟩
 ·obtain ⟨its, r', pl, hz⟩ := I.tuple hq
  exact call_tuple_same pl ⟨.ref p, H, I, rfl, q⟩
noncomputable def YL (K : PySem.W.Frag) (T : String) (x : V) (H : Hp) : Prop := match x with
 | .str _ => T = "str"
 | .int _ => T = "int"
 | .ref p => (T = "list" ∧ ∃ xs, jC K H p xs) ∨ (T = "tuple" ∧ ∃ o, K.lookup p = some o ∧ o.cls = .type "tuple" ∧ o.dict = none) ∨
   (T = "dict" ∧ ((∃ kvs ep, H p = some (.dK kvs ep)) ∨ ∃ kvs, H p = some (.dT kvs))) ∨ (T = "set" ∧ ∃ S n, H p = some (.set S n))
 | _ => False
theorem R1 {pins : List (Addr × Obj)} {σ : St} {H : Hp} {s : Shared} {T : String} {x : V} {v : Value} (I : Inv X pins σ H s) (r : RelV x v) (ty : YL X.K T x H) :
  s.TypeIs v T ∧ ∀ a, v = .ref a → ∃ ob, s.heap.get? a = some ob ∧ ob.dict = none := by
 cases x with
 | str z =>
  obtain ⟨t, rfl⟩ := r
  cases (show T = "str" from ty)
  exact ⟨typeIs_str s z t, fun _ e => nomatch e⟩
 | int i =>
  obtain ⟨t, rfl⟩ := r
  cases (show T = "int" from ty)
  exact ⟨typeIs_int s i t, fun _ e => nomatch e⟩
 | ref p =>
  cases r
  rcases ty with ⟨rfl, xs, hq⟩ | ⟨rfl, o, hk, hc, hd⟩ | ⟨rfl, hk⟩ | ⟨rfl, S, n, hk⟩
  ·obtain ⟨its, _, pl, _⟩ := I.list hq
   refine ⟨pl.isList.typeIs, fun a e => ?_⟩
   cases e
   obtain ⟨o, n, e, c, hd, _⟩ := pl
   exact ⟨o, e, hd⟩
  ·refine ⟨⟨o, I.DL p o hk, hc⟩, fun a e => ?_⟩
   cases e
   exact ⟨o, I.DL _ o hk, hd⟩
  ·have z : ∃ o, s.heap.get? p = some o ∧ o.ExactDict := by
    rcases hk with ⟨kvs, ep, hk⟩ | ⟨kvs, hk⟩
    ·obtain ⟨_, _, _, _, o, _, e, ex, _⟩ := I.dJ p _ hk
     exact ⟨o, e, ex⟩
    ·obtain ⟨_, _, _, _, o, _, _, e, ex, _⟩ := I.dJ p _ hk
     exact ⟨o, e, ex⟩
   obtain ⟨o, e, ex⟩ := z
   refine ⟨⟨o, e, ex.1⟩, fun a e2 => ?_⟩
   cases e2
   exact ⟨o, e, ex.2.1⟩
  ·obtain ⟨o, _, _, _, e, ex, _⟩ := I.dJ p _ hk
   refine ⟨⟨o, e, ex.1⟩, fun a e2 => ?_⟩
   cases e2
   exact ⟨o, e, ex.2.1⟩
 | _ => exact False.elim ty
noncomputable def TB (K : PySem.W.Frag) (T : String) (r : V → List V → Hp → VK → Prop) (to : TE) (t : TA) : TE := fun σ H Q => to σ H fun x H1 => YL K T x H1 ∧ t σ H1 fun xs H2 => r x xs H2 Q
variable {o e : Expr} {es : List Expr} {to : TE} {t : TA} {name : Str} {apos cpos : Pos} {T id : String} {r : V → List V → Hp → VK → Prop}
theorem TL (pa : PlainAttrs T) (slot : Slot T name id) (hty : typeOf (.builtin id) = pure (.type "method_descriptor")) (hm : MK X id r) (ho : PE X o to) (ha : PA X (e :: es) t)
  (hbase : attributeBase o name X.env (eval o X.env) = eval o X.env := by rfl)
  (hfew : ((backTo cpos (starEach (e :: es) X.env)).all (fun x => !x.1) && (backToKw cpos (keywordEach [] X.env)).all (fun x => x.1.isSome)
   && decide ((e :: es).length + ([] : List Keyword).length + (if ([] : List Keyword).isEmpty then 0 else 1) < 30)) = true := by rfl)
  (hline : (apos.endLine == cpos.line) = true := by rfl) (hs : starEach (e :: es) X.env = (false, eval e X.env) :: starEach es X.env := by rfl) (hplain : (backTo cpos (starEach es X.env)).any (·.1) = false := by rfl) :
  PE X (.Call (.Attribute o name apos) (e :: es) [] cpos) (TB X.K T r to t) := by
 intro pins s σ H Q I h
 refine wpAny_Call_method_late hbase hfew hline rfl (d6 (ho pins s σ H _ I h) fun v s1 ⟨x, H1, I1, r1, ty, q1⟩ => ?_)
 obtain ⟨h1, h2⟩ := R1 I1 r1 ty
 refine ⟨T, id, pa, slot, hty, h1, h2, ?_⟩
 have hA := ha cpos pins s1 σ H1 _ I1 q1
 rw [hs] at hA ⊢
 refine Calls.callWith_builtin (by show (false || (backTo cpos (starEach es X.env)).any (·.1)) = false; rw [hplain] <;> rfl) (Calls.evalArgs_plain ?_)
 exact d6 hA fun us s2 ⟨vs, H2, I2, r2, q2⟩ => hm pins s2 σ H2 x vs v us Q I2 r1 r2 q2
end
end L2
namespace L2
open PySem PySem.Spec PyProof.Rows
noncomputable def Y5 (X : Cx) (id : String) (r : V → List V → Hp → VK → Prop) : Prop :=
 ∀ (pins : List (Addr × Obj)) (s : Shared) (σ : St) (H : Hp) (x : V) (xs : List V) (v : Value) (us : List Value) (Q : VK), Inv X pins σ H s → RelV x v → Vals xs us → r x xs H Q →
  wpAny (model X.prog X.w) X.A (call (.builtin id) (v :: us)) (EP X pins σ Q) X.xe s
theorem Vals.one : ∀ {x : V} {us : List Value}, Vals [x] us → ∃ u, us = [u] ∧ RelV x u
 | _, _, .cons r .nil => ⟨_, rfl, r⟩
theorem Vals.two : ∀ {x y : V} {us : List Value}, Vals [x, y] us → ∃ u v, us = [u, v] ∧ RelV x u ∧ RelV y v
 | _, _, _, .cons r (.cons q .nil) => ⟨_, _, rfl, r, q⟩
theorem Vals.zero : ∀ {us : List Value}, Vals [] us → us = []
 | _, .nil => rfl
theorem Vals.eraseIdx : ∀ {xs : List V} {us : List Value} (i : Nat), Vals xs us → Vals (xs.eraseIdx i) (us.eraseIdx i)
 | _, _, _, .nil => .nil
 | _, _, 0, .cons _ t => t
 | _, _, i + 1, .cons r t => .cons r (Vals.eraseIdx i t)
theorem Vals.reverse {xs : List V} {us : List Value} (h : Vals xs us) : Vals xs.reverse us.reverse := by
 induction h with
 | nil => exact .nil
 | cons r t ih => rw [List.reverse_cons, List.reverse_cons]; exact Vals.append ih (.cons r .nil)
theorem Vals.rep {xs : List V} {us : List Value} (h : Vals xs us) : ∀ k : Nat, Vals (List.replicate k xs).flatten (List.replicate k us).flatten
 | 0 => .nil
 | k + 1 => by
  rw [List.replicate_succ, List.replicate_succ, List.flatten_cons, List.flatten_cons]
  exact Vals.append h (Vals.rep h k)
section
variable {X : Cx} {pins : List (Addr × Obj)} {σ : St} {H : Hp} {s : Shared} {l b : Addr} {xs ys zs : List V}
theorem Inv.XJ {its its' : List Value} {n : Nat} {f : Array Value → Array Value} {t' : Nat} (I : Inv X pins σ H s) (hH : H l = some (.lst xs))
  (e : s.heap.get? l = some { cls := .type "list", data := .seq its.toArray n }) (hf : f its.toArray = its'.toArray) (hv : Vals ys its') (hz : ys.length ≤ sizeLine) :
  Inv X pins σ (upd H l (.lst ys)) { s with heap := s.heap.update l (Obj.mapSeq f), toks := t' } := by
 have q := PySem.IsL.update e f
 rw [hf] at q
 refine I.write (x := l) (e := l) (by rw [hH]; exact trivial) (.inl rfl) (fun b' u hb hu => (Heap.get?_update_other s.heap (Obj.mapSeq f) (Ne.symm hb)).trans hu) ⟨_, q⟩ ?_
 exact ⟨hz, its', _, hv, q⟩
theorem Inv.fresh (I : Inv X pins σ H s) : H s.heap.objs.size = none := I.dJ.fresh (Nat.le_refl _)
theorem Inv.XG (I : Inv X pins σ H s) (hH : H l = some (.lst xs)) : xs.length ≤ sizeLine ∧ ∃ (its : List Value) (n : Nat), Vals xs its ∧ xs.length = its.length ∧ s.heap.get? l = some { cls := .type "list", data := .seq its.toArray n } := by
 obtain ⟨z, its, n, r, e⟩ := I.dJ l _ hH
 exact ⟨z, its, n, r, r.length, e⟩
theorem yZ {n : Nat} (h : n ≤ sizeLine) : Builtin.List.listTooLong n = false := by
 unfold Builtin.List.listTooLong
 exact decide_eq_false (by omega)
end
section
variable {X : Cx}
noncomputable def B5 : V → List V → Hp → VK → Prop := fun x vs H Q => ∃ l xs y, x = .ref l ∧ vs = [y] ∧ H l = some (.lst xs) ∧ xs.length < sizeLine ∧ Q .aZ (upd H l (.lst (xs ++ [y])))
theorem iA : Y5 X "list.append" B5 := by
 intro pins s σ H x vs v us Q I rx rv h
 obtain ⟨l, xs, y, rfl, rfl, hH, hz, q⟩ := h
 cases rx
 obtain ⟨u, rfl, ru⟩ := rv.one
 obtain ⟨z, its, n, r, hl, e⟩ := I.XG hH
 refine call_meets F.slot_list_append ⟨_, e, rfl⟩ F.entry_list_append (F.args_list_append_2 _ _) (PySem.list_append l its.toArray n u (by rw [List.size_toArray]; omega)) ⟨e, ?_⟩
 refine ⟨.aZ, _, I.XJ (its' := its ++ [u]) hH e (by simp) (r.append (.cons ru .nil)) ?_, rfl, q⟩
 rw [List.length_append, List.length_singleton]
 omega
end
section
variable {prog : Program} {w : World} {A : Around} {E : Value → Shared → Prop} {s : Shared}
theorem z9 {a c n : Nat} (hac : a ≤ c) (hc : c ≤ n) : sliceBounds (some (a : Int)) (some (c : Int)) none n = ((a : Int), (c : Int), 1) := by
 simp only [sliceBounds, Option.getD_none]
 have h1 : ¬ ((a : Int) < 0) := by omega
 have h2 : ¬ ((c : Int) < 0) := by omega
 simp only [h1, h2, if_false, show (1 : Int) > 0 by decide, if_true]
 congr 1
 ·omega
 ·congr 1; omega
set_option maxRecDepth 100000 in
theorem IM {l b sl : Addr} {items new : Array Value} {n n2 : Nat} {vl vu : Value} {a c : Nat} {Q : Unit → Shared → Prop}
    (e : s.heap.get? l = some { cls := .type "list", data := .seq items n }) (e2 : s.heap.get? b = some { cls := .type "list", data := .seq new n2 }) (hne : l ≠ b)
    (hs : s.heap.IsSliceOf sl vl vu .none) (pl : IsPart vl (some (a : Int))) (pu : IsPart vu (some (c : Int))) (hac : a ≤ c) (hc : c ≤ items.size)
    (hsz : items.size + new.size ≤ sizeLine) (h : Q () { s with heap := s.heap.update l (Obj.mapSeq fun xs => xs.extract 0 a ++ new ++ xs.extract c xs.size) }) :
    wpAny (model prog w) A (setItem (.ref l) (.ref sl) (.ref b)) Q E s := by
  have hl : s.heap.IsList l items := PySem.IsL.isList e
  have hb : s.heap.IsList b new := PySem.IsL.isList e2
  obtain ⟨os, hos, hcs, hds⟩ := id hs
  have hTs : s.TypeIs (.ref sl) "slice" := ⟨os, hos, hcs⟩
  have hstep : ¬ ((rawPart none == rawInt 0) = true) := Bool.false_ne_true
  have hsame : Builtin.List.listSameRef (.ref l) (.ref b) = false := by
    unfold Builtin.List.listSameRef
    exact beq_eq_false_iff_ne.mpr hne
  have hmax : (max (a : Int) (c : Int)).toNat = c := by omega
  have hz' : ((fun xs : Array Value => xs.extract 0 a ++ new ++ xs.extract c xs.size) items).size ≤ sizeLine + 1 := by
    simp only [Array.size_append, Array.size_extract]
    omega
  unfold setItem
  try with_reducible refine wpAny_holding ?_
  first | refine wpAny_bind (wpAny_pure ?_) | skip
  refine wpAny_bind (wpAny_sequenceKey hl.typeIs (by decide) ?_)
  refine wpAny_bind (wpAny_callSpecial?_slot (name := Str.ofString "__setitem__") hl.typeIs slot_list_setitem
    (wpAny_call_entry slot_list_setitem hl.typeIs entry_list_setitem ?_ (args_list_setitem _ _ _)))
  show wpAny _ _ (Builtin.List.listSubscript? (.ref sl) >>= _) _ _ s
  refine wpAny_bind ?_
  unfold Builtin.List.listSubscript?
  refine wpAny_bind (wpAny_specialOf hTs slice_no_index ?_)
  simp only [Option.isNone_none, if_true]
  refine wpAny_pure ?_
  show wpAny _ _ (typeOf (.ref sl) >>= _) _ _ s
  refine wpAny_bind (wpAny_typeOf hTs ?_)
  first
    | rw [if_neg (by decide)]
    | refine PySem.W.KFB.if_not (by decide) ?_
  rw [listSliceParts_eq]
  refine wpAny_bind (wpAny_bind (wpAny_field hos hds (x := .none) rfl (wpAny_bind (wpAny_listPart .none ?_))))
  rw [if_neg hstep]
  refine wpAny_bind (wpAny_field hos hds (x := vl) rfl (wpAny_bind (wpAny_listPart pl ?_)))
  refine wpAny_bind (wpAny_field hos hds (x := vu) rfl (wpAny_bind (wpAny_listPart pu (wpAny_pure ?_))))
  first
    | simp only [hsame, Bool.false_eq_true, if_false]
    | refine PySem.W.KFB.if_not hsame ?_
    | (dsimp only
       rw [if_neg (by rw [hsame]; exact Bool.false_ne_true)])
  refine wpAny_bind (m := Builtin.List.listAllItems (.ref b) "must assign iterable to extended slice") ?_
  unfold Builtin.List.listAllItems
  refine wpAny_bind (wpAny_typeOf hb.typeIs ?_)
  first
    | refine PySem.W.KFB.if_so (by decide) ?_
    | rw [if_pos (by decide)]
    | simp only [beq_self_eq_true, Bool.true_or, if_true]
  unfold Builtin.List.listItems
  refine wpAny_bind (wpAny_seqItems e2 rfl (wpAny_pure ?_))
  refine wpAny_bind (wpAny_bind (wpAny_seqItems e rfl (wpAny_pure ?_)))
  refine wpAny_bind (wpAny_of_eq ((sliceIndices_raw (some (a : Int)) (some (c : Int)) none items.size (by simp)).trans (congrArg (pure : Int × Int × Int → Sem (Int × Int × Int)) (z9 hac hc))) ?_)
  show wpAny _ _ (if ((1 : Int) == 1) = true then _ else _) _ _ s
  rw [if_pos (by decide)]
  refine wpAny_bind (wpAny_rule ?_)
  first
    | simp only [yZ hsz, Bool.false_eq_true, if_false]
    | refine PySem.W.KFB.if_not (yZ hsz) ?_
  first | refine wpAny_bind (wpAny_pure ?_) | skip
  show wpAny _ _ (updateSeq l (fun xs => xs.extract 0 ((a : Int)).toNat ++ new ++ xs.extract (max (a : Int) (c : Int)).toNat xs.size) >>= _) _ _ s
  rw [hmax, Int.toNat_natCast]
  refine wpAny_bind (wpAny_updateSeq (hz := Nat.le_trans (Nat.le_add_right _ _) hsz) (_hz' := hz') e rfl ?_)
  refine wpAny_bind (wpAny_letGo ?_)
  first
    | exact wpAny_bind (wpAny_pure (wpAny_pure ⟨.none, rfl, wpAny_pure h⟩))
    | exact wpAny_pure ⟨.none, rfl, wpAny_pure h⟩
end
section
variable {X : Cx}
end
end L2
namespace YS
open PySem PySem.W PySem.Calls PyProof.Rows
theorem p9 {P : Params} {h : Heap} : ∀ (ns : List Int) (vs : List Value), WellAll P h vs (ns.map WData.int) → IntsAre vs ns := by
 intro ns
 induction ns with
 | nil =>
  intro vs w
  rw [List.map_nil] at w
  cases w
  exact .nil
 | cons n ns ih =>
  intro vs w
  rw [List.map_cons] at w
  cases w with
  | cons a b =>
   cases a
   exact .cons _ _ (ih _ b)
theorem CZ {l : OpenLaw} {n : Nat} (hn : l.most = some n) {P : Params} {h : Heap} {args : List WData} {vals : List Value}
  (hpre : l.row.toRowW.claim.pre args = true) (hwl : WellAll P h vals args) :
  ∃ a vs ns, vals = [Value.ref a] ∧ args = [WData.list (ns.map WData.int)] ∧ h.get? a = some { cls := .type "list", data := .seq vs.toArray } ∧ IntsAre vs ns ∧ ns.length ≤ n := by
 have hsh : WShape.hasAll [] args [.list .int] = true := (pre_splitW hpre).1
 have hc : l.pre.holds [] { args := args } = true := (pre_splitW hpre).2
 obtain ⟨d, r, rfl, h1, h2⟩ := hasAllW_cons hsh
 obtain rfl := hasAllW_nil h2
 obtain ⟨xs, rfl, h3⟩ := hasW_list h1
 obtain ⟨ns, rfl⟩ := items_int h3
 have hlen : ns.length ≤ n := by
  unfold OpenLaw.pre at hc
  have h4 : (WTm.not (.lt (.lit (.int (n : Int))) (.len (.arg 0)))).holds [] { args := [.list (ns.map .int)] } = true := by
   have h4 := (holds_andW hc).1
   rw [hn] at h4
   exact h4
  have h5 := condW_of h4 (w_not (w_lt w_lit (w_len_list (w_arg rfl))))
  rw [List.length_map] at h5
  refine Nat.le_of_not_lt fun q => ?_
  have q' : (n : Int) < ((ns.length : Nat) : Int) := by omega
  first
   | (rw [decide_eq_true q'] at h5; exact absurd h5 (by decide))
   | (simp at h5; omega)
 cases hwl with
 | cons w1 w2 =>
  cases w2
  cases w1 with
  | list ho hall => exact ⟨_, _, ns, rfl, rfl, ho, p9 ns _ hall, hlen⟩
theorem C3 (l : OpenLaw) (args : List WData) : l.row.toRowW.claim.post args (.bool true) args = true :=
 postW_of (r := l.row.toRowW) (X := (true == true))
  (show WShape.has [] (.bool true) .bool = true by first | rfl | decide | simp [WShape.has, WShape.arms, WShape.armsAll])
  (show (WTm.eq .res (.lit (.bool true))).value [] { args := args, res := some (.bool true), after := args } = some (.bool (true == true)) from w_eq_bool (w_res rfl) w_lit) rfl
theorem yV {l : OpenLaw} {n : Nat} {q : Program} {loose : List Str} {XP : (Str → Option Value) → Heap → Prop} {YP : World → Heap → Prop} {d : DefRec}
  (hn : l.most = some n) (hdf : d.params.defaults = [])
  (call : ∀ (w : World) (i9 s₁ : Shared) (mg mb : Str → Option Value) (fa : Addr) (o : Obj) (pm cd doc : Value) (a : Addr) (vs : List Value) (ns : List Int),
   Ground q loose [] XP w i9 mg mb s₁.heap → YP w s₁.heap →
   s₁.heap.get? fa = some o → o.data = .func (docDef d.name d.params d.body d.scope pm cd doc) → s₁.heap.CodeRec cd d.name → mg d.name = some (.ref fa) →
   s₁.heap.get? a = some { cls := .type "list", data := .seq vs.toArray } → IntsAre vs ns → ns.length ≤ n → s₁.gens = #[] →
   codeAny (model l.prog w) callerA (.call (.ref fa) ⟨[.ref a], []⟩) (fun r s' => r = .ok (.ret (.bool true)) ∧ OldK s₁.heap s'.heap ∧ s'.os = s₁.os ∧ AllBare s'.gens) s₁) :
  WalkO q loose XP YP l.row.toRowW d [] (fun f vs => PySem.call f vs) := by
 intro w i9 s₁ mg mb G Y fa o pm cd doc dV kV ho hd hcd hD hmg hg args vals as hpre hlay hrd hwl hlo
 obtain rfl : dV = .none := Dflts.none hD hdf
 obtain rfl : kV = .none := Dflts.noKw hD
 obtain ⟨a, vs, ns, rfl, rfl, hobj, hints, hlen⟩ := CZ hn hpre hwl
 refine enter_call (codeAny_mono (call w i9 s₁ mg mb fa o pm cd doc a vs ns G Y ho (fd_plain hd) hcd hmg hobj hints hlen hg) fun r s' hq => ?_)
 obtain ⟨rfl, h2, h3, h4⟩ := hq
 exact ⟨.inl ⟨.bool true, .bool true, [], rfl, fun _ => rfl, .bool true, C3 l _, fun _ => ⟨List.Pairwise.nil, fun _ hm => (nomatch hm)⟩⟩, h2, h3, h4⟩
section
variable {prog : Program} {w : World} {A : Around} {E : Value → Shared → Prop} {s : Shared} {K : Frag}
end
end YS
namespace L2
open PySem PySem.Spec PyProof.Rows
theorem tR : ∀ {vs : List Value} {ns : List Int}, IntsAre vs ns → Vals (ns.map V.int) vs
 | _, _, .nil => .nil
 | _, _, .cons n t h => .cons ⟨t, rfl⟩ (tR h)
noncomputable def QC (H : Hp) : Prop := ∀ b, H b = none ∨ ∃ o xs, H b = some (.D1 o (.lst xs))
theorem HD {P : Program} {w : World} {K : PySem.W.Frag} {mg mb : Str → Option Value} {CX : DK} {k : Nat} {fa a : Addr} {fd : FuncData} {x : Str} {sp : Sp} {s₁ : Shared} {vs : List Value} {ns : List Int}
  (KX : K.In s₁.heap) (hns : s₁.heap.Ns mainGlobals mg) (hb : s₁.heap.Ns builtinsNs mb) (hbb : ∀ x : Str, x ≠ "__name__" → mb x = bootBuiltins x) (hlim : s₁.heap.NoLimit) (hg : s₁.gens = #[])
  (ha : s₁.heap.get? a = some { cls := .type "list", data := .seq vs.toArray }) (hi : IntsAre vs ns) (hl : ns.length ≤ sizeLine) (hr : fA k callerA)
  (F : ∀ base : Heap, K.In base → base.Ns mainGlobals mg → dE P w K mg base CX k fa fd [x] sp) (hbind : ∀ (s : Shared) (u : Value), BindsTo s fd ⟨[u], []⟩ [(x, u)])
  (hsp : ∀ H : Hp, QC H → jC K H a (ns.map V.int) → sp [.ref a] H (fun v _ => v = .bl true) fun _ _ _ => False)
  (hCX : ∀ H e s', CX [] H s₁ (fun _ _ _ => False) e s' → False) :
  codeAny (model P w) callerA (.call (.ref fa) ⟨[.ref a], []⟩) (fun r s' => r = .ok (.ret (.bool true)) ∧ OldK s₁.heap s'.heap ∧ s'.os = s₁.os ∧ AllBare s'.gens) s₁ := by
 have rv := tR hi
 have lenV := hi.length
 have core : ∀ H : Hp, QC H → jC K H a (ns.map V.int) → mJ P w H s₁.heap → (∀ b, H b ≠ none → b = a) → (H a ≠ none → K.lookup a = none) →
   codeAny (model P w) callerA (.call (.ref fa) ⟨[.ref a], []⟩) (fun r s' => r = .ok (.ret (.bool true)) ∧ OldK s₁.heap s'.heap ∧ s'.os = s₁.os ∧ AllBare s'.gens) s₁ := by
  intro H hO hS dJ hA hK
  have base_of : ∀ {b : Addr} {o : Obj}, s₁.heap.get? b = some o → H b = none → (u4 s₁.heap H).get? b = some o := fun e n => ER e n
  have eB : ∀ {b : Addr} {o : Obj} {es : Array DictEntry} {ep : Nat}, s₁.heap.get? b = some o → o.data = .dict es ep → H b = none := fun {b o es ep} e d => by
   cases q : H b with
   | none => rfl
   | some u =>
    have e' : b = a := hA b (by rw [q]; simp)
    subst e'
    rw [ha] at e; cases e
    have d' : Data.seq vs.toArray _ = Data.dict es ep := d
    cases d'
  have nsK : ∀ {b : Addr} {m : Str → Option Value}, s₁.heap.Ns b m → (u4 s₁.heap H).Ns b m := fun {b m} ⟨o, es, ep, e, d, r⟩ => ⟨o, es, ep, base_of e (eB e d), d, r⟩
  have hKb : K.In (u4 s₁.heap H) := fun b o e => base_of (KX b o e) (by
   cases q : H b with
   | none => rfl
   | some u =>
    have e' : b = a := hA b (by rw [q]; simp)
    subst e'
    rw [hK (by rw [q]; simp)] at e; cases e)
  have hM : Mod K mg (u4 s₁.heap H) := ⟨hKb, nsK hns, ⟨mb, nsK hb, hbb⟩, let ⟨mc, h1, h2⟩ := hlim; ⟨mc, nsK h1, h2⟩⟩
  have e0 : zN P w K mg (u4 s₁.heap H) callerA [] s₁ H := ⟨rfl, hM, fun b o e => LZ e, Nat.le_of_eq (CP _ _), trivial, fun b hb => absurd (show b ∈ ([] : List Addr) from hb) (by simp), dJ, .of_eq hg⟩
  refine codeAny_mono ((F _ hKb (nsK hns)).run callerA [] s₁ H ⟨[.ref a], []⟩ [.ref a] [.ref a] _ _ hr e0 (hbind s₁ (.ref a)) (.cons rfl .nil) (hsp H hO hS)) fun r s' h => ?_
  cases r with
  | error e => exact (hCX H e s' h).elim
  | ok fl =>
   cases fl with
   | next => exact False.elim h
   | brk => exact False.elim h
   | cont => exact False.elim h
   | ret u =>
    obtain ⟨v, H', os, bare, un, hok', r', q⟩ := h
    have q' : v = .bl true := q
    subst q'
    obtain rfl : u = Value.bool true := r'
    refine ⟨rfl, OldK.of_keep fun b o e => ?_, os, bare⟩
    cases q : H b with
    | none => exact un.keep b o e q (by intro z; exact absurd (show b ∈ ([] : List Addr) from z) (by simp)) (by simp)
    | some u =>
     rcases hO b with z | ⟨ob, xs, z⟩
     ·rw [q] at z; cases z
     ·have z2 := un.mY b ob _ z
      obtain ⟨e1, _⟩ := dJ b _ z
      obtain ⟨e2, _⟩ := hok' b _ z2
      rw [e] at e1; cases e1
      exact e2
 cases hk : K.lookup a with
 | some o =>
  have e := KX a o hk
  rw [ha] at e
  cases e
  refine core (fun _ => none) (fun _ => .inl rfl) (.inr ⟨_, vs.toArray, _, hk, rfl, rfl, rfl, by rw [List.size_toArray, lenV]; exact hl, by simpa using rv⟩) (fun b u z => by have z' : (none : Option HO) = some u := z; cases z') (fun b z => absurd rfl z) fun z => absurd rfl z
 | none =>
  refine core (fun b => if b = a then some (.D1 { cls := .type "list", data := .seq vs.toArray } (.lst (ns.map V.int))) else none) (fun b => ?_) (.inl (.inr ⟨{ cls := .type "list", data := .seq vs.toArray }, if_pos rfl⟩)) (fun b u z => ?_) (fun b z => ?_) fun _ => hk
  ·by_cases hb : b = a
   ·exact .inr ⟨_, _, if_pos hb⟩
   ·exact .inl (if_neg hb)
  ·by_cases hb : b = a
   ·have z' := (if_pos hb).symm.trans z
    cases z'
    subst hb
    exact ⟨ha, by rw [List.length_map]; exact hl, vs, _, rv, ha⟩
   ·have z' := (if_neg hb).symm.trans z
    cases z'
  ·by_cases hb : b = a
   ·exact hb
   ·exact absurd (if_neg hb) z
end L2
namespace L2
open PySem PySem.Spec PyProof.Rows
theorem MI {l : PySem.W.OpenLaw} {n k : Nat} {q : Program} {loose : List Str} {XP : (Str → Option Value) → Heap → Prop} {YP : World → Heap → Prop} {d : DefRec} {K : Params → PySem.W.Frag} {CX : World → DK} {sp : World → Sp} {x : Str}
  (hn : l.most = some n) (hn2 : n ≤ sizeLine) (hdf : d.params.defaults = []) (hr : fA k callerA)
  (hY : ∀ (w : World) (h : Heap), YP w h → (K w.params).In h)
  (F : ∀ (w : World) (mg : Str → Option Value) (fa : Addr) (h : Heap), (K w.params).In h → h.Ns mainGlobals mg → mg d.name = some (.ref fa) →
   ∃ fd : FuncData, (∀ (s : Shared) (u : Value), BindsTo s fd ⟨[u], []⟩ [(x, u)]) ∧
    ∀ base : Heap, (K w.params).In base → base.Ns mainGlobals mg → dE l.prog w (K w.params) mg base (CX w) k fa fd [x] (sp w))
  (hsp : ∀ (w : World) (H : Hp) (a : Addr) (ns : List Int), ns.length ≤ n → QC H → jC (K w.params) H a (ns.map V.int) → sp w [.ref a] H (fun v _ => v = .bl true) fun _ _ _ => False)
  (hCX : ∀ (w : World) (H : Hp) (s : Shared) (e : Value) (s' : Shared), CX w [] H s (fun _ _ _ => False) e s' → False) :
  PySem.W.WalkO q loose XP YP l.row.toRowW d [] (fun f vs => PySem.call f vs) := by
 refine YS.yV hn hdf fun w i9 s₁ mg mb fa o pm cd doc a vs ns G Y ho hd hcd hmg hobj hints hlen hg => ?_
 have KX := hY w _ Y
 obtain ⟨fd, hb, hF⟩ := F w mg fa _ KX G.T.g hmg
 exact HD KX G.T.g G.T.b G.T.builtins G.T.nolimit hg hobj hints (Nat.le_trans hlen hn2) hr hF hb (fun H hO hS => hsp w H a ns hlen hO hS) fun H e s' => hCX w H s₁ e s'
end L2
namespace L2
open PySem PySem.Spec PyProof.Rows
noncomputable def bK (s : Stmt) : Arguments := match s with
 | .FunctionDef _ a _ _ _ _ _ _ _ _ => a
 | _ => { posonlyargs := [], args := [], vararg := none, kwonlyargs := [], kw_defaults := [], kwarg := none, defaults := [] }
noncomputable def bJ (s : Stmt) : List Stmt := match s with
 | .FunctionDef _ _ b _ _ _ _ _ _ _ => b
 | _ => []
noncomputable def aL (s : Stmt) : Scope := match s with
 | .FunctionDef _ _ _ _ _ _ sc _ _ _ => sc
 | _ => { kind := .function, names := [], isGenerator := false, isCoroutine := false }
noncomputable abbrev jB : DK := fun _ _ _ _ _ _ => False
noncomputable abbrev E0 : XK := fun _ _ _ => False
theorem UT {X : Cx} : Passes jB X E0 := fun _ _ _ _ _ _ _ h => h.elim
structure SE (K : PySem.W.Frag) (x qual : Str) (st : Stmt) (f : Addr) (fd : FuncData) : Prop where
 ex : ∃ (oc : Value) (od : Option Addr) (kV doc pm : Value) (an : Option Addr) (cdv ct : Value) (osl : Array (Option Value)),
  fd = PySem.W.fnOf x qual (bK st) (bJ st) (aL st) .none kV doc pm an cdv ct ∧ K.lookup f = some ⟨oc, od, .func fd, osl⟩ ∧ PySem.W.codeIn K cdv qual = true
 kp : PySem.W.keepIn K (.ref f) = true
section
variable {P : Program} {w : World} {K : PySem.W.Frag} {mg : Str → Option Value} {base : Heap}
theorem SE.ok {x qual : Str} {st : Stmt} {f : Addr} {fd : FuncData} {N ps : List Str} {k : Nat} {sp : Sp} (F : SE K x qual st f fd) (S : dH N ps (aL st)) (len : ∀ vs H Q E, sp vs H Q E → vs.length = ps.length)
  (hbody : ∀ (cdv : Value) (A : Around) (outer : List Env) (s : Shared) (H : Hp) (vs : List V) (Q : VK) (E : XK), fA k (A.deeper (envOfC qual (aL st) s.heap.objs.size f cdv)) → sp vs H Q E →
   ∃ t, z6 (C2 jB P w K mg base N qual (aL st) f cdv A outer s H E).MZ (bJ st) t ∧ t { nx := fun _ H' => Q .aZ H', rt := Q } (start N vs) H) : dE P w K mg base jB (k + 1) f fd ps sp := by
 obtain ⟨oc, od, kV, doc, pm, an, cdv, ct, osl, rfl, lk, hcd⟩ := F.ex
 refine UA lk hcd S len fun A outer s H vs Q E hr hsp => ?_
 obtain ⟨t, h, q⟩ := hbody cdv A outer s H vs Q E hr hsp
 exact ⟨t, h.MZ, q⟩
theorem SE.binds {x qual : Str} {st : Stmt} {f : Addr} {fd : FuncData} {ps : List Str} (F : SE K x qual st f fd)
  (h : ∀ (kV doc pm : Value) (an : Option Addr) (cdv ct : Value) (us : List Value), us.length = ps.length → bindArgs (PySem.W.fnOf x qual (bK st) (bJ st) (aL st) .none kV doc pm an cdv ct) ⟨us, []⟩ = pure (ps.zip us)) : Binds K fd ps [] := by
 obtain ⟨oc, od, kV, doc, pm, an, cdv, ct, osl, rfl, lk, hcd⟩ := F.ex
 exact .all (h kV doc pm an cdv ct)
theorem fH {x qual : Str} {st : Stmt} {f : Addr} {oc : Value} {od an : Option Addr} {osl : Array (Option Value)} {kV doc pm cdv ct : Value} (l : K.lookup f = some ⟨oc, od, .func (PySem.W.fnOf x qual (bK st) (bJ st) (aL st) .none kV doc pm an cdv ct), osl⟩)
  (c : PySem.W.codeIn K cdv qual = true) (k : PySem.W.keepIn K (.ref f) = true) : SE K x qual st f (PySem.W.fnOf x qual (bK st) (bJ st) (aL st) .none kV doc pm an cdv ct) := ⟨⟨oc, od, kV, doc, pm, an, cdv, ct, osl, rfl, l, c⟩, k⟩
end
theorem qZ {A : Around} {k : Nat} (hr : fA k A) : A.units + 1 < cLine := Nat.lt_of_le_of_lt (Nat.add_le_add_left (by decide : 1 ≤ 64) _) hr.units
section
variable {X : Cx}
theorem pv (i : Nat) {x : Str} {pos : Pos} (hN : X.N[i]? = some x := by rfl) (hv : XM X.env.scope x := by first | exact Or.inl rfl | exact Or.inr (Or.inl rfl) | exact Or.inr (Or.inr rfl)) (hd : (x == ("__debug__" : Str)) = false := by decide)
  (hcd : (x == ("__classdict__" : Str)) = false := by decide) : PE X (.Name x pos) (DB i) := QV hN hv hd hcd
end
noncomputable def bG (H H' : Hp) : Prop := ∀ b o, H b = some o → H' b = some o
theorem bG.refl (H : Hp) : bG H H := fun _ _ h => h
theorem bG.trans {H H1 H2 : Hp} (a : bG H H1) (b : bG H1 H2) : bG H H2 := fun c o h => b c o (a c o h)
theorem bG.free {H H' : Hp} (e : bG H H') {l : Addr} (h : H' l = Option.none) : H l = Option.none := by
 cases q : H l with
 | none => rfl
 | some o =>
  rw [e l o q] at h
  cases h
theorem bG.seq {K : PySem.W.Frag} {H H' : Hp} {a : Addr} {xs : List V} (e : bG H H') (h : jC K H a xs) : jC K H' a xs := by
 rcases h with (h | ⟨o, h⟩) | h
 ·exact .inl (.inl (e _ _ h))
 ·exact .inl (.inr ⟨o, e _ _ h⟩)
 ·exact .inr h
end L2
set_option maxHeartbeats 4000000
namespace L2
open PySem PySem.Spec PyProof.Rows
theorem nB {env : Env} : ∀ (names : List (Str × NameKind)) (acc : List (Str × Addr)), (∀ p ∈ names, p.2 = .free → ∃ c, env.cells.lookup p.1 = some c) →
  (∀ y c, acc.lookup y = some c → env.cells.lookup y = some c) →
  ∃ cl, (forIn names acc (fun (p : Str × NameKind) (cs : List (Str × Addr)) => if (p.2 == NameKind.free) = true then (do let a ← cellOf env p.1; pure (ForInStep.yield ((p.1, a) :: cs))) else (pure (ForInStep.yield cs) : Sem _)) : Sem _) = pure cl ∧
   (∀ y c, cl.lookup y = some c → env.cells.lookup y = some c) ∧ (∀ y, (acc.lookup y).isSome = true → (cl.lookup y).isSome = true) ∧ ∀ y, (y, NameKind.free) ∈ names → (cl.lookup y).isSome = true
 | [], acc, _, h => ⟨acc, rfl, h, fun _ z => z, fun _ z => nomatch z⟩
 | (n, k) :: r, acc, hf, h => by
  by_cases hk : k = .free
  ·subst hk
   obtain ⟨c, hc⟩ := hf (n, .free) List.mem_cons_self rfl
   obtain ⟨cl, e, h1, h2, h3⟩ := nB r ((n, c) :: acc) (fun p hp => hf p (List.mem_cons_of_mem _ hp)) (fun y d hd => by
    rw [List.lookup_cons] at hd
    cases q : y == n with
    | true => rw [q] at hd; cases hd; rw [eq_of_beq q]; exact hc
    | false => rw [q] at hd; exact h y d hd)
   refine ⟨cl, ?_, h1, fun y hy => h2 y ?_, fun y hy => ?_⟩
   ·rw [List.forIn_cons]
    have e0 : cellOf env n = pure c := by unfold cellOf; rw [hc]
    simp only [beq_self_eq_true, if_true, e0, pure_bind]
    exact e
   ·rw [List.lookup_cons]
    cases q : y == n with
    | true => rfl
    | false => exact hy
   ·rcases List.mem_cons.mp hy with q | q
    ·cases q
     refine h2 n ?_
     rw [List.lookup_cons, beq_self_eq_true]
     rfl
    ·exact h3 y q
  ·obtain ⟨cl, e, h1, h2, h3⟩ := nB r acc (fun p hp => hf p (List.mem_cons_of_mem _ hp)) h
   refine ⟨cl, ?_, h1, h2, fun y hy => ?_⟩
   ·rw [List.forIn_cons]
    have e0 : (k == NameKind.free) = false := by simpa using hk
    simp only [e0, Bool.false_eq_true, if_false, pure_bind]
    exact e
   ·rcases List.mem_cons.mp hy with q | q
    ·cases q; exact absurd rfl hk
    ·exact h3 y q
theorem mS {env : Env} {scope : Scope} (hf : ∀ p ∈ scope.names, p.2 = .free → ∃ c, env.cells.lookup p.1 = some c) :
  ∃ cl, closureFor scope env = pure cl ∧ (∀ y c, cl.lookup y = some c → env.cells.lookup y = some c) ∧ ∀ y, (y, NameKind.free) ∈ scope.names → (cl.lookup y).isSome = true := by
 obtain ⟨cl, e, h1, _, h3⟩ := nB (env := env) scope.names [] hf (fun y c h => by simp at h)
 refine ⟨cl, ?_, h1, h3⟩
 unfold closureFor
 have e' := congrArg (fun m : Sem (List (Str × Addr)) => m >>= fun cs => pure cs) e
 simp only [pure_bind] at e'
 rw [← e']
structure OS where
 cl : List (Str × Addr)
 C : Addr
 s : Shared
 H : Hp
 ex : List Addr
noncomputable def cQ (X : Cx) (scope : Scope) (N : List Str) (c : OS) : Cx :=
 { X with N := N, i9 := c.s, HR := c.H, env := compEnvC scope c.cl c.C X.env, outer := X.stack, stack := X.stack, ex := c.ex, fn := fun _ => false, pn := [], xe := fun _ _ => False }
noncomputable def gM (k : Nat) (dN : List Nat) (σ : St) : St := List.replicate k none ++ dN.map fun i => (σ[i]?).getD none
noncomputable def NA : TT := fun _ H Q => Q true H
section
variable {prog : Program} {w : World} {A : Around} {R : Result → Shared → Prop} {s : Shared}
theorem DN {elt target iter : Expr} {ifs : List Expr} {scope : Scope} {pos : Pos} {it acc : Value} {env : Env} (I : Nat → Shared → Prop)
  (turn : ∀ n s, I n s → wpAny (model prog w) A (pyNext it) (fun r s₁ => match r with
   | none => R (.ok .next) s₁
   | some v => wpAny (model prog w) A (letOwnedTupleGo target it v) (fun _ s₁' => wpAny (model prog w) A (assign target env v) (fun _ s₂ =>
     wpAny (model prog w) A (forIn ifs true fun c r => if r = true then do let ok ← isTrue c env (eval c env); pure (ForInStep.yield ok) else pure (ForInStep.yield r)) (fun ok s₃ =>
      if ok = true then wpAny (model prog w) A (eval elt env) (fun x s₄ =>
       wpAny (model prog w) A (call (.builtin "list.append") [acc, x]) (fun _ s₅ => ∃ m, m < n ∧ I m s₅) (fun _ _ => False) s₄) (fun _ _ => False) s₃
      else ∃ m, m < n ∧ I m s₃) (fun _ _ => False) s₂) (fun _ _ => False) s₁') (fun _ _ => False) s₁) (fun _ _ => False) s)
  (n : Nat) (h : I n s) :
  codeAny (model prog w) A (.compLoop (.ListComp elt [⟨target, iter, ifs, 0⟩] scope pos) 0 it acc env) R s := by
 refine codeAny_loop rfl I (fun n s hI => ?_) n h
 show wpAny _ A ((compTurn (.ListComp elt [⟨target, iter, ifs, 0⟩] scope pos) 0 it acc env).onRaise (fun x => do noteFrame x env; theTreesLotGoes x)) _ _ s
 refine wpAny_noted ?_
 refine wpAny_mono (E := fun _ _ => False) ?_ (fun _ _ q => q) (fun _ _ z => z.elim)
 rw [compTurn_list]
 refine wpAny_bind (wpAny_standAt (wpAny_bind (wpAny_mono (turn n s hI) (fun r s₁ h₁ => ?_) fun _ _ h' => h')))
 cases r with
 | none => exact wpAny_pure h₁
 | some v =>
  refine wpAny_bind (wpAny_mono h₁ (fun _ s₁' h₁' => ?_) fun _ _ h' => h')
  refine wpAny_bind (wpAny_mono h₁' (fun _ s₂ h₂ => wpAny_bind (wpAny_mono h₂ (fun ok s₃ h₃ => ?_) fun _ _ h' => h')) fun _ _ h' => h')
  cases ok with
  | false => exact wpAny_pure ⟨rfl, h₃⟩
  | true =>
   exact wpAny_bind (wpAny_bind (wpAny_mono h₃ (fun x s₄ h₄ => wpAny_bind (wpAny_mono h₄ (fun _ s₅ h₅ => wpAny_pure (wpAny_pure ⟨rfl, h₅⟩)) fun _ _ h' => h')) fun _ _ h' => h'))
end
noncomputable def SJ (X : Cx) (ifs : List Expr) (t : TT) : Prop :=
 ∀ (pins : List (Addr × Obj)) (s : Shared) (σ : St) (H : Hp) (Q : Bool → Hp → Prop), Inv X pins σ H s → t σ H Q →
  wpAny (model X.prog X.w) X.A (forIn ifs true fun c r => if r = true then do let ok ← isTrue c X.env (eval c X.env); pure (ForInStep.yield ok) else pure (ForInStep.yield r)) (TP X pins σ Q) X.xe s
theorem jJ {X : Cx} : SJ X [] NA := fun pins s σ H Q I h => wpAny_tests_nil ⟨H, I, h⟩
theorem LW {X : Cx} {c : Expr} {t : TT} (h : PT X c t) : SJ X [c] t := fun pins s σ H Q I hq => wpAny_tests_one (h pins s σ H Q I hq)
theorem fV {env : Env} : ∀ {names : List (Str × NameKind)} {x : Str}, names.lookup x = some .free →
  (names.map fun (n, k) => if (k == NameKind.free && env.scope.kind == .function && env.kindOf n == some .cell) then (n, NameKind.cell) else (n, k)).lookup x = some .cell ∨
  (names.map fun (n, k) => if (k == NameKind.free && env.scope.kind == .function && env.kindOf n == some .cell) then (n, NameKind.cell) else (n, k)).lookup x = some .free
 | [], _, h => by simp at h
 | (n, k) :: r, x, h => by
  have ih := @fV env r x
  show List.lookup x ((if (k == NameKind.free && env.scope.kind == .function && env.kindOf n == some .cell) = true then (n, NameKind.cell) else (n, k)) :: _) = _ ∨ List.lookup x ((if (k == NameKind.free && env.scope.kind == .function && env.kindOf n == some .cell) = true then (n, NameKind.cell) else (n, k)) :: _) = _
  cases hx : x == n with
  | true =>
   simp only [List.lookup_cons, hx] at h
   cases h
   by_cases hc : (NameKind.free == NameKind.free && env.scope.kind == .function && env.kindOf n == some .cell) = true
   ·rw [if_pos hc]; left; simp only [List.lookup_cons, hx]
   ·rw [if_neg hc]; right; simp only [List.lookup_cons, hx]
  | false =>
   simp only [List.lookup_cons, hx] at h
   by_cases hc : (k == NameKind.free && env.scope.kind == .function && env.kindOf n == some .cell) = true
   ·rw [if_pos hc]; simp only [List.lookup_cons, hx]; exact ih h
   ·rw [if_neg hc]; simp only [List.lookup_cons, hx]; exact ih h
theorem jM {env : Env} : ∀ {names : List (Str × NameKind)} {x : Str}, (∀ y ∈ names, y.2 ≠ .cell) →
  ((names.map fun (n, k) => if (k == NameKind.free && env.scope.kind == .function && env.kindOf n == some .cell) then (n, NameKind.cell) else (n, k)).lookup x = some .cell ∨
  (names.map fun (n, k) => if (k == NameKind.free && env.scope.kind == .function && env.kindOf n == some .cell) then (n, NameKind.cell) else (n, k)).lookup x = some .free) → (x, NameKind.free) ∈ names
 | [], _, _, h => by simp at h
 | (n, k) :: r, x, hn, h => by
  have ih := @jM env r x (fun y hy => hn y (List.mem_cons_of_mem _ hy))
  have h' : List.lookup x ((if (k == NameKind.free && env.scope.kind == .function && env.kindOf n == some .cell) = true then (n, NameKind.cell) else (n, k)) :: (r.map fun (n, k) => if (k == NameKind.free && env.scope.kind == .function && env.kindOf n == some .cell) then (n, NameKind.cell) else (n, k))) = some .cell ∨ List.lookup x ((if (k == NameKind.free && env.scope.kind == .function && env.kindOf n == some .cell) = true then (n, NameKind.cell) else (n, k)) :: (r.map fun (n, k) => if (k == NameKind.free && env.scope.kind == .function && env.kindOf n == some .cell) then (n, NameKind.cell) else (n, k))) = some .free := h
  cases hx : x == n with
  | true =>
   have e := eq_of_beq hx
   subst e
   by_cases hc : (k == NameKind.free && env.scope.kind == .function && env.kindOf x == some .cell) = true
   ·have hk : k = .free := by
     have := (Bool.and_eq_true _ _ |>.mp ((Bool.and_eq_true _ _ |>.mp hc).1)).1
     exact eq_of_beq this
    subst hk
    exact List.mem_cons_self
   ·rw [if_neg hc] at h'
    simp only [List.lookup_cons, hx] at h'
    have hk := hn (x, k) List.mem_cons_self
    rcases h' with z | z
    ·exact absurd (Option.some.inj z) hk
    ·rw [Option.some.inj z]; exact List.mem_cons_self
  | false =>
   refine List.mem_cons_of_mem _ (ih ?_)
   by_cases hc : (k == NameKind.free && env.scope.kind == .function && env.kindOf n == some .cell) = true
   ·rw [if_pos hc] at h'; simp only [List.lookup_cons, hx] at h'; exact h'
   ·rw [if_neg hc] at h'; simp only [List.lookup_cons, hx] at h'; exact h'
noncomputable def UH (J : It) (g : TG) (tt : TT) (te : TE) (l : Addr) (σ0 : St) (H0 : Hp) (Q : VK) : Prop :=
 ∃ W : Nat → Nat → St → Hp → Prop, (∃ m, W 0 m σ0 H0) ∧
   ∀ i m σ' H2, W i m σ' H2 → (J.stop i H2 ∧ Q (.ref l) H2) ∨ (J.go i H2 ∧ ∃ N : St → Hp → Prop, (∀ σ3 H3, N σ3 H3 → ∃ m', m' < m ∧ W (i + 1) m' σ3 H3) ∧
    ∀ x H3, J.SO i H2 x H3 → g x σ' H3 fun σ4 H4 => tt σ4 H4 fun b H5 => if b = true then te σ4 H5 fun y H6 => ∃ xs, H6 l = some (.lst xs) ∧ xs.length < sizeLine ∧ N σ4 (upd H6 l (.lst (xs ++ [y]))) else N σ4 H5)
noncomputable def A6 (wi : TI) (k : Nat) (dN : List Nat) (g : TG) (tt : TT) (te : TE) : TE := fun σ H Q => wi σ H fun J H1 => ∀ l, H1 l = none → UH J g tt te l (gM k dN σ) (upd H1 l (.lst [])) Q
structure i0 (X : Cx) (scope : Scope) (N : List Str) (k : Nat) (dN : List Nat) : Prop where
 kind : scope.kind = .function
 names : ∀ y ∈ scope.names, y.2 = .local → scope.names.lookup y.1 = some .local
 cell : ∀ y ∈ scope.names, y.2 ≠ .cell
 free : ∀ y ∈ scope.names, y.2 = .free → X.env.kindOf y.1 = some .cell ∨ X.env.kindOf y.1 = some .free
 len : N.length = k + dN.length
 dN : ∀ j i, dN[j]? = some i → ∃ y, N[k + j]? = some y ∧ X.N[i]? = some y ∧ scope.names.lookup y = some .free
theorem uB {k : Nat} {dN : List Nat} {σ : St} {j : Nat} {v : V} (h : (gM k dN σ)[j]? = some (some v)) : ∃ q i, j = k + q ∧ dN[q]? = some i ∧ σ[i]? = some (some v) := by
 unfold gM at h
 by_cases hj : j < k
 ·rw [List.getElem?_append_left (by simpa using hj), List.getElem?_replicate] at h
  split at h <;> cases h
 ·rw [List.getElem?_append_right (by simpa using hj), List.length_replicate, List.getElem?_map] at h
  cases q : dN[j - k]? with
  | none => rw [q] at h; cases h
  | some i =>
   rw [q] at h
   have h' : (σ[i]?).getD none = some v := Option.some.inj h
   refine ⟨j - k, i, by omega, q, ?_⟩
   cases r : σ[i]? with
   | none => rw [r] at h'; cases h'
   | some o => rw [r] at h'; have : o = some v := h'; rw [this]
theorem mJ.but {P : Program} {w : World} {H : Hp} {h h' : Heap} {C : Addr} (x : mJ P w H h) (hC : H C = none) (k : ∀ b o, b ≠ C → h.get? b = some o → h'.get? b = some o) : mJ P w H h' := fun b u e => by
 have nit : ∀ b u, H b = some u → b ≠ C := fun b u e z => by rw [z, hC] at e; cases e
 refine (x b u e).aR (fun c v hc q => k c v ?_ q) (fun _ q => q) fun _ _ q => q
 rcases hc with z | z
 ·rw [z]; exact nit b u e
 ·exact nit c _ z
section
variable {X : Cx} {elt tg iter : Expr} {ifs : List Expr} {scope : Scope} {pos : Pos} {wi : TI} {g : TG} {tt : TT} {te : TE} {N : List Str} {k : Nat} {dN : List Nat}
theorem uZ {pins : List (Addr × Obj)} {σ : St} {H2 : Hp} {s2 : Shared} {cl : List (Str × Addr)} {C : Addr} {fp : List Addr} (S : i0 X scope N k dN) (I2 : Inv X pins σ H2 s2)
  (hcl1 : ∀ y c, cl.lookup y = some c → X.env.cells.lookup y = some c) (hcl2 : ∀ y, (y, NameKind.free) ∈ scope.names → (cl.lookup y).isSome = true) (hC : s2.heap.objs.size ≤ C)
  (hf : ∀ b ∈ fp, sD X pins H2 b) (ho : ∀ b ∈ fp, b < s2.heap.objs.size) : (cQ X scope N ⟨cl, C, s2, H2, fp⟩).Ok where
 mod := I2.ok.mod
 kind := S.kind
 glob := I2.ok.glob
 blt := I2.ok.blt
 above := hC
 inj := fun x y c h1 h2 => I2.ok.inj x y c (hcl1 x c h1) (hcl1 y c h2)
 has := fun x h => by
  have h' : (x, NameKind.free) ∈ scope.names := jM (env := X.env) S.cell h
  exact Option.isSome_iff_exists.mp (hcl2 x h')
 SH := fun _ _ z => by cases z
 hd := I2.ok.hd
 frames := I2.ok.frames
 TM := .inl rfl
 XC := fun b hb => ⟨Nat.ne_of_lt (Nat.lt_of_lt_of_le (ho b hb) hC), fun x c e => (hf b hb).2.2.2.2.1 x c (hcl1 x c e)⟩
 bs := I2.bs
 EJ := Nat.le_trans I2.ok.EJ I2.sz
 CO := fun b o e hb => by
  rcases (hf b hb).2.2.2.1 with z | z
  ·exact I2.ok.CO b o e z
  ·exact absurd (Nat.lt_of_lt_of_le (Heap.lt_size e) (Nat.le_trans I2.ok.EJ z)) (Nat.lt_irrefl _)
 AV := fun b hb hb' => by
  rcases List.mem_cons.mp (I2.AH b hb') with z | z
  ·exact (hf b hb).2.1 z
  ·exact (hf b hb).2.2.1 z
 pA := I2.stack
 MP := I2.BS
theorem LC {pins : List (Addr × Obj)} {σ : St} {H2 : Hp} {s2 : Shared} {cl : List (Str × Addr)} {C : Addr} {fp : List Addr} {h1 : Heap} {tk : Nat} {m0 : Str → Option Value} (S : i0 X scope N k dN) (I2 : Inv X pins σ H2 s2)
  (hcl1 : ∀ y c, cl.lookup y = some c → X.env.cells.lookup y = some c) (hcl2 : ∀ y, (y, NameKind.free) ∈ scope.names → (cl.lookup y).isSome = true) (hC : C = s2.heap.objs.size + 1)
  (hf : ∀ b ∈ fp, sD X pins H2 b) (ho : ∀ b ∈ fp, b < s2.heap.objs.size) (hk : ∀ b o, s2.heap.get? b = some o → h1.get? b = some o) (hD : h1.get? s2.heap.objs.size = some { cls := .type "list", data := .seq #[] 0 }) (hns : h1.Ns C m0) :
  Inv (cQ X scope N ⟨cl, C, s2, H2, fp⟩) [] (gM k dN σ) (upd H2 s2.heap.objs.size (.lst [])) { s2 with heap := h1, toks := tk } := by
 have fr : H2 s2.heap.objs.size = none := I2.dJ.fresh (Nat.le_refl _)
 have hCf : H2 C = none := I2.dJ.fresh (hC ▸ Nat.le_succ _)
 refine ⟨uZ S I2 hcl1 hcl2 (hC ▸ Nat.le_succ _) hf ho, rfl, I2.bare, Un.laid hk (Nat.le_refl _) fr, ⟨m0, hns, fun i y v e1 e2 e3 => ?_⟩, fun x c e => ?_, ?_, fun x c e => ?_, fun p hp => absurd (show p ∈ ([] : List (Addr × Obj)) from hp) (by simp), I2.dJ.laid hk (Nat.le_refl _) ?_, ?_⟩
 ·obtain ⟨q, j, rfl, hj, hv⟩ := uB e2
  obtain ⟨z, hz1, hz2, hz3⟩ := S.dN q j hj
  have e1' : N[k + q]? = some y := e1
  rw [hz1] at e1'
  cases e1'
  obtain ⟨m, hn, hl⟩ := I2.loc
  have hfr := S.free (y, .free) (PySem.mem_of_lookup hz3) rfl
  obtain ⟨u, r, l⟩ := hl j y v hz2 hv (by rcases hfr with z | z; exact .inr (.inl z); exact .inr (.inr z))
  refine ⟨u, r, .inr ⟨fV (env := X.env) hz3, ?_⟩⟩
  obtain ⟨c, hc⟩ := Option.isSome_iff_exists.mp (hcl2 y (PySem.mem_of_lookup hz3))
  rcases l with ⟨hk', _⟩ | ⟨_, c', hc', hcell⟩
  ·rcases hfr with z | z <;> (rw [hk'] at z; cases z)
  ·have e := hcl1 y c hc
   rw [hc'] at e
   cases e
   obtain ⟨o, ho', hd⟩ := hcell
   exact ⟨_, hc, o, hk _ _ ho', hd⟩
 ·obtain ⟨v, o, ho', hd⟩ := I2.cell x c (hcl1 x c e)
  exact ⟨v, o, hk _ _ ho', hd⟩
 ·show upd H2 s2.heap.objs.size (.lst []) C = none
  rw [bL (Nat.ne_of_gt (hC ▸ Nat.lt_succ_self _))]
  exact hCf
 ·have e' := hcl1 x c e
  obtain ⟨v, q⟩ := I2.cell x c e'
  rw [bL (Nat.ne_of_lt q.lt)]
  exact I2.lA x c e'
 ·exact ⟨Nat.zero_le _, [], 0, .nil, hD⟩
 ·show (gM k dN σ).length = N.length
  unfold gM
  rw [List.length_append, List.length_replicate, List.length_map, S.len]
theorem JA (hc : X.calm = true) (S : i0 X scope N k dN) (hi : PI X tg iter wi) (hg : ∀ c, PG (cQ X scope N c) tg g) (ht : ∀ c, SJ (cQ X scope N c) ifs tt) (he : ∀ c, PE (cQ X scope N c) elt te)
  (hs : ∀ x, foldedSetIterable iter X.env x = pure x := by intro _; rfl) : PE X (.ListComp elt [⟨tg, iter, ifs, 0⟩] scope pos) (A6 wi k dN g tt te) := by
 intro pins s σ H Q I h
 rw [eval_ListComp]
 obtain ⟨cl, hclos, hcl1, hcl2⟩ := mS (scope := scope) (env := X.env) (fun p hp hf => I.ok.has p.1 (S.free p hp hf))
 refine wpAny_comprehension_free (use := none) rfl hs hclos S.kind S.names (d6 (hi pins s σ H _ I h) fun v s1 h1 => d6 h1 fun itv s2 h2 => ?_)
 obtain ⟨it, fp, tn, J, H2, e, I2, T, st2, f2, q2⟩ := h2
 subst e
 obtain ⟨W, ⟨m0, w0⟩, turn⟩ := q2 s2.heap.objs.size (I2.dJ.fresh (Nat.le_refl _))
 have hob : ∀ b ∈ fp, b < s2.heap.objs.size := fun b hb => let ⟨o, e, _⟩ := T.obj _ _ st2 b hb; Heap.lt_size e
 refine wpAny_newObj_type (wpAny_newFunctionEnv S.cell (by intro y hy; simp at hy) (fun h₁ hns₁ hsb₁ => ?_) S.kind)
 dsimp only at hns₁ hsb₁ ⊢
 generalize hHH : s2.heap.push { cls := .type "list", dict := none, data := .seq ([] : List Value).toArray } = HH at hns₁ hsb₁ ⊢
 have hCC : HH.objs.size = s2.heap.objs.size + 1 := by rw [← hHH, Heap.size_push]
 have old : ∀ b o, s2.heap.get? b = some o → h₁.get? b = some o := fun b o e => hsb₁.extBut b o (Nat.ne_of_lt (hCC ▸ Nat.lt_succ_of_lt (Heap.lt_size e))) (Heap.get?_push_of_some _ (hHH ▸ Heap.get?_push_of_some _ e))
 have hD : h₁.get? s2.heap.objs.size = some { cls := .type "list", data := .seq #[] 0 } := hsb₁.extBut _ _ (Nat.ne_of_lt (hCC ▸ Nat.lt_succ_self _)) (Heap.get?_push_of_some _ (hHH ▸ Heap.get?_push_size _ rfl))
 have I4 := fun tk => LC (tk := tk) S I2 hcl1 hcl2 hCC f2 hob old hD hns₁
 have X' := cQ X scope N ⟨cl, HH.objs.size, s2, H2, fp⟩
 have stat : ∀ {H' : Hp}, (∀ b ∈ fp, H' b = none) → ∀ b ∈ fp, sD (cQ X scope N ⟨cl, HH.objs.size, s2, H2, fp⟩) [] H' b := fun hn b hb =>
  ⟨hn b hb, Nat.ne_of_lt (hCC ▸ Nat.lt_succ_of_lt (hob b hb)), (uZ S I2 hcl1 hcl2 (hCC ▸ Nat.le_succ _) f2 hob).AV b hb, .inl hb, fun x c e => (f2 b hb).2.2.2.2.1 x c (hcl1 x c e), fun p hp => absurd (show p ∈ ([] : List (Addr × Obj)) from hp) (by simp)⟩
 have loop : ∀ s₃ : Shared, s₃ = { s2 with heap := h₁, toks := s2.toks + ([] : List (Str × Value)).length } →
   codeAny (model X.prog X.w) X.A (.compLoop (.ListComp elt [⟨tg, iter, ifs, 0⟩] scope pos) 0 (.ref it) (.ref s2.heap.objs.size) (compEnvC scope cl HH.objs.size X.env))
    (compPost (model X.prog X.w) X.A X.xe none (EP X pins σ Q) (.ref s2.heap.objs.size) HH.objs.size) s₃ := by
  rintro s₃ rfl
  refine DN (fun n s' => ∃ i σ' H', Inv (cQ X scope N ⟨cl, HH.objs.size, s2, H2, fp⟩) [] σ' H' s' ∧ tn i s'.heap ∧ (∀ b ∈ fp, H' b = none) ∧ W i n σ' H') ?_ m0
   ⟨0, gM k dN σ, _, I4 _, T.keep _ _ _ st2 fun b _ o e => old b o e, fun b hb => by rw [bL (Nat.ne_of_lt (hob b hb))]; exact (f2 b hb).1, w0⟩
  rintro n s3 ⟨i, σ3, H3, I3, st3, fr3, w3⟩
  rcases turn i n σ3 H3 w3 with ⟨stop, qn⟩ | ⟨go, NN, hN, step⟩
  ·refine d6 (T.done (cQ X scope N ⟨cl, HH.objs.size, s2, H2, fp⟩) rfl rfl rfl hc i [] s3 σ3 H3 _ I3 (stat fr3) st3 stop) fun r s4 ⟨hr, J4⟩ => ?_
   subst hr
   obtain ⟨m, hn, _⟩ := J4.loc
   refine ⟨m, hn, fun h' hs' => ?_⟩
   have keepC : ∀ b o, b ≠ HH.objs.size → s4.heap.get? b = some o → h'.get? b = some o := fun b o hb e => hs'.extBut b o hb e
   have kD : ∀ b o, s2.heap.get? b = some o → b ≠ HH.objs.size := fun b o e => Nat.ne_of_lt (hCC ▸ Nat.lt_succ_of_lt (Heap.lt_size e))
   have u := J4.base
   have u' : Un (DX X.stack) fp H2 H3 s2.heap h' := ⟨fun b o q n hb hx => keepC b o (kD b o q) (u.keep b o q n hb hx), fun b o q n hb hx => by
     obtain ⟨sl, e⟩ := u.slot b o q n hb hx
     exact ⟨sl, keepC b _ (kD b o q) e⟩, u.free, fun b o q hx => by
     obtain ⟨o', e⟩ := u.there b o q hx
     exact ⟨o', keepC b _ (kD b o q) e⟩, u.nS, u.mY, u.oA⟩
   refine ⟨.ref s2.heap.objs.size, H3, I2.M5 (ch := fp) J4.os u' (J4.dJ.but J4.free keepC) J4.bare fun b hb => ?_, rfl, qn⟩
   obtain ⟨_, f1, _, f3, f4, f5⟩ := f2 b hb
   exact ⟨f3, f1, f4, f5⟩
  ·refine d6 (T.item (cQ X scope N ⟨cl, HH.objs.size, s2, H2, fp⟩) rfl rfl rfl hc i [] s3 σ3 H3 _ I3 (stat fr3) st3 go) fun r s4 ⟨u, hr, h4⟩ => ?_
   subst hr
   refine d6 h4 fun _ s5 ⟨x, H5, I5, r5, y5, st5, fr5⟩ => ?_
   have I5' := I5.pinned (stat fr5) (T.obj _ _ st5)
   have again : ∀ {s7 : Shared} {σ7 : St} {H7 : Hp}, Inv (cQ X scope N ⟨cl, HH.objs.size, s2, H2, fp⟩) ([] ++ pB fp s5.heap) σ7 H7 s7 → NN σ7 H7 →
     ∃ m, m < n ∧ ∃ i σ' H', Inv (cQ X scope N ⟨cl, HH.objs.size, s2, H2, fp⟩) [] σ' H' s7 ∧ tn i s7.heap ∧ (∀ b ∈ fp, H' b = none) ∧ W i m σ' H' := fun {s7 σ7 H7} I7 n7 => by
    obtain ⟨m', hm, w7⟩ := hN σ7 H7 n7
    refine ⟨m', hm, i + 1, σ7, H7, I7.lU, T.keep _ _ _ st5 fun b hb o e => (I7.pin (b, o) (List.mem_append_right _ (List.mem_append_right _ (hV hb e)))).1, fun b hb => ?_, w7⟩
    obtain ⟨o, e, d⟩ := T.obj _ _ st5 b hb
    exact (I7.pin (b, o) (List.mem_append_right _ (List.mem_append_right _ (hV hb e)))).2.1
   refine d6 (hg _ _ s5 σ3 H5 x u _ I5' r5 (step x H5 y5)) fun _ s6 ⟨σ6, H6, I6, q6⟩ => ?_
   refine d6 (ht _ _ s6 σ6 H6 _ I6 q6) fun b s7 ⟨H7, I7, q7⟩ => ?_
   cases b with
   | false => exact again I7 q7
   | true =>
    refine d6 (he _ _ s7 σ6 H7 _ I7 q7) fun y s8 ⟨yv, H8, I8, r8, xs, hl, hz, n8⟩ => ?_
    refine d6 (iA _ s8 σ6 H8 (.ref s2.heap.objs.size) [yv] (.ref s2.heap.objs.size) [y] (fun _ H9 => NN σ6 H9) I8 rfl (.cons r8 .nil) ⟨_, xs, yv, rfl, rfl, hl, hz, n8⟩) fun _ s9 ⟨_, H9, I9, _, q9⟩ => ?_
    exact again I9 q9
 exact codeAny_compStart_list (loop _ rfl) (T.self X.A 0 _ _ _ (T.keep _ _ _ st2 fun b _ o e => old b o e) (loop _ rfl))
end
end L2
namespace L2
open PySem PySem.Spec PyProof.Rows
noncomputable def SF (z : Str) : It := ⟨fun i _ => i < z.cps.size, fun i H x H' => H' = H ∧ ∃ c, z.cps[i]? = some c ∧ x = .str ⟨#[c]⟩, fun i _ => z.cps.size ≤ i⟩
theorem CL {P : Program} {w : World} {K : PySem.W.Frag} {tg : Expr} (z : Str) (t : Tok) (it : Addr) : Turn P w K tg (SF z) [it] it (fun i h => h.IsStrIter it "str_ascii_iterator" z t i) where
 mem := by simp
 obj := fun i h st b hb => by
  have e : b = it := by simpa using hb
  subst e
  obtain ⟨o, e, c, d⟩ := st
  exact ⟨o, e, fun v z => by rw [d] at z; cases z⟩
 keep := fun i h h' st k => let ⟨o, e, r⟩ := st; ⟨o, k it (by simp) o e, r⟩
 item := by
  intro X hP hw hK hc i pins s σ H E I hf st hg
  subst hP hw hK
  obtain ⟨f0, f1, f2, f3, f4, f5⟩ := hf it (by simp)
  have hg' : i < z.cps.size := hg
  refine wpAny_pyNext_ascii_item st (c := z.cps[i]) (by simp [hg']) fun h' st' sb => ?_
  have I1 : Inv X pins σ H { s with heap := h', toks := s.toks + 1 } := I.turned (fun b o hb e => (sb.2 b hb).trans e) f0 f1 f3 f4 f5
  obtain ⟨o, e, c, d⟩ := id st'
  exact ⟨_, rfl, uF (s := { s with heap := h', toks := s.toks + 1 }) e c d (by decide) ⟨.str ⟨#[z.cps[i]]⟩, H, I1, ⟨_, rfl⟩, ⟨rfl, _, by simp [hg'], rfl⟩, st', fun b hb => (hf b hb).1⟩⟩
 done := by
  intro X hP hw hK hc i pins s σ H E I hf st hg
  subst hP hw hK
  obtain ⟨f0, f1, f2, f3, f4, f5⟩ := hf it (by simp)
  exact wpAny_pyNext_ascii_end (I.ok.hd hc) st (Array.getElem?_eq_none hg) fun h' eb => ⟨rfl, I.turned (t' := s.toks) (fun b o hb e => eb b o hb e) f0 f1 f3 f4 f5⟩
 self := fun A i s Q E st h => by
  refine wpAny_pyIter_slot st.typeIs F.slot_str_ascii_iterator_iter (wpAny_call_entry F.slot_str_ascii_iterator_iter st.typeIs F.entry_str_ascii_iterator_iter ?_ (F.args_str_ascii_iterator_iter_1 _))
  show wpAny _ _ (ret (.ref it)) _ _ s
  exact wpAny_pure ⟨_, rfl, "str_ascii_iterator", _, st.typeIs, F.slot_str_ascii_iterator_next.lookup, h⟩
theorem DI {P : Program} {w : World} {K : PySem.W.Frag} {tg : Expr} (z : Str) (t : Tok) (it : Addr) : Turn P w K tg (SF z) [it] it (fun i h => h.IsStrIter it "str_iterator" z t i) where
 mem := by simp
 obj := fun i h st b hb => by
  have e : b = it := by simpa using hb
  subst e
  obtain ⟨o, e, c, d⟩ := st
  exact ⟨o, e, fun v z => by rw [d] at z; cases z⟩
 keep := fun i h h' st k => let ⟨o, e, r⟩ := st; ⟨o, k it (by simp) o e, r⟩
 item := by
  intro X hP hw hK hc i pins s σ H E I hf st hg
  subst hP hw hK
  obtain ⟨f0, f1, f2, f3, f4, f5⟩ := hf it (by simp)
  have hg' : i < z.cps.size := hg
  refine wpAny_pyNext_wide_item st (c := z.cps[i]) (by simp [hg']) fun h' st' sb => ?_
  have I1 : Inv X pins σ H { s with heap := h', toks := s.toks + 1 } := I.turned (fun b o hb e => (sb.2 b hb).trans e) f0 f1 f3 f4 f5
  obtain ⟨o, e, c, d⟩ := id st'
  exact ⟨_, rfl, uF (s := { s with heap := h', toks := s.toks + 1 }) e c d (by decide) ⟨.str ⟨#[z.cps[i]]⟩, H, I1, ⟨_, rfl⟩, ⟨rfl, _, by simp [hg'], rfl⟩, st', fun b hb => (hf b hb).1⟩⟩
 done := by
  intro X hP hw hK hc i pins s σ H E I hf st hg
  subst hP hw hK
  obtain ⟨f0, f1, f2, f3, f4, f5⟩ := hf it (by simp)
  exact wpAny_pyNext_wide_end (I.ok.hd hc) st (Array.getElem?_eq_none hg) fun h' eb => ⟨rfl, I.turned (t' := s.toks) (fun b o hb e => eb b o hb e) f0 f1 f3 f4 f5⟩
 self := fun A i s Q E st h => by
  refine wpAny_pyIter_slot st.typeIs F.slot_str_iterator_iter (wpAny_call_entry F.slot_str_iterator_iter st.typeIs F.entry_str_iterator_iter ?_ (F.args_str_iterator_iter_1 _))
  show wpAny _ _ (ret (.ref it)) _ _ s
  exact wpAny_pure ⟨_, rfl, "str_iterator", _, st.typeIs, F.slot_str_iterator_next.lookup, h⟩
section
variable {X : Cx} {tg : Expr}
end
noncomputable def EA (bs : List Bool) : List V := bs.map V.bl
theorem VE {bs : List Bool} {its : List Value} (r : Vals (EA bs) its) : ∀ i : Nat, its[i]? = (bs[i]?).map Value.bool := by
 induction bs generalizing its with
 | nil => cases r; intro i; simp
 | cons b bs ih =>
  cases r with
  | cons r rr =>
   cases r
   intro i
   cases i with
   | zero => rfl
   | succ i => exact ih rr i
theorem range_all {n : Nat} {f : Nat → Bool} {l : List Bool} (hn : l.length = n) (h : ∀ i b, l[i]? = some b → f i = b) : (List.range n).all f = l.all id := by
 induction l generalizing n f with
 | nil => subst hn; rfl
 | cons b l ih =>
  subst hn
  rw [List.length_cons, List.range_succ_eq_map, List.all_cons, List.all_map, List.all_cons, h 0 b rfl, ih (n := l.length) (f := f ∘ Nat.succ) rfl fun i b e => h (i + 1) b e]
  rfl
section
variable {X : Cx}
theorem EB (hc : X.calm = true) : eR X (.builtin "all") (fun xs H Q => ∃ p bs, xs = [.ref p] ∧ jC X.K H p (EA bs) ∧ Q (.bl (bs.all id)) H) := by
 intro pins s σ H xs us Q I r h
 obtain ⟨p, bs, rfl, hq, q⟩ := h
 obtain ⟨u, rfl, rx⟩ := vals1 r
 cases rx
 obtain ⟨its, rv, pl, hz⟩ := I.list hq
 have hg := VE rv
 have hlen : bs.length = its.length := by have := rv.length; simpa [EA] using this
 refine call_all_walk (wpAny_pyIter_list pl.isList ?_)
 have hlt : p < s.heap.objs.size := let ⟨o, _, e, _⟩ := pl; Heap.lt_size e
 refine ⟨s.heap.objs.size, _, _, _, _, _, fun i => (bs[i]?).getD false, rfl, Walks.list (by exact I.ok.hd hc) s.heap.objs.size p (Nat.ne_of_lt hlt) its.toArray, ⟨⟨_, Heap.get?_push_size _ rfl, rfl, rfl⟩, pl.isList.at fun o e => Heap.get?_push_of_some _ e⟩, ?_, ?_⟩
 ·intro i v s' Q' E' hv hq'
  have hv' : its[i]? = some v := by simpa using hv
  rw [hg i] at hv'
  cases e : bs[i]? with
  | none => rw [e] at hv'; cases hv'
  | some b =>
   dsimp only at hq'
   rw [e] at hv' hq'
   cases hv'
   exact wpAny_truthy_bool hq'
 ·intro h' tk hk
  have e1 : (List.range its.toArray.size).all (fun i => (bs[i]?).getD false) = bs.all id := range_all (by simpa using hlen) (fun i b e => by rw [e]; rfl)
  rw [e1]
  have I1 : Inv X pins σ H { s with heap := s.heap.push { cls := .type "list_iterator", data := .fields #[.ref p, .int 0 0] }, toks := s.toks } := I.kept fun b o e => Heap.get?_push_of_some _ e
  have f1 := I.zT (H' := H) (Nat.le_refl _) (I.dJ.fresh (Nat.le_refl _))
  obtain ⟨f0, f1, f2, f3, f4, f5⟩ := f1
  exact ⟨.bl _, H, I1.turned (it := s.heap.objs.size) (fun b o hb e => hk b o (by simpa using hb) e) f0 f1 f3 f4 f5, rfl, q⟩
theorem RK : DC X (fun x lo hi H Q => ∃ z, x = .str z ∧ z.length ≤ sizeLine ∧ Q (.str (Txt.slice z lo hi)) H) := by
 intro pins s σ H x v vl vu lo hi sl Q I rx hs pl pu h
 obtain ⟨z, rfl, hz, q⟩ := h
 obtain ⟨t, rfl⟩ := rx
 refine ⟨"str", _, F.slot_str_getitem.lookup, typeIs_str _ _ _, ?_⟩
 obtain ⟨o, ho, hc, hd⟩ := hs
 have fin : ∀ (t' : Tok) (k : Nat), EP X pins σ Q (.str (Txt.slice z lo hi) t') { s with toks := k } := fun t' k => ⟨.str (Txt.slice z lo hi), H, I.tok k, ⟨t', rfl⟩, q⟩
 have hle := Nat.le_trans (Txt.slice_le z lo hi) hz
 cases pl with
 | none => cases pu with
  | none => exact wpAny_getItem_str_slice (l := none) (u := none) (st := none) ⟨o, ho, hc, hd⟩ rfl (post_val_or_str ⟨hle, fun t' k => fin t' k⟩)
  | int j uj => exact wpAny_getItem_str_slice (l := none) (u := some (j, uj)) (st := none) ⟨o, ho, hc, hd⟩ rfl (post_val_or_str ⟨hle, fun t' k => fin t' k⟩)
 | int i ui => cases pu with
  | none => exact wpAny_getItem_str_slice (l := some (i, ui)) (u := none) (st := none) ⟨o, ho, hc, hd⟩ rfl (post_val_or_str ⟨hle, fun t' k => fin t' k⟩)
  | int j uj => exact wpAny_getItem_str_slice (l := some (i, ui)) (u := some (j, uj)) (st := none) ⟨o, ho, hc, hd⟩ rfl (post_val_or_str ⟨hle, fun t' k => fin t' k⟩)
theorem wF : ∀ {ys : List Str} {its : List Value}, Vals (ys.map V.str) its → StrsAre its ys
 | [], _, r => by cases r; exact .nil
 | y :: ys, _, r => by
  cases r with
  | cons r rr =>
   obtain ⟨t, rfl⟩ := r
   exact .cons y t (wF rr)
noncomputable def rJoin (K : PySem.W.Frag) : V → List V → Hp → VK → Prop := fun x vs H Q => ∃ z p ys, x = .str z ∧ vs = [.ref p] ∧ jC K H p (ys.map V.str) ∧ (ys.map (·.length)).sum + ys.length * z.length ≤ 16777216 ∧ Q (.str (Txt.join z ys)) H
theorem KI : MK X "str.join" (rJoin X.K) := by
 intro pins s σ H x vs v us Q I rx rv h
 obtain ⟨z, p, ys, rfl, rfl, hq, hz, q⟩ := h
 obtain ⟨t, rfl⟩ := rx
 obtain ⟨u, rfl, rp⟩ := vals1 rv
 cases rp
 obtain ⟨its, r, pl, _⟩ := I.list hq
 exact join_list pl.isList (by simpa using wF r) hz fun t' k => ⟨.str (Txt.join z ys), H, I.tok k, ⟨t', rfl⟩, q⟩
theorem nX : gZ X (binaryOp .Pow) (rI (fun i j => 0 ≤ j ∧ (Builtin.Int.intBits i : Int) * j ≤ 2 ^ 27) fun i j => .int (i ^ j.toNat)) := VI fun _ _ _ _ _ _ _ hc q => pow_int hc.1 hc.2 q
end
noncomputable def qE (XN : List Str) (xs scope : Scope) (N : List Str) (k : Nat) (dN : List Nat) : Bool :=
 scope.kind == .function && (scope.names.all fun y => y.2 != .local || scope.names.lookup y.1 == some .local) && (scope.names.all fun y => y.2 != .cell) &&
 (scope.names.all fun y => y.2 != .free || xs.names.lookup y.1 == some .cell || xs.names.lookup y.1 == some .free) && N.length == k + dN.length &&
 (List.range dN.length).all fun j => match dN[j]?, N[k + j]? with
  | some i, some y => XN[i]? == some y && scope.names.lookup y == some .free
  | _, _ => false
theorem oC {X : Cx} {XN : List Str} {xs scope : Scope} {N : List Str} {k : Nat} {dN : List Nat} (hN : X.N = XN) (hs : X.env.scope = xs) (h : qE XN xs scope N k dN = true) : i0 X scope N k dN := by
 subst hN hs
 unfold qE at h
 simp only [Bool.and_eq_true, List.all_eq_true, Bool.or_eq_true, bne_iff_ne, ne_eq, beq_iff_eq] at h
 obtain ⟨⟨⟨⟨⟨h1, h2⟩, h3⟩, h4⟩, h5⟩, h6⟩ := h
 refine ⟨h1, fun y hy e => (h2 y hy).resolve_left (fun z => z e), h3, fun y hy e => ?_, h5, fun j i e => ?_⟩
 ·rcases h4 y hy with (z | z) | z
  ·exact absurd e z
  ·exact .inl z
  ·exact .inr z
 ·have hj : j < dN.length := (List.getElem?_eq_some_iff.mp e).1
  have q := h6 j (List.mem_range.mpr hj)
  rw [e] at q
  cases r : N[k + j]? with
  | none => rw [r] at q; cases q
  | some y =>
   rw [r] at q
   simp only [Bool.and_eq_true, beq_iff_eq] at q
   exact ⟨y, rfl, q.1, q.2⟩
section
variable {X : Cx} {elt tg iter : Expr} {ifs : List Expr} {scope : Scope} {pos : Pos} {wi : TI} {g : TG} {tt : TT} {te : TE} {N : List Str} {k : Nat} {dN : List Nat} {XN : List Str} {xs : Scope}
theorem pS (N : List Str) (k : Nat) (dN : List Nat) (XN : List Str) (xs : Scope) (hc : X.calm = true) (hN : X.N = XN) (hx : X.env.scope = xs) (hi : PI X tg iter wi) (chk : qE XN xs scope N k dN = true)
  (hg : ∀ c, PG (cQ X scope N c) tg g) (ht : ∀ c, SJ (cQ X scope N c) ifs tt) (he : ∀ c, PE (cQ X scope N c) elt te)
  (hs : ∀ x, foldedSetIterable iter X.env x = pure x := by intro _; rfl) : PE X (.ListComp elt [⟨tg, iter, ifs, 0⟩] scope pos) (A6 wi k dN g tt te) := JA hc (oC hN hx chk) hi hg ht he hs
end
section
variable {wi : TI} {k : Nat} {dN : List Nat} {g : TG} {tt : TT} {te : TE} {σ : St} {H1 : Hp} {Q : VK} {l : Addr}
end
structure Def (K : PySem.W.Frag) (mg : Str → Option Value) (x : Str) (st : Stmt) (ps : List Str) (f : Addr) (fd : FuncData) : Prop where
 F : SE K x x st f fd
 m : mg x = some (.ref f)
 b : Binds K fd ps []
section
variable {X : Cx} {x : Str} {st : Stmt} {ps : List Str} {f : Addr} {fd : FuncData} {j k : Nat} {sp : Sp} {e : Expr} {es : List Expr} {t : TA} {p pos : Pos}
theorem cV (D : Def X.K X.mg x st ps f fd) (G : dE X.prog X.w X.K X.mg X.base jB j f fd ps sp) (hr : fA k X.A) (hjk : j ≤ k) (hg : Gl X x) (ha : PA X (e :: es) t) (hdb : (x == ("__debug__" : Str)) = false := by decide)
  (he : starEach (e :: es) X.env = (false, eval e X.env) :: starEach es X.env := by rfl) (hpl : (backTo pos (starEach es X.env)).any (·.1) = false := by rfl) :
  PE X (.Call (.Name x p) (e :: es) [] pos) (IA sp [] E0 t) := LK G (hr.mono hjk) hg D.m D.F.kp D.b .nil UT ha hdb he hpl
end
end L2
namespace L2
open PySem PySem.Spec PyProof.Rows
noncomputable def DH : List V → List V → Bool
 | [], [] => true
 | x :: xs, y :: ys => wX x y && DH xs ys
 | _, _ => false
theorem xO : ∀ {xs ys : List V}, xs.length ≠ ys.length → DH xs ys = false
 | [], [], h => absurd rfl h
 | [], _ :: _, _ => rfl
 | _ :: _, [], _ => rfl
 | x :: xs, y :: ys, h => by
  unfold DH
  rw [xO (xs := xs) (ys := ys) (by simpa using h), Bool.and_false]
theorem rD : ∀ {xs ys : List V}, xs.length = ys.length → (List.range xs.length).all (fun j => wX ((xs[j]?).getD .aZ) ((ys[j]?).getD .aZ)) = DH xs ys
 | [], [], _ => rfl
 | [], _ :: _, h => by cases h
 | _ :: _, [], h => by cases h
 | x :: xs, y :: ys, h => by
  have ih := rD (xs := xs) (ys := ys) (by simpa using h)
  rw [List.length_cons, List.range_succ_eq_map, List.all_cons, List.all_map]
  unfold DH
  rw [← ih]
  rfl
theorem Vals.get' : ∀ {xs : List V} {us : List Value} {i : Nat} {u : Value}, Vals xs us → us[i]? = some u → ∃ x, xs[i]? = some x ∧ RelV x u
 | _, _, _, _, .nil, h => by simp at h
 | _, _, 0, _, .cons r _, h => by simp at h; subst h; exact ⟨_, rfl, r⟩
 | _, _, i + 1, _, .cons _ t, h => Vals.get' (i := i) t (by simpa using h)
section
variable {X : Cx} {k : Nat}
end
theorem rY : bootBuiltins "all" = some (.builtin "all") := by decide +kernel
theorem dA : bootBuiltins "isinstance" = some (.builtin "isinstance") := by decide +kernel
theorem e8 : bootBuiltins "len" = some (.builtin "len") := by decide +kernel
theorem QL : bootBuiltins "max" = some (.builtin "max") := by decide +kernel
theorem N7 : bootBuiltins "min" = some (.builtin "min") := by decide +kernel
theorem tQ : bootBuiltins "sorted" = some (.builtin "sorted") := by decide +kernel
theorem OA : bootBuiltins "int" = some (.type "int") := by decide +kernel
theorem L4 : bootBuiltins "bool" = some (.type "bool") := by decide +kernel
theorem qW : bootBuiltins "str" = some (.type "str") := by decide +kernel
theorem KC : bootBuiltins "list" = some (.type "list") := by decide +kernel
theorem iI : bootBuiltins "tuple" = some (.type "tuple") := by decide +kernel
section
variable {X : Cx}
end
end L2
namespace L2
open PySem PySem.Spec PyProof.Rows
noncomputable def CA (p : Addr) (H H' : Hp) : Prop := ∀ b o, H b = some o → b ≠ p → H' b = some o
theorem CA.refl {p : Addr} {H : Hp} : CA p H H := fun _ _ h _ => h
theorem CA.trans {p : Addr} {H H1 H2 : Hp} (a : CA p H H1) (b : CA p H1 H2) : CA p H H2 := fun c o h n => b c o (a c o h n) n
theorem CA.of {p : Addr} {H H1 : Hp} (a : bG H H1) : CA p H H1 := fun c o h _ => a c o h
theorem bG.upd {H : Hp} {l : Addr} {o : HO} (h : H l = none) : bG H (upd H l o) := fun b u e => by rw [bL (dM e h)]; exact e
theorem CA.upd {p : Addr} {H : Hp} {o : HO} : CA p H (upd H p o) := fun b u e n => by rw [bL n]; exact e
theorem jC.same {K : PySem.W.Frag} {H H' : Hp} {a : Addr} {xs : List V} (h : jC K H a xs) (s : bG H H') : jC K H' a xs := bG.seq s h
theorem nD.same {K : PySem.W.Frag} {H H' : Hp} {a : Addr} {xs : List V} (h : nD K H a xs) (s : bG H H') : nD K H' a xs := by
 rcases h with (h | ⟨o, h⟩) | h
 ·exact .inl (.inl (s _ _ h))
 ·exact .inl (.inr ⟨o, s _ _ h⟩)
 ·exact .inr h
theorem jC.but {K : PySem.W.Frag} {H H' : Hp} {a p : Addr} {xs : List V} (h : jC K H a xs) (s : CA p H H') (n : a ≠ p) : jC K H' a xs := by
 rcases h with (h | ⟨o, h⟩) | h
 ·exact .inl (.inl (s _ _ h n))
 ·exact .inl (.inr ⟨o, s _ _ h n⟩)
 ·exact .inr h
theorem nD.but {K : PySem.W.Frag} {H H' : Hp} {a p : Addr} {xs : List V} (h : nD K H a xs) (s : CA p H H') (n : a ≠ p) : nD K H' a xs := by
 rcases h with (h | ⟨o, h⟩) | h
 ·exact .inl (.inl (s _ _ h n))
 ·exact .inl (.inr ⟨o, s _ _ h n⟩)
 ·exact .inr h
theorem YY {n : Nat} (h : n < 16777216) : n < sizeLine := by rw [PySem.sizeLine_eq]; exact h
theorem LO (z : Str) : z.cps.toList.length = z.length := by simp [Str.length]
theorem HV {z : Str} {d : Int} (h0 : 0 ≤ d) (h : d < (z.length : Int)) : ∃ c, c ∈ z.cps.toList ∧ pM z.cps.toList d = some c := by
 obtain ⟨j, rfl⟩ : ∃ j : Nat, d = (j : Int) := ⟨d.toNat, by omega⟩
 have hj : j < z.cps.toList.length := by have e := LO z; omega
 exact ⟨z.cps.toList[j], List.getElem_mem hj, jO (by simp [hj])⟩
theorem JG {α : Type} {xs : List α} {d : Int} (h0 : 0 ≤ d) (h : d < (xs.length : Int)) : ∃ c, c ∈ xs ∧ pM xs d = some c := by
 obtain ⟨j, rfl⟩ : ∃ j : Nat, d = (j : Int) := ⟨d.toNat, by omega⟩
 have hj : j < xs.length := by omega
 exact ⟨xs[j], List.getElem_mem hj, jO (by simp [hj])⟩
theorem joined {ys : List Str} : (Txt.join (Str.ofString "") ys).length ≤ (ys.map (·.length)).sum := by
 show (Builtin.Str.glued _ ys).length ≤ _
 rw [StrLaws.glued_eq_join]
 have h := StrLaws.join_length_le (Str.ofString "") ys
 have e : (Str.ofString "").length = 0 := by decide +kernel
 rw [e] at h
 omega
section
variable {k : Nat} {dN : List Nat} {g : TG} {tt : TT} {te : TE} {σ : St} {H : Hp} {Q : VK} {l : Addr}
end
theorem bG.but {H H0 H1 H2 : Hp} {p : Addr} (s : bG H H0) (n : H0 p = none) (s1 : bG H0 H1) (b : CA p H1 H2) : bG H H2 := fun c o h => b c o (s1 c o (s c o h)) (dM (s c o h) n)
noncomputable def XB (o : Option HO) : Prop := ∃ a b : Int, o = some (.lst [.int a, .int b]) ∧ 0 ≤ a ∧ 0 ≤ b ∧ b < 2147483647
noncomputable abbrev OH (H : Hp) (p : Addr) : Prop := XB (H p)
theorem OH.same {H H' : Hp} {p : Addr} (h : OH H p) (s : bG H H') : OH H' p := let ⟨a, b, e, r⟩ := h; ⟨a, b, s _ _ e, r⟩
theorem OH.ne {H : Hp} {p : Addr} (h : OH H p) {l : Addr} (n : H l = none) : p ≠ l := let ⟨_, _, e, _⟩ := h; dM e n
noncomputable def BN (K : PySem.W.Frag) : Sp := fun vs H Q _ => ∃ (a : Addr) (ns : List Int), vs = [.ref a] ∧ jC K H a (ns.map V.int) ∧ ns.length ≤ 63 ∧ ∀ H', Q (.bl true) H'
end L2
namespace PySem
open Sem (wp)
open AutoSeq1 (wpAny_loadPart')
section
variable {prog : Program} {w : World} {A : Around} {E : Value → Shared → Prop} {s : Shared}
end
section
variable {prog : Program} {w : World} {A : Around} {E : Value → Shared → Prop} {s : Shared}
end
end PySem
namespace L2
open PySem PySem.Spec PyProof.Rows
end L2
namespace L2
open PySem PySem.Spec PyProof.Rows
section
variable {X : Cx} {elts : List Expr} {x1 : Nat} {tpos : Pos}
end
section
variable {X : Cx} {elts : List Expr} {x1 : Nat} {tpos : Pos}
end
section
variable {k : Nat} {dN : List Nat} {g : TG} {tt : TT} {te : TE} {σ : St} {H : Hp} {Q : VK} {l : Addr}
end
end L2
namespace L2
open PySem PySem.Spec PyProof.Rows
section
variable {X : Cx} {k : Nat}
theorem Y9 (K : PySem.W.Frag) (h : X.K = K := by rfl) : zG X (OI K) := h ▸ LD
theorem Y3 (K : PySem.W.Frag) (h : X.K = K := by rfl) : zG X (Q4 K) := h ▸ P2
theorem YZ (K : PySem.W.Frag) (h : X.K = K := by rfl) : DC X (R6 K) := h ▸ LQ
noncomputable def S3 (K : PySem.W.Frag) : List V → Hp → VK → Prop := fun xs H Q => ∃ p bs, xs = [.ref p] ∧ jC K H p (EA bs) ∧ Q (.bl (bs.all id)) H
theorem GN (K : PySem.W.Frag) (hc : X.calm = true) (h : X.K = K := by rfl) : eR X (.builtin "all") (S3 K) := h ▸ EB hc
noncomputable def EU (K : PySem.W.Frag) : List V → Hp → VK → Prop := fun xs H Q => ∃ p ys, xs = [.ref p] ∧ (jC K H p ys ∨ nD K H p ys) ∧ ∀ l, H l = none → Q (.ref l) (upd H l (.lst ys))
theorem UI (K : PySem.W.Frag) (h : X.K = K := by rfl) : eR X (.type "list") (EU K) := h ▸ vG
theorem SS (K : PySem.W.Frag) (h : X.K = K := by rfl) : MK X "str.join" (rJoin K) := h ▸ KI
theorem u3 (K : PySem.W.Frag) {es : List Expr} {j : Nat} {t : HE} {n : Nat} {pos : Pos} (hc : X.calm = true) (h : S9 X es t) (hK : X.K = K := by rfl)
  (hn : (assignEach es X.env).length = n := by rfl) (hst : (assignEach es X.env).findIdx? (·.1) = none := by rfl) : PG X (.Tuple es j pos) (OV K n t) := hK ▸ RZ hc h hn hst
theorem lF (K : PySem.W.Frag) {o e : Expr} {es : List Expr} {to : TE} {t : TA} {name : Str} {apos cpos : Pos} {T id : String} {r : V → List V → Hp → VK → Prop} (pa : PlainAttrs T) (slot : Slot T name id) (hty : typeOf (.builtin id) = pure (.type "method_descriptor")) (hm : MK X id r) (ho : PE X o to) (ha : PA X (e :: es) t) (hK : X.K = K := by rfl)
  (hbase : attributeBase o name X.env (eval o X.env) = eval o X.env := by rfl)
  (hfew : ((backTo cpos (starEach (e :: es) X.env)).all (fun x => !x.1) && (backToKw cpos (keywordEach [] X.env)).all (fun x => x.1.isSome)
   && decide ((e :: es).length + ([] : List Keyword).length + (if ([] : List Keyword).isEmpty then 0 else 1) < 30)) = true := by rfl)
  (hline : (apos.endLine == cpos.line) = true := by rfl) (hs : starEach (e :: es) X.env = (false, eval e X.env) :: starEach es X.env := by rfl) (hplain : (backTo cpos (starEach es X.env)).any (·.1) = false := by rfl) :
  PE X (.Call (.Attribute o name apos) (e :: es) [] cpos) (TB K T r to t) := hK ▸ TL pa slot hty hm ho ha hbase hfew hline hs hplain
end
end L2
namespace L2
open PySem PySem.Spec PyProof.Rows
section
variable {X : Cx}
end
end L2
namespace PM
open PySem PyProof.Rows
noncomputable def walk (sm : Nat → Nat) : List Nat → List Nat → Bool → List Nat
 | [], f, _ => f
 | c :: r, f, w => if c = 32 then walk sm r f (!f.isEmpty) else walk sm r (f ++ (if w = true then [32] else []) ++ [sm c]) false
noncomputable def step (f p : List Nat) : List Nat := if p = [] then f else f ++ (if (!f.isEmpty) = true then [32] else []) ++ p
noncomputable abbrev SP : Str := Str.ofString " "
noncomputable def W (x : Str) : Str := ⟨(walk lo1 x.cps.toList [] false).toArray⟩
end PM
namespace L2
open PySem PySem.Spec PyProof.Rows
inductive Kd where
 | aZ | bl | int | str | lst | tup | cC
 deriving DecidableEq
noncomputable def Kd.nm : Kd → String
 | .aZ => "NoneType" | .bl => "bool" | .int => "int" | .str => "str" | .lst => "list" | .tup => "tuple" | .cC => "dict"
noncomputable def SM (H : Hp) (v : V) : Kd → Prop
 | .aZ => v = .aZ
 | .bl => ∃ b, v = .bl b
 | .int => ∃ i, v = .int i
 | .str => ∃ x, v = .str x
 | .lst => ∃ a xs, v = .ref a ∧ H a = some (.lst xs)
 | .tup => ∃ a xs, v = .ref a ∧ H a = some (.tup xs)
 | .cC => ∃ a kvs ep, v = .ref a ∧ H a = some (.dK kvs ep)
theorem SM.ty {K : PySem.W.Frag} {H : Hp} {v : V} {k : Kd} (h : SM H v k) : pZ K H v (.type k.nm) := by
 cases k with
 | aZ => cases (show v = .aZ from h); exact .aZ
 | bl => obtain ⟨b, rfl⟩ := h; exact .bl b
 | int => obtain ⟨b, rfl⟩ := h; exact .int b
 | str => obtain ⟨b, rfl⟩ := h; exact .str b
 | lst => obtain ⟨a, xs, rfl, e⟩ := h; exact .lst e
 | tup => obtain ⟨a, xs, rfl, e⟩ := h; exact .tup e
 | cC => obtain ⟨a, xs, ep, rfl, e⟩ := h; exact .dK e
theorem N6 {K : PySem.W.Frag} (k : Kd) : PySem.W.kitOne K (.type k.nm) (.type "str") = some (decide (k = .str)) := by cases k <;> kernel_rfl
theorem R0 {K : PySem.W.Frag} (k : Kd) : PySem.W.kitOne K (.type k.nm) (.type "tuple") = some (decide (k = .tup)) := by cases k <;> kernel_rfl
theorem OY {K : PySem.W.Frag} (k : Kd) : PySem.W.kitOne K (.type k.nm) (.type "int") = some (decide (k = .int) || decide (k = .bl)) := by cases k <;> kernel_rfl
theorem L5 {K : PySem.W.Frag} (k : Kd) : PySem.W.kitOne K (.type k.nm) (.type "bool") = some (decide (k = .bl)) := by cases k <;> kernel_rfl
theorem SM.same {H H' : Hp} {v : V} {k : Kd} (h : SM H v k) (s : bG H H') : SM H' v k := by
 cases k with
 | aZ => exact h
 | bl => exact h
 | int => exact h
 | str => exact h
 | lst => obtain ⟨a, xs, rfl, e⟩ := h; exact ⟨a, xs, rfl, s _ _ e⟩
 | tup => obtain ⟨a, xs, rfl, e⟩ := h; exact ⟨a, xs, rfl, s _ _ e⟩
 | cC => obtain ⟨a, xs, ep, rfl, e⟩ := h; exact ⟨a, xs, ep, rfl, s _ _ e⟩
section
variable {X : Cx}
theorem DV : gZ X (compareOp .LtE) (fun x y H Q => ∃ i j, x = .str i ∧ y = .str j ∧ Q (.bl (!decide (j.cps.toList < i.cps.toList))) H) := by
 intro pins s σ H x y v u Q I rx ry h
 obtain ⟨i, j, rfl, rfl, q⟩ := h
 obtain ⟨t, rfl⟩ := rx
 obtain ⟨t', rfl⟩ := ry
 exact PySem.P.le_str (iO I q rfl)
end
section
variable {k : Nat} {dN : List Nat} {g : TG} {tt : TT} {te : TE} {σ : St} {H : Hp} {Q : VK} {l : Addr}
end
end L2
namespace HT
open PySem PySem.Spec PyProof.Rows
section
variable {prog : Program} {w : World} {A : Around} {E : Value → Shared → Prop} {s : Shared}
theorem nP {t sl : Addr} {items : Array Value} {vl vu : Value} {lo hi : Option Int} {Q : Value → Shared → Prop} (ht : IsTup s.heap t items) (hs : s.heap.IsSliceOf sl vl vu .none) (pl : IsPart vl lo) (pu : IsPart vu hi)
  (hw : fY items.size 0 lo = 0 ∧ fY items.size items.size hi = items.size) (h : Q (.ref t) s) : wpAny (model prog w) A (getItem (.ref t) (.ref sl)) Q E s := by
 obtain ⟨os, hos, hcs, hds⟩ := id hs
 have hTs : s.TypeIs (.ref sl) "slice" := ⟨os, hos, hcs⟩
 unfold getItem
 try with_reducible refine wpAny_holding ?_
 first | refine wpAny_bind (wpAny_pure ?_) | skip
 refine wpAny_bind (wpAny_sequenceKey ht.typeIs (by decide) ?_)
 refine wpAny_bind (wpAny_callSpecial?_slot (name := Str.ofString "__getitem__") ht.typeIs PyProof.Rows.slot_tuple_getitem
  (wpAny_call_entry PyProof.Rows.slot_tuple_getitem ht.typeIs entry_tuple_getitem ?_ (args_tuple_getitem _ _)))
 show wpAny _ _ (Builtin.Tuple.tupleItemsOf (.ref t) >>= _) _ _ s
 refine wpAny_bind (tupleItemsOf_ ht ?_)
 refine wpAny_bind (wpAny_typeOf hTs ?_)
 rw [if_pos (by decide)]
 refine wpAny_bind (j5 hs pl pu ?_)
 have hyes : (((fY items.size 0 lo : Nat) : Int) == 0 && (1 : Int) == 1 && (fY items.size items.size hi - fY items.size 0 lo) == items.size) = true := by
  rw [hw.1, hw.2]; simp
 show wpAny _ _ (if (((fY items.size 0 lo : Nat) : Int) == 0 && (1 : Int) == 1 && (fY items.size items.size hi - fY items.size 0 lo) == items.size) = true then _ else _) _ _ s
 rw [if_pos hyes]
 refine wpAny_bind (wpAny_bind (wpAny_typeOf ht.typeIs (wpAny_pure ?_)))
 rw [if_pos (by decide)]
 refine wpAny_bind (wpAny_rule ?_)
 first
  | exact wpAny_pure ⟨_, rfl, wpAny_pure h⟩
  | exact wpAny_bind (wpAny_pure ⟨_, rfl, wpAny_pure h⟩)
theorem LG {t b : Addr} {vs ws : List Value} {Q : Value → Shared → Prop} (ht : IsTup s.heap t vs.toArray) (hb : IsTup s.heap b ws.toArray)
  (h0 : vs = [] → Q (.ref b) s) (h1 : ws = [] → Q (.ref t) s) (h2 : vs ≠ [] → ws ≠ [] → Q (.ref s.heap.objs.size) { s with heap := s.heap.push { cls := .type "tuple", data := .seq (vs ++ ws).toArray } })
  (hsz : vs.length + ws.length ≤ sizeLine) : wpAny (model prog w) A (binaryOp .Add (.ref t) (.ref b)) Q E s := by
 by_cases hv : vs = []
 ·obtain ⟨⟨cls, dd, data, sl⟩, ho, hc, n, hd⟩ := id ht
  obtain ⟨⟨cls2, dd2, data2, sl2⟩, ho2, hc2, n2, hd2⟩ := id hb
  simp only at hc hd hc2 hd2
  subst hc hd hc2 hd2
  exact concat_meets ⟨_, ho, rfl⟩ ⟨_, ho2, rfl⟩ noFill_tuple_add seq_tuple_add PySem.F.slot_tuple_add PySem.F.entry_tuple_add (PySem.F.args_tuple_add_2 _ _)
   (tuple_addW0 t b vs.toArray ws.toArray n n2 dd dd2 sl sl2 (by simp [hv])) ⟨ho, ho2, h0 hv⟩
 ·exact K9 ht hb hv h1 (h2 hv) hsz
end
end HT
namespace L2
open PySem PySem.Spec PyProof.Rows
section
variable {X : Cx}
noncomputable def MO (i j : Int) : Prop := 0 < j ∧ j < 2 ^ 200
theorem nY : gZ X (binaryOp .FloorDiv) (rI MO fun i j => .int (i / j)) := VI fun i j _ _ _ _ _ hc q => by
 have h1 : (0 : Int) < j := hc.1
 have h2 : j < 2 ^ 200 := hc.2
 refine floordiv_int (by omega) (by rw [Int.fdiv_eq_ediv_of_nonneg i (by omega)]; exact q) (.inl (PyProof.noPylong_of_log2 ?_))
 have h3 : j.natAbs < 2 ^ 200 := by omega
 have h4 : j.natAbs.log2 < 200 := (Nat.log2_lt (by omega)).mpr h3
 omega
end
section
variable {k : Nat} {dN : List Nat} {g : TG} {tt : TT} {te : TE} {σ : St} {H : Hp} {Q : VK} {l : Addr}
end
end L2
namespace L2
open PySem PySem.Spec PyProof.Rows
section
variable {κ : Type} [DecidableEq κ]
noncomputable def iT (kvs : List (κ × V)) (k : κ) : Option V := (kvs.find? fun kv => decide (kv.1 = k)).map (·.2)
noncomputable def putK (kvs : List (κ × V)) (k : κ) (v : V) : List (κ × V) :=
 if (kvs.any fun kv => decide (kv.1 = k)) = true then kvs.map (fun kv => if kv.1 = k then (kv.1, v) else kv) else kvs ++ [(k, v)]
noncomputable def MQ (kvs : List (κ × V)) (k : κ) : List (κ × V) := kvs.filter fun kv => decide (kv.1 ≠ k)
theorem qM {p : κ × V} {r : List (κ × V)} {k : κ} (e : p.1 = k) : iT (p :: r) k = some p.2 := by simp [iT, List.find?_cons, e]
theorem rW {p : κ × V} {r : List (κ × V)} {k : κ} (e : ¬ p.1 = k) : iT (p :: r) k = iT r k := by simp [iT, List.find?_cons, e]
theorem xK (k : κ) : ∀ kvs : List (κ × V), (kvs.any fun kv => decide (kv.1 = k)) = (iT kvs k).isSome
 | [] => rfl
 | p :: r => by
  rw [List.any_cons]
  by_cases e : p.1 = k
  ·simp only [qM e, decide_eq_true e, Bool.true_or, Option.isSome_some]
  ·rw [rW e, decide_eq_false e, Bool.false_or]; exact xK k r
theorem jI (kvs : List (κ × V)) (k : κ) (v : V) : (putK kvs k v).length ≤ kvs.length + 1 := by
 unfold putK
 split
 ·rw [List.length_map]; omega
 ·rw [List.length_append, List.length_cons, List.length_nil]; omega
theorem nT.j7 {o : Option V} {u : Option Value} (r : nT o u) : o.isSome = u.isSome := by
 cases o with
 | none => cases u with
  | none => rfl
  | some _ => exact (show False from r).elim
 | some _ => cases u with
  | none => exact (show False from r).elim
  | some _ => rfl
theorem nT.getD {o : Option V} {u : Option Value} {d : V} {d' : Value} (r : nT o u) (rd : RelV d d') : RelV (o.getD d) (u.getD d') := by
 cases o with
 | none => cases u with
  | none => exact rd
  | some _ => exact (show False from r).elim
 | some _ => cases u with
  | none => exact (show False from r).elim
  | some _ => exact r
theorem KV.val {kvs : List (κ × V)} {vs : List (κ × Value)} (r : KV kvs vs) (k : κ) : nT (iT kvs k) (valueAt vs k) := by
 unfold KV at r
 induction r with
 | nil => exact True.intro
 | @cons p q ps qs h t ih =>
  obtain ⟨h1, h2⟩ := h
  by_cases e : p.1 = k
  ·have e' : q.1 = k := h1.symm.trans e
   have b : valueAt (q :: qs) k = some q.2 := by simp [valueAt, List.find?_cons, e']
   rw [qM e, b]; exact h2
  ·have e' : ¬ q.1 = k := fun z => e (h1.trans z)
   have b : valueAt (q :: qs) k = valueAt qs k := by simp [valueAt, List.find?_cons, e']
   rw [rW e, b]; exact ih
theorem KV.any {kvs : List (κ × V)} {vs : List (κ × Value)} (r : KV kvs vs) (k : κ) : (kvs.any fun kv => decide (kv.1 = k)) = vs.any fun kv => decide (kv.1 = k) := by
 unfold KV at r
 induction r with
 | nil => rfl
 | cons h t ih => rw [List.any_cons, List.any_cons, ih, h.1]
theorem KV.zQ {kvs : List (κ × V)} {vs : List (κ × Value)} (r : KV kvs vs) (k : κ) {y : V} {u : Value} (ry : RelV y u) :
  KV (kvs.map fun kv => if kv.1 = k then (kv.1, y) else kv) (vs.map fun kv => if kv.1 = k then (kv.1, u) else kv) := by
 unfold KV at r ⊢
 induction r with
 | nil => exact .nil
 | @cons p q ps qs h t ih =>
  rw [List.map_cons, List.map_cons]
  refine .cons ?_ ih
  obtain ⟨h1, h2⟩ := h
  by_cases e : p.1 = k
  ·rw [if_pos e, if_pos (h1.symm.trans e)]; exact ⟨h1, ry⟩
  ·rw [if_neg e, if_neg (fun z => e (h1.trans z))]; exact ⟨h1, h2⟩
theorem KV.put {kvs : List (κ × V)} {vs : List (κ × Value)} (r : KV kvs vs) (k : κ) {y : V} {u : Value} (ry : RelV y u) : KV (putK kvs k y) (stored vs k u) := by
 unfold putK stored
 rw [r.any k]
 by_cases e : (vs.any fun kv => decide (kv.1 = k)) = true
 ·rw [if_pos e, if_pos e]; exact r.zQ k ry
 ·rw [if_neg e, if_neg e]; exact Paired.snoc r ⟨rfl, ry⟩
theorem KV.drop {kvs : List (κ × V)} {vs : List (κ × Value)} (r : KV kvs vs) (k : κ) : KV (MQ kvs k) (without vs k) := by
 unfold KV at r ⊢
 unfold MQ without
 induction r with
 | nil => exact .nil
 | @cons p q ps qs h t ih =>
  obtain ⟨h1, h2⟩ := h
  rw [List.filter_cons, List.filter_cons]
  by_cases e : p.1 = k
  ·have a : ¬ decide (p.1 ≠ k) = true := by simp [e]
   have b : ¬ decide (q.1 ≠ k) = true := by simp [h1.symm.trans e]
   rw [if_neg a, if_neg b]; exact ih
  ·have e' : ¬ q.1 = k := fun z => e (h1.trans z)
   have a : decide (p.1 ≠ k) = true := by simp [e]
   have b : decide (q.1 ≠ k) = true := by simp [e']
   rw [if_pos a, if_pos b]; exact .cons ⟨h1, h2⟩ ih
theorem KV.keys {kvs : List (κ × V)} {vs : List (κ × Value)} (r : KV kvs vs) : kvs.map (·.1) = vs.map (·.1) := by
 unfold KV at r
 induction r with
 | nil => rfl
 | cons h t ih => rw [List.map_cons, List.map_cons, ih, h.1]
theorem KV.length {kvs : List (κ × V)} {vs : List (κ × Value)} (r : KV kvs vs) : kvs.length = vs.length := Paired.length r
end
theorem pJ {P : Program} {w : World} {k : Key} {u : Value} (r : RelV (kV k) u) : (cN P w).is k u = true := by
 cases k with
 | inl i => obtain ⟨t, e⟩ := (show ∃ t, u = Value.int i t from r); subst e; exact xJ P w i t
 | inr x => obtain ⟨t, e⟩ := (show ∃ t, u = Value.str x t from r); subst e; exact xT P w x t
theorem uA {P : Program} {w : World} : ∀ {ks : List Key} {us : List Value}, Vals (ks.map kV) us → ItemsAre (cN P w) ks us
 | [], _, r => by rw [List.map_nil] at r; cases r; exact .nil
 | k :: ks, _, r => by
  rw [List.map_cons] at r
  cases r with
  | cons h t => exact .cons (pJ h) (uA t)
noncomputable abbrev KT (H : Hp) : List (List Key × V) → List (List Key × Addr × Value) → Prop := Paired fun p q => p.1 = q.1 ∧ H q.2.1 = some (.tup (p.1.map kV)) ∧ RelV p.2 q.2.2
theorem KT.val {H : Hp} {kvs : List (List Key × V)} {xs : List (List Key × Addr × Value)} (r : KT H kvs xs) (k : List Key) : nT (iT kvs k) ((atKey xs k).map (·.2)) := by
 induction r with
 | nil => exact True.intro
 | @cons p q ps qs h t ih =>
  obtain ⟨h1, _, h2⟩ := h
  by_cases e : p.1 = k
  ·have e' : q.1 = k := h1.symm.trans e
   have b : atKey (q :: qs) k = some q.2 := by simp [atKey, List.find?_cons, e']
   rw [qM e, b]; exact h2
  ·have e' : ¬ q.1 = k := fun z => e (h1.trans z)
   have b : atKey (q :: qs) k = atKey qs k := by simp [atKey, List.find?_cons, e']
   rw [rW e, b]; exact ih
theorem KT.zQ {H : Hp} {kvs : List (List Key × V)} {xs : List (List Key × Addr × Value)} (r : KT H kvs xs) (k : List Key) {y : V} {u : Value} (ry : RelV y u) :
  KT H (kvs.map fun kv => if kv.1 = k then (kv.1, y) else kv) (xs.map (putAt k u)) := by
 induction r with
 | nil => exact .nil
 | @cons p q ps qs h t ih =>
  rw [List.map_cons, List.map_cons]
  refine .cons ?_ ih
  obtain ⟨h1, h2, h3⟩ := h
  unfold putAt
  by_cases e : p.1 = k
  ·rw [if_pos e, if_pos (h1.symm.trans e)]; exact ⟨h1, h2, ry⟩
  ·rw [if_neg e, if_neg (fun z => e (h1.trans z))]; exact ⟨h1, h2, h3⟩
theorem KT.put {H : Hp} {kvs : List (List Key × V)} {xs : List (List Key × Addr × Value)} (r : KT H kvs xs) (k : List Key) {b : Addr} {y : V} {u : Value} (hb : H b = some (.tup (k.map kV))) (ry : RelV y u) :
  KT H (putK kvs k y) (storedH xs k b u) := by
 have e : (kvs.any fun kv => decide (kv.1 = k)) = (atKey xs k).isSome := by
  rw [xK, (r.val k).j7, Option.isSome_map]
 unfold putK storedH
 rw [e]
 by_cases q : (atKey xs k).isSome = true
 ·rw [if_pos q, if_pos q]; exact r.zQ k ry
 ·rw [if_neg q, if_neg q]; exact Paired.snoc r ⟨rfl, hb, ry⟩
theorem KT.keeps {H H' : Hp} {kvs : List (List Key × V)} {xs : List (List Key × Addr × Value)} (r : KT H kvs xs) (ht : ∀ b ys, H b = some (.tup ys) → H' b = some (.tup ys)) : KT H' kvs xs :=
 Paired.NY r fun _ _ z => ⟨z.1, ht _ _ z.2.1, z.2.2⟩
noncomputable def zS (H : Hp) (a : Addr) (kvs : List (Key × V)) : Prop := ∃ ep, Rd H a (.dK kvs ep)
noncomputable def tK (H : Hp) (a : Addr) (kvs : List (Key × V)) : Prop := ∃ ep, H a = some (.dK kvs ep)
theorem tK.rd {H : Hp} {a : Addr} {kvs : List (Key × V)} (h : tK H a kvs) : zS H a kvs := let ⟨ep, e⟩ := h; ⟨ep, .inl e⟩
theorem tK.YR {H : Hp} {a : Addr} {kvs : List (Key × V)} (h : tK H a kvs) : SN (H a) := by obtain ⟨_, e⟩ := h; rw [e]; exact True.intro
section
variable {P : Program} {w : World} {H : Hp} {h : Heap} {a : Addr}
theorem NF {u : HO} (ok : mJ P w H h) (e : Rd H a u) : fS P w H h a u := e.ok ok
theorem A3 {kvs : List (Key × V)} {ep : Nat} (ok : mJ P w H h) (e : Rd H a (.dK kvs ep)) : kvs.length ≤ sizeLine ∧ (a == sysModules) = false ∧ ∃ vs, KV kvs vs ∧ h.DictAt (cN P w) a vs ep :=
 show fS P w H h a (.dK kvs ep) from NF ok e
theorem kZ {kvs : List (Key × V)} (ok : mJ P w H h) (e : zS H a kvs) : kvs.length ≤ sizeLine ∧ (a == sysModules) = false ∧ ∃ vs, KV kvs vs ∧ h.DictOf (cN P w) a vs :=
 let ⟨_, e⟩ := e; let ⟨z, y, vs, r, d⟩ := A3 ok e; ⟨z, y, vs, r, d.dictOf⟩
theorem FQ {kvs : List (Key × V)} (ok : mJ P w H h) (e : tK H a kvs) : kvs.length ≤ sizeLine ∧ (a == sysModules) = false ∧ ∃ vs, KV kvs vs ∧ h.DictOf (cN P w) a vs := kZ ok e.rd
theorem oN {ks : List Key} (ok : mJ P w H h) (e : H a = some (.tup (ks.map kV))) : (tupleKind (cN P w)).is h ks a := by
 obtain ⟨_, its, r, o, h1, h2, n, h3⟩ := (show fS P w H h a (.tup (ks.map kV)) from ok a _ e)
 exact ⟨o, its.toArray, n, h1, h2, h3, by simpa using uA r⟩
theorem r6 {kvs : List (List Key × V)} (ok : mJ P w H h) (e : Rd H a (.dT kvs)) : kvs.length ≤ sizeLine ∧ (a == sysModules) = false ∧
  ∃ xs, KT H kvs xs ∧ h.DictOfH (tupleKind (cN P w)) a xs := by
 obtain ⟨z, y, xs, r, o, es, ep, h1, h2, h3, h4, h5⟩ := (show fS P w H h a (.dT kvs) from NF ok e)
 refine ⟨z, y, xs, r, o, es, ep, h1, h2, h3, h4, fun x hx => ?_, h5⟩
 have all : ∀ {l : List (List Key × V)} {m : List (List Key × Addr × Value)}, KT H l m → ∀ x ∈ m, (tupleKind (cN P w)).is h x.1 x.2.1 := by
  intro l m q
  induction q with
  | nil => intro x hx; exact nomatch hx
  | @cons p q ps qs hq t ih =>
   intro x hx
   rcases List.mem_cons.mp hx with e | hx
   ·subst e
    exact oN ok (by rw [← hq.1]; exact hq.2.1)
   ·exact ih x hx
 exact all r x hx
theorem T1 {kvs : List (List Key × V)} (ok : mJ P w H h) (e : H a = some (.dT kvs)) : kvs.length ≤ sizeLine ∧ (a == sysModules) = false ∧
  ∃ xs, KT H kvs xs ∧ h.DictOfH (tupleKind (cN P w)) a xs := r6 ok (.inl e)
end
noncomputable def p6 (H : Hp) (a : Addr) (y : V) (r : Option V) : Prop :=
 (∃ kvs k, zS H a kvs ∧ y = kV k ∧ r = iT kvs k) ∨ ∃ kvs k b, Rd H a (.dT kvs) ∧ y = .ref b ∧ H b = some (.tup (k.map kV)) ∧ r = iT kvs k
noncomputable def TX (H : Hp) (a : Addr) (y v : V) (Q : Hp → Prop) : Prop :=
 (∃ kvs k, tK H a kvs ∧ y = kV k ∧ kvs.length < sizeLine ∧ ∀ ep, Q (upd H a (.dK (putK kvs k v) ep))) ∨
 ∃ kvs k b, H a = some (.dT kvs) ∧ y = .ref b ∧ H b = some (.tup (k.map kV)) ∧ kvs.length < sizeLine ∧ Q (upd H a (.dT (putK kvs k v)))
theorem p6.k {H : Hp} {a : Addr} {kvs : List (Key × V)} {k : Key} (e : tK H a kvs) : p6 H a (kV k) (iT kvs k) := .inl ⟨kvs, k, e.rd, rfl, rfl⟩
theorem p6.t {H : Hp} {a b : Addr} {kvs : List (List Key × V)} {k : List Key} (e : H a = some (.dT kvs)) (eb : H b = some (.tup (k.map kV))) : p6 H a (.ref b) (iT kvs k) := .inr ⟨kvs, k, b, .inl e, rfl, eb, rfl⟩
section
variable {X : Cx} {pins : List (Addr × Obj)} {σ : St} {H : Hp} {s : Shared} {a : Addr} {y v : V} {u r : Value} {o : Option V} {A : Around} {E : Value → Shared → Prop}
theorem Inv.big (I : Inv X pins σ H s) : sysModules < s.heap.objs.size := by
 have h : mainGlobals < s.heap.objs.size := (I.mod.glob.keeps I.bk).lt
 exact Nat.lt_trans (by decide) h
theorem CS {Q : Value → Shared → Prop} (hu : A.units + 1 < cLine) (I : Inv X pins σ H s) (g : p6 H a y (some v)) (ry : RelV y u) (h : ∀ w' s', Inv X pins σ H s' → RelV v w' → Q w' s') :
  wpAny (model X.prog X.w) A (getItem (.ref a) u) Q E s := by
 rcases g with ⟨kvs, k, e, ey, l⟩ | ⟨kvs, k, b, e, ey, eb, l⟩
 ·subst ey
  obtain ⟨z, hd, vs, rel, dd⟩ := kZ I.dJ e
  obtain ⟨w', hw, rw'⟩ := nT.some_of (v := v) (o := valueAt vs k) (by rw [l]; exact rel.val k)
  exact wpAny_getItem_of (pJ ry) dd.mapOf hw (h w' _ (I.tok _) rw')
 ·subst ey
  cases (show u = Value.ref b from ry)
  obtain ⟨z, hd, xs, rel, dd⟩ := r6 I.dJ e
  obtain ⟨w', hw, rw'⟩ := nT.some_of (v := v) (o := (atKey xs k).map (·.2)) (by rw [l]; exact rel.val k)
  obtain ⟨p, hp, hp2⟩ := Option.map_eq_some_iff.mp hw
  refine wpAny_getItem_heap (tupleKind_room_in1 hu) (oN I.dJ eb) dd hp ?_
  rw [hp2]
  exact h w' _ (I.tok _) rw'
theorem XU {Q : Value → Shared → Prop} (hu : A.units + 1 < cLine) (I : Inv X pins σ H s) (g : p6 H a y o) (ry : RelV y u) (h : ∀ s', Inv X pins σ H s' → Q (.bool o.isSome) s') :
  wpAny (model X.prog X.w) A (compareOp .In u (.ref a)) Q E s := by
 rcases g with ⟨kvs, k, e, ey, l⟩ | ⟨kvs, k, b, e, ey, eb, l⟩
 ·subst ey
  obtain ⟨z, hd, vs, rel, dd⟩ := kZ I.dJ e
  refine wpAny_in_of (pJ ry) hd dd.mapOf ?_
  rw [← (rel.val k).j7, ← l]
  exact h _ (I.tok _)
 ·subst ey
  cases (show u = Value.ref b from ry)
  obtain ⟨z, hd, xs, rel, dd⟩ := r6 I.dJ e
  refine wpAny_in_heap (tupleKind_room_in1 hu) (oN I.dJ eb) hd dd ?_
  have q := (rel.val k).j7
  rw [Option.isSome_map] at q
  rw [← q, ← l]
  exact h _ (I.tok _)
theorem LY {Q : Value → Shared → Prop} (hu : A.units + 1 < cLine) (I : Inv X pins σ H s) (g : p6 H a y o) (ry : RelV y u) (h : ∀ s', Inv X pins σ H s' → Q (.bool (!o.isSome)) s') :
  wpAny (model X.prog X.w) A (compareOp .NotIn u (.ref a)) Q E s := by
 rcases g with ⟨kvs, k, e, ey, l⟩ | ⟨kvs, k, b, e, ey, eb, l⟩
 ·subst ey
  obtain ⟨z, hd, vs, rel, dd⟩ := kZ I.dJ e
  refine wpAny_notIn_of (pJ ry) hd dd.mapOf ?_
  rw [← (rel.val k).j7, ← l]
  exact h _ (I.tok _)
 ·subst ey
  cases (show u = Value.ref b from ry)
  obtain ⟨z, hd, xs, rel, dd⟩ := r6 I.dJ e
  refine wpAny_notIn_heap (tupleKind_room_in1 hu) (oN I.dJ eb) hd dd ?_
  have q := (rel.val k).j7
  rw [Option.isSome_map] at q
  rw [← q, ← l]
  exact h _ (I.tok _)
theorem qG {h' : Heap} {t' : Nat} {ob : HO} (I : Inv X pins σ H s) (mu : SN (H a)) (hs : Heap.SameBut a s.heap h') (he : ∃ q, h'.get? a = some q) (new : fS X.prog X.w (upd H a ob) h' a ob) :
  Inv X pins σ (upd H a ob) { s with heap := h', toks := t' } :=
 I.write (x := a) (e := a) mu (.inl rfl) (fun b q hb z => (hs.2 b hb).trans z) he new
theorem zL {ep : Nat} {P : Program} {w : World} {H' : Hp} {h' : Heap} {kvs : List (Key × V)} {vs : List (Key × Value)} (z : kvs.length ≤ sizeLine) (hd : (a == sysModules) = false) (rel : KV kvs vs) (dd : h'.DictAt (cN P w) a vs ep) :
  fS P w H' h' a (.dK kvs ep) := ⟨z, hd, vs, rel, dd⟩
theorem DR {Z : Hp → Prop} {Q : Unit → Shared → Prop} (hu : A.units + 1 < cLine) (I : Inv X pins σ H s) (g : TX H a y v Z) (ry : RelV y u) (rv : RelV v r) (h : ∀ H' s', Inv X pins σ H' s' → Z H' → Q () s') :
  wpAny (model X.prog X.w) A (setItem (.ref a) u r) Q E s := by
 rcases g with ⟨kvs, k, e, ey, l, eH⟩ | ⟨kvs, k, b, e, ey, eb, l, eH⟩
 ·subst ey
  obtain ⟨z, hd, vs, rel, dd⟩ := FQ I.dJ e
  have hz : vs.length ≤ sizeLine := by rw [← rel.length]; exact z
  have hl : (putK kvs k v).length ≤ sizeLine := by have := jI kvs k v; omega
  refine wpAny_setItem_pairs (hsz := hz) (pJ ry) dd fun h' dd' hs => ?_
  obtain ⟨ep, da⟩ := dd'.dictAt
  refine h _ _ ?_ (eH ep)
  have he : ∃ q, h'.get? a = some q := let ⟨q, _, _, hq, _⟩ := dd'; ⟨q, hq⟩
  exact qG I e.YR hs he (zL hl hd (rel.put k rv) da)
 ·subst ey
  cases (show u = Value.ref b from ry)
  obtain ⟨z, hd, xs, rel, dd⟩ := T1 I.dJ e
  have hz : xs.length ≤ sizeLine := by rw [← Paired.length rel]; exact z
  have hl : (putK kvs k v).length ≤ sizeLine := by have := jI kvs k v; omega
  refine wpAny_setItem_heap (hsz := hz) (tupleKind_room_in1 hu) (oN I.dJ eb) dd fun h' dd' hs => h _ _ ?_ eH
  obtain ⟨q, es, ep, hq, h2, h3, h4, _, h5⟩ := dd'
  refine qG I (by rw [e]; exact True.intro) hs ⟨q, hq⟩ ⟨hl, hd, _, (rel.put k eb rv).keeps fun c ys ec => ?_, q, es, ep, hq, h2, h3, h4, h5⟩
  rw [bL (G5 ec e (fun z => nomatch z))]
  exact ec
end
section
variable {X : Cx} {pins : List (Addr × Obj)} {σ : St} {H : Hp} {s : Shared} {a : Addr} {kvs : List (Key × V)} {k : Key} {u : Value} {A : Around} {E : Value → Shared → Prop}
end
theorem yP {X : Cx} {pins : List (Addr × Obj)} {σ : St} {H : Hp} {s : Shared} {a : Addr} {y : V} {o : Option V} (I : Inv X pins σ H s) (g : p6 H a y o) : s.TypeIs (.ref a) "dict" := by
 rcases g with ⟨kvs, k, e, _, _⟩ | ⟨kvs, k, b, e, _, _, _⟩
 ·obtain ⟨_, _, vs, _, dd⟩ := kZ I.dJ e
  exact dd.typeIs
 ·obtain ⟨_, _, xs, _, dd⟩ := r6 I.dJ e
  exact dd.typeIs
noncomputable def kY (td ty tv : TE) : TS := fun D σ H => tv σ H fun v H1 => td σ H1 fun x H2 => ty σ H2 fun y H3 => ∃ a, x = .ref a ∧ TX H3 a y v (D.nx σ)
section
variable {X : Cx} {o i e value : Expr} {pos pos' tpos : Pos} {td ty tv : TE}
theorem n4 (hu : X.A.units + 1 < cLine) (ho : PE X o td) (hi : PE X i ty) (hv : PE X value tv) (hs : swapsWith value (some (.Subscript o i pos')) pos.line X.env = pure false) :
  PS X (.Assign [.Subscript o i pos'] value pos) (kY td ty tv) := by
 intro pins s σ H D I h
 refine wpAny_Assign_Subscript (d6 (hv pins s σ H _ I h) fun r s1 ⟨v, H1, I1, rv, q1⟩ => d6 (ho pins s1 σ H1 _ I1 q1) fun u s2 ⟨x, H2, I2, rx, q2⟩ => d6 (hi pins s2 σ H2 _ I2 q2) fun iv s3 ⟨y, H3, I3, ry, a, ex, g⟩ => ?_) hs
 subst ex
 obtain rfl : u = Value.ref a := rx
 exact DR hu I3 g ry rv fun H4 s4 I4 q3 => ⟨σ, H4, I4, q3⟩
end
theorem xH {P : Program} {w : World} {H : Hp} (h : Heap) (hb : sysModules < h.objs.size) : fS P w H (h.push { cls := .type "dict", data := .dict #[] }) h.objs.size (.dK [] 0) :=
 ⟨Nat.zero_le _, beq_eq_false_iff_ne.mpr (Ne.symm (Nat.ne_of_lt hb)), [], .nil, _, #[], Heap.get?_push_size _ rfl, ⟨rfl, rfl, rfl⟩, rfl, (fun _ he => by simp at he), PySem.Pairs.nil, List.nodup_nil⟩
noncomputable def u7 : TE := fun _ H Q => ∀ p, H p = none → Q (.ref p) (upd H p (.dK [] 0))
section
variable {X : Cx} {pos : Pos}
theorem lP : PE X (.Dict [] [] pos) u7 := fun pins s σ H Q I h =>
 wpAny_Dict_empty ⟨.ref s.heap.objs.size, _, I.laid (a := s.heap.objs.size) (o := .dK [] 0) (t' := s.toks) (fun _ _ q => Heap.get?_push_of_some _ q) (Nat.le_refl _) (xH s.heap I.big), rfl, h _ (I.dJ.fresh (Nat.le_refl _))⟩
end
noncomputable def AA : List (TE × TE) → St → Hp → (List (V × V) → Hp → Prop) → Prop
 | [], _, H, Q => Q [] H
 | (tk, tv) :: r, σ, H, Q => tk σ H fun x H1 => tv σ H1 fun y H2 => AA r σ H2 fun ps H3 => Q ((x, y) :: ps) H3
noncomputable abbrev VV : List (V × V) → List (Value × Value) → Prop := Paired fun p q => RelV p.1 q.1 ∧ RelV p.2 q.2
noncomputable def VZ (X : Cx) (pos : Pos) (keys : List (Option Expr)) (values : List Expr) (trs : List (TE × TE)) : Prop :=
 ∀ (pins : List (Addr × Obj)) (s : Shared) (σ : St) (H : Hp) (Q : List (V × V) → Hp → Prop), Inv X pins σ H s → AA trs σ H Q →
  wpAny (model X.prog X.w) X.A (evalPairs (pairTrees keys values X.env pos)) (fun vs s' => ∃ ps H', Inv X pins σ H' s' ∧ VV ps vs ∧ Q ps H') X.xe s
theorem LV {X : Cx} {pos : Pos} : VZ X pos [] [] [] := fun pins s σ H Q I h => pairTrees_nil_walk ⟨[], H, I, .nil, h⟩
theorem EV {X : Cx} {pos : Pos} {k v : Expr} {ks : List (Option Expr)} {vs : List Expr} {tk tv : TE} {trs : List (TE × TE)} (hk : PE X k tk) (hv : PE X v tv) (hr : VZ X pos ks vs trs) :
  VZ X pos (some k :: ks) (v :: vs) ((tk, tv) :: trs) := fun pins s σ H Q I h =>
 pairTrees_cons_walk (d6 (hk pins s σ H _ I h) fun u s1 ⟨x, H1, I1, rx, q1⟩ => d6 (hv pins s1 σ H1 _ I1 q1) fun w2 s2 ⟨y, H2, I2, ry, q2⟩ =>
  d6 (hr pins s2 σ H2 _ I2 q2) fun ws s3 ⟨ps, H3, I3, rel, q3⟩ => ⟨(x, y) :: ps, H3, I3, .cons ⟨rx, ry⟩ rel, q3⟩)
noncomputable def oU (kvs more : List (Key × V)) : List (Key × V) := more.foldl (fun acc kv => putK acc kv.1 kv.2) kvs
theorem KV.merge : ∀ {more : List (Key × V)} {rs : List (Key × Value)} {kvs : List (Key × V)} {vs : List (Key × Value)}, KV more rs → KV kvs vs → KV (oU kvs more) (merged vs rs) := by
 intro more rs kvs vs r
 unfold KV at r
 induction r generalizing kvs vs with
 | nil => intro q; exact q
 | @cons p q ps qs h t ih =>
  intro r0
  have e : KV (putK kvs p.1 p.2) (stored vs q.1 q.2) := by
   have := r0.put p.1 h.2
   rw [← h.1]; exact this
  exact ih e
theorem mO : ∀ (more kvs : List (Key × V)), (oU kvs more).length ≤ kvs.length + more.length
 | [], kvs => by show kvs.length ≤ kvs.length + 0; omega
 | p :: r, kvs => by
  have h1 := mO r (putK kvs p.1 p.2)
  have h2 := jI kvs p.1 p.2
  show (oU (putK kvs p.1 p.2) r).length ≤ _
  rw [List.length_cons]; omega
theorem rF {P : Program} {w : World} : ∀ {kvs : List (Key × V)} {ws : List (Value × Value)}, VV (kvs.map fun kv => (kV kv.1, kv.2)) ws → ∃ rs, Carries (cN P w) ws rs ∧ KV kvs rs
 | [], _, r => by rw [List.map_nil] at r; cases r; exact ⟨[], True.intro, .nil⟩
 | p :: kvs, _, r => by
  rw [List.map_cons] at r
  cases r with
  | @cons a b as bs h t =>
   obtain ⟨rs, c, q⟩ := rF (P := P) (w := w) t
   obtain ⟨b1, b2⟩ := b
   exact ⟨(p.1, b2) :: rs, ⟨pJ h.1, rfl, c⟩, .cons ⟨rfl, h.2⟩ q⟩
noncomputable def MS (trs : List (TE × TE)) : TE := fun σ H Q => ∀ p, H p = none → AA trs σ (upd H p (.dK [] 0)) fun ps H2 => H2 p = some (.dK [] 0) ∧ ∃ kvs : List (Key × V), ps = kvs.map (fun kv => (kV kv.1, kv.2)) ∧ kvs.length ≤ 15 ∧ ∀ ep, Q (.ref p) (upd H2 p (.dK (oU [] kvs) ep))
theorem K4 {X : Cx} {pos : Pos} {keys : List (Option Expr)} {values : List Expr} {trs : List (TE × TE)} (h : VZ X pos keys values trs) (hall : keys.all (·.isSome) = true) (hl : keys.length = values.length) (h0 : keys ≠ [])
  (h15 : keys.length ≤ 15) : PE X (.Dict keys values pos) (MS trs) := by
 intro pins s σ H Q I q
 have hn := I.dJ.fresh (Nat.le_refl s.heap.objs.size)
 have I1 := I.laid (a := s.heap.objs.size) (o := .dK [] 0) (h' := s.heap.push { cls := .type "dict", data := .dict #[] }) (t' := s.toks) (fun _ _ q => Heap.get?_push_of_some _ q) (Nat.le_refl _) (xH s.heap I.big)
 refine wpAny_Dict_walk (knd := cN X.prog X.w) hall hl h0 h15 (d6 (h pins _ σ _ _ I1 (q _ hn)) fun ws s2 ⟨ps, H2, I2, rel, e, kvs, ep, lk, q2⟩ => ?_)
 subst ep
 obtain ⟨rs, c, rk⟩ := rF (P := X.prog) (w := X.w) rel
 obtain ⟨z, hd, vs0, r0, dd⟩ := FQ I2.dJ ⟨_, e⟩
 cases r0
 refine ⟨rs, c, dd, fun h' dd' hs => let ⟨ep, da⟩ := dd'.dictAt; ⟨.ref s.heap.objs.size, _, ?_, rfl, q2 ep⟩⟩
 have hz : (oU [] kvs).length ≤ sizeLine := by
  have h1 := mO kvs []
  rw [List.length_nil] at h1
  rw [sizeLine_eq]; omega
 have he : ∃ q, h'.get? s.heap.objs.size = some q := let ⟨q, _, _, hq, _⟩ := dd'; ⟨q, hq⟩
 exact qG I2 (by rw [e]; exact True.intro) hs he (zL hz hd (rk.merge .nil) da)
structure M1 (X : Cx) (o : Expr) (m : Str) (apos : Pos) (e : Expr) (cpos : Pos) : Prop where
 base : attributeBase o m X.env (eval o X.env) = eval o X.env
 S4 : ((backTo cpos (starEach [e] X.env)).all (fun x => !x.1) && (backToKw cpos (keywordEach [] X.env)).all (fun x => x.1.isSome)
  && decide (([e] : List Expr).length + ([] : List Keyword).length + (if ([] : List Keyword).isEmpty then 0 else 1) < 30)) = true
 line : (apos.endLine == cpos.line) = true
 trees : backTo cpos (starEach [e] X.env) = [(false, eval e X.env)]
structure M2 (X : Cx) (o : Expr) (m : Str) (apos : Pos) (e f : Expr) (cpos : Pos) : Prop where
 base : attributeBase o m X.env (eval o X.env) = eval o X.env
 S4 : ((backTo cpos (starEach [e, f] X.env)).all (fun x => !x.1) && (backToKw cpos (keywordEach [] X.env)).all (fun x => x.1.isSome)
  && decide (([e, f] : List Expr).length + ([] : List Keyword).length + (if ([] : List Keyword).isEmpty then 0 else 1) < 30)) = true
 line : (apos.endLine == cpos.line) = true
 trees : backTo cpos (starEach [e, f] X.env) = [(false, eval e X.env), (false, eval f X.env)]
noncomputable def WG (H : Hp) (a : Addr) : Prop := (∃ kvs, zS H a kvs) ∨ ∃ kvs, Rd H a (.dT kvs)
theorem HZ {X : Cx} {pins : List (Addr × Obj)} {σ : St} {H : Hp} {s : Shared} {a : Addr} (I : Inv X pins σ H s) (d : WG H a) :
  s.TypeIs (.ref a) "dict" ∧ (∀ b, Value.ref a = .ref b → ∃ ob, s.heap.get? b = some ob ∧ ob.dict = none) ∧ (a == sysModules) = false := by
 rcases d with ⟨kvs, e⟩ | ⟨kvs, e⟩
 ·obtain ⟨_, hd, vs, _, dd⟩ := kZ I.dJ e
  refine ⟨dd.typeIs, fun b q => ?_, hd⟩
  cases q
  obtain ⟨ob, _, _, h1, h2, _⟩ := dd
  exact ⟨ob, h1, h2.2.1⟩
 ·obtain ⟨_, hd, xs, _, dd⟩ := r6 I.dJ e
  refine ⟨dd.typeIs, fun b q => ?_, hd⟩
  cases q
  obtain ⟨ob, _, _, h1, h2, _⟩ := dd
  exact ⟨ob, h1, h2.2.1⟩
section
variable {X : Cx} {pins : List (Addr × Obj)} {σ : St} {H : Hp} {s : Shared} {a : Addr} {y d : V} {u r : Value} {o : Option V} {A : Around} {E : Value → Shared → Prop}
theorem E3 {Q : Value → Shared → Prop} (hu : A.units + 1 < cLine) (I : Inv X pins σ H s) (g : p6 H a y o) (ry : RelV y u) (h : ∀ w' s', Inv X pins σ H s' → RelV (o.getD .aZ) w' → Q w' s') :
  wpAny (model X.prog X.w) A (call (.builtin "dict.get") [.ref a, u]) Q E s := by
 rcases g with ⟨kvs, k, e, ey, l⟩ | ⟨kvs, k, b, e, ey, eb, l⟩
 ·subst ey
  obtain ⟨z, hd, vs, rel, dd⟩ := kZ I.dJ e
  refine call_meetsIn PySem.F.slot_dict_get dd.typeIs PySem.F.entry_dict_get (PySem.F.args_dict_get_2 _ _) (meets_dict_get (cN X.prog X.w) a (pJ ry) hd) ⟨_, dd.mapOf, h _ _ (I.tok _) ?_⟩
  rw [l]
  exact (rel.val k).getD rfl
 ·subst ey
  cases (show u = Value.ref b from ry)
  obtain ⟨z, hd, xs, rel, dd⟩ := r6 I.dJ e
  refine call_meetsIn PySem.F.slot_dict_get dd.typeIs PySem.F.entry_dict_get (PySem.F.args_dict_get_2 _ _) (meetsH_dict_get (tupleKind (cN X.prog X.w)) a b hd) ⟨tupleKind_room_in1 hu, k, xs, oN I.dJ eb, dd, h _ _ (I.tok _) ?_⟩
  rw [l]
  exact (rel.val k).getD rfl
end
noncomputable def FY (td ty : TE) : TE := fun σ H Q => td σ H fun x H1 => ∃ a, x = .ref a ∧ WG H1 a ∧ ty σ H1 fun y H2 => ∃ o, p6 H2 a y o ∧ Q (o.getD .aZ) H2
section
variable {X : Cx} {o e f : Expr} {apos cpos : Pos} {td ty tx : TE}
theorem G6 (hu : X.A.units + 1 < cLine) (ho : PE X o td) (he : PE X e ty) (m : M1 X o "get" apos e cpos) : PE X (.Call (.Attribute o "get" apos) [e] [] cpos) (FY td ty) := by
 intro pins s σ H Q I h
 refine wpAny_Call_method m.base m.S4 m.line PySem.F.plainAttrs_dict PySem.F.slot_dict_get PySem.F.type_dict_get (d6 (ho pins s σ H _ I h) fun u s1 ⟨x, H1, I1, rx, a, ex, d, q1⟩ => ?_)
 subst ex
 obtain rfl : u = Value.ref a := rx
 obtain ⟨t1, t2, _⟩ := HZ I1 d
 refine ⟨t1, t2, ?_⟩
 rw [m.trees]
 refine Calls.callWith_builtin rfl (Calls.evalArgs_plain (Calls.spliced_cons (d6 (he pins s1 σ H1 _ I1 q1) fun iv s2 ⟨y, H2, I2, ry, ov, g, q2⟩ => Calls.spliced_nil ?_)))
 exact E3 hu I2 g ry fun w' s3 I3 rw' => ⟨_, H2, I3, rw', q2⟩
end
section
variable {X : Cx} {pins : List (Addr × Obj)} {σ : St} {H : Hp} {s : Shared} {a : Addr} {kvs : List (Key × V)} {A : Around} {E : Value → Shared → Prop}
end
section
variable {X : Cx} {pins : List (Addr × Obj)} {σ : St} {H : Hp} {s : Shared} {a : Addr} {y : V} {u : Value} {A : Around} {E : Value → Shared → Prop}
end
end L2
namespace HT
open PySem PySem.Spec PyProof.Rows
end HT
namespace L2
open PySem PySem.Spec PyProof.Rows
section
variable {X : Cx}
end
end L2
namespace L2
open PySem PySem.Spec PyProof.Rows
section
variable {k : Nat} {dN : List Nat} {g : TG} {tt : TT} {te : TE} {σ : St} {H : Hp} {Q : VK} {l : Addr}
end
noncomputable def Kp (H H' : Hp) : Prop := ∀ a o, H a = some o → H' a = some o ∨ ∃ xs ys, o = .lst xs ∧ H' a = some (.lst ys)
theorem Kp.of {H H' : Hp} (s : bG H H') : Kp H H' := fun a o h => .inl (s a o h)
theorem Kp.trans {H H1 H2 : Hp} (a : Kp H H1) (b : Kp H1 H2) : Kp H H2 := fun c o h => by
 rcases a c o h with r | ⟨xs, ys, rfl, r⟩
 ·exact b c o r
 ·rcases b c _ r with q | ⟨us, ws, e, q⟩
  ·exact .inr ⟨xs, ys, rfl, q⟩
  ·exact .inr ⟨xs, ws, rfl, q⟩
theorem Kp.but {H H' : Hp} {p : Addr} (h : OH H p) (h' : OH H' p) (b : CA p H H') : Kp H H' := fun a o e => by
 by_cases z : a = p
 ·subst z
  obtain ⟨i, j, e1, _⟩ := h
  obtain ⟨i', j', e2, _⟩ := h'
  rw [e1] at e
  cases e
  exact .inr ⟨_, _, rfl, e2⟩
 ·exact .inl (b a o e z)
theorem Kp.lst {H : Hp} {l : Addr} {xs ys : List V} (e : H l = some (.lst xs)) : Kp H (upd H l (.lst ys)) := fun a o h => by
 by_cases z : a = l
 ·subst z; rw [e] at h; cases h; exact .inr ⟨_, _, rfl, cG⟩
 ·exact .inl (by rw [bL z]; exact h)
theorem Kp.tup {H H' : Hp} (k : Kp H H') {a : Addr} {xs : List V} (h : H a = some (.tup xs)) : H' a = some (.tup xs) := by
 rcases k a _ h with r | ⟨_, _, e, _⟩
 ·exact r
 ·cases e
structure Tg (H : Hp) (v : V) (k : Kd) : Prop where
 is : SM H v k
 S4 : ∀ x, v = .str x → x.length ≤ 1000000
theorem Tg.kp {H H' : Hp} {v : V} {k : Kd} (t : Tg H v k) (s : Kp H H') : Tg H' v k := by
 refine ⟨?_, t.S4⟩
 have h := t.is
 cases k with
 | aZ => exact h
 | bl => exact h
 | int => exact h
 | str => exact h
 | lst =>
  obtain ⟨a, xs, rfl, e⟩ := h
  rcases s _ _ e with r | ⟨_, ys, _, r⟩
  ·exact ⟨a, xs, rfl, r⟩
  ·exact ⟨a, ys, rfl, r⟩
 | tup => obtain ⟨a, xs, rfl, e⟩ := h; exact ⟨a, xs, rfl, s.tup e⟩
 | cC =>
  obtain ⟨a, xs, ep, rfl, e⟩ := h
  rcases s _ _ e with r | ⟨_, _, z, _⟩
  ·exact ⟨a, xs, ep, rfl, r⟩
  ·cases z
theorem Tg.same {H H' : Hp} {v : V} {k : Kd} (t : Tg H v k) (s : bG H H') : Tg H' v k := t.kp (.of s)
noncomputable def iR (H : Hp) : V → Option (List V)
 | .ref a => match H a with | some (.tup xs) => some xs | _ => none
 | _ => none
theorem cO {H : Hp} {a : Addr} {xs : List V} (h : H a = some (.tup xs)) : iR H (.ref a) = some xs := by unfold iR; simp only [h]
theorem Tg.tup {H : Hp} {v : V} {k : Kd} (t : Tg H v k) : (k = .tup ∧ ∃ a xs, v = .ref a ∧ H a = some (.tup xs) ∧ iR H v = some xs) ∨ (k ≠ .tup ∧ iR H v = none) := by
 have h := t.is
 cases k with
 | aZ => cases (show v = .aZ from h); exact .inr ⟨(fun z => nomatch z), rfl⟩
 | bl => obtain ⟨_, rfl⟩ := h; exact .inr ⟨(fun z => nomatch z), rfl⟩
 | int => obtain ⟨_, rfl⟩ := h; exact .inr ⟨(fun z => nomatch z), rfl⟩
 | str => obtain ⟨_, rfl⟩ := h; exact .inr ⟨(fun z => nomatch z), rfl⟩
 | lst => obtain ⟨a, xs, rfl, e⟩ := h; exact .inr ⟨(fun z => nomatch z), by unfold iR; simp only [e]⟩
 | tup => obtain ⟨a, xs, rfl, e⟩ := h; exact .inl ⟨rfl, a, xs, rfl, e, cO e⟩
 | cC => obtain ⟨a, xs, ep, rfl, e⟩ := h; exact .inr ⟨(fun z => nomatch z), by unfold iR; simp only [e]⟩
theorem Tg.PX {H H' : Hp} {v : V} {k : Kd} (t : Tg H v k) (s : Kp H H') : iR H' v = iR H v := by
 rcases t.tup with ⟨rfl, a, xs, rfl, e, e2⟩ | ⟨n, e⟩
 ·rw [e2]; exact cO (s.tup e)
 ·rw [e]
  rcases (t.kp s).tup with ⟨z, _⟩ | ⟨_, e'⟩
  ·exact absurd z n
  ·exact e'
noncomputable def xP : Nat → Hp → V → Prop
 | 0, H, v => ∃ k, Tg H v k
 | n + 1, H, v => (∃ k, Tg H v k) ∧ ∀ xs, iR H v = some xs → xs.length ≤ 1000 ∧ ∀ x ∈ xs, xP n H x
theorem xP.tg : ∀ {n : Nat} {H : Hp} {v : V}, xP n H v → ∃ k, Tg H v k
 | 0, _, _, h => h
 | _ + 1, _, _, h => h.1
theorem xP.kp : ∀ {n : Nat} {H H' : Hp} {v : V}, xP n H v → Kp H H' → xP n H' v
 | 0, _, _, _, ⟨k, t⟩, s => ⟨k, t.kp s⟩
 | n + 1, _, _, _, ⟨⟨k, t⟩, h⟩, s => ⟨⟨k, t.kp s⟩, fun xs e => by
   rw [t.PX s] at e
   exact ⟨(h xs e).1, fun x hx => xP.kp ((h xs e).2 x hx) s⟩⟩
noncomputable def Any (H : Hp) (v : V) : Prop := ∀ n, xP n H v
theorem Any.kp {H H' : Hp} {v : V} (h : Any H v) (s : Kp H H') : Any H' v := fun n => (h n).kp s
end L2
namespace L2
open PySem PySem.Spec PyProof.Rows
section
variable {X : Cx} {es : List Expr} {te : TE} {t : TA}
theorem X1 {a b c} (ha : PE X (.Constant a b c) te) (hr : PA X es t) : PA X (.Constant a b c :: es) (fF te t) := aC ha hr rfl
theorem X3 {a b} (ha : PE X (.Name a b) te) (hr : PA X es t) : PA X (.Name a b :: es) (fF te t) := aC ha hr rfl
theorem W5 {a b c} (ha : PE X (.Tuple a b c) te) (hr : PA X es t) : PA X (.Tuple a b c :: es) (fF te t) := aC ha hr rfl
theorem YH {a b} (ha : PE X (.List a b) te) (hr : PA X es t) : PA X (.List a b :: es) (fF te t) := aC ha hr rfl
theorem X4 {a b c} (ha : PE X (.Dict a b c) te) (hr : PA X es t) : PA X (.Dict a b c :: es) (fF te t) := aC ha hr rfl
theorem WM {a b c d} (ha : PE X (.BinOp a b c d) te) (hr : PA X es t) : PA X (.BinOp a b c d :: es) (fF te t) := aC ha hr rfl
theorem YA {a b c} (ha : PE X (.UnaryOp a b c) te) (hr : PA X es t) : PA X (.UnaryOp a b c :: es) (fF te t) := aC ha hr rfl
theorem XQ {a b c} (ha : PE X (.Subscript a b c) te) (hr : PA X es t) : PA X (.Subscript a b c :: es) (fF te t) := aC ha hr rfl
end
section
variable {X : Cx} {elt tg iter : Expr} {ifs : List Expr} {scope : Scope} {pos : Pos} {wi : TI} {g : TG} {tt : TT} {te : TE} {N : List Str} {k : Nat} {dN : List Nat}
end
section
variable {X : Cx} {es : List Expr} {e : Expr} {te tk tv : TE} {t : TA}
structure y4 (X : Cx) (e : Expr) (t : TE) : Prop where
 h : PE X e t
structure vA (X : Cx) (es : List Expr) (t : TA) : Prop where
 h : PA X es t
theorem ew (h : PE X e te) : y4 X e te := ⟨h⟩
theorem VG {pos : Pos} : y4 X (.Dict [] [] pos) u7 := ⟨lP⟩
theorem dZ : vA X [] zP := ⟨aK⟩
theorem tE {a b} (ha : y4 X (.Name a b) te) (hr : vA X es t) : vA X (.Name a b :: es) (fF te t) := ⟨X3 ha.h hr.h⟩
theorem oQ {a b c} (ha : y4 X (.Tuple a b c) te) (hr : vA X es t) : vA X (.Tuple a b c :: es) (fF te t) := ⟨W5 ha.h hr.h⟩
theorem LU {a b} (ha : y4 X (.List a b) te) (hr : vA X es t) : vA X (.List a b :: es) (fF te t) := ⟨YH ha.h hr.h⟩
theorem YE {a b c} (ha : y4 X (.Dict a b c) te) (hr : vA X es t) : vA X (.Dict a b c :: es) (fF te t) := ⟨X4 ha.h hr.h⟩
theorem gU {a b c} (ha : y4 X (.Constant a b c) te) (hr : vA X es t) : vA X (.Constant a b c :: es) (fF te t) := ⟨X1 ha.h hr.h⟩
theorem TF {a b c d} (ha : y4 X (.BinOp a b c d) te) (hr : vA X es t) : vA X (.BinOp a b c d :: es) (fF te t) := ⟨WM ha.h hr.h⟩
theorem XE {a b c} (ha : y4 X (.UnaryOp a b c) te) (hr : vA X es t) : vA X (.UnaryOp a b c :: es) (fF te t) := ⟨YA ha.h hr.h⟩
theorem VB {a b c} (ha : y4 X (.Subscript a b c) te) (hr : vA X es t) : vA X (.Subscript a b c :: es) (fF te t) := ⟨XQ ha.h hr.h⟩
theorem nF {k} {pos : Pos} (h : vA X es t) : y4 X (.Tuple es k pos) (OD t) := ⟨lJ h.h⟩
theorem xQ {pos : Pos} (h : vA X es t) : y4 X (.List es pos) (QA t) := ⟨eP h.h⟩
theorem IH {i : Nat} {x : Str} {pos' pos p3 : Pos} (hN : X.N.Nodup) (hi : X.N[i]? = some x) (hx : X.env.scope.names.lookup x = some .local) (he : y4 X (.List es pos) te) : PS X (.Assign [.Name x pos'] (.List es pos) p3) (tF te (nH i)) := bY hN hi (.inl hx) he.h rfl (.inr hx)
end
section
variable {X : Cx} {es : List Expr} {te : TE} {t : TA} {st : Stmt} {rest : List Stmt} {ts us : TS}
structure VW (X : Cx) (st : Stmt) (t : TS) : Prop where
 h : PS X st t
structure K2 (X : Cx) (st : List Stmt) (t : TS) : Prop where
 h : z6 X st t
theorem sw (h : PS X st ts) : VW X st ts := ⟨h⟩
theorem eD (h1 : VW X st ts) (h2 : K2 X rest us) : K2 X (st :: rest) (NO ts us) := ⟨aP h1.h h2.h⟩
theorem vU (h1 : VW X st ts) : K2 X [st] ts := ⟨aV h1.h⟩
theorem xE {i : Nat} {x : Str} {pos' pos p3 : Pos} (hN : X.N.Nodup) (hi : X.N[i]? = some x) (hx : X.env.scope.names.lookup x = some .local) (he : y4 X (.List es pos) te) : VW X (.Assign [.Name x pos'] (.List es pos) p3) (tF te (nH i)) := ⟨IH hN hi hx he⟩
theorem boxed {body : List Stmt} {D : Ends} {σ : St} {H : Hp} (h : ∃ t, K2 X body t ∧ t D σ H) : ∃ t, z6 X body t ∧ t D σ H := let ⟨t, a, b⟩ := h; ⟨t, a.h, b⟩
end
end L2
namespace L2
open PySem PySem.Spec PyProof.Rows
section
variable {X : Cx} {pos : Pos} {k : Nat} {a b e : Expr} {es rest : List Expr} {te ta tb : TE} {t : Str → TE}
noncomputable def WK (K : PySem.W.Frag) : R2 := fun x y H Q => ∃ a b xs ys, x = .ref a ∧ y = .ref b ∧ jC K H a xs ∧ jC K H b ys ∧ (xs.length = ys.length → xs.all BJ = true ∧ ys.all BJ = true) ∧ Q (.bl (!DH xs ys)) H
theorem XT (K : PySem.W.Frag) (hr : fA k X.A) (hK : X.K = K := by rfl) : gZ X (compareOp .NotEq) (WK K) := by
 subst hK
 intro pins s σ H x y v u Q I rx ry h
 obtain ⟨a, b, xs, ys, rfl, rfl, ha, hb, hf, q⟩ := h
 cases rx
 cases ry
 obtain ⟨its, r1, p1, _⟩ := I.list ha
 obtain ⟨its2, r2, p2, _⟩ := I.list hb
 have l1 := r1.length
 have l2 := r2.length
 by_cases e : xs.length = ys.length
 ·obtain ⟨f1, f2⟩ := hf e
  refine SeqAt.RcNeAt.lists (e := fun j => wX ((xs[j]?).getD .aZ) ((ys[j]?).getD .aZ)) p1.isList p2.isList (by simp; omega) hr.GI (fun j h1 h2 => ?_) _ _ _ _ ?_
  ·have g1 : its[j]? = some (its.toArray[j]) := by simp at h1 ⊢
   have g2 : its2[j]? = some (its2.toArray[j]) := by simp at h2 ⊢
   obtain ⟨x, ex, rx⟩ := r1.get' g1
   obtain ⟨y, ey, ry⟩ := r2.get' g2
   rw [ex, ey]
   exact RH rx ry (List.all_eq_true.mp f1 _ (List.mem_of_getElem? ex)) (List.all_eq_true.mp f2 _ (List.mem_of_getElem? ey))
  ·have e1 : its.toArray.size = xs.length := by simp; omega
   rw [e1, rD e]
   exact ⟨.bl _, H, I, rfl, q⟩
 ·refine SeqAt.RcNeAt.lists_lengths p1.isList p2.isList (by simp; omega) hr.GI _ _ _ _ ?_
  rw [xO e] at q
  exact ⟨.bl true, H, I, rfl, q⟩
end
noncomputable def CM (H : Hp) (p g : Addr) : Prop := ∃ (xs : List Int) (s c : Int), H p = some (.lst [.ref g, .int s, .int c]) ∧ H g = some (.lst (xs.map V.int)) ∧ p ≠ g
noncomputable def Fr (p g : Addr) (H H' : Hp) : Prop := ∀ b o, H b = some o → b ≠ p → b ≠ g → H' b = some o
theorem Fr.refl {p g : Addr} {H : Hp} : Fr p g H H := fun _ _ h _ _ => h
theorem Fr.trans {p g : Addr} {H H1 H2 : Hp} (a : Fr p g H H1) (b : Fr p g H1 H2) : Fr p g H H2 := fun c o h n m => b c o (a c o h n m) n m
theorem Fr.of {p g : Addr} {H H1 : Hp} (a : bG H H1) : Fr p g H H1 := fun c o h _ _ => a c o h
theorem Fr.new {p g l : Addr} {H H1 : Hp} {o : HO} (f : Fr p g H H1) (n : H1 l = none) : Fr p g H (upd H1 l o) := f.trans (.of (bG.upd n))
theorem CM.same {H H' : Hp} {p g : Addr} (h : CM H p g) (s : bG H H') : CM H' p g := let ⟨xs, i, c, e1, e2, n⟩ := h; ⟨xs, i, c, s _ _ e1, s _ _ e2, n⟩
theorem CM.upd {H : Hp} {p g l : Addr} {o : HO} (h : CM H p g) (h1 : p ≠ l) (h2 : g ≠ l) : CM (upd H l o) p g := let ⟨xs, i, c, e1, e2, n⟩ := h; ⟨xs, i, c, by rw [bL h1]; exact e1, by rw [bL h2]; exact e2, n⟩
theorem CM.new {H : Hp} {p g l : Addr} {o : HO} (h : CM H p g) (n : H l = none) : CM (L2.upd H l o) p g := h.same (bG.upd n)
theorem CM.neg {H : Hp} {p g l : Addr} (h : CM H p g) (n : H l = none) : g ≠ l := let ⟨_, _, _, _, e, _⟩ := h; dM e n
theorem Fr.kp {H H' : Hp} {p g : Addr} (h : CM H p g) (h' : CM H' p g) (f : Fr p g H H') : Kp H H' := fun a o e => by
 obtain ⟨xs, s, c, e1, e2, n⟩ := h
 obtain ⟨xs', s', c', e1', e2', n'⟩ := h'
 by_cases z : a = p
 ·subst z
  rw [e1] at e; cases e
  exact .inr ⟨_, _, rfl, e1'⟩
 ·by_cases z2 : a = g
  ·subst z2
   rw [e2] at e; cases e
   exact .inr ⟨_, _, rfl, e2'⟩
  ·exact .inl (f a o e z z2)
section
variable {k : Nat} {dN : List Nat} {gg : TG} {tt : TT} {te : TE} {σ : St} {H : Hp} {Q : VK} {l : Addr}
end
section
variable {k : Nat} {dN : List Nat} {g : TG} {tt : TT} {te : TE} {σ : St} {H : Hp} {Q : VK} {l : Addr}
end
end L2
namespace L2
open PySem PySem.Spec PyProof.Rows
noncomputable def CB (A : Around) (s : Shared) (x y : Value) (c : Bool) : Prop :=
 ∀ (prog : Program) (w : World) (E : Value → Shared → Prop) (Q : Value → Shared → Prop), Q (.bool c) s → wpAny (model prog w) A (richCompare .Lt x y) Q E s
inductive xI (A : Around) (s : Shared) (fin : Bool) : List (Value × Value) → Bool → Prop
 | done : xI A s fin [] fin
 | same {p q : Value} {r : List (Value × Value)} {c : Bool} : SeqAt.EqAt A s p q true → xI A s fin r c → xI A s fin ((p, q) :: r) c
 | less {p q : Value} {r : List (Value × Value)} {c : Bool} : SeqAt.EqAt A s p q false → CB A s p q c → xI A s fin ((p, q) :: r) c
section
open PySem.SeqAt
open PySem.AutoSeq1 (wpAny_loadPart')
open PySem.MeetsSeq PySem.MeetsSeq2 PySem.MeetsSeq3
theorem OK (l b : Addr) (us vs : Array Value) (n m : Nat) (d1 d2 : Option Addr) (k1 k2 : Array (Option Value)) (c : Bool) :
  Meets (Builtin.«tuple.__lt__» ⟨[.ref l, .ref b], []⟩) (fun A R s => s.heap.get? l = some ⟨.type "tuple", d1, .seq us n, k1⟩ ∧ s.heap.get? b = some ⟨.type "tuple", d2, .seq vs m, k2⟩ ∧
   xI A.in1 s (decide (us.size < vs.size)) (us.toList.zip vs.toList) c ∧ R (.ok (.ret (.bool c))) s) :=
 .of_wp fun prog w A R s h => by
  obtain ⟨hp, gg, dd, tk, os⟩ := s
  obtain ⟨hl, hb, hx, hr⟩ := h
  have f2 := AutoSeq1.sub_tuple_tuple
  wp_walk using wpAny_loadPart' hl, wpAny_loadPart' hb, wpAny_forIn_list _ (fun rest acc s' => acc.1 = none ∧ s' = ⟨hp, gg, dd, tk, os⟩ ∧ xI A.in1 ⟨hp, gg, dd, tk, os⟩ (decide (us.size < vs.size)) rest c) _
  case turn =>
   rintro ⟨y, x⟩ rest acc s' ⟨ha, rfl, hx'⟩
   cases hx' with
   | same he hrest =>
    refine wpAny_bind (he prog w _ _ ?_)
    wp_walk
    exact ⟨rfl, rfl, hrest⟩
   | less he hlt =>
    refine wpAny_bind (he prog w _ _ ?_)
    have hq := hlt prog w
    wp_walk using hq
    exact ⟨_, rfl, by simpa using hr⟩
  case fin =>
   rintro ⟨b1, b2⟩ s' ⟨ha, rfl, hx'⟩
   simp only at ha
   subst ha
   cases hx'
   wp_walk
   exact ⟨_, rfl, by simpa [Builtin.Tuple.tupleCompareSizes] using hr⟩
  case h => exact ⟨rfl, rfl, hx⟩
end
theorem R4 {A : Around} {s : Shared} {l b : Addr} {us vs : Array Value} {c : Bool} (hl : IsTup s.heap l us) (hb : IsTup s.heap b vs) (hu : A.units < cLine) (hx : xI A.in1 s (decide (us.size < vs.size)) (us.toList.zip vs.toList) c) :
  CB A s (.ref l) (.ref b) c := by
 intro prog w E Q q
 obtain ⟨⟨c1, d1, t1, k1⟩, g1, e1, n, r1⟩ := id hl
 obtain ⟨⟨c2, d2, t2, k2⟩, g2, e2, m, r2⟩ := id hb
 simp only at e1 r1 e2 r2
 subst e1 r1 e2 r2
 exact richCompare_meets_room (op := .Lt) ⟨_, g1, rfl⟩ ⟨_, g2, rfl⟩ PySem.F.slot_tuple_lt PySem.F.entry_tuple_lt (PySem.F.args_tuple_lt_2 _ _) (OK l b us vs n m d1 d2 k1 k2 c) ⟨g1, g2, hx, (fun x => nomatch x), q⟩ hu
section
variable {X : Cx} {pins : List (Addr × Obj)} {σ : St} {H : Hp} {s : Shared}
end
section
open PySem.W
noncomputable def Al {α : Type} (n : Nat) (P : α → Prop) : KasT α → Prop
 | .ret a => P a
 | .ask i j k => i < n ∧ j < n ∧ ∀ b, Al n P (k b)
theorem Al.bind {α β : Type} {n : Nat} {P : α → Prop} {R : β → Prop} {f : α → KasT β} : ∀ {t : KasT α}, Al n P t → (∀ a, P a → Al n R (f a)) → Al n R (t.bind f)
 | .ret a, h, hf => hf a h
 | .ask _ _ _, h, hf => ⟨h.1, h.2.1, fun b => Al.bind (h.2.2 b) hf⟩
theorem Al.run {α : Type} {n : Nat} {P : α → Prop} {cmp : Nat → Nat → (Bool → Shared → Prop) → Shared → Prop} {G : α → Shared → Prop} {s : Shared}
  (hc : ∀ i j (C : Bool → Shared → Prop), i < n → j < n → (∀ b, C b s) → cmp i j C s) (hg : ∀ a, P a → G a s) : ∀ {t : KasT α}, Al n P t → t.kasWp cmp G s
 | .ret a, h => hg a h
 | .ask i j _, h => hc i j _ h.1 h.2.1 fun b => Al.run hc hg (h.2.2 b)
noncomputable def nE (n : Nat) (p : Array Nat) : Prop := p.Perm (List.toArray (List.range n))
theorem nE.lt {n : Nat} {p : Array Nat} (h0 : 0 < n) (h : nE n p) (i : Nat) : p.getD i 0 < n := by
 by_cases hi : i < p.size
 ·have e : p.getD i 0 = p[i] := by simp [Array.getD, hi]
  rw [e]
  have hm : p[i] ∈ p := Array.getElem_mem hi
  have := (h.mem_iff).mp hm
  simpa using this
 ·have e : p.getD i 0 = 0 := by simp [Array.getD, hi]
  omega
theorem nE.rev {n : Nat} {p : Array Nat} (h : nE n p) (i j : Nat) : nE n (kas_rev p i j) := (mirror_perm p i j ((j - i) / 2)).trans h
theorem nE.ZG {n : Nat} {p : Array Nat} (h : nE n p) (i j : Nat) : nE n (bubble p i j) := (bubble_perm p i j).trans h
theorem zW {n : Nat} {p : Array Nat} (h0 : 0 < n) (h : nE n p) : ∀ f m, Al n (fun _ => True) (kas_asc p f m)
 | 0, m => trivial
 | f + 1, m => ⟨h.lt h0 _, h.lt h0 _, fun b => by
  cases b with
  | true => exact trivial
  | false => exact zW h0 h f (m + 1)⟩
theorem qC {n : Nat} (h0 : 0 < n) : ∀ f (p : Array Nat) m q, nE n p → Al n (fun r : Array Nat × Nat × Nat => nE n r.1) (kas_desc f p m q)
 | 0, p, m, q, h => h
 | f + 1, p, m, q, h => ⟨h.lt h0 _, h.lt h0 _, fun b => by
  cases b with
  | true =>
   show Al n _ (if q > 0 then _ else _)
   split
   ·exact qC h0 f _ _ _ (h.rev _ _)
   ·exact qC h0 f _ _ _ h
  | false =>
   refine ⟨h.lt h0 _, h.lt h0 _, fun d => ?_⟩
   cases d with
   | true => exact h
   | false => exact qC h0 f _ _ _ h⟩
theorem yO {n : Nat} (h0 : 0 < n) {p : Array Nat} (h : nE n p) (m k : Nat) : Al n (fun r : Nat × Array Nat => nE n r.2) (kas_tail3 m k p) :=
 (zW h0 (h.rev 0 m) _ _).bind fun _ _ => h.rev 0 m
theorem pE {n : Nat} (h0 : 0 < n) {p : Array Nat} (h : nE n p) (m k : Nat) : Al n (fun r : Nat × Array Nat => nE n r.2) (kas_descPart m k p) := by
 refine (qC h0 _ _ _ _ h).bind fun r hr => ?_
 split
 ·exact yO h0 (hr.rev _ _) _ _
 ·exact yO h0 hr _ _
theorem HN {n : Nat} (h0 : 0 < n) {p : Array Nat} (h : nE n p) (k : Nat) : Al n (fun r : Nat × Array Nat => nE n r.2) (kas_count k p) := by
 refine (zW h0 h _ _).bind fun m _ => ?_
 split
 ·exact h
 ·split
  ·refine ⟨h.lt h0 _, h.lt h0 _, fun b => ?_⟩
   cases b with
   | true => exact h
   | false => exact pE h0 (h.rev _ _) _ _
  ·exact pE h0 h _ _
theorem rO {n : Nat} (h0 : 0 < n) {p : Array Nat} (h : nE n p) (k : Nat) : ∀ f l r, Al n (fun _ => True) (kas_place p k f l r)
 | 0, _, _ => trivial
 | f + 1, l, r => by
  unfold kas_place
  split
  ·exact trivial
  ·refine ⟨h.lt h0 _, h.lt h0 _, fun b => ?_⟩
   cases b with
   | true => exact rO h0 h k f _ _
   | false => exact rO h0 h k f _ _
theorem FD {n : Nat} (h0 : 0 < n) : ∀ f (p : Array Nat) k, nE n p → Al n (nE n) (kas_bin f p k)
 | 0, _, _, h => h
 | f + 1, p, k, h => (rO h0 h k _ _ _).bind fun l _ => FD h0 f _ _ (h.ZG _ _)
theorem KH {n : Nat} (h0 : 0 < n) : Al n (nE n) (kas_sort n) := by
 refine (HN h0 (show nE n _ from Array.Perm.refl _) n).bind fun r hr => ?_
 split
 ·exact FD h0 _ _ _ hr
 ·exact hr
theorem nE.perm {vs : List Value} {p : Array Nat} (h : nE vs.length p) : (p.toList.map fun i => vs.getD i Value.none).Perm vs := by
 have h1 : p.toList.Perm (List.range vs.length) := by simpa using Array.perm_iff_toList_perm.mp h
 have h2 := h1.map fun i => vs.getD i Value.none
 have e : (List.range vs.length).map (fun i => vs.getD i Value.none) = vs := by
  apply List.ext_getElem
  ·simp
  ·intro i a1 a2
   simp [List.getElem?_eq_getElem a2]
 rw [e] at h2
 exact h2
end
section
open PySem.W
variable {prog : Program} {w : World} {A : Around} {E : Value → Shared → Prop} {s : Shared}
end
section
open PySem.W
variable {X : Cx} {pins : List (Addr × Obj)} {σ : St} {H : Hp} {s : Shared} {k : Nat}
theorem Vals.perm {ys : List V} {us ws : List Value} (p : us.Perm ws) : ∀ {ys : List V}, Vals ys ws → ∃ zs, zs.Perm ys ∧ Vals zs us := by
 induction p with
 | nil => intro ys r; exact ⟨ys, .refl _, r⟩
 | cons x p ih =>
  intro ys r
  cases r with
  | cons r1 rr =>
   obtain ⟨zs, h1, h2⟩ := ih rr
   exact ⟨_ :: zs, h1.cons _, .cons r1 h2⟩
 | swap x y l =>
  intro ys r
  cases r with
  | cons r1 rr =>
   cases rr with
   | cons r2 r3 => exact ⟨_ :: _ :: _, .swap .., .cons r2 (.cons r1 r3)⟩
 | trans p1 p2 i1 i2 =>
  intro ys r
  obtain ⟨zs, h1, h2⟩ := i2 r
  obtain ⟨ws, h3, h4⟩ := i1 h2
  exact ⟨ws, h3.trans h1, h4⟩
noncomputable def Led (K : PySem.W.Frag) (H : Hp) (F : V → List V) (y : V) : Prop := ∃ a n us, y = .ref a ∧ F y = .str n :: us ∧ nD K H a (.str n :: us)
end
end L2
namespace HT
open PySem PySem.Spec PyProof.Rows
section
variable {prog : Program} {w : World} {A : Around} {E : Value → Shared → Prop} {s : Shared}
end
end HT
namespace L2
open PySem PySem.Spec PyProof.Rows
section
variable {X : Cx} {e st : Expr} {te ts : TE} {pos p2 : Pos}
end
end L2
namespace L2
open PySem PySem.Spec PyProof.Rows
section
variable {X : Cx}
end
end L2
namespace L2
open PySem PySem.Spec PyProof.Rows
noncomputable def pV : V → V → Bool
 | .str a, .str b => decide (a.cps.toList < b.cps.toList)
 | .int a, .int b => decide (a < b)
 | _, _ => false
noncomputable def tG (H : Hp) : Nat → V → V → Bool
 | 0, x, y => wX x y
 | n + 1, x, y => match iR H x, iR H y with
  | some xs, some ys => (List.range (min xs.length ys.length)).all (fun j => tG H n (xs.getD j .aZ) (ys.getD j .aZ)) && xs.length == ys.length
  | _, _ => wX x y
noncomputable def sM (fin : Bool) (eq lt : V → V → Bool) : List V → List V → Bool
 | x :: xs, y :: ys => if eq x y then sM fin eq lt xs ys else lt x y
 | _, _ => fin
noncomputable def BD (H : Hp) : Nat → V → V → Bool
 | 0, x, y => pV x y
 | n + 1, x, y => match iR H x, iR H y with
  | some xs, some ys => sM (decide (xs.length < ys.length)) (tG H n) (BD H n) xs ys
  | _, _ => pV x y
noncomputable def yJ (H : Hp) : Nat → V → V → Prop
 | 0, x, y => (∃ i j, x = .str i ∧ y = .str j) ∨ ∃ i j, x = .int i ∧ y = .int j
 | n + 1, x, y => ((∃ i j, x = .str i ∧ y = .str j) ∨ ∃ i j, x = .int i ∧ y = .int j) ∨ ∃ a b xs ys, x = .ref a ∧ y = .ref b ∧ H a = some (.tup xs) ∧ H b = some (.tup ys) ∧ ∀ (i : Nat) u v, xs[i]? = some u → ys[i]? = some v → yJ H n u v
theorem nG {H : Hp} {n : Nat} {x y : V} (h : (∃ i j, x = .str i ∧ y = .str j) ∨ ∃ i j, x = .int i ∧ y = .int j) : tG H n x y = wX x y ∧ BD H n x y = pV x y := by
 cases n with
 | zero => exact ⟨rfl, rfl⟩
 | succ n =>
  rcases h with ⟨i, j, rfl, rfl⟩ | ⟨i, j, rfl, rfl⟩ <;> exact ⟨rfl, rfl⟩
section
variable {X : Cx} {pins : List (Addr × Obj)} {σ : St} {H : Hp} {s : Shared} {k : Nat}
end
theorem yJ.kp {H H' : Hp} (s : Kp H H') : ∀ {n : Nat} {x y : V}, yJ H n x y → yJ H' n x y
 | 0, _, _, h => h
 | n + 1, _, _, .inl h => .inl h
 | n + 1, _, _, .inr ⟨a, b, xs, ys, e1, e2, ha, hb, k⟩ => .inr ⟨a, b, xs, ys, e1, e2, s.tup ha, s.tup hb, fun i u v h1 h2 => yJ.kp s (k i u v h1 h2)⟩
theorem D6 {α : Type} {f g : α → Bool} : ∀ {l : List α}, (∀ j ∈ l, f j = g j) → l.all f = l.all g
 | [], _ => rfl
 | a :: l, h => by rw [List.all_cons, List.all_cons, h a List.mem_cons_self, D6 fun j hj => h j (List.mem_cons_of_mem _ hj)]
theorem rG {fin : Bool} {eq lt eq' lt' : V → V → Bool} : ∀ {xs ys : List V}, (∀ (i : Nat) u v, xs[i]? = some u → ys[i]? = some v → eq' u v = eq u v ∧ lt' u v = lt u v) → sM fin eq' lt' xs ys = sM fin eq lt xs ys
 | [], _, _ => by unfold sM; rfl
 | _ :: _, [], _ => by unfold sM; rfl
 | x :: xs, y :: ys, h => by
  unfold sM
  rw [(h 0 x y rfl rfl).1, (h 0 x y rfl rfl).2, rG fun i u v a b => h (i + 1) u v a b]
theorem yJ.keeps {H H' : Hp} (s : Kp H H') : ∀ {n : Nat} {x y : V}, yJ H n x y → tG H' n x y = tG H n x y ∧ BD H' n x y = BD H n x y
 | 0, _, _, _ => ⟨rfl, rfl⟩
 | n + 1, x, y, h => by
  rcases h with h | ⟨a, b, xs, ys, rfl, rfl, ha, hb, k⟩
  ·rw [(nG h).1, (nG h).2, (nG h).1, (nG h).2]; exact ⟨rfl, rfl⟩
  ·have ih : ∀ (i : Nat) u v, xs[i]? = some u → ys[i]? = some v → tG H' n u v = tG H n u v ∧ BD H' n u v = BD H n u v := fun i u v h1 h2 => yJ.keeps s (k i u v h1 h2)
   constructor
   ·unfold tG
    rw [cO ha, cO hb, cO (s.tup ha), cO (s.tup hb)]
    show ((List.range (min xs.length ys.length)).all _ && xs.length == ys.length) = ((List.range (min xs.length ys.length)).all _ && xs.length == ys.length)
    congr 1
    refine D6 fun j hj => ?_
    have hj := List.mem_range.mp hj
    have h1 : j < xs.length := by omega
    have h2 : j < ys.length := by omega
    rw [List.getD_eq_getElem?_getD, List.getD_eq_getElem?_getD, List.getElem?_eq_getElem h1, List.getElem?_eq_getElem h2]
    exact (ih j _ _ (List.getElem?_eq_getElem h1) (List.getElem?_eq_getElem h2)).1
   ·unfold BD
    rw [cO ha, cO hb, cO (s.tup ha), cO (s.tup hb)]
    exact rG ih
end L2
namespace L2
open PySem PySem.Spec PyProof.Rows
section
open PySem.W
noncomputable def oR {α : Type} (ans : Nat → Nat → Bool) (P : α → Prop) : KasT α → Prop
 | .ret a => P a
 | .ask i j k => oR ans P (k (ans i j))
theorem oR.bind {α β : Type} {ans : Nat → Nat → Bool} {P : α → Prop} {R : β → Prop} {f : α → KasT β} : ∀ {t : KasT α}, oR ans P t → (∀ a, P a → oR ans R (f a)) → oR ans R (t.bind f)
 | .ret a, h, hf => hf a h
 | .ask i j k, h, hf => oR.bind (t := k (ans i j)) h hf
theorem oR.mono {α : Type} {ans : Nat → Nat → Bool} {P R : α → Prop} (hf : ∀ a, P a → R a) : ∀ {t : KasT α}, oR ans P t → oR ans R t
 | .ret a, h => hf a h
 | .ask i j k, h => oR.mono hf (t := k (ans i j)) h
theorem oR.run {α : Type} {n : Nat} {ans : Nat → Nat → Bool} {P R : α → Prop} {cmp : Nat → Nat → (Bool → Shared → Prop) → Shared → Prop} {G : α → Shared → Prop} {s : Shared}
  (hc : ∀ i j (C : Bool → Shared → Prop), i < n → j < n → C (ans i j) s → cmp i j C s) (hg : ∀ a, P a → R a → G a s) : ∀ {t : KasT α}, Al n P t → oR ans R t → t.kasWp cmp G s
 | .ret a, h, h' => hg a h h'
 | .ask i j _, h, h' => hc i j _ h.1 h.2.1 (oR.run hc hg (h.2.2 _) h')
variable (O : KeyOrd) (key : Nat → O.α)
noncomputable def Ky (p : Array Nat) (i : Nat) : O.α := key (p.getD i 0)
noncomputable def mI (p : Array Nat) (k : Nat) : Prop := ∀ i j, i ≤ j → j < k → O.kle (Ky O key p i) (Ky O key p j)
noncomputable def jT (p : Array Nat) (k : Nat) : Prop := ∀ i j, i ≤ j → j < k → O.kle (Ky O key p j) (Ky O key p i)
noncomputable abbrev B3 (i j : Nat) : Bool := O.blt (key i) (key j)
variable {O} {key}
theorem yR {p q : Array Nat} {i j : Nat} (h : p[i]? = q[j]?) : Ky O key p i = Ky O key q j := by
 unfold Ky
 rw [Array.getD_eq_getD_getElem?, Array.getD_eq_getD_getElem?, h]
theorem zD {p : Array Nat} {i j : Nat} (hj : j ≤ p.size) (k : Nat) : Ky O key (kas_rev p i j) k = if i ≤ k ∧ k < j then Ky O key p (i + j - 1 - k) else Ky O key p k := by
 have e := getElem?_mirror_all (xs := p) (i := i) hj k
 split
 ·rename_i h; rw [if_pos h] at e; exact yR e
 ·rename_i h; rw [if_neg h] at e; exact yR e
theorem i7 (p : Array Nat) (i j : Nat) : (kas_rev p i j).size = p.size := mirror_size ..
theorem wD {p : Array Nat} {i j : Nat} (hj : j ≤ p.size) (he : ∀ k, i ≤ k → k < j → Ky O key p k = Ky O key p (j - 1)) (k : Nat) : Ky O key (kas_rev p i j) k = Ky O key p k := by
 rw [zD hj]
 split
 ·rename_i h; rw [he _ (by omega) (by omega), he k h.1 h.2]
 ·rfl
theorem mI.more {p : Array Nat} {x : Nat} (h : mI O key p x) (hx : 1 ≤ x) (hl : O.kle (Ky O key p (x - 1)) (Ky O key p x)) : mI O key p (x + 1) := by
 intro i j hij hj
 by_cases h1 : j < x
 ·exact h i j hij h1
 ·have e : j = x := by omega
  subst e
  by_cases h2 : i = j
  ·subst h2; exact KeyOrd.kle_refl _
  ·exact KeyOrd.kle_trans (h i (j - 1) (by omega) (by omega)) hl
theorem jT.more {p : Array Nat} {x : Nat} (h : jT O key p x) (hx : 1 ≤ x) (hl : O.kle (Ky O key p x) (Ky O key p (x - 1))) : jT O key p (x + 1) := by
 intro i j hij hj
 by_cases h1 : j < x
 ·exact h i j hij h1
 ·have e : j = x := by omega
  subst e
  by_cases h2 : i = j
  ·subst h2; exact KeyOrd.kle_refl _
  ·exact KeyOrd.kle_trans hl (h i (j - 1) (by omega) (by omega))
theorem D4 {p : Array Nat} : ∀ (f m : Nat), 1 ≤ m → mI O key p m → oR (B3 O key) (fun r => m ≤ r ∧ r ≤ m + f ∧ mI O key p r ∧ (r = m + f ∨ O.klt (Ky O key p r) (Ky O key p (r - 1)))) (kas_asc p f m)
 | 0, m, _, h => ⟨Nat.le_refl _, Nat.le_refl _, h, .inl rfl⟩
 | f + 1, m, h1, h => by
  show oR (B3 O key) _ (if O.blt (Ky O key p m) (Ky O key p (m - 1)) = true then _ else _)
  cases e : O.blt (Ky O key p m) (Ky O key p (m - 1)) with
  | true =>
   rw [if_pos rfl]
   exact ⟨Nat.le_refl _, by omega, h, .inr e⟩
  | false =>
   rw [if_neg Bool.false_ne_true]
   refine (D4 f (m + 1) (by omega) (h.more h1 e)).mono fun r ⟨a, b, c, d⟩ => ⟨by omega, by omega, c, ?_⟩
   rcases d with d | d
   ·exact .inl (by omega)
   ·exact .inr d
noncomputable def QN (O : KeyOrd) (key : Nat → O.α) (p : Array Nat) (m q : Nat) : Prop := q + 1 ≤ m ∧ ∀ i, m - (q + 1) ≤ i → i < m → Ky O key p i = Ky O key p (m - 1)
theorem QN.none {p : Array Nat} {m : Nat} (h : 1 ≤ m) : QN O key p m 0 := ⟨by omega, fun i h1 h2 => by rw [show i = m - 1 by omega]⟩
theorem vY : ∀ (f : Nat) (p : Array Nat) (m q : Nat), 1 ≤ m → m + f ≤ p.size → jT O key p m → QN O key p m q → oR (B3 O key) (fun r : Array Nat × Nat × Nat => r.1.size = p.size ∧ m ≤ r.2.1 ∧ r.2.1 ≤ m + f ∧ jT O key r.1 r.2.1 ∧ QN O key r.1 r.2.1 r.2.2) (kas_desc f p m q)
 | 0, p, m, q, _, _, h, he => ⟨rfl, Nat.le_refl _, Nat.le_refl _, h, he⟩
 | f + 1, p, m, q, h1, hz, h, he => by
  show oR (B3 O key) _ (if O.blt (Ky O key p m) (Ky O key p (m - 1)) = true then (if q > 0 then kas_desc f (kas_rev p (m - (q + 1)) m) (m + 1) 0 else kas_desc f p (m + 1) 0) else _)
  cases e : O.blt (Ky O key p m) (Ky O key p (m - 1)) with
  | true =>
   rw [if_pos rfl]
   have hd := h.more h1 (KeyOrd.kle_of_klt e)
   split
   ·have ev : ∀ k, Ky O key (kas_rev p (m - (q + 1)) m) k = Ky O key p k := wD (by omega) he.2
    have hd' : jT O key (kas_rev p (m - (q + 1)) m) (m + 1) := fun i j a b => by rw [ev, ev]; exact hd i j a b
    refine (vY f _ (m + 1) 0 (by omega) (by rw [i7]; omega) hd' (QN.none (by omega))).mono fun r ⟨a, b, c, d, z⟩ => ⟨by rw [a, i7], by omega, by omega, d, z⟩
   ·exact (vY f p (m + 1) 0 (by omega) (by omega) hd (QN.none (by omega))).mono fun r ⟨a, b, c, d, z⟩ => ⟨a, by omega, by omega, d, z⟩
  | false =>
   rw [if_neg Bool.false_ne_true]
   show oR (B3 O key) _ (if O.blt (Ky O key p (m - 1)) (Ky O key p m) = true then _ else _)
   cases e2 : O.blt (Ky O key p (m - 1)) (Ky O key p m) with
   | true =>
    rw [if_pos rfl]
    exact ⟨rfl, Nat.le_refl _, Nat.le_add_right m (f + 1), h, he⟩
   | false =>
    rw [if_neg Bool.false_ne_true]
    have eq : Ky O key p m = Ky O key p (m - 1) := KeyOrd.kle_antisymm e2 e
    refine (vY f p (m + 1) (q + 1) (by omega) (by omega) (h.more h1 (by rw [eq]; exact KeyOrd.kle_refl _)) ⟨by have := he.1; omega, fun i a b => ?_⟩).mono fun r ⟨a, b, c, d, z⟩ => ⟨a, by omega, by omega, d, z⟩
    rw [show m + 1 - 1 = m by omega]
    by_cases hi : i = m
    ·rw [hi]
    ·rw [eq]; exact he.2 i (by omega) (by omega)
theorem A0 {p : Array Nat} {m k : Nat} (h1 : 1 ≤ m) (hk : m ≤ k) (hz : k ≤ p.size) (h : jT O key p m) : oR (B3 O key) (fun r : Nat × Array Nat => 1 ≤ r.1 ∧ r.1 ≤ k ∧ r.2.size = p.size ∧ mI O key r.2 r.1) (kas_tail3 m k p) := by
 have hu : mI O key (kas_rev p 0 m) m := fun i j a b => by
  rw [zD (by omega), zD (by omega), if_pos (by omega), if_pos (by omega)]
  exact h _ _ (by omega) (by omega)
 exact (D4 (k - m) m h1 hu).bind fun r ⟨a, b, c, _⟩ => ⟨by omega, by omega, i7 .., c⟩
theorem sP {p : Array Nat} {m k : Nat} (hk : m + 1 ≤ k) (hz : k ≤ p.size) (h : jT O key p (m + 1)) : oR (B3 O key) (fun r : Nat × Array Nat => 1 ≤ r.1 ∧ r.1 ≤ k ∧ r.2.size = p.size ∧ mI O key r.2 r.1) (kas_descPart m k p) := by
 refine (vY (k - (m + 1)) p (m + 1) 0 (by omega) (by omega) h (QN.none (by omega))).bind fun r ⟨a, b, c, d, z⟩ => ?_
 split
 ·have ev : ∀ i, Ky O key (kas_rev r.1 (r.2.1 - (r.2.2 + 1)) r.2.1) i = Ky O key r.1 i := wD (by omega) z.2
  refine (A0 (p := kas_rev r.1 (r.2.1 - (r.2.2 + 1)) r.2.1) (by omega) (by omega) (by rw [i7]; omega) fun i j x y => ?_).mono fun r' ⟨x, y, w, v⟩ => ⟨x, y, by rw [w, i7, a], v⟩
  rw [ev, ev]; exact d i j x y
 ·exact (A0 (by omega) (by omega) (by omega) d).mono fun r' ⟨x, y, w, v⟩ => ⟨x, y, by rw [w, a], v⟩
theorem MH {p : Array Nat} {k : Nat} (h1 : 1 ≤ k) (hz : k ≤ p.size) : oR (B3 O key) (fun r : Nat × Array Nat => 1 ≤ r.1 ∧ r.1 ≤ k ∧ r.2.size = p.size ∧ mI O key r.2 r.1) (kas_count k p) := by
 have u1 : mI O key p 1 := fun i j a b => by rw [show i = j by omega]; exact KeyOrd.kle_refl _
 refine (D4 (k - 1) 1 (Nat.le_refl _) u1).bind fun m ⟨a, b, c, d⟩ => ?_
 by_cases hm : m = k
 ·rw [if_pos (by simpa using hm)]
  exact ⟨a, by omega, rfl, c⟩
 ·rw [if_neg (by simpa using hm)]
  have lt : O.klt (Ky O key p m) (Ky O key p (m - 1)) := d.resolve_left (by omega)
  by_cases h2 : m > 1
  ·rw [if_pos h2]
   show oR (B3 O key) _ (if O.blt (Ky O key p 0) (Ky O key p (m - 1)) = true then _ else _)
   cases e : O.blt (Ky O key p 0) (Ky O key p (m - 1)) with
   | true =>
    rw [if_pos rfl]
    exact ⟨a, by omega, rfl, c⟩
   | false =>
    rw [if_neg Bool.false_ne_true]
    have al : ∀ i, 0 ≤ i → i < m → Ky O key p i = Ky O key p (m - 1) := fun i _ hi =>
     KeyOrd.kle_antisymm (c i (m - 1) (by omega) (by omega)) (KeyOrd.kle_trans e (c 0 i (by omega) hi))
    have ev : ∀ i, Ky O key (kas_rev p 0 m) i = Ky O key p i := wD (by omega) al
    have dm : jT O key p m := fun i j x y => by rw [al i (by omega) (by omega), al j (by omega) y]; exact KeyOrd.kle_refl _
    have dn := dm.more a (KeyOrd.kle_of_klt lt)
    refine (sP (p := kas_rev p 0 m) (by omega) (by rw [i7]; omega) fun i j x y => ?_).mono fun r' ⟨x, y, w, v⟩ => ⟨x, y, by rw [w, i7], v⟩
    rw [ev, ev]; exact dn i j x y
  ·rw [if_neg h2]
   have e1 : m = 1 := by omega
   subst e1
   have d1 : jT O key p 1 := fun i j x y => by rw [show i = j by omega]; exact KeyOrd.kle_refl _
   exact sP (by omega) hz (d1.more (Nat.le_refl _) (KeyOrd.kle_of_klt lt))
theorem wU {p : Array Nat} {k : Nat} (h : mI O key p k) : ∀ (f l r : Nat), l ≤ r → r ≤ k → r - l ≤ f → (∀ i, i < l → O.kle (Ky O key p i) (Ky O key p k)) → (∀ i, r ≤ i → i < k → O.klt (Ky O key p k) (Ky O key p i)) →
  oR (B3 O key) (fun l => l ≤ k ∧ (∀ i, i < l → O.kle (Ky O key p i) (Ky O key p k)) ∧ ∀ i, l ≤ i → i < k → O.klt (Ky O key p k) (Ky O key p i)) (kas_place p k f l r)
 | 0, l, r, h1, h2, h3, ha, hb => by
  have e : l = r := by omega
  subst e
  exact ⟨h2, ha, hb⟩
 | f + 1, l, r, h1, h2, h3, ha, hb => by
  unfold kas_place
  split
  ·have e : l = r := by omega
   subst e
   exact ⟨h2, ha, hb⟩
  ·show oR (B3 O key) _ (if O.blt (Ky O key p k) (Ky O key p ((l + r) / 2)) = true then _ else _)
   cases e : O.blt (Ky O key p k) (Ky O key p ((l + r) / 2)) with
   | true =>
    rw [if_pos rfl]
    exact wU h f l ((l + r) / 2) (by omega) (by omega) (by omega) ha fun i a b => KeyOrd.klt_of_klt_of_kle e (h _ _ a b)
   | false =>
    rw [if_neg Bool.false_ne_true]
    exact wU h f ((l + r) / 2 + 1) r (by omega) h2 (by omega) (fun i a => KeyOrd.kle_trans (h i ((l + r) / 2) (by omega) (by omega)) e) hb
theorem HP {p : Array Nat} {k d : Nat} (hk : k < p.size) (hd : d ≤ k) (i : Nat) : Ky O key (bubble p k d) i = if i = k - d then Ky O key p k else if k - d < i ∧ i ≤ k then Ky O key p (i - 1) else Ky O key p i := by
 have e := getElem?_bubble hk d hd i
 by_cases h1 : i = k - d
 ·rw [if_pos h1] at e ⊢; exact yR e
 ·rw [if_neg h1] at e ⊢
  by_cases h2 : k - d < i ∧ i ≤ k
  ·rw [if_pos h2] at e ⊢; exact yR e
  ·rw [if_neg h2] at e ⊢; exact yR e
theorem M4 : ∀ (f : Nat) (p : Array Nat) (k : Nat), k + f ≤ p.size → mI O key p k → oR (B3 O key) (fun q => mI O key q (k + f)) (kas_bin f p k)
 | 0, p, k, _, h => h
 | f + 1, p, k, hz, h => by
  refine (wU h k 0 k (by omega) (Nat.le_refl _) (by omega) (fun i hi => by omega) (fun i a b => by omega)).bind fun l ⟨hl, ha, hb⟩ => ?_
  have hu : mI O key (bubble p k (k - l)) (k + 1) := fun i j x y => by
   rw [HP (by omega) (by omega), HP (by omega) (by omega), show k - (k - l) = l by omega]
   by_cases j1 : j = l
   ·rw [if_pos j1]
    by_cases i1 : i = l
    ·rw [if_pos i1]; exact KeyOrd.kle_refl _
    ·rw [if_neg i1, if_neg (show ¬ (l < i ∧ i ≤ k) by omega)]; exact ha i (by omega)
   ·rw [if_neg j1]
    by_cases j2 : l < j
    ·rw [if_pos (show l < j ∧ j ≤ k from ⟨j2, by omega⟩)]
     by_cases i1 : i = l
     ·rw [if_pos i1]; exact KeyOrd.kle_of_klt (hb (j - 1) (by omega) (by omega))
     ·rw [if_neg i1]
      by_cases i2 : l < i
      ·rw [if_pos (show l < i ∧ i ≤ k from ⟨i2, by omega⟩)]; exact h _ _ (by omega) (by omega)
      ·rw [if_neg (show ¬ (l < i ∧ i ≤ k) by omega)]; exact h _ _ (by omega) (by omega)
    ·rw [if_neg (show ¬ (l < j ∧ j ≤ k) by omega), if_neg (show ¬ i = l by omega), if_neg (show ¬ (l < i ∧ i ≤ k) by omega)]; exact h _ _ x (by omega)
  have := M4 f (bubble p k (k - l)) (k + 1) (by rw [bubble_size]; omega) hu
  rw [show k + 1 + f = k + (f + 1) by omega] at this
  exact this
theorem O5 {n : Nat} (h1 : 1 ≤ n) : oR (B3 O key) (fun q => mI O key q n) (kas_sort n) := by
 have hs : (List.toArray (List.range n)).size = n := by simp
 refine (MH h1 (p := List.toArray (List.range n)) (by rw [hs]; exact Nat.le_refl _)).bind fun r ⟨a, b, c, d⟩ => ?_
 rw [hs] at c
 split
 ·have := M4 (n - max r.1 1) r.2 (max r.1 1) (by omega) (by rw [show max r.1 1 = r.1 by omega]; exact d)
  rw [show max r.1 1 + (n - max r.1 1) = n by omega] at this
  exact this
 ·have e : r.1 = n := by omega
  rw [e] at d
  exact d
end
end L2
namespace L2
open PySem PySem.Spec PyProof.Rows
section
open PySem.W
variable {prog : Program} {w : World} {A : Around} {E : Value → Shared → Prop} {s : Shared}
theorem CT (vs : List Value) : (List.range vs.length).map (fun i => vs.getD i Value.none) = vs := by
 apply List.ext_getElem
 ·simp
 ·intro i a1 a2
  simp [List.getElem?_eq_getElem a2]
noncomputable def D2 (prog : Program) (w : World) (A : Around) (vs : List Value) (R : Array Nat → Prop) (s : Shared) : Prop :=
 ∃ κ : SortKind, (∀ (Q : SortKind → Shared → Prop) (E : Value → Shared → Prop), Q κ s → wpAny (model prog w) A (keyKind' vs.toArray) Q E s) ∧
  ∀ G : Array Nat → Shared → Prop, (∀ p, nE vs.length p → R p → G p s) → (kas_sort vs.length).kasWp (kas_ask prog w A κ vs) G s
theorem DO {R : Array Nat → Prop} {a : Addr} {vs : List Value} {n : Nat} {P : PySem.Fin → Shared → Prop} (ho : s.heap.get? a = some (seqObj "list" vs.toArray n)) (h64 : vs.length < 64)
  (hk : 2 ≤ vs.length → ∀ h' : Heap, (∀ b o, b ≠ a → s.heap.get? b = some o → h'.get? b = some o) → D2 prog w A vs R { s with heap := h' }) (hR : vs.length < 2 → R (List.range vs.length).toArray)
  (h : ∀ (out : Array Value) (p : Array Nat), nE vs.length p → R p → out.toList = p.toList.map (fun i => vs.getD i Value.none) → P (.done (.ret .none)) { s with heap := sortedHeap s.heap a vs out }) : wpAny (model prog w) A (Builtin.«list.sort» ⟨[.ref a], []⟩) P E s := by
 have la : a < s.heap.objs.size := Heap.lt_size ho
 have small : vs.length ≤ sizeLine := by rw [sizeLine_eq]; omega
 obtain ⟨e1, k1⟩ : ∃ e1, (s.heap.update a (Obj.mapSeq fun _ => (#[] : Array Value))).get? a = some (seqObj "list" #[] e1) := ⟨_, get?_update_seq ho fun _ => #[]⟩
 generalize hU : s.heap.update a (Obj.mapSeq fun _ => (#[] : Array Value)) = U at k1
 have zU : U.objs.size = s.heap.objs.size := by rw [← hU]; exact Heap.size_update ..
 have kp : ∀ b o, b ≠ a → s.heap.get? b = some o → ((U.push (seqObj "tuple" vs.toArray 0)).push (seqObj "list" #[] 0)).get? b = some o := fun b o nb gb => by
  refine Heap.get?_push_of_some _ (Heap.get?_push_of_some _ ?_)
  rw [← hU, Heap.get?_update_ne _ _ _ _ nb]; exact gb
 have k2 : ((U.push (seqObj "tuple" vs.toArray 0)).push (seqObj "list" #[] 0)).get? a = some (seqObj "list" #[] e1) := Heap.get?_push_of_some _ (Heap.get?_push_of_some _ k1)
 rw [list_sort_plain]
 refine wpAny_bind (listItems_at ho rfl (wpAny_bind (listUpdate_at ho rfl ?_ (by simpa using small) (Nat.zero_le _))))
 have k1' := k1
 rw [← hU] at k1'
 refine wpAny_bind (seqEpoch_at k1' rfl (wpAny_bind (wpAny_newTuple (wpAny_bind (wpAny_newList (wpAny_holding ?_) (Nat.zero_le _))) (by simpa using small))))
 rw [hU]
 show wpAny (model prog w) A _ P E { s with heap := (U.push (seqObj "tuple" vs.toArray 0)).push (seqObj "list" #[] 0) }
 have fin : ∀ (out : Array Value) (p : Array Nat), nE vs.length p → R p → out.toList = p.toList.map (fun i => vs.getD i Value.none) → P (.done (.ret .none)) { s with heap := ((U.push (seqObj "tuple" vs.toArray 0)).push (seqObj "list" #[] 0)).update a (Obj.mapSeq fun _ => out) } := fun out p h1 h2 h3 => by
  have := h out p h1 h2 h3
  unfold sortedHeap at this
  rw [hU] at this
  exact this
 dsimp only
 by_cases h2 : vs.toArray.size < 2
 ·rw [if_pos h2, if_pos h2]
  refine wpAny_bind (wpAny_pure ?_)
  rw [StateT.run_pure]
  refine wpAny_bind (wpAny_pure ?_)
  dsimp only
  have ev : ((vs.toArray.zip vs.toArray).map fun x => x.2).toList = vs := by simp [List.map_snd_zip]
  refine wpAny_bind (seqEpoch_at k2 rfl (wpAny_bind (listUpdate_at k2 rfl ?_ (Nat.zero_le _) ?_)))
  ·simp only [bne_self_eq_false, Bool.false_eq_true, if_false]
   exact wpAny_pure (fin _ (List.range vs.length).toArray (Array.Perm.refl _) (hR (by rw [List.size_toArray] at h2; exact h2)) (by rw [show (arrOf (SortSt.mk' general' (vs.toArray.zip vs.toArray) #[] 7 none)) = vs.toArray.zip vs.toArray from rfl, ev, List.toList_toArray, CT]))
  ·rw [← Array.length_toList, show (arrOf (SortSt.mk' general' (vs.toArray.zip vs.toArray) #[] 7 none)) = vs.toArray.zip vs.toArray from rfl, ev]; exact Nat.le_succ_of_le small
 ·rw [if_neg h2, if_neg h2]
  have l2 : 2 ≤ vs.length := by rw [List.size_toArray] at h2; omega
  obtain ⟨κ, kd, ak⟩ := hk l2 _ kp
  refine wpAny_bind (kd _ _ ?_)
  refine wpAny_bind (wpAny_mono (kat_run (ks := vs) (vs := vs) (Q := fun st' s' => s' = { s with heap := (U.push (seqObj "tuple" vs.toArray 0)).push (seqObj "list" #[] 0) } ∧ ∃ p : Array Nat, (nE vs.length p ∧ R p) ∧ arrOf st' = p.map (kas_item (vs.toArray.zip vs.toArray)) ∧ failedOf st' = none)
   (G := fun p s' => s' = { s with heap := (U.push (seqObj "tuple" vs.toArray 0)).push (seqObj "list" #[] 0) } ∧ nE vs.length p ∧ R p) rfl l2 h64 (fun p st' s' _ ar fl g => ⟨g.1, p, g.2, ar, fl⟩) (ak _ fun p h1 h2 => ⟨rfl, h1, h2⟩)) ?_ fun _ _ e => e)
  rintro ⟨⟨⟩, st'⟩ s' ⟨rfl, p, ⟨hp, hr⟩, ar, fl⟩
  dsimp only
  have out := kat_snds rfl ar
  have pm := hp.perm
  rw [out]
  refine wpAny_bind (seqEpoch_at k2 rfl (wpAny_bind (listUpdate_at k2 rfl ?_ (Nat.zero_le _) ?_)))
  ·rw [fl]
   simp only [bne_self_eq_false, Bool.false_eq_true, if_false]
   exact wpAny_pure (fin _ p hp hr (by simp))
  ·rw [List.size_toArray, pm.length_eq]; exact Nat.le_succ_of_le small
end
end L2
namespace L2
open PySem PySem.Spec PyProof.Rows
section
open PySem.W
variable {X : Cx} {pins : List (Addr × Obj)} {σ : St} {H : Hp} {s : Shared} {k : Nat}
noncomputable def S7 (H : Hp) (y : V) : Prop := ∃ a n us, y = .ref a ∧ H a = some (.tup (.str n :: us))
theorem S7.led {K : PySem.W.Frag} {y : V} (h : S7 H y) : Led K H (fun v => (iR H v).getD []) y := by
 obtain ⟨a, n, us, rfl, e⟩ := h
 exact ⟨a, n, us, rfl, by dsimp only; rw [cO e]; rfl, nD.of e⟩
end
end L2
namespace L2
open PySem PySem.Spec PyProof.Rows
noncomputable def p4 : KeyOrd where
 α := Int
 blt a b := decide (a < b)
 irrefl a := decide_eq_false (by omega)
 trans a b c h1 h2 := decide_eq_true (by have := of_decide_eq_true h1; have := of_decide_eq_true h2; omega)
 negTrans a b c h := by
  have h := of_decide_eq_true h
  by_cases g : a < b
  ·exact .inl (decide_eq_true g)
  ·exact .inr (decide_eq_true (by omega))
 total a b h1 h2 := by have := of_decide_eq_false h1; have := of_decide_eq_false h2; omega
theorem BP {A : KeyOrd} {a b : A.α} (h : A.blt a b = true) : A.blt b a = false := KeyOrd.klt_asymm (O := A) h
theorem fG {A : KeyOrd} (a b : A.α) : (A.blt a b = true ∧ A.blt b a = false) ∨ (A.blt b a = true ∧ A.blt a b = false) ∨ (a = b) := by
 cases h1 : A.blt a b with
 | true => exact .inl ⟨rfl, BP h1⟩
 | false =>
  cases h2 : A.blt b a with
  | true => exact .inr (.inl ⟨rfl, rfl⟩)
  | false => exact .inr (.inr (A.total a b h1 h2))
noncomputable def e9 (A : KeyOrd) (a b : A.α) (r : Bool) : Bool := A.blt a b || (!A.blt b a && r)
theorem eU {A : KeyOrd} {a b : A.α} {r : Bool} (h : A.blt a b = true) : e9 A a b r = true := by unfold e9; rw [h]; rfl
theorem iF {A : KeyOrd} {a b : A.α} {r : Bool} (h : A.blt b a = true) : e9 A a b r = false := by unfold e9; rw [h, BP h]; rfl
theorem fD {A : KeyOrd} {a : A.α} {r : Bool} : e9 A a a r = r := by unfold e9; rw [A.irrefl]; rfl
theorem pP {A : KeyOrd} {a b c : A.α} {r r' r'' : Bool} (hr : r = true → r' = true → r'' = true) (h1 : e9 A a b r = true) (h2 : e9 A b c r' = true) : e9 A a c r'' = true := by
 rcases fG (A := A) a b with ⟨x, _⟩ | ⟨x, _⟩ | x
 ·rcases fG (A := A) b c with ⟨y, _⟩ | ⟨y, _⟩ | y
  ·exact eU (A.trans _ _ _ x y)
  ·rw [iF y] at h2; cases h2
  ·rw [← y]; exact eU x
 ·rw [iF x] at h1; cases h1
 ·subst x
  rw [fD] at h1
  rcases fG (A := A) a c with ⟨y, _⟩ | ⟨y, _⟩ | y
  ·exact eU y
  ·rw [iF y] at h2; cases h2
  ·subst y
   rw [fD] at h2 ⊢
   exact hr h1 h2
theorem tZ {A : KeyOrd} {a b c : A.α} {r r' r'' : Bool} (hr : r'' = true → r = true ∨ r' = true) (h : e9 A a c r'' = true) : e9 A a b r = true ∨ e9 A b c r' = true := by
 rcases fG (A := A) a b with ⟨x, _⟩ | ⟨x, _⟩ | x
 ·exact .inl (eU x)
 ·right
  rcases fG (A := A) a c with ⟨y, _⟩ | ⟨y, _⟩ | y
  ·exact eU (A.trans _ _ _ x y)
  ·rw [iF y] at h; cases h
  ·rw [← y]; exact eU x
 ·subst x
  rcases fG (A := A) a c with ⟨y, _⟩ | ⟨y, _⟩ | y
  ·exact .inr (eU y)
  ·rw [iF y] at h; cases h
  ·subst y
   rw [fD] at h ⊢
   rw [fD]
   exact hr h
theorem pL {A : KeyOrd} {a b : A.α} {r r' : Bool} (h1 : e9 A a b r = false) (h2 : e9 A b a r' = false) : a = b ∧ r = false ∧ r' = false := by
 rcases fG (A := A) a b with ⟨x, _⟩ | ⟨x, _⟩ | x
 ·rw [eU x] at h1; cases h1
 ·rw [eU x] at h2; cases h2
 ·subst x
  rw [fD] at h1 h2
  exact ⟨rfl, h1, h2⟩
noncomputable def IK (A B : KeyOrd) : KeyOrd where
 α := A.α × B.α
 blt x y := e9 A x.1 y.1 (B.blt x.2 y.2)
 irrefl a := by rw [fD]; exact B.irrefl _
 trans a b c h1 h2 := pP (fun x y => B.trans _ _ _ x y) h1 h2
 negTrans a b c h := tZ (fun x => B.negTrans _ b.2 _ x) h
 total a b h1 h2 := by
  obtain ⟨x, y, z⟩ := pL h1 h2
  exact Prod.ext x (B.total _ _ y z)
noncomputable def iE (A : KeyOrd) : List A.α → List A.α → Bool
 | [], [] => false
 | [], _ :: _ => true
 | _ :: _, [] => false
 | x :: xs, y :: ys => e9 A x y (iE A xs ys)
theorem oX {A : KeyOrd} : ∀ xs : List A.α, iE A xs xs = false
 | [] => rfl
 | x :: xs => by unfold iE; rw [fD]; exact oX xs
theorem pF {A : KeyOrd} : ∀ xs ys zs : List A.α, iE A xs ys = true → iE A ys zs = true → iE A xs zs = true
 | [], [], _, h, _ => by cases h
 | [], _ :: _, [], _, h => by cases h
 | [], _ :: _, _ :: _, _, _ => rfl
 | _ :: _, [], _, h, _ => by cases h
 | _ :: _, _ :: _, [], _, h => by cases h
 | x :: xs, y :: ys, z :: zs, h1, h2 => pP (pF xs ys zs) h1 h2
theorem uJ {A : KeyOrd} : ∀ xs ys zs : List A.α, iE A xs zs = true → iE A xs ys = true ∨ iE A ys zs = true
 | [], [], zs, h => .inr h
 | [], _ :: _, _, _ => .inl rfl
 | _ :: _, _, [], h => by cases h
 | _ :: _, [], _ :: _, _ => .inr rfl
 | x :: xs, y :: ys, z :: zs, h => tZ (uJ xs ys zs) h
theorem pK {A : KeyOrd} : ∀ xs ys : List A.α, iE A xs ys = false → iE A ys xs = false → xs = ys
 | [], [], _, _ => rfl
 | [], _ :: _, h, _ => by cases h
 | _ :: _, [], _, h => by cases h
 | x :: xs, y :: ys, h1, h2 => by
  obtain ⟨a, b, c⟩ := pL h1 h2
  rw [a, pK xs ys b c]
noncomputable def M9 (A : KeyOrd) : KeyOrd := ⟨List A.α, iE A, oX, pF, uJ, pK⟩
noncomputable def OL : KeyOrd := IK strKind.toKeyOrd (IK p4 (IK strKind.toKeyOrd (M9 strKind.toKeyOrd)))
end L2
namespace L2
open PySem PySem.Spec PyProof.Rows
noncomputable abbrev vK : KeyOrd := strKind.toKeyOrd
theorem mC {a b : Str} (h : a.cps.toList = b.cps.toList) : a = b := by
 cases a with
 | mk x =>
  cases b with
  | mk y => congr 1; exact Array.toList_inj.mp h
theorem rZ {n m : Str} {R : Bool} : (if wX (.str n) (.str m) = true then R else pV (.str n) (.str m)) = e9 vK n.cps.toList m.cps.toList R := by
 show (if (n == m) = true then R else decide (n.cps.toList < m.cps.toList)) = _
 by_cases e : n = m
 ·subst e
  rw [if_pos (beq_self_eq_true n), fD]
 ·rw [if_neg (by simpa using e)]
  rcases fG (A := vK) n.cps.toList m.cps.toList with ⟨x, _⟩ | ⟨x, y⟩ | x
  ·rw [eU x]; exact x
  ·rw [iF x]; exact y
  ·exact absurd (mC x) e
theorem HL {n m : Int} {R : Bool} : (if wX (.int n) (.int m) = true then R else pV (.int n) (.int m)) = e9 p4 n m R := by
 show (if (n == m) = true then R else decide (n < m)) = _
 by_cases e : n = m
 ·subst e
  rw [if_pos (beq_self_eq_true n)]
  exact (fD (A := p4) (a := n)).symm
 ·rw [if_neg (by simpa using e)]
  rcases fG (A := p4) n m with ⟨x, _⟩ | ⟨x, y⟩ | x
  ·rw [eU x]; exact x
  ·rw [iF x]; exact y
  ·exact absurd x e
theorem xF {fin : Bool} : ∀ (rs qs : List Str), fin = decide (rs.length < qs.length) → sM fin wX pV (rs.map V.str) (qs.map V.str) = iE vK (rs.map fun x => x.cps.toList) (qs.map fun x => x.cps.toList)
 | [], [], h => by rw [h]; rfl
 | [], _ :: _, h => by rw [h]; exact decide_eq_true (by simp)
 | _ :: _, [], h => by rw [h]; exact decide_eq_false (by simp)
 | r :: rs, q :: qs, h => by
  show (if wX (.str r) (.str q) = true then sM fin wX pV (rs.map V.str) (qs.map V.str) else pV (.str r) (.str q)) = e9 vK r.cps.toList q.cps.toList (iE vK (rs.map fun x => x.cps.toList) (qs.map fun x => x.cps.toList))
  rw [rZ, xF rs qs (by rw [h]; simp)]
theorem BF : ∀ {rs qs : List Str}, rs.map (fun x => x.cps.toList) = qs.map (fun x => x.cps.toList) → rs = qs
 | [], [], _ => rfl
 | [], _ :: _, h => by cases h
 | _ :: _, [], h => by cases h
 | r :: rs, q :: qs, h => by
  rw [List.map_cons, List.map_cons] at h
  injection h with h1 h2
  rw [mC h1, BF h2]
theorem BM {H : Hp} {a b : Addr} {rs qs : List Str} (ha : H a = some (.tup (rs.map V.str))) (hb : H b = some (.tup (qs.map V.str))) : tG H 1 (.ref a) (.ref b) = decide (rs = qs) := by
 unfold tG
 rw [cO ha, cO hb]
 show ((List.range (min (rs.map V.str).length (qs.map V.str).length)).all (fun j => wX ((rs.map V.str).getD j .aZ) ((qs.map V.str).getD j .aZ)) && (rs.map V.str).length == (qs.map V.str).length) = _
 rw [List.length_map, List.length_map]
 by_cases e : rs = qs
 ·subst e
  rw [decide_eq_true rfl, beq_self_eq_true, Bool.and_true, Nat.min_self]
  refine List.all_eq_true.mpr fun j hj => ?_
  have hj := List.mem_range.mp hj
  have g : (rs.map V.str).getD j .aZ = .str rs[j] := by rw [List.getD_eq_getElem?_getD, List.getElem?_map, List.getElem?_eq_getElem hj]; rfl
  rw [g]
  exact beq_self_eq_true rs[j]
 ·rw [decide_eq_false e]
  by_cases hl : rs.length = qs.length
  ·rw [hl, beq_self_eq_true, Bool.and_true, Nat.min_self]
   cases hh : (List.range qs.length).all (fun j => wX ((rs.map V.str).getD j .aZ) ((qs.map V.str).getD j .aZ)) with
   | false => rfl
   | true =>
    refine absurd (List.ext_getElem hl fun j h1 h2 => ?_) e
    have h := List.all_eq_true.mp hh j (List.mem_range.mpr h2)
    have g1 : (rs.map V.str).getD j .aZ = .str rs[j] := by rw [List.getD_eq_getElem?_getD, List.getElem?_map, List.getElem?_eq_getElem h1]; rfl
    have g2 : (qs.map V.str).getD j .aZ = .str qs[j] := by rw [List.getD_eq_getElem?_getD, List.getElem?_map, List.getElem?_eq_getElem h2]; rfl
    rw [g1, g2] at h
    exact eq_of_beq (show (rs[j] == qs[j]) = true from h)
  ·rw [show (rs.length == qs.length) = false by simpa using hl, Bool.and_false]
noncomputable def yK (n : Str) (d : Int) (h : Str) (rs : List Str) : OL.α := (n.cps.toList, d, h.cps.toList, rs.map fun x => x.cps.toList)
theorem FL {n n' : Str} {d d' : Int} {h h' : Str} {rs rs' : List Str} (e : yK n d h rs = yK n' d' h' rs') : n = n' ∧ d = d' ∧ h = h' ∧ rs = rs' := by
 have e1 := congrArg Prod.fst e
 have e2 := congrArg (fun z => z.2.1) e
 have e3 := congrArg (fun z => z.2.2.1) e
 have e4 := congrArg (fun z => z.2.2.2) e
 exact ⟨mC e1, e2, mC e3, BF e4⟩
structure pH (H : Hp) (v : V) (n : Str) (d : Int) (h : Str) (rs : List Str) : Prop where
 at' : ∃ a r, v = .ref a ∧ H a = some (.tup [.str n, .int d, .str h, .ref r]) ∧ H r = some (.tup (rs.map V.str))
theorem pH.lt {H : Hp} {v v' : V} {n n' : Str} {d d' : Int} {h h' : Str} {rs rs' : List Str} (x : pH H v n d h rs) (y : pH H v' n' d' h' rs') :
  BD H 2 v v' = OL.blt (yK n d h rs) (yK n' d' h' rs') := by
 obtain ⟨a, r, rfl, ha, hr⟩ := x.at'
 obtain ⟨b, q, rfl, hb, hq⟩ := y.at'
 have e : BD H 2 (.ref a) (.ref b) = sM (decide (4 < 4)) (tG H 1) (BD H 1) [.str n, .int d, .str h, .ref r] [.str n', .int d', .str h', .ref q] := by
  conv => lhs; unfold BD
  rw [cO ha, cO hb]
  rfl
 rw [e]
 have er : BD H 1 (.ref r) (.ref q) = iE vK (rs.map fun x => x.cps.toList) (rs'.map fun x => x.cps.toList) := by
  unfold BD
  rw [cO hr, cO hq]
  show sM (decide ((rs.map V.str).length < (rs'.map V.str).length)) wX pV (rs.map V.str) (rs'.map V.str) = _
  exact xF rs rs' (by rw [List.length_map, List.length_map])
 show (if wX (.str n) (.str n') = true then (if wX (.int d) (.int d') = true then (if wX (.str h) (.str h') = true then (if tG H 1 (.ref r) (.ref q) = true then decide (4 < 4) else BD H 1 (.ref r) (.ref q)) else pV (.str h) (.str h')) else pV (.int d) (.int d')) else pV (.str n) (.str n')) =
  e9 vK n.cps.toList n'.cps.toList (e9 p4 d d' (e9 vK h.cps.toList h'.cps.toList (iE vK (rs.map fun x => x.cps.toList) (rs'.map fun x => x.cps.toList))))
 rw [rZ, HL, rZ]
 congr 3
 rw [BM hr hq, er]
 by_cases e : rs = rs'
 ·subst e
  rw [decide_eq_true rfl, if_pos rfl, oX]
  rfl
 ·rw [decide_eq_false e, if_neg Bool.false_ne_true]
theorem pH.eq {H : Hp} {v v' : V} {n n' : Str} {d d' : Int} {h h' : Str} {rs rs' : List Str} (x : pH H v n d h rs) (y : pH H v' n' d' h' rs') (hk : tG H 2 v v' = false) :
  yK n d h rs ≠ yK n' d' h' rs' := by
 intro e
 obtain ⟨rfl, rfl, rfl, rfl⟩ := FL e
 obtain ⟨a, r, rfl, ha, hr⟩ := x.at'
 obtain ⟨b, q, rfl, hb, hq⟩ := y.at'
 unfold tG at hk
 rw [cO ha, cO hb] at hk
 have h2 : ((tG H 1 (.str n) (.str n) && (tG H 1 (.int d) (.int d) && (tG H 1 (.str h) (.str h) && (tG H 1 (.ref r) (.ref q) && true)))) && (4 == 4)) = false := hk
 have e1 : tG H 1 (.str n) (.str n) = true := beq_self_eq_true n
 have e2 : tG H 1 (.int d) (.int d) = true := beq_self_eq_true d
 have e3 : tG H 1 (.str h) (.str h) = true := beq_self_eq_true h
 rw [e1, e2, e3, BM hr hq, decide_eq_true rfl] at h2
 cases h2
section
variable {X : Cx} {pins : List (Addr × Obj)} {σ : St} {H : Hp} {s : Shared} {k : Nat}
end
noncomputable def YX (H : Hp) (v : V) : OL.α := match iR H v with
 | some [.str n, .int d, .str h, .ref r] => (n.cps.toList, d, h.cps.toList, ((iR H (.ref r)).getD []).map fun z => match z with | .str x => x.cps.toList | _ => [])
 | _ => ([], (0 : Int), [], [])
theorem pH.key {H : Hp} {v : V} {n : Str} {d : Int} {h : Str} {rs : List Str} (x : pH H v n d h rs) : YX H v = yK n d h rs := by
 obtain ⟨a, r, rfl, ha, hr⟩ := x.at'
 unfold YX yK
 rw [cO ha]
 dsimp only
 rw [cO hr]
 show (_, _, _, ((rs.map V.str).map _)) = _
 rw [List.map_map]
 rfl
end L2
namespace Mr
open PySem L2
inductive PV where
 | aZ | bl (b : Bool) | int (i : Int) | str (x : Str) | ty (n : String)
 | tup (xs : List PV) | lst (xs : List PV) | cC (kvs : List (Key × PV))
noncomputable abbrev aO := Addr → Prop
noncomputable def bM (A B : aO) : aO := fun a => A a ∨ B a
noncomputable def one (l : Addr) : aO := fun a => a = l
noncomputable def eB : aO := fun _ => False
structure WS where
 w : Nat → aO
 old : aO
instance : CoeFun WS (fun _ => Nat → aO) := ⟨WS.w⟩
noncomputable def aw (W : WS) : aO := fun a => ∃ i, W i a
noncomputable def TupAt (K : PySem.W.Frag) (H : Hp) (a : Addr) (xs : List V) : Prop := H a = some (.tup xs) ∨
  ∃ (o : Obj) (its : Array Value) (n : Nat), K.lookup a = some o ∧ o.cls = .type "tuple" ∧ o.data = .seq its n ∧ its.size ≤ sizeLine ∧ Vals xs its.toList
noncomputable def RQ (K : PySem.W.Frag) (a : Addr) (xs : List V) : Prop :=
  ∃ (o : Obj) (its : Array Value) (n : Nat), K.lookup a = some o ∧ o.cls = .type "list" ∧ o.dict = none ∧ o.data = .seq its n ∧ its.size ≤ sizeLine ∧ Vals xs its.toList
theorem TupAt.sq {K : PySem.W.Frag} {H : Hp} {a : Addr} {xs : List V} (h : TupAt K H a xs) : nD K H a xs := h.elim nD.of .inr
mutual
inductive Rep (K : PySem.W.Frag) (Z : aO) (H : Hp) : PV → V → Prop
 | aZ : Rep K Z H .aZ .aZ
 | bl (b) : Rep K Z H (.bl b) (.bl b)
 | int (i) : Rep K Z H (.int i) (.int i)
 | str (x) : Rep K Z H (.str x) (.str x)
 | ty (n) : Rep K Z H (.ty n) (.ty n)
 | tup {a : Addr} {xs : List V} {ps : List PV} : TupAt K H a xs → bP K Z H ps xs → Rep K Z H (.tup ps) (.ref a)
 | lst {a : Addr} {xs : List V} {ps : List PV} : Rd H a (.lst xs) → ¬ Z a → bP K Z H ps xs → Rep K Z H (.lst ps) (.ref a)
 | cC {a : Addr} {ep : Nat} {ys : List (Key × V)} {kvs : List (Key × PV)} : Rd H a (.dK ys ep) → ¬ Z a → ys.map (·.1) = kvs.map (·.1) → bP K Z H (kvs.map (·.2)) (ys.map (·.2)) → Rep K Z H (.cC kvs) (.ref a)
inductive bP (K : PySem.W.Frag) (Z : aO) (H : Hp) : List PV → List V → Prop
 | nil : bP K Z H [] []
 | cons {p : PV} {v : V} {ps : List PV} {vs : List V} : Rep K Z H p v → bP K Z H ps vs → bP K Z H (p :: ps) (v :: vs)
end
structure eJ (Z Z' : aO) (H H' : Hp) : Prop where
 tup : ∀ a xs, H a = some (.tup xs) → H' a = some (.tup xs)
 obj : ∀ a o, H a = some o → ¬ Z a → H' a = some o ∧ ¬ Z' a
theorem eJ.rd {Z Z' : aO} {H H' : Hp} (k : eJ Z Z' H H') {a : Addr} {o : HO} (h : Rd H a o) (n : ¬ Z a) : Rd H' a o ∧ ¬ Z' a := by
 rcases h with h | ⟨u, h⟩
 ·exact ⟨.inl (k.obj _ _ h n).1, (k.obj _ _ h n).2⟩
 ·exact ⟨.inr ⟨u, (k.obj _ _ h n).1⟩, (k.obj _ _ h n).2⟩
mutual
theorem Rep.aR {K : PySem.W.Frag} {Z Z' : aO} {H H' : Hp} (k : eJ Z Z' H H') : ∀ {p : PV} {v : V}, Rep K Z H p v → Rep K Z' H' p v
 | _, _, .aZ => .aZ
 | _, _, .bl b => .bl b
 | _, _, .int b => .int b
 | _, _, .str b => .str b
 | _, _, .ty b => .ty b
 | _, _, .tup h r => .tup (h.elim (fun h => .inl (k.tup _ _ h)) .inr) (bP.aR k r)
 | _, _, .lst h n r => .lst (k.rd h n).1 (k.rd h n).2 (bP.aR k r)
 | _, _, .cC h n e r => .cC (k.rd h n).1 (k.rd h n).2 e (bP.aR k r)
theorem bP.aR {K : PySem.W.Frag} {Z Z' : aO} {H H' : Hp} (k : eJ Z Z' H H') : ∀ {p : List PV} {v : List V}, bP K Z H p v → bP K Z' H' p v
 | _, _, .nil => .nil
 | _, _, .cons h r => .cons (Rep.aR k h) (bP.aR k r)
end
theorem eJ.refl {Z : aO} {H : Hp} : eJ Z Z H H := ⟨fun _ _ h => h, fun _ _ h n => ⟨h, n⟩⟩
theorem eJ.same {Z : aO} {H H' : Hp} (s : bG H H') : eJ Z Z H H' := ⟨fun _ _ h => s _ _ h, fun _ _ h n => ⟨s _ _ h, n⟩⟩
theorem eJ.less {Z Z' : aO} {H : Hp} (h : ∀ a, Z' a → Z a) : eJ Z Z' H H := ⟨fun _ _ h => h, fun _ _ e n => ⟨e, fun z => n (h _ z)⟩⟩
theorem eJ.new {Z : aO} {H H' : Hp} {l : Addr} (s : bG H H') (hl : H l = none) : eJ Z (bM Z (one l)) H H' :=
 ⟨fun _ _ h => s _ _ h, fun a o h n => ⟨s _ _ h, fun z => z.elim n fun e => by rw [show a = l from e, hl] at h; cases h⟩⟩
theorem bP.length {K : PySem.W.Frag} {Z : aO} {H : Hp} : ∀ {ps : List PV} {vs : List V}, bP K Z H ps vs → ps.length = vs.length
 | _, _, .nil => rfl
 | _, _, .cons _ r => by rw [List.length_cons, List.length_cons, bP.length r]
theorem bP.get {K : PySem.W.Frag} {Z : aO} {H : Hp} : ∀ {ps : List PV} {vs : List V} {i : Nat} {p : PV}, bP K Z H ps vs → ps[i]? = some p → ∃ v, vs[i]? = some v ∧ Rep K Z H p v
 | _, _, _, _, .nil, h => by simp at h
 | _, _, 0, _, .cons h _, e => by simp at e; subst e; exact ⟨_, rfl, h⟩
 | _, _, i + 1, _, .cons _ r, e => by
  obtain ⟨v, h1, h2⟩ := bP.get (i := i) r (by simpa using e)
  exact ⟨v, by simpa using h1, h2⟩
theorem bP.get' {K : PySem.W.Frag} {Z : aO} {H : Hp} : ∀ {ps : List PV} {vs : List V} {i : Nat} {v : V}, bP K Z H ps vs → vs[i]? = some v → ∃ p, ps[i]? = some p ∧ Rep K Z H p v
 | _, _, _, _, .nil, h => by simp at h
 | _, _, 0, _, .cons h _, e => by simp at e; subst e; exact ⟨_, rfl, h⟩
 | _, _, i + 1, _, .cons _ r, e => by
  obtain ⟨v, h1, h2⟩ := bP.get' (i := i) r (by simpa using e)
  exact ⟨v, by simpa using h1, h2⟩
theorem bP.app {K : PySem.W.Frag} {Z : aO} {H : Hp} : ∀ {ps qs : List PV} {vs ws : List V}, bP K Z H ps vs → bP K Z H qs ws → bP K Z H (ps ++ qs) (vs ++ ws)
 | _, _, _, _, .nil, s => s
 | _, _, _, _, .cons h r, s => .cons h (bP.app r s)
theorem bP.drop {K : PySem.W.Frag} {Z : aO} {H : Hp} : ∀ {ps : List PV} {vs : List V} (n : Nat), bP K Z H ps vs → bP K Z H (ps.drop n) (vs.drop n)
 | _, _, 0, h => h
 | _, _, _ + 1, .nil => .nil
 | _, _, n + 1, .cons _ r => bP.drop n r
theorem bP.take {K : PySem.W.Frag} {Z : aO} {H : Hp} : ∀ {ps : List PV} {vs : List V} (n : Nat), bP K Z H ps vs → bP K Z H (ps.take n) (vs.take n)
 | _, _, 0, _ => .nil
 | _, _, _ + 1, .nil => .nil
 | _, _, n + 1, .cons h r => .cons h (bP.take n r)
theorem bP.set {K : PySem.W.Frag} {Z : aO} {H : Hp} {p : PV} {v : V} (h : Rep K Z H p v) : ∀ {ps : List PV} {vs : List V} (n : Nat), bP K Z H ps vs → bP K Z H (ps.set n p) (vs.set n v)
 | _, _, _, .nil => .nil
 | _, _, 0, .cons _ r => .cons h r
 | _, _, n + 1, .cons q r => .cons q (bP.set h n r)
noncomputable def LstAt (K : PySem.W.Frag) (H : Hp) (a : Addr) (xs : List V) : Prop := Rd H a (.lst xs) ∨ RQ K a xs
theorem LstAt.sq {K : PySem.W.Frag} {H : Hp} {a : Addr} {xs : List V} (h : LstAt K H a xs) : jC K H a xs := h
inductive Red (K : PySem.W.Frag) (Z : aO) (H : Hp) : PV → V → Prop
 | rep {p : PV} {v : V} : Rep K Z H p v → Red K Z H p v
 | lst {a : Addr} {xs : List V} {ps : List PV} : LstAt K H a xs → bP K Z H ps xs → Red K Z H (.lst ps) (.ref a)
 | cC {a : Addr} {ep : Nat} {ys : List (Key × V)} {kvs : List (Key × PV)} : Rd H a (.dK ys ep) → ys.map (·.1) = kvs.map (·.1) → bP K Z H (kvs.map (·.2)) (ys.map (·.2)) → Red K Z H (.cC kvs) (.ref a)
section
variable {K : PySem.W.Frag} {Z : aO} {H : Hp} {v : V}
theorem Red.int {i : Int} (h : Red K Z H (.int i) v) : v = .int i := by cases h with | rep h => cases h; rfl
theorem Red.str {i : Str} (h : Red K Z H (.str i) v) : v = .str i := by cases h with | rep h => cases h; rfl
theorem Red.bl {i : Bool} (h : Red K Z H (.bl i) v) : v = .bl i := by cases h with | rep h => cases h; rfl
theorem Red.aZ (h : Red K Z H .aZ v) : v = .aZ := by cases h with | rep h => cases h; rfl
theorem Red.ty {n : String} (h : Red K Z H (.ty n) v) : v = .ty n := by cases h with | rep h => cases h; rfl
theorem Red.tup {ps : List PV} (h : Red K Z H (.tup ps) v) : ∃ a xs, v = .ref a ∧ TupAt K H a xs ∧ bP K Z H ps xs := by
 cases h with | rep h => cases h with | tup h r => exact ⟨_, _, rfl, h, r⟩
theorem Red.p7 {ps : List PV} (h : Red K Z H (.lst ps) v) : ∃ a xs, v = .ref a ∧ LstAt K H a xs ∧ bP K Z H ps xs := by
 cases h with
 | rep h => cases h with | lst h _ r => exact ⟨_, _, rfl, .inl h, r⟩
 | lst h r => exact ⟨_, _, rfl, h, r⟩
theorem Red.sY {kvs : List (Key × PV)} (h : Red K Z H (.cC kvs) v) : ∃ a ys, v = .ref a ∧ zS H a ys ∧ ys.map (·.1) = kvs.map (·.1) ∧ bP K Z H (kvs.map (·.2)) (ys.map (·.2)) := by
 cases h with
 | rep h => cases h with | cC h _ e r => exact ⟨_, _, rfl, ⟨_, h⟩, e, r⟩
 | cC h e r => exact ⟨_, _, rfl, ⟨_, h⟩, e, r⟩
end
inductive Sl where
 | val (p : PV) | own (p : PV) | loc (p : PV) | bor (p : PV)
noncomputable def Sl.pv : Sl → PV
 | .val p => p | .own p => p | .loc p => p | .bor p => p
noncomputable def Sl.eA : Sl → Bool
 | .own _ => true | .loc _ => true | _ => false
noncomputable abbrev En := List (Option Sl)
inductive iV (K : PySem.W.Frag) (Z : aO) (H : Hp) (a : Addr) : PV → Prop
 | lst {xs : List V} {ps : List PV} : H a = some (.lst xs) → bP K Z H ps xs → iV K Z H a (.lst ps)
 | cC {ep : Nat} {ys : List (Key × V)} {kvs : List (Key × PV)} : H a = some (.dK ys ep) → ys.map (·.1) = kvs.map (·.1) → bP K Z H (kvs.map (·.2)) (ys.map (·.2)) → iV K Z H a (.cC kvs)
theorem iV.red {K : PySem.W.Frag} {Z : aO} {H : Hp} {a : Addr} {p : PV} (h : iV K Z H a p) : Red K Z H p (.ref a) := by
 cases h with
 | lst e r => exact .lst (.inl (.inl e)) r
 | cC e k r => exact .cC (.inl e) k r
theorem iV.rep {K : PySem.W.Frag} {Z : aO} {H : Hp} {a : Addr} {p : PV} (h : iV K Z H a p) (n : ¬ Z a) : Rep K Z H p (.ref a) := by
 cases h with
 | lst e r => exact .lst (.inl e) n r
 | cC e k r => exact .cC (.inl e) n k r
theorem iV.there {K : PySem.W.Frag} {Z : aO} {H : Hp} {a : Addr} {p : PV} (h : iV K Z H a p) : ∃ o, H a = some o ∧ ∀ xs, o ≠ .tup xs := by
 cases h with
 | lst e r => exact ⟨_, e, fun _ z => nomatch z⟩
 | cC e k r => exact ⟨_, e, fun _ z => nomatch z⟩
theorem iV.aR {K : PySem.W.Frag} {Z Z' : aO} {H H' : Hp} {a : Addr} {p : PV} (k : eJ Z Z' H H') (e : ∀ o, H a = some o → H' a = some o) (h : iV K Z H a p) : iV K Z' H' a p := by
 cases h with
 | lst h r => exact .lst (e _ h) (r.aR k)
 | cC h q r => exact .cC (e _ h) q (r.aR k)
inductive pX (K : PySem.W.Frag) (Z : aO) (W : WS) (L : aO) (H : Hp) (a : Addr) : PV → Prop
 | lst {xs : List V} {ps : List PV} : Rd H a (.lst xs) → W.old a → ¬ aw W a → ¬ L a → bP K Z H ps xs → pX K Z W L H a (.lst ps)
 | gK {xs : List V} {ps : List PV} : RQ K a xs → bP K Z H ps xs → pX K Z W L H a (.lst ps)
 | cC {ep : Nat} {ys : List (Key × V)} {kvs : List (Key × PV)} : Rd H a (.dK ys ep) → W.old a → ¬ aw W a → ¬ L a → ys.map (·.1) = kvs.map (·.1) → bP K Z H (kvs.map (·.2)) (ys.map (·.2)) → pX K Z W L H a (.cC kvs)
theorem pX.red {K : PySem.W.Frag} {Z L : aO} {W : WS} {H : Hp} {a : Addr} {p : PV} (h : pX K Z W L H a p) : Red K Z H p (.ref a) := by
 cases h with
 | lst e _ _ _ r => exact .lst (.inl e) r
 | gK e r => exact .lst (.inr e) r
 | cC e _ _ _ k r => exact .cC e k r
noncomputable def jL (K : PySem.W.Frag) (Z : aO) (W : WS) (L : aO) (H : Hp) (i : Nat) (v : V) : Sl → Prop
 | .val p => Rep K Z H p v
 | .own p => ∃ a, v = .ref a ∧ W i a ∧ iV K Z H a p
 | .loc p => ∃ a, v = .ref a ∧ L a ∧ iV K Z H a p
 | .bor p => ∃ a, v = .ref a ∧ pX K Z W L H a p
theorem jL.red {K : PySem.W.Frag} {Z L : aO} {W : WS} {H : Hp} {i : Nat} {v : V} {s : Sl} (h : jL K Z W L H i v s) : Red K Z H s.pv v := by
 cases s with
 | val p => exact .rep h
 | own p => obtain ⟨a, rfl, _, c⟩ := h; exact c.red
 | loc p => obtain ⟨a, rfl, _, c⟩ := h; exact c.red
 | bor p => obtain ⟨a, rfl, c⟩ := h; exact c.red
structure aY (K : PySem.W.Frag) (Z : aO) (W : WS) (L : aO) (H : Hp) (σ : St) (e : En) : Prop where
 len : e.length = σ.length
 at' : ∀ (i : Nat) s, e[i]? = some (some s) → ∃ v, σ[i]? = some (some v) ∧ jL K Z W L H i v s
 nQ : ∀ (i j : Nat) s t, i ≠ j → e[i]? = some (some s) → e[j]? = some (some t) → s.eA = true → t.eA = true → σ[i]? ≠ σ[j]?
structure kB (O M : aO) (W : WS) (L : aO) (H : Hp) : Prop where
 old : ∀ a, O a → H a ≠ none
 mo : ∀ a, M a → O a
 wm : ∀ i a, W i a → M a
 loc : ∀ a, L a → H a ≠ none ∧ ¬ O a
structure cZ (W : WS) (L : aO) (H H' : Hp) : Prop where
 obj : ∀ a o, H a = some o → ¬ aw W a → ¬ L a → H' a = some o
 tup : ∀ a xs, H a = some (.tup xs) → H' a = some (.tup xs)
 dR : ∀ a, H a ≠ none → H' a ≠ none
theorem cZ.refl {W : WS} {L : aO} {H : Hp} : cZ W L H H := ⟨fun _ _ h _ _ => h, fun _ _ h => h, fun _ h => h⟩
theorem cZ.trans {W : WS} {L : aO} {H H1 H2 : Hp} (a : cZ W L H H1) (b : cZ W L H1 H2) : cZ W L H H2 := ⟨fun c o h n m => b.obj c o (a.obj c o h n m) n m, fun c o h => b.tup c o (a.tup c o h), fun c h => b.dR c (a.dR c h)⟩
theorem cZ.same {W : WS} {L : aO} {H H' : Hp} (s : bG H H') : cZ W L H H' := ⟨fun _ _ h _ _ => s _ _ h, fun _ _ h => s _ _ h, fun a h => by
 cases e : H a with
 | none => exact absurd e h
 | some o => rw [s _ _ e]; exact fun z => nomatch z⟩
theorem kB.keep {O M L : aO} {W : WS} {H H' : Hp} (o : kB O M W L H) (d : ∀ a, H a ≠ none → H' a ≠ none) : kB O M W L H' := ⟨fun a h => d a (o.old a h), o.mo, o.wm, fun a h => ⟨d a (o.loc a h).1, (o.loc a h).2⟩⟩
theorem cZ.aR {O M L : aO} {W : WS} {H H' : Hp} (o : kB O M W L H) (k : cZ W L H H') : eJ (bM M L) (bM M L) H H' :=
 ⟨k.tup, fun a u h n => ⟨k.obj a u h (fun ⟨i, z⟩ => n (.inl (o.wm i a z))) fun z => n (.inr z), n⟩⟩
theorem aY.aR {K : PySem.W.Frag} {Z Z' L : aO} {W : WS} {H H' : Hp} {σ : St} {e : En} (h : aY K Z W L H σ e) (k : eJ Z Z' H H') (ow : ∀ a o, aw W a ∨ L a → H a = some o → H' a = some o) (bo : ∀ a o, H a = some o → ¬ aw W a → ¬ L a → H' a = some o) : aY K Z' W L H' σ e :=
 ⟨h.len, fun i s q => by
  obtain ⟨v, h1, h2⟩ := h.at' i s q
  refine ⟨v, h1, ?_⟩
  cases s with
  | val p => exact Rep.aR k h2
  | own p => obtain ⟨a, e, w, c⟩ := h2; exact ⟨a, e, w, c.aR k fun o q => ow a o (.inl ⟨_, w⟩) q⟩
  | loc p => obtain ⟨a, e, w, c⟩ := h2; exact ⟨a, e, w, c.aR k fun o q => ow a o (.inr w) q⟩
  | bor p =>
   obtain ⟨a, e, c⟩ := h2
   refine ⟨a, e, ?_⟩
   cases c with
   | lst e od n m r => exact .lst (e.elim (fun e => .inl (bo _ _ e n m)) fun ⟨u, e⟩ => .inr ⟨u, bo _ _ e n m⟩) od n m (r.aR k)
   | gK e r => exact .gK e (r.aR k)
   | cC e od n m kk r => exact .cC (e.elim (fun e => .inl (bo _ _ e n m)) fun ⟨u, e⟩ => .inr ⟨u, bo _ _ e n m⟩) od n m kk (r.aR k), h.nQ⟩
theorem aY.same {K : PySem.W.Frag} {Z L : aO} {W : WS} {H H' : Hp} {σ : St} {e : En} (h : aY K Z W L H σ e) (s : bG H H') : aY K Z W L H' σ e := h.aR (.same s) (fun a o _ q => s a o q) fun a o q _ _ => s a o q
noncomputable def J8 (σ : St) (e : En) (a : Addr) : Prop := ∀ (i : Nat) s, e[i]? = some (some s) → s.eA = true → σ[i]? ≠ some (some (.ref a))
theorem Rd.ne {H : Hp} {a l : Addr} {o : HO} (h : Rd H a o) (hl : H l = none) : a ≠ l := by
 rintro rfl
 rcases h with h | ⟨_, h⟩ <;> (rw [hl] at h; cases h)
theorem aY.new {K : PySem.W.Frag} {M L : aO} {W : WS} {H H' : Hp} {σ : St} {e : En} {l : Addr} (h : aY K (bM M L) W L H σ e) (s : bG H H') (hl : H l = none) : aY K (bM M (bM L (one l))) W (bM L (one l)) H' σ e ∧ J8 σ e l := by
 have k : eJ (bM M L) (bM M (bM L (one l))) H H' := ⟨fun _ _ h => s _ _ h, fun a o h n => ⟨s _ _ h, fun z => by
  rcases z with z | z | z
  ·exact n (.inl z)
  ·exact n (.inr z)
  ·rw [show a = l from z, hl] at h; cases h⟩⟩
 refine ⟨⟨h.len, fun i sl q => ?_, h.nQ⟩, fun i sl q hm e => ?_⟩
 ·obtain ⟨v, h1, h2⟩ := h.at' i sl q
  refine ⟨v, h1, ?_⟩
  cases sl with
  | val p => exact Rep.aR k h2
  | own p => obtain ⟨a, e, w, c⟩ := h2; exact ⟨a, e, w, c.aR k fun o q => s _ _ q⟩
  | loc p => obtain ⟨a, e, w, c⟩ := h2; exact ⟨a, e, .inl w, c.aR k fun o q => s _ _ q⟩
  | bor p =>
   obtain ⟨a, e, c⟩ := h2
   refine ⟨a, e, ?_⟩
   cases c with
   | lst e od n m r => exact .lst (e.elim (fun e => .inl (s _ _ e)) fun ⟨u, e⟩ => .inr ⟨u, s _ _ e⟩) od n (fun z => z.elim m (Rd.ne e hl)) (r.aR k)
   | gK e r => exact .gK e (r.aR k)
   | cC e od n m kk r => exact .cC (e.elim (fun e => .inl (s _ _ e)) fun ⟨u, e⟩ => .inr ⟨u, s _ _ e⟩) od n (fun z => z.elim m (Rd.ne e hl)) kk (r.aR k)
 ·obtain ⟨v, h1, h2⟩ := h.at' i sl q
  rw [h1] at e
  cases e
  cases sl with
  | val p => cases hm
  | bor p => cases hm
  | own p => obtain ⟨a, e, w, c⟩ := h2; cases e; obtain ⟨o, e, _⟩ := c.there; rw [hl] at e; cases e
  | loc p => obtain ⟨a, e, w, c⟩ := h2; cases e; obtain ⟨o, e, _⟩ := c.there; rw [hl] at e; cases e
theorem aY.TU {K : PySem.W.Frag} {M L : aO} {W : WS} {H : Hp} {σ : St} {e : En} {l : Addr} (h : aY K (bM M (bM L (one l))) W (bM L (one l)) H σ e) (f : J8 σ e l) : aY K (bM M L) W L H σ e := by
 have k : eJ (bM M (bM L (one l))) (bM M L) H H := .less fun a z => z.elim .inl fun z => .inr (.inl z)
 refine ⟨h.len, fun i sl q => ?_, h.nQ⟩
 obtain ⟨v, h1, h2⟩ := h.at' i sl q
 refine ⟨v, h1, ?_⟩
 cases sl with
 | val p => exact Rep.aR k h2
 | own p => obtain ⟨a, e, w, c⟩ := h2; exact ⟨a, e, w, c.aR k fun o q => q⟩
 | loc p =>
  obtain ⟨a, e, w, c⟩ := h2
  refine ⟨a, e, w.elim id fun z => ?_, c.aR k fun o q => q⟩
  exfalso
  have z : a = l := z
  subst z e
  exact f i _ q rfl h1
 | bor p =>
  obtain ⟨a, e, c⟩ := h2
  refine ⟨a, e, ?_⟩
  cases c with
  | lst e od n m r => exact .lst e od n (fun z => m (.inl z)) (r.aR k)
  | gK e r => exact .gK e (r.aR k)
  | cC e od n m kk r => exact .cC e od n (fun z => m (.inl z)) kk (r.aR k)
theorem aY.less {K : PySem.W.Frag} {Z Z' L : aO} {W : WS} {H : Hp} {σ : St} {e : En} (h : aY K Z W L H σ e) (l : ∀ a, Z' a → Z a) : aY K Z' W L H σ e := h.aR (.less l) (fun a o _ q => q) fun a o q _ _ => q
inductive Bv where
 | val (p : PV) | slot (i : Nat) | new (p : PV)
noncomputable def rd (e : En) (i : Nat) : Option PV := match e[i]? with
 | some (some s) => some s.pv
 | _ => none
noncomputable def Bv.get (e : En) : Bv → Option PV
 | .val p => some p
 | .new p => some p
 | .slot i => rd e i
noncomputable def Bv.weak : Bv → Bv
 | .new p => .val p
 | b => b
noncomputable def Bv.put : Bv → Option PV
 | .val p => some p
 | .new p => some p
 | .slot _ => none
noncomputable def RB (K : PySem.W.Frag) (O M : aO) (W : WS) (L : aO) (H : Hp) (σ : St) (e : En) (v : V) : Bv → Prop
 | .val p => aY K (bM M L) W L H σ e ∧ Rep K (bM M L) H p v
 | .slot i => aY K (bM M L) W L H σ e ∧ σ[i]? = some (some v)
 | .new p => ∃ a, v = .ref a ∧ ¬ O a ∧ ¬ L a ∧ aY K (bM M (bM L (one a))) W (bM L (one a)) H σ e ∧ J8 σ e a ∧ iV K (bM M (bM L (one a))) H a p
theorem RB.weak {K : PySem.W.Frag} {O M L : aO} {W : WS} {H : Hp} {σ : St} {e : En} {v : V} {b : Bv} (o : kB O M W L H) (h : RB K O M W L H σ e v b) : RB K O M W L H σ e v b.weak := by
 cases b with
 | val p => exact h
 | slot i => exact h
 | new p =>
  obtain ⟨a, rfl, n1, n2, h1, hf, h2⟩ := h
  exact ⟨h1.TU hf, (h2.aR (.less fun _ z => z.elim .inl fun z => .inr (.inl z)) fun _ q => q).rep fun z => z.elim (fun z => n1 (o.mo _ z)) n2⟩
theorem RB.en {K : PySem.W.Frag} {O M L : aO} {W : WS} {H : Hp} {σ : St} {e : En} {v : V} {b : Bv} (o : kB O M W L H) (h : RB K O M W L H σ e v b) : aY K (bM M L) W L H σ e := by
 cases b with
 | val p => exact h.1
 | slot i => exact h.1
 | new p => exact (RB.weak (b := .new p) o h).1
noncomputable def RV (K : PySem.W.Frag) (Z : aO) (H : Hp) (σ : St) (v : V) : Bv → Prop
 | .val p => Rep K Z H p v
 | .slot i => σ[i]? = some (some v)
 | .new _ => False
theorem RB.rv {K : PySem.W.Frag} {O M L : aO} {W : WS} {H : Hp} {σ : St} {e : En} {v : V} {b : Bv} (o : kB O M W L H) (h : RB K O M W L H σ e v b) : RV K (bM M L) H σ v b.weak := by
 have h := h.weak o
 cases b with
 | val p => exact h.2
 | slot i => exact h.2
 | new p => exact h.2
theorem RV.keep {K : PySem.W.Frag} {O M L : aO} {W : WS} {H H' : Hp} {σ : St} {v : V} {b : Bv} (o : kB O M W L H) (k : cZ W L H H') (h : RV K (bM M L) H σ v b) : RV K (bM M L) H' σ v b := by
 cases b with
 | val p => exact Rep.aR (k.aR o) h
 | slot i => exact h
 | new p => exact h
theorem aY.rd {K : PySem.W.Frag} {Z L : aO} {W : WS} {H : Hp} {σ : St} {e : En} {i : Nat} {p : PV} {v : V} (h : aY K Z W L H σ e) (g : rd e i = some p) (hv : σ[i]? = some (some v)) : Red K Z H p v := by
 unfold Mr.rd at g
 cases q : e[i]? with
 | none => rw [q] at g; cases g
 | some s =>
  cases s with
  | none => rw [q] at g; cases g
  | some s =>
   rw [q] at g
   cases g
   obtain ⟨w, h1, h2⟩ := h.at' i s q
   rw [hv] at h1
   cases h1
   exact h2.red
theorem RV.red {K : PySem.W.Frag} {Z L : aO} {W : WS} {H : Hp} {σ : St} {e : En} {v : V} {b : Bv} {p : PV} (h : RV K Z H σ v b) (he : aY K Z W L H σ e) (g : b.get e = some p) : Red K Z H p v := by
 cases b with
 | val q => cases g; exact .rep h
 | slot i => exact he.rd g h
 | new q => exact h.elim
noncomputable abbrev FE := En → Option (Bv × En)
noncomputable abbrev FT := En → Option (Bool × En)
noncomputable abbrev FA := En → Option (List Bv × En)
noncomputable def Fr (H : Hp) (v : V) : Bv → Prop
 | .new _ => ∀ a, v = .ref a → H a = none
 | _ => True
theorem Fr.back {H H1 : Hp} {v : V} {b : Bv} (d : ∀ a, H a ≠ none → H1 a ≠ none) (h : Fr H1 v b) : Fr H v b := by
 cases b with
 | val p => trivial
 | slot i => trivial
 | new p =>
  intro a e
  cases z : H a with
  | none => rfl
  | some o => exact absurd (h a e) (d a (by rw [z]; exact fun z => nomatch z))
noncomputable def Ref (K : PySem.W.Frag) (t : TE) (f : FE) : Prop := ∀ (O M : aO) (W : WS) (L : aO) (σ : St) (H : Hp) (e e' : En) (b : Bv) (Q : VK), kB O M W L H → aY K (bM M L) W L H σ e → f e = some (b, e') →
 (∀ v H', cZ W L H H' → RB K O M W L H' σ e' v b → Fr H v b → Q v H') → t σ H Q
noncomputable def lD (K : PySem.W.Frag) (t : TT) (f : FT) : Prop := ∀ (O M : aO) (W : WS) (L : aO) (σ : St) (H : Hp) (e e' : En) (b : Bool) (Q : Bool → Hp → Prop), kB O M W L H → aY K (bM M L) W L H σ e → f e = some (b, e') →
 (∀ H', cZ W L H H' → aY K (bM M L) W L H' σ e' → Q b H') → t σ H Q
inductive tM (K : PySem.W.Frag) (Z : aO) (H : Hp) (σ : St) : List Bv → List V → Prop
 | nil : tM K Z H σ [] []
 | cons {b : Bv} {v : V} {bs : List Bv} {vs : List V} : RV K Z H σ v b → tM K Z H σ bs vs → tM K Z H σ (b :: bs) (v :: vs)
theorem tM.keep {K : PySem.W.Frag} {O M L : aO} {W : WS} {H H' : Hp} {σ : St} (o : kB O M W L H) (k : cZ W L H H') : ∀ {bs : List Bv} {vs : List V}, tM K (bM M L) H σ bs vs → tM K (bM M L) H' σ bs vs
 | _, _, .nil => .nil
 | _, _, .cons h r => .cons (h.keep o k) (tM.keep o k r)
noncomputable def vR (K : PySem.W.Frag) (t : TA) (f : FA) : Prop := ∀ (O M : aO) (W : WS) (L : aO) (σ : St) (H : Hp) (e e' : En) (bs : List Bv) (Q : List V → Hp → Prop), kB O M W L H → aY K (bM M L) W L H σ e → f e = some (bs, e') →
 (∀ vs H', cZ W L H H' → aY K (bM M L) W L H' σ e' → tM K (bM M L) H' σ bs vs → Q vs H') → t σ H Q
end Mr
namespace Mr
open PySem L2
noncomputable def bE {α β : Type} (r : Option (α × En)) (k : α → En → Option β) : Option β := match r with
 | some (a, e) => k a e
 | none => none
noncomputable def bO {α β : Type} (r : Option α) (k : α → Option β) : Option β := match r with
 | some a => k a
 | none => none
theorem aS {α β : Type} {r : Option (α × En)} {k : α → En → Option β} {b : β} (h : bE r k = some b) : ∃ a e, r = some (a, e) ∧ k a e = some b := by
 cases r with
 | none => cases h
 | some x => exact ⟨x.1, x.2, rfl, h⟩
theorem aI {α β : Type} {r : Option α} {k : α → Option β} {b : β} (h : bO r k = some b) : ∃ a, r = some a ∧ k a = some b := by
 cases r with
 | none => cases h
 | some x => exact ⟨x, rfl, h⟩
theorem yC {α β : Type} {a : α} {e : En} {k : α → En → Option β} : bE (some (a, e)) k = k a e := rfl
theorem vL {α β : Type} {a : α} {k : α → Option β} : bO (some a) k = k a := rfl
noncomputable def bB {β : Type} (c : Bool) (x y : β) : β := match c with | true => x | false => y
noncomputable def aU (c : Bool) {β : Type} (k : Option β) : Option β := match c with | true => k | false => none
theorem aT {c : Bool} {β : Type} {k : Option β} {b : β} (h : aU c k = some b) : c = true ∧ k = some b := by
 cases c with
 | false => cases h
 | true => exact ⟨rfl, h⟩
noncomputable def RN (K : PySem.W.Frag) (Z : aO) (H H' : Hp) (v : V) : Bv → Prop
 | .val p => Rep K Z H' p v
 | .new p => ∃ a, v = .ref a ∧ H a = none ∧ iV K (bM Z (one a)) H' a p
 | .slot _ => False
theorem RN.rb {K : PySem.W.Frag} {O M L : aO} {W : WS} {H H' : Hp} {σ : St} {e : En} {v : V} {b : Bv} (o : kB O M W L H) (he : aY K (bM M L) W L H σ e) (s : bG H H') (h : RN K (bM M L) H H' v b) : RB K O M W L H' σ e v b := by
 cases b with
 | val p => exact ⟨he.same s, h⟩
 | slot i => exact h.elim
 | new p =>
  obtain ⟨a, rfl, n, c⟩ := h
  have w := he.new s n
  exact ⟨a, rfl, fun z => o.old a z n, fun z => (o.loc a z).1 n, w.1, w.2, c.aR (.less fun _ z => by rcases z with z | z | z; exact .inl (.inl z); exact .inl (.inr z); exact .inr z) fun _ q => q⟩
theorem RN.fr {K : PySem.W.Frag} {Z : aO} {H0 H H' : Hp} {v : V} {b : Bv} (d : ∀ a, H0 a ≠ none → H a ≠ none) (h : RN K Z H H' v b) : Fr H0 v b := by
 refine Fr.back d ?_
 cases b with
 | val p => trivial
 | slot i => trivial
 | new p =>
  obtain ⟨a, rfl, n, c⟩ := h
  intro a' e
  cases e
  exact n
noncomputable def eE (K : PySem.W.Frag) (r : R2) (g : PV → PV → Option Bv) : Prop := ∀ (Z : aO) (H : Hp) (x y : V) (p q : PV) (b : Bv) (Q : VK), Red K Z H p x → Red K Z H q y → g p q = some b → (∀ v H', bG H H' → RN K Z H H' v b → Q v H') → r x y H Q
noncomputable def UN (K : PySem.W.Frag) (r : V → Hp → VK → Prop) (g : PV → Option Bv) : Prop := ∀ (Z : aO) (H : Hp) (x : V) (p : PV) (b : Bv) (Q : VK), Red K Z H p x → g p = some b → (∀ v H', bG H H' → RN K Z H H' v b → Q v H') → r x H Q
inductive sZ (K : PySem.W.Frag) (Z : aO) (H : Hp) : List PV → List V → Prop
 | nil : sZ K Z H [] []
 | cons {p : PV} {v : V} {ps : List PV} {vs : List V} : Red K Z H p v → sZ K Z H ps vs → sZ K Z H (p :: ps) (v :: vs)
noncomputable def lT (K : PySem.W.Frag) (r : List V → Hp → VK → Prop) (g : List PV → Option Bv) : Prop := ∀ (Z : aO) (H : Hp) (vs : List V) (ps : List PV) (b : Bv) (Q : VK), sZ K Z H ps vs → g ps = some b → (∀ v H', bG H H' → RN K Z H H' v b → Q v H') → r vs H Q
noncomputable def QY (K : PySem.W.Frag) (r : V → List V → Hp → VK → Prop) (g : PV → List PV → Option Bv) : Prop := ∀ (Z : aO) (H : Hp) (x : V) (vs : List V) (p : PV) (ps : List PV) (b : Bv) (Q : VK), Red K Z H p x → sZ K Z H ps vs → g p ps = some b → (∀ v H', bG H H' → RN K Z H H' v b → Q v H') → r x vs H Q
noncomputable def getL (e : En) : List Bv → Option (List PV)
 | [] => some []
 | b :: bs => bO (b.get e) fun p => bO (getL e bs) fun ps => some (p :: ps)
theorem tM.red {K : PySem.W.Frag} {Z L : aO} {W : WS} {H : Hp} {σ : St} {e : En} (he : aY K Z W L H σ e) : ∀ {bs : List Bv} {vs : List V} {ps : List PV}, tM K Z H σ bs vs → getL e bs = some ps → sZ K Z H ps vs
 | _, _, _, .nil, g => by cases g; exact .nil
 | _, _, _, .cons h r, g => by
  obtain ⟨p, g1, g⟩ := aI g
  obtain ⟨ps, g2, g⟩ := aI g
  cases g
  exact .cons (h.red he g1) (tM.red he r g2)
section
variable {K : PySem.W.Frag}
noncomputable def aF (i : Nat) : FE := fun e => match e[i]? with
 | some (some (.val p)) => some (.val p, e)
 | some (some _) => some (.slot i, e)
 | _ => none
theorem aB (i : Nat) : Ref K (DB i) (aF i) := by
 intro O M W L σ H e e' b Q o he hf q
 unfold aF at hf
 cases g : e[i]? with
 | none => rw [g] at hf; cases hf
 | some s =>
  cases s with
  | none => rw [g] at hf; cases hf
  | some s =>
   rw [g] at hf
   obtain ⟨v, h1, h2⟩ := he.at' i s g
   cases s with
   | val p => cases hf; exact ⟨v, h1, q v H .refl ⟨he, h2⟩ trivial⟩
   | own p => cases hf; exact ⟨v, h1, q v H .refl ⟨he, h1⟩ trivial⟩
   | loc p => cases hf; exact ⟨v, h1, q v H .refl ⟨he, h1⟩ trivial⟩
   | bor p => cases hf; exact ⟨v, h1, q v H .refl ⟨he, h1⟩ trivial⟩
noncomputable def fC (p : PV) : FE := fun e => some (.val p, e)
theorem y3 {p : PV} {v : V} (h : ∀ Z H, Rep K Z H p v) : Ref K (tC v) (fC p) := by
 intro O M W L σ H e e' b Q o he hf q
 cases hf
 exact q v H .refl ⟨he, h _ _⟩ trivial
theorem aG (i : Int) : Ref K (tC (.int i)) (fC (.int i)) := y3 fun _ _ => .int i
theorem cP (i : Str) : Ref K (tC (.str i)) (fC (.str i)) := y3 fun _ _ => .str i
theorem gX (i : Bool) : Ref K (tC (.bl i)) (fC (.bl i)) := y3 fun _ _ => .bl i
theorem eL : Ref K (tC .aZ) (fC .aZ) := y3 fun _ _ => .aZ
theorem kH (n : String) : Ref K (tC (.ty n)) (fC (.ty n)) := y3 fun _ _ => .ty n
noncomputable def bD (g : PV → PV → Option Bv) (fa fb : FE) : FE := fun e => bE (fa e) fun x e1 => bE (fb e1) fun y e2 => bO (x.weak.get e2) fun p => bO (y.weak.get e2) fun q => bO (g p q) fun b => some (b, e2)
theorem aH {r : R2} {g : PV → PV → Option Bv} {ta tb : TE} {fa fb : FE} (hg : eE K r g) (ha : Ref K ta fa) (hb : Ref K tb fb) : Ref K (VP r ta tb) (bD g fa fb) := by
 intro O M W L σ H e e' b Q o he hf q
 obtain ⟨x, e1, f1, hf⟩ := aS hf
 obtain ⟨y, e2, f2, hf⟩ := aS hf
 obtain ⟨p, g1, hf⟩ := aI hf
 obtain ⟨p', g2, hf⟩ := aI hf
 obtain ⟨c, g3, hf⟩ := aI hf
 cases hf
 refine ha O M W L σ H e e1 x _ o he f1 fun v1 H1 k1 r1 fr => ?_
 have o1 := o.keep k1.dR
 refine hb O M W L σ H1 e1 _ y _ o1 (r1.en o1) f2 fun v2 H2 k2 r2 fr => ?_
 have o2 := o1.keep k2.dR
 have en := r2.en o2
 refine hg _ H2 v1 v2 p p' _ Q (((r1.rv o1).keep o1 k2).red en g1) ((r2.rv o2).red en g2) g3 fun v H' s rn => ?_
 exact q v H' ((k1.trans k2).trans (.same s)) (rn.rb o2 en s) (rn.fr (k1.trans k2).dR)
noncomputable def WZ (g : PV → Option Bv) (fa : FE) : FE := fun e => bE (fa e) fun x e1 => bO (x.weak.get e1) fun p => bO (g p) fun b => some (b, e1)
theorem PY {r : V → Hp → VK → Prop} {g : PV → Option Bv} {ta : TE} {fa : FE} (hg : UN K r g) (ha : Ref K ta fa) : Ref K (YQ r ta) (WZ g fa) := by
 intro O M W L σ H e e' b Q o he hf q
 obtain ⟨x, e1, f1, hf⟩ := aS hf
 obtain ⟨p, g1, hf⟩ := aI hf
 obtain ⟨c, g3, hf⟩ := aI hf
 cases hf
 refine ha O M W L σ H e _ x _ o he f1 fun v1 H1 k1 r1 fr => ?_
 have o1 := o.keep k1.dR
 have en := r1.en o1
 refine hg _ H1 v1 p _ Q ((r1.rv o1).red en g1) g3 fun v H' s rn => ?_
 exact q v H' (k1.trans (.same s)) (rn.rb o1 en s) (rn.fr k1.dR)
noncomputable def aM : FA := fun e => some ([], e)
noncomputable def aD (fa : FE) (fr : FA) : FA := fun e => bE (fa e) fun x e1 => bE (fr e1) fun xs e2 => some (x.weak :: xs, e2)
theorem aE : vR K zP aM := by
 intro O M W L σ H e e' b Q o he hf q
 cases hf
 exact q [] H .refl he .nil
theorem aA {ta : TE} {tr : TA} {fa : FE} {fr : FA} (ha : Ref K ta fa) (hr : vR K tr fr) : vR K (fF ta tr) (aD fa fr) := by
 intro O M W L σ H e e' b Q o he hf q
 obtain ⟨x, e1, f1, hf⟩ := aS hf
 obtain ⟨xs, e2, f2, hf⟩ := aS hf
 cases hf
 refine ha O M W L σ H e e1 x _ o he f1 fun v1 H1 k1 r1 fr => ?_
 have o1 := o.keep k1.dR
 refine hr O M W L σ H1 e1 _ xs _ o1 (r1.en o1) f2 fun vs H2 k2 en2 r2 => ?_
 exact q (v1 :: vs) H2 (k1.trans k2) en2 (.cons ((r1.rv o1).keep o1 k2) r2)
noncomputable def gL (g : List PV → Option Bv) (fa : FA) : FE := fun e => bE (fa e) fun xs e1 => bO (getL e1 xs) fun ps => bO (g ps) fun b => some (b, e1)
theorem bU {r : List V → Hp → VK → Prop} {g : List PV → Option Bv} {ta : TA} {fa : FA} (hg : lT K r g) (ha : vR K ta fa) : Ref K (V5 r ta) (gL g fa) := by
 intro O M W L σ H e e' b Q o he hf q
 obtain ⟨x, e1, f1, hf⟩ := aS hf
 obtain ⟨p, g1, hf⟩ := aI hf
 obtain ⟨c, g3, hf⟩ := aI hf
 cases hf
 refine ha O M W L σ H e _ x _ o he f1 fun v1 H1 k1 en r1 => ?_
 have o1 := o.keep k1.dR
 refine hg _ H1 v1 p _ Q (r1.red en g1) g3 fun v H' s rn => ?_
 exact q v H' (k1.trans (.same s)) (rn.rb o1 en s) (rn.fr k1.dR)
noncomputable def X8 (g : PV → List PV → Option Bv) (fo : FE) (fa : FA) : FE := fun e => bE (fo e) fun x e0 => match x with
 | .val (.str z) => bE (fa e0) fun xs e1 => bO (getL e1 xs) fun ps => bO (g (.str z) ps) fun b => some (b, e1)
 | _ => none
theorem N4 {r : V → List V → Hp → VK → Prop} {g : PV → List PV → Option Bv} {to : TE} {ta : TA} {fo : FE} {fa : FA} (hg : QY K r g) (ho : Ref K to fo) (ha : vR K ta fa) : Ref K (TB K "str" r to ta) (X8 g fo fa) := by
 intro O M W L σ H e e' b Q o he hf q
 obtain ⟨x, e0, f0, hf⟩ := aS hf
 cases x with
 | slot i => cases hf
 | new p => cases hf
 | val p =>
  cases p with
  | str z =>
   obtain ⟨xs, e1, f1, hf⟩ := aS hf
   obtain ⟨p, g1, hf⟩ := aI hf
   obtain ⟨c, g3, hf⟩ := aI hf
   cases hf
   refine ho O M W L σ H e e0 _ _ o he f0 fun v0 H0 k0 r0 fr => ?_
   have o0 := o.keep k0.dR
   obtain ⟨en0, r0⟩ := r0
   cases r0
   refine ⟨rfl, ha O M W L σ H0 e0 _ xs _ o0 en0 f1 fun v1 H1 k1 en r1 => ?_⟩
   have o1 := o0.keep k1.dR
   refine hg _ H1 (.str z) v1 (.str z) p _ Q (.rep (.str z)) (r1.red en g1) g3 fun v H' s rn => ?_
   exact q v H' ((k0.trans k1).trans (.same s)) (rn.rb o1 en s) (rn.fr (k0.trans k1).dR)
  | _ => cases hf
noncomputable def XF (g : PV → List PV → Option Bv) (fo : FE) : FE := fun e => bE (fo e) fun x e0 => match x with
 | .val (.str z) => bO (g (.str z) []) fun b => some (b, e0)
 | _ => none
noncomputable def putL : List Bv → Option (List PV)
 | [] => some []
 | b :: bs => bO b.put fun p => bO (putL bs) fun ps => some (p :: ps)
theorem tM.put {Z : aO} {H : Hp} {σ : St} : ∀ {bs : List Bv} {vs : List V} {ps : List PV}, tM K Z H σ bs vs → putL bs = some ps → bP K Z H ps vs
 | _, _, _, .nil, g => by cases g; exact .nil
 | b :: _, _, _, .cons h r, g => by
  obtain ⟨p, g1, g⟩ := aI g
  obtain ⟨ps, g2, g⟩ := aI g
  cases g
  cases b with
  | val p => cases g1; exact .cons h (tM.put r g2)
  | slot i => cases g1
  | new p => exact h.elim
theorem jQ {n : Nat} (h : decide (n < 1000000) = true) : n < sizeLine := YY (by have := of_decide_eq_true h; omega)
noncomputable def iU (fa : FA) : FE := fun e => bE (fa e) fun xs e1 => bO (putL xs) fun ps => aU (decide (ps.length < 1000000)) (some (.val (.tup ps), e1))
theorem dC {ta : TA} {fa : FA} (ha : vR K ta fa) : Ref K (OD ta) (iU fa) := by
 intro O M W L σ H e e' b Q o he hf q
 obtain ⟨x, e1, f1, hf⟩ := aS hf
 obtain ⟨ps, g1, hf⟩ := aI hf
 obtain ⟨g2, hf⟩ := aT hf
 cases hf
 refine ha O M W L σ H e _ x _ o he f1 fun vs H1 k1 en r1 => ?_
 have rl := r1.put g1
 refine ⟨by rw [← rl.length]; exact Nat.le_of_lt (jQ g2), fun p hp => ?_⟩
 have s : bG H1 (upd H1 p (.tup vs)) := bG.upd hp
 exact q _ _ (k1.trans (.same s)) ⟨en.same s, .tup (.inl cG) (rl.aR (.same s))⟩ trivial
noncomputable def eZ (fa : FA) : FE := fun e => bE (fa e) fun xs e1 => bO (putL xs) fun ps => aU (decide (ps.length < 1000000)) (some (.new (.lst ps), e1))
theorem cL {ta : TA} {fa : FA} (ha : vR K ta fa) : Ref K (QA ta) (eZ fa) := by
 intro O M W L σ H e e' b Q o he hf q
 obtain ⟨x, e1, f1, hf⟩ := aS hf
 obtain ⟨ps, g1, hf⟩ := aI hf
 obtain ⟨g2, hf⟩ := aT hf
 cases hf
 refine ha O M W L σ H e _ x _ o he f1 fun vs H1 k1 en r1 => ?_
 have o1 := o.keep k1.dR
 have rl := r1.put g1
 refine ⟨by rw [← rl.length]; exact Nat.le_of_lt (jQ g2), fun p hp => ?_⟩
 have s : bG H1 (upd H1 p (.lst vs)) := bG.upd hp
 exact q _ _ (k1.trans (.same s)) ⟨p, rfl, fun z => o1.old p z hp, fun z => (o1.loc p z).1 hp, (en.new s hp).1, (en.new s hp).2, .lst cG (rl.aR ⟨fun _ _ h => s _ _ h, fun a o h n => ⟨s _ _ h, fun z => by
  rcases z with z | z | z
  ·exact n (.inl z)
  ·exact n (.inr z)
  ·rw [show a = p from z, hp] at h; cases h⟩⟩)⟩ (Fr.back (b := .new (.lst ps)) k1.dR fun a e => by cases e; exact hp)
noncomputable def n0 : FE := fun e => some (.new (.cC []), e)
theorem lH : Ref K u7 n0 := by
 intro O M W L σ H e e' b Q o he hf q
 cases hf
 intro p hp
 have s : bG H (upd H p (.dK [] 0)) := bG.upd hp
 exact q _ _ (.same s) ⟨p, rfl, fun z => o.old p z hp, fun z => (o.loc p z).1 hp, (he.new s hp).1, (he.new s hp).2, .cC cG rfl .nil⟩ fun a e => by cases e; exact hp
noncomputable def bH (f : FE) : FT := fun e => bE (f e) fun b e1 => match b with
 | .val (.bl c) => some (c, e1)
 | _ => none
theorem bI {t : TE} {f : FE} (h : Ref K t f) : lD K (ET t) (bH f) := by
 intro O M W L σ H e e' b Q o he hf q
 obtain ⟨x, e1, f1, hf⟩ := aS hf
 cases x with
 | slot i => cases hf
 | new p => cases hf
 | val p =>
  cases p with
  | bl c =>
   cases hf
   refine h O M W L σ H e _ _ _ o he f1 fun v1 H1 k1 r1 fr => ?_
   obtain ⟨en, r⟩ := r1
   cases r
   exact ⟨b, rfl, q H1 k1 en⟩
  | _ => cases hf
theorem iB {t : TE} {f : FE} (h : Ref K t f) : lD K (tB t) (bH f) := bI h
noncomputable def pU (f g : FT) : FT := fun e => bE (f e) fun b e1 => bB b (g e1) (some (false, e1))
noncomputable def vP (f g : FT) : FT := fun e => bE (f e) fun b e1 => bB b (some (true, e1)) (g e1)
noncomputable def kT (f : FT) : FT := fun e => bE (f e) fun b e1 => some (!b, e1)
theorem nI {t u : TT} {f g : FT} (h : lD K t f) (h2 : lD K u g) : lD K (UY t u) (pU f g) := by
 intro O M W L σ H e e' b Q o he hf q
 obtain ⟨x, e1, f1, hf⟩ := aS hf
 refine h O M W L σ H e _ _ _ o he f1 fun H1 k1 en => ?_
 cases x with
 | true => rw [if_pos rfl]; exact h2 O M W L σ H1 e1 _ _ _ (o.keep k1.dR) en hf fun H2 k2 en2 => q H2 (k1.trans k2) en2
 | false => cases hf; rw [if_neg Bool.false_ne_true]; exact q H1 k1 en
theorem iP {t u : TT} {f g : FT} (h : lD K t f) (h2 : lD K u g) : lD K (YM t u) (vP f g) := by
 intro O M W L σ H e e' b Q o he hf q
 obtain ⟨x, e1, f1, hf⟩ := aS hf
 refine h O M W L σ H e _ _ _ o he f1 fun H1 k1 en => ?_
 cases x with
 | true => cases hf; rw [if_pos rfl]; exact q H1 k1 en
 | false => rw [if_neg Bool.false_ne_true]; exact h2 O M W L σ H1 e1 _ _ _ (o.keep k1.dR) en hf fun H2 k2 en2 => q H2 (k1.trans k2) en2
theorem gD {t : TT} {f : FT} (h : lD K t f) : lD K (U1 t) (kT f) := by
 intro O M W L σ H e e' b Q o he hf q
 obtain ⟨x, e1, f1, hf⟩ := aS hf
 cases hf
 exact h O M W L σ H e _ _ _ o he f1 fun H1 k1 en => q H1 k1 en
noncomputable def iJ : FT := fun e => some (true, e)
theorem iG : lD K NA iJ := by
 intro O M W L σ H e e' b Q o he hf q
 cases hf
 exact q H .refl he
noncomputable def vS : Bv → Option Bool
 | .val (.bl c) => some c
 | _ => none
theorem pC {x : Bv} {c : Bool} (h : vS x = some c) : x = .val (.bl c) := by
 unfold vS at h
 split at h
 ·cases h; rfl
 ·cases h
noncomputable def rV (fa fb : FE) : FE := fun e => bE (fa e) fun b e1 => bO (vS b) fun c => bB c (fb e1) (some (.val (.bl false), e1))
noncomputable def N0 (fa fb : FE) : FE := fun e => bE (fa e) fun b e1 => bO (vS b) fun c => bB c (some (.val (.bl true), e1)) (fb e1)
noncomputable def xW (fa : FE) : FE := fun e => bE (fa e) fun b e1 => bO (vS b) fun c => some (.val (.bl (!c)), e1)
theorem UD {x : Bv} : (∃ c, x = .val (.bl c)) ∨ ∀ c, x ≠ .val (.bl c) := by
 cases x with
 | slot i => exact .inr fun _ z => nomatch z
 | new p => exact .inr fun _ z => nomatch z
 | val p =>
  cases p with
  | bl c => exact .inl ⟨c, rfl⟩
  | _ => exact .inr fun _ z => nomatch z
theorem qQ {ta tb : TE} {fa fb : FE} (ha : Ref K ta fa) (hb : Ref K tb fb) : Ref K (M6 ta tb) (rV fa fb) := by
 intro O M W L σ H e e' b Q o he hf q
 obtain ⟨x, e1, f1, hf⟩ := aS hf
 obtain ⟨c, gc, hf⟩ := aI hf
 have ec := pC gc
 subst ec
 refine ha O M W L σ H e _ _ _ o he f1 fun v1 H1 k1 r1 fr => ?_
 obtain ⟨en, r⟩ := r1
 cases r
 refine ⟨c, rfl, ?_⟩
 cases c with
 | true => rw [if_pos rfl]; exact hb O M W L σ H1 e1 _ _ _ (o.keep k1.dR) en hf fun v2 H2 k2 r2 fr => q v2 H2 (k1.trans k2) r2 (fr.back k1.dR)
 | false => cases hf; rw [if_neg Bool.false_ne_true]; exact q _ H1 k1 ⟨en, .bl _⟩ trivial
theorem L3 {ta tb : TE} {fa fb : FE} (ha : Ref K ta fa) (hb : Ref K tb fb) : Ref K (SX ta tb) (N0 fa fb) := by
 intro O M W L σ H e e' b Q o he hf q
 obtain ⟨x, e1, f1, hf⟩ := aS hf
 obtain ⟨c, gc, hf⟩ := aI hf
 have ec := pC gc
 subst ec
 refine ha O M W L σ H e _ _ _ o he f1 fun v1 H1 k1 r1 fr => ?_
 obtain ⟨en, r⟩ := r1
 cases r
 refine ⟨c, rfl, ?_⟩
 cases c with
 | true => cases hf; rw [if_pos rfl]; exact q _ H1 k1 ⟨en, .bl _⟩ trivial
 | false => rw [if_neg Bool.false_ne_true]; exact hb O M W L σ H1 e1 _ _ _ (o.keep k1.dR) en hf fun v2 H2 k2 r2 fr => q v2 H2 (k1.trans k2) r2 (fr.back k1.dR)
theorem yT {ta : TE} {fa : FE} (ha : Ref K ta fa) : Ref K (ND ta) (xW fa) := by
 intro O M W L σ H e e' b Q o he hf q
 obtain ⟨x, e1, f1, hf⟩ := aS hf
 obtain ⟨c, gc, hf⟩ := aI hf
 have ec := pC gc
 subst ec
 refine ha O M W L σ H e _ _ _ o he f1 fun v1 H1 k1 r1 fr => ?_
 obtain ⟨en, r⟩ := r1
 cases r
 cases hf
 exact ⟨c, rfl, q _ H1 k1 ⟨en, .bl _⟩ trivial⟩
noncomputable def IT (fc : FT) (fa fb : FE) : FE := fun e => bE (fc e) fun b e1 => bB b (fa e1) (fb e1)
theorem qS {tc : TT} {ta tb : TE} {fc : FT} {fa fb : FE} (hc : lD K tc fc) (ha : Ref K ta fa) (hb : Ref K tb fb) : Ref K (YN tc ta tb) (IT fc fa fb) := by
 intro O M W L σ H e e' b Q o he hf q
 obtain ⟨x, e1, f1, hf⟩ := aS hf
 refine hc O M W L σ H e _ _ _ o he f1 fun H1 k1 en => ?_
 cases x with
 | true => rw [if_pos rfl]; exact ha O M W L σ H1 e1 _ _ _ (o.keep k1.dR) en hf fun v2 H2 k2 r2 fr => q v2 H2 (k1.trans k2) r2 (fr.back k1.dR)
 | false => rw [if_neg Bool.false_ne_true]; exact hb O M W L σ H1 e1 _ _ _ (o.keep k1.dR) en hf fun v2 H2 k2 r2 fr => q v2 H2 (k1.trans k2) r2 (fr.back k1.dR)
noncomputable abbrev FO := En → Option (Option Int × En)
noncomputable def LN (K : PySem.W.Frag) (t : TO) (f : FO) : Prop := ∀ (O M : aO) (W : WS) (L : aO) (σ : St) (H : Hp) (e e' : En) (b : Option Int) (Q : Option Int → Hp → Prop), kB O M W L H → aY K (bM M L) W L H σ e → f e = some (b, e') →
 (∀ H', cZ W L H H' → aY K (bM M L) W L H' σ e' → Q b H') → t σ H Q
noncomputable def dF : FO := fun e => some (none, e)
noncomputable def gR (f : FE) : FO := fun e => bE (f e) fun b e1 => match b with
 | .val (.int i) => some (some i, e1)
 | _ => none
theorem cR : LN K BA dF := by
 intro O M W L σ H e e' b Q o he hf q
 cases hf
 exact q H .refl he
theorem dW {t : TE} {f : FE} (h : Ref K t f) : LN K (M0 t) (gR f) := by
 intro O M W L σ H e e' b Q o he hf q
 obtain ⟨x, e1, f1, hf⟩ := aS hf
 cases x with
 | slot i => cases hf
 | new p => cases hf
 | val p =>
  cases p with
  | int c =>
   cases hf
   refine h O M W L σ H e _ _ _ o he f1 fun v1 H1 k1 r1 fr => ?_
   obtain ⟨en, r⟩ := r1
   cases r
   exact ⟨c, rfl, q H1 k1 en⟩
  | _ => cases hf
noncomputable def CU (K : PySem.W.Frag) (r : V → Option Int → Option Int → Hp → VK → Prop) (g : PV → Option Int → Option Int → Option Bv) : Prop := ∀ (Z : aO) (H : Hp) (x : V) (p : PV) (lo hi : Option Int) (b : Bv) (Q : VK), Red K Z H p x → g p lo hi = some b → (∀ v H', bG H H' → RN K Z H H' v b → Q v H') → r x lo hi H Q
noncomputable def uE (g : PV → Option Int → Option Int → Option Bv) (fa : FE) (fl fh : FO) : FE := fun e => bE (fa e) fun x e1 => bE (fl e1) fun lo e2 => bE (fh e2) fun hi e3 => bO (x.weak.get e3) fun p => bO (g p lo hi) fun b => some (b, e3)
theorem gJ {r : V → Option Int → Option Int → Hp → VK → Prop} {g : PV → Option Int → Option Int → Option Bv} {ta : TE} {tl th : TO} {fa : FE} {fl fh : FO} (hg : CU K r g) (ha : Ref K ta fa) (hl : LN K tl fl) (hh : LN K th fh) : Ref K (YT r ta tl th) (uE g fa fl fh) := by
 intro O M W L σ H e e' b Q o he hf q
 obtain ⟨x, e1, f1, hf⟩ := aS hf
 obtain ⟨lo, e2, f2, hf⟩ := aS hf
 obtain ⟨hi, e3, f3, hf⟩ := aS hf
 obtain ⟨p, g1, hf⟩ := aI hf
 obtain ⟨c, g3, hf⟩ := aI hf
 cases hf
 refine ha O M W L σ H e e1 x _ o he f1 fun v1 H1 k1 r1 fr => ?_
 have o1 := o.keep k1.dR
 refine hl O M W L σ H1 e1 e2 lo _ o1 (r1.en o1) f2 fun H2 k2 en2 => ?_
 have o2 := o1.keep k2.dR
 refine hh O M W L σ H2 e2 _ hi _ o2 en2 f3 fun H3 k3 en3 => ?_
 have o3 := o2.keep k3.dR
 refine hg _ H3 v1 p lo hi _ Q ((((r1.rv o1).keep o1 k2).keep o2 k3).red en3 g1) g3 fun v H' s rn => ?_
 exact q v H' (((k1.trans k2).trans k3).trans (.same s)) (rn.rb o3 en3 s) (rn.fr ((k1.trans k2).trans k3).dR)
end
end Mr
namespace Mr
open PySem L2
inductive Out where
 | nx (e : En) | rt (b : Bv) (e : En) | bk (e : En) | ct (e : En)
noncomputable abbrev FS := En → Option Out
structure lC (W : WS) (L L' : aO) (H H' : Hp) : Prop where
 obj : ∀ a o, H a = some o → ¬ aw W a → ¬ L a → H' a = some o
 tup : ∀ a xs, H a = some (.tup xs) → H' a = some (.tup xs)
 dR : ∀ a, H a ≠ none → H' a ≠ none
 new : ∀ a, L' a → L a ∨ H a = none
theorem lC.refl {W : WS} {L : aO} {H : Hp} : lC W L L H H := ⟨fun _ _ h _ _ => h, fun _ _ h => h, fun _ h => h, fun _ h => .inl h⟩
theorem lC.keep {W : WS} {L : aO} {H H' : Hp} (k : cZ W L H H') : lC W L L H H' := ⟨k.obj, k.tup, k.dR, fun _ h => .inl h⟩
theorem lC.trans {W : WS} {L L1 L2 : aO} {H H1 H2 : Hp} (a : lC W L L1 H H1) (b : lC W L1 L2 H1 H2) : lC W L L2 H H2 :=
 ⟨fun c o h n m => b.obj c o (a.obj c o h n m) n fun z => (a.new c z).elim m fun z => (by rw [h] at z; cases z), fun c xs h => b.tup c xs (a.tup c xs h), fun c h => b.dR c (a.dR c h), fun c h => by
  rcases b.new c h with z | z
  ·exact a.new c z
  ·refine .inr ?_
   cases e : H c with
   | none => rfl
   | some o => exact absurd z (a.dR c (by rw [e]; exact fun z => nomatch z))⟩
noncomputable def JF (K : PySem.W.Frag) (O M : aO) (W : WS) (L : aO) (H : Hp) (D : Ends) : Out → Prop
 | .nx e' => ∀ L' σ' H', lC W L L' H H' → kB O M W L' H' → aY K (bM M L') W L' H' σ' e' → D.nx σ' H'
 | .bk e' => ∀ L' σ' H', lC W L L' H H' → kB O M W L' H' → aY K (bM M L') W L' H' σ' e' → D.bk σ' H'
 | .ct e' => ∀ L' σ' H', lC W L L' H H' → kB O M W L' H' → aY K (bM M L') W L' H' σ' e' → D.ct σ' H'
 | .rt b e' => ∀ L' σ' H' v, lC W L L' H H' → kB O M W L' H' → RB K O M W L' H' σ' e' v b → D.rt v H'
theorem JF.later {K : PySem.W.Frag} {O M : aO} {W : WS} {L L1 : aO} {H H1 : Hp} {D : Ends} {r : Out} (g : lC W L L1 H H1) (h : JF K O M W L H D r) : JF K O M W L1 H1 D r := by
 cases r with
 | nx e => exact fun L' σ' H' g' => h L' σ' H' (g.trans g')
 | bk e => exact fun L' σ' H' g' => h L' σ' H' (g.trans g')
 | ct e => exact fun L' σ' H' g' => h L' σ' H' (g.trans g')
 | rt b e => exact fun L' σ' H' v g' => h L' σ' H' v (g.trans g')
noncomputable def iY (K : PySem.W.Frag) (t : TS) (f : FS) : Prop := ∀ (O M : aO) (W : WS) (L : aO) (σ : St) (H : Hp) (e : En) (r : Out) (D : Ends), kB O M W L H → aY K (bM M L) W L H σ e → f e = some r → JF K O M W L H D r → t D σ H
section
variable {K : PySem.W.Frag}
noncomputable def dQ : FS := fun e => some (.nx e)
theorem cI : iY K M8 dQ := by
 intro O M W L σ H e r D o he hf q
 cases hf
 exact q L σ H .refl o he
noncomputable def PQ : FS := fun e => some (.bk e)
noncomputable def TK : FS := fun e => some (.ct e)
noncomputable def bF (f g : FS) : FS := fun e => match f e with
 | some (.nx e1) => g e1
 | r => r
theorem aN {t u : TS} {f g : FS} (h1 : iY K t f) (h2 : iY K u g) : iY K (NO t u) (bF f g) := by
 intro O M W L σ H e r D o he hf q
 unfold bF at hf
 cases c : f e with
 | none => rw [c] at hf; cases hf
 | some r1 =>
  rw [c] at hf
  cases r1 with
  | nx e1 => exact h1 O M W L σ H e _ _ o he c fun L' σ' H' g' o' he' => h2 O M W L' σ' H' e1 r D o' he' hf (q.later g')
  | rt b e1 => cases hf; exact h1 O M W L σ H e _ _ o he c q
  | bk e1 => cases hf; exact h1 O M W L σ H e _ _ o he c q
  | ct e1 => cases hf; exact h1 O M W L σ H e _ _ o he c q
noncomputable def d7 (f : FE) : FS := fun e => bE (f e) fun b e1 => some (.rt b e1)
theorem bT {t : TE} {f : FE} (h : Ref K t f) : iY K (S5 t) (d7 f) := by
 intro O M W L σ H e r D o he hf q
 obtain ⟨x, e1, f1, hf⟩ := aS hf
 cases hf
 exact h O M W L σ H e _ _ _ o he f1 fun v H' k rb fr => q L σ H' v (.keep k) (o.keep k.dR) rb
noncomputable def UK : FS := fun e => some (.rt (.val .aZ) e)
noncomputable def S6 (f : FE) : FS := fun e => bE (f e) fun b e1 => some (.nx e1)
noncomputable def mR (fc : FT) (f g : FS) : FS := fun e => bE (fc e) fun b e1 => bB b (f e1) (g e1)
theorem cX {c : TT} {t u : TS} {fc : FT} {f g : FS} (hc : lD K c fc) (h1 : iY K t f) (h2 : iY K u g) : iY K (VD c t u) (mR fc f g) := by
 intro O M W L σ H e r D o he hf q
 obtain ⟨x, e1, f1, hf⟩ := aS hf
 refine hc O M W L σ H e _ _ _ o he f1 fun H1 k1 en => ?_
 cases x with
 | true => rw [if_pos rfl]; exact h1 O M W L σ H1 e1 r D (o.keep k1.dR) en hf (q.later (.keep k1))
 | false => rw [if_neg Bool.false_ne_true]; exact h2 O M W L σ H1 e1 r D (o.keep k1.dR) en hf (q.later (.keep k1))
theorem iC {α : Type} {l : List α} {i j : Nat} {x y : α} (h : (l.set i x)[j]? = some y) : (i = j ∧ i < l.length ∧ x = y) ∨ (i ≠ j ∧ l[j]? = some y) := by
 by_cases e : i = j
 ·subst e
  have hl : i < l.length := by
   have := (List.getElem?_eq_some_iff.mp h).1
   simpa using this
  rw [List.getElem?_set_self hl] at h
  exact .inl ⟨rfl, hl, Option.some.inj h⟩
 ·rw [List.getElem?_set_ne e] at h
  exact .inr ⟨e, h⟩
theorem aY.put {Z L : aO} {W : WS} {H : Hp} {σ : St} {e : En} {i : Nat} {s : Sl} {v : V} (h : aY K Z W L H σ e) (hm : s.eA = false) (hs : jL K Z W L H i v s) : aY K Z W L H (σ.set i (some v)) (e.set i (some s)) := by
 refine ⟨by rw [List.length_set, List.length_set]; exact h.len, fun j t q => ?_, fun j k s1 s2 hjk q1 q2 m1 m2 => ?_⟩
 ·rcases iC q with ⟨rfl, hl, e⟩ | ⟨hn, q⟩
  ·cases e
   exact ⟨v, by rw [List.getElem?_set_self (by rw [← h.len]; exact hl)], hs⟩
  ·rw [List.getElem?_set_ne hn]
   exact h.at' j t q
 ·rcases iC q1 with ⟨rfl, hl, e⟩ | ⟨hn1, q1⟩
  ·cases e; rw [hm] at m1; cases m1
  ·rcases iC q2 with ⟨rfl, hl, e⟩ | ⟨hn2, q2⟩
   ·cases e; rw [hm] at m2; cases m2
   ·rw [List.getElem?_set_ne hn1, List.getElem?_set_ne hn2]
    exact h.nQ j k s1 s2 hjk q1 q2 m1 m2
theorem aY.putL {M L : aO} {W : WS} {H : Hp} {σ : St} {e : En} {i : Nat} {p : PV} {a : Addr} (h : aY K (bM M (bM L (one a))) W (bM L (one a)) H σ e) (hf : J8 σ e a) (hc : iV K (bM M (bM L (one a))) H a p) :
  aY K (bM M (bM L (one a))) W (bM L (one a)) H (σ.set i (some (.ref a))) (e.set i (some (.loc p))) := by
 refine ⟨by rw [List.length_set, List.length_set]; exact h.len, fun j t q => ?_, fun j k s1 s2 hjk q1 q2 m1 m2 => ?_⟩
 ·rcases iC q with ⟨rfl, hl, e⟩ | ⟨hn, q⟩
  ·cases e
   exact ⟨_, by rw [List.getElem?_set_self (by rw [← h.len]; exact hl)], a, rfl, .inr rfl, hc⟩
  ·rw [List.getElem?_set_ne hn]
   exact h.at' j t q
 ·rcases iC q1 with ⟨rfl, hl, e⟩ | ⟨hn1, q1⟩
  ·rcases iC q2 with ⟨rfl, hl, e⟩ | ⟨hn2, q2⟩
   ·exact absurd rfl hjk
   ·rw [List.getElem?_set_ne hn2, List.getElem?_set_self (by rw [← h.len]; exact hl)]
    exact fun z => hf k s2 q2 m2 z.symm
  ·rcases iC q2 with ⟨rfl, hl, e⟩ | ⟨hn2, q2⟩
   ·rw [List.getElem?_set_ne hn1, List.getElem?_set_self (by rw [← h.len]; exact hl)]
    exact fun z => hf j s1 q1 m1 z
   ·rw [List.getElem?_set_ne hn1, List.getElem?_set_ne hn2]
    exact h.nQ j k s1 s2 hjk q1 q2 m1 m2
noncomputable def dY (i : Nat) (f : FE) : FS := fun e => bE (f e) fun b e1 => match b with
 | .val p => some (.nx (e1.set i (some (.val p))))
 | .new p => some (.nx (e1.set i (some (.val p))))
 | .slot j => match e1[j]? with
  | some (some (.bor p)) => some (.nx (e1.set i (some (.bor p))))
  | _ => none
theorem cA {i : Nat} {t : TE} {f : FE} (h : Ref K t f) : iY K (tF t (nH i)) (dY i f) := by
 intro O M W L σ H e r D o he hf q
 obtain ⟨x, e1, f1, hf⟩ := aS hf
 refine h O M W L σ H e _ _ _ o he f1 fun v H' k rb fr => ?_
 have o1 := o.keep k.dR
 cases x with
 | val p => cases hf; exact q L _ H' (.keep k) o1 (aY.put rb.1 rfl rb.2)
 | new p => cases hf; have rb := rb.weak o1; exact q L _ H' (.keep k) o1 (aY.put (s := .val p) rb.1 rfl rb.2)
 | slot j =>
  dsimp only at hf
  cases c : e1[j]? with
  | none => rw [c] at hf; cases hf
  | some s =>
   cases s with
   | none => rw [c] at hf; cases hf
   | some s =>
    rw [c] at hf
    cases s with
    | bor p =>
     cases hf
     obtain ⟨u, h1, h2⟩ := rb.1.at' j _ c
     rw [rb.2] at h1
     cases h1
     exact q L _ H' (.keep k) o1 (aY.put (s := .bor p) rb.1 rfl h2)
    | _ => cases hf
noncomputable def fZ (i : Nat) (f : FE) : FS := fun e => bE (f e) fun b e1 => match b with
 | .new p => some (.nx (e1.set i (some (.loc p))))
 | _ => none
theorem eS {i : Nat} {t : TE} {f : FE} (h : Ref K t f) : iY K (tF t (nH i)) (fZ i f) := by
 intro O M W L σ H e r D o he hf q
 obtain ⟨x, e1, f1, hf⟩ := aS hf
 cases x with
 | val p => cases hf
 | slot j => cases hf
 | new p =>
  cases hf
  refine h O M W L σ H e _ _ _ o he f1 fun v H' k rb fr => ?_
  obtain ⟨a, rfl, nO, nL, en, fe, c⟩ := rb
  obtain ⟨ob, hob, _⟩ := c.there
  have o1 := o.keep k.dR
  have new : H a = none := fr a rfl
  exact q (bM L (one a)) _ H' ⟨k.obj, k.tup, k.dR, fun b z => z.elim .inl fun z => .inr (by rw [show b = a from z]; exact new)⟩ ⟨o1.old, o1.mo, o1.wm, fun b z => z.elim (o1.loc b) fun z => (by rw [show b = a from z]; exact ⟨(by rw [hob]; exact fun z => nomatch z), nO⟩)⟩ (aY.putL en fe c)
noncomputable def rel (i : Nat) (e : En) : Option En := match e[i]? with
 | some (some (.loc p)) => some (e.set i (some (.val p)))
 | some (some (.val p)) => some e
 | _ => none
theorem aY.rel {O M L : aO} {W : WS} {H : Hp} {σ : St} {e : En} {i : Nat} {p : PV} (o : kB O M W L H) (h : aY K (bM M L) W L H σ e) (hi : e[i]? = some (some (.loc p))) : ∃ L', (∀ a, L' a → L a) ∧ aY K (bM M L') W L' H σ (e.set i (some (.val p))) := by
 obtain ⟨v, h1, a, rfl, la, c⟩ := h.at' i _ hi
 refine ⟨fun b => L b ∧ b ≠ a, fun b z => z.1, by rw [List.length_set]; exact h.len, fun j t q => ?_, fun j k s1 s2 hjk q1 q2 m1 m2 => ?_⟩
 ·have k : eJ (bM M L) (bM M fun b => L b ∧ b ≠ a) H H := .less fun b z => z.elim .inl fun z => .inr z.1
  rcases iC q with ⟨rfl, hl, e⟩ | ⟨hn, q⟩
  ·cases e
   refine ⟨_, h1, (c.aR k fun _ q => q).rep fun z => ?_⟩
   rcases z with z | z
   ·exact (o.loc a la).2 (o.mo a z)
   ·exact z.2 rfl
  ·obtain ⟨v, g1, g2⟩ := h.at' j t q
   refine ⟨v, g1, ?_⟩
   cases t with
   | val p => exact Rep.aR k g2
   | own p => obtain ⟨b, e, w, c⟩ := g2; exact ⟨b, e, w, c.aR k fun o q => q⟩
   | loc p =>
    obtain ⟨b, e, w, c⟩ := g2
    refine ⟨b, e, ⟨w, fun z => ?_⟩, c.aR k fun o q => q⟩
    subst z
    subst e
    exact h.nQ i j _ _ hn hi q rfl rfl (h1.trans g1.symm)
   | bor p =>
    obtain ⟨b, e, c⟩ := g2
    refine ⟨b, e, ?_⟩
    cases c with
    | lst e od n m r => exact .lst e od n (fun z => m z.1) (r.aR k)
    | gK e r => exact .gK e (r.aR k)
    | cC e od n m kk r => exact .cC e od n (fun z => m z.1) kk (r.aR k)
 ·rcases iC q1 with ⟨rfl, hl, e⟩ | ⟨hn1, q1⟩
  ·cases e; cases m1
  ·rcases iC q2 with ⟨rfl, hl, e⟩ | ⟨hn2, q2⟩
   ·cases e; cases m2
   ·exact h.nQ j k s1 s2 hjk q1 q2 m1 m2
noncomputable def L6 (i : Nat) (f : FS) : FS := fun e => bO (rel i e) f
theorem J1 {t : TS} {f : FS} (i : Nat) (h : iY K t f) : iY K t (L6 i f) := by
 intro O M W L σ H e r D o he hf q
 obtain ⟨e1, f1, hf⟩ := aI hf
 unfold Mr.rel at f1
 cases c : e[i]? with
 | none => rw [c] at f1; cases f1
 | some s =>
  cases s with
  | none => rw [c] at f1; cases f1
  | some s =>
   rw [c] at f1
   cases s with
   | loc p =>
    cases f1
    obtain ⟨L', hL, en⟩ := he.rel o c
    refine h O M W L' σ H _ r D ⟨o.old, o.mo, o.wm, fun a z => o.loc a (hL a z)⟩ en hf (q.later ⟨fun _ _ h _ _ => h, fun _ _ h => h, fun _ h => h, fun a z => .inl (hL a z)⟩)
   | val p => cases f1; exact h O M W L σ H _ r D o he hf q
   | _ => cases f1
noncomputable def cU (e : En) (i : Nat) (p : PV) : En := match e[i]? with
 | some (some (.own _)) => e.set i (some (.own p))
 | _ => e.set i (some (.loc p))
noncomputable def ownAt (e : En) (i : Nat) : Option PV := match e[i]? with
 | some (some (.own p)) => some p
 | some (some (.loc p)) => some p
 | _ => none
theorem cB {e : En} {i : Nat} {p : PV} (h : ownAt e i = some p) : (e[i]? = some (some (.own p)) ∨ e[i]? = some (some (.loc p))) := by
 unfold ownAt at h
 split at h
 ·cases h; exact .inl (by assumption)
 ·cases h; exact .inr (by assumption)
 ·cases h
theorem aY.own {Z L : aO} {W : WS} {H : Hp} {σ : St} {e : En} {i : Nat} {p : PV} (h : aY K Z W L H σ e) (g : ownAt e i = some p) : ∃ a, σ[i]? = some (some (.ref a)) ∧ (aw W a ∨ L a) ∧ iV K Z H a p := by
 rcases cB g with g | g
 ·obtain ⟨v, h1, a, rfl, w, c⟩ := h.at' i _ g
  exact ⟨a, h1, .inl ⟨i, w⟩, c⟩
 ·obtain ⟨v, h1, a, rfl, w, c⟩ := h.at' i _ g
  exact ⟨a, h1, .inr w, c⟩
theorem eJ.write {Z : aO} {H : Hp} {a : Addr} {o ob : HO} (z : Z a) (h : H a = some ob) (nt : ∀ xs, ob ≠ .tup xs) : eJ Z Z H (upd H a o) :=
 ⟨fun b xs e => by rw [bL (G5 e h fun z => nt _ z.symm)]; exact e, fun b u e n => ⟨by rw [bL (fun q : b = a => n (by rw [q]; exact z))]; exact e, n⟩⟩
theorem aY.write {M L : aO} {W : WS} {H : Hp} {σ : St} {e : En} {i : Nat} {p q : PV} {a : Addr} {ob : HO} (wm : ∀ i a, W i a → M a) (h : aY K (bM M L) W L H σ e) (g : ownAt e i = some p) (ha : σ[i]? = some (some (.ref a))) (c : iV K (bM M L) (upd H a ob) a q) :
  aY K (bM M L) W L (upd H a ob) σ (cU e i q) := by
 obtain ⟨a', h1, hz, c0⟩ := h.own g
 rw [ha] at h1
 cases h1
 have za : bM M L a := hz.elim (fun ⟨i, w⟩ => .inl (wm i a w)) .inr
 obtain ⟨o0, e0, nt⟩ := c0.there
 have k : eJ (bM M L) (bM M L) H (upd H a ob) := .write za e0 nt
 have hl : i < e.length := by
  rcases cB g with g | g <;> exact (List.getElem?_eq_some_iff.mp g).1
 have hm : ∃ s, e[i]? = some (some s) ∧ s.eA = true := by
  rcases cB g with g | g <;> exact ⟨_, g, rfl⟩
 obtain ⟨s0, hs0, hm0⟩ := hm
 have key : ∀ s', (cU e i q)[i]? = some (some s') → ∃ v, σ[i]? = some (some v) ∧ jL K (bM M L) W L (upd H a ob) i v s' := fun s' z => by
  unfold cU at z
  rcases cB g with g | g
  ·rw [g] at z
   rw [List.getElem?_set_self hl] at z
   cases z
   obtain ⟨v, h1, a', rfl, w, _⟩ := h.at' i _ g
   rw [ha] at h1; cases h1
   exact ⟨_, ha, a, rfl, w, c⟩
  ·rw [g] at z
   rw [List.getElem?_set_self hl] at z
   cases z
   obtain ⟨v, h1, a', rfl, w, _⟩ := h.at' i _ g
   rw [ha] at h1; cases h1
   exact ⟨_, ha, a, rfl, w, c⟩
 have oth : ∀ j, i ≠ j → (cU e i q)[j]? = e[j]? := fun j hj => by
  unfold cU
  rcases cB g with g | g <;> (rw [g]; exact List.getElem?_set_ne hj)
 refine ⟨?_, fun j t z => ?_, fun j l s1 s2 hjk q1 q2 m1 m2 => ?_⟩
 ·rw [← h.len]; unfold cU; rcases cB g with g | g <;> (rw [g]; exact List.length_set)
 ·by_cases hj : i = j
  ·subst hj; exact key t z
  ·rw [oth j hj] at z
   obtain ⟨v, g1, g2⟩ := h.at' j t z
   refine ⟨v, g1, ?_⟩
   cases t with
   | val p => exact Rep.aR k g2
   | own p =>
    obtain ⟨b, e', w, c⟩ := g2
    subst e'
    have hb : b ≠ a := fun z' => h.nQ i j s0 _ hj hs0 z hm0 rfl (by rw [ha, g1, z'])
    exact ⟨b, rfl, w, c.aR k fun o q => by rw [bL hb]; exact q⟩
   | loc p =>
    obtain ⟨b, e', w, c⟩ := g2
    subst e'
    have hb : b ≠ a := fun z' => h.nQ i j s0 _ hj hs0 z hm0 rfl (by rw [ha, g1, z'])
    exact ⟨b, rfl, w, c.aR k fun o q => by rw [bL hb]; exact q⟩
   | bor p =>
    obtain ⟨b, e', c⟩ := g2
    refine ⟨b, e', ?_⟩
    cases c with
    | lst e od n m r =>
     have hb : b ≠ a := fun z' => hz.elim (fun w => n (z' ▸ w)) fun w => m (z' ▸ w)
     exact .lst (e.elim (fun e => .inl (by rw [bL hb]; exact e)) fun ⟨u, e⟩ => .inr ⟨u, by rw [bL hb]; exact e⟩) od n m (r.aR k)
    | gK e r => exact .gK e (r.aR k)
    | cC e od n m kk r =>
     have hb : b ≠ a := fun z' => hz.elim (fun w => n (z' ▸ w)) fun w => m (z' ▸ w)
     exact .cC (e.elim (fun e => .inl (by rw [bL hb]; exact e)) fun ⟨u, e⟩ => .inr ⟨u, by rw [bL hb]; exact e⟩) od n m kk (r.aR k)
 ·have eA : ∀ (j : Nat) (s : Sl), (cU e i q)[j]? = some (some s) → s.eA = true → ∃ s' : Sl, e[j]? = some (some s') ∧ s'.eA = true := fun j s z m => by
   by_cases hj : i = j
   ·subst hj; exact ⟨s0, hs0, hm0⟩
   ·rw [oth j hj] at z; exact ⟨s, z, m⟩
  obtain ⟨t1, w1, n1⟩ := eA j s1 q1 m1
  obtain ⟨t2, w2, n2⟩ := eA l s2 q2 m2
  exact h.nQ j l t1 t2 hjk w1 w2 n1 n2
theorem cZ.write {W : WS} {L : aO} {H : Hp} {a : Addr} {ob o : HO} (hz : aw W a ∨ L a) (h : H a = some ob) (nt : ∀ xs, ob ≠ .tup xs) : cZ W L H (upd H a o) :=
 ⟨fun b u e n m => by rw [bL (fun q : b = a => hz.elim (fun z => n (by rw [q]; exact z)) fun z => m (by rw [q]; exact z))]; exact e, fun b xs e => by rw [bL (G5 e h fun z => nt _ z.symm)]; exact e, fun b e => by
  by_cases hb : b = a
  ·subst hb; rw [cG]; exact fun z => nomatch z
  ·rw [bL hb]; exact e⟩
noncomputable def sT (i : Nat) (f : FE) : FS := fun e => bO (ownAt e i) fun p0 => match p0 with
 | .lst _ => bE (f e) fun b e1 => bO b.put fun p => match ownAt e1 i with
  | some (.lst ps) => aU (decide (ps.length < 1000000)) (some (.nx (cU e1 i (.lst (ps ++ [p])))))
  | _ => none
 | _ => none
theorem RB.put {O M L : aO} {W : WS} {H : Hp} {σ : St} {e : En} {v : V} {b : Bv} {p : PV} (o : kB O M W L H) (h : RB K O M W L H σ e v b) (g : b.put = some p) : aY K (bM M L) W L H σ e ∧ Rep K (bM M L) H p v := by
 have h := h.weak o
 cases b with
 | val q => cases g; exact h
 | new q => cases g; exact h
 | slot i => cases g
theorem lW {i : Nat} {t : TE} {f : FE} (h : Ref K t f) : iY K (MW (TB K "list" B5 (DB i) (fF t zP))) (sT i f) := by
 intro O M W L σ H e r D o he hf q
 obtain ⟨p0, g0, hf⟩ := aI hf
 cases p0 with
 | lst ps0 =>
  obtain ⟨x, e1, f1, hf⟩ := aS hf
  obtain ⟨p, g1, hf⟩ := aI hf
  cases c : ownAt e1 i with
  | none => rw [c] at hf; cases hf
  | some q1 =>
   rw [c] at hf
   cases q1 with
   | lst ps =>
    obtain ⟨g2, hf⟩ := aT hf
    cases hf
    obtain ⟨a, ha, hz, ct⟩ := he.own g0
    refine ⟨_, ha, .inl ⟨rfl, ?_⟩, ?_⟩
    ·cases ct with | lst e r => exact ⟨_, jC.of e⟩
    refine h O M W L σ H e _ _ _ o he f1 fun v H' k rb fr => ?_
    have o1 := o.keep k.dR
    obtain ⟨en, rp⟩ := rb.put o1 g1
    obtain ⟨a', ha', hz', ct'⟩ := en.own c
    rw [ha] at ha'
    cases ha'
    cases ct' with
    | lst e2 r2 =>
     rename_i xs
     refine ⟨a, xs, v, rfl, rfl, e2, by rw [← r2.length]; exact jQ g2, ?_⟩
     have kw : cZ W L H' (upd H' a (.lst (xs ++ [v]))) := .write hz e2 fun _ z => nomatch z
     have st : eJ (bM M L) (bM M L) H' (upd H' a (.lst (xs ++ [v]))) := .write (hz.elim (fun ⟨i, w⟩ => .inl (o.wm i a w)) .inr) e2 fun _ z => nomatch z
     exact q L σ _ (.keep (k.trans kw)) (o1.keep kw.dR) (aY.write o.wm en c ha (.lst cG ((r2.aR st).app (.cons (rp.aR st) .nil))))
   | _ => cases hf
 | _ => cases hf
noncomputable def uY (i : Nat) (fi fv : FE) : FS := fun e => bE (fv e) fun b e1 => bO b.put fun p => bO (ownAt e1 i) fun _ => bE (fi e1) fun k e2 => match k with
 | .val (.int k) => match ownAt e2 i with
  | some (.lst ps) => bO (sV ps.length k) fun j => some (.nx (cU e2 i (.lst (ps.set j p))))
  | _ => none
 | _ => none
theorem uD {i : Nat} {tv ti : TE} {fv fi : FE} (hv : Ref K tv fv) (hi : Ref K ti fi) : iY K (tF tv (zR (DB i) ti MX)) (uY i fi fv) := by
 intro O M W L σ H e r D o he hf q
 obtain ⟨x, e1, f1, hf⟩ := aS hf
 obtain ⟨p, g1, hf⟩ := aI hf
 obtain ⟨p0, g0, hf⟩ := aI hf
 obtain ⟨y, e2, f2, hf⟩ := aS hf
 cases y with
 | slot i => cases hf
 | new p => cases hf
 | val y =>
  cases y with
  | int k =>
   dsimp only at hf
   cases c : ownAt e2 i with
   | none => rw [c] at hf; cases hf
   | some q1 =>
    rw [c] at hf
    cases q1 with
    | lst ps =>
     obtain ⟨j, g2, hf⟩ := aI hf
     cases hf
     refine hv O M W L σ H e _ _ _ o he f1 fun v H1 k1 rb fr => ?_
     have o1 := o.keep k1.dR
     obtain ⟨en, rp⟩ := rb.put o1 g1
     obtain ⟨a, ha, _, _⟩ := en.own g0
     refine ⟨_, ha, hi O M W L σ H1 e1 _ _ _ o1 en f2 fun v2 H2 k2 rb2 fr2 => ?_⟩
     obtain ⟨en2, r2⟩ := rb2
     cases r2
     have o2 := o1.keep k2.dR
     obtain ⟨a', ha', hz, ct⟩ := en2.own c
     rw [ha] at ha'
     cases ha'
     cases ct with
     | lst e3 r3 =>
      rename_i xs
      refine ⟨a, xs, k, j, rfl, rfl, e3, by rw [← r3.length]; exact g2, ?_⟩
      have kw : cZ W L H2 (upd H2 a (.lst (xs.set j v))) := .write hz e3 fun _ z => nomatch z
      have st : eJ (bM M L) (bM M L) H2 (upd H2 a (.lst (xs.set j v))) := .write (hz.elim (fun ⟨i, w⟩ => .inl (o.wm i a w)) .inr) e3 fun _ z => nomatch z
      exact q L σ _ (.keep ((k1.trans k2).trans kw)) (o2.keep kw.dR) (aY.write o.wm en2 c ha (.lst cG ((r3.aR st).set ((rp.aR (k2.aR o1)).aR st) j)))
    | _ => cases hf
  | _ => cases hf
end
end Mr
namespace Mr
open PySem L2
noncomputable def jP (kvs : List (Key × PV)) (k : Key) : Option PV := (kvs.find? fun kv => decide (kv.1 = k)).map (·.2)
noncomputable def lB (kvs : List (Key × PV)) (k : Key) (v : PV) : List (Key × PV) :=
 if (kvs.any fun kv => decide (kv.1 = k)) = true then kvs.map (fun kv => if kv.1 = k then (kv.1, v) else kv) else kvs ++ [(k, v)]
section
variable {K : PySem.W.Frag} {Z : aO} {H : Hp}
noncomputable def fB (K : PySem.W.Frag) (Z : aO) (H : Hp) (kvs : List (Key × PV)) (ys : List (Key × V)) : Prop := ys.map (·.1) = kvs.map (·.1) ∧ bP K Z H (kvs.map (·.2)) (ys.map (·.2))
theorem fB.cases {kvs : List (Key × PV)} {ys : List (Key × V)} (h : fB K Z H kvs ys) : (kvs = [] ∧ ys = []) ∨ ∃ k p v r s, kvs = (k, p) :: r ∧ ys = (k, v) :: s ∧ Rep K Z H p v ∧ fB K Z H r s := by
 obtain ⟨h1, h2⟩ := h
 cases kvs with
 | nil =>
  cases ys with
  | nil => exact .inl ⟨rfl, rfl⟩
  | cons y ys => cases h1
 | cons x kvs =>
  cases ys with
  | nil => cases h1
  | cons y ys =>
   obtain ⟨a, p⟩ := x
   obtain ⟨b, v⟩ := y
   rw [List.map_cons, List.map_cons] at h1
   have h1' := List.cons.inj h1
   have e : b = a := h1'.1
   subst e
   cases h2 with
   | cons h2 r2 => exact .inr ⟨b, p, v, kvs, ys, rfl, rfl, h2, h1'.2, r2⟩
theorem fB.cons {k : Key} {p : PV} {v : V} {r : List (Key × PV)} {s : List (Key × V)} (h : Rep K Z H p v) (hr : fB K Z H r s) : fB K Z H ((k, p) :: r) ((k, v) :: s) :=
 ⟨by rw [List.map_cons, List.map_cons, hr.1], .cons h hr.2⟩
theorem fB.val : ∀ {kvs : List (Key × PV)} {ys : List (Key × V)} (k : Key), fB K Z H kvs ys → (jP kvs k = none ∧ iT ys k = none) ∨ ∃ p v, jP kvs k = some p ∧ iT ys k = some v ∧ Rep K Z H p v
 | [], ys, k, h => by
  rcases h.cases with ⟨_, rfl⟩ | ⟨_, _, _, _, _, e, _⟩
  ·exact .inl ⟨rfl, rfl⟩
  ·cases e
 | x :: kvs, ys, k, h => by
  rcases h.cases with ⟨e, _⟩ | ⟨j, p, v, r, s, e, e', hp, hr⟩
  ·cases e
  ·cases e
   subst e'
   by_cases hj : j = k
   ·exact .inr ⟨p, v, by simp [jP, List.find?_cons, hj], by simp [iT, List.find?_cons, hj], hp⟩
   ·have a : jP ((j, p) :: kvs) k = jP kvs k := by simp [jP, List.find?_cons, hj]
    have b : iT ((j, v) :: s) k = iT s k := by simp [iT, List.find?_cons, hj]
    rw [a, b]
    exact fB.val k hr
theorem fB.any {kvs : List (Key × PV)} {ys : List (Key × V)} (k : Key) (h : fB K Z H kvs ys) : (kvs.any fun kv => decide (kv.1 = k)) = ys.any fun kv => decide (kv.1 = k) := by
 have e1 : (kvs.any fun kv => decide (kv.1 = k)) = (kvs.map (·.1)).any fun j => decide (j = k) := by rw [List.any_map]; rfl
 have e2 : (ys.any fun kv => decide (kv.1 = k)) = (ys.map (·.1)).any fun j => decide (j = k) := by rw [List.any_map]; rfl
 rw [e1, e2, h.1]
theorem fB.zQ {p : PV} {v : V} (hp : Rep K Z H p v) (k : Key) : ∀ {kvs : List (Key × PV)} {ys : List (Key × V)}, fB K Z H kvs ys → fB K Z H (kvs.map fun kv => if kv.1 = k then (kv.1, p) else kv) (ys.map fun kv => if kv.1 = k then (kv.1, v) else kv)
 | [], ys, h => by
  rcases h.cases with ⟨_, rfl⟩ | ⟨_, _, _, _, _, e, _⟩
  ·exact h
  ·cases e
 | x :: kvs, ys, h => by
  rcases h.cases with ⟨e, _⟩ | ⟨j, q, u, r, s, e, e', hq, hr⟩
  ·cases e
  ·cases e
   subst e'
   rw [List.map_cons, List.map_cons]
   by_cases hj : j = k
   ·rw [if_pos hj, if_pos hj]; exact .cons hp (fB.zQ hp k hr)
   ·rw [if_neg hj, if_neg hj]; exact .cons hq (fB.zQ hp k hr)
theorem fB.put {kvs : List (Key × PV)} {ys : List (Key × V)} {p : PV} {v : V} (k : Key) (h : fB K Z H kvs ys) (hp : Rep K Z H p v) : fB K Z H (lB kvs k p) (putK ys k v) := by
 unfold lB putK
 rw [h.any k]
 split
 ·exact h.zQ hp k
 ·exact ⟨by rw [List.map_append, List.map_append, h.1]; rfl, by rw [List.map_append, List.map_append]; exact h.2.app (.cons hp .nil)⟩
end
noncomputable def keyOf : PV → Option Key
 | .int i => some (.inl i)
 | .str x => some (.inr x)
 | _ => none
section
variable {K : PySem.W.Frag}
theorem Red.key {Z : aO} {H : Hp} {p : PV} {v : V} {k : Key} (h : Red K Z H p v) (g : keyOf p = some k) : v = kV k := by
 cases p with
 | int i => cases g; exact h.int
 | str i => cases g; exact h.str
 | _ => cases g
noncomputable def kY (i : Nat) (fk fv : FE) : FS := fun e => bE (fv e) fun b e1 => bO b.put fun p => bO (ownAt e1 i) fun _ => bE (fk e1) fun k e2 => bO (k.weak.get e2) fun kp => bO (keyOf kp) fun key => match ownAt e2 i with
  | some (.cC kvs) => aU (decide (kvs.length < 1000000)) (some (.nx (cU e2 i (.cC (lB kvs key p)))))
  | _ => none
theorem lK {i : Nat} {tv tk : TE} {fv fk : FE} (hv : Ref K tv fv) (hk : Ref K tk fk) : iY K (L2.kY (DB i) tk tv) (kY i fk fv) := by
 intro O M W L σ H e r D o he hf q
 obtain ⟨x, e1, f1, hf⟩ := aS hf
 obtain ⟨p, g1, hf⟩ := aI hf
 obtain ⟨p0, g0, hf⟩ := aI hf
 obtain ⟨y, e2, f2, hf⟩ := aS hf
 obtain ⟨kp, g3, hf⟩ := aI hf
 obtain ⟨key, g4, hf⟩ := aI hf
 cases c : ownAt e2 i with
 | none => rw [c] at hf; cases hf
 | some q1 =>
  rw [c] at hf
  cases q1 with
  | cC kvs =>
   obtain ⟨g2, hf⟩ := aT hf
   cases hf
   refine hv O M W L σ H e _ _ _ o he f1 fun v H1 k1 rb fr => ?_
   have o1 := o.keep k1.dR
   obtain ⟨en, rp⟩ := rb.put o1 g1
   obtain ⟨a, ha, _, _⟩ := en.own g0
   refine ⟨_, ha, hk O M W L σ H1 e1 _ _ _ o1 en f2 fun v2 H2 k2 rb2 fr2 => ?_⟩
   have o2 := o1.keep k2.dR
   have en2 := rb2.en o2
   have ek := ((rb2.rv o2).red en2 g3).key g4
   subst ek
   obtain ⟨a', ha', hz, ct⟩ := en2.own c
   rw [ha] at ha'
   cases ha'
   cases ct with
   | cC e3 kk r3 =>
    rename_i ys
    have hl : ys.length = kvs.length := by have := congrArg List.length kk; simpa using this
    refine ⟨a, rfl, .inl ⟨_, _, ⟨_, e3⟩, rfl, by rw [hl]; exact jQ g2, fun ep => ?_⟩⟩
    have kw : cZ W L H2 (upd H2 a (.dK (putK ys key v) ep)) := .write hz e3 fun _ z => nomatch z
    have st : eJ (bM M L) (bM M L) H2 (upd H2 a (.dK (putK ys key v) ep)) := .write (hz.elim (fun ⟨i, w⟩ => .inl (o.wm i a w)) .inr) e3 fun _ z => nomatch z
    have rd : fB K (bM M L) (upd H2 a (.dK (putK ys key v) ep)) (lB kvs key p) (putK ys key v) := fB.put key ⟨kk, r3.aR st⟩ ((rp.aR (k2.aR o1)).aR st)
    exact q L σ _ (.keep ((k1.trans k2).trans kw)) (o2.keep kw.dR) (aY.write o.wm en2 c ha (.cC cG rd.1 rd.2))
  | _ => cases hf
noncomputable abbrev FG := PV → En → Option En
noncomputable abbrev HU := List PV → En → Option En
noncomputable def wJ (K : PySem.W.Frag) (g : TG) (f : FG) : Prop := ∀ (O M : aO) (W : WS) (L : aO) (σ : St) (H : Hp) (e e' : En) (p : PV) (v : V) (Q : St → Hp → Prop), kB O M W L H → aY K (bM M L) W L H σ e → Rep K (bM M L) H p v → f p e = some e' → (∀ σ', aY K (bM M L) W L H σ' e' → Q σ' H) → g v σ H Q
noncomputable def AY (K : PySem.W.Frag) (g : HE) (f : HU) : Prop := ∀ (O M : aO) (W : WS) (L : aO) (σ : St) (H : Hp) (e e' : En) (p : List PV) (v : List V) (Q : St → Hp → Prop), kB O M W L H → aY K (bM M L) W L H σ e → bP K (bM M L) H p v → f p e = some e' → (∀ σ', aY K (bM M L) W L H σ' e' → Q σ' H) → g v σ H Q
noncomputable def bX (i : Nat) : FG := fun p e => some (e.set i (some (.val p)))
theorem bS (i : Nat) : wJ K (nH i) (bX i) := by
 intro O M W L σ H e e' p v Q o he hp hf q
 cases hf
 exact q _ (aY.put he rfl hp)
noncomputable def sQ : HU := fun ps e => match ps with | [] => some e | _ => none
noncomputable def iN (f : FG) (g : HU) : HU := fun ps e => match ps with | p :: ps => bO (f p e) (g ps) | [] => none
theorem rE : AY K T4 sQ := by
 intro O M W L σ H e e' p v Q o he hp hf q
 cases p with
 | nil => cases hf; cases hp; exact ⟨rfl, q σ he⟩
 | cons p ps => cases hf
theorem iZ {g : TG} {gs : HE} {f : FG} {fs : HU} (h1 : wJ K g f) (h2 : AY K gs fs) : AY K (NG g gs) (iN f fs) := by
 intro O M W L σ H e e' p v Q o he hp hf q
 cases p with
 | nil => cases hf
 | cons p ps =>
  obtain ⟨e1, f1, hf⟩ := aI hf
  cases hp with
  | cons hp hr => exact ⟨_, _, rfl, h1 O M W L σ H e e1 p _ _ o he hp f1 fun σ' he' => h2 O M W L σ' H e1 e' ps _ _ o he' hr hf q⟩
noncomputable def rN (n : Nat) (f : HU) : FG := fun p e => match p with
 | .tup ps => aU (decide (ps.length = n)) (f ps e)
 | _ => none
theorem qI {n : Nat} {g : HE} {f : HU} (h : AY K g f) : wJ K (OV K n g) (rN n f) := by
 intro O M W L σ H e e' p v Q o he hp hf q
 cases p with
 | tup ps =>
  obtain ⟨g1, hf⟩ := aT hf
  cases hp with
  | tup ha hr => exact ⟨_, _, rfl, ha.sq, by rw [← hr.length]; exact of_decide_eq_true g1, h O M W L σ H e e' ps _ Q o he hr hf q⟩
 | _ => cases hf
noncomputable def NJ (f : FE) (fg : FG) : FS := fun e => bE (f e) fun b e1 => bO b.put fun p => bO (fg p e1) fun e2 => some (.nx e2)
theorem L7 {t : TE} {g : TG} {f : FE} {fg : FG} (h : Ref K t f) (hg : wJ K g fg) : iY K (tF t g) (NJ f fg) := by
 intro O M W L σ H e r D o he hf q
 obtain ⟨x, e1, f1, hf⟩ := aS hf
 obtain ⟨p, g1, hf⟩ := aI hf
 obtain ⟨e2, f2, hf⟩ := aI hf
 cases hf
 refine h O M W L σ H e _ _ _ o he f1 fun v H1 k1 rb fr => ?_
 have o1 := o.keep k1.dR
 obtain ⟨en, rp⟩ := rb.put o1 g1
 exact hg O M W L σ H1 e1 e2 p v _ o1 en rp f2 fun σ' he' => q L σ' H1 (.keep k1) o1 he'
noncomputable def WR (i j : Nat) (fa : FA) : FS := fun e => bE (fa e) fun bs e1 => bO (putL bs) fun ps => match ps with
 | [p, q] => some (.nx ((e1.set i (some (.val p))).set j (some (.val q))))
 | _ => none
noncomputable def E7 (K : PySem.W.Frag) (M L Wr : aO) (H : Hp) (J : It) (items : List PV) : Prop := ∀ L' H', (∀ a o, H a = some o → ¬ Wr a → H' a = some o) → (∀ a xs, H a = some (.tup xs) → H' a = some (.tup xs)) → (∀ a, L' a → L a ∨ H a = none) →
 (∀ k p, items[k]? = some p → J.go k H' ∧ ∀ x H3, J.SO k H' x H3 → bG H' H3 ∧ Rep K (bM M L') H3 p x) ∧ J.stop items.length H'
noncomputable abbrev FI := (Nat → Bool) → En → Option (List PV × En)
noncomputable def xV (K : PySem.W.Frag) (wi : TI) (f : FI) : Prop := ∀ (st : Nat → Bool) (O M : aO) (W : WS) (L : aO) (σ : St) (H : Hp) (e e' : En) (ps : List PV) (R : It → Hp → Prop), kB O M W L H → aY K (bM M L) W L H σ e → f st e = some (ps, e') →
 (∀ J H', cZ W L H H' → aY K (bM M L) W L H' σ e' →
  (∀ Wr : aO, (∀ a, Wr a → aw W a ∨ L a) → (∀ (i : Nat) a s, st i = true → e'[i]? = some (some s) → s.eA = true → σ[i]? = some (some (.ref a)) → ¬ Wr a) → E7 K M L Wr H' J ps) → R J H') → wi σ H R
noncomputable def mM (body : PV → En → Option Out) : List PV → En → Option Out
 | [], e => some (.nx e)
 | x :: xs, e => match body x e with
  | some (.nx e1) => mM body xs e1
  | some (.ct e1) => mM body xs e1
  | some (.bk e1) => some (.nx e1)
  | some (.rt b e1) => some (.rt b e1)
  | none => none
noncomputable def kU (fi : FI) (fg : FG) (fb : FS) : FS := fun e => bE (fi (fun _ => false) e) fun ps e1 => mM (fun x e => bO (fg x e) fb) ps e1
theorem gS {wi : TI} {g : TG} {tb : TS} {fi : FI} {fg : FG} {fb : FS} (hi : xV K wi fi) (hg : wJ K g fg) (hb : iY K tb fb) : iY K (U3 wi g tb) (kU fi fg fb) := by
 intro O M W L σ H e r D o he hf q
 obtain ⟨ps, e1, f1, hf⟩ := aS hf
 refine hi (fun _ => false) O M W L σ H e e1 ps _ o he f1 fun J H1 k1 en it => ?_
 have it := it (bM (aw W) L) (fun a z => z) fun i a s z => nomatch z
 have o1 := o.keep k1.dR
 have q1 := q.later (.keep k1)
 let N : Nat → St → Hp → Prop := fun i σ' H' => ∃ L' e', lC W L L' H1 H' ∧ kB O M W L' H' ∧ aY K (bM M L') W L' H' σ' e' ∧ mM (fun x e => bO (fg x e) fb) (ps.drop i) e' = some r
 refine ⟨fun i m σ' H' => m = ps.length - i ∧ i ≤ ps.length ∧ N i σ' H', ⟨ps.length, by simp, Nat.zero_le _, L, e1, .refl, o1, en, by rw [List.drop_zero]; exact hf⟩, ?_⟩
 rintro i m σ2 H2 ⟨rfl, hil, L2, e2, g2, o2, en2, f2⟩
 obtain ⟨itm, its⟩ := it L2 H2 (fun a ob h n => g2.obj a ob h (fun z => n (.inl z)) fun z => n (.inr z)) g2.tup g2.new
 by_cases hlt : i < ps.length
 ·refine .inr ?_
  obtain ⟨go, yl⟩ := itm i ps[i] (by simp [hlt])
  refine ⟨go, N (i + 1), fun σ' H' n => ⟨ps.length - (i + 1), by omega, rfl, hlt, n⟩, fun x H3 y => ?_⟩
  obtain ⟨s3, rp⟩ := yl x H3 y
  rw [List.drop_eq_getElem_cons hlt] at f2
  unfold mM at f2
  have k3 : cZ W L2 H2 H3 := .same s3
  have o3 := o2.keep k3.dR
  have g3 : lC W L L2 H1 H3 := g2.trans (.keep k3)
  cases c1 : fg ps[i] e2 with
  | none => rw [c1] at f2; cases f2
  | some e3 =>
   rw [c1] at f2
   refine hg O M W L2 σ2 H3 e2 e3 _ x _ o3 (en2.same s3) rp c1 fun σ3 en3 => ?_
   cases c2 : fb e3 with
   | none => rw [vL, c2] at f2; cases f2
   | some r1 =>
    rw [vL, c2] at f2
    refine hb O M W L2 σ3 H3 e3 r1 _ o3 en3 c2 ?_
    cases r1 with
    | nx e4 => exact fun L' σ' H' g' o' en' => ⟨L', e4, g3.trans g', o', en', f2⟩
    | ct e4 => exact fun L' σ' H' g' o' en' => ⟨L', e4, g3.trans g', o', en', f2⟩
    | bk e4 => cases f2; exact fun L' σ' H' g' o' en' => q1 L' σ' H' (g3.trans g') o' en'
    | rt b e4 => cases f2; exact fun L' σ' H' v g' o' en' => q1 L' σ' H' v (g3.trans g') o' en'
 ·have e : i = ps.length := by omega
  subst e
  rw [List.drop_length] at f2
  cases f2
  exact .inl ⟨its, q1 L2 σ2 H2 g2 o2 en2⟩
noncomputable def lS (fc : FT) (fb : FS) : Nat → En → Option Out
 | 0, _ => none
 | n + 1, e => bE (fc e) fun b e1 => match b with
  | false => some (.nx e1)
  | true => match fb e1 with
   | some (.nx e2) => lS fc fb n e2
   | some (.ct e2) => lS fc fb n e2
   | some (.bk e2) => some (.nx e2)
   | some (.rt b e2) => some (.rt b e2)
   | none => none
theorem C9 {c : TT} {tb : TS} {fc : FT} {fb : FS} (n : Nat) (hc : lD K c fc) (hb : iY K tb fb) : iY K (IE c tb) (lS fc fb n) := by
 intro O M W L σ H e r D o he hf q
 let N : Nat → St → Hp → Prop := fun m σ' H' => ∃ L' e', lC W L L' H H' ∧ kB O M W L' H' ∧ aY K (bM M L') W L' H' σ' e' ∧ lS fc fb m e' = some r
 refine ⟨N, ⟨n, L, e, .refl, o, he, hf⟩, ?_⟩
 rintro m σ2 H2 ⟨L2, e2, g2, o2, en2, f2⟩
 cases m with
 | zero => cases f2
 | succ m =>
  obtain ⟨b, e3, c1, f2⟩ := aS f2
  refine hc O M W L2 σ2 H2 e2 e3 b _ o2 en2 c1 fun H3 k3 en3 => ?_
  have o3 := o2.keep k3.dR
  have g3 : lC W L L2 H H3 := g2.trans (.keep k3)
  cases b with
  | false => cases f2; rw [if_neg Bool.false_ne_true]; exact q L2 σ2 H3 g3 o3 en3
  | true =>
   rw [if_pos rfl]
   refine ⟨N m, fun σ' H' z => ⟨m, Nat.lt_succ_self m, z⟩, ?_⟩
   dsimp only at f2
   cases c2 : fb e3 with
   | none => rw [c2] at f2; cases f2
   | some r1 =>
    rw [c2] at f2
    refine hb O M W L2 σ2 H3 e3 r1 _ o3 en3 c2 ?_
    cases r1 with
    | nx e4 => exact fun L' σ' H' g' o' en' => ⟨L', e4, g3.trans g', o', en', f2⟩
    | ct e4 => exact fun L' σ' H' g' o' en' => ⟨L', e4, g3.trans g', o', en', f2⟩
    | bk e4 => cases f2; exact fun L' σ' H' g' o' en' => q L' σ' H' (g3.trans g') o' en'
    | rt b e4 => cases f2; exact fun L' σ' H' v g' o' en' => q L' σ' H' v (g3.trans g') o' en'
end
end Mr
namespace Mr
open PySem L2
noncomputable def wH (e : En) (ms : List (Nat × Nat)) (i j : Nat) : Option Sl := match e[i]? with
 | some (some (.val p)) => some (.val p)
 | some (some (.bor p)) => some (.bor p)
 | some (some (.own p)) => if ms.contains (i, j) then some (.own p) else if ms.any (fun z => z.1 == i) then none else some (.bor p)
 | some (some (.loc p)) => if ms.contains (i, j) then some (.own p) else if ms.any (fun z => z.1 == i) then none else some (.bor p)
 | _ => none
noncomputable def wI (e : En) (ms : List (Nat × Nat)) : Nat → List Nat → En
 | _, [] => []
 | j, i :: r => wH e ms i j :: wI e ms (j + 1) r
noncomputable def m9 (k : Nat) (dN : List Nat) (ms : List (Nat × Nat)) (e : En) : En := List.replicate k none ++ wI e ms k dN
theorem yW {e : En} {ms : List (Nat × Nat)} : ∀ {dN : List Nat} {j q : Nat}, (wI e ms j dN)[q]? = (dN[q]?).map fun i => wH e ms i (j + q)
 | [], j, q => by simp [wI]
 | i :: r, j, 0 => by simp [wI]
 | i :: r, j, q + 1 => by
  rw [wI, List.getElem?_cons_succ, yW, List.getElem?_cons_succ]
  congr 1
  funext i
  rw [show j + 1 + q = j + (q + 1) by omega]
theorem sL {e : En} {ms : List (Nat × Nat)} : ∀ {dN : List Nat} {j : Nat}, (wI e ms j dN).length = dN.length
 | [], j => rfl
 | i :: r, j => by rw [wI, List.length_cons, List.length_cons, sL]
theorem kA {k : Nat} {dN : List Nat} {ms : List (Nat × Nat)} {e : En} {j : Nat} {s : Sl} (h : (m9 k dN ms e)[j]? = some (some s)) : ∃ q i, j = k + q ∧ dN[q]? = some i ∧ wH e ms i j = some s := by
 unfold m9 at h
 by_cases hj : j < k
 ·rw [List.getElem?_append_left (by simpa using hj), List.getElem?_replicate] at h
  split at h <;> cases h
 ·rw [List.getElem?_append_right (by simpa using hj), List.length_replicate, yW] at h
  cases q : dN[j - k]? with
  | none => rw [q] at h; cases h
  | some i =>
   rw [q] at h
   have h' : wH e ms i (k + (j - k)) = some s := Option.some.inj h
   rw [show k + (j - k) = j by omega] at h'
   exact ⟨j - k, i, by omega, q, h'⟩
theorem j8 {k : Nat} {dN : List Nat} {σ : St} {q i : Nat} {v : V} (h : dN[q]? = some i) (hv : σ[i]? = some (some v)) : (gM k dN σ)[k + q]? = some (some v) := by
 unfold gM
 rw [List.getElem?_append_right (by simp), List.length_replicate, List.getElem?_map, show k + q - k = q by omega, h]
 show some ((σ[i]?).getD none) = _
 rw [hv]; rfl
noncomputable def j9 (fg : FG) (ft : FT) (fe : FE) : List PV → En → Option (List PV × En)
 | [], e => some ([], e)
 | x :: xs, e => bO (fg x e) fun e1 => bE (ft e1) fun b e2 => match b with
  | false => j9 fg ft fe xs e2
  | true => bE (fe e2) fun r e3 => bO r.put fun p => bE (j9 fg ft fe xs e3) fun ys e4 => some (p :: ys, e4)
noncomputable def mQ (ei : En) : List (Nat × Nat) → En → Option En
 | [], e => some e
 | (i, j) :: r, e => bO (ownAt ei j) fun p => bO (ownAt e i) fun _ => mQ ei r (cU e i p)
noncomputable def j6 (fi : FI) (k : Nat) (dN : List Nat) (ms : List (Nat × Nat)) (fg : FG) (ft : FT) (fe : FE) : FE := fun e =>
 bE (fi (fun i => !(ms.any fun z => z.1 == i)) e) fun items e1 => aU (decide (items.length < 1000000)) (bE (j9 fg ft fe items (m9 k dN ms e1)) fun ys ei => bO (mQ ei ms e1) fun e2 => some (.new (.lst ys), e2))
structure vC (K : PySem.W.Frag) (Z : aO) (W : WS) (L : aO) (H : Hp) (σ : St) (T : Nat → Prop) (e : En) : Prop where
 len : e.length = σ.length
 at' : ∀ (i : Nat) s, e[i]? = some (some s) → ∃ v, σ[i]? = some (some v) ∧ ((¬ T i ∨ s.eA = false) → jL K Z W L H i v s) ∧ (s.eA = true → ∃ a, v = .ref a ∧ ((∃ p, s = .own p ∧ W i a) ∨ ∃ p, s = .loc p ∧ L a))
 nQ : ∀ (i j : Nat) s t, i ≠ j → e[i]? = some (some s) → e[j]? = some (some t) → s.eA = true → t.eA = true → σ[i]? ≠ σ[j]?
theorem lI {K : PySem.W.Frag} {Z L : aO} {W : WS} {H : Hp} {σ : St} {ei : En} : ∀ {ms : List (Nat × Nat)} {e e' : En}, vC K Z W L H σ (fun i => ∃ j, (i, j) ∈ ms) e → (∀ i j p a, (i, j) ∈ ms → ownAt ei j = some p → σ[i]? = some (some (.ref a)) → iV K Z H a p) → mQ ei ms e = some e' → aY K Z W L H σ e'
 | [], e, e', h, hc, g => by
  cases g
  exact ⟨h.len, fun i s q => let ⟨v, h1, h2, _⟩ := h.at' i s q; ⟨v, h1, h2 (.inl fun ⟨j, z⟩ => nomatch z)⟩, h.nQ⟩
 | (i, j) :: r, e, e', h, hc, g => by
  obtain ⟨p, g1, g⟩ := aI g
  obtain ⟨p0, g2, g⟩ := aI g
  refine lI (e := cU e i p) ?_ (fun i' j' p' a' hm => hc i' j' p' a' (List.mem_cons_of_mem _ hm)) g
  have hl : i < e.length := by
   rcases cB g2 with g | g <;> exact (List.getElem?_eq_some_iff.mp g).1
  have oth : ∀ l, i ≠ l → (cU e i p)[l]? = e[l]? := fun l hj => by
   unfold cU
   rcases cB g2 with g | g <;> (rw [g]; exact List.getElem?_set_ne hj)
  have own : ∃ s0 s1 a, e[i]? = some (some s0) ∧ s0.eA = true ∧ (cU e i p)[i]? = some (some s1) ∧ σ[i]? = some (some (.ref a)) ∧ jL K Z W L H i (.ref a) s1 ∧ ((∃ p, s1 = .own p ∧ W i a) ∨ ∃ p, s1 = .loc p ∧ L a) := by
   rcases cB g2 with g | g
   ·obtain ⟨v, h1, _, h3⟩ := h.at' i _ g
    obtain ⟨a, rfl, h4⟩ := h3 rfl
    have c := hc i j p a List.mem_cons_self g1 h1
    rcases h4 with ⟨q, e1, w⟩ | ⟨q, e1, w⟩
    ·exact ⟨_, .own p, a, g, rfl, by unfold cU; rw [g]; exact List.getElem?_set_self hl, h1, ⟨a, rfl, w, c⟩, .inl ⟨p, rfl, w⟩⟩
    ·cases e1
   ·obtain ⟨v, h1, _, h3⟩ := h.at' i _ g
    obtain ⟨a, rfl, h4⟩ := h3 rfl
    have c := hc i j p a List.mem_cons_self g1 h1
    rcases h4 with ⟨q, e1, w⟩ | ⟨q, e1, w⟩
    ·cases e1
    ·exact ⟨_, .loc p, a, g, rfl, by unfold cU; rw [g]; exact List.getElem?_set_self hl, h1, ⟨a, rfl, w, c⟩, .inr ⟨p, rfl, w⟩⟩
  obtain ⟨s0, s1, a, hs0, hm0, hs1, ha, hrep, hwl⟩ := own
  refine ⟨?_, fun l s q => ?_, fun l1 l2 t1 t2 hn q1 q2 m1 m2 => ?_⟩
  ·rw [← h.len]; unfold cU; rcases cB g2 with g | g <;> (rw [g]; exact List.length_set)
  ·by_cases hil : i = l
   ·subst hil
    rw [hs1] at q
    cases q
    exact ⟨_, ha, fun _ => hrep, fun _ => ⟨a, rfl, hwl⟩⟩
   ·rw [oth l hil] at q
    obtain ⟨v, h1, h2, h3⟩ := h.at' l s q
    refine ⟨v, h1, fun z => h2 (z.elim (fun z => .inl fun ⟨j', hm⟩ => ?_) .inr), h3⟩
    rcases List.mem_cons.mp hm with hm | hm
    ·cases hm; exact hil rfl
    ·exact z ⟨j', hm⟩
  ·have eA : ∀ (l : Nat) (s : Sl), (cU e i p)[l]? = some (some s) → s.eA = true → ∃ s' : Sl, e[l]? = some (some s') ∧ s'.eA = true := fun l s z m => by
    by_cases hj : i = l
    ·subst hj; exact ⟨s0, hs0, hm0⟩
    ·rw [oth l hj] at z; exact ⟨s, z, m⟩
   obtain ⟨u1, w1, n1⟩ := eA l1 t1 q1 m1
   obtain ⟨u2, w2, n2⟩ := eA l2 t2 q2 m2
   exact h.nQ l1 l2 u1 u2 hn w1 w2 n1 n2
theorem kK {ei : En} : ∀ {ms : List (Nat × Nat)} {e e' : En}, mQ ei ms e = some e' → ∀ (i : Nat) (s : Sl), e'[i]? = some (some s) → s.eA = true → ∃ s' : Sl, e[i]? = some (some s') ∧ s'.eA = true
 | [], e, e', g => by cases g; exact fun i s h m => ⟨s, h, m⟩
 | (i, j) :: r, e, e', g => by
  obtain ⟨p, g1, g⟩ := aI g
  obtain ⟨p0, g2, g⟩ := aI g
  intro l s h m
  obtain ⟨s', h', m'⟩ := kK g l s h m
  by_cases hj : i = l
  ·subst hj
   rcases cB g2 with g | g <;> exact ⟨_, g, rfl⟩
  ·have oth : (cU e i p)[l]? = e[l]? := by
    unfold cU
    rcases cB g2 with g | g <;> (rw [g]; exact List.getElem?_set_ne hj)
   rw [oth] at h'
   exact ⟨s', h', m'⟩
section
variable {K : PySem.W.Frag}
theorem E6 {wi : TI} {g : TG} {tt : TT} {te : TE} {fi : FI} {k : Nat} {dN : List Nat} (ms : List (Nat × Nat)) {fg : FG} {ft : FT} {fe : FE} (hms : ∀ i j1 j2, (i, j1) ∈ ms → (i, j2) ∈ ms → j1 = j2) (hms2 : ∀ i1 i2 j, (i1, j) ∈ ms → (i2, j) ∈ ms → i1 = i2) (hi : xV K wi fi) (hg : wJ K g fg) (ht : lD K tt ft) (he : Ref K te fe) : Ref K (A6 wi k dN g tt te) (j6 fi k dN ms fg ft fe) := by
 intro O M W L σ H e e' b Q o hen hf q
 obtain ⟨items, e1, f1, hf⟩ := aS hf
 obtain ⟨hsz, hf⟩ := aT hf
 obtain ⟨ys, ei, f2, hf⟩ := aS hf
 obtain ⟨e2, f3, hf⟩ := aI hf
 cases hf
 have hsz := of_decide_eq_true hsz
 refine hi (fun i => !(ms.any fun z => z.1 == i)) O M W L σ H e e1 items _ o hen f1 fun J H1 k1 en it => ?_
 have o1 := o.keep k1.dR
 let W' : WS := ⟨fun j a => ∃ i s, (i, j) ∈ ms ∧ e1[i]? = some (some s) ∧ s.eA = true ∧ σ[i]? = some (some (.ref a)), fun a => H1 a ≠ none⟩
 have whose : ∀ (i : Nat) s a, e1[i]? = some (some s) → s.eA = true → σ[i]? = some (some (.ref a)) → (aw W a ∨ L a) ∧ ∃ ob, H1 a = some ob ∧ ∀ xs, ob ≠ .tup xs := fun i s a hs hm ha => by
  obtain ⟨v, h1, h2⟩ := en.at' i s hs
  rw [ha] at h1
  cases h1
  cases s with
  | val p => cases hm
  | bor p => cases hm
  | own p => obtain ⟨b, e, w, c⟩ := h2; cases e; exact ⟨.inl ⟨i, w⟩, c.there⟩
  | loc p => obtain ⟨b, e, w, c⟩ := h2; cases e; exact ⟨.inr w, c.there⟩
 have wsub : ∀ a, aw W' a → (aw W a ∨ L a) ∧ ∃ ob, H1 a = some ob ∧ ∀ xs, ob ≠ .tup xs := fun a ⟨j, i, s, hm, hs, hmine, ha⟩ => whose i s a hs hmine ha
 have it := it (aw W') (fun a z => (wsub a z).1) fun i a s hst hs hm ha ⟨j, i', s', hm', hs', hmine', ha'⟩ => by
  have ne : i' ≠ i := fun z => by
   subst z
   have : (ms.any fun z => z.1 == i') = true := List.any_eq_true.mpr ⟨(i', j), hm', by simp⟩
   rw [this] at hst
   cases hst
  exact en.nQ i' i s' s ne hs' hs hmine' hm (by rw [ha', ha])
 intro l hl
 have zl : ∀ a ob, H1 a = some ob → a ≠ l := fun a ob h => dM h hl
 let M' : aO := bM M (bM L (one l))
 let O' : aO := fun a => H1 a ≠ none ∨ a = l
 have s0 : bG H1 (upd H1 l (.lst [])) := bG.upd hl
 have ML : ∀ a, (aw W a ∨ L a) → bM M L a := fun a z => z.elim (fun ⟨i, w⟩ => .inl (o.wm i a w)) .inr
 have k0 : eJ (bM M L) (bM M' eB) H1 (upd H1 l (.lst [])) := ⟨fun a xs h => s0 _ _ h, fun a ob h n => ⟨s0 _ _ h, fun z => by
  rcases z with (z | z | z) | z
  ·exact n (.inl z)
  ·exact n (.inr z)
  ·exact zl a ob h z
  ·exact z⟩⟩
 have okc0 : ∀ H2, (∀ a, H1 a ≠ none ∨ a = l → H2 a ≠ none) → kB O' M' W' eB H2 := fun H2 d => ⟨d, fun a z => by
   rcases z with z | z | z
   ·exact .inl (o1.old a (o1.mo a z))
   ·exact .inl (o1.loc a z).1
   ·exact .inr z, fun j a z => by
   rcases ML a (wsub a ⟨j, z⟩).1 with z | z
   ·exact .inl z
   ·exact .inr (.inl z), fun a z => z.elim⟩
 have lenS : (m9 k dN ms e1).length = (gM k dN σ).length := by
  unfold m9 gM
  rw [List.length_append, List.length_append, sL, List.length_map, List.length_replicate, List.length_replicate]
 have en0 : aY K (bM M' eB) W' eB (upd H1 l (.lst [])) (gM k dN σ) (m9 k dN ms e1) := by
  have lend : ∀ (i : Nat) s p a, e1[i]? = some (some s) → (s = .own p ∨ s = .loc p) → σ[i]? = some (some (.ref a)) → iV K (bM M L) H1 a p → ¬ (∃ j, (i, j) ∈ ms) → pX K (bM M' eB) W' eB (upd H1 l (.lst [])) a p := fun i s p a hs hp ha c nm => by
   have hm : s.eA = true := by rcases hp with rfl | rfl <;> rfl
   have nw : ¬ aw W' a := fun ⟨j, i', s', hm', hs', hmine', ha'⟩ => by
    have ne : i' ≠ i := fun z => nm ⟨j, z ▸ hm'⟩
    exact en.nQ i' i s' s ne hs' hs hmine' hm (by rw [ha', ha])
   have c' := c.aR k0 fun ob h => s0 _ _ h
   cases c' with
   | lst h r => exact .lst (.inl h) (by obtain ⟨ob, h1, _⟩ := c.there; show H1 a ≠ none; rw [h1]; exact fun z => nomatch z) nw (fun z => z) r
   | cC h kk r => exact .cC (.inl h) (by obtain ⟨ob, h1, _⟩ := c.there; show H1 a ≠ none; rw [h1]; exact fun z => nomatch z) nw (fun z => z) kk r
  have bors : ∀ p a, pX K (bM M L) W L H1 a p → pX K (bM M' eB) W' eB (upd H1 l (.lst [])) a p := fun p a c => by
   cases c with
   | lst h od n m r => exact .lst (h.elim (fun h => .inl (s0 _ _ h)) fun ⟨u, h⟩ => .inr ⟨u, s0 _ _ h⟩) (fun z => Rd.ne h z rfl) (fun z => (wsub a z).1.elim n m) (fun z => z) (r.aR k0)
   | gK h r => exact .gK h (r.aR k0)
   | cC h od n m kk r => exact .cC (h.elim (fun h => .inl (s0 _ _ h)) fun ⟨u, h⟩ => .inr ⟨u, s0 _ _ h⟩) (fun z => Rd.ne h z rfl) (fun z => (wsub a z).1.elim n m) (fun z => z) kk (r.aR k0)
  have row : ∀ (i j : Nat) s, wH e1 ms i j = some s → ∃ v, σ[i]? = some (some v) ∧ jL K (bM M' eB) W' eB (upd H1 l (.lst [])) j v s ∧ (s.eA = true → (i, j) ∈ ms ∧ ∃ s', e1[i]? = some (some s') ∧ s'.eA = true) := fun i j s h => by
   unfold wH at h
   have nc : ∀ {p : PV}, ms.contains (i, j) = true → (i, j) ∈ ms := fun z => List.contains_iff_mem.mp z
   cases c : e1[i]? with
   | none => rw [c] at h; cases h
   | some s' =>
    cases s' with
    | none => rw [c] at h; cases h
    | some s' =>
     rw [c] at h
     obtain ⟨v, h1, h2⟩ := en.at' i s' c
     refine ⟨v, h1, ?_⟩
     cases s' with
     | val p => cases h; exact ⟨Rep.aR k0 h2, fun z => nomatch z⟩
     | bor p => cases h; obtain ⟨a, e, c⟩ := h2; exact ⟨⟨a, e, bors p a c⟩, fun z => nomatch z⟩
     | own p =>
      obtain ⟨a, e, w, ct⟩ := h2
      subst e
      dsimp only at h
      cases d : ms.contains (i, j) with
      | true =>
       rw [d, if_pos rfl] at h
       cases h
       have hm := List.contains_iff_mem.mp d
       exact ⟨⟨a, rfl, ⟨i, _, hm, c, rfl, h1⟩, ct.aR k0 fun ob h => s0 _ _ h⟩, fun _ => ⟨hm, _, rfl, rfl⟩⟩
      | false =>
       rw [d, if_neg Bool.false_ne_true] at h
       cases d2 : ms.any (fun z => z.1 == i) with
       | true => rw [d2, if_pos rfl] at h; cases h
       | false =>
        rw [d2, if_neg Bool.false_ne_true] at h
        cases h
        refine ⟨⟨a, rfl, lend i _ p a c (.inl rfl) h1 ct fun ⟨j', hm'⟩ => ?_⟩, fun z => nomatch z⟩
        have : (ms.any fun z => z.1 == i) = true := List.any_eq_true.mpr ⟨(i, j'), hm', by simp⟩
        rw [d2] at this
        cases this
     | loc p =>
      obtain ⟨a, e, w, ct⟩ := h2
      subst e
      dsimp only at h
      cases d : ms.contains (i, j) with
      | true =>
       rw [d, if_pos rfl] at h
       cases h
       have hm := List.contains_iff_mem.mp d
       exact ⟨⟨a, rfl, ⟨i, _, hm, c, rfl, h1⟩, ct.aR k0 fun ob h => s0 _ _ h⟩, fun _ => ⟨hm, _, rfl, rfl⟩⟩
      | false =>
       rw [d, if_neg Bool.false_ne_true] at h
       cases d2 : ms.any (fun z => z.1 == i) with
       | true => rw [d2, if_pos rfl] at h; cases h
       | false =>
        rw [d2, if_neg Bool.false_ne_true] at h
        cases h
        refine ⟨⟨a, rfl, lend i _ p a c (.inr rfl) h1 ct fun ⟨j', hm'⟩ => ?_⟩, fun z => nomatch z⟩
        have : (ms.any fun z => z.1 == i) = true := List.any_eq_true.mpr ⟨(i, j'), hm', by simp⟩
        rw [d2] at this
        cases this
  refine ⟨lenS, fun j s hj => ?_, fun j1 j2 s t hn h1 h2 m1 m2 => ?_⟩
  ·obtain ⟨q, i, rfl, hc, hs⟩ := kA hj
   obtain ⟨v, h1, h2, _⟩ := row i _ s hs
   exact ⟨v, j8 hc h1, h2⟩
  ·obtain ⟨q1, i1, rfl, c1, hs1⟩ := kA h1
   obtain ⟨q2, i2, rfl, c2, hs2⟩ := kA h2
   obtain ⟨v1, a1, _, b1⟩ := row i1 _ s hs1
   obtain ⟨v2, a2, _, b2⟩ := row i2 _ t hs2
   obtain ⟨w1, s1, d1, n1⟩ := b1 m1
   obtain ⟨w2, s2, d2, n2⟩ := b2 m2
   rw [j8 c1 a1, j8 c2 a2]
   have ne : i1 ≠ i2 := fun z => by subst z; exact hn (hms _ _ _ w1 w2)
   have := en.nQ i1 i2 s1 s2 ne d1 d2 n1 n2
   rw [a1, a2] at this
   exact this
 have dl : ∀ a xs, H1 a = some (.tup xs) → a ≠ l := fun a xs h => zl a _ h
 let N : Nat → St → Hp → Prop := fun i σ' H' => ∃ ei' acc rest vs, cZ W' (one l) (upd H1 l (.lst [])) H' ∧ H' l = some (.lst vs) ∧ bP K (bM M' eB) H' acc vs ∧ aY K (bM M' eB) W' eB H' σ' ei' ∧ acc.length ≤ i ∧
  j9 fg ft fe (items.drop i) ei' = some (rest, ei) ∧ ys = acc ++ rest
 have k0' : ∀ H', cZ W' (one l) (upd H1 l (.lst [])) H' → ∀ a, H1 a ≠ none ∨ a = l → H' a ≠ none := fun H' kk a z => kk.dR a (by
  rcases z with z | z
  ·cases e : H1 a with
   | none => exact absurd e z
   | some u => rw [s0 _ _ e]; exact fun z => nomatch z
  ·rw [z, cG]; exact fun z => nomatch z)
 refine ⟨fun i m σ' H' => m = items.length - i ∧ i ≤ items.length ∧ N i σ' H', ⟨items.length, by simp, Nat.zero_le _, m9 k dN ms e1, [], ys, [], .refl, cG, .nil, en0, Nat.le_refl _, by rw [List.drop_zero]; exact f2, rfl⟩, ?_⟩
 rintro i m σ2 H2 ⟨rfl, hil, ei2, acc, rest, vs, kk, hl2, ra, en2, hacc, f4, hys⟩
 have oki := okc0 H2 (k0' H2 kk)
 obtain ⟨itm, its⟩ := it (bM L (one l)) H2 (fun a ob h n => kk.obj a ob (s0 _ _ h) n (zl a ob h)) (fun a xs h => kk.tup a xs (s0 _ _ h)) (fun a z => z.elim .inl fun z => .inr (by rw [show a = l from z]; exact hl))
 by_cases hlt : i < items.length
 ·refine .inr ?_
  obtain ⟨go, yl⟩ := itm i items[i] (by simp [hlt])
  refine ⟨go, N (i + 1), fun σ' H' n => ⟨items.length - (i + 1), by omega, rfl, hlt, n⟩, fun x H3 y => ?_⟩
  obtain ⟨s3, rp⟩ := yl x H3 y
  rw [List.drop_eq_getElem_cons hlt] at f4
  obtain ⟨e4, c1, f4⟩ := aI f4
  have oki3 := oki.keep (H' := H3) (cZ.same (W := W') (L := eB) s3).dR
  have rp' : Rep K (bM M' eB) H3 items[i] x := rp.aR (.less fun a z => z.elim id fun z => z.elim)
  refine hg O' M' W' eB σ2 H3 ei2 e4 _ x _ oki3 (en2.same s3) rp' c1 fun σ3 en3 => ?_
  obtain ⟨b, e5, c2, f4⟩ := aS f4
  refine ht O' M' W' eB σ3 H3 e4 e5 b _ oki3 en3 c2 fun H4 k4 en4 => ?_
  have oki4 := oki3.keep k4.dR
  have nlw : ¬ aw W' l := fun z => by obtain ⟨_, ob, h, _⟩ := wsub l z; rw [hl] at h; cases h
  have kL : ∀ {A B : Hp}, cZ W' eB A B → cZ W' (one l) A B := fun k => ⟨fun a ob h n m => k.obj a ob h n fun z => z, k.tup, k.dR⟩
  have st : ∀ {A B : Hp}, cZ W' eB A B → kB O' M' W' eB A → eJ (bM M' eB) (bM M' eB) A B := fun k ok => k.aR ok
  have k34 : cZ W' eB H2 H4 := (cZ.same s3).trans k4
  cases b with
  | false =>
   rw [if_neg Bool.false_ne_true]
   exact ⟨e5, acc, rest, vs, kk.trans (kL k34), k34.obj l _ hl2 nlw (fun z => z), ra.aR (st k34 oki), en4, Nat.le_succ_of_le hacc, f4, hys⟩
  | true =>
   rw [if_pos rfl]
   obtain ⟨rv, e6, c3, f4⟩ := aS f4
   obtain ⟨p, c4, f4⟩ := aI f4
   obtain ⟨rest', e7, c5, f4⟩ := aS f4
   cases f4
   refine he O' M' W' eB σ3 H4 e5 e6 rv _ oki4 en4 c3 fun v H5 k5 rb fr => ?_
   have oki5 := oki4.keep k5.dR
   obtain ⟨en5, rp5⟩ := rb.put oki5 c4
   have k35 : cZ W' eB H2 H5 := k34.trans k5
   have hl5 := k35.obj l _ hl2 nlw (fun z => z)
   have ra5 := ra.aR (st k35 oki)
   refine ⟨vs, hl5, YY (by have := ra.length; omega), ?_⟩
   have stw : eJ (bM M' eB) (bM M' eB) H5 (upd H5 l (.lst (vs ++ [v]))) := .write (.inl (.inr (.inr rfl))) hl5 fun _ z => nomatch z
   have kw : cZ W' (one l) H5 (upd H5 l (.lst (vs ++ [v]))) := .write (.inr rfl) hl5 fun _ z => nomatch z
   refine ⟨e6, acc ++ [p], rest', vs ++ [v], (kk.trans (kL k35)).trans kw, cG, (ra5.aR stw).app (.cons (rp5.aR stw) .nil), ?_, by rw [List.length_append]; exact Nat.succ_le_succ hacc, c5, by rw [hys, List.append_assoc]; rfl⟩
   refine ⟨en5.len, fun j s hj => ?_, en5.nQ⟩
   obtain ⟨u, g1, g2⟩ := en5.at' j s hj
   refine ⟨u, g1, ?_⟩
   cases s with
   | val p => exact Rep.aR stw g2
   | own p =>
    obtain ⟨a, e, w, c⟩ := g2
    exact ⟨a, e, w, c.aR stw fun ob h => by rw [bL (fun z : a = l => nlw (by rw [← z]; exact ⟨j, w⟩))]; exact h⟩
   | loc p => obtain ⟨a, e, w, c⟩ := g2; exact w.elim
   | bor p =>
    obtain ⟨a, e, c⟩ := g2
    refine ⟨a, e, ?_⟩
    have ne : W'.old a → a ≠ l := fun od z => od (by rw [z]; exact hl)
    cases c with
    | lst h od n m r => exact .lst (h.elim (fun h => .inl (by rw [bL (ne od)]; exact h)) fun ⟨u, h⟩ => .inr ⟨u, by rw [bL (ne od)]; exact h⟩) od n m (r.aR stw)
    | gK h r => exact .gK h (r.aR stw)
    | cC h od n m kk r => exact .cC (h.elim (fun h => .inl (by rw [bL (ne od)]; exact h)) fun ⟨u, h⟩ => .inr ⟨u, by rw [bL (ne od)]; exact h⟩) od n m kk (r.aR stw)
 ·have e : i = items.length := by omega
  subst e
  rw [List.drop_length] at f4
  cases f4
  rw [List.append_nil] at hys
  subst hys
  have kout : cZ W L H1 H2 := ⟨fun a ob h n m => kk.obj a ob (s0 _ _ h) (fun z => (wsub a z).1.elim n m) (zl a ob h), fun a xs h => kk.tup a xs (s0 _ _ h), fun a h => k0' H2 kk a (.inl h)⟩
  have kf : eJ (bM M L) (bM M (bM L (one l))) H1 H2 := ⟨kout.tup, fun a ob h n => ⟨kk.obj a ob (s0 _ _ h) (fun z => n (ML a (wsub a z).1)) (zl a ob h), fun z => by
   rcases z with z | z | z
   ·exact n (.inl z)
   ·exact n (.inr z)
   ·exact zl a ob h z⟩⟩
  have pend : vC K (bM M (bM L (one l))) W (bM L (one l)) H2 σ (fun i => ∃ j, (i, j) ∈ ms) e1 := by
   refine ⟨en.len, fun i s hs => ?_, en.nQ⟩
   obtain ⟨v, h1, h2⟩ := en.at' i s hs
   have keepM : ∀ a, s.eA = true → ¬ (∃ j, (i, j) ∈ ms) → v = .ref a → ∀ ob, H1 a = some ob → H2 a = some ob := fun a hm nt ev ob h => by
    subst ev
    refine kk.obj a ob (s0 _ _ h) (fun ⟨j, i', s', hm', hs', hmine', ha'⟩ => ?_) (zl a ob h)
    have ne : i' ≠ i := fun z => nt ⟨j, z ▸ hm'⟩
    exact en.nQ i' i s' s ne hs' hs hmine' hm (by rw [ha', h1])
   refine ⟨v, h1, fun z => ?_, fun hm => ?_⟩
   ·cases s with
    | val p => exact Rep.aR kf h2
    | own p =>
     obtain ⟨a, e, w, c⟩ := h2
     exact ⟨a, e, w, c.aR kf fun ob h => keepM a rfl (z.elim id fun z => nomatch z) e ob h⟩
    | loc p =>
     obtain ⟨a, e, w, c⟩ := h2
     exact ⟨a, e, .inl w, c.aR kf fun ob h => keepM a rfl (z.elim id fun z => nomatch z) e ob h⟩
    | bor p =>
     obtain ⟨a, e, c⟩ := h2
     refine ⟨a, e, ?_⟩
     cases c with
     | lst h od n m r => exact .lst (h.elim (fun h => .inl (kout.obj _ _ h n m)) fun ⟨u, h⟩ => .inr ⟨u, kout.obj _ _ h n m⟩) od n (fun z => z.elim m (Rd.ne h hl)) (r.aR kf)
     | gK h r => exact .gK h (r.aR kf)
     | cC h od n m kk r => exact .cC (h.elim (fun h => .inl (kout.obj _ _ h n m)) fun ⟨u, h⟩ => .inr ⟨u, kout.obj _ _ h n m⟩) od n (fun z => z.elim m (Rd.ne h hl)) kk (r.aR kf)
   ·cases s with
    | val p => cases hm
    | bor p => cases hm
    | own p => obtain ⟨a, e, w, c⟩ := h2; exact ⟨a, e, .inl ⟨p, rfl, w⟩⟩
    | loc p => obtain ⟨a, e, w, c⟩ := h2; exact ⟨a, e, .inr ⟨p, rfl, .inl w⟩⟩
  have enf : aY K (bM M (bM L (one l))) W (bM L (one l)) H2 σ e' := lI pend (fun i j p a hm hp ha => by
   rcases cB hp with g | g
   ·obtain ⟨v, h1, a', rfl, ⟨i', s', hm', _, _, ha'⟩, c⟩ := en2.at' j _ g
    have ei := hms2 i i' j hm hm'
    subst ei
    rw [ha] at ha'
    cases ha'
    exact c.aR (.less fun a z => .inl z) fun _ h => h
   ·obtain ⟨v, h1, a', rfl, w, c⟩ := en2.at' j _ g
    exact w.elim) f3
  refine .inl ⟨its, q _ _ (k1.trans kout) ⟨l, rfl, fun z => o1.old l z hl, fun z => (o1.loc l z).1 hl, enf, fun i s hs hm e => ?_, .lst hl2 (ra.aR (.less fun a z => .inl z))⟩ (Fr.back (b := .new (.lst _)) k1.dR fun a e => by cases e; exact hl)⟩
  obtain ⟨s', hs', hm'⟩ := kK f3 i s hs hm
  obtain ⟨_, ob, h, _⟩ := whose i s' l hs' hm' e
  rw [hl] at h
  cases h
end
end Mr
namespace Mr
open PySem L2
inductive Kd where
 | v | b | m
 deriving DecidableEq
noncomputable def zF : Kd → PV → Sl
 | .v, p => .val p
 | .m, p => .own p
 | .b, .lst ps => .bor (.lst ps)
 | .b, .cC ps => .bor (.cC ps)
 | .b, p => .val p
noncomputable def mH : List Kd → List PV → En
 | k :: ks, p :: ps => some (zF k p) :: mH ks ps
 | _, _ => []
noncomputable def nW (ks : List Kd) (vs : List V) (H : Hp) : WS := ⟨fun i a => ks[i]? = some .m ∧ vs[i]? = some (.ref a), fun a => H a ≠ none⟩
noncomputable def E5 : List Kd → List V → List V
 | .m :: ks, v :: vs => v :: E5 ks vs
 | _ :: ks, _ :: vs => E5 ks vs
 | _, _ => []
noncomputable def yE (K : PySem.W.Frag) (Z : aO) (H : Hp) (ks : List Kd) (vs : List V) (qs : List PV) : Prop := ∀ (n : Nat) v q, (E5 ks vs)[n]? = some v → qs[n]? = some q → ∃ a, v = .ref a ∧ iV K Z H a q
noncomputable def UW (K : PySem.W.Frag) (M : aO) (H H' : Hp) (ks : List Kd) (vs : List V) (r : PV) (qs : List PV) (v : V) : Bool → Prop
 | false => Rep K M H' r v ∧ yE K M H' ks vs qs
 | true => ∃ a, v = .ref a ∧ H a = none ∧ iV K (bM M (one a)) H' a r ∧ yE K (bM M (one a)) H' ks vs qs
noncomputable abbrev FN := List PV → Option (PV × List PV)
noncomputable def jU (K : PySem.W.Frag) (ks : List Kd) (fr : Bool) (f : FN) : Sp := fun vs H Q _ => ∃ (M : aO) (ps : List PV) (r : PV) (qs : List PV), (∀ a, M a → H a ≠ none) ∧ vs.length = ks.length ∧ ps.length = ks.length ∧
 (∀ (i : Nat) k p v, ks[i]? = some k → ps[i]? = some p → vs[i]? = some v → jL K M (nW ks vs H) eB H i v (zF k p)) ∧
 (∀ (i j : Nat), i ≠ j → ks[i]? = some .m → ks[j]? = some .m → vs[i]? ≠ vs[j]?) ∧ (∀ i a, nW ks vs H i a → M a) ∧
 f ps = some (r, qs) ∧ ∀ v H', cZ (nW ks vs H) eB H H' → UW K M H H' ks vs r qs v fr → Q v H'
noncomputable def VC (e : En) : Bool → Bv → Option PV
 | false, .val p => some p
 | _, .new p => some p
 | _, .slot i => match e[i]? with
  | some (some (.loc p)) => some p
  | _ => none
 | true, .val _ => none
noncomputable def pI (e : En) : Nat → List Kd → Option (List PV)
 | _, [] => some []
 | j, .m :: ks => match e[j]? with
  | some (some (.own q)) => bO (pI e (j + 1) ks) fun qs => some (q :: qs)
  | _ => none
 | j, _ :: ks => pI e (j + 1) ks
noncomputable def N2 (ks : List Kd) (fr : Bool) : Out → Option (PV × List PV)
 | .rt b e => bO (VC e fr b) fun r => bO (pI e 0 ks) fun qs => some (r, qs)
 | .nx e => match fr with
  | false => bO (pI e 0 ks) fun qs => some (.aZ, qs)
  | true => none
 | _ => none
noncomputable def tW (ks : List Kd) (nl : Nat) (fr : Bool) (g : FS) : FN := fun ps => bO (g (mH ks ps ++ List.replicate nl none)) (N2 ks fr)
theorem xS : ∀ {ks : List Kd} {ps : List PV} {i : Nat} {s : Sl}, (mH ks ps)[i]? = some (some s) → ∃ k p, ks[i]? = some k ∧ ps[i]? = some p ∧ s = zF k p
 | [], ps, i, s, h => by simp [mH] at h
 | k :: ks, [], i, s, h => by simp [mH] at h
 | k :: ks, p :: ps, 0, s, h => by simp [mH] at h; exact ⟨k, p, rfl, rfl, h.symm⟩
 | k :: ks, p :: ps, i + 1, s, h => by
  rw [mH, List.getElem?_cons_succ] at h
  obtain ⟨k', p', h1, h2, h3⟩ := xS h
  exact ⟨k', p', by simpa using h1, by simpa using h2, h3⟩
theorem x6 : ∀ {ks : List Kd} {ps : List PV}, ps.length = ks.length → (mH ks ps).length = ks.length
 | [], ps, h => rfl
 | k :: ks, [], h => by simp at h
 | k :: ks, p :: ps, h => by rw [mH, List.length_cons, List.length_cons, x6 (by simpa using h)]
theorem lZ {e : En} : ∀ {ks : List Kd} {vs : List V} {j : Nat} {qs : List PV} {n : Nat} {v : V} {q : PV}, pI e j ks = some qs → (E5 ks vs)[n]? = some v → qs[n]? = some q → ∃ i, ks[i]? = some .m ∧ vs[i]? = some v ∧ e[j + i]? = some (some (.own q))
 | [], vs, j, qs, n, v, q, h, h1, h2 => by cases h; simp at h2
 | .m :: ks, [], j, qs, n, v, q, h, h1, h2 => by simp [E5] at h1
 | .v :: ks, [], j, qs, n, v, q, h, h1, h2 => by simp [E5] at h1
 | .b :: ks, [], j, qs, n, v, q, h, h1, h2 => by simp [E5] at h1
 | .v :: ks, x :: vs, j, qs, n, v, q, h, h1, h2 => by
  obtain ⟨i, a, b, c⟩ := lZ (ks := ks) (vs := vs) (j := j + 1) h h1 h2
  exact ⟨i + 1, by simpa using a, by simpa using b, by rw [show j + (i + 1) = j + 1 + i by omega]; exact c⟩
 | .b :: ks, x :: vs, j, qs, n, v, q, h, h1, h2 => by
  obtain ⟨i, a, b, c⟩ := lZ (ks := ks) (vs := vs) (j := j + 1) h h1 h2
  exact ⟨i + 1, by simpa using a, by simpa using b, by rw [show j + (i + 1) = j + 1 + i by omega]; exact c⟩
 | .m :: ks, x :: vs, j, qs, n, v, q, h, h1, h2 => by
  unfold pI at h
  split at h
  ·rename_i q0 he
   obtain ⟨qs', g, h⟩ := aI h
   cases h
   cases n with
   | zero =>
    simp [E5] at h1 h2
    subst h1 h2
    exact ⟨0, rfl, rfl, he⟩
   | succ n =>
    obtain ⟨i, a, b, c⟩ := lZ (ks := ks) (vs := vs) (j := j + 1) g (by simpa [E5] using h1) (by simpa using h2)
    exact ⟨i + 1, by simpa using a, by simpa using b, by rw [show j + (i + 1) = j + 1 + i by omega]; exact c⟩
  ·cases h
section
variable {K : PySem.W.Frag}
theorem jL.eB {M L : aO} {W : WS} {H : Hp} {i : Nat} {v : V} {s : Sl} (h : jL K M W L H i v s) : jL K (bM M eB) W L H i v s := by
 have k : eJ M (bM M Mr.eB) H H := .less fun a z => z.elim id fun z => z.elim
 cases s with
 | val p => exact Rep.aR k h
 | own p => obtain ⟨a, e, w, c⟩ := h; exact ⟨a, e, w, c.aR k fun _ h => h⟩
 | loc p => obtain ⟨a, e, w, c⟩ := h; exact ⟨a, e, w, c.aR k fun _ h => h⟩
 | bor p =>
  obtain ⟨a, e, c⟩ := h
  refine ⟨a, e, ?_⟩
  cases c with
  | lst e od n m r => exact .lst e od n m (r.aR k)
  | gK e r => exact .gK e (r.aR k)
  | cC e od n m kk r => exact .cC e od n m kk (r.aR k)
theorem fE {ks : List Kd} {nl : Nat} {fr : Bool} {t : TS} {g : FS} {N : List Str} (h : iY K t g) (hN : N.length = ks.length + nl) {vs : List V} {H : Hp} {Q : VK} {E : XK} (hs : jU K ks fr (tW ks nl fr g) vs H Q E) : t { nx := fun _ H' => Q .aZ H', rt := Q } (L2.start N vs) H := by
 obtain ⟨M, ps, r, qs, hM, hvl, hpl, har, hdis, hwm, hf, q⟩ := hs
 obtain ⟨out, g1, hf⟩ := aI hf
 let O : aO := fun a => H a ≠ none
 have o : kB O M (nW ks vs H) eB H := ⟨fun a h => h, hM, hwm, fun a z => z.elim⟩
 have hvN : N.length - vs.length = nl := by omega
 have st : ∀ (i : Nat) v, vs[i]? = some v → (L2.start N vs)[i]? = some (some v) := fun i v hv => by
  unfold L2.start
  have hi := (List.getElem?_eq_some_iff.mp hv).1
  rw [List.getElem?_append_left (by simpa using hi), List.getElem?_map, hv]
  rfl
 have sl : ∀ (i : Nat) s, (mH ks ps ++ List.replicate nl none)[i]? = some (some s) → ∃ k p v, ks[i]? = some k ∧ ps[i]? = some p ∧ vs[i]? = some v ∧ s = zF k p := fun i s hi => by
  by_cases hl : i < (mH ks ps).length
  ·rw [List.getElem?_append_left hl] at hi
   obtain ⟨k, p, h1, h2, h3⟩ := xS hi
   have : i < vs.length := by have := (List.getElem?_eq_some_iff.mp h1).1; omega
   exact ⟨k, p, vs[i], h1, h2, by simp, h3⟩
  ·rw [List.getElem?_append_right (by omega), List.getElem?_replicate] at hi
   split at hi <;> cases hi
 have mk : ∀ k p, (zF k p).eA = true → k = .m := fun k p hm => by
  cases k with
  | v => cases hm
  | m => rfl
  | b => cases p <;> cases hm
 have en : aY K (bM M eB) (nW ks vs H) eB H (L2.start N vs) (mH ks ps ++ List.replicate nl none) := by
  refine ⟨?_, fun i s hi => ?_, fun i j s s' hij h1 h2 m1 m2 => ?_⟩
  ·unfold L2.start
   rw [List.length_append, List.length_append, List.length_replicate, List.length_replicate, x6 hpl, List.length_map, hvN, hvl]
  ·obtain ⟨k, p, v, h1, h2, h3, rfl⟩ := sl i s hi
   exact ⟨v, st i v h3, (har i k p v h1 h2 h3).eB⟩
  ·obtain ⟨k, p, v, a1, a2, a3, rfl⟩ := sl i s h1
   obtain ⟨k', p', v', b1, b2, b3, rfl⟩ := sl j s' h2
   rw [st i v a3, st j v' b3]
   have e1 := mk _ _ m1
   have e2 := mk _ _ m2
   subst e1 e2
   have := hdis i j hij a1 b1
   rw [a3, b3] at this
   exact fun z => this (by cases z; rfl)
 have gk : ∀ {L' : aO} {H' : Hp}, lC (nW ks vs H) eB L' H H' → cZ (nW ks vs H) eB H H' := fun gr => ⟨gr.obj, gr.tup, gr.dR⟩
 have mu : ∀ {Z Zf : aO} {L' : aO} {H' : Hp} {σ' : St} {e' : En} {qs : List PV}, aY K Z (nW ks vs H) L' H' σ' e' → (∀ a, Zf a → Z a) → pI e' 0 ks = some qs → yE K Zf H' ks vs qs := fun en' hz hm n v q' h1 h2 => by
  obtain ⟨i, a1, a2, a3⟩ := lZ hm h1 h2
  rw [Nat.zero_add] at a3
  obtain ⟨u, h3, a, rfl, ⟨_, w⟩, c⟩ := en'.at' i _ a3
  rw [a2] at w
  cases w
  exact ⟨a, rfl, c.aR (.less hz) fun _ h => h⟩
 refine h O M (nW ks vs H) eB (L2.start N vs) H _ out _ o en g1 ?_
 cases out with
 | bk e' => cases hf
 | ct e' => cases hf
 | nx e' =>
  cases fr with
  | true => cases hf
  | false =>
   obtain ⟨qs', g2, hf⟩ := aI hf
   cases hf
   exact fun L' σ' H' gr o' en' => q .aZ H' (gk gr) ⟨.aZ, mu en' (fun a z => .inl z) g2⟩
 | rt b e' =>
  obtain ⟨r', g2, hf⟩ := aI hf
  obtain ⟨qs', g3, hf⟩ := aI hf
  cases hf
  intro L' σ' H' v gr o' rb
  refine q v H' (gk gr) ?_
  cases b with
  | val p =>
   cases fr with
   | true => cases g2
   | false =>
    cases g2
    exact ⟨rb.2.aR (.less fun a z => .inl z), mu rb.1 (fun a z => .inl z) g3⟩
  | new p =>
   cases fr with
   | false =>
    cases g2
    have rb := rb.weak o'
    exact ⟨Rep.aR (.less fun a z => .inl z) rb.2, mu rb.1 (fun a z => .inl z) g3⟩
   | true =>
    cases g2
    obtain ⟨a, rfl, n1, n2, en', fe, c⟩ := rb
    exact ⟨a, rfl, Classical.byContradiction n1, c.aR (.less fun a z => z.elim .inl fun z => .inr (.inr z)) fun _ h => h, mu en' (fun a z => z.elim .inl fun z => .inr (.inr z)) g3⟩
  | slot i =>
   have g2' : (match e'[i]? with | some (some (.loc p)) => some p | _ => none) = some r := by
    cases fr <;> exact g2
   cases c : e'[i]? with
   | none => rw [c] at g2'; cases g2'
   | some s =>
    cases s with
    | none => rw [c] at g2'; cases g2'
    | some s =>
     rw [c] at g2'
     cases s with
     | loc p =>
      cases g2'
      obtain ⟨u, h1, a, rfl, la, ct⟩ := rb.1.at' i _ c
      have := rb.2
      rw [h1] at this
      cases this
      have nO : H a = none := Classical.byContradiction (o'.loc a la).2
      cases fr with
      | false => exact ⟨(ct.aR (.less fun a z => .inl z) fun _ h => h).rep fun z => absurd nO (hM a z), mu rb.1 (fun a z => .inl z) g3⟩
      | true => exact ⟨a, rfl, nO, ct.aR (.less fun b z => z.elim .inl fun z => .inr (by rw [show b = a from z]; exact la)) fun _ h => h, mu rb.1 (fun b z => z.elim .inl fun z => .inr (by rw [show b = a from z]; exact la)) g3⟩
     | _ => cases g2'
noncomputable def zK (e : En) : Kd → Bv → Option PV
 | .v, b => b.put
 | .b, b => b.get e
 | .m, .slot i => ownAt e i
 | .m, _ => none
noncomputable def DY (e : En) : List Kd → List Bv → Option (List PV)
 | [], [] => some []
 | k :: ks, b :: bs => bO (zK e k b) fun p => bO (DY e ks bs) fun ps => some (p :: ps)
 | _, _ => none
noncomputable def cT : List Kd → List Bv → List Nat
 | .m :: ks, .slot i :: bs => i :: cT ks bs
 | _ :: ks, _ :: bs => cT ks bs
 | _, _ => []
noncomputable def mZ : List Kd → List Bv → List Nat
 | .b :: ks, .slot i :: bs => i :: mZ ks bs
 | _ :: ks, _ :: bs => mZ ks bs
 | _, _ => []
noncomputable def resB (r : PV) : Bool → Bv
 | true => .new r
 | false => .val r
noncomputable def bQ (ks : List Kd) (fr : Bool) (f : FN) (fa : FA) : FE := fun e => bE (fa e) fun bs e1 => bO (DY e1 ks bs) fun ps =>
 aU (decide ((cT ks bs).Nodup) && (mZ ks bs).all fun i => !(cT ks bs).contains i) (bO (f ps) fun rq => bO (mQ (rq.2.map fun q => some (.own q)) (cT ks bs).zipIdx e1) fun e2 => some (resB rq.1 fr, e2))
theorem x9 {e : En} : ∀ {ks : List Kd} {bs : List Bv} {ps : List PV}, DY e ks bs = some ps → ps.length = ks.length ∧ bs.length = ks.length ∧ ∀ (i : Nat) k b p, ks[i]? = some k → bs[i]? = some b → ps[i]? = some p → zK e k b = some p
 | [], [], ps, h => by cases h; exact ⟨rfl, rfl, fun i k b p h => by simp at h⟩
 | [], _ :: _, ps, h => by cases h
 | _ :: _, [], ps, h => by cases h
 | k :: ks, b :: bs, ps, h => by
  obtain ⟨p, g1, h⟩ := aI h
  obtain ⟨ps', g2, h⟩ := aI h
  cases h
  obtain ⟨a1, a2, a3⟩ := x9 g2
  refine ⟨by rw [List.length_cons, List.length_cons, a1], by rw [List.length_cons, List.length_cons, a2], fun i k' b' p' h1 h2 h3 => ?_⟩
  cases i with
  | zero => simp at h1 h2 h3; subst h1 h2 h3; exact g1
  | succ i => exact a3 i k' b' p' (by simpa using h1) (by simpa using h2) (by simpa using h3)
theorem tM.get {Z : aO} {H : Hp} {σ : St} : ∀ {bs : List Bv} {vs : List V} {i : Nat} {v : V}, tM K Z H σ bs vs → vs[i]? = some v → ∃ b, bs[i]? = some b ∧ RV K Z H σ v b
 | _, _, _, _, .nil, h => by simp at h
 | _, _, 0, _, .cons h _, e => by simp at e; subst e; exact ⟨_, rfl, h⟩
 | _, _, i + 1, _, .cons _ r, e => by
  obtain ⟨b, h1, h2⟩ := tM.get (i := i) r (by simpa using e)
  exact ⟨b, by simpa using h1, h2⟩
theorem tM.length {Z : aO} {H : Hp} {σ : St} : ∀ {bs : List Bv} {vs : List V}, tM K Z H σ bs vs → bs.length = vs.length
 | _, _, .nil => rfl
 | _, _, .cons _ r => by rw [List.length_cons, List.length_cons, tM.length r]
theorem lX : ∀ {ks : List Kd} {bs : List Bv} {i j : Nat}, ks[i]? = some .m → bs[i]? = some (.slot j) → ∃ n : Nat, (cT ks bs)[n]? = some j
 | [], bs, i, j, h, _ => by simp at h
 | k :: ks, [], i, j, _, h => by simp at h
 | k :: ks, b :: bs, 0, j, h1, h2 => by simp at h1 h2; subst h1 h2; exact ⟨0, rfl⟩
 | k :: ks, b :: bs, i + 1, j, h1, h2 => by
  obtain ⟨n, h⟩ := lX (ks := ks) (bs := bs) (i := i) (by simpa using h1) (by simpa using h2)
  cases k with
  | v => exact ⟨n, h⟩
  | b => exact ⟨n, h⟩
  | m =>
   cases b with
   | val p => exact ⟨n, h⟩
   | new p => exact ⟨n, h⟩
   | slot l => exact ⟨n + 1, by simpa [cT] using h⟩
theorem tV : ∀ {ks : List Kd} {bs : List Bv} {i j : Nat}, ks[i]? = some .b → bs[i]? = some (.slot j) → j ∈ mZ ks bs
 | [], bs, i, j, h, _ => by simp at h
 | k :: ks, [], i, j, _, h => by simp at h
 | k :: ks, b :: bs, 0, j, h1, h2 => by simp at h1 h2; subst h1 h2; exact List.mem_cons_self
 | k :: ks, b :: bs, i + 1, j, h1, h2 => by
  have h := tV (ks := ks) (bs := bs) (i := i) (j := j) (by simpa using h1) (by simpa using h2)
  cases k with
  | v => exact h
  | m => exact h
  | b =>
   cases b with
   | val p => exact h
   | new p => exact h
   | slot l => exact List.mem_cons_of_mem _ h
theorem rL : ∀ {ks : List Kd} {bs : List Bv} {i1 i2 j : Nat}, (cT ks bs).Nodup → i1 ≠ i2 → ks[i1]? = some .m → ks[i2]? = some .m → bs[i1]? = some (.slot j) → bs[i2]? = some (.slot j) → False
 | [], bs, i1, i2, j, _, _, h, _, _, _ => by simp at h
 | k :: ks, [], i1, i2, j, _, _, _, _, h, _ => by simp at h
 | k :: ks, b :: bs, 0, 0, j, _, n, _, _, _, _ => n rfl
 | k :: ks, b :: bs, 0, i2 + 1, j, nd, n, h1, h2, h3, h4 => by
  simp at h1 h3
  subst h1 h3
  obtain ⟨q, h⟩ := lX (ks := ks) (bs := bs) (i := i2) (j := j) (by simpa using h2) (by simpa using h4)
  rw [cT, List.nodup_cons] at nd
  exact nd.1 (List.mem_of_getElem? h)
 | k :: ks, b :: bs, i1 + 1, 0, j, nd, n, h1, h2, h3, h4 => by
  simp at h2 h4
  subst h2 h4
  obtain ⟨q, h⟩ := lX (ks := ks) (bs := bs) (i := i1) (j := j) (by simpa using h1) (by simpa using h3)
  rw [cT, List.nodup_cons] at nd
  exact nd.1 (List.mem_of_getElem? h)
 | k :: ks, b :: bs, i1 + 1, i2 + 1, j, nd, n, h1, h2, h3, h4 => by
  refine rL (ks := ks) (bs := bs) (i1 := i1) (i2 := i2) (j := j) ?_ (fun z => n (by rw [z])) (by simpa using h1) (by simpa using h2) (by simpa using h3) (by simpa using h4)
  cases k with
  | v => exact nd
  | b => exact nd
  | m =>
   cases b with
   | val p => exact nd
   | new p => exact nd
   | slot l => rw [cT, List.nodup_cons] at nd; exact nd.2
theorem nN {Z : aO} {H : Hp} {σ : St} {e : En} : ∀ {ks : List Kd} {bs : List Bv} {vs : List V} {ps : List PV} {n j : Nat}, tM K Z H σ bs vs → DY e ks bs = some ps → (cT ks bs)[n]? = some j → ∃ v, (E5 ks vs)[n]? = some v ∧ σ[j]? = some (some v)
 | [], bs, vs, ps, n, j, r, g, h => by cases bs <;> simp [cT] at h
 | k :: ks, [], vs, ps, n, j, r, g, h => by simp [cT] at h
 | k :: ks, b :: bs, vs, ps, n, j, r, g, h => by
  obtain ⟨p, g1, g⟩ := aI g
  obtain ⟨ps', g2, g⟩ := aI g
  cases r with
  | cons h0 r =>
   cases k with
   | v => exact nN (ks := ks) r g2 (by simpa [cT] using h)
   | b => exact nN (ks := ks) r g2 (by simpa [cT] using h)
   | m =>
    cases b with
    | val p => cases g1
    | new p => cases g1
    | slot l =>
     cases n with
     | zero => simp [cT] at h; subst h; exact ⟨_, rfl, h0⟩
     | succ n =>
      obtain ⟨v, a, b⟩ := nN (n := n) r g2 (by simpa [cT] using h)
      exact ⟨v, by simpa [E5] using a, b⟩
theorem aW {ks : List Kd} {fr : Bool} {f : FN} {ta : TA} {fa : FA} {E : XK} (ha : vR K ta fa) : Ref K (IA (jU K ks fr f) [] E ta) (bQ ks fr f fa) := by
 intro O M W L σ H e e' b Q o he hf q
 obtain ⟨bs, e1, f1, hf⟩ := aS hf
 obtain ⟨ps, g1, hf⟩ := aI hf
 obtain ⟨g2, hf⟩ := aT hf
 obtain ⟨⟨r, qs⟩, g3, hf⟩ := aI hf
 obtain ⟨e2, g4, hf⟩ := aI hf
 cases hf
 rw [Bool.and_eq_true] at g2
 have nd := of_decide_eq_true g2.1
 have nb : ∀ i ∈ mZ ks bs, i ∉ cT ks bs := fun i hi hm => by
  have := List.all_eq_true.mp g2.2 i hi
  rw [List.contains_iff_mem.mpr hm] at this
  cases this
 refine ha O M W L σ H e e1 bs _ o he f1 fun vs H1 k1 en rv => ?_
 have o1 := o.keep k1.dR
 obtain ⟨pl, bl, ap⟩ := x9 g1
 have vl := rv.length
 show jU K ks fr f (vs ++ []) H1 Q E
 rw [List.append_nil]
 have wr : ∀ i a, nW ks vs H1 i a → ∃ j, bs[i]? = some (.slot j) ∧ σ[j]? = some (some (.ref a)) ∧ j ∈ cT ks bs ∧ ∃ p, ownAt e1 j = some p := fun i a ⟨h1, h2⟩ => by
  obtain ⟨b, hb, rb⟩ := rv.get h2
  have hi : i < ks.length := (List.getElem?_eq_some_iff.mp h1).1
  have hp : ps[i]? = some (ps[i]'(by omega)) := List.getElem?_eq_getElem (by omega)
  have := ap i _ b _ h1 hb hp
  cases b with
  | val p => cases this
  | new p => cases this
  | slot j =>
   obtain ⟨n, hn⟩ := lX h1 hb
   exact ⟨j, hb, rb, List.mem_of_getElem? hn, _, this⟩
 have wml : ∀ i a, nW ks vs H1 i a → (aw W a ∨ L a) ∧ ∃ j s, e1[j]? = some (some s) ∧ s.eA = true ∧ σ[j]? = some (some (.ref a)) ∧ j ∈ cT ks bs := fun i a h => by
  obtain ⟨j, _, hs, hm, p, hp⟩ := wr i a h
  obtain ⟨a', ha', hz, _⟩ := en.own hp
  rw [hs] at ha'
  cases ha'
  refine ⟨hz, j, ?_⟩
  rcases cB hp with g | g
  ·exact ⟨_, g, rfl, hs, hm⟩
  ·exact ⟨_, g, rfl, hs, hm⟩
 have ML : ∀ a, (aw W a ∨ L a) → bM M L a := fun a z => z.elim (fun ⟨i, w⟩ => .inl (o.wm i a w)) .inr
 have nn : ∀ {a : Addr} {o : HO}, Rd H1 a o → H1 a ≠ none := fun h => h.elim (fun h => by rw [h]; exact fun z => nomatch z) fun ⟨u, h⟩ => by rw [h]; exact fun z => nomatch z
 refine ⟨bM M L, ps, r, qs, fun a z => z.elim (fun z => o1.old a (o1.mo a z)) fun z => (o1.loc a z).1, by omega, by omega, fun i k p v h1 h2 h3 => ?_, fun i j hij h1 h2 z => ?_, fun i a z => ML a (wml i a z).1, g3, fun v H' kc res => ?_⟩
 ·obtain ⟨b, hb, rb⟩ := rv.get h3
  have hone := ap i k b p h1 hb h2
  cases k with
  | v =>
   cases b with
   | val p' => cases hone; exact rb
   | new p' => exact rb.elim
   | slot j => cases hone
  | m =>
   cases b with
   | val p' => cases hone
   | new p' => cases hone
   | slot j =>
    obtain ⟨a, hs, hz, c⟩ := en.own hone
    have rb' : σ[j]? = some (some v) := rb
    rw [hs] at rb'
    cases rb'
    exact ⟨a, rfl, ⟨h1, h3⟩, c⟩
  | b =>
   have lendR : ∀ p, Rep K (bM M L) H1 p v → jL K (bM M L) (nW ks vs H1) eB H1 i v (zF .b p) := fun p hr => by
    cases hr with
    | lst h n r => exact ⟨_, rfl, .lst h (nn h) (fun ⟨i', w⟩ => n (ML _ (wml i' _ w).1)) (fun z => z) r⟩
    | cC h n kk r => exact ⟨_, rfl, .cC h (nn h) (fun ⟨i', w⟩ => n (ML _ (wml i' _ w).1)) (fun z => z) kk r⟩
    | aZ => exact Rep.aZ
    | bl b => exact Rep.bl b
    | int b => exact Rep.int b
    | str b => exact Rep.str b
    | ty b => exact Rep.ty b
    | tup h r => exact Rep.tup h r
   cases b with
   | val p' => cases hone; exact lendR _ rb
   | new p' => exact rb.elim
   | slot j =>
    have hone : rd e1 j = some p := hone
    unfold Mr.rd at hone
    cases c : e1[j]? with
    | none => rw [c] at hone; cases hone
    | some s =>
     cases s with
     | none => rw [c] at hone; cases hone
     | some s =>
      rw [c] at hone
      cases hone
      obtain ⟨u, hs, sr⟩ := en.at' j s c
      have rb' : σ[j]? = some (some v) := rb
      rw [hs] at rb'
      cases rb'
      have nm : j ∉ cT ks bs := nb j (tV h1 hb)
      have nw : ∀ a, s.eA = true → σ[j]? = some (some (.ref a)) → ¬ aw (nW ks vs H1) a := fun a hm ha ⟨i', w⟩ => by
       obtain ⟨_, j', s', hs', hm', ha', hj'⟩ := wml i' a w
       have ne : j ≠ j' := fun z => nm (z ▸ hj')
       exact en.nQ j j' s s' ne c hs' hm hm' (by rw [ha, ha'])
      cases s with
      | val p => exact lendR p sr
      | own p =>
       obtain ⟨a, e, w, ct⟩ := sr
       subst e
       cases ct with
       | lst h r => exact ⟨a, rfl, .lst (.inl h) (nn (.inl h)) (nw a rfl hs) (fun z => z) r⟩
       | cC h kk r => exact ⟨a, rfl, .cC (.inl h) (nn (.inl h)) (nw a rfl hs) (fun z => z) kk r⟩
      | loc p =>
       obtain ⟨a, e, w, ct⟩ := sr
       subst e
       cases ct with
       | lst h r => exact ⟨a, rfl, .lst (.inl h) (nn (.inl h)) (nw a rfl hs) (fun z => z) r⟩
       | cC h kk r => exact ⟨a, rfl, .cC (.inl h) (nn (.inl h)) (nw a rfl hs) (fun z => z) kk r⟩
      | bor p =>
       obtain ⟨a, e, ct⟩ := sr
       subst e
       cases ct with
       | lst h od n m r => exact ⟨a, rfl, .lst h (nn h) (fun ⟨i', w⟩ => (wml i' a w).1.elim n m) (fun z => z) r⟩
       | gK h r => exact ⟨a, rfl, .gK h r⟩
       | cC h od n m kk r => exact ⟨a, rfl, .cC h (nn h) (fun ⟨i', w⟩ => (wml i' a w).1.elim n m) (fun z => z) kk r⟩
 ·
  have hi : i < ks.length := (List.getElem?_eq_some_iff.mp h1).1
  have hj : j < ks.length := (List.getElem?_eq_some_iff.mp h2).1
  have vi : vs[i]? = some (vs[i]'(by omega)) := List.getElem?_eq_getElem (by omega)
  have vj : vs[j]? = some (vs[j]'(by omega)) := List.getElem?_eq_getElem (by omega)
  have key : ∀ (i : Nat) (v : V), ks[i]? = some Kd.m → vs[i]? = some v → ∃ (j : Nat) (a : Addr), v = .ref a ∧ bs[i]? = some (Bv.slot j) ∧ σ[j]? = some (some v) ∧ ∃ p, ownAt e1 j = some p := fun i v h1 h3 => by
   obtain ⟨b, hb, rb⟩ := rv.get h3
   have hi : i < ks.length := (List.getElem?_eq_some_iff.mp h1).1
   have := ap i _ b _ h1 hb (List.getElem?_eq_getElem (show i < ps.length by omega))
   cases b with
   | val p => cases this
   | new p => cases this
   | slot l =>
    obtain ⟨a, ha, _, _⟩ := en.own this
    have rb' : σ[l]? = some (some v) := rb
    rw [ha] at rb'
    cases rb'
    exact ⟨l, a, rfl, hb, ha, _, this⟩
  obtain ⟨l1, a1, x1, y1, z1, p1, w1⟩ := key i _ h1 vi
  obtain ⟨l2, a2, x2, y2, z2, p2, w2⟩ := key j _ h2 vj
  by_cases hl : l1 = l2
  ·subst hl; exact rL nd hij h1 h2 y1 y2
  ·have m1 : ∃ s, e1[l1]? = some (some s) ∧ s.eA = true := by rcases cB w1 with g | g <;> exact ⟨_, g, rfl⟩
   have m2 : ∃ s, e1[l2]? = some (some s) ∧ s.eA = true := by rcases cB w2 with g | g <;> exact ⟨_, g, rfl⟩
   obtain ⟨s1, b1, c1⟩ := m1
   obtain ⟨s2, b2, c2⟩ := m2
   refine en.nQ l1 l2 s1 s2 hl b1 b2 c1 c2 ?_
   rw [z1, z2, ← Option.some.inj (vi.symm.trans (z.trans vj))]
 ·
  have kout : cZ W L H1 H' := ⟨fun a ob h n m => kc.obj a ob h (fun ⟨i, w⟩ => (wml i a w).1.elim n m) (fun z => z), kc.tup, kc.dR⟩
  have pend : ∀ (Zf Lf : aO), (∀ a ob, H1 a = some ob → ¬ bM M L a → ¬ Zf a) → (∀ a, L a → Lf a) → (∀ a ob, H1 a = some ob → ¬ L a → ¬ Lf a) → vC K Zf W Lf H' σ (fun i => ∃ j, (i, j) ∈ (cT ks bs).zipIdx) e1 := fun Zf Lf hz hL hL2 => by
   have kf : eJ (bM M L) Zf H1 H' := ⟨kc.tup, fun a ob h n => ⟨kc.obj a ob h (fun ⟨i, w⟩ => n (ML a (wml i a w).1)) (fun z => z), hz a ob h n⟩⟩
   refine ⟨en.len, fun i s hs => ?_, en.nQ⟩
   obtain ⟨u, h1, h2⟩ := en.at' i s hs
   have keepM : ∀ a, s.eA = true → ¬ (∃ j, (i, j) ∈ (cT ks bs).zipIdx) → u = .ref a → ∀ ob, H1 a = some ob → H' a = some ob := fun a hm nt ev ob h => by
    subst ev
    refine kc.obj a ob h (fun ⟨i', w⟩ => ?_) (fun z => z)
    obtain ⟨_, j', s', hs', hm', ha', hj'⟩ := wml i' a w
    obtain ⟨n, hn⟩ := List.getElem?_of_mem hj'
    have ne : j' ≠ i := fun z => nt ⟨n, by rw [← z]; exact List.mem_zipIdx_iff_getElem?.mpr hn⟩
    exact en.nQ j' i s' s ne hs' hs hm' hm (by rw [ha', h1])
   have rk : ∀ {a : Addr} {o : HO}, Rd H1 a o → ¬ L a → ¬ Lf a := fun h n => h.elim (fun h => hL2 _ _ h n) fun ⟨u, h⟩ => hL2 _ _ h n
   refine ⟨u, h1, fun z => ?_, fun hm => ?_⟩
   ·cases s with
    | val p => exact Rep.aR kf h2
    | own p => obtain ⟨a, e, w, c⟩ := h2; exact ⟨a, e, w, c.aR kf fun ob h => keepM a rfl (z.elim id fun z => nomatch z) e ob h⟩
    | loc p => obtain ⟨a, e, w, c⟩ := h2; exact ⟨a, e, hL a w, c.aR kf fun ob h => keepM a rfl (z.elim id fun z => nomatch z) e ob h⟩
    | bor p =>
     obtain ⟨a, e, c⟩ := h2
     refine ⟨a, e, ?_⟩
     cases c with
     | lst h od n m r => exact .lst (h.elim (fun h => .inl (kout.obj _ _ h n m)) fun ⟨u, h⟩ => .inr ⟨u, kout.obj _ _ h n m⟩) od n (rk h m) (r.aR kf)
     | gK h r => exact .gK h (r.aR kf)
     | cC h od n m kk r => exact .cC (h.elim (fun h => .inl (kout.obj _ _ h n m)) fun ⟨u, h⟩ => .inr ⟨u, kout.obj _ _ h n m⟩) od n (rk h m) kk (r.aR kf)
   ·cases s with
    | val p => cases hm
    | bor p => cases hm
    | own p => obtain ⟨a, e, w, c⟩ := h2; exact ⟨a, e, .inl ⟨p, rfl, w⟩⟩
    | loc p => obtain ⟨a, e, w, c⟩ := h2; exact ⟨a, e, .inr ⟨p, rfl, hL a w⟩⟩
  have back : ∀ (Zf : aO), yE K Zf H' ks vs qs → ∀ i j p a, (i, j) ∈ (cT ks bs).zipIdx → ownAt (qs.map fun q => some (.own q)) j = some p → σ[i]? = some (some (.ref a)) → iV K Zf H' a p := fun Zf mu i j p a hm hp ha => by
   have hm' := List.mem_zipIdx_iff_getElem?.mp hm
   obtain ⟨v', a1, a2⟩ := nN rv g1 hm'
   dsimp only at a2
   rw [ha] at a2
   cases a2
   have hq : qs[j]? = some p := by
    rcases cB hp with g | g
    ·rw [List.getElem?_map] at g
     cases c : qs[j]? with
     | none => rw [c] at g; cases g
     | some q' => rw [c] at g; cases g; rfl
    ·rw [List.getElem?_map] at g
     cases c : qs[j]? with
     | none => rw [c] at g; cases g
     | some q' => rw [c] at g; cases g
   obtain ⟨a', e, c⟩ := mu j _ p a1 hq
   cases e
   exact c
  cases fr with
  | false =>
   obtain ⟨rr, mu⟩ := res
   exact q v H' (k1.trans kout) ⟨lI (pend (bM M L) L (fun _ _ _ n => n) (fun _ z => z) fun _ _ _ n => n) (back _ mu) g4, rr⟩ trivial
  | true =>
   obtain ⟨a, rfl, na, c, mu⟩ := res
   have sub : ∀ b, bM M (bM L (one a)) b → bM (bM M L) (one a) b := fun b z => by
    rcases z with z | z | z
    ·exact .inl (.inl z)
    ·exact .inl (.inr z)
    ·exact .inr z
   have ne : ∀ b ob, H1 b = some ob → b ≠ a := fun b ob h => dM h na
   have mu' : yE K (bM M (bM L (one a))) H' ks vs qs := fun n v q' h1 h2 => by
    obtain ⟨a', e, c⟩ := mu n v q' h1 h2
    exact ⟨a', e, c.aR (.less sub) fun _ h => h⟩
   refine q _ H' (k1.trans kout) ⟨a, rfl, fun z => o1.old a z na, fun z => (o1.loc a z).1 na, lI (pend (bM M (bM L (one a))) (bM L (one a)) (fun b ob h n z => ?_) (fun _ z => .inl z) fun b ob h n z => z.elim n (ne b ob h)) (back _ mu') g4, fun i s hs hm e => ?_, c.aR (.less sub) fun _ h => h⟩ (Fr.back (b := .new r) k1.dR fun b e => by cases e; exact na)
   ·rcases z with z | z | z
    ·exact n (.inl z)
    ·exact n (.inr z)
    ·exact ne b ob h z
   ·obtain ⟨s', hs', hm'⟩ := kK g4 i s hs hm
    obtain ⟨u, h1, h2⟩ := en.at' i s' hs'
    rw [e] at h1
    cases h1
    cases s' with
    | val p => cases hm'
    | bor p => cases hm'
    | own p => obtain ⟨b, e, w, c⟩ := h2; cases e; obtain ⟨ob, h, _⟩ := c.there; rw [na] at h; cases h
    | loc p => obtain ⟨b, e, w, c⟩ := h2; cases e; obtain ⟨ob, h, _⟩ := c.there; rw [na] at h; cases h
end
end Mr
namespace Mr
open PySem PySem.Spec L2 PyProof.Rows
mutual
inductive Lies (h : Heap) : PV → Value → Prop
 | aZ : Lies h .aZ .none
 | bl (b) : Lies h (.bl b) (.bool b)
 | int (i t) : Lies h (.int i) (.int i t)
 | str (x t) : Lies h (.str x) (.str x t)
 | tup {a : Addr} {its : List Value} {ps : List PV} : IsTup h a its.toArray → cM h ps its → Lies h (.tup ps) (.ref a)
 | lst {a : Addr} {its : List Value} {ps : List PV} : h.IsList a its.toArray → cM h ps its → Lies h (.lst ps) (.ref a)
inductive cM (h : Heap) : List PV → List Value → Prop
 | nil : cM h [] []
 | cons {p : PV} {v : Value} {ps : List PV} {vs : List Value} : Lies h p v → cM h ps vs → cM h (p :: ps) (v :: vs)
end
noncomputable def jE : Nat → PV → Bool
 | _, .aZ => true
 | _, .bl _ => true
 | _, .int _ => true
 | _, .str _ => true
 | n + 1, .tup ps => ps.all (jE n)
 | n + 1, .lst ps => ps.all (jE n)
 | _, _ => false
section
variable {X : Cx} {pins : List (Addr × Obj)} {σ : L2.St} {H : Hp} {s : Shared}
theorem Rep.lies {Z : aO} (I : Inv X pins σ H s) : ∀ {n : Nat} {p : PV} {x : V} {v : Value}, jE n p = true → Rep X.K Z H p x → RelV x v → Lies s.heap p v
 | n, .aZ, x, v, ok, h, r => by cases h; cases r; exact .aZ
 | n, .bl b, x, v, ok, h, r => by cases h; cases r; exact .bl b
 | n, .int b, x, v, ok, h, r => by cases h; obtain ⟨t, rfl⟩ := r; exact .int b t
 | n, .str b, x, v, ok, h, r => by cases h; obtain ⟨t, rfl⟩ := r; exact .str b t
 | n, .ty b, x, v, ok, h, r => by cases n <;> cases ok
 | n, .cC b, x, v, ok, h, r => by cases n <;> cases ok
 | 0, .tup ps, x, v, ok, h, r => by cases ok
 | 0, .lst ps, x, v, ok, h, r => by cases ok
 | n + 1, .tup ps, x, v, ok, h, r => by
  cases h with
  | tup h rl =>
   cases r
   obtain ⟨its, rv, pl, _⟩ := I.tuple h.sq
   have key : ∀ (ps : List PV) (xs : List V) (its : List Value), ps.all (jE n) = true → bP X.K Z H ps xs → Vals xs its → cM s.heap ps its := fun ps => by
    induction ps with
    | nil => intro xs its _ h1 h2; cases h1; cases h2; exact .nil
    | cons p ps ih =>
     intro xs its ha h1 h2
     rw [List.all_cons, Bool.and_eq_true] at ha
     cases h1 with
     | cons h1 r1 =>
      cases h2 with
      | cons h2 r2 => exact .cons (Rep.lies I (n := n) ha.1 h1 h2) (ih _ _ ha.2 r1 r2)
   exact .tup pl (key ps _ its ok rl rv)
 | n + 1, .lst ps, x, v, ok, h, r => by
  cases h with
  | lst h nz rl =>
   cases r
   obtain ⟨its, rv, pl, _⟩ := I.list (show jC X.K H _ _ from .inl h)
   have key : ∀ (ps : List PV) (xs : List V) (its : List Value), ps.all (jE n) = true → bP X.K Z H ps xs → Vals xs its → cM s.heap ps its := fun ps => by
    induction ps with
    | nil => intro xs its _ h1 h2; cases h1; cases h2; exact .nil
    | cons p ps ih =>
     intro xs its ha h1 h2
     rw [List.all_cons, Bool.and_eq_true] at ha
     cases h1 with
     | cons h1 r1 =>
      cases h2 with
      | cons h2 r2 => exact .cons (Rep.lies I (n := n) ha.1 h1 h2) (ih _ _ ha.2 r1 r2)
   exact .lst pl.isList (key ps _ its ok rl rv)
theorem bP.lies {Z : aO} (I : Inv X pins σ H s) {n : Nat} : ∀ {ps : List PV} {xs : List V} {its : List Value}, ps.all (jE n) = true → bP X.K Z H ps xs → Vals xs its → cM s.heap ps its
 | [], _, _, _, h1, h2 => by cases h1; cases h2; exact .nil
 | p :: ps, _, _, ha, h1, h2 => by
  rw [List.all_cons, Bool.and_eq_true] at ha
  cases h1 with
  | cons h1 r1 =>
   cases h2 with
   | cons h2 r2 => exact .cons (Rep.lies I (n := n) ha.1 h1 h2) (bP.lies I ha.2 r1 r2)
theorem Red.lies {Z : aO} (I : Inv X pins σ H s) {n : Nat} {p : PV} {x : V} {v : Value} (ok : jE n p = true) (h : Red X.K Z H p x) (r : RelV x v) : Lies s.heap p v := by
 cases h with
 | rep h => exact h.lies I ok r
 | lst h rl =>
  cases r
  cases n with
  | zero => cases ok
  | succ n =>
   obtain ⟨its, rv, pl, _⟩ := I.list h.sq
   exact .lst pl.isList (bP.lies I (n := n) ok rl rv)
 | cC h e r => cases n <;> cases ok
end
mutual
noncomputable def bV : PV → PV → Bool
 | .aZ, .aZ => true
 | .bl a, .bl b => a == b
 | .bl a, .int b => (if a then 1 else 0) == b
 | .int a, .bl b => a == (if b then 1 else 0)
 | .int a, .int b => a == b
 | .str a, .str b => a == b
 | .tup xs, .tup ys => dX xs ys
 | .lst xs, .lst ys => dX xs ys
 | _, _ => false
noncomputable def dX : List PV → List PV → Bool
 | [], [] => true
 | x :: xs, y :: ys => bV x y && dX xs ys
 | _, _ => false
end
theorem mD {xs ys : List PV} : bV (.tup xs) (.tup ys) = dX xs ys := by rw [bV]
theorem qD {xs ys : List PV} : bV (.lst xs) (.lst ys) = dX xs ys := by rw [bV]
theorem cM.length {h : Heap} : ∀ {ps : List PV} {vs : List Value}, cM h ps vs → ps.length = vs.length
 | _, _, .nil => rfl
 | _, _, .cons _ r => by rw [List.length_cons, List.length_cons, cM.length r]
theorem cM.get {h : Heap} : ∀ {ps : List PV} {vs : List Value} {i : Nat} {v : Value}, cM h ps vs → vs[i]? = some v → ∃ p, ps[i]? = some p ∧ Lies h p v
 | _, _, _, _, .nil, e => by simp at e
 | _, _, 0, _, .cons q _, e => by simp at e; subst e; exact ⟨_, rfl, q⟩
 | _, _, i + 1, _, .cons _ r, e => by
  obtain ⟨v, h1, h2⟩ := cM.get (i := i) r (by simpa using e)
  exact ⟨v, by simpa using h1, h2⟩
theorem B8 {h : Heap} {a : Addr} {xs ys : Array Value} (h1 : IsTup h a xs) (h2 : IsTup h a ys) : xs = ys := by
 obtain ⟨o, g, _, n, d⟩ := h1
 obtain ⟨o', g', _, n', d'⟩ := h2
 rw [g] at g'
 cases g'
 rw [d] at d'
 injection d'
theorem BH {h : Heap} {a : Addr} {xs ys : Array Value} (h1 : h.IsList a xs) (h2 : h.IsList a ys) : xs = ys := by
 obtain ⟨o, g, _, n, d⟩ := h1
 obtain ⟨o', g', _, n', d'⟩ := h2
 rw [g] at g'
 cases g'
 rw [d] at d'
 injection d'
theorem qF {h : Heap} {a : Addr} {xs ys : Array Value} (h1 : IsTup h a xs) (h2 : h.IsList a ys) : False := by
 obtain ⟨o, g, c, n, d⟩ := h1
 obtain ⟨o', g', c', n', d'⟩ := h2
 rw [g] at g'
 cases g'
 rw [c] at c'
 exact absurd c' (by decide)
mutual
theorem Lies.same {h : Heap} : ∀ {p : PV} {v : Value}, Lies h p v → ∀ {q : PV}, Lies h q v → bV p q = true
 | _, _, .aZ, q, k => by cases k; rfl
 | _, _, .bl b, q, k => by cases k; exact beq_self_eq_true b
 | _, _, .int i t, q, k => by cases k; exact beq_self_eq_true i
 | _, _, .str i t, q, k => by cases k; exact beq_self_eq_true i
 | _, _, .tup ht r, q, k => by
  cases k with
  | tup ht' r' =>
   have e : _ = _ := B8 ht ht'
   have e := congrArg Array.toList e
   simp only [List.toList_toArray] at e
   subst e
   unfold bV
   exact cM.same r r'
  | lst hl r' => exact (qF ht hl).elim
 | _, _, .lst ht r, q, k => by
  cases k with
  | tup ht' r' => exact (qF ht' ht).elim
  | lst hl r' =>
   have e := congrArg Array.toList (BH ht hl)
   simp only [List.toList_toArray] at e
   subst e
   unfold bV
   exact cM.same r r'
theorem cM.same {h : Heap} : ∀ {p : List PV} {v : List Value}, cM h p v → ∀ {q : List PV}, cM h q v → dX p q = true
 | _, _, .nil, q, k => by cases k; rfl
 | _, _, .cons h1 r1, q, k => by
  cases k with
  | cons h2 r2 => unfold dX; rw [Lies.same h1 h2, cM.same r1 r2]; rfl
end
mutual
theorem Lies.fn {h : Heap} : ∀ {p : PV} {v : Value}, Lies h p v → ∀ {q : PV}, Lies h q v → p = q
 | _, _, .aZ, q, k => by cases k; rfl
 | _, _, .bl b, q, k => by cases k; rfl
 | _, _, .int i t, q, k => by cases k; rfl
 | _, _, .str i t, q, k => by cases k; rfl
 | _, _, .tup ht r, q, k => by
  cases k with
  | tup ht' r' =>
   have e := congrArg Array.toList (B8 ht ht')
   simp only [List.toList_toArray] at e
   subst e
   rw [cM.fn r r']
  | lst hl r' => exact (qF ht hl).elim
 | _, _, .lst ht r, q, k => by
  cases k with
  | tup ht' r' => exact (qF ht' ht).elim
  | lst hl r' =>
   have e := congrArg Array.toList (BH ht hl)
   simp only [List.toList_toArray] at e
   subst e
   rw [cM.fn r r']
theorem cM.fn {h : Heap} : ∀ {p : List PV} {v : List Value}, cM h p v → ∀ {q : List PV}, cM h q v → p = q
 | _, _, .nil, q, k => by cases k; rfl
 | _, _, .cons h1 r1, q, k => by
  cases k with
  | cons h2 r2 => rw [Lies.fn h1 h2, cM.fn r1 r2]
end
theorem gF : ∀ {ps qs : List PV}, ((List.range (min ps.length qs.length)).all (fun j => bV (ps.getD j .aZ) (qs.getD j .aZ)) && ps.length == qs.length) = dX ps qs
 | [], [] => rfl
 | [], _ :: _ => by unfold dX; simp
 | _ :: _, [] => by unfold dX; simp
 | p :: ps, q :: qs => by
  have ih := gF (ps := ps) (qs := qs)
  unfold dX
  rw [← ih]
  have e : min (p :: ps).length (q :: qs).length = min ps.length qs.length + 1 := by simp only [List.length_cons]; omega
  rw [e, List.range_succ_eq_map, List.all_cons, List.all_map]
  have e2 : ((p :: ps).length == (q :: qs).length) = (ps.length == qs.length) := by
   rw [Bool.eq_iff_iff]; simp
  rw [e2, Bool.and_assoc]
  rfl
section
variable {A : Around} {s : Shared}
theorem toArr {vs : List Value} {j : Nat} (h : j < vs.toArray.size) : vs[j]? = some (vs.toArray[j]) := by simp at h ⊢
theorem vB : ∀ (n : Nat) (A : Around) {p q : PV} {v u : Value}, A.units + n < cLine → jE n p = true → jE n q = true → Lies s.heap p v → Lies s.heap q u → SeqAt.EqAt A s v u (bV p q) := by
 intro n
 induction n with
 | zero =>
  intro A p q v u hu o1 o2 h1 h2
  cases h1 with
  | tup _ _ => cases o1
  | lst _ _ => cases o1
  | aZ =>
   cases h2 with
   | tup _ _ => cases o2
   | lst _ _ => cases o2
   | aZ => exact .same _
   | bl b => exact .none_bool b
   | int b t => exact .none_int b t
   | str b t => exact .none_str b t
  | bl a =>
   cases h2 with
   | tup _ _ => cases o2
   | lst _ _ => cases o2
   | aZ => exact .bool_none a
   | bl b => exact .bool_bool a b
   | int b t => exact .bool_int a b t
   | str b t => exact .bool_str a b t
  | int a t' =>
   cases h2 with
   | tup _ _ => cases o2
   | lst _ _ => cases o2
   | aZ => exact .int_none a t'
   | bl b => exact .int_bool a t' b
   | int b t => exact .int_int a t' b t
   | str b t => exact .int_str a t' b t
  | str a t' =>
   cases h2 with
   | tup _ _ => cases o2
   | lst _ _ => cases o2
   | aZ => exact .str_none a t'
   | bl b => exact .str_bool a t' b
   | int b t => exact .str_int a t' b t
   | str b t => exact .str_str a t' b t
 | succ n ih =>
  intro A p q v u hu o1 o2 h1 h2
  have hu0 : A.units < cLine := by omega
  have hin : A.in1.units = A.units + 1 := rfl
  have els : ∀ {ps qs : List PV} {vs us : List Value}, ps.all (jE n) = true → qs.all (jE n) = true → cM s.heap ps vs → cM s.heap qs us → ∀ (j : Nat) (g1 : j < vs.toArray.size) (g2 : j < us.toArray.size), SeqAt.EqAt A.in1 s vs.toArray[j] us.toArray[j] (bV (ps.getD j .aZ) (qs.getD j .aZ)) := fun {ps qs vs us} a1 a2 l1 l2 j g1 g2 => by
   obtain ⟨x, ex, rx⟩ := l1.get (toArr g1)
   obtain ⟨y, ey, ry⟩ := l2.get (toArr g2)
   rw [List.getD_eq_getElem?_getD, List.getD_eq_getElem?_getD, ex, ey]
   exact ih A.in1 (by omega) (List.all_eq_true.mp a1 _ (List.mem_of_getElem? ex)) (List.all_eq_true.mp a2 _ (List.mem_of_getElem? ey)) rx ry
  cases h1 with
  | tup ht r =>
   cases h2 with
   | tup ht' r' =>
    rename_i a its ps a' its' ps'
    by_cases hab : a = a'
    ·subst hab
     rw [Lies.same (.tup ht r) (.tup ht' r')]
     exact .same _
    ·refine .of_refs hab ?_
     have e : bV (.tup ps) (.tup ps') = ((List.range (min its.toArray.size its'.toArray.size)).all (fun j => bV (ps.getD j .aZ) (ps'.getD j .aZ)) && its.toArray.size == its'.toArray.size) := by
      rw [mD, ← gF, r.length, r'.length, List.size_toArray, List.size_toArray]
     rw [e]
     exact SeqAt.RcAt.tuples (e := fun j => bV (ps.getD j .aZ) (ps'.getD j .aZ)) ht ht' hu0 (els o1 o2 r r')
   | lst hl r' => exact .tuple_list ht hl hu0
   | aZ => exact .tuple_none ht hu0
   | bl b => exact .tuple_bool b ht hu0
   | int b t => exact .tuple_int b t ht hu0
   | str b t => exact .tuple_str b t ht hu0
  | lst ht r =>
   cases h2 with
   | tup ht' r' => exact .list_tuple ht ht' hu0
   | lst ht' r' =>
    rename_i a its ps a' its' ps'
    by_cases hab : a = a'
    ·subst hab
     rw [Lies.same (.lst ht r) (.lst ht' r')]
     exact .same _
    ·refine .of_refs hab ?_
     by_cases hsz : its.length = its'.length
     ·have e : bV (.lst ps) (.lst ps') = (List.range its.toArray.size).all (fun j => bV (ps.getD j .aZ) (ps'.getD j .aZ)) := by
       rw [qD, ← gF, r.length, r'.length, List.size_toArray, ← hsz, Nat.min_self, beq_self_eq_true, Bool.and_true]
      rw [e]
      exact SeqAt.RcAt.lists (e := fun j => bV (ps.getD j .aZ) (ps'.getD j .aZ)) ht ht' (by simp [hsz]) hu0 (els o1 o2 r r')
     ·have e : bV (.lst ps) (.lst ps') = false := by
       rw [qD, ← gF, r.length, r'.length, show (its.length == its'.length) = false by simp [hsz], Bool.and_false]
      rw [e]
      exact SeqAt.RcAt.lists_lengths ht ht' (by simp [hsz]) hu0
   | aZ => exact .list_none ht hu0
   | bl b => exact .list_bool b ht hu0
   | int b t => exact .list_int b t ht hu0
   | str b t => exact .list_str b t ht hu0
  | aZ =>
   cases h2 with
   | tup ht' r' => exact .none_tuple ht' hu0
   | lst hl r' => exact .none_list hl hu0
   | aZ => exact .same _
   | bl b => exact .none_bool b
   | int b t => exact .none_int b t
   | str b t => exact .none_str b t
  | bl a =>
   cases h2 with
   | tup ht' r' => exact .bool_tuple a ht' hu0
   | lst hl r' => exact .bool_list a hl hu0
   | aZ => exact .bool_none a
   | bl b => exact .bool_bool a b
   | int b t => exact .bool_int a b t
   | str b t => exact .bool_str a b t
  | int a t' =>
   cases h2 with
   | tup ht' r' => exact .int_tuple a t' ht' hu0
   | lst hl r' => exact .int_list a t' hl hu0
   | aZ => exact .int_none a t'
   | bl b => exact .int_bool a t' b
   | int b t => exact .int_int a t' b t
   | str b t => exact .int_str a t' b t
  | str a t' =>
   cases h2 with
   | tup ht' r' => exact .str_tuple a t' ht' hu0
   | lst hl r' => exact .str_list a t' hl hu0
   | aZ => exact .str_none a t'
   | bl b => exact .str_bool a t' b
   | int b t => exact .str_int a t' b t
   | str b t => exact .str_str a t' b t
theorem HQ {n : Nat} {A : Around} {p q : PV} {v u : Value} (hu : A.units + (n + 1) < cLine) (o1 : jE (n + 1) p = true) (o2 : jE (n + 1) q = true) (h1 : Lies s.heap p v) (h2 : Lies s.heap q u) : SeqAt.RcAt A s v u (bV p q) ∧ SeqAt.RcNeAt A s v u (!bV p q) := by
 have hu0 : A.units < cLine := by omega
 have hin : A.in1.units = A.units + 1 := rfl
 have els : ∀ {ps qs : List PV} {vs us : List Value}, ps.all (jE n) = true → qs.all (jE n) = true → cM s.heap ps vs → cM s.heap qs us → ∀ (j : Nat) (g1 : j < vs.toArray.size) (g2 : j < us.toArray.size), SeqAt.EqAt A.in1 s vs.toArray[j] us.toArray[j] (bV (ps.getD j .aZ) (qs.getD j .aZ)) := fun {ps qs vs us} a1 a2 l1 l2 j g1 g2 => by
  obtain ⟨x, ex, rx⟩ := l1.get (toArr g1)
  obtain ⟨y, ey, ry⟩ := l2.get (toArr g2)
  rw [List.getD_eq_getElem?_getD, List.getD_eq_getElem?_getD, ex, ey]
  exact vB n A.in1 (by omega) (List.all_eq_true.mp a1 _ (List.mem_of_getElem? ex)) (List.all_eq_true.mp a2 _ (List.mem_of_getElem? ey)) rx ry
 cases h1 with
 | tup ht r =>
  cases h2 with
  | tup ht' r' =>
   rename_i a its ps a' its' ps'
   have e : bV (.tup ps) (.tup ps') = ((List.range (min its.toArray.size its'.toArray.size)).all (fun j => bV (ps.getD j .aZ) (ps'.getD j .aZ)) && its.toArray.size == its'.toArray.size) := by
    rw [mD, ← gF, r.length, r'.length, List.size_toArray, List.size_toArray]
   rw [e]
   exact ⟨SeqAt.RcAt.tuples (e := fun j => bV (ps.getD j .aZ) (ps'.getD j .aZ)) ht ht' hu0 (els o1 o2 r r'), SeqAt.RcNeAt.tuples (e := fun j => bV (ps.getD j .aZ) (ps'.getD j .aZ)) ht ht' hu0 (els o1 o2 r r')⟩
  | lst hl r' => exact ⟨.tuple_list ht hl hu0, .tuple_list ht hl hu0⟩
  | aZ => exact ⟨.tuple_none ht hu0, .tuple_none ht hu0⟩
  | bl b => exact ⟨.tuple_bool b ht hu0, .tuple_bool b ht hu0⟩
  | int b t => exact ⟨.tuple_int b t ht hu0, .tuple_int b t ht hu0⟩
  | str b t => exact ⟨.tuple_str b t ht hu0, .tuple_str b t ht hu0⟩
 | lst ht r =>
  cases h2 with
  | tup ht' r' => exact ⟨.list_tuple ht ht' hu0, .list_tuple ht ht' hu0⟩
  | lst ht' r' =>
   rename_i a its ps a' its' ps'
   by_cases hsz : its.length = its'.length
   ·have e : bV (.lst ps) (.lst ps') = (List.range its.toArray.size).all (fun j => bV (ps.getD j .aZ) (ps'.getD j .aZ)) := by
     rw [qD, ← gF, r.length, r'.length, List.size_toArray, ← hsz, Nat.min_self, beq_self_eq_true, Bool.and_true]
    rw [e]
    exact ⟨SeqAt.RcAt.lists (e := fun j => bV (ps.getD j .aZ) (ps'.getD j .aZ)) ht ht' (by simp [hsz]) hu0 (els o1 o2 r r'), SeqAt.RcNeAt.lists (e := fun j => bV (ps.getD j .aZ) (ps'.getD j .aZ)) ht ht' (by simp [hsz]) hu0 (els o1 o2 r r')⟩
   ·have e : bV (.lst ps) (.lst ps') = false := by
     rw [qD, ← gF, r.length, r'.length, show (its.length == its'.length) = false by simp [hsz], Bool.and_false]
    rw [e]
    exact ⟨SeqAt.RcAt.lists_lengths ht ht' (by simp [hsz]) hu0, SeqAt.RcNeAt.lists_lengths ht ht' (by simp [hsz]) hu0⟩
  | aZ => exact ⟨.list_none ht hu0, .list_none ht hu0⟩
  | bl b => exact ⟨.list_bool b ht hu0, .list_bool b ht hu0⟩
  | int b t => exact ⟨.list_int b t ht hu0, .list_int b t ht hu0⟩
  | str b t => exact ⟨.list_str b t ht hu0, .list_str b t ht hu0⟩
 | aZ =>
  cases h2 with
  | tup ht' r' => exact ⟨.none_tuple ht' hu0, .none_tuple ht' hu0⟩
  | lst hl r' => exact ⟨.none_list hl hu0, .none_list hl hu0⟩
  | aZ => exact ⟨.none_none, .none_none⟩
  | bl b => exact ⟨.none_bool b, .none_bool b⟩
  | int b t => exact ⟨.none_int b t, .none_int b t⟩
  | str b t => exact ⟨.none_str b t, .none_str b t⟩
 | bl a =>
  cases h2 with
  | tup ht' r' => exact ⟨.bool_tuple a ht' hu0, .bool_tuple a ht' hu0⟩
  | lst hl r' => exact ⟨.bool_list a hl hu0, .bool_list a hl hu0⟩
  | aZ => exact ⟨.bool_none a, .bool_none a⟩
  | bl b => exact ⟨.bool_bool a b, .bool_bool a b⟩
  | int b t => exact ⟨.bool_int a b t, .bool_int a b t⟩
  | str b t => exact ⟨.bool_str a b t, .bool_str a b t⟩
 | int a t' =>
  cases h2 with
  | tup ht' r' => exact ⟨.int_tuple a t' ht' hu0, .int_tuple a t' ht' hu0⟩
  | lst hl r' => exact ⟨.int_list a t' hl hu0, .int_list a t' hl hu0⟩
  | aZ => exact ⟨.int_none a t', .int_none a t'⟩
  | bl b => exact ⟨.int_bool a t' b, .int_bool a t' b⟩
  | int b t => exact ⟨.int_int a t' b t, .int_int a t' b t⟩
  | str b t => exact ⟨.int_str a t' b t, .int_str a t' b t⟩
 | str a t' =>
  cases h2 with
  | tup ht' r' => exact ⟨.str_tuple a t' ht' hu0, .str_tuple a t' ht' hu0⟩
  | lst hl r' => exact ⟨.str_list a t' hl hu0, .str_list a t' hl hu0⟩
  | aZ => exact ⟨.str_none a t', .str_none a t'⟩
  | bl b => exact ⟨.str_bool a t' b, .str_bool a t' b⟩
  | int b t => exact ⟨.str_int a t' b t, .str_int a t' b t⟩
  | str b t => exact ⟨.str_str a t' b t, .str_str a t' b t⟩
end
noncomputable def IY (K : PySem.W.Frag) (neg : Bool) : R2 := fun x y H Q => ∃ p q, Red K eB H p x ∧ Red K eB H q y ∧ jE 9 p = true ∧ jE 9 q = true ∧ Q (.bl (if neg then !bV p q else bV p q)) H
noncomputable def AK : PV → Option (List PV)
 | .lst ps => some ps
 | .tup ps => some ps
 | _ => none
noncomputable def JE (K : PySem.W.Frag) (neg : Bool) : R2 := fun x y H Q => ∃ p q ps, Red K eB H p x ∧ Red K eB H q y ∧ AK q = some ps ∧ jE 8 p = true ∧ ps.all (jE 8) = true ∧ Q (.bl (if neg then !ps.any (fun z => bV z p) else ps.any fun z => bV z p)) H
section
variable {X : Cx} {k : Nat}
theorem oD (K : PySem.W.Frag) (hr : fA k X.A) (hK : X.K = K := by rfl) : gZ X (compareOp .Eq) (IY K false) := by
 subst hK
 intro pins s σ H x y v u Q I rx ry h
 obtain ⟨p, q, h1, h2, o1, o2, hQ⟩ := h
 exact (HQ (n := 8) (by have := hr.un; omega) o1 o2 (h1.lies I o1 rx) (h2.lies I o2 ry)).1 _ _ _ _ (iO I hQ rfl)
theorem EI (K : PySem.W.Frag) (hr : fA k X.A) (hK : X.K = K := by rfl) : gZ X (compareOp .NotEq) (IY K true) := by
 subst hK
 intro pins s σ H x y v u Q I rx ry h
 obtain ⟨p, q, h1, h2, o1, o2, hQ⟩ := h
 exact (HQ (n := 8) (by have := hr.un; omega) o1 o2 (h1.lies I o1 rx) (h2.lies I o2 ry)).2 _ _ _ _ (iO I hQ rfl)
theorem cM.any {h : Heap} {e : Value → Bool} {f : PV → Bool} (he : ∀ {q : PV} {y : Value}, Lies h q y → e y = f q) : ∀ {ps : List PV} {its : List Value}, cM h ps its → its.any e = ps.any f
 | _, _, .nil => rfl
 | _, _, .cons h r => by rw [List.any_cons, List.any_cons, he h, cM.any he r]
theorem vF {s : Shared} {A : Around} {p : PV} {u : Value} (hu : A.units + 8 < cLine) (op : jE 8 p = true) (hp : Lies s.heap p u) {ps : List PV} {its : List Value} (ops : ps.all (jE 8) = true) (hl : cM s.heap ps its) :
  ∃ e : Value → Bool, (∀ y, y ∈ its.toArray → SeqAt.EqAt A s y u (e y)) ∧ its.toArray.any e = ps.any fun z => bV z p := by
 classical
 let e : Value → Bool := fun y => if c : ∃ q, Lies s.heap q y then bV c.choose p else false
 have he : ∀ {q : PV} {y : Value}, Lies s.heap q y → e y = bV q p := fun {q y} h => by
  have c : ∃ q, Lies s.heap q y := ⟨q, h⟩
  show (if c : ∃ q, Lies s.heap q y then bV c.choose p else false) = _
  rw [dif_pos c, Lies.fn c.choose_spec h]
 refine ⟨e, fun y hy => ?_, ?_⟩
 ·obtain ⟨j, hj⟩ := List.getElem?_of_mem (show y ∈ its by simpa using hy)
  obtain ⟨q, h1, h2⟩ := hl.get hj
  rw [he h2]
  exact vB 8 A hu (List.all_eq_true.mp ops _ (List.mem_of_getElem? h1)) op h2 hp
 ·rw [List.any_toArray]
  exact cM.any (fun h => he h) hl
theorem W2 (K : PySem.W.Frag) (hr : fA k X.A) (hK : X.K = K := by rfl) : gZ X (compareOp .In) (JE K false) := by
 subst hK
 intro pins s σ H x y v u Q I rx ry h
 obtain ⟨p, q, ps, h1, h2, hi, o1, o2, hQ⟩ := h
 have hu : X.A.in1.units + 8 < cLine := by have := hr.un; show X.A.units + 1 + 8 < _; omega
 have lp := h1.lies I o1 rx
 cases q with
 | lst qs =>
  cases hi
  cases h2.lies I (n := 9) (p := .lst _) o2 ry with
  | lst hl r =>
   obtain ⟨e, e1, e2⟩ := vF hu o1 lp o2 r
   exact SeqAt.in_listAt e hl e1 (by rw [e2]; exact iO I hQ rfl)
 | tup qs =>
  cases hi
  cases h2.lies I (n := 9) (p := .tup _) o2 ry with
  | tup hl r =>
   obtain ⟨e, e1, e2⟩ := vF hu o1 lp o2 r
   exact SeqAt.in_tupleAt e hl e1 (by rw [e2]; exact iO I hQ rfl)
 | _ => cases hi
theorem J9 (K : PySem.W.Frag) (hr : fA k X.A) (hK : X.K = K := by rfl) : gZ X (compareOp .NotIn) (JE K true) := by
 subst hK
 intro pins s σ H x y v u Q I rx ry h
 obtain ⟨p, q, ps, h1, h2, hi, o1, o2, hQ⟩ := h
 have hu : X.A.in1.units + 8 < cLine := by have := hr.un; show X.A.units + 1 + 8 < _; omega
 have lp := h1.lies I o1 rx
 cases q with
 | lst qs =>
  cases hi
  cases h2.lies I (n := 9) (p := .lst _) o2 ry with
  | lst hl r =>
   obtain ⟨e, e1, e2⟩ := vF hu o1 lp o2 r
   exact SeqAt.notIn_listAt e hl e1 (by rw [e2]; exact iO I hQ rfl)
 | tup qs =>
  cases hi
  cases h2.lies I (n := 9) (p := .tup _) o2 ry with
  | tup hl r =>
   obtain ⟨e, e1, e2⟩ := vF hu o1 lp o2 r
   exact SeqAt.notIn_tupleAt e hl e1 (by rw [e2]; exact iO I hQ rfl)
 | _ => cases hi
end
end Mr
namespace Mr
open PySem PySem.Spec L2 PyProof.Rows
section
variable {K : PySem.W.Frag}
theorem eE.or {r r' : R2} {g g' : PV → PV → Option Bv} (h : eE K r g) (h' : eE K r' g') : eE K (fun x y H Q => r x y H Q ∨ r' x y H Q) (fun p q => (g p q).or (g' p q)) := by
 intro Z H x y p q b Q hp hq hg k
 have hg : (g p q).or (g' p q) = some b := hg
 cases c : g p q with
 | some b' => rw [c] at hg; cases hg; exact .inl (h Z H x y p q _ Q hp hq c k)
 | none => rw [c] at hg; exact .inr (h' Z H x y p q b Q hp hq hg k)
theorem lT.or {r r' : List V → Hp → VK → Prop} {g g' : List PV → Option Bv} (h : lT K r g) (h' : lT K r' g') : lT K (fun x H Q => r x H Q ∨ r' x H Q) (fun p => (g p).or (g' p)) := by
 intro Z H x p b Q hp hg k
 have hg : (g p).or (g' p) = some b := hg
 cases c : g p with
 | some b' => rw [c] at hg; cases hg; exact .inl (h Z H x p _ Q hp c k)
 | none => rw [c] at hg; exact .inr (h' Z H x p b Q hp hg k)
theorem CU.or {r r' : V → Option Int → Option Int → Hp → VK → Prop} {g g' : PV → Option Int → Option Int → Option Bv} (h : CU K r g) (h' : CU K r' g') : CU K (fun x l u H Q => r x l u H Q ∨ r' x l u H Q) (fun p l u => (g p l u).or (g' p l u)) := by
 intro Z H x p lo hi b Q hp hg k
 have hg : (g p lo hi).or (g' p lo hi) = some b := hg
 cases c : g p lo hi with
 | some b' => rw [c] at hg; cases hg; exact .inl (h Z H x p lo hi _ Q hp c k)
 | none => rw [c] at hg; exact .inr (h' Z H x p lo hi b Q hp hg k)
noncomputable def gI (C : Int → Int → Bool) (g : Int → Int → PV) : PV → PV → Option Bv
 | .int i, .int j => aU (C i j) (some (.val (g i j)))
 | _, _ => none
theorem E9 {C : Int → Int → Prop} {D : Int → Int → Bool} {g : Int → Int → V} {g' : Int → Int → PV} (hD : ∀ i j, D i j = true → C i j) (hg : ∀ i j Z H, Rep K Z H (g' i j) (g i j)) : eE K (rI C g) (gI D g') := by
 intro Z H x y p q b Q hp hq h k
 cases p with
 | int i =>
  cases q with
  | int j =>
   obtain ⟨c, h⟩ := aT h
   cases h
   exact ⟨i, j, hp.int, hq.int, hD i j c, k _ H (bG.refl _) (hg i j Z H)⟩
  | _ => cases h
 | _ => cases h
noncomputable def MT (g : Int → Int → PV) : PV → PV → Option Bv
 | .int i, .int j => some (.val (g i j))
 | _, _ => none
theorem uC {g : Int → Int → V} {g' : Int → Int → PV} (hg : ∀ i j Z H, Rep K Z H (g' i j) (g i j)) : eE K (AR g) (MT g') := by
 intro Z H x y p q b Q hp hq h k
 cases p with
 | int i =>
  cases q with
  | int j => cases h; exact ⟨i, j, hp.int, hq.int, k _ H (bG.refl _) (hg i j Z H)⟩
  | _ => cases h
 | _ => cases h
noncomputable def zR : PV → PV → Option Bv := MT fun i j => .int (i - j)
theorem G8 : eE K (AR fun i j => .int (i - j)) zR := uC fun _ _ _ _ => .int _
noncomputable def uM (i j : Int) : Bool := decide ((-18446744073709551616 < i ∧ i < 18446744073709551616) ∨ (-18446744073709551616 < j ∧ j < 18446744073709551616))
noncomputable def nV : PV → PV → Option Bv := gI uM fun i j => .int (i * j)
theorem kF : eE K (rI KW fun i j => .int (i * j)) nV := E9 (fun i j h => by have := of_decide_eq_true h; show (-(2 ^ 64) < i ∧ i < 2 ^ 64) ∨ (-(2 ^ 64) < j ∧ j < 2 ^ 64); omega) fun _ _ _ _ => .int _
noncomputable def zH : PV → PV → Option Bv := gI (fun _ j => decide (0 < j ∧ j < 1000000000000000000000000)) fun i j => .int (i / j)
theorem wN : eE K (rI MO fun i j => .int (i / j)) zH := E9 (fun i j h => by have := of_decide_eq_true h; show 0 < j ∧ j < 2 ^ 200; omega) fun _ _ _ _ => .int _
noncomputable def kJ : PV → PV → Option Bv := gI (fun _ j => decide (0 < j)) fun i j => .int (i % j)
theorem iM : eE K (rI (fun _ j => 0 < j) fun i j => .int (i % j)) kJ := E9 (fun _ _ h => of_decide_eq_true h) fun _ _ _ _ => .int _
noncomputable def p8 : PV → PV → Option Bv := gI (fun i j => decide (0 ≤ j ∧ (Builtin.Int.intBits i : Int) * j ≤ 2 ^ 27)) fun i j => .int (i ^ j.toNat)
theorem rB : eE K (rI (fun i j => 0 ≤ j ∧ (Builtin.Int.intBits i : Int) * j ≤ 2 ^ 27) fun i j => .int (i ^ j.toNat)) p8 := E9 (fun _ _ h => of_decide_eq_true h) fun _ _ _ _ => .int _
noncomputable def QP : PV → Option Bv
 | .int i => some (.val (.int (-i)))
 | _ => none
theorem RG : UN K (rU fun i => .int (-i)) QP := by
 intro Z H x p b Q hp h k
 cases p with
 | int i => cases h; exact ⟨i, hp.int, k _ H (bG.refl _) (Rep.int (-i))⟩
 | _ => cases h
noncomputable def D7 : PV → PV → Option Bv
 | .str i, .str j => aU (decide (i.length + j.length < 1000000)) (some (.val (.str (i ++ j))))
 | _, _ => none
theorem KQ : eE K (fun x y H Q => ∃ i j, x = .str i ∧ y = .str j ∧ i.length + j.length ≤ sizeLine ∧ Q (.str (i ++ j)) H) D7 := by
 intro Z H x y p q b Q hp hq h k
 cases p with
 | str i =>
  cases q with
  | str j =>
   obtain ⟨c, h⟩ := aT h
   cases h
   exact ⟨i, j, hp.str, hq.str, Nat.le_of_lt (jQ c), k _ H (bG.refl _) (Rep.str (i ++ j))⟩
  | _ => cases h
 | _ => cases h
noncomputable def G7 (K : PySem.W.Frag) : R2 := fun x y H Q => ∃ a b xs ys, x = .ref a ∧ y = .ref b ∧ jC K H a xs ∧ jC K H b ys ∧ xs.length + ys.length ≤ sizeLine ∧ ∀ p, H p = none → Q (.ref p) (upd H p (.lst (xs ++ ys)))
theorem WX {X : Cx} (K : PySem.W.Frag) (hK : X.K = K := by rfl) : gZ X (binaryOp .Add) (G7 K) := by
 subst hK
 intro pins s σ H x y v u Q I rx ry h
 obtain ⟨a, b, xs, ys, rfl, rfl, ha, hb, hz, q⟩ := h
 cases rx
 cases ry
 obtain ⟨its, r1, p1, _⟩ := I.list ha
 obtain ⟨its2, r2, p2, _⟩ := I.list hb
 obtain ⟨⟨cls, dd, data, sl⟩, ho, hc, n, hd⟩ := id p1.isList
 obtain ⟨⟨cls2, dd2, data2, sl2⟩, ho2, hc2, n2, hd2⟩ := id p2.isList
 simp only at hc hd hc2 hd2
 subst hc hd hc2 hd2
 have l1 := r1.length
 have l2 := r2.length
 have e : its.toArray ++ its2.toArray = (its ++ its2).toArray := by simp
 refine concat_meets ⟨_, ho, rfl⟩ ⟨_, ho2, rfl⟩ noFill_list_add seq_list_add PySem.F.slot_list_add PySem.F.entry_list_add (PySem.F.args_list_add_2 _ _) (list_addW a b its.toArray its2.toArray n n2 dd dd2 sl sl2 (by simp only [List.size_toArray]; omega)) ⟨ho, ho2, ?_⟩
 rw [e]
 exact ⟨.ref s.heap.objs.size, _, I.laid (t' := s.toks) (o := .lst (xs ++ ys)) (fun b ob q => Heap.get?_push_of_some _ q) (Nat.le_refl _) ⟨by rw [List.length_append]; exact hz, its ++ its2, 0, r1.append r2, Heap.get?_push_size _ rfl⟩, rfl, q _ (I.dJ.fresh (Nat.le_refl _))⟩
noncomputable def D8 : PV → PV → Option Bv
 | .lst i, .lst j => aU (decide (i.length + j.length < 1000000)) (some (.new (.lst (i ++ j))))
 | _, _ => none
theorem JR {Z : aO} {H : Hp} {a : Addr} {ps : List PV} {xs : List V} (hl : H a = none) (r : bP K Z H ps xs) : RN K Z H (upd H a (.lst xs)) (.ref a) (.new (.lst ps)) :=
 ⟨a, rfl, hl, .lst cG (r.aR (.new (bG.upd hl) hl))⟩
theorem LS : eE K (G7 K) D8 := by
 intro Z H x y p q b Q hp hq h k
 cases p with
 | lst i =>
  cases q with
  | lst j =>
   obtain ⟨c, h⟩ := aT h
   cases h
   obtain ⟨a, xs, rfl, ha, ra⟩ := hp.p7
   obtain ⟨a', ys, rfl, ha', ra'⟩ := hq.p7
   exact ⟨a, a', xs, ys, rfl, rfl, ha.sq, ha'.sq, by rw [← ra.length, ← ra'.length]; exact Nat.le_of_lt (jQ c), fun l hl => k _ _ (bG.upd hl) (JR hl (ra.app ra'))⟩
  | _ => cases h
 | _ => cases h
noncomputable def GS (K : PySem.W.Frag) : R2 := fun x y H Q => ∃ a b xs ys, x = .ref a ∧ y = .ref b ∧ TupAt K H a xs ∧ TupAt K H b ys ∧ xs.length + ys.length ≤ sizeLine ∧ ∀ p H', bG H H' → TupAt K H' p (xs ++ ys) → Q (.ref p) H'
theorem WV {X : Cx} (K : PySem.W.Frag) (hK : X.K = K := by rfl) : gZ X (binaryOp .Add) (GS K) := by
 subst hK
 intro pins s σ H x y v u Q I rx ry h
 obtain ⟨a, b, xs, ys, rfl, rfl, ha, hb, hz, q⟩ := h
 cases rx
 cases ry
 obtain ⟨its, r1, p1, _⟩ := I.tuple ha.sq
 obtain ⟨its2, r2, p2, _⟩ := I.tuple hb.sq
 refine HT.LG p1 p2 (fun z => ⟨.ref b, H, I, rfl, q b H (bG.refl _) (by rw [r1.A8.mp z]; exact hb)⟩) (fun z => ⟨.ref a, H, I, rfl, q a H (bG.refl _) (by rw [r2.A8.mp z, List.append_nil]; exact ha)⟩) (fun _ _ => ?_) (by rw [← r1.length, ← r2.length]; exact hz)
 refine ⟨.ref s.heap.objs.size, _, I.laid (t' := s.toks) (o := .tup (xs ++ ys)) (fun b ob q => Heap.get?_push_of_some _ q) (Nat.le_refl _) ?_, rfl, q _ _ (bG.upd (I.dJ.fresh (Nat.le_refl _))) (.inl cG)⟩
 exact ⟨by rw [List.length_append]; exact hz, _, r1.append r2, IsTup.new _ _⟩
noncomputable def D5 : PV → PV → Option Bv
 | .tup i, .tup j => aU (decide (i.length + j.length < 1000000)) (some (.val (.tup (i ++ j))))
 | _, _ => none
theorem IQ : eE K (GS K) D5 := by
 intro Z H x y p q b Q hp hq h k
 cases p with
 | tup i =>
  cases q with
  | tup j =>
   obtain ⟨c, h⟩ := aT h
   cases h
   obtain ⟨a, xs, rfl, ha, ra⟩ := hp.tup
   obtain ⟨a', ys, rfl, ha', ra'⟩ := hq.tup
   exact ⟨a, a', xs, ys, rfl, rfl, ha, ha', by rw [← ra.length, ← ra'.length]; exact Nat.le_of_lt (jQ c), fun l H' s t => k _ _ s (Rep.tup t ((ra.app ra').aR (.same s)))⟩
  | _ => cases h
 | _ => cases h
theorem gZ.or {X : Cx} {f : Value → Value → Sem Value} {r r' : R2} (h : gZ X f r) (h' : gZ X f r') : gZ X f (fun x y H Q => r x y H Q ∨ r' x y H Q) := by
 intro pins s σ H x y v u Q I rx ry q
 rcases q with q | q
 ·exact h pins s σ H x y v u Q I rx ry q
 ·exact h' pins s σ H x y v u Q I rx ry q
noncomputable def NC (K : PySem.W.Frag) : R2 := fun x y H Q => AR (fun i j => .int (i + j)) x y H Q ∨ ((∃ i j, x = .str i ∧ y = .str j ∧ i.length + j.length ≤ sizeLine ∧ Q (.str (i ++ j)) H) ∨ (G7 K x y H Q ∨ GS K x y H Q))
theorem eT {X : Cx} (K : PySem.W.Frag) (hK : X.K = K := by rfl) : gZ X (binaryOp .Add) (NC K) := gZ.or PF (gZ.or zX (gZ.or (WX K hK) (WV K hK)))
noncomputable def d4 : PV → PV → Option Bv := fun p q => (MT (fun i j => .int (i + j)) p q).or ((D7 p q).or ((D8 p q).or (D5 p q)))
theorem bZ : eE K (NC K) d4 := eE.or (uC fun _ _ _ _ => .int _) (eE.or KQ (eE.or LS IQ))
noncomputable def tI : PV → PV → Option Bv := fun p q => aU (jE 9 p && jE 9 q) (some (.val (.bl (bV p q))))
theorem Red.any {Z : aO} {H : Hp} {p : PV} {v : V} (h : Red K Z H p v) : Red K eB H p v := by
 have k : eJ Z eB H H := .less fun a z => z.elim
 cases h with
 | rep h => exact .rep (h.aR k)
 | lst h r => exact .lst h (r.aR k)
 | cC h e r => exact .cC h e (r.aR k)
theorem jN : eE K (IY K false) tI := by
 intro Z H x y p q b Q hp hq h k
 obtain ⟨c, h⟩ := aT h
 rw [Bool.and_eq_true] at c
 cases h
 exact ⟨p, q, hp.any, hq.any, c.1, c.2, k _ H (bG.refl _) (Rep.bl _)⟩
noncomputable def L8 : PV → PV → Option Bv := fun p q => aU (jE 9 p && jE 9 q) (some (.val (.bl (!bV p q))))
theorem yI : eE K (IY K true) L8 := by
 intro Z H x y p q b Q hp hq h k
 obtain ⟨c, h⟩ := aT h
 rw [Bool.and_eq_true] at c
 cases h
 exact ⟨p, q, hp.any, hq.any, c.1, c.2, k _ H (bG.refl _) (Rep.bl _)⟩
noncomputable def Q1 (neg : Bool) : PV → PV → Option Bv := fun p q => bO (AK q) fun ps => aU (jE 8 p && ps.all (jE 8)) (some (.val (.bl (if neg then !ps.any (fun z => bV z p) else ps.any fun z => bV z p))))
theorem O7 (neg : Bool) : eE K (JE K neg) (Q1 neg) := by
 intro Z H x y p q b Q hp hq h k
 obtain ⟨ps, g, h⟩ := aI h
 obtain ⟨c, h⟩ := aT h
 rw [Bool.and_eq_true] at c
 cases h
 exact ⟨p, q, ps, hp.any, hq.any, g, c.1, c.2, k _ H (bG.refl _) (Rep.bl _)⟩
noncomputable def QX (neg : Bool) : PV → PV → Option Bv
 | .str i, .str j => some (.val (.bl (if neg then !(!(Builtin.Str.occurrences j i 0 j.length 1).isEmpty) else !(Builtin.Str.occurrences j i 0 j.length 1).isEmpty)))
 | _, _ => none
noncomputable def SU (neg : Bool) : R2 := fun x y H Q => ∃ i j, x = .str i ∧ y = .str j ∧ Q (.bl (if neg then !(!(Builtin.Str.occurrences j i 0 j.length 1).isEmpty) else !(Builtin.Str.occurrences j i 0 j.length 1).isEmpty)) H
theorem OZ (neg : Bool) : eE K (SU neg) (QX neg) := by
 intro Z H x y p q b Q hp hq h k
 cases p with
 | str i =>
  cases q with
  | str j => cases h; exact ⟨i, j, hp.str, hq.str, k _ H (bG.refl _) (Rep.bl _)⟩
  | _ => cases h
 | _ => cases h
noncomputable def NT (neg : Bool) : PV → PV → Option Bv
 | p, .cC kvs => bO (keyOf p) fun k => some (.val (.bl (if neg then !(jP kvs k).isSome else (jP kvs k).isSome)))
 | _, _ => none
noncomputable def MG (neg : Bool) : R2 := fun x y H Q => ∃ a kvs k, y = .ref a ∧ zS H a kvs ∧ x = kV k ∧ Q (.bl (if neg then !(iT kvs k).isSome else (iT kvs k).isSome)) H
theorem inD {X : Cx} {k : Nat} (hr : fA k X.A) : gZ X (compareOp .In) (MG false) := by
 intro pins s σ H x y v u Q I rx ry h
 obtain ⟨a, kvs, key, rfl, ha, rfl, q⟩ := h
 cases ry
 exact XU (by have := hr.un; omega) I (.inl ⟨kvs, key, ha, rfl, rfl⟩) rx fun s' I' => ⟨.bl _, H, I', rfl, q⟩
theorem R7 {X : Cx} {k : Nat} (hr : fA k X.A) : gZ X (compareOp .NotIn) (MG true) := by
 intro pins s σ H x y v u Q I rx ry h
 obtain ⟨a, kvs, key, rfl, ha, rfl, q⟩ := h
 cases ry
 exact LY (by have := hr.un; omega) I (.inl ⟨kvs, key, ha, rfl, rfl⟩) rx fun s' I' => ⟨.bl _, H, I', rfl, q⟩
theorem RX (neg : Bool) : eE K (MG neg) (NT neg) := by
 intro Z H x y p q b Q hp hq h k
 cases q with
 | cC kvs =>
  obtain ⟨key, g, h⟩ := aI h
  cases h
  obtain ⟨a, ys, rfl, ha, e, r⟩ := hq.sY
  refine ⟨a, ys, key, rfl, ha, hp.key g, ?_⟩
  have es : (iT ys key).isSome = (jP kvs key).isSome := by
   rcases fB.val key ⟨e, r⟩ with ⟨h1, h2⟩ | ⟨p', v', h1, h2, _⟩
   ·rw [h1, h2]
    rfl
   ·rw [h1, h2]
    rfl
  rw [es]
  exact k _ H (bG.refl _) (Rep.bl _)
 | _ => cases h
noncomputable def PD (K : PySem.W.Frag) (neg : Bool) : R2 := fun x y H Q => SU neg x y H Q ∨ (JE K neg x y H Q ∨ MG neg x y H Q)
theorem WL {X : Cx} {k : Nat} (K : PySem.W.Frag) (hr : fA k X.A) (hK : X.K = K := by rfl) : gZ X (compareOp .In) (PD K false) := gZ.or CI (gZ.or (W2 K hr hK) (inD hr))
theorem GJ {X : Cx} {k : Nat} (K : PySem.W.Frag) (hr : fA k X.A) (hK : X.K = K := by rfl) : gZ X (compareOp .NotIn) (PD K true) := gZ.or wW (gZ.or (J9 K hr hK) (R7 hr))
noncomputable def KG (neg : Bool) : PV → PV → Option Bv := fun p q => (QX neg p q).or ((Q1 neg p q).or (NT neg p q))
theorem y9 (neg : Bool) : eE K (PD K neg) (KG neg) := eE.or (OZ neg) (eE.or (O7 neg) (RX neg))
noncomputable def A5 (f : Str → Str → Bool) : PV → PV → Option Bv
 | .str i, .str j => some (.val (.bl (f i j)))
 | _, _ => none
theorem BW {f : Str → Str → Bool} : eE K (fun x y H Q => ∃ i j, x = .str i ∧ y = .str j ∧ Q (.bl (f i j)) H) (A5 f) := by
 intro Z H x y p q b Q hp hq h k
 cases p with
 | str i =>
  cases q with
  | str j => cases h; exact ⟨i, j, hp.str, hq.str, k _ H (bG.refl _) (Rep.bl _)⟩
  | _ => cases h
 | _ => cases h
noncomputable def VJ : R2 := fun x y H Q => AR (fun i j => .bl (decide (i < j))) x y H Q ∨ ∃ i j, x = .str i ∧ y = .str j ∧ Q (.bl (decide (i.cps.toList < j.cps.toList))) H
theorem W6 {X : Cx} : gZ X (compareOp .Lt) VJ := gZ.or SY DM
noncomputable def SK : PV → PV → Option Bv := fun p q => (MT (fun i j => .bl (decide (i < j))) p q).or (A5 (fun i j => decide (i.cps.toList < j.cps.toList)) p q)
theorem HC : eE K VJ SK := eE.or (uC fun _ _ _ _ => .bl _) BW
noncomputable def VU : R2 := fun x y H Q => AR (fun i j => .bl (decide (i ≤ j))) x y H Q ∨ ∃ i j, x = .str i ∧ y = .str j ∧ Q (.bl (!decide (j.cps.toList < i.cps.toList))) H
theorem X5 {X : Cx} : gZ X (compareOp .LtE) VU := gZ.or SV DV
noncomputable def SI : PV → PV → Option Bv := fun p q => (MT (fun i j => .bl (decide (i ≤ j))) p q).or (A5 (fun i j => !decide (j.cps.toList < i.cps.toList)) p q)
theorem EF : eE K VU SI := eE.or (uC fun _ _ _ _ => .bl _) BW
noncomputable def D0 : PV → PV → Option Bv := MT fun i j => .bl (decide (j < i))
theorem qV : eE K (AR fun i j => .bl (decide (j < i))) D0 := uC fun _ _ _ _ => .bl _
noncomputable def V6 : PV → PV → Option Bv := MT fun i j => .bl (decide (j ≤ i))
theorem UC : eE K (AR fun i j => .bl (decide (j ≤ i))) V6 := uC fun _ _ _ _ => .bl _
noncomputable def isNone : PV → Bool
 | .aZ => true
 | _ => false
theorem Red.isNone {Z : aO} {H : Hp} {p : PV} {v : V} (h : Red K Z H p v) : decide (v = .aZ) = Mr.isNone p := by
 cases h with
 | rep h => cases h <;> rfl
 | lst h r => rfl
 | cC h e r => rfl
noncomputable def IP (neg : Bool) : PV → PV → Option Bv
 | p, .aZ => some (.val (.bl (if neg then !isNone p else isNone p)))
 | _, _ => none
theorem VO : eE K (fun x y H Q => y = .aZ ∧ Q (.bl (decide (x = .aZ))) H) (IP false) := by
 intro Z H x y p q b Q hp hq h k
 cases q with
 | aZ => cases h; exact ⟨hq.aZ, by rw [hp.isNone]; exact k _ H (bG.refl _) (Rep.bl _)⟩
 | _ => cases h
theorem rJ : eE K (fun x y H Q => y = .aZ ∧ Q (.bl (!decide (x = .aZ))) H) (IP true) := by
 intro Z H x y p q b Q hp hq h k
 cases q with
 | aZ => cases h; exact ⟨hq.aZ, by rw [hp.isNone]; exact k _ H (bG.refl _) (Rep.bl _)⟩
 | _ => cases h
noncomputable def fX : PV → PV → Option Bv
 | .lst ps, .int i => bO (pM ps i) fun p => some (.val p)
 | .tup ps, .int i => bO (pM ps i) fun p => some (.val p)
 | .str z, .int i => aU (decide (z.length < 1000000)) (bO (pM z.cps.toList i) fun c => some (.val (.str ⟨#[c]⟩)))
 | .cC kvs, p => bO (keyOf p) fun k => bO (jP kvs k) fun q => some (.val q)
 | _, _ => none
theorem bP.pM {Z : aO} {H : Hp} {ps : List PV} {xs : List V} {i : Int} {p : PV} (r : bP K Z H ps xs) (h : L2.pM ps i = some p) : ∃ v, L2.pM xs i = some v ∧ Rep K Z H p v := by
 unfold L2.pM at h ⊢
 rw [← r.length]
 cases c : sV ps.length i with
 | none => rw [c] at h; cases h
 | some j => rw [c] at h; exact r.get h
noncomputable def S1 : R2 := fun x y H Q => ∃ a kvs k v, x = .ref a ∧ zS H a kvs ∧ y = kV k ∧ iT kvs k = some v ∧ Q v H
theorem ZC {X : Cx} {k : Nat} (hr : fA k X.A) : zG X S1 := by
 intro value slice pins s σ H x y v u Q I rx ry h hs
 obtain ⟨a, kvs, key, w, rfl, ha, rfl, hv, q⟩ := h
 cases rx
 have g : p6 H a (kV key) (some w) := .inl ⟨kvs, key, ha, rfl, hv.symm⟩
 have hT := yP I g
 unfold subscriptTail
 refine wpAny_bind ?_
 rw [getitemInPython_of_ne hT.not_modules]
 refine wpAny_bind (wpAny_specialOf hT PySem.F.slot_dict_getitem.lookup ?_)
 have fin : wpAny (model X.prog X.w) X.A (subscripted slice false (.ref a) u) (fun r s₃ => wpAny (model X.prog X.w) X.A (letTemporaryGo value (.ref a) r >>= fun _ => pure r) (EP X pins σ Q) X.xe s₃) X.xe s := by
  rw [hs]
  exact wpAny_operating (wpAny_mono (CS (by have := hr.un; omega) I g ry fun w' s3 I3 rw' => (⟨w, H, I3, rw', q⟩ : EP X pins σ Q w' s3)) (fun r s₃ h₃ => wpAny_bind (wpAny_letTemporaryGo (wpAny_pure h₃))) fun _ _ x => x)
 first
  | exact wpAny_pure (wpAny_bind fin)
  | exact wpAny_bind (wpAny_pure (wpAny_bind fin))
  | exact wpAny_bind fin
noncomputable def VT (K : PySem.W.Frag) : R2 := fun x y H Q => OI K x y H Q ∨ (Q4 K x y H Q ∨ (U2 x y H Q ∨ S1 x y H Q))
theorem i4 {X : Cx} {k : Nat} (K : PySem.W.Frag) (hr : fA k X.A) (hK : X.K = K := by rfl) : zG X (VT K) := zG.or (Y9 K hK) (zG.or (Y3 K hK) (zG.or PJ (ZC hr)))
theorem cF : eE K (VT K) fX := by
 intro Z H x y p q b Q hp hq h k
 cases p with
 | lst ps =>
  cases q with
  | int i =>
   obtain ⟨p, g, h⟩ := aI h
   cases h
   obtain ⟨a, xs, rfl, ha, ra⟩ := hp.p7
   obtain ⟨v, hv, rv⟩ := ra.pM g
   exact .inl ⟨a, xs, i, v, rfl, hq.int, ha.sq, hv, k _ H (bG.refl _) rv⟩
  | _ => cases h
 | tup ps =>
  cases q with
  | int i =>
   obtain ⟨p, g, h⟩ := aI h
   cases h
   obtain ⟨a, xs, rfl, ha, ra⟩ := hp.tup
   obtain ⟨v, hv, rv⟩ := ra.pM g
   exact .inr (.inl ⟨a, xs, i, v, rfl, hq.int, ha.sq, hv, k _ H (bG.refl _) rv⟩)
  | _ => cases h
 | str z =>
  cases q with
  | int i =>
   obtain ⟨c, h⟩ := aT h
   obtain ⟨p, g, h⟩ := aI h
   cases h
   exact .inr (.inr (.inl ⟨z, i, p, hp.str, hq.int, Nat.le_of_lt (jQ c), g, k _ H (bG.refl _) (Rep.str _)⟩))
  | _ => cases h
 | cC kvs =>
  have h : (bO (keyOf q) fun k => bO (jP kvs k) fun q => some (Bv.val q)) = some b := by cases q <;> exact h
  obtain ⟨key, g, h⟩ := aI h
  obtain ⟨p, g2, h⟩ := aI h
  cases h
  obtain ⟨a, ys, rfl, ha, e, r⟩ := hp.sY
  rcases fB.val key ⟨e, r⟩ with ⟨h1, h2⟩ | ⟨p', v', h1, h2, h3⟩
  ·rw [h1] at g2; cases g2
  ·rw [h1] at g2
   cases g2
   exact .inr (.inr (.inr ⟨a, ys, key, v', rfl, ha, hq.key g, h2, k _ H (bG.refl _) h3⟩))
 | _ => cases q <;> cases h
noncomputable def oZ (xs : List PV) (lo hi : Option Int) : List PV := (xs.drop (HT.fY xs.length 0 lo)).take (HT.fY xs.length xs.length hi - HT.fY xs.length 0 lo)
theorem bP.cut {Z : aO} {H : Hp} {ps : List PV} {xs : List V} (r : bP K Z H ps xs) (lo hi : Option Int) : bP K Z H (oZ ps lo hi) (qP xs lo hi) := by
 unfold oZ qP
 rw [← r.length]
 exact (r.drop _).take _
noncomputable def UQ (K : PySem.W.Frag) : V → Option Int → Option Int → Hp → VK → Prop := fun x lo hi H Q => ∃ a xs, x = .ref a ∧ TupAt K H a xs ∧ ∀ p H', bG H H' → TupAt K H' p (qP xs lo hi) → Q (.ref p) H'
theorem XZ {X : Cx} (K : PySem.W.Frag) (hK : X.K = K := by rfl) : DC X (UQ K) := by
 subst hK
 intro pins s σ H x v vl vu lo hi sl Q I rx hs pl pu h
 obtain ⟨a, xs, rfl, hx, q⟩ := h
 by_cases hw : HT.fY xs.length 0 lo = 0 ∧ HT.fY xs.length xs.length hi = xs.length
 ·cases rx
  obtain ⟨its, r, ht, hz⟩ := I.tuple hx.sq
  have hlen : its.toArray.size = xs.length := by rw [List.size_toArray]; exact r.length.symm
  refine ⟨"tuple", _, PyProof.Rows.slot_tuple_getitem.lookup, ht.typeIs, ?_⟩
  refine HT.nP ht hs pl pu (by rw [hlen]; exact hw) ⟨.ref a, H, I, rfl, q a H (bG.refl _) ?_⟩
  have e : qP xs lo hi = xs := by unfold qP; rw [hw.1, hw.2, List.drop_zero, Nat.sub_zero, List.take_length]
  rw [e]; exact hx
 ·exact R9 pins s σ H (.ref a) v vl vu lo hi sl Q I rx hs pl pu ⟨a, xs, rfl, hx.sq, hw, fun p hp => q p _ (bG.upd hp) (.inl cG)⟩
noncomputable def GL (K : PySem.W.Frag) : V → Option Int → Option Int → Hp → VK → Prop := fun x lo hi H Q => R6 K x lo hi H Q ∨ (UQ K x lo hi H Q ∨ (∃ z, x = .str z ∧ z.length ≤ sizeLine ∧ Q (.str (Txt.slice z lo hi)) H))
theorem zY {X : Cx} (K : PySem.W.Frag) (hK : X.K = K := by rfl) : DC X (GL K) := DC.or (YZ K hK) (DC.or (XZ K hK) RK)
noncomputable def tY : PV → Option Int → Option Int → Option Bv
 | .lst ps, lo, hi => some (.new (.lst (oZ ps lo hi)))
 | .tup ps, lo, hi => some (.val (.tup (oZ ps lo hi)))
 | .str z, lo, hi => aU (decide (z.length < 1000000)) (some (.val (.str (Txt.slice z lo hi))))
 | _, _, _ => none
theorem i8 : CU K (GL K) tY := by
 intro Z H x p lo hi b Q hp h k
 cases p with
 | lst ps =>
  cases h
  obtain ⟨a, xs, rfl, ha, ra⟩ := hp.p7
  exact .inl ⟨a, xs, rfl, ha.sq, fun l hl => k _ _ (bG.upd hl) (JR hl (ra.cut lo hi))⟩
 | tup ps =>
  cases h
  obtain ⟨a, xs, rfl, ha, ra⟩ := hp.tup
  exact .inr (.inl ⟨a, xs, rfl, ha, fun l H' s t => k _ _ s (Rep.tup t ((ra.cut lo hi).aR (.same s)))⟩)
 | str z =>
  obtain ⟨c, h⟩ := aT h
  cases h
  exact .inr (.inr ⟨z, hp.str, Nat.le_of_lt (jQ c), k _ H (bG.refl _) (Rep.str _)⟩)
 | _ => cases h
theorem sZ.one {Z : aO} {H : Hp} {p : PV} {vs : List V} (h : sZ K Z H [p] vs) : ∃ v, vs = [v] ∧ Red K Z H p v := by
 cases h with | cons h r => cases r; exact ⟨_, rfl, h⟩
theorem sZ.two {Z : aO} {H : Hp} {p q : PV} {vs : List V} (h : sZ K Z H [p, q] vs) : ∃ v u, vs = [v, u] ∧ Red K Z H p v ∧ Red K Z H q u := by
 cases h with | cons h r => cases r with | cons h' r => cases r; exact ⟨_, _, rfl, h, h'⟩
noncomputable def gY : List PV → Option Bv
 | [.lst ps] => some (.val (.int ps.length))
 | [.tup ps] => some (.val (.int ps.length))
 | [.str z] => aU (decide (z.length < 1000000)) (some (.val (.int z.length)))
 | _ => none
noncomputable def GY (K : PySem.W.Frag) : List V → Hp → VK → Prop := fun xs H Q => (∃ p ys, xs = [.ref p] ∧ (jC K H p ys ∨ nD K H p ys) ∧ Q (.int ys.length) H) ∨ ∃ z, xs = [.str z] ∧ z.length ≤ sizeLine ∧ Q (.int z.length) H
theorem lE {X : Cx} (K : PySem.W.Frag) (hK : X.K = K := by rfl) : eR X (.builtin "len") (GY K) := by subst hK; exact eR.or uV wG
theorem eY : lT K (GY K) gY := by
 intro Z H vs ps b Q hp h k
 unfold gY at h
 split at h
 ·cases h
  obtain ⟨v, rfl, hv⟩ := hp.one
  obtain ⟨a, xs, rfl, ha, ra⟩ := hv.p7
  exact .inl ⟨a, xs, rfl, .inl ha.sq, k _ H (bG.refl _) (by rw [ra.length]; exact Rep.int _)⟩
 ·cases h
  obtain ⟨v, rfl, hv⟩ := hp.one
  obtain ⟨a, xs, rfl, ha, ra⟩ := hv.tup
  exact .inl ⟨a, xs, rfl, .inr ha.sq, k _ H (bG.refl _) (by rw [ra.length]; exact Rep.int _)⟩
 ·obtain ⟨c, h⟩ := aT h
  cases h
  obtain ⟨v, rfl, hv⟩ := hp.one
  exact .inr ⟨_, by rw [hv.str], Nat.le_of_lt (jQ c), k _ H (bG.refl _) (Rep.int _)⟩
 ·cases h
noncomputable def oF : List PV → Option Bv
 | [.lst ps] => some (.val (.tup ps))
 | [.tup ps] => some (.val (.tup ps))
 | _ => none
noncomputable def MM (K : PySem.W.Frag) : List V → Hp → VK → Prop := fun xs H Q => ∃ p ys, xs = [.ref p] ∧ ((jC K H p ys ∧ ∀ l, H l = none → Q (.ref l) (upd H l (.tup ys))) ∨ (nD K H p ys ∧ Q (.ref p) H))
theorem QZ {X : Cx} (K : PySem.W.Frag) (hK : X.K = K := by rfl) : eR X (.type "tuple") (MM K) := by subst hK; exact tN
theorem vQ : lT K (MM K) oF := by
 intro Z H vs ps b Q hp h k
 unfold oF at h
 split at h
 ·cases h
  obtain ⟨v, rfl, hv⟩ := hp.one
  obtain ⟨a, xs, rfl, ha, ra⟩ := hv.p7
  exact ⟨a, xs, rfl, .inl ⟨ha.sq, fun l hl => k _ _ (bG.upd hl) (Rep.tup (.inl cG) (ra.aR (.same (bG.upd hl))))⟩⟩
 ·cases h
  obtain ⟨v, rfl, hv⟩ := hp.one
  obtain ⟨a, xs, rfl, ha, ra⟩ := hv.tup
  exact ⟨a, xs, rfl, .inr ⟨ha.sq, k _ H (bG.refl _) (Rep.tup ha ra)⟩⟩
 ·cases h
noncomputable def sS : List PV → Option Bv
 | [.lst ps] => some (.new (.lst ps))
 | [.tup ps] => some (.new (.lst ps))
 | _ => none
theorem E8 : lT K (EU K) sS := by
 intro Z H vs ps b Q hp h k
 unfold sS at h
 split at h
 ·cases h
  obtain ⟨v, rfl, hv⟩ := hp.one
  obtain ⟨a, xs, rfl, ha, ra⟩ := hv.p7
  exact ⟨a, xs, rfl, .inl ha.sq, fun l hl => k _ _ (bG.upd hl) (JR hl ra)⟩
 ·cases h
  obtain ⟨v, rfl, hv⟩ := hp.one
  obtain ⟨a, xs, rfl, ha, ra⟩ := hv.tup
  exact ⟨a, xs, rfl, .inr ha.sq, fun l hl => k _ _ (bG.upd hl) (JR hl ra)⟩
 ·cases h
noncomputable def XS : List PV → Option Bv
 | [.int i] => some (.val (.int (if i < 0 then -i else i)))
 | _ => none
noncomputable def yB : List PV → Option Bv
 | [.int i, .int j] => some (.val (.int (if j > i then j else i)))
 | _ => none
theorem JQ : lT K (fun xs H Q => ∃ i j, xs = [.int i, .int j] ∧ Q (.int (if j > i then j else i)) H) yB := by
 intro Z H vs ps b Q hp h k
 unfold yB at h
 split at h
 ·cases h
  obtain ⟨v, u, rfl, hv, hu⟩ := hp.two
  exact ⟨_, _, by rw [hv.int, hu.int], k _ H (bG.refl _) (Rep.int _)⟩
 ·cases h
noncomputable def y8 : List PV → Option Bv
 | [.int i, .int j] => some (.val (.int (if j < i then j else i)))
 | _ => none
theorem J5 : lT K (fun xs H Q => ∃ i j, xs = [.int i, .int j] ∧ Q (.int (if j < i then j else i)) H) y8 := by
 intro Z H vs ps b Q hp h k
 unfold y8 at h
 split at h
 ·cases h
  obtain ⟨v, u, rfl, hv, hu⟩ := hp.two
  exact ⟨_, _, by rw [hv.int, hu.int], k _ H (bG.refl _) (Rep.int _)⟩
 ·cases h
noncomputable def BU : List PV → Option Bv
 | [.int i] => some (.val (.int i))
 | [.bl k] => some (.val (.int (if k then 1 else 0)))
 | _ => none
theorem KA : lT K (fun xs H Q => (∃ i, xs = [.int i] ∧ Q (.int i) H) ∨ ∃ k, xs = [.bl k] ∧ Q (.int (if k then 1 else 0)) H) BU := by
 intro Z H vs ps b Q hp h k
 unfold BU at h
 split at h
 ·cases h
  obtain ⟨v, rfl, hv⟩ := hp.one
  exact .inl ⟨_, by rw [hv.int], k _ H (bG.refl _) (Rep.int _)⟩
 ·cases h
  obtain ⟨v, rfl, hv⟩ := hp.one
  exact .inr ⟨_, by rw [hv.bl], k _ H (bG.refl _) (Rep.int _)⟩
 ·cases h
noncomputable def w9 : List PV → Option Bv
 | [.int i] => aU (decide (i.natAbs.log2 < 1920)) (some (.val (.str (toString i))))
 | _ => none
theorem BE : lT K (fun xs H Q => ∃ i, xs = [.int i] ∧ i.natAbs.log2 < 1920 ∧ Q (.str (toString i)) H) w9 := by
 intro Z H vs ps b Q hp h k
 unfold w9 at h
 split at h
 ·obtain ⟨c, h⟩ := aT h
  cases h
  obtain ⟨v, rfl, hv⟩ := hp.one
  exact ⟨_, by rw [hv.int], of_decide_eq_true c, k _ H (bG.refl _) (Rep.str _)⟩
 ·cases h
noncomputable def mN : List PV → Option (List Str)
 | [] => some []
 | .str x :: ps => bO (mN ps) fun xs => some (x :: xs)
 | _ => none
theorem rH : ∀ {ps : List PV} {xs : List Str}, mN ps = some xs → ps = xs.map PV.str
 | [], xs, h => by cases h; rfl
 | p :: ps, xs, h => by
  cases p with
  | str x =>
   obtain ⟨ys, g, h⟩ := aI h
   cases h
   rw [rH g]; rfl
  | _ => cases h
theorem t8 (xs : List Str) : mN (xs.map PV.str) = some xs := by
 induction xs with
 | nil => rfl
 | cons x xs ih => rw [List.map_cons, mN, ih]; rfl
theorem bP.strs {Z : aO} {H : Hp} : ∀ {xs : List Str} {vs : List V}, bP K Z H (xs.map PV.str) vs → vs = xs.map V.str
 | [], vs, h => by cases h; rfl
 | x :: xs, vs, h => by cases h with | cons h r => cases h; rw [bP.strs r]; rfl
noncomputable def x5 : PV → List PV → Option Bv
 | .str z, [.lst ps] => bO (mN ps) fun xs => aU (decide ((xs.map (·.length)).sum + xs.length * z.length < 1000000)) (some (.val (.str (Txt.join z xs))))
 | _, _ => none
theorem L0 : QY K (rJoin K) x5 := by
 intro Z H x vs p ps b Q hp hps h k
 unfold x5 at h
 split at h
 ·obtain ⟨xs, g, h⟩ := aI h
  obtain ⟨c, h⟩ := aT h
  cases h
  obtain ⟨v, rfl, hv⟩ := hps.one
  obtain ⟨a, ys, rfl, ha, ra⟩ := hv.p7
  rw [rH g] at ra
  rw [ra.strs] at ha
  refine ⟨_, a, xs, hp.str, rfl, ha.sq, ?_, k _ H (bG.refl _) (Rep.str _)⟩
  have := of_decide_eq_true c
  omega
 ·cases h
noncomputable def iK : PV → Option (List PV)
 | .lst ps => some ps
 | .tup ps => some ps
 | .str z => some (z.cps.toList.map fun c => .str ⟨#[c]⟩)
 | _ => none
noncomputable def B4 (f : FE) : FI := fun st e => bE (f e) fun b e1 => match b with
 | .slot i => match e1[i]? with
  | some (some (.bor p)) => bO (iK p) fun ps => some (ps, e1)
  | some (some (.own p)) => aU (st i) (bO (iK p) fun ps => some (ps, e1))
  | some (some (.loc p)) => aU (st i) (bO (iK p) fun ps => some (ps, e1))
  | _ => none
 | .val p => bO (iK p) fun ps => some (ps, e1)
 | .new p => bO (iK p) fun ps => some (ps, e1)
noncomputable def U9 (K : PySem.W.Frag) (tl : TE) : TI := fun σ H R => tl σ H fun x H1 => (∃ a, x = .ref a ∧ (∃ xs, jC K H1 a xs) ∧ R (V1 K a) H1) ∨ ((∃ a, x = .ref a ∧ (∃ xs, nD K H1 a xs) ∧ R (V3 K a) H1) ∨ ∃ z, x = .str z ∧ R (SF z) H1)
theorem kR (K : PySem.W.Frag) {X : Cx} {tg l : Expr} {tl : TE} (hl : PE X l tl) (hK : X.K = K := by rfl) : PI X tg l (U9 K tl) := by
 subst hK
 intro pins s σ H R I h
 refine d6 (hl pins s σ H _ I h) fun v s1 ⟨x, H1, I1, r1, q1⟩ => ?_
 rcases q1 with ⟨a, e, ⟨xs, hq⟩, q⟩ | ⟨a, e, ⟨xs, hq⟩, q⟩ | ⟨z, e, q⟩
 ·subst e
  cases r1
  obtain ⟨its, rv, p, hz⟩ := I1.list hq
  refine wpAny_pyIter_list p.isList ?_
  refine ⟨s1.heap.objs.size, [s1.heap.objs.size], _, _, H1, rfl, I1.kept (t' := s1.toks) fun b o e => Heap.get?_push_of_some _ e, DE a _, ⟨_, Heap.get?_push_size _ rfl, rfl, rfl⟩, fun b hb => ?_, q⟩
  have e : b = s1.heap.objs.size := by simpa using hb
  subst e
  exact I1.zT (Nat.le_refl _) (I1.dJ.fresh (Nat.le_refl _))
 ·subst e
  cases r1
  obtain ⟨its, rv, p, hz⟩ := I1.tuple hq
  refine wpAny_pyIter_tuple (show s1.heap.IsTuple a its.toArray from p) ?_
  refine ⟨s1.heap.objs.size, [s1.heap.objs.size], _, _, H1, rfl, I1.kept (t' := s1.toks) fun b o e => Heap.get?_push_of_some _ e, zV a _, ⟨_, Heap.get?_push_size _ rfl, rfl, rfl⟩, fun b hb => ?_, q⟩
  have e : b = s1.heap.objs.size := by simpa using hb
  subst e
  exact I1.zT (Nat.le_refl _) (I1.dJ.fresh (Nat.le_refl _))
 ·subst e
  obtain ⟨t, rfl⟩ := r1
  cases ha : z.cps.all (· < 128) with
  | true =>
   refine wpAny_pyIter_ascii ha ?_
   refine ⟨s1.heap.objs.size, [s1.heap.objs.size], _, _, H1, rfl, I1.kept (t' := s1.toks) fun b o e => Heap.get?_push_of_some _ e, CL z t _, ⟨_, Heap.get?_push_size _ rfl, rfl, rfl⟩, fun b hb => ?_, q⟩
   have e : b = s1.heap.objs.size := by simpa using hb
   subst e
   exact I1.zT (Nat.le_refl _) (I1.dJ.fresh (Nat.le_refl _))
  | false =>
   refine wpAny_pyIter_wide ha ?_
   refine ⟨s1.heap.objs.size, [s1.heap.objs.size], _, _, H1, rfl, I1.kept (t' := s1.toks) fun b o e => Heap.get?_push_of_some _ e, DI z t _, ⟨_, Heap.get?_push_size _ rfl, rfl, rfl⟩, fun b hb => ?_, q⟩
   have e : b = s1.heap.objs.size := by simpa using hb
   subst e
   exact I1.zT (Nat.le_refl _) (I1.dJ.fresh (Nat.le_refl _))
theorem E2 {O M L Wr L' : aO} {W : WS} {H H' : Hp} (o : kB O M W L H) (hw : ∀ a, Wr a → aw W a ∨ L a) (k1 : ∀ a ob, H a = some ob → ¬ Wr a → H' a = some ob) (k2 : ∀ a xs, H a = some (.tup xs) → H' a = some (.tup xs)) (k3 : ∀ a, L' a → L a ∨ H a = none) : eJ (bM M L) (bM M L') H H' :=
 ⟨k2, fun a ob h n => ⟨k1 a ob h fun z => n ((hw a z).elim (fun ⟨i, w⟩ => .inl (o.wm i a w)) .inr), fun z => z.elim (fun z => n (.inl z)) fun z => (k3 a z).elim (fun z => n (.inr z)) fun z => by rw [h] at z; cases z⟩⟩
theorem nJ {O M L Wr : aO} {W : WS} {H : Hp} {a : Addr} {xs : List V} {ps : List PV} (o : kB O M W L H) (hw : ∀ a, Wr a → aw W a ∨ L a) (ha : (Rd H a (.lst xs) ∧ ¬ Wr a) ∨ RQ K a xs) (r : bP K (bM M L) H ps xs) : E7 K M L Wr H (V1 K a) ps := by
 intro L' H' k1 k2 k3
 have st := E2 o hw k1 k2 k3
 have sq : jC K H' a xs := by
  rcases ha with ⟨h | ⟨u, h⟩, n⟩ | h
  ·exact .inl (.inl (k1 _ _ h n))
  ·exact .inl (.inr ⟨u, k1 _ _ h n⟩)
  ·exact .inr h
 refine ⟨fun k p hp => ?_, xs, sq, by rw [r.length]; exact Nat.le_refl _⟩
 obtain ⟨v, hv, rv⟩ := r.get hp
 refine ⟨⟨xs, v, sq, hv⟩, fun x H3 y => ?_⟩
 obtain ⟨e, y⟩ := y
 subst e
 have := y xs sq
 rw [hv] at this
 cases this
 exact ⟨bG.refl _, rv.aR st⟩
theorem R3 {O M L Wr : aO} {W : WS} {H : Hp} {a : Addr} {xs : List V} {ps : List PV} (o : kB O M W L H) (hw : ∀ a, Wr a → aw W a ∨ L a) (ha : TupAt K H a xs) (r : bP K (bM M L) H ps xs) : E7 K M L Wr H (V3 K a) ps := by
 intro L' H' k1 k2 k3
 have st := E2 o hw k1 k2 k3
 have sq : nD K H' a xs := TupAt.sq (ha.elim (fun h => .inl (k2 _ _ h)) .inr)
 refine ⟨fun k p hp => ?_, xs, sq, by rw [r.length]; exact Nat.le_refl _⟩
 obtain ⟨v, hv, rv⟩ := r.get hp
 refine ⟨⟨xs, v, sq, hv⟩, fun x H3 y => ?_⟩
 obtain ⟨e, y⟩ := y
 subst e
 have := y xs sq
 rw [hv] at this
 cases this
 exact ⟨bG.refl _, rv.aR st⟩
theorem OB {M L Wr : aO} {H : Hp} {z : Str} : E7 K M L Wr H (SF z) (z.cps.toList.map fun c => .str ⟨#[c]⟩) := by
 intro L' H' k1 k2 k3
 refine ⟨fun k p hp => ?_, by simp [SF]⟩
 rw [List.getElem?_map] at hp
 cases c : z.cps.toList[k]? with
 | none => rw [c] at hp; cases hp
 | some d =>
  rw [c] at hp
  cases hp
  have hk : k < z.cps.size := by simpa using (List.getElem?_eq_some_iff.mp c).1
  refine ⟨hk, fun x H3 y => ?_⟩
  obtain ⟨e, d', h1, h2⟩ := y
  subst e h2
  rw [← Array.getElem?_toList, c] at h1
  cases h1
  exact ⟨bG.refl _, .str _⟩
theorem kW {t : TE} {f : FE} (h : Ref K t f) : xV K (U9 K t) (B4 f) := by
 intro st O M W L σ H e e' ps R o he hf q
 obtain ⟨x, e1, f1, hf⟩ := aS hf
 refine h O M W L σ H e e1 x _ o he f1 fun v H1 k1 rb fr => ?_
 have o1 := o.keep k1.dR
 have en := rb.en o1
 have vals : ∀ p, Rep K (bM M L) H1 p v → iK p = some ps → e1 = e' → (∃ a, v = .ref a ∧ (∃ xs, jC K H1 a xs) ∧ R (V1 K a) H1) ∨ ((∃ a, v = .ref a ∧ (∃ xs, nD K H1 a xs) ∧ R (V3 K a) H1) ∨ ∃ z, v = .str z ∧ R (SF z) H1) := fun p hp hi ee => by
  subst ee
  cases hp with
  | lst ha n r =>
   cases hi
   exact .inl ⟨_, rfl, ⟨_, .inl ha⟩, q _ H1 k1 en fun Wr hw _ => nJ o1 hw (.inl ⟨ha, fun z => n ((hw _ z).elim (fun ⟨i, w⟩ => .inl (o.wm i _ w)) .inr)⟩) r⟩
  | tup ha r =>
   cases hi
   exact .inr (.inl ⟨_, rfl, ⟨_, ha.sq⟩, q _ H1 k1 en fun Wr hw _ => R3 o1 hw ha r⟩)
  | str z =>
   cases hi
   exact .inr (.inr ⟨z, rfl, q _ H1 k1 en fun Wr hw _ => OB⟩)
  | _ => cases hi
 cases x with
 | val p =>
  obtain ⟨ps', g, hf⟩ := aI hf
  cases hf
  exact vals p rb.2 g rfl
 | new p =>
  obtain ⟨ps', g, hf⟩ := aI hf
  cases hf
  exact vals p (rb.weak o1).2 g rfl
 | slot i =>
  dsimp only at hf
  cases c : e1[i]? with
  | none => rw [c] at hf; cases hf
  | some s =>
   cases s with
   | none => rw [c] at hf; cases hf
   | some s =>
    rw [c] at hf
    obtain ⟨u, hu, sr⟩ := rb.1.at' i s c
    have := rb.2
    rw [hu] at this
    cases this
    cases s with
    | val p => cases hf
    | bor p =>
     obtain ⟨ps', g, hf⟩ := aI hf
     cases hf
     obtain ⟨a, rfl, lt⟩ := sr
     cases lt with
     | lst ha od n m r => cases g; exact .inl ⟨a, rfl, ⟨_, .inl ha⟩, q _ H1 k1 en fun Wr hw _ => nJ o1 hw (.inl ⟨ha, fun z => (hw _ z).elim n m⟩) r⟩
     | gK ha r => cases g; exact .inl ⟨a, rfl, ⟨_, .inr ha⟩, q _ H1 k1 en fun Wr hw _ => nJ o1 hw (.inr ha) r⟩
     | cC ha od n m kk r => cases g
    | own p =>
     obtain ⟨hst, hf⟩ := aT hf
     obtain ⟨ps', g, hf⟩ := aI hf
     cases hf
     obtain ⟨a, rfl, w, ct⟩ := sr
     cases ct with
     | lst ha r => cases g; exact .inl ⟨a, rfl, ⟨_, jC.of ha⟩, q _ H1 k1 en fun Wr hw hs => nJ o1 hw (.inl ⟨.inl ha, hs i a _ hst c rfl hu⟩) r⟩
     | cC ha kk r => cases g
    | loc p =>
     obtain ⟨hst, hf⟩ := aT hf
     obtain ⟨ps', g, hf⟩ := aI hf
     cases hf
     obtain ⟨a, rfl, w, ct⟩ := sr
     cases ct with
     | lst ha r => cases g; exact .inl ⟨a, rfl, ⟨_, jC.of ha⟩, q _ H1 k1 en fun Wr hw hs => nJ o1 hw (.inl ⟨.inl ha, hs i a _ hst c rfl hu⟩) r⟩
     | cC ha kk r => cases g
theorem QW {M L Wr : aO} {H : Hp} {lo : Int} {n : Nat} : E7 K M L Wr H (UZ lo n) ((List.range n).map fun k : Nat => .int (lo + (k : Int))) := by
 intro L' H' k1 k2 k3
 refine ⟨fun k p hp => ?_, by simp [UZ]⟩
 rw [List.getElem?_map] at hp
 by_cases hk : k < n
 ·rw [List.getElem?_range hk] at hp
  cases hp
  refine ⟨hk, fun x H3 y => ?_⟩
  obtain ⟨e, y⟩ := y
  subst e y
  exact ⟨bG.refl _, .int _⟩
 ·rw [List.getElem?_eq_none (by simpa using hk)] at hp
  cases hp
noncomputable def YI (fa : FA) : FI := fun _ e => bE (fa e) fun bs e1 => match bs with
 | [.val (.tup ps)] => some (ps.zipIdx.map fun z => .tup [.int (z.2 : Int), z.1], e1)
 | _ => none
end
end Mr
namespace Mr
open PySem PySem.Spec L2 PyProof.Rows
section
variable {K : PySem.W.Frag}
theorem KJ {f : FN} {vs : List V} {H : Hp} {Q : VK} {E : XK} (hf : ∀ ns : List Int, ns.length ≤ 63 → f [.lst (ns.map PV.int)] = some (.bl true, [])) (h : BN K vs H Q E) : jU K [.b] false f vs H Q E := by
 obtain ⟨a, ns, rfl, hS, hl, q⟩ := h
 have rl : ∀ (Z : aO) (ms : List Int), bP K Z H (ms.map PV.int) (ms.map V.int) := fun Z ms => by
  induction ms with
  | nil => exact .nil
  | cons m ms ih => exact .cons (.int m) ih
 refine ⟨eB, [.lst (ns.map PV.int)], .bl true, [], fun a z => z.elim, rfl, rfl, fun i k p v h1 h2 h3 => ?_, fun i j hij h1 h2 => ?_, fun i a ⟨h1, _⟩ => ?_, hf ns hl, fun v H' k r => ?_⟩
 ·cases i with
  | zero =>
   cases h1
   cases h2
   cases h3
   have nw : ¬ aw (nW [.b] [.ref a] H) a := fun ⟨i, h, _⟩ => by
    cases i with
    | zero => cases h
    | succ i => simp at h
   rcases hS with h | h
   ·refine ⟨a, rfl, .lst h ?_ nw (fun z => z) (rl _ ns)⟩
    rcases h with h | ⟨u, h⟩
    ·show H a ≠ none
     rw [h]; exact fun z => nomatch z
    ·show H a ≠ none
     rw [h]; exact fun z => nomatch z
   ·exact ⟨a, rfl, .gK h (rl _ ns)⟩
  | succ i => simp at h1
 ·cases i with
  | zero => cases h1
  | succ i => simp at h1
 ·cases i with
  | zero => cases h1
  | succ i => simp at h1
 ·obtain ⟨r, _⟩ := r
  cases r
  exact q H'
noncomputable def kdOf : PV → Option L2.Kd
 | .aZ => some .aZ
 | .bl _ => some .bl
 | .int _ => some .int
 | .str _ => some .str
 | .lst _ => some .lst
 | .tup _ => some .tup
 | .cC _ => some .cC
 | .ty _ => none
noncomputable def IJ (k : L2.Kd) : String → Option Bool
 | "str" => some (decide (k = .str))
 | "tuple" => some (decide (k = .tup))
 | "int" => some (decide (k = .int) || decide (k = .bl))
 | "bool" => some (decide (k = .bl))
 | _ => none
theorem HM {k : L2.Kd} {T : String} {b : Bool} (h : IJ k T = some b) : PySem.W.kitOne K (.type k.nm) (.type T) = some b := by
 unfold IJ at h
 split at h
 ·cases h; exact N6 k
 ·cases h; exact R0 k
 ·cases h; exact OY k
 ·cases h; exact L5 k
 ·cases h
noncomputable def MV (K : PySem.W.Frag) : List V → Hp → VK → Prop := fun xs H Q => ∃ p x T k b, xs = [x, .ty T] ∧ Red K eB H p x ∧ kdOf p = some k ∧ IJ k T = some b ∧ Q (.bl b) H
theorem wV {X : Cx} (K : PySem.W.Frag) (hK : X.K = K := by rfl) : eR X (.builtin "isinstance") (MV K) := by
 subst hK
 intro pins s σ H xs us Q I r h
 obtain ⟨p, x, T, k, b, rfl, hp, hk, hT, q⟩ := h
 obtain ⟨u, u', rfl, rx, ry⟩ := vals2 r
 cases ry
 have e := HM (K := X.K) hT
 have fin : ∀ tk, EP X pins σ Q (.bool b) { s with toks := tk } := fun tk => ⟨.bl b, H, I.tok tk, rfl, q⟩
 cases p with
 | aZ => cases hk; have := hp.aZ; subst this; cases (show u = Value.none from rx); exact PySem.W.kia_one PySem.W.kitx_none I.DL True.intro e (fun z => nomatch z) fin
 | bl y => cases hk; have := hp.bl; subst this; cases (show u = Value.bool y from rx); exact PySem.W.kia_one PySem.W.kitx_bool I.DL True.intro e (fun z => nomatch z) fin
 | int i => cases hk; have := hp.int; subst this; obtain ⟨t, q⟩ := (show ∃ t, u = Value.int i t from rx); cases q; exact PySem.W.kia_one PySem.W.kitx_int I.DL True.intro e (fun z => nomatch z) fin
 | str y => cases hk; have := hp.str; subst this; obtain ⟨t, q⟩ := (show ∃ t, u = Value.str y t from rx); cases q; exact PySem.W.kia_one PySem.W.kitx_str I.DL True.intro e (fun z => nomatch z) fin
 | ty y => cases hk
 | tup ps =>
  cases hk
  obtain ⟨a, xs, rfl, ha, _⟩ := hp.tup
  cases (show u = Value.ref a from rx)
  obtain ⟨its, _, ⟨o, h1, h2, _⟩, _⟩ := I.tuple ha.sq
  exact PySem.W.kia_one PySem.W.kitx_tuple I.DL ⟨o, h1, h2⟩ e (fun z => nomatch z) fin
 | lst ps =>
  cases hk
  obtain ⟨a, xs, rfl, ha, _⟩ := hp.p7
  cases (show u = Value.ref a from rx)
  obtain ⟨its, _, pl, _⟩ := I.list ha.sq
  obtain ⟨o, h1, h2, _⟩ := pl.isList
  exact PySem.W.kia_one PySem.W.kitx_list I.DL ⟨o, h1, h2⟩ e (fun z => nomatch z) fin
 | cC kvs =>
  cases hk
  obtain ⟨a, ys, rfl, ha, _, _⟩ := hp.sY
  cases (show u = Value.ref a from rx)
  obtain ⟨_, _, vs, _, pd⟩ := kZ I.dJ ha
  obtain ⟨o, es, ep, h1, h2, _⟩ := pd
  exact PySem.W.kia_one PySem.W.kitx_dict I.DL ⟨o, h1, h2.1⟩ e (fun z => nomatch z) fin
noncomputable def g8 : List PV → Option Bv
 | [p, .ty n] => bO (kdOf p) fun k => bO (IJ k n) fun b => some (.val (.bl b))
 | _ => none
theorem kP : lT K (MV K) g8 := by
 intro Z H vs ps b Q hp h k
 unfold g8 at h
 split at h
 ·rename_i p n
  obtain ⟨c, g, h⟩ := aI h
  obtain ⟨d, g2, h⟩ := aI h
  cases h
  obtain ⟨v, u, rfl, hv, hu⟩ := hp.two
  have eu := hu.ty
  subst eu
  exact ⟨p, v, n, c, d, rfl, hv.any, g, g2, k _ H (bG.refl _) (Rep.bl _)⟩
 ·cases h
noncomputable def SA : PV → List PV → Option Bv
 | .str z, [] => aU (decide (z.length < 1000000)) (some (.val (.str (Txt.lower z))))
 | _, _ => none
noncomputable def NI : PV → List PV → Option Bv
 | .str z, [] => aU (decide (z.length < 1000000)) (some (.val (.str (Txt.upper z))))
 | _, _ => none
noncomputable def JC : PV → List PV → Option Bv
 | .str z, [.str y] => some (.val (.bl (Txt.startswith z y)))
 | _, _ => none
noncomputable def VR : PV → List PV → Option Bv
 | .str z, [.str y] => some (.val (.bl (Txt.endswith z y)))
 | _, _ => none
noncomputable def O2 : PV → List PV → Option Bv
 | .str z, [.str y] => aU (decide (z.length < 1000000)) (some (.val (.str (Txt.stripChars z y))))
 | _, _ => none
noncomputable def JS : PV → List PV → Option Bv
 | .str z, [.str y] => match Builtin.Str.occurrences z y 0 z.length 1 with
  | i :: _ => some (.val (.int i))
  | [] => none
 | _, _ => none
noncomputable def TN : PV → List PV → Option Bv
 | .str z, [.str y] => aU (decide (z.length < 1000000) && !(y.length == 0)) (some (.val (.tup [.str (Txt.partition z y).1, .str (Txt.partition z y).2.1, .str (Txt.partition z y).2.2])))
 | _, _ => none
noncomputable def KS : PV → List PV → Option Bv
 | .str z, [.str y] => if y = Str.ofString " " then aU (decide (z.length < 1000000)) (some (.new (.lst ((Txt.split z y).map PV.str)))) else none
 | _, _ => none
noncomputable def mF : List PV → Option (List Bool)
 | [] => some []
 | .bl x :: ps => bO (mF ps) fun xs => some (x :: xs)
 | _ => none
theorem bP.YV {Z : aO} {H : Hp} : ∀ {ps : List PV} {xs : List Bool} {vs : List V}, mF ps = some xs → bP K Z H ps vs → vs = EA xs
 | [], xs, vs, g, h => by cases g; cases h; rfl
 | p :: ps, xs, vs, g, h => by
  cases p with
  | bl x =>
   obtain ⟨ys, g1, g⟩ := aI g
   cases g
   cases h with | cons h r => cases h; rw [bP.YV g1 r]; rfl
  | _ => cases g
noncomputable def vE : List PV → Option Bv
 | [.lst ps] => bO (mF ps) fun bs => some (.val (.bl (bs.all id)))
 | _ => none
theorem qY : lT K (S3 K) vE := by
 intro Z H vs ps b Q hp h k
 unfold vE at h
 split at h
 ·obtain ⟨bs, g, h⟩ := aI h
  cases h
  obtain ⟨v, rfl, hv⟩ := hp.one
  obtain ⟨a, xs, rfl, ha, ra⟩ := hv.p7
  have e := ra.YV g
  subst e
  exact ⟨a, bs, rfl, ha.sq, k _ H (bG.refl _) (Rep.bl _)⟩
 ·cases h
noncomputable def V9 : List PV → Option Bv
 | [.lst ps] => bO (mF ps) fun bs => some (.val (.bl (bs.any id)))
 | _ => none
noncomputable def AD (g g' : PV → PV → Option Bv) (fa fb fc : FE) : FE := fun e => bE (fa e) fun x e1 => bE (fb e1) fun y e2 => bO (x.weak.get e2) fun p => bO (y.weak.get e2) fun q => bO (g p q) fun b => match b with
 | .val (.bl true) => bE (fc e2) fun z e3 => bO (y.weak.get e3) fun q' => bO (z.weak.get e3) fun r => bO (g' q' r) fun b' => some (b', e3)
 | .val (.bl false) => some (.val (.bl false), e2)
 | _ => none
theorem CY {r r' : R2} {g g' : PV → PV → Option Bv} {ta tb tc : TE} {fa fb fc : FE} (hg : eE K r g) (hg' : eE K r' g') (ha : Ref K ta fa) (hb : Ref K tb fb) (hc : Ref K tc fc) : Ref K (G2 r r' ta tb tc) (AD g g' fa fb fc) := by
 intro O M W L σ H e e' b Q o he hf q
 obtain ⟨x, e1, f1, hf⟩ := aS hf
 obtain ⟨y, e2, f2, hf⟩ := aS hf
 obtain ⟨p, g1, hf⟩ := aI hf
 obtain ⟨p', g2, hf⟩ := aI hf
 obtain ⟨c, g3, hf⟩ := aI hf
 refine ha O M W L σ H e e1 x _ o he f1 fun v1 H1 k1 r1 fr1 => ?_
 have o1 := o.keep k1.dR
 refine hb O M W L σ H1 e1 e2 y _ o1 (r1.en o1) f2 fun v2 H2 k2 r2 fr2 => ?_
 have o2 := o1.keep k2.dR
 have en := r2.en o2
 have ry := r2.rv o2
 refine hg _ H2 v1 v2 p p' c _ (((r1.rv o1).keep o1 k2).red en g1) (ry.red en g2) g3 fun v H3 s rn => ?_
 have k3 : cZ W L H2 H3 := .same s
 have o3 := o2.keep k3.dR
 have en3 := en.same s
 rcases UD (x := c) with ⟨d, rfl⟩ | n
 ·cases rn
  refine ⟨d, rfl, ?_⟩
  cases d with
  | false => cases hf; rw [if_neg Bool.false_ne_true]; exact q _ H3 ((k1.trans k2).trans k3) ⟨en3, .bl _⟩ trivial
  | true =>
   rw [if_pos rfl]
   obtain ⟨z, e3, f3, hf⟩ := aS hf
   obtain ⟨q', g4, hf⟩ := aI hf
   obtain ⟨r4, g5, hf⟩ := aI hf
   obtain ⟨b', g6, hf⟩ := aI hf
   cases hf
   refine hc O M W L σ H3 e2 _ z _ o3 en3 f3 fun v4 H4 k4 r4' fr4 => ?_
   have o4 := o3.keep k4.dR
   have en4 := r4'.en o4
   refine hg' _ H4 v2 v4 q' r4 _ Q (((ry.keep o2 k3).keep o3 k4).red en4 g4) ((r4'.rv o4).red en4 g5) g6 fun v H' s' rn' => ?_
   exact q v H' ((((k1.trans k2).trans k3).trans k4).trans (.same s')) (rn'.rb o4 en4 s') (rn'.fr (((k1.trans k2).trans k3).trans k4).dR)
 ·exfalso
  split at hf
  ·exact n _ rfl
  ·exact n _ rfl
  ·cases hf
noncomputable def NX : PV → Option Bool
 | .aZ => some false
 | .bl b => some b
 | .int i => some (i != 0)
 | .str y => aU (decide (y.length < 1000000)) (some ((y.length : Int) != 0))
 | .lst ps => some (!ps.isEmpty)
 | .tup ps => some (!ps.isEmpty)
 | _ => none
noncomputable def X0 (f : FE) : FT := fun e => bE (f e) fun b e1 => bO (b.weak.get e1) fun p => bO (NX p) fun c => some (c, e1)
theorem bP.empty {Z : aO} {H : Hp} {ps : List PV} {xs : List V} (r : bP K Z H ps xs) : ps.isEmpty = xs.isEmpty := by cases r <;> rfl
end
end Mr
namespace Mr
open PySem PySem.Spec L2 PyProof.Rows
theorem gN {K : PySem.W.Frag} {wi : TI} {g : TG} {tt : TT} {te : TE} {fi : FI} {k : Nat} {dN : List Nat} (ms : List (Nat × Nat)) {fg : FG} {ft : FT} {fe : FE} (hms : (ms.all fun z => ms.all fun z' => (z.1 == z'.1) == (z.2 == z'.2)) = true) (hi : xV K wi fi) (hg : wJ K g fg) (ht : lD K tt ft) (he : Ref K te fe) : Ref K (A6 wi k dN g tt te) (j6 fi k dN ms fg ft fe) := by
 have key : ∀ z ∈ ms, ∀ z' ∈ ms, (z.1 == z'.1) = (z.2 == z'.2) := fun z hz z' hz' => by
  have := List.all_eq_true.mp (List.all_eq_true.mp hms z hz) z' hz'
  simpa using this
 refine E6 ms (fun i j1 j2 h1 h2 => ?_) (fun i1 i2 j h1 h2 => ?_) hi hg ht he
 ·have := key _ h1 _ h2
  simpa using this
 ·have := key _ h1 _ h2
  simpa using this
end Mr
namespace Mr
open PySem PySem.Spec L2 PyProof.Rows
theorem RA (i : Nat) (e : En) : aF i e = (match e[i]? with
 | some (some (.val p)) => some (.val p, e)
 | some (some _) => some (.slot i, e)
 | _ => none) := rfl
theorem XD (p : PV) (e : En) : fC p e = some (.val p, e) := rfl
theorem UG (g : PV → PV → Option Bv) (fa fb : FE) (e : En) : bD g fa fb e = bE (fa e) fun x e1 => bE (fb e1) fun y e2 => bO (x.weak.get e2) fun p => bO (y.weak.get e2) fun q => bO (g p q) fun b => some (b, e2) := rfl
theorem U4 (g : PV → Option Bv) (fa : FE) (e : En) : WZ g fa e = bE (fa e) fun x e1 => bO (x.weak.get e1) fun p => bO (g p) fun b => some (b, e1) := rfl
theorem P1 (e : En) : aM e = some ([], e) := rfl
theorem MC (fa : FE) (fr : FA) (e : En) : aD fa fr e = bE (fa e) fun x e1 => bE (fr e1) fun xs e2 => some (x.weak :: xs, e2) := rfl
theorem T3 (g : List PV → Option Bv) (fa : FA) (e : En) : gL g fa e = bE (fa e) fun xs e1 => bO (getL e1 xs) fun ps => bO (g ps) fun b => some (b, e1) := rfl
theorem VM (g : PV → List PV → Option Bv) (fo : FE) (fa : FA) (e : En) : X8 g fo fa e = (bE (fo e) fun x e0 => match x with
 | .val (.str z) => bE (fa e0) fun xs e1 => bO (getL e1 xs) fun ps => bO (g (.str z) ps) fun b => some (b, e1)
 | _ => none) := rfl
theorem O0 (g : PV → List PV → Option Bv) (fo : FE) (e : En) : XF g fo e = (bE (fo e) fun x e0 => match x with
 | .val (.str z) => bO (g (.str z) []) fun b => some (b, e0)
 | _ => none) := rfl
theorem R8 (fa : FA) (e : En) : iU fa e = bE (fa e) fun xs e1 => bO (putL xs) fun ps => aU (decide (ps.length < 1000000)) (some (.val (.tup ps), e1)) := rfl
theorem PU (fa : FA) (e : En) : eZ fa e = bE (fa e) fun xs e1 => bO (putL xs) fun ps => aU (decide (ps.length < 1000000)) (some (.new (.lst ps), e1)) := rfl
theorem IU (f : FE) (e : En) : bH f e = (bE (f e) fun b e1 => match b with
 | .val (.bl c) => some (c, e1)
 | _ => none) := rfl
theorem RY (f g : FT) (e : En) : pU f g e = bE (f e) fun b e1 => bB b (g e1) (some (false, e1)) := rfl
theorem VF (f g : FT) (e : En) : vP f g e = bE (f e) fun b e1 => bB b (some (true, e1)) (g e1) := rfl
theorem N5 (f : FT) (e : En) : kT f e = bE (f e) fun b e1 => some (!b, e1) := rfl
theorem JY (e : En) : iJ e = some (true, e) := rfl
theorem J6 (fa fb : FE) (e : En) : rV fa fb e = bE (fa e) fun b e1 => bO (vS b) fun c => bB c (fb e1) (some (.val (.bl false), e1)) := rfl
theorem N9 (fa fb : FE) (e : En) : N0 fa fb e = bE (fa e) fun b e1 => bO (vS b) fun c => bB c (some (.val (.bl true), e1)) (fb e1) := rfl
theorem JU (fa : FE) (e : En) : xW fa e = bE (fa e) fun b e1 => bO (vS b) fun c => some (.val (.bl (!c)), e1) := rfl
theorem UE (fc : FT) (fa fb : FE) (e : En) : IT fc fa fb e = bE (fc e) fun b e1 => bB b (fa e1) (fb e1) := rfl
theorem DQ (e : En) : dF e = some (none, e) := rfl
theorem KU (f : FE) (e : En) : gR f e = (bE (f e) fun b e1 => match b with
 | .val (.int i) => some (some i, e1)
 | _ => none) := rfl
theorem S2 (g : PV → Option Int → Option Int → Option Bv) (fa : FE) (fl fh : FO) (e : En) : uE g fa fl fh e = bE (fa e) fun x e1 => bE (fl e1) fun lo e2 => bE (fh e2) fun hi e3 => bO (x.weak.get e3) fun p => bO (g p lo hi) fun b => some (b, e3) := rfl
theorem JZ (e : En) : dQ e = some (.nx e) := rfl
theorem FV (e : En) : PQ e = some (.bk e) := rfl
theorem JT (e : En) : TK e = some (.ct e) := rfl
theorem QH (f : FE) (e : En) : d7 f e = bE (f e) fun b e1 => some (.rt b e1) := rfl
theorem MD (e : En) : UK e = some (.rt (.val .aZ) e) := rfl
theorem J0 (f : FE) (e : En) : S6 f e = bE (f e) fun b e1 => some (.nx e1) := rfl
theorem U7 (fc : FT) (f g : FS) (e : En) : mR fc f g e = bE (fc e) fun b e1 => bB b (f e1) (g e1) := rfl
theorem P6 (i : Nat) (f : FE) (e : En) : dY i f e = (bE (f e) fun b e1 => match b with
 | .val p => some (.nx (e1.set i (some (.val p))))
 | .new p => some (.nx (e1.set i (some (.val p))))
 | .slot j => match e1[j]? with
  | some (some (.bor p)) => some (.nx (e1.set i (some (.bor p))))
  | _ => none) := rfl
theorem KD (i : Nat) (f : FE) (e : En) : fZ i f e = (bE (f e) fun b e1 => match b with
 | .new p => some (.nx (e1.set i (some (.loc p))))
 | _ => none) := rfl
theorem ON (i : Nat) (f : FS) (e : En) : L6 i f e = bO (rel i e) f := rfl
theorem OU (i : Nat) (f : FE) (e : En) : sT i f e = (bO (ownAt e i) fun p0 => match p0 with
 | .lst _ => bE (f e) fun b e1 => bO b.put fun p => match ownAt e1 i with
  | some (.lst ps) => aU (decide (ps.length < 1000000)) (some (.nx (cU e1 i (.lst (ps ++ [p])))))
  | _ => none
 | _ => none) := rfl
theorem HI (i : Nat) (fi fv : FE) (e : En) : uY i fi fv e = (bE (fv e) fun b e1 => bO b.put fun p => bO (ownAt e1 i) fun _ => bE (fi e1) fun k e2 => match k with
 | .val (.int k) => match ownAt e2 i with
  | some (.lst ps) => bO (sV ps.length k) fun j => some (.nx (cU e2 i (.lst (ps.set j p))))
  | _ => none
 | _ => none) := rfl
theorem LF (i : Nat) (fk fv : FE) (e : En) : kY i fk fv e = (bE (fv e) fun b e1 => bO b.put fun p => bO (ownAt e1 i) fun _ => bE (fk e1) fun k e2 => bO (k.weak.get e2) fun kp => bO (keyOf kp) fun key => match ownAt e2 i with
  | some (.cC kvs) => aU (decide (kvs.length < 1000000)) (some (.nx (cU e2 i (.cC (lB kvs key p)))))
  | _ => none) := rfl
theorem EK (i : Nat) (p : PV) (e : En) : bX i p e = some (e.set i (some (.val p))) := rfl
theorem K5 (ps : List PV) (e : En) : sQ ps e = match ps with | [] => some e | _ => none := rfl
theorem E4 (f : FG) (g : HU) (ps : List PV) (e : En) : iN f g ps e = match ps with | p :: ps => bO (f p e) (g ps) | [] => none := rfl
theorem K0 (n : Nat) (f : HU) (p : PV) (e : En) : rN n f p e = (match p with
 | .tup ps => aU (decide (ps.length = n)) (f ps e)
 | _ => none) := rfl
theorem RS (f : FE) (fg : FG) (e : En) : NJ f fg e = bE (f e) fun b e1 => bO b.put fun p => bO (fg p e1) fun e2 => some (.nx e2) := rfl
theorem Q9 (i j : Nat) (fa : FA) (e : En) : WR i j fa e = (bE (fa e) fun bs e1 => bO (putL bs) fun ps => match ps with
 | [p, q] => some (.nx ((e1.set i (some (.val p))).set j (some (.val q))))
 | _ => none) := rfl
theorem UX (f : FE) (st : Nat → Bool) (e : En) : B4 f st e = (bE (f e) fun b e1 => match b with
 | .slot i => match e1[i]? with
  | some (some (.bor p)) => bO (iK p) fun ps => some (ps, e1)
  | some (some (.own p)) => aU (st i) (bO (iK p) fun ps => some (ps, e1))
  | some (some (.loc p)) => aU (st i) (bO (iK p) fun ps => some (ps, e1))
  | _ => none
 | .val p => bO (iK p) fun ps => some (ps, e1)
 | .new p => bO (iK p) fun ps => some (ps, e1)) := rfl
theorem OO (fa : FA) (st_ : Nat → Bool) (e : En) : YI fa st_ e = (bE (fa e) fun bs e1 => match bs with
 | [.val (.tup ps)] => some (ps.zipIdx.map fun z => .tup [.int (z.2 : Int), z.1], e1)
 | _ => none) := rfl
theorem II (g g' : PV → PV → Option Bv) (fa fb fc : FE) (e : En) : AD g g' fa fb fc e = (bE (fa e) fun x e1 => bE (fb e1) fun y e2 => bO (x.weak.get e2) fun p => bO (y.weak.get e2) fun q => bO (g p q) fun b => match b with
 | .val (.bl true) => bE (fc e2) fun z e3 => bO (y.weak.get e3) fun q' => bO (z.weak.get e3) fun r => bO (g' q' r) fun b' => some (b', e3)
 | .val (.bl false) => some (.val (.bl false), e2)
 | _ => none) := rfl
theorem PN (f : FE) (e : En) : X0 f e = bE (f e) fun b e1 => bO (b.weak.get e1) fun p => bO (NX p) fun c => some (c, e1) := rfl
theorem K8 (e : En) : n0 e = some (.new (.cC []), e) := rfl
end Mr
namespace L2
open PySem PySem.Spec PyProof.Rows
section
variable {X : Cx} {elts : List Expr} {x1 : Nat} {tpos : Pos}
end
end L2
namespace Mr
open PySem PySem.Spec L2 PyProof.Rows
section
variable {K : PySem.W.Frag}
noncomputable def TQ (fa : FA) : FI := fun _ e => bE (fa e) fun bs e1 => match bs with
 | [.val (.tup ps)] => some (ps.zipIdx.map fun z => .tup [.int (z.2 : Int), z.1], e1)
 | [.val (.lst ps)] => some (ps.zipIdx.map fun z => .tup [.int (z.2 : Int), z.1], e1)
 | _ => none
theorem LL {fa : FA} {st : Nat → Bool} {e : En} : TQ fa st e = bE (fa e) fun bs e1 => match bs with
 | [.val (.tup ps)] => some (ps.zipIdx.map fun z => .tup [.int (z.2 : Int), z.1], e1)
 | [.val (.lst ps)] => some (ps.zipIdx.map fun z => .tup [.int (z.2 : Int), z.1], e1)
 | _ => none := rfl
end
end Mr
namespace L2
open PySem PySem.Spec PyProof.Rows
section
variable {X : Cx} {e st : Expr} {te ts : TE} {pos p2 : Pos}
end
end L2
namespace Mr
open PySem PySem.Spec L2 PyProof.Rows
section
variable {K : PySem.W.Frag}
theorem bP.rev {Z : aO} {H : Hp} : ∀ {ps : List PV} {xs : List V}, bP K Z H ps xs → bP K Z H ps.reverse xs.reverse
 | _, _, .nil => .nil
 | _, _, .cons a r => by rw [List.reverse_cons, List.reverse_cons]; exact bP.app (bP.rev r) (.cons a .nil)
noncomputable def UU : PV → PV → Option Bv
 | .tup ps, .int i => aU (decide (i = -1)) (some (.val (.tup ps.reverse)))
 | _, _ => none
end
end Mr
namespace Mr
open PySem PySem.Spec L2 PyProof.Rows
section
variable {K : PySem.W.Frag}
noncomputable def X2 (i : Nat) (f : FE) : FE := fun e => bO (ownAt e i) fun p0 => match p0 with
 | .lst _ => bE (f e) fun b e1 => match b with
  | .val (.int k) => match ownAt e1 i with
   | some (.lst ps) => aU (decide (-1000000000 ≤ k ∧ k < 1000000000)) (bO (sV ps.length k) fun j => bO ps[j]? fun p => some (.val p, cU e1 i (.lst (ps.eraseIdx j))))
   | _ => none
  | _ => none
 | _ => none
theorem bP.erase {Z : aO} {H : Hp} : ∀ {ps : List PV} {xs : List V} (j : Nat), bP K Z H ps xs → bP K Z H (ps.eraseIdx j) (xs.eraseIdx j)
 | _, _, _, .nil => by rw [List.eraseIdx_nil, List.eraseIdx_nil]; exact .nil
 | _, _, 0, .cons a r => r
 | _, _, j + 1, .cons a r => .cons a (bP.erase j r)
theorem OF {i : Nat} {f : FE} {e : En} : X2 i f e = bO (ownAt e i) fun p0 => match p0 with
 | .lst _ => bE (f e) fun b e1 => match b with
  | .val (.int k) => match ownAt e1 i with
   | some (.lst ps) => aU (decide (-1000000000 ≤ k ∧ k < 1000000000)) (bO (sV ps.length k) fun j => bO ps[j]? fun p => some (.val p, cU e1 i (.lst (ps.eraseIdx j))))
   | _ => none
  | _ => none
 | _ => none := rfl
noncomputable def Y1 (a b : Str) : Bool := !ltCps b.cps.toList a.cps.toList
noncomputable def B0 (ss : List Str) : List Str := ss.mergeSort Y1
end
end Mr
namespace Mr
open PySem L2
structure Mark {α : Type} (Q : α → Prop) : Type where
noncomputable def Wp {α : Type} (r : Option α) (Q : α → Prop) (u : Mark Q := ⟨⟩) : Prop := ∃ a, r = some a ∧ Q a
section
variable {α β : Type} {Q : β → Prop}
theorem YG : sV 1 0 = some 0 := by decide
theorem XI : sV 2 0 = some 0 := by decide
theorem W3 : sV 2 1 = some 1 := by decide
theorem W8 : sV 3 0 = some 0 := by decide
theorem XO : sV 3 1 = some 1 := by decide
theorem YC : sV 3 2 = some 2 := by decide
theorem XW : sV 4 0 = some 0 := by decide
theorem WD : sV 4 1 = some 1 := by decide
theorem YF : sV 4 2 = some 2 := by decide
theorem WA : sV 4 3 = some 3 := by decide
theorem EN {a b c d : Nat} : (((a, b) : Nat × Nat) == (c, d)) = (a == c && b == d) := rfl
theorem ZE {x : α} {xs : List α} : pM (x :: xs) 0 = some x := jO (j := 0) rfl
theorem ZH {x y : α} {xs : List α} : pM (x :: y :: xs) 1 = some y := jO (j := 1) rfl
theorem at2 {x y z : α} {xs : List α} : pM (x :: y :: z :: xs) 2 = some z := jO (j := 2) rfl
theorem ZD {x y z w : α} {xs : List α} : pM (x :: y :: z :: w :: xs) 3 = some w := jO (j := 3) rfl
theorem j4 {r : Option (α × En)} {k : α → En → Option β} : Wp (bE r k) Q ↔ Wp r fun z => Wp (k z.1 z.2) Q := by
 constructor
 ·rintro ⟨b, h, q⟩
  obtain ⟨a, e, h1, h2⟩ := aS h
  exact ⟨(a, e), h1, b, h2, q⟩
 ·rintro ⟨⟨a, e⟩, rfl, b, h2, q⟩
  exact ⟨b, h2, q⟩
theorem jX {r : Option α} {k : α → Option β} : Wp (bO r k) Q ↔ Wp r fun z => Wp (k z) Q := by
 constructor
 ·rintro ⟨b, h, q⟩
  obtain ⟨a, h1, h2⟩ := aI h
  exact ⟨a, h1, b, h2, q⟩
 ·rintro ⟨a, rfl, b, h2, q⟩
  exact ⟨b, h2, q⟩
theorem dB {b : β} : Wp (some b) Q ↔ Q b := ⟨fun ⟨_, h, q⟩ => by cases h; exact q, fun q => ⟨b, rfl, q⟩⟩
theorem nZ : Wp (none : Option β) Q ↔ False := by
 constructor
 ·rintro ⟨_, h, _⟩; cases h
 ·exact False.elim
theorem gW {c : Bool} {k : Option β} : Wp (aU c k) Q ↔ c = true ∧ Wp k Q := by
 constructor
 ·rintro ⟨b, h, q⟩
  obtain ⟨h1, h2⟩ := aT h
  exact ⟨h1, b, h2, q⟩
 ·rintro ⟨rfl, b, h, q⟩
  exact ⟨b, h, q⟩
theorem wp_seq {f g : FS} {e : En} {Q : Out → Prop} : Wp (bF f g e) Q ↔ Wp (f e) fun o => match o with | .nx e1 => Wp (g e1) Q | o => Q o := by
 unfold bF
 cases f e with
 | none => simp [nZ]
 | some o =>
  rw [dB]
  cases o <;> simp [dB]
theorem LM {c : Bool} {x y : Option β} : Wp (bB c x y) Q ↔ ((c = true → Wp x Q) ∧ (c = false → Wp y Q)) := by
 cases c <;> simp [bB]
theorem X9 {x y : β} : bB true x y = x := rfl
theorem WU {x y : β} : bB false x y = y := rfl
theorem Wp.mono {r : Option β} {Q Q' : β → Prop} (h : Wp r Q) (k : ∀ b, Q b → Q' b) : Wp r Q' := let ⟨b, e, q⟩ := h; ⟨b, e, k b q⟩
theorem Wp.eq {r : Option β} {b : β} (h : Wp r fun x => x = b) : r = some b := let ⟨_, e, q⟩ := h; q ▸ e
end
theorem E1 {ks : List Kd} {nl : Nat} {fr : Bool} {g : FS} {ps : List PV} {Q : PV × List PV → Prop} : Wp (tW ks nl fr g ps) Q ↔ Wp (g (mH ks ps ++ List.replicate nl none)) fun o => Wp (N2 ks fr o) Q := by
 unfold tW; exact jX
theorem wp_call {ks : List Kd} {fr : Bool} {f : FN} {fa : FA} {e : En} {Q : Bv × En → Prop} : Wp (bQ ks fr f fa e) Q ↔ Wp (fa e) fun z => Wp (DY z.2 ks z.1) fun ps =>
  (decide ((cT ks z.1).Nodup) && (mZ ks z.1).all fun i => !(cT ks z.1).contains i) = true ∧ Wp (f ps) fun rq => Wp (mQ (rq.2.map fun q => some (.own q)) (cT ks z.1).zipIdx z.2) fun e2 => Q (resB rq.1 fr, e2) := by
 unfold bQ
 constructor
 ·intro h
  obtain ⟨z, h1, h⟩ := j4.mp h
  obtain ⟨ps, h2, h⟩ := jX.mp h
  obtain ⟨g, h⟩ := gW.mp h
  obtain ⟨rq, h3, h⟩ := jX.mp h
  obtain ⟨e2, h4, h⟩ := jX.mp h
  exact ⟨z, h1, ps, h2, g, rq, h3, e2, h4, dB.mp h⟩
 ·rintro ⟨z, h1, ps, h2, g, rq, h3, e2, h4, q⟩
  exact j4.mpr ⟨z, h1, jX.mpr ⟨ps, h2, gW.mpr ⟨g, jX.mpr ⟨rq, h3, jX.mpr ⟨e2, h4, dB.mpr q⟩⟩⟩⟩⟩
theorem gT {body : PV → En → Option Out} (I : Nat → En → Prop) {Q : Out → Prop} {xs : List PV} (hs : ∀ (i : Nat) x e, xs[i]? = some x → I i e → Wp (body x e) fun o => match o with | .nx e1 => I (i + 1) e1 | .ct e1 => I (i + 1) e1 | .bk e1 => Q (.nx e1) | .rt b e1 => Q (.rt b e1))
  (hd : ∀ e, I xs.length e → Q (.nx e)) {e : En} (h0 : I 0 e) : Wp (mM body xs e) Q := by
 have key : ∀ (ys : List PV) (i : Nat) (e : En), i ≤ xs.length → xs.drop i = ys → I i e → Wp (mM body ys e) Q := by
  intro ys
  induction ys with
  | nil =>
   intro i e hil hy hi
   unfold mM
   rw [dB]
   have hl : xs.length ≤ i := by
    have := congrArg List.length hy
    rw [List.length_drop] at this
    simp at this
    omega
   have h : i = xs.length := by omega
   subst h
   exact hd e hi
  | cons x ys ih =>
   intro i e hil hy hi
   have hlt : i < xs.length := by
    have := congrArg List.length hy
    rw [List.length_drop, List.length_cons] at this
    omega
   rw [List.drop_eq_getElem_cons hlt] at hy
   have hx : xs[i]? = some x := by rw [List.getElem?_eq_getElem hlt, (List.cons.inj hy).1]
   obtain ⟨o, h1, h2⟩ := hs i x e hx hi
   unfold mM
   rw [h1]
   cases o with
   | nx e1 => exact ih (i + 1) e1 hlt (List.cons.inj hy).2 h2
   | ct e1 => exact ih (i + 1) e1 hlt (List.cons.inj hy).2 h2
   | bk e1 => exact dB.mpr h2
   | rt b e1 => exact dB.mpr h2
 exact key xs 0 e (Nat.zero_le _) rfl h0
theorem kI {fg : FG} {ft : FT} {fe : FE} (I : Nat → List PV → En → Prop) {Q : List PV × En → Prop} {xs : List PV} (hs : ∀ (i : Nat) x e acc, xs[i]? = some x → I i acc e → Wp (fg x e) fun e1 => Wp (ft e1) fun z => match z.1 with | false => I (i + 1) acc z.2 | true => Wp (fe z.2) fun w => Wp w.1.put fun p => I (i + 1) (acc ++ [p]) w.2)
  (hd : ∀ acc e, I xs.length acc e → Q (acc, e)) {e : En} (h0 : I 0 [] e) : Wp (j9 fg ft fe xs e) Q := by
 have key : ∀ (ys : List PV) (i : Nat) (acc : List PV) (e : En), i ≤ xs.length → xs.drop i = ys → I i acc e → ∃ rest e', j9 fg ft fe ys e = some (rest, e') ∧ I xs.length (acc ++ rest) e' := by
  intro ys
  induction ys with
  | nil =>
   intro i acc e hil hy hi
   have hl : xs.length ≤ i := by
    have := congrArg List.length hy
    rw [List.length_drop] at this
    simp at this
    omega
   have h : i = xs.length := by omega
   subst h
   exact ⟨[], e, rfl, by rw [List.append_nil]; exact hi⟩
  | cons x ys ih =>
   intro i acc e hil hy hi
   have hlt : i < xs.length := by
    have := congrArg List.length hy
    rw [List.length_drop, List.length_cons] at this
    omega
   rw [List.drop_eq_getElem_cons hlt] at hy
   have hx : xs[i]? = some x := by rw [List.getElem?_eq_getElem hlt, (List.cons.inj hy).1]
   obtain ⟨e1, h1, z, h2, h3⟩ := hs i x e acc hx hi
   obtain ⟨b, e2⟩ := z
   unfold j9
   rw [h1, vL, h2, yC]
   cases b with
   | false => exact ih (i + 1) acc e2 hlt (List.cons.inj hy).2 h3
   | true =>
    obtain ⟨⟨r, e3⟩, h4, p, h5, h6⟩ := h3
    dsimp only at h4 h5 h6 ⊢
    obtain ⟨rest, e', h7, h8⟩ := ih (i + 1) (acc ++ [p]) e3 hlt (List.cons.inj hy).2 h6
    rw [h4, yC, h5, vL, h7, yC]
    exact ⟨p :: rest, e', rfl, by rw [List.append_assoc] at h8; exact h8⟩
 obtain ⟨rest, e', h1, h2⟩ := key xs 0 [] e (Nat.zero_le _) rfl h0
 exact ⟨_, h1, hd _ _ h2⟩
theorem rM {fc : FT} {fb : FS} (I : En → Prop) (μ : En → Nat) {Q : Out → Prop} (hs : ∀ e, I e → Wp (fc e) fun z => match z.1 with | false => Q (.nx z.2) | true => Wp (fb z.2) fun o => match o with | .nx e1 => I e1 ∧ μ e1 < μ e | .ct e1 => I e1 ∧ μ e1 < μ e | .bk e1 => Q (.nx e1) | .rt b e1 => Q (.rt b e1)) :
  ∀ {n : Nat} {e : En}, μ e < n → I e → Wp (lS fc fb n e) Q
 | 0, e, h, _ => absurd h (Nat.not_lt_zero _)
 | n + 1, e, h, hi => by
  obtain ⟨⟨b, e1⟩, h1, h2⟩ := hs e hi
  unfold lS
  rw [h1, yC]
  cases b with
  | false => exact dB.mpr h2
  | true =>
   obtain ⟨o, h3, h4⟩ := h2
   dsimp only at h3 ⊢
   rw [h3]
   cases o with
   | nx e2 => exact rM I μ hs (by have := h4.2; omega) h4.1
   | ct e2 => exact rM I μ hs (by have := h4.2; omega) h4.1
   | bk e2 => exact dB.mpr h4
   | rt b e2 => exact dB.mpr h4
theorem D3 {fi : FI} {k : Nat} {dN : List Nat} {ms : List (Nat × Nat)} {fg : FG} {ft : FT} {fe : FE} {e : En} {Q : Bv × En → Prop} : Wp (j6 fi k dN ms fg ft fe e) Q ↔ Wp (fi (fun i => !(ms.any fun z => z.1 == i)) e) fun z => z.1.length < 1000000 ∧ Wp (j9 fg ft fe z.1 (m9 k dN ms z.2)) fun w => Wp (mQ w.2 ms z.2) fun e2 => Q (.new (.lst w.1), e2) := by
 unfold j6
 constructor
 ·intro h
  obtain ⟨z, h1, h⟩ := j4.mp h
  obtain ⟨g, h⟩ := gW.mp h
  obtain ⟨w, h2, h⟩ := j4.mp h
  obtain ⟨e2, h3, h⟩ := jX.mp h
  exact ⟨z, h1, of_decide_eq_true g, w, h2, e2, h3, dB.mp h⟩
 ·rintro ⟨z, h1, g, w, h2, e2, h3, q⟩
  exact j4.mpr ⟨z, h1, gW.mpr ⟨decide_eq_true g, j4.mpr ⟨w, h2, jX.mpr ⟨e2, h3, dB.mpr q⟩⟩⟩⟩
theorem LX {fi : FI} {fg : FG} {fb : FS} {e : En} {Q : Out → Prop} : Wp (kU fi fg fb e) Q ↔ Wp (fi (fun _ => false) e) fun z => Wp (mM (fun x e => bO (fg x e) fb) z.1 z.2) Q := by
 unfold kU
 rw [j4]
theorem QB : bV PV.aZ PV.aZ = true := by simp [bV]
theorem P8 {y : Bool} : bV PV.aZ (PV.bl y) = false := by simp [bV]
theorem OQ {y : Int} : bV PV.aZ (PV.int y) = false := by simp [bV]
theorem O9 {y : Str} : bV PV.aZ (PV.str y) = false := by simp [bV]
theorem Q7 {y : List PV} : bV PV.aZ (PV.tup y) = false := by simp [bV]
theorem PZ {y : List PV} : bV PV.aZ (PV.lst y) = false := by simp [bV]
theorem Q8 {x : Bool} : bV (PV.bl x) PV.aZ = false := by simp [bV]
theorem RL {x : Bool} {y : Bool} : bV (PV.bl x) (PV.bl y) = (x == y) := by simp [bV]
theorem NV {x : Bool} {y : Int} : bV (PV.bl x) (PV.int y) = ((if x then 1 else 0) == y) := by simp [bV]
theorem RO {x : Bool} {y : Str} : bV (PV.bl x) (PV.str y) = false := by simp [bV]
theorem O3 {x : Bool} {y : List PV} : bV (PV.bl x) (PV.tup y) = false := by simp [bV]
theorem SD {x : Bool} {y : List PV} : bV (PV.bl x) (PV.lst y) = false := by simp [bV]
theorem QD {x : Int} : bV (PV.int x) PV.aZ = false := by simp [bV]
theorem PH {x : Int} {y : Bool} : bV (PV.int x) (PV.bl y) = (x == (if y then 1 else 0)) := by simp [bV]
theorem RT {x : Int} {y : Int} : bV (PV.int x) (PV.int y) = (x == y) := by simp [bV]
theorem RI {x : Int} {y : Str} : bV (PV.int x) (PV.str y) = false := by simp [bV]
theorem PL {x : Int} {y : List PV} : bV (PV.int x) (PV.tup y) = false := by simp [bV]
theorem OC {x : Int} {y : List PV} : bV (PV.int x) (PV.lst y) = false := by simp [bV]
theorem OE {x : Str} : bV (PV.str x) PV.aZ = false := by simp [bV]
theorem R5 {x : Str} {y : Bool} : bV (PV.str x) (PV.bl y) = false := by simp [bV]
theorem O1 {x : Str} {y : Int} : bV (PV.str x) (PV.int y) = false := by simp [bV]
theorem vT {x : Str} {y : Str} : bV (PV.str x) (PV.str y) = (x == y) := by simp [bV]
theorem QR {x : Str} {y : List PV} : bV (PV.str x) (PV.tup y) = false := by simp [bV]
theorem NP {x : Str} {y : List PV} : bV (PV.str x) (PV.lst y) = false := by simp [bV]
theorem OJ {x : List PV} : bV (PV.tup x) PV.aZ = false := by simp [bV]
theorem NW {x : List PV} {y : Bool} : bV (PV.tup x) (PV.bl y) = false := by simp [bV]
theorem NS {x : List PV} {y : Int} : bV (PV.tup x) (PV.int y) = false := by simp [bV]
theorem OT {x : List PV} {y : Str} : bV (PV.tup x) (PV.str y) = false := by simp [bV]
theorem N8 {x : List PV} {y : List PV} : bV (PV.tup x) (PV.tup y) = dX x y := by simp [bV]
theorem O6 {x : List PV} {y : List PV} : bV (PV.tup x) (PV.lst y) = false := by simp [bV]
theorem NQ {x : List PV} : bV (PV.lst x) PV.aZ = false := by simp [bV]
theorem QJ {x : List PV} {y : Bool} : bV (PV.lst x) (PV.bl y) = false := by simp [bV]
theorem RU {x : List PV} {y : Int} : bV (PV.lst x) (PV.int y) = false := by simp [bV]
theorem OR {x : List PV} {y : Str} : bV (PV.lst x) (PV.str y) = false := by simp [bV]
theorem NU {x : List PV} {y : List PV} : bV (PV.lst x) (PV.tup y) = false := by simp [bV]
theorem PB {x : List PV} {y : List PV} : bV (PV.lst x) (PV.lst y) = dX x y := by simp [bV]
theorem K1 : dX [] [] = true := by simp [dX]
theorem LB {x y : PV} {xs ys : List PV} : dX (x :: xs) (y :: ys) = (bV x y && dX xs ys) := by simp [dX]
theorem KL {y : PV} {ys : List PV} : dX [] (y :: ys) = false := by simp [dX]
theorem MF {x : PV} {xs : List PV} : dX (x :: xs) [] = false := by simp [dX]
end Mr
namespace Mr
open PySem PySem.Spec L2 PyProof.Rows
section
variable {K : PySem.W.Frag}
noncomputable def w8 : PV → PV → Option Bv
 | .cC kvs, p => bO (keyOf p) fun k => some (.val ((jP kvs k).getD .aZ))
 | _, _ => none
noncomputable def BC (fa fb : FE) : FE := fun e => bE (fa e) fun x e1 => bO (x.weak.get e1) fun p1 => match p1 with
 | .cC _ => bE (fb e1) fun y e2 => bO (x.weak.get e2) fun p => bO (y.weak.get e2) fun q => bO (w8 p q) fun b => some (b, e2)
 | _ => none
theorem HG {ta tb : TE} {fa fb : FE} (ha : Ref K ta fa) (hb : Ref K tb fb) : Ref K (FY ta tb) (BC fa fb) := by
 intro O M W L σ H e e' b Q o he hf q
 obtain ⟨x, e1, f1, hf⟩ := aS hf
 obtain ⟨p1, g0, hf⟩ := aI hf
 cases p1 with
 | cC kvs1 =>
  obtain ⟨y, e2, f2, hf⟩ := aS hf
  obtain ⟨p, g1, hf⟩ := aI hf
  obtain ⟨p', g2, hf⟩ := aI hf
  obtain ⟨c, g3, hf⟩ := aI hf
  cases hf
  refine ha O M W L σ H e e1 x _ o he f1 fun v1 H1 k1 r1 fr => ?_
  have o1 := o.keep k1.dR
  obtain ⟨a1, ys1, e11, ha1, _, _⟩ := ((r1.rv o1).red (r1.en o1) g0).sY
  refine ⟨a1, e11, .inl ⟨ys1, ha1⟩, ?_⟩
  refine hb O M W L σ H1 e1 _ y _ o1 (r1.en o1) f2 fun v2 H2 k2 r2 fr => ?_
  have o2 := o1.keep k2.dR
  have en := r2.en o2
  have rp := ((r1.rv o1).keep o1 k2).red en g1
  have rq := (r2.rv o2).red en g2
  cases p with
  | cC kvs =>
   obtain ⟨key, g4, g3⟩ := aI g3
   cases g3
   obtain ⟨a, ys, e3, ha', ek, r⟩ := rp.sY
   rw [e11] at e3
   cases e3
   refine ⟨iT ys key, .inl ⟨ys, key, ha', rq.key g4, rfl⟩, ?_⟩
   refine q _ H2 (k1.trans k2) ?_ ?_
   ·refine ⟨en, ?_⟩
    rcases fB.val key ⟨ek, r⟩ with ⟨h1, h2⟩ | ⟨p'', v', h1, h2, h3⟩
    ·rw [h1, h2]; exact .aZ
    ·rw [h1, h2]; exact h3
   ·trivial
  | _ => cases g3
 | _ => cases hf
theorem JV {fa fb : FE} {e : En} : BC fa fb e = bE (fa e) fun x e1 => bO (x.weak.get e1) fun p1 => match p1 with
 | .cC _ => bE (fb e1) fun y e2 => bO (x.weak.get e2) fun p => bO (y.weak.get e2) fun q => bO (w8 p q) fun b => some (b, e2)
 | _ => none := rfl
end
end Mr
namespace L2
open PySem PySem.Spec PyProof.Rows PySem.W
section
variable {prog : Program} {w : World} {A : Around} {E : Value → Shared → Prop} {s : Shared} {T : String} {r d : Addr} {n : Nat} {Pz : Nat → Value → Prop} {OKh : Heap → Prop}
noncomputable def mK (s s' : Shared) : Prop := ∃ h' tk dr, s' = { s with heap := h', toks := tk, drawn := dr } ∧ s.heap.objs.size ≤ h'.objs.size ∧ ∀ b o, s.heap.get? b = some o → h'.get? b = some o
theorem mK.size {s s' : Shared} (g : mK s s') : s.heap.objs.size ≤ s'.heap.objs.size := by
 obtain ⟨h', tk, dr, rfl, k, _⟩ := g
 exact k
end
section
variable {X : Cx} {pins : List (Addr × Obj)} {σ : St} {H : Hp} {s s' : Shared}
theorem Inv.X7 (I : Inv X pins σ H s) (g : mK s s') : Inv X pins σ H s' := by
 obtain ⟨h', tk, dr, rfl, _, k⟩ := g
 exact I.call (g' := s.gens) (d' := dr) (t' := tk) (ch := []) (Un.kept k) (I.dJ.kept k) I.bare fun _ z => nomatch z
theorem mK.push (g : mK s s') (o : Obj) : mK s { s' with heap := s'.heap.push o } := by
 obtain ⟨h', tk, dr, rfl, gz, k⟩ := g
 exact ⟨h'.push o, tk, dr, rfl, by rw [size_push']; exact Nat.le_succ_of_le gz, fun b u e => Heap.get?_push_of_some _ (k b u e)⟩
end
end L2
namespace L2
open PySem PySem.Spec PyProof.Rows PySem.W
theorem Rd.upd {H : Hp} {a l : Addr} {o u : HO} (h : Rd H a o) (hl : H l = none) : Rd (upd H l u) a o := by
 have ne : a ≠ l := by
  rintro rfl
  rcases h with h | ⟨_, h⟩ <;> (rw [hl] at h; cases h)
 rcases h with h | ⟨x, h⟩
 ·exact .inl (by rw [bL ne]; exact h)
 ·exact .inr ⟨x, by rw [bL ne]; exact h⟩
theorem KV.vals {kvs : List (Key × V)} {vs : List (Key × Value)} (r : KV kvs vs) : Vals (kvs.map (·.2)) (vs.map (·.2)) := by
 unfold KV at r
 induction r with
 | nil => exact .nil
 | cons h t ih => exact .cons h.2 ih
theorem KV.len {kvs : List (Key × V)} {vs : List (Key × Value)} (r : KV kvs vs) : kvs.length = vs.length := by
 have := congrArg List.length r.keys
 simpa using this
theorem zS.upd {H : Hp} {a l : Addr} {kvs : List (Key × V)} {u : HO} (h : zS H a kvs) (hl : H l = none) : zS (upd H l u) a kvs := let ⟨ep, e⟩ := h; ⟨ep, Rd.upd e hl⟩
section
variable {X : Cx}
end
end L2
namespace L2
open PySem PySem.Spec PyProof.Rows PySem.W
section
theorem KP (t : SetTable) (es : Array (Int × Value)) (h : Int) (x : Value) : (layNew t es h x).2.1.led = t.led := by
 unfold layNew
 split
 ·dsimp only
  generalize hp : SetTable.put t _ = z
  have hz : z.1.led = t.led := by rw [← hp]; rfl
  unfold SetTable.orStandIn
  split
  ·exact hz
  ·exact hz
 ·rfl
theorem HY (t : SetTable) (es : Array (Int × Value)) (n : Nat) : (relayAll t es n).2.1.led = t.led ∧ (t.plain = false → (relayAll t es n).2.1.plain = false) := by
 unfold relayAll
 split
 ·rename_i t' order e
  have k : t'.led = t.led ∧ t'.plain = t.plain := by
   unfold SetTable.relaid SetTable.laid at e
   cases c : SetTable.layClean (SetTable.sizeAbove n - 1) (es.map (·.1)) with
   | none => rw [c] at e; cases e
   | some o => rw [c] at e; cases e; exact ⟨rfl, rfl⟩
  dsimp only
  split
  ·exact ⟨k.1, fun z => k.2.trans z⟩
  ·exact ⟨rfl, fun _ => rfl⟩
 ·exact ⟨rfl, fun _ => rfl⟩
variable (prog : Program) (w : World)
noncomputable abbrev RJ : Bool := w.params.followText "set-order"
noncomputable def pO (h : Heap) (a : Addr) (ks : List Str) (es : Array (Int × Value)) (ep : Nat) (t : SetTable) : Prop :=
 ∃ o, h.get? a = some o ∧ o.ExactSet ∧ o.data = .set es ep t ∧ ElemsOf (PySem.strKind prog w) es.toList ∧ (∃ us, StrsAre (es.toList.map (·.2)) us ∧ us.Perm ks) ∧ es.size < scanBound ∧ t.fits es.size = true ∧ t.led = !RJ w ∧ (es.size = 0 ∨ t.plain = false)
noncomputable def qJ (h : Heap) (a : Addr) (ks : List Str) : Prop := ∃ es ep t, pO prog w h a ks es ep t
variable {prog w}
theorem pO.at' {h h' : Heap} {a : Addr} {ks : List Str} {es : Array (Int × Value)} {ep : Nat} {t : SetTable} (x : pO prog w h a ks es ep t) (k : ∀ o, h.get? a = some o → h'.get? a = some o) : pO prog w h' a ks es ep t := let ⟨o, e, r⟩ := x; ⟨o, k o e, r⟩
theorem qJ.at' {h h' : Heap} {a : Addr} {ks : List Str} (x : qJ prog w h a ks) (k : ∀ o, h.get? a = some o → h'.get? a = some o) : qJ prog w h' a ks := let ⟨es, ep, t, r⟩ := x; ⟨es, ep, t, r.at' k⟩
noncomputable def D9 (ks : List Str) (x : Str) : List Str := if x ∈ ks then ks else ks ++ [x]
theorem G9 {k x : Str} {t : Tok} : (PySem.strKind prog w).is k (.str x t) = decide (k = x) := KeyKind.is_eq_decide (strKind_is _ _ _ _) k
theorem x3 : ∀ {vs : List Value} {us : List Str}, StrsAre vs us → ∀ k, (∃ v ∈ vs, (PySem.strKind prog w).is k v = true) ↔ k ∈ us
 | _, _, .nil, k => by simp
 | _, _, .cons x t r, k => by
  have ih := x3 r k
  rw [List.mem_cons, ← ih]
  constructor
  ·rintro ⟨v, hv, h⟩
   rcases List.mem_cons.mp hv with rfl | hv
   ·rw [G9] at h; exact .inl (of_decide_eq_true h)
   ·exact .inr ⟨v, hv, h⟩
  ·rintro (rfl | ⟨v, hv, h⟩)
   ·exact ⟨_, List.mem_cons_self, by rw [G9]; exact decide_eq_true rfl⟩
   ·exact ⟨v, List.mem_cons_of_mem _ hv, h⟩
theorem DA : ∀ {vs vs' : List Value} {us : List Str}, vs'.Perm vs → StrsAre vs us → ∃ us', StrsAre vs' us' ∧ us'.Perm us := by
 intro vs vs' us p h
 have e : ∀ {l : List Value} {m : List Str}, StrsAre l m → m = l.map strOf ∧ ∀ v ∈ l, ∃ x t, v = .str x t := fun q => ⟨q.strs.symm, q.all⟩
 obtain ⟨e1, e2⟩ := e h
 refine ⟨vs'.map strOf, strsAre_map _ fun v hv => e2 v (p.mem_iff.mp hv), ?_⟩
 rw [e1]
 exact p.map strOf
variable {A : Around} {E : Value → Shared → Prop} {s : Shared}
theorem pO.put {h : Heap} {a : Addr} {o : Obj} {es es' : Array (Int × Value)} {ep : Nat} {t t' : SetTable} {ks' : List Str} (ho : h.get? a = some o) (hex : o.ExactSet) (hd : o.data = .set es ep t)
  (hel : ElemsOf (PySem.strKind prog w) es'.toList) (hu : ∃ us, StrsAre (es'.toList.map (·.2)) us ∧ us.Perm ks') (hb : es'.size < scanBound) (hf : t'.fits es'.size = true) (hl : t'.led = !RJ w) (hp : t'.plain = false) :
  ∃ o', (h.update a (Obj.putSet es' t')).get? a = some o' ∧ o'.ExactSet ∧ o'.data = .set es' (ep + 1) t' ∧ pO prog w (h.update a (Obj.putSet es' t')) a ks' es' (ep + 1) t' := by
 have g : (h.update a (Obj.putSet es' t')).get? a = some { o with data := .set es' (ep + 1) t' } := by
  have := Heap.get?_update_self (Obj.putSet es' t') ho (by rw [putSet_of es' t' hd]; rfl)
  rw [putSet_of es' t' hd] at this
  exact this
 exact ⟨_, g, hex, rfl, _, g, hex, rfl, hel, hu, hb, hf, hl, .inr hp⟩
theorem qX {l l' : List (Int × Value)} {us : List Str} (p : l'.Perm l) (h : StrsAre (l.map (·.2)) us) : ∃ us', StrsAre (l'.map (·.2)) us' ∧ us'.Perm us := DA (p.map _) h
theorem add_str {a : Addr} {ks : List Str} {x : Str} {tk : Tok} {Q : Bool → Shared → Prop} (hS : qJ prog w s.heap a ks) (hroom : ks.length + 1 < scanBound)
  (h : ∀ h' b, Heap.SameBut a s.heap h' → qJ prog w h' a (D9 ks x) → Q b { s with heap := h' }) : wpAny (model prog w) A (setAddHashed a (.str x tk) ((PySem.strKind prog w).hash x)) Q E s := by
 obtain ⟨es, ep, t, o, ho, hex, hd, hel, ⟨us, hus, hpm⟩, hb, hf, hled, hpl⟩ := hS
 have hn : es.size = ks.length := by
  have := hus.length
  rw [List.length_map, Array.length_toList, hpm.length_eq] at this
  exact this
 have hkey : (PySem.strKind prog w).is x (.str x tk) = true := strKind_is _ _ _ _
 have hmem : (∃ e ∈ es.toList, (PySem.strKind prog w).is x e.2 = true) ↔ x ∈ ks := by
  rw [← hpm.mem_iff, ← x3 (prog := prog) (w := w) hus x]
  constructor
  ·rintro ⟨e, he, q⟩; exact ⟨e.2, List.mem_map.mpr ⟨e, he, rfl⟩, q⟩
  ·rintro ⟨v, hv, q⟩
   obtain ⟨e, he, rfl⟩ := List.mem_map.mp hv
   exact ⟨e, he, q⟩
 unfold setAddHashed setAddHashedIn
 refine wpAny_holding (wpAny_bind (wpAny_setState_of ho hd hf ?_))
 dsimp only
 rw [byScan_of (x := .str x tk) rfl hb hel]
 simp only [↓reduceIte]
 unfold setAddByScan
 refine wpAny_bind (wpAny_bind (wpAny_rule (wpAny_bind (wpAny_setScan_of hkey ho hd hf hel ?_))))
 cases hr : List.findIdx? (fun e => (PySem.strKind prog w).is x e.2) es.toList with
 | some j =>
  dsimp only
  obtain ⟨hj, hpj, _⟩ := List.findIdx?_eq_some_iff_getElem.mp hr
  have hx : x ∈ ks := hmem.mp ⟨_, List.getElem_mem hj, hpj⟩
  refine wpAny_pure (wpAny_pure ?_)
  have := h s.heap false (Heap.SameBut.refl a s.heap) (by unfold D9; rw [if_pos hx]; exact ⟨es, ep, t, o, ho, hex, hd, hel, ⟨us, hus, hpm⟩, hb, hf, hled, hpl⟩)
  exact this
 | none =>
  dsimp only
  have hx : x ∉ ks := fun z => by
   obtain ⟨e, he, q⟩ := hmem.mpr z
   have := List.findIdx?_eq_none_iff.mp hr e he
   rw [q] at this
   cases this
  have gw : ∀ (b : Bool) {s₁ : Shared} {Q' : Unit → Shared → Prop}, Q' () s₁ → wpAny (model prog w) A (match b with | true => rule "set.scan.the-table-gave-way" | false => pure ()) Q' E s₁ :=
   fun b s₁ Q' hq => by
    cases b
    ·exact wpAny_pure hq
    ·exact wpAny_rule hq
  have p1 := layNew_perm t es ((PySem.strKind prog w).hash x) (.str x tk)
  have f1 := layNew_fits t es ((PySem.strKind prog w).hash x) (.str x tk)
  have l1 := KP t es ((PySem.strKind prog w).hash x) (.str x tk)
  generalize layNew t es ((PySem.strKind prog w).hash x) (.str x tk) = Z at p1 f1 l1 ⊢
  obtain ⟨es1, t1, dum, gave⟩ := Z
  dsimp only at p1 f1 l1 ⊢
  rw [Array.toList_push] at p1
  have el1 : ElemsOf (PySem.strKind prog w) es1.toList := (hel.push hkey rfl).perm p1
  have z1 : es1.size = ks.length + 1 := by rw [← Array.length_toList, p1.length_eq, List.length_append, Array.length_toList, hn]; rfl
  have b1 : es1.size < scanBound := by rw [z1]; exact hroom
  have u1 : ∃ us', StrsAre (es1.toList.map (·.2)) us' ∧ us'.Perm (D9 ks x) := by
   have q : StrsAre ((es.toList ++ [((PySem.strKind prog w).hash x, Value.str x tk)]).map (·.2)) (us ++ [x]) := by
    rw [List.map_append]
    have app : ∀ {l : List Value} {m : List Str}, StrsAre l m → StrsAre (l ++ [.str x tk]) (m ++ [x]) := by
     intro l m hl
     induction hl with
     | nil => exact .cons x tk .nil
     | cons y t r ih => exact .cons y t ih
    exact app hus
   obtain ⟨us', a1, a2⟩ := qX p1 q
   exact ⟨us', a1, by unfold D9; rw [if_neg hx]; exact a2.trans (hpm.append_right [x])⟩
  refine wpAny_bind (gw _ ?_)
  have tail : ∀ t2 : SetTable, t2.fits es1.size = true → t2.led = !RJ w → t2.plain = false → wpAny (model prog w) A (do
    storeSet a es1 t2
    if (!dum && t2.tooFull) = true then do
      let (es, t, gave) := relayAll t2 es1 (SetTable.grown es1.size)
      (match gave with | true => rule "set.scan.the-table-gave-way" | false => pure ())
      storeSet a es t
      return some true
     else return some true) (fun r s' => wpAny (model prog w) A (match r with | some added => pure added | none => setAddHashedIn a (.str x tk) ((PySem.strKind prog w).hash x) 99999) Q E s') E s := fun t2 f2 l2 pl2 => by
   refine wpAny_bind (wpAny_storeSet_of ho hd ?_ (fits_of_scanBound b1))
   obtain ⟨o2, ho2, hex2, hd2, hS2⟩ := pO.put ho hex hd el1 u1 b1 f2 l2 pl2
   have sb := Heap.SameBut.update s.heap a (Obj.putSet es1 t2)
   split
   ·have p3 := relayAll_perm t2 es1 (SetTable.grown es1.size)
    have f3 := relayAll_fits t2 es1 (SetTable.grown es1.size)
    obtain ⟨l3, pl3⟩ := HY t2 es1 (SetTable.grown es1.size)
    generalize relayAll t2 es1 (SetTable.grown es1.size) = Y at p3 f3 l3 pl3 ⊢
    obtain ⟨es3, t3, g3⟩ := Y
    dsimp only at p3 f3 l3 pl3 ⊢
    have z3 : es3.size = es1.size := by rw [← Array.length_toList, p3.length_eq, Array.length_toList]
    have b3 : es3.size < scanBound := by rw [z3]; exact b1
    refine wpAny_bind (gw _ (wpAny_bind (wpAny_storeSet_of ho2 hd2 ?_ (fits_of_scanBound b3))))
    obtain ⟨us1, c1, c2⟩ := u1
    obtain ⟨us3, c3, c4⟩ := qX p3 c1
    obtain ⟨_, _, _, _, hS3⟩ := pO.put ho2 hex2 hd2 (el1.perm p3) ⟨us3, c3, c4.trans c2⟩ b3 f3 (l3.trans l2) (pl3 pl2)
    exact wpAny_pure (wpAny_pure (h _ true (sb.trans (Heap.SameBut.update _ a _)) ⟨_, _, _, hS3⟩))
   ·exact wpAny_pure (wpAny_pure (h _ true sb ⟨_, _, _, hS2⟩))
  cases hp1 : t1.plain with
  | true =>
   simp only [if_true]
   refine wpAny_bind ?_
   rw [hashByValue_scannable 8 (x := .str x tk) rfl]
   refine wpAny_pure ?_
   exact tail { t1 with plain := false } (SetTable.fits_plain_off f1) (l1.trans hled) rfl
  | false =>
   simp only [Bool.false_eq_true, if_false]
   refine wpAny_bind (wpAny_pure ?_)
   simp only [if_true]
   exact tail t1 f1 (l1.trans hled) hp1
end
end L2
namespace L2
open PySem PySem.Spec PyProof.Rows PySem.W
noncomputable def pD (ss : List Str) : List Str := ss.foldl D9 []
section
variable {prog : Program} {w : World} {A : Around} {E : Value → Shared → Prop} {s : Shared}
end
end L2
namespace L2
open PySem PySem.Spec PyProof.Rows PySem.W
section
variable {prog : Program} {w : World} {A : Around} {E : Value → Shared → Prop} {s : Shared}
end
end L2
namespace L2
open PySem PySem.Spec PyProof.Rows PySem.W
section
variable {prog : Program} {w : World} {A : Around} {E : Value → Shared → Prop} {s : Shared}
end
end L2
namespace L2
open PySem PySem.Spec PyProof.Rows PySem.W
section
variable {prog : Program} {w : World} {A : Around} {E : Value → Shared → Prop} {s : Shared}
noncomputable def BQ (h : Heap) (I a : Addr) (first : Value) (i n ep : Nat) : Prop := ∃ o, h.get? I = some o ∧ o.cls = .type "set_iterator" ∧ o.data = .fields #[first, rawInt (i : Int), .ref a, rawInt (n : Int), rawInt (ep : Int)]
theorem BQ.typeIs {I a : Addr} {first : Value} {i n ep : Nat} (x : BQ s.heap I a first i n ep) : s.TypeIs (.ref I) "set_iterator" := let ⟨o, ho, hc, _⟩ := x; ⟨o, ho, hc⟩
inductive w6 (w : World) (h : Heap) (es : Array (Int × Value)) (t : SetTable) (a : Addr) (ep : Nat) (ord : List Value) (T : Addr) : Value → Nat → Prop
 | drawn {ps : List Nat} {o : Obj} (i : Nat) (ho : h.get? T = some o) (hd : o.data = .seq (ps.map fun i : Nat => rawInt i).toArray 0) (hc : o.cls = .type "tuple") (he : ∀ j : Nat, (ps[j]?.bind fun p => (es[p]?).map (·.2)) = ord[j]?) (hl : ∀ (j : Nat) p, ps[j]? = some p → p < es.size) (hn : ps.length = es.size) : w6 w h es t a ep ord T (.ref T) i
 | text (k i : Nat) (hb : RJ w = true) (he : ord = (pickOrder (w.params.setOrder a ep) es).toList.map (·.2)) : w6 w h es t a ep ord T (rawInt (k : Int)) i
 | none (k : Nat) (hb : RJ w = false) (hn : es.size = 0) (he : ord = []) : w6 w h es t a ep ord T (rawInt (k : Int)) 0
 | UB {x : Int × Value} {p : Nat} (hb : RJ w = false) (hn : es = #[x]) (hp : t.place = #[p]) (he : ord = [x.2]) : w6 w h es t a ep ord T (rawInt 0) 0
 | T7 {x : Int × Value} {p : Nat} (hb : RJ w = false) (hn : es = #[x]) (hp : t.place = #[p]) (he : ord = [x.2]) : w6 w h es t a ep ord T (rawInt ((p + 1 : Nat) : Int)) 1
theorem w6.at' {h h' : Heap} {es : Array (Int × Value)} {t : SetTable} {a : Addr} {ep : Nat} {ord : List Value} {T : Addr} {f : Value} {i : Nat} (x : w6 w h es t a ep ord T f i) (k : ∀ o, h.get? T = some o → h'.get? T = some o) : w6 w h' es t a ep ord T f i := by
 cases x with
 | drawn i ho hd hc he hl hn => exact .drawn i (k _ ho) hd hc he hl hn
 | text k i hb he => exact .text k i hb he
 | none k hb hn he => exact .none k hb hn he
 | UB hb hn hp he => exact .UB hb hn hp he
 | T7 hb hn hp he => exact .T7 hb hn hp he
end
end L2
namespace L2
open PySem PySem.Spec PyProof.Rows PySem.W
section
variable {prog : Program} {w : World} {A : Around} {E : Value → Shared → Prop} {s : Shared}
theorem BQ.put {I a : Addr} {f : Value} {i n ep k : Nat} {x : Value} {h : Heap} (hit : BQ h I a f i n ep) (hk : k < 5) :
  ∃ o, (h.update I (Obj.mapFields (·.setIfInBounds k x))).get? I = some o ∧ o.cls = .type "set_iterator" ∧ o.data = .fields (#[f, rawInt (i : Int), .ref a, rawInt (n : Int), rawInt (ep : Int)].setIfInBounds k x) := by
 obtain ⟨o, ho, hc, hd⟩ := hit
 exact ⟨_, Heap.get?_update_self _ ho (Obj.isFreed_of_fields (Obj.data_mapFields hd _)), (Obj.cls_mapFields ..).trans hc, Obj.data_mapFields hd _⟩
end
end L2
namespace L2
open PySem PySem.Spec PyProof.Rows PySem.W
section
variable {prog : Program} {w : World} {A : Around} {E : Value → Shared → Prop} {s : Shared}
end
end L2
namespace L2
open PySem PySem.Spec PyProof.Rows PySem.W
section
variable {X : Cx}
end
end L2
namespace Mr
open PySem PySem.Spec L2 PyProof.Rows
section
variable {K : PySem.W.Frag}
noncomputable def PK (fa : FE) : FE := fun e => bE (fa e) fun x e1 => bO (x.weak.get e1) fun p => match p with
 | .cC kvs => some (.val (.tup (kvs.map (·.2))), e1)
 | _ => none
noncomputable def RE (fa : FE) : FE := fun e => bE (fa e) fun x e1 => bO (x.weak.get e1) fun p => match p with
 | .cC kvs => some (.new (.lst (kvs.map (·.2))), e1)
 | _ => none
noncomputable def EG (fa : FE) : FE := fun e => bE (fa e) fun x e1 => bO (x.weak.get e1) fun p => match p with
 | .lst ps => bO (mN ps) fun ss => aU (decide (ss.length < 64)) (some (.new (.lst ((B0 (pD ss)).map PV.str)), e1))
 | _ => none
theorem GD {fa : FE} {e : En} : PK fa e = bE (fa e) fun x e1 => bO (x.weak.get e1) fun p => match p with
 | .cC kvs => some (.val (.tup (kvs.map (·.2))), e1)
 | _ => none := rfl
theorem G4 {fa : FE} {e : En} : RE fa e = bE (fa e) fun x e1 => bO (x.weak.get e1) fun p => match p with
 | .cC kvs => some (.new (.lst (kvs.map (·.2))), e1)
 | _ => none := rfl
theorem AF {fa : FE} {e : En} : EG fa e = bE (fa e) fun x e1 => bO (x.weak.get e1) fun p => match p with
 | .lst ps => bO (mN ps) fun ss => aU (decide (ss.length < 64)) (some (.new (.lst ((B0 (pD ss)).map PV.str)), e1))
 | _ => none := rfl
end
end Mr
namespace Mr
open PySem PySem.Spec L2 PyProof.Rows PySem.W
noncomputable def kC (lt : PV → PV → Option Bool) : List PV → List PV → Option Bool
 | [], [] => some false
 | [], _ :: _ => some true
 | _ :: _, [] => some false
 | x :: xs, y :: ys => if bV x y = true then kC lt xs ys else lt x y
noncomputable def sW : Nat → PV → PV → Option Bool
 | _, .str a, .str b => some (decide (a.cps.toList < b.cps.toList))
 | _, .int a, .int b => some (decide (a < b))
 | n + 1, .tup xs, .tup ys => kC (sW n) xs ys
 | _, _, _ => none
section
variable {s : Shared}
theorem FR {A : Around} {lt : PV → PV → Option Bool} : ∀ {xs ys : List PV} {us vs : List Value} {c : Bool} {fin : Bool}, cM s.heap xs us → cM s.heap ys vs → (∀ x ∈ xs, ∀ y ∈ ys, ∀ u v, Lies s.heap x u → Lies s.heap y v → SeqAt.EqAt A s u v (bV x y) ∧ ∀ b, lt x y = some b → CB A s u v b) →
  fin = decide (us.length < vs.length) → kC lt xs ys = some c → xI A s fin (us.zip vs) c
 | [], [], _, _, c, fin, .nil, .nil, _, hf, h => by cases h; rw [hf]; exact .done
 | [], _ :: _, _, _, c, fin, .nil, .cons _ r, _, hf, h => by cases h; rw [hf]; exact .done
 | _ :: _, [], _, _, c, fin, .cons _ r, .nil, _, hf, h => by cases h; rw [hf]; exact .done
 | x :: xs, y :: ys, _, _, c, fin, .cons r1 rr1, .cons r2 rr2, hk, hf, h => by
  obtain ⟨he, hl⟩ := hk x List.mem_cons_self y List.mem_cons_self _ _ r1 r2
  unfold kC at h
  cases e : bV x y with
  | true =>
   rw [e] at he
   rw [if_pos e] at h
   exact .same he (FR rr1 rr2 (fun a ha b hb => hk a (List.mem_cons_of_mem _ ha) b (List.mem_cons_of_mem _ hb)) (by rw [hf]; simp) h)
  | false =>
   rw [e] at he
   rw [if_neg (by rw [e]; exact Bool.false_ne_true)] at h
   exact .less he (hl c h)
theorem P5 : ∀ (n : Nat) (A : Around) {p q : PV} {v u : Value} {b : Bool}, A.units + n < cLine → jE n p = true → jE n q = true → Lies s.heap p v → Lies s.heap q u → sW n p q = some b → CB A s v u b := by
 intro n
 induction n with
 | zero =>
  intro A p q v u b hu o1 o2 h1 h2 h
  cases p with
  | str x =>
   cases q with
   | str y => cases h; cases h1; cases h2; exact fun prog w E Q q => PySem.P.lt_str q
   | _ => cases h
  | int x =>
   cases q with
   | int y => cases h; cases h1; cases h2; exact fun prog w E Q q => PyProof.Rows.lt_int q
   | _ => cases h
  | _ => cases q <;> cases h
 | succ n ih =>
  intro A p q v u b hu o1 o2 h1 h2 h
  cases p with
  | str x =>
   cases q with
   | str y => cases h; cases h1; cases h2; exact fun prog w E Q q => PySem.P.lt_str q
   | _ => cases h
  | int x =>
   cases q with
   | int y => cases h; cases h1; cases h2; exact fun prog w E Q q => PyProof.Rows.lt_int q
   | _ => cases h
  | tup xs =>
   cases q with
   | tup ys =>
    cases h1 with
    | tup t1 l1 =>
     cases h2 with
     | tup t2 l2 =>
      have hin : A.in1.units = A.units + 1 := rfl
      have o1 : xs.all (jE n) = true := o1
      have o2 : ys.all (jE n) = true := o2
      refine R4 t1 t2 (by omega) ?_
      simpa using FR (A := A.in1) (s := s) l1 l2 (fun x hx y hy u v a b => ⟨vB n A.in1 (by omega) (List.all_eq_true.mp o1 x hx) (List.all_eq_true.mp o2 y hy) a b, fun c hc => ih A.in1 (by omega) (List.all_eq_true.mp o1 x hx) (List.all_eq_true.mp o2 y hy) a b hc⟩) rfl h
   | _ => cases h
  | _ => cases q <;> cases h
theorem xC {prog : Program} {w : World} {A : Around} {fin : Bool} {lt : PV → PV → Option Bool} {C : Bool → Shared → Prop} : ∀ {xs ys : List PV} {us vs : List Value} {c : Bool} (i : Nat), 1 ≤ i → cM s.heap xs us → cM s.heap ys vs →
  (∀ x ∈ xs, ∀ y ∈ ys, ∀ u v, Lies s.heap x u → Lies s.heap y v → SeqAt.EqAt A s u v (bV x y) ∧ ∀ b, lt x y = some b → CB A s u v b) → fin = decide (us.length < vs.length) → kC lt xs ys = some c → C c s → KatLex prog w A true fin C (us.zip vs) i s
 | [], [], _, _, c, _, _, .nil, .nil, _, hf, h, hC => by cases h; exact kat_nil (by rw [hf]; exact hC)
 | [], _ :: _, _, _, c, _, _, .nil, .cons _ r, _, hf, h, hC => by cases h; exact kat_nil (by rw [hf]; exact hC)
 | _ :: _, [], _, _, c, _, _, .cons _ r, .nil, _, hf, h, hC => by cases h; exact kat_nil (by rw [hf]; exact hC)
 | x :: xs, y :: ys, _, _, c, i, hi, .cons r1 rr1, .cons r2 rr2, hk, hf, h, hC => by
  obtain ⟨he, hl⟩ := hk x List.mem_cons_self y List.mem_cons_self _ _ r1 r2
  refine kat_cons (he prog w _ _ ?_)
  unfold kC at h
  cases e : bV x y with
  | true =>
   rw [if_pos e] at h
   exact kat_yes (xC (i + 1) (by omega) rr1 rr2 (fun a ha b hb => hk a (List.mem_cons_of_mem _ ha) b (List.mem_cons_of_mem _ hb)) (by rw [hf]; simp) h hC)
  | false =>
   rw [if_neg (by rw [e]; exact Bool.false_ne_true)] at h
   refine kat_no ?_
   have e0 : (true && i == 0) = false := by simp; omega
   rw [e0]
   exact kat_one _ _ (hl c h prog w _ _ hC)
noncomputable def p5 (b : Bool) : PV → Bool
 | .tup (.str _ :: _) => b
 | .tup (.int _ :: _) => !b
 | _ => false
noncomputable def RW (b : Bool) : String := if b then "str" else "int"
theorem X6 {prog : Program} {w : World} {A : Around} {b : Bool} {n : Nat} {ps : List PV} {vs : List Value} (hl : cM s.heap ps vs) (hu : A.units + n < cLine) (led : ∀ p ∈ ps, p5 b p = true) (ok : ∀ p ∈ ps, jE (n + 1) p = true)
  {i j : Nat} {c : Bool} {C : Bool → Shared → Prop} {p q : PV} (hp : ps[i]? = some p) (hq : ps[j]? = some q) (hc : sW (n + 1) p q = some c) (hC : C c s) : kas_ask prog w A (tuples' (Value.type (RW b) != Value.type "tuple")) vs i j C s := by
 have kt : (Value.type (RW b) != Value.type "tuple") = true := by cases b <;> decide
 obtain ⟨u, hu1, lu⟩ : ∃ u, vs[i]? = some u ∧ Lies s.heap p u := by
  have hlt : i < vs.length := by rw [← hl.length]; exact (List.getElem?_eq_some_iff.mp hp).1
  obtain ⟨p', e, l⟩ := hl.get (List.getElem?_eq_getElem hlt)
  rw [hp] at e; cases e
  exact ⟨_, List.getElem?_eq_getElem hlt, l⟩
 obtain ⟨v, hv1, lv⟩ : ∃ v, vs[j]? = some v ∧ Lies s.heap q v := by
  have hlt : j < vs.length := by rw [← hl.length]; exact (List.getElem?_eq_some_iff.mp hq).1
  obtain ⟨p', e, l⟩ := hl.get (List.getElem?_eq_getElem hlt)
  rw [hq] at e; cases e
  exact ⟨_, List.getElem?_eq_getElem hlt, l⟩
 have l1 := led p (List.mem_of_getElem? hp)
 have l2 := led q (List.mem_of_getElem? hq)
 have o1 := ok p (List.mem_of_getElem? hp)
 have o2 := ok q (List.mem_of_getElem? hq)
 show wpAny _ _ (keyLt' _ (vs.getD i Value.none) (vs.getD j Value.none)) C _ s
 rw [List.getD_eq_getElem?_getD, hu1, List.getD_eq_getElem?_getD, hv1, kt]
 cases lu with
 | @tup _ us xs t1 r1 =>
  cases lv with
  | @tup _ vs' ys t2 r2 =>
   obtain ⟨oa, ga, _, na, da⟩ := t1
   obtain ⟨ob, gb, _, nb, db⟩ := t2
   refine kat_lt ga da gb db ?_
   have o1 : xs.all (jE n) = true := o1
   have o2 : ys.all (jE n) = true := o2
   have key : ∀ x ∈ xs, ∀ y ∈ ys, ∀ u v, Lies s.heap x u → Lies s.heap y v → SeqAt.EqAt A s u v (bV x y) ∧ ∀ b, sW n x y = some b → CB A s u v b := fun x hx y hy u v a b =>
    ⟨vB n A hu (List.all_eq_true.mp o1 x hx) (List.all_eq_true.mp o2 y hy) a b, fun c hc => P5 n A hu (List.all_eq_true.mp o1 x hx) (List.all_eq_true.mp o2 y hy) a b hc⟩
   have hc : kC (sW n) xs ys = some c := hc
   cases r1 with
   | nil => cases l1
   | @cons x u0 xs us a1 a2 =>
    cases r2 with
    | nil => cases l2
    | @cons y v0 ys vs' b1 b2 =>
     obtain ⟨he, _⟩ := key x List.mem_cons_self y List.mem_cons_self _ _ a1 b1
     refine kat_cons (he prog w _ _ ?_)
     unfold kC at hc
     cases e : bV x y with
     | true =>
      rw [if_pos e] at hc
      exact kat_yes (xC 1 (Nat.le_refl _) a2 b2 (fun a ha b hb => key a (List.mem_cons_of_mem _ ha) b (List.mem_cons_of_mem _ hb)) (by simp) hc hC)
     | false =>
      rw [if_neg (by rw [e]; exact Bool.false_ne_true)] at hc
      refine kat_no ?_
      cases x with
      | str x =>
       cases y with
       | str y =>
        have hc : some (decide (x.cps.toList < y.cps.toList)) = some c := by cases n <;> exact hc
        cases hc
        cases a1
        cases b1
        exact oneLt_str hC
       | int y => cases b <;> cases l1 <;> cases l2
       | _ => cases l2
      | int x =>
       cases y with
       | int y =>
        have hc : some (decide (x < y)) = some c := by cases n <;> exact hc
        cases hc
        cases a1
        cases b1
        exact oneLt_int hC
       | str y => cases b <;> cases l1 <;> cases l2
       | _ => cases l2
      | _ => cases l1
  | _ => cases l2
 | _ => cases l1
end
end Mr
namespace Mr
open PySem PySem.Spec L2 PyProof.Rows PySem.W
noncomputable def sG : Nat → PV → Bool
 | _, .aZ => true
 | _, .int _ => true
 | _, .str _ => true
 | n + 1, .tup ps => ps.all (sG n)
 | _, _ => false
theorem OP : ∀ {n : Nat} {p : PV}, sG n p = true → jE n p = true := by
 intro n
 induction n with
 | zero => intro p h; cases p <;> first | rfl | cases h
 | succ n ih =>
  intro p h
  cases p with
  | tup ps => exact List.all_eq_true.mpr fun x hx => ih (List.all_eq_true.mp h x hx)
  | lst ps => cases h
  | cC ps => cases h
  | ty x => cases h
  | bl x => cases h
  | _ => rfl
theorem B9 {n : Nat} (ih : ∀ {p q : PV}, sG n p = true → sG n q = true → bV p q = true → p = q) : ∀ {xs ys : List PV}, xs.all (sG n) = true → ys.all (sG n) = true → dX xs ys = true → xs = ys
 | [], [], _, _, _ => rfl
 | [], _ :: _, _, _, h => by simp [dX] at h
 | _ :: _, [], _, _, h => by simp [dX] at h
 | x :: xs, y :: ys, h1, h2, h => by
  simp only [dX, Bool.and_eq_true] at h
  rw [List.all_cons, Bool.and_eq_true] at h1 h2
  rw [ih h1.1 h2.1 h.1, B9 ih h1.2 h2.2 h.2]
theorem zI : ∀ {n : Nat} {p q : PV}, sG n p = true → sG n q = true → bV p q = true → p = q := by
 intro n
 induction n with
 | zero =>
  intro p q h1 h2 h
  cases p <;> cases q <;> first | rfl | (cases h1; done) | (cases h2; done) | (simp [bV] at h; try subst h; try rfl)
 | succ n ih =>
  intro p q h1 h2 h
  cases p with
  | tup xs =>
   cases q with
   | tup ys => rw [mD] at h; rw [B9 ih h1 h2 h]
   | _ => simp [bV] at h
  | lst xs => cases h1
  | cC xs => cases h1
  | ty xs => cases h1
  | bl xs => cases h1
  | aZ => cases q <;> first | rfl | (simp [bV] at h)
  | int i => cases q <;> first | (cases h2; done) | (simp [bV] at h; try subst h; try rfl)
  | str i => cases q <;> first | (cases h2; done) | (simp [bV] at h; try subst h; try rfl)
theorem tT {n : Nat} (ih : ∀ {p : PV}, sG n p = true → bV p p = true) : ∀ {xs : List PV}, xs.all (sG n) = true → dX xs xs = true
 | [], _ => by simp [dX]
 | x :: xs, h => by
  rw [List.all_cons, Bool.and_eq_true] at h
  simp only [dX, Bool.and_eq_true]
  exact ⟨ih h.1, tT ih h.2⟩
theorem yS : ∀ {n : Nat} {p : PV}, sG n p = true → bV p p = true := by
 intro n
 induction n with
 | zero => intro p h; cases p <;> first | (simp [bV]; done) | cases h
 | succ n ih =>
  intro p h
  cases p with
  | tup xs => rw [mD]; exact tT ih h
  | lst xs => cases h
  | cC xs => cases h
  | ty xs => cases h
  | bl xs => cases h
  | _ => simp [bV]
noncomputable def code : Nat → PV → List Int
 | _, .str x => x.cps.toList.map (fun c : Nat => (c : Int) + 1) ++ [0]
 | _, .int i => [i]
 | n + 1, .tup xs => xs.flatMap (fun x => 1 :: code n x) ++ [0]
 | _, _ => [0]
noncomputable abbrev kD : List Int → List Int → Bool := iE p4
theorem wK (a r r' : List Int) : kD (a ++ r) (a ++ r') = kD r r' := by
 induction a with
 | nil => rfl
 | cons x a ih =>
  show e9 p4 x x (kD (a ++ r) (a ++ r')) = _
  exact (fD (A := p4) (a := x)).trans ih
theorem i6 {x y : Int} {r r' : List Int} : kD (x :: r) (y :: r') = if x = y then kD r r' else decide (x < y) := by
 show e9 p4 x y (kD r r') = _
 rcases fG (A := p4) x y with ⟨a, b⟩ | ⟨a, b⟩ | a
 ·rw [eU a]
  have a := of_decide_eq_true a
  rw [if_neg (by omega), decide_eq_true a]
 ·rw [iF a]
  have a := of_decide_eq_true a
  rw [if_neg (by omega), decide_eq_false (by omega)]
 ·subst a
  rw [if_pos rfl]
  exact fD (A := p4) (a := x)
theorem A4 : ∀ (a b : List Nat) (r r' : List Int), kD ((a.map fun c : Nat => (c : Int) + 1) ++ [0] ++ r) ((b.map fun c : Nat => (c : Int) + 1) ++ [0] ++ r') = if a = b then kD r r' else decide (a < b)
 | [], [], r, r' => by
  rw [if_pos rfl]
  exact wK [0] r r'
 | [], y :: b, r, r' => by
  rw [if_neg (by simp)]
  show kD (0 :: r) (((y : Int) + 1) :: _) = _
  rw [i6, if_neg (by omega), decide_eq_true (by omega)]
  exact (decide_eq_true (by simp)).symm
 | x :: a, [], r, r' => by
  rw [if_neg (by simp)]
  show kD (((x : Int) + 1) :: _) (0 :: r') = _
  rw [i6, if_neg (by omega), decide_eq_false (by omega)]
  exact (decide_eq_false (by simp)).symm
 | x :: a, y :: b, r, r' => by
  show kD (((x : Int) + 1) :: ((a.map fun c : Nat => (c : Int) + 1) ++ [0] ++ r)) (((y : Int) + 1) :: ((b.map fun c : Nat => (c : Int) + 1) ++ [0] ++ r')) = _
  rw [i6, A4 a b r r']
  by_cases e : x = y
  ·subst e
   rw [if_pos rfl]
   by_cases e2 : a = b
   ·subst e2; rw [if_pos rfl, if_pos rfl]
   ·rw [if_neg e2, if_neg (by simpa using e2)]
    congr 1
    simp [List.cons_lt_cons_iff]
  ·rw [if_neg (by omega), if_neg (by intro z; exact e (List.cons.inj z).1)]
   by_cases h : x < y
   ·rw [decide_eq_true (show (x : Int) + 1 < y + 1 by omega)]
    exact (decide_eq_true (List.cons_lt_cons_iff.mpr (.inl h))).symm
   ·rw [decide_eq_false (show ¬ (x : Int) + 1 < y + 1 by omega)]
    refine (decide_eq_false fun z => ?_).symm
    rcases List.cons_lt_cons_iff.mp z with z | z
    ·exact h z
    ·exact e z.1
theorem yX {n : Nat} (ih : ∀ {p q : PV} {b : Bool} (r r' : List Int), sG n p = true → sG n q = true → sW n p q = some b → kD (code n p ++ r) (code n q ++ r') = if bV p q = true then kD r r' else b) :
  ∀ {xs ys : List PV} {b : Bool} (r r' : List Int), xs.all (sG n) = true → ys.all (sG n) = true → kC (sW n) xs ys = some b →
   kD (xs.flatMap (fun x => 1 :: code n x) ++ [0] ++ r) (ys.flatMap (fun x => 1 :: code n x) ++ [0] ++ r') = if dX xs ys = true then kD r r' else b
 | [], [], b, r, r', _, _, h => by
  rw [if_pos (by simp [dX])]
  exact wK [0] r r'
 | [], y :: ys, b, r, r', _, _, h => by
  cases h
  rw [if_neg (by simp [dX])]
  show kD (0 :: r) (1 :: _) = _
  rw [i6]; rfl
 | x :: xs, [], b, r, r', _, _, h => by
  cases h
  rw [if_neg (by simp [dX])]
  show kD (1 :: _) (0 :: r') = _
  rw [i6]; rfl
 | x :: xs, y :: ys, b, r, r', h1, h2, h => by
  rw [List.all_cons, Bool.and_eq_true] at h1 h2
  have e1 : ∀ (z : PV) (zs : List PV) (w : List Int), (z :: zs).flatMap (fun x => 1 :: code n x) ++ [0] ++ w = 1 :: (code n z ++ (zs.flatMap (fun x => 1 :: code n x) ++ [0] ++ w)) := fun z zs w => by simp
  rw [e1, e1, i6, if_pos rfl]
  unfold kC at h
  cases e : bV x y with
  | true =>
   rw [if_pos e] at h
   have exy := zI h1.1 h2.1 e
   subst exy
   rw [wK, yX ih r r' h1.2 h2.2 h]
   simp only [dX, e, Bool.true_and]
  | false =>
   rw [if_neg (by rw [e]; exact Bool.false_ne_true)] at h
   rw [ih _ _ h1.1 h2.1 h, if_neg (by rw [e]; exact Bool.false_ne_true), if_neg (by simp [dX, e])]
theorem LJ : ∀ {n : Nat} {p q : PV} {b : Bool} (r r' : List Int), sG n p = true → sG n q = true → sW n p q = some b → kD (code n p ++ r) (code n q ++ r') = if bV p q = true then kD r r' else b := by
 have str : ∀ {n : Nat} {x y : Str} {b : Bool} (r r' : List Int), sW n (.str x) (.str y) = some b → kD (code n (.str x) ++ r) (code n (.str y) ++ r') = if bV (.str x) (.str y) = true then kD r r' else b := fun {n x y b} r r' h => by
  have h : some (decide (x.cps.toList < y.cps.toList)) = some b := by cases n <;> exact h
  cases h
  have e1 : ∀ z : Str, code n (.str z) = z.cps.toList.map (fun c : Nat => (c : Int) + 1) ++ [0] := fun z => by cases n <;> rfl
  rw [e1, e1, A4]
  by_cases e : x = y
  ·subst e; rw [if_pos rfl, if_pos (by simp [bV])]
  ·rw [if_neg (fun z => e (mC z)), if_neg (by simpa [bV] using e)]
 have int : ∀ {n : Nat} {x y : Int} {b : Bool} (r r' : List Int), sW n (.int x) (.int y) = some b → kD (code n (.int x) ++ r) (code n (.int y) ++ r') = if bV (.int x) (.int y) = true then kD r r' else b := fun {n x y b} r r' h => by
  have h : some (decide (x < y)) = some b := by cases n <;> exact h
  cases h
  have e1 : ∀ z : Int, code n (.int z) = [z] := fun z => by cases n <;> rfl
  rw [e1, e1]
  show kD (x :: r) (y :: r') = _
  rw [i6]
  by_cases e : x = y
  ·subst e; rw [if_pos rfl, if_pos (by simp [bV])]
  ·rw [if_neg e, if_neg (by simpa [bV] using e)]
 intro n
 induction n with
 | zero =>
  intro p q b r r' h1 h2 h
  cases p with
  | str x => cases q with
   | str y => exact str r r' h
   | _ => cases h
  | int x => cases q with
   | int y => exact int r r' h
   | _ => cases h
  | _ => cases q <;> cases h
 | succ n ih =>
  intro p q b r r' h1 h2 h
  cases p with
  | str x => cases q with
   | str y => exact str r r' h
   | _ => cases h
  | int x => cases q with
   | int y => exact int r r' h
   | _ => cases h
  | tup xs => cases q with
   | tup ys =>
    rw [mD]
    exact yX ih r r' h1 h2 h
   | _ => cases h
  | _ => cases q <;> cases h
end Mr
namespace Mr
open PySem PySem.Spec L2 PyProof.Rows PySem.W
theorem A9 {n : Nat} (ih : ∀ {p q : PV}, sW n p q = some false → sW n q p = some false → bV p q = true) (sym : ∀ p q : PV, bV p q = bV q p) : ∀ {xs ys : List PV}, kC (sW n) xs ys = some false → kC (sW n) ys xs = some false → dX xs ys = true
 | [], [], _, _ => by simp [dX]
 | [], _ :: _, h, _ => by cases h
 | _ :: _, [], _, h => by cases h
 | x :: xs, y :: ys, h, h' => by
  unfold kC at h h'
  rw [sym y x] at h'
  cases e : bV x y with
  | true =>
   rw [if_pos e] at h h'
   simp only [dX, e, Bool.true_and]
   exact A9 ih sym h h'
  | false =>
   rw [if_neg (by rw [e]; exact Bool.false_ne_true)] at h h'
   rw [ih h h'] at e
   cases e
mutual
theorem BL : ∀ p q : PV, bV p q = bV q p
 | .aZ, q => by cases q <;> simp [bV]
 | .bl a, q => by cases q <;> simp only [bV] <;> (rw [Bool.eq_iff_iff, beq_iff_eq, beq_iff_eq]; exact eq_comm)
 | .int a, q => by cases q <;> simp only [bV] <;> (rw [Bool.eq_iff_iff, beq_iff_eq, beq_iff_eq]; exact eq_comm)
 | .str a, q => by cases q <;> simp only [bV] <;> (rw [Bool.eq_iff_iff, beq_iff_eq, beq_iff_eq]; exact eq_comm)
 | .ty a, q => by cases q <;> simp [bV]
 | .cC a, q => by cases q <;> simp [bV]
 | .tup xs, q => by
  cases q with
  | tup ys => simp only [bV]; exact rT xs ys
  | _ => simp [bV]
 | .lst xs, q => by
  cases q with
  | lst ys => simp only [bV]; exact rT xs ys
  | _ => simp [bV]
theorem rT : ∀ xs ys : List PV, dX xs ys = dX ys xs
 | [], ys => by cases ys <;> simp [dX]
 | x :: xs, [] => by simp [dX]
 | x :: xs, y :: ys => by simp only [dX]; rw [BL x y, rT xs ys]
end
theorem Y2 : ∀ {n : Nat} {p q : PV}, sW n p q = some false → sW n q p = some false → bV p q = true := by
 have str : ∀ {x y : Str}, ¬ x.cps.toList < y.cps.toList → ¬ y.cps.toList < x.cps.toList → bV (.str x) (.str y) = true := fun h h' => by
  have e := List.le_antisymm (List.not_lt.mp h') (List.not_lt.mp h)
  rw [mC e]
  simp [bV]
 have int : ∀ {x y : Int}, ¬ x < y → ¬ y < x → bV (.int x) (.int y) = true := fun h h' => by
  have e : _ = _ := Int.le_antisymm (Int.not_lt.mp h') (Int.not_lt.mp h)
  rw [e]
  simp [bV]
 intro n
 induction n with
 | zero =>
  intro p q h h'
  cases p with
  | str x => cases q with
   | str y => exact str (of_decide_eq_false (Option.some.inj h)) (of_decide_eq_false (Option.some.inj h'))
   | _ => cases h
  | int x => cases q with
   | int y => exact int (of_decide_eq_false (Option.some.inj h)) (of_decide_eq_false (Option.some.inj h'))
   | _ => cases h
  | _ => cases q <;> cases h
 | succ n ih =>
  intro p q h h'
  cases p with
  | str x => cases q with
   | str y => exact str (of_decide_eq_false (Option.some.inj h)) (of_decide_eq_false (Option.some.inj h'))
   | _ => cases h
  | int x => cases q with
   | int y => exact int (of_decide_eq_false (Option.some.inj h)) (of_decide_eq_false (Option.some.inj h'))
   | _ => cases h
  | tup xs => cases q with
   | tup ys => rw [mD]; exact A9 ih BL h h'
   | _ => cases h
  | _ => cases q <;> cases h
noncomputable def lL (n : Nat) (ps : List PV) : Bool := ps.all fun p => sG n p && ps.all fun q => (sW n p q).isSome
noncomputable abbrev AL : KeyOrd := M9 p4
noncomputable def wY (n : Nat) (a b : PV) : Bool := !kD (code n b) (code n a)
noncomputable def qU (n : Nat) (ps : List PV) : List PV := ps.mergeSort (wY n)
theorem CJ {n : Nat} (a b c : PV) (h1 : wY n a b = true) (h2 : wY n b c = true) : wY n a c = true := by
 unfold wY at *
 rw [Bool.not_eq_true'] at *
 exact KeyOrd.kle_trans (O := AL) h1 h2
theorem DF {n : Nat} (a b : PV) : (wY n a b || wY n b a) = true := by
 unfold wY
 rcases fG (A := AL) (code n a) (code n b) with ⟨x, y⟩ | ⟨x, y⟩ | x
 ·rw [show kD (code n b) (code n a) = false from y]; rfl
 ·rw [show kD (code n a) (code n b) = false from y]; simp
 ·rw [x, show kD (code n b) (code n b) = false from AL.irrefl _]; rfl
theorem kQ (n : Nat) (ps : List PV) : (qU n ps).Perm ps := List.mergeSort_perm ps (wY n)
theorem wO (n : Nat) (ps : List PV) : (qU n ps).Pairwise fun a b => wY n a b = true := List.pairwise_mergeSort CJ DF ps
theorem pR {n : Nat} : ∀ {a b : List PV}, a.Pairwise (fun x y => wY n x y = true) → b.Pairwise (fun x y => wY n x y = true) → a.Perm b → (∀ x ∈ a, ∀ y ∈ a, wY n x y = true → wY n y x = true → x = y) → a = b
 | [], b, _, _, p, _ => List.Perm.nil_eq p
 | x :: a, [], _, _, p, _ => absurd p.symm.nil_eq (by simp)
 | x :: a, y :: b, ha, hb, p, an => by
  have hx := (List.pairwise_cons.mp ha).1
  have hy := (List.pairwise_cons.mp hb).1
  have e : x = y := by
   rcases List.mem_cons.mp (p.mem_iff.mp List.mem_cons_self) with z | z
   ·exact z
   ·rcases List.mem_cons.mp (p.mem_iff.mpr List.mem_cons_self) with w | w
    ·exact w.symm
    ·exact an x List.mem_cons_self y (List.mem_cons_of_mem _ w) (hx y w) (hy x z)
  subst e
  rw [pR (List.pairwise_cons.mp ha).2 (List.pairwise_cons.mp hb).2 p.cons_inv fun u hu v hv => an u (List.mem_cons_of_mem _ hu) v (List.mem_cons_of_mem _ hv)]
theorem wR {n : Nat} {ps : List PV} (h : lL n ps = true) {p q : PV} (hp : p ∈ ps) (hq : q ∈ ps) : sW n p q = some (kD (code n p) (code n q)) := by
 have a := List.all_eq_true.mp h p hp
 have b := List.all_eq_true.mp h q hq
 rw [Bool.and_eq_true] at a b
 have c := List.all_eq_true.mp a.2 q hq
 obtain ⟨v, e⟩ := Option.isSome_iff_exists.mp c
 have c' := List.all_eq_true.mp b.2 p hp
 obtain ⟨v', e'⟩ := Option.isSome_iff_exists.mp c'
 have k := LJ [] [] a.1 b.1 e
 rw [List.append_nil, List.append_nil] at k
 rw [e, k]
 cases z : bV p q with
 | false => rw [if_neg Bool.false_ne_true]
 | true =>
  rw [if_pos rfl]
  have epq := zI a.1 b.1 z
  subst epq
  rw [e] at e'
  cases e'
  show some v = some false
  have irr : ∀ {m : Nat} {p : PV} {v : Bool}, sG m p = true → sW m p p = some v → v = false := by
   intro m p v hp h
   cases v with
   | false => rfl
   | true =>
    exfalso
    cases m with
    | zero =>
     cases p with
     | str x => exact absurd (of_decide_eq_true (Option.some.inj h)) (List.lt_irrefl _)
     | int x => exact absurd (of_decide_eq_true (Option.some.inj h)) (by omega)
     | _ => cases h
    | succ m =>
     cases p with
     | str x => exact absurd (of_decide_eq_true (Option.some.inj h)) (List.lt_irrefl _)
     | int x => exact absurd (of_decide_eq_true (Option.some.inj h)) (by omega)
     | tup xs =>
      have key : ∀ {l : List PV}, l.all (sG m) = true → kC (sW m) l l = some false := by
       intro l
       induction l with
       | nil => intro _; rfl
       | cons x l ih =>
        intro hl
        rw [List.all_cons, Bool.and_eq_true] at hl
        unfold kC
        rw [if_pos (yS hl.1)]
        exact ih hl.2
      have := key (show xs.all (sG m) = true from hp)
      rw [show kC (sW m) xs xs = some true from h] at this
      cases this
     | _ => cases h
  rw [irr a.1 e]
theorem ED {n : Nat} {ps : List PV} (h : lL n ps = true) {p q : PV} (hp : p ∈ ps) (hq : q ∈ ps) (h1 : wY n p q = true) (h2 : wY n q p = true) : p = q := by
 have a := List.all_eq_true.mp h p hp
 have b := List.all_eq_true.mp h q hq
 rw [Bool.and_eq_true] at a b
 unfold wY at h1 h2
 rw [Bool.not_eq_true'] at h1 h2
 refine zI a.1 b.1 (Y2 (n := n) ?_ ?_)
 ·rw [wR h hp hq, h2]
 ·rw [wR h hq hp, h1]
section
variable {X : Cx} {k : Nat}
theorem tU {s : Shared} {b : Bool} : ∀ {ps : List PV} {vs : List Value}, cM s.heap ps vs → (∀ x ∈ ps, p5 b x = true) → ∃ fs, KatTups s.heap vs fs ∧ fs.length = vs.length ∧ ∀ v ∈ fs, (∃ x t, b = true ∧ v = .str x t) ∨ ∃ x t, b = false ∧ v = .int x t
 | [], _, .nil, _ => ⟨[], .nil, rfl, fun _ h => nomatch h⟩
 | p :: ps, _, .cons l r, h => by
  obtain ⟨fs, h1, h2, h3⟩ := tU r fun z hz => h z (List.mem_cons_of_mem _ hz)
  have hp := h p List.mem_cons_self
  cases l with
  | tup t1 r1 =>
   obtain ⟨o, g1, g2, m, g3⟩ := t1
   cases r1 with
   | nil => cases hp
   | cons a1 a2 =>
    cases a1 with
    | str x t =>
     refine ⟨.str x t :: fs, .cons g1 g2 g3 (by simp) h1, by rw [List.length_cons, List.length_cons, h2], fun v hv => ?_⟩
     rcases List.mem_cons.mp hv with e | e
     ·exact .inl ⟨x, t, hp, e⟩
     ·exact h3 v e
    | int x t =>
     refine ⟨.int x t :: fs, .cons g1 g2 g3 (by simp) h1, by rw [List.length_cons, List.length_cons, h2], fun v hv => ?_⟩
     rcases List.mem_cons.mp hv with e | e
     ·exact .inr ⟨x, t, by simpa [p5] using hp, e⟩
     ·exact h3 v e
    | _ => cases hp
  | _ => cases hp
end
section
variable {K : PySem.W.Frag}
end
end Mr
namespace Mr
open PySem PySem.Spec L2 PyProof.Rows
section
variable {K : PySem.W.Frag}
end
end Mr
namespace Mr
open PySem PySem.Spec L2 PyProof.Rows
section
variable {K : PySem.W.Frag}
noncomputable def mulC (i j : Int) : Bool := decide (Builtin.Int.intTooBig (Builtin.Int.intBits i + Builtin.Int.intBits j) = false)
theorem vO {X : Cx} : gZ X (binaryOp .Mult) (rI IntMulOk fun i j => .int (i * j)) := VI fun _ _ _ _ _ _ _ hc q => mul_int q hc
noncomputable def pN : PV → PV → Option Bv := gI mulC fun i j => .int (i * j)
theorem vM : eE K (rI IntMulOk fun i j => .int (i * j)) pN := E9 (fun i j h => by
 have h := of_decide_eq_true h
 unfold IntMulOk
 rw [h, Bool.and_false]
 exact Bool.false_ne_true) fun _ _ _ _ => .int _
end
end Mr
namespace Mr
open PySem PySem.Spec L2 PyProof.Rows
section
variable {K : PySem.W.Frag}
noncomputable def inR (k : Int) : Bool := @decide (-1000000000 ≤ k ∧ k < 1000000000) (Classical.propDecidable _)
theorem kO {k : Int} (h0 : -1000000000 ≤ k) (h1 : k < 1000000000) : inR k = true := @decide_eq_true _ (Classical.propDecidable _) ⟨h0, h1⟩
noncomputable def o9 (fa : FA) : FI := fun _ e => bE (fa e) fun bs e1 => match bs with
 | [.val (.int j)] => aU (inR j) (some ((List.range j.toNat).map (fun k : Nat => .int (0 + (k : Int))), e1))
 | _ => none
theorem iX {ta : TA} {fa : FA} (h : vR K ta fa) : xV K (M3 ta) (o9 fa) := by
 intro st O M W L σ H e e' ps R o he hf q
 obtain ⟨x, e1, f1, hf⟩ := aS hf
 refine h O M W L σ H e e1 x _ o he f1 fun vs H1 k1 en rv => ?_
 split at hf
 ·rename_i j
  obtain ⟨c, hf⟩ := aT hf
  have c := @of_decide_eq_true _ (Classical.propDecidable _) c
  cases hf
  cases rv with
  | cons h r =>
   cases r
   cases h
   exact ⟨j, rfl, by omega, by omega, q _ H1 k1 en fun Wr hw _ => QW⟩
 ·cases hf
noncomputable def W9 (fa : FA) : FI := fun _ e => bE (fa e) fun bs e1 => match bs with
 | [.val (.int i), .val (.int j)] => aU (inR i && inR j) (some ((List.range (j - i).toNat).map (fun k : Nat => .int (i + (k : Int))), e1))
 | _ => none
theorem RF {fa : FA} {st : Nat → Bool} {e : En} : o9 fa st e = bE (fa e) fun bs e1 => match bs with
 | [.val (.int j)] => aU (inR j) (some ((List.range j.toNat).map (fun k : Nat => .int (0 + (k : Int))), e1))
 | _ => none := rfl
theorem RM {fa : FA} {st : Nat → Bool} {e : En} : W9 fa st e = bE (fa e) fun bs e1 => match bs with
 | [.val (.int i), .val (.int j)] => aU (inR i && inR j) (some ((List.range (j - i).toNat).map (fun k : Nat => .int (i + (k : Int))), e1))
 | _ => none := rfl
end
end Mr
namespace Mr
open PySem L2
section
variable {K : PySem.W.Frag}
noncomputable def NZ (f : FN) (fa : FE) (i : Nat) : FE := fun e => bE (fa e) fun x e1 => match x with
 | .new p => bO (rd e1 i) fun q => match q with
  | .int k => bO (f [p, .int k]) fun rq => some (.val rq.1, e1)
  | _ => none
 | _ => none
theorem G0 {f : FN} {fa : FE} {i : Nat} {e : En} : NZ f fa i e = bE (fa e) fun x e1 => match x with
 | .new p => bO (rd e1 i) fun q => match q with
  | .int k => bO (f [p, .int k]) fun rq => some (.val rq.1, e1)
  | _ => none
 | _ => none := rfl
end
end Mr
namespace Mr
open PySem L2
theorem ME {α β : Type} {k : α → Option β} : bO (none : Option α) k = none := rfl
theorem LH {α β : Type} {k : α → En → Option β} : bE (none : Option (α × En)) k = none := rfl
end Mr
namespace L2
open PySem PySem.Spec PyProof.Rows PySem.W
section
variable {prog : Program} {w : World} {A : Around} {E : Value → Shared → Prop} {s : Shared}
theorem mK.trans {s s1 s2 : Shared} (a : mK s s1) (b : mK s1 s2) : mK s s2 := by
 obtain ⟨h1, t1, d1, rfl, z1, k1⟩ := a
 obtain ⟨h2, t2, d2, rfl, z2, k2⟩ := b
 exact ⟨h2, t2, d2, rfl, Nat.le_trans z1 z2, fun x o e => k2 x o (k1 x o e)⟩
theorem pY {v : Value} {Ok : List Value → Shared → Prop} {R : List Value → Array Nat → Prop} {Q : Value → Shared → Prop}
  (hcol : ∀ (E' : Value → Shared → Prop) (Q' : List Value → Shared → Prop), (∀ vs s1, mK s s1 → Ok vs s1 → Q' vs s1) → wpAny (model prog w) A.in1 (collect v) Q' E' s) (h64 : ∀ vs s1, Ok vs s1 → vs.length < 64)
  (hk : ∀ vs s1, mK s s1 → Ok vs s1 → 2 ≤ vs.length → ∀ h' : Heap, (∀ b o, s1.heap.get? b = some o → h'.get? b = some o) → D2 prog w A.in1.in1 vs (R vs) { s1 with heap := h' }) (hR : ∀ vs s1, Ok vs s1 → vs.length < 2 → R vs (List.range vs.length).toArray)
  (hq : ∀ (a : Addr) s1 s2 (out : Array Value) c vs (p : Array Nat), mK s s1 → Ok vs s1 → mK s1 s2 → s1.heap.objs.size ≤ a → s2.heap.get? a = some (seqObj "list" out c) → nE vs.length p → R vs p → out.toList = p.toList.map (fun i => vs.getD i Value.none) → Q (.ref a) s2) :
  wpAny (model prog w) A (call (.builtin "sorted") [v]) Q E s := by
 refine Calls.call_function_entry kind_sorted plain_sorted entry_sorted (args_sorted1 _) ?_
 unfold Builtin.«sorted»
 refine wpAny_bind (m := checkCount "sorted" 1 1 _) (wpAny_pure (wpAny_bind (hcol _ _ fun vs s1 g ok => ?_)))
 have hl := h64 vs s1 ok
 refine wpAny_bind (wpAny_newList ?_ (by simp only [sizeLine_eq]; omega))
 have e1 : (s1.heap.push (seqObj "list" vs.toArray 0)).get? s1.heap.objs.size = some (seqObj "list" vs.toArray 0) := Heap.get?_push_size _ rfl
 refine wpAny_bind (wpAny_holding (wpAny_call_entry slot_list_sort ⟨_, e1, rfl⟩ entry_list_sort ?bd (args_list_sort _)))
 case bd =>
  refine DO e1 hl (fun l2 h' kp => hk vs s1 g ok l2 h' fun b o gb => kp b o (Nat.ne_of_lt (Heap.lt_size gb)) (Heap.get?_push_of_some _ gb)) (hR vs s1 ok) fun out p p1 p2 p3 => ⟨_, rfl, wpAny_pure ⟨_, rfl, ?_⟩⟩
  obtain ⟨c, hc⟩ := sortedHeap_at (out := out) e1
  refine hq s1.heap.objs.size s1 _ out c vs p g ok ?_ (Nat.le_refl _) hc p1 p2 p3
  refine ⟨_, s1.toks, s1.drawn, rfl, Nat.le_of_lt (Heap.lt_size hc), fun b o e => ?_⟩
  have hb := Heap.lt_size e
  rw [sortedHeap_old (Nat.ne_of_lt hb) (by rw [size_push']; exact Nat.lt_succ_of_lt hb)]
  exact Heap.get?_push_of_some _ e
theorem tL {K : Type} [DecidableEq K] {knd : KeyKind prog w K} {r d : Addr} {kvs : List (K × Value)} {ep : Nat} {Q : List Value → Shared → Prop} (hh : A.handled = none) (hv : s.heap.IsItemsView r d) (hm : s.heap.DictAt knd d kvs ep) (hn : kvs.length ≤ sizeLine)
  (hq : ∀ s1 (as : List Addr), mK s s1 → as.length = kvs.length → KdxG knd kvs s.heap.objs.size s1.heap as → Q (as.map Value.ref) s1) : wpAny (model prog w) A (collect (.ref r)) Q E s := by
 have hr : r < s.heap.objs.size := let ⟨_, ho, _⟩ := hv; Heap.lt_size ho
 have hd : d < s.heap.objs.size := hm.lt_size
 have fin : ∀ (h' : Heap) (tk : Nat) (acc : Array Value) (c : Nat) (as : List Addr), (∀ b o, s.heap.get? b = some o → h'.get? b = some o) →
   h'.get? s.heap.objs.size = some { cls := .type "list", dict := none, data := .seq acc c, slots := #[] } → as.length = kvs.length → KdxG knd kvs s.heap.objs.size h' as → acc.toList = as.map Value.ref →
   wpAny (model prog w) A (match Value.ref s.heap.objs.size with
    | Value.ref a => do
     match (← load a).data with
      | Data.seq xs _ => pure xs.toList
      | _ => unsupported "internal:collect"
    | _ => unsupported "internal:collect") Q E { s with heap := h', toks := tk } := fun h' tk acc c as kp hS hl hG ea => by
  show wpAny _ A (load s.heap.objs.size >>= _) _ _ _
  refine wpAny_bind (wpAny_load hS (wpAny_pure ?_))
  show Q acc.toList _
  rw [ea]
  exact hq _ as ⟨h', tk, s.drawn, rfl, Nat.le_of_lt (Heap.lt_size hS), kp⟩ hl hG
 unfold collect
 refine wpAny_bind (wpAny_runValue (codeAny_builtin F.entry_proto_collect ?_))
 rw [Around.under_plainId F.plain_proto_collect _]
 refine wpAny_bind (m := newList []) (wpAny_newObj_type ?_)
 refine wpAny_pure ⟨plainId_quiet F.plain_list_iadd _, codeAny_builtin F.entry_list_iadd ?_⟩
 rw [Around.under_plainId F.plain_list_iadd _]
 have e0 : (s.heap.push { cls := .type "list", data := .seq ([] : List Value).toArray }).get? s.heap.objs.size = some { cls := .type "list", data := .seq #[] 0 } := Heap.get?_push_size _ rfl
 have key := kdx_extend (A := A) (knd := knd) (kvs := kvs) (ep := ep) (s := { s with heap := s.heap.push { cls := .type "list", data := .seq ([] : List Value).toArray } }) (R := fun rs s' => ∃ h' tk acc c as, rs = .ok (.ret (.ref s.heap.objs.size)) ∧ s' = { s with heap := h', toks := tk } ∧ (∀ b o, s.heap.get? b = some o → h'.get? b = some o) ∧ h'.get? s.heap.objs.size = some { cls := .type "list", dict := none, data := .seq acc c, slots := #[] } ∧ as.length = kvs.length ∧ KdxG knd kvs s.heap.objs.size h' as ∧ acc.toList = as.map Value.ref)
  hh (let ⟨o, ho, x⟩ := hv; ⟨o, Heap.get?_push_of_some _ ho, x⟩) (hm.push _) s.heap.objs.size (Nat.ne_of_gt hr) (Nat.ne_of_lt hd) (.ref s.heap.objs.size) 0 e0
  (fun h' tk acc c as kp hS hl hG ea => ⟨h', tk, acc, c, as, rfl, rfl, fun b o e => kp b o (Nat.ne_of_lt (Heap.lt_size e)) (Heap.get?_push_of_some _ e), hS, hl, hG.low (by rw [Heap.size_push]; exact Nat.le_succ _), ea⟩) hn
 refine wpAny_mono key (fun f s' h => ?_) fun e s' h => ?_
 ·cases f with
  | done f =>
   obtain ⟨h', tk, acc, c, as, e1, rfl, kp, hS, hl, hG, ea⟩ := h
   cases e1
   exact fin h' tk acc c as kp hS hl hG ea
  | again c' =>
   refine ⟨h.1, codeAny_mono h.2 fun rs s2 hr => ?_⟩
   obtain ⟨h', tk, acc, c, as, rfl, rfl, kp, hS, hl, hG, ea⟩ := hr
   exact fin h' tk acc c as kp hS hl hG ea
 ·obtain ⟨h', tk, acc, c, as, e1, _⟩ := h
  cases e1
theorem Inv.SW {X : Cx} {pins : List (Addr × Obj)} {σ : L2.St} {H H' : Hp} {s s' : Shared} (I : Inv X pins σ H s) (g : mK s s') (he : ∀ b, b < s.heap.objs.size → H' b = H b) (new : ∀ a o, s.heap.objs.size ≤ a → H' a = some o → fS X.prog X.w H' s'.heap a o) : Inv X pins σ H' s' := by
 obtain ⟨h', tk, dr, rfl, _, k⟩ := g
 have old : ∀ a o, H a = some o → H' a = some o := fun a o e => by rw [he a (I.dJ.lt e)]; exact e
 refine I.call (g' := s.gens) (d' := dr) (t' := tk) (ch := []) ⟨fun b u q _ _ _ => k b u q, fun b u q _ _ _ => ⟨u.slots, k b u q⟩, fun b u q n _ => by rw [he b (Heap.lt_size q)]; exact n, fun b u q _ => ⟨u, k b u q⟩, fun b xs q => old b _ q, fun b u xs q => old b _ q, fun b ps q => ⟨#[], by rw [old b _ q]; simp⟩⟩ (fun a o e => ?_) I.bare fun _ z => nomatch z
 by_cases ha : a < s.heap.objs.size
 ·rw [he a ha] at e
  exact (I.dJ a o e).aR (fun c v _ q => k c v q) (fun c q => old c _ q) fun c xs q => old c _ q
 ·exact new a o (Nat.le_of_not_lt ha) e
end
section
variable {X : Cx}
noncomputable def NK (v d : Addr) : HO := .ext fun h => h.IsItemsView v d
noncomputable def GA (to : TE) : TE := fun σ H Q => to σ H fun x H1 => ∃ a kvs, x = .ref a ∧ zS H1 a kvs ∧ ∀ v, H1 v = none → Q (.ref v) (upd H1 v (NK v a))
theorem y6 {o : Expr} {to : TE} {apos cpos : Pos} (ho : PE X o to) (hbase : attributeBase o "items" X.env (eval o X.env) = eval o X.env := by rfl) (hline : (apos.endLine == cpos.line) = true := by rfl) :
  PE X (.Call (.Attribute o "items" apos) [] [] cpos) (GA to) := by
 intro pins s σ H Q I h
 refine wpAny_Call_method0_late hbase hline (d6 (ho pins s σ H _ I h) fun v s1 ⟨x, H1, I1, r1, a, kvs, ex, ha, q1⟩ => ?_)
 subst ex
 obtain rfl : v = Value.ref a := r1
 obtain ⟨hz, hd, vs, rel, dd⟩ := kZ I1.dJ ha
 refine ⟨"dict", "dict.items", PySem.F.plainAttrs_dict, PySem.F.slot_dict_items, PySem.F.type_dict_items, dd.typeIs, dd.mapOf.noDict, Calls.callWith_builtin rfl (PySem.evalArgs_none ?_)⟩
 refine call_meetsIn PySem.F.slot_dict_items dd.typeIs PySem.F.entry_dict_items (PySem.F.args_dict_items_1 _) (meets_dict_items (cN X.prog X.w) a hd) ⟨⟨vs, dd⟩, ?_⟩
 have e0 : (s1.heap.push { cls := .type "dict_items", data := .fields #[.ref a] }).get? s1.heap.objs.size = some { cls := .type "dict_items", data := .fields #[.ref a] } := Heap.get?_push_size _ rfl
 exact ⟨.ref s1.heap.objs.size, _, I1.laid (t' := s1.toks) (o := NK s1.heap.objs.size a) (fun b u e => Heap.get?_push_of_some _ e) (Nat.le_refl _) ⟨⟨_, e0, rfl, rfl⟩, ⟨_, e0⟩, fun h1 h2 ⟨u, e, c⟩ k => ⟨u, k u e, c⟩⟩, rfl, q1 _ (I1.dJ.fresh (Nat.le_refl _))⟩
end
end L2
namespace Mr
open PySem PySem.Spec L2 PyProof.Rows PySem.W
noncomputable def tJ : Key → PV
 | .inl i => .int i
 | .inr x => .str x
theorem uO {h : Heap} {k : Key} {v : Value} (e : jH k v = true) : Lies h (tJ k) v ∧ RelV (kV k) v := by
 rcases cK e with ⟨i, t, rfl, rfl⟩ | ⟨x, t, rfl, rfl⟩
 ·exact ⟨.int i t, t, rfl⟩
 ·exact ⟨.str x t, t, rfl⟩
noncomputable def bN (kvs : List (Key × PV)) : List PV := kvs.map fun z => .tup [tJ z.1, z.2]
section
variable {X : Cx} {k : Nat}
noncomputable def FK (K : PySem.W.Frag) : List V → Hp → VK → Prop := fun xs H Q => ∃ v a ys kvs b, xs = [.ref v] ∧ H v = some (NK v a) ∧ zS H a ys ∧ fB K eB H kvs ys ∧ kvs.length < 64 ∧ (∀ x ∈ bN kvs, p5 b x = true) ∧ lL 3 (bN kvs) = true ∧
 ∀ l H' (as : List Addr) (ix : List Nat), bG H H' → (∀ (j : Nat) t q, as[j]? = some t → ys[j]? = some q → H' t = some (.tup [kV q.1, q.2])) → as.length = ys.length → ix.Perm (List.range kvs.length) → (ix.map fun i => (bN kvs).getD i .aZ).Pairwise (fun a b => wY 3 a b = true) → H l = none → H' l = some (.lst (ix.map fun i => .ref (as.getD i 0))) → Q (.ref l) H'
theorem yU {h : Heap} : ∀ {ps : List PV} {vs : List Value}, ps.length = vs.length → (∀ (j : Nat) p v, ps[j]? = some p → vs[j]? = some v → Lies h p v) → cM h ps vs
 | [], [], _, _ => .nil
 | [], _ :: _, h, _ => by cases h
 | _ :: _, [], h, _ => by cases h
 | p :: ps, v :: vs, h, k => .cons (k 0 p v rfl rfl) (yU (by simpa using h) fun j p v a b => k (j + 1) p v (by simpa using a) (by simpa using b))
theorem sortI (K : PySem.W.Frag) (hr : fA k X.A) (hK : X.K = K := by rfl) (hc : X.calm = true := by rfl) : eR X (.builtin "sorted") (FK K) := by
 subst hK
 intro pins s σ H xs us Q I r ⟨v, a, ys, kvs, b, e, hv, ha, rd, h64, led, cmp, q⟩
 subst e
 obtain ⟨u, rfl, rx⟩ := vals1 r
 cases rx
 obtain ⟨hz, hd, vs, rel, dd⟩ := kZ I.dJ ha
 obtain ⟨ep, dd⟩ := dd.dictAt
 have hlen : kvs.length = ys.length := by have := congrArg List.length rd.1; simpa using this.symm
 have hlen2 := rel.len
 have ok : ∀ x ∈ bN kvs, jE 3 x = true := fun x hx => by
  have := List.all_eq_true.mp cmp x hx
  rw [Bool.and_eq_true] at this
  exact OP this.1
 refine pY (s := s) (Ok := fun ws s1 => ∃ as : List Addr, ws = as.map Value.ref ∧ as.length = vs.length ∧ KdxG (cN X.prog X.w) vs s.heap.objs.size s1.heap as) (R := fun ws p => mI AL (fun i => code 3 ((bN kvs).getD i .aZ)) p ws.length) (fun E' Q' kk => ?_) ?_ ?_ ?_ ?_
 ·exact tL (by exact I.ok.hd hc) (I.dJ v _ hv).1 dd (by rw [← hlen2]; exact hz) fun s1 as gr hl g => kk _ s1 gr ⟨as, rfl, hl, g⟩
 ·rintro ws s1 ⟨as, rfl, hl, g⟩
  rw [List.length_map]; omega
 ·rintro ws s1 gr ⟨as, rfl, hl, g⟩ l2 h' kp
  have I' : Inv X pins σ H { s1 with heap := h' } := (I.X7 gr).kept (t' := s1.toks) kp
  have okv : (kvs.map (·.2)).all (jE 2) = true := List.all_eq_true.mpr fun p hp => by
   obtain ⟨z, hz, rfl⟩ := List.mem_map.mp hp
   have := ok (.tup [tJ z.1, z.2]) (List.mem_map.mpr ⟨z, hz, rfl⟩)
   have this : ([tJ z.1, z.2].all (jE 2)) = true := this
   rw [List.all_cons, List.all_cons, Bool.and_eq_true, Bool.and_eq_true] at this
   exact this.2.1
  have lv : cM h' (kvs.map (·.2)) (vs.map (·.2)) := bP.lies I' (n := 2) okv rd.2 rel.vals
  have hL : cM h' (bN kvs) (as.map Value.ref) := by
   refine yU (by unfold bN; rw [List.length_map, List.length_map]; omega) fun j p v hp hv => ?_
   rw [List.getElem?_map] at hv
   obtain ⟨t, ht, rfl⟩ := Option.map_eq_some_iff.mp hv
   unfold bN at hp
   rw [List.getElem?_map] at hp
   obtain ⟨z, hz', rfl⟩ := Option.map_eq_some_iff.mp hp
   obtain ⟨key, kk, x, e1, e2, e3⟩ := g.pairs j t ht
   have ek : kk = z.1 := by
    have a1 : (vs.map (·.1))[j]? = some kk := by rw [List.getElem?_map, e1]; rfl
    have a2 : (kvs.map (·.1))[j]? = some z.1 := by rw [List.getElem?_map, hz']; rfl
    rw [← rel.keys, rd.1, a2] at a1
    exact (Option.some.inj a1).symm
   subst ek
   obtain ⟨p', h1, h2⟩ := lv.get (show (vs.map (·.2))[j]? = some x by rw [List.getElem?_map, e1]; rfl)
   rw [List.getElem?_map, hz'] at h1
   cases h1
   exact .tup ⟨_, kp _ _ e3, rfl, 0, rfl⟩ (.cons (uO (show jH z.1 key = true from e2)).1 (.cons h2 .nil))
  obtain ⟨fs, k1, k2, k3⟩ := tU (s := { s1 with heap := h' }) hL led
  have hpl : (bN kvs).length = (as.map Value.ref).length := hL.length
  have h64' : (as.map Value.ref).length < 64 := by rw [List.length_map]; omega
  refine ⟨tuples' (Value.type (RW b) != Value.type "tuple"), fun Q E q => kat_kind k1 (by omega) (fun v hv => ?_) (by cases b <;> decide) q, fun G hG => oR.run (n := (as.map Value.ref).length) (ans := B3 AL (fun i => code 3 ((bN kvs).getD i .aZ))) (fun i j C hi hj hC => ?_) (fun p h1 h2 => hG p h1 h2) (KH (by omega)) (O5 (by omega))⟩
  ·rcases k3 v hv with ⟨x, t, rfl, rfl⟩ | ⟨x, t, rfl, rfl⟩
   ·exact Looks.of_pure rfl
   ·exact Looks.of_pure rfl
  ·have e1 : (bN kvs)[i]? = some (bN kvs)[i] := List.getElem?_eq_getElem (by omega)
   have e2 : (bN kvs)[j]? = some (bN kvs)[j] := List.getElem?_eq_getElem (by omega)
   refine X6 (s := { s1 with heap := h' }) (n := 2) hL (by have := hr.un; show X.A.units + 1 + 1 + 2 < _; omega) led ok e1 e2 (wR cmp (List.getElem_mem _) (List.getElem_mem _)) ?_
   have hC : C (AL.blt (code 3 ((bN kvs).getD i .aZ)) (code 3 ((bN kvs).getD j .aZ))) _ := hC
   rw [List.getD_eq_getElem?_getD, e1, List.getD_eq_getElem?_getD, e2] at hC
   exact hC
 ·rintro ws s1 ⟨as, rfl, hl, g⟩ h2 i j a b
  rw [show i = j by omega]; exact KeyOrd.kle_refl _
 ·rintro l s1 s2 out c ws p gr ⟨as, rfl, hl, g⟩ g2 hla hat h1 h2 h3
  have hp : p.toList.Perm (List.range as.length) := by
   have := Array.perm_iff_toList_perm.mp h1
   rw [List.length_map] at this
   simpa using this
  have hlt : ∀ i ∈ p.toList, i < as.length := fun i hi => List.mem_range.mp (hp.mem_iff.mp hi)
  have above : ∀ t ∈ as, s.heap.objs.size ≤ t := fun t ht => Nat.le_of_lt (g.above t ht)
  have nl : l ∉ as := fun z => absurd (g.there z) (Nat.not_lt.mpr hla)
  have hls : s.heap.objs.size ≤ l := Nat.le_trans gr.size hla
  let H' : Hp := fun x => if x = l then some (.lst (p.toList.map fun i => V.ref (as.getD i 0))) else match as.findIdx? (fun t => t == x) with
   | some j => (ys[j]?).map fun q => HO.tup [kV q.1, q.2]
   | none => H x
  have hl' : H' l = some (.lst (p.toList.map fun i => V.ref (as.getD i 0))) := if_pos rfl
  have hno : ∀ x, x ≠ l → x ∉ as → H' x = H x := fun x h1 h2 => by
   show (if x = l then _ else _) = _
   rw [if_neg h1]
   have : as.findIdx? (fun t => t == x) = none := List.findIdx?_eq_none_iff.mpr fun t ht => by
    cases c : t == x with
    | false => rfl
    | true => exact absurd (by rw [← eq_of_beq c]; exact ht) h2
   rw [this]
  have hat' : ∀ (j : Nat) t q, as[j]? = some t → ys[j]? = some q → H' t = some (.tup [kV q.1, q.2]) := fun j t q hj hq => by
   have hm := List.mem_of_getElem? hj
   show (if t = l then _ else _) = _
   rw [if_neg (fun z : t = l => nl (by rw [← z]; exact hm))]
   have : as.findIdx? (fun u => u == t) = some j := by
    rw [List.findIdx?_eq_some_iff_getElem]
    obtain ⟨hjl, ej⟩ := List.getElem?_eq_some_iff.mp hj
    refine ⟨hjl, by simp [ej], fun i hi => ?_⟩
    have := List.pairwise_iff_getElem.mp g.rise i j (by omega) hjl hi
    rw [ej] at this
    simpa using Nat.ne_of_lt this
   rw [this]
   show (ys[j]?).map _ = _
   rw [hq]; rfl
  have same : bG H H' := fun x o e => by
   have hx := I.dJ.lt e
   rw [hno x (fun z : x = l => absurd (by rw [← z]; exact hx) (Nat.not_lt.mpr hls)) (fun z => absurd hx (Nat.not_lt.mpr (above x z)))]
   exact e
  have I2 : Inv X pins σ H' s2 := by
   refine I.SW (gr.trans g2) (fun x hx => hno x (fun z : x = l => absurd (by rw [← z]; exact hx) (Nat.not_lt.mpr hls)) (fun z => absurd hx (Nat.not_lt.mpr (above x z)))) fun x o hx e => ?_
   by_cases hxl : x = l
   ·subst hxl
    rw [hl'] at e
    cases e
    refine ⟨by rw [List.length_map, hp.length_eq, List.length_range, hl, ← hlen2]; exact hz, out.toList, c, ?_, hat⟩
    rw [h3]
    have : ∀ (ix : List Nat), (∀ i ∈ ix, i < as.length) → Vals (ix.map fun i => V.ref (as.getD i 0)) (ix.map fun i => (as.map Value.ref).getD i Value.none) := by
     intro ix
     induction ix with
     | nil => intro _; exact .nil
     | cons i ix ih =>
      intro hi
      refine .cons ?_ (ih fun j hj => hi j (List.mem_cons_of_mem _ hj))
      have := hi i List.mem_cons_self
      dsimp only
      rw [List.getD_eq_getElem?_getD, List.getD_eq_getElem?_getD, List.getElem?_map, List.getElem?_eq_getElem this]
      rfl
    exact this _ hlt
   ·by_cases hxa : x ∈ as
    ·obtain ⟨j, hj⟩ := List.mem_iff_getElem?.mp hxa
     have hjl := (List.getElem?_eq_some_iff.mp hj).1
     have hy : ys[j]? = some (ys[j]'(by omega)) := List.getElem?_eq_getElem (by omega)
     rw [hat' j x _ hj hy] at e
     cases e
     obtain ⟨key, kk, y, e1, e2, e3⟩ := g.pairs j x hj
     have rl := rel
     obtain ⟨t1, t2, t3, t4, t5, t6⟩ := g2
     subst t4
     have rj : ∀ {l1 : List (Key × V)} {l2 : List (Key × Value)} {j : Nat} {a b}, KV l1 l2 → l1[j]? = some a → l2[j]? = some b → a.1 = b.1 ∧ RelV a.2 b.2 := by
      intro l1 l2 j a b r
      unfold KV at r
      induction r generalizing j with
      | nil => intro h; simp at h
      | cons h t ih =>
       intro h1 h2
       cases j with
       | zero => simp at h1 h2; subst h1 h2; exact h
       | succ j => exact ih (by simpa using h1) (by simpa using h2)
     obtain ⟨q1, q2⟩ := rj rel hy e1
     refine ⟨by show 2 ≤ sizeLine; decide, [key, y], .cons ?_ (.cons q2 .nil), _, t6 _ _ e3, rfl, 0, rfl⟩
     have q1 : (ys[j]'(by omega)).1 = kk := q1
     rw [q1]
     exact (uO (h := s1.heap) (show jH kk key = true from e2)).2
    ·rw [hno x hxl hxa] at e
     exact absurd (I.dJ.lt e) (Nat.not_lt.mpr hx)
  have hk : as.length = kvs.length := by omega
  refine ⟨.ref l, H', I2, rfl, q l H' as p.toList same hat' (by omega) (by rw [← hk]; exact hp) ?_ (I.dJ.fresh hls) hl'⟩
  rw [List.pairwise_iff_getElem]
  intro i j hi hj hij
  rw [List.length_map] at hi hj
  have hpz : p.toList.length = as.length := by rw [hp.length_eq, List.length_range]
  have h := h2 i j (by omega) (by rw [List.length_map]; omega)
  rw [List.getElem_map, List.getElem_map]
  have ky : ∀ (i : Nat) (hi : i < p.toList.length), Ky AL (fun i => code 3 ((bN kvs).getD i .aZ)) p i = code 3 ((bN kvs).getD p.toList[i] .aZ) := fun i hi => by
   unfold Ky
   rw [Array.getD_eq_getD_getElem?, ← Array.getElem?_toList, List.getElem?_eq_getElem hi]
   rfl
  rw [ky i hi, ky j hj] at h
  show (!kD _ _) = true
  rw [Bool.not_eq_true']
  exact h
end
section
variable {K : PySem.W.Frag}
theorem GO {Z : aO} {H : Hp} (k : Key) : Rep K Z H (tJ k) (kV k) := by
 cases k with
 | inl i => exact .int i
 | inr x => exact .str x
noncomputable def vW (fa : FE) : FE := fun e => bE (fa e) fun x e1 => bO (x.weak.get e1) fun p => match p with
 | .cC kvs => aU (decide (kvs.length < 64) && (((bN kvs).all (p5 true) || (bN kvs).all (p5 false)) && lL 3 (bN kvs))) (some (.new (.lst (qU 3 (bN kvs))), e1))
 | _ => none
theorem yA {Z : aO} {H : Hp} : ∀ {kvs : List (Key × PV)} {ys : List (Key × V)} {i : Nat} {z : Key × PV}, fB K Z H kvs ys → kvs[i]? = some z → ∃ y, ys[i]? = some y ∧ y.1 = z.1 ∧ Rep K Z H z.2 y.2
 | [], ys, i, z, h, e => by simp at e
 | x :: kvs, ys, i, z, h, e => by
  rcases h.cases with ⟨q, _⟩ | ⟨j, p, v, r, t, q, q', hp, hr⟩
  ·cases q
  ·cases q
   subst q'
   cases i with
   | zero => simp at e; subst e; exact ⟨(j, v), rfl, rfl, hp⟩
   | succ i => exact yA (i := i) hr (by simpa using e)
theorem tS {ta : TE} {fa : FE} (ha : Ref K ta fa) : Ref K (V5 (FK K) (fF (GA ta) zP)) (vW fa) := by
 intro O M W L σ H e e' b Q o he hf q
 obtain ⟨x, e1, f1, hf⟩ := aS hf
 obtain ⟨p, g0, hf⟩ := aI hf
 cases p with
 | cC kvs =>
  obtain ⟨c, hf⟩ := aT hf
  cases hf
  rw [Bool.and_eq_true, Bool.and_eq_true] at c
  obtain ⟨c1, c2, c3⟩ := c
  refine ha O M W L σ H e _ x _ o he f1 fun v1 H1 k1 r1 fr => ?_
  have o1 := o.keep k1.dR
  have en := r1.en o1
  obtain ⟨a, ys, rfl, hd, ek, rl⟩ := ((r1.rv o1).red en g0).sY
  have led : ∃ b, ∀ x ∈ bN kvs, p5 b x = true := by
   rcases Bool.or_eq_true_iff.mp c2 with z | z
   ·exact ⟨true, fun x hx => List.all_eq_true.mp z x hx⟩
   ·exact ⟨false, fun x hx => List.all_eq_true.mp z x hx⟩
  obtain ⟨bb, led⟩ := led
  refine ⟨a, ys, rfl, hd, fun v hv => ?_⟩
  have s1 : bG H1 (upd H1 v (NK v a)) := bG.upd hv
  have k2 := k1.trans (.same s1)
  have rd : fB K (bM M L) (upd H1 v (NK v a)) kvs ys := ⟨ek, rl.aR (.same s1)⟩
  refine ⟨v, a, ys, kvs, bb, rfl, cG, hd.upd hv, ⟨ek, (rl.aR (.same s1)).aR (.less fun _ z => z.elim)⟩, of_decide_eq_true c1, led, c3, fun l H' as ix sm hat al h1 h2 hl hl' => ?_⟩
  have hix : ∀ i ∈ ix, i < kvs.length := fun i hi => List.mem_range.mp (h1.mem_iff.mp hi)
  have pl : (bN kvs).length = kvs.length := by unfold bN; rw [List.length_map]
  have pm : (ix.map fun i => (bN kvs).getD i .aZ).Perm (bN kvs) := by
   have := h1.map fun i => (bN kvs).getD i PV.aZ
   have e : (List.range kvs.length).map (fun i => (bN kvs).getD i PV.aZ) = bN kvs := by
    rw [← pl]
    apply List.ext_getElem
    ·simp
    ·intro i a1 a2
     simp [List.getElem?_eq_getElem a2]
   rw [e] at this
   exact this
  have es : qU 3 (bN kvs) = ix.map fun i => (bN kvs).getD i .aZ :=
   pR (wO 3 _) h2 ((kQ 3 _).trans pm.symm) fun x hx y hy => ED c3 ((kQ 3 _).mem_iff.mp hx) ((kQ 3 _).mem_iff.mp hy)
  rw [es] at q
  have st : eJ (bM M L) (bM (bM M L) (one l)) (upd H1 v (NK v a)) H' := eJ.new sm hl
  have reps : ∀ (js : List Nat), (∀ i ∈ js, i < kvs.length) → bP K (bM (bM M L) (one l)) H' (js.map fun i => (bN kvs).getD i .aZ) (js.map fun i => V.ref (as.getD i 0)) := by
   intro js
   induction js with
   | nil => intro _; exact .nil
   | cons i js ih =>
    intro hj
    have hi := hj i List.mem_cons_self
    refine .cons ?_ (ih fun j h => hj j (List.mem_cons_of_mem _ h))
    have hlen : ys.length = kvs.length := by have := congrArg List.length ek; simpa using this
    obtain ⟨y, hy, e1, e2⟩ := yA rd (List.getElem?_eq_getElem hi)
    have ht : as[i]? = some (as[i]'(by omega)) := List.getElem?_eq_getElem (by omega)
    dsimp only
    rw [List.getD_eq_getElem?_getD, List.getD_eq_getElem?_getD, ht]
    unfold bN
    rw [List.getElem?_map, List.getElem?_eq_getElem hi]
    show Rep K _ H' (.tup [tJ kvs[i].1, kvs[i].2]) (.ref as[i])
    refine .tup (.inl (hat i _ _ ht hy)) (.cons (by rw [e1]; exact GO _) (.cons (e2.aR st) .nil))
  have rn : RN K (bM M L) (upd H1 v (NK v a)) H' (.ref l) (.new (.lst (ix.map fun i => (bN kvs).getD i .aZ))) := ⟨l, rfl, hl, .lst hl' (reps ix hix)⟩
  exact q _ _ (k2.trans (.same sm)) (rn.rb (o.keep k2.dR) (en.same s1) sm) (rn.fr k2.dR)
 | _ => cases hf
theorem FP {fa : FE} {e : En} : vW fa e = bE (fa e) fun x e1 => bO (x.weak.get e1) fun p => match p with
 | .cC kvs => aU (decide (kvs.length < 64) && (((bN kvs).all (p5 true) || (bN kvs).all (p5 false)) && lL 3 (bN kvs))) (some (.new (.lst (qU 3 (bN kvs))), e1))
 | _ => none := rfl
noncomputable def DP (fa : FE) : FE := fun e => bE (fa e) fun x e1 => bO (x.weak.get e1) fun p => match p with
 | .lst ps => bO (mN ps) fun ss => aU (decide (ss.length < 4000) && decide ((pD ss).length < 64)) (some (.new (.lst ((B0 (pD ss)).map PV.str)), e1))
 | _ => none
theorem xM {fa : FE} {e : En} : DP fa e = bE (fa e) fun x e1 => bO (x.weak.get e1) fun p => match p with
 | .lst ps => bO (mN ps) fun ss => aU (decide (ss.length < 4000) && decide ((pD ss).length < 64)) (some (.new (.lst ((B0 (pD ss)).map PV.str)), e1))
 | _ => none := rfl
end
end Mr
namespace L2
open PySem PySem.Spec PyProof.Rows PySem.W
section
variable {X : Cx}
noncomputable def HF : List V → Hp → VK → Prop := fun xs H Q => ∃ a kvs, xs = [.ref a] ∧ zS H a kvs ∧ Q (.int kvs.length) H
theorem XX : eR X (.builtin "len") HF := by
 intro pins s σ H xs us Q I r ⟨a, kvs, e, ha, q⟩
 subst e
 obtain ⟨u, rfl, rx⟩ := vals1 r
 cases rx
 obtain ⟨hz, hd, vs, rel, dd⟩ := kZ I.dJ ha
 refine call_len_dict hd dd (by have := rel.len; rw [sizeLine_eq] at hz; omega) ?_
 exact ⟨.int kvs.length, H, I.tok _, ⟨s.toks + 1, by rw [rel.len]⟩, q⟩
end
end L2
namespace Mr
open PySem L2
section
variable {K : PySem.W.Frag}
noncomputable def A1 : List PV → Option Bv
 | [.cC kvs] => some (.val (.int kvs.length))
 | _ => none
theorem MA : lT K HF A1 := by
 intro Z H vs ps b Q hp h k
 unfold A1 at h
 split at h
 ·cases h
  obtain ⟨v, rfl, hv⟩ := hp.one
  obtain ⟨a, ys, rfl, ha, ek, ra⟩ := hv.sY
  refine ⟨a, ys, rfl, ha, k _ H (bG.refl _) ?_⟩
  have := congrArg List.length ek
  rw [List.length_map, List.length_map] at this
  rw [this]
  exact Rep.int _
 ·cases h
noncomputable def MR (K : PySem.W.Frag) : List V → Hp → VK → Prop := fun xs H Q => GY K xs H Q ∨ HF xs H Q
theorem WI {X : Cx} (K : PySem.W.Frag) (hK : X.K = K := by rfl) : eR X (.builtin "len") (MR K) := eR.or (lE K hK) XX
noncomputable def FZ : List PV → Option Bv := fun p => (gY p).or (A1 p)
theorem JP : lT K (MR K) FZ := lT.or eY MA
end
end Mr
namespace L2
open PySem PySem.Spec PyProof.Rows PySem.W
section
variable {prog : Program} {w : World} {A : Around} {R : Result → Shared → Prop} {I : Addr} {fp wr : List Addr} {n : Nat} {Pz : Nat → Value → Prop} {Sz : Nat → Heap → Prop}
end
end L2
namespace Mr
open PySem PySem.Spec L2 PyProof.Rows PySem.W
noncomputable def Y4 (ps : List PV) (i j : Nat) : Bool := kD (code 3 (ps.getD i .aZ)) (code 3 (ps.getD j .aZ))
noncomputable def WW (ps : List PV) : PV := ps.getD (argBest (Y4 ps) (ps.length - 1)) .aZ
section
variable {X : Cx} {k : Nat}
end
section
variable {K : PySem.W.Frag}
noncomputable def UJ : List PV → Option Bv
 | [.lst ps] => aU (decide (0 < ps.length) && lL 3 ps) (some (.val (WW ps)))
 | _ => none
end
end Mr
namespace Mr
open PySem L2
section
variable {K : PySem.W.Frag}
noncomputable def WB (i : Nat) (f : FE) : FS := fun e => bO (ownAt e i) fun p0 => match p0 with
 | .lst _ => bE (f e) fun b e1 => match b with
  | .new (.lst qs) => match ownAt e1 i with
   | some (.lst ps) => aU (decide (ps.length + qs.length < 1000000)) (some (.nx (cU e1 i (.lst (ps ++ qs)))))
   | _ => none
  | _ => none
 | _ => none
theorem P9 {i : Nat} {f : FE} {e : En} : WB i f e = bO (ownAt e i) fun p0 => match p0 with
 | .lst _ => bE (f e) fun b e1 => match b with
  | .new (.lst qs) => match ownAt e1 i with
   | some (.lst ps) => aU (decide (ps.length + qs.length < 1000000)) (some (.nx (cU e1 i (.lst (ps ++ qs)))))
   | _ => none
  | _ => none
 | _ => none := rfl
end
end Mr
namespace L2
open PySem
section
variable {X : Cx} {pins : List (Addr × Obj)} {σ : St} {H : Hp} {s : Shared} {a : Addr} {y d : V} {u r : Value} {A : Around} {E : Value → Shared → Prop}
end
section
variable {X : Cx} {o e f : Expr} {apos cpos : Pos} {td ty tx : TE}
end
end L2
namespace Mr
open PySem L2
noncomputable abbrev DD := List (Key × List PV)
noncomputable abbrev Tr := List (Key × Addr × List PV)
noncomputable def ofT (t : Tr) : DD := t.map fun z => (z.1, z.2.2)
noncomputable def BX (a : Addr) (t : Tr) : aO := fun b => b = a ∨ b ∈ t.map (·.2.1)
noncomputable def wB (W : WS) (B : aO) : WS := ⟨W.w, fun c => W.old c ∧ ¬ B c⟩
structure VY (K : PySem.W.Frag) (Z : aO) (H : Hp) (a : Addr) (t : Tr) : Prop where
 Y0 : tK H a (t.map fun z => (z.1, V.ref z.2.1))
 lst : ∀ z ∈ t, ∃ xs, H z.2.1 = some (.lst xs) ∧ bP K Z H z.2.2 xs
 nd : (a :: t.map (·.2.1)).Nodup
 kd : (t.map (·.1)).Nodup
noncomputable def V4 (O L : aO) (H : Hp) (B : aO) : Prop := ∀ b, B b → H b ≠ none ∧ ¬ O b ∧ ¬ L b
theorem V4.ZA {O M L B : aO} {W : WS} {H : Hp} (o : kB O M W L H) (b : V4 O L H B) : kB (bM O B) (bM M B) (wB W B) L H :=
 ⟨fun a h => h.elim (o.old a) fun h => (b a h).1, fun a h => h.elim (fun h => .inl (o.mo a h)) .inr, fun i a h => .inl (o.wm i a h), fun a h => ⟨(o.loc a h).1, fun z => z.elim (o.loc a h).2 fun z => (b a z).2.2 h⟩⟩
structure jY (W : WS) (L L' B B' : aO) (H H' : Hp) : Prop where
 obj : ∀ a o, H a = some o → ¬ aw W a → ¬ L a → ¬ B a → H' a = some o
 tup : ∀ a xs, H a = some (.tup xs) → H' a = some (.tup xs)
 dR : ∀ a, H a ≠ none → H' a ≠ none
 new : ∀ a, L' a → L a ∨ H a = none
 JN : ∀ a, B' a → B a ∨ H a = none
theorem none_of {H H1 : Hp} (d : ∀ a, H a ≠ none → H1 a ≠ none) {a : Addr} (h : H1 a = none) : H a = none := by
 cases e : H a with
 | none => rfl
 | some o => exact absurd h (d a (by rw [e]; exact fun z => nomatch z))
theorem jY.keep {W : WS} {L B : aO} {H H' : Hp} (k : cZ W L H H') : jY W L L B B H H' := ⟨fun a o h n m _ => k.obj a o h n m, k.tup, k.dR, fun _ h => .inl h, fun _ h => .inl h⟩
theorem jY.refl {W : WS} {L B : aO} {H : Hp} : jY W L L B B H H := .keep .refl
theorem jY.trans {W : WS} {L L1 L2 B B1 B2 : aO} {H H1 H2 : Hp} (a : jY W L L1 B B1 H H1) (b : jY W L1 L2 B1 B2 H1 H2) : jY W L L2 B B2 H H2 :=
  ⟨fun c o h n m l => b.obj c o (a.obj c o h n m l) n (fun z => (a.new c z).elim m fun z => (by rw [h] at z; cases z)) fun z => (a.JN c z).elim l fun z => (by rw [h] at z; cases z),
   fun c xs h => b.tup c xs (a.tup c xs h), fun c h => b.dR c (a.dR c h), fun c h => (b.new c h).elim (a.new c) fun z => .inr (none_of a.dR z), fun c h => (b.JN c h).elim (a.JN c) fun z => .inr (none_of a.dR z)⟩
inductive zE where
 | nx (e : En) (d : DD) | ct (e : En) (d : DD)
noncomputable abbrev FX := En → DD → Option zE
structure U0 (K : PySem.W.Frag) (O M : aO) (W : WS) (x : Nat) (a : Addr) (L : aO) (σ : St) (H : Hp) (e : En) (t : Tr) : Prop where
 ok : kB O M W L H
 WH : V4 O L H (BX a t)
 en : aY K (bM (bM M (BX a t)) L) (wB W (BX a t)) L H σ e
 at' : σ[x]? = some (some (.ref a))
 sec : VY K (bM (bM M (BX a t)) L) H a t
noncomputable def FC (K : PySem.W.Frag) (O M : aO) (W : WS) (x : Nat) (a : Addr) (L : aO) (H : Hp) (t : Tr) (D : Ends) : zE → Prop
 | .nx e' d' => ∀ L' σ' H' t', jY W L L' (BX a t) (BX a t') H H' → U0 K O M W x a L' σ' H' e' t' → ofT t' = d' → D.nx σ' H'
 | .ct e' d' => ∀ L' σ' H' t', jY W L L' (BX a t) (BX a t') H H' → U0 K O M W x a L' σ' H' e' t' → ofT t' = d' → D.ct σ' H'
theorem FC.later {K : PySem.W.Frag} {O M L L1 : aO} {W : WS} {x : Nat} {a : Addr} {H H1 : Hp} {t t1 : Tr} {D : Ends} {r : zE} (g : jY W L L1 (BX a t) (BX a t1) H H1) (h : FC K O M W x a L H t D r) : FC K O M W x a L1 H1 t1 D r := by
 cases r with
 | nx e d => exact fun L' σ' H' t' g' => h L' σ' H' t' (g.trans g')
 | ct e d => exact fun L' σ' H' t' g' => h L' σ' H' t' (g.trans g')
section
variable {K : PySem.W.Frag} {x : Nat}
theorem VY.keep {O M L : aO} {W : WS} {a : Addr} {t : Tr} {H H' : Hp} (o : kB O M W L H) (b : V4 O L H (BX a t)) (k : cZ (wB W (BX a t)) L H H') (s : VY K (bM (bM M (BX a t)) L) H a t) : VY K (bM (bM M (BX a t)) L) H' a t := by
 have st := k.aR (b.ZA o)
 have nb : ∀ c ob, BX a t c → H c = some ob → H' c = some ob := fun c ob hc h => k.obj c ob h (fun ⟨i, w⟩ => (b c hc).2.1 (o.mo _ (o.wm i c w))) (b c hc).2.2
 exact ⟨let ⟨ep, e⟩ := s.Y0; ⟨ep, nb a _ (.inl rfl) e⟩, fun z hz => let ⟨xs, h1, h2⟩ := s.lst z hz; ⟨xs, nb _ _ (.inr (List.mem_map.mpr ⟨z, hz, rfl⟩)) h1, h2.aR st⟩, s.nd, s.kd⟩
theorem U0.keep {O M L : aO} {W : WS} {a : Addr} {t : Tr} {σ : St} {H H' : Hp} {e e' : En} (n : U0 K O M W x a L σ H e t) (k : cZ (wB W (BX a t)) L H H') (en : aY K (bM (bM M (BX a t)) L) (wB W (BX a t)) L H' σ e') : U0 K O M W x a L σ H' e' t :=
 ⟨n.ok.keep k.dR, fun b h => ⟨k.dR b (n.WH b h).1, (n.WH b h).2⟩, en, n.at', n.sec.keep n.ok n.WH k⟩
theorem kw {W : WS} {B L : aO} {H H' : Hp} (k : cZ (wB W B) L H H') : cZ W L H H' := ⟨k.obj, k.tup, k.dR⟩
noncomputable def VS : FX := fun e d => some (.nx e d)
noncomputable def T2 : FX := fun e d => some (.ct e d)
noncomputable def VA (f g : FX) : FX := fun e d => match f e d with
 | some (.nx e1 d1) => g e1 d1
 | r => r
noncomputable def Y8 (fc : FT) (f g : FX) : FX := fun e d => bE (fc e) fun b e1 => bB b (f e1 d) (g e1 d)
noncomputable def WJ (f : FE) (fg : FG) : FX := fun e d => bE (f e) fun b e1 => bO b.put fun p => bO (fg p e1) fun e2 => some (.nx e2 d)
noncomputable abbrev VX := En → Option (List PV × En)
noncomputable def ZF (f : FE) : VX := fun e => bE (f e) fun b e1 => match b with
 | .val (.tup ps) => some (ps, e1)
 | _ => none
noncomputable def YB (fa : FA) : VX := fun e => bE (fa e) fun bs e1 => match bs with
 | [.val (.tup ps)] => some (ps.zipIdx.map fun z => .tup [.int (z.2 : Int), z.1], e1)
 | _ => none
noncomputable def AW (body : PV → En → DD → Option zE) : List PV → En → DD → Option zE
 | [], e, d => some (.nx e d)
 | p :: ps, e, d => match body p e d with
  | some (.nx e1 d1) => AW body ps e1 d1
  | some (.ct e1 d1) => AW body ps e1 d1
  | none => none
noncomputable def VN (fi : VX) (fg : FG) (fb : FX) : FX := fun e d => bE (fi e) fun ps e1 => AW (fun x e d => bO (fg x e) fun e2 => fb e2 d) ps e1 d
theorem jY.aR {O M L L' : aO} {W : WS} {a : Addr} {t t' : Tr} {H H' : Hp} (o : kB O M W L H) (g : jY W L L' (BX a t) (BX a t') H H') : eJ (bM (bM M (BX a t)) L) (bM (bM M (BX a t')) L') H H' :=
 ⟨g.tup, fun c ob h n => ⟨g.obj c ob h (fun ⟨i, w⟩ => n (.inl (.inl (o.wm i c w)))) (fun z => n (.inr z)) fun z => n (.inl (.inr z)), fun z => by
  rcases z with (z | z) | z
  ·exact n (.inl (.inl z))
  ·exact (g.JN c z).elim (fun z => n (.inl (.inr z))) fun z => by rw [h] at z; cases z
  ·exact (g.new c z).elim (fun z => n (.inr z)) fun z => by rw [h] at z; cases z⟩⟩
end
end Mr
namespace Mr
open PySem L2
noncomputable def VL (d : DD) (k : Key) (p : PV) : DD := if (d.any fun kp => decide (kp.1 = k)) = true then d.map (fun kp => if kp.1 = k then (kp.1, kp.2 ++ [p]) else kp) else d ++ [(k, [p])]
section
variable {K : PySem.W.Frag} {x : Nat}
noncomputable def W0 (fk fv : FE) : FX := fun e d => bE (fk e) fun kb e1 => bO (kb.weak.get e1) fun kp => bO (keyOf kp) fun k => bE (fv e1) fun b e2 => bO b.put fun p =>
 aU (decide (d.length < 1000000) && d.all fun kp => decide (kp.2.length < 1000000)) (some (.nx e2 (VL d k p)))
noncomputable def sX (x : Nat) (f : FX) : FS := fun e => aU (decide (x < e.length)) (match f (e.set x none) [] with
 | some (.nx e' d) => some (.rt (.new (.cC (d.map fun kp => (kp.1, .lst kp.2)))) e')
 | _ => none)
end
end Mr
namespace Mr
open PySem L2
section
variable {K : PySem.W.Frag}
noncomputable def HA : PV → PV → PV → Option Bv
 | .cC kvs, p, z => bO (keyOf p) fun k => some (.val ((jP kvs k).getD z))
 | _, _, _ => none
noncomputable def VQ (fa fb fc : FE) : FE := fun e => bE (fa e) fun x e1 => bO (x.weak.get e1) fun p1 => match p1 with
 | .cC _ => bE (fb e1) fun y e2 => bE (fc e2) fun z e3 => bO z.put fun pz => bO (x.weak.get e3) fun p => bO (y.weak.get e3) fun q => bO (HA p q pz) fun b => some (b, e3)
 | _ => none
theorem KN {fa fb fc : FE} {e : En} : VQ fa fb fc e = bE (fa e) fun x e1 => bO (x.weak.get e1) fun p1 => match p1 with
 | .cC _ => bE (fb e1) fun y e2 => bE (fc e2) fun z e3 => bO z.put fun pz => bO (x.weak.get e3) fun p => bO (y.weak.get e3) fun q => bO (HA p q pz) fun b => some (b, e3)
 | _ => none := rfl
theorem K7 {f g : FX} {e : En} {d : DD} {Q : zE → Prop} : Wp (VA f g e d) Q ↔ Wp (f e d) fun o => match o with | .nx e1 d1 => Wp (g e1 d1) Q | o => Q o := by
 unfold VA
 cases f e d with
 | none => simp [nZ]
 | some o =>
  rw [dB]
  cases o <;> simp [dB]
theorem JK {fi : VX} {fg : FG} {fb : FX} {e : En} {d : DD} {Q : zE → Prop} : Wp (VN fi fg fb e d) Q ↔ Wp (fi e) fun z => Wp (AW (fun x e d => bO (fg x e) fun e2 => fb e2 d) z.1 z.2 d) Q := by
 unfold VN
 rw [j4]
theorem S8 {x : Nat} {f : FX} {e : En} {Q : Out → Prop} : Wp (sX x f e) Q ↔ x < e.length ∧ Wp (f (e.set x none) []) fun o => match o with | .nx e' d => Q (.rt (.new (.cC (d.map fun kp => (kp.1, .lst kp.2)))) e') | .ct _ _ => False := by
 unfold sX
 rw [gW, decide_eq_true_eq]
 refine and_congr_right fun _ => ?_
 cases f (e.set x none) [] with
 | none => simp [nZ]
 | some o =>
  rw [dB]
  cases o <;> simp [dB, nZ]
theorem IZ {e : En} {d : DD} : VS e d = some (.nx e d) := rfl
theorem L9 {e : En} {d : DD} : T2 e d = some (.ct e d) := rfl
theorem UM {fc : FT} {f g : FX} {e : En} {d : DD} : Y8 fc f g e d = bE (fc e) fun b e1 => bB b (f e1 d) (g e1 d) := rfl
theorem QQ {f : FE} {fg : FG} {e : En} {d : DD} : WJ f fg e d = bE (f e) fun b e1 => bO b.put fun p => bO (fg p e1) fun e2 => some (.nx e2 d) := rfl
theorem T6 {f : FE} {e : En} : ZF f e = bE (f e) fun b e1 => match b with
 | .val (.tup ps) => some (ps, e1)
 | _ => none := rfl
theorem QU {fa : FA} {e : En} : YB fa e = bE (fa e) fun bs e1 => match bs with
 | [.val (.tup ps)] => some (ps.zipIdx.map fun z => .tup [.int (z.2 : Int), z.1], e1)
 | _ => none := rfl
theorem QI {fk fv : FE} {e : En} {d : DD} : W0 fk fv e d = bE (fk e) fun kb e1 => bO (kb.weak.get e1) fun kp => bO (keyOf kp) fun k => bE (fv e1) fun b e2 => bO b.put fun p =>
 aU (decide (d.length < 1000000) && d.all fun kp => decide (kp.2.length < 1000000)) (some (.nx e2 (VL d k p))) := rfl
end
end Mr
namespace L2
open PySem
section
variable {prog : Program} {w : World} {A : Around} {R : Result → Shared → Prop} {s : Shared}
theorem CC {kx vx target iter : Expr} {ifs : List Expr} {scope : Scope} {pos : Pos} {it : Value} {D : Addr} {env : Env} (I : Nat → Shared → Prop)
  (turn : ∀ n s, I n s → wpAny (model prog w) A (pyNext it) (fun r s₁ => match r with
   | none => R (.ok .next) s₁
   | some v => wpAny (model prog w) A (letOwnedTupleGo target it v) (fun _ s₁' => wpAny (model prog w) A (assign target env v) (fun _ s₂ =>
     wpAny (model prog w) A (forIn ifs true fun c r => if r = true then do let ok ← isTrue c env (eval c env); pure (ForInStep.yield ok) else pure (ForInStep.yield r)) (fun ok s₃ =>
      if ok = true then wpAny (model prog w) A (eval kx env) (fun kv s₄ => wpAny (model prog w) A (eval vx env) (fun vv s₅ =>
       wpAny (model prog w) A (dictSet D kv vv) (fun _ s₆ => ∃ m, m < n ∧ I m s₆) (fun _ _ => False) s₅) (fun _ _ => False) s₄) (fun _ _ => False) s₃
      else ∃ m, m < n ∧ I m s₃) (fun _ _ => False) s₂) (fun _ _ => False) s₁') (fun _ _ => False) s₁) (fun _ _ => False) s)
  (n : Nat) (h : I n s) :
  codeAny (model prog w) A (.compLoop (.DictComp kx vx [⟨target, iter, ifs, 0⟩] scope pos) 0 it (.ref D) env) R s := by
 refine codeAny_loop rfl I (fun n s hI => ?_) n h
 show wpAny _ A ((compTurn (.DictComp kx vx [⟨target, iter, ifs, 0⟩] scope pos) 0 it (.ref D) env).onRaise (fun x => do noteFrame x env; theTreesLotGoes x)) _ _ s
 refine wpAny_noted ?_
 refine wpAny_mono (E := fun _ _ => False) ?_ (fun _ _ q => q) (fun _ _ z => z.elim)
 rw [compTurn_dict]
 refine wpAny_bind (wpAny_standAt (wpAny_bind (wpAny_mono (turn n s hI) (fun r s₁ h₁ => ?_) fun _ _ h' => h')))
 cases r with
 | none => exact wpAny_pure h₁
 | some v =>
  refine wpAny_bind (wpAny_mono h₁ (fun _ s₁' h₁' => ?_) fun _ _ h' => h')
  refine wpAny_bind (wpAny_mono h₁' (fun _ s₂ h₂ => wpAny_bind (wpAny_mono h₂ (fun ok s₃ h₃ => ?_) fun _ _ h' => h')) fun _ _ h' => h')
  cases ok with
  | false => exact wpAny_pure ⟨rfl, h₃⟩
  | true =>
   exact wpAny_bind (wpAny_bind (wpAny_mono h₃ (fun kv s₄ h₄ => wpAny_bind (wpAny_holding (wpAny_mono h₄ (fun vv s₅ h₅ => wpAny_bind (wpAny_standAt (wpAny_holding (wpAny_mono h₅ (fun _ s₆ h₆ => wpAny_pure ⟨rfl, h₆⟩) fun _ _ h' => h')))) fun _ _ h' => h'))) fun _ _ h' => h'))
end
noncomputable def U6 (J : It) (g : TG) (tt : TT) (tk te : TE) (l : Addr) (σ0 : St) (H0 : Hp) (Q : VK) : Prop :=
 ∃ W : Nat → Nat → St → Hp → Prop, (∃ m, W 0 m σ0 H0) ∧
   ∀ i m σ' H2, W i m σ' H2 → (J.stop i H2 ∧ Q (.ref l) H2) ∨ (J.go i H2 ∧ ∃ N : St → Hp → Prop, (∀ σ3 H3, N σ3 H3 → ∃ m', m' < m ∧ W (i + 1) m' σ3 H3) ∧
    ∀ x H3, J.SO i H2 x H3 → g x σ' H3 fun σ4 H4 => tt σ4 H4 fun b H5 => if b = true then tk σ4 H5 fun kv H6 => te σ4 H6 fun y H7 => ∃ kvs key, tK H7 l kvs ∧ kv = kV key ∧ kvs.length < sizeLine ∧ ∀ ep, N σ4 (upd H7 l (.dK (putK kvs key y) ep)) else N σ4 H5)
noncomputable def wL (wi : TI) (k : Nat) (dN : List Nat) (g : TG) (tt : TT) (tk te : TE) : TE := fun σ H Q => wi σ H fun J H1 => ∀ l, H1 l = none → U6 J g tt tk te l (gM k dN σ) (upd H1 l (.dK [] 0)) Q
section
variable {X : Cx} {kx vx tg iter : Expr} {ifs : List Expr} {scope : Scope} {pos : Pos} {wi : TI} {g : TG} {tt : TT} {tk te : TE} {N : List Str} {k : Nat} {dN : List Nat}
theorem FJ {pins : List (Addr × Obj)} {σ : St} {H2 : Hp} {s2 : Shared} {cl : List (Str × Addr)} {C : Addr} {fp : List Addr} {h1 : Heap} {tk : Nat} {m0 : Str → Option Value} (S : i0 X scope N k dN) (I2 : Inv X pins σ H2 s2)
  (hcl1 : ∀ y c, cl.lookup y = some c → X.env.cells.lookup y = some c) (hcl2 : ∀ y, (y, NameKind.free) ∈ scope.names → (cl.lookup y).isSome = true) (hC : C = s2.heap.objs.size + 1)
  (hf : ∀ b ∈ fp, sD X pins H2 b) (ho : ∀ b ∈ fp, b < s2.heap.objs.size) (hk : ∀ b o, s2.heap.get? b = some o → h1.get? b = some o) (hD : h1.get? s2.heap.objs.size = some { cls := .type "dict", data := .dict #[] }) (hns : h1.Ns C m0) :
  Inv (cQ X scope N ⟨cl, C, s2, H2, fp⟩) [] (gM k dN σ) (upd H2 s2.heap.objs.size (.dK [] 0)) { s2 with heap := h1, toks := tk } := by
 have fr : H2 s2.heap.objs.size = none := I2.dJ.fresh (Nat.le_refl _)
 have hCf : H2 C = none := I2.dJ.fresh (hC ▸ Nat.le_succ _)
 refine ⟨uZ S I2 hcl1 hcl2 (hC ▸ Nat.le_succ _) hf ho, rfl, I2.bare, Un.laid hk (Nat.le_refl _) fr, ⟨m0, hns, fun i y v e1 e2 e3 => ?_⟩, fun x c e => ?_, ?_, fun x c e => ?_, fun p hp => absurd (show p ∈ ([] : List (Addr × Obj)) from hp) (by simp), I2.dJ.laid hk (Nat.le_refl _) ?_, ?_⟩
 ·obtain ⟨q, j, rfl, hj, hv⟩ := uB e2
  obtain ⟨z, hz1, hz2, hz3⟩ := S.dN q j hj
  have e1' : N[k + q]? = some y := e1
  rw [hz1] at e1'
  cases e1'
  obtain ⟨m, hn, hl⟩ := I2.loc
  have hfr := S.free (y, .free) (PySem.mem_of_lookup hz3) rfl
  obtain ⟨u, r, l⟩ := hl j y v hz2 hv (by rcases hfr with z | z; exact .inr (.inl z); exact .inr (.inr z))
  refine ⟨u, r, .inr ⟨fV (env := X.env) hz3, ?_⟩⟩
  obtain ⟨c, hc⟩ := Option.isSome_iff_exists.mp (hcl2 y (PySem.mem_of_lookup hz3))
  rcases l with ⟨hk', _⟩ | ⟨_, c', hc', hcell⟩
  ·rcases hfr with z | z <;> (rw [hk'] at z; cases z)
  ·have e := hcl1 y c hc
   rw [hc'] at e
   cases e
   obtain ⟨o, ho', hd⟩ := hcell
   exact ⟨_, hc, o, hk _ _ ho', hd⟩
 ·obtain ⟨v, o, ho', hd⟩ := I2.cell x c (hcl1 x c e)
  exact ⟨v, o, hk _ _ ho', hd⟩
 ·show upd H2 s2.heap.objs.size (.dK [] 0) C = none
  rw [bL (Nat.ne_of_gt (hC ▸ Nat.lt_succ_self _))]
  exact hCf
 ·have e' := hcl1 x c e
  obtain ⟨v, q⟩ := I2.cell x c e'
  rw [bL (Nat.ne_of_lt q.lt)]
  exact I2.lA x c e'
 ·exact ⟨Nat.zero_le _, beq_eq_false_iff_ne.mpr (Ne.symm (Nat.ne_of_lt I2.big)), [], .nil, ⟨_, #[], hD, ⟨rfl, rfl, rfl⟩, rfl, (fun _ h => absurd h (by simp)), .nil, List.nodup_nil⟩⟩
 ·show (gM k dN σ).length = N.length
  unfold gM
  rw [List.length_append, List.length_replicate, List.length_map, S.len]
theorem HS (hc : X.calm = true) (S : i0 X scope N k dN) (hi : PI X tg iter wi) (hg : ∀ c, PG (cQ X scope N c) tg g) (ht : ∀ c, SJ (cQ X scope N c) ifs tt) (hk : ∀ c, PE (cQ X scope N c) kx tk) (he : ∀ c, PE (cQ X scope N c) vx te)
  (hs : ∀ x, foldedSetIterable iter X.env x = pure x := by intro _; rfl) : PE X (.DictComp kx vx [⟨tg, iter, ifs, 0⟩] scope pos) (wL wi k dN g tt tk te) := by
 intro pins s σ H Q I h
 rw [arm_eval_DictComp]
 obtain ⟨cl, hclos, hcl1, hcl2⟩ := mS (scope := scope) (env := X.env) (fun p hp hf => I.ok.has p.1 (S.free p hp hf))
 refine wpAny_comprehension_free (use := none) rfl hs hclos S.kind S.names (d6 (hi pins s σ H _ I h) fun v s1 h1 => d6 h1 fun itv s2 h2 => ?_)
 obtain ⟨it, fp, tn, J, H2, e, I2, T, st2, f2, q2⟩ := h2
 subst e
 obtain ⟨W, ⟨m0, w0⟩, turn⟩ := q2 s2.heap.objs.size (I2.dJ.fresh (Nat.le_refl _))
 have hob : ∀ b ∈ fp, b < s2.heap.objs.size := fun b hb => let ⟨o, e, _⟩ := T.obj _ _ st2 b hb; Heap.lt_size e
 refine wpAny_newObj_type (wpAny_newFunctionEnv S.cell (by intro y hy; simp at hy) (fun h₁ hns₁ hsb₁ => ?_) S.kind)
 dsimp only at hns₁ hsb₁ ⊢
 generalize hHH : s2.heap.push { cls := .type "dict", dict := none, data := .dict #[] } = HH at hns₁ hsb₁ ⊢
 have hCC : HH.objs.size = s2.heap.objs.size + 1 := by rw [← hHH, Heap.size_push]
 have old : ∀ b o, s2.heap.get? b = some o → h₁.get? b = some o := fun b o e => hsb₁.extBut b o (Nat.ne_of_lt (hCC ▸ Nat.lt_succ_of_lt (Heap.lt_size e))) (Heap.get?_push_of_some _ (hHH ▸ Heap.get?_push_of_some _ e))
 have hD : h₁.get? s2.heap.objs.size = some { cls := .type "dict", data := .dict #[] } := hsb₁.extBut _ _ (Nat.ne_of_lt (hCC ▸ Nat.lt_succ_self _)) (Heap.get?_push_of_some _ (hHH ▸ Heap.get?_push_size _ rfl))
 have I4 := fun tk => FJ (tk := tk) S I2 hcl1 hcl2 hCC f2 hob old hD hns₁
 have X' := cQ X scope N ⟨cl, HH.objs.size, s2, H2, fp⟩
 have stat : ∀ {H' : Hp}, (∀ b ∈ fp, H' b = none) → ∀ b ∈ fp, sD (cQ X scope N ⟨cl, HH.objs.size, s2, H2, fp⟩) [] H' b := fun hn b hb =>
  ⟨hn b hb, Nat.ne_of_lt (hCC ▸ Nat.lt_succ_of_lt (hob b hb)), (uZ S I2 hcl1 hcl2 (hCC ▸ Nat.le_succ _) f2 hob).AV b hb, .inl hb, fun x c e => (f2 b hb).2.2.2.2.1 x c (hcl1 x c e), fun p hp => absurd (show p ∈ ([] : List (Addr × Obj)) from hp) (by simp)⟩
 have loop : ∀ s₃ : Shared, s₃ = { s2 with heap := h₁, toks := s2.toks + ([] : List (Str × Value)).length } →
   codeAny (model X.prog X.w) X.A (.compLoop (.DictComp kx vx [⟨tg, iter, ifs, 0⟩] scope pos) 0 (.ref it) (.ref s2.heap.objs.size) (compEnvC scope cl HH.objs.size X.env))
    (compPost (model X.prog X.w) X.A X.xe none (EP X pins σ Q) (.ref s2.heap.objs.size) HH.objs.size) s₃ := by
  rintro s₃ rfl
  refine CC (fun n s' => ∃ i σ' H', Inv (cQ X scope N ⟨cl, HH.objs.size, s2, H2, fp⟩) [] σ' H' s' ∧ tn i s'.heap ∧ (∀ b ∈ fp, H' b = none) ∧ W i n σ' H') ?_ m0
   ⟨0, gM k dN σ, _, I4 _, T.keep _ _ _ st2 fun b _ o e => old b o e, fun b hb => by rw [bL (Nat.ne_of_lt (hob b hb))]; exact (f2 b hb).1, w0⟩
  rintro n s3 ⟨i, σ3, H3, I3, st3, fr3, w3⟩
  rcases turn i n σ3 H3 w3 with ⟨stop, qn⟩ | ⟨go, NN, hN, step⟩
  ·refine d6 (T.done (cQ X scope N ⟨cl, HH.objs.size, s2, H2, fp⟩) rfl rfl rfl hc i [] s3 σ3 H3 _ I3 (stat fr3) st3 stop) fun r s4 ⟨hr, J4⟩ => ?_
   subst hr
   obtain ⟨m, hn, _⟩ := J4.loc
   refine ⟨m, hn, fun h' hs' => ?_⟩
   have keepC : ∀ b o, b ≠ HH.objs.size → s4.heap.get? b = some o → h'.get? b = some o := fun b o hb e => hs'.extBut b o hb e
   have kD : ∀ b o, s2.heap.get? b = some o → b ≠ HH.objs.size := fun b o e => Nat.ne_of_lt (hCC ▸ Nat.lt_succ_of_lt (Heap.lt_size e))
   have u := J4.base
   have u' : Un (DX X.stack) fp H2 H3 s2.heap h' := ⟨fun b o q n hb hx => keepC b o (kD b o q) (u.keep b o q n hb hx), fun b o q n hb hx => by
     obtain ⟨sl, e⟩ := u.slot b o q n hb hx
     exact ⟨sl, keepC b _ (kD b o q) e⟩, u.free, fun b o q hx => by
     obtain ⟨o', e⟩ := u.there b o q hx
     exact ⟨o', keepC b _ (kD b o q) e⟩, u.nS, u.mY, u.oA⟩
   refine ⟨.ref s2.heap.objs.size, H3, I2.M5 (ch := fp) J4.os u' (J4.dJ.but J4.free keepC) J4.bare fun b hb => ?_, rfl, qn⟩
   obtain ⟨_, f1, _, f3, f4, f5⟩ := f2 b hb
   exact ⟨f3, f1, f4, f5⟩
  ·refine d6 (T.item (cQ X scope N ⟨cl, HH.objs.size, s2, H2, fp⟩) rfl rfl rfl hc i [] s3 σ3 H3 _ I3 (stat fr3) st3 go) fun r s4 ⟨u, hr, h4⟩ => ?_
   subst hr
   refine d6 h4 fun _ s5 ⟨x, H5, I5, r5, y5, st5, fr5⟩ => ?_
   have I5' := I5.pinned (stat fr5) (T.obj _ _ st5)
   have again : ∀ {s7 : Shared} {σ7 : St} {H7 : Hp}, Inv (cQ X scope N ⟨cl, HH.objs.size, s2, H2, fp⟩) ([] ++ pB fp s5.heap) σ7 H7 s7 → NN σ7 H7 →
     ∃ m, m < n ∧ ∃ i σ' H', Inv (cQ X scope N ⟨cl, HH.objs.size, s2, H2, fp⟩) [] σ' H' s7 ∧ tn i s7.heap ∧ (∀ b ∈ fp, H' b = none) ∧ W i m σ' H' := fun {s7 σ7 H7} I7 n7 => by
    obtain ⟨m', hm, w7⟩ := hN σ7 H7 n7
    refine ⟨m', hm, i + 1, σ7, H7, I7.lU, T.keep _ _ _ st5 fun b hb o e => (I7.pin (b, o) (List.mem_append_right _ (List.mem_append_right _ (hV hb e)))).1, fun b hb => ?_, w7⟩
    obtain ⟨o, e, d⟩ := T.obj _ _ st5 b hb
    exact (I7.pin (b, o) (List.mem_append_right _ (List.mem_append_right _ (hV hb e)))).2.1
   refine d6 (hg _ _ s5 σ3 H5 x u _ I5' r5 (step x H5 y5)) fun _ s6 ⟨σ6, H6, I6, q6⟩ => ?_
   refine d6 (ht _ _ s6 σ6 H6 _ I6 q6) fun b s7 ⟨H7, I7, q7⟩ => ?_
   cases b with
   | false => exact again I7 q7
   | true =>
    refine d6 (hk _ _ s7 σ6 H7 _ I7 q7) fun kv s8 ⟨kx', H8, I8, r8, q8⟩ => ?_
    refine d6 (he _ _ s8 σ6 H8 _ I8 q8) fun y s9 ⟨yv, H9, I9, r9, kvs, key, hl, ek, hz, n9⟩ => ?_
    subst ek
    obtain ⟨z, hd, vs, rel, dd⟩ := FQ I9.dJ hl
    have hz' : vs.length ≤ sizeLine := by rw [← rel.length]; exact z
    have hl' : (putK kvs key yv).length ≤ sizeLine := by have := jI kvs key yv; omega
    refine wpAny_dictSet_pairs (hsz := hz') (pJ r8) dd fun h' dd' hs' => ?_
    have hx' : ∃ q, h'.get? s2.heap.objs.size = some q := let ⟨q, _, _, hq, _⟩ := dd'; ⟨q, hq⟩
    obtain ⟨ep, da⟩ := dd'.dictAt
    exact again (qG I9 hl.YR hs' hx' (zL hl' hd (rel.put key r9) da)) (n9 ep)
 exact codeAny_compStart_dict (loop _ rfl) (T.self X.A 0 _ _ _ (T.keep _ _ _ st2 fun b _ o e => old b o e) (loop _ rfl))
theorem VH (N : List Str) (k : Nat) (dN : List Nat) (XN : List Str) (xs : Scope) (hc : X.calm = true) (hN : X.N = XN) (hx : X.env.scope = xs) (hi : PI X tg iter wi) (chk : qE XN xs scope N k dN = true)
  (hg : ∀ c, PG (cQ X scope N c) tg g) (ht : ∀ c, SJ (cQ X scope N c) ifs tt) (hk : ∀ c, PE (cQ X scope N c) kx tk) (he : ∀ c, PE (cQ X scope N c) vx te)
  (hs : ∀ x, foldedSetIterable iter X.env x = pure x := by intro _; rfl) : PE X (.DictComp kx vx [⟨tg, iter, ifs, 0⟩] scope pos) (wL wi k dN g tt tk te) := HS hc (oC hN hx chk) hi hg ht hk he hs
end
end L2
namespace Mr
open PySem L2
noncomputable def jS (fg : FG) (ft : FT) (fk fe : FE) : List PV → En → List (Key × PV) → Option (List (Key × PV) × En)
 | [], e, d => some (d, e)
 | x :: xs, e, d => bO (fg x e) fun e1 => bE (ft e1) fun b e2 => match b with
  | false => jS fg ft fk fe xs e2 d
  | true => bE (fk e2) fun kb e3 => bE (fe e3) fun r e4 => bO (kb.weak.get e4) fun kp => bO (keyOf kp) fun k => bO r.put fun p => jS fg ft fk fe xs e4 (lB d k p)
noncomputable def sO (fi : FI) (k : Nat) (dN : List Nat) (ms : List (Nat × Nat)) (fg : FG) (ft : FT) (fk fe : FE) : FE := fun e =>
 bE (fi (fun i => !(ms.any fun z => z.1 == i)) e) fun items e1 => aU (decide (items.length < 1000000)) (bE (jS fg ft fk fe items (m9 k dN ms e1) []) fun ys ei => bO (mQ ei ms e1) fun e2 => some (.new (.cC ys), e2))
section
variable {K : PySem.W.Frag}
theorem DZ {wi : TI} {g : TG} {tt : TT} {tk te : TE} {fi : FI} {k : Nat} {dN : List Nat} (ms : List (Nat × Nat)) {fg : FG} {ft : FT} {fk fe : FE} (hms : ∀ i j1 j2, (i, j1) ∈ ms → (i, j2) ∈ ms → j1 = j2) (hms2 : ∀ i1 i2 j, (i1, j) ∈ ms → (i2, j) ∈ ms → i1 = i2) (hi : xV K wi fi) (hg : wJ K g fg) (ht : lD K tt ft) (hk : Ref K tk fk) (he : Ref K te fe) : Ref K (wL wi k dN g tt tk te) (sO fi k dN ms fg ft fk fe) := by
 intro O M W L σ H e e' b Q o hen hf q
 obtain ⟨items, e1, f1, hf⟩ := aS hf
 obtain ⟨hsz, hf⟩ := aT hf
 obtain ⟨ys, ei, f2, hf⟩ := aS hf
 obtain ⟨e2, f3, hf⟩ := aI hf
 cases hf
 have hsz := of_decide_eq_true hsz
 refine hi (fun i => !(ms.any fun z => z.1 == i)) O M W L σ H e e1 items _ o hen f1 fun J H1 k1 en it => ?_
 have o1 := o.keep k1.dR
 let W' : WS := ⟨fun j a => ∃ i s, (i, j) ∈ ms ∧ e1[i]? = some (some s) ∧ s.eA = true ∧ σ[i]? = some (some (.ref a)), fun a => H1 a ≠ none⟩
 have whose : ∀ (i : Nat) s a, e1[i]? = some (some s) → s.eA = true → σ[i]? = some (some (.ref a)) → (aw W a ∨ L a) ∧ ∃ ob, H1 a = some ob ∧ ∀ xs, ob ≠ .tup xs := fun i s a hs hm ha => by
  obtain ⟨v, h1, h2⟩ := en.at' i s hs
  rw [ha] at h1
  cases h1
  cases s with
  | val p => cases hm
  | bor p => cases hm
  | own p => obtain ⟨b, e, w, c⟩ := h2; cases e; exact ⟨.inl ⟨i, w⟩, c.there⟩
  | loc p => obtain ⟨b, e, w, c⟩ := h2; cases e; exact ⟨.inr w, c.there⟩
 have wsub : ∀ a, aw W' a → (aw W a ∨ L a) ∧ ∃ ob, H1 a = some ob ∧ ∀ xs, ob ≠ .tup xs := fun a ⟨j, i, s, hm, hs, hmine, ha⟩ => whose i s a hs hmine ha
 have it := it (aw W') (fun a z => (wsub a z).1) fun i a s hst hs hm ha ⟨j, i', s', hm', hs', hmine', ha'⟩ => by
  have ne : i' ≠ i := fun z => by
   subst z
   have : (ms.any fun z => z.1 == i') = true := List.any_eq_true.mpr ⟨(i', j), hm', by simp⟩
   rw [this] at hst
   cases hst
  exact en.nQ i' i s' s ne hs' hs hmine' hm (by rw [ha', ha])
 intro l hl
 have zl : ∀ a ob, H1 a = some ob → a ≠ l := fun a ob h => dM h hl
 let M' : aO := bM M (bM L (one l))
 let O' : aO := fun a => H1 a ≠ none ∨ a = l
 have s0 : bG H1 (upd H1 l (.dK [] 0)) := bG.upd hl
 have ML : ∀ a, (aw W a ∨ L a) → bM M L a := fun a z => z.elim (fun ⟨i, w⟩ => .inl (o.wm i a w)) .inr
 have k0 : eJ (bM M L) (bM M' eB) H1 (upd H1 l (.dK [] 0)) := ⟨fun a xs h => s0 _ _ h, fun a ob h n => ⟨s0 _ _ h, fun z => by
  rcases z with (z | z | z) | z
  ·exact n (.inl z)
  ·exact n (.inr z)
  ·exact zl a ob h z
  ·exact z⟩⟩
 have okc0 : ∀ H2, (∀ a, H1 a ≠ none ∨ a = l → H2 a ≠ none) → kB O' M' W' eB H2 := fun H2 d => ⟨d, fun a z => by
   rcases z with z | z | z
   ·exact .inl (o1.old a (o1.mo a z))
   ·exact .inl (o1.loc a z).1
   ·exact .inr z, fun j a z => by
   rcases ML a (wsub a ⟨j, z⟩).1 with z | z
   ·exact .inl z
   ·exact .inr (.inl z), fun a z => z.elim⟩
 have lenS : (m9 k dN ms e1).length = (gM k dN σ).length := by
  unfold m9 gM
  rw [List.length_append, List.length_append, sL, List.length_map, List.length_replicate, List.length_replicate]
 have en0 : aY K (bM M' eB) W' eB (upd H1 l (.dK [] 0)) (gM k dN σ) (m9 k dN ms e1) := by
  have lend : ∀ (i : Nat) s p a, e1[i]? = some (some s) → (s = .own p ∨ s = .loc p) → σ[i]? = some (some (.ref a)) → iV K (bM M L) H1 a p → ¬ (∃ j, (i, j) ∈ ms) → pX K (bM M' eB) W' eB (upd H1 l (.dK [] 0)) a p := fun i s p a hs hp ha c nm => by
   have hm : s.eA = true := by rcases hp with rfl | rfl <;> rfl
   have nw : ¬ aw W' a := fun ⟨j, i', s', hm', hs', hmine', ha'⟩ => by
    have ne : i' ≠ i := fun z => nm ⟨j, z ▸ hm'⟩
    exact en.nQ i' i s' s ne hs' hs hmine' hm (by rw [ha', ha])
   have c' := c.aR k0 fun ob h => s0 _ _ h
   cases c' with
   | lst h r => exact .lst (.inl h) (by obtain ⟨ob, h1, _⟩ := c.there; show H1 a ≠ none; rw [h1]; exact fun z => nomatch z) nw (fun z => z) r
   | cC h kk r => exact .cC (.inl h) (by obtain ⟨ob, h1, _⟩ := c.there; show H1 a ≠ none; rw [h1]; exact fun z => nomatch z) nw (fun z => z) kk r
  have bors : ∀ p a, pX K (bM M L) W L H1 a p → pX K (bM M' eB) W' eB (upd H1 l (.dK [] 0)) a p := fun p a c => by
   cases c with
   | lst h od n m r => exact .lst (h.elim (fun h => .inl (s0 _ _ h)) fun ⟨u, h⟩ => .inr ⟨u, s0 _ _ h⟩) (fun z => Rd.ne h z rfl) (fun z => (wsub a z).1.elim n m) (fun z => z) (r.aR k0)
   | gK h r => exact .gK h (r.aR k0)
   | cC h od n m kk r => exact .cC (h.elim (fun h => .inl (s0 _ _ h)) fun ⟨u, h⟩ => .inr ⟨u, s0 _ _ h⟩) (fun z => Rd.ne h z rfl) (fun z => (wsub a z).1.elim n m) (fun z => z) kk (r.aR k0)
  have row : ∀ (i j : Nat) s, wH e1 ms i j = some s → ∃ v, σ[i]? = some (some v) ∧ jL K (bM M' eB) W' eB (upd H1 l (.dK [] 0)) j v s ∧ (s.eA = true → (i, j) ∈ ms ∧ ∃ s', e1[i]? = some (some s') ∧ s'.eA = true) := fun i j s h => by
   unfold wH at h
   have nc : ∀ {p : PV}, ms.contains (i, j) = true → (i, j) ∈ ms := fun z => List.contains_iff_mem.mp z
   cases c : e1[i]? with
   | none => rw [c] at h; cases h
   | some s' =>
    cases s' with
    | none => rw [c] at h; cases h
    | some s' =>
     rw [c] at h
     obtain ⟨v, h1, h2⟩ := en.at' i s' c
     refine ⟨v, h1, ?_⟩
     cases s' with
     | val p => cases h; exact ⟨Rep.aR k0 h2, fun z => nomatch z⟩
     | bor p => cases h; obtain ⟨a, e, c⟩ := h2; exact ⟨⟨a, e, bors p a c⟩, fun z => nomatch z⟩
     | own p =>
      obtain ⟨a, e, w, ct⟩ := h2
      subst e
      dsimp only at h
      cases d : ms.contains (i, j) with
      | true =>
       rw [d, if_pos rfl] at h
       cases h
       have hm := List.contains_iff_mem.mp d
       exact ⟨⟨a, rfl, ⟨i, _, hm, c, rfl, h1⟩, ct.aR k0 fun ob h => s0 _ _ h⟩, fun _ => ⟨hm, _, rfl, rfl⟩⟩
      | false =>
       rw [d, if_neg Bool.false_ne_true] at h
       cases d2 : ms.any (fun z => z.1 == i) with
       | true => rw [d2, if_pos rfl] at h; cases h
       | false =>
        rw [d2, if_neg Bool.false_ne_true] at h
        cases h
        refine ⟨⟨a, rfl, lend i _ p a c (.inl rfl) h1 ct fun ⟨j', hm'⟩ => ?_⟩, fun z => nomatch z⟩
        have : (ms.any fun z => z.1 == i) = true := List.any_eq_true.mpr ⟨(i, j'), hm', by simp⟩
        rw [d2] at this
        cases this
     | loc p =>
      obtain ⟨a, e, w, ct⟩ := h2
      subst e
      dsimp only at h
      cases d : ms.contains (i, j) with
      | true =>
       rw [d, if_pos rfl] at h
       cases h
       have hm := List.contains_iff_mem.mp d
       exact ⟨⟨a, rfl, ⟨i, _, hm, c, rfl, h1⟩, ct.aR k0 fun ob h => s0 _ _ h⟩, fun _ => ⟨hm, _, rfl, rfl⟩⟩
      | false =>
       rw [d, if_neg Bool.false_ne_true] at h
       cases d2 : ms.any (fun z => z.1 == i) with
       | true => rw [d2, if_pos rfl] at h; cases h
       | false =>
        rw [d2, if_neg Bool.false_ne_true] at h
        cases h
        refine ⟨⟨a, rfl, lend i _ p a c (.inr rfl) h1 ct fun ⟨j', hm'⟩ => ?_⟩, fun z => nomatch z⟩
        have : (ms.any fun z => z.1 == i) = true := List.any_eq_true.mpr ⟨(i, j'), hm', by simp⟩
        rw [d2] at this
        cases this
  refine ⟨lenS, fun j s hj => ?_, fun j1 j2 s t hn h1 h2 m1 m2 => ?_⟩
  ·obtain ⟨q, i, rfl, hc, hs⟩ := kA hj
   obtain ⟨v, h1, h2, _⟩ := row i _ s hs
   exact ⟨v, j8 hc h1, h2⟩
  ·obtain ⟨q1, i1, rfl, c1, hs1⟩ := kA h1
   obtain ⟨q2, i2, rfl, c2, hs2⟩ := kA h2
   obtain ⟨v1, a1, _, b1⟩ := row i1 _ s hs1
   obtain ⟨v2, a2, _, b2⟩ := row i2 _ t hs2
   obtain ⟨w1, s1, d1, n1⟩ := b1 m1
   obtain ⟨w2, s2, d2, n2⟩ := b2 m2
   rw [j8 c1 a1, j8 c2 a2]
   have ne : i1 ≠ i2 := fun z => by subst z; exact hn (hms _ _ _ w1 w2)
   have := en.nQ i1 i2 s1 s2 ne d1 d2 n1 n2
   rw [a1, a2] at this
   exact this
 have dl : ∀ a xs, H1 a = some (.tup xs) → a ≠ l := fun a xs h => zl a _ h
 let N : Nat → St → Hp → Prop := fun i σ' H' => ∃ ei' acc vs, cZ W' (one l) (upd H1 l (.dK [] 0)) H' ∧ tK H' l vs ∧ fB K (bM M' eB) H' acc vs ∧ aY K (bM M' eB) W' eB H' σ' ei' ∧ acc.length ≤ i ∧
  jS fg ft fk fe (items.drop i) ei' acc = some (ys, ei)
 have k0' : ∀ H', cZ W' (one l) (upd H1 l (.dK [] 0)) H' → ∀ a, H1 a ≠ none ∨ a = l → H' a ≠ none := fun H' kk a z => kk.dR a (by
  rcases z with z | z
  ·cases e : H1 a with
   | none => exact absurd e z
   | some u => rw [s0 _ _ e]; exact fun z => nomatch z
  ·rw [z, cG]; exact fun z => nomatch z)
 refine ⟨fun i m σ' H' => m = items.length - i ∧ i ≤ items.length ∧ N i σ' H', ⟨items.length, by simp, Nat.zero_le _, m9 k dN ms e1, [], [], .refl, ⟨0, cG⟩, ⟨rfl, .nil⟩, en0, Nat.le_refl _, by rw [List.drop_zero]; exact f2⟩, ?_⟩
 rintro i m σ2 H2 ⟨rfl, hil, ei2, acc, vs, kk, hl2, ra, en2, hacc, f4⟩
 have oki := okc0 H2 (k0' H2 kk)
 obtain ⟨itm, its⟩ := it (bM L (one l)) H2 (fun a ob h n => kk.obj a ob (s0 _ _ h) n (zl a ob h)) (fun a xs h => kk.tup a xs (s0 _ _ h)) (fun a z => z.elim .inl fun z => .inr (by rw [show a = l from z]; exact hl))
 by_cases hlt : i < items.length
 ·refine .inr ?_
  obtain ⟨go, yl⟩ := itm i items[i] (by simp [hlt])
  refine ⟨go, N (i + 1), fun σ' H' n => ⟨items.length - (i + 1), by omega, rfl, hlt, n⟩, fun x H3 y => ?_⟩
  obtain ⟨s3, rp⟩ := yl x H3 y
  rw [List.drop_eq_getElem_cons hlt] at f4
  obtain ⟨e4, c1, f4⟩ := aI f4
  have oki3 := oki.keep (H' := H3) (cZ.same (W := W') (L := eB) s3).dR
  have rp' : Rep K (bM M' eB) H3 items[i] x := rp.aR (.less fun a z => z.elim id fun z => z.elim)
  refine hg O' M' W' eB σ2 H3 ei2 e4 _ x _ oki3 (en2.same s3) rp' c1 fun σ3 en3 => ?_
  obtain ⟨b, e5, c2, f4⟩ := aS f4
  refine ht O' M' W' eB σ3 H3 e4 e5 b _ oki3 en3 c2 fun H4 k4 en4 => ?_
  have oki4 := oki3.keep k4.dR
  have nlw : ¬ aw W' l := fun z => by obtain ⟨_, ob, h, _⟩ := wsub l z; rw [hl] at h; cases h
  have kL : ∀ {A B : Hp}, cZ W' eB A B → cZ W' (one l) A B := fun k => ⟨fun a ob h n m => k.obj a ob h n fun z => z, k.tup, k.dR⟩
  have st : ∀ {A B : Hp}, cZ W' eB A B → kB O' M' W' eB A → eJ (bM M' eB) (bM M' eB) A B := fun k ok => k.aR ok
  have k34 : cZ W' eB H2 H4 := (cZ.same s3).trans k4
  cases b with
  | false =>
   rw [if_neg Bool.false_ne_true]
   exact ⟨e5, acc, vs, kk.trans (kL k34), (let ⟨ep, e⟩ := hl2; ⟨ep, k34.obj l _ e nlw (fun z => z)⟩), ⟨ra.1, ra.2.aR (st k34 oki)⟩, en4, Nat.le_succ_of_le hacc, f4⟩
  | true =>
   rw [if_pos rfl]
   obtain ⟨kb, e6, ck, f4⟩ := aS f4
   obtain ⟨rv, e7, c3, f4⟩ := aS f4
   obtain ⟨kp, cg, f4⟩ := aI f4
   obtain ⟨key, cy, f4⟩ := aI f4
   obtain ⟨p, c4, f4⟩ := aI f4
   refine hk O' M' W' eB σ3 H4 e5 e6 kb _ oki4 en4 ck fun kv H4' k4' rk frk => ?_
   have oki4' := oki4.keep k4'.dR
   refine he O' M' W' eB σ3 H4' e6 e7 rv _ oki4' (rk.en oki4') c3 fun v H5 k5 rb fr => ?_
   have oki5 := oki4'.keep k5.dR
   obtain ⟨en5, rp5⟩ := rb.put oki5 c4
   have ek : kv = kV key := (((rk.rv oki4').keep oki4' k5).red en5 cg).key cy
   have k35 : cZ W' eB H2 H5 := (k34.trans k4').trans k5
   obtain ⟨ep0, hl20⟩ := hl2
   have hl5 := k35.obj l _ hl20 nlw (fun z => z)
   have ra5 : fB K (bM M' eB) H5 acc vs := ⟨ra.1, ra.2.aR (st k35 oki)⟩
   have lv : vs.length = acc.length := by have := congrArg List.length ra.1; rw [List.length_map, List.length_map] at this; exact this
   refine ⟨vs, key, ⟨_, hl5⟩, ek, by rw [sizeLine_eq]; omega, fun ep => ?_⟩
   have stw : eJ (bM M' eB) (bM M' eB) H5 (upd H5 l (.dK (putK vs key v) ep)) := .write (.inl (.inr (.inr rfl))) hl5 fun _ z => nomatch z
   have kw : cZ W' (one l) H5 (upd H5 l (.dK (putK vs key v) ep)) := .write (.inr rfl) hl5 fun _ z => nomatch z
   have lp : (lB acc key p).length ≤ acc.length + 1 := by
    unfold lB
    split
    ·rw [List.length_map]; omega
    ·rw [List.length_append]; exact Nat.le_refl _
   refine ⟨e7, lB acc key p, putK vs key v, (kk.trans (kL k35)).trans kw, ⟨ep, cG⟩, fB.put key ⟨ra5.1, ra5.2.aR stw⟩ (rp5.aR stw), ?_, by omega, f4⟩
   refine ⟨en5.len, fun j s hj => ?_, en5.nQ⟩
   obtain ⟨u, g1, g2⟩ := en5.at' j s hj
   refine ⟨u, g1, ?_⟩
   cases s with
   | val p => exact Rep.aR stw g2
   | own p =>
    obtain ⟨a, e, w, c⟩ := g2
    exact ⟨a, e, w, c.aR stw fun ob h => by rw [bL (fun z : a = l => nlw (by rw [← z]; exact ⟨j, w⟩))]; exact h⟩
   | loc p => obtain ⟨a, e, w, c⟩ := g2; exact w.elim
   | bor p =>
    obtain ⟨a, e, c⟩ := g2
    refine ⟨a, e, ?_⟩
    have ne : W'.old a → a ≠ l := fun od z => od (by rw [z]; exact hl)
    cases c with
    | lst h od n m r => exact .lst (h.elim (fun h => .inl (by rw [bL (ne od)]; exact h)) fun ⟨u, h⟩ => .inr ⟨u, by rw [bL (ne od)]; exact h⟩) od n m (r.aR stw)
    | gK h r => exact .gK h (r.aR stw)
    | cC h od n m kk r => exact .cC (h.elim (fun h => .inl (by rw [bL (ne od)]; exact h)) fun ⟨u, h⟩ => .inr ⟨u, by rw [bL (ne od)]; exact h⟩) od n m kk (r.aR stw)
 ·have e : i = items.length := by omega
  subst e
  rw [List.drop_length] at f4
  cases f4
  have kout : cZ W L H1 H2 := ⟨fun a ob h n m => kk.obj a ob (s0 _ _ h) (fun z => (wsub a z).1.elim n m) (zl a ob h), fun a xs h => kk.tup a xs (s0 _ _ h), fun a h => k0' H2 kk a (.inl h)⟩
  have kf : eJ (bM M L) (bM M (bM L (one l))) H1 H2 := ⟨kout.tup, fun a ob h n => ⟨kk.obj a ob (s0 _ _ h) (fun z => n (ML a (wsub a z).1)) (zl a ob h), fun z => by
   rcases z with z | z | z
   ·exact n (.inl z)
   ·exact n (.inr z)
   ·exact zl a ob h z⟩⟩
  have pend : vC K (bM M (bM L (one l))) W (bM L (one l)) H2 σ (fun i => ∃ j, (i, j) ∈ ms) e1 := by
   refine ⟨en.len, fun i s hs => ?_, en.nQ⟩
   obtain ⟨v, h1, h2⟩ := en.at' i s hs
   have keepM : ∀ a, s.eA = true → ¬ (∃ j, (i, j) ∈ ms) → v = .ref a → ∀ ob, H1 a = some ob → H2 a = some ob := fun a hm nt ev ob h => by
    subst ev
    refine kk.obj a ob (s0 _ _ h) (fun ⟨j, i', s', hm', hs', hmine', ha'⟩ => ?_) (zl a ob h)
    have ne : i' ≠ i := fun z => nt ⟨j, z ▸ hm'⟩
    exact en.nQ i' i s' s ne hs' hs hmine' hm (by rw [ha', h1])
   refine ⟨v, h1, fun z => ?_, fun hm => ?_⟩
   ·cases s with
    | val p => exact Rep.aR kf h2
    | own p =>
     obtain ⟨a, e, w, c⟩ := h2
     exact ⟨a, e, w, c.aR kf fun ob h => keepM a rfl (z.elim id fun z => nomatch z) e ob h⟩
    | loc p =>
     obtain ⟨a, e, w, c⟩ := h2
     exact ⟨a, e, .inl w, c.aR kf fun ob h => keepM a rfl (z.elim id fun z => nomatch z) e ob h⟩
    | bor p =>
     obtain ⟨a, e, c⟩ := h2
     refine ⟨a, e, ?_⟩
     cases c with
     | lst h od n m r => exact .lst (h.elim (fun h => .inl (kout.obj _ _ h n m)) fun ⟨u, h⟩ => .inr ⟨u, kout.obj _ _ h n m⟩) od n (fun z => z.elim m (Rd.ne h hl)) (r.aR kf)
     | gK h r => exact .gK h (r.aR kf)
     | cC h od n m kk r => exact .cC (h.elim (fun h => .inl (kout.obj _ _ h n m)) fun ⟨u, h⟩ => .inr ⟨u, kout.obj _ _ h n m⟩) od n (fun z => z.elim m (Rd.ne h hl)) kk (r.aR kf)
   ·cases s with
    | val p => cases hm
    | bor p => cases hm
    | own p => obtain ⟨a, e, w, c⟩ := h2; exact ⟨a, e, .inl ⟨p, rfl, w⟩⟩
    | loc p => obtain ⟨a, e, w, c⟩ := h2; exact ⟨a, e, .inr ⟨p, rfl, .inl w⟩⟩
  have enf : aY K (bM M (bM L (one l))) W (bM L (one l)) H2 σ e' := lI pend (fun i j p a hm hp ha => by
   rcases cB hp with g | g
   ·obtain ⟨v, h1, a', rfl, ⟨i', s', hm', _, _, ha'⟩, c⟩ := en2.at' j _ g
    have ei := hms2 i i' j hm hm'
    subst ei
    rw [ha] at ha'
    cases ha'
    exact c.aR (.less fun a z => .inl z) fun _ h => h
   ·obtain ⟨v, h1, a', rfl, w, c⟩ := en2.at' j _ g
    exact w.elim) f3
  refine .inl ⟨its, q _ _ (k1.trans kout) ⟨l, rfl, fun z => o1.old l z hl, fun z => (o1.loc l z).1 hl, enf, fun i s hs hm e => ?_, .cC hl2.choose_spec ra.1 (ra.2.aR (.less fun a z => .inl z))⟩ (Fr.back (b := .new (.cC _)) k1.dR fun a e => by cases e; exact hl)⟩
  obtain ⟨s', hs', hm'⟩ := kK f3 i s hs hm
  obtain ⟨_, ob, h, _⟩ := whose i s' l hs' hm' e
  rw [hl] at h
  cases h
theorem zJ {wi : TI} {g : TG} {tt : TT} {tk te : TE} {fi : FI} {k : Nat} {dN : List Nat} (ms : List (Nat × Nat)) {fg : FG} {ft : FT} {fk fe : FE} (hms : (ms.all fun z => ms.all fun z' => (z.1 == z'.1) == (z.2 == z'.2)) = true) (hi : xV K wi fi) (hg : wJ K g fg) (ht : lD K tt ft) (hk : Ref K tk fk) (he : Ref K te fe) : Ref K (wL wi k dN g tt tk te) (sO fi k dN ms fg ft fk fe) := by
 have key : ∀ z ∈ ms, ∀ z' ∈ ms, (z.1 == z'.1) = (z.2 == z'.2) := fun z hz z' hz' => by
  have := List.all_eq_true.mp (List.all_eq_true.mp hms z hz) z' hz'
  simpa using this
 refine DZ ms (fun i j1 j2 h1 h2 => ?_) (fun i1 i2 j h1 h2 => ?_) hi hg ht hk he
 ·have := key _ h1 _ h2
  simpa using this
 ·have := key _ h1 _ h2
  simpa using this
end
end Mr
namespace L2
open PySem
section
variable {X : Cx} {kx vx tg iter : Expr} {ifs : List Expr} {scope : Scope} {pos : Pos} {wi : TI} {g : TG} {tt : TT} {tk te : TE} {N : List Str} {k : Nat} {dN : List Nat}
end
end L2
namespace Mr
open PySem L2
theorem ES {fg : FG} {ft : FT} {fk fe : FE} (I : Nat → List (Key × PV) → En → Prop) {Q : List (Key × PV) × En → Prop} {xs : List PV}
  (hs : ∀ (i : Nat) x e d, xs[i]? = some x → I i d e → Wp (fg x e) fun e1 => Wp (ft e1) fun z => match z.1 with | false => I (i + 1) d z.2 | true => Wp (fk z.2) fun kb => Wp (fe kb.2) fun w => Wp (kb.1.weak.get w.2) fun kp => Wp (keyOf kp) fun k => Wp w.1.put fun p => I (i + 1) (lB d k p) w.2)
  (hd : ∀ d e, I xs.length d e → Q (d, e)) {e : En} {d : List (Key × PV)} (h0 : I 0 d e) : Wp (jS fg ft fk fe xs e d) Q := by
 have key : ∀ (ys : List PV) (i : Nat) (e : En) (d : List (Key × PV)), i ≤ xs.length → xs.drop i = ys → I i d e → Wp (jS fg ft fk fe ys e d) Q := by
  intro ys
  induction ys with
  | nil =>
   intro i e d hil hy hi
   unfold jS
   rw [dB]
   have hl : xs.length ≤ i := by
    have := congrArg List.length hy
    rw [List.length_drop] at this
    simp at this
    omega
   have h : i = xs.length := by omega
   subst h
   exact hd d e hi
  | cons x ys ih =>
   intro i e d hil hy hi
   have hlt : i < xs.length := by
    have := congrArg List.length hy
    rw [List.length_drop, List.length_cons] at this
    omega
   rw [List.drop_eq_getElem_cons hlt] at hy
   have hx : xs[i]? = some x := by rw [List.getElem?_eq_getElem hlt, (List.cons.inj hy).1]
   obtain ⟨e1, g1, ⟨b, e2⟩, g2, h⟩ := hs i x e d hx hi
   unfold jS
   rw [g1, vL, g2, yC]
   cases b with
   | false => exact ih (i + 1) e2 d hlt (List.cons.inj hy).2 h
   | true =>
    obtain ⟨⟨kb, e3⟩, g3, ⟨r, e4⟩, g4, kp, g5, k, g6, p, g7, h⟩ := h
    dsimp only at g3 g4 g5 g6 g7 h ⊢
    rw [g3, yC, g4, yC, g5, vL, g6, vL, g7, vL]
    exact ih (i + 1) e4 _ hlt (List.cons.inj hy).2 h
 exact key xs 0 e d (Nat.zero_le _) rfl h0
theorem CH {fi : FI} {k : Nat} {dN : List Nat} {ms : List (Nat × Nat)} {fg : FG} {ft : FT} {fk fe : FE} {e : En} {Q : Bv × En → Prop} :
  Wp (sO fi k dN ms fg ft fk fe e) Q ↔ Wp (fi (fun i => !(ms.any fun z => z.1 == i)) e) fun z => z.1.length < 1000000 ∧ Wp (jS fg ft fk fe z.1 (m9 k dN ms z.2) []) fun w => Wp (mQ w.2 ms z.2) fun e2 => Q (.new (.cC w.1), e2) := by
 unfold sO
 constructor
 ·intro h
  obtain ⟨z, h1, h⟩ := j4.mp h
  obtain ⟨g, h⟩ := gW.mp h
  obtain ⟨w, h2, h⟩ := j4.mp h
  obtain ⟨e2, h3, h⟩ := jX.mp h
  exact ⟨z, h1, of_decide_eq_true g, w, h2, e2, h3, dB.mp h⟩
 ·rintro ⟨z, h1, g, w, h2, e2, h3, q⟩
  exact j4.mpr ⟨z, h1, gW.mpr ⟨decide_eq_true g, j4.mpr ⟨w, h2, jX.mpr ⟨e2, h3, dB.mpr q⟩⟩⟩⟩
end Mr
namespace L2
open PySem PyProof.Rows
section
variable {X : Cx}
noncomputable def uR (K : PySem.W.Frag) : V → List V → Hp → VK → Prop := fun x vs H Q => ∃ (l : Addr) (zs : List Str) (y : Str), x = .ref l ∧ vs = [.str y] ∧ jC K H l (zs.map V.str) ∧ y ∈ zs ∧ zs.length < 1000000 ∧ Q (.int (zs.idxOf y : Nat)) H
theorem mT (k : Str) : ∀ {vs : List Value} {ys : List Str}, StrsAre vs ys → ∀ (j : Nat) (h1 : j < vs.length) (h2 : j < ys.length), isStrOf k vs[j] = (ys[j] == k)
 | _, _, .cons n t h, 0, _, _ => rfl
 | _, _, .cons n t h, j + 1, h1, h2 => mT k h j (by simpa using h1) (by simpa using h2)
theorem xX : ∀ {vs : List Value} {ys : List Str}, StrsAre vs ys → vs.length = ys.length
 | _, _, .nil => rfl
 | _, _, .cons n t h => by rw [List.length_cons, List.length_cons, xX h]
theorem C8 (K : PySem.W.Frag) (hK : X.K = K := by rfl) : MK X "list.index" (uR K) := by
 subst hK
 intro pins s σ H x vs v us Q I rx rv h
 obtain ⟨l, zs, y, rfl, rfl, hq, hy, hz, q⟩ := h
 cases rx
 obtain ⟨u, rfl, t, rfl⟩ := vals1 rv
 obtain ⟨its, r, pl, _⟩ := I.list hq
 have hi : StrsAre its zs := wF r
 have hl := pl.isList
 obtain ⟨⟨cls, dd, data, sl⟩, ho, hc, n, hd⟩ := id hl
 simp only at hc hd
 subst hc hd
 have hlen := xX hi
 have hj : zs.idxOf y < zs.length := List.idxOf_lt_length_iff.mpr hy
 refine call_meets PySem.F.slot_list_index ⟨_, ho, rfl⟩ PySem.F.entry_list_index (PySem.F.args_list_index_2 _ _)
  (SeqAt.list_indexAt l its.toArray n dd sl (.str y t) (isStrOf y) (zs.idxOf y) (by simpa [hlen] using hj) (by omega) ?_ ?_) ⟨ho, fun w hw => (eq_isStrOf y t hi w (by simpa using hw)).at _ _, ⟨.int (zs.idxOf y : Nat), H, I.tok _, ⟨_, rfl⟩, q⟩⟩
 ·show isStrOf y its[zs.idxOf y] = true
  rw [mT y hi _ (by omega) hj]
  simpa using List.getElem_idxOf hj
 ·intro j hjs hlt
  show isStrOf y its[j] = false
  rw [mT y hi j (by simpa using hjs) (by omega)]
  have := List.not_of_lt_findIdx (p := (· == y)) (xs := zs) (i := j) hlt
  simpa using this
end
end L2
namespace Mr
open PySem L2
section
variable {K : PySem.W.Frag}
noncomputable def mB : PV → List PV → Option Bv
 | .lst ps, [.str y] => bO (mN ps) fun zs => aU (decide (y ∈ zs) && decide (zs.length < 1000000)) (some (.val (.int (zs.idxOf y : Nat))))
 | _, _ => none
theorem CV : QY K (uR K) mB := by
 intro Z H x vs p ps b Q hp hps h k
 unfold mB at h
 split at h
 ·obtain ⟨zs, g, h⟩ := aI h
  obtain ⟨c, h⟩ := aT h
  cases h
  rw [Bool.and_eq_true] at c
  obtain ⟨v, rfl, hv⟩ := hps.one
  obtain ⟨a, ys, rfl, ha, ra⟩ := hp.p7
  rw [rH g] at ra
  rw [ra.strs] at ha
  exact ⟨a, zs, _, rfl, by rw [hv.str], ha.sq, of_decide_eq_true c.1, of_decide_eq_true c.2, k _ H (bG.refl _) (Rep.int _)⟩
 ·cases h
end
end Mr
namespace L2
open PySem PySem.Spec PyProof.Rows
noncomputable def W7 (A : Around) (s : Shared) (x y : Value) (c : Bool) : Prop :=
 ∀ (prog : Program) (w : World) (E : Value → Shared → Prop) (Q : Value → Shared → Prop), Q (.bool c) s → wpAny (model prog w) A (richCompare .Gt x y) Q E s
inductive JO (A : Around) (s : Shared) (fin : Bool) : List (Value × Value) → Bool → Prop
 | done : JO A s fin [] fin
 | same {p q : Value} {r : List (Value × Value)} {c : Bool} : SeqAt.EqAt A s p q true → JO A s fin r c → JO A s fin ((p, q) :: r) c
 | less {p q : Value} {r : List (Value × Value)} {c : Bool} : SeqAt.EqAt A s p q false → W7 A s p q c → JO A s fin ((p, q) :: r) c
section
open PySem.SeqAt
open PySem.AutoSeq1 (wpAny_loadPart')
open PySem.MeetsSeq PySem.MeetsSeq2 PySem.MeetsSeq3
end
end L2
namespace Mr
open PySem PySem.Spec L2
noncomputable def U8 (gt : PV → PV → Option Bool) : List PV → List PV → Option Bool
 | [], [] => some false
 | [], _ :: _ => some false
 | _ :: _, [] => some true
 | x :: xs, y :: ys => if bV x y = true then U8 gt xs ys else gt x y
noncomputable def YW : Nat → PV → PV → Option Bool
 | _, .str a, .str b => some (decide (b.cps.toList < a.cps.toList))
 | _, .int a, .int b => some (decide (b < a))
 | n + 1, .tup xs, .tup ys => U8 (YW n) xs ys
 | _, _, _ => none
section
variable {s : Shared}
end
section
variable {X : Cx} {k : Nat}
end
section
variable {K : PySem.W.Frag}
noncomputable def TH : PV → PV → Option Bv := fun p q => aU (jE 3 p && jE 3 q) (bO (YW 3 p q) fun b => some (.val (.bl b)))
noncomputable def W4 : PV → PV → Option Bv := fun p q => (D0 p q).or (TH p q)
end
end Mr
namespace L2
open PySem PySem.Spec PyProof.Rows
section
variable {X : Cx} {pos : Pos}
end
end L2
namespace Mr
open PySem L2
section
variable {K : PySem.W.Frag}
noncomputable def S0 (n : Nat) (f : HU) : FG := fun p e => match p with
 | .tup ps => aU (decide (ps.length = n)) (f ps e)
 | .lst ps => aU (decide (ps.length = n)) (f ps e)
 | _ => none
theorem JX {n : Nat} {f : HU} {p : PV} {e : En} : S0 n f p e = match p with
 | .tup ps => aU (decide (ps.length = n)) (f ps e)
 | .lst ps => aU (decide (ps.length = n)) (f ps e)
 | _ => none := rfl
end
end Mr
namespace L2
open PySem PySem.Spec PyProof.Rows
theorem Paired.TR {α β : Type} {F : α → β → Prop} : ∀ {l : List α} {m : List β} {i : Nat} {x : α}, Paired F l m → l[i]? = some x → ∃ y, m[i]? = some y ∧ F x y
 | _, _, _, _, .nil, h => by simp at h
 | _, _, 0, _, .cons h _, e => by simp at e; subst e; exact ⟨_, rfl, h⟩
 | _, _, i + 1, _, .cons _ r, e => by
  obtain ⟨y, h1, h2⟩ := Paired.TR (i := i) r (by simpa using e)
  exact ⟨y, by simpa using h1, h2⟩
theorem QE {k : Key} {v : Value} (e : jH k v = true) : RelV (kV k) v := by
 rcases cK e with ⟨i, t, rfl, rfl⟩ | ⟨x, t, rfl, rfl⟩
 ·exact ⟨t, rfl⟩
 ·exact ⟨t, rfl⟩
noncomputable def YK (a : Addr) (kvs : List (Key × V)) (ep : Nat) : It :=
 ⟨fun i H => Rd H a (.dK kvs ep) ∧ i < kvs.length, fun i H x H' => H' = H ∧ ∀ kv, kvs[i]? = some kv → x = kV kv.1, fun i H => Rd H a (.dK kvs ep) ∧ i = kvs.length⟩
theorem CQ {P : Program} {w : World} {K : PySem.W.Frag} {tg : Expr} (a it : Addr) (kvs : List (Key × V)) (ep : Nat) : Turn P w K tg (YK a kvs ep) [it] it (fun i h => h.IsKeyIter it a i kvs.length ep) where
 mem := by simp
 obj := fun i h st b hb => by
  have e : b = it := by simpa using hb
  subst e
  obtain ⟨o, e, c, d⟩ := st
  exact ⟨o, e, fun v z => by rw [d] at z; cases z⟩
 keep := fun i h h' st k => st.at fun o e => k it (by simp) o e
 item := by
  intro X hP hw hK hc i pins s σ H E I hf st hg
  subst hP hw hK
  obtain ⟨hr, hi⟩ := hg
  obtain ⟨_, _, vs, rel, dd⟩ := A3 I.dJ hr
  have hl : kvs.length = vs.length := Paired.length rel
  obtain ⟨q, hq, rq⟩ := Paired.TR rel (List.getElem?_eq_getElem hi)
  rw [hl] at st
  obtain ⟨f0, f1, f2, f3, f4, f5⟩ := hf it (by simp)
  refine wpAny_pyNext_dict_item st dd (k := q.1) (v := q.2) hq fun key h' hk st' sb => ?_
  have I1 : Inv X pins σ H { s with heap := h' } := I.turned (t' := s.toks) (fun b o hb e => (sb.2 b hb).trans e) f0 f1 f3 f4 f5
  obtain ⟨o, e, c, d⟩ := id st'
  rw [← hl] at st'
  refine ⟨key, rfl, uF (s := { s with heap := h' }) e c d (by decide) ⟨kV q.1, H, I1, QE hk, ⟨rfl, fun kv hkv => ?_⟩, st', fun b hb => (hf b hb).1⟩⟩
  rw [List.getElem?_eq_getElem hi] at hkv
  cases hkv
  rw [rq.1]
 done := by
  intro X hP hw hK hc i pins s σ H E I hf st hg
  subst hP hw hK
  obtain ⟨hr, hi⟩ := hg
  obtain ⟨_, _, vs, rel, dd⟩ := A3 I.dJ hr
  have hl : kvs.length = vs.length := Paired.length rel
  rw [hl] at st
  obtain ⟨f0, f1, f2, f3, f4, f5⟩ := hf it (by simp)
  exact wpAny_pyNext_dict_end (I.ok.hd hc) st dd (List.getElem?_eq_none_iff.mpr (by omega)) fun h' eb => ⟨rfl, I.turned (t' := s.toks) (fun b o hb e => eb b o hb e) f0 f1 f3 f4 f5⟩
 self := fun _ _ _ _ _ st h => wpAny_pyIter_keyiter st h
section
variable {X : Cx}
noncomputable def MN (tl : TE) : TI := fun σ H R => tl σ H fun x H1 => ∃ a kvs ep, x = .ref a ∧ Rd H1 a (.dK kvs ep) ∧ R (YK a kvs ep) H1
theorem BI {tg l : Expr} {tl : TE} (hl : PE X l tl) : PI X tg l (MN tl) := by
 intro pins s σ H R I h
 refine d6 (hl pins s σ H _ I h) fun v s1 ⟨x, H1, I1, r1, a, kvs, ep, e, hr, q⟩ => ?_
 subst e
 cases r1
 obtain ⟨_, hd, vs, rel, dd⟩ := A3 I1.dJ hr
 refine wpAny_pyIter_dict hd dd ?_
 refine ⟨s1.heap.objs.size, [s1.heap.objs.size], _, _, H1, rfl, I1.kept (t' := s1.toks) fun b o e => Heap.get?_push_of_some _ e, CQ a _ kvs ep, ⟨_, Heap.get?_push_size _ rfl, rfl, by rw [show kvs.length = vs.length from Paired.length rel]; rfl⟩, fun b hb => ?_, q⟩
 have e : b = s1.heap.objs.size := by simpa using hb
 subst e
 exact I1.zT (Nat.le_refl _) (I1.dJ.fresh (Nat.le_refl _))
end
end L2
namespace Mr
open PySem PySem.Spec L2 PyProof.Rows
section
variable {K : PySem.W.Frag}
noncomputable def yF : PV → Option (List (Key × PV))
 | .cC kvs => some kvs
 | _ => none
theorem mE {p : PV} {kvs : List (Key × PV)} (h : yF p = some kvs) : p = .cC kvs := by
 cases p with
 | cC k => cases h; rfl
 | _ => cases h
noncomputable def uN (f : FE) (st : Nat → Bool) (e : En) : Option (List (Key × PV) × En) := bE (f e) fun b e1 => match b with
 | .slot i => match e1[i]? with
  | some (some (.bor p)) => bO (yF p) fun ps => some (ps, e1)
  | some (some (.own p)) => aU (st i) (bO (yF p) fun ps => some (ps, e1))
  | some (some (.loc p)) => aU (st i) (bO (yF p) fun ps => some (ps, e1))
  | _ => none
 | .val p => bO (yF p) fun ps => some (ps, e1)
 | .new p => bO (yF p) fun ps => some (ps, e1)
theorem EL {t : TE} {f : FE} (h : Ref K t f) {st : Nat → Bool} {O M L : aO} {W : WS} {σ : L2.St} {H : Hp} {e e' : En} {kvs : List (Key × PV)} {Q : VK} (o : kB O M W L H) (he : aY K (bM M L) W L H σ e) (hf : uN f st e = some (kvs, e'))
  (q : ∀ a ys ep H1, cZ W L H H1 → aY K (bM M L) W L H1 σ e' → Rd H1 a (.dK ys ep) → fB K (bM M L) H1 kvs ys →
   (∀ Wr : aO, (∀ a, Wr a → aw W a ∨ L a) → (∀ (i : Nat) a s, st i = true → e'[i]? = some (some s) → s.eA = true → σ[i]? = some (some (.ref a)) → ¬ Wr a) → ¬ Wr a) → Q (.ref a) H1) : t σ H Q := by
 obtain ⟨x, e1, f1, hf⟩ := aS hf
 refine h O M W L σ H e e1 x _ o he f1 fun v H1 k1 rb fr => ?_
 have o1 := o.keep k1.dR
 have en := rb.en o1
 have vals : ∀ p, Rep K (bM M L) H1 p v → yF p = some kvs → e1 = e' → Q v H1 := fun p hp hi ee => by
  subst ee
  have := mE hi
  subst this
  cases hp with
  | cC ha n ek r => exact q _ _ _ H1 k1 en ha ⟨ek, r⟩ fun Wr hw _ z => n ((hw _ z).elim (fun ⟨i, w⟩ => .inl (o.wm i _ w)) .inr)
 cases x with
 | val p =>
  obtain ⟨ps', g, hf⟩ := aI hf
  cases hf
  exact vals p rb.2 g rfl
 | new p =>
  obtain ⟨ps', g, hf⟩ := aI hf
  cases hf
  exact vals p (rb.weak o1).2 g rfl
 | slot i =>
  dsimp only at hf
  cases c : e1[i]? with
  | none => rw [c] at hf; cases hf
  | some s =>
   cases s with
   | none => rw [c] at hf; cases hf
   | some s =>
    rw [c] at hf
    obtain ⟨u, hu, sr⟩ := rb.1.at' i s c
    have := rb.2
    rw [hu] at this
    cases this
    cases s with
    | val p => cases hf
    | bor p =>
     obtain ⟨ps', g, hf⟩ := aI hf
     cases hf
     have := mE g
     subst this
     obtain ⟨a, rfl, lt⟩ := sr
     cases lt with
     | cC ha od n m ek r => exact q _ _ _ H1 k1 en ha ⟨ek, r⟩ fun Wr hw _ z => (hw _ z).elim n m
    | own p =>
     obtain ⟨hst, hf⟩ := aT hf
     obtain ⟨ps', g, hf⟩ := aI hf
     cases hf
     have := mE g
     subst this
     obtain ⟨a, rfl, w, ct⟩ := sr
     cases ct with
     | cC ha ek r => exact q _ _ _ H1 k1 en (.inl ha) ⟨ek, r⟩ fun Wr hw hs => hs i a _ hst c rfl hu
    | loc p =>
     obtain ⟨hst, hf⟩ := aT hf
     obtain ⟨ps', g, hf⟩ := aI hf
     cases hf
     have := mE g
     subst this
     obtain ⟨a, rfl, w, ct⟩ := sr
     cases ct with
     | cC ha ek r => exact q _ _ _ H1 k1 en (.inl ha) ⟨ek, r⟩ fun Wr hw hs => hs i a _ hst c rfl hu
theorem J2 {Z : aO} {H : Hp} (k : Key) : Rep K Z H (tJ k) (kV k) := by
 cases k with
 | inl i => exact .int i
 | inr x => exact .str x
theorem I0 {H H' : Hp} {Wr : aO} {a : Addr} {u : HO} (h : Rd H a u) (k1 : ∀ a o, H a = some o → ¬ Wr a → H' a = some o) (n : ¬ Wr a) : Rd H' a u := by
 rcases h with h | ⟨o, h⟩
 ·exact .inl (k1 _ _ h n)
 ·exact .inr ⟨o, k1 _ _ h n⟩
theorem fB.at {Z : aO} {H : Hp} {kvs : List (Key × PV)} {ys : List (Key × V)} (r : fB K Z H kvs ys) {i : Nat} {z : Key × PV} (h : kvs[i]? = some z) : ∃ y, ys[i]? = some y ∧ y.1 = z.1 ∧ Rep K Z H z.2 y.2 := by
 obtain ⟨r1, r2⟩ := r
 obtain ⟨v, hv, rv⟩ := r2.get (i := i) (p := z.2) (by rw [List.getElem?_map, h]; rfl)
 rw [List.getElem?_map] at hv
 cases c : ys[i]? with
 | none => rw [c] at hv; cases hv
 | some y =>
  rw [c] at hv
  cases hv
  have e := congrArg (·[i]?) r1
  simp only [List.getElem?_map, c, h] at e
  exact ⟨y, rfl, Option.some.inj e, rv⟩
theorem fB.len {Z : aO} {H : Hp} {kvs : List (Key × PV)} {ys : List (Key × V)} (r : fB K Z H kvs ys) : kvs.length = ys.length := by
 have := congrArg List.length r.1
 simpa using this.symm
noncomputable def xY (f : FE) : FI := fun st e => bO (uN f st e) fun z => some (z.1.map fun kv => tJ kv.1, z.2)
theorem y0 {t : TE} {f : FE} (h : Ref K t f) : xV K (MN t) (xY f) := by
 intro st O M W L σ H e e' ps R o he hf q
 obtain ⟨⟨kvs, e1⟩, g1, hf⟩ := aI hf
 cases hf
 refine EL h o he g1 fun a ys ep H1 k1 en rd r nw => ⟨a, ys, ep, rfl, rd, q _ H1 k1 en fun Wr hw hs => ?_⟩
 intro L' H' c1 c2 c3
 have rd' := I0 rd c1 (nw Wr hw hs)
 refine ⟨fun k p hp => ?_, rd', by rw [List.length_map]; exact r.len⟩
 rw [List.getElem?_map] at hp
 cases c : kvs[k]? with
 | none => rw [c] at hp; cases hp
 | some z =>
  rw [c] at hp
  cases hp
  obtain ⟨y, hy, ey, _⟩ := r.at c
  refine ⟨⟨rd', (List.getElem?_eq_some_iff.mp hy).1⟩, fun x H3 yl => ?_⟩
  obtain ⟨e, yl⟩ := yl
  subst e
  rw [yl y hy, ey]
  exact ⟨bG.refl _, J2 _⟩
noncomputable def QM (f : FE) : FI := fun st e => bO (uN f st e) fun z => some (bN z.1, z.2)
end
end Mr
namespace Mr
open PySem L2
section
variable {K : PySem.W.Frag}
noncomputable def qB (fa fb : FE) : FE := fun e => bE (fa e) fun x e1 => bO (x.weak.get e1) fun p1 => match p1 with
 | .lst _ => bE (fb e1) fun y e2 => bO (x.weak.get e2) fun p => bO (y.weak.get e2) fun q => bO (mB p [q]) fun b => some (b, e2)
 | _ => none
theorem AE {ta tb : TE} {fa fb : FE} (ha : Ref K ta fa) (hb : Ref K tb fb) : Ref K (TB K "list" (uR K) ta (fF tb zP)) (qB fa fb) := by
 intro O M W L σ H e e' b Q o he hf q
 obtain ⟨x, e1, f1, hf⟩ := aS hf
 obtain ⟨p1, g0, hf⟩ := aI hf
 cases p1 with
 | lst ps1 =>
  obtain ⟨y, e2, f2, hf⟩ := aS hf
  obtain ⟨p, g1, hf⟩ := aI hf
  obtain ⟨p', g2, hf⟩ := aI hf
  obtain ⟨c, g3, hf⟩ := aI hf
  cases hf
  refine ha O M W L σ H e e1 x _ o he f1 fun v1 H1 k1 r1 fr => ?_
  have o1 := o.keep k1.dR
  obtain ⟨a1, ys1, e11, ha1, _⟩ := ((r1.rv o1).red (r1.en o1) g0).p7
  refine ⟨by rw [e11]; exact .inl ⟨rfl, ys1, ha1.sq⟩, ?_⟩
  refine hb O M W L σ H1 e1 _ y _ o1 (r1.en o1) f2 fun v2 H2 k2 r2 fr => ?_
  have o2 := o1.keep k2.dR
  have en := r2.en o2
  have rp := ((r1.rv o1).keep o1 k2).red en g1
  have rq := (r2.rv o2).red en g2
  refine CV _ H2 v1 [v2] p [p'] _ Q rp (.cons rq .nil) g3 fun v H' s rn => ?_
  exact q v H' ((k1.trans k2).trans (.same s)) (rn.rb o2 en s) (rn.fr (k1.trans k2).dR)
 | _ => cases hf
end
end Mr
namespace L2
open PySem PyProof.Rows
section
variable {X : Cx}
end
end L2
namespace Mr
open PySem L2
section
variable {K : PySem.W.Frag}
noncomputable def zB (k : Str) : FE := fun e => some (.new (.cC [(.inr k, .aZ)]), e)
theorem CD {k : Str} : Ref K (MS [(fun _ H Q => Q (.str k) H, fun _ H Q => Q .aZ H)]) (zB k) := by
 intro O M W L σ H e e' b Q o he hf q
 cases hf
 intro p hp
 refine ⟨cG, [(.inr k, .aZ)], rfl, by show 1 ≤ 15; decide, fun ep => ?_⟩
 rw [K6]
 have s : bG H (upd H p (.dK (oU [] [(.inr k, .aZ)]) ep)) := bG.upd hp
 exact q _ _ (.same s) ⟨p, rfl, fun z => o.old p z hp, fun z => (o.loc p z).1 hp, (he.new s hp).1, (he.new s hp).2, .cC cG rfl (.cons .aZ .nil)⟩ fun a e => by cases e; exact hp
end
end Mr
namespace L2
open PySem Mr
section
variable {X : Cx} {es : List Expr} {t : TA} {r : R2} {i : Nat} {x : Str} {pos' q pos p2 p3 : Pos}
end
end L2
namespace Mr
open PySem L2
section
variable {K : PySem.W.Frag}
noncomputable def V2 (t : TE) : Prop := ∀ (σ σ' : L2.St) (H : Hp) (Q Q' : VK), (∀ v H', Q v H' → Q' v H') → t σ H Q → t σ' H Q'
theorem EC : V2 u7 := fun _ _ _ _ _ k h p hp => k _ _ (h p hp)
theorem T8 {v : V} : V2 (fun _ H Q => Q v H) := fun _ _ _ _ _ k h => k _ _ h
theorem G1 {i j : Nat} {ta tb : TE} {fa fb : FS} (ia : V2 ta) (ib : V2 tb) (ha : iY K (tF ta (nH i)) fa) (hb : iY K (tF tb (nH j)) fb) : iY K (TC i j (fF ta (fF tb zP))) (bF fa fb) := by
 intro O M W L σ H e r D o he hf q
 have k := aN ha hb O M W L σ H e r D o he hf q
 exact ia _ σ _ _ _ (fun x H1 k1 => ib _ σ _ _ _ (fun y H2 k2 => ⟨_, _, rfl, k2⟩) k1) k
end
end Mr
namespace L2
open PySem PySem.Spec PyProof.Rows PySem.W
section
variable {prog : Program} {w : World} {A : Around}
end
section
variable {X : Cx} {k : Nat}
open Mr
end
end L2
namespace Mr
open PySem L2
section
variable {K : PySem.W.Frag}
end
end Mr
namespace L2
open PySem PySem.Spec PyProof.Rows
section
variable {prog : Program} {w : World} {A : Around} {E : Value → Shared → Prop} {s : Shared}
theorem DG {Q : Int → Shared → Prop} (h : Q 0xFCA86420 { s with toks := s.toks + 1 }) : wpAny (model prog w) A (pyHash .none) Q E s := by
 unfold pyHash
 have hv : [Value.none].any Value.onHeap = false := rfl
 refine wpAny_bind ?_
 rw [cRoomFor, if_neg (by rw [hv]; exact Bool.false_ne_true)]; refine wpAny_pure ?_
 refine wpAny_bind (wpAny_specialOf (typeIs_none s) F.slot_NoneType_hash.lookup ?_)
 show wpAny _ _ (if (some (Value.builtin "NoneType.__hash__") == some Value.none) = true then _ else _) Q E s
 rw [if_neg (by rw [beq_builtin_none]; exact Bool.false_ne_true)]
 refine wpAny_bind (wpAny_specialOf (typeIs_none s) F.slot_NoneType_hash.lookup ?_)
 show wpAny _ _ (callSpecialIfBoundUnlessNone? .none "__hash__" _ >>= _) Q E s
 refine wpAny_bind (wpAny_callSpecialIfBoundUnlessNone?_slot (typeIs_none s) F.slot_NoneType_hash
  (wpAny_call_entry F.slot_NoneType_hash (typeIs_none s) F.entry_NoneType_hash
   (show wpAny _ _ (do ret (← mkInt 0xFCA86420)) _ _ s from wpAny_ret_mkInt ?_) (F.args_NoneType_hash_1 _)))
 exact wpAny_pure h
end
theorem KY {prog : Program} {w : World} {A : Around} {E : Value → Shared → Prop} {s : Shared} {Q : Bool → Shared → Prop} (h : Q true s) : wpAny (model prog w) A (eqBool .none .none) Q E s := by
 unfold eqBool
 refine wpAny_holding ?_
 rw [if_pos (by rfl)]
 exact wpAny_bind (wpAny_rule (wpAny_pure h))
noncomputable def SQ : Option Key → Value → Bool
 | some k, v => jH k v
 | none, v => match v with | .none => true | _ => false
theorem fK {v : Value} (h : SQ none v = true) : v = .none := by
 cases v <;> first | rfl | cases h
theorem vD {k : Key} (h : jH k .none = true) : False := by
 rcases cK h with ⟨_, _, _, e⟩ | ⟨_, _, _, e⟩ <;> cases e
noncomputable def GZ (prog : Program) (w : World) : PySem.KeyKind prog w (Option Key) where
 is := SQ
 hash := fun k => match k with | some k => UL w k | none => 0xFCA86420
 inj := fun v a b ha hb => by
  cases a with
  | none =>
   cases fK ha
   cases b with
   | none => rfl
   | some b => exact (vD hb).elim
  | some a =>
   cases b with
   | none => cases fK hb; exact (vD ha).elim
   | some b => rw [(cN prog w).inj v a b ha hb]
 byValue := fun k v h => by
  cases k with
  | none => cases fK h; rfl
  | some k => exact (cN prog w).byValue k v h
 pyHash := fun {A E s k v Q} hv h => by
  cases k with
  | none => cases fK hv; exact DG h
  | some k => exact (cN prog w).pyHash (k := k) hv h
 eqBool := fun {A E s a b u v Q} hu hv h => by
  cases a with
  | none =>
   cases fK hu
   cases b with
   | none =>
    cases fK hv
    rw [decide_eq_true rfl] at h
    exact KY h
   | some b =>
    rw [decide_eq_false (fun e => nomatch e)] at h
    rcases cK (show jH b v = true from hv) with ⟨i, t, rfl, rfl⟩ | ⟨x, t, rfl, rfl⟩
    ·exact SeqAt.EqAt.none_int i t _ _ _ _ h
    ·exact SeqAt.EqAt.none_str x t _ _ _ _ h
  | some a =>
   cases b with
   | none =>
    cases fK hv
    rw [decide_eq_false (fun e => nomatch e)] at h
    rcases cK (show jH a u = true from hu) with ⟨i, t, rfl, rfl⟩ | ⟨x, t, rfl, rfl⟩
    ·exact SeqAt.EqAt.int_none i t _ _ _ _ h
    ·exact SeqAt.EqAt.str_none x t _ _ _ _ h
   | some b =>
    refine (cN prog w).eqBool (a := a) (b := b) hu hv ?_
    have e : decide (some a = some b) = decide (a = b) := by
     by_cases q : a = b
     ·subst q; simp
     ·rw [decide_eq_false q, decide_eq_false fun z => q (Option.some.inj z)]
    rw [← e]
    exact h
 «strs» := fun k x t v h => by
  cases k with
  | none => cases fK h
  | some k => exact (cN prog w).strs k x t v h
theorem XR {prog : Program} {w : World} {h : Heap} {a : Addr} {vs : List (Key × Value)} (d : h.DictOf (cN prog w) a vs) : ∃ f, h.MapOf (GZ prog w) a f ∧ f none = none := by
 obtain ⟨o, es, ep, h1, h2, h3, h4, h5, h6⟩ := d
 refine ⟨fun k => findBy (GZ prog w).is es k, ⟨o, es, ep, h1, h2, h3, fun e he => ?_, fun _ => rfl⟩, ?_⟩
 ·obtain ⟨k, k1, k2⟩ := h4 e he
  exact ⟨some k, k1, k2⟩
 ·have : es.find? (fun e => (GZ prog w).is none e.key) = none := by
   rw [Array.find?_eq_none]
   intro e he hn
   obtain ⟨k, k1, _⟩ := h4 e he
   have e2 : e.key = .none := fK hn
   rw [e2] at k1
   exact vD k1
  show (es.find? (fun e => (GZ prog w).is none e.key)).map (·.val) = none
  rw [this]
  rfl
section
variable {X : Cx} {pins : List (Addr × Obj)} {σ : L2.St} {H : Hp} {s : Shared} {a : Addr} {A : Around} {E : Value → Shared → Prop}
theorem QO {kvs : List (Key × V)} {Q : Value → Shared → Prop} (I : Inv X pins σ H s) (g : zS H a kvs) (h : ∀ s', Inv X pins σ H s' → Q .none s') : wpAny (model X.prog X.w) A (call (.builtin "dict.get") [.ref a, .none]) Q E s := by
 obtain ⟨z, hd, vs, rel, dd⟩ := kZ I.dJ g
 obtain ⟨f, mf, fn⟩ := XR dd
 refine call_meetsIn PySem.F.slot_dict_get dd.typeIs PySem.F.entry_dict_get (PySem.F.args_dict_get_2 _ _) (meets_dict_get (GZ X.prog X.w) a (k := none) (key := .none) rfl hd) ⟨f, mf, ?_⟩
 rw [fn]
 exact h _ (I.tok _)
end
noncomputable def IC (td ty : TE) : TE := fun σ H Q => td σ H fun x H1 => ∃ a, x = .ref a ∧ WG H1 a ∧ ty σ H1 fun y H2 => (∃ o, p6 H2 a y o ∧ Q (o.getD .aZ) H2) ∨ (y = .aZ ∧ (∃ kvs, zS H2 a kvs) ∧ Q .aZ H2)
theorem HK {X : Cx} {o e : Expr} {apos cpos : Pos} {td ty : TE} (hu : X.A.units + 1 < cLine) (ho : PE X o td) (he : PE X e ty) (m : M1 X o "get" apos e cpos) : PE X (.Call (.Attribute o "get" apos) [e] [] cpos) (IC td ty) := by
 intro pins s σ H Q I h
 refine wpAny_Call_method m.base m.S4 m.line PySem.F.plainAttrs_dict PySem.F.slot_dict_get PySem.F.type_dict_get (d6 (ho pins s σ H _ I h) fun u s1 ⟨x, H1, I1, rx, a, ex, d, q1⟩ => ?_)
 subst ex
 obtain rfl : u = Value.ref a := rx
 obtain ⟨t1, t2, _⟩ := HZ I1 d
 refine ⟨t1, t2, ?_⟩
 rw [m.trees]
 refine Calls.callWith_builtin rfl (Calls.evalArgs_plain (Calls.spliced_cons (d6 (he pins s1 σ H1 _ I1 q1) fun iv s2 ⟨y, H2, I2, ry, q2⟩ => Calls.spliced_nil ?_)))
 rcases q2 with ⟨ov, g, q2⟩ | ⟨rfl, ⟨kvs, g⟩, q2⟩
 ·exact E3 hu I2 g ry fun w' s3 I3 rw' => ⟨_, H2, I3, rw', q2⟩
 ·cases ry
  exact QO I2 g fun s3 I3 => ⟨.aZ, H2, I3, rfl, q2⟩
end L2
namespace Mr
open PySem L2
section
variable {K : PySem.W.Frag}
noncomputable def GW (fa fb : FE) : FE := fun e => bE (fa e) fun x e1 => bO (x.weak.get e1) fun p1 => match p1 with
 | .cC _ => bE (fb e1) fun y e2 => bO (x.weak.get e2) fun p => bO (y.weak.get e2) fun q => match p, q with
  | .cC _, .aZ => some (.val .aZ, e2)
  | p, q => bO (w8 p q) fun b => some (b, e2)
 | _ => none
theorem EZ {ta tb : TE} {fa fb : FE} (ha : Ref K ta fa) (hb : Ref K tb fb) : Ref K (IC ta tb) (GW fa fb) := by
 intro O M W L σ H e e' b Q o he hf q
 obtain ⟨x, e1, f1, hf⟩ := aS hf
 obtain ⟨p1, g0, hf⟩ := aI hf
 cases p1 with
 | cC kvs1 =>
  obtain ⟨y, e2, f2, hf⟩ := aS hf
  obtain ⟨p, g1, hf⟩ := aI hf
  obtain ⟨p', g2, hf⟩ := aI hf
  refine ha O M W L σ H e e1 x _ o he f1 fun v1 H1 k1 r1 fr => ?_
  have o1 := o.keep k1.dR
  obtain ⟨a1, ys1, e11, ha1, _, _⟩ := ((r1.rv o1).red (r1.en o1) g0).sY
  refine ⟨a1, e11, .inl ⟨ys1, ha1⟩, ?_⟩
  refine hb O M W L σ H1 e1 _ y _ o1 (r1.en o1) f2 fun v2 H2 k2 r2 fr => ?_
  have o2 := o1.keep k2.dR
  have en := r2.en o2
  have rp := ((r1.rv o1).keep o1 k2).red en g1
  have rq := (r2.rv o2).red en g2
  split at hf
  ·cases hf
   obtain ⟨a, ys, e3, ha', ek, r⟩ := rp.sY
   rw [e11] at e3
   cases e3
   exact .inr ⟨rq.aZ, ⟨ys, ha'⟩, q _ H2 (k1.trans k2) ⟨en, .aZ⟩ trivial⟩
  ·obtain ⟨c, g3, hf⟩ := aI hf
   cases hf
   cases p with
   | cC kvs =>
    obtain ⟨key, g4, g3⟩ := aI g3
    cases g3
    obtain ⟨a, ys, e3, ha', ek, r⟩ := rp.sY
    rw [e11] at e3
    cases e3
    refine .inl ⟨iT ys key, .inl ⟨ys, key, ha', rq.key g4, rfl⟩, ?_⟩
    refine q _ H2 (k1.trans k2) ?_ ?_
    ·refine ⟨en, ?_⟩
     rcases fB.val key ⟨ek, r⟩ with ⟨h1, h2⟩ | ⟨p'', v', h1, h2, h3⟩
     ·rw [h1, h2]; exact .aZ
     ·rw [h1, h2]; exact h3
    ·trivial
   | _ => cases g3
 | _ => cases hf
end
end Mr
namespace My
open PySem L2 Mr
noncomputable def mW : FS := (bF (fZ 1 n0)
  (bF (fZ 2 (eZ aM))
  (bF (kU (xY (aF 0)) (bX 3) (bF (fZ 4 (eZ aM))
  (bF (dY 5 (aF 3))
  (bF (lS (pU (bH (bD (IP true) (aF 5) (fC .aZ))) (bH (bD (KG true) (aF 5) (aF 1)))) (bF (kY 1 (aF 5) (aF 3))
  (bF (sT 4 (aF 5))
  (dY 5 (BC (aF 0) (aF 5))))) 1000)
  (mR (pU (bH (bD (IP true) (aF 5) (fC .aZ))) (bH (bD tI (bD fX (aF 1) (aF 5)) (aF 3)))) (sT 2 (uE tY (aF 4) (gR (qB (aF 4) (aF 5))) dF)) dQ)))))
  (d7 (aF 2)))))
noncomputable def gQ : FN := tW [.b] 5 false mW
noncomputable def oK : FS := (bF (mR (vP (kT (bH (gL g8 (aD (aF 0) (aD (fC (.ty "str")) aM))))) (kT (bH (AD SI SI (fC (.int 1)) (gL gY (aD (aF 0) aM)) (fC (.int 12)))))) (d7 (fC (.bl false))) dQ)
  (d7 (gL vE (aD (j6 (B4 (aF 0)) 1 [] [] (bX 0) iJ (bD (KG false) (aF 0) (fC (.str "abcdefghijklmnopqrstuvwxyz0123456789")))) aM))))
noncomputable def hE : FN := tW [.b] 0 false oK
noncomputable def uS : FS := (d7 (gL vE (aD (j6 (o9 (aD (bD Mr.zR (gL gY (aD (aF 0) aM)) (fC (.int 1))) aM)) 1 [0] [] (bX 0) iJ (bD SK (bD fX (aF 1) (aF 0)) (bD fX (aF 1) (bD d4 (aF 0) (fC (.int 1)))))) aM)))
noncomputable def lG : FN := tW [.b] 0 false uS
noncomputable def mV : FS := (bF (dY 2 (IT (bH (bD SK (aF 1) (gL gY (aD (aF 0) aM)))) (bD fX (aF 0) (aF 1)) (fC (.int 0))))
  (bF (dY 3 (IT (bH (bD V6 (aF 2) (bD p8 (fC (.int 10)) (fC (.int 18))))) (bD kJ (aF 2) (bD pN (bD pN (bD pN (bD p8 (fC (.int 10)) (fC (.int 60))) (bD p8 (fC (.int 10)) (fC (.int 60)))) (bD p8 (fC (.int 10)) (fC (.int 60)))) (bD p8 (fC (.int 10)) (fC (.int 60))))) (fC (.int 0))))
  (d7 (eZ (aD (aF 3) (aD (bD kJ (bD nV (bD d4 (bD d4 (bD kJ (aF 2) (fC (.int 2305843009213693951))) (bD nV (bD nV (fC (.int 7919)) (aF 1)) (aF 1))) (fC (.int 3))) (fC (.int 48271))) (fC (.int 2305843009213693921))) (aD (fC (.int 0)) aM)))))))
noncomputable def gO : FN := tW [.b, .b] 2 true mV
noncomputable def m8 : FS := (bF (mR (bH (bD D0 (bD fX (aF 0) (fC (.int 0))) (fC (.int 0)))) (bF (dY 2 (bD kJ (bD fX (aF 0) (fC (.int 0))) (aF 1)))
  (bF (uY 0 (fC (.int 0)) (bD zH (bD fX (aF 0) (fC (.int 0))) (aF 1)))
  (d7 (aF 2)))) dQ)
  (bF (uY 0 (fC (.int 2)) (bD d4 (bD fX (aF 0) (fC (.int 2))) (fC (.int 1))))
  (bF (dY 3 (bD kJ (bD nV (bD d4 (bD d4 (bD fX (aF 0) (fC (.int 1))) (bD nV (bD nV (fC (.int 65537)) (bD fX (aF 0) (fC (.int 2)))) (bD fX (aF 0) (fC (.int 2))))) (fC (.int 11))) (fC (.int 48271))) (fC (.int 2305843009213693921))))
  (bF (dY 3 (bD kJ (bD nV (aF 3) (bD d4 (bD kJ (aF 3) (fC (.int 1000003))) (bD nV (fC (.int 99991)) (bD fX (aF 0) (fC (.int 2)))))) (fC (.int 2305843009213693907))))
  (d7 (bD kJ (bD d4 (bD zH (aF 3) (fC (.int 97))) (bD zH (aF 3) (fC (.int 1000033)))) (aF 1)))))))
noncomputable def aQ : FN := tW [.m, .b] 2 false m8
noncomputable def m6 : FS := (bF (mR (vP (kT (bH (gL g8 (aD (aF 0) (aD (fC (.ty "str")) aM))))) (vP (bH (bD SK (gL gY (aD (aF 0) aM)) (fC (.int 1)))) (bH (bD D0 (gL gY (aD (aF 0) aM)) (fC (.int 12)))))) (d7 (fC (.bl false))) dQ)
  (d7 (gL vE (aD (j6 (B4 (aF 0)) 1 [] [] (bX 0) iJ (bD (KG false) (aF 0) (fC (.str "abcdefghijklmnopqrstuvwxyz0123456789")))) aM))))
noncomputable def eF : FN := tW [.b] 0 false m6
noncomputable def kE : FS := (bF (kU (xY (aF 0)) (bX 1) (bF (dY 2 (bD fX (aF 0) (aF 1)))
  (kU (o9 (aD (gL FZ (aD (aF 0) aM)) aM)) (bX 3) (bF (mR (bH (bD tI (aF 2) (aF 1))) (d7 (fC (.bl true))) dQ)
  (dY 2 (GW (aF 0) (aF 2)))))))
  (d7 (fC (.bl false))))
noncomputable def eX : FN := tW [.b] 3 false kE
noncomputable def o8 : FS := (bF (mR (vP (kT (bH (gL g8 (aD (aF 0) (aD (fC (.ty "tuple")) aM))))) (vP (bH (bD L8 (gL gY (aD (aF 0) aM)) (fC (.int 2)))) (kT (bH (bQ [.b] false hE (aD (bD fX (aF 0) (fC (.int 0))) aM)))))) (d7 (fC (.bl false))) dQ)
  (d7 (N0 (bD (IP false) (bD fX (aF 0) (fC (.int 1))) (fC .aZ)) (rV (bQ [.b] false hE (aD (bD fX (aF 0) (fC (.int 1))) aM)) (bD L8 (bD fX (aF 0) (fC (.int 1))) (bD fX (aF 0) (fC (.int 0))))))))
noncomputable def h9 : FN := tW [.b] 0 false o8
noncomputable def m4 : FS := (d7 (bD L8 (bQ [.b] false gQ (aD (sO (B4 (aF 0)) 2 [] [] (rN 2 (iN (bX 0) (iN (bX 1) sQ))) iJ (aF 0) (aF 1)) aM)) (eZ aM)))
noncomputable def iH : FN := tW [.b] 0 false m4
noncomputable def lM : FS := (bF (fZ 2 (eZ aM))
  (bF (kU (o9 (aD (aF 1) aM)) (bX 3) (bF (dY 4 (bD fX (eZ (aD (fC (.int 1)) (aD (fC (.int 1)) (aD (fC (.int 2)) (aD (fC (.int 3)) (aD (fC (.int 12)) (aD (bD d4 (fC (.int 1)) (bD kJ (aF 3) (fC (.int 12)))) aM))))))) (bQ [.m, .b] false aQ (aD (aF 0) (aD (fC (.int 6)) aM)))))
  (bF (dY 5 (X8 x5 (fC (.str "")) (aD (j6 (o9 (aD (aF 4) aM)) 1 [0] [(0, 1)] (bX 0) iJ (bD fX (fC (.str "abcdefghijklmnopqrstuvwxyz0123456789")) (bQ [.m, .b] false aQ (aD (aF 1) (aD (fC (.int 36)) aM))))) aM)))
  (bF (mR (bH (bD (KG false) (aF 5) (aF 2))) (dY 5 (bD fX (j6 (o9 (aD (bD d4 (gL gY (aD (aF 2) aM)) (fC (.int 1))) aM)) 1 [2] [] (bX 0) (bH (bD (KG true) (gL w9 (aD (aF 0) aM)) (aF 1))) (gL w9 (aD (aF 0) aM))) (fC (.int 0)))) dQ)
  (sT 2 (aF 5))))))
  (d7 (aF 2))))
noncomputable def fO : FN := tW [.m, .b] 4 false lM
noncomputable def oY : FS := (bF (mR (kT (bH (gL g8 (aD (aF 0) (aD (fC (.ty "tuple")) aM))))) (d7 (fC (.bl false))) dQ)
  (bF (bF (fZ 1 n0) (dY 2 (fC (.str ""))))
  (bF (kU (B4 (aF 0)) (bX 3) (bF (mR (vP (kT (bH (gL g8 (aD (aF 3) (aD (fC (.ty "tuple")) aM))))) (vP (bH (bD L8 (gL gY (aD (aF 3) aM)) (fC (.int 2)))) (vP (kT (bH (bQ [.b] false eF (aD (bD fX (aF 3) (fC (.int 0))) aM)))) (bH (bD SI (bD fX (aF 3) (fC (.int 0))) (aF 2)))))) (d7 (fC (.bl false))) dQ)
  (bF (mR (pU (bH (bD (IP true) (bD fX (aF 3) (fC (.int 1))) (fC .aZ))) (vP (kT (bH (bQ [.b] false eF (aD (bD fX (aF 3) (fC (.int 1))) aM)))) (bH (bD tI (bD fX (aF 3) (fC (.int 1))) (bD fX (aF 3) (fC (.int 0))))))) (d7 (fC (.bl false))) dQ)
  (bF (dY 2 (bD fX (aF 3) (fC (.int 0))))
  (kY 1 (aF 2) (bD fX (aF 3) (fC (.int 1))))))))
  (d7 (xW (bQ [.b] false eX (aD (aF 1) aM)))))))
noncomputable def eK : FN := tW [.b] 3 false oY
noncomputable def oO : FS := (bF (fZ 2 (eZ (aD (fC .aZ) (aD (fC (.bl true)) (aD (fC (.int 5)) (aD (fC (.str "")) (aD (fC (.str "A")) (aD (fC (.str "a b")) (aD (fC (.str "abcdefghijklm")) (aD (fC (.str "abcdefghijkl")) (aD (fC (.str "a-")) (aD (iU (aD (fC (.str "a")) aM)) (aD (eZ (aD (fC (.str "a")) aM)) (aD (WZ QP (fC (.int 1))) (aD (aF 1) (aD (fC (.str "z")) (aD (fC (.int 0)) aM)))))))))))))))))
  (bF (sT 2 (bD d4 (fC (.str "a")) (aF 1)))
  (d7 (bD fX (aF 2) (bQ [.m, .b] false aQ (aD (aF 0) (aD (gL gY (aD (aF 2) aM)) aM)))))))
noncomputable def hZ : FN := tW [.m, .v] 1 false oO
noncomputable def o7 : FS := (bF (fZ 1 (eZ (aD (fC .aZ) (aD (fC (.bl true)) (aD (fC (.bl false)) (aD (fC (.int 0)) (aD (fC (.int 7)) (aD (fC (.str "")) (aD (fC (.str "ab")) (aD (eZ aM) (aD (iU aM) (aD (eZ (aD (iU (aD (fC (.str "a")) (aD (fC .aZ) aM))) aM)) (aD (iU (aD (fC (.str "a")) (aD (fC .aZ) aM))) (aD (iU (aD (iU aM) aM)) (aD (iU (aD (iU (aD (fC (.str "a")) (aD (fC .aZ) aM))) (aD (iU aM) aM))) (aD n0 aM))))))))))))))))
  (bF (sT 1 (zB "a"))
  (bF (dY 2 (bD fX (aF 1) (bQ [.m, .b] false aQ (aD (aF 0) (aD (gL gY (aD (aF 1) aM)) aM)))))
  (bF (kU (o9 (aD (bD nV (bQ [.m, .b] false aQ (aD (aF 0) (aD (fC (.int 2)) aM))) (bQ [.m, .b] false aQ (aD (aF 0) (aD (fC (.int 24)) aM)))) aM)) (bX 3) (dY 2 (IT (bH (bD D0 (bD kJ (aF 3) (fC (.int 3))) (fC (.int 0)))) (iU (aD (aF 2) aM)) (iU (aD (iU (aD (fC (.str "b")) (aD (aF 2) aM))) aM)))))
  (d7 (aF 2))))))
noncomputable def hJ : FN := tW [.m] 3 false o7
noncomputable def i3 : FS := (bF (mR (vP (kT (bH (gL g8 (aD (aF 0) (aD (fC (.ty "tuple")) aM))))) (kT (bH (gL vE (aD (j6 (B4 (aF 0)) 1 [] [] (bX 0) iJ (bQ [.b] false h9 (aD (aF 0) aM))) aM))))) (d7 (fC (.bl false))) dQ)
  (d7 (rV (bQ [.b] false lG (aD (j6 (B4 (aF 0)) 2 [] [] (rN 2 (iN (bX 0) (iN (bX 1) sQ))) iJ (aF 0)) aM)) (xW (bQ [.b] false iH (aD (aF 0) aM))))))
noncomputable def cW : FN := tW [.b] 0 false i3
noncomputable def mX : FS := (bF (mR (bH (bD tI (aF 1) (fC (.int 0)))) (bF (dY 2 (bQ [.m, .b] false fO (aD (aF 0) (aD (bD d4 (fC (.int 1)) (bQ [.m, .b] false aQ (aD (aF 0) (aD (fC (.int 12)) aM)))) aM))))
  (bF (fZ 3 n0)
  (bF (kU (B4 (aF 2)) (bX 4) (bF (dY 5 (bD fX (aF 2) (bQ [.m, .b] false aQ (aD (aF 0) (aD (gL gY (aD (aF 2) aM)) aM)))))
  (kY 3 (aF 4) (IT (vP (bH (bD tI (aF 5) (aF 4))) (bH (bD tI (bQ [.m, .b] false aQ (aD (aF 0) (aD (fC (.int 2)) aM))) (fC (.int 0))))) (fC .aZ) (aF 5)))))
  (d7 (vW (aF 3)))))) dQ)
  (bF (dY 6 (bD fX (eZ (aD (fC (.int 40)) (aD (bD d4 (fC (.int 1)) (bQ [.m, .b] false aQ (aD (aF 0) (aD (fC (.int 12)) aM)))) aM))) (gL BU (aD (bD D0 (bQ [.m, .b] false aQ (aD (aF 0) (aD (fC (.int 8)) aM))) (fC (.int 0))) aM))))
  (bF (dY 2 (bQ [.m, .b] false fO (aD (aF 0) (aD (bD d4 (aF 6) (fC (.int 2))) aM))))
  (bF (fZ 3 n0)
  (bF (kU (o9 (aD (bD d4 (aF 6) (fC (.int 2))) aM)) (bX 7) (kY 3 (bD fX (aF 2) (aF 7)) (IT (bH (bD D0 (aF 7) (fC (.int 0)))) (bD fX (aF 2) (bD Mr.zR (aF 7) (fC (.int 1)))) (fC .aZ))))
  (bF (mR (bH (bD tI (aF 1) (fC (.int 1)))) (kY 3 (bD fX (aF 2) (fC (.int 0))) (bD fX (aF 2) (bD d4 (fC (.int 1)) (bQ [.m, .b] false aQ (aD (aF 0) (aD (aF 6) aM)))))) dQ)
  (d7 (vW (aF 3)))))))))
noncomputable def gP : FN := tW [.m, .b] 6 false mX
noncomputable def kS : FS := (bF (dY 3 (bQ [.m, .b] false aQ (aD (aF 0) (aD (gL gY (aD (aF 1) aM)) aM))))
  (bF (NJ (bD fX (aF 1) (aF 3)) (rN 2 (iN (bX 4) (iN (bX 5) sQ))))
  (bF (mR (bH (bD tI (aF 2) (fC (.int 0)))) (d7 (bD d4 (bD d4 (uE tY (aF 1) dF (gR (aF 3))) (eZ (aD (iU (aD (bQ [.m, .v] false hZ (aD (aF 0) (aD (aF 4) aM))) (aD (aF 5) aM))) aM))) (uE tY (aF 1) (gR (bD d4 (aF 3) (fC (.int 1)))) dF))) dQ)
  (bF (mR (bH (bD tI (aF 2) (fC (.int 1)))) (d7 (bD d4 (bD d4 (uE tY (aF 1) dF (gR (aF 3))) (eZ (aD (iU (aD (aF 4) (aD (bQ [.m, .v] false hZ (aD (aF 0) (aD (aF 4) aM))) aM))) aM))) (uE tY (aF 1) (gR (bD d4 (aF 3) (fC (.int 1)))) dF))) dQ)
  (bF (mR (bH (bD tI (aF 2) (fC (.int 2)))) (bF (dY 6 (eZ (aD (iU (aD (aF 4) aM)) (aD (iU (aD (aF 4) (aD (aF 5) (aD (fC .aZ) aM)))) (aD (eZ (aD (aF 4) (aD (aF 5) aM))) (aD (bD d4 (aF 4) (fC (.str "b"))) (aD (iU aM) (aD (iU (aD (aF 4) (aD (aF 5) (aD (aF 5) aM)))) (aD (fC .aZ) aM)))))))))
  (d7 (bD d4 (bD d4 (uE tY (aF 1) dF (gR (aF 3))) (eZ (aD (bD fX (aF 6) (bQ [.m, .b] false aQ (aD (aF 0) (aD (gL gY (aD (aF 6) aM)) aM)))) aM))) (uE tY (aF 1) (gR (bD d4 (aF 3) (fC (.int 1)))) dF)))) dQ)
  (bF (mR (bH (bD tI (aF 2) (fC (.int 3)))) (d7 (bD d4 (bD d4 (uE tY (aF 1) dF (gR (bD d4 (aF 3) (fC (.int 1))))) (eZ (aD (iU (aD (aF 4) (aD (bD fX (eZ (aD (aF 5) (aD (fC .aZ) aM))) (bQ [.m, .b] false aQ (aD (aF 0) (aD (fC (.int 2)) aM)))) aM))) aM))) (uE tY (aF 1) (gR (bD d4 (aF 3) (fC (.int 1)))) dF))) dQ)
  (bF (mR (bH (bD tI (aF 2) (fC (.int 4)))) (d7 (bD d4 (bD d4 (uE tY (aF 1) dF (gR (aF 3))) (uE tY (aF 1) (gR (bD d4 (aF 3) (fC (.int 1)))) dF)) (eZ (aD (iU (aD (aF 4) (aD (aF 5) aM))) aM)))) dQ)
  (d7 (bD d4 (uE tY (aF 1) dF (gR (aF 3))) (uE tY (aF 1) (gR (bD d4 (aF 3) (fC (.int 1)))) dF))))))))))
noncomputable def eV : FN := tW [.m, .b, .b] 4 false kS
noncomputable def EO : FS := (bF (kU (o9 (aD (gL yB (aD (fC (.int 1)) (aD (gL y8 (aD (gL gY (aD (aF 0) aM)) (aD (fC (.int 4)) aM))) aM))) aM)) (bX 1) (bF (fZ 2 (bQ [.b, .b] true gO (aD (aF 0) (aD (aF 1) aM))))
  (bF (dY 3 (eZ (aD (bQ [.m, .b] false aQ (aD (aF 2) (aD (fC (.int 6)) aM))) (aD (bQ [.m, .b] false aQ (aD (aF 2) (aD (fC (.int 6)) aM))) aM))))
  (bF (dY 4 (bQ [.m, .b] false aQ (aD (aF 2) (aD (fC (.int 4)) aM))))
  (bF (dY 5 (bQ [.m, .b] false gP (aD (aF 2) (aD (bQ [.m, .b] false aQ (aD (aF 2) (aD (fC (.int 3)) aM))) aM))))
  (bF (fZ 6 (eZ (aD (gL oF (aD (aF 5) aM)) (aD (bQ [.m] false hJ (aD (aF 2) aM)) aM))))
  (bF (mR (bH (bD D0 (aF 4) (fC (.int 0)))) (bF (dY 5 (bQ [.m, .b, .b] false eV (aD (aF 2) (aD (aF 5) (aD (bD fX (aF 3) (fC (.int 0))) aM)))))
  (fZ 6 (bD d4 (aF 6) (eZ (aD (gL oF (aD (aF 5) aM)) (aD (gL sS (aD (aF 5) aM)) aM)))))) dQ)
  (bF (mR (pU (bH (bD tI (aF 4) (fC (.int 3)))) (bH (gL vE (aD (j6 (B4 (aF 5)) 1 [] [] (bX 0) iJ (rV (gL g8 (aD (aF 0) (aD (fC (.ty "tuple")) aM))) (bD tI (gL gY (aD (aF 0) aM)) (fC (.int 2))))) aM)))) (mR (pU (bH (bD D0 (gL gY (aD (aF 5) aM)) (fC (.int 0)))) (bH (gL g8 (aD (bD fX (bD fX (aF 5) (fC (.int 0))) (fC (.int 0))) (aD (fC (.ty "str")) aM))))) (bF (dY 7 (bQ [.m, .b] false aQ (aD (aF 2) (aD (gL gY (aD (aF 5) aM)) aM))))
  (bF (dY 8 (iU (aD (bD fX (eZ (aD (fC (.str "z")) (aD (fC (.str "a")) aM))) (bD kJ (bD fX (aF 3) (fC (.int 1))) (fC (.int 2)))) (aD (bD fX (eZ (aD (fC .aZ) (aD (fC (.str "y")) aM))) (bD kJ (bD zH (bD fX (aF 3) (fC (.int 1))) (fC (.int 2))) (fC (.int 2)))) aM))))
  (sT 6 (gL oF (aD (bD d4 (bD d4 (uE tY (aF 5) dF (gR (aF 7))) (eZ (aD (aF 8) aM))) (uE tY (aF 5) (gR (aF 7)) dF)) aM))))) dQ) dQ)
  (L6 6 (kU (B4 (aF 6)) (bX 9) (bF (dY 10 (bQ [.b] false eK (aD (aF 9) aM)))
  (kU (o9 (aD (fC (.int 2)) aM)) (bX 11) (bF (dY 12 (bQ [.b] false cW (aD (aF 9) aM)))
  (mR (vP (kT (bH (gL g8 (aD (aF 12) (aD (fC (.ty "bool")) aM))))) (bH (bD L8 (aF 12) (aF 10)))) (d7 (fC (.bl false))) dQ))))))))))))))
  (d7 (fC (.bl true))))
noncomputable def wM : FN := tW [.b] 12 false EO
noncomputable def top (i : Nat) : Stmt := PySem.Challenge.pw_answertrees_k13_what_are_marks.main.body.getD i (.Pass ⟨0, 0, 0, 0⟩)
noncomputable abbrev eN : Stmt := top 1
noncomputable abbrev eW : Stmt := top 5
noncomputable abbrev iD : Stmt := top 6
noncomputable abbrev fP : Stmt := top 8
noncomputable abbrev d8 : Stmt := top 9
noncomputable abbrev dU : Stmt := top 10
noncomputable abbrev eG : Stmt := top 12
noncomputable abbrev eQ : Stmt := top 13
noncomputable abbrev dD : Stmt := top 14
noncomputable abbrev d9 : Stmt := top 15
noncomputable abbrev dO : Stmt := top 16
noncomputable abbrev fM : Stmt := top 17
noncomputable abbrev eO : Stmt := top 18
noncomputable abbrev fR : Stmt := top 19
noncomputable abbrev dP : Stmt := top 20
noncomputable abbrev fL : Stmt := top 21
noncomputable abbrev iS : Stmt := top 22
structure Txt (K : PySem.W.Frag) (mg : Str → Option Value) (fs : Nat → Addr) (fds : Nat → FuncData) (tc : Nat → Addr) (u : Nat → Value) : Prop where
 rC : Def K mg "rings_in" eN ["above"] (fs 0) (fds 0)
 oI : Def K mg "is_name" eW ["thing"] (fs 1) (fds 1)
 A7 : Def K mg "rises" iD ["things"] (fs 2) (fds 2)
 t9 : Def K mg "is_mark" fP ["thing"] (fs 3) (fds 3)
 qT : Def K mg "has_ring" d8 ["marks"] (fs 4) (fds 4)
 qN : Def K mg "is_marks" dU ["thing"] (fs 5) (fds 5)
 sC : Def K mg "_law_hand" eG ["_law_script", "_law_k"] (fs 6) (fds 6)
 bR : Def K mg "_law_take" eQ ["_law_hand_here", "_law_many"] (fs 7) (fds 7)
 lV : Def K mg "_law_names" dD ["_law_hand_here", "_law_many"] (fs 8) (fds 8)
 nA : Def K mg "_law_name" d9 ["_law_thing"] (fs 9) (fds 9)
 oH : Def K mg "_law_rounds" dO ["_law_held_here"] (fs 10) (fds 10)
 tP : Def K mg "_law_due" fM ["_law_thing"] (fs 11) (fds 11)
 rX : Def K mg "_law_held" eO ["_law_hand_here", "_law_kind"] (fs 12) (fds 12)
 oS : Def K mg "_law_bad" fR ["_law_hand_here", "_law_own"] (fs 13) (fds 13)
 n5 : Def K mg "_law_spoilt" dP ["_law_hand_here", "_law_pairs", "_law_kind"] (fs 14) (fds 14)
 uK : Def K mg "_law_any" fL ["_law_hand_here"] (fs 15) (fds 15)
 TY : Def K mg "law" iS ["_law_script"] (fs 16) (fds 16)
 fU : mg "len" = none
 nM : mg "str" = none
 cH : mg "isinstance" = none
 n6 : mg "all" = none
 fQ : mg "range" = none
 gE : mg "tuple" = none
 jW : mg "sorted" = none
 wZ : mg "int" = none
 xU : mg "min" = none
 yQ : mg "max" = none
 qR : mg "list" = none
 rA : mg "bool" = none
 wC : mg "NAME_SIGNS" = some (u 0)
 wA : RelV (.str "abcdefghijklmnopqrstuvwxyz0123456789") (u 0)
 sI : mg "LONGEST_NAME" = some (u 1)
 sR : RelV (.int 12) (u 1)
section
variable {P : Program} {w : World} {K : PySem.W.Frag} {mg : Str → Option Value} {base : Heap} {fs : Nat → Addr} {fds : Nat → FuncData} {tc : Nat → Addr} {u : Nat → Value}
theorem fI : dH ["above", "met", "found", "start", "climbed", "name"] ["above"] (aL eN) := ⟨rfl, rfl, rfl, by decide +kernel, rfl, by decide +kernel, by decide +kernel⟩
theorem xA (T : Txt K mg fs fds tc u)  : dE P w K mg base jB 1 (fs 0) (fds 0) ["above"] (jU K [.b] false gQ) := by
 refine T.rC.F.ok fI (fun vs H Q E h => ?_) (fun cdv A outer s H vs Q E hr h => ?_)
 ·obtain ⟨_, _, _, _, _, hl, _⟩ := h; exact hl
 ·refine ⟨_, (aP (bY (i := 1) fI.nd rfl (Or.inl rfl) lP)
   (aP (bY (i := 2) fI.nd rfl (Or.inl rfl) (eP aK))
   (aP (jA PassesOwn.never rfl (BI (pv 0)) (cS (i := 3) fI.nd rfl (Or.inl rfl)) (aP (bY (i := 4) fI.nd rfl (Or.inl rfl) (eP aK))
   (aP (bY (i := 5) fI.nd rfl (Or.inl rfl) (pv 3))
   (aP (EY PassesOwn.never (PW.pt (sU (bW u5 (pv 5) fW (cD _)) (nU (bW (GJ K hr) (pv 5) (pv 1) (by rfl))))) (aP (n4 (qZ hr) (pv 1) (pv 5) (pv 3) rfl)
   (aP (lY (lF K PySem.F.plainAttrs_list PySem.F.slot_list_append PySem.F.type_list_append iA (pv 4) (aC (pv 5) aK)))
   (aV (bY (i := 5) fI.nd rfl (Or.inl rfl) (G6 (qZ hr) (pv 0) (pv 5) ⟨rfl, by rfl, rfl, rfl⟩))))))
   (aV (fT (PW.pt (sU (bW u5 (pv 5) fW (cD _)) (nU (bW (oD K hr) (cE (i4 K hr) (pv 1) (pv 5) (fun _ _ => rfl)) (pv 3) (cD _))))) (aV (lY (lF K PySem.F.plainAttrs_list PySem.F.slot_list_append PySem.F.type_list_append iA (pv 2) (aC (dS (zY K) (pv 4) (eI (lF K PySem.F.plainAttrs_list PySem.F.slot_list_index PySem.F.type_list_index (C8 K) (pv 4) (aC (pv 5) aK))) eM) aK)))) cY))))))
   (aV (cJ (pv 2)))))), ?_⟩
  exact fE (g := mW) (aN (eS lH)
   (aN (eS (cL aE))
   (aN (gS (y0 (aB 0)) (bS 3) (aN (eS (cL aE))
   (aN (cA (aB 3))
   (aN (C9 1000 (nI (bI (aH rJ (aB 5) eL)) (bI (aH (y9 true) (aB 5) (aB 1)))) (aN (lK (aB 3) (aB 5))
   (aN (lW (aB 5))
   (cA (HG (aB 0) (aB 5))))))
   (cX (nI (bI (aH rJ (aB 5) eL)) (bI (aH jN (aH cF (aB 1) (aB 5)) (aB 3)))) (lW (gJ i8 (aB 4) (dW (AE (aB 4) (aB 5))) cR)) cI)))))
   (bT (aB 2))))) rfl h
theorem z7 : dH ["thing"] ["thing"] (aL eW) := ⟨rfl, rfl, rfl, by decide +kernel, rfl, by decide +kernel, by decide +kernel⟩
theorem AB (T : Txt K mg fs fds tc u)  : dE P w K mg base jB 1 (fs 1) (fds 1) ["thing"] (jU K [.b] false hE) := by
 refine T.oI.F.ok z7 (fun vs H Q E h => ?_) (fun cdv A outer s H vs Q E hr h => ?_)
 ·obtain ⟨_, _, _, _, _, hl, _⟩ := h; exact hl
 ·refine ⟨_, (aP (fT (PW.pt (kX (iQ (hB (bC (wV K) (by rfl) T.cH dA (aC (pv 0) (aC (iW (v := .ty "str") rfl T.nM qW rfl) aK))))) (lN (iQ (HW X5 X5 aJ (bC (lE K) (by rfl) T.fU e8 (aC (pv 0) aK)) (BO (v := .int 12) rfl T.sI T.sR)))))) (aV (cJ jK)) cY)
   (aV (cJ (bC (GN K rfl) (by rfl) T.n6 rY (aC (pS ["sign"] 1 [] ["thing"] (aL eW) rfl rfl rfl (kR K (pv 0)) (by decide +kernel) (fun _ => (cS (i := 0) (show (["sign"] : List Str).Nodup by decide +kernel) rfl (Or.inl rfl))) (fun _ => jJ) (fun _ => (jG (WL K hr) (pv 0) (BO (v := .str "abcdefghijklmnopqrstuvwxyz0123456789") rfl T.wC T.wA) (by rfl)))) aK))))), ?_⟩
  exact fE (g := oK) (aN (cX (iP (gD (iB (bU kP (aA (aB 0) (aA (kH "str") aE))))) (gD (bI (CY EF EF (aG 1) (bU eY (aA (aB 0) aE)) (aG 12))))) (bT (gX false)) cI)
   (bT (bU qY (aA (gN [] (by rfl) (kW (aB 0)) (bS 0) iG (aH (y9 false) (aB 0) (cP "abcdefghijklmnopqrstuvwxyz0123456789"))) aE)))) rfl h
theorem GK : dH ["things"] ["things"] (aL iD) := ⟨rfl, rfl, rfl, by decide +kernel, rfl, by decide +kernel, by decide +kernel⟩
theorem GU (T : Txt K mg fs fds tc u)  : dE P w K mg base jB 1 (fs 2) (fds 2) ["things"] (jU K [.b] false lG) := by
 refine T.A7.F.ok GK (fun vs H Q E h => ?_) (fun cdv A outer s H vs Q E hr h => ?_)
 ·obtain ⟨_, _, _, _, _, hl, _⟩ := h; exact hl
 ·refine ⟨_, (aV (cJ (bC (GN K rfl) (by rfl) T.n6 rY (aC (pS ["at", "things"] 1 [0] ["things"] (aL iD) rfl rfl rfl (fN rfl T.fQ (aC (bA IG (bC (lE K) (by rfl) T.fU e8 (aC (pv 0) aK)) aJ) aK)) (by decide +kernel) (fun _ => (cS (i := 0) (show (["at", "things"] : List Str).Nodup by decide +kernel) rfl (Or.inl rfl))) (fun _ => jJ) (fun _ => (jG W6 (cE (i4 K hr) (pv 1) (pv 0) (fun _ _ => rfl)) (cE (i4 K hr) (pv 1) (bA (eT K) (pv 0) aJ) (fun _ _ => rfl)) (cD _)))) aK)))), ?_⟩
  exact fE (g := uS) (bT (bU qY (aA (gN [] (by rfl) (iX (aA (aH G8 (bU eY (aA (aB 0) aE)) (aG 1)) aE)) (bS 0) iG (aH HC (aH cF (aB 1) (aB 0)) (aH cF (aB 1) (aH bZ (aB 0) (aG 1))))) aE))) rfl h
theorem lQ : dH ["_law_script", "_law_k", "_law_cell", "_law_great"] ["_law_script", "_law_k"] (aL eG) := ⟨rfl, rfl, rfl, by decide +kernel, rfl, by decide +kernel, by decide +kernel⟩
theorem yM (T : Txt K mg fs fds tc u)  : dE P w K mg base jB 1 (fs 6) (fds 6) ["_law_script", "_law_k"] (jU K [.b, .b] true gO) := by
 refine T.sC.F.ok lQ (fun vs H Q E h => ?_) (fun cdv A outer s H vs Q E hr h => ?_)
 ·obtain ⟨_, _, _, _, _, hl, _⟩ := h; exact hl
 ·refine ⟨_, (aP (bY (i := 2) lQ.nd rfl (Or.inl rfl) (lO (bW W6 (pv 1) (bC (lE K) (by rfl) T.fU e8 (aC (pv 0) aK)) (cD _)) (cE (i4 K hr) (pv 0) (pv 1) (fun _ _ => rfl)) aJ))
   (aP (bY (i := 3) lQ.nd rfl (Or.inl rfl) (lO (bW U5 (pv 2) (bA nX aJ aJ) (cD _)) (bA iL (pv 2) (bA vO (bA vO (bA vO (bA nX aJ aJ) (bA nX aJ aJ)) (bA nX aJ aJ)) (bA nX aJ aJ))) aJ))
   (aV (cJ (y4.h (xQ (tE (ew (pv 3)) (TF (ew (bA iL (bA kG (bA (eT K) (bA (eT K) (bA iL (pv 2) aJ) (bA kG (bA kG aJ (pv 1)) (pv 1))) aJ) aJ) aJ)) (gU (ew aJ) dZ))))))))), ?_⟩
  exact fE (g := mV) (aN (cA (qS (bI (aH HC (aB 1) (bU eY (aA (aB 0) aE)))) (aH cF (aB 0) (aB 1)) (aG 0)))
   (aN (cA (qS (bI (aH UC (aB 2) (aH rB (aG 10) (aG 18)))) (aH iM (aB 2) (aH vM (aH vM (aH vM (aH rB (aG 10) (aG 60)) (aH rB (aG 10) (aG 60))) (aH rB (aG 10) (aG 60))) (aH rB (aG 10) (aG 60)))) (aG 0)))
   (bT (cL (aA (aB 3) (aA (aH iM (aH kF (aH bZ (aH bZ (aH iM (aB 2) (aG 2305843009213693951)) (aH kF (aH kF (aG 7919) (aB 1)) (aB 1))) (aG 3)) (aG 48271)) (aG 2305843009213693921)) (aA (aG 0) aE))))))) rfl h
theorem jF : dH ["_law_hand_here", "_law_many", "_law_digit", "_law_blent"] ["_law_hand_here", "_law_many"] (aL eQ) := ⟨rfl, rfl, rfl, by decide +kernel, rfl, by decide +kernel, by decide +kernel⟩
theorem xD (T : Txt K mg fs fds tc u)  : dE P w K mg base jB 1 (fs 7) (fds 7) ["_law_hand_here", "_law_many"] (jU K [.m, .b] false aQ) := by
 refine T.bR.F.ok jF (fun vs H Q E h => ?_) (fun cdv A outer s H vs Q E hr h => ?_)
 ·obtain ⟨_, _, _, _, _, hl, _⟩ := h; exact hl
 ·refine ⟨_, (aP (fT (bW sJ (cE (i4 K hr) (pv 0) aJ (fun _ _ => rfl)) aJ (cD _)) (aP (bY (i := 2) jF.nd rfl (Or.inl rfl) (bA iL (cE (i4 K hr) (pv 0) aJ (fun _ _ => rfl)) (pv 1)))
   (aP (z5 (bA nY (cE (i4 K hr) (pv 0) aJ (fun _ _ => rfl)) (pv 1)) (FW (pv 0) aJ set_list))
   (aV (cJ (pv 2))))) cY)
   (aP (z5 (bA (eT K) (cE (i4 K hr) (pv 0) aJ (fun _ _ => rfl)) aJ) (FW (pv 0) aJ set_list))
   (aP (bY (i := 3) jF.nd rfl (Or.inl rfl) (bA iL (bA kG (bA (eT K) (bA (eT K) (cE (i4 K hr) (pv 0) aJ (fun _ _ => rfl)) (bA kG (bA kG aJ (cE (i4 K hr) (pv 0) aJ (fun _ _ => rfl))) (cE (i4 K hr) (pv 0) aJ (fun _ _ => rfl)))) aJ) aJ) aJ))
   (aP (bY (i := 3) jF.nd rfl (Or.inl rfl) (bA iL (bA kG (pv 3) (bA (eT K) (bA iL (pv 3) aJ) (bA kG aJ (cE (i4 K hr) (pv 0) aJ (fun _ _ => rfl))))) aJ))
   (aV (cJ (bA iL (bA (eT K) (bA nY (pv 3) aJ) (bA nY (pv 3) aJ)) (pv 1)))))))), ?_⟩
  exact fE (g := m8) (aN (cX (bI (aH qV (aH cF (aB 0) (aG 0)) (aG 0))) (aN (cA (aH iM (aH cF (aB 0) (aG 0)) (aB 1)))
   (aN (uD (aH wN (aH cF (aB 0) (aG 0)) (aB 1)) (aG 0))
   (bT (aB 2)))) cI)
   (aN (uD (aH bZ (aH cF (aB 0) (aG 2)) (aG 1)) (aG 2))
   (aN (cA (aH iM (aH kF (aH bZ (aH bZ (aH cF (aB 0) (aG 1)) (aH kF (aH kF (aG 65537) (aH cF (aB 0) (aG 2))) (aH cF (aB 0) (aG 2)))) (aG 11)) (aG 48271)) (aG 2305843009213693921)))
   (aN (cA (aH iM (aH kF (aB 3) (aH bZ (aH iM (aB 3) (aG 1000003)) (aH kF (aG 99991) (aH cF (aB 0) (aG 2))))) (aG 2305843009213693907)))
   (bT (aH iM (aH bZ (aH wN (aB 3) (aG 97)) (aH wN (aB 3) (aG 1000033))) (aB 1))))))) rfl h
theorem yY : dH ["_law_thing"] ["_law_thing"] (aL d9) := ⟨rfl, rfl, rfl, by decide +kernel, rfl, by decide +kernel, by decide +kernel⟩
theorem x8 (T : Txt K mg fs fds tc u)  : dE P w K mg base jB 1 (fs 9) (fds 9) ["_law_thing"] (jU K [.b] false eF) := by
 refine T.nA.F.ok yY (fun vs H Q E h => ?_) (fun cdv A outer s H vs Q E hr h => ?_)
 ·obtain ⟨_, _, _, _, _, hl, _⟩ := h; exact hl
 ·refine ⟨_, (aP (fT (PW.pt (kX (iQ (hB (bC (wV K) (by rfl) T.cH dA (aC (pv 0) (aC (iW (v := .ty "str") rfl T.nM qW rfl) aK))))) (kX (bW W6 (bC (lE K) (by rfl) T.fU e8 (aC (pv 0) aK)) aJ (cD _)) (lN (bW sJ (bC (lE K) (by rfl) T.fU e8 (aC (pv 0) aK)) aJ (cD _)))))) (aV (cJ jK)) cY)
   (aV (cJ (bC (GN K rfl) (by rfl) T.n6 rY (aC (pS ["_law_sign"] 1 [] ["_law_thing"] (aL d9) rfl rfl rfl (kR K (pv 0)) (by decide +kernel) (fun _ => (cS (i := 0) (show (["_law_sign"] : List Str).Nodup by decide +kernel) rfl (Or.inl rfl))) (fun _ => jJ) (fun _ => (jG (WL K hr) (pv 0) dI (by rfl)))) aK))))), ?_⟩
  exact fE (g := m6) (aN (cX (iP (gD (iB (bU kP (aA (aB 0) (aA (kH "str") aE))))) (iP (bI (aH HC (bU eY (aA (aB 0) aE)) (aG 1))) (bI (aH qV (bU eY (aA (aB 0) aE)) (aG 12))))) (bT (gX false)) cI)
   (bT (bU qY (aA (gN [] (by rfl) (kW (aB 0)) (bS 0) iG (aH (y9 false) (aB 0) (cP "abcdefghijklmnopqrstuvwxyz0123456789"))) aE)))) rfl h
theorem gB : dH ["_law_held_here", "_law_name_here", "_law_here", "_law_n"] ["_law_held_here"] (aL dO) := ⟨rfl, rfl, rfl, by decide +kernel, rfl, by decide +kernel, by decide +kernel⟩
theorem tH (T : Txt K mg fs fds tc u)  : dE P w K mg base jB 1 (fs 10) (fds 10) ["_law_held_here"] (jU K [.b] false eX) := by
 refine T.oH.F.ok gB (fun vs H Q E h => ?_) (fun cdv A outer s H vs Q E hr h => ?_)
 ·obtain ⟨_, _, _, _, _, hl, _⟩ := h; exact hl
 ·refine ⟨_, (aP (jA PassesOwn.never rfl (BI (pv 0)) (cS (i := 1) gB.nd rfl (Or.inl rfl)) (aP (bY (i := 2) gB.nd rfl (Or.inl rfl) (cE (i4 K hr) (pv 0) (pv 1) (fun _ _ => rfl)))
   (aV (jA PassesOwn.never rfl (fN rfl T.fQ (aC (bC (WI K) (by rfl) T.fU e8 (aC (pv 0) aK)) aK)) (cS (i := 3) gB.nd rfl (Or.inl rfl)) (aP (fT (bW (oD K hr) (pv 2) (pv 1) (cD _)) (aV (cJ jK)) cY)
   (aV (bY (i := 2) gB.nd rfl (Or.inl rfl) (HK (qZ hr) (pv 0) (pv 2) ⟨rfl, by rfl, rfl, rfl⟩))))))))
   (aV (cJ jK))), ?_⟩
  exact fE (g := kE) (aN (gS (y0 (aB 0)) (bS 1) (aN (cA (aH cF (aB 0) (aB 1)))
   (gS (iX (aA (bU JP (aA (aB 0) aE)) aE)) (bS 3) (aN (cX (bI (aH jN (aB 2) (aB 1))) (bT (gX true)) cI)
   (cA (EZ (aB 0) (aB 2)))))))
   (bT (gX false))) rfl h
theorem zO : dH ["thing"] ["thing"] (aL fP) := ⟨rfl, rfl, rfl, by decide +kernel, rfl, by decide +kernel, by decide +kernel⟩
theorem z4 (T : Txt K mg fs fds tc u) (G_is_name : dE P w K mg base jB 1 (fs 1) (fds 1) ["thing"] (jU K [.b] false hE)) : dE P w K mg base jB 2 (fs 3) (fds 3) ["thing"] (jU K [.b] false h9) := by
 refine T.t9.F.ok zO (fun vs H Q E h => ?_) (fun cdv A outer s H vs Q E hr h => ?_)
 ·obtain ⟨_, _, _, _, _, hl, _⟩ := h; exact hl
 ·refine ⟨_, (aP (fT (PW.pt (kX (iQ (hB (bC (wV K) (by rfl) T.cH dA (aC (pv 0) (aC (iW (v := .ty "tuple") rfl T.gE iI rfl) aK))))) (kX (bW (EI K hr) (bC (lE K) (by rfl) T.fU e8 (aC (pv 0) aK)) aJ (cD _)) (lN (iQ (hB (cV T.oI G_is_name hr (by decide) rfl (aC (cE (i4 K hr) (pv 0) aJ (fun _ _ => rfl)) aK)))))))) (aV (cJ jK)) cY)
   (aV (cJ (UO (jG RD (cE (i4 K hr) (pv 0) aJ (fun _ _ => rfl)) fW (cD _)) (uW (AG (cV T.oI G_is_name hr (by decide) rfl (aC (cE (i4 K hr) (pv 0) aJ (fun _ _ => rfl)) aK)) (uW (jG (EI K hr) (cE (i4 K hr) (pv 0) aJ (fun _ _ => rfl)) (cE (i4 K hr) (pv 0) aJ (fun _ _ => rfl)) (cD _))))))))), ?_⟩
  exact fE (g := o8) (aN (cX (iP (gD (iB (bU kP (aA (aB 0) (aA (kH "tuple") aE))))) (iP (bI (aH yI (bU eY (aA (aB 0) aE)) (aG 2))) (gD (iB (aW (aA (aH cF (aB 0) (aG 0)) aE)))))) (bT (gX false)) cI)
   (bT (L3 (aH VO (aH cF (aB 0) (aG 1)) eL) (qQ (aW (aA (aH cF (aB 0) (aG 1)) aE)) (aH yI (aH cF (aB 0) (aG 1)) (aH cF (aB 0) (aG 0))))))) rfl h
theorem y7 : dH ["marks"] ["marks"] (aL d8) := ⟨rfl, rfl, rfl, by decide +kernel, rfl, by decide +kernel, by decide +kernel⟩
theorem w4 (T : Txt K mg fs fds tc u) (G_rings_in : dE P w K mg base jB 1 (fs 0) (fds 0) ["above"] (jU K [.b] false gQ)) : dE P w K mg base jB 2 (fs 4) (fds 4) ["marks"] (jU K [.b] false iH) := by
 refine T.qT.F.ok y7 (fun vs H Q E h => ?_) (fun cdv A outer s H vs Q E hr h => ?_)
 ·obtain ⟨_, _, _, _, _, hl, _⟩ := h; exact hl
 ·refine ⟨_, (aV (cJ (jG (EI K hr) (cV T.rC G_rings_in hr (by decide) rfl (aC (VH ["name", "elder"] 2 [] ["marks"] (aL d8) rfl rfl rfl (kR K (pv 0)) (by decide +kernel) (fun _ => (u3 (n := 2) K rfl (jV (cS (i := 0) (show (["name", "elder"] : List Str).Nodup by decide +kernel) rfl (Or.inl rfl)) (jV (cS (i := 1) (show (["name", "elder"] : List Str).Nodup by decide +kernel) rfl (Or.inl rfl)) uX)))) (fun _ => jJ) (fun _ => (pv 0)) (fun _ => (pv 1))) aK)) (eP aK) (cD _)))), ?_⟩
  exact fE (g := m4) (bT (aH yI (aW (aA (zJ [] (by rfl) (kW (aB 0)) (qI (iZ (bS 0) (iZ (bS 1) rE))) iG (aB 0) (aB 1)) aE)) (cL aE))) rfl h
theorem fJ : dH ["_law_hand_here", "_law_many", "_law_found", "_law_k", "_law_size", "_law_name_here"] ["_law_hand_here", "_law_many"] (aL dD) := ⟨rfl, rfl, rfl, by decide +kernel, rfl, by decide +kernel, by decide +kernel⟩
theorem uT (T : Txt K mg fs fds tc u) (G_law_take : dE P w K mg base jB 1 (fs 7) (fds 7) ["_law_hand_here", "_law_many"] (jU K [.m, .b] false aQ)) : dE P w K mg base jB 2 (fs 8) (fds 8) ["_law_hand_here", "_law_many"] (jU K [.m, .b] false fO) := by
 refine T.lV.F.ok fJ (fun vs H Q E h => ?_) (fun cdv A outer s H vs Q E hr h => ?_)
 ·obtain ⟨_, _, _, _, _, hl, _⟩ := h; exact hl
 ·refine ⟨_, (aP (bY (i := 2) fJ.nd rfl (Or.inr rfl) (eP aK))
   (aP (jA PassesOwn.never rfl (fN rfl T.fQ (aC (pv 1) aK)) (cS (i := 3) fJ.nd rfl (Or.inl rfl)) (aP (bY (i := 4) fJ.nd rfl (Or.inl rfl) (cE (i4 K hr) (eP (aC aJ (aC aJ (aC aJ (aC aJ (aC aJ (aC (bA (eT K) aJ (bA iL (pv 3) aJ)) aK))))))) (cV T.bR G_law_take hr (by decide) rfl (aC (pv 0) (aC aJ aK))) (fun _ _ => rfl)))
   (aP (bY (i := 5) fJ.nd rfl (Or.inl rfl) (lF K PySem.F.plainAttrs_str PySem.F.slot_str_join PySem.F.type_str_join (SS K) dI (aC (pS ["_law_n", "_law_hand_here"] 1 [0] ["_law_hand_here", "_law_many", "_law_found", "_law_k", "_law_size", "_law_name_here"] (aL dD) rfl rfl rfl (fN rfl T.fQ (aC (pv 4) aK)) (by decide +kernel) (fun _ => (cS (i := 0) (show (["_law_n", "_law_hand_here"] : List Str).Nodup by decide +kernel) rfl (Or.inl rfl))) (fun _ => jJ) (fun _ => (cE (i4 K hr) dI (cV T.bR G_law_take hr (by decide) rfl (aC (pv 1) (aC aJ aK))) (fun _ _ => rfl)))) aK)))
   (aP (fT (bW (WL K hr) (pv 5) (pv 2) (by rfl)) (aV (bY (i := 5) fJ.nd rfl (Or.inl rfl) (cE (i4 K hr) (pS ["_law_n", "_law_found"] 1 [2] ["_law_hand_here", "_law_many", "_law_found", "_law_k", "_law_size", "_law_name_here"] (aL dD) rfl rfl rfl (fN rfl T.fQ (aC (bA (eT K) (bC (lE K) (by rfl) T.fU e8 (aC (pv 2) aK)) aJ) aK)) (by decide +kernel) (fun _ => (cS (i := 0) (show (["_law_n", "_law_found"] : List Str).Nodup by decide +kernel) rfl (Or.inl rfl))) (fun _ => (LW (bW (GJ K hr) (hW oE (by rfl) T.nM qW (aC (pv 0) aK)) (pv 1) (by rfl)))) (fun _ => (hW oE (by rfl) T.nM qW (aC (pv 0) aK)))) aJ (fun _ _ => rfl)))) cY)
   (aV (lY (lF K PySem.F.plainAttrs_list PySem.F.slot_list_append PySem.F.type_list_append iA (pv 2) (aC (pv 5) aK))))))))
   (aV (cJ (pv 2))))), ?_⟩
  exact fE (g := lM) (aN (eS (cL aE))
   (aN (gS (iX (aA (aB 1) aE)) (bS 3) (aN (cA (aH cF (cL (aA (aG 1) (aA (aG 1) (aA (aG 2) (aA (aG 3) (aA (aG 12) (aA (aH bZ (aG 1) (aH iM (aB 3) (aG 12))) aE))))))) (aW (aA (aB 0) (aA (aG 6) aE)))))
   (aN (cA (N4 L0 (cP "") (aA (gN [(0, 1)] (by rfl) (iX (aA (aB 4) aE)) (bS 0) iG (aH cF (cP "abcdefghijklmnopqrstuvwxyz0123456789") (aW (aA (aB 1) (aA (aG 36) aE))))) aE)))
   (aN (cX (bI (aH (y9 false) (aB 5) (aB 2))) (cA (aH cF (gN [] (by rfl) (iX (aA (aH bZ (bU eY (aA (aB 2) aE)) (aG 1)) aE)) (bS 0) (bI (aH (y9 true) (bU BE (aA (aB 0) aE)) (aB 1))) (bU BE (aA (aB 0) aE))) (aG 0))) cI)
   (lW (aB 5))))))
   (bT (aB 2)))) rfl h
theorem kM : dH ["_law_thing", "_law_held_here", "_law_last", "_law_one"] ["_law_thing"] (aL fM) := ⟨rfl, rfl, rfl, by decide +kernel, rfl, by decide +kernel, by decide +kernel⟩
theorem AN (T : Txt K mg fs fds tc u) (G_law_rounds : dE P w K mg base jB 1 (fs 10) (fds 10) ["_law_held_here"] (jU K [.b] false eX)) (G_law_name : dE P w K mg base jB 1 (fs 9) (fds 9) ["_law_thing"] (jU K [.b] false eF)) : dE P w K mg base jB 2 (fs 11) (fds 11) ["_law_thing"] (jU K [.b] false eK) := by
 refine T.tP.F.ok kM (fun vs H Q E h => ?_) (fun cdv A outer s H vs Q E hr h => ?_)
 ·obtain ⟨_, _, _, _, _, hl, _⟩ := h; exact hl
 ·refine ⟨_, (aP (fT (iQ (hB (bC (wV K) (by rfl) T.cH dA (aC (pv 0) (aC (iW (v := .ty "tuple") rfl T.gE iI rfl) aK))))) (aV (cJ jK)) cY)
   (aP (Q2 (i := 1) (j := 2) rfl kM.nd rfl rfl (by decide) rfl rfl (aC lP (aC dI aK)) rfl)
   (aP (jA PassesOwn.never rfl (kR K (pv 0)) (cS (i := 3) kM.nd rfl (Or.inl rfl)) (aP (fT (PW.pt (kX (iQ (hB (bC (wV K) (by rfl) T.cH dA (aC (pv 3) (aC (iW (v := .ty "tuple") rfl T.gE iI rfl) aK))))) (kX (bW (EI K hr) (bC (lE K) (by rfl) T.fU e8 (aC (pv 3) aK)) aJ (cD _)) (kX (iQ (hB (cV T.nA G_law_name hr (by decide) rfl (aC (cE (i4 K hr) (pv 3) aJ (fun _ _ => rfl)) aK)))) (lN (bW X5 (cE (i4 K hr) (pv 3) aJ (fun _ _ => rfl)) (pv 2) (cD _))))))) (aV (cJ jK)) cY)
   (aP (fT (PW.pt (sU (bW u5 (cE (i4 K hr) (pv 3) aJ (fun _ _ => rfl)) fW (cD _)) (nU (PW.pt (kX (iQ (hB (cV T.nA G_law_name hr (by decide) rfl (aC (cE (i4 K hr) (pv 3) aJ (fun _ _ => rfl)) aK)))) (lN (bW (oD K hr) (cE (i4 K hr) (pv 3) aJ (fun _ _ => rfl)) (cE (i4 K hr) (pv 3) aJ (fun _ _ => rfl)) (cD _)))))))) (aV (cJ jK)) cY)
   (aP (bY (i := 2) kM.nd rfl (Or.inl rfl) (cE (i4 K hr) (pv 3) aJ (fun _ _ => rfl)))
   (aV (n4 (qZ hr) (pv 1) (pv 2) (cE (i4 K hr) (pv 3) aJ (fun _ _ => rfl)) rfl))))))
   (aV (cJ (HX (cV T.oH G_law_rounds hr (by decide) rfl (aC (pv 1) aK)))))))), ?_⟩
  exact fE (g := oY) (aN (cX (gD (iB (bU kP (aA (aB 0) (aA (kH "tuple") aE))))) (bT (gX false)) cI)
   (aN (G1 EC T8 (eS lH) (cA (cP "")))
   (aN (gS (kW (aB 0)) (bS 3) (aN (cX (iP (gD (iB (bU kP (aA (aB 3) (aA (kH "tuple") aE))))) (iP (bI (aH yI (bU eY (aA (aB 3) aE)) (aG 2))) (iP (gD (iB (aW (aA (aH cF (aB 3) (aG 0)) aE)))) (bI (aH EF (aH cF (aB 3) (aG 0)) (aB 2)))))) (bT (gX false)) cI)
   (aN (cX (nI (bI (aH rJ (aH cF (aB 3) (aG 1)) eL)) (iP (gD (iB (aW (aA (aH cF (aB 3) (aG 1)) aE)))) (bI (aH jN (aH cF (aB 3) (aG 1)) (aH cF (aB 3) (aG 0)))))) (bT (gX false)) cI)
   (aN (cA (aH cF (aB 3) (aG 0)))
   (lK (aH cF (aB 3) (aG 1)) (aB 2))))))
   (bT (yT (aW (aA (aB 1) aE))))))) rfl h
theorem sH : dH ["_law_hand_here", "_law_own", "_law_some"] ["_law_hand_here", "_law_own"] (aL fR) := ⟨rfl, rfl, rfl, by decide +kernel, rfl, by decide +kernel, by decide +kernel⟩
theorem AO (T : Txt K mg fs fds tc u) (G_law_take : dE P w K mg base jB 1 (fs 7) (fds 7) ["_law_hand_here", "_law_many"] (jU K [.m, .b] false aQ)) : dE P w K mg base jB 2 (fs 13) (fds 13) ["_law_hand_here", "_law_own"] (jU K [.m, .v] false hZ) := by
 refine T.oS.F.ok sH (fun vs H Q E h => ?_) (fun cdv A outer s H vs Q E hr h => ?_)
 ·obtain ⟨_, _, _, _, _, hl, _⟩ := h; exact hl
 ·refine boxed ⟨_, (eD (xE (i := 2) sH.nd rfl rfl (xQ (gU (ew fW) (gU (ew jK) (gU (ew aJ) (gU (ew dI) (gU (ew dI) (gU (ew dI) (gU (ew dI) (gU (ew dI) (gU (ew dI) (oQ (nF (gU (ew dI) dZ)) (LU (xQ (gU (ew dI) dZ)) (XE (ew (TJ OG aJ)) (tE (ew (pv 1)) (gU (ew dI) (gU (ew aJ) dZ)))))))))))))))))
   (eD (sw (lY (lF K PySem.F.plainAttrs_list PySem.F.slot_list_append PySem.F.type_list_append iA (pv 2) (aC (bA (eT K) dI (pv 1)) aK))))
   (vU (sw (cJ (cE (i4 K hr) (pv 2) (cV T.bR G_law_take hr (by decide) rfl (aC (pv 0) (aC (bC (lE K) (by rfl) T.fU e8 (aC (pv 2) aK)) aK))) (fun _ _ => rfl))))))), ?_⟩
  exact fE (g := oO) (aN (eS (cL (aA eL (aA (gX true) (aA (aG 5) (aA (cP "") (aA (cP "A") (aA (cP "a b") (aA (cP "abcdefghijklm") (aA (cP "abcdefghijkl") (aA (cP "a-") (aA (dC (aA (cP "a") aE)) (aA (cL (aA (cP "a") aE)) (aA (PY RG (aG 1)) (aA (aB 1) (aA (cP "z") (aA (aG 0) aE)))))))))))))))))
   (aN (lW (aH bZ (cP "a") (aB 1)))
   (bT (aH cF (aB 2) (aW (aA (aB 0) (aA (bU eY (aA (aB 2) aE)) aE))))))) rfl h
theorem i5 : dH ["_law_hand_here", "_law_some", "_law_thing", "_law_n"] ["_law_hand_here"] (aL fL) := ⟨rfl, rfl, rfl, by decide +kernel, rfl, by decide +kernel, by decide +kernel⟩
theorem zA (T : Txt K mg fs fds tc u) (G_law_take : dE P w K mg base jB 1 (fs 7) (fds 7) ["_law_hand_here", "_law_many"] (jU K [.m, .b] false aQ)) : dE P w K mg base jB 2 (fs 15) (fds 15) ["_law_hand_here"] (jU K [.m] false hJ) := by
 refine T.uK.F.ok i5 (fun vs H Q E h => ?_) (fun cdv A outer s H vs Q E hr h => ?_)
 ·obtain ⟨_, _, _, _, _, hl, _⟩ := h; exact hl
 ·refine boxed ⟨_, (eD (xE (i := 1) i5.nd rfl rfl (xQ (gU (ew fW) (gU (ew jK) (gU (ew jK) (gU (ew aJ) (gU (ew aJ) (gU (ew dI) (gU (ew dI) (LU (xQ dZ) (oQ (nF dZ) (LU (xQ (oQ (nF (gU (ew dI) (gU (ew fW) dZ))) dZ)) (oQ (nF (gU (ew dI) (gU (ew fW) dZ))) (oQ (nF (oQ (nF dZ) dZ)) (oQ (nF (oQ (nF (gU (ew dI) (gU (ew fW) dZ))) (oQ (nF dZ) dZ))) (YE VG dZ))))))))))))))))
   (eD (sw (lY (lF K PySem.F.plainAttrs_list PySem.F.slot_list_append PySem.F.type_list_append iA (pv 1) (aC (K4 (EV dI fW LV) rfl rfl (by simp) (by decide)) aK))))
   (eD (sw (bY (i := 2) i5.nd rfl (Or.inl rfl) (cE (i4 K hr) (pv 1) (cV T.bR G_law_take hr (by decide) rfl (aC (pv 0) (aC (bC (lE K) (by rfl) T.fU e8 (aC (pv 1) aK)) aK))) (fun _ _ => rfl))))
   (eD (sw (jA PassesOwn.never rfl (fN rfl T.fQ (aC (bA kG (cV T.bR G_law_take hr (by decide) rfl (aC (pv 0) (aC aJ aK))) (cV T.bR G_law_take hr (by decide) rfl (aC (pv 0) (aC aJ aK)))) aK)) (cS (i := 3) i5.nd rfl (Or.inl rfl)) (aV (bY (i := 2) i5.nd rfl (Or.inl rfl) (lO (bW sJ (bA iL (pv 3) aJ) aJ (cD _)) (lJ (aC (pv 2) aK)) (lJ (aC (lJ (aC dI (aC (pv 2) aK))) aK)))))))
   (vU (sw (cJ (pv 2)))))))), ?_⟩
  exact fE (g := o7) (aN (eS (cL (aA eL (aA (gX true) (aA (gX false) (aA (aG 0) (aA (aG 7) (aA (cP "") (aA (cP "ab") (aA (cL aE) (aA (dC aE) (aA (cL (aA (dC (aA (cP "a") (aA eL aE))) aE)) (aA (dC (aA (cP "a") (aA eL aE))) (aA (dC (aA (dC aE) aE)) (aA (dC (aA (dC (aA (cP "a") (aA eL aE))) (aA (dC aE) aE))) (aA lH aE))))))))))))))))
   (aN (lW (CD (k := "a")))
   (aN (cA (aH cF (aB 1) (aW (aA (aB 0) (aA (bU eY (aA (aB 1) aE)) aE)))))
   (aN (gS (iX (aA (aH kF (aW (aA (aB 0) (aA (aG 2) aE))) (aW (aA (aB 0) (aA (aG 24) aE)))) aE)) (bS 3) (cA (qS (bI (aH qV (aH iM (aB 3) (aG 3)) (aG 0))) (dC (aA (aB 2) aE)) (dC (aA (dC (aA (cP "b") (aA (aB 2) aE))) aE)))))
   (bT (aB 2)))))) rfl h
theorem yD : dH ["thing"] ["thing"] (aL dU) := ⟨rfl, rfl, rfl, by decide +kernel, rfl, by decide +kernel, by decide +kernel⟩
theorem yG (T : Txt K mg fs fds tc u) (G_rises : dE P w K mg base jB 1 (fs 2) (fds 2) ["things"] (jU K [.b] false lG)) (G_has_ring : dE P w K mg base jB 2 (fs 4) (fds 4) ["marks"] (jU K [.b] false iH)) (G_is_mark : dE P w K mg base jB 2 (fs 3) (fds 3) ["thing"] (jU K [.b] false h9)) : dE P w K mg base jB 3 (fs 5) (fds 5) ["thing"] (jU K [.b] false cW) := by
 refine T.qN.F.ok yD (fun vs H Q E h => ?_) (fun cdv A outer s H vs Q E hr h => ?_)
 ·obtain ⟨_, _, _, _, _, hl, _⟩ := h; exact hl
 ·refine ⟨_, (aP (fT (PW.pt (kX (iQ (hB (bC (wV K) (by rfl) T.cH dA (aC (pv 0) (aC (iW (v := .ty "tuple") rfl T.gE iI rfl) aK))))) (lN (iQ (hB (bC (GN K rfl) (by rfl) T.n6 rY (aC (pS ["part"] 1 [] ["thing"] (aL dU) rfl rfl rfl (kR K (pv 0)) (by decide +kernel) (fun _ => (cS (i := 0) (show (["part"] : List Str).Nodup by decide +kernel) rfl (Or.inl rfl))) (fun _ => jJ) (fun _ => (cV T.t9 G_is_mark hr (by decide) rfl (aC (pv 0) aK)))) aK))))))) (aV (cJ jK)) cY)
   (aV (cJ (AG (cV T.A7 G_rises hr (by decide) rfl (aC (pS ["name", "elder"] 2 [] ["thing"] (aL dU) rfl rfl rfl (kR K (pv 0)) (by decide +kernel) (fun _ => (u3 (n := 2) K rfl (jV (cS (i := 0) (show (["name", "elder"] : List Str).Nodup by decide +kernel) rfl (Or.inl rfl)) (jV (cS (i := 1) (show (["name", "elder"] : List Str).Nodup by decide +kernel) rfl (Or.inl rfl)) uX)))) (fun _ => jJ) (fun _ => (pv 0))) aK)) (uW (HX (cV T.qT G_has_ring hr (by decide) rfl (aC (pv 0) aK)))))))), ?_⟩
  exact fE (g := i3) (aN (cX (iP (gD (iB (bU kP (aA (aB 0) (aA (kH "tuple") aE))))) (gD (iB (bU qY (aA (gN [] (by rfl) (kW (aB 0)) (bS 0) iG (aW (aA (aB 0) aE))) aE))))) (bT (gX false)) cI)
   (bT (qQ (aW (aA (gN [] (by rfl) (kW (aB 0)) (qI (iZ (bS 0) (iZ (bS 1) rE))) iG (aB 0)) aE)) (yT (aW (aA (aB 0) aE)))))) rfl h
theorem d5 : dH ["_law_hand_here", "_law_kind", "_law_names_here", "_law_pairs", "_law_name_here", "_law_elder", "_law_size", "_law_k"] ["_law_hand_here", "_law_kind"] (aL eO) := ⟨rfl, rfl, rfl, by decide +kernel, rfl, by decide +kernel, by decide +kernel⟩
theorem xG (T : Txt K mg fs fds tc u) (G_law_names : dE P w K mg base jB 2 (fs 8) (fds 8) ["_law_hand_here", "_law_many"] (jU K [.m, .b] false fO)) (G_law_take : dE P w K mg base jB 1 (fs 7) (fds 7) ["_law_hand_here", "_law_many"] (jU K [.m, .b] false aQ)) : dE P w K mg base jB 3 (fs 12) (fds 12) ["_law_hand_here", "_law_kind"] (jU K [.m, .b] false gP) := by
 refine T.rX.F.ok d5 (fun vs H Q E h => ?_) (fun cdv A outer s H vs Q E hr h => ?_)
 ·obtain ⟨_, _, _, _, _, hl, _⟩ := h; exact hl
 ·refine ⟨_, (aP (fT (bW (oD K hr) (pv 1) aJ (cD _)) (aP (bY (i := 2) d5.nd rfl (Or.inl rfl) (cV T.lV G_law_names hr (by decide) rfl (aC (pv 0) (aC (bA (eT K) aJ (cV T.bR G_law_take hr (by decide) rfl (aC (pv 0) (aC aJ aK)))) aK))))
   (aP (bY (i := 3) d5.nd rfl (Or.inl rfl) lP)
   (aP (jA PassesOwn.never rfl (kR K (pv 2)) (cS (i := 4) d5.nd rfl (Or.inl rfl)) (aP (bY (i := 5) d5.nd rfl (Or.inl rfl) (cE (i4 K hr) (pv 2) (cV T.bR G_law_take hr (by decide) rfl (aC (pv 0) (aC (bC (lE K) (by rfl) T.fU e8 (aC (pv 2) aK)) aK))) (fun _ _ => rfl)))
   (aV (n4 (qZ hr) (pv 3) (pv 4) (lO (PW.pt (kX (bW (oD K hr) (pv 5) (pv 4) (cD _)) (lN (bW (oD K hr) (cV T.bR G_law_take hr (by decide) rfl (aC (pv 0) (aC aJ aK))) aJ (cD _))))) fW (pv 5)) rfl))))
   (aV (cJ (bC (sortI K hr) (by rfl) T.jW tQ (aC (y6 (pv 3)) aK))))))) cY)
   (aP (bY (i := 6) d5.nd rfl (Or.inl rfl) (cE (i4 K hr) (eP (aC aJ (aC (bA (eT K) aJ (cV T.bR G_law_take hr (by decide) rfl (aC (pv 0) (aC aJ aK)))) aK))) (hW DT (by rfl) T.wZ OA (aC (jG sJ (cV T.bR G_law_take hr (by decide) rfl (aC (pv 0) (aC aJ aK))) aJ (cD _)) aK)) (fun _ _ => rfl)))
   (aP (bY (i := 2) d5.nd rfl (Or.inl rfl) (cV T.lV G_law_names hr (by decide) rfl (aC (pv 0) (aC (bA (eT K) (pv 6) aJ) aK))))
   (aP (bY (i := 3) d5.nd rfl (Or.inl rfl) lP)
   (aP (jA PassesOwn.never rfl (fN rfl T.fQ (aC (bA (eT K) (pv 6) aJ) aK)) (cS (i := 7) d5.nd rfl (Or.inl rfl)) (aV (n4 (qZ hr) (pv 3) (cE (i4 K hr) (pv 2) (pv 7) (fun _ _ => rfl)) (lO (bW sJ (pv 7) aJ (cD _)) (cE (i4 K hr) (pv 2) (bA IG (pv 7) aJ) (fun _ _ => rfl)) fW) rfl)))
   (aP (fT (bW (oD K hr) (pv 1) aJ (cD _)) (aV (n4 (qZ hr) (pv 3) (cE (i4 K hr) (pv 2) aJ (fun _ _ => rfl)) (cE (i4 K hr) (pv 2) (bA (eT K) aJ (cV T.bR G_law_take hr (by decide) rfl (aC (pv 0) (aC (pv 6) aK)))) (fun _ _ => rfl)) rfl)) cY)
   (aV (cJ (bC (sortI K hr) (by rfl) T.jW tQ (aC (y6 (pv 3)) aK)))))))))), ?_⟩
  exact fE (g := mX) (aN (cX (bI (aH jN (aB 1) (aG 0))) (aN (cA (aW (aA (aB 0) (aA (aH bZ (aG 1) (aW (aA (aB 0) (aA (aG 12) aE)))) aE))))
   (aN (eS lH)
   (aN (gS (kW (aB 2)) (bS 4) (aN (cA (aH cF (aB 2) (aW (aA (aB 0) (aA (bU eY (aA (aB 2) aE)) aE)))))
   (lK (qS (iP (bI (aH jN (aB 5) (aB 4))) (bI (aH jN (aW (aA (aB 0) (aA (aG 2) aE))) (aG 0)))) eL (aB 5)) (aB 4))))
   (bT (tS (aB 3)))))) cI)
   (aN (cA (aH cF (cL (aA (aG 40) (aA (aH bZ (aG 1) (aW (aA (aB 0) (aA (aG 12) aE)))) aE))) (bU KA (aA (aH qV (aW (aA (aB 0) (aA (aG 8) aE))) (aG 0)) aE))))
   (aN (cA (aW (aA (aB 0) (aA (aH bZ (aB 6) (aG 2)) aE))))
   (aN (eS lH)
   (aN (gS (iX (aA (aH bZ (aB 6) (aG 2)) aE)) (bS 7) (lK (qS (bI (aH qV (aB 7) (aG 0))) (aH cF (aB 2) (aH G8 (aB 7) (aG 1))) eL) (aH cF (aB 2) (aB 7))))
   (aN (cX (bI (aH jN (aB 1) (aG 1))) (lK (aH cF (aB 2) (aH bZ (aG 1) (aW (aA (aB 0) (aA (aB 6) aE))))) (aH cF (aB 2) (aG 0))) cI)
   (bT (tS (aB 3))))))))) rfl h
theorem gA : dH ["_law_hand_here", "_law_pairs", "_law_kind", "_law_at", "_law_name_here", "_law_elder", "_law_one"] ["_law_hand_here", "_law_pairs", "_law_kind"] (aL dP) := ⟨rfl, rfl, rfl, by decide +kernel, rfl, by decide +kernel, by decide +kernel⟩
theorem tD (T : Txt K mg fs fds tc u) (G_law_take : dE P w K mg base jB 1 (fs 7) (fds 7) ["_law_hand_here", "_law_many"] (jU K [.m, .b] false aQ)) (G_law_bad : dE P w K mg base jB 2 (fs 13) (fds 13) ["_law_hand_here", "_law_own"] (jU K [.m, .v] false hZ)) : dE P w K mg base jB 3 (fs 14) (fds 14) ["_law_hand_here", "_law_pairs", "_law_kind"] (jU K [.m, .b, .b] false eV) := by
 refine T.n5.F.ok gA (fun vs H Q E h => ?_) (fun cdv A outer s H vs Q E hr h => ?_)
 ·obtain ⟨_, _, _, _, _, hl, _⟩ := h; exact hl
 ·refine boxed ⟨_, (eD (sw (bY (i := 3) gA.nd rfl (Or.inl rfl) (cV T.bR G_law_take hr (by decide) rfl (aC (pv 0) (aC (bC (lE K) (by rfl) T.fU e8 (aC (pv 1) aK)) aK)))))
   (eD (sw (z5 (cE (i4 K hr) (pv 1) (pv 3) (fun _ _ => rfl)) (u3 (n := 2) K rfl (jV (cS (i := 4) gA.nd rfl (Or.inl rfl)) (jV (cS (i := 5) gA.nd rfl (Or.inl rfl)) uX)))))
   (eD (sw (fT (bW (oD K hr) (pv 2) aJ (cD _)) (aV (cJ (bA (eT K) (bA (eT K) (dS (zY K) (pv 1) eM (eI (pv 3))) (eP (aC (lJ (aC (cV T.oS G_law_bad hr (by decide) rfl (aC (pv 0) (aC (pv 4) aK))) (aC (pv 5) aK))) aK))) (dS (zY K) (pv 1) (eI (bA (eT K) (pv 3) aJ)) eM)))) cY))
   (eD (sw (fT (bW (oD K hr) (pv 2) aJ (cD _)) (aV (cJ (bA (eT K) (bA (eT K) (dS (zY K) (pv 1) eM (eI (pv 3))) (eP (aC (lJ (aC (pv 4) (aC (cV T.oS G_law_bad hr (by decide) rfl (aC (pv 0) (aC (pv 4) aK))) aK))) aK))) (dS (zY K) (pv 1) (eI (bA (eT K) (pv 3) aJ)) eM)))) cY))
   (eD (sw (fT (bW (oD K hr) (pv 2) aJ (cD _)) (aP (bY (i := 6) gA.nd rfl (Or.inl rfl) (y4.h (xQ (oQ (nF (tE (ew (pv 4)) dZ)) (oQ (nF (tE (ew (pv 4)) (tE (ew (pv 5)) (gU (ew fW) dZ)))) (LU (xQ (tE (ew (pv 4)) (tE (ew (pv 5)) dZ))) (TF (ew (bA (eT K) (pv 4) dI)) (oQ (nF dZ) (oQ (nF (tE (ew (pv 4)) (tE (ew (pv 5)) (tE (ew (pv 5)) dZ)))) (gU (ew fW) dZ))))))))))
   (aV (cJ (bA (eT K) (bA (eT K) (dS (zY K) (pv 1) eM (eI (pv 3))) (eP (aC (cE (i4 K hr) (pv 6) (cV T.bR G_law_take hr (by decide) rfl (aC (pv 0) (aC (bC (lE K) (by rfl) T.fU e8 (aC (pv 6) aK)) aK))) (fun _ _ => rfl)) aK))) (dS (zY K) (pv 1) (eI (bA (eT K) (pv 3) aJ)) eM))))) cY))
   (eD (sw (fT (bW (oD K hr) (pv 2) aJ (cD _)) (aV (cJ (bA (eT K) (bA (eT K) (dS (zY K) (pv 1) eM (eI (bA (eT K) (pv 3) aJ))) (eP (aC (lJ (aC (pv 4) (aC (cE (i4 K hr) (eP (aC (pv 5) (aC fW aK))) (cV T.bR G_law_take hr (by decide) rfl (aC (pv 0) (aC aJ aK))) (fun _ _ => rfl)) aK))) aK))) (dS (zY K) (pv 1) (eI (bA (eT K) (pv 3) aJ)) eM)))) cY))
   (eD (sw (fT (bW (oD K hr) (pv 2) aJ (cD _)) (aV (cJ (bA (eT K) (bA (eT K) (dS (zY K) (pv 1) eM (eI (pv 3))) (dS (zY K) (pv 1) (eI (bA (eT K) (pv 3) aJ)) eM)) (eP (aC (lJ (aC (pv 4) (aC (pv 5) aK))) aK))))) cY))
   (vU (sw (cJ (bA (eT K) (dS (zY K) (pv 1) eM (eI (pv 3))) (dS (zY K) (pv 1) (eI (bA (eT K) (pv 3) aJ)) eM)))))))))))), ?_⟩
  exact fE (g := kS) (aN (cA (aW (aA (aB 0) (aA (bU eY (aA (aB 1) aE)) aE))))
   (aN (L7 (aH cF (aB 1) (aB 3)) (qI (iZ (bS 4) (iZ (bS 5) rE))))
   (aN (cX (bI (aH jN (aB 2) (aG 0))) (bT (aH bZ (aH bZ (gJ i8 (aB 1) cR (dW (aB 3))) (cL (aA (dC (aA (aW (aA (aB 0) (aA (aB 4) aE))) (aA (aB 5) aE))) aE))) (gJ i8 (aB 1) (dW (aH bZ (aB 3) (aG 1))) cR))) cI)
   (aN (cX (bI (aH jN (aB 2) (aG 1))) (bT (aH bZ (aH bZ (gJ i8 (aB 1) cR (dW (aB 3))) (cL (aA (dC (aA (aB 4) (aA (aW (aA (aB 0) (aA (aB 4) aE))) aE))) aE))) (gJ i8 (aB 1) (dW (aH bZ (aB 3) (aG 1))) cR))) cI)
   (aN (cX (bI (aH jN (aB 2) (aG 2))) (aN (cA (cL (aA (dC (aA (aB 4) aE)) (aA (dC (aA (aB 4) (aA (aB 5) (aA eL aE)))) (aA (cL (aA (aB 4) (aA (aB 5) aE))) (aA (aH bZ (aB 4) (cP "b")) (aA (dC aE) (aA (dC (aA (aB 4) (aA (aB 5) (aA (aB 5) aE)))) (aA eL aE)))))))))
   (bT (aH bZ (aH bZ (gJ i8 (aB 1) cR (dW (aB 3))) (cL (aA (aH cF (aB 6) (aW (aA (aB 0) (aA (bU eY (aA (aB 6) aE)) aE)))) aE))) (gJ i8 (aB 1) (dW (aH bZ (aB 3) (aG 1))) cR)))) cI)
   (aN (cX (bI (aH jN (aB 2) (aG 3))) (bT (aH bZ (aH bZ (gJ i8 (aB 1) cR (dW (aH bZ (aB 3) (aG 1)))) (cL (aA (dC (aA (aB 4) (aA (aH cF (cL (aA (aB 5) (aA eL aE))) (aW (aA (aB 0) (aA (aG 2) aE)))) aE))) aE))) (gJ i8 (aB 1) (dW (aH bZ (aB 3) (aG 1))) cR))) cI)
   (aN (cX (bI (aH jN (aB 2) (aG 4))) (bT (aH bZ (aH bZ (gJ i8 (aB 1) cR (dW (aB 3))) (gJ i8 (aB 1) (dW (aH bZ (aB 3) (aG 1))) cR)) (cL (aA (dC (aA (aB 4) (aA (aB 5) aE))) aE)))) cI)
   (bT (aH bZ (gJ i8 (aB 1) cR (dW (aB 3))) (gJ i8 (aB 1) (dW (aH bZ (aB 3) (aG 1))) cR)))))))))) rfl h
theorem gG : dH ["_law_script", "_law_k", "_law_hand_here", "_law_ways", "_law_spoils", "_law_pairs", "_law_things", "_law_at", "_law_more", "_law_thing", "_law_due_here", "_law_turn", "_law_found"] ["_law_script"] (aL iS) := ⟨rfl, rfl, rfl, by decide +kernel, rfl, by decide +kernel, by decide +kernel⟩
theorem Q6 (T : Txt K mg fs fds tc u) (G_law_hand : dE P w K mg base jB 1 (fs 6) (fds 6) ["_law_script", "_law_k"] (jU K [.b, .b] true gO)) (G_law_take : dE P w K mg base jB 1 (fs 7) (fds 7) ["_law_hand_here", "_law_many"] (jU K [.m, .b] false aQ)) (G_law_held : dE P w K mg base jB 3 (fs 12) (fds 12) ["_law_hand_here", "_law_kind"] (jU K [.m, .b] false gP)) (G_law_any : dE P w K mg base jB 2 (fs 15) (fds 15) ["_law_hand_here"] (jU K [.m] false hJ)) (G_law_spoilt : dE P w K mg base jB 3 (fs 14) (fds 14) ["_law_hand_here", "_law_pairs", "_law_kind"] (jU K [.m, .b, .b] false eV)) (G_law_due : dE P w K mg base jB 2 (fs 11) (fds 11) ["_law_thing"] (jU K [.b] false eK)) (G_is_marks : dE P w K mg base jB 3 (fs 5) (fds 5) ["thing"] (jU K [.b] false cW)) : dE P w K mg base jB 4 (fs 16) (fds 16) ["_law_script"] (jU K [.b] false wM) := by
 refine T.TY.F.ok gG (fun vs H Q E h => ?_) (fun cdv A outer s H vs Q E hr h => ?_)
 ·obtain ⟨_, _, _, _, _, hl, _⟩ := h; exact hl
 ·refine ⟨_, (aP (jA PassesOwn.never rfl (fN rfl T.fQ (aC (bC (CK rfl) (by rfl) T.yQ QL (aC aJ (aC (bC (DJ rfl) (by rfl) T.xU N7 (aC (bC (lE K) (by rfl) T.fU e8 (aC (pv 0) aK)) (aC aJ aK))) aK))) aK)) (cS (i := 1) gG.nd rfl (Or.inl rfl)) (aP (bY (i := 2) gG.nd rfl (Or.inl rfl) (cV T.sC G_law_hand hr (by decide) rfl (aC (pv 0) (aC (pv 1) aK))))
   (aP (bY (i := 3) gG.nd rfl (Or.inl rfl) (eP (aC (cV T.bR G_law_take hr (by decide) rfl (aC (pv 2) (aC aJ aK))) (aC (cV T.bR G_law_take hr (by decide) rfl (aC (pv 2) (aC aJ aK))) aK))))
   (aP (bY (i := 4) gG.nd rfl (Or.inl rfl) (cV T.bR G_law_take hr (by decide) rfl (aC (pv 2) (aC aJ aK))))
   (aP (bY (i := 5) gG.nd rfl (Or.inl rfl) (cV T.rX G_law_held hr (by decide) rfl (aC (pv 2) (aC (cV T.bR G_law_take hr (by decide) rfl (aC (pv 2) (aC aJ aK))) aK))))
   (aP (bY (i := 6) gG.nd rfl (Or.inl rfl) (eP (aC (hW (QZ K) (by rfl) T.gE iI (aC (pv 5) aK)) (aC (cV T.uK G_law_any hr (by decide) rfl (aC (pv 2) aK)) aK))))
   (aP (fT (bW sJ (pv 4) aJ (cD _)) (aP (bY (i := 5) gG.nd rfl (Or.inl rfl) (cV T.n5 G_law_spoilt hr (by decide) rfl (aC (pv 2) (aC (pv 5) (aC (cE (i4 K hr) (pv 3) aJ (fun _ _ => rfl)) aK)))))
   (aV (bY (i := 6) gG.nd rfl (Or.inl rfl) (bA (eT K) (pv 6) (eP (aC (hW (QZ K) (by rfl) T.gE iI (aC (pv 5) aK)) (aC (hW (UI K) (by rfl) T.qR KC (aC (pv 5) aK)) aK))))))) cY)
   (aP (fT (PW.pt (sU (bW (oD K hr) (pv 4) aJ (cD _)) (nU (hB (bC (GN K rfl) (by rfl) T.n6 rY (aC (pS ["_law_one"] 1 [] ["_law_script", "_law_k", "_law_hand_here", "_law_ways", "_law_spoils", "_law_pairs", "_law_things", "_law_at", "_law_more", "_law_thing", "_law_due_here", "_law_turn", "_law_found"] (aL iS) rfl rfl rfl (kR K (pv 5)) (by decide +kernel) (fun _ => (cS (i := 0) (show (["_law_one"] : List Str).Nodup by decide +kernel) rfl (Or.inl rfl))) (fun _ => jJ) (fun _ => (AG (bC (wV K) (by rfl) T.cH dA (aC (pv 0) (aC (iW (v := .ty "tuple") rfl T.gE iI rfl) aK))) (uW (jG (oD K hr) (bC (lE K) (by rfl) T.fU e8 (aC (pv 0) aK)) aJ (cD _)))))) aK)))))) (aV (fT (PW.pt (sU (bW sJ (bC (lE K) (by rfl) T.fU e8 (aC (pv 5) aK)) aJ (cD _)) (nU (hB (bC (wV K) (by rfl) T.cH dA (aC (cE (i4 K hr) (cE (i4 K hr) (pv 5) aJ (fun _ _ => rfl)) aJ (fun _ _ => rfl)) (aC (iW (v := .ty "str") rfl T.nM qW rfl) aK))))))) (aP (bY (i := 7) gG.nd rfl (Or.inl rfl) (cV T.bR G_law_take hr (by decide) rfl (aC (pv 2) (aC (bC (lE K) (by rfl) T.fU e8 (aC (pv 5) aK)) aK))))
   (aP (bY (i := 8) gG.nd rfl (Or.inl rfl) (y4.h (nF (VB (ew (cE (i4 K hr) (eP (aC dI (aC dI aK))) (bA iL (cE (i4 K hr) (pv 3) aJ (fun _ _ => rfl)) aJ) (fun _ _ => rfl))) (VB (ew (cE (i4 K hr) (eP (aC fW (aC dI aK))) (bA iL (bA nY (cE (i4 K hr) (pv 3) aJ (fun _ _ => rfl)) aJ) aJ) (fun _ _ => rfl))) dZ)))))
   (aV (lY (lF K PySem.F.plainAttrs_list PySem.F.slot_list_append PySem.F.type_list_append iA (pv 6) (aC (hW (QZ K) (by rfl) T.gE iI (aC (bA (eT K) (bA (eT K) (dS (zY K) (pv 5) eM (eI (pv 7))) (eP (aC (pv 8) aK))) (dS (zY K) (pv 5) (eI (pv 7)) eM)) aK)) aK)))))) cY)) cY)
   (aV (jA PassesOwn.never rfl (kR K (pv 6)) (cS (i := 9) gG.nd rfl (Or.inl rfl)) (aP (bY (i := 10) gG.nd rfl (Or.inl rfl) (cV T.tP G_law_due hr (by decide) rfl (aC (pv 9) aK)))
   (aV (jA PassesOwn.never rfl (fN rfl T.fQ (aC aJ aK)) (cS (i := 11) gG.nd rfl (Or.inl rfl)) (aP (bY (i := 12) gG.nd rfl (Or.inl rfl) (cV T.qN G_is_marks hr (by decide) rfl (aC (pv 9) aK)))
   (aV (fT (PW.pt (kX (iQ (hB (bC (wV K) (by rfl) T.cH dA (aC (pv 12) (aC (iW (v := .ty "bool") rfl T.rA L4 rfl) aK))))) (lN (bW (EI K hr) (pv 12) (pv 10) (cD _))))) (aV (cJ jK)) cY))))))))))))))))
   (aV (cJ jK))), ?_⟩
  exact fE (g := EO) (aN (gS (iX (aA (bU JQ (aA (aG 1) (aA (bU J5 (aA (bU eY (aA (aB 0) aE)) (aA (aG 4) aE))) aE))) aE)) (bS 1) (aN (eS (aW (aA (aB 0) (aA (aB 1) aE))))
   (aN (cA (cL (aA (aW (aA (aB 2) (aA (aG 6) aE))) (aA (aW (aA (aB 2) (aA (aG 6) aE))) aE))))
   (aN (cA (aW (aA (aB 2) (aA (aG 4) aE))))
   (aN (cA (aW (aA (aB 2) (aA (aW (aA (aB 2) (aA (aG 3) aE))) aE))))
   (aN (eS (cL (aA (bU vQ (aA (aB 5) aE)) (aA (aW (aA (aB 2) aE)) aE))))
   (aN (cX (bI (aH qV (aB 4) (aG 0))) (aN (cA (aW (aA (aB 2) (aA (aB 5) (aA (aH cF (aB 3) (aG 0)) aE)))))
   (eS (aH bZ (aB 6) (cL (aA (bU vQ (aA (aB 5) aE)) (aA (bU E8 (aA (aB 5) aE)) aE)))))) cI)
   (aN (cX (nI (bI (aH jN (aB 4) (aG 3))) (iB (bU qY (aA (gN [] (by rfl) (kW (aB 5)) (bS 0) iG (qQ (bU kP (aA (aB 0) (aA (kH "tuple") aE))) (aH jN (bU eY (aA (aB 0) aE)) (aG 2)))) aE)))) (cX (nI (bI (aH qV (bU eY (aA (aB 5) aE)) (aG 0))) (iB (bU kP (aA (aH cF (aH cF (aB 5) (aG 0)) (aG 0)) (aA (kH "str") aE))))) (aN (cA (aW (aA (aB 2) (aA (bU eY (aA (aB 5) aE)) aE))))
   (aN (cA (dC (aA (aH cF (cL (aA (cP "z") (aA (cP "a") aE))) (aH iM (aH cF (aB 3) (aG 1)) (aG 2))) (aA (aH cF (cL (aA eL (aA (cP "y") aE))) (aH iM (aH wN (aH cF (aB 3) (aG 1)) (aG 2)) (aG 2))) aE))))
   (lW (bU vQ (aA (aH bZ (aH bZ (gJ i8 (aB 5) cR (dW (aB 7))) (cL (aA (aB 8) aE))) (gJ i8 (aB 5) (dW (aB 7)) cR)) aE))))) cI) cI)
   (J1 6 (gS (kW (aB 6)) (bS 9) (aN (cA (aW (aA (aB 9) aE)))
   (gS (iX (aA (aG 2) aE)) (bS 11) (aN (cA (aW (aA (aB 9) aE)))
   (cX (iP (gD (iB (bU kP (aA (aB 12) (aA (kH "bool") aE))))) (bI (aH yI (aB 12) (aB 10)))) (bT (gX false)) cI))))))))))))))
   (bT (gX true))) rfl h
end
namespace Rg
variable {α : Type}
noncomputable def lR (up : α → Option α) : Nat → α → Option α
 | 0, x => some x
 | n + 1, x => (up x).bind (lR up n)
noncomputable def C1 (up : α → Option α) (x : α) : Prop := ∃ n, lR up (n + 1) x = some x
noncomputable def Path (up : α → Option α) : List α → Option α → Prop
 | [], _ => True
 | [x], e => up x = e
 | x :: y :: l, e => up x = some y ∧ Path up (y :: l) e
structure Ring (up : α → Option α) (l : List α) : Prop where
 ne : l ≠ []
 nd : l.Nodup
 path : Path up l l.head?
noncomputable def uU (up : α → Option α) (T : α → Prop) : Prop := ∀ x y, T x → up x = some y → T y
variable {up : α → Option α}
theorem oW : ∀ (m n : Nat) (x : α), lR up (m + n) x = (lR up m x).bind (lR up n)
 | 0, n, x => by rw [Nat.zero_add]; rfl
 | m + 1, n, x => by
  rw [Nat.add_right_comm]
  show (up x).bind (lR up (m + n)) = ((up x).bind (lR up m)).bind (lR up n)
  cases up x with
  | none => rfl
  | some y => exact oW m n y
theorem uU.walk {T : α → Prop} (h : uU up T) : ∀ (n : Nat) {x y : α}, T x → lR up n x = some y → T y
 | 0, _, _, hx, e => by cases e; exact hx
 | n + 1, x, y, hx, e => by
  cases c : up x with
  | none => rw [lR, c] at e; cases e
  | some z => rw [lR, c] at e; exact h.walk n (h x z hx c) e
theorem BZ {x : α} {n : Nat} (h : lR up n x = some x) : ∀ k, lR up (k * n) x = some x
 | 0 => by rw [Nat.zero_mul]; rfl
 | k + 1 => by rw [Nat.succ_mul, oW, BZ h k]; exact h
theorem C1.back {x : α} (h : C1 up x) (m : Nat) : ∃ y j, lR up m x = some y ∧ lR up j y = some x := by
 obtain ⟨n, h⟩ := h
 have k := BZ h m
 have e : m * (n + 1) = m + m * n := by rw [Nat.mul_succ, Nat.add_comm]
 rw [e, oW] at k
 cases c : lR up m x with
 | none => rw [c] at k; cases k
 | some y => rw [c] at k; exact ⟨y, _, rfl, k⟩
theorem Path.AU : ∀ {l : List α} {e : Option α} {i : Nat} {x : α}, Path up l e → l[i]? = some x → lR up (l.length - i) x = e
 | [], _, _, _, _, h => by simp at h
 | [a], e, 0, x, p, h => by
  cases h
  show (up a).bind (lR up 0) = e
  rw [show up a = e from p]
  cases e <;> rfl
 | [a], e, i + 1, x, p, h => by simp at h
 | a :: b :: l, e, 0, x, p, h => by
  cases h
  show (up a).bind (lR up (b :: l).length) = e
  rw [p.1]
  exact Path.AU (l := b :: l) (i := 0) p.2 rfl
 | a :: b :: l, e, i + 1, x, p, h => by
  have := Path.AU (l := b :: l) (i := i) p.2 (by simpa using h)
  simpa using this
theorem Path.drop : ∀ {l : List α} {e : Option α} (n : Nat), Path up l e → Path up (l.drop n) e
 | _, _, 0, p => p
 | [], _, _ + 1, p => p
 | [a], _, n + 1, p => by simp [Path]
 | a :: b :: l, e, n + 1, p => by
  rw [List.drop_succ_cons]
  exact Path.drop n p.2
theorem Path.snoc : ∀ {l : List α} {x : α} {e : Option α}, Path up l (some x) → up x = e → Path up (l ++ [x]) e
 | [], x, e, _, h => h
 | [a], x, e, p, h => ⟨p, h⟩
 | a :: b :: l, x, e, p, h => ⟨p.1, Path.snoc (l := b :: l) p.2 h⟩
theorem Path.step : ∀ {l : List α} {e : Option α} {x : α}, Path up l e → x ∈ l → (∃ y ∈ l, up x = some y) ∨ up x = e
 | [], _, _, _, h => by simp at h
 | [a], e, x, p, h => by
  rw [List.mem_singleton.mp h]
  exact .inr p
 | a :: b :: l, e, x, p, h => by
  rcases List.mem_cons.mp h with rfl | h
  ·exact .inl ⟨b, by simp, p.1⟩
  ·rcases Path.step (l := b :: l) p.2 h with ⟨y, hy, e⟩ | e
   ·exact .inl ⟨y, List.mem_cons_of_mem _ hy, e⟩
   ·exact .inr e
theorem Path.no {l : List α} {e : Option α} {x : α} (p : Path up l e) (hx : x ∈ l) (h : ∀ y, e = some y → ∀ j, lR up j y ≠ some x) : ¬ C1 up x := fun c => by
 obtain ⟨i, hi⟩ := List.getElem?_of_mem hx
 obtain ⟨y, j, h1, h2⟩ := c.back (l.length - i)
 rw [p.AU hi] at h1
 exact h y h1 j h2
theorem Ring.closed {l : List α} (r : Ring up l) : uU up fun x => x ∈ l := fun x y hx e => by
 rcases r.path.step hx with ⟨z, hz, e'⟩ | e'
 ·rw [e] at e'; cases e'; exact hz
 ·rw [e] at e'
  cases l with
  | nil => exact absurd rfl r.ne
  | cons a l => cases e'; simp
theorem Ring.turn {l : List α} (r : Ring up l) {x : α} (hx : x ∈ l) : lR up l.length x = some x := by
 cases l with
 | nil => exact absurd rfl r.ne
 | cons a l =>
  obtain ⟨i, hi⟩ := List.getElem?_of_mem hx
  have hl : i < (a :: l).length := (List.getElem?_eq_some_iff.mp hi).1
  have h1 := r.path.AU hi
  have h0 := r.path.AU (l := a :: l) (i := 0) (x := a) rfl
  have ha : ∀ j, j ≤ (a :: l).length → ∀ z, (a :: l)[j]? = some z → lR up j a = some z := by
   intro j
   induction j with
   | zero => intro _ z hz; cases hz; rfl
   | succ j ih =>
    intro hj z hz
    have hj' : j < (a :: l).length := by omega
    have e1 := ih (by omega) _ (List.getElem?_eq_getElem hj')
    rw [oW j 1, e1]
    have e2 := r.path.AU (List.getElem?_eq_getElem hj')
    have e3 := r.path.AU hz
    have hlt : j + 1 < (a :: l).length := (List.getElem?_eq_some_iff.mp hz).1
    have : Path up ((a :: l).drop j) (a :: l).head? := r.path.drop j
    rw [List.drop_eq_getElem_cons hj', List.drop_eq_getElem_cons hlt] at this
    show (up _).bind (lR up 0) = _
    rw [this.1]
    rw [List.getElem?_eq_getElem hlt] at hz
    cases hz
    rfl
  have e2 := ha i (by omega) x hi
  have e3 : lR up ((a :: l).length - i + i) x = some x := by
   rw [oW, h1]
   exact e2
  have : (a :: l).length - i + i = (a :: l).length := by omega
  rw [this] at e3
  exact e3
theorem Ring.C1 {l : List α} (r : Ring up l) {x : α} (hx : x ∈ l) : C1 up x := by
 refine ⟨l.length - 1, ?_⟩
 have : 0 < l.length := List.length_pos_of_mem hx
 rw [show l.length - 1 + 1 = l.length by omega]
 exact r.turn hx
structure Found (up : α → Option α) (S : List α) (F : List (List α)) : Prop where
 cl : uU up fun x => x ∈ S
 ring : ∀ R ∈ F, Ring up R
 sub : ∀ R ∈ F, ∀ x ∈ R, x ∈ S
 nd : F.flatten.Nodup
 all : ∀ x ∈ S, C1 up x → x ∈ F.flatten
theorem Found.nil : Found up [] [] := ⟨fun x y h => by simp at h, by simp, by simp, by simp, by simp⟩
theorem Found.out {S : List α} {F : List (List α)} {l : List α} {e : Option α} (f : Found up S F) (p : Path up l e) (hd : ∀ x ∈ l, x ∉ S) (h : ∀ y, e = some y → y ∈ S) : Found up (S ++ l) F where
 cl := fun x y hx u => by
  rcases List.mem_append.mp hx with hx | hx
  ·exact List.mem_append_left _ (f.cl x y hx u)
  ·rcases p.step hx with ⟨z, hz, e'⟩ | e'
   ·rw [u] at e'; cases e'; exact List.mem_append_right _ hz
   ·rw [u] at e'; exact List.mem_append_left _ (h y e'.symm)
 ring := f.ring
 sub := fun R hR x hx => List.mem_append_left _ (f.sub R hR x hx)
 nd := f.nd
 all := fun x hx c => by
  rcases List.mem_append.mp hx with hx | hx
  ·exact f.all x hx c
  ·exact absurd c (p.no hx fun y ey j ej => hd x hx (f.cl.walk j (h y ey) ej))
theorem Found.SR {S : List α} {F : List (List α)} {p r : List α} (f : Found up S F) (hr : r ≠ []) (hp : Path up (p ++ r) r.head?) (nd : (p ++ r).Nodup) (hd : ∀ x ∈ p ++ r, x ∉ S) : Found up (S ++ (p ++ r)) (F ++ [r]) := by
 obtain ⟨nd1, nd2, nd3⟩ := List.nodup_append.mp nd
 have R : Ring up r := ⟨hr, nd2, by have := hp.drop p.length; rwa [List.drop_left] at this⟩
 refine ⟨fun x y hx u => ?_, fun Q hQ => ?_, fun Q hQ x hx => ?_, ?_, fun x hx c => ?_⟩
 ·rcases List.mem_append.mp hx with hx | hx
  ·exact List.mem_append_left _ (f.cl x y hx u)
  ·rcases hp.step hx with ⟨z, hz, e'⟩ | e'
   ·rw [u] at e'; cases e'; exact List.mem_append_right _ hz
   ·rw [u] at e'
    cases r with
    | nil => exact absurd rfl hr
    | cons a r => cases e'; exact List.mem_append_right _ (List.mem_append_right _ (by simp))
 ·rcases List.mem_append.mp hQ with h | h
  ·exact f.ring Q h
  ·rw [List.mem_singleton.mp h]; exact R
 ·rcases List.mem_append.mp hQ with h | h
  ·exact List.mem_append_left _ (f.sub Q h x hx)
  ·rw [List.mem_singleton.mp h] at hx
   exact List.mem_append_right _ (List.mem_append_right _ hx)
 ·rw [List.flatten_append]
  refine List.nodup_append.mpr ⟨f.nd, by simpa using nd2, fun x hx y hy e => ?_⟩
  subst e
  obtain ⟨Q, hQ, hx⟩ := List.mem_flatten.mp hx
  exact hd x (List.mem_append_right _ (by simpa using hy)) (f.sub Q hQ x hx)
 ·rw [List.flatten_append]
  rcases List.mem_append.mp hx with hx | hx
  ·exact List.mem_append_left _ (f.all x hx c)
  ·rcases List.mem_append.mp hx with hx | hx
   ·refine absurd c (Path.no (l := p ++ r) hp (List.mem_append_left _ hx) fun y ey j ej => ?_)
    have hy : y ∈ r := by
     cases r with
     | nil => cases ey
     | cons a r => cases ey; simp
    exact nd3 x hx x (R.closed.walk j hy ej) rfl
   ·exact List.mem_append_right _ (by simpa using hx)
theorem Found.iff {S : List α} {F : List (List α)} (f : Found up S F) {x : α} (hx : x ∈ S) : x ∈ F.flatten ↔ C1 up x := by
 refine ⟨fun h => ?_, f.all x hx⟩
 obtain ⟨Q, hQ, h⟩ := List.mem_flatten.mp h
 exact (f.ring Q hQ).C1 h
end Rg
section
open PySem L2 Mr
theorem JM {f : FE} {st : Nat → Bool} {e : En} : xY f st e = bO (uN f st e) fun z => some (z.1.map fun kv => tJ kv.1, z.2) := rfl
theorem GF {f : FE} {st : Nat → Bool} {e : En} : QM f st e = bO (uN f st e) fun z => some (bN z.1, z.2) := rfl
theorem C5 {fa fb : FE} {e : En} : qB fa fb e = bE (fa e) fun x e1 => bO (x.weak.get e1) fun p1 => match p1 with
 | .lst _ => bE (fb e1) fun y e2 => bO (x.weak.get e2) fun p => bO (y.weak.get e2) fun q => bO (mB p [q]) fun b => some (b, e2)
 | _ => none := rfl
theorem JI {fa fb : FE} {e : En} : GW fa fb e = bE (fa e) fun x e1 => bO (x.weak.get e1) fun p1 => match p1 with
 | .cC _ => bE (fb e1) fun y e2 => bO (x.weak.get e2) fun p => bO (y.weak.get e2) fun q => match p, q with
  | .cC _, .aZ => some (.val .aZ, e2)
  | p, q => bO (w8 p q) fun b => some (b, e2)
 | _ => none := rfl
end
local macro_rules | `(tactic| walk_at "wp") => `(tactic| simp only [E1, j4, jX, dB, nZ, gW, wp_seq, wp_call, D3, LX, X9, WU, LM, RA, XD, UG, U4, P1, MC, T3, VM, O0, R8, PU, IU, RY, VF, N5, JY, J6, N9, JU, UE, DQ, KU, S2, JZ, FV, JT, QH, MD, J0, U7, P6, KD, ON, OU, HI, LF, EK, K5, E4, K0, RS, Q9, UX, RF, RM, OO, LL, II, PN, K8, yC, vL, vS, mH, zF, List.replicate, List.cons_append, List.nil_append, rel, iK, putL, getL, DY, zK, cT, mZ, Mr.resB, mQ, m9, wI, wH, Bv.weak, Bv.get, Bv.put, rd, Sl.pv, ownAt, cU, N2, VC, pI, YG, XI, W3, W8, XO, YC, XW, WD, YF, WA, ZE, ZH, at2, ZD, fX, Mr.zR, nV, UU, OF, zH, kJ, p8, QP, d4, D7, D8, D5, gI, MT, tI, L8, KG, QX, Q1, SK, SI, D0, V6, A5, IP, isNone, tY, gY, oF, sS, XS, yB, y8, BU, w9, g8, kdOf, IJ, SA, NI, JC, VR, O2, JS, TN, KS, vE, V9, NX, jE, QB, P8, OQ, O9, Q7, PZ, Q8, RL, NV, RO, O3, SD, QD, PH, RT, RI, PL, OC, OE, R5, O1, vT, QR, NP, OJ, NW, NS, OT, N8, O6, NQ, QJ, RU, OR, NU, PB, K1, LB, KL, MF, AK, List.getElem?_cons_zero, List.getElem?_cons_succ, List.set_cons_zero, List.set_cons_succ, List.zipIdx_cons, List.zipIdx_nil, List.map_cons, List.map_nil, List.all_nil, List.all_cons, List.contains_nil, List.contains_cons, List.any_nil, List.any_cons, List.nodup_cons, List.nodup_nil, List.not_mem_nil, List.mem_cons, not_false_eq_true, and_true, true_and, decide_true, decide_false, Bool.and_self, Bool.and_true, Bool.true_and, Bool.not_true, Bool.not_false, if_true, if_false, ite_true, ite_false, Option.or_some, Option.none_or, Option.some_or, Option.or_none, decide_eq_true_eq, decide_eq_false_iff_not, Bool.and_eq_true, reduceCtorEq, Bool.false_eq_true, List.length_cons, List.length_nil, Nat.reduceAdd, Nat.reduceLT, Int.reduceLT, Int.reduceLE, PV.int.injEq, PV.str.injEq, PV.bl.injEq, Option.some.injEq, EN, beq_self_eq_true, Bool.or_false, Bool.or_true, Bool.true_or, Bool.false_or, Bool.false_and, Bool.and_false, Nat.reduceBEq, List.length_map, List.length_range, Int.reduceToNat, and_self, true_implies, forall_const, Int.reduceAdd, Int.reduceNeg, GD, G4, AF, pN, NT, keyOf, G0, Option.getD_none, Option.getD_some, ME, LH, FP, xM, JV, w8, FZ, A1, P9, UJ, K7, JK, S8, IZ, L9, UM, QQ, T6, QU, QI, KN, HA, CH, mB, W4, TH, JX, JM, uN, yF, GF, C5, mB, JI])
section
open PySem L2 Mr
noncomputable abbrev hd (a b c : Int) : PV := .lst [.int a, .int b, .int c]
structure Hand (a b c : Int) (n : Nat) : Prop where
 a0 : 0 ≤ a
 b0 : 0 ≤ b
 b1 : b < 2305843009213693921
 c0 : 0 ≤ c
 c1 : c ≤ n
theorem Hand.mono {a b c : Int} {n m : Nat} (h : Hand a b c n) (l : n ≤ m) : Hand a b c m := ⟨h.a0, h.b0, h.b1, h.c0, by have := h.c1; omega⟩
theorem HJ {i j : Int} (h0 : 0 ≤ i) (h1 : i < 18446744073709551616) : uM i j = true := decide_eq_true (.inl ⟨by omega, h1⟩)
theorem mulR {i j : Int} (h0 : 0 ≤ j) (h1 : j < 18446744073709551616) : uM i j = true := decide_eq_true (.inr ⟨by omega, h1⟩)
theorem dG {a b c m : Int} {n : Nat} {Q : PV × List PV → Prop} (h : Hand a b c n) (hn : n < 1000000) (m0 : 0 < m) (m1 : m < 1073741824) (q : ∀ d a' b' c', 0 ≤ d → d < m → Hand a' b' c' (n + 1) → Q (.int d, [hd a' b' c'])) : Wp (aQ [hd a b c, .int m]) Q := by
 unfold aQ m8
 have a0 := h.a0
 have b0 := h.b0
 have b1 := h.b1
 have c0 := h.c0
 have c1 := h.c1
 walk_at "wp"
 refine ⟨fun ha => ⟨m0, ⟨m0, by omega⟩, q _ _ _ _ (Int.emod_nonneg _ (by omega)) (Int.emod_lt_of_pos _ m0) ⟨Int.ediv_nonneg a0 (by omega), b0, b1, c0, by omega⟩⟩, fun ha => ⟨HJ (by decide) (by decide), mulR (by omega) (by omega), mulR (by decide) (by decide), HJ (by decide) (by decide), HJ (Int.emod_nonneg _ (by decide)) ?_, m0, q _ _ _ _ (Int.emod_nonneg _ (by omega)) (Int.emod_lt_of_pos _ m0) ⟨a0, b0, b1, by omega, by omega⟩⟩⟩
 have := Int.emod_lt_of_pos ((b + 65537 * (c + 1) * (c + 1) + 11) * 48271) (show (0 : Int) < 2305843009213693921 by decide)
 omega
theorem eC {xs : List PV} {k : Int} {Q : PV → Prop} (h0 : 0 ≤ k) (h1 : k < (xs.length : Int)) (q : ∀ x ∈ xs, Q x) : Wp (pM xs k) Q := by
 obtain ⟨c, hc, e⟩ := JG h0 h1
 exact ⟨c, e, q c hc⟩
noncomputable def kN : FS := (bF (dY 3 (IT (bH (bD V6 (aF 2) (bD p8 (fC (.int 10)) (fC (.int 18))))) (bD kJ (aF 2) (bD pN (bD pN (bD pN (bD p8 (fC (.int 10)) (fC (.int 60))) (bD p8 (fC (.int 10)) (fC (.int 60)))) (bD p8 (fC (.int 10)) (fC (.int 60)))) (bD p8 (fC (.int 10)) (fC (.int 60))))) (fC (.int 0))))
  (d7 (eZ (aD (aF 3) (aD (bD kJ (bD nV (bD d4 (bD d4 (bD kJ (aF 2) (fC (.int 2305843009213693951))) (bD nV (bD nV (fC (.int 7919)) (aF 1)) (aF 1))) (fC (.int 3))) (fC (.int 48271))) (fC (.int 2305843009213693921))) (aD (fC (.int 0)) aM))))))
theorem vJ : mV = (bF (dY 2 (IT (bH (bD SK (aF 1) (gL gY (aD (aF 0) aM)))) (bD fX (aF 0) (aF 1)) (fC (.int 0))))
  kN) := rfl
theorem uG {x k : Int} {v0 v3 : Option Sl} {Q : Out → Prop} (k0 : 0 ≤ k) (k1 : k < 1000) (q : ∀ a b v0 v1 v2 v3, Hand a b 0 0 → Q (.rt (.new (hd a b 0)) [v0, v1, v2, v3])) : Wp (kN [v0, some (.val (.int k)), some (.val (.int x)), v3]) Q := by
 unfold kN
 walk_at "wp"
 have r0 : 0 ≤ x % 2305843009213693951 := Int.emod_nonneg _ (by decide)
 have r1 : x % 2305843009213693951 < 2305843009213693951 := Int.emod_lt_of_pos _ (by decide)
 have kk : 0 ≤ 7919 * k * k := Int.mul_nonneg (by omega) k0
 have m1 : uM 7919 k = true := HJ (by decide) (by decide)
 have m2 : uM (7919 * k) k = true := mulR k0 (by omega)
 have m3 : uM (x % 2305843009213693951 + 7919 * k * k + 3) 48271 = true := mulR (by decide) (by decide)
 have b0 : 0 ≤ (x % 2305843009213693951 + 7919 * k * k + 3) * 48271 % 2305843009213693921 := Int.emod_nonneg _ (by decide)
 have b1 : (x % 2305843009213693951 + 7919 * k * k + 3) * 48271 % 2305843009213693921 < 2305843009213693921 := Int.emod_lt_of_pos _ (by decide)
 refine ⟨by decide +kernel, fun hx => ⟨by decide +kernel, by decide +kernel, by decide +kernel, by decide +kernel, by decide +kernel, by decide +kernel, by decide +kernel, by decide +kernel, m1, m2, m3, q _ _ _ _ _ _ ⟨Int.emod_nonneg _ (by decide +kernel), b0, b1, by decide, by decide⟩⟩, fun hx => ⟨m1, m2, m3, q _ _ _ _ _ _ ⟨by decide, b0, b1, by decide, by decide⟩⟩⟩
theorem JD {ns : List Int} {k : Int} {Q : PV × List PV → Prop} (k0 : 0 ≤ k) (k1 : k < 1000) (hn : ns.length ≤ 63) (q : ∀ a b, Hand a b 0 0 → Q (hd a b 0, [])) : Wp (gO [.lst (ns.map PV.int), .int k]) Q := by
 unfold gO
 rw [vJ]
 walk_at "wp"
 refine ⟨fun g => ?_, fun g => ?_⟩
 ·refine eC k0 (by rw [List.length_map]; exact g) fun p hp => ?_
  obtain ⟨c, _, rfl⟩ := List.mem_map.mp hp
  walk_at "wp"
  refine uG k0 k1 fun a b v0 v1 v2 v3 h => ?_
  walk_at "wp"
  exact q a b h
 ·refine uG k0 k1 fun a b v0 v1 v2 v3 h => ?_
  walk_at "wp"
  exact q a b h
end
section
open PySem L2 Mr
noncomputable def sg : Str := "abcdefghijklmnopqrstuvwxyz0123456789"
theorem atS {Z : Str} {d : Int} {Q : Nat → Prop} (h0 : 0 ≤ d) (h : d < (Z.length : Int)) (q : ∀ c ∈ Z.cps.toList, Q c) : Wp (pM Z.cps.toList d) Q := by
 obtain ⟨c, hc, e⟩ := HV h0 h
 exact ⟨c, e, q c hc⟩
theorem IB {a b c : Int} {n : Nat} {s : Option Sl} {xs : List PV} {Q : List PV × En → Prop} (hp : Hand a b c n) (hn : n + xs.length < 1000000)
  (q : ∀ (zs : List Str) s' a' b' c', zs.length = xs.length → (∀ z ∈ zs, ∃ k ∈ sg.cps.toList, z = ⟨#[k]⟩) → Hand a' b' c' (n + xs.length) → Q (zs.map PV.str, [s', some (.own (hd a' b' c'))])) :
  Wp (j9 (bX 0) iJ (bD fX (fC (.str "abcdefghijklmnopqrstuvwxyz0123456789")) (bQ [.m, .b] false aQ (aD (aF 1) (aD (fC (.int 36)) aM)))) xs [s, some (.own (hd a b c))]) Q := by
 refine kI (fun i acc e => ∃ (zs : List Str) (s : Option Sl) (a b c : Int), acc = zs.map PV.str ∧ zs.length = i ∧ (∀ z ∈ zs, ∃ k ∈ sg.cps.toList, z = ⟨#[k]⟩) ∧ e = [s, some (.own (hd a b c))] ∧ Hand a b c (n + i)) ?_ ?_ ⟨[], s, a, b, c, rfl, rfl, fun _ h => (nomatch h), rfl, hp⟩
 ·rintro i x e acc hx ⟨zs, s, a, b, c, rfl, hl', hz, rfl, hp⟩
  have hi := (List.getElem?_eq_some_iff.mp hx).1
  walk_at "wp"
  refine dG hp (by omega) (by decide) (by decide) fun d a' b' c' d0 d1 hp' => ?_
  walk_at "wp"
  refine ⟨by decide +kernel, ?_⟩
  refine atS d0 (Int.lt_of_lt_of_le d1 (by decide +kernel)) fun k hk => ?_
  walk_at "wp"
  exact ⟨zs ++ [⟨#[k]⟩], _, a', b', c', by rw [List.map_append]; rfl, by rw [List.length_append, hl']; rfl, fun z hz' => (List.mem_append.mp hz').elim (hz z) fun h => ⟨k, hk, List.mem_singleton.mp h⟩, rfl, hp'⟩
 ·rintro acc e ⟨zs, s, a, b, c, rfl, hl', hz, rfl, hp⟩
  exact q zs s a b c hl' hz hp
theorem JJ {zs : List Str} (h : ∀ z ∈ zs, ∃ k ∈ sg.cps.toList, z = ⟨#[k]⟩) : (zs.map (·.length)).sum = zs.length := by
 induction zs with
 | nil => rfl
 | cons z zs ih =>
  obtain ⟨k, _, rfl⟩ := h z List.mem_cons_self
  rw [List.map_cons, List.sum_cons, List.length_cons, ih fun w hw => h w (List.mem_cons_of_mem _ hw)]
  show 1 + _ = _
  omega
theorem e0 : (Str.ofString "").length = 0 := by decide +kernel
theorem J3 {zs : List Str} {Q : Bv → Prop} (h : ∀ z ∈ zs, ∃ k ∈ sg.cps.toList, z = ⟨#[k]⟩) (hs : zs.length < 1000) (q : ∀ x : Str, x.length ≤ zs.length → Q (.val (.str x))) :
  Wp (x5 (.str (Str.ofString "")) [.lst (zs.map PV.str)]) Q := by
 have l1 := JJ h
 have l2 : (Txt.join (Str.ofString "") zs).length ≤ (zs.map (·.length)).sum := joined
 unfold x5
 simp only [t8, jX, dB, gW, decide_eq_true_eq, e0]
 exact ⟨by omega, q _ (by omega)⟩
theorem o6 {α : Type} [DecidableEq α] : ∀ {l m : List α}, l.Nodup → (∀ x ∈ l, x ∈ m) → l.length ≤ m.length
 | [], m, _, _ => Nat.zero_le _
 | x :: l, m, hn, h => by
  have hx := h x List.mem_cons_self
  rw [List.nodup_cons] at hn
  have := o6 (l := l) (m := m.erase x) hn.2 fun y hy => (List.mem_erase_of_ne (fun e : y = x => hn.1 (by rw [← e]; exact hy))).mpr (h y (List.mem_cons_of_mem _ hy))
  rw [List.length_erase_of_mem hx] at this
  have : 0 < m.length := List.length_pos_of_mem hx
  rw [List.length_cons]
  omega
noncomputable abbrev sN (k : Nat) : Str := toString (0 + (k : Int))
theorem GX : ((List.range 64).map sN).Nodup := by decide +kernel
theorem LP {ss : List Str} (h : ss.length < 63) : ∃ k ∈ List.range (ss.length + 1), sN k ∉ ss := by
 refine Classical.byContradiction fun no => ?_
 have all : ∀ x ∈ (List.range (ss.length + 1)).map sN, x ∈ ss := fun x hx => by
  obtain ⟨k, hk, rfl⟩ := List.mem_map.mp hx
  exact Classical.byContradiction fun z => no ⟨k, hk, z⟩
 have nd : ((List.range (ss.length + 1)).map sN).Nodup := by
  have e : List.range (ss.length + 1) = (List.range 64).take (ss.length + 1) := by rw [List.take_range]; congr 1; omega
  rw [e, List.map_take]
  exact GX.sublist (List.take_sublist _ _)
 have := o6 nd all
 rw [List.length_map, List.length_range] at this
 omega
theorem NH : ∀ k ∈ List.range 64, (sN k).length ≤ 2 := by decide +kernel
end
section
open PySem L2 Mr
theorem JB {ss : List Str} {x : Str} : ((ss.map PV.str).any fun z => bV z (PV.str x)) = decide (x ∈ ss) := by
 rw [Bool.eq_iff_iff, List.any_eq_true, decide_eq_true_eq]
 constructor
 ·rintro ⟨p, hp, e⟩
  obtain ⟨y, hy, rfl⟩ := List.mem_map.mp hp
  rw [vT] at e
  rw [← eq_of_beq e]
  exact hy
 ·intro h
  exact ⟨.str x, List.mem_map.mpr ⟨x, h, rfl⟩, by rw [vT]; exact beq_self_eq_true x⟩
theorem uP {j : Nat} (h : j < 64) : (0 + (j : Int)).natAbs.log2 < 1920 := by
 rw [Int.zero_add, Int.natAbs_natCast]
 exact Nat.lt_of_le_of_lt (Nat.log2_le_self j) (by omega)
theorem yN {a b c m : Int} {n : Nat} {Q : PV × List PV → Prop} (h : Hand a b c n) (m0 : 0 ≤ m) (m1 : m ≤ 60) (hn : n < 100000)
  (q : ∀ (ss : List Str) a' b' c', (ss.length : Int) = m → (∀ x ∈ ss, x.length ≤ 12) → Hand a' b' c' (n + 13 * 60) → Q (.lst (ss.map PV.str), [hd a' b' c'])) : Wp (fO [hd a b c, .int m]) Q := by
 unfold fO lM
 walk_at "wp"
 refine ⟨kO (by omega) (by omega), ?_⟩
 refine gT (fun i e => ∃ (ss : List Str) (a b c : Int) (v3 v4 v5 : Option Sl), ss.length = i ∧ (∀ x ∈ ss, x.length ≤ 12) ∧ Hand a b c (n + 13 * i) ∧ e = [some (.own (hd a b c)), some (.val (.int m)), some (.loc (.lst (ss.map PV.str))), v3, v4, v5]) ?_ ?_ ⟨[], a, b, c, _, _, _, rfl, fun _ h => (nomatch h), h, rfl⟩
 ·rintro i x e hx ⟨ss, a, b, c, v3, v4, v5, hl, hs, hp, rfl⟩
  rw [List.getElem?_map] at hx
  obtain ⟨k, hk, rfl⟩ := Option.map_eq_some_iff.mp hx
  have hi := (List.getElem?_eq_some_iff.mp hk).1
  rw [List.length_range] at hi
  walk_at "wp"
  refine dG hp (by omega) (by decide) (by decide) fun d a1 b1 c1 d0 d1 hp => ?_
  walk_at "wp"
  refine eC d0 d1 fun p hp' => ?_
  obtain ⟨z, rfl, z0, z1⟩ : ∃ z : Int, p = .int z ∧ 1 ≤ z ∧ z ≤ 12 := by
   have r0 := Int.emod_nonneg (0 + (k : Int)) (show (12 : Int) ≠ 0 by decide)
   have r1 := Int.emod_lt_of_pos (0 + (k : Int)) (show (0 : Int) < 12 by decide)
   simp only [List.mem_cons, List.not_mem_nil, or_false] at hp'
   rcases hp' with rfl | rfl | rfl | rfl | rfl | rfl
   ·exact ⟨_, rfl, by decide, by decide⟩
   ·exact ⟨_, rfl, by decide, by decide⟩
   ·exact ⟨_, rfl, by decide, by decide⟩
   ·exact ⟨_, rfl, by decide, by decide⟩
   ·exact ⟨_, rfl, by decide, by decide⟩
   ·exact ⟨_, rfl, by omega, by omega⟩
  walk_at "wp"
  refine ⟨kO (by omega) (by omega), by omega, ?_⟩
  refine IB hp (by rw [List.length_map, List.length_range]; omega) fun zs s' a2 b2 c2 zl hz hp => ?_
  rw [List.length_map, List.length_range] at zl hp
  walk_at "wp"
  refine J3 hz (by omega) fun x hx => ?_
  walk_at "wp"
  have ok8 : (ss.map PV.str).all (jE 8) = true := List.all_eq_true.mpr fun p hp => by obtain ⟨y, _, rfl⟩ := List.mem_map.mp hp; rfl
  have done : ∀ y : Str, y.length ≤ 12 → ∃ (ss' : List Str) (a b c : Int) (v3 v4 v5 : Option Sl), ss'.length = i + 1 ∧ (∀ x ∈ ss', x.length ≤ 12) ∧ Hand a b c (n + 13 * (i + 1)) ∧ [some (Sl.own (hd a2 b2 c2)), some (Sl.val (PV.int m)), some (Sl.loc (PV.lst (ss.map PV.str ++ [PV.str y]))), some (Sl.val (PV.int (0 + (k : Int)))), some (Sl.val (PV.int z)), some (Sl.val (PV.str y))] = [some (.own (hd a b c)), some (.val (.int m)), some (.loc (.lst (ss'.map PV.str))), v3, v4, v5] := fun y hy =>
   ⟨ss ++ [y], a2, b2, c2, _, _, _, by rw [List.length_append, hl]; rfl, fun w hw => (List.mem_append.mp hw).elim (hs w) fun e => by rw [List.mem_singleton.mp e]; exact hy, hp.mono (by omega), by rw [List.map_append]; rfl⟩
  refine ⟨ok8, fun g => ⟨kO (by omega) (by omega), by omega, ?_⟩, fun g => ⟨by omega, done x (by omega)⟩⟩
  rw [show ((ss.length : Int) + 1).toNat = ss.length + 1 by omega]
  refine kI (fun j acc e => acc = (((List.range j).filter fun k => decide (sN k ∉ ss)).map fun k => PV.str (sN k)) ∧ ∃ s, e = [s, some (Sl.bor (PV.lst (ss.map PV.str)))]) ?_ ?_ ⟨rfl, _, rfl⟩
  ·rintro j y e acc hy ⟨rfl, s1, rfl⟩
   rw [List.getElem?_map] at hy
   obtain ⟨k', hk', rfl⟩ := Option.map_eq_some_iff.mp hy
   have hj := (List.getElem?_eq_some_iff.mp hk').1
   have ej := (List.getElem?_eq_some_iff.mp hk').2
   rw [List.length_range] at hj
   rw [List.getElem_range] at ej
   subst ej
   walk_at "wp"
   refine ⟨uP (by omega), ok8, ?_⟩
   rw [JB]
   have er : (List.range (j + 1)).filter (fun k => decide (sN k ∉ ss)) = (List.range j).filter (fun k => decide (sN k ∉ ss)) ++ (if sN j ∉ ss then [j] else []) := by
    rw [List.range_succ, List.filter_append]
    congr 1
    by_cases hm : sN j ∉ ss
    ·rw [if_pos hm]; simp [hm]
    ·rw [if_neg hm]; simp at hm; simp [hm]
   by_cases hm : sN j ∈ ss
   ·rw [show decide (Str.ofString (toString (0 + (j : Int))) ∈ ss) = true from decide_eq_true hm]
    refine ⟨?_, _, rfl⟩
    rw [er, if_neg (fun z => z hm), List.append_nil]
   ·rw [show decide (Str.ofString (toString (0 + (j : Int))) ∈ ss) = false from decide_eq_false hm]
    refine ⟨uP (by omega), ?_, _, rfl⟩
    rw [er, if_pos hm, List.map_append]
    rfl
  ·rintro acc e ⟨rfl, s1, rfl⟩
   rw [List.length_map, List.length_range]
   obtain ⟨k0, hk0, hf⟩ := LP (ss := ss) (by omega)
   have hm : k0 ∈ (List.range (ss.length + 1)).filter fun k => decide (sN k ∉ ss) := List.mem_filter.mpr ⟨hk0, decide_eq_true hf⟩
   have sub : ∀ k ∈ (List.range (ss.length + 1)).filter fun k => decide (sN k ∉ ss), (sN k).length ≤ 12 := fun k hk => by
    have := List.mem_range.mp (List.mem_filter.mp hk).1
    have := NH k (List.mem_range.mpr (by omega))
    omega
   cases ef : (List.range (ss.length + 1)).filter fun k => decide (sN k ∉ ss) with
   | nil => rw [ef] at hm; cases hm
   | cons k1 r =>
    have := sub k1 (by rw [ef]; exact List.mem_cons_self)
    walk_at "wp"
    exact ⟨by omega, done _ this⟩
 ·rintro e ⟨ss, a, b, c, v3, v4, v5, hl, hs, hp, rfl⟩
  walk_at "wp"
  rw [List.length_map, List.length_range] at hl
  rw [List.length_map, List.length_range] at hp
  exact q ss a b c (by omega) hs (hp.mono (by omega))
end
section
open PySem L2 Mr
noncomputable def oP : Option Str → PV
 | none => .aZ
 | some x => .str x
noncomputable abbrev Hl := List (Str × Option Str)
noncomputable def gC (hs : Hl) : List (Key × PV) := hs.map fun z => (Sum.inr z.1, oP z.2)
theorem AX (hs : Hl) (x : Str) : (jP (gC hs) (Sum.inr x) = none ∧ x ∉ hs.map (·.1)) ∨ ∃ o, jP (gC hs) (Sum.inr x) = some (oP o) ∧ (x, o) ∈ hs := by
 unfold jP gC
 induction hs with
 | nil => exact .inl ⟨rfl, fun h => nomatch h⟩
 | cons z hs ih =>
  rw [List.map_cons, List.find?_cons]
  by_cases h : z.1 = x
  ·right
   subst h
   exact ⟨z.2, by simp, List.mem_cons_self⟩
  ·have h' : ¬ (Sum.inr z.1 : Key) = Sum.inr x := fun e => h (Sum.inr.inj e)
   rw [decide_eq_false h']
   rcases ih with ⟨a, b⟩ | ⟨o, a, b⟩
   ·exact .inl ⟨a, fun e => by rcases List.mem_cons.mp e with e | e; exact h e.symm; exact b e⟩
   ·exact .inr ⟨o, a, List.mem_cons_of_mem _ b⟩
theorem oB {hs : Hl} {x : Str} {o : Option Str} (h : x ∉ hs.map (·.1)) : lB (gC hs) (Sum.inr x) (oP o) = gC (hs ++ [(x, o)]) := by
 unfold lB
 have e : ((gC hs).any fun kv => decide (kv.1 = Sum.inr x)) = false := by
  unfold gC
  rw [List.any_map, List.any_eq_false]
  intro z hz
  have : z.1 ≠ x := fun e => h (List.mem_map.mpr ⟨z, hz, e⟩)
  simp [this]
 rw [e, if_neg Bool.false_ne_true]
 unfold gC
 rw [List.map_append]; rfl
theorem qL (xs : List PV) (k : Nat) : oZ xs (some (k : Int)) none = xs.drop k := by
 unfold oZ
 rw [HT.xZ, HT.A2]
 by_cases h : k ≤ xs.length
 ·rw [Nat.min_eq_left h, List.take_of_length_le (by rw [List.length_drop]; exact Nat.le_refl _)]
 ·rw [Nat.min_eq_right (by omega), List.drop_of_length_le (Nat.le_refl _), List.drop_of_length_le (by omega), List.take_nil]
end
section
open PySem L2 Mr
noncomputable def nC (ab : Hl) (x : Str) : Option Str := (ab.find? fun z => decide (z.1 = x)).bind (·.2)
theorem vV (ab : Hl) (x : Str) : (jP (gC ab) (Sum.inr x)).getD .aZ = oP (nC ab x) := by
 unfold jP gC nC
 induction ab with
 | nil => rfl
 | cons z ab ih =>
  rw [List.map_cons, List.find?_cons, List.find?_cons]
  by_cases h : z.1 = x
  ·have e1 : decide ((Sum.inr z.1 : Key) = Sum.inr x) = true := decide_eq_true (by rw [h])
   have e2 : decide (z.1 = x) = true := decide_eq_true h
   simp only [e1, e2]
   rfl
  ·have e1 : decide ((Sum.inr z.1 : Key) = Sum.inr x) = false := decide_eq_false fun e => h (Sum.inr.inj e)
   have e2 : decide (z.1 = x) = false := decide_eq_false h
   simp only [e1, e2]
   exact ih
theorem yL (ab : Hl) : ((gC ab).map fun kv => tJ kv.1) = (ab.map (·.1)).map PV.str := by
 unfold gC
 rw [List.map_map, List.map_map]
 rfl
theorem FH (ab : Hl) (x : Str) : (jP (gC ab) (Sum.inr x)).isSome = decide (x ∈ ab.map (·.1)) := by
 rcases AX ab x with ⟨h1, h2⟩ | ⟨o, h1, h2⟩
 ·rw [h1, decide_eq_false h2]; rfl
 ·rw [h1, decide_eq_true (List.mem_map.mpr ⟨_, h2, rfl⟩)]; rfl
noncomputable abbrev rP (r : List Str) : PV := .lst (r.map PV.str)
noncomputable def g9 (ab : Hl) : List Str := ab.map (·.1) ++ ab.filterMap (·.2)
theorem m5 (ab : Hl) : (g9 ab).length ≤ 2 * ab.length := by
 unfold g9
 rw [List.length_append, List.length_map]
 have := List.length_filterMap_le (·.2 : Str × Option Str → Option Str) ab
 omega
theorem RP {ab : Hl} {x y : Str} (h : nC ab x = some y) : y ∈ g9 ab := by
 unfold nC at h
 cases c : ab.find? fun z => decide (z.1 = x) with
 | none => rw [c] at h; cases h
 | some z =>
  rw [c] at h
  exact List.mem_append_right _ (List.mem_filterMap.mpr ⟨z, List.mem_of_find?_eq_some c, h⟩)
structure V0 (ab : Hl) (ms : Hl) (start : Str) (l : List Str) (nm : Option Str) : Prop where
 path : Rg.Path (nC ab) l nm
 nil : l = [] → nm = some start
 nd : (ms.map (·.1) ++ l).Nodup
 sub : ∀ x ∈ l, x ∈ g9 ab
 Y6 : ∀ x, nm = some x → x ∈ g9 ab
 st : l ≠ [] → start ∈ l
noncomputable def m7 (ms : Hl) (start : Str) (l : List Str) : Hl := ms ++ l.map fun x => (x, some start)
theorem gH (ms : Hl) (start : Str) (l : List Str) : (m7 ms start l).map (·.1) = ms.map (·.1) ++ l := by
 unfold m7
 rw [List.map_append, List.map_map]
 congr 1
 exact List.map_id' _
noncomputable def vN : FS := (lS (pU (bH (bD (IP true) (aF 5) (fC .aZ))) (bH (bD (KG true) (aF 5) (aF 1)))) (bF (kY 1 (aF 5) (aF 3))
  (bF (sT 4 (aF 5))
  (dY 5 (BC (aF 0) (aF 5))))) 1000)
noncomputable def AQ : FS := (mR (pU (bH (bD (IP true) (aF 5) (fC .aZ))) (bH (bD tI (bD fX (aF 1) (aF 5)) (aF 3)))) (sT 2 (uE tY (aF 4) (gR (qB (aF 4) (aF 5))) dF)) dQ)
theorem AJ : mW = (bF (fZ 1 n0)
  (bF (fZ 2 (eZ aM))
  (bF (kU (xY (aF 0)) (bX 3) (bF (fZ 4 (eZ aM))
  (bF (dY 5 (aF 3))
  (bF vN AQ))))
  (d7 (aF 2))))) := rfl
noncomputable abbrev rK (ab met : Hl) (F : List (List Str)) (start : Str) (l : List Str) (nm : Option Str) : En :=
 [some (.bor (.cC (gC ab))), some (.loc (.cC (gC met))), some (.loc (.lst (F.map rP))), some (.val (.str start)), some (.loc (.lst (l.map PV.str))), some (.val (oP nm))]
noncomputable def O4 (e : En) : Nat := match e[4]? with
 | some (some (Sl.loc (PV.lst ps))) => ps.length
 | _ => 0
theorem GH {ab ms : Hl} {F : List (List Str)} {start : Str} {Q : Out → Prop} (hl : ab.length ≤ 400) (hm : ms.length ≤ 2 * ab.length) (hms : ∀ x ∈ ms.map (·.1), x ∈ g9 ab) (hs : start ∈ g9 ab) (hnd : (ms.map (·.1)).Nodup)
  (q : ∀ l nm, V0 ab ms start l nm → (∀ x, nm = some x → x ∈ ms.map (·.1) ++ l) → Q (.nx (rK ab (m7 ms start l) F start l nm))) :
  Wp (vN (rK ab ms F start [] (some start))) Q := by
 unfold vN
 have len : ∀ {l : List Str} {nm : Option Str}, V0 ab ms start l nm → ms.length + l.length ≤ 2 * ab.length := fun {l nm} c => by
  have h1 := o6 c.nd (m := g9 ab) fun x hx => (List.mem_append.mp hx).elim (hms x) (c.sub x)
  rw [List.length_append, List.length_map] at h1
  have := m5 ab
  omega
 refine rM (fun e => ∃ l nm, V0 ab ms start l nm ∧ e = rK ab (m7 ms start l) F start l nm) (fun e => 2 * ab.length + 1 - O4 e) ?_ ?_ ⟨[], some start, ⟨trivial, fun _ => rfl, by rw [List.append_nil]; exact hnd, (fun _ h => nomatch h), (fun x e => by cases e; exact hs), fun h => absurd rfl h⟩, by unfold m7; rw [List.map_nil, List.append_nil]⟩
 ·rintro e ⟨l, nm, c, rfl⟩
  have hle := len c
  cases nm with
  | none =>
   have eo : oP none = PV.aZ := rfl
   have := q l none c (fun _ e => nomatch e)
   unfold rK at this ⊢
   rw [eo] at this ⊢
   walk_at "wp"
   exact this
  | some x =>
   have eo : oP (some x) = PV.str x := rfl
   unfold rK
   rw [eo]
   walk_at "wp"
   rw [FH, gH]
   by_cases hx : x ∈ ms.map (·.1) ++ l
   ·rw [decide_eq_true hx]
    exact q l (some x) c fun y e => by cases e; exact hx
   ·rw [decide_eq_false hx]
    have hxl : x ∉ l := fun h => hx (List.mem_append_right _ h)
    have pt : lB (gC (m7 ms start l)) (Sum.inr x) (PV.str start) = gC (m7 ms start (l ++ [x])) := by
     have := oB (hs := m7 ms start l) (x := x) (o := some start) (by rw [gH]; exact hx)
     rw [show oP (some start) = PV.str start from rfl] at this
     rw [this]
     unfold m7
     rw [List.map_append, List.append_assoc]
     rfl
    have kl : (gC (m7 ms start l)).length = ms.length + l.length := by unfold gC m7; rw [List.length_map, List.length_append, List.length_map]
    refine ⟨by rw [kl]; omega, by omega, ⟨l ++ [x], nC ab x, ⟨c.path.snoc rfl, fun h => absurd h (by simp), ?_, ?_, fun y e => RP e, fun _ => ?_⟩, ?_⟩, ?_⟩
    ·rw [← List.append_assoc]
     refine List.nodup_append.mpr ⟨c.nd, by simp, fun u hu w hw e => ?_⟩
     rw [List.mem_singleton.mp hw] at e
     rw [e] at hu
     exact hx hu
    ·intro y hy
     rcases List.mem_append.mp hy with hy | hy
     ·exact c.sub y hy
     ·rw [List.mem_singleton.mp hy]; exact c.Y6 x rfl
    ·by_cases h : l = []
     ·have := c.nil h
      cases this
      simp
     ·exact List.mem_append_left _ (c.st h)
    ·rw [pt, vV, List.map_append]
     rfl
    ·show 2 * ab.length + 1 - (l.map PV.str ++ [PV.str x]).length < 2 * ab.length + 1 - (l.map PV.str).length
     rw [List.length_append, List.length_map]
     simp only [List.length_cons, List.length_nil]
     omega
 ·show 2 * ab.length + 1 - 0 < 1000
  omega
theorem KO {ab ms : Hl} {F : List (List Str)} {start : Str} {l : List Str} {nm : Option Str} {Q : Out → Prop} (c : V0 ab ms start l nm) (hn : ∀ x, nm = some x → x ∈ ms.map (·.1) ++ l) (hst : ∀ z ∈ ms, z.2 ≠ some start) (hsm : ∀ z ∈ ms, ∃ y, z.2 = some y)
  (hl : l.length < 1000) (hF : F.length < 1000) (f : Rg.Found (nC ab) (ms.map (·.1)) F) (q : ∀ G, Rg.Found (nC ab) (ms.map (·.1) ++ l) G → G.length ≤ F.length + 1 → Q (.nx (rK ab (m7 ms start l) G start l nm))) :
  Wp (AQ (rK ab (m7 ms start l) F start l nm)) Q := by
 unfold AQ
 have dj : ∀ x ∈ l, x ∉ ms.map (·.1) := fun x hx h => (List.nodup_append.mp c.nd).2.2 x h x hx rfl
 cases nm with
 | none =>
  have := q F (f.out c.path dj fun y e => nomatch e) (by omega)
  have eo : oP none = PV.aZ := rfl
  unfold rK at this ⊢
  rw [eo] at this ⊢
  walk_at "wp"
  exact this
 | some x =>
  have eo : oP (some x) = PV.str x := rfl
  have hx := hn x rfl
  unfold rK
  rw [eo]
  walk_at "wp"
  rcases AX (m7 ms start l) x with ⟨_, h2⟩ | ⟨o, h1, h2⟩
  ·rw [gH] at h2
   exact absurd hx h2
  ·rw [h1]
   rcases List.mem_append.mp h2 with h2 | h2
   ·obtain ⟨y, hy⟩ := hsm _ h2
    have hy : o = some y := hy
    have hne : y ≠ start := fun e => hst _ h2 (by rw [← e]; exact hy)
    have := q F (f.out c.path dj fun w e => by cases e; exact List.mem_map.mpr ⟨_, h2, rfl⟩) (by omega)
    unfold rK at this
    rw [eo] at this
    subst hy
    rw [show oP (some y) = PV.str y from rfl]
    walk_at "wp"
    refine ⟨fun h => absurd (eq_of_beq h) hne, fun _ => this⟩
   ·obtain ⟨w, hw, ew⟩ := List.mem_map.mp h2
    cases ew
    rw [show oP (some start) = PV.str start from rfl]
    walk_at "wp"
    rw [t8]
    walk_at "wp"
    refine ⟨⟨hw, by omega⟩, by omega, ?_⟩
    have hi : l.idxOf x < l.length := List.idxOf_lt_length_iff.mpr hw
    have hh : (l.drop (l.idxOf x)).head? = some x := by
     rw [List.head?_drop, List.getElem?_eq_getElem hi, List.getElem_idxOf]
    have hf := f.SR (p := l.take (l.idxOf x)) (r := l.drop (l.idxOf x)) (fun e => by rw [e] at hh; cases hh) (by rw [hh, List.take_append_drop]; exact c.path) (by rw [List.take_append_drop]; exact (List.nodup_append.mp c.nd).2.1) (by rw [List.take_append_drop]; exact dj)
    rw [List.take_append_drop] at hf
    have := q _ hf (by rw [List.length_append]; exact Nat.le_refl _)
    unfold rK at this
    rw [eo, List.map_append] at this
    rw [qL, ← List.map_drop]
    exact this
theorem pG {ab : Hl} {Q : PV × List PV → Prop} (hl : ab.length ≤ 400) (hk : (ab.map (·.1)).Nodup) (q : ∀ (S : List Str) (F : List (List Str)), Rg.Found (nC ab) S F → (∀ x ∈ ab.map (·.1), x ∈ S) → (∀ x ∈ S, x ∈ g9 ab) → Q (.lst (F.map rP), [])) : Wp (gQ [.cC (gC ab)]) Q := by
 unfold gQ
 rw [AJ]
 walk_at "wp"
 rw [yL]
 refine gT (fun i e => ∃ (ms : Hl) (F : List (List Str)) (v3 v4 v5 : Option Sl), e = [some (.bor (.cC (gC ab))), some (.loc (.cC (gC ms))), some (.loc (.lst (F.map rP))), v3, v4, v5] ∧ Rg.Found (nC ab) (ms.map (·.1)) F ∧ F.length ≤ i ∧ (ms.map (·.1)).Nodup ∧
  (∀ x ∈ ms.map (·.1), x ∈ g9 ab) ∧ (∀ z ∈ ms, ∃ (j : Nat) (y : Str), j < i ∧ z.2 = some y ∧ (ab.map (·.1))[j]? = some y) ∧ ∀ (j : Nat) (x : Str), j < i → (ab.map (·.1))[j]? = some x → x ∈ ms.map (·.1)) ?_ ?_ ⟨[], [], none, none, none, rfl, Rg.Found.nil, Nat.le_refl _, List.nodup_nil, (fun _ h => nomatch h), (fun _ h => nomatch h), fun j _ h => absurd h (Nat.not_lt_zero _)⟩
 ·rintro i p e hp ⟨ms, F, v3, v4, v5, rfl, hf, hF, hnd, hsub, hst, hdone⟩
  rw [List.getElem?_map] at hp
  obtain ⟨start, hs, rfl⟩ := Option.map_eq_some_iff.mp hp
  have hil : i < ab.length := by have := (List.getElem?_eq_some_iff.mp hs).1; rwa [List.length_map] at this
  have hsA : start ∈ g9 ab := List.mem_append_left _ (List.mem_of_getElem? hs)
  have hml : ms.length ≤ 2 * ab.length := by
   have h1 := o6 hnd (m := g9 ab) hsub
   rw [List.length_map] at h1
   have := m5 ab
   omega
  walk_at "wp"
  refine GH (F := F) hl hml hsub hsA hnd fun l nm c hn => ?_
  have hll : l.length ≤ 2 * ab.length := by
   have h1 := o6 (List.nodup_append.mp c.nd).2.1 (m := g9 ab) c.sub
   have := m5 ab
   omega
  refine KO c hn (fun z hz e => ?_) (fun z hz => let ⟨_, y, _, h, _⟩ := hst z hz; ⟨y, h⟩) (by omega) (by omega) hf fun G hG hGl => ?_
  ·obtain ⟨j, y, hj, h1, h2⟩ := hst z hz
   rw [e] at h1
   cases h1
   have e1 := (List.getElem?_inj (by rw [List.length_map]; omega) hk).mp (h2.trans hs.symm)
   omega
  ·refine ⟨m7 ms start l, G, _, _, _, rfl, by rw [gH]; exact hG, by omega, by rw [gH]; exact c.nd, fun x hx => ?_, fun z hz => ?_, fun j x hj hx => ?_⟩
   ·rw [gH] at hx
    exact (List.mem_append.mp hx).elim (hsub x) (c.sub x)
   ·rcases List.mem_append.mp hz with hz | hz
    ·obtain ⟨j, y, h1, h2⟩ := hst z hz
     exact ⟨j, y, by omega, h2⟩
    ·obtain ⟨w, _, rfl⟩ := List.mem_map.mp hz
     exact ⟨i, start, by omega, rfl, hs⟩
   ·rw [gH]
    by_cases hj' : j = i
    ·subst hj'
     rw [hs] at hx
     cases hx
     by_cases h : l = []
     ·have h1 := hn start (by rw [c.nil h])
      exact h1
     ·exact List.mem_append_right _ (c.st h)
    ·exact List.mem_append_left _ (hdone j x (by omega) hx)
 ·rintro e ⟨ms, F, v3, v4, v5, rfl, hf, hF, hnd, hsub, hst, hdone⟩
  walk_at "wp"
  refine q _ F hf (fun x hx => ?_) hsub
  obtain ⟨j, hj⟩ := List.getElem?_of_mem hx
  have := (List.getElem?_eq_some_iff.mp hj).1
  exact hdone j x (by rw [List.length_map]; exact this) hj
end
section
open PySem L2 Mr
noncomputable abbrev SG : Str := "abcdefghijklmnopqrstuvwxyz0123456789"
noncomputable def QK (c : Nat) : Bool := !(Builtin.Str.occurrences SG ⟨#[c]⟩ 0 SG.length 1).isEmpty
noncomputable def o5 (x : Str) : Bool := decide (1 ≤ x.length ∧ x.length ≤ 12) && x.cps.toList.all QK
theorem sF {x : Str} {s : Option Sl} {Q : List PV × En → Prop} (q : ∀ s', Q (x.cps.toList.map fun c => PV.bl (QK c), [s'])) : Wp (j9 (bX 0) iJ (bD (KG false) (aF 0) (fC (.str SG))) (x.cps.toList.map fun c => .str ⟨#[c]⟩) [s]) Q := by
 refine kI (fun i acc e => ∃ s, acc = (x.cps.toList.take i).map (fun c => PV.bl (QK c)) ∧ e = [s]) ?_ ?_ ⟨s, rfl, rfl⟩
 ·rintro i p e acc hp ⟨s, rfl, rfl⟩
  rw [List.getElem?_map] at hp
  obtain ⟨c, hc, rfl⟩ := Option.map_eq_some_iff.mp hp
  walk_at "wp"
  exact ⟨_, by rw [List.take_add_one, hc, List.map_append]; rfl, rfl⟩
 ·rintro acc e ⟨s, rfl, rfl⟩
  rw [List.length_map, List.take_length]
  exact q s
noncomputable def GQ : PV → Bool
 | .str x => o5 x
 | _ => false
theorem BK (l : List Nat) : mF (l.map fun c => PV.bl (QK c)) = some (l.map QK) := by
 induction l with
 | nil => rfl
 | cons c l ih => rw [List.map_cons, List.map_cons, mF, ih]; rfl
structure nR (p : PV) : Prop where
 ty : ∀ n, p ≠ .ty n
 str : ∀ x, p = .str x → x.length < 1000000
theorem vZ {p : PV} {Q : PV × List PV → Prop} (h : nR p) (q : Q (.bl (GQ p), [])) : Wp (hE [p]) Q := by
 unfold hE oK
 cases p with
 | ty n => exact absurd rfl (h.ty n)
 | str x =>
  have hz := h.str x rfl
  have hc : x.cps.toList.length < 1000000 := by rw [Array.length_toList]; exact hz
  have q : Q (.bl (o5 x), []) := q
  walk_at "wp"
  refine ⟨hz, ?_⟩
  by_cases h1 : 1 ≤ x.length
  ·by_cases h2 : x.length ≤ 12
   ·have e1 : decide ((1 : Int) ≤ x.length) = true := decide_eq_true (by omega)
    have e2 : decide ((x.length : Int) ≤ 12) = true := decide_eq_true (by omega)
    rw [e1]
    walk_at "wp"
    rw [e2]
    walk_at "wp"
    refine ⟨fun z => z.elim, hc, sF fun s' => ?_⟩
    walk_at "wp"
    rw [BK]
    walk_at "wp"
    have e : o5 x = (x.cps.toList.map QK).all id := by unfold o5; rw [decide_eq_true ⟨h1, h2⟩, Bool.true_and, List.all_map]; rfl
    rw [← e]
    exact q
   ·have e1 : decide ((1 : Int) ≤ x.length) = true := decide_eq_true (by omega)
    have e2 : decide ((x.length : Int) ≤ 12) = false := decide_eq_false (by omega)
    rw [e1]
    walk_at "wp"
    rw [e2]
    walk_at "wp"
    have e : o5 x = false := by unfold o5; rw [decide_eq_false (fun z => h2 z.2), Bool.false_and]
    rw [e] at q
    exact ⟨q, fun z => z.elim⟩
  ·have e1 : decide ((1 : Int) ≤ x.length) = false := decide_eq_false (by omega)
   rw [e1]
   walk_at "wp"
   have e : o5 x = false := by unfold o5; rw [decide_eq_false (fun z => h1 z.1), Bool.false_and]
   rw [e] at q
   exact q
 | _ => walk_at "wp"; exact q
theorem j0 {p : PV} {Q : PV × List PV → Prop} (h : nR p) (q : Q (.bl (GQ p), [])) : Wp (eF [p]) Q := by
 unfold eF m6
 cases p with
 | ty n => exact absurd rfl (h.ty n)
 | str x =>
  have hz := h.str x rfl
  have hc : x.cps.toList.length < 1000000 := by rw [Array.length_toList]; exact hz
  have q : Q (.bl (o5 x), []) := q
  walk_at "wp"
  refine ⟨hz, fun h1 => ?_, fun h1 => ⟨hz, fun h2 => ?_, fun h2 => ⟨hc, sF fun s' => ?_⟩⟩⟩
  ·have e : o5 x = false := by unfold o5; rw [decide_eq_false (fun z => by omega), Bool.false_and]
   rw [← e]; exact q
  ·have e : o5 x = false := by unfold o5; rw [decide_eq_false (fun z => by omega), Bool.false_and]
   rw [← e]; exact q
  ·walk_at "wp"
   rw [BK]
   walk_at "wp"
   have e : o5 x = (x.cps.toList.map QK).all id := by unfold o5; rw [decide_eq_true (by omega), Bool.true_and, List.all_map]; rfl
   rw [← e]
   exact q
 | _ => walk_at "wp"; exact q
noncomputable def mU : PV → Bool
 | .tup [p, q] => GQ p && (match q with | .aZ => true | .str y => o5 y && (match p with | .str x => y != x | _ => true) | _ => false)
 | _ => false
structure pW (p : PV) : Prop where
 a : nR p
 t : ∀ ps, p = .tup ps → ps.length < 1000000 ∧ ∀ q ∈ ps, nR q
theorem IS {p : PV} {Q : PV × List PV → Prop} (h : pW p) (q : Q (.bl (mU p), [])) : Wp (h9 [p]) Q := by
 unfold h9 o8
 cases p with
 | ty n => exact absurd rfl (h.a.ty n)
 | tup ps =>
  obtain ⟨hl, hs⟩ := h.t ps rfl
  match ps, hl, hs, q with
  | [], _, _, q => walk_at "wp"; exact ⟨fun _ => q, fun h => absurd h (by decide)⟩
  | [x], _, _, q => walk_at "wp"; exact ⟨fun _ => q, fun h => absurd h (by decide)⟩
  | x :: y :: z :: r, hl, _, q =>
   walk_at "wp"
   rw [List.length_cons, List.length_cons, List.length_cons] at hl
   refine ⟨fun _ => q, fun h => ?_⟩
   simp at h
   omega
  | [x, y], _, hs, q =>
   have hx := hs x (by simp)
   have hy := hs y (by simp)
   walk_at "wp"
   refine ⟨fun h => absurd h (by decide), fun _ => vZ hx ?_⟩
   walk_at "wp"
   cases ex : GQ x with
   | false =>
    have e : mU (.tup [x, y]) = false := by simp [mU, ex]
    rw [e] at q
    walk_at "wp"
    exact ⟨q, fun z => z.elim⟩
   | true =>
    obtain ⟨z, rfl⟩ : ∃ z, x = .str z := by
     cases x with
     | str z => exact ⟨z, rfl⟩
     | _ => cases ex
    have exS : o5 z = true := ex
    walk_at "wp"
    cases y with
    | ty n => exact absurd rfl (hy.ty n)
    | aZ =>
     have e : mU (.tup [.str z, .aZ]) = true := by simp [mU, ex]
     rw [e] at q
     walk_at "wp"
     exact ⟨fun z => z.elim, q, fun z => z.elim⟩
    | str w =>
     walk_at "wp"
     refine ⟨fun z => z.elim, fun z => z.elim, vZ hy ?_⟩
     cases ew : GQ (.str w) with
     | false =>
      have ewS : o5 w = false := ew
      have e : mU (.tup [.str z, .str w]) = false := by simp [mU, ex, ewS]
      rw [e] at q
      walk_at "wp"
      first | exact q | exact ⟨fun z => z.elim, q⟩ | exact ⟨q, fun z => z.elim⟩
     | true =>
      have ewS : o5 w = true := ew
      have e : mU (.tup [.str z, .str w]) = (w != z) := by simp [mU, ex, ewS]
      rw [e] at q
      walk_at "wp"
      exact q
    | _ =>
     walk_at "wp"
     refine ⟨fun z => z.elim, fun z => z.elim, vZ hy ?_⟩
     simp only [mU, ex, Bool.and_false, Bool.true_and] at q
     unfold GQ
     walk_at "wp"
     first | exact q | exact ⟨fun z => z.elim, q⟩ | exact ⟨q, fun z => z.elim⟩
 | _ => walk_at "wp"; exact q
end
section
open PySem L2 Mr
noncomputable def ltB (a b : Str) : Bool := decide (a.cps.toList < b.cps.toList)
noncomputable def sE (l : List Str) (i : Nat) : Bool := ltB (l.getD i "") (l.getD (i + 1) "")
theorem YD (l : List Str) (n : Nat) : mF ((List.range n).map fun i => PV.bl (sE l i)) = some ((List.range n).map (sE l)) := by
 induction n with
 | zero => rfl
 | succ n ih =>
  rw [List.range_succ, List.map_append, List.map_append]
  have app : ∀ (a b : List PV) (x y : List Bool), mF a = some x → mF b = some y → mF (a ++ b) = some (x ++ y) := by
   intro a
   induction a with
   | nil => intro b x y h1 h2; cases h1; exact h2
   | cons p a ih =>
    intro b x y h1 h2
    cases p with
    | bl c =>
     rw [mF] at h1
     obtain ⟨z, h3, h1⟩ := aI h1
     cases h1
     rw [List.cons_append, mF, ih b z y h3 h2]
     rfl
    | _ => cases h1
  exact app _ _ _ _ ih rfl
theorem FF {l : List Str} {Q : PV × List PV → Prop} (hl : l.length < 1000) (q : Q (.bl ((List.range (l.length - 1)).all (sE l)), [])) : Wp (lG [.lst (l.map PV.str)]) Q := by
 unfold lG uS
 walk_at "wp"
 have en : ((l.length : Int) - 1).toNat = l.length - 1 := by omega
 rw [en]
 refine ⟨kO (by omega) (by omega), by omega, ?_⟩
 refine kI (fun i acc e => ∃ s, acc = (List.range i).map (fun k => PV.bl (sE l k)) ∧ e = [s, some (Sl.bor (PV.lst (l.map PV.str)))]) ?_ ?_ ⟨none, rfl, rfl⟩
 ·rintro i p e acc hp ⟨s, rfl, rfl⟩
  rw [List.getElem?_map] at hp
  obtain ⟨k, hk, rfl⟩ := Option.map_eq_some_iff.mp hp
  have hi : i < l.length - 1 := by have := (List.getElem?_eq_some_iff.mp hk).1; rwa [List.length_range] at this
  rw [List.getElem?_range hi] at hk
  cases hk
  have a1 : pM (l.map PV.str) ((0 : Int) + (i : Int)) = some (.str (l.getD i "")) := by
   rw [Int.zero_add]
   refine jO (j := i) ?_
   rw [List.getElem?_map, List.getD_eq_getElem?_getD, List.getElem?_eq_getElem (by omega)]; rfl
  have a2 : pM (l.map PV.str) ((0 : Int) + (i : Int) + 1) = some (.str (l.getD (i + 1) "")) := by
   rw [Int.zero_add]
   refine jO (j := i + 1) ?_
   rw [List.getElem?_map, List.getD_eq_getElem?_getD, List.getElem?_eq_getElem (by omega)]; rfl
  walk_at "wp"
  rw [a1]
  walk_at "wp"
  rw [a2]
  walk_at "wp"
  exact ⟨_, by rw [List.range_succ, List.map_append]; rfl, rfl⟩
 ·rintro acc e ⟨s, rfl, rfl⟩
  walk_at "wp"
  rw [YD]
  walk_at "wp"
  rw [List.all_map]
  exact q
noncomputable def mG (z : Str × Option Str) : PV := .tup [.str z.1, oP z.2]
theorem rQ {p : PV} (h : mU p = true) : ∃ z : Str × Option Str, p = mG z ∧ o5 z.1 = true ∧ ∀ y, z.2 = some y → o5 y = true ∧ y ≠ z.1 := by
 unfold mU at h
 split at h
 ·rename_i p q
  rw [Bool.and_eq_true] at h
  obtain ⟨h1, h2⟩ := h
  cases p with
  | str x =>
   cases q with
   | aZ => exact ⟨(x, none), rfl, h1, fun _ e => nomatch e⟩
   | str y =>
    simp only [Bool.and_eq_true, bne_iff_ne, ne_eq] at h2
    exact ⟨(x, some y), rfl, h1, fun w e => by cases e; exact h2⟩
   | _ => cases h2
  | _ => cases h1
 ·cases h
theorem ID {ps : List PV} (h : ps.all mU = true) : ∃ hs : Hl, ps = hs.map mG ∧ ∀ z ∈ hs, o5 z.1 = true ∧ ∀ y, z.2 = some y → o5 y = true ∧ y ≠ z.1 := by
 induction ps with
 | nil => exact ⟨[], rfl, fun _ h => nomatch h⟩
 | cons p ps ih =>
  rw [List.all_cons, Bool.and_eq_true] at h
  obtain ⟨hs, rfl, h2⟩ := ih h.2
  obtain ⟨z, rfl, h3⟩ := rQ h.1
  refine ⟨z :: hs, rfl, fun w hw => ?_⟩
  rcases List.mem_cons.mp hw with rfl | hw
  ·exact h3
  ·exact h2 w hw
end
section
open PySem L2 Mr
theorem C0 {hs : Hl} {v : Option Sl} {w : Option Sl} {Q : List (Key × PV) × En → Prop} (hn : (hs.map (·.1)).Nodup) (q : ∀ v w, Q (gC hs, [v, w])) : Wp (jS (rN 2 (iN (bX 0) (iN (bX 1) sQ))) iJ (aF 0) (aF 1) (hs.map mG) [v, w] []) Q := by
 refine ES (fun i d e => ∃ v w, d = gC (hs.take i) ∧ e = [v, w]) ?_ ?_ ⟨v, w, rfl, rfl⟩
 ·rintro i p e d hp ⟨v, w, rfl, rfl⟩
  rw [List.getElem?_map] at hp
  obtain ⟨⟨x, o⟩, hx, rfl⟩ := Option.map_eq_some_iff.mp hp
  have hi := (List.getElem?_eq_some_iff.mp hx).1
  have nx : x ∉ (hs.take i).map (·.1) := fun h => by
   obtain ⟨z, hz, ez⟩ := List.mem_map.mp h
   obtain ⟨j, hj⟩ := List.getElem?_of_mem hz
   rw [List.getElem?_take] at hj
   split at hj
   ·rename_i hji
    have h1 : (hs.map (·.1))[j]? = some x := by rw [List.getElem?_map, hj]; exact congrArg some ez
    have h2 : (hs.map (·.1))[i]? = some x := by rw [List.getElem?_map, hx]; rfl
    have := (List.getElem?_inj (by rw [List.length_map]; omega) hn).mp (h1.trans h2.symm)
    omega
   ·cases hj
  have pt := oB (hs := hs.take i) (x := x) (o := o) nx
  have tk : hs.take (i + 1) = hs.take i ++ [(x, o)] := by rw [List.take_add_one, hx]; rfl
  unfold mG
  cases o with
  | none =>
   rw [show oP none = PV.aZ from rfl] at pt ⊢
   walk_at "wp"
   exact ⟨_, _, by rw [pt, tk], rfl⟩
  | some y =>
   rw [show oP (some y) = PV.str y from rfl] at pt ⊢
   walk_at "wp"
   exact ⟨_, _, by rw [pt, tk], rfl⟩
 ·rintro d e ⟨v, w, rfl, rfl⟩
  rw [List.length_map, List.take_length]
  exact q v w
theorem xB {hs : Hl} {Q : PV × List PV → Prop} (hl : hs.length ≤ 300) (hn : (hs.map (·.1)).Nodup) (q : ∀ (S : List Str) (F : List (List Str)), Rg.Found (nC hs) S F → (∀ x ∈ hs.map (·.1), x ∈ S) → Q (.bl (!F.isEmpty), [])) : Wp (iH [.tup (hs.map mG)]) Q := by
 unfold iH m4
 walk_at "wp"
 refine ⟨by omega, C0 hn fun v w => ?_⟩
 walk_at "wp"
 refine pG (by omega) hn fun S F f hk _ => ?_
 have q := q S F f hk
 have okF : jE 9 (.lst (F.map rP)) = true := by
  show (F.map rP).all (jE 8) = true
  rw [List.all_eq_true]
  intro p hp
  obtain ⟨r, _, rfl⟩ := List.mem_map.mp hp
  show (r.map PV.str).all (jE 7) = true
  rw [List.all_eq_true]
  intro p hp
  obtain ⟨r, _, rfl⟩ := List.mem_map.mp hp
  rfl
 walk_at "wp"
 refine ⟨okF, ?_⟩
 cases F with
 | nil => rw [List.map_nil, dX]; exact q
 | cons r F => rw [List.map_cons, show dX (rP r :: F.map rP) [] = false by simp [dX]]; exact q
noncomputable def Goes (hs : Hl) : Prop := ∃ x ∈ hs.map (·.1), Rg.C1 (nC hs) x
theorem qK {hs : Hl} {S : List Str} {F : List (List Str)} (f : Rg.Found (nC hs) S F) (hk : ∀ x ∈ hs.map (·.1), x ∈ S) : F ≠ [] ↔ Goes hs := by
 constructor
 ·intro h
  cases F with
  | nil => exact absurd rfl h
  | cons R F =>
   have hR := f.ring R List.mem_cons_self
   cases R with
   | nil => exact absurd rfl hR.ne
   | cons x R =>
    have c := hR.C1 (x := x) (by simp)
    refine ⟨x, ?_, c⟩
    obtain ⟨n, hn⟩ := c
    cases e : nC hs x with
    | none => rw [Rg.lR, e] at hn; cases hn
    | some y =>
     unfold nC at e
     cases e2 : hs.find? fun z => decide (z.1 = x) with
     | none => rw [e2] at e; cases e
     | some z =>
      have h1 := List.mem_of_find?_eq_some e2
      have h2 := List.find?_some e2
      exact List.mem_map.mpr ⟨z, h1, of_decide_eq_true h2⟩
 ·rintro ⟨x, hx, c⟩ rfl
  have := (f.iff (hk x hx)).mpr c
  simp at this
end
section
open PySem L2 Mr
theorem QG {hs : Hl} {x y : Str} (e : nC hs x = some y) : x ∈ hs.map (·.1) := by
 unfold nC at e
 cases e2 : hs.find? fun z => decide (z.1 = x) with
 | none => rw [e2] at e; cases e
 | some z =>
  have h1 := List.mem_of_find?_eq_some e2
  have h2 := List.find?_some e2
  exact List.mem_map.mpr ⟨z, h1, of_decide_eq_true h2⟩
theorem P4 {hs : Hl} (hl : hs.length ≤ 300) (hn : (hs.map (·.1)).Nodup) {x : Str} (hx : x ∈ hs.map (·.1)) (c : Rg.C1 (nC hs) x) : ∃ n, n < hs.length ∧ Rg.lR (nC hs) (n + 1) x = some x := by
 obtain ⟨_, _, S, F, f, hk⟩ : Wp (gQ [.cC (gC hs)]) fun _ => ∃ (S : List Str) (F : List (List Str)), Rg.Found (nC hs) S F ∧ ∀ x ∈ hs.map (·.1), x ∈ S := pG (by omega) hn fun S F f hk _ => ⟨S, F, f, hk⟩
 have h1 := (f.iff (hk x hx)).mpr c
 obtain ⟨R, hR, hxR⟩ := List.mem_flatten.mp h1
 have r := f.ring R hR
 have hsub : ∀ y ∈ R, y ∈ hs.map (·.1) := fun y hy => by
  obtain ⟨n, hn⟩ := r.C1 hy
  cases e : nC hs y with
  | none => rw [Rg.lR, e] at hn; cases hn
  | some z => exact QG e
 have hlen := o6 r.nd hsub
 rw [List.length_map] at hlen
 have h0 : 0 < R.length := List.length_pos_of_mem hxR
 refine ⟨R.length - 1, by omega, ?_⟩
 rw [show R.length - 1 + 1 = R.length by omega]
 exact r.turn hxR
noncomputable def MY (hs : Hl) : Bool := @decide (Goes hs) (Classical.propDecidable _)
theorem M7 {hs : Hl} (h : Goes hs) : MY hs = true := @decide_eq_true _ (Classical.propDecidable _) h
theorem MU {hs : Hl} (h : ¬ Goes hs) : MY hs = false := @decide_eq_false _ (Classical.propDecidable _) h
theorem JL {hs : Hl} {x : Str} (h : x ∈ hs.map (·.1)) : jP (gC hs) (Sum.inr x) = some (oP (nC hs x)) := by
 have h1 := FH hs x
 have h2 := vV hs x
 rw [decide_eq_true h] at h1
 cases e : jP (gC hs) (Sum.inr x) with
 | none => rw [e] at h1; cases h1
 | some p => rw [e] at h2; exact congrArg some h2
theorem BV {up : Str → Option Str} {x : Str} : Rg.lR up 1 x = up x := by
 show (up x).bind (Rg.lR up 0) = up x
 cases up x <;> rfl
theorem C7 {hs : Hl} {Q : PV × List PV → Prop} (hl : hs.length ≤ 300) (hn : (hs.map (·.1)).Nodup) (q : Q (.bl (MY hs), [])) : Wp (eX [.cC (gC hs)]) Q := by
 unfold eX kE
 walk_at "wp"
 rw [yL]
 refine gT (fun i e => ∃ v1 v2 v3 : Option Sl, e = [some (Sl.bor (.cC (gC hs))), v1, v2, v3] ∧ ∀ (j : Nat) x, j < i → (hs.map (·.1))[j]? = some x → ¬ Rg.C1 (nC hs) x) ?_ ?_ ⟨none, none, none, rfl, fun j _ h => absurd h (Nat.not_lt_zero _)⟩
 ·rintro i p e hp ⟨v1, v2, v3, rfl, hno⟩
  rw [List.getElem?_map] at hp
  obtain ⟨x, hx, rfl⟩ := Option.map_eq_some_iff.mp hp
  have hxk : x ∈ hs.map (·.1) := List.mem_of_getElem? hx
  walk_at "wp"
  rw [JL hxk]
  walk_at "wp"
  have kl : (gC hs).length = hs.length := by unfold gC; rw [List.length_map]
  rw [kl]
  refine ⟨kO (by omega) (by omega), ?_⟩
  refine gT (fun n e => ∃ v3 : Option Sl, e = [some (Sl.bor (.cC (gC hs))), some (Sl.val (.str x)), some (Sl.val (oP (Rg.lR (nC hs) (n + 1) x))), v3] ∧ ∀ k, k < n → Rg.lR (nC hs) (k + 1) x ≠ some x) ?_ ?_ ⟨v3, by rw [BV], fun k h => absurd h (Nat.not_lt_zero _)⟩
  ·rintro n p e hp ⟨v3, rfl, hne⟩
   have nxt : Rg.lR (nC hs) (n + 1 + 1) x = (Rg.lR (nC hs) (n + 1) x).bind (nC hs) := by
    rw [Rg.oW (n + 1) 1]
    cases Rg.lR (nC hs) (n + 1) x with
    | none => rfl
    | some y => exact BV
   cases e : Rg.lR (nC hs) (n + 1) x with
   | none =>
    rw [e] at nxt
    rw [show oP none = PV.aZ from rfl]
    walk_at "wp"
    refine ⟨_, by rw [nxt]; rfl, fun k hk => ?_⟩
    by_cases hkn : k = n
    ·rw [hkn, e]; exact fun z => nomatch z
    ·exact hne k (by omega)
   | some y =>
    rw [e] at nxt
    rw [show oP (some y) = PV.str y from rfl]
    walk_at "wp"
    refine ⟨fun h => ?_, fun h => ⟨_, by rw [nxt, vV]; rfl, fun k hk => ?_⟩⟩
    ·have hy := eq_of_beq h
     rw [hy] at e
     rw [M7 ⟨x, hxk, n, e⟩] at q
     exact q
    ·by_cases hkn : k = n
     ·rw [hkn, e]
      intro z
      cases z
      rw [beq_self_eq_true] at h
      cases h
     ·exact hne k (by omega)
  ·rintro e ⟨v3, rfl, hne⟩
   rw [List.length_map, List.length_range] at hne
   refine ⟨_, _, _, rfl, fun j z hj hz => ?_⟩
   by_cases hji : j = i
   ·subst hji
    rw [hx] at hz
    cases hz
    intro c
    obtain ⟨n, h1, h2⟩ := P4 hl hn hxk c
    exact hne n (by omega) h2
   ·exact hno j z (by omega) hz
 ·rintro e ⟨v1, v2, v3, rfl, hno⟩
  walk_at "wp"
  have e : MY hs = false := by
   refine MU ?_
   rintro ⟨x, hx, c⟩
   obtain ⟨j, hj⟩ := List.getElem?_of_mem hx
   have := (List.getElem?_eq_some_iff.mp hj).1
   exact hno j x (by rw [List.length_map]; exact this) hj c
  rw [e] at q
  exact q
end
section
open PySem L2 Mr
structure KR (ps : List PV) : Prop where
 len : ps.length ≤ 300
 all : ∀ p ∈ ps, pW p
theorem rR {ps : List PV} {s : Option Sl} {Q : List PV × En → Prop} (h : ∀ p ∈ ps, pW p) (q : ∀ s', Q (ps.map fun p => PV.bl (mU p), [s'])) : Wp (j9 (bX 0) iJ (bQ [.b] false h9 (aD (aF 0) aM)) ps [s]) Q := by
 refine kI (fun i acc e => ∃ s, acc = (ps.take i).map (fun p => PV.bl (mU p)) ∧ e = [s]) ?_ ?_ ⟨s, rfl, rfl⟩
 ·rintro i p e acc hp ⟨s, rfl, rfl⟩
  have hm := h p (List.mem_of_getElem? hp)
  walk_at "wp"
  refine IS hm ?_
  walk_at "wp"
  exact ⟨_, by rw [List.take_add_one, hp, List.map_append]; rfl, rfl⟩
 ·rintro acc e ⟨s, rfl, rfl⟩
  rw [List.take_length]
  exact q s
theorem EX (l : List PV) : mF (l.map fun c => PV.bl (mU c)) = some (l.map mU) := by
 induction l with
 | nil => rfl
 | cons c l ih => rw [List.map_cons, List.map_cons, mF, ih]; rfl
theorem AS {hs : Hl} {v w : Option Sl} {Q : List PV × En → Prop} (q : ∀ v w, Q ((hs.map (·.1)).map PV.str, [v, w])) : Wp (j9 (rN 2 (iN (bX 0) (iN (bX 1) sQ))) iJ (aF 0) (hs.map mG) [v, w]) Q := by
 refine kI (fun i acc e => ∃ v w, acc = ((hs.take i).map (·.1)).map PV.str ∧ e = [v, w]) ?_ ?_ ⟨v, w, rfl, rfl⟩
 ·rintro i p e acc hp ⟨v, w, rfl, rfl⟩
  rw [List.getElem?_map] at hp
  obtain ⟨⟨x, o⟩, hx, rfl⟩ := Option.map_eq_some_iff.mp hp
  unfold mG
  walk_at "wp"
  exact ⟨_, _, by rw [List.take_add_one, hx, List.map_append, List.map_append]; rfl, rfl⟩
 ·rintro acc e ⟨v, w, rfl, rfl⟩
  rw [List.length_map, List.take_length]
  exact q v w
noncomputable def oJ (l : List Str) : Bool := (List.range (l.length - 1)).all (sE l)
theorem P0 {l : List Str} (h : oJ l = true) : ∀ (d i : Nat) (a b : Str), l[i]? = some a → l[i + d + 1]? = some b → a.cps.toList < b.cps.toList := by
 intro d
 have one : ∀ (i : Nat) (a b : Str), l[i]? = some a → l[i + 1]? = some b → a.cps.toList < b.cps.toList := fun i a b ha hb => by
  have hi := (List.getElem?_eq_some_iff.mp hb).1
  have := List.all_eq_true.mp h i (List.mem_range.mpr (by omega))
  unfold sE ltB at this
  rw [List.getD_eq_getElem?_getD, List.getD_eq_getElem?_getD, ha, hb] at this
  exact of_decide_eq_true this
 induction d with
 | zero => exact one
 | succ d ih =>
  intro i a b ha hb
  have hi := (List.getElem?_eq_some_iff.mp hb).1
  have hc : l[i + d + 1]? = some l[i + d + 1] := List.getElem?_eq_getElem (by omega)
  exact List.lt_trans (ih i a _ ha hc) (one (i + d + 1) _ b hc hb)
theorem oM {l : List Str} (h : oJ l = true) : l.Nodup := by
 unfold List.Nodup
 rw [List.pairwise_iff_getElem]
 intro i j hi hj hij e
 have := P0 h (j - i - 1) i l[i] l[j] (List.getElem?_eq_getElem hi) (by rw [show i + (j - i - 1) + 1 = j by omega]; exact List.getElem?_eq_getElem hj)
 rw [e] at this
 exact List.lt_irrefl _ this
theorem w5 {hs : Hl} {Q : PV × List PV → Prop} (hl : hs.length ≤ 300) (hm : ∀ z ∈ hs, mU (mG z) = true) (ha : ∀ z ∈ hs, pW (mG z)) (q : Q (.bl (oJ (hs.map (·.1)) && !MY hs), [])) : Wp (cW [.tup (hs.map mG)]) Q := by
 unfold cW i3
 walk_at "wp"
 refine ⟨by omega, rR (fun p hp => ?_) fun s' => ?_⟩
 ·obtain ⟨z, hz, rfl⟩ := List.mem_map.mp hp
  exact ha z hz
 walk_at "wp"
 rw [EX]
 have al : ((hs.map mG).map mU).all id = true := by
  rw [List.all_eq_true]
  intro c hc
  obtain ⟨p, hp, rfl⟩ := List.mem_map.mp hc
  obtain ⟨z, hz, rfl⟩ := List.mem_map.mp hp
  exact hm z hz
 walk_at "wp"
 rw [al]
 walk_at "wp"
 refine ⟨fun z => z.elim, by omega, AS fun v w => ?_⟩
 walk_at "wp"
 refine FF (by rw [List.length_map]; omega) ?_
 cases hr : oJ (hs.map (·.1)) with
 | false =>
  rw [hr, Bool.false_and] at q
  unfold oJ at hr
  rw [hr]
  walk_at "wp"
  exact q
 | true =>
  rw [hr, Bool.true_and] at q
  have hn := oM hr
  unfold oJ at hr
  rw [hr]
  walk_at "wp"
  refine xB hl hn fun S F f hk => ?_
  have e : (!F.isEmpty) = MY hs := by
   cases F with
   | nil => rw [MU fun g => (qK f hk).mpr g rfl]; rfl
   | cons R F => rw [M7 ((qK f hk).mp fun z => nomatch z)]; rfl
  rw [e]
  walk_at "wp"
  exact q
theorem xN {ps : List PV} {Q : PV × List PV → Prop} (h : KR ps) (hm : ps.all mU = false) (q : Q (.bl false, [])) : Wp (cW [.tup ps]) Q := by
 unfold cW i3
 have hl := h.len
 walk_at "wp"
 refine ⟨by omega, rR h.all fun s' => ?_⟩
 walk_at "wp"
 rw [EX]
 have al : (ps.map mU).all id = false := by rw [List.all_map]; exact hm
 walk_at "wp"
 rw [al]
 walk_at "wp"
 exact ⟨q, fun z => z.elim⟩
end
section
open PySem L2 Mr
noncomputable def xR : FS := (bF (mR (vP (kT (bH (gL g8 (aD (aF 3) (aD (fC (.ty "tuple")) aM))))) (vP (bH (bD L8 (gL gY (aD (aF 3) aM)) (fC (.int 2)))) (vP (kT (bH (bQ [.b] false eF (aD (bD fX (aF 3) (fC (.int 0))) aM)))) (bH (bD SI (bD fX (aF 3) (fC (.int 0))) (aF 2)))))) (d7 (fC (.bl false))) dQ)
  (bF (mR (pU (bH (bD (IP true) (bD fX (aF 3) (fC (.int 1))) (fC .aZ))) (vP (kT (bH (bQ [.b] false eF (aD (bD fX (aF 3) (fC (.int 1))) aM)))) (bH (bD tI (bD fX (aF 3) (fC (.int 1))) (bD fX (aF 3) (fC (.int 0))))))) (d7 (fC (.bl false))) dQ)
  (bF (dY 2 (bD fX (aF 3) (fC (.int 0))))
  (kY 1 (aF 2) (bD fX (aF 3) (fC (.int 1)))))))
theorem NB : oY = (bF (mR (kT (bH (gL g8 (aD (aF 0) (aD (fC (.ty "tuple")) aM))))) (d7 (fC (.bl false))) dQ)
  (bF (bF (fZ 1 n0) (dY 2 (fC (.str ""))))
  (bF (kU (B4 (aF 0)) (bX 3) xR)
  (d7 (xW (bQ [.b] false eX (aD (aF 1) aM))))))) := rfl
theorem QT {p q0 : PV} {D : PV} {lst : Str} {Q : Out → Prop} (h : pW p) (hm : mU p = false) (hq : ∀ e, Q (.rt (.val (.bl false)) e)) : Wp (xR [some (.val q0), some (.loc D), some (.val (.str lst)), some (.val p)]) Q := by
 unfold xR
 cases p with
 | ty n => exact absurd rfl (h.a.ty n)
 | tup ps =>
  obtain ⟨hl, hs⟩ := h.t ps rfl
  match ps, hl, hs, hm with
  | [], _, _, _ => walk_at "wp"; exact ⟨fun _ => hq _, fun h => absurd h (by decide)⟩
  | [x], _, _, _ => walk_at "wp"; exact ⟨fun _ => hq _, fun h => absurd h (by decide)⟩
  | x :: y :: z :: r, hl, _, _ =>
   walk_at "wp"
   refine ⟨fun _ => hq _, fun h => ?_⟩
   simp at h
   omega
  | [x, y], _, hs, hm =>
   have hx := hs x (by simp)
   have hy := hs y (by simp)
   walk_at "wp"
   refine ⟨fun h => absurd h (by decide), fun _ => j0 hx ?_⟩
   walk_at "wp"
   cases ex : GQ x with
   | false =>
    walk_at "wp"
    exact ⟨hq _, fun z => z.elim⟩
   | true =>
    obtain ⟨z, rfl⟩ : ∃ z, x = .str z := by
     cases x with
     | str z => exact ⟨z, rfl⟩
     | _ => cases ex
    walk_at "wp"
    refine ⟨fun z => z.elim, fun _ => hq _, fun _ => ?_⟩
    cases y with
    | ty n => exact absurd rfl (hy.ty n)
    | aZ => simp [mU, ex] at hm
    | str w =>
     have exS : o5 z = true := ex
     walk_at "wp"
     refine ⟨j0 hy ?_, fun z => z.elim⟩
     cases ew : GQ (.str w) with
     | false =>
      walk_at "wp"
      first | exact hq _ | exact ⟨fun z => z.elim, hq _⟩ | exact ⟨hq _, fun z => z.elim⟩
     | true =>
      have ewS : o5 w = true := ew
      have e : w = z := by simpa [mU, ex, ewS] using hm
      subst e
      walk_at "wp"
      first | exact hq _ | exact ⟨fun z => z.elim, hq _⟩ | exact ⟨hq _, fun z => z.elim⟩
    | _ =>
     walk_at "wp"
     refine ⟨j0 hy ?_, fun z => z.elim⟩
     unfold GQ
     walk_at "wp"
     first | exact hq _ | exact ⟨fun z => z.elim, hq _⟩ | exact ⟨hq _, fun z => z.elim⟩
 | _ => walk_at "wp"; exact hq _
theorem MB {q0 : PV} {hs : Hl} {x lst : Str} {o : Option Str} {Q : Out → Prop} (h : pW (mG (x, o))) (hm : mU (mG (x, o)) = true) (hl : hs.length < 1000) (hx : ltB lst x = true → x ∉ hs.map (·.1))
  (q1 : ltB lst x = false → ∀ e, Q (.rt (.val (.bl false)) e)) (q2 : ltB lst x = true → ∀ v, Q (.nx [some (.val q0), some (.loc (.cC (gC (hs ++ [(x, o)])))), some (.val (.str x)), v])) :
  Wp (xR [some (.val q0), some (.loc (.cC (gC hs))), some (.val (.str lst)), some (.val (mG (x, o)))]) Q := by
 have kl : (gC hs).length = hs.length := by unfold gC; rw [List.length_map]
 obtain ⟨_, hs'⟩ := h.t _ rfl
 have hX := hs' (.str x) (by simp)
 have hO := hs' (oP o) (by simp)
 obtain ⟨z, ez, n1, n2⟩ := rQ hm
 have ez : z = (x, o) := by
  obtain ⟨zx, zo⟩ := z
  unfold mG at ez
  have h1 := PV.tup.inj ez
  have h2 := (List.cons.inj h1).1
  have h3 := (List.cons.inj (List.cons.inj h1).2).1
  cases h2
  cases o <;> cases zo <;> first | rfl | (cases h3; rfl) | cases h3
 subst ez
 have nb : GQ (.str x) = true := n1
 unfold xR mG
 cases o with
 | none =>
  rw [show oP none = PV.aZ from rfl]
  walk_at "wp"
  refine ⟨fun h => absurd h (by decide), fun _ => j0 hX ?_⟩
  rw [nb]
  walk_at "wp"
  refine ⟨fun hh => q1 (by simpa [ltB] using hh) _, fun hh => ⟨by rw [kl]; omega, ?_⟩⟩
  have pt := oB (hs := hs) (x := x) (o := none) (hx (by simpa [ltB] using hh))
  rw [show oP none = PV.aZ from rfl] at pt
  rw [pt]
  exact q2 (by simpa [ltB] using hh) _
 | some y =>
  rw [show oP (some y) = PV.str y from rfl] at hO ⊢
  have nby : GQ (.str y) = true := (n2 y rfl).1
  have hne : y ≠ x := (n2 y rfl).2
  walk_at "wp"
  refine ⟨fun h => absurd h (by decide), fun _ => j0 hX ?_⟩
  rw [nb]
  walk_at "wp"
  refine ⟨fun hh => q1 (by simpa [ltB] using hh) _, fun hh => j0 hO ?_⟩
  rw [nby]
  walk_at "wp"
  refine ⟨fun h => absurd (eq_of_beq h) hne, fun _ => ⟨by rw [kl]; omega, ?_⟩⟩
  have pt := oB (hs := hs) (x := x) (o := some y) (hx (by simpa [ltB] using hh))
  rw [show oP (some y) = PV.str y from rfl] at pt
  rw [pt]
  exact q2 (by simpa [ltB] using hh) _
end
section
open PySem L2 Mr
noncomputable def YJ : PV → Str × Option Str
 | .tup [.str x, .str y] => (x, some y)
 | .tup [.str x, _] => (x, none)
 | _ => ("", none)
noncomputable def jD (ps : List PV) : Hl := ps.map YJ
theorem EH (z : Str × Option Str) : YJ (mG z) = z := by
 obtain ⟨x, o⟩ := z
 cases o <;> rfl
theorem JW (hs : Hl) : jD (hs.map mG) = hs := by
 unfold jD
 rw [List.map_map]
 conv => rhs; rw [← List.map_id hs]
 exact List.map_congr_left fun z _ => EH z
noncomputable def IL (ps : List PV) : Bool := ps.all mU && (oJ ((jD ps).map (·.1)) && !MY (jD ps))
theorem u9 {ps : List PV} {Q : PV × List PV → Prop} (h : KR ps) (q : Q (.bl (IL ps), [])) : Wp (cW [.tup ps]) Q := by
 unfold IL at q
 cases hm : ps.all mU with
 | false => rw [hm, Bool.false_and] at q; exact xN h hm q
 | true =>
  rw [hm, Bool.true_and] at q
  obtain ⟨hs, rfl, _⟩ := ID hm
  rw [JW] at q
  have hl := h.len
  rw [List.length_map] at hl
  exact w5 hl (fun z hz => List.all_eq_true.mp hm _ (List.mem_map.mpr ⟨z, hz, rfl⟩)) (fun z hz => h.all _ (List.mem_map.mpr ⟨z, hz, rfl⟩)) q
theorem RR {x : Str} (h : o5 x = true) : ltB "" x = true := by
 unfold o5 at h
 rw [Bool.and_eq_true] at h
 have h1 := (of_decide_eq_true h.1).1
 unfold ltB
 refine decide_eq_true ?_
 have : x.cps.toList ≠ [] := fun e => by
  have : x.cps.toList.length = 0 := by rw [e]; rfl
  rw [Array.length_toList] at this
  have h1 : 1 ≤ x.cps.size := h1
  omega
 show [] < x.cps.toList
 cases e : x.cps.toList with
 | nil => exact absurd e this
 | cons a l => exact List.nil_lt_cons a l
noncomputable def uI (N : List Str) (i : Nat) : Str := if i = 0 then "" else N.getD (i - 1) ""
theorem LR {ps : List PV} {Q : PV × List PV → Prop} (h : KR ps) (q : Q (.bl (IL ps), [])) : Wp (eK [.tup ps]) Q := by
 unfold eK
 rw [NB]
 have hl := h.len
 have hN : (jD ps).length = ps.length := by unfold jD; rw [List.length_map]
 walk_at "wp"
 refine gT (fun i e => ∃ v3 : Option Sl, e = [some (.val (.tup ps)), some (.loc (.cC (gC ((jD ps).take i)))), some (.val (.str (uI ((jD ps).map (·.1)) i))), v3] ∧ (∀ p ∈ ps.take i, mU p = true) ∧ ∀ k, k + 1 < i → sE ((jD ps).map (·.1)) k = true) ?_ ?_ ⟨none, rfl, (fun p hp => by simp at hp), fun k hk => absurd hk (by omega)⟩
 ·rintro i p e hp ⟨v3, rfl, hm, hr⟩
  have hi := (List.getElem?_eq_some_iff.mp hp).1
  have hM := h.all p (List.mem_of_getElem? hp)
  walk_at "wp"
  cases hb : mU p with
  | false =>
   refine QT hM hb fun e => ?_
   have e : IL ps = false := by
    unfold IL
    rw [show ps.all mU = false from ?_, Bool.false_and]
    rw [List.all_eq_false]
    exact ⟨p, List.mem_of_getElem? hp, by rw [hb]; exact Bool.false_ne_true⟩
   rw [e] at q
   walk_at "wp"
   exact q
  | true =>
   obtain ⟨⟨x, o⟩, rfl, hx1, _⟩ := rQ hb
   have hz : (jD ps)[i]? = some (x, o) := by unfold jD; rw [List.getElem?_map, hp]; exact congrArg some (EH (x, o))
   have hzN : ((jD ps).map (·.1))[i]? = some x := by rw [List.getElem?_map, hz]; rfl
   have tk : (jD ps).take (i + 1) = (jD ps).take i ++ [(x, o)] := by rw [List.take_add_one, hz]; rfl
   have hlt : ∀ k, k + 1 = i → ltB (uI ((jD ps).map (·.1)) i) x = sE ((jD ps).map (·.1)) k := fun k hk => by
    unfold uI sE
    rw [if_neg (by omega), show i - 1 = k by omega, hk, List.getD_eq_getElem?_getD (i := i), hzN]
    rfl
   have ris' : ltB (uI ((jD ps).map (·.1)) i) x = true → ∀ k, k + 1 < i + 1 → sE ((jD ps).map (·.1)) k = true := fun hh k hk => by
    by_cases h2 : k + 1 < i
    ·exact hr k h2
    ·rw [← hlt k (by omega)]; exact hh
   refine MB hM hb (by rw [List.length_take]; omega) (fun hh hx => ?_) (fun hf e => ?_) fun hh v => ?_
   ·have rb : oJ (((jD ps).map (·.1)).take (i + 1)) = true := by
     unfold oJ
     rw [List.all_eq_true]
     intro k hk
     have hk := List.mem_range.mp hk
     rw [List.length_take] at hk
     have := ris' hh k (by omega)
     unfold sE at this ⊢
     rw [List.getD_eq_getElem?_getD, List.getD_eq_getElem?_getD, List.getElem?_take_of_lt (by omega), List.getElem?_take_of_lt (by omega), ← List.getD_eq_getElem?_getD, ← List.getD_eq_getElem?_getD]
     exact this
    have nd := oM rb
    rw [← List.map_take, tk, List.map_append] at nd
    exact (List.nodup_append.mp nd).2.2 x hx x (by simp) rfl
   ·have e : IL ps = false := by
     unfold IL
     rw [show oJ ((jD ps).map (·.1)) = false from ?_, Bool.false_and, Bool.and_false]
     cases i with
     | zero =>
      have := RR hx1
      unfold uI at hf
      rw [if_pos rfl, this] at hf
      cases hf
     | succ k =>
      unfold oJ
      rw [List.all_eq_false]
      refine ⟨k, List.mem_range.mpr (by rw [List.length_map, hN]; omega), ?_⟩
      rw [← hlt k rfl, hf]
      exact Bool.false_ne_true
    rw [e] at q
    walk_at "wp"
    exact q
   ·refine ⟨v, ?_, fun p hp2 => ?_, ris' hh⟩
    ·rw [tk]
     unfold uI
     rw [if_neg (by omega), show i + 1 - 1 = i by omega, List.getD_eq_getElem?_getD, hzN]
     rfl
    ·rw [List.take_add_one, hp] at hp2
     rcases List.mem_append.mp hp2 with h2 | h2
     ·exact hm p h2
     ·rw [show p = mG (x, o) by simpa using h2]; exact hb
 ·rintro e ⟨v3, rfl, hm, hr⟩
  rw [List.take_length] at hm
  have ha : ps.all mU = true := List.all_eq_true.mpr hm
  have hR : oJ ((jD ps).map (·.1)) = true := by
   unfold oJ
   rw [List.all_eq_true]
   intro k hk
   have hk := List.mem_range.mp hk
   rw [List.length_map, hN] at hk
   exact hr k (by omega)
  have e : IL ps = !MY (jD ps) := by unfold IL; rw [ha, hR]; rfl
  rw [← hN, List.take_length]
  walk_at "wp"
  refine C7 (by omega) (oM hR) ?_
  walk_at "wp"
  rw [← e]
  exact q
end
section
open PySem L2 Mr
noncomputable def mP (hs : Hl) : List PV := hs.map fun z => .tup [.str z.1, oP z.2]
theorem j3 (hs : Hl) : bN (gC hs) = mP hs := by unfold bN gC mP; rw [List.map_map]; rfl
theorem T9 (z : Str × Option Str) : sG 3 (.tup [.str z.1, oP z.2]) = true := by
 show ([PV.str z.1, oP z.2].all (sG 2)) = true
 cases z.2 <;> rfl
theorem HB {hs : Hl} (h : (hs.map (·.1)).Nodup) : lL 3 (mP hs) = true := List.all_eq_true.mpr fun p hp => by
 obtain ⟨z, hz, rfl⟩ := List.mem_map.mp hp
 rw [Bool.and_eq_true]
 refine ⟨T9 z, List.all_eq_true.mpr fun q hq => ?_⟩
 obtain ⟨w, hw, rfl⟩ := List.mem_map.mp hq
 show (kC (sW 2) [PV.str z.1, oP z.2] [PV.str w.1, oP w.2]).isSome = true
 unfold kC
 split
 ·rename_i e
  rw [vT] at e
  have e1 : z.1 = w.1 := eq_of_beq e
  have e2 : z = w := by
   have key : ∀ (l : Hl), (l.map (·.1)).Nodup → ∀ a ∈ l, ∀ b ∈ l, a.1 = b.1 → a = b := by
    intro l
    induction l with
    | nil => intro _ a ha; cases ha
    | cons c l ih =>
     intro hn a ha b hb hab
     rw [List.map_cons, List.nodup_cons] at hn
     rcases List.mem_cons.mp ha with rfl | ha
     ·rcases List.mem_cons.mp hb with rfl | hb
      ·rfl
      ·exact absurd (List.mem_map.mpr ⟨b, hb, hab.symm⟩) hn.1
     ·rcases List.mem_cons.mp hb with e | hb
      ·exact absurd (List.mem_map.mpr ⟨a, ha, by rw [hab, e]⟩) hn.1
      ·exact ih hn.2 a ha b hb hab
   exact key hs h z hz w hw e1
  subst e2
  unfold kC
  rw [if_pos (yS (n := 0) (by cases z.2 <;> rfl))]
  rfl
 ·rfl
theorem GG (hs : Hl) : (mP hs).all (p5 true) = true := List.all_eq_true.mpr fun p hp => by obtain ⟨z, _, rfl⟩ := List.mem_map.mp hp; rfl
theorem KZ {hs : Hl} {ps : List PV} (h : ps.Perm (mP hs)) : ∃ ks : Hl, ks.Perm hs ∧ ps = mP ks := by
 have key : ∀ (ps : List PV) (ls : Hl), ps.Perm (mP ls) → ∃ ks : Hl, ks.Perm ls ∧ ps = mP ks := by
  intro ps
  induction ps with
  | nil => intro ls h; have := h.nil_eq; unfold mP at this; rw [List.eq_nil_of_map_eq_nil this.symm]; exact ⟨[], .refl _, rfl⟩
  | cons p ps ih =>
   intro ls h
   obtain ⟨l, hl, e⟩ := List.mem_map.mp (h.mem_iff.mp List.mem_cons_self)
   subst e
   have h2 : (PV.tup [.str l.1, oP l.2] :: ps).Perm (mP (l :: ls.erase l)) := h.trans ((List.perm_cons_erase hl).map _)
   obtain ⟨ks, k1, k2⟩ := ih _ (h2.cons_inv)
   exact ⟨l :: ks, (k1.cons l).trans (List.perm_cons_erase hl).symm, by rw [k2]; rfl⟩
 exact key ps hs h
theorem IW {hs : Hl} (x : Str) (o : Option Str) (h : (hs.map (·.1)).Nodup) : ∃ ks : Hl, lB (gC hs) (Sum.inr x) (oP o) = gC ks ∧ (ks.map (·.1)).Nodup ∧ ks.length ≤ hs.length + 1 ∧ ∀ z ∈ ks, z ∈ hs ∨ z = (x, o) := by
 by_cases hx : x ∈ hs.map (·.1)
 ·refine ⟨hs.map fun z => if z.1 = x then (x, o) else z, ?_, ?_, by rw [List.length_map]; omega, fun z hz => ?_⟩
  ·unfold lB
   have e : ((gC hs).any fun kv => decide (kv.1 = Sum.inr x)) = true := by
    obtain ⟨z, hz, rfl⟩ := List.mem_map.mp hx
    exact List.any_eq_true.mpr ⟨(Sum.inr z.1, oP z.2), List.mem_map.mpr ⟨z, hz, rfl⟩, decide_eq_true rfl⟩
   rw [if_pos e]
   unfold gC
   rw [List.map_map, List.map_map]
   refine List.map_congr_left fun z _ => ?_
   by_cases hz : z.1 = x
   ·have : (Sum.inr z.1 : Key) = Sum.inr x := by rw [hz]
    simp only [Function.comp, if_pos hz, if_pos this]
    rw [this]
   ·have : ¬ (Sum.inr z.1 : Key) = Sum.inr x := fun e => hz (Sum.inr.inj e)
    simp only [Function.comp, if_neg hz, if_neg this]
  ·have : (hs.map fun z => if z.1 = x then (x, o) else z).map (·.1) = hs.map (·.1) := by
    rw [List.map_map]
    refine List.map_congr_left fun z _ => ?_
    by_cases hz : z.1 = x
    ·simp only [Function.comp, if_pos hz]
     exact hz.symm
    ·simp only [Function.comp, if_neg hz]
   rw [this]
   exact h
  ·obtain ⟨w, hw, rfl⟩ := List.mem_map.mp hz
   by_cases h2 : w.1 = x
   ·rw [if_pos h2]; exact .inr rfl
   ·rw [if_neg h2]; exact .inl hw
 ·refine ⟨hs ++ [(x, o)], oB hx, ?_, by rw [List.length_append]; exact Nat.le_refl _, fun z hz => ?_⟩
  ·rw [List.map_append]
   refine List.nodup_append.mpr ⟨h, by simp, fun u hu v hv e => ?_⟩
   have : v = x := by simpa using hv
   rw [e, this] at hu
   exact hx hu
  ·rcases List.mem_append.mp hz with hz | hz
   ·exact .inl hz
   ·exact .inr (List.mem_singleton.mp hz)
theorem uQ {t : PV} {Q : PV × List PV → Prop} (h : nR t) (ht : ∀ ps, t ≠ .tup ps) (q : Q (.bl false, [])) : Wp (cW [t]) Q := by
 unfold cW i3
 cases t with
 | ty n => exact absurd rfl (h.ty n)
 | tup ps => exact absurd rfl (ht ps)
 | _ => walk_at "wp"; exact q
theorem LA {t : PV} {Q : PV × List PV → Prop} (h : nR t) (ht : ∀ ps, t ≠ .tup ps) (q : Q (.bl false, [])) : Wp (eK [t]) Q := by
 unfold eK
 rw [NB]
 cases t with
 | ty n => exact absurd rfl (h.ty n)
 | tup ps => exact absurd rfl (ht ps)
 | _ => walk_at "wp"; exact q
end
section
open PySem L2 Mr
structure BB (hs : Hl) : Prop where
 nd : (hs.map (·.1)).Nodup
 sm : ∀ z ∈ hs, z.1.length ≤ 12 ∧ ∀ y, z.2 = some y → y.length ≤ 12
theorem BB.nil : BB [] := ⟨List.nodup_nil, fun _ h => nomatch h⟩
theorem BB.put {hs : Hl} (h : BB hs) {x : Str} {o : Option Str} (hx : x.length ≤ 12) (ho : ∀ y, o = some y → y.length ≤ 12) : ∃ ks : Hl, lB (gC hs) (Sum.inr x) (oP o) = gC ks ∧ BB ks ∧ ks.length ≤ hs.length + 1 ∧ 0 < ks.length := by
 obtain ⟨ks, e, nd, hl, hm⟩ := IW (hs := hs) x o h.nd
 refine ⟨ks, e, ⟨nd, fun z hz => ?_⟩, hl, ?_⟩
 ·rcases hm z hz with h1 | h1
  ·exact h.sm z h1
  ·rw [h1]; exact ⟨hx, ho⟩
 ·cases ks with
  | nil =>
   exfalso
   have : (lB (gC hs) (Sum.inr x) (oP o)).length = 0 := by rw [e]; rfl
   unfold lB at this
   split at this
   ·rename_i g
    obtain ⟨kv, hkv, _⟩ := List.any_eq_true.mp g
    rw [List.length_map] at this
    have := List.length_pos_of_mem hkv
    omega
   ·rw [List.length_append] at this
    simp at this
  | cons k ks => exact Nat.zero_lt_succ _
theorem rS {hs : Hl} (h : BB hs) : ∃ ks : Hl, qU 3 (bN (gC hs)) = ks.map mG ∧ BB ks ∧ ks.length = hs.length := by
 rw [j3]
 obtain ⟨ks, k1, k2⟩ := KZ (kQ 3 (mP hs))
 exact ⟨ks, k2, ⟨(k1.map _).nodup_iff.mpr h.nd, fun z hz => h.sm z (k1.mem_iff.mp hz)⟩, k1.length_eq⟩
theorem JH {a b c kind : Int} {n : Nat} {Q : PV × List PV → Prop} (h : Hand a b c n) (hn : n < 90000)
  (q : ∀ (ks : Hl) a' b' c', 0 < ks.length → ks.length ≤ 43 → BB ks → Hand a' b' c' (n + 1000) → Q (.lst (ks.map mG), [hd a' b' c'])) : Wp (gP [hd a b c, .int kind]) Q := by
 unfold gP mX
 walk_at "wp"
 refine ⟨fun _ => ?_, fun _ => ?_⟩
 ·refine dG h (by omega) (by decide) (by decide) fun d a1 b1 c1 d0 d1 hp => ?_
  walk_at "wp"
  refine yN hp (by omega) (by omega) (by omega) fun ss a2 b2 c2 sl hss hp => ?_
  walk_at "wp"
  refine gT (fun i e => ∃ (hs : Hl) (a b c : Int) (v4 v5 v6 v7 : Option Sl), hs.length ≤ i ∧ (0 < i → 0 < hs.length) ∧ BB hs ∧ Hand a b c (n + 1 + 13 * 60 + 2 * i) ∧ e = [some (.own (hd a b c)), some (.val (.int kind)), some (.val (.lst (ss.map PV.str))), some (.loc (.cC (gC hs))), v4, v5, v6, v7]) ?_ ?_ ⟨[], a2, b2, c2, _, _, _, _, Nat.le_refl _, fun h => absurd h (by omega), BB.nil, hp, rfl⟩
  ·rintro i p e hx ⟨hs, a, b, c, v4, v5, v6, v7, hl, h0, ok, hp, rfl⟩
   rw [List.getElem?_map] at hx
   obtain ⟨x, hxe, rfl⟩ := Option.map_eq_some_iff.mp hx
   have hi := (List.getElem?_eq_some_iff.mp hxe).1
   have hxl := hss x (List.mem_of_getElem? hxe)
   have kl : (gC hs).length = hs.length := by unfold gC; rw [List.length_map]
   walk_at "wp"
   refine dG hp (by omega) (by omega) (by omega) fun d a1 b1 c1 d0 d1 hp => ?_
   walk_at "wp"
   refine eC d0 (by rw [List.length_map]; exact d1) fun p hp' => ?_
   obtain ⟨y, hy, rfl⟩ := List.mem_map.mp hp'
   have hyl := hss y hy
   walk_at "wp"
   obtain ⟨k0, p0, ok0, l0, z0⟩ := ok.put (x := x) (o := none) hxl (fun _ e => nomatch e)
   obtain ⟨k1, p1, ok1, l1, z1⟩ := ok.put (x := x) (o := some y) hxl (fun _ e => by cases e; exact hyl)
   rw [show oP none = PV.aZ from rfl] at p0
   rw [show oP (some y) = PV.str y from rfl] at p1
   refine ⟨fun _ => ⟨by omega, k0, a1, b1, c1, _, _, _, _, by omega, fun _ => z0, ok0, hp.mono (by omega), by rw [p0]⟩, fun _ => ?_⟩
   refine dG hp (by omega) (by decide) (by decide) fun d a2 b2 c2 d0 d1 hp => ?_
   walk_at "wp"
   exact ⟨fun _ => ⟨by omega, k0, a2, b2, c2, _, _, _, _, by omega, fun _ => z0, ok0, hp.mono (by omega), by rw [p0]⟩, fun _ => ⟨by omega, k1, a2, b2, c2, _, _, _, _, by omega, fun _ => z1, ok1, hp.mono (by omega), by rw [p1]⟩⟩
  ·rintro e ⟨hs, a, b, c, v4, v5, v6, v7, hl, h0, ok, hp, rfl⟩
   rw [List.length_map] at hl h0 hp
   walk_at "wp"
   have kl : (gC hs).length = hs.length := by unfold gC; rw [List.length_map]
   obtain ⟨ks, k1, k2, k3⟩ := rS ok
   rw [k1]
   refine ⟨⟨by omega, by rw [j3, GG]; rfl, by rw [j3, HB ok.nd]⟩, q ks a b c (by rw [k3]; exact h0 (by omega)) (by omega) k2 (hp.mono (by omega))⟩
 ·refine dG h (by omega) (by decide) (by decide) fun d a1 b1 c1 d0 d1 hp => ?_
  walk_at "wp"
  refine dG hp (by omega) (by decide) (by decide) fun d2 a1 b1 c1 e0 e1 hp => ?_
  walk_at "wp"
  refine eC (by split <;> decide) (by split <;> simp) fun p hp' => ?_
  obtain ⟨sz, rfl, s0, s1⟩ : ∃ sz : Int, p = .int sz ∧ 1 ≤ sz ∧ sz ≤ 40 := by
   simp only [List.mem_cons, List.not_mem_nil, or_false] at hp'
   rcases hp' with rfl | rfl
   ·exact ⟨40, rfl, by decide, by decide⟩
   ·exact ⟨1 + d, rfl, by omega, by omega⟩
  walk_at "wp"
  refine yN hp (by omega) (by omega) (by omega) fun ss a2 b2 c2 sl hss hp => ?_
  walk_at "wp"
  refine ⟨kO (by omega) (by omega), ?_⟩
  refine gT (fun i e => ∃ (hs : Hl) (v7 : Option Sl), hs.length ≤ i ∧ (0 < i → 0 < hs.length) ∧ BB hs ∧ e = [some (.own (hd a2 b2 c2)), some (.val (.int kind)), some (.val (.lst (ss.map PV.str))), some (.loc (.cC (gC hs))), none, none, some (.val (.int sz)), v7]) ?_ ?_ ⟨[], _, Nat.le_refl _, fun h => absurd h (by omega), BB.nil, rfl⟩
  ·rintro i p e hx ⟨hs, v7, hl, h0, ok, rfl⟩
   rw [List.getElem?_map] at hx
   obtain ⟨k, hxe, rfl⟩ := Option.map_eq_some_iff.mp hx
   have hk := List.mem_range.mp (List.mem_of_getElem? hxe)
   have hi := (List.getElem?_eq_some_iff.mp hxe).1
   rw [List.length_range] at hi
   have kl : (gC hs).length = hs.length := by unfold gC; rw [List.length_map]
   walk_at "wp"
   refine ⟨fun _ => eC (by omega) (by rw [List.length_map]; omega) fun p hp' => ?_, fun _ => ?_⟩
   ·obtain ⟨y, hy, rfl⟩ := List.mem_map.mp hp'
    walk_at "wp"
    refine eC (by omega) (by rw [List.length_map]; omega) fun p hp' => ?_
    obtain ⟨x, hx', rfl⟩ := List.mem_map.mp hp'
    obtain ⟨k1, p1, ok1, l1, z1⟩ := ok.put (x := x) (o := some y) (hss x hx') (fun _ e => by cases e; exact hss y hy)
    rw [show oP (some y) = PV.str y from rfl] at p1
    walk_at "wp"
    exact ⟨by omega, k1, _, by omega, fun _ => z1, ok1, by rw [p1]⟩
   ·refine eC (by omega) (by rw [List.length_map]; omega) fun p hp' => ?_
    obtain ⟨x, hx', rfl⟩ := List.mem_map.mp hp'
    obtain ⟨k1, p1, ok1, l1, z1⟩ := ok.put (x := x) (o := none) (hss x hx') (fun _ e => nomatch e)
    rw [show oP none = PV.aZ from rfl] at p1
    walk_at "wp"
    exact ⟨by omega, k1, _, by omega, fun _ => z1, ok1, by rw [p1]⟩
  ·rintro e ⟨hs, v7, hl, h0, ok, rfl⟩
   rw [List.length_map, List.length_range] at hl h0
   have kl : (gC hs).length = hs.length := by unfold gC; rw [List.length_map]
   walk_at "wp"
   have fin : ∀ (hs : Hl) (a b c : Int), BB hs → 0 < hs.length → hs.length ≤ 43 → Hand a b c (n + 1000) → ((gC hs).length < 64 ∧ ((bN (gC hs)).all (p5 true) || (bN (gC hs)).all (p5 false)) = true ∧ lL 3 (bN (gC hs)) = true) ∧ Q (PV.lst (qU 3 (bN (gC hs))), [hd a b c]) := fun hs a b c ok z0 z1 hp => by
    have kl : (gC hs).length = hs.length := by unfold gC; rw [List.length_map]
    obtain ⟨ks, k1, k2, k3⟩ := rS ok
    rw [k1]
    exact ⟨⟨by omega, by rw [j3, GG]; rfl, by rw [j3, HB ok.nd]⟩, q ks a b c (by omega) (by omega) k2 hp⟩
   refine ⟨fun _ => ?_, fun _ => fin hs _ _ _ ok (h0 (by omega)) (by omega) (hp.mono (by omega))⟩
   refine dG hp (by omega) (by omega) (by omega) fun d a3 b3 c3 d0 d1 hp => ?_
   walk_at "wp"
   refine eC (by omega) (by rw [List.length_map]; omega) fun p hp' => ?_
   obtain ⟨y, hy, rfl⟩ := List.mem_map.mp hp'
   walk_at "wp"
   refine eC (by omega) (by rw [List.length_map]; omega) fun p hp' => ?_
   obtain ⟨x, hx', rfl⟩ := List.mem_map.mp hp'
   obtain ⟨k1, p1, ok1, l1, z1⟩ := ok.put (x := x) (o := some y) (hss x hx') (fun _ e => by cases e; exact hss y hy)
   rw [show oP (some y) = PV.str y from rfl] at p1
   walk_at "wp"
   rw [p1]
   exact ⟨by omega, fin k1 _ _ _ ok1 z1 (by omega) (hp.mono (by omega))⟩
end
section
open PySem L2 Mr
theorem oT {x : Str} (h : x.length < 1000000) : nR (.str x) := ⟨(fun _ e => nomatch e), fun _ e => by cases e; exact h⟩
theorem wQ {ps : List PV} : nR (.tup ps) := ⟨(fun _ e => nomatch e), (fun _ e => nomatch e)⟩
theorem GC {ps : List PV} : nR (.lst ps) := ⟨(fun _ e => nomatch e), (fun _ e => nomatch e)⟩
theorem UR {ps : List (Key × PV)} : nR (.cC ps) := ⟨(fun _ e => nomatch e), (fun _ e => nomatch e)⟩
theorem PC {i : Int} : nR (.int i) := ⟨(fun _ e => nomatch e), (fun _ e => nomatch e)⟩
theorem QS {i : Bool} : nR (.bl i) := ⟨(fun _ e => nomatch e), (fun _ e => nomatch e)⟩
theorem vI : nR .aZ := ⟨(fun _ e => nomatch e), (fun _ e => nomatch e)⟩
structure qA (t : PV) : Prop where
 a : nR t
 t : ∀ ps, t = .tup ps → KR ps
theorem qA.YU {t : PV} (h : qA t) : pW t := ⟨h.a, fun ps e => ⟨by have := (h.t ps e).len; omega, fun q hq => ((h.t ps e).all q hq).a⟩⟩
theorem qA.one {t : PV} (h : qA t) : qA (.tup [t]) := ⟨wQ, fun ps e => by cases e; exact ⟨by show 1 ≤ 300; omega, fun p hp => by rw [List.mem_singleton.mp hp]; exact h.YU⟩⟩
theorem qA.two {t : PV} (h : qA t) : qA (.tup [.tup [.str "b", t]]) := ⟨wQ, fun ps e => by
 cases e
 refine ⟨by show 1 ≤ 300; omega, fun p hp => ?_⟩
 rw [List.mem_singleton.mp hp]
 refine ⟨wQ, fun ps e => ?_⟩
 cases e
 refine ⟨by show 2 < 1000000; omega, fun q hq => ?_⟩
 simp only [List.mem_cons, List.not_mem_nil, or_false] at hq
 rcases hq with rfl | rfl
 ·exact oT (x := "b") (by decide)
 ·exact h.a⟩
theorem EW {a b c : Int} {n : Nat} {x : Str} {Q : PV × List PV → Prop} (h : Hand a b c n) (hn : n < 900000) (hx : x.length ≤ 12) (q : ∀ p a' b' c', nR p → Hand a' b' c' (n + 1) → Q (p, [hd a' b' c'])) : Wp (hZ [hd a b c, .str x]) Q := by
 unfold hZ oO
 walk_at "wp"
 have la : (Str.ofString "a" ++ x).length = 1 + x.length := by
  show ((Str.ofString "a").cps ++ x.cps).size = 1 + x.cps.size
  rw [Array.size_append]
  rfl
 refine ⟨by show 1 + x.length < 1000000; omega, ?_⟩
 refine dG h (by omega) (by decide) (by decide) fun d a1 b1 c1 d0 d1 hp => ?_
 walk_at "wp"
 refine eC d0 (by simpa using d1) fun p hp' => ?_
 walk_at "wp"
 refine q p _ _ _ ?_ hp
 simp only [List.mem_cons, List.not_mem_nil, or_false] at hp'
 rcases hp' with rfl | rfl | rfl | rfl | rfl | rfl | rfl | rfl | rfl | rfl | rfl | rfl | rfl | rfl | rfl | rfl
 all_goals first | exact vI | exact QS | exact PC | exact wQ | exact GC | exact oT (by decide) | exact oT (by omega) | exact oT (by rw [la]; omega)
end
section
open PySem L2 Mr
theorem OW {a b c : Int} {n : Nat} {Q : PV × List PV → Prop} (h : Hand a b c n) (hn : n < 900000) (q : ∀ t a' b' c', qA t → Hand a' b' c' (n + 3) → Q (t, [hd a' b' c'])) : Wp (hJ [hd a b c]) Q := by
 unfold hJ o7
 rw [E1]
 walk_at "wp"
 unfold zB
 walk_at "wp"
 refine dG h (by omega) (by decide) (by decide) fun d a1 b1 c1 d0 d1 hp => ?_
 walk_at "wp"
 refine eC d0 (by simpa using d1) fun p hp' => ?_
 have ht : qA p := by
  have one : ∀ ps : List PV, ps.length ≤ 300 → (∀ p ∈ ps, pW p) → qA (.tup ps) := fun ps h1 h2 => ⟨wQ, fun _ e => by cases e; exact ⟨h1, h2⟩⟩
  have aZ : ∀ p, nR p → (∀ ps, p ≠ .tup ps) → qA p := fun p h1 h2 => ⟨h1, fun ps e => absurd e (h2 ps)⟩
  have ma : ∀ p, nR p → (∀ ps, p ≠ .tup ps) → pW p := fun p h1 h2 => (aZ p h1 h2).YU
  have mt : ∀ ps : List PV, ps.length < 1000000 → (∀ p ∈ ps, nR p) → pW (.tup ps) := fun ps h1 h2 => ⟨wQ, fun _ e => by cases e; exact ⟨h1, h2⟩⟩
  have sA : nR (.str "a") := oT (by decide)
  simp only [List.mem_cons, List.not_mem_nil, or_false, List.cons_append, List.nil_append] at hp'
  rcases hp' with rfl | rfl | rfl | rfl | rfl | rfl | rfl | rfl | rfl | rfl | rfl | rfl | rfl | rfl | rfl
  ·exact aZ _ vI (fun _ e => nomatch e)
  ·exact aZ _ QS (fun _ e => nomatch e)
  ·exact aZ _ QS (fun _ e => nomatch e)
  ·exact aZ _ PC (fun _ e => nomatch e)
  ·exact aZ _ PC (fun _ e => nomatch e)
  ·exact aZ _ (oT (by decide)) (fun _ e => nomatch e)
  ·exact aZ _ (oT (by decide)) (fun _ e => nomatch e)
  ·exact aZ _ GC (fun _ e => nomatch e)
  ·exact one [] (by decide) (fun _ h => nomatch h)
  ·exact aZ _ GC (fun _ e => nomatch e)
  ·refine one _ (by show 2 ≤ 300; omega) fun p hp => ?_
   simp only [List.mem_cons, List.not_mem_nil, or_false] at hp
   rcases hp with rfl | rfl
   ·exact ma _ sA (fun _ e => nomatch e)
   ·exact ma _ vI (fun _ e => nomatch e)
  ·refine one _ (by show 1 ≤ 300; omega) fun p hp => ?_
   rw [List.mem_singleton.mp hp]
   exact mt [] (by decide) (fun _ h => nomatch h)
  ·refine one _ (by show 2 ≤ 300; omega) fun p hp => ?_
   simp only [List.mem_cons, List.not_mem_nil, or_false] at hp
   rcases hp with rfl | rfl
   ·refine mt _ (by show 2 < 1000000; omega) fun q hq => ?_
    simp only [List.mem_cons, List.not_mem_nil, or_false] at hq
    rcases hq with rfl | rfl
    ·exact sA
    ·exact vI
   ·exact mt [] (by decide) (fun _ h => nomatch h)
  ·exact aZ _ UR (fun _ e => nomatch e)
  ·exact aZ _ UR (fun _ e => nomatch e)
 walk_at "wp"
 refine dG hp (by omega) (by decide) (by decide) fun d2 a2 b2 c2 e0 e1 hp => ?_
 walk_at "wp"
 refine dG hp (by omega) (by decide) (by decide) fun d3 a3 b3 c3 f0 f1 hp => ?_
 walk_at "wp"
 have hd2 : d2 = 0 ∨ d2 = 1 := by omega
 have hmul : 0 ≤ d2 * d3 ∧ d2 * d3 < 24 := by rcases hd2 with rfl | rfl <;> omega
 refine ⟨HJ (by omega) (by omega), kO (by omega) (by omega), ?_⟩
 refine gT (fun i e => ∃ (v1 v3 : Option Sl) (t : PV), qA t ∧ e = [some (.own (hd a3 b3 c3)), v1, some (.val t), v3]) ?_ ?_ ⟨_, _, p, ht, rfl⟩
 ·rintro i x e hx ⟨v1, v3, t, ht, rfl⟩
  rw [List.getElem?_map] at hx
  obtain ⟨k, hk, rfl⟩ := Option.map_eq_some_iff.mp hx
  walk_at "wp"
  exact ⟨fun _ => ⟨_, _, _, ht.one, rfl⟩, fun _ => ⟨_, _, _, ht.two, rfl⟩⟩
 ·rintro e ⟨v1, v3, t, ht, rfl⟩
  walk_at "wp"
  exact q t _ _ _ ht hp
end
section
open PySem L2 Mr
structure GR (ps : List PV) (m : Nat) : Prop where
 all : ∀ p ∈ ps, pW p
 len : ps.length ≤ m
theorem jZ {p q : PV} (h1 : nR p) (h2 : nR q) : pW (.tup [p, q]) := ⟨wQ, fun _ e => by
 cases e
 refine ⟨by show 2 < 1000000; omega, fun r hr => ?_⟩
 simp only [List.mem_cons, List.not_mem_nil, or_false] at hr
 rcases hr with rfl | rfl
 ·exact h1
 ·exact h2⟩
theorem IF {o : Option Str} (h : ∀ y, o = some y → y.length ≤ 12) : nR (oP o) := by
 cases o with
 | none => exact vI
 | some y => exact oT (by have := h y rfl; omega)
theorem AZ {z : Str × Option Str} (h : z.1.length ≤ 12 ∧ ∀ y, z.2 = some y → y.length ≤ 12) : pW (mG z) := jZ (oT (by omega)) (IF h.2)
theorem qH (xs : List PV) (k : Nat) : oZ xs none (some (k : Int)) = xs.take k := by
 unfold oZ
 rw [HT.xZ, HT.A2, List.drop_zero, Nat.sub_zero]
 by_cases h : k ≤ xs.length
 ·rw [Nat.min_eq_left h]
 ·rw [Nat.min_eq_right (by omega), List.take_of_length_le (Nat.le_refl _), List.take_of_length_le (by omega)]
theorem GR.mid {xs ys : List PV} {m : Nat} (h : ∀ p ∈ xs, pW p) (hl : xs.length ≤ 43) (hy : ∀ p ∈ ys, pW p) (hyl : ys.length ≤ 1) (i j : Nat) (hij : i ≤ j) : GR (xs.take i ++ ys ++ xs.drop j) 45 := by
 refine ⟨fun p hp => ?_, ?_⟩
 ·rcases List.mem_append.mp hp with hp | hp
  ·rcases List.mem_append.mp hp with hp | hp
   ·exact h p (List.mem_of_mem_take hp)
   ·exact hy p hp
  ·exact h p (List.mem_of_mem_drop hp)
 ·rw [List.length_append, List.length_append, List.length_take, List.length_drop]
  omega
theorem DW {a b c kind : Int} {n : Nat} {ks : Hl} {Q : PV × List PV → Prop} (h : Hand a b c n) (hn : n < 800000) (ok : BB ks) (h0 : 0 < ks.length) (h1 : ks.length ≤ 43)
  (q : ∀ ps a' b' c', GR ps 45 → Hand a' b' c' (n + 3) → Q (.lst ps, [hd a' b' c'])) : Wp (eV [hd a b c, .lst (ks.map mG), .int kind]) Q := by
 unfold eV kS
 have hall : ∀ p ∈ ks.map mG, pW p := fun p hp => by obtain ⟨z, hz, rfl⟩ := List.mem_map.mp hp; exact AZ (ok.sm z hz)
 have hlen : (ks.map mG).length ≤ 43 := by rw [List.length_map]; exact h1
 have hlen0 : 0 < (ks.map mG).length := by rw [List.length_map]; exact h0
 have hel : ∀ p ∈ ks.map mG, ∃ x o, p = .tup [.str x, o] ∧ x.length ≤ 12 ∧ nR o := fun p hp => by
  obtain ⟨z, hz, rfl⟩ := List.mem_map.mp hp
  exact ⟨z.1, oP z.2, rfl, (ok.sm z hz).1, IF (ok.sm z hz).2⟩
 revert hall hlen hlen0 hel
 generalize ks.map mG = xs
 intro hall hlen hlen0 hel
 walk_at "wp"
 refine dG h (by omega) (by omega) (by omega) fun at' a1 b1 c1 d0 d1 hp => ?_
 obtain ⟨m, rfl⟩ := Int.eq_ofNat_of_zero_le d0
 walk_at "wp"
 refine eC d0 d1 fun p hp' => ?_
 obtain ⟨x, o, rfl, hx, ho⟩ := hel p hp'
 have e1 : ((m : Int) + 1) = ((m + 1 : Nat) : Int) := by omega
 have ct1 : oZ xs none (some (m : Int)) = xs.take m := qH xs m
 have ct2 : oZ xs (some ((m : Int) + 1)) none = xs.drop (m + 1) := by rw [e1]; exact qL xs (m + 1)
 have ct3 : oZ xs none (some ((m : Int) + 1)) = xs.take (m + 1) := by rw [e1]; exact qH xs (m + 1)
 have aX : nR (.str x) := oT (by omega)
 have hml : m < xs.length := by omega
 have hp2 : pW (.tup [.str x, o]) := jZ aX ho
 have lt : ∀ i, (xs.take i).length ≤ 43 := fun i => by rw [List.length_take]; omega
 have ld : ∀ i, (xs.drop i).length ≤ 43 := fun i => by rw [List.length_drop]; omega
 have one : ∀ y : PV, pW y → ∀ p ∈ [y], pW p := fun y hy p hp => by rw [List.mem_singleton.mp hp]; exact hy
 walk_at "wp"
 simp only [ct1, ct2, ct3]
 refine ⟨fun _ => ?_, fun _ => ⟨fun _ => ?_, fun _ => ⟨fun _ => ?_, fun _ => ⟨fun _ => ?_, fun _ => ⟨fun _ => ?_, fun _ => ?_⟩⟩⟩⟩⟩
 ·refine EW hp (by omega) hx fun p a2 b2 c2 hb hp => ?_
  walk_at "wp"
  simp only [ct1, ct2, ct3]
  have l1 := lt m
  have l2 := ld (m + 1)
  refine ⟨by omega, by rw [List.length_append]; simp only [List.length_cons, List.length_nil]; omega, q _ _ _ _ (GR.mid (m := 0) hall hlen (one _ (jZ hb ho)) (Nat.le_refl _) m (m + 1) (by omega)) (hp.mono (by omega))⟩
 ·refine EW hp (by omega) hx fun p a2 b2 c2 hb hp => ?_
  walk_at "wp"
  simp only [ct1, ct2, ct3]
  have l1 := lt m
  have l2 := ld (m + 1)
  refine ⟨by omega, by rw [List.length_append]; simp only [List.length_cons, List.length_nil]; omega, q _ _ _ _ (GR.mid (m := 0) hall hlen (one _ (jZ aX hb)) (Nat.le_refl _) m (m + 1) (by omega)) (hp.mono (by omega))⟩
 ·have la : (x ++ Str.ofString "b").length = x.length + 1 := by
   show (x.cps ++ (Str.ofString "b").cps).size = x.cps.size + 1
   rw [Array.size_append]
   rfl
  refine ⟨by show x.length + 1 < 1000000; omega, ?_⟩
  refine dG hp (by omega) (by decide) (by decide) fun d a2 b2 c2 d0 d1 hp => ?_
  walk_at "wp"
  refine eC d0 (by simpa using d1) fun y hy => ?_
  have mt : ∀ ps : List PV, ps.length < 1000000 → (∀ p ∈ ps, nR p) → pW (.tup ps) := fun ps h1 h2 => ⟨wQ, fun _ e => by cases e; exact ⟨h1, h2⟩⟩
  have ma : ∀ p, nR p → (∀ ps, p ≠ .tup ps) → pW p := fun p h1 h2 => ⟨h1, fun ps e => absurd e (h2 ps)⟩
  have hy' : pW y := by
   simp only [List.mem_cons, List.not_mem_nil, or_false] at hy
   rcases hy with rfl | rfl | rfl | rfl | rfl | rfl | rfl
   ·refine mt _ (by show 1 < 1000000; omega) fun p hp => ?_
    rw [List.mem_singleton.mp hp]; exact aX
   ·refine mt _ (by show 3 < 1000000; omega) fun p hp => ?_
    simp only [List.mem_cons, List.not_mem_nil, or_false] at hp
    rcases hp with rfl | rfl | rfl
    ·exact aX
    ·exact ho
    ·exact vI
   ·exact ma _ GC (fun _ e => nomatch e)
   ·exact ma _ (oT (by rw [la]; omega)) (fun _ e => nomatch e)
   ·exact mt [] (by decide) (fun _ h => nomatch h)
   ·refine mt _ (by show 3 < 1000000; omega) fun p hp => ?_
    simp only [List.mem_cons, List.not_mem_nil, or_false] at hp
    rcases hp with rfl | rfl | rfl
    ·exact aX
    ·exact ho
    ·exact ho
   ·exact ma _ vI (fun _ e => nomatch e)
  walk_at "wp"
  simp only [ct1, ct2, ct3]
  have l1 := lt m
  have l2 := ld (m + 1)
  exact ⟨by omega, by rw [List.length_append]; simp only [List.length_cons, List.length_nil]; omega, q _ _ _ _ (GR.mid (m := 0) hall hlen (one _ hy') (Nat.le_refl _) m (m + 1) (by omega)) (hp.mono (by omega))⟩
 ·refine dG hp (by omega) (by decide) (by decide) fun d a2 b2 c2 d0 d1 hp => ?_
  walk_at "wp"
  refine eC d0 (by simpa using d1) fun y hy => ?_
  have hy' : nR y := by
   simp only [List.mem_cons, List.not_mem_nil, or_false] at hy
   rcases hy with rfl | rfl
   ·exact ho
   ·exact vI
  walk_at "wp"
  simp only [ct1, ct2, ct3]
  have l1 := lt (m + 1)
  have l2 := ld (m + 1)
  exact ⟨by omega, by rw [List.length_append]; simp only [List.length_cons, List.length_nil]; omega, q _ _ _ _ (GR.mid (m := 0) hall hlen (one _ (jZ aX hy')) (Nat.le_refl _) (m + 1) (m + 1) (Nat.le_refl _)) (hp.mono (by omega))⟩
 ·have l1 := lt m
  have l2 := ld (m + 1)
  have hM := GR.mid (ys := []) (m := 0) hall hlen (fun _ h => nomatch h) (by decide) m (m + 1) (by omega)
  rw [List.append_nil] at hM
  have hl : (xs.take m ++ xs.drop (m + 1)).length ≤ 43 := by rw [List.length_append, List.length_take, List.length_drop]; omega
  refine ⟨by omega, by omega, q _ _ _ _ ⟨fun p hp => ?_, by rw [List.length_append]; simp only [List.length_cons, List.length_nil]; omega⟩ (hp.mono (by omega))⟩
  rcases List.mem_append.mp hp with hp | hp
  ·exact hM.all p hp
  ·rw [List.mem_singleton.mp hp]; exact hp2
 ·have l1 := lt m
  have l2 := ld (m + 1)
  have hM := GR.mid (ys := []) (m := 0) hall hlen (fun _ h => nomatch h) (by decide) m (m + 1) (by omega)
  rw [List.append_nil] at hM
  exact ⟨by omega, q _ _ _ _ hM (hp.mono (by omega))⟩
end
section
open PySem L2 Mr
noncomputable def XH : PV → Bool
 | .tup ps => IL ps
 | _ => false
theorem LI {t : PV} {Q : PV × List PV → Prop} (h : qA t) (q : Q (.bl (XH t), [])) : Wp (eK [t]) Q := by
 cases t with
 | tup ps => exact LR (h.t ps rfl) q
 | _ => exact LA h.a (fun _ e => nomatch e) q
theorem CW {t : PV} {Q : PV × List PV → Prop} (h : qA t) (q : Q (.bl (XH t), [])) : Wp (cW [t]) Q := by
 cases t with
 | tup ps => exact u9 (h.t ps rfl) q
 | _ => exact uQ h.a (fun _ e => nomatch e) q
noncomputable def FU : FS := (L6 6 (kU (B4 (aF 6)) (bX 9) (bF (dY 10 (bQ [.b] false eK (aD (aF 9) aM)))
  (kU (o9 (aD (fC (.int 2)) aM)) (bX 11) (bF (dY 12 (bQ [.b] false cW (aD (aF 9) aM)))
  (mR (vP (kT (bH (gL g8 (aD (aF 12) (aD (fC (.ty "bool")) aM))))) (bH (bD L8 (aF 12) (aF 10)))) (d7 (fC (.bl false))) dQ))))))
noncomputable def EM : FS := (mR (pU (bH (bD D0 (gL gY (aD (aF 5) aM)) (fC (.int 0)))) (bH (gL g8 (aD (bD fX (bD fX (aF 5) (fC (.int 0))) (fC (.int 0))) (aD (fC (.ty "str")) aM))))) (bF (dY 7 (bQ [.m, .b] false aQ (aD (aF 2) (aD (gL gY (aD (aF 5) aM)) aM))))
  (bF (dY 8 (iU (aD (bD fX (eZ (aD (fC (.str "z")) (aD (fC (.str "a")) aM))) (bD kJ (bD fX (aF 3) (fC (.int 1))) (fC (.int 2)))) (aD (bD fX (eZ (aD (fC .aZ) (aD (fC (.str "y")) aM))) (bD kJ (bD zH (bD fX (aF 3) (fC (.int 1))) (fC (.int 2))) (fC (.int 2)))) aM))))
  (sT 6 (gL oF (aD (bD d4 (bD d4 (uE tY (aF 5) dF (gR (aF 7))) (eZ (aD (aF 8) aM))) (uE tY (aF 5) (gR (aF 7)) dF)) aM))))) dQ)
noncomputable def zZ : FS := (mR (pU (bH (bD tI (aF 4) (fC (.int 3)))) (bH (gL vE (aD (j6 (B4 (aF 5)) 1 [] [] (bX 0) iJ (rV (gL g8 (aD (aF 0) (aD (fC (.ty "tuple")) aM))) (bD tI (gL gY (aD (aF 0) aM)) (fC (.int 2))))) aM)))) EM dQ)
theorem UP : EO = (bF (kU (o9 (aD (gL yB (aD (fC (.int 1)) (aD (gL y8 (aD (gL gY (aD (aF 0) aM)) (aD (fC (.int 4)) aM))) aM))) aM)) (bX 1) (bF (fZ 2 (bQ [.b, .b] true gO (aD (aF 0) (aD (aF 1) aM))))
  (bF (dY 3 (eZ (aD (bQ [.m, .b] false aQ (aD (aF 2) (aD (fC (.int 6)) aM))) (aD (bQ [.m, .b] false aQ (aD (aF 2) (aD (fC (.int 6)) aM))) aM))))
  (bF (dY 4 (bQ [.m, .b] false aQ (aD (aF 2) (aD (fC (.int 4)) aM))))
  (bF (dY 5 (bQ [.m, .b] false gP (aD (aF 2) (aD (bQ [.m, .b] false aQ (aD (aF 2) (aD (fC (.int 3)) aM))) aM))))
  (bF (fZ 6 (eZ (aD (gL oF (aD (aF 5) aM)) (aD (bQ [.m] false hJ (aD (aF 2) aM)) aM))))
  (bF (mR (bH (bD D0 (aF 4) (fC (.int 0)))) (bF (dY 5 (bQ [.m, .b, .b] false eV (aD (aF 2) (aD (aF 5) (aD (bD fX (aF 3) (fC (.int 0))) aM)))))
  (fZ 6 (bD d4 (aF 6) (eZ (aD (gL oF (aD (aF 5) aM)) (aD (gL sS (aD (aF 5) aM)) aM)))))) dQ)
  (bF zZ
  FU))))))))
  (d7 (fC (.bl true)))) := rfl
noncomputable abbrev mL (v0 v1 v2 v3 v4 v5 v6 v7 v8 v9 v10 v11 v12 : Option Sl) : En := [v0, v1, v2, v3, v4, v5, v6, v7, v8, v9, v10, v11, v12]
theorem GP {ns : List Int} {v1 v2 v3 v4 v5 v7 v8 v9 v10 v11 v12 : Option Sl} {ts : List PV} {Q : Out → Prop} (h : ∀ t ∈ ts, qA t)
  (q : ∀ v1 v2 v3 v4 v5 v6 v7 v8 v9 v10 v11 v12, Q (.nx (mL (some (.bor (.lst (ns.map PV.int)))) v1 v2 v3 v4 v5 v6 v7 v8 v9 v10 v11 v12))) :
  Wp (FU (mL (some (.bor (.lst (ns.map PV.int)))) v1 v2 v3 v4 v5 (some (.loc (.lst ts))) v7 v8 v9 v10 v11 v12)) Q := by
 unfold FU mL
 walk_at "wp"
 refine gT (fun i e => ∃ v9 v10 v11 v12 : Option Sl, e = mL (some (.bor (.lst (ns.map PV.int)))) v1 v2 v3 v4 v5 (some (.val (.lst ts))) v7 v8 v9 v10 v11 v12) ?_ ?_ ⟨_, _, _, _, rfl⟩
 ·rintro i t e ht ⟨v9, v10, v11, v12, rfl⟩
  have hT := h t (List.mem_of_getElem? ht)
  unfold mL
  walk_at "wp"
  refine LI hT ?_
  walk_at "wp"
  refine ⟨kO (by decide) (by decide), ?_⟩
  refine gT (fun i e => ∃ v11 v12 : Option Sl, e = mL (some (.bor (.lst (ns.map PV.int)))) v1 v2 v3 v4 v5 (some (.val (.lst ts))) v7 v8 (some (.val t)) (some (.val (.bl (XH t)))) v11 v12) ?_ ?_ ⟨_, _, rfl⟩
  ·rintro j x e hx ⟨v11, v12, rfl⟩
   rw [List.getElem?_map] at hx
   obtain ⟨k, hk, rfl⟩ := Option.map_eq_some_iff.mp hx
   unfold mL
   walk_at "wp"
   refine CW hT ?_
   walk_at "wp"
   exact ⟨_, _, rfl⟩
  ·rintro e ⟨v11, v12, rfl⟩
   exact ⟨_, _, _, _, rfl⟩
 ·rintro e ⟨v9, v10, v11, v12, rfl⟩
  exact q _ _ _ _ _ _ _ _ _ _ _ _
noncomputable def IX : PV → Bool
 | .tup ps => decide (ps.length = 2)
 | _ => false
theorem IV {ps : List PV} {s : Option Sl} {Q : List PV × En → Prop} (h : ∀ p ∈ ps, pW p) (q : ∀ s', Q (ps.map fun p => PV.bl (IX p), [s'])) : Wp (j9 (bX 0) iJ (rV (gL g8 (aD (aF 0) (aD (fC (.ty "tuple")) aM))) (bD tI (gL gY (aD (aF 0) aM)) (fC (.int 2)))) ps [s]) Q := by
 refine kI (fun i acc e => ∃ s, acc = (ps.take i).map (fun p => PV.bl (IX p)) ∧ e = [s]) ?_ ?_ ⟨s, rfl, rfl⟩
 ·rintro i p e acc hp ⟨s, rfl, rfl⟩
  have hm := h p (List.mem_of_getElem? hp)
  have fin : ∀ c, c = IX p → (ps.take i).map (fun p => PV.bl (IX p)) ++ [PV.bl c] = (ps.take (i + 1)).map fun p => PV.bl (IX p) := fun c hc => by rw [List.take_add_one, hp, List.map_append, hc]; rfl
  cases p with
  | ty n => exact absurd rfl (hm.a.ty n)
  | tup qs =>
   have hl := (hm.t qs rfl).1
   walk_at "wp"
   refine ⟨_, fin _ ?_, rfl⟩
   show ((qs.length : Int) == 2) = decide (qs.length = 2)
   by_cases h2 : qs.length = 2
   ·rw [h2]; rfl
   ·rw [decide_eq_false h2]
    exact beq_eq_false_iff_ne.mpr fun e => h2 (by omega)
  | _ =>
   walk_at "wp"
   exact ⟨_, fin false rfl, rfl⟩
 ·rintro acc e ⟨s, rfl, rfl⟩
  rw [List.take_length]
  exact q s
theorem PR (l : List PV) : mF (l.map fun c => PV.bl (IX c)) = some (l.map IX) := by
 induction l with
 | nil => rfl
 | cons c l ih => rw [List.map_cons, List.map_cons, mF, ih]; rfl
theorem AM {ps : List PV} (h : ∀ p ∈ ps, pW p) (hl : ps.length ≤ 300) : qA (.tup ps) := ⟨wQ, fun _ e => by cases e; exact ⟨hl, h⟩⟩
theorem NL {v0 v1 v4 v7 v8 v9 v10 v11 v12 : Option Sl} {a b c w0 w1 : Int} {n : Nat} {ps ts : List PV} {Q : Out → Prop} (h : Hand a b c n) (hn : n < 900000) (w0' : 0 ≤ w1) (hp : GR ps 45) (hpr : ∀ p ∈ ps, IX p = true) (ht : ∀ t ∈ ts, qA t) (hl : ts.length ≤ 10)
  (q : ∀ a b c ts v7 v8, (∀ t ∈ ts, qA t) → Q (.nx (mL v0 v1 (some (.loc (hd a b c))) (some (.val (.lst [.int w0, .int w1]))) v4 (some (.val (.lst ps))) (some (.loc (.lst ts))) v7 v8 v9 v10 v11 v12))) :
  Wp (EM (mL v0 v1 (some (.loc (hd a b c))) (some (.val (.lst [.int w0, .int w1]))) v4 (some (.val (.lst ps))) (some (.loc (.lst ts))) v7 v8 v9 v10 v11 v12)) Q := by
 unfold EM mL
 have hlen := hp.len
 cases ps with
 | nil =>
  walk_at "wp"
  exact ⟨fun z => absurd z (by decide), fun _ => q a b c ts v7 v8 ht⟩
 | cons p ps =>
  obtain ⟨x, y, rfl⟩ : ∃ x y, p = .tup [x, y] := by
   have := hpr p (by simp)
   cases p with
   | tup qs =>
    have : qs.length = 2 := of_decide_eq_true this
    match qs, this with
    | [x, y], _ => exact ⟨x, y, rfl⟩
   | _ => cases this
  have hM := hp.all _ List.mem_cons_self
  have hx := (hM.t _ rfl).2 x (by simp)
  rw [List.length_cons] at hlen
  walk_at "wp"
  refine ⟨fun _ => ?_, fun z => absurd z (by omega)⟩
  cases x with
  | ty n => exact absurd rfl (hx.ty n)
  | str x =>
   walk_at "wp"
   refine dG h (by omega) (by omega) (by omega) fun at' a1 b1 c1 d0 d1 hh => ?_
   walk_at "wp"
   refine eC (Int.emod_nonneg _ (by decide)) (by have := Int.emod_lt_of_pos w1 (show (0 : Int) < 2 by decide); simp only [List.length_cons, List.length_nil]; omega) fun p hp1 => ?_
   have ap : nR p := by
    simp only [List.mem_cons, List.not_mem_nil, or_false] at hp1
    rcases hp1 with rfl | rfl <;> exact oT (by decide)
   walk_at "wp"
   refine eC (Int.emod_nonneg _ (by decide)) (by have := Int.emod_lt_of_pos (w1 / 2) (show (0 : Int) < 2 by decide); simp only [List.length_cons, List.length_nil]; omega) fun p2 hp2 => ?_
   have ap2 : nR p2 := by
    simp only [List.mem_cons, List.not_mem_nil, or_false] at hp2
    rcases hp2 with rfl | rfl
    ·exact vI
    ·exact oT (by decide)
   obtain ⟨m, rfl⟩ := Int.eq_ofNat_of_zero_le d0
   have c1' : oZ (PV.tup [PV.str x, y] :: ps) none (some (m : Int)) = (PV.tup [PV.str x, y] :: ps).take m := qH _ m
   have c2' : oZ (PV.tup [PV.str x, y] :: ps) (some (m : Int)) none = (PV.tup [PV.str x, y] :: ps).drop m := qL _ m
   walk_at "wp"
   simp only [c1', c2']
   have l1 : ((PV.tup [PV.str x, y] :: ps).take m).length ≤ 45 := by rw [List.length_take]; exact Nat.le_trans (Nat.min_le_right _ _) hp.len
   have l2 : ((PV.tup [PV.str x, y] :: ps).drop m).length ≤ 45 := by rw [List.length_drop]; exact Nat.le_trans (Nat.sub_le _ _) hp.len
   have hT : qA (.tup ((PV.tup [PV.str x, y] :: ps).take m ++ [PV.tup [p, p2]] ++ (PV.tup [PV.str x, y] :: ps).drop m)) := AM (fun r hr => by
    rcases List.mem_append.mp hr with hr | hr
    ·rcases List.mem_append.mp hr with hr | hr
     ·exact hp.all r (List.mem_of_mem_take hr)
     ·rw [List.mem_singleton.mp hr]; exact jZ ap ap2
    ·exact hp.all r (List.mem_of_mem_drop hr)) (by rw [List.length_append, List.length_append]; simp only [List.length_cons, List.length_nil]; omega)
   refine ⟨by omega, by rw [List.length_append]; simp only [List.length_cons, List.length_nil]; omega, by omega, q a1 b1 c1 _ _ _ fun t ht' => ?_⟩
   rcases List.mem_append.mp ht' with h3 | h3
   ·exact ht t h3
   ·rw [List.mem_singleton.mp h3]; exact hT
  | _ =>
   walk_at "wp"
   first | exact q a b c ts v7 v8 ht | exact ⟨fun z => z.elim, q a b c ts v7 v8 ht⟩
theorem BY {v0 v1 v7 v8 v9 v10 v11 v12 : Option Sl} {a b c w0 w1 d : Int} {n : Nat} {ps ts : List PV} {Q : Out → Prop} (h : Hand a b c n) (hn : n < 900000) (w0' : 0 ≤ w1) (hp : GR ps 45) (ht : ∀ t ∈ ts, qA t) (hl : ts.length ≤ 10)
  (q : ∀ a b c ts v7 v8, (∀ t ∈ ts, qA t) → Q (.nx (mL v0 v1 (some (.loc (hd a b c))) (some (.val (.lst [.int w0, .int w1]))) (some (.val (.int d))) (some (.val (.lst ps))) (some (.loc (.lst ts))) v7 v8 v9 v10 v11 v12))) :
  Wp (zZ (mL v0 v1 (some (.loc (hd a b c))) (some (.val (.lst [.int w0, .int w1]))) (some (.val (.int d))) (some (.val (.lst ps))) (some (.loc (.lst ts))) v7 v8 v9 v10 v11 v12)) Q := by
 unfold zZ mL
 have hlen := hp.len
 walk_at "wp"
 refine ⟨fun _ => ⟨by omega, IV hp.all fun s' => ?_⟩, fun _ => q a b c ts v7 v8 ht⟩
 walk_at "wp"
 rw [PR]
 walk_at "wp"
 refine ⟨fun hall => ?_, fun _ => q a b c ts v7 v8 ht⟩
 refine NL h hn w0' hp (fun p hp1 => ?_) ht hl q
 have := List.all_eq_true.mp hall (IX p) (List.mem_map.mpr ⟨p, hp1, rfl⟩)
 exact this
theorem O8 {ns : List Int} (hn : ns.length ≤ 63) : Wp (wM [.lst (ns.map PV.int)]) fun w => w = (.bl true, []) := by
 unfold wM
 rw [UP]
 walk_at "wp"
 have hz : (if (if 4 < (ns.length : Int) then 4 else (ns.length : Int)) > 1 then if 4 < (ns.length : Int) then 4 else (ns.length : Int) else 1) ≤ 4 ∧ 1 ≤ (if (if 4 < (ns.length : Int) then 4 else (ns.length : Int)) > 1 then if 4 < (ns.length : Int) then 4 else (ns.length : Int) else 1) := by
  constructor <;> (repeat' split) <;> omega
 revert hz
 generalize (if (if 4 < (ns.length : Int) then 4 else (ns.length : Int)) > 1 then if 4 < (ns.length : Int) then 4 else (ns.length : Int) else 1) = z
 intro hz
 refine ⟨kO (by omega) (by omega), ?_⟩
 refine gT (fun i e => ∃ v1 v2 v3 v4 v5 v6 v7 v8 v9 v10 v11 v12 : Option Sl, e = mL (some (.bor (.lst (ns.map PV.int)))) v1 v2 v3 v4 v5 v6 v7 v8 v9 v10 v11 v12) ?_ ?_ ⟨_, _, _, _, _, _, _, _, _, _, _, _, rfl⟩
 ·rintro i x e hx ⟨v1, v2, v3, v4, v5, v6, v7, v8, v9, v10, v11, v12, rfl⟩
  rw [List.getElem?_map] at hx
  obtain ⟨y, hk, rfl⟩ := Option.map_eq_some_iff.mp hx
  have hy : y < z.toNat := List.mem_range.mp (List.mem_of_getElem? hk)
  unfold mL
  walk_at "wp"
  refine JD (by omega) (by omega) hn fun a b h => ?_
  walk_at "wp"
  refine dG h (by decide) (by decide) (by decide) fun w0 a b c d0 d1 h => ?_
  walk_at "wp"
  refine dG h (by decide) (by decide) (by decide) fun w1 a b c e0 e1 h => ?_
  walk_at "wp"
  refine dG h (by decide) (by decide) (by decide) fun sp a b c f0 f1 h => ?_
  walk_at "wp"
  refine dG h (by decide) (by decide) (by decide) fun kd a b c g0 g1 h => ?_
  walk_at "wp"
  refine JH h (by decide) fun ks a b c k0 k1 ok h => ?_
  have hall : ∀ p ∈ ks.map mG, pW p := fun p hp => by obtain ⟨z, hz, rfl⟩ := List.mem_map.mp hp; exact AZ (ok.sm z hz)
  have hlen : (ks.map mG).length ≤ 43 := by rw [List.length_map]; exact k1
  have hT0 : qA (.tup (ks.map mG)) := AM hall (by omega)
  walk_at "wp"
  refine OW h (by decide) fun t a b c hT h => ?_
  have h2 : ∀ u ∈ [PV.tup (ks.map mG), t], qA u := fun u hu => by
   simp only [List.mem_cons, List.not_mem_nil, or_false] at hu
   rcases hu with rfl | rfl
   ·exact hT0
   ·exact hT
  walk_at "wp"
  refine ⟨fun _ => DW h (by decide) ok k0 k1 fun ps a b c hL h => ?_, fun _ => ?_⟩
  ·have hl5 := hL.len
   have h4 : ∀ u ∈ [PV.tup (ks.map mG), t, PV.tup ps, PV.lst ps], qA u := fun u hu => by
    simp only [List.mem_cons, List.not_mem_nil, or_false] at hu
    rcases hu with rfl | rfl | rfl | rfl
    ·exact hT0
    ·exact hT
    ·exact AM hL.all (by omega)
    ·exact ⟨GC, fun _ e => nomatch e⟩
   walk_at "wp"
   refine BY h (by decide) e0 hL h4 (by show 4 ≤ 10; omega) fun a b c ts v7 v8 hts => ?_
   refine GP hts fun v1 v2 v3 v4 v5 v6 v7 v8 v9 v10 v11 v12 => ?_
   exact ⟨_, _, _, _, _, _, _, _, _, _, _, _, rfl⟩
  ·refine BY h (by decide) e0 ⟨hall, by omega⟩ h2 (by show 2 ≤ 10; omega) fun a b c ts v7 v8 hts => ?_
   refine GP hts fun v1 v2 v3 v4 v5 v6 v7 v8 v9 v10 v11 v12 => ?_
   exact ⟨_, _, _, _, _, _, _, _, _, _, _, _, rfl⟩
 ·rintro e ⟨v1, v2, v3, v4, v5, v6, v7, v8, v9, v10, v11, v12, rfl⟩
  unfold mL
  walk_at "wp"
theorem GB : ∀ ns : List Int, ns.length ≤ 63 → wM [.lst (ns.map PV.int)] = some (.bl true, []) := fun ns hn => (O8 hn).eq
end
theorem all_mk {l : PySem.W.OpenLaw} {w : World} {K : PySem.W.Frag} {h : Heap} {mg : Str → Option Value} {fa f0 f1 f2 f3 f4 f5 f6 f7 f8 f9 f10 f11 f12 f13 f14 f15 f16 : Addr} (X : K.In h) (G : h.Ns mainGlobals mg) (hfa : mg "law" = some (.ref fa))
  {od0 an0 od1 an1 od2 an2 od3 an3 od4 an4 od5 an5 od6 an6 od7 an7 od8 an8 od9 an9 od10 an10 od11 an11 od12 an12 od13 an13 od14 an14 od15 an15 od16 an16 : Option Addr} {sl0 sl1 sl2 sl3 sl4 sl5 sl6 sl7 sl8 sl9 sl10 sl11 sl12 sl13 sl14 sl15 sl16 : Array (Option Value)} {oc0 kV0 dc0 pm0 cd0 ct0 oc1 kV1 dc1 pm1 cd1 ct1 oc2 kV2 dc2 pm2 cd2 ct2 oc3 kV3 dc3 pm3 cd3 ct3 oc4 kV4 dc4 pm4 cd4 ct4 oc5 kV5 dc5 pm5 cd5 ct5 oc6 kV6 dc6 pm6 cd6 ct6 oc7 kV7 dc7 pm7 cd7 ct7 oc8 kV8 dc8 pm8 cd8 ct8 oc9 kV9 dc9 pm9 cd9 ct9 oc10 kV10 dc10 pm10 cd10 ct10 oc11 kV11 dc11 pm11 cd11 ct11 oc12 kV12 dc12 pm12 cd12 ct12 oc13 kV13 dc13 pm13 cd13 ct13 oc14 kV14 dc14 pm14 cd14 ct14 oc15 kV15 dc15 pm15 cd15 ct15 oc16 kV16 dc16 pm16 cd16 ct16 : Value} {tk0 tk1 : Tok}
  (a0 : PySem.W.nsIn K mainGlobals "rings_in" = some (some (.ref f0))) (l0 : K.lookup f0 = some ⟨oc0, od0, .func (PySem.W.fnOf "rings_in" "rings_in" (bK eN) (bJ eN) (aL eN) .none kV0 dc0 pm0 an0 cd0 ct0), sl0⟩) (c0 : PySem.W.codeIn K cd0 "rings_in" = true) (k0 : PySem.W.keepIn K (.ref f0) = true)
  (a1 : PySem.W.nsIn K mainGlobals "is_name" = some (some (.ref f1))) (l1 : K.lookup f1 = some ⟨oc1, od1, .func (PySem.W.fnOf "is_name" "is_name" (bK eW) (bJ eW) (aL eW) .none kV1 dc1 pm1 an1 cd1 ct1), sl1⟩) (c1 : PySem.W.codeIn K cd1 "is_name" = true) (k1 : PySem.W.keepIn K (.ref f1) = true)
  (a2 : PySem.W.nsIn K mainGlobals "rises" = some (some (.ref f2))) (l2 : K.lookup f2 = some ⟨oc2, od2, .func (PySem.W.fnOf "rises" "rises" (bK iD) (bJ iD) (aL iD) .none kV2 dc2 pm2 an2 cd2 ct2), sl2⟩) (c2 : PySem.W.codeIn K cd2 "rises" = true) (k2 : PySem.W.keepIn K (.ref f2) = true)
  (a3 : PySem.W.nsIn K mainGlobals "is_mark" = some (some (.ref f3))) (l3 : K.lookup f3 = some ⟨oc3, od3, .func (PySem.W.fnOf "is_mark" "is_mark" (bK fP) (bJ fP) (aL fP) .none kV3 dc3 pm3 an3 cd3 ct3), sl3⟩) (c3 : PySem.W.codeIn K cd3 "is_mark" = true) (k3 : PySem.W.keepIn K (.ref f3) = true)
  (a4 : PySem.W.nsIn K mainGlobals "has_ring" = some (some (.ref f4))) (l4 : K.lookup f4 = some ⟨oc4, od4, .func (PySem.W.fnOf "has_ring" "has_ring" (bK d8) (bJ d8) (aL d8) .none kV4 dc4 pm4 an4 cd4 ct4), sl4⟩) (c4 : PySem.W.codeIn K cd4 "has_ring" = true) (k4 : PySem.W.keepIn K (.ref f4) = true)
  (a5 : PySem.W.nsIn K mainGlobals "is_marks" = some (some (.ref f5))) (l5 : K.lookup f5 = some ⟨oc5, od5, .func (PySem.W.fnOf "is_marks" "is_marks" (bK dU) (bJ dU) (aL dU) .none kV5 dc5 pm5 an5 cd5 ct5), sl5⟩) (c5 : PySem.W.codeIn K cd5 "is_marks" = true) (k5 : PySem.W.keepIn K (.ref f5) = true)
  (a6 : PySem.W.nsIn K mainGlobals "_law_hand" = some (some (.ref f6))) (l6 : K.lookup f6 = some ⟨oc6, od6, .func (PySem.W.fnOf "_law_hand" "_law_hand" (bK eG) (bJ eG) (aL eG) .none kV6 dc6 pm6 an6 cd6 ct6), sl6⟩) (c6 : PySem.W.codeIn K cd6 "_law_hand" = true) (k6 : PySem.W.keepIn K (.ref f6) = true)
  (a7 : PySem.W.nsIn K mainGlobals "_law_take" = some (some (.ref f7))) (l7 : K.lookup f7 = some ⟨oc7, od7, .func (PySem.W.fnOf "_law_take" "_law_take" (bK eQ) (bJ eQ) (aL eQ) .none kV7 dc7 pm7 an7 cd7 ct7), sl7⟩) (c7 : PySem.W.codeIn K cd7 "_law_take" = true) (k7 : PySem.W.keepIn K (.ref f7) = true)
  (a8 : PySem.W.nsIn K mainGlobals "_law_names" = some (some (.ref f8))) (l8 : K.lookup f8 = some ⟨oc8, od8, .func (PySem.W.fnOf "_law_names" "_law_names" (bK dD) (bJ dD) (aL dD) .none kV8 dc8 pm8 an8 cd8 ct8), sl8⟩) (c8 : PySem.W.codeIn K cd8 "_law_names" = true) (k8 : PySem.W.keepIn K (.ref f8) = true)
  (a9 : PySem.W.nsIn K mainGlobals "_law_name" = some (some (.ref f9))) (l9 : K.lookup f9 = some ⟨oc9, od9, .func (PySem.W.fnOf "_law_name" "_law_name" (bK d9) (bJ d9) (aL d9) .none kV9 dc9 pm9 an9 cd9 ct9), sl9⟩) (c9 : PySem.W.codeIn K cd9 "_law_name" = true) (k9 : PySem.W.keepIn K (.ref f9) = true)
  (a10 : PySem.W.nsIn K mainGlobals "_law_rounds" = some (some (.ref f10))) (l10 : K.lookup f10 = some ⟨oc10, od10, .func (PySem.W.fnOf "_law_rounds" "_law_rounds" (bK dO) (bJ dO) (aL dO) .none kV10 dc10 pm10 an10 cd10 ct10), sl10⟩) (c10 : PySem.W.codeIn K cd10 "_law_rounds" = true) (k10 : PySem.W.keepIn K (.ref f10) = true)
  (a11 : PySem.W.nsIn K mainGlobals "_law_due" = some (some (.ref f11))) (l11 : K.lookup f11 = some ⟨oc11, od11, .func (PySem.W.fnOf "_law_due" "_law_due" (bK fM) (bJ fM) (aL fM) .none kV11 dc11 pm11 an11 cd11 ct11), sl11⟩) (c11 : PySem.W.codeIn K cd11 "_law_due" = true) (k11 : PySem.W.keepIn K (.ref f11) = true)
  (a12 : PySem.W.nsIn K mainGlobals "_law_held" = some (some (.ref f12))) (l12 : K.lookup f12 = some ⟨oc12, od12, .func (PySem.W.fnOf "_law_held" "_law_held" (bK eO) (bJ eO) (aL eO) .none kV12 dc12 pm12 an12 cd12 ct12), sl12⟩) (c12 : PySem.W.codeIn K cd12 "_law_held" = true) (k12 : PySem.W.keepIn K (.ref f12) = true)
  (a13 : PySem.W.nsIn K mainGlobals "_law_bad" = some (some (.ref f13))) (l13 : K.lookup f13 = some ⟨oc13, od13, .func (PySem.W.fnOf "_law_bad" "_law_bad" (bK fR) (bJ fR) (aL fR) .none kV13 dc13 pm13 an13 cd13 ct13), sl13⟩) (c13 : PySem.W.codeIn K cd13 "_law_bad" = true) (k13 : PySem.W.keepIn K (.ref f13) = true)
  (a14 : PySem.W.nsIn K mainGlobals "_law_spoilt" = some (some (.ref f14))) (l14 : K.lookup f14 = some ⟨oc14, od14, .func (PySem.W.fnOf "_law_spoilt" "_law_spoilt" (bK dP) (bJ dP) (aL dP) .none kV14 dc14 pm14 an14 cd14 ct14), sl14⟩) (c14 : PySem.W.codeIn K cd14 "_law_spoilt" = true) (k14 : PySem.W.keepIn K (.ref f14) = true)
  (a15 : PySem.W.nsIn K mainGlobals "_law_any" = some (some (.ref f15))) (l15 : K.lookup f15 = some ⟨oc15, od15, .func (PySem.W.fnOf "_law_any" "_law_any" (bK fL) (bJ fL) (aL fL) .none kV15 dc15 pm15 an15 cd15 ct15), sl15⟩) (c15 : PySem.W.codeIn K cd15 "_law_any" = true) (k15 : PySem.W.keepIn K (.ref f15) = true)
  (a16 : PySem.W.nsIn K mainGlobals "law" = some (some (.ref f16))) (l16 : K.lookup f16 = some ⟨oc16, od16, .func (PySem.W.fnOf "law" "law" (bK iS) (bJ iS) (aL iS) .none kV16 dc16 pm16 an16 cd16 ct16), sl16⟩) (c16 : PySem.W.codeIn K cd16 "law" = true) (k16 : PySem.W.keepIn K (.ref f16) = true)
  (fU : PySem.W.nsIn K mainGlobals "len" = some none)
  (nM : PySem.W.nsIn K mainGlobals "str" = some none)
  (cH : PySem.W.nsIn K mainGlobals "isinstance" = some none)
  (n6 : PySem.W.nsIn K mainGlobals "all" = some none)
  (fQ : PySem.W.nsIn K mainGlobals "range" = some none)
  (gE : PySem.W.nsIn K mainGlobals "tuple" = some none)
  (jW : PySem.W.nsIn K mainGlobals "sorted" = some none)
  (wZ : PySem.W.nsIn K mainGlobals "int" = some none)
  (xU : PySem.W.nsIn K mainGlobals "min" = some none)
  (yQ : PySem.W.nsIn K mainGlobals "max" = some none)
  (qR : PySem.W.nsIn K mainGlobals "list" = some none)
  (rA : PySem.W.nsIn K mainGlobals "bool" = some none)
  (e_NAME_SIGNS : PySem.W.nsIn K mainGlobals "NAME_SIGNS" = some (some (.str (Str.ofString "abcdefghijklmnopqrstuvwxyz0123456789") tk0)))
  (e_LONGEST_NAME : PySem.W.nsIn K mainGlobals "LONGEST_NAME" = some (some (.int 12 tk1)))
  : ∃ fd : FuncData, (∀ (s : Shared) (v : Value), BindsTo s fd ⟨[v], []⟩ [("_law_script", v)]) ∧ ∀ base : Heap, K.In base → base.Ns mainGlobals mg → dE l.prog w K mg base jB 4 fa fd ["_law_script"] (BN K) := by
 have e := hfa.symm.trans (PySem.W.mg_of X G a16)
 cases e
 have F0 := fH (st := eN) l0 c0 k0
 have b0 := F0.binds (ps := ["above"]) fun _ _ _ _ _ _ us hl => match us, hl with | [_], _ => rfl
 have F1 := fH (st := eW) l1 c1 k1
 have b1 := F1.binds (ps := ["thing"]) fun _ _ _ _ _ _ us hl => match us, hl with | [_], _ => rfl
 have F2 := fH (st := iD) l2 c2 k2
 have b2 := F2.binds (ps := ["things"]) fun _ _ _ _ _ _ us hl => match us, hl with | [_], _ => rfl
 have F3 := fH (st := fP) l3 c3 k3
 have b3 := F3.binds (ps := ["thing"]) fun _ _ _ _ _ _ us hl => match us, hl with | [_], _ => rfl
 have F4 := fH (st := d8) l4 c4 k4
 have b4 := F4.binds (ps := ["marks"]) fun _ _ _ _ _ _ us hl => match us, hl with | [_], _ => rfl
 have F5 := fH (st := dU) l5 c5 k5
 have b5 := F5.binds (ps := ["thing"]) fun _ _ _ _ _ _ us hl => match us, hl with | [_], _ => rfl
 have F6 := fH (st := eG) l6 c6 k6
 have b6 := F6.binds (ps := ["_law_script", "_law_k"]) fun _ _ _ _ _ _ us hl => match us, hl with | [_, _], _ => rfl
 have F7 := fH (st := eQ) l7 c7 k7
 have b7 := F7.binds (ps := ["_law_hand_here", "_law_many"]) fun _ _ _ _ _ _ us hl => match us, hl with | [_, _], _ => rfl
 have F8 := fH (st := dD) l8 c8 k8
 have b8 := F8.binds (ps := ["_law_hand_here", "_law_many"]) fun _ _ _ _ _ _ us hl => match us, hl with | [_, _], _ => rfl
 have F9 := fH (st := d9) l9 c9 k9
 have b9 := F9.binds (ps := ["_law_thing"]) fun _ _ _ _ _ _ us hl => match us, hl with | [_], _ => rfl
 have F10 := fH (st := dO) l10 c10 k10
 have b10 := F10.binds (ps := ["_law_held_here"]) fun _ _ _ _ _ _ us hl => match us, hl with | [_], _ => rfl
 have F11 := fH (st := fM) l11 c11 k11
 have b11 := F11.binds (ps := ["_law_thing"]) fun _ _ _ _ _ _ us hl => match us, hl with | [_], _ => rfl
 have F12 := fH (st := eO) l12 c12 k12
 have b12 := F12.binds (ps := ["_law_hand_here", "_law_kind"]) fun _ _ _ _ _ _ us hl => match us, hl with | [_, _], _ => rfl
 have F13 := fH (st := fR) l13 c13 k13
 have b13 := F13.binds (ps := ["_law_hand_here", "_law_own"]) fun _ _ _ _ _ _ us hl => match us, hl with | [_, _], _ => rfl
 have F14 := fH (st := dP) l14 c14 k14
 have b14 := F14.binds (ps := ["_law_hand_here", "_law_pairs", "_law_kind"]) fun _ _ _ _ _ _ us hl => match us, hl with | [_, _, _], _ => rfl
 have F15 := fH (st := fL) l15 c15 k15
 have b15 := F15.binds (ps := ["_law_hand_here"]) fun _ _ _ _ _ _ us hl => match us, hl with | [_], _ => rfl
 have F16 := fH (st := iS) l16 c16 k16
 have b16 := F16.binds (ps := ["_law_script"]) fun _ _ _ _ _ _ us hl => match us, hl with | [_], _ => rfl
 have T : Txt K mg (fun i => ([f0, f1, f2, f3, f4, f5, f6, f7, f8, f9, f10, f11, f12, f13, f14, f15, fa] : List Addr).getD i 0) (fun i => ([PySem.W.fnOf "rings_in" "rings_in" (bK eN) (bJ eN) (aL eN) .none kV0 dc0 pm0 an0 cd0 ct0, PySem.W.fnOf "is_name" "is_name" (bK eW) (bJ eW) (aL eW) .none kV1 dc1 pm1 an1 cd1 ct1, PySem.W.fnOf "rises" "rises" (bK iD) (bJ iD) (aL iD) .none kV2 dc2 pm2 an2 cd2 ct2, PySem.W.fnOf "is_mark" "is_mark" (bK fP) (bJ fP) (aL fP) .none kV3 dc3 pm3 an3 cd3 ct3, PySem.W.fnOf "has_ring" "has_ring" (bK d8) (bJ d8) (aL d8) .none kV4 dc4 pm4 an4 cd4 ct4, PySem.W.fnOf "is_marks" "is_marks" (bK dU) (bJ dU) (aL dU) .none kV5 dc5 pm5 an5 cd5 ct5, PySem.W.fnOf "_law_hand" "_law_hand" (bK eG) (bJ eG) (aL eG) .none kV6 dc6 pm6 an6 cd6 ct6, PySem.W.fnOf "_law_take" "_law_take" (bK eQ) (bJ eQ) (aL eQ) .none kV7 dc7 pm7 an7 cd7 ct7, PySem.W.fnOf "_law_names" "_law_names" (bK dD) (bJ dD) (aL dD) .none kV8 dc8 pm8 an8 cd8 ct8, PySem.W.fnOf "_law_name" "_law_name" (bK d9) (bJ d9) (aL d9) .none kV9 dc9 pm9 an9 cd9 ct9, PySem.W.fnOf "_law_rounds" "_law_rounds" (bK dO) (bJ dO) (aL dO) .none kV10 dc10 pm10 an10 cd10 ct10, PySem.W.fnOf "_law_due" "_law_due" (bK fM) (bJ fM) (aL fM) .none kV11 dc11 pm11 an11 cd11 ct11, PySem.W.fnOf "_law_held" "_law_held" (bK eO) (bJ eO) (aL eO) .none kV12 dc12 pm12 an12 cd12 ct12, PySem.W.fnOf "_law_bad" "_law_bad" (bK fR) (bJ fR) (aL fR) .none kV13 dc13 pm13 an13 cd13 ct13, PySem.W.fnOf "_law_spoilt" "_law_spoilt" (bK dP) (bJ dP) (aL dP) .none kV14 dc14 pm14 an14 cd14 ct14, PySem.W.fnOf "_law_any" "_law_any" (bK fL) (bJ fL) (aL fL) .none kV15 dc15 pm15 an15 cd15 ct15, PySem.W.fnOf "law" "law" (bK iS) (bJ iS) (aL iS) .none kV16 dc16 pm16 an16 cd16 ct16] : List FuncData).getD i (PySem.W.fnOf "law" "law" (bK iS) (bJ iS) (aL iS) .none kV16 dc16 pm16 an16 cd16 ct16)) (fun i => ([0, 0] : List Addr).getD i 0) (fun i => ([.str (Str.ofString "abcdefghijklmnopqrstuvwxyz0123456789") tk0, .int 12 tk1] : List Value).getD i .none) := ⟨⟨F0, PySem.W.mg_of X G a0, b0⟩, ⟨F1, PySem.W.mg_of X G a1, b1⟩, ⟨F2, PySem.W.mg_of X G a2, b2⟩, ⟨F3, PySem.W.mg_of X G a3, b3⟩, ⟨F4, PySem.W.mg_of X G a4, b4⟩, ⟨F5, PySem.W.mg_of X G a5, b5⟩, ⟨F6, PySem.W.mg_of X G a6, b6⟩, ⟨F7, PySem.W.mg_of X G a7, b7⟩, ⟨F8, PySem.W.mg_of X G a8, b8⟩, ⟨F9, PySem.W.mg_of X G a9, b9⟩, ⟨F10, PySem.W.mg_of X G a10, b10⟩, ⟨F11, PySem.W.mg_of X G a11, b11⟩, ⟨F12, PySem.W.mg_of X G a12, b12⟩, ⟨F13, PySem.W.mg_of X G a13, b13⟩, ⟨F14, PySem.W.mg_of X G a14, b14⟩, ⟨F15, PySem.W.mg_of X G a15, b15⟩, ⟨F16, PySem.W.mg_of X G a16, b16⟩, PySem.W.mg_none_of X G fU, PySem.W.mg_none_of X G nM, PySem.W.mg_none_of X G cH, PySem.W.mg_none_of X G n6, PySem.W.mg_none_of X G fQ, PySem.W.mg_none_of X G gE, PySem.W.mg_none_of X G jW, PySem.W.mg_none_of X G wZ, PySem.W.mg_none_of X G xU, PySem.W.mg_none_of X G yQ, PySem.W.mg_none_of X G qR, PySem.W.mg_none_of X G rA, PySem.W.mg_of X G e_NAME_SIGNS, ⟨_, rfl⟩, PySem.W.mg_of X G e_LONGEST_NAME, ⟨_, rfl⟩⟩
 refine ⟨PySem.W.fnOf "law" "law" (bK iS) (bJ iS) (aL iS) .none kV16 dc16 pm16 an16 cd16 ct16, fun s v => .of_eq rfl, fun base _ _ => ?_⟩
 have G_rings_in := xA (P := l.prog) (w := w) (base := base) T
 have G_is_name := AB (P := l.prog) (w := w) (base := base) T
 have G_rises := GU (P := l.prog) (w := w) (base := base) T
 have G_law_hand := yM (P := l.prog) (w := w) (base := base) T
 have G_law_take := xD (P := l.prog) (w := w) (base := base) T
 have G_law_name := x8 (P := l.prog) (w := w) (base := base) T
 have G_law_rounds := tH (P := l.prog) (w := w) (base := base) T
 have G_is_mark := z4 (P := l.prog) (w := w) (base := base) T G_is_name
 have G_has_ring := w4 (P := l.prog) (w := w) (base := base) T G_rings_in
 have G_law_names := uT (P := l.prog) (w := w) (base := base) T G_law_take
 have G_law_due := AN (P := l.prog) (w := w) (base := base) T G_law_rounds G_law_name
 have G_law_bad := AO (P := l.prog) (w := w) (base := base) T G_law_take
 have G_law_any := zA (P := l.prog) (w := w) (base := base) T G_law_take
 have G_is_marks := yG (P := l.prog) (w := w) (base := base) T G_rises G_has_ring G_is_mark
 have G_law_held := xG (P := l.prog) (w := w) (base := base) T G_law_names G_law_take
 have G_law_spoilt := tD (P := l.prog) (w := w) (base := base) T G_law_take G_law_bad
 have G_law := Q6 (P := l.prog) (w := w) (base := base) T G_law_hand G_law_take G_law_held G_law_any G_law_spoilt G_law_due G_is_marks
 exact G_law.imp fun vs H Q E h => KJ GB h
theorem walk {l : PySem.W.OpenLaw} {q : Program} {loose : List Str} {XP : (Str → Option Value) → Heap → Prop} {YP : World → Heap → Prop} {d : DefRec} {K : Params → PySem.W.Frag} (hn : l.most = some 63) (hdf : d.params.defaults = [])
  (hY : ∀ (w : World) (h : Heap), YP w h → (K w.params).In h)
  (F : ∀ (w : World) (mg : Str → Option Value) (fa : Addr) (h : Heap), (K w.params).In h → h.Ns mainGlobals mg → mg d.name = some (.ref fa) →
   ∃ fd : FuncData, (∀ (s : Shared) (u : Value), BindsTo s fd ⟨[u], []⟩ [("_law_script", u)]) ∧ ∀ base : Heap, (K w.params).In base → base.Ns mainGlobals mg → dE l.prog w (K w.params) mg base jB 4 fa fd ["_law_script"] (BN (K w.params))) :
  PySem.W.WalkO q loose XP YP l.row.toRowW d [] (fun f vs => PySem.call f vs) :=
 L2.MI (n := 63) (k := 4) (x := "_law_script") (CX := fun _ => jB) (sp := fun w => BN (K w.params)) hn (by decide) hdf ⟨rfl, by decide, by decide⟩ hY F (fun _ _ a ns hl _ hS => ⟨a, ns, rfl, hS, hl, fun _ => rfl⟩) fun _ _ _ _ _ z => z
end My
open PySem PySem.W PyProof.Rows
set_option maxRecDepth 100000 in
set_option maxHeartbeats 0 in
theorem PySem.Challenge.cw_answertrees_k13_what_are_marks_holds : PySem.Challenge.rw_answertrees_k13_what_are_marks.Holds := by
 w_on; o_law; k_head; (case hw => w_witness2)
 k_fill
 refine My.walk (l := PySem.Challenge.rw_answertrees_k13_what_are_marks) rfl rfl (fun w h Y => PySem.W.kIn_of Y) ?F
 case F =>
  intro w mg fa h KX G hmg
  refine' My.all_mk KX G hmg ?a0 ?l0 ?c0 ?k0 ?a1 ?l1 ?c1 ?k1 ?a2 ?l2 ?c2 ?k2 ?a3 ?l3 ?c3 ?k3 ?a4 ?l4 ?c4 ?k4 ?a5 ?l5 ?c5 ?k5 ?a6 ?l6 ?c6 ?k6 ?a7 ?l7 ?c7 ?k7 ?a8 ?l8 ?c8 ?k8 ?a9 ?l9 ?c9 ?k9 ?a10 ?l10 ?c10 ?k10 ?a11 ?l11 ?c11 ?k11 ?a12 ?l12 ?c12 ?k12 ?a13 ?l13 ?c13 ?k13 ?a14 ?l14 ?c14 ?k14 ?a15 ?l15 ?c15 ?k15 ?a16 ?l16 ?c16 ?k16 ?fU ?nM ?cH ?n6 ?fQ ?gE ?jW ?wZ ?xU ?yQ ?qR ?rA ?e_NAME_SIGNS ?e_LONGEST_NAME
  (case a0 => k_is)
  (case l0 => k_is)
  (case c0 => k_is)
  (case k0 => k_is)
  (case a1 => k_is)
  (case l1 => k_is)
  (case c1 => k_is)
  (case k1 => k_is)
  (case a2 => k_is)
  (case l2 => k_is)
  (case c2 => k_is)
  (case k2 => k_is)
  (case a3 => k_is)
  (case l3 => k_is)
  (case c3 => k_is)
  (case k3 => k_is)
  (case a4 => k_is)
  (case l4 => k_is)
  (case c4 => k_is)
  (case k4 => k_is)
  (case a5 => k_is)
  (case l5 => k_is)
  (case c5 => k_is)
  (case k5 => k_is)
  (case a6 => k_is)
  (case l6 => k_is)
  (case c6 => k_is)
  (case k6 => k_is)
  (case a7 => k_is)
  (case l7 => k_is)
  (case c7 => k_is)
  (case k7 => k_is)
  (case a8 => k_is)
  (case l8 => k_is)
  (case c8 => k_is)
  (case k8 => k_is)
  (case a9 => k_is)
  (case l9 => k_is)
  (case c9 => k_is)
  (case k9 => k_is)
  (case a10 => k_is)
  (case l10 => k_is)
  (case c10 => k_is)
  (case k10 => k_is)
  (case a11 => k_is)
  (case l11 => k_is)
  (case c11 => k_is)
  (case k11 => k_is)
  (case a12 => k_is)
  (case l12 => k_is)
  (case c12 => k_is)
  (case k12 => k_is)
  (case a13 => k_is)
  (case l13 => k_is)
  (case c13 => k_is)
  (case k13 => k_is)
  (case a14 => k_is)
  (case l14 => k_is)
  (case c14 => k_is)
  (case k14 => k_is)
  (case a15 => k_is)
  (case l15 => k_is)
  (case c15 => k_is)
  (case k15 => k_is)
  (case a16 => k_is)
  (case l16 => k_is)
  (case c16 => k_is)
  (case k16 => k_is)
  (case fU => k_is)
  (case nM => k_is)
  (case cH => k_is)
  (case n6 => k_is)
  (case fQ => k_is)
  (case gE => k_is)
  (case jW => k_is)
  (case wZ => k_is)
  (case xU => k_is)
  (case yQ => k_is)
  (case qR => k_is)
  (case rA => k_is)
  (case e_NAME_SIGNS => k_is)
  (case e_LONGEST_NAME => k_is)
#print axioms PySem.Challenge.cw_answertrees_k13_what_are_marks_holds
