import PyProof.Rows.All
import Wide.All
import OpenK.AllK
import Wide.FinOn
import Lean
import PyProof.EqAt
import PyProof.EqKinds
import PyProof.TupleCall
import PySem.Challenge.RW_answertrees_k17_chosen_by_its_own
set_option compiler.extract_closed false
set_option Elab.async false
set_option linter.all false
set_option maxRecDepth 100000
namespace L2
open PySem PySem.Spec PyProof.Rows
noncomputable abbrev Key := Sum Int Str
noncomputable def mE : Key → Value → Bool
 | .inl k, v => Value.isInt k v
 | .inr x, v => Value.isStrOf x v
noncomputable def VN (w : World) : Key → Int
 | .inl k => hashInt k
 | .inr x => hashStr w x
theorem cW : ∀ {k : Key} {v : Value}, mE k v = true → (∃ i t, k = Sum.inl i ∧ v = Value.int i t) ∨ (∃ x t, k = Sum.inr x ∧ v = Value.str x t)
 | .inl i, v, h => by
  obtain ⟨t, e⟩ := Value.isInt_shape (k := i) (v := v) h
  exact .inl ⟨i, t, rfl, e⟩
 | .inr x, v, h => by
  obtain ⟨t, e⟩ := Value.isStrOf_shape (x := x) (v := v) h
  exact .inr ⟨x, t, rfl, e⟩
theorem DG (i : Int) (t : Tok) : mE (.inl i) (.int i t) = true := by simp [mE, Value.isInt]
theorem CJ (x : Str) (t : Tok) : mE (.inr x) (.str x t) = true := by simp [mE, Value.isStrOf]
theorem NW (a b : Int) : decide ((Sum.inl a : Key) = Sum.inl b) = (a == b) := by
 by_cases e : a = b
 ·subst e; simp
 ·have h : ¬ (Sum.inl a : Key) = Sum.inl b := fun q => e (Sum.inl.inj q)
  rw [decide_eq_false h]
  exact (beq_eq_false_iff_ne.mpr e).symm
theorem P6 (a b : Str) : decide ((Sum.inr a : Key) = Sum.inr b) = decide (a = b) := by
 by_cases e : a = b
 ·subst e; simp
 ·have h : ¬ (Sum.inr a : Key) = Sum.inr b := fun q => e (Sum.inr.inj q)
  rw [decide_eq_false h, decide_eq_false e]
theorem QW (a : Int) (b : Str) : decide ((Sum.inl a : Key) = Sum.inr b) = false := decide_eq_false (fun q => nomatch q)
theorem P4 (a : Str) (b : Int) : decide ((Sum.inr a : Key) = Sum.inl b) = false := decide_eq_false (fun q => nomatch q)
noncomputable def cM (prog : Program) (w : World) : PySem.KeyKind prog w Key where
 is := mE
 hash := VN w
 inj := fun v a b ha hb => by
  rcases cW ha with ⟨i, t, rfl, rfl⟩ | ⟨x, t, rfl, rfl⟩
  ·rcases cW hb with ⟨j, u, rfl, e⟩ | ⟨y, u, rfl, e⟩
   ·injection e with e1 _; rw [e1]
   ·exact nomatch e
  ·rcases cW hb with ⟨j, u, rfl, e⟩ | ⟨y, u, rfl, e⟩
   ·exact nomatch e
   ·injection e with e1 _; rw [e1]
 byValue := fun k v h => by
  rcases cW h with ⟨i, t, rfl, rfl⟩ | ⟨x, t, rfl, rfl⟩ <;> rfl
 pyHash := fun hv h => by
  rcases cW hv with ⟨i, t, rfl, rfl⟩ | ⟨x, t, rfl, rfl⟩
  ·exact wpAny_pyHash_int h
  ·exact wpAny_pyHash_str h
 eqBool := fun hu hv h => by
  rcases cW hu with ⟨i, t, rfl, rfl⟩ | ⟨x, t, rfl, rfl⟩
  ·rcases cW hv with ⟨j, u, rfl, rfl⟩ | ⟨y, u, rfl, rfl⟩
   ·rw [NW] at h; exact wpAny_eqBool_int h
   ·rw [QW] at h; exact SeqAt.EqAt.int_str i t y u _ _ _ _ h
  ·rcases cW hv with ⟨j, u, rfl, rfl⟩ | ⟨y, u, rfl, rfl⟩
   ·rw [P4] at h; exact SeqAt.EqAt.str_int x t j u _ _ _ _ h
   ·rw [P6] at h; exact wpAny_eqBool_str h
 «strs» := fun k x t v h => by
  rcases cW h with ⟨i, u, rfl, e⟩ | ⟨y, u, rfl, e⟩
  ·exact nomatch e
  ·injection e with e1 _
   subst e1
   cases v <;> rfl
theorem yS (prog : Program) (w : World) (i : Int) (t : Tok) : (cM prog w).is (.inl i) (.int i t) = true := DG i t
theorem yU (prog : Program) (w : World) (x : Str) (t : Tok) : (cM prog w).is (.inr x) (.str x t) = true := CJ x t
end L2
namespace L2
open PySem PySem.Spec PyProof.Rows
inductive V where
 | bJ | bl (b : Bool) | int (i : Int) | str (x : Str) | SI (b : Array UInt8) | RY (b : UInt64) | ref (a : Addr) | ty (n : String)
 deriving DecidableEq
noncomputable def RelV : V → Value → Prop
 | .bJ, u => u = Value.none
 | .bl b, u => u = Value.bool b
 | .int i, u => ∃ t, u = Value.int i t
 | .str x, u => ∃ t, u = Value.str x t
 | .SI b, u => ∃ t, u = Value.bytes b t
 | .RY b, u => ∃ t, u = Value.float b t
 | .ref a, u => u = Value.ref a
 | .ty n, u => u = Value.type n
noncomputable abbrev Vals : List V → List Value → Prop := Paired RelV
theorem Vals.length {xs : List V} {us : List Value} (r : Vals xs us) : xs.length = us.length := Paired.length r
theorem Vals.get : ∀ {xs : List V} {us : List Value} {i : Nat} {x : V}, Vals xs us → xs[i]? = some x → ∃ u, us[i]? = some u ∧ RelV x u
 | _, _, _, _, .nil, e => by simp at e
 | _, _, 0, _, .cons r _, e => by simp at e; subst e; exact ⟨_, rfl, r⟩
 | _, _, i + 1, x, .cons _ t, e => by
  obtain ⟨u, h1, h2⟩ := Vals.get (i := i) (x := x) t (by simpa using e)
  exact ⟨u, by simpa using h1, h2⟩
theorem Vals.set {x : V} {u : Value} (r : RelV x u) : ∀ {xs : List V} {us : List Value} (i : Nat), Vals xs us → Vals (xs.set i x) (us.set i u)
 | _, _, _, .nil => .nil
 | _, _, 0, .cons _ t => .cons r t
 | _, _, i + 1, .cons q t => .cons q (Vals.set r i t)
theorem Vals.append : ∀ {xs ys : List V} {us ws : List Value}, Vals xs us → Vals ys ws → Vals (xs ++ ys) (us ++ ws)
 | _, _, _, _, .nil, s => s
 | _, _, _, _, .cons r t, s => .cons r (Vals.append t s)
theorem Vals.take : ∀ {xs : List V} {us : List Value} (n : Nat), Vals xs us → Vals (xs.take n) (us.take n)
 | _, _, 0, _ => .nil
 | _, _, _ + 1, .nil => .nil
 | _, _, n + 1, .cons r t => .cons r (Vals.take n t)
theorem Vals.drop : ∀ {xs : List V} {us : List Value} (n : Nat), Vals xs us → Vals (xs.drop n) (us.drop n)
 | _, _, 0, r => r
 | _, _, _ + 1, .nil => .nil
 | _, _, n + 1, .cons _ t => Vals.drop n t
noncomputable def qC : Option V → Option Value → Prop
 | some v, some u => RelV v u
 | none, none => True
 | _, _ => False
noncomputable def KV {κ : Type} : List (κ × V) → List (κ × Value) → Prop := Paired fun (p : κ × V) (q : κ × Value) => p.1 = q.1 ∧ RelV p.2 q.2
noncomputable def kV : Key → V
 | .inl i => .int i
 | .inr x => .str x
inductive HO where
 | lst (xs : List V)
 | tup (xs : List V)
 | dK (kvs : List (Key × V)) | dT (kvs : List (List Key × V))
 | set (S : Int → Bool) (n : Nat)
 | ins (C dx : Addr) (fs : List (Str × V))
 | own (x : Addr)
 | xd (fs : List (Str × V))
 | met (f x : Addr)
 | V0 (lo hi : Int)
 | D5 (o : Obj) (u : HO)
 | NS (ps : Array Value)
 | ext (φ : Heap → Prop)
noncomputable abbrev Hp := Addr → Option HO
noncomputable def upd (H : Hp) (a : Addr) (o : HO) : Hp := fun b => if b = a then some o else H b
theorem bG {H : Hp} {a : Addr} {o : HO} : upd H a o a = some o := by unfold upd; rw [if_pos rfl]
theorem aX {H : Hp} {a b : Addr} {o : HO} (h : b ≠ a) : upd H a o b = H b := by unfold upd; rw [if_neg h]
theorem HN {H : Hp} {a b : Addr} {o u : HO} (h : H a = some o) (h' : H b = some u) (d : o ≠ u) : a ≠ b := by
 intro e; subst e; rw [h] at h'; exact d (Option.some.inj h')
theorem cQ {H : Hp} {a b : Addr} {o : HO} (h : H a = some o) (h' : H b = none) : a ≠ b := by
 intro e; subst e; rw [h] at h'; cases h'
section
variable (P : Program) (w : World)
noncomputable def eY (H : Hp) (h : Heap) (a : Addr) : HO → Prop
 | .lst xs => xs.length ≤ sizeLine ∧ ∃ (its : List Value) (n : Nat), Vals xs its ∧ h.get? a = some { cls := .type "list", data := .seq its.toArray n }
 | .tup xs => xs.length ≤ sizeLine ∧ ∃ its : List Value, Vals xs its ∧ IsTup h a its.toArray
 | .dK kvs => kvs.length ≤ sizeLine ∧ (a == sysModules) = false ∧ ∃ vs, KV kvs vs ∧ h.DictOf (cM P w) a vs
 | .dT kvs => kvs.length ≤ sizeLine ∧ (a == sysModules) = false ∧ ∃ xs : List (List Key × Addr × Value),
   Paired (fun (p : List Key × V) (q : List Key × Addr × Value) => p.1 = q.1 ∧ H q.2.1 = some (.tup (p.1.map kV)) ∧ RelV p.2 q.2.2) kvs xs ∧
   ∃ o es ep, h.get? a = some o ∧ o.ExactDict ∧ o.data = .dict es ep ∧ es.toList = xs.map (entryOfKey (tupleKind (cM P w))) ∧ (xs.map (·.1)).Nodup
 | .set S n => h.SetOf (intKind P w) a S n
 | .ins C dx fs => H dx = some (.own a) ∧ fs.length ≤ 1000 ∧ dx ≠ a ∧ h.get? a = some (PySem.W.instObj C dx) ∧
   ∃ mA, h.Ns1 dx mA ∧ (∀ f, qC (fs.lookup f) (mA f)) ∧ PySem.Within mA (fs.map (·.1))
 | .own _ => ∃ o, h.get? a = some o
 | .xd fs => ∃ mA, h.Ns1 a mA ∧ ∀ f, qC (fs.lookup f) (mA f)
 | .V0 lo hi => ∃ t u v, h.get? a = some { cls := .type "range", data := .fields #[.int lo t, .int hi u, .int 1 v] }
 | .D5 o u => h.get? a = some o ∧ eY H h a u
 | .NS ps => h.get? a = some { cls := .none, data := .fields ps }
 | .met f x => h.get? a = some (PySem.W.methodObj (.ref f) (.ref x))
 | .ext φ => φ h ∧ (∃ o, h.get? a = some o) ∧ ∀ h1 h2 : Heap, φ h1 → (∀ o, h1.get? a = some o → h2.get? a = some o) → φ h2
noncomputable def mJ (H : Hp) (h : Heap) : Prop := ∀ a o, H a = some o → eY P w H h a o
end
section
variable {P : Program} {w : World} {H H' : Hp} {h h' : Heap} {a : Addr} {o : HO}
theorem eY.lt (x : eY P w H h a o) : a < h.objs.size := by
 cases o with
 | lst xs => obtain ⟨_, _, _, _, e⟩ := x; exact Heap.lt_size e
 | tup xs => obtain ⟨_, _, _, p⟩ := x; exact p.lt
 | dK kvs => obtain ⟨_, _, _, _, o, _, _, e, _⟩ := x; exact Heap.lt_size e
 | dT kvs => obtain ⟨_, _, _, _, o, _, _, e, _⟩ := x; exact Heap.lt_size e
 | set S n => obtain ⟨o, _, _, _, e, _⟩ := x; exact Heap.lt_size e
 | ins C dx fs => obtain ⟨_, _, _, e, _⟩ := x; exact Heap.lt_size e
 | own y => obtain ⟨_, e⟩ := x; exact Heap.lt_size e
 | xd fs => obtain ⟨_, ⟨_, _, _, e, _⟩, _⟩ := x; exact Heap.lt_size e
 | V0 lo hi => obtain ⟨_, _, _, e⟩ := x; exact Heap.lt_size e
 | D5 ob u => obtain ⟨e, _⟩ := x; exact Heap.lt_size e
 | NS ps => exact Heap.lt_size (show h.get? a = some _ from x)
 | met f y => exact Heap.lt_size (show h.get? a = some _ from x)
 | ext φ => obtain ⟨_, ⟨_, e⟩, _⟩ := x; exact Heap.lt_size e
theorem Paired.NF {α β : Type} {F G : α → β → Prop} : ∀ {l₁ : List α} {l₂ : List β}, Paired F l₁ l₂ → (∀ a b, F a b → G a b) → Paired G l₁ l₂
 | _, _, .nil, _ => .nil
 | _, _, .cons r t, f => .cons (f _ _ r) (Paired.NF t f)
theorem eY.aP (x : eY P w H h a o) (k : ∀ b u, (b = a ∨ H b = some (.own a)) → h.get? b = some u → h'.get? b = some u)
  (ho : ∀ b, H b = some (.own a) → H' b = some (.own a)) (ht : ∀ b xs, H b = some (.tup xs) → H' b = some (.tup xs)) : eY P w H' h' a o := by
 induction o with
 | lst xs => obtain ⟨z, its, n, r, e⟩ := x; exact ⟨z, its, n, r, k _ _ (.inl rfl) e⟩
 | tup xs => obtain ⟨z, its, r, ob, e, c⟩ := x; exact ⟨z, its, r, ob, k _ _ (.inl rfl) e, c⟩
 | dK kvs => obtain ⟨z, y, vs, r, ob, es, ep, e, c⟩ := x; exact ⟨z, y, vs, r, ob, es, ep, k _ _ (.inl rfl) e, c⟩
 | dT kvs =>
  obtain ⟨z, y, xs, r, ob, es, ep, e, c⟩ := x
  exact ⟨z, y, xs, Paired.NF r fun p q z => ⟨z.1, ht _ _ z.2.1, z.2.2⟩, ob, es, ep, k _ _ (.inl rfl) e, c⟩
 | set S n => obtain ⟨ob, es, ep, t, e, c⟩ := x; exact ⟨ob, es, ep, t, k _ _ (.inl rfl) e, c⟩
 | ins C dx fs =>
  obtain ⟨d, z, ne, e, mA, ⟨od, es, ep, e2, c⟩, r⟩ := x
  exact ⟨ho _ d, z, ne, k _ _ (.inl rfl) e, mA, ⟨od, es, ep, k _ _ (.inr d) e2, c⟩, r⟩
 | own y => obtain ⟨ob, e⟩ := x; exact ⟨ob, k _ _ (.inl rfl) e⟩
 | xd fs => obtain ⟨mA, ⟨od, es, ep, e, c⟩, r⟩ := x; exact ⟨mA, ⟨od, es, ep, k _ _ (.inl rfl) e, c⟩, r⟩
 | V0 lo hi => obtain ⟨t, u, v, e⟩ := x; exact ⟨t, u, v, k _ _ (.inl rfl) e⟩
 | D5 ob u ih => obtain ⟨e, q⟩ := x; exact ⟨k _ _ (.inl rfl) e, ih q⟩
 | NS ps =>
  have e : h.get? a = some { cls := .none, data := .fields ps } := x
  show h'.get? a = some { cls := .none, data := .fields ps }
  exact k a _ (.inl rfl) e
 | met f y =>
  have e : h.get? a = some (PySem.W.methodObj (.ref f) (.ref y)) := x
  show h'.get? a = some (PySem.W.methodObj (.ref f) (.ref y))
  exact k a _ (.inl rfl) e
 | ext φ => obtain ⟨p, ⟨o, e⟩, st⟩ := x; exact ⟨st _ _ p fun o q => k _ _ (.inl rfl) q, ⟨o, k _ _ (.inl rfl) e⟩, st⟩
theorem mJ.lt (x : mJ P w H h) (e : H a = some o) : a < h.objs.size := (x a o e).lt
theorem mJ.fresh (x : mJ P w H h) (e : h.objs.size ≤ a) : H a = none := by
 cases q : H a with
 | none => rfl
 | some u => exact absurd (Nat.lt_of_lt_of_le (x.lt q) e) (Nat.lt_irrefl _)
theorem mJ.kept (x : mJ P w H h) (k : ∀ b u, h.get? b = some u → h'.get? b = some u) : mJ P w H h' := fun a o e =>
 (x a o e).aP (fun b u _ q => k b u q) (fun _ q => q) fun _ _ q => q
theorem mJ.laid (x : mJ P w H h) (k : ∀ b u, h.get? b = some u → h'.get? b = some u) (hp : h.objs.size ≤ a) (new : eY P w (upd H a o) h' a o) : mJ P w (upd H a o) h' := fun b u e => by
 have hn := x.fresh hp
 by_cases hb : b = a
 ·subst hb; rw [bG] at e; cases e; exact new
 ·rw [aX hb] at e
  exact (x b u e).aP (fun c v _ q => k c v q) (fun c q => by rw [aX (cQ q hn)]; exact q) fun c xs q => by rw [aX (cQ q hn)]; exact q
end
noncomputable def Rd (H : Hp) (a : Addr) (u : HO) : Prop := H a = some u ∨ ∃ o, H a = some (.D5 o u)
theorem Rd.ok {P : Program} {w : World} {H : Hp} {h : Heap} {a : Addr} {u : HO} (r : Rd H a u) (x : mJ P w H h) : eY P w H h a u := by
 rcases r with r | ⟨o, r⟩
 ·exact x a u r
 ·obtain ⟨_, q⟩ := x a _ r
  exact q
noncomputable def TM : Option HO → Prop
 | some (.lst _) => True
 | some (.dK _) => True
 | some (.dT _) => True
 | some (.set _ _) => True
 | some (.ins _ _ _) => True
 | some (.ext _) => True
 | _ => False
section
variable {P : Program} {w : World} {H : Hp} {h h' : Heap} {x e : Addr} {o' : HO}
theorem mJ.write (ok : mJ P w H h) (mu : TM (H x)) (he : e = x ∨ H e = some (.own x)) (k : ∀ b u, b ≠ e → h.get? b = some u → h'.get? b = some u) (heo : ∃ u, h'.get? e = some u)
  (new : eY P w (upd H x o') h' x o') : mJ P w (upd H x o') h' := fun b u q => by
 have nown : ∀ c y, H c = some (.own y) → c ≠ x := fun c y r z => by subst z; rw [r] at mu; exact mu
 have ntup : ∀ c xs, H c = some (.tup xs) → c ≠ x := fun c xs r z => by subst z; rw [r] at mu; exact mu
 by_cases hb : b = x
 ·subst hb; rw [bG] at q; cases q; exact new
 ·rw [aX hb] at q
  by_cases hbe : b = e
  ·have q' : H b = some (.own x) := by
    rcases he with z | z
    ·exact absurd (hbe.trans z) hb
    ·rw [hbe]; exact z
   rw [q] at q'; cases q'
   obtain ⟨v, hv⟩ := heo
   exact ⟨v, by rw [hbe]; exact hv⟩
  ·refine (ok b u q).aP (fun c v hc r => k c v ?_ r) (fun c r => by rw [aX (nown c b r)]; exact r) fun c xs r => by rw [aX (ntup c xs r)]; exact r
   rcases hc with rfl | hc
   ·exact hbe
   ·rintro rfl
    rcases he with z | z
    ·exact nown c b hc z
    ·rw [hc] at z; cases z; exact hb rfl
end
structure Un (fs ex : List Addr) (H H' : Hp) (h h' : Heap) : Prop where
 keep : ∀ b o, h.get? b = some o → H b = none → b ∉ fs → b ∉ ex → h'.get? b = some o
 slot : ∀ b o, h.get? b = some o → H b = none → b ∈ fs → b ∉ ex → ∃ sl, h'.get? b = some { o with slots := sl }
 free : ∀ b o, h.get? b = some o → H b = none → b ∉ ex → H' b = none
 there : ∀ b o, h.get? b = some o → b ∉ ex → ∃ o', h'.get? b = some o'
 tE : ∀ b xs, H b = some (.tup xs) → H' b = some (.tup xs)
 qP : ∀ b o u, H b = some (.D5 o u) → H' b = some (.D5 o u)
 sV : ∀ b ps, H b = some (.NS ps) → ∃ more, H' b = some (.NS (ps ++ more))
section
variable {fs fs' ex ex' : List Addr} {H H1 H2 : Hp} {h h1 h2 h' : Heap} {a x e : Addr} {o : HO}
theorem Un.any (u : Un fs ex H H1 h h1) {b : Addr} {ob : Obj} (q : h.get? b = some ob) (n : H b = none) (hx : b ∉ ex) : ∃ sl, h1.get? b = some { ob with slots := sl } := by
 by_cases hb : b ∈ fs
 ·exact u.slot b ob q n hb hx
 ·exact ⟨ob.slots, u.keep b ob q n hb hx⟩
theorem Un.kept (k : ∀ b u, h.get? b = some u → h'.get? b = some u) : Un fs ex H H h h' :=
 ⟨fun b ob q _ _ _ => k b ob q, fun b ob q _ _ _ => ⟨ob.slots, k b ob q⟩, fun _ _ _ n _ => n, fun b ob q _ => ⟨ob, k b ob q⟩, fun _ _ q => q, fun _ _ _ q => q, fun _ ps q => ⟨#[], by rw [q]; simp⟩⟩
theorem Un.refl : Un fs ex H H h h := Un.kept fun _ _ q => q
theorem Un.laid (k : ∀ b u, h.get? b = some u → h'.get? b = some u) (hp : h.objs.size ≤ a) (hn : H a = none) : Un fs ex H (upd H a o) h h' where
 keep := fun b u q _ _ _ => k b u q
 slot := fun b u q _ _ _ => ⟨u.slots, k b u q⟩
 free := fun b u q n _ => by rw [aX (Nat.ne_of_lt (Nat.lt_of_lt_of_le (Heap.lt_size q) hp))]; exact n
 there := fun b u q _ => ⟨u, k b u q⟩
 tE := fun b xs q => by rw [aX (cQ q hn)]; exact q
 qP := fun b u xs q => by rw [aX (cQ q hn)]; exact q
 sV := fun b ps q => ⟨#[], by rw [aX (cQ q hn), q]; simp⟩
theorem Un.write (mu : TM (H x)) (he : e = x ∨ H e = some (.own x)) (k : ∀ b u, b ≠ e → h.get? b = some u → h'.get? b = some u) (heo : ∃ u, h'.get? e = some u) : Un fs ex H (upd H x o) h h' := by
 have hx : ∀ b, H b = none → b ≠ x := fun b n z => by subst z; rw [n] at mu; exact mu
 have hb : ∀ b, H b = none → b ≠ e := fun b n z => by
  subst z
  rcases he with r | r
  ·exact hx b n r
  ·rw [n] at r; cases r
 have hm : ∀ b u, H b = some u → ¬ TM (some u) → b ≠ x := fun b u q nm z => by subst z; rw [q] at mu; exact nm mu
 refine ⟨fun b u q n _ _ => k b u (hb b n) q, fun b u q n _ _ => ⟨u.slots, k b u (hb b n) q⟩, fun b u q n _ => by rw [aX (hx b n)]; exact n, fun b u q _ => ?_,
  fun b xs q => by rw [aX (hm b _ q fun z => z)]; exact q, fun b u xs q => by rw [aX (hm b _ q fun z => z)]; exact q, fun b ps q => ⟨#[], by rw [aX (hm b _ q fun z => z), q]; simp⟩⟩
 by_cases hbe : b = e
 ·subst hbe; exact heo
 ·exact ⟨u, k b u hbe q⟩
end
noncomputable def UQ (h : Heap) (H : Hp) : List Addr := (List.range h.objs.size).filter fun a => (H a).isSome
noncomputable def vC (h : Heap) (H : Hp) : Heap := PySem.W.hideAll h (UQ h H)
theorem C2 (h : Heap) (H : Hp) : (vC h H).objs.size = h.objs.size := PySem.W.hideAll_size _ _
theorem EO {h : Heap} {H : Hp} {b : Addr} {o : Obj} (e : h.get? b = some o) (n : H b = none) : (vC h H).get? b = some o :=
 PySem.W.hideAll_get _ e fun hm => by
  have q : (H b).isSome = true := (List.mem_filter.mp hm).2
  rw [n] at q; simp at q
theorem LY {h : Heap} {H : Hp} {b : Addr} {o : Obj} (e : (vC h H).get? b = some o) : h.get? b = some o ∧ H b = none := by
 have e' : h.get? b = some o := PySem.W.of_hideAll (UQ h H) e
 refine ⟨e', ?_⟩
 cases q : H b with
 | none => rfl
 | some x =>
  have hm : b ∈ UQ h H := List.mem_filter.mpr ⟨List.mem_range.mpr (Heap.lt_size e'), by simp [q]⟩
  have z : (vC h H).get? b = none := PySem.W.hideAll_none (UQ h H) hm
  rw [z] at e; cases e
noncomputable def LH (g h : Heap) (L : Addr) : List (Addr × Obj) := (List.range h.objs.size).filterMap fun a => if a = L ∨ (g.get? a).isSome = true then none else (h.get? a).map fun o => (a, o)
noncomputable def rest (g h : Heap) (L d : Addr) : List (Addr × Obj) := (LH g h L).filter fun p => decide (p.1 ≠ d)
end L2
namespace L2
open PySem PySem.Spec PyProof.Rows
structure Mod (K : PySem.W.Frag) (mg : Str → Option Value) (base : Heap) : Prop where
 US : K.In base
 glob : base.Ns mainGlobals mg
 blt : ∃ mb, base.Ns builtinsNs mb ∧ ∀ x : Str, x ≠ "__name__" → mb x = bootBuiltins x
 nolimit : base.NoLimit
structure Cx where
 prog : Program
 w : World
 K : PySem.W.Frag
 mg : Str → Option Value
 base : Heap
 A : Around
 N : List Str
 iR : Shared
 ED : Hp
 env : Env
 outer : List Env
 stack : List Env
 ex : List Addr
 fn : Str → Bool
 calm : Bool
 pn : List (Addr × Obj)
 xe : Value → Shared → Prop
noncomputable def C3 (l : List Env) : List Addr := l.filterMap (·.frame)
noncomputable abbrev Cx.fs (X : Cx) : List Addr := C3 X.outer
noncomputable def VX (sc : Scope) (x : Str) : Prop := sc.names.lookup x = some .local ∨ sc.names.lookup x = some .cell ∨ sc.names.lookup x = some .free
noncomputable def Loc (sc : Scope) (x : Str) : Prop := sc.names.lookup x = some .local ∨ sc.names.lookup x = some .cell
noncomputable def Look (env : Env) (h : Heap) (m : Str → Option Value) (x : Str) (u : Value) : Prop :=
 (env.kindOf x = some .local ∧ m x = some u) ∨ ((env.kindOf x = some .cell ∨ env.kindOf x = some .free) ∧ ∃ c, env.cells.lookup x = some c ∧ h.IsCell c (some u))
structure Cx.Ok (X : Cx) : Prop where
 mod : Mod X.K X.mg X.base
 kind : X.env.scope.kind = .function
 glob : X.env.globals = mainGlobals
 blt : X.env.builtins = builtinsNs
 above : X.iR.heap.objs.size ≤ X.env.locals
 inj : ∀ x y c, X.env.cells.lookup x = some c → X.env.cells.lookup y = some c → x = y
 has : ∀ x, (X.env.kindOf x = some .cell ∨ X.env.kindOf x = some .free) → ∃ c, X.env.cells.lookup x = some c
 RH : ∀ x c, X.fn x = true → X.env.cells.lookup x = some c → X.iR.heap.objs.size ≤ c
 hd : X.calm = true → X.A.handled = none
 frames : X.A.frames = some X.stack
 TN : X.stack = X.outer ∨ (X.stack = X.env :: X.outer ∧ X.env.frame = some X.env.locals)
 VB : ∀ b ∈ X.ex, b ≠ X.env.locals ∧ ∀ x c, X.env.cells.lookup x = some c → c ≠ b
 bs : ∀ b o, X.base.get? b = some o → X.iR.heap.get? b = some o ∧ X.ED b = none
 LF : X.base.objs.size ≤ X.iR.heap.objs.size
 DO : ∀ b o, X.base.get? b = some o → b ∉ X.ex
 y3 : ∀ b ∈ X.ex, b ∉ X.fs
 p8 : X.iR.heap.FunFrames X.base X.outer
 N8 : ∀ b ∈ X.fs, X.ED b = none
structure Inv (X : Cx) (pins : List (Addr × Obj)) (σ : List (Option V)) (H : Hp) (s : Shared) : Prop where
 ok : X.Ok
 os : s.os = X.iR.os
 bare : AllBare s.gens
 base : Un X.fs X.ex X.ED H X.iR.heap s.heap
 loc : ∃ m, s.heap.Ns X.env.locals m ∧ ∀ (i : Nat) (x : Str) (v : V), X.N[i]? = some x → σ[i]? = some (some v) → VX X.env.scope x → ∃ u, RelV v u ∧ Look X.env s.heap m x u
 cell : ∀ x c, X.env.cells.lookup x = some c → ∃ v, s.heap.IsCell c v
 free : H X.env.locals = none
 kX : ∀ x c, X.env.cells.lookup x = some c → H c = none
 pin : ∀ p ∈ X.pn ++ pins, s.heap.get? p.1 = some p.2 ∧ H p.1 = none ∧ p.1 ≠ X.env.locals ∧ p.1 ∉ X.fs ∧ ∀ v, p.2.data ≠ .cell v
 cI : mJ X.prog X.w H s.heap
 len : σ.length = X.N.length
section
variable {X : Cx} {pins : List (Addr × Obj)} {σ : List (Option V)} {H H' : Hp} {s : Shared} {h' : Heap}
theorem Cx.Ok.VS (ok : X.Ok) {b : Addr} {o : Obj} (e : X.base.get? b = some o) : b ∉ X.fs := fun hb => by
 have := (ok.p8.mem hb).1
 rw [e] at this; cases this
theorem Inv.bs (I : Inv X pins σ H s) : ∀ b o, X.base.get? b = some o → s.heap.get? b = some o ∧ H b = none := fun b o e =>
 ⟨I.base.keep b o (I.ok.bs b o e).1 (I.ok.bs b o e).2 (I.ok.VS e) (I.ok.DO b o e), I.base.free b o (I.ok.bs b o e).1 (I.ok.bs b o e).2 (I.ok.DO b o e)⟩
theorem Inv.bk (I : Inv X pins σ H s) : ∀ b o, X.base.get? b = some o → s.heap.get? b = some o := fun b o e => (I.bs b o e).1
theorem Inv.mod (I : Inv X pins σ H s) : Mod X.K X.mg X.base := I.ok.mod
theorem Inv.RD (I : Inv X pins σ H s) : X.K.In s.heap := I.ok.mod.US.keeps I.bk
theorem Inv.lt (I : Inv X pins σ H s) : X.env.locals < s.heap.objs.size := let ⟨_, hn, _⟩ := I.loc; hn.lt
theorem Inv.sz (I : Inv X pins σ H s) : X.iR.heap.objs.size ≤ s.heap.objs.size := Nat.le_trans I.ok.above (Nat.le_of_lt I.lt)
theorem Inv.SX (I : Inv X pins σ H s) {a : Addr} (h : s.heap.objs.size ≤ a) : a ∉ X.fs := fun hb => by
 obtain ⟨_, o, ho, _⟩ := I.ok.p8.mem hb
 exact absurd (Nat.lt_of_lt_of_le (Heap.lt_size ho) (Nat.le_trans I.sz h)) (Nat.lt_irrefl _)
theorem Inv.QD (I : Inv X pins σ H s) : ∀ x c, X.env.cells.lookup x = some c → c ≠ X.env.locals := fun x c e z => by
 obtain ⟨v, o, ho, hd⟩ := I.cell x c e
 obtain ⟨m, ⟨o', es, ep, ho', hd', _⟩, _⟩ := I.loc
 rw [z, ho'] at ho; cases ho; rw [hd'] at hd; cases hd
theorem Inv.p8 (I : Inv X pins σ H s) : s.heap.FunFrames X.base X.outer := by
 have all : ∀ (l : List Env), (∀ b ∈ C3 l, b ∈ X.fs) → X.iR.heap.FunFrames X.base l → s.heap.FunFrames X.base l := by
  intro l
  induction l with
  | nil => intro _ _; trivial
  | cons env r ih =>
   intro hs hl
   obtain ⟨hk, ⟨L, o, hf, hn, ho, hd⟩, hr⟩ := hl
   have hL : L ∈ X.fs := hs L (by unfold C3; rw [List.filterMap_cons, hf]; exact List.mem_cons_self)
   obtain ⟨sl, e⟩ := I.base.slot L o ho (I.ok.N8 L hL) hL fun z => I.ok.y3 L z hL
   exact ⟨hk, ⟨L, _, hf, hn, e, hd⟩, ih (fun b hb => hs b (by unfold C3; rw [List.filterMap_cons, hf]; exact List.mem_cons_of_mem _ hb)) hr⟩
 exact all X.outer (fun _ hb => hb) I.ok.p8
theorem Inv.stack (I : Inv X pins σ H s) : s.heap.FunFrames X.base X.stack := by
 rcases I.ok.TN with e | ⟨e, hf⟩
 ·rw [e]; exact I.p8
 ·rw [e]
  obtain ⟨m, hn, _⟩ := I.loc
  refine .cons (by rw [I.ok.kind]; decide) hf hn ?_ I.p8
  exact Heap.get?_none_of_le (Nat.le_trans I.ok.LF I.ok.above)
theorem Inv.AF (I : Inv X pins σ H s) : ∀ b ∈ C3 X.stack, b ∈ X.env.locals :: X.fs := fun b hb => by
 rcases I.ok.TN with e | ⟨e, hf⟩
 ·rw [e] at hb; exact List.mem_cons_of_mem _ hb
 ·rw [e] at hb
  unfold C3 at hb
  rw [List.filterMap_cons, hf] at hb
  exact hb
theorem Inv.BW (I : Inv X pins σ H s) : ∀ b ∈ C3 X.stack, H b = none := fun b hb => by
 rcases List.mem_cons.mp (I.AF b hb) with e | hb
 ·rw [e]; exact I.free
 ·obtain ⟨_, o, ho, _⟩ := I.ok.p8.mem hb
  exact I.base.free b o ho (I.ok.N8 b hb) fun z => I.ok.y3 b z hb
theorem Inv.step {g' : Array GenState} {t' : Nat} {d' : Drawn} {ch : List Addr} (I : Inv X pins σ H s)
  (hch : ∀ b ∈ ch, (b ∈ X.ex ∨ X.iR.heap.objs.size ≤ b) ∧ b ≠ X.env.locals ∧ (∀ x c, X.env.cells.lookup x = some c → c ≠ b) ∧ ∀ p ∈ X.pn ++ pins, p.1 ≠ b)
  (keep : ∀ b o, b ≠ X.env.locals → b ∉ X.fs → b ∉ ch → s.heap.get? b = some o → H b = none → h'.get? b = some o)
  (slot : ∀ b o, b ≠ X.env.locals → b ∈ X.fs → b ∉ ch → s.heap.get? b = some o → H b = none → ∃ sl, h'.get? b = some { o with slots := sl }) (free : ∀ b o, b ∉ ch → s.heap.get? b = some o → H b = none → H' b = none)
  (there : ∀ b o, b ∉ ch → s.heap.get? b = some o → ∃ o', h'.get? b = some o')
  (tE : ∀ b xs, H b = some (.tup xs) → H' b = some (.tup xs)) (qP : ∀ b o u, H b = some (.D5 o u) → H' b = some (.D5 o u)) (sV : ∀ b ps, H b = some (.NS ps) → ∃ more, H' b = some (.NS (ps ++ more)))
  (ns : ∀ m, s.heap.Ns X.env.locals m → h'.Ns X.env.locals m) (cI : mJ X.prog X.w H' h') (hg : AllBare g') :
  Inv X pins σ H' { s with heap := h', gens := g', drawn := d', toks := t' } := by
 have VG : ∀ b o, X.iR.heap.get? b = some o → b ≠ X.env.locals := fun b o e => Nat.ne_of_lt (Nat.lt_of_lt_of_le (Heap.lt_size e) I.ok.above)
 have neC : ∀ b o, X.iR.heap.get? b = some o → b ∉ X.ex → b ∉ ch := fun b o e hx hb => by
  rcases (hch b hb).1 with z | z
  ·exact hx z
  ·exact absurd (Nat.lt_of_lt_of_le (Heap.lt_size e) z) (Nat.lt_irrefl _)
 have cellK : ∀ x c, X.env.cells.lookup x = some c → ∀ v, s.heap.IsCell c v → h'.IsCell c v := fun x c e v ⟨o, ho, hd⟩ => by
  have nch : c ∉ ch := fun z => (hch c z).2.2.1 x c e rfl
  by_cases hc : c ∈ X.fs
  ·obtain ⟨sl, q⟩ := slot c o (I.QD x c e) hc nch ho (I.kX x c e)
   exact ⟨_, q, hd⟩
  ·exact ⟨o, keep c o (I.QD x c e) hc nch ho (I.kX x c e), hd⟩
 refine ⟨I.ok, I.os, hg, ⟨fun b o e n hb hx => ?_, fun b o e n hb hx => ?_, fun b o e n hx => ?_, fun b o e hx => ?_, fun b xs e => tE b xs (I.base.tE b xs e), fun b o xs e => qP b o xs (I.base.qP b o xs e), fun b ps e => ?_⟩, ?_, fun x c e => ?_, ?_, fun x c e => ?_, fun p hp => ?_, cI, I.len⟩
 ·exact keep b o (VG b o e) hb (neC b o e hx) (I.base.keep b o e n hb hx) (I.base.free b o e n hx)
 ·obtain ⟨sl, e1⟩ := I.base.slot b o e n hb hx
  obtain ⟨sl', e2⟩ := slot b _ (VG b o e) hb (neC b o e hx) e1 (I.base.free b o e n hx)
  exact ⟨sl', e2⟩
 ·obtain ⟨o', e1⟩ := I.base.there b o e hx
  exact free b o' (neC b o e hx) e1 (I.base.free b o e n hx)
 ·obtain ⟨o', e1⟩ := I.base.there b o e hx
  exact there b o' (neC b o e hx) e1
 ·obtain ⟨m1, e1⟩ := I.base.sV b ps e
  obtain ⟨m2, e2⟩ := sV b _ e1
  exact ⟨m1 ++ m2, by rw [e2, Array.append_assoc]⟩
 ·obtain ⟨m, hn, hl⟩ := I.loc
  refine ⟨m, ns m hn, fun i x v e1 e2 e3 => ?_⟩
  obtain ⟨u, r, l⟩ := hl i x v e1 e2 e3
  refine ⟨u, r, ?_⟩
  rcases l with l | ⟨k, c, e, z⟩
  ·exact .inl l
  ·exact .inr ⟨k, c, e, cellK x c e _ z⟩
 ·obtain ⟨v, z⟩ := I.cell x c e
  exact ⟨v, cellK x c e v z⟩
 ·obtain ⟨m, ⟨o, _, _, ho, _⟩, _⟩ := I.loc
  exact free _ o (fun z => (hch _ z).2.1 rfl) ho I.free
 ·obtain ⟨v, o, ho, hd⟩ := I.cell x c e
  exact free c o (fun z => (hch c z).2.2.1 x c e rfl) ho (I.kX x c e)
 ·obtain ⟨e, n, ne, nf, d⟩ := I.pin p hp
  have nch : p.1 ∉ ch := fun z => (hch p.1 z).2.2.2 p hp rfl
  exact ⟨keep p.1 p.2 ne nf nch e n, free p.1 p.2 nch e n, ne, nf, d⟩
theorem Inv.un {t' : Nat} (I : Inv X pins σ H s) (u : Un X.fs [] H H' s.heap h') (cI : mJ X.prog X.w H' h') : Inv X pins σ H' { s with heap := h', toks := t' } := by
 obtain ⟨m, ⟨o, es, ep, ho, r⟩, _⟩ := id I.loc
 obtain ⟨sl, hL⟩ := u.any ho I.free (by simp)
 exact I.step (g' := s.gens) (d' := s.drawn) (ch := []) (fun _ z => nomatch z) (fun b o _ hb _ e n => u.keep b o e n hb (by simp)) (fun b o _ hb _ e n => u.slot b o e n hb (by simp)) (fun b o _ e n => u.free b o e n (by simp)) (fun b o _ e => u.there b o e (by simp)) u.tE u.qP u.sV (fun m' hm => by
  obtain ⟨o', es', ep', ho', r'⟩ := hm
  rw [ho] at ho'; cases ho'
  exact ⟨_, es', ep', hL, r'⟩) cI I.bare
theorem Inv.call {g' : Array GenState} {t' : Nat} {d' : Drawn} {ch : List Addr} (I : Inv X pins σ H s) (u : Un (C3 X.stack) ch H H' s.heap h') (cI : mJ X.prog X.w H' h') (hg : AllBare g')
  (hch : ∀ b ∈ ch, (b ∈ X.ex ∨ X.iR.heap.objs.size ≤ b) ∧ b ≠ X.env.locals ∧ (∀ x c, X.env.cells.lookup x = some c → c ≠ b) ∧ ∀ p ∈ X.pn ++ pins, p.1 ≠ b) :
  Inv X pins σ H' { s with heap := h', gens := g', drawn := d', toks := t' } := by
 obtain ⟨m, ⟨o, es, ep, ho, r⟩, _⟩ := id I.loc
 obtain ⟨sl, hL⟩ := u.any ho I.free fun z => (hch _ z).2.1 rfl
 exact I.step (ch := ch) hch (fun b o hL hb hc e n => u.keep b o e n (fun z => (List.mem_cons.mp (I.AF b z)).elim hL hb) hc) (fun b o _ _ hc e n => u.any e n hc) (fun b o hc e n => u.free b o e n hc) (fun b o hc e => u.there b o e hc) u.tE u.qP u.sV (fun m' hm => by
  obtain ⟨o', es', ep', ho', r'⟩ := hm
  rw [ho] at ho'; cases ho'
  exact ⟨_, es', ep', hL, r'⟩) cI hg
theorem Inv.turned {t' : Nat} {it : Addr} (I : Inv X pins σ H s) (k : ∀ b o, b ≠ it → s.heap.get? b = some o → h'.get? b = some o) (hn : H it = none) (hL : it ≠ X.env.locals)
  (h1 : it ∈ X.ex ∨ X.iR.heap.objs.size ≤ it) (h2 : ∀ x c, X.env.cells.lookup x = some c → c ≠ it) (h3 : ∀ p ∈ X.pn ++ pins, p.1 ≠ it) : Inv X pins σ H { s with heap := h', toks := t' } := by
 have nit : ∀ b u, H b = some u → b ≠ it := fun b u e z => by rw [z, hn] at e; cases e
 refine I.step (g' := s.gens) (d' := s.drawn) (ch := [it]) (fun b hb => ?_) (fun b o _ _ hc e _ => k b o (fun z => hc (by simp [z])) e) (fun b o _ _ hc e _ => ⟨o.slots, k b o (fun z => hc (by simp [z])) e⟩) (fun _ _ _ _ n => n)
  (fun b o hc e => ⟨o, k b o (fun z => hc (by simp [z])) e⟩) (fun _ _ e => e) (fun _ _ _ e => e) (fun b ps e => ⟨#[], by rw [e]; simp⟩) (fun m hm => ?_) (fun b u e => ?_) I.bare
 ·have e : b = it := by simpa using hb
  subst e
  exact ⟨h1, hL, h2, h3⟩
 ·obtain ⟨o, es, ep, ho, r⟩ := hm
  exact ⟨o, es, ep, k _ o (Ne.symm hL) ho, r⟩
 ·refine (I.cI b u e).aP (fun c v hc q => k c v ?_ q) (fun _ q => q) fun _ _ q => q
  rcases hc with z | z
  ·rw [z]; exact nit b u e
  ·exact nit c _ z
theorem Inv.tok (I : Inv X pins σ H s) (t : Nat) : Inv X pins σ H { s with toks := t } := I.un (h' := s.heap) (t' := t) Un.refl I.cI
theorem Inv.kept {t' : Nat} (I : Inv X pins σ H s) (k : ∀ b u, s.heap.get? b = some u → h'.get? b = some u) : Inv X pins σ H { s with heap := h', toks := t' } := I.un (Un.kept k) (I.cI.kept k)
theorem Inv.laid {a : Addr} {o : HO} {t' : Nat} (I : Inv X pins σ H s) (k : ∀ b u, s.heap.get? b = some u → h'.get? b = some u) (hp : s.heap.objs.size ≤ a) (new : eY X.prog X.w (upd H a o) h' a o) :
  Inv X pins σ (upd H a o) { s with heap := h', toks := t' } := I.un (Un.laid k hp (I.cI.fresh hp)) (I.cI.laid k hp new)
theorem Inv.write {x e : Addr} {o : HO} {t' : Nat} (I : Inv X pins σ H s) (mu : TM (H x)) (he : e = x ∨ H e = some (.own x)) (k : ∀ b u, b ≠ e → s.heap.get? b = some u → h'.get? b = some u) (heo : ∃ u, h'.get? e = some u)
  (new : eY X.prog X.w (upd H x o) h' x o) : Inv X pins σ (upd H x o) { s with heap := h', toks := t' } := I.un (Un.write mu he k heo) (I.cI.write mu he k heo new)
theorem Inv.qO {pins' : List (Addr × Obj)} (I : Inv X pins σ H s) (h : ∀ p ∈ pins', s.heap.get? p.1 = some p.2 ∧ H p.1 = none ∧ p.1 ≠ X.env.locals ∧ p.1 ∉ X.fs ∧ ∀ v, p.2.data ≠ .cell v) : Inv X pins' σ H s :=
 ⟨I.ok, I.os, I.bare, I.base, I.loc, I.cell, I.free, I.kX, fun p hp => (List.mem_append.mp hp).elim (fun z => I.pin p (List.mem_append_left _ z)) (h p), I.cI, I.len⟩
theorem yO {N : List Str} (hN : N.Nodup) {i j : Nat} {x : Str} (a : N[i]? = some x) (b : N[j]? = some x) : i = j := by
 obtain ⟨h1, e1⟩ := List.getElem?_eq_some_iff.mp a
 obtain ⟨h2, e2⟩ := List.getElem?_eq_some_iff.mp b
 exact (List.getElem_inj hN).mp (e1.trans e2.symm)
theorem CF {M : Model} {A : Around} {E : Value → Shared → Prop} {i : Nat} {x : Str} {v : V} {u : Value} {Q : Unit → Shared → Prop} (I : Inv X pins σ H s) (hN : X.N.Nodup) (hi : X.N[i]? = some x) (hx : Loc X.env.scope x) (r : RelV v u)
  (h : ∀ s', Inv X pins (σ.set i (some v)) H s' → (∃ a, Heap.SameBut a s.heap s'.heap ∧ (a = X.env.locals ∨ X.env.cells.lookup x = some a)) → Q () s') (hf : X.fn x = true ∨ X.env.scope.names.lookup x = some .local := by first | exact .inl rfl | exact .inr rfl | assumption) : wpAny M A (storeName X.env x u) Q E s := by
 obtain ⟨m, hn, hl⟩ := id I.loc
 have hcls : (X.env.scope.kind == .class || (X.env.scope.kind == .module && X.env.locals != X.env.globals)) = false := by rw [I.ok.kind]; rfl
 have hiσ : i < σ.length := by rw [I.len]; exact (List.getElem?_eq_some_iff.mp hi).1
 have QD := I.QD
 have tracked : ∀ {a : Addr} {h' : Heap}, (∃ o, s.heap.get? a = some o ∧ H a = none) → Heap.SameBut a s.heap h' → mJ X.prog X.w H h' := fun {a h'} ha hs b ob e => by
  obtain ⟨_, _, hfree⟩ := ha
  refine (I.cI b ob e).aP (fun c w' hc q => (hs.2 c ?_).trans q) (fun _ q => q) fun _ _ q => q
  rintro rfl
  rcases hc with rfl | hc
  ·rw [hfree] at e; cases e
  ·rw [hfree] at hc; cases hc
 rcases hx with hk | hk
 ·refine wpAny_storeName_local hk hn (fun h' hn' hs => ?_) hcls
  obtain ⟨oL, _, _, hoL, _⟩ := id hn
  refine h _ ⟨I.ok, I.os, I.bare, ⟨fun b o e n hb hx => ?_, fun b o e n hb hx => ?_, I.base.free, fun b o e hx => ?_, I.base.tE, I.base.qP, I.base.sV⟩, ⟨_, hn', fun j y v' e1 e2 e3 => ?_⟩, fun y c e => ?_, I.free, I.kX, fun p hp => ?_, tracked ⟨oL, hoL, I.free⟩ hs, by simpa using I.len⟩ ⟨_, hs, .inl rfl⟩
  ·exact (hs.2 b (Nat.ne_of_lt (Nat.lt_of_lt_of_le (Heap.lt_size e) I.ok.above))).trans (I.base.keep b o e n hb hx)
  ·obtain ⟨sl, e1⟩ := I.base.slot b o e n hb hx
   exact ⟨sl, (hs.2 b (Nat.ne_of_lt (Nat.lt_of_lt_of_le (Heap.lt_size e) I.ok.above))).trans e1⟩
  ·obtain ⟨o', e1⟩ := I.base.there b o e hx
   exact ⟨o', (hs.2 b (Nat.ne_of_lt (Nat.lt_of_lt_of_le (Heap.lt_size e) I.ok.above))).trans e1⟩
  ·by_cases hj : j = i
   ·subst hj
    rw [hi] at e1; cases e1
    rw [List.getElem?_set_self hiσ] at e2
    cases e2
    exact ⟨u, r, .inl ⟨hk, by simp⟩⟩
   ·rw [List.getElem?_set_ne (Ne.symm hj)] at e2
    obtain ⟨u', r', q⟩ := hl j y v' e1 e2 e3
    refine ⟨u', r', ?_⟩
    rcases q with ⟨k, e⟩ | ⟨k, c, e, z⟩
    ·refine .inl ⟨k, ?_⟩
     have : y ≠ x := fun e => hj (yO hN e1 (e ▸ hi))
     simp [this, e]
    ·exact .inr ⟨k, c, e, z.sameBut hs (QD y c e)⟩
  ·obtain ⟨w', z⟩ := I.cell y c e
   exact ⟨w', z.sameBut hs (QD y c e)⟩
  ·obtain ⟨e, n, ne, nf, d⟩ := I.pin p hp
   exact ⟨(hs.2 p.1 ne).trans e, n, ne, nf, d⟩
 ·have hfn : X.fn x = true := by
   rcases hf with z | z
   ·exact z
   ·rw [z] at hk; cases hk
  obtain ⟨c, hc⟩ := I.ok.has x (.inl hk)
  obtain ⟨w', z⟩ := I.cell x c hc
  refine wpAny_storeName_cell I.ok.kind hk hc z (fun h' hc' hs => ?_)
  obtain ⟨oc, hoc, hocd⟩ := id z
  refine h { s with heap := h' } ⟨I.ok, I.os, I.bare, ⟨fun b o e n hb hx => ?_, fun b o e n hb hx => ?_, I.base.free, fun b o e hx => ?_, I.base.tE, I.base.qP, I.base.sV⟩, ⟨m, hn.sameBut hs (Ne.symm (QD x c hc)), fun j y v' e1 e2 e3 => ?_⟩, fun y c' e => ?_, I.free, I.kX, fun p hp => ?_, tracked ⟨oc, hoc, I.kX x c hc⟩ hs, by simpa using I.len⟩ ⟨c, hs, .inr hc⟩
  ·exact (hs.2 b (Nat.ne_of_lt (Nat.lt_of_lt_of_le (Heap.lt_size e) (I.ok.RH x c hfn hc)))).trans (I.base.keep b o e n hb hx)
  ·obtain ⟨sl, e1⟩ := I.base.slot b o e n hb hx
   exact ⟨sl, (hs.2 b (Nat.ne_of_lt (Nat.lt_of_lt_of_le (Heap.lt_size e) (I.ok.RH x c hfn hc)))).trans e1⟩
  ·obtain ⟨o', e1⟩ := I.base.there b o e hx
   exact ⟨o', (hs.2 b (Nat.ne_of_lt (Nat.lt_of_lt_of_le (Heap.lt_size e) (I.ok.RH x c hfn hc)))).trans e1⟩
  ·by_cases hj : j = i
   ·subst hj
    rw [hi] at e1; cases e1
    rw [List.getElem?_set_self hiσ] at e2
    cases e2
    exact ⟨u, r, .inr ⟨.inl hk, c, hc, hc'⟩⟩
   ·rw [List.getElem?_set_ne (Ne.symm hj)] at e2
    obtain ⟨u', r', q⟩ := hl j y v' e1 e2 e3
    refine ⟨u', r', ?_⟩
    rcases q with q | ⟨k, c', e, z'⟩
    ·exact .inl q
    ·refine .inr ⟨k, c', e, z'.sameBut hs ?_⟩
     rintro rfl
     exact hj (yO hN e1 (I.ok.inj _ _ _ e hc ▸ hi))
  ·by_cases hcc : c' = c
   ·subst hcc; exact ⟨_, hc'⟩
   ·obtain ⟨w2, z2⟩ := I.cell y c' e
    exact ⟨w2, z2.sameBut hs hcc⟩
  ·obtain ⟨e, n, ne, nf, d⟩ := I.pin p hp
   refine ⟨(hs.2 p.1 ?_).trans e, n, ne, nf, d⟩
   intro q
   rw [q, hoc] at e
   have q' : oc = p.2 := Option.some.inj e
   exact d w' (by rw [← q']; exact hocd)
theorem sI {M : Model} {A : Around} {E : Value → Shared → Prop} {i : Nat} {x : Str} {v : V} {u : Value} {Q : Unit → Shared → Prop} (I : Inv X pins σ H s) (hN : X.N.Nodup) (hi : X.N[i]? = some x) (hx : Loc X.env.scope x) (r : RelV v u)
  (h : ∀ s', Inv X pins (σ.set i (some v)) H s' → Q () s') (hf : X.fn x = true ∨ X.env.scope.names.lookup x = some .local := by first | exact .inl rfl | exact .inr rfl | assumption) : wpAny M A (storeName X.env x u) Q E s :=
 CF I hN hi hx r (fun s' I' _ => h s' I') hf
theorem Inv.JC {s' : Shared} {ch : List Addr} (I : Inv X pins σ H s) (ho : s'.os = s.os) (u : Un (C3 X.stack) ch H H' s.heap s'.heap) (cI : mJ X.prog X.w H' s'.heap) (hg : AllBare s'.gens)
  (hch : ∀ b ∈ ch, (b ∈ X.ex ∨ X.iR.heap.objs.size ≤ b) ∧ b ≠ X.env.locals ∧ (∀ x c, X.env.cells.lookup x = some c → c ≠ b) ∧ ∀ p ∈ X.pn ++ pins, p.1 ≠ b) : Inv X pins σ H' s' := by
 obtain ⟨h', g', d', t', o'⟩ := s'
 have e : o' = s.os := ho
 subst e
 exact I.call (g' := g') (t' := t') (d' := d') u cI hg hch
end
noncomputable abbrev XK := Value → Option Addr → Hp → Prop
noncomputable abbrev St := List (Option V)
noncomputable abbrev VK := V → Hp → Prop
noncomputable abbrev TE := St → Hp → VK → Prop
noncomputable abbrev TT := St → Hp → (Bool → Hp → Prop) → Prop
noncomputable abbrev TA := St → Hp → (List V → Hp → Prop) → Prop
structure Ends where
 nx : St → Hp → Prop
 rt : VK
 bk : St → Hp → Prop := fun _ _ => False
 ct : St → Hp → Prop := fun _ _ => False
noncomputable abbrev TS := Ends → St → Hp → Prop
noncomputable def EP (X : Cx) (pins : List (Addr × Obj)) (σ : St) (Q : VK) (u : Value) (s' : Shared) : Prop := ∃ v H', Inv X pins σ H' s' ∧ RelV v u ∧ Q v H'
noncomputable def TP (X : Cx) (pins : List (Addr × Obj)) (σ : St) (Q : Bool → Hp → Prop) (b : Bool) (s' : Shared) : Prop := ∃ H', Inv X pins σ H' s' ∧ Q b H'
noncomputable def AP (X : Cx) (pins : List (Addr × Obj)) (σ : St) (Q : List V → Hp → Prop) (us : List Value) (s' : Shared) : Prop := ∃ vs H', Inv X pins σ H' s' ∧ Vals vs us ∧ Q vs H'
noncomputable def SP (X : Cx) (pins : List (Addr × Obj)) (D : Ends) (f : Flow) (s' : Shared) : Prop :=
 match f with
 | .next => ∃ σ' H', Inv X pins σ' H' s' ∧ D.nx σ' H'
 | .brk => ∃ σ' H', Inv X pins σ' H' s' ∧ D.bk σ' H'
 | .cont => ∃ σ' H', Inv X pins σ' H' s' ∧ D.ct σ' H'
 | .ret u => ∃ v σ' H', Inv X pins σ' H' s' ∧ RelV v u ∧ D.rt v H'
noncomputable def PE (X : Cx) (e : Expr) (t : TE) : Prop :=
 ∀ (pins : List (Addr × Obj)) (s : Shared) (σ : St) (H : Hp) (Q : VK), Inv X pins σ H s → t σ H Q → wpAny (model X.prog X.w) X.A (eval e X.env) (EP X pins σ Q) X.xe s
noncomputable def PT (X : Cx) (e : Expr) (t : TT) : Prop :=
 ∀ (pins : List (Addr × Obj)) (s : Shared) (σ : St) (H : Hp) (Q : Bool → Hp → Prop), Inv X pins σ H s → t σ H Q → wpAny (model X.prog X.w) X.A (isTrue e X.env (eval e X.env)) (TP X pins σ Q) X.xe s
noncomputable def PW (X : Cx) (e : Expr) (t : TT) : Prop :=
 ∀ (whole : Sem Value) (pins : List (Addr × Obj)) (s : Shared) (σ : St) (H : Hp) (Q : Bool → Hp → Prop), Inv X pins σ H s → t σ H Q → wpAny (model X.prog X.w) X.A (isTrue e X.env whole) (TP X pins σ Q) X.xe s
theorem PW.pt {X : Cx} {e : Expr} {t : TT} (h : PW X e t) : PT X e t := h _
noncomputable def PA (X : Cx) (es : List Expr) (t : TA) : Prop :=
 ∀ (pos : Pos) (pins : List (Addr × Obj)) (s : Shared) (σ : St) (H : Hp) (Q : List V → Hp → Prop), Inv X pins σ H s → t σ H Q → wpAny (model X.prog X.w) X.A (spliced (backTo pos (starEach es X.env))) (AP X pins σ Q) X.xe s
noncomputable def PS (X : Cx) (st : Stmt) (t : TS) : Prop :=
 ∀ (pins : List (Addr × Obj)) (s : Shared) (σ : St) (H : Hp) (D : Ends), Inv X pins σ H s → t D σ H → wpAny (model X.prog X.w) X.A (exec st X.env) (SP X pins D) X.xe s
noncomputable def C4 (X : Cx) (st : List Stmt) (t : TS) : Prop :=
 ∀ (pins : List (Addr × Obj)) (s : Shared) (σ : St) (H : Hp) (D : Ends), Inv X pins σ H s → t D σ H → wpAny (model X.prog X.w) X.A (execs st X.env) (SP X pins D) X.xe s
theorem d8 {α : Type} {t : Sem α} {Q Q' : α → Shared → Prop} {M : Model} {A : Around} {E : Value → Shared → Prop} {s : Shared} (h : wpAny M A t Q E s) (hQ : ∀ a s, Q a s → Q' a s) : wpAny M A t Q' E s := wpAny_mono h hQ fun _ _ x => x
end L2
namespace L2
open PySem PySem.Spec PyProof.Rows
section
variable {X : Cx}
noncomputable def wN (i : Nat) : TE := fun σ H Q => ∃ v, σ[i]? = some (some v) ∧ Q v H
noncomputable def tC (v : V) : TE := fun _ H Q => Q v H
theorem P8 {i : Nat} {x : Str} {pos : Pos} (hN : X.N[i]? = some x) (hv : VX X.env.scope x) (hd : (x == ("__debug__" : Str)) = false := by decide) (hcd : (x == ("__classdict__" : Str)) = false := by decide) : PE X (.Name x pos) (wN i) := by
 intro pins s σ H Q I h
 obtain ⟨v, e, h⟩ := h
 obtain ⟨m, hn, hl⟩ := I.loc
 obtain ⟨u, r, l⟩ := hl i x v hN e hv
 have fin : EP X pins σ Q u s := ⟨v, H, I, r, h⟩
 rcases l with ⟨hk, hm⟩ | ⟨hk, c, hc, hcell⟩
 ·exact wpAny_Name (wpAny_loadName_local I.ok.kind hk hn hm fin) hd
 ·rcases hk with hk | hk
  ·exact wpAny_Name (wpAny_loadName_cell I.ok.kind hk hc hcell fin) hd
  ·exact wpAny_Name (wpAny_loadName_free I.ok.kind hk hc hcell fin hcd) hd
theorem aK {i j pos} : PE X (.Constant (.int i) j pos) (tC (.int i)) := fun _ _ _ H _ I h => wpAny_Constant_int ⟨.int i, H, I.tok _, ⟨_, rfl⟩, h⟩
theorem uQ {b j pos} : PE X (.Constant (.bool b) j pos) (tC (.bl b)) := fun _ _ _ H _ I h => Constant_bool ⟨.bl b, H, I, rfl, h⟩
theorem mW {j pos} : PE X (.Constant .none j pos) (tC .bJ) := fun _ _ _ H _ I h => Constant_none ⟨.bJ, H, I, rfl, h⟩
theorem gA {x j pos} : PE X (.Constant (.str x) j pos) (tC (.str x)) := fun _ _ _ H _ I h => Calls.Constant_str ⟨.str x, H, I.tok _, ⟨_, rfl⟩, h⟩
noncomputable def Gl (X : Cx) (x : Str) : Prop := X.env.kindOf x = some .globalImplicit
theorem LU {E : Value → Shared → Prop} {pins : List (Addr × Obj)} {s : Shared} {σ : St} {H : Hp} {x : Str} {u : Value} {pos : Pos} {Q : Value → Shared → Prop} (I : Inv X pins σ H s) (hg : Gl X x) (hm : X.mg x = some u) (h : Q u s)
  (hd : (x == ("__debug__" : Str)) = false := by decide) : wpAny (model X.prog X.w) X.A (eval (.Name x pos) X.env) Q E s :=
 Calls.Name_function_global I.ok.kind hg (Calls.loadGlobal_global (by rw [I.ok.glob]; exact I.mod.glob.keeps I.bk) hm h) hd
theorem sC {E : Value → Shared → Prop} {pins : List (Addr × Obj)} {s : Shared} {σ : St} {H : Hp} {x : Str} {u : Value} {pos : Pos} {Q : Value → Shared → Prop} (I : Inv X pins σ H s) (hg : Gl X x) (hm : X.mg x = none) (hv : bootBuiltins x = some u) (h : Q u s)
  (hn : x ≠ "__name__" := by decide) (hd : (x == ("__debug__" : Str)) = false := by decide) : wpAny (model X.prog X.w) X.A (eval (.Name x pos) X.env) Q E s := by
 obtain ⟨mb, h1, h2⟩ := I.mod.blt
 exact Calls.Name_function_global I.ok.kind hg (Calls.loadGlobal_builtin (by rw [I.ok.glob]; exact I.mod.glob.keeps I.bk) hm (by rw [I.ok.blt]; exact h1.keeps I.bk) ((h2 x hn).trans hv) h) hd
variable {a b : Expr} {ta tb : TE} {pos : Pos}
noncomputable def tB (t : TE) : TT := fun σ H Q => t σ H fun x H1 => ∃ c, x = .bl c ∧ Q c H1
theorem HE {e : Expr} {t : TE} (h : PE X e t) (he : ∀ whole, isTrue e X.env whole = (do let v ← whole; standAt e.pos; holding [v] (truthy v)) := by intro _; rfl) : PT X e (tB t) := by
 intro pins s σ H Q I hw
 refine isTrue_plain (d8 (h pins s σ H _ I hw) fun v s1 ⟨x, H1, I1, r1, q1⟩ => ?_) (he _)
 obtain ⟨d, rfl, q⟩ := q1
 cases r1
 exact wpAny_truthy_bool ⟨H1, I1, q⟩
variable {tA tB' : TT} {rest : List Expr}
noncomputable def TL (t u : TT) : TT := fun σ H Q => t σ H fun c H1 => if c = true then u σ H1 Q else Q false H1
noncomputable def WC (t u : TT) : TT := fun σ H Q => t σ H fun c H1 => if c = true then Q true H1 else u σ H1 Q
noncomputable def T5 (t : TT) : TT := fun σ H Q => t σ H fun c H1 => Q (!c) H1
theorem qE (ha : PT X a tA) : PW X (.BoolOp .And [a] pos) tA := by
 intro wh pins s σ H Q I h
 refine isTrue_and (d8 (ha pins s σ H Q I h) fun c s1 e => ?_)
 cases c with
 | true => exact isTrue_and_nil e
 | false => exact e
theorem NM (ha : PT X a tA) : PW X (.BoolOp .Or [a] pos) tA := by
 intro wh pins s σ H Q I h
 refine isTrue_or (d8 (ha pins s σ H Q I h) fun c s1 e => ?_)
 cases c with
 | false => exact isTrue_or_nil e
 | true => exact e
theorem u6 (ha : PT X a tA) (hb : PW X (.BoolOp .And (b :: rest) pos) tB') : PW X (.BoolOp .And (a :: b :: rest) pos) (TL tA tB') := by
 intro wh pins s σ H Q I h
 refine isTrue_and (d8 (ha pins s σ H _ I h) fun c s1 ⟨H1, I1, q1⟩ => ?_)
 cases c with
 | true => exact hb wh pins s1 σ H1 Q I1 q1
 | false => exact ⟨H1, I1, q1⟩
theorem R4 (ha : PT X a tA) (hb : PW X (.BoolOp .Or (b :: rest) pos) tB') : PW X (.BoolOp .Or (a :: b :: rest) pos) (WC tA tB') := by
 intro wh pins s σ H Q I h
 refine isTrue_or (d8 (ha pins s σ H _ I h) fun c s1 ⟨H1, I1, q1⟩ => ?_)
 cases c with
 | true => exact ⟨H1, I1, q1⟩
 | false => exact hb wh pins s1 σ H1 Q I1 q1
theorem IF (ha : PT X a tA) : PT X (.UnaryOp .Not a pos) (T5 tA) := by
 intro pins s σ H Q I h
 exact isTrue_not (ha pins s σ H (fun c H1 => Q (!c) H1) I h)
noncomputable def S3 (ta tb : TE) : TE := fun σ H Q => ta σ H fun x H1 => ∃ c, x = .bl c ∧ if c = true then Q (.bl true) H1 else tb σ H1 Q
theorem N6 {op} {t : TE} (h : PE X a t) : PE X (.BoolOp op [a] pos) t := fun pins s σ H Q I hw => BoolOp_one (h pins s σ H Q I hw)
theorem R1 (ha : PE X a ta) (hb : PE X (.BoolOp .Or (b :: rest) pos) tb) : PE X (.BoolOp .Or (a :: b :: rest) pos) (S3 ta tb) := by
 intro pins s σ H Q I h
 refine BoolOp_or (d8 (ha pins s σ H _ I h) fun v s1 ⟨x, H1, I1, r1, q1⟩ => ?_)
 obtain ⟨c, rfl, q1⟩ := q1
 cases r1
 refine wpAny_truthy_bool ?_
 cases c with
 | false => exact hb pins s1 σ H1 Q I1 q1
 | true => exact ⟨.bl true, H1, I1, rfl, q1⟩
noncomputable def WE (t : TT) (ta tb : TE) : TE := fun σ H Q => t σ H fun c H1 => if c = true then ta σ H1 Q else tb σ H1 Q
theorem nZ {c : Expr} (hc : PT X c tA) (ha : PE X a ta) (hb : PE X b tb) : PE X (.IfExp c a b pos) (WE tA ta tb) := by
 intro pins s σ H Q I h
 refine wpAny_IfExp (d8 (hc pins s σ H _ I h) fun d s1 ⟨H1, I1, q1⟩ => ?_)
 cases d with
 | true => exact ha pins s1 σ H1 Q I1 q1
 | false => exact hb pins s1 σ H1 Q I1 q1
end
end L2
namespace L2
open PySem PySem.Spec PyProof.Rows
noncomputable def iZ (K : PySem.W.Frag) (H : Hp) (a : Addr) (xs : List V) : Prop :=
 Rd H a (.lst xs) ∨
  ∃ (o : Obj) (its : Array Value) (n : Nat), K.lookup a = some o ∧ o.cls = .type "list" ∧ o.dict = none ∧ o.data = .seq its n ∧ its.size ≤ sizeLine ∧ Vals xs its.toList
noncomputable def mB (K : PySem.W.Frag) (H : Hp) (a : Addr) (xs : List V) : Prop :=
 Rd H a (.tup xs) ∨
  ∃ (o : Obj) (its : Array Value) (n : Nat), K.lookup a = some o ∧ o.cls = .type "tuple" ∧ o.data = .seq its n ∧ its.size ≤ sizeLine ∧ Vals xs its.toList
noncomputable def VZ : Value → Option V
 | .none => some .bJ
 | .bool b => some (.bl b)
 | .int i _ => some (.int i)
 | .str x _ => some (.str x)
 | .bytes b _ => some (.SI b)
 | .float b _ => some (.RY b)
 | .ref a => some (.ref a)
 | .type n => some (.ty n)
 | _ => none
theorem RelV.abs {x : V} {u : Value} (r : RelV x u) : VZ u = some x := by
 cases x with
 | bJ => cases r; rfl
 | bl _ => cases r; rfl
 | int _ => obtain ⟨t, rfl⟩ := r; rfl
 | str _ => obtain ⟨t, rfl⟩ := r; rfl
 | SI _ => obtain ⟨t, rfl⟩ := r; rfl
 | RY _ => obtain ⟨t, rfl⟩ := r; rfl
 | ref _ => cases r; rfl
 | ty _ => cases r; rfl
theorem RelV.inj {x y : V} {u : Value} (r : RelV x u) (q : RelV y u) : x = y := Option.some.inj (r.abs.symm.trans q.abs)
theorem Vals.inj : ∀ {xs ys : List V} {us : List Value}, Vals xs us → Vals ys us → xs = ys
 | _, _, _, .nil, .nil => rfl
 | _, _, _, .cons r t, .cons r' t' => by rw [r.inj r', Vals.inj t t']
section
variable {X : Cx} {pins : List (Addr × Obj)} {σ : St} {H : Hp} {s : Shared} {a : Addr} {xs ys : List V}
theorem iZ.of {K : PySem.W.Frag} (h : H a = some (.lst xs)) : iZ K H a xs := .inl (.inl h)
theorem mB.of {K : PySem.W.Frag} (h : H a = some (.tup xs)) : mB K H a xs := .inl (.inl h)
theorem Inv.list (I : Inv X pins σ H s) (h : iZ X.K H a xs) : ∃ its : List Value, Vals xs its ∧ PlainL s.heap a its.toArray ∧ xs.length ≤ sizeLine := by
 rcases h with h | ⟨o, its, n, hk, hc, hd, hs, hz, r⟩
 ·obtain ⟨z, its, n, r, e⟩ := h.ok I.cI
  exact ⟨its, r, ⟨_, n, e, rfl, rfl, rfl⟩, z⟩
 ·refine ⟨its.toList, r, ⟨o, n, I.RD a o hk, hc, hd, by simpa using hs⟩, ?_⟩
  have e := r.length
  simp only [Array.length_toList] at e
  omega
theorem Inv.tuple (I : Inv X pins σ H s) (h : mB X.K H a xs) : ∃ its : List Value, Vals xs its ∧ IsTup s.heap a its.toArray ∧ xs.length ≤ sizeLine := by
 rcases h with h | ⟨o, its, n, hk, hc, hs, hz, r⟩
 ·obtain ⟨z, its, r, p⟩ := h.ok I.cI
  exact ⟨its, r, p, z⟩
 ·refine ⟨its.toList, r, ⟨o, I.RD a o hk, hc, n, by simpa using hs⟩, ?_⟩
  have e := r.length
  simp only [Array.length_toList] at e
  omega
theorem Inv.y6 (I : Inv X pins σ H s) (h : iZ X.K H a xs) (h' : iZ X.K H a ys) : xs = ys := by
 obtain ⟨its, r, ⟨o, n, e, _, _, d⟩, _⟩ := I.list h
 obtain ⟨its', r', ⟨o', n', e', _, _, d'⟩, _⟩ := I.list h'
 rw [e] at e'; cases e'
 rw [d] at d'
 injection d' with d1 _
 have : its = its' := by simpa using congrArg Array.toList d1
 subst this
 exact r.inj r'
theorem Inv.t8 (I : Inv X pins σ H s) (h : mB X.K H a xs) (h' : mB X.K H a ys) : xs = ys := by
 obtain ⟨its, r, ⟨o, e, _, n, d⟩, _⟩ := I.tuple h
 obtain ⟨its', r', ⟨o', e', _, n', d'⟩, _⟩ := I.tuple h'
 rw [e] at e'; cases e'
 rw [d] at d'
 injection d' with d1 _
 have : its = its' := by simpa using congrArg Array.toList d1
 subst this
 exact r.inj r'
end
noncomputable abbrev Cx.tH (X : Cx) (E : Value → Shared → Prop) : Cx := { X with xe := E }
noncomputable abbrev Cx.UO (X : Cx) : Cx := X.tH fun _ _ => False
theorem Cx.Ok.tH {X : Cx} (ok : X.Ok) (E : Value → Shared → Prop) : (X.tH E).Ok :=
 ⟨ok.mod, ok.kind, ok.glob, ok.blt, ok.above, ok.inj, ok.has, ok.RH, ok.hd, ok.frames, ok.TN, ok.VB, ok.bs, ok.LF, ok.DO, ok.y3, ok.p8, ok.N8⟩
theorem Cx.Ok.kK {X : Cx} {E : Value → Shared → Prop} (ok : (X.tH E).Ok) : X.Ok :=
 ⟨ok.mod, ok.kind, ok.glob, ok.blt, ok.above, ok.inj, ok.has, ok.RH, ok.hd, ok.frames, ok.TN, ok.VB, ok.bs, ok.LF, ok.DO, ok.y3, ok.p8, ok.N8⟩
section
variable {X : Cx} {pins : List (Addr × Obj)} {σ : St} {H : Hp} {s : Shared} {E : Value → Shared → Prop}
theorem Inv.tH (I : Inv X pins σ H s) (E : Value → Shared → Prop) : Inv (X.tH E) pins σ H s := ⟨I.ok.tH E, I.os, I.bare, I.base, I.loc, I.cell, I.free, I.kX, I.pin, I.cI, I.len⟩
theorem Inv.kK (I : Inv (X.tH E) pins σ H s) : Inv X pins σ H s := ⟨I.ok.kK, I.os, I.bare, I.base, I.loc, I.cell, I.free, I.kX, I.pin, I.cI, I.len⟩
theorem SP.kK {D : Ends} {f : Flow} {s' : Shared} (h : SP (X.tH E) pins D f s') : SP X pins D f s' := by
 cases f with
 | next => obtain ⟨σ', H', I, q⟩ := h; exact ⟨σ', H', I.kK, q⟩
 | brk => obtain ⟨σ', H', I, q⟩ := h; exact ⟨σ', H', I.kK, q⟩
 | cont => obtain ⟨σ', H', I, q⟩ := h; exact ⟨σ', H', I.kK, q⟩
 | ret u => obtain ⟨v, σ', H', I, r, q⟩ := h; exact ⟨v, σ', H', I.kK, r, q⟩
theorem C4.UO {st : List Stmt} {t : TS} (h : C4 X.UO st t) : C4 X st t := fun pins s σ H D I hw =>
 wpAny_mono (h pins s σ H D (I.tH _) hw) (fun _ _ q => q.kK) fun _ _ z => False.elim z
end
section
variable {X : Cx} {st : Stmt} {rest : List Stmt} {t u : TS} {e : Expr} {te : TE} {pos : Pos}
noncomputable def HL : TS := fun D σ H => D.nx σ H
noncomputable def KG (t u : TS) : TS := fun D σ H => t { D with nx := u D } σ H
theorem dU : C4 X [] HL := fun _ _ σ H _ I h => wpAny_execs_nil ⟨σ, H, I, h⟩
theorem aM (h1 : PS X st t) (h2 : C4 X rest u) : C4 X (st :: rest) (KG t u) := by
 intro pins s σ H D I h
 refine wpAny_execs_cons (d8 (h1 pins s σ H { D with nx := u D } I h) fun f s1 q => ?_)
 cases f with
 | next =>
  obtain ⟨σ', H', I', q⟩ := q
  exact h2 pins s1 σ' H' D I' q
 | ret v => exact q
 | brk => exact q
 | cont => exact q
theorem aZ (h1 : PS X st t) : C4 X [st] t := by
 intro pins s σ H D I h
 refine wpAny_execs_cons (d8 (h1 pins s σ H D I h) fun f s1 q => ?_)
 cases f with
 | next => exact wpAny_execs_nil q
 | ret v => exact q
 | brk => exact q
 | cont => exact q
theorem Inv.quiet {pins : List (Addr × Obj)} {σ : St} {H : Hp} {s : Shared} (I : Inv X pins σ H s) : interactive X.env = false := by simp [interactive, I.ok.kind]
noncomputable def G0 (te : TE) : TS := fun D σ H => te σ H fun _ H1 => D.nx σ H1
theorem nU (he : PE X e te) (hs : swapsWith e none pos.line X.env = pure false := by rfl) : PS X (.Expr e pos) (G0 te) := by
 intro pins s σ H D I h
 exact wpAny_Expr_any (d8 (he pins s σ H _ I h) fun v s1 ⟨x, H1, I1, r1, q1⟩ => ⟨σ, H1, I1, q1⟩) I.quiet hs
noncomputable def NX (te : TE) : TS := fun D σ H => te σ H D.rt
theorem cN (he : PE X e te) : PS X (.Return (some e) pos) (NX te) := by
 intro pins s σ H D I h
 exact wpAny_Return_some (d8 (he pins s σ H _ I h) fun v s1 ⟨x, H1, I1, r1, q1⟩ => ⟨x, σ, H1, I1, r1, q1⟩)
noncomputable def Q2 (c : TT) (t u : TS) : TS := fun D σ H => c σ H fun b H1 => if b = true then t D σ H1 else u D σ H1
theorem iC {c : Expr} {a b : List Stmt} {tc : TT} (hc : PT X c tc) (ha : C4 X a t) (hb : C4 X b u) : PS X (.If c a b pos) (Q2 tc t u) := by
 intro pins s σ H D I h
 refine wpAny_If (d8 (hc pins s σ H _ I h) fun d s1 ⟨H1, I1, q1⟩ => ?_)
 cases d with
 | true => exact ha pins s1 σ H1 D I1 q1
 | false => exact hb pins s1 σ H1 D I1 q1
end
noncomputable abbrev TG := V → St → Hp → (St → Hp → Prop) → Prop
noncomputable abbrev wY := List V → St → Hp → (St → Hp → Prop) → Prop
noncomputable def PG (X : Cx) (target : Expr) (t : TG) : Prop :=
 ∀ (pins : List (Addr × Obj)) (s : Shared) (σ : St) (H : Hp) (v : V) (u : Value) (Q : St → Hp → Prop), Inv X pins σ H s → RelV v u → t v σ H Q →
  wpAny (model X.prog X.w) X.A (assign target X.env u) (fun _ s' => ∃ σ' H', Inv X pins σ' H' s' ∧ Q σ' H') X.xe s
noncomputable def RL (X : Cx) (ts : List Expr) (t : wY) : Prop :=
 ∀ (pins : List (Addr × Obj)) (s : Shared) (σ : St) (H : Hp) (vs : List V) (us : List Value) (Q : St → Hp → Prop), Inv X pins σ H s → Vals vs us → t vs σ H Q →
  wpAny (model X.prog X.w) X.A (assignInOrder ((assignEach ts X.env).map (·.2)) us) (fun _ s' => ∃ σ' H', Inv X pins σ' H' s' ∧ Q σ' H') X.xe s
noncomputable abbrev ON := V → V → V → Hp → (Hp → Prop) → Prop
noncomputable def TU (X : Cx) (t : ON) : Prop :=
 ∀ (pins : List (Addr × Obj)) (s : Shared) (σ : St) (H : Hp) (o i v : V) (ov iv u : Value) (Q : Hp → Prop), Inv X pins σ H s → RelV o ov → RelV i iv → RelV v u → t o i v H Q →
  wpAny (model X.prog X.w) X.A (setItem ov iv u) (fun _ s' => ∃ H', Inv X pins σ H' s' ∧ Q H') X.xe s
section
variable {X : Cx} {pos : Pos}
noncomputable def nJ (i : Nat) : TG := fun v σ H Q => Q (σ.set i (some v)) H
theorem bM {i : Nat} {x : Str} (hN : X.N.Nodup) (hi : X.N[i]? = some x) (hx : Loc X.env.scope x) (hf : X.fn x = true ∨ X.env.scope.names.lookup x = some .local := by first | exact .inl rfl | exact .inr rfl | assumption) : PG X (.Name x pos) (nJ i) := by
 intro pins s σ H v u Q I r h
 exact wpAny_assign_Name (sI I hN hi hx r (fun s' I' => ⟨_, H, I', h⟩) hf)
noncomputable def QA : wY := fun vs σ H Q => vs = [] ∧ Q σ H
noncomputable def EB (t : TG) (u : wY) : wY := fun vs σ H Q => ∃ v r, vs = v :: r ∧ t v σ H fun σ' H' => u r σ' H' Q
theorem lO : RL X [] QA := by
 intro pins s σ H vs us Q I r h
 obtain ⟨e, h⟩ := h
 subst e
 cases r
 exact assignInOrder_nil ⟨σ, H, I, h⟩
theorem dB {e : Expr} {es : List Expr} {t : TG} {u : wY} (h1 : PG X e t) (h2 : RL X es u)
  (hs : (assignEach (e :: es) X.env).map (·.2) = assign e X.env :: (assignEach es X.env).map (·.2) := by rfl) : RL X (e :: es) (EB t u) := by
 intro pins s σ H vs us Q I r h
 obtain ⟨v, vr, e1, h⟩ := h
 subst e1
 cases r with
 | cons r rr =>
  rw [hs]
  refine assignInOrder_cons (d8 (h1 pins s σ H _ _ _ I r h) fun _ s1 ⟨σ1, H1, I1, q1⟩ => ?_)
  exact h2 pins s1 σ1 H1 _ _ Q I1 rr q1
noncomputable def FL (K : PySem.W.Frag) (n : Nat) (t : wY) : TG := fun v σ H Q => ∃ a xs, v = .ref a ∧ mB K H a xs ∧ xs.length = n ∧ t xs σ H Q
theorem JE {es : List Expr} {k : Nat} {t : wY} {n : Nat} (hc : X.calm = true) (h : RL X es t)
  (hn : (assignEach es X.env).length = n := by rfl) (hst : (assignEach es X.env).findIdx? (·.1) = none := by rfl) : PG X (.Tuple es k pos) (FL X.K n t) := by
 intro pins s σ H v u Q I r hw
 obtain ⟨a, xs, e1, hq, hl, hw⟩ := hw
 subst e1
 cases r
 obtain ⟨its, rv, ht, hz⟩ := I.tuple hq
 refine assign_Tuple_tuple (I.ok.hd hc) ht (by simp [hn, ← hl, rv.length]) hst fun h' hx => ?_
 have I1 : Inv X pins σ H { s with heap := h' } := I.kept (t' := s.toks) fun b o e => hx b o (Nat.ne_of_lt (Heap.lt_size e)) e
 exact h pins _ σ H xs _ Q I1 (by simpa using rv) hw
noncomputable def w5 (to ti : TE) (t : ON) : TG := fun v σ H Q => to σ H fun o H1 => ti σ H1 fun i H2 => t o i v H2 fun H3 => Q σ H3
theorem GC {o i : Expr} {to ti : TE} {t : ON} (ho : PE X o to) (hi : PE X i ti) (hs : TU X t)
  (ha : ∀ v, assign (.Subscript o i pos) X.env v = (do
   let ov ← holding [v] (eval o X.env)
   let iv ← holding [v, ov] (eval i X.env)
   standAt pos
   holding [v, ov, iv] (setItem ov iv v)
   release [v, ov, iv] []) := by intro _; rfl) : PG X (.Subscript o i pos) (w5 to ti t) := by
 intro pins s σ H v u Q I r h
 rw [ha]
 refine wpAny_bind (wpAny_holding (d8 (ho pins s σ H _ I h) fun ov s1 ⟨x, H1, I1, r1, q1⟩ => ?_))
 refine wpAny_bind (wpAny_holding (d8 (hi pins s1 σ H1 _ I1 q1) fun iv s2 ⟨y, H2, I2, r2, q2⟩ => ?_))
 refine wpAny_bind (wpAny_standAt (wpAny_bind (wpAny_holding (d8 (hs pins s2 σ H2 x y v ov iv u _ I2 r1 r2 r q2) fun _ s3 ⟨H3, I3, q3⟩ => ?_))))
 exact wpAny_release ⟨σ, H3, I3, q3⟩
noncomputable def u5 (te : TE) (g : TG) : TS := fun D σ H => te σ H fun x H1 => g x σ H1 D.nx
theorem wH {tg e : Expr} {te : TE} {g : TG} (he : PE X e te) (hg : PG X tg g) (hs : swapsWithSole [tg] e pos.line X.env = pure false := by rfl) (hw : swappedStores [tg] e X.env = pure none := by rfl)
  (h1 : (assignEach [tg] X.env).map (·.2) = [assign tg X.env] := by rfl) : PS X (.Assign [tg] e pos) (u5 te g) := by
 intro pins s σ H D I h
 refine wpAny_Assign_stores (d8 (he pins s σ H _ I h) fun v s1 ⟨x, H1, I1, r1, q1⟩ => ?_) hs hw
 rw [h1]
 exact d8 (hg pins s1 σ H1 x v _ I1 r1 q1) fun _ s2 q => q
theorem bL {i : Nat} {x : Str} {e : Expr} {te : TE} {pos' : Pos} (hN : X.N.Nodup) (hi : X.N[i]? = some x) (hx : Loc X.env.scope x) (he : PE X e te) (hs : swapsWith e (some (.Name x pos')) pos.line X.env = pure false := by rfl) (hf : X.fn x = true ∨ X.env.scope.names.lookup x = some .local := by first | exact .inl rfl | exact .inr rfl | assumption) :
  PS X (.Assign [.Name x pos'] e pos) (u5 te (nJ i)) := by
 intro pins s σ H D I h
 refine wpAny_Assign_Name (d8 (he pins s σ H _ I h) fun v s1 ⟨y, H1, I1, r1, q1⟩ => ?_) hs
 exact sI I1 hN hi hx r1 (fun s2 I2 => ⟨_, H1, I2, q1⟩) hf
end
section
variable {X : Cx} {pos : Pos}
end
structure It where
 go : Nat → Hp → Prop
 RE : Nat → Hp → V → Hp → Prop
 stop : Nat → Hp → Prop
noncomputable def oQ (X : Cx) (pins : List (Addr × Obj)) (H : Hp) (b : Addr) : Prop :=
 H b = none ∧ b ≠ X.env.locals ∧ b ∉ X.fs ∧ (b ∈ X.ex ∨ X.iR.heap.objs.size ≤ b) ∧ (∀ x c, X.env.cells.lookup x = some c → c ≠ b) ∧ ∀ p ∈ X.pn ++ pins, p.1 ≠ b
theorem Inv.wG {X : Cx} {pins : List (Addr × Obj)} {σ : St} {H H' : Hp} {s : Shared} {b : Addr} (I : Inv X pins σ H s) (hb : s.heap.objs.size ≤ b) (hn : H' b = none) : oQ X pins H' b := by
 refine ⟨hn, Nat.ne_of_gt (Nat.lt_of_lt_of_le I.lt hb), I.SX hb, .inr (Nat.le_trans I.sz hb), fun x c e z => ?_, fun p hp z => ?_⟩
 ·obtain ⟨v, q⟩ := I.cell x c e
  exact absurd (Nat.lt_of_lt_of_le q.lt (by rw [z]; exact hb)) (Nat.lt_irrefl _)
 ·exact absurd (Nat.lt_of_lt_of_le (Heap.lt_size (I.pin p hp).1) (by rw [z]; exact hb)) (Nat.lt_irrefl _)
structure Turn (P : Program) (w : World) (K : PySem.W.Frag) (tg : Expr) (J : It) (fp : List Addr) (it : Addr) (tn : Nat → Heap → Prop) : Prop where
 mem : it ∈ fp
 obj : ∀ i h, tn i h → ∀ b ∈ fp, ∃ o, h.get? b = some o ∧ ∀ v, o.data ≠ .cell v
 keep : ∀ i h h', tn i h → (∀ b ∈ fp, ∀ o, h.get? b = some o → h'.get? b = some o) → tn i h'
 item : ∀ (X : Cx), X.prog = P → X.w = w → X.K = K → X.calm = true → ∀ (i : Nat) (pins : List (Addr × Obj)) (s : Shared) (σ : St) (H : Hp) (E : Value → Shared → Prop), Inv X pins σ H s → (∀ b ∈ fp, oQ X pins H b) → tn i s.heap → J.go i H →
  wpAny (model P w) X.A (pyNext (.ref it)) (fun r s1 => ∃ u, r = some u ∧
   wpAny (model P w) X.A (letOwnedTupleGo tg (.ref it) u) (fun _ s2 => ∃ x H', Inv X pins σ H' s2 ∧ RelV x u ∧ J.RE i H x H' ∧ tn (i + 1) s2.heap ∧ ∀ b ∈ fp, H' b = none) E s1) E s
 done : ∀ (X : Cx), X.prog = P → X.w = w → X.K = K → X.calm = true → ∀ (i : Nat) (pins : List (Addr × Obj)) (s : Shared) (σ : St) (H : Hp) (E : Value → Shared → Prop), Inv X pins σ H s → (∀ b ∈ fp, oQ X pins H b) → tn i s.heap → J.stop i H →
  wpAny (model P w) X.A (pyNext (.ref it)) (fun r s1 => r = none ∧ Inv X pins σ H s1) E s
 self : ∀ (A : Around) (i : Nat) (s : Shared) (Q : Value → Shared → Prop) (E : Value → Shared → Prop), tn i s.heap → Q (.ref it) s → wpAny (model P w) A (pyIter (.ref it)) Q E s
noncomputable abbrev TI := St → Hp → (It → Hp → Prop) → Prop
noncomputable def WG (X : Cx) (pins : List (Addr × Obj)) (σ : St) (tg : Expr) (R : It → Hp → Prop) (itv : Value) (s2 : Shared) : Prop :=
 ∃ (it : Addr) (fp : List Addr) (tn : Nat → Heap → Prop) (J : It) (H' : Hp), itv = .ref it ∧ Inv X pins σ H' s2 ∧ Turn X.prog X.w X.K tg J fp it tn ∧ tn 0 s2.heap ∧ (∀ b ∈ fp, oQ X pins H' b) ∧ R J H'
noncomputable def PI (X : Cx) (tg iter : Expr) (wi : TI) : Prop :=
 ∀ (pins : List (Addr × Obj)) (s : Shared) (σ : St) (H : Hp) (R : It → Hp → Prop), Inv X pins σ H s → wi σ H R →
  wpAny (model X.prog X.w) X.A (eval iter X.env) (fun v s1 => wpAny (model X.prog X.w) X.A (pyIter v) (WG X pins σ tg R) X.xe s1) X.xe s
theorem xI {M : Model} {A : Around} {E : Value → Shared → Prop} {s : Shared} {tg : Expr} {it : Addr} {u : Value} {o : Obj} {n : String} {vs : Array Value} {Q : Unit → Shared → Prop} (ho : s.heap.get? it = some o) (hc : o.cls = .type n) (hd : o.data = .fields vs)
    (hn : ["enumerate", "zip", "dict_itemiterator", "dict_reverseitemiterator", "odict_iterator", "itertools.zip_longest", "itertools.pairwise"].contains n = false) (hQ : Q () s) : wpAny M A (letOwnedTupleGo tg (.ref it) u) Q E s := by
  unfold letOwnedTupleGo
  cases tg <;> first
    | exact wpAny_pure hQ
    | (cases u <;> first
        | exact wpAny_pure hQ
        | (refine wpAny_bind (wpAny_load ho ?_)
           rw [hc, hd]
           show wpAny M A (if (["enumerate", "zip", "dict_itemiterator", "dict_reverseitemiterator", "odict_iterator", "itertools.zip_longest", "itertools.pairwise"].contains n && vs[0]? == some (rawInt _)) = true then _ else _) Q E s
           rw [if_neg (by intro h; rw [hn, Bool.false_and] at h; cases h)]
           exact wpAny_pure hQ))
noncomputable def UI (K : PySem.W.Frag) (a : Addr) : It :=
 ⟨fun i H => ∃ xs x, iZ K H a xs ∧ xs[i]? = some x, fun i H x H' => H' = H ∧ ∀ xs, iZ K H a xs → xs[i]? = some x, fun i H => ∃ xs, iZ K H a xs ∧ xs.length ≤ i⟩
noncomputable def UC (K : PySem.W.Frag) (a : Addr) : It :=
 ⟨fun i H => ∃ xs x, mB K H a xs ∧ xs[i]? = some x, fun i H x H' => H' = H ∧ ∀ xs, mB K H a xs → xs[i]? = some x, fun i H => ∃ xs, mB K H a xs ∧ xs.length ≤ i⟩
noncomputable def RF (lo : Int) (n : Nat) : It := ⟨fun i _ => i < n, fun i H x H' => H' = H ∧ x = .int (lo + i), fun i _ => n ≤ i⟩
theorem DT {P : Program} {w : World} {K : PySem.W.Frag} {tg : Expr} (a it : Addr) : Turn P w K tg (UI K a) [it] it (fun i h => h.IsListIter it a i) where
 mem := by simp
 obj := fun i h st b hb => by
  have e : b = it := by simpa using hb
  subst e
  obtain ⟨o, e, c, d⟩ := st
  exact ⟨o, e, fun v z => by rw [d] at z; cases z⟩
 keep := fun i h h' st k => st.at fun o e => k it (by simp) o e
 item := by
  intro X hP hw hK hc i pins s σ H E I hf st hg
  subst hP hw hK
  obtain ⟨xs, x, hq, hx⟩ := hg
  obtain ⟨its, rv, p, hz⟩ := I.list hq
  obtain ⟨u, hu, ru⟩ := rv.get hx
  obtain ⟨f0, f1, f2, f3, f4, f5⟩ := hf it (by simp)
  refine wpAny_pyNext_list_item st p.isList (x := u) (by simpa using hu) fun h' st' sb => ?_
  have I1 : Inv X pins σ H { s with heap := h' } := I.turned (t' := s.toks) (fun b o hb e => (sb.2 b hb).trans e) f0 f1 f3 f4 f5
  obtain ⟨o, e, c, d⟩ := id st'
  exact ⟨u, rfl, xI (s := { s with heap := h' }) e c d (by decide) ⟨x, H, I1, ru, ⟨rfl, fun ys hy => by rw [I.y6 hy hq]; exact hx⟩, st', fun b hb => (hf b hb).1⟩⟩
 done := by
  intro X hP hw hK hc i pins s σ H E I hf st hg
  subst hP hw hK
  obtain ⟨xs, hq, hx⟩ := hg
  obtain ⟨its, rv, p, hz⟩ := I.list hq
  obtain ⟨f0, f1, f2, f3, f4, f5⟩ := hf it (by simp)
  have hl := rv.length
  exact wpAny_pyNext_list_end (I.ok.hd hc) st p.isList (by simp; omega) fun h' eb => ⟨rfl, I.turned (t' := s.toks) (fun b o hb e => eb b o hb e) f0 f1 f3 f4 f5⟩
 self := fun _ _ _ _ _ st h => wpAny_pyIter_listiter st h
theorem z7 {P : Program} {w : World} {K : PySem.W.Frag} {tg : Expr} (a it : Addr) : Turn P w K tg (UC K a) [it] it (fun i h => h.IsTupleIter it a i) where
 mem := by simp
 obj := fun i h st b hb => by
  have e : b = it := by simpa using hb
  subst e
  obtain ⟨o, e, c, d⟩ := st
  exact ⟨o, e, fun v z => by rw [d] at z; cases z⟩
 keep := fun i h h' st k => st.at fun o e => k it (by simp) o e
 item := by
  intro X hP hw hK hc i pins s σ H E I hf st hg
  subst hP hw hK
  obtain ⟨xs, x, hq, hx⟩ := hg
  obtain ⟨its, rv, p, hz⟩ := I.tuple hq
  obtain ⟨u, hu, ru⟩ := rv.get hx
  obtain ⟨f0, f1, f2, f3, f4, f5⟩ := hf it (by simp)
  refine wpAny_pyNext_tuple_item st (show s.heap.IsTuple a its.toArray from p) (x := u) (by simpa using hu) fun h' st' sb => ?_
  have I1 : Inv X pins σ H { s with heap := h' } := I.turned (t' := s.toks) (fun b o hb e => (sb.2 b hb).trans e) f0 f1 f3 f4 f5
  obtain ⟨o, e, c, d⟩ := id st'
  exact ⟨u, rfl, xI (s := { s with heap := h' }) e c d (by decide) ⟨x, H, I1, ru, ⟨rfl, fun ys hy => by rw [I.t8 hy hq]; exact hx⟩, st', fun b hb => (hf b hb).1⟩⟩
 done := by
  intro X hP hw hK hc i pins s σ H E I hf st hg
  subst hP hw hK
  obtain ⟨xs, hq, hx⟩ := hg
  obtain ⟨its, rv, p, hz⟩ := I.tuple hq
  obtain ⟨f0, f1, f2, f3, f4, f5⟩ := hf it (by simp)
  have hl := rv.length
  exact wpAny_pyNext_tuple_end (I.ok.hd hc) st (show s.heap.IsTuple a its.toArray from p) (by simp; omega) fun h' eb => ⟨rfl, I.turned (t' := s.toks) (fun b o hb e => eb b o hb e) f0 f1 f3 f4 f5⟩
 self := fun _ _ _ _ _ st h => wpAny_pyIter_tupleiter st h
theorem zC {P : Program} {w : World} {K : PySem.W.Frag} {tg : Expr} (it : Addr) (lo : Int) (n : Nat) : Turn P w K tg (RF lo n) [it] it (fun i h => IsRangeIter h it (lo + (i : Nat) * 1) ((n : Int) - (i : Nat)) 1) where
 mem := by simp
 obj := fun i h st b hb => by
  have e : b = it := by simpa using hb
  subst e
  exact ⟨_, st, fun v z => by
   have z' : Data.fields _ = Data.cell v := z
   cases z'⟩
 keep := fun i h h' st k => k it (by simp) _ st
 item := by
  intro X hP hw hK hc i pins s σ H E I hf st hg
  subst hP hw hK
  obtain ⟨f0, f1, f2, f3, f4, f5⟩ := hf it (by simp)
  have W := Walks.range (prog := X.prog) (w := X.w) (I.ok.hd hc) it lo 1 n
  refine W.item i s _ _ hg st fun v h' tk hv st' kk => ?_
  obtain ⟨t, rfl⟩ := hv
  have I1 : Inv X pins σ H { s with heap := h', toks := tk } := I.turned (fun b o hb e => kk b o (by simpa using hb) e) f0 f1 f3 f4 f5
  refine ⟨_, rfl, xI (s := { s with heap := h', toks := tk }) (n := "range_iterator") st' rfl rfl (by decide) ⟨.int (lo + i), H, I1, ⟨t, ?_⟩, ⟨rfl, rfl⟩, st', fun b hb => (hf b hb).1⟩⟩
  rw [Int.mul_one]
 done := by
  intro X hP hw hK hc i pins s σ H E I hf st hg
  subst hP hw hK
  obtain ⟨f0, f1, f2, f3, f4, f5⟩ := hf it (by simp)
  exact wpAny_pyNext_range_end (I.ok.hd hc) st (by have : n ≤ i := hg; omega) fun h' eb => ⟨rfl, I.turned (t' := s.toks) (fun b o hb e => eb b o hb e) f0 f1 f3 f4 f5⟩
 self := fun _ _ _ _ _ st h => wpAny_pyIter_rangeiter st h
end L2
namespace L2
open PySem PySem.Spec PyProof.Rows
section
variable {X : Cx} {tg : Expr}
theorem xG {pins : List (Addr × Obj)} {σ : St} {H : Hp} {s : Shared} {R : It → Hp → Prop} {E : Value → Shared → Prop} {lo hi : Int} {t u v : Tok} {tk : Nat} (I : Inv X pins σ H s) (h1 : -(2 ^ 62) ≤ lo) (h2 : lo < 2 ^ 62) (h3 : -(2 ^ 62) ≤ hi) (h4 : hi < 2 ^ 62)
  (q : R (RF lo (hi - lo).toNat) H) : wpAny (model X.prog X.w) X.A (pyIter (.ref s.heap.objs.size)) (WG X pins σ tg R) E { s with heap := s.heap.push { cls := .type "range", data := .fields #[.int lo t, .int hi u, .int 1 v] }, toks := tk } := by
 refine wpAny_pyIter_range (IsRange.new ..) (small_one h1 h2 h3 h4) ?_
 have I1 : Inv X pins σ H { s with heap := s.heap.push { cls := .type "range", data := .fields #[.int lo t, .int hi u, .int 1 v] }, toks := tk } := I.kept fun b o e => Heap.get?_push_of_some _ e
 refine ⟨(s.heap.push { cls := .type "range", data := .fields #[.int lo t, .int hi u, .int 1 v] }).objs.size, [(s.heap.push { cls := .type "range", data := .fields #[.int lo t, .int hi u, .int 1 v] }).objs.size], _, _, H, rfl,
  I1.kept (t' := tk) fun b o e => Heap.get?_push_of_some _ e, zC _ lo (hi - lo).toNat, ?_, fun b hb => ?_, q⟩
 ·have e1 : lo + ((0 : Nat) : Int) * 1 = lo := by simp
  have e2 : (((hi - lo).toNat : Nat) : Int) - ((0 : Nat) : Int) = Builtin.Range.rangeSize lo hi 1 := by rw [rangeSize_one]; split <;> omega
  show IsRangeIter _ _ (lo + ((0 : Nat) : Int) * 1) ((((hi - lo).toNat : Nat) : Int) - ((0 : Nat) : Int)) 1
  rw [e1, e2]
  exact Heap.get?_push_size _ rfl
 ·have e : b = (s.heap.push { cls := .type "range", data := .fields #[.int lo t, .int hi u, .int 1 v] }).objs.size := by simpa using hb
  subst e
  exact I1.wG (Nat.le_refl _) (I1.cI.fresh (Nat.le_refl _))
noncomputable def MR (ta : TA) : TI := fun σ H R => ta σ H fun vs H1 => ∃ j : Int, vs = [.int j] ∧ -(2 ^ 62) ≤ j ∧ j < 2 ^ 62 ∧ R (RF 0 j.toNat) H1
noncomputable def MW (ta : TA) : TI := fun σ H R => ta σ H fun vs H1 => ∃ i j : Int, vs = [.int i, .int j] ∧ (-(2 ^ 62) ≤ i ∧ i < 2 ^ 62 ∧ -(2 ^ 62) ≤ j ∧ j < 2 ^ 62) ∧ R (RF i (j - i).toNat) H1
theorem fJ {a : Expr} {ta : TA} {p pos : Pos} (hg : Gl X "range") (hm : X.mg "range" = none) (ha : PA X [a] ta) (hs : starEach [a] X.env = [(false, eval a X.env)] := by rfl) : PI X tg (.Call (.Name "range" p) [a] [] pos) (MR ta) := by
 intro pins s σ H R I h
 refine Call_ (sC I hg hm boot_range (PyProof.Rows.callWith_type1 (d8 (ha pos pins s σ H _ I h) fun us s1 ⟨vs, H1, I1, r1, q1⟩ => ?_) hs rfl))
 obtain ⟨j, e, q1, q2, q⟩ := q1
 subst e
 cases r1 with
 | cons r rr =>
  cases rr
  obtain ⟨t, rfl⟩ := r
  exact call_range_1 (xG I1 (by omega) (by omega) q1 q2 (by simpa using q))
theorem DK {a b : Expr} {ta : TA} {p pos : Pos} (hg : Gl X "range") (hm : X.mg "range" = none) (ha : PA X [a, b] ta) (hs : starEach [a, b] X.env = [(false, eval a X.env), (false, eval b X.env)] := by rfl) (hs2 : starEach [b] X.env = [(false, eval b X.env)] := by rfl) :
  PI X tg (.Call (.Name "range" p) [a, b] [] pos) (MW ta) := by
 intro pins s σ H R I h
 refine Call_ (sC I hg hm boot_range (PyProof.Rows.callWith_type1 (d8 (ha pos pins s σ H _ I h) fun us s1 ⟨vs, H1, I1, r1, q1⟩ => ?_) (by rw [hs, hs2]) (by rw [hs2]; rfl)))
 obtain ⟨i, j, e, ⟨q1, q2, q3, q4⟩, q⟩ := q1
 subst e
 cases r1 with
 | cons r rr =>
  cases rr with
  | cons r' rr =>
   cases rr
   obtain ⟨t, rfl⟩ := r
   obtain ⟨t', rfl⟩ := r'
   exact call_range_2 (xG I1 q1 q2 q3 q4 q)
noncomputable def NY (wi : TI) (g : TG) (tb : TS) : TS := fun D σ H => wi σ H fun J H1 => ∃ W : Nat → Nat → St → Hp → Prop, (∃ m, W 0 m σ H1) ∧ ∀ i m σ H, W i m σ H →
 (J.stop i H ∧ D.nx σ H) ∨ (J.go i H ∧ ∃ N : St → Hp → Prop, (∀ σ' H', N σ' H' → ∃ m', m' < m ∧ W (i + 1) m' σ' H') ∧ ∀ x H', J.RE i H x H' → g x σ H' fun σ2 H2 => tb { D with nx := N, ct := N, bk := D.nx } σ2 H2)
noncomputable def m7 (fp : List Addr) (h : Heap) : List (Addr × Obj) := fp.filterMap fun b => (h.get? b).map fun o => (b, o)
theorem fA {fp : List Addr} {h : Heap} {b : Addr} {o : Obj} (hb : b ∈ fp) (e : h.get? b = some o) : (b, o) ∈ m7 fp h := List.mem_filterMap.mpr ⟨b, hb, by rw [e]; rfl⟩
theorem DU {fp : List Addr} {h : Heap} {p : Addr × Obj} (hp : p ∈ m7 fp h) : p.1 ∈ fp ∧ h.get? p.1 = some p.2 := by
 obtain ⟨b, hb, e⟩ := List.mem_filterMap.mp hp
 cases q : h.get? b with
 | none => rw [q] at e; cases e
 | some o =>
  rw [q] at e
  have e' : (b, o) = p := Option.some.inj e
  subst e'
  exact ⟨hb, q⟩
theorem Inv.pinned {pins : List (Addr × Obj)} {σ : St} {H : Hp} {s : Shared} {fp : List Addr} (I : Inv X pins σ H s) (hf : ∀ b ∈ fp, oQ X pins H b) (ho : ∀ b ∈ fp, ∃ o, s.heap.get? b = some o ∧ ∀ v, o.data ≠ .cell v) : Inv X (pins ++ m7 fp s.heap) σ H s :=
 I.qO fun p hp => (List.mem_append.mp hp).elim (fun z => I.pin p (List.mem_append_right _ z)) fun z => by
  obtain ⟨hb, e⟩ := DU z
  obtain ⟨f0, f1, f2, _⟩ := hf p.1 hb
  obtain ⟨o, e', d⟩ := ho p.1 hb
  rw [e] at e'; cases e'
  exact ⟨e, f0, f1, f2, d⟩
theorem Inv.jP {pins pl : List (Addr × Obj)} {σ : St} {H : Hp} {s : Shared} (I : Inv X (pins ++ pl) σ H s) : Inv X pins σ H s := I.qO fun p hp => I.pin p (List.mem_append_right _ (List.mem_append_left _ hp))
theorem jD {iter : Expr} {body : List Stmt} {wi : TI} {g : TG} {tb : TS} {pos : Pos} (hp : PassesOwn (model X.prog X.w) X.A X.env X.xe) (hc : X.calm = true) (hi : PI X tg iter wi) (hg : PG X tg g) (hb : C4 X body tb)
  (hs : ∀ x, foldedSetIterable iter X.env x = pure x := by intro _; rfl) : PS X (.For tg iter body [] pos) (NY wi g tb) := by
 intro pins s σ H D I h
 refine wpAny_For (d8 (hi pins s σ H _ I h) fun v s1 h1 => d8 h1 fun itv s2 h2 => ?_) hs
 obtain ⟨it, fp, tn, J, H2, e, I2, T, st2, f2, W, ⟨m0, w0⟩, turn⟩ := h2
 subst e
 have stat : ∀ {H' : Hp}, (∀ b ∈ fp, H' b = none) → ∀ b ∈ fp, oQ X pins H' b := fun hn b hb => ⟨hn b hb, (f2 b hb).2⟩
 refine codeAny_forLoop_any (fun n s' => ∃ i σ' H', Inv X pins σ' H' s' ∧ tn i s'.heap ∧ (∀ b ∈ fp, H' b = none) ∧ W i n σ' H') ?_ m0 ⟨0, σ, H2, I2, st2, fun b hb => (f2 b hb).1, w0⟩
 rintro n s3 ⟨i, σ3, H3, I3, st3, fr3, w3⟩
 rcases turn i n σ3 H3 w3 with ⟨stop, qn⟩ | ⟨go, N, hN, step⟩
 ·refine wpAny_passesOwn hp (d8 (T.done X rfl rfl rfl hc i pins s3 σ3 H3 X.xe I3 (stat fr3) st3 stop) fun r s4 ⟨hr, I4⟩ => ?_)
  subst hr
  exact wpAny_execs_nil ⟨σ3, H3, I4, qn⟩
 ·refine wpAny_passesOwn hp (d8 (T.item X rfl rfl rfl hc i pins s3 σ3 H3 X.xe I3 (stat fr3) st3 go) fun r s4 ⟨u, hr, h4⟩ => ?_)
  subst hr
  refine wpAny_passesOwn hp (d8 h4 fun _ s5 ⟨x, H5, I5, r5, y5, st5, fr5⟩ => ?_)
  have I5' := I5.pinned (stat fr5) (T.obj _ _ st5)
  refine wpAny_passesOwn hp (d8 (hg _ s5 σ3 H5 x u _ I5' r5 (step x H5 y5)) fun _ s6 ⟨σ6, H6, I6, q6⟩ => ?_)
  refine wpAny_passesOwn hp (d8 (hb _ s6 σ6 H6 _ I6 q6) fun f s7 q7 => ?_)
  have again : ∀ {σ7 : St} {H7 : Hp}, Inv X (pins ++ m7 fp s5.heap) σ7 H7 s7 → N σ7 H7 → ∃ m, m < n ∧ ∃ i σ' H', Inv X pins σ' H' s7 ∧ tn i s7.heap ∧ (∀ b ∈ fp, H' b = none) ∧ W i m σ' H' := fun {σ7 H7} I7 n7 => by
   obtain ⟨m', hm, w7⟩ := hN σ7 H7 n7
   refine ⟨m', hm, i + 1, σ7, H7, I7.jP, T.keep _ _ _ st5 fun b hb o e => (I7.pin (b, o) (List.mem_append_right _ (List.mem_append_right _ (fA hb e)))).1, fun b hb => ?_, w7⟩
   obtain ⟨o, e, d⟩ := T.obj _ _ st5 b hb
   exact (I7.pin (b, o) (List.mem_append_right _ (List.mem_append_right _ (fA hb e)))).2.1
  cases f with
  | next => obtain ⟨σ7, H7, I7, n7⟩ := q7; exact again I7 n7
  | cont => obtain ⟨σ7, H7, I7, n7⟩ := q7; exact again I7 n7
  | brk => obtain ⟨σ7, H7, I7, q7⟩ := q7; exact ⟨σ7, H7, I7.jP, q7⟩
  | ret v => obtain ⟨x7, σ7, H7, I7, r7, q7⟩ := q7; exact ⟨x7, σ7, H7, I7.jP, r7, q7⟩
end
end L2
namespace L2
open PySem PySem.Spec PyProof.Rows
noncomputable abbrev R2 := V → V → Hp → VK → Prop
noncomputable def iK (X : Cx) (f : Value → Value → Sem Value) (r : R2) : Prop :=
 ∀ (pins : List (Addr × Obj)) (s : Shared) (σ : St) (H : Hp) (x y : V) (v u : Value) (Q : VK), Inv X pins σ H s → RelV x v → RelV y u → r x y H Q →
  wpAny (model X.prog X.w) X.A (f v u) (EP X pins σ Q) X.xe s
noncomputable def VA (X : Cx) (f : Value → Sem Value) (r : V → Hp → VK → Prop) : Prop :=
 ∀ (pins : List (Addr × Obj)) (s : Shared) (σ : St) (H : Hp) (x : V) (v : Value) (Q : VK), Inv X pins σ H s → RelV x v → r x H Q →
  wpAny (model X.prog X.w) X.A (f v) (EP X pins σ Q) X.xe s
noncomputable def dN (X : Cx) (f : Value) (r : List V → Hp → VK → Prop) : Prop :=
 ∀ (pins : List (Addr × Obj)) (s : Shared) (σ : St) (H : Hp) (xs : List V) (us : List Value) (Q : VK), Inv X pins σ H s → Vals xs us → r xs H Q →
  wpAny (model X.prog X.w) X.A (call f us) (EP X pins σ Q) X.xe s
noncomputable def U5 (X : Cx) (r : V → Hp → (Bool → Hp → Prop) → Prop) : Prop :=
 ∀ (pins : List (Addr × Obj)) (s : Shared) (σ : St) (H : Hp) (x : V) (v : Value) (Q : Bool → Hp → Prop), Inv X pins σ H s → RelV x v → r x H Q →
  wpAny (model X.prog X.w) X.A (truthy v) (TP X pins σ Q) X.xe s
noncomputable def TK (r : R2) (ta tb : TE) : TE := fun σ H Q => ta σ H fun x H1 => tb σ H1 fun y H2 => r x y H2 Q
noncomputable def V5 (r : V → Hp → VK → Prop) (ta : TE) : TE := fun σ H Q => ta σ H fun x H1 => r x H1 Q
noncomputable def rI (C : Int → Int → Prop) (g : Int → Int → V) : R2 := fun x y H Q => ∃ i j, x = .int i ∧ y = .int j ∧ C i j ∧ Q (g i j) H
noncomputable def A8 (g : Int → Int → V) : R2 := fun x y H Q => ∃ i j, x = .int i ∧ y = .int j ∧ Q (g i j) H
noncomputable def rU (g : Int → V) : V → Hp → VK → Prop := fun x H Q => ∃ i, x = .int i ∧ Q (g i) H
section
variable {X : Cx} {a b c : Expr} {ta tb tc : TE} {pos : Pos}
theorem PX (ha : PE X a ta) (hb : PE X b tb) {pins : List (Addr × Obj)} {s : Shared} {σ : St} {H : Hp} {R : V → V → Hp → Prop} (I : Inv X pins σ H s)
  (h : ta σ H fun x H1 => tb σ H1 fun y H2 => R x y H2) {Q : Value → Shared → Prop} {f : Value → Value → Sem Value}
  (hf : ∀ v u s2 x y H2, Inv X pins σ H2 s2 → RelV x v → RelV y u → R x y H2 → wpAny (model X.prog X.w) X.A (f v u) Q X.xe s2) :
  wpAny (model X.prog X.w) X.A (eval a X.env) (fun v s₁ => wpAny (model X.prog X.w) X.A (eval b X.env) (fun u s₂ => wpAny (model X.prog X.w) X.A (f v u) Q X.xe s₂) X.xe s₁) X.xe s := by
 refine d8 (ha pins s σ H _ I h) fun v s1 ⟨x, H1, I1, r1, q1⟩ => ?_
 refine d8 (hb pins s1 σ H1 _ I1 q1) fun u s2 ⟨y, H2, I2, r2, q2⟩ => ?_
 exact hf v u s2 x y H2 I2 r1 r2 q2
theorem bZ {op : Operator} {r : R2} (ho : iK X (binaryOp op) r) (ha : PE X a ta) (hb : PE X b tb) : PE X (.BinOp a op b pos) (TK r ta tb) := by
 intro pins s σ H Q I h
 exact wpAny_BinOp (PX ha hb I h fun v u s2 x y H2 I2 rx ry q => ho pins s2 σ H2 x y v u Q I2 rx ry q)
theorem M4 {op : UnaryOp} {r : V → Hp → VK → Prop} (ho : VA X (unaryOp op) r) (ha : PE X a ta) : PE X (.UnaryOp op a pos) (V5 r ta) := by
 intro pins s σ H Q I h
 exact UnaryOp_ (d8 (ha pins s σ H _ I h) fun v s1 ⟨x, H1, I1, r1, q1⟩ => ho pins s1 σ H1 x v Q I1 r1 q1)
theorem S0 {f : Value → Value → Sem Value} {C : Int → Int → Prop} {g : Int → Int → Int}
  (rule : ∀ (i j : Int) (t u : Tok) (s : Shared) (Q : Value → Shared → Prop) (E : Value → Shared → Prop), C i j → Q (.int (g i j) s.toks) { s with toks := s.toks + 1 } → wpAny (model X.prog X.w) X.A (f (.int i t) (.int j u)) Q E s) :
  iK X f (rI C fun i j => .int (g i j)) := by
 intro pins s σ H x y v u Q I rx ry h
 obtain ⟨i, j, rfl, rfl, hc, q⟩ := h
 obtain ⟨t, rfl⟩ := rx
 obtain ⟨t', rfl⟩ := ry
 exact rule i j t t' s _ _ hc ⟨.int (g i j), H, I.tok _, ⟨_, rfl⟩, q⟩
theorem RZ {f : Value → Value → Sem Value} {g : Int → Int → Int}
  (rule : ∀ (i j : Int) (t u : Tok) (s : Shared) (Q : Value → Shared → Prop) (E : Value → Shared → Prop), Q (.int (g i j) s.toks) { s with toks := s.toks + 1 } → wpAny (model X.prog X.w) X.A (f (.int i t) (.int j u)) Q E s) :
  iK X f (A8 fun i j => .int (g i j)) := by
 intro pins s σ H x y v u Q I rx ry h
 obtain ⟨i, j, rfl, rfl, q⟩ := h
 obtain ⟨t, rfl⟩ := rx
 obtain ⟨t', rfl⟩ := ry
 exact rule i j t t' s _ _ ⟨.int (g i j), H, I.tok _, ⟨_, rfl⟩, q⟩
theorem NJ {f : Value → Value → Sem Value} {g : Int → Int → Bool}
  (rule : ∀ (i j : Int) (t u : Tok) (s : Shared) (Q : Value → Shared → Prop) (E : Value → Shared → Prop), Q (.bool (g i j)) s → wpAny (model X.prog X.w) X.A (f (.int i t) (.int j u)) Q E s) :
  iK X f (A8 fun i j => .bl (g i j)) := by
 intro pins s σ H x y v u Q I rx ry h
 obtain ⟨i, j, rfl, rfl, q⟩ := h
 obtain ⟨t, rfl⟩ := rx
 obtain ⟨t', rfl⟩ := ry
 exact rule i j t t' s _ _ ⟨.bl (g i j), H, I, rfl, q⟩
noncomputable def JV (i j : Int) : Prop := (-(2 ^ 64) < i ∧ i < 2 ^ 64) ∨ (-(2 ^ 64) < j ∧ j < 2 ^ 64)
theorem JV.ok {i j : Int} (h : JV i j) : IntMulOk i j := by
 rcases h with ⟨h1, h2⟩ | ⟨h1, h2⟩
 ·exact .of_left (intBits_le_64 h1 h2)
 ·exact .of_right (intBits_le_64 h1 h2)
theorem O0 : iK X (binaryOp .Add) (A8 fun i j => .int (i + j)) := RZ fun _ _ _ _ _ _ _ q => add_int q
theorem IY : iK X (binaryOp .Sub) (A8 fun i j => .int (i - j)) := RZ fun _ _ _ _ _ _ _ q => sub_int q
theorem lE : iK X (binaryOp .Mult) (rI JV fun i j => .int (i * j)) := S0 fun _ _ _ _ _ _ _ hc q => mul_int q hc.ok
theorem jF : iK X (binaryOp .Mod) (rI (fun _ j => 0 < j) fun i j => .int (i % j)) := S0 fun i j _ _ _ _ _ hc q => by
 have h1 : (0 : Int) < j := hc
 exact mod_int' (by omega) (by rw [Int.fmod_eq_emod_of_nonneg i (by omega)]; exact q)
theorem WQ {f : Value → Sem Value} {g : Int → Int}
  (rule : ∀ (i : Int) (t : Tok) (s : Shared) (Q : Value → Shared → Prop) (E : Value → Shared → Prop), Q (.int (g i) s.toks) { s with toks := s.toks + 1 } → wpAny (model X.prog X.w) X.A (f (.int i t)) Q E s) :
  VA X f (rU fun i => .int (g i)) := by
 intro pins s σ H x v Q I rx h
 obtain ⟨i, rfl, q⟩ := h
 obtain ⟨t, rfl⟩ := rx
 exact rule i t s _ _ ⟨.int (g i), H, I.tok _, ⟨_, rfl⟩, q⟩
theorem FH : VA X (unaryOp .USub) (rU fun i => .int (-i)) := WQ fun _ _ _ _ _ q => neg_int q
end
section
variable {X : Cx} {a b c : Expr} {ta tb tc : TE} {pos : Pos}
theorem iS {pins : List (Addr × Obj)} {σ : St} {H : Hp} {s : Shared} {Q : VK} {k k' : Bool} (I : Inv X pins σ H s) (q : Q (.bl k) H) (e : k = k') : EP X pins σ Q (.bool k') s := by
 subst e
 exact ⟨.bl k, H, I, rfl, q⟩
theorem SM : iK X (compareOp .Lt) (A8 fun i j => .bl (decide (i < j))) := NJ fun _ _ _ _ _ _ _ q => lt_int q
theorem ES : iK X (compareOp .Gt) (A8 fun i j => .bl (decide (j < i))) := NJ fun _ _ _ _ _ _ _ q => gt_int q
theorem S8 : iK X (compareOp .GtE) (A8 fun i j => .bl (decide (j ≤ i))) := NJ fun _ _ _ _ _ _ _ q => ge_int q
theorem CK : iK X (compareOp .Lt) (fun x y H Q => ∃ i j, x = .str i ∧ y = .str j ∧ Q (.bl (decide (i.cps.toList < j.cps.toList))) H) := by
 intro pins s σ H x y v u Q I rx ry h
 obtain ⟨i, j, rfl, rfl, q⟩ := h
 obtain ⟨t, rfl⟩ := rx
 obtain ⟨t', rfl⟩ := ry
 exact lt_str (iS I q rfl)
theorem C7 : iK X (compareOp .In) (fun x y H Q => ∃ i j, x = .str i ∧ y = .str j ∧ Q (.bl (!(Builtin.Str.occurrences j i 0 j.length 1).isEmpty)) H) := by
 intro pins s σ H x y v u Q I rx ry h
 obtain ⟨i, j, rfl, rfl, q⟩ := h
 obtain ⟨t, rfl⟩ := rx
 obtain ⟨t', rfl⟩ := ry
 exact in_str (iS I q rfl)
theorem OH : iK X (compareOp .Is) (fun x y H Q => y = .bJ ∧ Q (.bl (decide (x = .bJ))) H) := by
 intro pins s σ H x y v u Q I rx ry h
 obtain ⟨rfl, q⟩ := h
 cases ry
 refine is_none_gen (iS I q ?_)
 cases x <;> first
  | (cases rx; rfl)
  | (obtain ⟨t, rfl⟩ := rx; rfl)
theorem vI : iK X (compareOp .NotIn) (fun x y H Q => ∃ i j, x = .str i ∧ y = .str j ∧ Q (.bl (!(!(Builtin.Str.occurrences j i 0 j.length 1).isEmpty))) H) := by
 intro pins s σ H x y v u Q I rx ry h
 obtain ⟨i, j, rfl, rfl, q⟩ := h
 obtain ⟨t, rfl⟩ := rx
 obtain ⟨t', rfl⟩ := ry
 exact notIn_str (iS I q rfl)
theorem eC (b : Expr) {op : CmpOp} (h : op ≠ .In := by decide) (h2 : op ≠ .NotIn := by decide) : behindInMarks op b = false := by
 have e1 : (op == CmpOp.In) = false := by cases op <;> first | rfl | exact absurd rfl h
 have e2 : (op == CmpOp.NotIn) = false := by cases op <;> first | rfl | exact absurd rfl h2
 cases b <;> simp [behindInMarks, e1, e2]
theorem qF {op : CmpOp} {r : R2} (ho : iK X (compareOp op) r) (ha : PE X a ta) (hb : PE X b tb) (hm : behindInMarks op b = false) : PE X (.Compare a [op] [b] pos) (TK r ta tb) := by
 intro pins s σ H Q I h
 exact wpAny_Compare1 (PX ha hb I h fun v u s2 x y H2 I2 rx ry q => ho pins s2 σ H2 x y v u Q I2 rx ry q) hm
noncomputable def MY (t : TE) : TT := fun σ H Q => t σ H fun x H' => ∃ k, x = .bl k ∧ Q k H'
theorem cG {op : CmpOp} {r : R2} (ho : iK X (compareOp op) r) (ha : PE X a ta) (hb : PE X b tb) (hm : behindInMarks op b = false) : PT X (.Compare a [op] [b] pos) (MY (TK r ta tb)) := by
 intro pins s σ H Q I h
 refine wpAny_isTrue_Compare1 (d8 (ha pins s σ H _ I h) fun v s1 ⟨x, H1, I1, r1, q1⟩ => d8 (hb pins s1 σ H1 _ I1 q1) fun u s2 ⟨y, H2, I2, r2, q2⟩ =>
  d8 (ho pins s2 σ H2 x y v u _ I2 r1 r2 q2) fun c s3 ⟨z, H3, I3, r3, k, e, q3⟩ => ?_) hm
 subst e
 cases r3
 exact wpAny_truthy_bool ⟨H3, I3, q3⟩
noncomputable def L9 (K : PySem.W.Frag) (x : V) (H : Hp) (k : Bool) : Prop :=
 match x with
 | .bJ => k = false
 | .bl b => k = b
 | .int i => k = (i != 0)
 | .str y => y.length ≤ sizeLine ∧ k = ((y.length : Int) != 0)
 | .SI y => y.size ≤ sizeLine ∧ k = ((y.size : Int) != 0)
 | .ref p => (∃ xs, iZ K H p xs ∧ k = !xs.isEmpty) ∨ (∃ xs, mB K H p xs ∧ k = !xs.isEmpty) ∨ ∃ kvs, H p = some (.dK kvs) ∧ k = !kvs.isEmpty
 | _ => False
theorem zF {κ : Type} {kvs : List (κ × V)} {vs : List (κ × Value)} (r : KV kvs vs) : (!vs.isEmpty) = !kvs.isEmpty := by
 cases r <;> rfl
theorem rL {xs : List V} {its : List Value} (r : Vals xs its) : (!its.toArray.isEmpty) = !xs.isEmpty := by
 cases r <;> simp
theorem m6 : (sizeLine : Nat) < 2 ^ 63 := by rw [sizeLine_eq]; decide
theorem QY : U5 X (fun x H Q => ∃ k, L9 X.K x H k ∧ Q k H) := by
 intro pins s σ H x v Q I rx h
 obtain ⟨k, e, q⟩ := h
 have hl := m6
 have hs : sizeLine = 16777216 := sizeLine_eq
 cases x with
 | bJ =>
  cases rx
  have e' : k = false := e
  subst e'
  exact truthy_none ⟨H, I, q⟩
 | bl b =>
  cases rx
  have e' : k = b := e
  subst e'
  exact wpAny_truthy_bool ⟨H, I, q⟩
 | int i =>
  obtain ⟨t, rfl⟩ := rx
  have e' : k = (i != 0) := e
  subst e'
  exact PySem.P.truthy_int ⟨H, I, q⟩
 | str y =>
  obtain ⟨t, rfl⟩ := rx
  obtain ⟨hy, e'⟩ : y.length ≤ sizeLine ∧ k = ((y.length : Int) != 0) := e
  subst e'
  exact PySem.P.truthy_str (by omega) ⟨H, I.tok _, q⟩
 | SI y =>
  obtain ⟨t, rfl⟩ := rx
  obtain ⟨hy, e'⟩ : y.size ≤ sizeLine ∧ k = ((y.size : Int) != 0) := e
  subst e'
  exact PySem.W.truthy_bytes (by omega) ⟨H, I.tok _, q⟩
 | ref p =>
  cases rx
  have e' : (∃ xs, iZ X.K H p xs ∧ k = !xs.isEmpty) ∨ (∃ xs, mB X.K H p xs ∧ k = !xs.isEmpty) ∨ ∃ kvs, H p = some (.dK kvs) ∧ k = !kvs.isEmpty := e
  rcases e' with ⟨xs, hx, e'⟩ | ⟨xs, hx, e'⟩ | ⟨kvs, hx, e'⟩
  ·subst e'
   obtain ⟨its, r, pl, hz⟩ := I.list hx
   have hlen := r.length
   exact wpAny_truthy_list pl.isList (by simp only [List.size_toArray]; omega) ⟨H, I.tok _, by rw [rL r]; exact q⟩
  ·subst e'
   obtain ⟨its, r, pl, hz⟩ := I.tuple hx
   have hlen := r.length
   exact truthy_tuple pl (by simp only [List.size_toArray]; omega) ⟨H, I.tok _, by rw [rL r]; exact q⟩
  ·subst e'
   obtain ⟨hz, hS, vs, r, m⟩ : kvs.length ≤ sizeLine ∧ (p == sysModules) = false ∧ ∃ vs, KV kvs vs ∧ s.heap.DictOf (cM X.prog X.w) p vs := I.cI p _ hx
   have hlen : kvs.length = vs.length := Paired.length r
   exact wpAny_truthy_dict hS m (by omega) ⟨H, I.tok _, by rw [zF r]; exact q⟩
 | _ => exact (show False from e).elim
theorem G2 (ha : PE X a ta) (he : ∀ whole, isTrue a X.env whole = (do let v ← whole; standAt a.pos; holding [v] (truthy v))) :
  PT X a (fun σ H Q => ta σ H fun x H' => ∃ k, L9 X.K x H' k ∧ Q k H') := by
 intro pins s σ H Q I h
 exact isTrue_plain (d8 (ha pins s σ H _ I h) fun v s1 ⟨x, H1, I1, r1, q1⟩ => QY pins s1 σ H1 x v Q I1 r1 q1) (he _)
theorem zK : iK X (binaryOp .Add) (fun x y H Q => ∃ i j, x = .str i ∧ y = .str j ∧ i.length + j.length ≤ sizeLine ∧ Q (.str (i ++ j)) H) := by
 intro pins s σ H x y v u Q I rx ry h
 obtain ⟨i, j, rfl, rfl, hz, q⟩ := h
 obtain ⟨t, rfl⟩ := rx
 obtain ⟨t', rfl⟩ := ry
 exact add_str (fun t' tk => ⟨.str (i ++ j), H, I.tok _, ⟨_, rfl⟩, q⟩) hz
theorem vals1 {x : V} {us : List Value} (r : Vals [x] us) : ∃ u, us = [u] ∧ RelV x u := by
 cases r with
 | cons r1 r2 => cases r2; exact ⟨_, rfl, r1⟩
theorem vals2 {x y : V} {us : List Value} (r : Vals [x, y] us) : ∃ u w', us = [u, w'] ∧ RelV x u ∧ RelV y w' := by
 cases r with
 | cons r1 r2 =>
  cases r2 with
  | cons r3 r4 => cases r4; exact ⟨_, _, rfl, r1, r3⟩
theorem DZ (hc : X.calm = true) : dN X (.builtin "min") (fun xs H Q => ∃ i j, xs = [.int i, .int j] ∧ Q (.int (if j < i then j else i)) H) := by
 intro pins s σ H xs us Q I r h
 obtain ⟨i, j, rfl, q⟩ := h
 obtain ⟨u, w', rfl, ⟨t, rfl⟩, ⟨t', rfl⟩⟩ := vals2 r
 refine min_two_ints (I.ok.hd hc) fun h' tk k => ⟨_, H, I.kept k, ?_, q⟩
 by_cases hj : j < i
 ·rw [if_pos hj, if_pos hj]; exact ⟨_, rfl⟩
 ·rw [if_neg hj, if_neg hj]; exact ⟨_, rfl⟩
theorem CQ : dN X (.type "int") (fun xs H Q => (∃ i, xs = [.int i] ∧ Q (.int i) H) ∨ ∃ k, xs = [.bl k] ∧ Q (.int (if k then 1 else 0)) H) := by
 intro pins s σ H xs us Q I r h
 rcases h with ⟨i, rfl, q⟩ | ⟨k, rfl, q⟩
 ·obtain ⟨u, rfl, t, rfl⟩ := vals1 r
  exact call_int_int ⟨.int i, H, I, ⟨_, rfl⟩, q⟩
 ·obtain ⟨u, rfl, r1⟩ := vals1 r
  cases r1
  exact call_int_bool ⟨.int (if k then 1 else 0), H, I.tok _, ⟨_, rfl⟩, q⟩
theorem oN : dN X (.type "str") (fun xs H Q => ∃ i, xs = [.int i] ∧ i.natAbs.log2 < 1920 ∧ Q (.str (toString i)) H) := by
 intro pins s σ H xs us Q I r h
 obtain ⟨i, rfl, hz, q⟩ := h
 obtain ⟨u, rfl, t, rfl⟩ := vals1 r
 exact PySem.P.str_of_int hz ⟨.str _, H, I.tok _, ⟨_, rfl⟩, q⟩
end
end L2
namespace L2
open PySem PySem.Spec PyProof.Rows
structure WI (h : Heap) (x dx C : Addr) (mA : Str → Option Value) : Prop where
 obj : h.get? x = some (PySem.W.instObj C dx)
 ns : h.Ns1 dx mA
 ne : dx ≠ x
section
variable {prog : Program} {w : World} {A : Around} {E : Value → Shared → Prop} {s : Shared} {K : PySem.W.Frag} {x dx C f : Addr} {mA : Str → Option Value} {name : Str} {v : Value}
end
theorem qC.some_of {v : V} {o : Option Value} (r : qC (some v) o) : ∃ u, o = some u ∧ RelV v u := by
 cases o with
 | none => exact (show False from r).elim
 | some u => exact ⟨u, rfl, r⟩
section
variable {P : Program} {w : World} {H H' : Hp} {h h' : Heap} {a C dx : Addr} {fs fs' : List (Str × V)}
end
structure W0 (K : PySem.W.Frag) (C : Addr) : Prop where
 pg : PySem.W.plainGet K C Str.empty = true
 hd : PySem.W.hasDictIn K C = true
 po : PySem.W.plainOver K C = true
 sa : PySem.W.findIn K (.ref C) "__setattr__" = some (some (.builtin "object.__setattr__"))
structure W2 (K : PySem.W.Frag) (C : Addr) (f : Str) (v : V) (u : Value) : Prop where
 at_ : PySem.W.findIn K (.ref C) f = some (some u)
 rel : RelV v u
 get : PySem.W.specialIn K u "__get__" = some none
 cp : PySem.W.copiedNames.contains f = false
structure Meth (K : PySem.W.Frag) (C : Addr) (m : Str) (f : Addr) : Prop where
 at_ : PySem.W.findIn K (.ref C) m = some (some (.ref f))
 fn : PySem.W.isFn K (.ref f) = true
 kp : PySem.W.keepIn K (.ref f) = true
section
variable {X : Cx} {pins : List (Addr × Obj)} {σ : St} {H : Hp} {s : Shared} {a C dx : Addr} {fs : List (Str × V)} {f : Str} {v : V} {A : Around} {E : Value → Shared → Prop}
end
section
variable {X : Cx} {o e value : Expr} {f : Str} {pos pos' tpos : Pos} {ta tv : TE}
end
section
variable {X : Cx} {pins : List (Addr × Obj)} {σ : St} {H : Hp} {s : Shared} {A : Around} {E : Value → Shared → Prop} {Q : Value → Shared → Prop} {c : Value} {b : Bool}
inductive qQ (K : PySem.W.Frag) (H : Hp) : V → Value → Prop where
 | bJ : qQ K H .bJ (.type "NoneType")
 | bl (x : Bool) : qQ K H (.bl x) (.type "bool")
 | int (i : Int) : qQ K H (.int i) (.type "int")
 | str (x : Str) : qQ K H (.str x) (.type "str")
 | RY (x : UInt64) : qQ K H (.RY x) (.type "float")
 | lst {a : Addr} {xs : List V} (e : H a = some (.lst xs)) : qQ K H (.ref a) (.type "list")
 | D5 {a : Addr} {o : Obj} {xs : List V} (e : H a = some (.D5 o (.lst xs))) : qQ K H (.ref a) (.type "list")
 | tup {a : Addr} {xs : List V} (e : H a = some (.tup xs)) : qQ K H (.ref a) (.type "tuple")
 | dK {a : Addr} {kvs : List (Key × V)} (e : H a = some (.dK kvs)) : qQ K H (.ref a) (.type "dict")
 | dT {a : Addr} {kvs : List (List Key × V)} (e : H a = some (.dT kvs)) : qQ K H (.ref a) (.type "dict")
 | ins {a C dx : Addr} {fs : List (Str × V)} (e : H a = some (.ins C dx fs)) (cl : W0 K C) (ha : PySem.W.findIn K (.ref C) "__class__" = some (some (.builtin "object.__class__")))
   (hn : PySem.W.specialIn K (.builtin "object.__class__") "__get__" = some (some (.builtin "getset_descriptor.__get__"))) (htk : PySem.W.takesIn K (.builtin "object.__class__") = some true)
   (hm : PySem.W.mroIn K C (.type "object") = some true) : qQ K H (.ref a) (.ref C)
end
end L2
namespace L2
open PySem PySem.Spec PyProof.Rows
structure eU (k : Nat) (A : Around) : Prop where
 hd : A.handled = none
 dp : A.depth + 3 * k + 5 < recursionLimit
 un : A.units + 16 * k + 200 < cLine
theorem eU.mono {j k : Nat} {A : Around} (r : eU k A) (h : j ≤ k) : eU j A := ⟨r.hd, by have := r.dp; omega, by have := r.un; omega⟩
theorem eU.deeper {k : Nat} {A : Around} (r : eU (k + 1) A) (env : Env) : eU k (A.deeper env) :=
 ⟨r.hd, by have := r.dp; show A.depth + 1 + 3 * k + 5 < _; omega, by have := r.un; show A.units + 3 + 16 * k + 200 < _; omega⟩
theorem eU.depth {k : Nat} {A : Around} (r : eU k A) : A.depth < recursionLimit := by have := r.dp; omega
theorem eU.units {k : Nat} {A : Around} (r : eU k A) : A.units + 64 < cLine := by have := r.un; omega
theorem eU.I0 {k : Nat} {A : Around} (r : eU k A) : A.units < cLine := by have := r.un; omega
noncomputable def u9 : TA := fun _ H Q => Q [] H
noncomputable def oI (ta : TE) (tr : TA) : TA := fun σ H Q => ta σ H fun x H1 => tr σ H1 fun xs H2 => Q (x :: xs) H2
section
variable {X : Cx} {e : Expr} {es : List Expr} {te : TE} {t : TA} {pos : Pos}
theorem aG : PA X [] u9 := fun _ _ _ _ H Q I h => Calls.spliced_nil ⟨[], H, I, .nil, h⟩
theorem aC (ha : PE X e te) (hr : PA X es t) (hs : starEach (e :: es) X.env = (false, eval e X.env) :: starEach es X.env := by rfl) : PA X (e :: es) (oI te t) := by
 intro pos pins s σ H Q I h
 rw [hs]
 show wpAny _ _ (spliced ((false, eval e X.env) :: backTo pos (starEach es X.env))) _ _ s
 refine Calls.spliced_cons (d8 (ha pins s σ H _ I h) fun u s1 ⟨x, H1, I1, r1, q1⟩ => ?_)
 exact d8 (hr pos pins s1 σ H1 _ I1 q1) fun us s2 ⟨xs, H2, I2, r2, q2⟩ => ⟨x :: xs, H2, I2, .cons r1 r2, q2⟩
noncomputable def TR (t : TA) : TE := fun σ H Q => t σ H fun xs H1 => xs.length ≤ sizeLine ∧ ∀ p, H1 p = none → Q (.ref p) (upd H1 p (.tup xs))
noncomputable def P7 (t : TA) : TE := fun σ H Q => t σ H fun xs H1 => xs.length ≤ sizeLine ∧ ∀ p, H1 p = none → Q (.ref p) (upd H1 p (.lst xs))
theorem cJ {x1} (h : PA X es t) : PE X (.Tuple es x1 pos) (TR t) := by
 intro pins s σ H Q I hq
 refine wpAny_Tuple_spliced (d8 (h pos pins s σ H _ I hq) fun us s1 ⟨xs, H1, I1, r, z, q⟩ => ⟨by rw [← r.length]; exact z, ?_⟩)
 have hf : H1 s1.heap.objs.size = none := I1.cI.fresh (Nat.le_refl _)
 refine ⟨.ref s1.heap.objs.size, upd H1 s1.heap.objs.size (.tup xs), I1.laid (t' := s1.toks) (fun b u e => Heap.get?_push_of_some _ e) (Nat.le_refl _) ?_, rfl, q _ hf⟩
 exact ⟨z, us, r, ⟨_, Heap.get?_push_size _ rfl, rfl, _, rfl⟩⟩
theorem eG (h : PA X es t) : PE X (.List es pos) (P7 t) := by
 intro pins s σ H Q I hq
 refine wpAny_List_spliced (d8 (h pos pins s σ H _ I hq) fun us s1 ⟨xs, H1, I1, r, z, q⟩ => ⟨by rw [← r.length]; exact z, ?_⟩)
 have hf : H1 s1.heap.objs.size = none := I1.cI.fresh (Nat.le_refl _)
 refine ⟨.ref s1.heap.objs.size, upd H1 s1.heap.objs.size (.lst xs), I1.laid (t' := s1.toks) (fun b u e => Heap.get?_push_of_some _ e) (Nat.le_refl _) ?_, rfl, q _ hf⟩
 exact ⟨z, us, 0, r, Heap.get?_push_size _ rfl⟩
end
noncomputable abbrev Sp := List V → Hp → VK → XK → Prop
noncomputable abbrev D4 := List Env → Hp → Shared → XK → Value → Shared → Prop
structure KY (P : Program) (w : World) (K : PySem.W.Frag) (mg : Str → Option Value) (base : Heap) (A : Around) (outer : List Env) (s : Shared) (H : Hp) : Prop where
 frames : A.frames = some outer
 mod : Mod K mg base
 bs : ∀ b o, base.get? b = some o → s.heap.get? b = some o ∧ H b = none
 LF : base.objs.size ≤ s.heap.objs.size
 p8 : s.heap.FunFrames base outer
 N8 : ∀ b ∈ C3 outer, H b = none
 cI : mJ P w H s.heap
 bare : AllBare s.gens
noncomputable def CE (outer : List Env) (P : Program) (w : World) (H : Hp) (s : Shared) (Q : VK) (u : Value) (s' : Shared) : Prop :=
 ∃ v H', s'.os = s.os ∧ AllBare s'.gens ∧ Un (C3 outer) [] H H' s.heap s'.heap ∧ mJ P w H' s'.heap ∧ RelV v u ∧ Q v H'
noncomputable def CR (CX : D4) (outer : List Env) (P : Program) (w : World) (H : Hp) (s : Shared) (Q : VK) (E : XK) (r : Result) (s' : Shared) : Prop :=
 match r with
 | .ok (.ret u) => CE outer P w H s Q u s'
 | .ok _ => False
 | .error e => CX outer H s E e s'
structure cK (P : Program) (w : World) (K : PySem.W.Frag) (mg : Str → Option Value) (base : Heap) (CX : D4) (k : Nat) (f : Addr) (fd : FuncData) (ps : List Str) (sp : Sp) : Prop where
 len : ∀ vs H Q E, sp vs H Q E → vs.length = ps.length
 run : ∀ (A : Around) (outer : List Env) (s : Shared) (H : Hp) (args : Args) (us : List Value) (vs : List V) (Q : VK) (E : XK), eU k A → KY P w K mg base A outer s H → BindsTo s fd args (ps.zip us) → Vals vs us → sp vs H Q E →
  codeAny (model P w) A (.call (.ref f) args) (CR CX outer P w H s Q E) s
theorem cK.imp {P : Program} {w : World} {K : PySem.W.Frag} {mg : Str → Option Value} {base : Heap} {CX : D4} {k : Nat} {f : Addr} {fd : FuncData} {ps : List Str} {sp sp' : Sp} (F : cK P w K mg base CX k f fd ps sp)
  (h : ∀ vs H Q E, sp' vs H Q E → sp vs H Q E) : cK P w K mg base CX k f fd ps sp' :=
 ⟨fun vs H Q E q => F.len vs H Q E (h _ _ _ _ q), fun A outer s H args us vs Q E hr he hb hv hs => F.run A outer s H args us vs Q E hr he hb hv (h _ _ _ _ hs)⟩
section
variable {X : Cx} {pins : List (Addr × Obj)} {σ : St} {H : Hp} {s s' : Shared}
theorem Inv.lY (I : Inv X pins σ H s) : KY X.prog X.w X.K X.mg X.base X.A X.stack s H :=
 ⟨I.ok.frames, I.ok.mod, I.bs, Nat.le_trans I.ok.LF I.sz, I.stack, I.BW, I.cI, I.bare⟩
theorem Inv.after {Q : VK} {u : Value} (I : Inv X pins σ H s) (h : CE X.stack X.prog X.w H s Q u s') : EP X pins σ Q u s' := by
 obtain ⟨v, H', os, bare, un, cI, r, q⟩ := h
 obtain ⟨hh, g, d, t, os'⟩ := s'
 obtain rfl : os' = s.os := os
 exact ⟨v, H', I.call (h' := hh) (g' := g) (d' := d) (t' := t) (ch := []) un cI bare (fun b z => absurd z (by simp)), r, q⟩
end
noncomputable def BJ (sp : Sp) (dvs : List V) (E : XK) (t : TA) : TE := fun σ H Q => t σ H fun vs H1 => sp (vs ++ dvs) H1 Q E
noncomputable def Binds (K : PySem.W.Frag) (fd : FuncData) (ps : List Str) (ds : List Value) : Prop :=
 ∀ (s : Shared) (us : List Value), K.In s.heap → (us ++ ds).length = ps.length → BindsTo s fd ⟨us, []⟩ (ps.zip (us ++ ds))
theorem Binds.all {K : PySem.W.Frag} {fd : FuncData} {ps : List Str} (h : ∀ us : List Value, us.length = ps.length → bindArgs fd ⟨us, []⟩ = pure (ps.zip us)) : Binds K fd ps [] := fun s us _ hl => by
 rw [List.append_nil] at hl ⊢
 exact .of_eq (h us hl)
noncomputable def Passes (CX : D4) (X : Cx) (E : XK) : Prop := ∀ (pins : List (Addr × Obj)) (σ : St) (H : Hp) (s : Shared) (e : Value) (s' : Shared), Inv X pins σ H s → CX X.stack H s E e s' → X.xe e s'
section
variable {X : Cx} {CX : D4} {k : Nat} {f C : Addr} {fd : FuncData} {ps : List Str} {sp : Sp} {dvs : List V} {ds : List Value} {E : XK} {x m : Str} {p pos apos : Pos} {e o : Expr} {es : List Expr} {ta : TE} {t : TA}
theorem QZ {pins : List (Addr × Obj)} {σ : St} {H : Hp} {s : Shared} {Q : VK} {us : List Value} {vs : List V} (F : cK X.prog X.w X.K X.mg X.base CX k f fd ps sp) (hr : eU k X.A) (hb : Binds X.K fd ps ds) (hd : Vals dvs ds) (hx : Passes CX X E)
  (I : Inv X pins σ H s) (r : Vals vs us) (h : sp (vs ++ dvs) H Q E) : wpAny (model X.prog X.w) X.A (call (.ref f) us) (EP X pins σ Q) X.xe s := by
 have r2 : Vals (vs ++ dvs) (us ++ ds) := r.append hd
 have hl : (us ++ ds).length = ps.length := by rw [← r2.length]; exact F.len _ _ _ _ h
 refine wpAny_call (codeAny_mono (F.run X.A X.stack s H ⟨us, []⟩ (us ++ ds) (vs ++ dvs) Q E hr I.lY (hb s us I.RD hl) r2 h) fun r s' hq => ?_)
 cases r with
 | error e => exact hx pins σ H s e s' I hq
 | ok fl =>
  cases fl with
  | ret u => exact I.after hq
  | next => exact False.elim hq
  | brk => exact False.elim hq
  | cont => exact False.elim hq
theorem K0 (F : cK X.prog X.w X.K X.mg X.base CX k f fd ps sp) (hr : eU k X.A) (hg : Gl X x) (hm : X.mg x = some (.ref f)) (hk : PySem.W.keepIn X.K (.ref f) = true) (hb : Binds X.K fd ps ds) (hd : Vals dvs ds) (hx : Passes CX X E)
  (ha : PA X (e :: es) t) (hdb : (x == ("__debug__" : Str)) = false := by decide) (he : starEach (e :: es) X.env = (false, eval e X.env) :: starEach es X.env := by rfl) (hpl : (backTo pos (starEach es X.env)).any (·.1) = false := by rfl) :
  PE X (.Call (.Name x p) (e :: es) [] pos) (BJ sp dvs E t) := by
 intro pins s σ H Q I h
 refine wpAny_Call_Name_kw (LU I hg hm ?_ hdb)
 refine PySem.W.callWith_K (h₀ := X.base) I.ok.mod.US hk (d8 (ha pos pins s σ H _ I h) fun us s1 ⟨vs, H1, I1, r, q⟩ => ⟨I1.RD, ?_⟩) he hpl
 exact QZ F hr hb hd hx I1 r q
structure Mk (K : PySem.W.Frag) (C f : Addr) : Prop where
 makes : PySem.W.makesIn K C = true
 init : PySem.W.findIn K (.ref C) "__init__" = some (some (.ref f))
 fn : PySem.W.isFn K (.ref f) = true
 kp : PySem.W.keepIn K (.ref C) = true
end
section
variable {X : Cx} {CX : D4} {k : Nat} {f C : Addr} {fd : FuncData} {ps ks : List Str} {sp : Sp} {E : XK} {x m : Str} {p pos apos kpos : Pos} {e o : Expr} {es : List Expr} {kws : List Keyword} {te ta : TE} {t tk : TA} {nm : Option Str}
structure VV (K : PySem.W.Frag) (fd : FuncData) (ps ks : List Str) (g : List Value → List Value → List Value) (gV : List V → List V → List V) : Prop where
 to : ∀ (s : Shared) (us ws : List Value), K.In s.heap → (g us ws).length = ps.length → BindsTo s fd ⟨us, ks.zip ws⟩ (ps.zip (g us ws))
 rel : ∀ {vs : List V} {us : List Value} {zs : List V} {ws : List Value}, Vals vs us → Vals zs ws → Vals (gV vs zs) (g us ws)
variable {g : List Value → List Value → List Value} {gV : List V → List V → List V}
end
structure cR (N P : List Str) (sc : Scope) : Prop where
 kind : sc.kind = .function
 co : sc.isCoroutine = false
 gen : sc.isGenerator = false
 nd : N.Nodup
 pre : N.take P.length = P
 par : ∀ x ∈ P, sc.names.lookup x = some .local ∨ sc.names.lookup x = some .cell
 NH : ∀ y ∈ sc.names, y.2 ≠ .free
theorem uE {kindOf : Str → Option NameKind} {x : Str} : ∀ {binds : List (Str × Value)} {m : Str → Option Value}, (∀ v, (x, v) ∉ binds) → bindL kindOf binds m x = m x
 | [], _, _ => rfl
 | (n, v) :: r, m, h => by
  unfold bindL
  rw [uE fun w hw => h w (List.mem_cons_of_mem _ hw)]
  split
  ·have : x ≠ n := by rintro rfl; exact h v List.mem_cons_self
   simp [this]
  ·rfl
theorem tO {kindOf : Str → Option NameKind} {x : Str} : ∀ {binds : List (Str × Value)} {m : Str → Option Value}, (∀ v, (x, v) ∉ binds) → bindC kindOf binds m x = m x
 | [], _, _ => rfl
 | (n, v) :: r, m, h => by
  unfold bindC
  rw [tO fun w hw => h w (List.mem_cons_of_mem _ hw)]
  split
  ·rfl
  ·have : x ≠ n := by rintro rfl; exact h v List.mem_cons_self
   simp [this]
theorem tQ {kindOf : Str → Option NameKind} {x : Str} {v : Value} : ∀ {P : List Str} {vs : List Value} {i : Nat} {m : Str → Option Value}, P.Nodup → P[i]? = some x → vs[i]? = some v → kindOf x = some .local →
  bindL kindOf (P.zip vs) m x = some v
 | [], _, _, _, _, h, _, _ => by simp at h
 | _ :: _, [], _, _, _, _, h, _ => by simp at h
 | p :: P, w :: vs, 0, m, nd, h1, h2, hk => by
  simp at h1 h2; subst h1; subst h2
  show bindL kindOf ((p, w) :: P.zip vs) m p = _
  unfold bindL
  rw [uE fun v hv => (List.nodup_cons.mp nd).1 (List.of_mem_zip hv).1, if_pos hk]
  simp
 | p :: P, w :: vs, i + 1, m, nd, h1, h2, hk => by
  show bindL kindOf ((p, w) :: P.zip vs) m x = _
  unfold bindL
  exact tQ (i := i) (List.nodup_cons.mp nd).2 (by simpa using h1) (by simpa using h2) hk
theorem uS {kindOf : Str → Option NameKind} {x : Str} {v : Value} : ∀ {P : List Str} {vs : List Value} {i : Nat} {m : Str → Option Value}, P.Nodup → P[i]? = some x → vs[i]? = some v → kindOf x ≠ some .local →
  bindC kindOf (P.zip vs) m x = some v
 | [], _, _, _, _, h, _, _ => by simp at h
 | _ :: _, [], _, _, _, _, h, _ => by simp at h
 | p :: P, w :: vs, 0, m, nd, h1, h2, hk => by
  simp at h1 h2; subst h1; subst h2
  show bindC kindOf ((p, w) :: P.zip vs) m p = _
  unfold bindC
  rw [tO fun v hv => (List.nodup_cons.mp nd).1 (List.of_mem_zip hv).1, if_neg hk]
  simp
 | p :: P, w :: vs, i + 1, m, nd, h1, h2, hk => by
  show bindC kindOf ((p, w) :: P.zip vs) m x = _
  unfold bindC
  exact uS (i := i) (List.nodup_cons.mp nd).2 (by simpa using h1) (by simpa using h2) hk
noncomputable def start (N : List Str) (vs : List V) : St := vs.map some ++ List.replicate (N.length - vs.length) none
noncomputable def CT (CX : D4) (P : Program) (w : World) (K : PySem.W.Frag) (mg : Str → Option Value) (base : Heap) (N : List Str) (qual : Str) (scope : Scope) (f : Addr) (cd : Value) (A : Around) (outer : List Env) (s : Shared) (H : Hp) (E : XK) : Cx where
 prog := P
 w := w
 K := K
 mg := mg
 base := base
 A := A.deeper (envOfC qual scope s.heap.objs.size f cd)
 N := N
 iR := s
 ED := H
 env := envOfC qual scope s.heap.objs.size f cd
 outer := outer
 stack := envOfC qual scope s.heap.objs.size f cd :: outer
 ex := []
 calm := true
 fn := fun _ => true
 pn := []
 xe := fun e s' => wpAny (model P w) (A.deeper (envOfC qual scope s.heap.objs.size f cd)) (leaving (envOfC qual scope s.heap.objs.size f cd) e) (fun _ s'' => CX outer H s E e s'') (fun e' s'' => CX outer H s E e' s'') s'
theorem yW {sc : Scope} {n : Nat} {x : Str} (h : sc.names.lookup x = some .cell) : ∃ c, (cellsFrom n sc.names []).lookup x = some c := by
 have q := PySem.W.cellsFrom_some sc.names n [] (.inl h)
 exact Option.isSome_iff_exists.mp q
theorem D0 {CX : D4} {P : Program} {w : World} {K : PySem.W.Frag} {mg : Str → Option Value} {base : Heap} {N ps : List Str} {qual : Str} {scope : Scope} {f : Addr} {cd : Value} {A : Around} {outer : List Env} {s s1 : Shared} {H : Hp} {E : XK} {us : List Value} {vs : List V}
  (S : cR N ps scope) (hd : A.handled = none) (e0 : KY P w K mg base A outer s H) (hl : vs.length = ps.length) (r : Vals vs us)
  (x : InCallC s s.heap.objs.size (bindL (envOfC qual scope s.heap.objs.size f cd).kindOf (ps.zip us) fun _ => none) (cellsFrom (s.heap.objs.size + 1) scope.names []) (bindC (envOfC qual scope s.heap.objs.size f cd).kindOf (ps.zip us) fun _ => none) s1) :
  Inv (CT CX P w K mg base N qual scope f cd A outer s H E) [] (start N vs) H s1 := by
 have hpl : ps.length ≤ N.length := by have := congrArg List.length S.pre; rw [List.length_take] at this; omega
 obtain ⟨h1, tk, rfl, hk⟩ := x.done
 have d6 : ∀ b : Addr, b ∉ (CT CX P w K mg base N qual scope f cd A outer s H E).ex := fun b z => absurd (show b ∈ ([] : List Addr) from z) (by simp)
 refine ⟨⟨e0.mod, S.kind, rfl, rfl, Nat.le_refl _, fun y z c h1 h2 => ?_, fun y hy => ?_, fun y c _ h => ?_, fun _ => hd, Around.frames_deeper e0.frames, .inr ⟨rfl, rfl⟩, fun b z => absurd z (d6 b), e0.bs, e0.LF, fun b _ _ => d6 b, fun b z => absurd z (d6 b), e0.p8, e0.N8⟩,
  rfl, e0.bare, Un.kept hk, ⟨_, x.toInCall.ns, fun i y v h1 h2 h3 => ?_⟩, fun y c h => ⟨_, x.cell y c h⟩, e0.cI.fresh (Nat.le_refl _), fun y c h => ?_, fun p hp => absurd (show p ∈ ([] : List (Addr × Obj)) from hp) (by simp), e0.cI.kept hk, ?_⟩
 ·exact name_of_addr x.apart (PySem.mem_of_lookup h1) (PySem.mem_of_lookup h2)
 ·have hy : scope.names.lookup y = some .cell ∨ scope.names.lookup y = some .free := hy
  rcases hy with hy | hy
  ·exact yW hy
  ·exact absurd rfl (S.NH _ (PySem.mem_of_lookup hy))
 ·exact Nat.le_of_lt (x.above y c (PySem.mem_of_lookup h))
 ·have hi : i < vs.length := by
   unfold start at h2
   by_cases hi : i < vs.length
   ·exact hi
   ·rw [List.getElem?_append_right (by simpa using hi)] at h2
    rw [List.getElem?_replicate] at h2
    split at h2 <;> cases h2
  have ha : vs[i]? = some v := by
   unfold start at h2
   rw [List.getElem?_append_left (by simpa using hi), List.getElem?_map] at h2
   cases e : vs[i]? with
   | none => rw [e] at h2; cases h2
   | some a => rw [e] at h2; cases h2; rfl
  obtain ⟨u, hu, rv⟩ := r.get ha
  have hp : ps[i]? = some y := by
   rw [← S.pre, List.getElem?_take_of_lt (by omega)]; exact h1
  have ndP : ps.Nodup := by rw [← S.pre]; exact S.nd.sublist (List.take_sublist _ _)
  refine ⟨u, rv, ?_⟩
  rcases S.par y (List.mem_of_getElem? hp) with k | k
  ·exact .inl ⟨k, tQ ndP hp hu k⟩
  ·obtain ⟨c, e⟩ := yW (n := s.heap.objs.size + 1) k
   refine .inr ⟨.inl k, c, e, ?_⟩
   have q := x.cell y c e
   rw [uS ndP hp hu (by show scope.names.lookup y ≠ _; rw [k]; decide)] at q
   exact q
 ·exact e0.cI.fresh (Nat.le_of_lt (x.above y c (PySem.mem_of_lookup h)))
 ·unfold start
  show _ = N.length
  rw [List.length_append, List.length_map, List.length_replicate]
  omega
theorem TC {CX : D4} {P : Program} {w : World} {K : PySem.W.Frag} {mg : Str → Option Value} {base : Heap} {k : Nat} {f : Addr} {name qual : Str} {params : Arguments} {body : List Stmt} {scope : Scope} {dV kV doc pm cdv ct oc : Value} {an od : Option Addr}
  {osl : Array (Option Value)} {N ps : List Str} {sp : Sp} (lk : K.lookup f = some ⟨oc, od, .func (PySem.W.fnOf name qual params body scope dV kV doc pm an cdv ct), osl⟩) (hcd : PySem.W.codeIn K cdv qual = true) (S : cR N ps scope)
  (len : ∀ vs H Q E, sp vs H Q E → vs.length = ps.length)
  (hbody : ∀ (A : Around) (outer : List Env) (s : Shared) (H : Hp) (vs : List V) (Q : VK) (E : XK), eU k (A.deeper (envOfC qual scope s.heap.objs.size f cdv)) → sp vs H Q E →
   ∃ t, C4 (CT CX P w K mg base N qual scope f cdv A outer s H E) body t ∧ t { nx := fun _ H' => Q .bJ H', rt := Q } (start N vs) H) :
  cK P w K mg base CX (k + 1) f (PySem.W.fnOf name qual params body scope dV kV doc pm an cdv ct) ps sp := by
 refine ⟨len, fun A outer s H args us vs Q E hr e0 hb r hsp => ?_⟩
 have hl := len _ _ _ _ hsp
 have KX : K.In s.heap := e0.mod.US.keeps fun b o e => (e0.bs b o e).1
 have lim : s.heap.NoLimit := e0.mod.nolimit.keeps fun b o e => (e0.bs b o e).1
 have hkind : ∀ y ∈ ps.zip us, scope.names.lookup y.1 = some .local ∨ (scope.names.lookup y.1 = some .cell ∧ ((cellsFrom (s.heap.objs.size + 1) scope.names []).lookup y.1).isSome = true) := fun ⟨n, v⟩ hy => by
  rcases S.par n (List.of_mem_zip hy).1 with q | q
  ·exact .inl q
  ·exact .inr ⟨q, PySem.W.cellsFrom_some _ _ _ (.inl q)⟩
 refine codeAny_call_function hr.depth (KX _ _ lk) rfl S.co S.gen rfl (PySem.W.codeRec_of KX hcd) (hb _ _ _ _ ?_)
 refine wpAny_newFunctionEnv_cells S.kind hkind fun env he s1 x => ?_
 subst he
 refine ⟨lim.keeps x.toInCall.keep, codeAny_func ?_⟩
 obtain ⟨t, ht, hq⟩ := hbody A outer s H vs Q E (hr.deeper _) hsp
 have I : Inv (CT CX P w K mg base N qual scope f cdv A outer s H E) [] (start N vs) H s1 := D0 S hr.hd e0 hl r x
 refine wpAny_mono (ht [] s1 (start N vs) H _ I hq) (fun fl s' hs => ?_) fun e s' hs => hs
 have fin : ∀ {σ' : St} {H' : Hp} {v : V} {u : Value}, Inv (CT CX P w K mg base N qual scope f cdv A outer s H E) [] σ' H' s' → RelV v u → Q v H' → CE outer P w H s Q u s' :=
  fun {σ' H' v u} J rv q => ⟨v, H', J.os, J.bare, J.base, J.cI, rv, q⟩
 cases fl with
 | ret u =>
  obtain ⟨v, σ', H', J, rv, q⟩ := hs
  exact fin J rv q
 | next =>
  obtain ⟨σ', H', J, q⟩ := hs
  exact fin (v := V.bJ) (u := Value.none) J rfl q
 | brk =>
  obtain ⟨_, _, _, q⟩ := hs
  exact False.elim q
 | cont =>
  obtain ⟨_, _, _, q⟩ := hs
  exact False.elim q
end L2
namespace L2
open PySem PySem.Spec PyProof.Rows
section
variable {X : Cx} {x : Str} {p pos : Pos} {e : Expr} {es : List Expr} {t : TA} {id T : String} {r : List V → Hp → VK → Prop}
noncomputable def SV (r : List V → Hp → VK → Prop) (t : TA) : TE := fun σ H Q => t σ H fun vs H1 => r vs H1 Q
theorem eJ (hc : dN X (.builtin id) r) (hg : Gl X x) (hm : X.mg x = none) (hv : bootBuiltins x = some (.builtin id)) (ha : PA X (e :: es) t) (hn : x ≠ "__name__" := by decide) (hdb : (x == ("__debug__" : Str)) = false := by decide)
  (he : starEach (e :: es) X.env = (false, eval e X.env) :: starEach es X.env := by rfl) (hpl : (backTo pos (starEach es X.env)).any (·.1) = false := by rfl) : PE X (.Call (.Name x p) (e :: es) [] pos) (SV r t) := by
 intro pins s σ H Q I h
 refine wpAny_Call_Name_kw (sC I hg hm hv ?_ hn hdb)
 exact PyProof.Rows.callWith_builtin1 (d8 (ha pos pins s σ H _ I h) fun us s1 ⟨vs, H1, I1, r1, q1⟩ => hc pins s1 σ H1 vs us Q I1 r1 q1) he hpl
theorem dJ (hc : dN X (.type T) r) (hg : Gl X x) (hm : X.mg x = none) (hv : bootBuiltins x = some (.type T)) (ha : PA X (e :: es) t) (hn : x ≠ "__name__" := by decide) (hdb : (x == ("__debug__" : Str)) = false := by decide)
  (he : starEach (e :: es) X.env = (false, eval e X.env) :: starEach es X.env := by rfl) (hpl : (backTo pos (starEach es X.env)).any (·.1) = false := by rfl) : PE X (.Call (.Name x p) (e :: es) [] pos) (SV r t) := by
 intro pins s σ H Q I h
 refine wpAny_Call_Name_kw (sC I hg hm hv ?_ hn hdb)
 exact PyProof.Rows.callWith_type1 (d8 (ha pos pins s σ H _ I h) fun us s1 ⟨vs, H1, I1, r1, q1⟩ => hc pins s1 σ H1 vs us Q I1 r1 q1) he hpl
end
end L2
namespace HT
open PySem PyProof.Rows
section
open PySem.SeqAt
open PySem.AutoSeq1 (wpAny_loadPart')
open PySem.MeetsSeq PySem.MeetsSeq2 PySem.MeetsSeq3
end
section
variable {prog : Program} {w : World} {A : Around} {E : Value → Shared → Prop} {s : Shared}
theorem KA {t b : Addr} {vs ws : List Value} {Q : Value → Shared → Prop} (ht : IsTup s.heap t vs.toArray) (hb : IsTup s.heap b ws.toArray) (hv : vs ≠ [])
  (h1 : ws = [] → Q (.ref t) s) (h2 : ws ≠ [] → Q (.ref s.heap.objs.size) { s with heap := s.heap.push { cls := .type "tuple", data := .seq (vs ++ ws).toArray } })
  (hsz : vs.length + ws.length ≤ sizeLine) : wpAny (model prog w) A (binaryOp .Add (.ref t) (.ref b)) Q E s := by
 obtain ⟨⟨cls, dd, data, sl⟩, ho, hc, n, hd⟩ := id ht
 obtain ⟨⟨cls2, dd2, data2, sl2⟩, ho2, hc2, n2, hd2⟩ := id hb
 simp only at hc hd hc2 hd2
 subst hc hd hc2 hd2
 have e : vs.toArray ++ ws.toArray = (vs ++ ws).toArray := by simp
 by_cases hw : ws = []
 ·exact concat_meets ⟨_, ho, rfl⟩ ⟨_, ho2, rfl⟩ noFill_tuple_add seq_tuple_add PySem.F.slot_tuple_add PySem.F.entry_tuple_add (PySem.F.args_tuple_add_2 _ _)
   (tuple_addW1 t b vs.toArray ws.toArray n n2 dd dd2 sl sl2 (by simpa using hv) (by simp [hw])) ⟨ho, ho2, h1 hw⟩
 ·refine concat_meets ⟨_, ho, rfl⟩ ⟨_, ho2, rfl⟩ noFill_tuple_add seq_tuple_add PySem.F.slot_tuple_add PySem.F.entry_tuple_add (PySem.F.args_tuple_add_2 _ _)
   (tuple_addW2 t b vs.toArray ws.toArray n n2 dd dd2 sl sl2 (by simpa using hv) (by simpa using hw) (by rw [List.size_toArray, List.size_toArray]; exact hsz)) ⟨ho, ho2, ?_⟩
  rw [e]
  exact h2 hw
noncomputable def fS (n d : Nat) : Option Int → Nat
 | none => d
 | some v => if v < 0 then (v + (n : Int)).toNat else min v.toNat n
theorem xV (n d : Nat) : fS n d none = d := rfl
theorem AZ (n d k : Nat) : fS n d (some (k : Int)) = min k n := by
 show (if (k : Int) < 0 then ((k : Int) + (n : Int)).toNat else min (k : Int).toNat n) = min k n
 rw [if_neg (by omega), Int.toNat_natCast]
theorem PK (n d : Nat) (hd : d ≤ n) (o : Option Int) : fS n d o ≤ n := by
 cases o with
 | none => exact hd
 | some v =>
  show (if v < 0 then (v + (n : Int)).toNat else min v.toNat n) ≤ n
  by_cases hv : v < 0
  ·rw [if_pos hv]; omega
  ·rw [if_neg hv]; exact Nat.min_le_right _ _
theorem BO (v : Int) (n d : Nat) : (if v < 0 then max (v + (n : Int)) 0 else min v (n : Int)) = ((fS n d (some v) : Nat) : Int) := by
 show (if v < 0 then max (v + (n : Int)) 0 else min v (n : Int)) = (((if v < 0 then (v + (n : Int)).toNat else min v.toNat n) : Nat) : Int)
 by_cases hv : v < 0
 ·simp only [if_pos hv]; omega
 ·simp only [if_neg hv]; omega
theorem zN (lo hi : Option Int) (n : Nat) : Builtin.Slice.sliceAdjust lo hi 1 (n : Int) = (((fS n 0 lo : Nat) : Int), ((fS n n hi : Nat) : Int)) := by
 have h1 : ¬ ((1 : Int) < 0) := by omega
 unfold Builtin.Slice.sliceAdjust
 simp only [h1, if_false]
 refine Prod.ext ?_ ?_
 ·cases lo with
  | none => rfl
  | some v => exact BO v n 0
 ·cases hi with
  | none => rfl
  | some v => exact BO v n n
theorem AH (i j : Nat) : Builtin.Slice.slicePlaces (i : Int) (j : Int) 1 = j - i := by
 unfold Builtin.Slice.slicePlaces
 have h1 : (1 : Int) > 0 := by omega
 simp only [h1, if_true, Int.ediv_one]
 split <;> omega
theorem sG {v : Value} {o : Option Int} {Q : Option Int → Shared → Prop} (p : IsPart v o) (h : Q o s) : wpAny (model prog w) A (Builtin.Slice.slicePartIndex v) Q E s := by
 cases p with
 | none => exact slicePart_none h
 | int i t => exact slicePart_int h
theorem jQ {sl : Addr} {vl vu : Value} {lo hi : Option Int} {n : Nat} {Q : Int × Int × Nat → Shared → Prop} (hs : s.heap.IsSliceOf sl vl vu .none) (pl : IsPart vl lo) (pu : IsPart vu hi)
  (h : Q (((fS n 0 lo : Nat) : Int), 1, fS n n hi - fS n 0 lo) s) : wpAny (model prog w) A (Builtin.Slice.sliceApplied (.ref sl) (pure (n : Int))) Q E s := by
 obtain ⟨os, hos, hcs, hds⟩ := id hs
 unfold Builtin.Slice.sliceApplied Builtin.Slice.sliceFields
 refine wpAny_bind (wpAny_bind (wpAny_field hos hds (x := vl) rfl (wpAny_bind (wpAny_field hos hds (x := vu) rfl (wpAny_bind (wpAny_field hos hds (x := .none) rfl (wpAny_pure ?_)))))))
 refine wpAny_bind (slicePart_none ?_)
 show wpAny _ _ (if ((1 : Int) == 0) = true then _ else _) _ _ s
 rw [if_neg (by decide)]
 refine wpAny_bind (sG pl (wpAny_bind (sG pu (wpAny_bind (wpAny_pure ?_)))))
 show wpAny _ _ (match Builtin.Slice.sliceAdjust lo hi 1 (n : Int) with | (lo, hi) => pure (lo, (1 : Int), Builtin.Slice.slicePlaces lo hi 1)) _ _ s
 rw [zN lo hi n]
 show wpAny _ _ (pure (((fS n 0 lo : Nat) : Int), (1 : Int), Builtin.Slice.slicePlaces ((fS n 0 lo : Nat) : Int) ((fS n n hi : Nat) : Int) 1)) _ _ s
 rw [AH]
 exact wpAny_pure h
theorem E7 (xs : Array Value) (i k : Nat) : ((List.range k).filterMap fun (m : Nat) => xs[((i : Int) + (m : Int) * 1).toNat]?).toArray = ((xs.toList.drop i).take k).toArray := by
 have e : (fun (m : Nat) => xs[((i : Int) + (m : Int) * 1).toNat]?) = fun m => xs[i + m]? := by
  funext m
  have : ((i : Int) + (m : Int) * 1).toNat = i + m := by omega
  rw [this]
 rw [e]
 have := pick_run xs i k
 rw [List.filterMap_map] at this
 have e2 : ((fun x => xs[x]?) ∘ fun x => i + x) = fun m => xs[i + m]? := rfl
 rw [e2] at this
 rw [this]
theorem nP {t sl : Addr} {items : Array Value} {vl vu : Value} {lo hi : Option Int} {Q : Value → Shared → Prop} (ht : IsTup s.heap t items) (hs : s.heap.IsSliceOf sl vl vu .none) (pl : IsPart vl lo) (pu : IsPart vu hi)
  (hw : ¬ (fS items.size 0 lo = 0 ∧ fS items.size items.size hi = items.size))
  (h : Q (.ref s.heap.objs.size) { s with heap := s.heap.push { cls := .type "tuple", data := .seq ((items.toList.drop (fS items.size 0 lo)).take (fS items.size items.size hi - fS items.size 0 lo)).toArray } })
  (hsz : items.size ≤ sizeLine) : wpAny (model prog w) A (getItem (.ref t) (.ref sl)) Q E s := by
 have htake : sizeOk (.seq ((items.toList.drop (fS items.size 0 lo)).take (fS items.size items.size hi - fS items.size 0 lo)).toArray) := by
  show ((items.toList.drop (fS items.size 0 lo)).take (fS items.size items.size hi - fS items.size 0 lo)).toArray.size ≤ sizeLine
  rw [List.size_toArray, List.length_take, List.length_drop, Array.length_toList]
  omega
 have hj : fS items.size items.size hi ≤ items.size := PK _ _ (Nat.le_refl _) hi
 obtain ⟨os, hos, hcs, hds⟩ := id hs
 have hTs : s.TypeIs (.ref sl) "slice" := ⟨os, hos, hcs⟩
 unfold getItem
 try with_reducible refine wpAny_holding ?_
 first | refine wpAny_bind (wpAny_pure ?_) | skip
 refine wpAny_bind (wpAny_sequenceKey ht.typeIs (by decide) ?_)
 refine wpAny_bind (wpAny_callSpecial?_slot (name := Str.ofString "__getitem__") ht.typeIs PyProof.Rows.slot_tuple_getitem
  (wpAny_call_entry PyProof.Rows.slot_tuple_getitem ht.typeIs entry_tuple_getitem ?_ (args_tuple_getitem _ _)))
 show wpAny _ _ (Builtin.Tuple.tupleItemsOf (.ref t) >>= _) _ _ s
 refine wpAny_bind (tupleItemsOf_ ht ?_)
 refine wpAny_bind (wpAny_typeOf hTs ?_)
 rw [if_pos (by decide)]
 refine wpAny_bind (jQ hs pl pu ?_)
 have hno : ¬ ((((fS items.size 0 lo : Nat) : Int) == 0 && (1 : Int) == 1 && (fS items.size items.size hi - fS items.size 0 lo) == items.size) = true) := by
  intro q
  rw [Bool.and_eq_true, Bool.and_eq_true] at q
  have q1 : ((fS items.size 0 lo : Nat) : Int) = 0 := eq_of_beq q.1.1
  have q2 : fS items.size items.size hi - fS items.size 0 lo = items.size := eq_of_beq q.2
  exact hw ⟨by omega, by omega⟩
 show wpAny _ _ (if (((fS items.size 0 lo : Nat) : Int) == 0 && (1 : Int) == 1 && (fS items.size items.size hi - fS items.size 0 lo) == items.size) = true then _ else _) _ _ s
 rw [if_neg hno, E7]
 first
  | exact wpAny_bind (m := Builtin.Tuple.tupleExact _) (wpAny_newObj_type (wpAny_pure ⟨_, rfl, wpAny_pure h⟩) htake)
  | exact wpAny_bind (m := Builtin.Tuple.tupleExact _) (wpAny_newObj_type (wpAny_bind (wpAny_pure (wpAny_pure ⟨_, rfl, wpAny_pure h⟩))) htake)
  | exact wpAny_bind (wpAny_bind (m := Builtin.Tuple.tupleExact _) (wpAny_newObj_type (wpAny_pure (wpAny_pure ⟨_, rfl, wpAny_pure h⟩)) htake))
  | exact wpAny_bind (wpAny_bind (m := Builtin.Tuple.tupleExact _) (wpAny_newObj_type (wpAny_pure ⟨_, rfl, wpAny_pure h⟩) htake))
end
end HT
namespace L2
open PySem PySem.Spec PyProof.Rows
noncomputable abbrev TO := St → Hp → (Option Int → Hp → Prop) → Prop
noncomputable def PO (X : Cx) (e : Option Expr) (t : TO) : Prop :=
 ∀ (pins : List (Addr × Obj)) (s : Shared) (σ : St) (H : Hp) (Q : Option Int → Hp → Prop), Inv X pins σ H s → t σ H Q →
  wpAny (model X.prog X.w) X.A (evalPart e X.env) (fun u s' => ∃ o H', Inv X pins σ H' s' ∧ IsPart u o ∧ Q o H') X.xe s
noncomputable def B7 : TO := fun _ H Q => Q none H
noncomputable def MQ (t : TE) : TO := fun σ H Q => t σ H fun x H1 => ∃ i, x = .int i ∧ Q (some i) H1
section
variable {X : Cx} {e : Expr} {te : TE} {lo hi : Option Expr} {tl th : TO} {pos p2 : Pos}
theorem oK : PO X none B7 := by
 intro pins s σ H Q I h
 rw [evalPart_none]
 exact wpAny_pure ⟨none, H, I, .none, h⟩
theorem nQ (h : PE X e te) : PO X (some e) (MQ te) := by
 intro pins s σ H Q I hw
 rw [evalPart_some]
 refine d8 (h pins s σ H _ I hw) fun u s1 ⟨x, H1, I1, r1, q1⟩ => ?_
 obtain ⟨i, rfl, q⟩ := q1
 obtain ⟨t, rfl⟩ := r1
 exact ⟨some i, H1, I1, .int i t, q⟩
noncomputable def C5 (X : Cx) (r : V → Option Int → Option Int → Hp → VK → Prop) : Prop :=
 ∀ (pins : List (Addr × Obj)) (s : Shared) (σ : St) (H : Hp) (x : V) (v vl vu : Value) (lo hi : Option Int) (sl : Addr) (Q : VK), Inv X pins σ H s → RelV x v → s.heap.IsSliceOf sl vl vu .none → IsPart vl lo → IsPart vu hi → r x lo hi H Q →
  ∃ T id, typeLookup (.type T) "__getitem__" = pure (some (.builtin id)) ∧ s.TypeIs v T ∧ wpAny (model X.prog X.w) X.A (getItem v (.ref sl)) (EP X pins σ Q) X.xe s
theorem C5.or {r r' : V → Option Int → Option Int → Hp → VK → Prop} (h : C5 X r) (h' : C5 X r') : C5 X (fun x lo hi H Q => r x lo hi H Q ∨ r' x lo hi H Q) := by
 intro pins s σ H x v vl vu lo hi sl Q I rx hs pl pu q
 rcases q with q | q
 ·exact h pins s σ H x v vl vu lo hi sl Q I rx hs pl pu q
 ·exact h' pins s σ H x v vl vu lo hi sl Q I rx hs pl pu q
noncomputable def WD (r : V → Option Int → Option Int → Hp → VK → Prop) (te : TE) (tl th : TO) : TE := fun σ H Q => te σ H fun x H1 => tl σ H1 fun l H2 => th σ H2 fun u H3 => r x l u H3 Q
theorem lD {r : V → Option Int → Option Int → Hp → VK → Prop} (hr : C5 X r) (he : PE X e te) (hl : PO X lo tl) (hu : PO X hi th) : PE X (.Subscript e (.Slice lo hi none p2) pos) (WD r te tl th) := by
 intro pins s σ H Q I h
 refine Subscript_ (d8 (he pins s σ H _ I h) fun v s1 ⟨x, H1, I1, r1, q1⟩ => ?_)
 refine wpAny_Slice (d8 (hl pins s1 σ H1 _ I1 q1) fun vl s2 ⟨l, H2, I2, pl, q2⟩ => d8 (hu pins s2 σ H2 _ I2 q2) fun vu s3 ⟨u, H3, I3, pu, q3⟩ => ?_)
 rw [evalPart_none]
 refine wpAny_pure ?_
 have I4 : Inv X pins σ H3 { s3 with heap := s3.heap.push { cls := .type "slice", data := .fields #[vl, vu, .none] } } := I3.kept (t' := s3.toks) fun b ob q => Heap.get?_push_of_some _ q
 obtain ⟨T, id, hT, ht, hg⟩ := hr pins { s3 with heap := s3.heap.push { cls := .type "slice", data := .fields #[vl, vu, .none] } } σ H3 x v vl vu l u s3.heap.objs.size Q I4 r1 (Heap.IsSliceOf.new ..) pl pu q3
 show wpAny (model X.prog X.w) X.A (subscriptTail e (.Slice lo hi none p2) v (.ref s3.heap.objs.size)) (EP X pins σ Q) X.xe { s3 with heap := s3.heap.push { cls := .type "slice", data := .fields #[vl, vu, .none] } }
 exact tail_any (ops := [.ref s3.heap.objs.size, v]) ht hT hg (by with_unfolding_all rfl)
noncomputable def qU (xs : List V) (lo hi : Option Int) : List V := (xs.drop (HT.fS xs.length 0 lo)).take (HT.fS xs.length xs.length hi - HT.fS xs.length 0 lo)
theorem pW (xs : List V) (lo hi : Option Int) : (qU xs lo hi).length ≤ xs.length := by
 unfold qU
 rw [List.length_take, List.length_drop]
 omega
noncomputable def VL (K : PySem.W.Frag) : V → Option Int → Option Int → Hp → VK → Prop := fun x lo hi H Q => ∃ a xs, x = .ref a ∧ mB K H a xs ∧
 ¬ (HT.fS xs.length 0 lo = 0 ∧ HT.fS xs.length xs.length hi = xs.length) ∧ ∀ p, H p = none → Q (.ref p) (upd H p (.tup (qU xs lo hi)))
theorem QC : C5 X (VL X.K) := by
 intro pins s σ H x v vl vu lo hi sl Q I rx hs pl pu h
 obtain ⟨a, xs, rfl, hx, hw, q⟩ := h
 cases rx
 obtain ⟨its, r, ht, hz⟩ := I.tuple hx
 have hlen : its.toArray.size = xs.length := by rw [List.size_toArray]; exact r.length.symm
 refine ⟨"tuple", _, PyProof.Rows.slot_tuple_getitem.lookup, ht.typeIs, ?_⟩
 refine HT.nP ht hs pl pu (by rw [hlen]; exact hw) ?_ (by rw [hlen]; exact hz)
 rw [hlen]
 refine ⟨.ref s.heap.objs.size, _, I.laid (t' := s.toks) (o := .tup (qU xs lo hi)) (fun b ob q => Heap.get?_push_of_some _ q) (Nat.le_refl _) ?_, rfl, q _ (I.cI.fresh (Nat.le_refl _))⟩
 exact ⟨Nat.le_trans (pW xs lo hi) hz, _, (r.drop (HT.fS xs.length 0 lo)).take (HT.fS xs.length xs.length hi - HT.fS xs.length 0 lo), IsTup.new _ _⟩
theorem Vals.A0 {xs : List V} {us : List Value} (r : Vals xs us) : us = [] ↔ xs = [] := by
 cases r with
 | nil => simp
 | cons _ _ => simp
end
end L2
namespace L2
open PySem PySem.Spec PyProof.Rows
noncomputable def sS (n : Nat) (i : Int) : Option Nat := if 0 ≤ i then (if i < n then some i.toNat else none) else if -(n : Int) ≤ i then some (i + n).toNat else none
noncomputable def oS {α : Type} (xs : List α) (i : Int) : Option α := (sS xs.length i).bind fun j => xs[j]?
theorem B6 {n : Nat} {i : Int} {j : Nat} (h : sS n i = some j) : seqIndex? i n = some j ∧ j < n ∧ -(n : Int) ≤ i ∧ i < n := by
 unfold sS at h
 by_cases h0 : 0 ≤ i
 ·rw [if_pos h0] at h
  by_cases h1 : i < n
  ·rw [if_pos h1] at h
   have e : i.toNat = j := Option.some.inj h
   exact ⟨by rw [seqIndex_of h0 h1, e], by omega, by omega, h1⟩
  ·rw [if_neg h1] at h; cases h
 ·rw [if_neg h0] at h
  by_cases h1 : -(n : Int) ≤ i
  ·rw [if_pos h1] at h
   have e : (i + n).toNat = j := Option.some.inj h
   exact ⟨by rw [seqIndex_neg (by omega) h1, e], by omega, h1, by omega⟩
  ·rw [if_neg h1] at h; cases h
theorem vH {α : Type} {xs : List α} {i : Int} {v : α} (h : oS xs i = some v) : ∃ j, seqIndex? i xs.length = some j ∧ xs[j]? = some v ∧ j < xs.length ∧ -(xs.length : Int) ≤ i ∧ i < xs.length := by
 unfold oS at h
 cases e : sS xs.length i with
 | none => rw [e] at h; cases h
 | some j =>
  rw [e] at h
  obtain ⟨h1, h2, h3, h4⟩ := B6 e
  exact ⟨j, h1, h, h2, h3, h4⟩
theorem j6 {α : Type} {xs : List α} {j : Nat} {v : α} (h : xs[j]? = some v) : oS xs (j : Int) = some v := by
 have hj : j < xs.length := (List.getElem?_eq_some_iff.mp h).1
 have e : sS xs.length (j : Int) = some j := by
  unfold sS
  rw [if_pos (by omega), if_pos (by omega)]; simp
 unfold oS; rw [e]; exact h
noncomputable def J3 (b : Expr) : Prop := ∀ o i, subscripted b false o i = operate [o, i] (getItem o i)
noncomputable def zV (X : Cx) (r : R2) : Prop :=
 ∀ (value slice : Expr) (pins : List (Addr × Obj)) (s : Shared) (σ : St) (H : Hp) (x y : V) (v u : Value) (Q : VK), Inv X pins σ H s → RelV x v → RelV y u → r x y H Q →
  subscripted slice false v u = operate [v, u] (getItem v u) → wpAny (model X.prog X.w) X.A (subscriptTail value slice v u) (EP X pins σ Q) X.xe s
noncomputable def UL (X : Cx) (id : String) (r : V → List V → Hp → VK → Prop) : Prop :=
 ∀ (pins : List (Addr × Obj)) (s : Shared) (σ : St) (H : Hp) (x : V) (xs : List V) (v : Value) (us : List Value) (Q : VK), Inv X pins σ H s → RelV x v → Vals xs us → r x xs H Q →
  wpAny (model X.prog X.w) X.A (call (.builtin id) (v :: us)) (EP X pins σ Q) X.xe s
section
variable {X : Cx} {a b : Expr} {ta tb : TE} {pos : Pos}
theorem zV.or {r r' : R2} (h : zV X r) (h' : zV X r') : zV X (fun x y H Q => r x y H Q ∨ r' x y H Q) := by
 intro value slice pins s σ H x y v u Q I rx ry q hs
 rcases q with q | q
 ·exact h value slice pins s σ H x y v u Q I rx ry q hs
 ·exact h' value slice pins s σ H x y v u Q I rx ry q hs
theorem cB {r : R2} (hr : zV X r) (ha : PE X a ta) (hb : PE X b tb) (hs : J3 b) : PE X (.Subscript a b pos) (TK r ta tb) := by
 intro pins s σ H Q I h
 exact Subscript_ (PX ha hb I h fun v u s2 x y H2 I2 rx ry q => hr a b pins s2 σ H2 x y v u Q I2 rx ry q (hs _ _))
noncomputable def N0 (K : PySem.W.Frag) : R2 := fun x y H Q => ∃ p xs i v, x = .ref p ∧ y = .int i ∧ iZ K H p xs ∧ oS xs i = some v ∧ Q v H
noncomputable def NK (K : PySem.W.Frag) : R2 := fun x y H Q => ∃ p xs i v, x = .ref p ∧ y = .int i ∧ mB K H p xs ∧ oS xs i = some v ∧ Q v H
noncomputable def RT : R2 := fun x y H Q => ∃ z i c, x = .str z ∧ y = .int i ∧ z.length ≤ sizeLine ∧ oS z.cps.toList i = some c ∧ Q (.str ⟨#[c]⟩) H
theorem K5 : zV X (N0 X.K) := by
 intro value slice pins s σ H x y v u Q I rx ry h hs
 obtain ⟨p, xs, i, z, rfl, rfl, hq, he, q⟩ := h
 cases rx
 obtain ⟨t, rfl⟩ := ry
 obtain ⟨its, r, pl, hz⟩ := I.list hq
 obtain ⟨j, h1, h2, h3, h4, h5⟩ := vH he
 obtain ⟨w, ew, rw'⟩ := r.get h2
 have hl := r.length
 have hn := m6
 have fin : EP X pins σ Q w s := ⟨z, H, I, rw', q⟩
 by_cases h0 : 0 ≤ i
 ·have hj : i.toNat = j := by
   rw [seqIndex_of h0 h5] at h1
   exact Option.some.inj h1
  exact item_listR pl.isList h0 (by omega) (by rw [hj]; simpa using ew) fin hs
 ·have hj : (i + (its.toArray.size : Int)).toNat = j := by
   rw [seqIndex_neg (by omega) h4] at h1
   rw [List.size_toArray, ← hl]
   exact Option.some.inj h1
  exact subscriptTail_builtinR (x := w) pl.isList.typeIs slot_list_getitem.lookup
   (wpAny_getItem_list_neg (Q := fun r s' => r = w ∧ EP X pins σ Q r s') pl.isList (by omega) (by rw [List.size_toArray] <;> omega) (by omega) (by rw [hj]; simpa using ew) ⟨rfl, fin⟩) hs
theorem PN : zV X (NK X.K) := by
 intro value slice pins s σ H x y v u Q I rx ry h hs
 obtain ⟨p, xs, i, z, rfl, rfl, hq, he, q⟩ := h
 cases rx
 obtain ⟨t, rfl⟩ := ry
 obtain ⟨its, r, pl, hz⟩ := I.tuple hq
 obtain ⟨j, h1, h2, h3, h4, h5⟩ := vH he
 obtain ⟨w, ew, rw'⟩ := r.get h2
 have hl := r.length
 have hn := m6
 have fin : EP X pins σ Q w s := ⟨z, H, I, rw', q⟩
 exact subscriptTail_builtinR (x := w) pl.typeIs slot_tuple_getitem.lookup
  (getItem_tuple (j := j) (Q := fun r s' => r = w ∧ EP X pins σ Q r s') pl (by omega) (by omega) (by rw [List.size_toArray, ← hl]; exact h1) (by simpa using ew) ⟨rfl, fin⟩) hs
theorem PZ : zV X RT := by
 intro value slice pins s σ H x y v u Q I rx ry h hs
 obtain ⟨z, i, c, rfl, rfl, hz, he, q⟩ := h
 obtain ⟨t, rfl⟩ := rx
 obtain ⟨t', rfl⟩ := ry
 obtain ⟨j, h1, h2, h3, h4, h5⟩ := vH he
 have hl : z.cps.toList.length = z.length := by simp [Str.length]
 rw [hl] at h1 h4 h5
 have hn := m6
 exact tail_any (typeIs_str s z t) slot_str_getitem.lookup (getItem_str (c := c) (by
  have e1 : decide (i < -(2 ^ 63 : Int)) = false := decide_eq_false (by omega)
  have e2 : decide (i ≥ 2 ^ 63) = false := decide_eq_false (by omega)
  rw [e1, e2, Bool.or_false]) (by rw [h1]; simpa using h2) ⟨.str ⟨#[c]⟩, H, I.tok _, ⟨_, rfl⟩, q⟩) hs
theorem AK (its : List Value) (n j : Nat) (u : Value) : Obj.mapSeq (·.setIfInBounds j u) { cls := .type "list", data := .seq its.toArray n } = { cls := .type "list", data := .seq (its.set j u).toArray n } := by
 simp [Obj.mapSeq]
theorem Inv.lst {pins : List (Addr × Obj)} {σ : St} {H : Hp} {s : Shared} {p : Addr} {xs : List V} (I : Inv X pins σ H s) (h : H p = some (.lst xs)) :
  ∃ (its : List Value) (n : Nat), Vals xs its ∧ s.heap.get? p = some { cls := .type "list", data := .seq its.toArray n } ∧ xs.length ≤ sizeLine := by
 obtain ⟨z, its, n, r, e⟩ := I.cI p _ h
 exact ⟨its, n, r, e, z⟩
theorem Inv.QU {pins : List (Addr × Obj)} {σ : St} {H : Hp} {s : Shared} {p : Addr} {xs ys : List V} {its its' : List Value} {n n' : Nat} {f : Obj → Obj} (I : Inv X pins σ H s) (h : H p = some (.lst xs))
  (ho : s.heap.get? p = some { cls := .type "list", data := .seq its.toArray n }) (hf : f { cls := .type "list", data := .seq its.toArray n } = { cls := .type "list", data := .seq its'.toArray n' }) (r : Vals ys its') (hz : ys.length ≤ sizeLine) (t : Nat) :
  Inv X pins σ (upd H p (.lst ys)) { s with heap := s.heap.update p f, toks := t } := by
 have e : (s.heap.update p f).get? p = some { cls := .type "list", data := .seq its'.toArray n' } := by
  rw [Heap.get?_update_self f ho (by rw [hf] <;> rfl), hf]
 refine I.write (x := p) (e := p) (by rw [h]; trivial) (.inl rfl) (fun b u hb q => (Heap.get?_update_other _ _ (Ne.symm hb)).trans q) ⟨_, e⟩ ?_
 exact ⟨hz, its', n', r, e⟩
noncomputable def M0 : V → V → V → Hp → (Hp → Prop) → Prop := fun o i v H Q => ∃ p xs k j, o = .ref p ∧ i = .int k ∧ H p = some (.lst xs) ∧ sS xs.length k = some j ∧ Q (upd H p (.lst (xs.set j v)))
theorem set_list : TU X M0 := by
 intro pins s σ H o i v ov iv u Q I ro ri rv h
 obtain ⟨p, xs, k, j, rfl, rfl, hp, hj, q⟩ := h
 cases ro
 obtain ⟨t, rfl⟩ := ri
 obtain ⟨its, n, r, ho, hz⟩ := I.lst hp
 obtain ⟨h1, h2, h3, h4⟩ := B6 hj
 have hl := r.length
 have hn := m6
 have I' : Inv X pins σ (upd H p (.lst (xs.set j v))) { s with heap := s.heap.update p (Obj.mapSeq (·.setIfInBounds j u)) } :=
  I.QU hp ho (AK its n j u) (r.set rv j) (by rw [List.length_set]; exact hz) s.toks
 by_cases h0 : 0 ≤ k
 ·have hk : k.toNat = j := by
   rw [seqIndex_of h0 h4] at h1
   exact Option.some.inj h1
  exact PySem.W.ki_setAt ho h0 (by omega) (by rw [List.size_toArray, ← hl]; exact h4) (by rw [hk]; exact ⟨_, I', q⟩)
 ·have hk : (k + (its.toArray.size : Int)).toNat = j := by
   rw [seqIndex_neg (by omega) h3] at h1
   rw [List.size_toArray, ← hl]
   exact Option.some.inj h1
  exact PySem.W.ki_setBack ho (by omega) (by rw [List.size_toArray, ← hl]; exact h3) (by omega) (by rw [hk]; exact ⟨_, I', q⟩)
theorem uW (lo hi : Option Int) (n : Nat) : (sliceBounds lo hi none n).1 = ((HT.fS n 0 lo : Nat) : Int) ∧ (sliceBounds lo hi none n).2.1 = ((HT.fS n n hi : Nat) : Int) ∧ (sliceBounds lo hi none n).2.2 = 1 := by
 refine ⟨?_, ?_, rfl⟩
 ·cases lo with
  | none => simp [sliceBounds, HT.fS]
  | some i =>
   simp only [sliceBounds, HT.fS, Option.getD_none, show (1 : Int) > 0 by decide, if_true]
   by_cases h : i < 0
   ·simp only [h, if_true] <;> omega
   ·simp only [h, if_false] <;> omega
 ·cases hi with
  | none => simp [sliceBounds, HT.fS]
  | some i =>
   simp only [sliceBounds, HT.fS, Option.getD_none, show (1 : Int) > 0 by decide, if_true]
   by_cases h : i < 0
   ·simp only [h, if_true] <;> omega
   ·simp only [h, if_false] <;> omega
theorem sT (its : List Value) (lo hi : Option Int) : slicePick its.toArray lo hi none = ((its.drop (HT.fS its.length 0 lo)).take (HT.fS its.length its.length hi - HT.fS its.length 0 lo)).toArray := by
 obtain ⟨h1, h2, h3⟩ := uW lo hi its.toArray.size
 unfold slicePick
 rw [h1, h2, h3]
 simp only [sliceRange_one, pick_run, List.size_toArray] <;> rfl
noncomputable def QI (K : PySem.W.Frag) : V → Option Int → Option Int → Hp → VK → Prop := fun x lo hi H Q => ∃ a xs, x = .ref a ∧ iZ K H a xs ∧ ∀ p, H p = none → Q (.ref p) (upd H p (.lst (qU xs lo hi)))
theorem L3 : C5 X (QI X.K) := by
 intro pins s σ H x v vl vu lo hi sl Q I rx hs pl pu h
 obtain ⟨a, xs, rfl, hx, q⟩ := h
 cases rx
 obtain ⟨its, r, ht, hz⟩ := I.list hx
 have hlen := r.length
 refine ⟨"list", _, slot_list_getitem.lookup, ht.isList.typeIs, ?_⟩
 refine wpAny_getItem_list_slice ht.isList hs pl pu .none (by simp) ?_ (by rw [List.size_toArray] <;> omega)
 rw [sT, ← hlen]
 refine ⟨.ref s.heap.objs.size, _, I.laid (t' := s.toks) (o := .lst (qU xs lo hi)) (fun b ob q => Heap.get?_push_of_some _ q) (Nat.le_refl _) ?_, rfl, q _ (I.cI.fresh (Nat.le_refl _))⟩
 exact ⟨Nat.le_trans (pW xs lo hi) hz, _, 0, (r.drop (HT.fS xs.length 0 lo)).take (HT.fS xs.length xs.length hi - HT.fS xs.length 0 lo), Heap.get?_push_size _ rfl⟩
noncomputable def BG : V → Bool
 | .bJ => true
 | .bl _ => true
 | .int _ => true
 | .str _ => true
 | _ => false
noncomputable def UP : V → V → Bool
 | .bJ, .bJ => true
 | .bl a, .bl b => a == b
 | .bl a, .int b => (if a then 1 else 0) == b
 | .int a, .bl b => a == (if b then 1 else 0)
 | .int a, .int b => a == b
 | .str a, .str b => a == b
 | _, _ => false
theorem QF {A : Around} {s : Shared} {y x : V} {u v : Value} (ry : RelV y u) (rx : RelV x v) (fy : BG y = true) (fx : BG x = true) : SeqAt.EqAt A s u v (UP y x) := by
 cases y with
 | bJ =>
  cases ry
  cases x with
  | bJ => cases rx; exact SeqAt.EqAt.same _
  | bl b => cases rx; exact SeqAt.EqAt.none_bool b
  | int b => obtain ⟨t, rfl⟩ := rx; exact SeqAt.EqAt.none_int b t
  | str b => obtain ⟨t, rfl⟩ := rx; exact SeqAt.EqAt.none_str b t
  | _ => exact absurd (show false = true from fx) Bool.false_ne_true
 | bl a =>
  cases ry
  cases x with
  | bJ => cases rx; exact SeqAt.EqAt.bool_none a
  | bl b => cases rx; exact SeqAt.EqAt.bool_bool a b
  | int b => obtain ⟨t, rfl⟩ := rx; exact SeqAt.EqAt.bool_int a b t
  | str b => obtain ⟨t, rfl⟩ := rx; exact SeqAt.EqAt.bool_str a b t
  | _ => exact absurd (show false = true from fx) Bool.false_ne_true
 | int a =>
  obtain ⟨t', rfl⟩ := ry
  cases x with
  | bJ => cases rx; exact SeqAt.EqAt.int_none a t'
  | bl b => cases rx; exact SeqAt.EqAt.int_bool a t' b
  | int b => obtain ⟨t, rfl⟩ := rx; exact SeqAt.EqAt.int_int a t' b t
  | str b => obtain ⟨t, rfl⟩ := rx; exact SeqAt.EqAt.int_str a t' b t
  | _ => exact absurd (show false = true from fx) Bool.false_ne_true
 | str a =>
  obtain ⟨t', rfl⟩ := ry
  cases x with
  | bJ => cases rx; exact SeqAt.EqAt.str_none a t'
  | bl b => cases rx; exact SeqAt.EqAt.str_bool a t' b
  | int b => obtain ⟨t, rfl⟩ := rx; exact SeqAt.EqAt.str_int a t' b t
  | str b => obtain ⟨t, rfl⟩ := rx; exact SeqAt.EqAt.str_str a t' b t
  | _ => exact absurd (show false = true from fx) Bool.false_ne_true
 | _ => exact absurd (show false = true from fy) Bool.false_ne_true
theorem oG : dN X (.builtin "len") (fun xs H Q => ∃ p ys, xs = [.ref p] ∧ (iZ X.K H p ys ∨ mB X.K H p ys) ∧ Q (.int ys.length) H) := by
 intro pins s σ H xs us Q I r h
 obtain ⟨p, ys, rfl, hq, q⟩ := h
 obtain ⟨u, rfl, rx⟩ := vals1 r
 cases rx
 have hn := m6
 rcases hq with hq | hq
 ·obtain ⟨its, r', pl, hz⟩ := I.list hq
  have hlen := r'.length
  exact Calls.call_len_list pl.isList (by simp only [List.size_toArray] <;> omega) ⟨.int ys.length, H, I.tok _, ⟨s.toks + 1, by rw [List.size_toArray, hlen]⟩, q⟩
 ·obtain ⟨its, r', pl, hz⟩ := I.tuple hq
  have hlen := r'.length
  exact len_tuple pl (by simp only [List.size_toArray] <;> omega) ⟨.int ys.length, H, I.tok _, ⟨s.toks + 1, by rw [List.size_toArray, hlen]⟩, q⟩
theorem u7 : dN X (.builtin "len") (fun xs H Q => ∃ z, xs = [.str z] ∧ z.length ≤ sizeLine ∧ Q (.int z.length) H) := by
 intro pins s σ H xs us Q I r h
 obtain ⟨z, rfl, hz, q⟩ := h
 obtain ⟨u, rfl, t, rfl⟩ := vals1 r
 have hn := m6
 exact len_str (by omega) ⟨.int z.length, H, I.tok _, ⟨_, rfl⟩, q⟩
theorem dN.or {f : Value} {r r' : List V → Hp → VK → Prop} (h : dN X f r) (h' : dN X f r') : dN X f (fun xs H Q => r xs H Q ∨ r' xs H Q) := by
 intro pins s σ H xs us Q I rs q
 rcases q with q | q
 ·exact h pins s σ H xs us Q I rs q
 ·exact h' pins s σ H xs us Q I rs q
theorem vE : dN X (.type "list") (fun xs H Q => ∃ p ys, xs = [.ref p] ∧ (iZ X.K H p ys ∨ mB X.K H p ys) ∧ ∀ l, H l = none → Q (.ref l) (upd H l (.lst ys))) := by
 intro pins s σ H xs us Q I r h
 obtain ⟨p, ys, rfl, hq, q⟩ := h
 obtain ⟨u, rfl, rx⟩ := vals1 r
 cases rx
 have fin : ∀ (its : List Value), Vals ys its → ys.length ≤ sizeLine → ∀ (h' : Heap) (c' : Nat), (∀ b o', s.heap.get? b = some o' → h'.get? b = some o') →
   h'.get? s.heap.objs.size = some { cls := .type "list", dict := none, data := .seq its.toArray c', slots := #[] } → EP X pins σ Q (.ref s.heap.objs.size) { s with heap := h' } := fun its r' hz h' c' kp e =>
  ⟨.ref s.heap.objs.size, _, I.laid (t' := s.toks) kp (Nat.le_refl _) (show eY X.prog X.w _ h' _ (.lst ys) from ⟨hz, its, c', r', e⟩), rfl, q _ (I.cI.fresh (Nat.le_refl _))⟩
 rcases hq with hq | hq
 ·obtain ⟨its, r', pl, hz⟩ := I.list hq
  have hlen := r'.length
  obtain ⟨o, ho, hc, n, hd⟩ := pl.isList
  exact call_list_seq p (.inl rfl) ho hc hd (fun h' c' kp e => fin its r' hz h' c' kp e) (by simp only [List.size_toArray] <;> omega)
 ·obtain ⟨its, r', pl, hz⟩ := I.tuple hq
  have hlen := r'.length
  obtain ⟨o, ho, hc, n, hd⟩ := pl
  exact call_list_seq p (.inr rfl) ho hc hd (fun h' c' kp e => fin its r' hz h' c' kp e) (by simp only [List.size_toArray] <;> omega)
theorem sZ : dN X (.type "tuple") (fun xs H Q => ∃ p ys, xs = [.ref p] ∧ ((iZ X.K H p ys ∧ ∀ l, H l = none → Q (.ref l) (upd H l (.tup ys))) ∨ (mB X.K H p ys ∧ Q (.ref p) H))) := by
 intro pins s σ H xs us Q I r h
 obtain ⟨p, ys, rfl, h⟩ := h
 obtain ⟨u, rfl, rx⟩ := vals1 r
 cases rx
 rcases h with ⟨hq, q⟩ | ⟨hq, q⟩
 ·obtain ⟨its, r', pl, hz⟩ := I.list hq
  have hlen := r'.length
  refine call_tuple_list pl.isList (fun h' kp => ?_) (by simp only [List.size_toArray] <;> omega)
  have I1 : Inv X pins σ H { s with heap := h' } := I.kept (t' := s.toks) kp
  have I2 : Inv X pins σ (upd H h'.objs.size (.tup ys)) { s with heap := h'.push { cls := .type "tuple", data := .seq its.toArray } } :=
   I1.laid (t' := s.toks) (fun b o e => Heap.get?_push_of_some _ e) (Nat.le_refl _) (show eY X.prog X.w _ _ _ (.tup ys) from ⟨hz, its, r', IsTup.new _ _⟩)
  exact ⟨.ref h'.objs.size, _, I2, rfl, q _ (I1.cI.fresh (Nat.le_refl _))⟩
 ·obtain ⟨its, r', pl, hz⟩ := I.tuple hq
  exact call_tuple_same pl ⟨.ref p, H, I, rfl, q⟩
noncomputable def U6 (K : PySem.W.Frag) (T : String) (x : V) (H : Hp) : Prop := match x with
 | .str _ => T = "str"
 | .int _ => T = "int"
 | .ref p => (T = "list" ∧ ∃ xs, iZ K H p xs) ∨ (T = "tuple" ∧ ∃ o, K.lookup p = some o ∧ o.cls = .type "tuple" ∧ o.dict = none) ∨
   (T = "dict" ∧ ((∃ kvs, H p = some (.dK kvs)) ∨ ∃ kvs, H p = some (.dT kvs))) ∨ (T = "set" ∧ ∃ S n, H p = some (.set S n))
 | _ => False
theorem N1 {pins : List (Addr × Obj)} {σ : St} {H : Hp} {s : Shared} {T : String} {x : V} {v : Value} (I : Inv X pins σ H s) (r : RelV x v) (ty : U6 X.K T x H) :
  s.TypeIs v T ∧ ∀ a, v = .ref a → ∃ ob, s.heap.get? a = some ob ∧ ob.dict = none := by
 cases x with
 | str z =>
  obtain ⟨t, rfl⟩ := r
  cases (show T = "str" from ty)
  exact ⟨typeIs_str s z t, fun _ e => nomatch e⟩
 | int i =>
  obtain ⟨t, rfl⟩ := r
  cases (show T = "int" from ty)
  exact ⟨typeIs_int s i t, fun _ e => nomatch e⟩
 | ref p =>
  cases r
  rcases ty with ⟨rfl, xs, hq⟩ | ⟨rfl, o, hk, hc, hd⟩ | ⟨rfl, hk⟩ | ⟨rfl, S, n, hk⟩
  ·obtain ⟨its, _, pl, _⟩ := I.list hq
   refine ⟨pl.isList.typeIs, fun a e => ?_⟩
   cases e
   obtain ⟨o, n, e, c, hd, _⟩ := pl
   exact ⟨o, e, hd⟩
  ·refine ⟨⟨o, I.RD p o hk, hc⟩, fun a e => ?_⟩
   cases e
   exact ⟨o, I.RD _ o hk, hd⟩
  ·have z : ∃ o, s.heap.get? p = some o ∧ o.ExactDict := by
    rcases hk with ⟨kvs, hk⟩ | ⟨kvs, hk⟩
    ·obtain ⟨_, _, _, _, o, _, _, e, ex, _⟩ := I.cI p _ hk
     exact ⟨o, e, ex⟩
    ·obtain ⟨_, _, _, _, o, _, _, e, ex, _⟩ := I.cI p _ hk
     exact ⟨o, e, ex⟩
   obtain ⟨o, e, ex⟩ := z
   refine ⟨⟨o, e, ex.1⟩, fun a e2 => ?_⟩
   cases e2
   exact ⟨o, e, ex.2.1⟩
  ·obtain ⟨o, _, _, _, e, ex, _⟩ := I.cI p _ hk
   refine ⟨⟨o, e, ex.1⟩, fun a e2 => ?_⟩
   cases e2
   exact ⟨o, e, ex.2.1⟩
 | _ => exact False.elim ty
noncomputable def SH (K : PySem.W.Frag) (T : String) (r : V → List V → Hp → VK → Prop) (to : TE) (t : TA) : TE := fun σ H Q => to σ H fun x H1 => U6 K T x H1 ∧ t σ H1 fun xs H2 => r x xs H2 Q
variable {o e : Expr} {es : List Expr} {to : TE} {t : TA} {name : Str} {apos cpos : Pos} {T id : String} {r : V → List V → Hp → VK → Prop}
theorem SY (pa : PlainAttrs T) (slot : Slot T name id) (hty : typeOf (.builtin id) = pure (.type "method_descriptor")) (hm : UL X id r) (ho : PE X o to) (ha : PA X (e :: es) t)
  (hbase : attributeBase o name X.env (eval o X.env) = eval o X.env := by rfl)
  (hfew : ((backTo cpos (starEach (e :: es) X.env)).all (fun x => !x.1) && (backToKw cpos (keywordEach [] X.env)).all (fun x => x.1.isSome)
   && decide ((e :: es).length + ([] : List Keyword).length + (if ([] : List Keyword).isEmpty then 0 else 1) < 30)) = true := by rfl)
  (hline : (apos.endLine == cpos.line) = true := by rfl) (hs : starEach (e :: es) X.env = (false, eval e X.env) :: starEach es X.env := by rfl) (hplain : (backTo cpos (starEach es X.env)).any (·.1) = false := by rfl) :
  PE X (.Call (.Attribute o name apos) (e :: es) [] cpos) (SH X.K T r to t) := by
 intro pins s σ H Q I h
 refine wpAny_Call_method_late hbase hfew hline rfl (d8 (ho pins s σ H _ I h) fun v s1 ⟨x, H1, I1, r1, ty, q1⟩ => ?_)
 obtain ⟨h1, h2⟩ := N1 I1 r1 ty
 refine ⟨T, id, pa, slot, hty, h1, h2, ?_⟩
 have hA := ha cpos pins s1 σ H1 _ I1 q1
 rw [hs] at hA ⊢
 refine Calls.callWith_builtin (by show (false || (backTo cpos (starEach es X.env)).any (·.1)) = false; rw [hplain] <;> rfl) (Calls.evalArgs_plain ?_)
 exact d8 hA fun us s2 ⟨vs, H2, I2, r2, q2⟩ => hm pins s2 σ H2 x vs v us Q I2 r1 r2 q2
end
end L2
namespace L2
open PySem PySem.Spec PyProof.Rows
noncomputable def WH (X : Cx) (id : String) (r : V → List V → Hp → VK → Prop) : Prop :=
 ∀ (pins : List (Addr × Obj)) (s : Shared) (σ : St) (H : Hp) (x : V) (xs : List V) (v : Value) (us : List Value) (Q : VK), Inv X pins σ H s → RelV x v → Vals xs us → r x xs H Q →
  wpAny (model X.prog X.w) X.A (call (.builtin id) (v :: us)) (EP X pins σ Q) X.xe s
theorem Vals.one : ∀ {x : V} {us : List Value}, Vals [x] us → ∃ u, us = [u] ∧ RelV x u
 | _, _, .cons r .nil => ⟨_, rfl, r⟩
section
variable {X : Cx} {pins : List (Addr × Obj)} {σ : St} {H : Hp} {s : Shared} {l b : Addr} {xs ys zs : List V}
theorem Inv.U4 {its its' : List Value} {n : Nat} {f : Array Value → Array Value} {t' : Nat} (I : Inv X pins σ H s) (hH : H l = some (.lst xs))
  (e : s.heap.get? l = some { cls := .type "list", data := .seq its.toArray n }) (hf : f its.toArray = its'.toArray) (hv : Vals ys its') (hz : ys.length ≤ sizeLine) :
  Inv X pins σ (upd H l (.lst ys)) { s with heap := s.heap.update l (Obj.mapSeq f), toks := t' } := by
 have q := PySem.IsL.update e f
 rw [hf] at q
 refine I.write (x := l) (e := l) (by rw [hH]; exact trivial) (.inl rfl) (fun b' u hb hu => (Heap.get?_update_other s.heap (Obj.mapSeq f) (Ne.symm hb)).trans hu) ⟨_, q⟩ ?_
 exact ⟨hz, its', _, hv, q⟩
theorem Inv.VQ (I : Inv X pins σ H s) (hH : H l = some (.lst xs)) : xs.length ≤ sizeLine ∧ ∃ (its : List Value) (n : Nat), Vals xs its ∧ xs.length = its.length ∧ s.heap.get? l = some { cls := .type "list", data := .seq its.toArray n } := by
 obtain ⟨z, its, n, r, e⟩ := I.cI l _ hH
 exact ⟨z, its, n, r, r.length, e⟩
theorem y4 {n : Nat} (h : n ≤ sizeLine) : Builtin.List.listTooLong n = false := by
 unfold Builtin.List.listTooLong
 exact decide_eq_false (by omega)
end
section
variable {X : Cx}
noncomputable def qG : V → List V → Hp → VK → Prop := fun x vs H Q => ∃ l xs y, x = .ref l ∧ vs = [y] ∧ H l = some (.lst xs) ∧ xs.length < sizeLine ∧ Q .bJ (upd H l (.lst (xs ++ [y])))
theorem gZ : WH X "list.append" qG := by
 intro pins s σ H x vs v us Q I rx rv h
 obtain ⟨l, xs, y, rfl, rfl, hH, hz, q⟩ := h
 cases rx
 obtain ⟨u, rfl, ru⟩ := rv.one
 obtain ⟨z, its, n, r, hl, e⟩ := I.VQ hH
 refine call_meets F.slot_list_append ⟨_, e, rfl⟩ F.entry_list_append (F.args_list_append_2 _ _) (PySem.list_append l its.toArray n u (by rw [List.size_toArray]; omega)) ⟨e, ?_⟩
 refine ⟨.bJ, _, I.U4 (its' := its ++ [u]) hH e (by simp) (r.append (.cons ru .nil)) ?_, rfl, q⟩
 rw [List.length_append, List.length_singleton]
 omega
end
section
variable {prog : Program} {w : World} {A : Around} {E : Value → Shared → Prop} {s : Shared}
theorem zR {a c n : Nat} (hac : a ≤ c) (hc : c ≤ n) : sliceBounds (some (a : Int)) (some (c : Int)) none n = ((a : Int), (c : Int), 1) := by
 simp only [sliceBounds, Option.getD_none]
 have h1 : ¬ ((a : Int) < 0) := by omega
 have h2 : ¬ ((c : Int) < 0) := by omega
 simp only [h1, h2, if_false, show (1 : Int) > 0 by decide, if_true]
 congr 1
 ·omega
 ·congr 1; omega
set_option maxRecDepth 100000 in
theorem JG {l b sl : Addr} {items new : Array Value} {n n2 : Nat} {vl vu : Value} {a c : Nat} {Q : Unit → Shared → Prop}
    (e : s.heap.get? l = some { cls := .type "list", data := .seq items n }) (e2 : s.heap.get? b = some { cls := .type "list", data := .seq new n2 }) (hne : l ≠ b)
    (hs : s.heap.IsSliceOf sl vl vu .none) (pl : IsPart vl (some (a : Int))) (pu : IsPart vu (some (c : Int))) (hac : a ≤ c) (hc : c ≤ items.size)
    (hsz : items.size + new.size ≤ sizeLine) (h : Q () { s with heap := s.heap.update l (Obj.mapSeq fun xs => xs.extract 0 a ++ new ++ xs.extract c xs.size) }) :
    wpAny (model prog w) A (setItem (.ref l) (.ref sl) (.ref b)) Q E s := by
  have hl : s.heap.IsList l items := PySem.IsL.isList e
  have hb : s.heap.IsList b new := PySem.IsL.isList e2
  obtain ⟨os, hos, hcs, hds⟩ := id hs
  have hTs : s.TypeIs (.ref sl) "slice" := ⟨os, hos, hcs⟩
  have hstep : ¬ ((rawPart none == rawInt 0) = true) := Bool.false_ne_true
  have hsame : Builtin.List.listSameRef (.ref l) (.ref b) = false := by
    unfold Builtin.List.listSameRef
    exact beq_eq_false_iff_ne.mpr hne
  have hmax : (max (a : Int) (c : Int)).toNat = c := by omega
  have hz' : ((fun xs : Array Value => xs.extract 0 a ++ new ++ xs.extract c xs.size) items).size ≤ sizeLine + 1 := by
    simp only [Array.size_append, Array.size_extract]
    omega
  unfold setItem
  try with_reducible refine wpAny_holding ?_
  first | refine wpAny_bind (wpAny_pure ?_) | skip
  refine wpAny_bind (wpAny_sequenceKey hl.typeIs (by decide) ?_)
  refine wpAny_bind (wpAny_callSpecial?_slot (name := Str.ofString "__setitem__") hl.typeIs slot_list_setitem
    (wpAny_call_entry slot_list_setitem hl.typeIs entry_list_setitem ?_ (args_list_setitem _ _ _)))
  show wpAny _ _ (Builtin.List.listSubscript? (.ref sl) >>= _) _ _ s
  refine wpAny_bind ?_
  unfold Builtin.List.listSubscript?
  refine wpAny_bind (wpAny_specialOf hTs slice_no_index ?_)
  simp only [Option.isNone_none, if_true]
  refine wpAny_pure ?_
  show wpAny _ _ (typeOf (.ref sl) >>= _) _ _ s
  refine wpAny_bind (wpAny_typeOf hTs ?_)
  first
    | rw [if_neg (by decide)]
    | refine PySem.W.KFB.if_not (by decide) ?_
  rw [listSliceParts_eq]
  refine wpAny_bind (wpAny_bind (wpAny_field hos hds (x := .none) rfl (wpAny_bind (wpAny_listPart .none ?_))))
  rw [if_neg hstep]
  refine wpAny_bind (wpAny_field hos hds (x := vl) rfl (wpAny_bind (wpAny_listPart pl ?_)))
  refine wpAny_bind (wpAny_field hos hds (x := vu) rfl (wpAny_bind (wpAny_listPart pu (wpAny_pure ?_))))
  first
    | simp only [hsame, Bool.false_eq_true, if_false]
    | refine PySem.W.KFB.if_not hsame ?_
    | (dsimp only
       rw [if_neg (by rw [hsame]; exact Bool.false_ne_true)])
  refine wpAny_bind (m := Builtin.List.listAllItems (.ref b) "must assign iterable to extended slice") ?_
  unfold Builtin.List.listAllItems
  refine wpAny_bind (wpAny_typeOf hb.typeIs ?_)
  first
    | refine PySem.W.KFB.if_so (by decide) ?_
    | rw [if_pos (by decide)]
    | simp only [beq_self_eq_true, Bool.true_or, if_true]
  unfold Builtin.List.listItems
  refine wpAny_bind (wpAny_seqItems e2 rfl (wpAny_pure ?_))
  refine wpAny_bind (wpAny_bind (wpAny_seqItems e rfl (wpAny_pure ?_)))
  refine wpAny_bind (wpAny_of_eq ((sliceIndices_raw (some (a : Int)) (some (c : Int)) none items.size (by simp)).trans (congrArg (pure : Int × Int × Int → Sem (Int × Int × Int)) (zR hac hc))) ?_)
  show wpAny _ _ (if ((1 : Int) == 1) = true then _ else _) _ _ s
  rw [if_pos (by decide)]
  refine wpAny_bind (wpAny_rule ?_)
  first
    | simp only [y4 hsz, Bool.false_eq_true, if_false]
    | refine PySem.W.KFB.if_not (y4 hsz) ?_
  first | refine wpAny_bind (wpAny_pure ?_) | skip
  show wpAny _ _ (updateSeq l (fun xs => xs.extract 0 ((a : Int)).toNat ++ new ++ xs.extract (max (a : Int) (c : Int)).toNat xs.size) >>= _) _ _ s
  rw [hmax, Int.toNat_natCast]
  refine wpAny_bind (wpAny_updateSeq (hz := Nat.le_trans (Nat.le_add_right _ _) hsz) (_hz' := hz') e rfl ?_)
  refine wpAny_bind (wpAny_letGo ?_)
  first
    | exact wpAny_bind (wpAny_pure (wpAny_pure ⟨.none, rfl, wpAny_pure h⟩))
    | exact wpAny_pure ⟨.none, rfl, wpAny_pure h⟩
end
section
variable {X : Cx}
end
end L2
namespace V9
open PySem PySem.W PySem.Calls PyProof.Rows
theorem qA {P : Params} {h : Heap} : ∀ (ns : List Int) (vs : List Value), WellAll P h vs (ns.map WData.int) → IntsAre vs ns := by
 intro ns
 induction ns with
 | nil =>
  intro vs w
  rw [List.map_nil] at w
  cases w
  exact .nil
 | cons n ns ih =>
  intro vs w
  rw [List.map_cons] at w
  cases w with
  | cons a b =>
   cases a
   exact .cons _ _ (ih _ b)
theorem CP {l : OpenLaw} {n : Nat} (hn : l.most = some n) {P : Params} {h : Heap} {args : List WData} {vals : List Value}
  (hpre : l.row.toRowW.claim.pre args = true) (hwl : WellAll P h vals args) :
  ∃ a vs ns, vals = [Value.ref a] ∧ args = [WData.list (ns.map WData.int)] ∧ h.get? a = some { cls := .type "list", data := .seq vs.toArray } ∧ IntsAre vs ns ∧ ns.length ≤ n := by
 have hsh : WShape.hasAll [] args [.list .int] = true := (pre_splitW hpre).1
 have hc : l.pre.holds [] { args := args } = true := (pre_splitW hpre).2
 obtain ⟨d, r, rfl, h1, h2⟩ := hasAllW_cons hsh
 obtain rfl := hasAllW_nil h2
 obtain ⟨xs, rfl, h3⟩ := hasW_list h1
 obtain ⟨ns, rfl⟩ := items_int h3
 have hlen : ns.length ≤ n := by
  unfold OpenLaw.pre at hc
  have h4 : (WTm.not (.lt (.lit (.int (n : Int))) (.len (.arg 0)))).holds [] { args := [.list (ns.map .int)] } = true := by
   have h4 := (holds_andW hc).1
   rw [hn] at h4
   exact h4
  have h5 := condW_of h4 (w_not (w_lt w_lit (w_len_list (w_arg rfl))))
  rw [List.length_map] at h5
  refine Nat.le_of_not_lt fun q => ?_
  have q' : (n : Int) < ((ns.length : Nat) : Int) := by omega
  first
   | (rw [decide_eq_true q'] at h5; exact absurd h5 (by decide))
   | (simp at h5; omega)
 cases hwl with
 | cons w1 w2 =>
  cases w2
  cases w1 with
  | list ho hall => exact ⟨_, _, ns, rfl, rfl, ho, qA ns _ hall, hlen⟩
theorem DL (l : OpenLaw) (args : List WData) : l.row.toRowW.claim.post args (.bool true) args = true :=
 postW_of (r := l.row.toRowW) (X := (true == true))
  (show WShape.has [] (.bool true) .bool = true by first | rfl | decide | simp [WShape.has, WShape.arms, WShape.armsAll])
  (show (WTm.eq .res (.lit (.bool true))).value [] { args := args, res := some (.bool true), after := args } = some (.bool (true == true)) from w_eq_bool (w_res rfl) w_lit) rfl
theorem yE {l : OpenLaw} {n : Nat} {q : Program} {loose : List Str} {XP : (Str → Option Value) → Heap → Prop} {YP : World → Heap → Prop} {d : DefRec}
  (hn : l.most = some n) (hdf : d.params.defaults = [])
  (call : ∀ (w : World) (iR s₁ : Shared) (mg mb : Str → Option Value) (fa : Addr) (o : Obj) (pm cd doc : Value) (a : Addr) (vs : List Value) (ns : List Int),
   Ground q loose [] XP w iR mg mb s₁.heap → YP w s₁.heap →
   s₁.heap.get? fa = some o → o.data = .func (docDef d.name d.params d.body d.scope pm cd doc) → s₁.heap.CodeRec cd d.name → mg d.name = some (.ref fa) →
   s₁.heap.get? a = some { cls := .type "list", data := .seq vs.toArray } → IntsAre vs ns → ns.length ≤ n → s₁.gens = #[] →
   codeAny (model l.prog w) callerA (.call (.ref fa) ⟨[.ref a], []⟩) (fun r s' => r = .ok (.ret (.bool true)) ∧ OldK s₁.heap s'.heap ∧ s'.os = s₁.os ∧ AllBare s'.gens) s₁) :
  WalkO q loose XP YP l.row.toRowW d [] (fun f vs => PySem.call f vs) := by
 intro w iR s₁ mg mb G Y fa o pm cd doc dV kV ho hd hcd hD hmg hg args vals as hpre hlay hrd hwl hlo
 obtain rfl : dV = .none := Dflts.none hD hdf
 obtain rfl : kV = .none := Dflts.noKw hD
 obtain ⟨a, vs, ns, rfl, rfl, hobj, hints, hlen⟩ := CP hn hpre hwl
 refine enter_call (codeAny_mono (call w iR s₁ mg mb fa o pm cd doc a vs ns G Y ho (fd_plain hd) hcd hmg hobj hints hlen hg) fun r s' hq => ?_)
 obtain ⟨rfl, h2, h3, h4⟩ := hq
 exact ⟨.inl ⟨.bool true, .bool true, [], rfl, fun _ => rfl, .bool true, DL l _, fun _ => ⟨List.Pairwise.nil, fun _ hm => (nomatch hm)⟩⟩, h2, h3, h4⟩
section
variable {prog : Program} {w : World} {A : Around} {E : Value → Shared → Prop} {s : Shared} {K : Frag}
end
end V9
namespace L2
open PySem PySem.Spec PyProof.Rows
theorem uA : ∀ {vs : List Value} {ns : List Int}, IntsAre vs ns → Vals (ns.map V.int) vs
 | _, _, .nil => .nil
 | _, _, .cons n t h => .cons ⟨t, rfl⟩ (uA h)
noncomputable def OE (H : Hp) : Prop := ∀ b, H b = none ∨ ∃ o xs, H b = some (.D5 o (.lst xs))
theorem EF {P : Program} {w : World} {K : PySem.W.Frag} {mg mb : Str → Option Value} {CX : D4} {k : Nat} {fa a : Addr} {fd : FuncData} {x : Str} {sp : Sp} {s₁ : Shared} {vs : List Value} {ns : List Int}
  (KX : K.In s₁.heap) (hns : s₁.heap.Ns mainGlobals mg) (hb : s₁.heap.Ns builtinsNs mb) (hbb : ∀ x : Str, x ≠ "__name__" → mb x = bootBuiltins x) (hlim : s₁.heap.NoLimit) (hg : s₁.gens = #[])
  (ha : s₁.heap.get? a = some { cls := .type "list", data := .seq vs.toArray }) (hi : IntsAre vs ns) (hl : ns.length ≤ sizeLine) (hr : eU k callerA)
  (F : ∀ base : Heap, K.In base → base.Ns mainGlobals mg → cK P w K mg base CX k fa fd [x] sp) (hbind : ∀ (s : Shared) (u : Value), BindsTo s fd ⟨[u], []⟩ [(x, u)])
  (hsp : ∀ H : Hp, OE H → iZ K H a (ns.map V.int) → sp [.ref a] H (fun v _ => v = .bl true) fun _ _ _ => False)
  (hCX : ∀ H e s', CX [] H s₁ (fun _ _ _ => False) e s' → False) :
  codeAny (model P w) callerA (.call (.ref fa) ⟨[.ref a], []⟩) (fun r s' => r = .ok (.ret (.bool true)) ∧ OldK s₁.heap s'.heap ∧ s'.os = s₁.os ∧ AllBare s'.gens) s₁ := by
 have rv := uA hi
 have lenV := hi.length
 have core : ∀ H : Hp, OE H → iZ K H a (ns.map V.int) → mJ P w H s₁.heap → (∀ b, H b ≠ none → b = a) → (H a ≠ none → K.lookup a = none) →
   codeAny (model P w) callerA (.call (.ref fa) ⟨[.ref a], []⟩) (fun r s' => r = .ok (.ret (.bool true)) ∧ OldK s₁.heap s'.heap ∧ s'.os = s₁.os ∧ AllBare s'.gens) s₁ := by
  intro H hO hS cI hA hK
  have base_of : ∀ {b : Addr} {o : Obj}, s₁.heap.get? b = some o → H b = none → (vC s₁.heap H).get? b = some o := fun e n => EO e n
  have d6 : ∀ {b : Addr} {o : Obj} {es : Array DictEntry} {ep : Nat}, s₁.heap.get? b = some o → o.data = .dict es ep → H b = none := fun {b o es ep} e d => by
   cases q : H b with
   | none => rfl
   | some u =>
    have e' : b = a := hA b (by rw [q]; simp)
    subst e'
    rw [ha] at e; cases e
    have d' : Data.seq vs.toArray _ = Data.dict es ep := d
    cases d'
  have nsK : ∀ {b : Addr} {m : Str → Option Value}, s₁.heap.Ns b m → (vC s₁.heap H).Ns b m := fun {b m} ⟨o, es, ep, e, d, r⟩ => ⟨o, es, ep, base_of e (d6 e d), d, r⟩
  have hKb : K.In (vC s₁.heap H) := fun b o e => base_of (KX b o e) (by
   cases q : H b with
   | none => rfl
   | some u =>
    have e' : b = a := hA b (by rw [q]; simp)
    subst e'
    rw [hK (by rw [q]; simp)] at e; cases e)
  have hM : Mod K mg (vC s₁.heap H) := ⟨hKb, nsK hns, ⟨mb, nsK hb, hbb⟩, let ⟨mc, h1, h2⟩ := hlim; ⟨mc, nsK h1, h2⟩⟩
  have e0 : KY P w K mg (vC s₁.heap H) callerA [] s₁ H := ⟨rfl, hM, fun b o e => LY e, Nat.le_of_eq (C2 _ _), trivial, fun b hb => absurd (show b ∈ ([] : List Addr) from hb) (by simp), cI, .of_eq hg⟩
  refine codeAny_mono ((F _ hKb (nsK hns)).run callerA [] s₁ H ⟨[.ref a], []⟩ [.ref a] [.ref a] _ _ hr e0 (hbind s₁ (.ref a)) (.cons rfl .nil) (hsp H hO hS)) fun r s' h => ?_
  cases r with
  | error e => exact (hCX H e s' h).elim
  | ok fl =>
   cases fl with
   | next => exact False.elim h
   | brk => exact False.elim h
   | cont => exact False.elim h
   | ret u =>
    obtain ⟨v, H', os, bare, un, hok', r', q⟩ := h
    have q' : v = .bl true := q
    subst q'
    obtain rfl : u = Value.bool true := r'
    refine ⟨rfl, OldK.of_keep fun b o e => ?_, os, bare⟩
    cases q : H b with
    | none => exact un.keep b o e q (by intro z; exact absurd (show b ∈ ([] : List Addr) from z) (by simp)) (by simp)
    | some u =>
     rcases hO b with z | ⟨ob, xs, z⟩
     ·rw [q] at z; cases z
     ·have z2 := un.qP b ob _ z
      obtain ⟨e1, _⟩ := cI b _ z
      obtain ⟨e2, _⟩ := hok' b _ z2
      rw [e] at e1; cases e1
      exact e2
 cases hk : K.lookup a with
 | some o =>
  have e := KX a o hk
  rw [ha] at e
  cases e
  refine core (fun _ => none) (fun _ => .inl rfl) (.inr ⟨_, vs.toArray, _, hk, rfl, rfl, rfl, by rw [List.size_toArray, lenV]; exact hl, by simpa using rv⟩) (fun b u z => by have z' : (none : Option HO) = some u := z; cases z') (fun b z => absurd rfl z) fun z => absurd rfl z
 | none =>
  refine core (fun b => if b = a then some (.D5 { cls := .type "list", data := .seq vs.toArray } (.lst (ns.map V.int))) else none) (fun b => ?_) (.inl (.inr ⟨{ cls := .type "list", data := .seq vs.toArray }, if_pos rfl⟩)) (fun b u z => ?_) (fun b z => ?_) fun _ => hk
  ·by_cases hb : b = a
   ·exact .inr ⟨_, _, if_pos hb⟩
   ·exact .inl (if_neg hb)
  ·by_cases hb : b = a
   ·have z' := (if_pos hb).symm.trans z
    cases z'
    subst hb
    exact ⟨ha, by rw [List.length_map]; exact hl, vs, _, rv, ha⟩
   ·have z' := (if_neg hb).symm.trans z
    cases z'
  ·by_cases hb : b = a
   ·exact hb
   ·exact absurd (if_neg hb) z
end L2
namespace L2
open PySem PySem.Spec PyProof.Rows
theorem L4 {l : PySem.W.OpenLaw} {n k : Nat} {q : Program} {loose : List Str} {XP : (Str → Option Value) → Heap → Prop} {YP : World → Heap → Prop} {d : DefRec} {K : Params → PySem.W.Frag} {CX : World → D4} {sp : World → Sp} {x : Str}
  (hn : l.most = some n) (hn2 : n ≤ sizeLine) (hdf : d.params.defaults = []) (hr : eU k callerA)
  (hY : ∀ (w : World) (h : Heap), YP w h → (K w.params).In h)
  (F : ∀ (w : World) (mg : Str → Option Value) (fa : Addr) (h : Heap), (K w.params).In h → h.Ns mainGlobals mg → mg d.name = some (.ref fa) →
   ∃ fd : FuncData, (∀ (s : Shared) (u : Value), BindsTo s fd ⟨[u], []⟩ [(x, u)]) ∧
    ∀ base : Heap, (K w.params).In base → base.Ns mainGlobals mg → cK l.prog w (K w.params) mg base (CX w) k fa fd [x] (sp w))
  (hsp : ∀ (w : World) (H : Hp) (a : Addr) (ns : List Int), ns.length ≤ n → OE H → iZ (K w.params) H a (ns.map V.int) → sp w [.ref a] H (fun v _ => v = .bl true) fun _ _ _ => False)
  (hCX : ∀ (w : World) (H : Hp) (s : Shared) (e : Value) (s' : Shared), CX w [] H s (fun _ _ _ => False) e s' → False) :
  PySem.W.WalkO q loose XP YP l.row.toRowW d [] (fun f vs => PySem.call f vs) := by
 refine V9.yE hn hdf fun w iR s₁ mg mb fa o pm cd doc a vs ns G Y ho hd hcd hmg hobj hints hlen hg => ?_
 have KX := hY w _ Y
 obtain ⟨fd, hb, hF⟩ := F w mg fa _ KX G.T.g hmg
 exact EF KX G.T.g G.T.b G.T.builtins G.T.nolimit hg hobj hints (Nat.le_trans hlen hn2) hr hF hb (fun H hO hS => hsp w H a ns hlen hO hS) fun H e s' => hCX w H s₁ e s'
end L2
namespace L2
open PySem PySem.Spec PyProof.Rows
noncomputable def bC (s : Stmt) : Arguments := match s with
 | .FunctionDef _ a _ _ _ _ _ _ _ _ => a
 | _ => { posonlyargs := [], args := [], vararg := none, kwonlyargs := [], kw_defaults := [], kwarg := none, defaults := [] }
noncomputable def bA (s : Stmt) : List Stmt := match s with
 | .FunctionDef _ _ b _ _ _ _ _ _ _ => b
 | _ => []
noncomputable def aJ (s : Stmt) : Scope := match s with
 | .FunctionDef _ _ _ _ _ _ sc _ _ _ => sc
 | _ => { kind := .function, names := [], isGenerator := false, isCoroutine := false }
noncomputable abbrev hB : D4 := fun _ _ _ _ _ _ => False
noncomputable abbrev E0 : XK := fun _ _ _ => False
theorem T1 {X : Cx} : Passes hB X E0 := fun _ _ _ _ _ _ _ h => h.elim
structure RG (K : PySem.W.Frag) (x qual : Str) (st : Stmt) (f : Addr) (fd : FuncData) : Prop where
 ex : ∃ (oc : Value) (od : Option Addr) (kV doc pm : Value) (an : Option Addr) (cdv ct : Value) (osl : Array (Option Value)),
  fd = PySem.W.fnOf x qual (bC st) (bA st) (aJ st) .none kV doc pm an cdv ct ∧ K.lookup f = some ⟨oc, od, .func fd, osl⟩ ∧ PySem.W.codeIn K cdv qual = true
 kp : PySem.W.keepIn K (.ref f) = true
section
variable {P : Program} {w : World} {K : PySem.W.Frag} {mg : Str → Option Value} {base : Heap}
theorem RG.ok {x qual : Str} {st : Stmt} {f : Addr} {fd : FuncData} {N ps : List Str} {k : Nat} {sp : Sp} (F : RG K x qual st f fd) (S : cR N ps (aJ st)) (len : ∀ vs H Q E, sp vs H Q E → vs.length = ps.length)
  (hbody : ∀ (cdv : Value) (A : Around) (outer : List Env) (s : Shared) (H : Hp) (vs : List V) (Q : VK) (E : XK), eU k (A.deeper (envOfC qual (aJ st) s.heap.objs.size f cdv)) → sp vs H Q E →
   ∃ t, C4 (CT hB P w K mg base N qual (aJ st) f cdv A outer s H E).UO (bA st) t ∧ t { nx := fun _ H' => Q .bJ H', rt := Q } (start N vs) H) : cK P w K mg base hB (k + 1) f fd ps sp := by
 obtain ⟨oc, od, kV, doc, pm, an, cdv, ct, osl, rfl, lk, hcd⟩ := F.ex
 refine TC lk hcd S len fun A outer s H vs Q E hr hsp => ?_
 obtain ⟨t, h, q⟩ := hbody cdv A outer s H vs Q E hr hsp
 exact ⟨t, h.UO, q⟩
theorem RG.binds {x qual : Str} {st : Stmt} {f : Addr} {fd : FuncData} {ps : List Str} (F : RG K x qual st f fd)
  (h : ∀ (kV doc pm : Value) (an : Option Addr) (cdv ct : Value) (us : List Value), us.length = ps.length → bindArgs (PySem.W.fnOf x qual (bC st) (bA st) (aJ st) .none kV doc pm an cdv ct) ⟨us, []⟩ = pure (ps.zip us)) : Binds K fd ps [] := by
 obtain ⟨oc, od, kV, doc, pm, an, cdv, ct, osl, rfl, lk, hcd⟩ := F.ex
 exact .all (h kV doc pm an cdv ct)
theorem eE {x qual : Str} {st : Stmt} {f : Addr} {oc : Value} {od an : Option Addr} {osl : Array (Option Value)} {kV doc pm cdv ct : Value} (l : K.lookup f = some ⟨oc, od, .func (PySem.W.fnOf x qual (bC st) (bA st) (aJ st) .none kV doc pm an cdv ct), osl⟩)
  (c : PySem.W.codeIn K cdv qual = true) (k : PySem.W.keepIn K (.ref f) = true) : RG K x qual st f (PySem.W.fnOf x qual (bC st) (bA st) (aJ st) .none kV doc pm an cdv ct) := ⟨⟨oc, od, kV, doc, pm, an, cdv, ct, osl, rfl, l, c⟩, k⟩
end
theorem IK {A : Around} {k : Nat} (hr : eU k A) : A.units + 1 < cLine := Nat.lt_of_le_of_lt (Nat.add_le_add_left (by decide : 1 ≤ 64) _) hr.units
section
variable {X : Cx}
theorem pv (i : Nat) {x : Str} {pos : Pos} (hN : X.N[i]? = some x := by rfl) (hv : VX X.env.scope x := by first | exact Or.inl rfl | exact Or.inr (Or.inl rfl) | exact Or.inr (Or.inr rfl)) (hd : (x == ("__debug__" : Str)) = false := by decide)
  (hcd : (x == ("__classdict__" : Str)) = false := by decide) : PE X (.Name x pos) (wN i) := P8 hN hv hd hcd
end
noncomputable def bN (H H' : Hp) : Prop := ∀ b o, H b = some o → H' b = some o
theorem bN.refl (H : Hp) : bN H H := fun _ _ h => h
end L2
set_option maxHeartbeats 4000000
namespace L2
open PySem PySem.Spec PyProof.Rows
theorem m9 {env : Env} : ∀ (names : List (Str × NameKind)) (acc : List (Str × Addr)), (∀ p ∈ names, p.2 = .free → ∃ c, env.cells.lookup p.1 = some c) →
  (∀ y c, acc.lookup y = some c → env.cells.lookup y = some c) →
  ∃ cl, (forIn names acc (fun (p : Str × NameKind) (cs : List (Str × Addr)) => if (p.2 == NameKind.free) = true then (do let a ← cellOf env p.1; pure (ForInStep.yield ((p.1, a) :: cs))) else (pure (ForInStep.yield cs) : Sem _)) : Sem _) = pure cl ∧
   (∀ y c, cl.lookup y = some c → env.cells.lookup y = some c) ∧ (∀ y, (acc.lookup y).isSome = true → (cl.lookup y).isSome = true) ∧ ∀ y, (y, NameKind.free) ∈ names → (cl.lookup y).isSome = true
 | [], acc, _, h => ⟨acc, rfl, h, fun _ z => z, fun _ z => nomatch z⟩
 | (n, k) :: r, acc, hf, h => by
  by_cases hk : k = .free
  ·subst hk
   obtain ⟨c, hc⟩ := hf (n, .free) List.mem_cons_self rfl
   obtain ⟨cl, e, h1, h2, h3⟩ := m9 r ((n, c) :: acc) (fun p hp => hf p (List.mem_cons_of_mem _ hp)) (fun y d hd => by
    rw [List.lookup_cons] at hd
    cases q : y == n with
    | true => rw [q] at hd; cases hd; rw [eq_of_beq q]; exact hc
    | false => rw [q] at hd; exact h y d hd)
   refine ⟨cl, ?_, h1, fun y hy => h2 y ?_, fun y hy => ?_⟩
   ·rw [List.forIn_cons]
    have e0 : cellOf env n = pure c := by unfold cellOf; rw [hc]
    simp only [beq_self_eq_true, if_true, e0, pure_bind]
    exact e
   ·rw [List.lookup_cons]
    cases q : y == n with
    | true => rfl
    | false => exact hy
   ·rcases List.mem_cons.mp hy with q | q
    ·cases q
     refine h2 n ?_
     rw [List.lookup_cons, beq_self_eq_true]
     rfl
    ·exact h3 y q
  ·obtain ⟨cl, e, h1, h2, h3⟩ := m9 r acc (fun p hp => hf p (List.mem_cons_of_mem _ hp)) h
   refine ⟨cl, ?_, h1, h2, fun y hy => ?_⟩
   ·rw [List.forIn_cons]
    have e0 : (k == NameKind.free) = false := by simpa using hk
    simp only [e0, Bool.false_eq_true, if_false, pure_bind]
    exact e
   ·rcases List.mem_cons.mp hy with q | q
    ·cases q; exact absurd rfl hk
    ·exact h3 y q
theorem jH {env : Env} {scope : Scope} (hf : ∀ p ∈ scope.names, p.2 = .free → ∃ c, env.cells.lookup p.1 = some c) :
  ∃ cl, closureFor scope env = pure cl ∧ (∀ y c, cl.lookup y = some c → env.cells.lookup y = some c) ∧ ∀ y, (y, NameKind.free) ∈ scope.names → (cl.lookup y).isSome = true := by
 obtain ⟨cl, e, h1, _, h3⟩ := m9 (env := env) scope.names [] hf (fun y c h => by simp at h)
 refine ⟨cl, ?_, h1, h3⟩
 unfold closureFor
 have e' := congrArg (fun m : Sem (List (Str × Addr)) => m >>= fun cs => pure cs) e
 simp only [pure_bind] at e'
 rw [← e']
structure Q6 where
 cl : List (Str × Addr)
 C : Addr
 s : Shared
 H : Hp
 ex : List Addr
noncomputable def bP (X : Cx) (scope : Scope) (N : List Str) (c : Q6) : Cx :=
 { X with N := N, iR := c.s, ED := c.H, env := compEnvC scope c.cl c.C X.env, outer := X.stack, stack := X.stack, ex := c.ex, fn := fun _ => false, pn := [], xe := fun _ _ => False }
noncomputable def fV (k : Nat) (cV : List Nat) (σ : St) : St := List.replicate k none ++ cV.map fun i => (σ[i]?).getD none
noncomputable def MM : TT := fun _ H Q => Q true H
section
variable {prog : Program} {w : World} {A : Around} {R : Result → Shared → Prop} {s : Shared}
theorem t9 {elt target iter : Expr} {ifs : List Expr} {scope : Scope} {pos : Pos} {it acc : Value} {env : Env} (I : Nat → Shared → Prop)
  (turn : ∀ n s, I n s → wpAny (model prog w) A (pyNext it) (fun r s₁ => match r with
   | none => R (.ok .next) s₁
   | some v => wpAny (model prog w) A (letOwnedTupleGo target it v) (fun _ s₁' => wpAny (model prog w) A (assign target env v) (fun _ s₂ =>
     wpAny (model prog w) A (forIn ifs true fun c r => if r = true then do let ok ← isTrue c env (eval c env); pure (ForInStep.yield ok) else pure (ForInStep.yield r)) (fun ok s₃ =>
      if ok = true then wpAny (model prog w) A (eval elt env) (fun x s₄ =>
       wpAny (model prog w) A (call (.builtin "list.append") [acc, x]) (fun _ s₅ => ∃ m, m < n ∧ I m s₅) (fun _ _ => False) s₄) (fun _ _ => False) s₃
      else ∃ m, m < n ∧ I m s₃) (fun _ _ => False) s₂) (fun _ _ => False) s₁') (fun _ _ => False) s₁) (fun _ _ => False) s)
  (n : Nat) (h : I n s) :
  codeAny (model prog w) A (.compLoop (.ListComp elt [⟨target, iter, ifs, 0⟩] scope pos) 0 it acc env) R s := by
 refine codeAny_loop rfl I (fun n s hI => ?_) n h
 show wpAny _ A ((compTurn (.ListComp elt [⟨target, iter, ifs, 0⟩] scope pos) 0 it acc env).onRaise (fun x => do noteFrame x env; theTreesLotGoes x)) _ _ s
 refine wpAny_noted ?_
 refine wpAny_mono (E := fun _ _ => False) ?_ (fun _ _ q => q) (fun _ _ z => z.elim)
 rw [compTurn_list]
 refine wpAny_bind (wpAny_standAt (wpAny_bind (wpAny_mono (turn n s hI) (fun r s₁ h₁ => ?_) fun _ _ h' => h')))
 cases r with
 | none => exact wpAny_pure h₁
 | some v =>
  refine wpAny_bind (wpAny_mono h₁ (fun _ s₁' h₁' => ?_) fun _ _ h' => h')
  refine wpAny_bind (wpAny_mono h₁' (fun _ s₂ h₂ => wpAny_bind (wpAny_mono h₂ (fun ok s₃ h₃ => ?_) fun _ _ h' => h')) fun _ _ h' => h')
  cases ok with
  | false => exact wpAny_pure ⟨rfl, h₃⟩
  | true =>
   exact wpAny_bind (wpAny_bind (wpAny_mono h₃ (fun x s₄ h₄ => wpAny_bind (wpAny_mono h₄ (fun _ s₅ h₅ => wpAny_pure (wpAny_pure ⟨rfl, h₅⟩)) fun _ _ h' => h')) fun _ _ h' => h'))
end
noncomputable def M7 (X : Cx) (ifs : List Expr) (t : TT) : Prop :=
 ∀ (pins : List (Addr × Obj)) (s : Shared) (σ : St) (H : Hp) (Q : Bool → Hp → Prop), Inv X pins σ H s → t σ H Q →
  wpAny (model X.prog X.w) X.A (forIn ifs true fun c r => if r = true then do let ok ← isTrue c X.env (eval c X.env); pure (ForInStep.yield ok) else pure (ForInStep.yield r)) (TP X pins σ Q) X.xe s
theorem h9 {X : Cx} : M7 X [] MM := fun pins s σ H Q I h => wpAny_tests_nil ⟨H, I, h⟩
theorem oE {X : Cx} {c : Expr} {t : TT} (h : PT X c t) : M7 X [c] t := fun pins s σ H Q I hq => wpAny_tests_one (h pins s σ H Q I hq)
theorem fQ {env : Env} : ∀ {names : List (Str × NameKind)} {x : Str}, names.lookup x = some .free →
  (names.map fun (n, k) => if (k == NameKind.free && env.scope.kind == .function && env.kindOf n == some .cell) then (n, NameKind.cell) else (n, k)).lookup x = some .cell ∨
  (names.map fun (n, k) => if (k == NameKind.free && env.scope.kind == .function && env.kindOf n == some .cell) then (n, NameKind.cell) else (n, k)).lookup x = some .free
 | [], _, h => by simp at h
 | (n, k) :: r, x, h => by
  have ih := @fQ env r x
  show List.lookup x ((if (k == NameKind.free && env.scope.kind == .function && env.kindOf n == some .cell) = true then (n, NameKind.cell) else (n, k)) :: _) = _ ∨ List.lookup x ((if (k == NameKind.free && env.scope.kind == .function && env.kindOf n == some .cell) = true then (n, NameKind.cell) else (n, k)) :: _) = _
  cases hx : x == n with
  | true =>
   simp only [List.lookup_cons, hx] at h
   cases h
   by_cases hc : (NameKind.free == NameKind.free && env.scope.kind == .function && env.kindOf n == some .cell) = true
   ·rw [if_pos hc]; left; simp only [List.lookup_cons, hx]
   ·rw [if_neg hc]; right; simp only [List.lookup_cons, hx]
  | false =>
   simp only [List.lookup_cons, hx] at h
   by_cases hc : (k == NameKind.free && env.scope.kind == .function && env.kindOf n == some .cell) = true
   ·rw [if_pos hc]; simp only [List.lookup_cons, hx]; exact ih h
   ·rw [if_neg hc]; simp only [List.lookup_cons, hx]; exact ih h
theorem jA {env : Env} : ∀ {names : List (Str × NameKind)} {x : Str}, (∀ y ∈ names, y.2 ≠ .cell) →
  ((names.map fun (n, k) => if (k == NameKind.free && env.scope.kind == .function && env.kindOf n == some .cell) then (n, NameKind.cell) else (n, k)).lookup x = some .cell ∨
  (names.map fun (n, k) => if (k == NameKind.free && env.scope.kind == .function && env.kindOf n == some .cell) then (n, NameKind.cell) else (n, k)).lookup x = some .free) → (x, NameKind.free) ∈ names
 | [], _, _, h => by simp at h
 | (n, k) :: r, x, hn, h => by
  have ih := @jA env r x (fun y hy => hn y (List.mem_cons_of_mem _ hy))
  have h' : List.lookup x ((if (k == NameKind.free && env.scope.kind == .function && env.kindOf n == some .cell) = true then (n, NameKind.cell) else (n, k)) :: (r.map fun (n, k) => if (k == NameKind.free && env.scope.kind == .function && env.kindOf n == some .cell) then (n, NameKind.cell) else (n, k))) = some .cell ∨ List.lookup x ((if (k == NameKind.free && env.scope.kind == .function && env.kindOf n == some .cell) = true then (n, NameKind.cell) else (n, k)) :: (r.map fun (n, k) => if (k == NameKind.free && env.scope.kind == .function && env.kindOf n == some .cell) then (n, NameKind.cell) else (n, k))) = some .free := h
  cases hx : x == n with
  | true =>
   have e := eq_of_beq hx
   subst e
   by_cases hc : (k == NameKind.free && env.scope.kind == .function && env.kindOf x == some .cell) = true
   ·have hk : k = .free := by
     have := (Bool.and_eq_true _ _ |>.mp ((Bool.and_eq_true _ _ |>.mp hc).1)).1
     exact eq_of_beq this
    subst hk
    exact List.mem_cons_self
   ·rw [if_neg hc] at h'
    simp only [List.lookup_cons, hx] at h'
    have hk := hn (x, k) List.mem_cons_self
    rcases h' with z | z
    ·exact absurd (Option.some.inj z) hk
    ·rw [Option.some.inj z]; exact List.mem_cons_self
  | false =>
   refine List.mem_cons_of_mem _ (ih ?_)
   by_cases hc : (k == NameKind.free && env.scope.kind == .function && env.kindOf n == some .cell) = true
   ·rw [if_pos hc] at h'; simp only [List.lookup_cons, hx] at h'; exact h'
   ·rw [if_neg hc] at h'; simp only [List.lookup_cons, hx] at h'; exact h'
noncomputable def SA (J : It) (g : TG) (tt : TT) (te : TE) (l : Addr) (σ0 : St) (H0 : Hp) (Q : VK) : Prop :=
 ∃ W : Nat → Nat → St → Hp → Prop, (∃ m, W 0 m σ0 H0) ∧
   ∀ i m σ' H2, W i m σ' H2 → (J.stop i H2 ∧ Q (.ref l) H2) ∨ (J.go i H2 ∧ ∃ N : St → Hp → Prop, (∀ σ3 H3, N σ3 H3 → ∃ m', m' < m ∧ W (i + 1) m' σ3 H3) ∧
    ∀ x H3, J.RE i H2 x H3 → g x σ' H3 fun σ4 H4 => tt σ4 H4 fun b H5 => if b = true then te σ4 H5 fun y H6 => ∃ xs, H6 l = some (.lst xs) ∧ xs.length < sizeLine ∧ N σ4 (upd H6 l (.lst (xs ++ [y]))) else N σ4 H5)
noncomputable def tS (wi : TI) (k : Nat) (cV : List Nat) (g : TG) (tt : TT) (te : TE) : TE := fun σ H Q => wi σ H fun J H1 => ∀ l, H1 l = none → SA J g tt te l (fV k cV σ) (upd H1 l (.lst [])) Q
structure g8 (X : Cx) (scope : Scope) (N : List Str) (k : Nat) (cV : List Nat) : Prop where
 kind : scope.kind = .function
 names : ∀ y ∈ scope.names, y.2 = .local → scope.names.lookup y.1 = some .local
 cell : ∀ y ∈ scope.names, y.2 ≠ .cell
 free : ∀ y ∈ scope.names, y.2 = .free → X.env.kindOf y.1 = some .cell ∨ X.env.kindOf y.1 = some .free
 len : N.length = k + cV.length
 cV : ∀ j i, cV[j]? = some i → ∃ y, N[k + j]? = some y ∧ X.N[i]? = some y ∧ scope.names.lookup y = some .free
theorem uN {k : Nat} {cV : List Nat} {σ : St} {j : Nat} {v : V} (h : (fV k cV σ)[j]? = some (some v)) : ∃ q i, j = k + q ∧ cV[q]? = some i ∧ σ[i]? = some (some v) := by
 unfold fV at h
 by_cases hj : j < k
 ·rw [List.getElem?_append_left (by simpa using hj), List.getElem?_replicate] at h
  split at h <;> cases h
 ·rw [List.getElem?_append_right (by simpa using hj), List.length_replicate, List.getElem?_map] at h
  cases q : cV[j - k]? with
  | none => rw [q] at h; cases h
  | some i =>
   rw [q] at h
   have h' : (σ[i]?).getD none = some v := Option.some.inj h
   refine ⟨j - k, i, by omega, q, ?_⟩
   cases r : σ[i]? with
   | none => rw [r] at h'; cases h'
   | some o => rw [r] at h'; have : o = some v := h'; rw [this]
theorem mJ.but {P : Program} {w : World} {H : Hp} {h h' : Heap} {C : Addr} (x : mJ P w H h) (hC : H C = none) (k : ∀ b o, b ≠ C → h.get? b = some o → h'.get? b = some o) : mJ P w H h' := fun b u e => by
 have nit : ∀ b u, H b = some u → b ≠ C := fun b u e z => by rw [z, hC] at e; cases e
 refine (x b u e).aP (fun c v hc q => k c v ?_ q) (fun _ q => q) fun _ _ q => q
 rcases hc with z | z
 ·rw [z]; exact nit b u e
 ·exact nit c _ z
section
variable {X : Cx} {elt tg iter : Expr} {ifs : List Expr} {scope : Scope} {pos : Pos} {wi : TI} {g : TG} {tt : TT} {te : TE} {N : List Str} {k : Nat} {cV : List Nat}
theorem sM {pins : List (Addr × Obj)} {σ : St} {H2 : Hp} {s2 : Shared} {cl : List (Str × Addr)} {C : Addr} {fp : List Addr} (S : g8 X scope N k cV) (I2 : Inv X pins σ H2 s2)
  (hcl1 : ∀ y c, cl.lookup y = some c → X.env.cells.lookup y = some c) (hcl2 : ∀ y, (y, NameKind.free) ∈ scope.names → (cl.lookup y).isSome = true) (hC : s2.heap.objs.size ≤ C)
  (hf : ∀ b ∈ fp, oQ X pins H2 b) (ho : ∀ b ∈ fp, b < s2.heap.objs.size) : (bP X scope N ⟨cl, C, s2, H2, fp⟩).Ok where
 mod := I2.ok.mod
 kind := S.kind
 glob := I2.ok.glob
 blt := I2.ok.blt
 above := hC
 inj := fun x y c h1 h2 => I2.ok.inj x y c (hcl1 x c h1) (hcl1 y c h2)
 has := fun x h => by
  have h' : (x, NameKind.free) ∈ scope.names := jA (env := X.env) S.cell h
  exact Option.isSome_iff_exists.mp (hcl2 x h')
 RH := fun _ _ z => by cases z
 hd := I2.ok.hd
 frames := I2.ok.frames
 TN := .inl rfl
 VB := fun b hb => ⟨Nat.ne_of_lt (Nat.lt_of_lt_of_le (ho b hb) hC), fun x c e => (hf b hb).2.2.2.2.1 x c (hcl1 x c e)⟩
 bs := I2.bs
 LF := Nat.le_trans I2.ok.LF I2.sz
 DO := fun b o e hb => by
  rcases (hf b hb).2.2.2.1 with z | z
  ·exact I2.ok.DO b o e z
  ·exact absurd (Nat.lt_of_lt_of_le (Heap.lt_size e) (Nat.le_trans I2.ok.LF z)) (Nat.lt_irrefl _)
 y3 := fun b hb hb' => by
  rcases List.mem_cons.mp (I2.AF b hb') with z | z
  ·exact (hf b hb).2.1 z
  ·exact (hf b hb).2.2.1 z
 p8 := I2.stack
 N8 := I2.BW
theorem B4 {pins : List (Addr × Obj)} {σ : St} {H2 : Hp} {s2 : Shared} {cl : List (Str × Addr)} {C : Addr} {fp : List Addr} {h1 : Heap} {tk : Nat} {m0 : Str → Option Value} (S : g8 X scope N k cV) (I2 : Inv X pins σ H2 s2)
  (hcl1 : ∀ y c, cl.lookup y = some c → X.env.cells.lookup y = some c) (hcl2 : ∀ y, (y, NameKind.free) ∈ scope.names → (cl.lookup y).isSome = true) (hC : C = s2.heap.objs.size + 1)
  (hf : ∀ b ∈ fp, oQ X pins H2 b) (ho : ∀ b ∈ fp, b < s2.heap.objs.size) (hk : ∀ b o, s2.heap.get? b = some o → h1.get? b = some o) (hD : h1.get? s2.heap.objs.size = some { cls := .type "list", data := .seq #[] 0 }) (hns : h1.Ns C m0) :
  Inv (bP X scope N ⟨cl, C, s2, H2, fp⟩) [] (fV k cV σ) (upd H2 s2.heap.objs.size (.lst [])) { s2 with heap := h1, toks := tk } := by
 have fr : H2 s2.heap.objs.size = none := I2.cI.fresh (Nat.le_refl _)
 have hCf : H2 C = none := I2.cI.fresh (hC ▸ Nat.le_succ _)
 refine ⟨sM S I2 hcl1 hcl2 (hC ▸ Nat.le_succ _) hf ho, rfl, I2.bare, Un.laid hk (Nat.le_refl _) fr, ⟨m0, hns, fun i y v e1 e2 e3 => ?_⟩, fun x c e => ?_, ?_, fun x c e => ?_, fun p hp => absurd (show p ∈ ([] : List (Addr × Obj)) from hp) (by simp), I2.cI.laid hk (Nat.le_refl _) ?_, ?_⟩
 ·obtain ⟨q, j, rfl, hj, hv⟩ := uN e2
  obtain ⟨z, hz1, hz2, hz3⟩ := S.cV q j hj
  have e1' : N[k + q]? = some y := e1
  rw [hz1] at e1'
  cases e1'
  obtain ⟨m, hn, hl⟩ := I2.loc
  have hfr := S.free (y, .free) (PySem.mem_of_lookup hz3) rfl
  obtain ⟨u, r, l⟩ := hl j y v hz2 hv (by rcases hfr with z | z; exact .inr (.inl z); exact .inr (.inr z))
  refine ⟨u, r, .inr ⟨fQ (env := X.env) hz3, ?_⟩⟩
  obtain ⟨c, hc⟩ := Option.isSome_iff_exists.mp (hcl2 y (PySem.mem_of_lookup hz3))
  rcases l with ⟨hk', _⟩ | ⟨_, c', hc', hcell⟩
  ·rcases hfr with z | z <;> (rw [hk'] at z; cases z)
  ·have e := hcl1 y c hc
   rw [hc'] at e
   cases e
   obtain ⟨o, ho', hd⟩ := hcell
   exact ⟨_, hc, o, hk _ _ ho', hd⟩
 ·obtain ⟨v, o, ho', hd⟩ := I2.cell x c (hcl1 x c e)
  exact ⟨v, o, hk _ _ ho', hd⟩
 ·show upd H2 s2.heap.objs.size (.lst []) C = none
  rw [aX (Nat.ne_of_gt (hC ▸ Nat.lt_succ_self _))]
  exact hCf
 ·have e' := hcl1 x c e
  obtain ⟨v, q⟩ := I2.cell x c e'
  rw [aX (Nat.ne_of_lt q.lt)]
  exact I2.kX x c e'
 ·exact ⟨Nat.zero_le _, [], 0, .nil, hD⟩
 ·show (fV k cV σ).length = N.length
  unfold fV
  rw [List.length_append, List.length_replicate, List.length_map, S.len]
theorem K8 (hc : X.calm = true) (S : g8 X scope N k cV) (hi : PI X tg iter wi) (hg : ∀ c, PG (bP X scope N c) tg g) (ht : ∀ c, M7 (bP X scope N c) ifs tt) (he : ∀ c, PE (bP X scope N c) elt te)
  (hs : ∀ x, foldedSetIterable iter X.env x = pure x := by intro _; rfl) : PE X (.ListComp elt [⟨tg, iter, ifs, 0⟩] scope pos) (tS wi k cV g tt te) := by
 intro pins s σ H Q I h
 rw [eval_ListComp]
 obtain ⟨cl, hclos, hcl1, hcl2⟩ := jH (scope := scope) (env := X.env) (fun p hp hf => I.ok.has p.1 (S.free p hp hf))
 refine wpAny_comprehension_free (use := none) rfl hs hclos S.kind S.names (d8 (hi pins s σ H _ I h) fun v s1 h1 => d8 h1 fun itv s2 h2 => ?_)
 obtain ⟨it, fp, tn, J, H2, e, I2, T, st2, f2, q2⟩ := h2
 subst e
 obtain ⟨W, ⟨m0, w0⟩, turn⟩ := q2 s2.heap.objs.size (I2.cI.fresh (Nat.le_refl _))
 have hob : ∀ b ∈ fp, b < s2.heap.objs.size := fun b hb => let ⟨o, e, _⟩ := T.obj _ _ st2 b hb; Heap.lt_size e
 refine wpAny_newObj_type (wpAny_newFunctionEnv S.cell (by intro y hy; simp at hy) (fun h₁ hns₁ hsb₁ => ?_) S.kind)
 dsimp only at hns₁ hsb₁ ⊢
 generalize hHH : s2.heap.push { cls := .type "list", dict := none, data := .seq ([] : List Value).toArray } = HH at hns₁ hsb₁ ⊢
 have hCC : HH.objs.size = s2.heap.objs.size + 1 := by rw [← hHH, Heap.size_push]
 have old : ∀ b o, s2.heap.get? b = some o → h₁.get? b = some o := fun b o e => hsb₁.extBut b o (Nat.ne_of_lt (hCC ▸ Nat.lt_succ_of_lt (Heap.lt_size e))) (Heap.get?_push_of_some _ (hHH ▸ Heap.get?_push_of_some _ e))
 have hD : h₁.get? s2.heap.objs.size = some { cls := .type "list", data := .seq #[] 0 } := hsb₁.extBut _ _ (Nat.ne_of_lt (hCC ▸ Nat.lt_succ_self _)) (Heap.get?_push_of_some _ (hHH ▸ Heap.get?_push_size _ rfl))
 have I4 := fun tk => B4 (tk := tk) S I2 hcl1 hcl2 hCC f2 hob old hD hns₁
 have X' := bP X scope N ⟨cl, HH.objs.size, s2, H2, fp⟩
 have stat : ∀ {H' : Hp}, (∀ b ∈ fp, H' b = none) → ∀ b ∈ fp, oQ (bP X scope N ⟨cl, HH.objs.size, s2, H2, fp⟩) [] H' b := fun hn b hb =>
  ⟨hn b hb, Nat.ne_of_lt (hCC ▸ Nat.lt_succ_of_lt (hob b hb)), (sM S I2 hcl1 hcl2 (hCC ▸ Nat.le_succ _) f2 hob).y3 b hb, .inl hb, fun x c e => (f2 b hb).2.2.2.2.1 x c (hcl1 x c e), fun p hp => absurd (show p ∈ ([] : List (Addr × Obj)) from hp) (by simp)⟩
 have loop : ∀ s₃ : Shared, s₃ = { s2 with heap := h₁, toks := s2.toks + ([] : List (Str × Value)).length } →
   codeAny (model X.prog X.w) X.A (.compLoop (.ListComp elt [⟨tg, iter, ifs, 0⟩] scope pos) 0 (.ref it) (.ref s2.heap.objs.size) (compEnvC scope cl HH.objs.size X.env))
    (compPost (model X.prog X.w) X.A X.xe none (EP X pins σ Q) (.ref s2.heap.objs.size) HH.objs.size) s₃ := by
  rintro s₃ rfl
  refine t9 (fun n s' => ∃ i σ' H', Inv (bP X scope N ⟨cl, HH.objs.size, s2, H2, fp⟩) [] σ' H' s' ∧ tn i s'.heap ∧ (∀ b ∈ fp, H' b = none) ∧ W i n σ' H') ?_ m0
   ⟨0, fV k cV σ, _, I4 _, T.keep _ _ _ st2 fun b _ o e => old b o e, fun b hb => by rw [aX (Nat.ne_of_lt (hob b hb))]; exact (f2 b hb).1, w0⟩
  rintro n s3 ⟨i, σ3, H3, I3, st3, fr3, w3⟩
  rcases turn i n σ3 H3 w3 with ⟨stop, qn⟩ | ⟨go, NN, hN, step⟩
  ·refine d8 (T.done (bP X scope N ⟨cl, HH.objs.size, s2, H2, fp⟩) rfl rfl rfl hc i [] s3 σ3 H3 _ I3 (stat fr3) st3 stop) fun r s4 ⟨hr, J4⟩ => ?_
   subst hr
   obtain ⟨m, hn, _⟩ := J4.loc
   refine ⟨m, hn, fun h' hs' => ?_⟩
   have keepC : ∀ b o, b ≠ HH.objs.size → s4.heap.get? b = some o → h'.get? b = some o := fun b o hb e => hs'.extBut b o hb e
   have iY : ∀ b o, s2.heap.get? b = some o → b ≠ HH.objs.size := fun b o e => Nat.ne_of_lt (hCC ▸ Nat.lt_succ_of_lt (Heap.lt_size e))
   have u := J4.base
   have u' : Un (C3 X.stack) fp H2 H3 s2.heap h' := ⟨fun b o q n hb hx => keepC b o (iY b o q) (u.keep b o q n hb hx), fun b o q n hb hx => by
     obtain ⟨sl, e⟩ := u.slot b o q n hb hx
     exact ⟨sl, keepC b _ (iY b o q) e⟩, u.free, fun b o q hx => by
     obtain ⟨o', e⟩ := u.there b o q hx
     exact ⟨o', keepC b _ (iY b o q) e⟩, u.tE, u.qP, u.sV⟩
   refine ⟨.ref s2.heap.objs.size, H3, I2.JC (ch := fp) J4.os u' (J4.cI.but J4.free keepC) J4.bare fun b hb => ?_, rfl, qn⟩
   obtain ⟨_, f1, _, f3, f4, f5⟩ := f2 b hb
   exact ⟨f3, f1, f4, f5⟩
  ·refine d8 (T.item (bP X scope N ⟨cl, HH.objs.size, s2, H2, fp⟩) rfl rfl rfl hc i [] s3 σ3 H3 _ I3 (stat fr3) st3 go) fun r s4 ⟨u, hr, h4⟩ => ?_
   subst hr
   refine d8 h4 fun _ s5 ⟨x, H5, I5, r5, y5, st5, fr5⟩ => ?_
   have I5' := I5.pinned (stat fr5) (T.obj _ _ st5)
   have again : ∀ {s7 : Shared} {σ7 : St} {H7 : Hp}, Inv (bP X scope N ⟨cl, HH.objs.size, s2, H2, fp⟩) ([] ++ m7 fp s5.heap) σ7 H7 s7 → NN σ7 H7 →
     ∃ m, m < n ∧ ∃ i σ' H', Inv (bP X scope N ⟨cl, HH.objs.size, s2, H2, fp⟩) [] σ' H' s7 ∧ tn i s7.heap ∧ (∀ b ∈ fp, H' b = none) ∧ W i m σ' H' := fun {s7 σ7 H7} I7 n7 => by
    obtain ⟨m', hm, w7⟩ := hN σ7 H7 n7
    refine ⟨m', hm, i + 1, σ7, H7, I7.jP, T.keep _ _ _ st5 fun b hb o e => (I7.pin (b, o) (List.mem_append_right _ (List.mem_append_right _ (fA hb e)))).1, fun b hb => ?_, w7⟩
    obtain ⟨o, e, d⟩ := T.obj _ _ st5 b hb
    exact (I7.pin (b, o) (List.mem_append_right _ (List.mem_append_right _ (fA hb e)))).2.1
   refine d8 (hg _ _ s5 σ3 H5 x u _ I5' r5 (step x H5 y5)) fun _ s6 ⟨σ6, H6, I6, q6⟩ => ?_
   refine d8 (ht _ _ s6 σ6 H6 _ I6 q6) fun b s7 ⟨H7, I7, q7⟩ => ?_
   cases b with
   | false => exact again I7 q7
   | true =>
    refine d8 (he _ _ s7 σ6 H7 _ I7 q7) fun y s8 ⟨yv, H8, I8, r8, xs, hl, hz, n8⟩ => ?_
    refine d8 (gZ _ s8 σ6 H8 (.ref s2.heap.objs.size) [yv] (.ref s2.heap.objs.size) [y] (fun _ H9 => NN σ6 H9) I8 rfl (.cons r8 .nil) ⟨_, xs, yv, rfl, rfl, hl, hz, n8⟩) fun _ s9 ⟨_, H9, I9, _, q9⟩ => ?_
    exact again I9 q9
 exact codeAny_compStart_list (loop _ rfl) (T.self X.A 0 _ _ _ (T.keep _ _ _ st2 fun b _ o e => old b o e) (loop _ rfl))
end
end L2
namespace L2
open PySem PySem.Spec PyProof.Rows
noncomputable def RJ (z : Str) : It := ⟨fun i _ => i < z.cps.size, fun i H x H' => H' = H ∧ ∃ c, z.cps[i]? = some c ∧ x = .str ⟨#[c]⟩, fun i _ => z.cps.size ≤ i⟩
theorem CG {P : Program} {w : World} {K : PySem.W.Frag} {tg : Expr} (z : Str) (t : Tok) (it : Addr) : Turn P w K tg (RJ z) [it] it (fun i h => h.IsStrIter it "str_ascii_iterator" z t i) where
 mem := by simp
 obj := fun i h st b hb => by
  have e : b = it := by simpa using hb
  subst e
  obtain ⟨o, e, c, d⟩ := st
  exact ⟨o, e, fun v z => by rw [d] at z; cases z⟩
 keep := fun i h h' st k => let ⟨o, e, r⟩ := st; ⟨o, k it (by simp) o e, r⟩
 item := by
  intro X hP hw hK hc i pins s σ H E I hf st hg
  subst hP hw hK
  obtain ⟨f0, f1, f2, f3, f4, f5⟩ := hf it (by simp)
  have hg' : i < z.cps.size := hg
  refine wpAny_pyNext_ascii_item st (c := z.cps[i]) (by simp [hg']) fun h' st' sb => ?_
  have I1 : Inv X pins σ H { s with heap := h', toks := s.toks + 1 } := I.turned (fun b o hb e => (sb.2 b hb).trans e) f0 f1 f3 f4 f5
  obtain ⟨o, e, c, d⟩ := id st'
  exact ⟨_, rfl, xI (s := { s with heap := h', toks := s.toks + 1 }) e c d (by decide) ⟨.str ⟨#[z.cps[i]]⟩, H, I1, ⟨_, rfl⟩, ⟨rfl, _, by simp [hg'], rfl⟩, st', fun b hb => (hf b hb).1⟩⟩
 done := by
  intro X hP hw hK hc i pins s σ H E I hf st hg
  subst hP hw hK
  obtain ⟨f0, f1, f2, f3, f4, f5⟩ := hf it (by simp)
  exact wpAny_pyNext_ascii_end (I.ok.hd hc) st (Array.getElem?_eq_none hg) fun h' eb => ⟨rfl, I.turned (t' := s.toks) (fun b o hb e => eb b o hb e) f0 f1 f3 f4 f5⟩
 self := fun A i s Q E st h => by
  refine wpAny_pyIter_slot st.typeIs F.slot_str_ascii_iterator_iter (wpAny_call_entry F.slot_str_ascii_iterator_iter st.typeIs F.entry_str_ascii_iterator_iter ?_ (F.args_str_ascii_iterator_iter_1 _))
  show wpAny _ _ (ret (.ref it)) _ _ s
  exact wpAny_pure ⟨_, rfl, "str_ascii_iterator", _, st.typeIs, F.slot_str_ascii_iterator_next.lookup, h⟩
theorem CN {P : Program} {w : World} {K : PySem.W.Frag} {tg : Expr} (z : Str) (t : Tok) (it : Addr) : Turn P w K tg (RJ z) [it] it (fun i h => h.IsStrIter it "str_iterator" z t i) where
 mem := by simp
 obj := fun i h st b hb => by
  have e : b = it := by simpa using hb
  subst e
  obtain ⟨o, e, c, d⟩ := st
  exact ⟨o, e, fun v z => by rw [d] at z; cases z⟩
 keep := fun i h h' st k => let ⟨o, e, r⟩ := st; ⟨o, k it (by simp) o e, r⟩
 item := by
  intro X hP hw hK hc i pins s σ H E I hf st hg
  subst hP hw hK
  obtain ⟨f0, f1, f2, f3, f4, f5⟩ := hf it (by simp)
  have hg' : i < z.cps.size := hg
  refine wpAny_pyNext_wide_item st (c := z.cps[i]) (by simp [hg']) fun h' st' sb => ?_
  have I1 : Inv X pins σ H { s with heap := h', toks := s.toks + 1 } := I.turned (fun b o hb e => (sb.2 b hb).trans e) f0 f1 f3 f4 f5
  obtain ⟨o, e, c, d⟩ := id st'
  exact ⟨_, rfl, xI (s := { s with heap := h', toks := s.toks + 1 }) e c d (by decide) ⟨.str ⟨#[z.cps[i]]⟩, H, I1, ⟨_, rfl⟩, ⟨rfl, _, by simp [hg'], rfl⟩, st', fun b hb => (hf b hb).1⟩⟩
 done := by
  intro X hP hw hK hc i pins s σ H E I hf st hg
  subst hP hw hK
  obtain ⟨f0, f1, f2, f3, f4, f5⟩ := hf it (by simp)
  exact wpAny_pyNext_wide_end (I.ok.hd hc) st (Array.getElem?_eq_none hg) fun h' eb => ⟨rfl, I.turned (t' := s.toks) (fun b o hb e => eb b o hb e) f0 f1 f3 f4 f5⟩
 self := fun A i s Q E st h => by
  refine wpAny_pyIter_slot st.typeIs F.slot_str_iterator_iter (wpAny_call_entry F.slot_str_iterator_iter st.typeIs F.entry_str_iterator_iter ?_ (F.args_str_iterator_iter_1 _))
  show wpAny _ _ (ret (.ref it)) _ _ s
  exact wpAny_pure ⟨_, rfl, "str_iterator", _, st.typeIs, F.slot_str_iterator_next.lookup, h⟩
section
variable {X : Cx} {tg : Expr}
end
section
variable {X : Cx}
theorem RC : C5 X (fun x lo hi H Q => ∃ z, x = .str z ∧ z.length ≤ sizeLine ∧ Q (.str (Txt.slice z lo hi)) H) := by
 intro pins s σ H x v vl vu lo hi sl Q I rx hs pl pu h
 obtain ⟨z, rfl, hz, q⟩ := h
 obtain ⟨t, rfl⟩ := rx
 refine ⟨"str", _, F.slot_str_getitem.lookup, typeIs_str _ _ _, ?_⟩
 obtain ⟨o, ho, hc, hd⟩ := hs
 have fin : ∀ (t' : Tok) (k : Nat), EP X pins σ Q (.str (Txt.slice z lo hi) t') { s with toks := k } := fun t' k => ⟨.str (Txt.slice z lo hi), H, I.tok k, ⟨t', rfl⟩, q⟩
 have hle := Nat.le_trans (Txt.slice_le z lo hi) hz
 cases pl with
 | none => cases pu with
  | none => exact wpAny_getItem_str_slice (l := none) (u := none) (st := none) ⟨o, ho, hc, hd⟩ rfl (post_val_or_str ⟨hle, fun t' k => fin t' k⟩)
  | int j uj => exact wpAny_getItem_str_slice (l := none) (u := some (j, uj)) (st := none) ⟨o, ho, hc, hd⟩ rfl (post_val_or_str ⟨hle, fun t' k => fin t' k⟩)
 | int i ui => cases pu with
  | none => exact wpAny_getItem_str_slice (l := some (i, ui)) (u := none) (st := none) ⟨o, ho, hc, hd⟩ rfl (post_val_or_str ⟨hle, fun t' k => fin t' k⟩)
  | int j uj => exact wpAny_getItem_str_slice (l := some (i, ui)) (u := some (j, uj)) (st := none) ⟨o, ho, hc, hd⟩ rfl (post_val_or_str ⟨hle, fun t' k => fin t' k⟩)
theorem vP : ∀ {ys : List Str} {its : List Value}, Vals (ys.map V.str) its → StrsAre its ys
 | [], _, r => by cases r; exact .nil
 | y :: ys, _, r => by
  cases r with
  | cons r rr =>
   obtain ⟨t, rfl⟩ := r
   exact .cons y t (vP rr)
noncomputable def rJoin (K : PySem.W.Frag) : V → List V → Hp → VK → Prop := fun x vs H Q => ∃ z p ys, x = .str z ∧ vs = [.ref p] ∧ iZ K H p (ys.map V.str) ∧ (ys.map (·.length)).sum + ys.length * z.length ≤ 16777216 ∧ Q (.str (Txt.join z ys)) H
theorem LZ : UL X "str.join" (rJoin X.K) := by
 intro pins s σ H x vs v us Q I rx rv h
 obtain ⟨z, p, ys, rfl, rfl, hq, hz, q⟩ := h
 obtain ⟨t, rfl⟩ := rx
 obtain ⟨u, rfl, rp⟩ := vals1 rv
 cases rp
 obtain ⟨its, r, pl, _⟩ := I.list hq
 exact join_list pl.isList (by simpa using vP r) hz fun t' k => ⟨.str (Txt.join z ys), H, I.tok k, ⟨t', rfl⟩, q⟩
theorem nV : iK X (binaryOp .Pow) (rI (fun i j => 0 ≤ j ∧ (Builtin.Int.intBits i : Int) * j ≤ 2 ^ 27) fun i j => .int (i ^ j.toNat)) := S0 fun _ _ _ _ _ _ _ hc q => pow_int hc.1 hc.2 q
end
noncomputable def oA (XN : List Str) (xs scope : Scope) (N : List Str) (k : Nat) (cV : List Nat) : Bool :=
 scope.kind == .function && (scope.names.all fun y => y.2 != .local || scope.names.lookup y.1 == some .local) && (scope.names.all fun y => y.2 != .cell) &&
 (scope.names.all fun y => y.2 != .free || xs.names.lookup y.1 == some .cell || xs.names.lookup y.1 == some .free) && N.length == k + cV.length &&
 (List.range cV.length).all fun j => match cV[j]?, N[k + j]? with
  | some i, some y => XN[i]? == some y && scope.names.lookup y == some .free
  | _, _ => false
theorem j0 {X : Cx} {XN : List Str} {xs scope : Scope} {N : List Str} {k : Nat} {cV : List Nat} (hN : X.N = XN) (hs : X.env.scope = xs) (h : oA XN xs scope N k cV = true) : g8 X scope N k cV := by
 subst hN hs
 unfold oA at h
 simp only [Bool.and_eq_true, List.all_eq_true, Bool.or_eq_true, bne_iff_ne, ne_eq, beq_iff_eq] at h
 obtain ⟨⟨⟨⟨⟨h1, h2⟩, h3⟩, h4⟩, h5⟩, h6⟩ := h
 refine ⟨h1, fun y hy e => (h2 y hy).resolve_left (fun z => z e), h3, fun y hy e => ?_, h5, fun j i e => ?_⟩
 ·rcases h4 y hy with (z | z) | z
  ·exact absurd e z
  ·exact .inl z
  ·exact .inr z
 ·have hj : j < cV.length := (List.getElem?_eq_some_iff.mp e).1
  have q := h6 j (List.mem_range.mpr hj)
  rw [e] at q
  cases r : N[k + j]? with
  | none => rw [r] at q; cases q
  | some y =>
   rw [r] at q
   simp only [Bool.and_eq_true, beq_iff_eq] at q
   exact ⟨y, rfl, q.1, q.2⟩
section
variable {X : Cx} {elt tg iter : Expr} {ifs : List Expr} {scope : Scope} {pos : Pos} {wi : TI} {g : TG} {tt : TT} {te : TE} {N : List Str} {k : Nat} {cV : List Nat} {XN : List Str} {xs : Scope}
theorem pI (N : List Str) (k : Nat) (cV : List Nat) (XN : List Str) (xs : Scope) (hc : X.calm = true) (hN : X.N = XN) (hx : X.env.scope = xs) (hi : PI X tg iter wi) (chk : oA XN xs scope N k cV = true)
  (hg : ∀ c, PG (bP X scope N c) tg g) (ht : ∀ c, M7 (bP X scope N c) ifs tt) (he : ∀ c, PE (bP X scope N c) elt te)
  (hs : ∀ x, foldedSetIterable iter X.env x = pure x := by intro _; rfl) : PE X (.ListComp elt [⟨tg, iter, ifs, 0⟩] scope pos) (tS wi k cV g tt te) := K8 hc (j0 hN hx chk) hi hg ht he hs
end
section
variable {wi : TI} {k : Nat} {cV : List Nat} {g : TG} {tt : TT} {te : TE} {σ : St} {H1 : Hp} {Q : VK} {l : Addr}
end
structure Def (K : PySem.W.Frag) (mg : Str → Option Value) (x : Str) (st : Stmt) (ps : List Str) (f : Addr) (fd : FuncData) : Prop where
 F : RG K x x st f fd
 m : mg x = some (.ref f)
 b : Binds K fd ps []
section
variable {X : Cx} {x : Str} {st : Stmt} {ps : List Str} {f : Addr} {fd : FuncData} {j k : Nat} {sp : Sp} {e : Expr} {es : List Expr} {t : TA} {p pos : Pos}
theorem cA (D : Def X.K X.mg x st ps f fd) (G : cK X.prog X.w X.K X.mg X.base hB j f fd ps sp) (hr : eU k X.A) (hjk : j ≤ k) (hg : Gl X x) (ha : PA X (e :: es) t) (hdb : (x == ("__debug__" : Str)) = false := by decide)
  (he : starEach (e :: es) X.env = (false, eval e X.env) :: starEach es X.env := by rfl) (hpl : (backTo pos (starEach es X.env)).any (·.1) = false := by rfl) :
  PE X (.Call (.Name x p) (e :: es) [] pos) (BJ sp [] E0 t) := K0 G (hr.mono hjk) hg D.m D.F.kp D.b .nil T1 ha hdb he hpl
end
end L2
namespace L2
open PySem PySem.Spec PyProof.Rows
noncomputable def DB : List V → List V → Bool
 | [], [] => true
 | x :: xs, y :: ys => UP x y && DB xs ys
 | _, _ => false
theorem x3 : ∀ {xs ys : List V}, xs.length ≠ ys.length → DB xs ys = false
 | [], [], h => absurd rfl h
 | [], _ :: _, _ => rfl
 | _ :: _, [], _ => rfl
 | x :: xs, y :: ys, h => by
  unfold DB
  rw [x3 (xs := xs) (ys := ys) (by simpa using h), Bool.and_false]
theorem sD : ∀ {xs ys : List V}, xs.length = ys.length → (List.range xs.length).all (fun j => UP ((xs[j]?).getD .bJ) ((ys[j]?).getD .bJ)) = DB xs ys
 | [], [], _ => rfl
 | [], _ :: _, h => by cases h
 | _ :: _, [], h => by cases h
 | x :: xs, y :: ys, h => by
  have ih := sD (xs := xs) (ys := ys) (by simpa using h)
  rw [List.length_cons, List.range_succ_eq_map, List.all_cons, List.all_map]
  unfold DB
  rw [← ih]
  rfl
theorem Vals.get' : ∀ {xs : List V} {us : List Value} {i : Nat} {u : Value}, Vals xs us → us[i]? = some u → ∃ x, xs[i]? = some x ∧ RelV x u
 | _, _, _, _, .nil, h => by simp at h
 | _, _, 0, _, .cons r _, h => by simp at h; subst h; exact ⟨_, rfl, r⟩
 | _, _, i + 1, _, .cons _ t, h => Vals.get' (i := i) t (by simpa using h)
section
variable {X : Cx} {k : Nat}
end
theorem mR : bootBuiltins "len" = some (.builtin "len") := by decide +kernel
theorem JA : bootBuiltins "min" = some (.builtin "min") := by decide +kernel
theorem lV : bootBuiltins "sorted" = some (.builtin "sorted") := by decide +kernel
theorem NG : bootBuiltins "int" = some (.type "int") := by decide +kernel
theorem GI : bootBuiltins "str" = some (.type "str") := by decide +kernel
theorem MC : bootBuiltins "list" = some (.type "list") := by decide +kernel
theorem gJ : bootBuiltins "tuple" = some (.type "tuple") := by decide +kernel
theorem vO : bootBuiltins "enumerate" = some (.type "enumerate") := by decide +kernel
section
variable {X : Cx}
theorem DC : dN X (.builtin "len") (fun xs H Q => ∃ p ys, xs = [.ref p] ∧ mB X.K H p ys ∧ Q (.int ys.length) H) := by
 intro pins s σ H xs us Q I r h
 obtain ⟨p, ys, e, hq, q⟩ := h
 exact oG pins s σ H xs us Q I r ⟨p, ys, e, .inr hq, q⟩
end
end L2
namespace L2
open PySem PySem.Spec PyProof.Rows
theorem bN.upd {H : Hp} {l : Addr} {o : HO} (h : H l = none) : bN H (upd H l o) := fun b u e => by rw [aX (cQ e h)]; exact e
theorem WB {n : Nat} (h : n < 16777216) : n < sizeLine := by rw [PySem.sizeLine_eq]; exact h
theorem KP (z : Str) : z.cps.toList.length = z.length := by simp [Str.length]
theorem FZ {z : Str} {d : Int} (h0 : 0 ≤ d) (h : d < (z.length : Int)) : ∃ c, c ∈ z.cps.toList ∧ oS z.cps.toList d = some c := by
 obtain ⟨j, rfl⟩ : ∃ j : Nat, d = (j : Int) := ⟨d.toNat, by omega⟩
 have hj : j < z.cps.toList.length := by have e := KP z; omega
 exact ⟨z.cps.toList[j], List.getElem_mem hj, j6 (by simp [hj])⟩
theorem KD {α : Type} {xs : List α} {d : Int} (h0 : 0 ≤ d) (h : d < (xs.length : Int)) : ∃ c, c ∈ xs ∧ oS xs d = some c := by
 obtain ⟨j, rfl⟩ : ∃ j : Nat, d = (j : Int) := ⟨d.toNat, by omega⟩
 have hj : j < xs.length := by omega
 exact ⟨xs[j], List.getElem_mem hj, j6 (by simp [hj])⟩
theorem joined {ys : List Str} : (Txt.join (Str.ofString "") ys).length ≤ (ys.map (·.length)).sum := by
 show (Builtin.Str.glued _ ys).length ≤ _
 rw [StrLaws.glued_eq_join]
 have h := StrLaws.join_length_le (Str.ofString "") ys
 have e : (Str.ofString "").length = 0 := by decide +kernel
 rw [e] at h
 omega
section
variable {k : Nat} {cV : List Nat} {g : TG} {tt : TT} {te : TE} {σ : St} {H : Hp} {Q : VK} {l : Addr}
end
noncomputable def BV (K : PySem.W.Frag) : Sp := fun vs H Q _ => ∃ (a : Addr) (ns : List Int), vs = [.ref a] ∧ iZ K H a (ns.map V.int) ∧ ns.length ≤ 63 ∧ ∀ H', Q (.bl true) H'
end L2
namespace PySem
open Sem (wp)
open AutoSeq1 (wpAny_loadPart')
section
variable {prog : Program} {w : World} {A : Around} {E : Value → Shared → Prop} {s : Shared}
theorem kF {it t : Addr} {i : Nat} {items} {x : Value} {Q : Value → Shared → Prop} (hit : s.heap.IsTupleIter it t i)
  (ht : s.heap.IsTuple t items) (hx : items[i]? = some x)
  (hQ : ∀ h', h'.IsTupleIter it t (i + 1) → Heap.SameBut it s.heap h' → Q x { s with heap := h' }) :
  wpAny (model prog w) A (Builtin.SmallTypes.nextOf (.ref it)) Q E s := by
 obtain ⟨o, ho, hc, hd⟩ := id hit
 obtain ⟨ol, hol, _, nl, hdl⟩ := ht
 unfold Builtin.SmallTypes.nextOf
 refine wpAny_bind (wpAny_callSpecial?_slot (name := Str.ofString "__next__") hit.typeIs F.slot_tuple_iterator_next
  (wpAny_call_entry F.slot_tuple_iterator_next hit.typeIs F.entry_tuple_iterator_next ?_ (F.args_tuple_iterator_next_1 _)))
 show wpAny _ _ (field (.ref it) 0 >>= _) _ _ s
 refine wpAny_bind (wpAny_field ho hd (x := .ref t) rfl ?_)
 show wpAny _ _ (if (Value.ref t == Value.none) = true then _ else _) _ _ s
 rw [if_neg (show ¬ ((Value.ref t == Value.none) = true) from Bool.false_ne_true)]
 show wpAny _ _ (field (.ref it) 1 >>= _) _ _ s
 refine wpAny_bind (wpAny_field ho hd (x := .int i 0) rfl ?_)
 show wpAny _ _ (seqItems? (.ref t) >>= _) _ _ s
 refine wpAny_bind (wpAny_seqItems hol hdl ?_)
 simp only [Int.toNat_natCast, hx]
 refine wpAny_bind (wpAny_setField ho hd (by simp) (wpAny_pure ⟨x, rfl, wpAny_pure (hQ _ ?_ (Heap.SameBut.update ..))⟩))
 exact ⟨_, Heap.get?_update_self _ ho (Obj.isFreed_of_fields (Obj.data_mapFields hd _)), (Obj.cls_mapFields ..).trans hc, by
  rw [Obj.data_mapFields hd]; simp [rawInt]⟩
theorem kH {it l : Addr} {i : Nat} {items} {Q : Value → Shared → Prop} (hh : A.handled = none)
  (hit : s.heap.IsTupleIter it l i) (hl : s.heap.IsTuple l items) (hx : items[i]? = none)
  (hE : ∀ h' e, Heap.ExtBut it s.heap h' → (∃ o, h'.get? e = some o ∧ o.cls = .type "StopIteration") → E (.ref e) { s with heap := h' }) :
  wpAny (model prog w) A (Builtin.SmallTypes.nextOf (.ref it)) Q E s := by
 obtain ⟨o, ho, hc, hd⟩ := id hit
 obtain ⟨ol, hol, _, nl, hdl⟩ := hl
 unfold Builtin.SmallTypes.nextOf
 refine wpAny_bind (wpAny_callSpecial?_slot (name := Str.ofString "__next__") hit.typeIs F.slot_tuple_iterator_next
  (wpAny_call_entry F.slot_tuple_iterator_next hit.typeIs F.entry_tuple_iterator_next ?_ (F.args_tuple_iterator_next_1 _)))
 show wpAny _ _ (field (.ref it) 0 >>= _) _ _ s
 refine wpAny_bind (wpAny_field ho hd (x := .ref l) rfl ?_)
 show wpAny _ _ (if (Value.ref l == Value.none) = true then _ else _) _ _ s
 rw [if_neg (show ¬ ((Value.ref l == Value.none) = true) from Bool.false_ne_true)]
 show wpAny _ _ (field (.ref it) 1 >>= _) _ _ s
 refine wpAny_bind (wpAny_field ho hd (x := .int i 0) rfl ?_)
 show wpAny _ _ (seqItems? (.ref l) >>= _) _ _ s
 refine wpAny_bind (wpAny_seqItems hol hdl ?_)
 simp only [Int.toNat_natCast, hx]
 refine wpAny_bind (wpAny_rule (wpAny_bind (wpAny_setField ho hd (by simp) ?_)))
 show wpAny _ _ (newExc (.type "StopIteration") [] >>= _) _ _ _
 refine wpAny_bind ?_
 simp only [newExc, newTuple]
 refine wpAny_bind (wpAny_newObj_type ?_ (by size_fits))
 refine wpAny_bind (m := firstArgMember _ _) (wpAny_of_eq (a := Value.none) (by first | rfl | (simp only [firstArgMember]; rfl)) ?_)
 refine wpAny_newObj_type ?_ (by size_fits)
 simp only [raiseNew]
 refine wpAny_bind (wpAny_handled ?_)
 first | rw [show A.in1.handled = none from hh] | rw [hh]
 refine wpAny_bind (wpAny_pure (wpAny_throw ?_))
 exact hE _ _ (((Heap.SameBut.update ..).extBut.push _).push _) ⟨_, Heap.get?_push_size _ rfl, rfl⟩
end
theorem jM {prog : Program} {w : World} {A : Around} (hh : A.handled = none) (it l : Addr) (hne : l ≠ it) (items : Array Value) :
  Draws prog w A it [it, l] items.size (fun i v => items[i]? = some v) (fun i h => h.IsTupleIter it l i ∧ h.IsTuple l items) where
 live := fun _ _ st => let ⟨o, ho, _⟩ := st.1; ⟨o, ho⟩
 frame := fun _ _ _ st hk => ⟨st.1.at fun o e => hk it (by simp) o e, let ⟨o, e, r⟩ := st.2; ⟨o, hk l (by simp) o e, r⟩⟩
 item := fun i s Q E hi st hQ => by
  refine kF st.1 st.2 (x := items[i]) (by simp [hi]) fun h' hit' hs' => ?_
  exact hQ _ h' s.toks (by simp [hi]) ⟨hit', st.2.extBut hs'.extBut hne⟩ hs'
 done := fun s Q E st hE => kH hh st.1 st.2 (by simp) hE
theorem i4 (l : Addr) (items : Array Value) (n : Nat) (bW : Option Addr) (sl : Array (Option Value)) :
  Meets (Builtin.«enumerate.__new__» ⟨[.type "enumerate", .ref l], []⟩) (fun _ R s => s.heap.get? l = some { cls := .type "tuple", dict := bW, data := .seq items n, slots := sl } ∧
   R (.ok (.ret (.ref (s.heap.push { cls := .type "tuple_iterator", data := .fields #[.ref l, .int 0 0] }).objs.size)))
    { s with heap := (s.heap.push { cls := .type "tuple_iterator", data := .fields #[.ref l, .int 0 0] }).push { cls := .type "enumerate", data := .fields #[.none, .bool false, .ref s.heap.objs.size, rawInt 0, .none, .none] } }) :=
 .of_wp fun prog w A R s h => by
  obtain ⟨hp, g, d, tk, os⟩ := s; obtain ⟨hl, h⟩ := h
  have hsub := sub_enumerate
  have hL : Heap.IsTuple (Shared.heap ⟨hp, g, d, tk, os⟩) l items := ⟨_, hl, rfl, n, rfl⟩
  wp_walk using wpAny_loadPart' hl
  refine wpAny_stack_any fun st => wpAny_pure ?_
  split
  ·rename_i c _ _ _ _ _
   cases (c == Value.type "enumerate")
   ·wp_walk using wpAny_loadPart' hl, wpAny_pyIter_tuple hL
    exact ⟨_, rfl, h⟩
   ·wp_walk using wpAny_loadPart' hl, wpAny_pyIter_tuple hL
    exact ⟨_, rfl, h⟩
  ·wp_walk using wpAny_loadPart' hl, wpAny_pyIter_tuple hL
   exact ⟨_, rfl, h⟩
section
variable {prog : Program} {w : World} {A : Around} {E : Value → Shared → Prop} {s : Shared}
theorem i0 {l : Addr} {items : Array Value} {Q : Value → Shared → Prop} (hL : s.heap.IsTuple l items)
  (h : ∀ h', IsEnum h' (s.heap.objs.size + 1) s.heap.objs.size 0 .none → h'.IsTupleIter s.heap.objs.size l 0 → h'.objs.size = s.heap.objs.size + 2 →
   (∀ b o, s.heap.get? b = some o → h'.get? b = some o) → Q (.ref (s.heap.objs.size + 1)) { s with heap := h' }) :
  wpAny (model prog w) A (call (.type "enumerate") [.ref l]) Q E s := by
 obtain ⟨⟨c, bW, dt, sl⟩, hl, hc, n, hd⟩ := hL
 replace hc : c = .type "tuple" := hc
 replace hd : dt = .seq items n := hd
 subst hc hd
 refine callType_new F.called_enumerate (by decide) (F.typeCall_enumerate_1 _) (F.newCall_enumerate_1 _) (fun obj => F.args_object_init_2 obj _) F.entry_enumerate_new
  (i4 l items n bW sl) ⟨hl, ?_⟩
 have hz : (s.heap.push { cls := .type "tuple_iterator", data := .fields #[.ref l, .int 0 0] }).objs.size = s.heap.objs.size + 1 := Heap.size_push ..
 show _ ∧ _
 rw [hz]
 have he : IsEnum ((s.heap.push { cls := .type "tuple_iterator", data := .fields #[.ref l, .int 0 0] }).push
   { cls := .type "enumerate", data := .fields #[.none, .bool false, .ref s.heap.objs.size, rawInt 0, .none, .none] }) (s.heap.objs.size + 1) s.heap.objs.size 0 .none := by
  have := Heap.get?_push_size (s.heap.push { cls := .type "tuple_iterator", data := .fields #[.ref l, .int 0 0] })
   (o := { cls := .type "enumerate", data := .fields #[.none, .bool false, .ref s.heap.objs.size, rawInt 0, .none, .none] }) rfl
  rw [hz] at this; exact this
 refine ⟨⟨_, he, rfl⟩, h _ he ⟨_, Heap.get?_push_of_some _ (Heap.get?_push_size _ rfl), rfl, rfl⟩ (by rw [Heap.size_push, hz]) fun b o x => Heap.get?_push_of_some _ (Heap.get?_push_of_some _ x)⟩
end
end PySem
namespace L2
open PySem PySem.Spec PyProof.Rows
theorem Inv.A2 {X : Cx} {pins : List (Addr × Obj)} {σ : St} {H : Hp} {s : Shared} {h' : Heap} {t' : Nat} {fp : List Addr} (I : Inv X pins σ H s) (k : ∀ b o, b ∉ fp → s.heap.get? b = some o → h'.get? b = some o) (hf : ∀ b ∈ fp, oQ X pins H b) :
  Inv X pins σ H { s with heap := h', toks := t' } := by
 have nit : ∀ b u, H b = some u → b ∉ fp := fun b u e z => by rw [(hf b z).1] at e; cases e
 refine I.step (g' := s.gens) (d' := s.drawn) (ch := fp) (fun b hb => ?_) (fun b o _ _ hc e _ => k b o hc e) (fun b o _ _ hc e _ => ⟨o.slots, k b o hc e⟩) (fun _ _ _ _ n => n)
  (fun b o hc e => ⟨o, k b o hc e⟩) (fun _ _ e => e) (fun _ _ _ e => e) (fun b ps e => ⟨#[], by rw [e]; simp⟩) (fun m hm => ?_) (fun b u e => ?_) I.bare
 ·obtain ⟨_, f1, _, f3, f4, f5⟩ := hf b hb
  exact ⟨f3, f1, f4, f5⟩
 ·obtain ⟨o, es, ep, ho, r⟩ := hm
  exact ⟨o, es, ep, k _ o (fun z => (hf _ z).2.1 rfl) ho, r⟩
 ·refine (I.cI b u e).aP (fun c v hc q => k c v ?_ q) (fun _ q => q) fun _ _ q => q
  rcases hc with z | z
  ·rw [z]; exact nit b u e
  ·exact nit c _ z
theorem Inv.V7 {X : Cx} {pins : List (Addr × Obj)} {σ : St} {H : Hp} {s : Shared} {h' : Heap} {t' : Nat} {fp : List Addr} {xs : List V} (I : Inv X pins σ H s) (k : ∀ b o, b ∉ fp → s.heap.get? b = some o → h'.get? b = some o) (hf : ∀ b ∈ fp, oQ X pins H b)
  (hfr : H s.heap.objs.size = none) (hno : s.heap.objs.size ∉ fp) (new : eY X.prog X.w (upd H s.heap.objs.size (.tup xs)) h' s.heap.objs.size (.tup xs)) (ht : ∀ b ∈ fp, ∀ o, s.heap.get? b = some o → ∃ o', h'.get? b = some o') :
  Inv X pins σ (upd H s.heap.objs.size (.tup xs)) { s with heap := h', toks := t' } := by
 have nit : ∀ b u, H b = some u → b ∉ fp := fun b u e z => by rw [(hf b z).1] at e; cases e
 have nT : ∀ b o, s.heap.get? b = some o → b ≠ s.heap.objs.size := fun b o e => Nat.ne_of_lt (Heap.lt_size e)
 refine I.step (g' := s.gens) (d' := s.drawn) (ch := fp) (fun b hb => ?_) (fun b o _ _ hc e _ => k b o hc e) (fun b o _ _ hc e _ => ⟨o.slots, k b o hc e⟩) (fun b o _ e n => by rw [aX (nT b o e)]; exact n)
  (fun b o hc e => ⟨o, k b o hc e⟩) (fun b ys e => by rw [aX (cQ e hfr)]; exact e) (fun b o u e => by rw [aX (cQ e hfr)]; exact e) (fun b ps e => ⟨#[], by rw [aX (cQ e hfr), e]; simp⟩) (fun m hm => ?_) (fun b u e => ?_) I.bare
 ·obtain ⟨_, f1, _, f3, f4, f5⟩ := hf b hb
  exact ⟨f3, f1, f4, f5⟩
 ·obtain ⟨o, es, ep, ho, r⟩ := hm
  exact ⟨o, es, ep, k _ o (fun z => (hf _ z).2.1 rfl) ho, r⟩
 ·by_cases hb : b = s.heap.objs.size
  ·subst hb; rw [bG] at e; cases e; exact new
  ·rw [aX hb] at e
   refine (I.cI b u e).aP (fun c v hc q => k c v ?_ q) (fun c q => by rw [aX (cQ q hfr)]; exact q) fun c ys q => by rw [aX (cQ q hfr)]; exact q
   rcases hc with z | z
   ·rw [z]; exact nit b u e
   ·exact nit c _ z
noncomputable def V8 (K : PySem.W.Frag) (a : Addr) : It :=
 ⟨fun i H => ∃ xs x, mB K H a xs ∧ xs[i]? = some x, fun i H v H' => ∃ t, H t = none ∧ v = .ref t ∧ ∀ xs, mB K H a xs → ∃ x, xs[i]? = some x ∧ H' = upd H t (.tup [.int i, x]), fun i H => ∃ xs, mB K H a xs ∧ xs.length = i⟩
theorem z9 {P : Program} {w : World} {K : PySem.W.Frag} {elts : List Expr} {x1} {pos : Pos} (a it e : Addr) (hei : e ≠ it) : Turn P w K (.Tuple elts x1 pos) (V8 K a) [e, it] e (fun i h => (∃ old, IsEnum h e it i old) ∧ h.IsTupleIter it a i) where
 mem := by simp
 obj := fun i h st b hb => by
  obtain ⟨⟨old, he⟩, o, ho, c, d⟩ := st
  rcases List.mem_cons.mp hb with z | z
  ·subst z; exact ⟨_, he, fun v z => by cases z⟩
  ·have z : b = it := by simpa using z
   subst z; exact ⟨o, ho, fun v z => by rw [d] at z; cases z⟩
 keep := fun i h h' st k => ⟨let ⟨old, he⟩ := st.1; ⟨old, k e (by simp) _ he⟩, st.2.at fun o q => k it (by simp) o q⟩
 item := by
  intro X hP hw hK hc i pins s σ H E I hf st hg
  subst hP hw hK
  obtain ⟨xs, x, hq, hx⟩ := hg
  obtain ⟨its, rv, p, hz⟩ := I.tuple hq
  obtain ⟨u, hu, ru⟩ := rv.get hx
  obtain ⟨⟨old, he⟩, ht⟩ := st
  have hne : a ≠ it := fun z => by
   obtain ⟨o, ho, c, _⟩ := ht
   obtain ⟨o', ho', c', _⟩ := p
   subst z
   rw [ho] at ho'; cases ho'
   rw [c] at c'
   exact absurd (Value.type.inj c') (by decide)
  have hae : a ≠ e := fun z => by
   obtain ⟨o', ho', c', _⟩ := p
   subst z
   rw [he] at ho'; cases ho'
   exact absurd (Value.type.inj c') (by decide)
  have hlt : i < its.toArray.size := by have := (List.getElem?_eq_some_iff.mp hu).1; simpa using this
  refine wpAny_pyNext_enum_itemD (jM (A := X.A.in1) (by exact I.ok.hd hc) it a hne its.toArray) he ⟨ht, p⟩ hlt hei (by simp [hei, Ne.symm hae]) fun v h' tk hPv ho' st' htup hsz hk => ?_
  have ev : v = u := by
   have h1 : its[i]? = some v := by simpa using hPv
   rw [hu] at h1; exact (Option.some.inj h1).symm
  subst ev
  refine ⟨_, rfl, wpAny_letOwnedTupleGo_enum (s := { s with heap := h', toks := tk + 1 }) ho' fun h2 he2 sb => ?_⟩
  have hTe : s.heap.objs.size ≠ e := fun z => by
   have := Heap.lt_size he; rw [← z] at this; exact Nat.lt_irrefl _ this
  have hTi : s.heap.objs.size ≠ it := fun z => by
   obtain ⟨o, ho, _⟩ := ht
   have := Heap.lt_size ho; rw [← z] at this; exact Nat.lt_irrefl _ this
  have hk2 : ∀ b o, b ∉ [e, it] → s.heap.get? b = some o → h2.get? b = some o := fun b o hb q =>
   sb.extBut b o (fun z => hb (by simp [z])) (hk b o (fun z => hb (by simp [z])) (fun z => hb (by simp [z])) q)
  have I1 : Inv X pins σ H { s with heap := h2, toks := tk + 1 } := I.A2 hk2 hf
  have hfr : H s.heap.objs.size = none := I.cI.fresh (Nat.le_refl _)
  have htup2 : h2.get? s.heap.objs.size = some { cls := .type "tuple", data := .seq #[.int i tk, v] } := sb.extBut _ _ hTe htup
  have I2 : Inv X pins σ (upd H s.heap.objs.size (.tup [.int i, x])) { s with heap := h2, toks := tk + 1 } := by
   refine I.V7 hk2 hf hfr (by simp [hTe, hTi]) ⟨by show 2 ≤ sizeLine; decide, [.int i tk, v], .cons ⟨_, rfl⟩ (.cons ru .nil), ⟨_, htup2, rfl, 0, rfl⟩⟩ (fun b hb o q => ?_)
   rcases List.mem_cons.mp hb with r | r
   ·subst r; exact ⟨_, he2⟩
   ·have r : b = it := by simpa using r
    subst r
    obtain ⟨o', ho', _⟩ := st'.1.extBut sb.extBut (Ne.symm hei)
    exact ⟨o', ho'⟩
  refine ⟨.ref s.heap.objs.size, _, I2, rfl, ⟨s.heap.objs.size, hfr, rfl, fun ys hy => ⟨x, by rw [I.t8 hy hq]; exact hx, rfl⟩⟩, ⟨⟨_, he2⟩, st'.1.extBut sb.extBut (Ne.symm hei)⟩, fun b hb => ?_⟩
  have hbT : b ≠ s.heap.objs.size := fun z => by
   rcases List.mem_cons.mp hb with r | r
   ·exact hTe (z ▸ r)
   ·have r : b = it := by simpa using r
    exact hTi (z ▸ r)
  rw [aX hbT]
  exact (hf b hb).1
 done := by
  intro X hP hw hK hc i pins s σ H E I hf st hg
  subst hP hw hK
  obtain ⟨xs, hq, hx⟩ := hg
  obtain ⟨its, rv, p, hz⟩ := I.tuple hq
  obtain ⟨⟨old, he⟩, ht⟩ := st
  have hl := rv.length
  have hne : a ≠ it := fun z => by
   obtain ⟨o, ho, c, _⟩ := ht
   obtain ⟨o', ho', c', _⟩ := p
   subst z
   rw [ho] at ho'; cases ho'
   rw [c] at c'
   exact absurd (Value.type.inj c') (by decide)
  have ei : (i : Nat) = its.toArray.size := by simp; omega
  subst ei
  obtain ⟨f0, f1, f2, f3, f4, f5⟩ := hf it (by simp)
  exact wpAny_pyNext_enum_endD (jM (A := X.A.in1) (by exact I.ok.hd hc) it a hne its.toArray) he ⟨ht, p⟩ fun h' eb => ⟨rfl, I.turned (t' := s.toks) (fun b o hb e => eb b o hb e) f0 f1 f3 f4 f5⟩
 self := fun _ _ _ _ _ st h => let ⟨_, he⟩ := st.1; wpAny_pyIter_enum he h
end L2
namespace L2
open PySem PySem.Spec PyProof.Rows
section
variable {X : Cx} {elts : List Expr} {x1 : Nat} {tpos : Pos}
end
section
variable {X : Cx} {elts : List Expr} {x1 : Nat} {tpos : Pos}
end
section
variable {k : Nat} {cV : List Nat} {g : TG} {tt : TT} {te : TE} {σ : St} {H : Hp} {Q : VK} {l : Addr}
end
end L2
namespace L2
open PySem PySem.Spec PyProof.Rows
section
variable {X : Cx} {k : Nat}
theorem WZ (K : PySem.W.Frag) (h : X.K = K := by rfl) : zV X (N0 K) := h ▸ K5
theorem WT (K : PySem.W.Frag) (h : X.K = K := by rfl) : zV X (NK K) := h ▸ PN
theorem WW (K : PySem.W.Frag) (h : X.K = K := by rfl) : C5 X (QI K) := h ▸ L3
noncomputable def SK (K : PySem.W.Frag) : List V → Hp → VK → Prop := fun xs H Q => ∃ p ys, xs = [.ref p] ∧ mB K H p ys ∧ Q (.int ys.length) H
theorem S4 (K : PySem.W.Frag) (h : X.K = K := by rfl) : dN X (.builtin "len") (SK K) := h ▸ DC
noncomputable def HS (K : PySem.W.Frag) : List V → Hp → VK → Prop := fun xs H Q => ∃ p ys, xs = [.ref p] ∧ (iZ K H p ys ∨ mB K H p ys) ∧ ∀ l, H l = none → Q (.ref l) (upd H l (.lst ys))
theorem SR (K : PySem.W.Frag) (h : X.K = K := by rfl) : dN X (.type "list") (HS K) := h ▸ vE
theorem SG (K : PySem.W.Frag) (h : X.K = K := by rfl) : UL X "str.join" (rJoin K) := h ▸ LZ
theorem oR (K : PySem.W.Frag) {es : List Expr} {j : Nat} {t : wY} {n : Nat} {pos : Pos} (hc : X.calm = true) (h : RL X es t) (hK : X.K = K := by rfl)
  (hn : (assignEach es X.env).length = n := by rfl) (hst : (assignEach es X.env).findIdx? (·.1) = none := by rfl) : PG X (.Tuple es j pos) (FL K n t) := hK ▸ JE hc h hn hst
theorem pB (K : PySem.W.Frag) {o e : Expr} {es : List Expr} {to : TE} {t : TA} {name : Str} {apos cpos : Pos} {T id : String} {r : V → List V → Hp → VK → Prop} (pa : PlainAttrs T) (slot : Slot T name id) (hty : typeOf (.builtin id) = pure (.type "method_descriptor")) (hm : UL X id r) (ho : PE X o to) (ha : PA X (e :: es) t) (hK : X.K = K := by rfl)
  (hbase : attributeBase o name X.env (eval o X.env) = eval o X.env := by rfl)
  (hfew : ((backTo cpos (starEach (e :: es) X.env)).all (fun x => !x.1) && (backToKw cpos (keywordEach [] X.env)).all (fun x => x.1.isSome)
   && decide ((e :: es).length + ([] : List Keyword).length + (if ([] : List Keyword).isEmpty then 0 else 1) < 30)) = true := by rfl)
  (hline : (apos.endLine == cpos.line) = true := by rfl) (hs : starEach (e :: es) X.env = (false, eval e X.env) :: starEach es X.env := by rfl) (hplain : (backTo cpos (starEach es X.env)).any (·.1) = false := by rfl) :
  PE X (.Call (.Attribute o name apos) (e :: es) [] cpos) (SH K T r to t) := hK ▸ SY pa slot hty hm ho ha hbase hfew hline hs hplain
end
end L2
namespace L2
open PySem PySem.Spec PyProof.Rows
section
variable {X : Cx}
end
end L2
namespace PM
open PySem PyProof.Rows
noncomputable def walk (sm : Nat → Nat) : List Nat → List Nat → Bool → List Nat
 | [], f, _ => f
 | c :: r, f, w => if c = 32 then walk sm r f (!f.isEmpty) else walk sm r (f ++ (if w = true then [32] else []) ++ [sm c]) false
noncomputable def step (f p : List Nat) : List Nat := if p = [] then f else f ++ (if (!f.isEmpty) = true then [32] else []) ++ p
noncomputable abbrev SP : Str := Str.ofString " "
noncomputable def W (x : Str) : Str := ⟨(walk lo1 x.cps.toList [] false).toArray⟩
end PM
namespace L2
open PySem PySem.Spec PyProof.Rows
inductive Kd where
 | bJ | bl | int | str | lst | tup | bW
 deriving DecidableEq
noncomputable def Kd.nm : Kd → String
 | .bJ => "NoneType" | .bl => "bool" | .int => "int" | .str => "str" | .lst => "list" | .tup => "tuple" | .bW => "dict"
noncomputable def WU (H : Hp) (v : V) : Kd → Prop
 | .bJ => v = .bJ
 | .bl => ∃ b, v = .bl b
 | .int => ∃ i, v = .int i
 | .str => ∃ x, v = .str x
 | .lst => ∃ a xs, v = .ref a ∧ H a = some (.lst xs)
 | .tup => ∃ a xs, v = .ref a ∧ H a = some (.tup xs)
 | .bW => ∃ a kvs, v = .ref a ∧ H a = some (.dK kvs)
section
variable {X : Cx}
end
section
variable {k : Nat} {cV : List Nat} {g : TG} {tt : TT} {te : TE} {σ : St} {H : Hp} {Q : VK} {l : Addr}
end
end L2
namespace HT
open PySem PySem.Spec PyProof.Rows
section
variable {prog : Program} {w : World} {A : Around} {E : Value → Shared → Prop} {s : Shared}
theorem n6 {t sl : Addr} {items : Array Value} {vl vu : Value} {lo hi : Option Int} {Q : Value → Shared → Prop} (ht : IsTup s.heap t items) (hs : s.heap.IsSliceOf sl vl vu .none) (pl : IsPart vl lo) (pu : IsPart vu hi)
  (hw : fS items.size 0 lo = 0 ∧ fS items.size items.size hi = items.size) (h : Q (.ref t) s) : wpAny (model prog w) A (getItem (.ref t) (.ref sl)) Q E s := by
 obtain ⟨os, hos, hcs, hds⟩ := id hs
 have hTs : s.TypeIs (.ref sl) "slice" := ⟨os, hos, hcs⟩
 unfold getItem
 try with_reducible refine wpAny_holding ?_
 first | refine wpAny_bind (wpAny_pure ?_) | skip
 refine wpAny_bind (wpAny_sequenceKey ht.typeIs (by decide) ?_)
 refine wpAny_bind (wpAny_callSpecial?_slot (name := Str.ofString "__getitem__") ht.typeIs PyProof.Rows.slot_tuple_getitem
  (wpAny_call_entry PyProof.Rows.slot_tuple_getitem ht.typeIs entry_tuple_getitem ?_ (args_tuple_getitem _ _)))
 show wpAny _ _ (Builtin.Tuple.tupleItemsOf (.ref t) >>= _) _ _ s
 refine wpAny_bind (tupleItemsOf_ ht ?_)
 refine wpAny_bind (wpAny_typeOf hTs ?_)
 rw [if_pos (by decide)]
 refine wpAny_bind (jQ hs pl pu ?_)
 have hyes : (((fS items.size 0 lo : Nat) : Int) == 0 && (1 : Int) == 1 && (fS items.size items.size hi - fS items.size 0 lo) == items.size) = true := by
  rw [hw.1, hw.2]; simp
 show wpAny _ _ (if (((fS items.size 0 lo : Nat) : Int) == 0 && (1 : Int) == 1 && (fS items.size items.size hi - fS items.size 0 lo) == items.size) = true then _ else _) _ _ s
 rw [if_pos hyes]
 refine wpAny_bind (wpAny_bind (wpAny_typeOf ht.typeIs (wpAny_pure ?_)))
 rw [if_pos (by decide)]
 refine wpAny_bind (wpAny_rule ?_)
 first
  | exact wpAny_pure ⟨_, rfl, wpAny_pure h⟩
  | exact wpAny_bind (wpAny_pure ⟨_, rfl, wpAny_pure h⟩)
theorem LJ {t b : Addr} {vs ws : List Value} {Q : Value → Shared → Prop} (ht : IsTup s.heap t vs.toArray) (hb : IsTup s.heap b ws.toArray)
  (h0 : vs = [] → Q (.ref b) s) (h1 : ws = [] → Q (.ref t) s) (h2 : vs ≠ [] → ws ≠ [] → Q (.ref s.heap.objs.size) { s with heap := s.heap.push { cls := .type "tuple", data := .seq (vs ++ ws).toArray } })
  (hsz : vs.length + ws.length ≤ sizeLine) : wpAny (model prog w) A (binaryOp .Add (.ref t) (.ref b)) Q E s := by
 by_cases hv : vs = []
 ·obtain ⟨⟨cls, dd, data, sl⟩, ho, hc, n, hd⟩ := id ht
  obtain ⟨⟨cls2, dd2, data2, sl2⟩, ho2, hc2, n2, hd2⟩ := id hb
  simp only at hc hd hc2 hd2
  subst hc hd hc2 hd2
  exact concat_meets ⟨_, ho, rfl⟩ ⟨_, ho2, rfl⟩ noFill_tuple_add seq_tuple_add PySem.F.slot_tuple_add PySem.F.entry_tuple_add (PySem.F.args_tuple_add_2 _ _)
   (tuple_addW0 t b vs.toArray ws.toArray n n2 dd dd2 sl sl2 (by simp [hv])) ⟨ho, ho2, h0 hv⟩
 ·exact KA ht hb hv h1 (h2 hv) hsz
end
end HT
namespace L2
open PySem PySem.Spec PyProof.Rows
section
variable {X : Cx}
noncomputable def NB (i j : Int) : Prop := 0 < j ∧ j < 2 ^ 200
theorem rM : iK X (binaryOp .FloorDiv) (rI NB fun i j => .int (i / j)) := S0 fun i j _ _ _ _ _ hc q => by
 have h1 : (0 : Int) < j := hc.1
 have h2 : j < 2 ^ 200 := hc.2
 refine floordiv_int (by omega) (by rw [Int.fdiv_eq_ediv_of_nonneg i (by omega)]; exact q) (.inl (PyProof.noPylong_of_log2 ?_))
 have h3 : j.natAbs < 2 ^ 200 := by omega
 have h4 : j.natAbs.log2 < 200 := (Nat.log2_lt (by omega)).mpr h3
 omega
end
section
variable {k : Nat} {cV : List Nat} {g : TG} {tt : TT} {te : TE} {σ : St} {H : Hp} {Q : VK} {l : Addr}
end
end L2
namespace L2
open PySem PySem.Spec PyProof.Rows
section
variable {κ : Type} [DecidableEq κ]
noncomputable def fP (kvs : List (κ × V)) (k : κ) : Option V := (kvs.find? fun kv => decide (kv.1 = k)).map (·.2)
noncomputable def putK (kvs : List (κ × V)) (k : κ) (v : V) : List (κ × V) :=
 if (kvs.any fun kv => decide (kv.1 = k)) = true then kvs.map (fun kv => if kv.1 = k then (kv.1, v) else kv) else kvs ++ [(k, v)]
theorem sJ {p : κ × V} {r : List (κ × V)} {k : κ} (e : p.1 = k) : fP (p :: r) k = some p.2 := by simp [fP, List.find?_cons, e]
theorem rJ {p : κ × V} {r : List (κ × V)} {k : κ} (e : ¬ p.1 = k) : fP (p :: r) k = fP r k := by simp [fP, List.find?_cons, e]
theorem y7 (k : κ) : ∀ kvs : List (κ × V), (kvs.any fun kv => decide (kv.1 = k)) = (fP kvs k).isSome
 | [] => rfl
 | p :: r => by
  rw [List.any_cons]
  by_cases e : p.1 = k
  ·simp only [sJ e, decide_eq_true e, Bool.true_or, Option.isSome_some]
  ·rw [rJ e, decide_eq_false e, Bool.false_or]; exact y7 k r
theorem i9 (kvs : List (κ × V)) (k : κ) (v : V) : (putK kvs k v).length ≤ kvs.length + 1 := by
 unfold putK
 split
 ·rw [List.length_map]; omega
 ·rw [List.length_append, List.length_cons, List.length_nil]; omega
theorem qC.jV {o : Option V} {u : Option Value} (r : qC o u) : o.isSome = u.isSome := by
 cases o with
 | none => cases u with
  | none => rfl
  | some _ => exact (show False from r).elim
 | some _ => cases u with
  | none => exact (show False from r).elim
  | some _ => rfl
theorem qC.getD {o : Option V} {u : Option Value} {d : V} {d' : Value} (r : qC o u) (rd : RelV d d') : RelV (o.getD d) (u.getD d') := by
 cases o with
 | none => cases u with
  | none => exact rd
  | some _ => exact (show False from r).elim
 | some _ => cases u with
  | none => exact (show False from r).elim
  | some _ => exact r
theorem KV.val {kvs : List (κ × V)} {vs : List (κ × Value)} (r : KV kvs vs) (k : κ) : qC (fP kvs k) (valueAt vs k) := by
 unfold KV at r
 induction r with
 | nil => exact True.intro
 | @cons p q ps qs h t ih =>
  obtain ⟨h1, h2⟩ := h
  by_cases e : p.1 = k
  ·have e' : q.1 = k := h1.symm.trans e
   have b : valueAt (q :: qs) k = some q.2 := by simp [valueAt, List.find?_cons, e']
   rw [sJ e, b]; exact h2
  ·have e' : ¬ q.1 = k := fun z => e (h1.trans z)
   have b : valueAt (q :: qs) k = valueAt qs k := by simp [valueAt, List.find?_cons, e']
   rw [rJ e, b]; exact ih
theorem KV.any {kvs : List (κ × V)} {vs : List (κ × Value)} (r : KV kvs vs) (k : κ) : (kvs.any fun kv => decide (kv.1 = k)) = vs.any fun kv => decide (kv.1 = k) := by
 unfold KV at r
 induction r with
 | nil => rfl
 | cons h t ih => rw [List.any_cons, List.any_cons, ih, h.1]
theorem KV.AR {kvs : List (κ × V)} {vs : List (κ × Value)} (r : KV kvs vs) (k : κ) {y : V} {u : Value} (ry : RelV y u) :
  KV (kvs.map fun kv => if kv.1 = k then (kv.1, y) else kv) (vs.map fun kv => if kv.1 = k then (kv.1, u) else kv) := by
 unfold KV at r ⊢
 induction r with
 | nil => exact .nil
 | @cons p q ps qs h t ih =>
  rw [List.map_cons, List.map_cons]
  refine .cons ?_ ih
  obtain ⟨h1, h2⟩ := h
  by_cases e : p.1 = k
  ·rw [if_pos e, if_pos (h1.symm.trans e)]; exact ⟨h1, ry⟩
  ·rw [if_neg e, if_neg (fun z => e (h1.trans z))]; exact ⟨h1, h2⟩
theorem KV.put {kvs : List (κ × V)} {vs : List (κ × Value)} (r : KV kvs vs) (k : κ) {y : V} {u : Value} (ry : RelV y u) : KV (putK kvs k y) (stored vs k u) := by
 unfold putK stored
 rw [r.any k]
 by_cases e : (vs.any fun kv => decide (kv.1 = k)) = true
 ·rw [if_pos e, if_pos e]; exact r.AR k ry
 ·rw [if_neg e, if_neg e]; exact Paired.snoc r ⟨rfl, ry⟩
theorem KV.keys {kvs : List (κ × V)} {vs : List (κ × Value)} (r : KV kvs vs) : kvs.map (·.1) = vs.map (·.1) := by
 unfold KV at r
 induction r with
 | nil => rfl
 | cons h t ih => rw [List.map_cons, List.map_cons, ih, h.1]
theorem KV.length {kvs : List (κ × V)} {vs : List (κ × Value)} (r : KV kvs vs) : kvs.length = vs.length := Paired.length r
end
theorem pP {P : Program} {w : World} {k : Key} {u : Value} (r : RelV (kV k) u) : (cM P w).is k u = true := by
 cases k with
 | inl i => obtain ⟨t, e⟩ := (show ∃ t, u = Value.int i t from r); subst e; exact yS P w i t
 | inr x => obtain ⟨t, e⟩ := (show ∃ t, u = Value.str x t from r); subst e; exact yU P w x t
theorem uR {P : Program} {w : World} : ∀ {ks : List Key} {us : List Value}, Vals (ks.map kV) us → ItemsAre (cM P w) ks us
 | [], _, r => by rw [List.map_nil] at r; cases r; exact .nil
 | k :: ks, _, r => by
  rw [List.map_cons] at r
  cases r with
  | cons h t => exact .cons (pP h) (uR t)
noncomputable abbrev KT (H : Hp) : List (List Key × V) → List (List Key × Addr × Value) → Prop := Paired fun p q => p.1 = q.1 ∧ H q.2.1 = some (.tup (p.1.map kV)) ∧ RelV p.2 q.2.2
theorem KT.val {H : Hp} {kvs : List (List Key × V)} {xs : List (List Key × Addr × Value)} (r : KT H kvs xs) (k : List Key) : qC (fP kvs k) ((atKey xs k).map (·.2)) := by
 induction r with
 | nil => exact True.intro
 | @cons p q ps qs h t ih =>
  obtain ⟨h1, _, h2⟩ := h
  by_cases e : p.1 = k
  ·have e' : q.1 = k := h1.symm.trans e
   have b : atKey (q :: qs) k = some q.2 := by simp [atKey, List.find?_cons, e']
   rw [sJ e, b]; exact h2
  ·have e' : ¬ q.1 = k := fun z => e (h1.trans z)
   have b : atKey (q :: qs) k = atKey qs k := by simp [atKey, List.find?_cons, e']
   rw [rJ e, b]; exact ih
theorem KT.AR {H : Hp} {kvs : List (List Key × V)} {xs : List (List Key × Addr × Value)} (r : KT H kvs xs) (k : List Key) {y : V} {u : Value} (ry : RelV y u) :
  KT H (kvs.map fun kv => if kv.1 = k then (kv.1, y) else kv) (xs.map (putAt k u)) := by
 induction r with
 | nil => exact .nil
 | @cons p q ps qs h t ih =>
  rw [List.map_cons, List.map_cons]
  refine .cons ?_ ih
  obtain ⟨h1, h2, h3⟩ := h
  unfold putAt
  by_cases e : p.1 = k
  ·rw [if_pos e, if_pos (h1.symm.trans e)]; exact ⟨h1, h2, ry⟩
  ·rw [if_neg e, if_neg (fun z => e (h1.trans z))]; exact ⟨h1, h2, h3⟩
theorem KT.put {H : Hp} {kvs : List (List Key × V)} {xs : List (List Key × Addr × Value)} (r : KT H kvs xs) (k : List Key) {b : Addr} {y : V} {u : Value} (hb : H b = some (.tup (k.map kV))) (ry : RelV y u) :
  KT H (putK kvs k y) (storedH xs k b u) := by
 have e : (kvs.any fun kv => decide (kv.1 = k)) = (atKey xs k).isSome := by
  rw [y7, (r.val k).jV, Option.isSome_map]
 unfold putK storedH
 rw [e]
 by_cases q : (atKey xs k).isSome = true
 ·rw [if_pos q, if_pos q]; exact r.AR k ry
 ·rw [if_neg q, if_neg q]; exact Paired.snoc r ⟨rfl, hb, ry⟩
theorem KT.keeps {H H' : Hp} {kvs : List (List Key × V)} {xs : List (List Key × Addr × Value)} (r : KT H kvs xs) (ht : ∀ b ys, H b = some (.tup ys) → H' b = some (.tup ys)) : KT H' kvs xs :=
 Paired.NF r fun _ _ z => ⟨z.1, ht _ _ z.2.1, z.2.2⟩
section
variable {P : Program} {w : World} {H : Hp} {h : Heap} {a : Addr}
theorem MP {u : HO} (ok : mJ P w H h) (e : Rd H a u) : eY P w H h a u := e.ok ok
theorem jR {kvs : List (Key × V)} (ok : mJ P w H h) (e : Rd H a (.dK kvs)) : kvs.length ≤ sizeLine ∧ (a == sysModules) = false ∧ ∃ vs, KV kvs vs ∧ h.DictOf (cM P w) a vs :=
 show eY P w H h a (.dK kvs) from MP ok e
theorem EL {kvs : List (Key × V)} (ok : mJ P w H h) (e : H a = some (.dK kvs)) : kvs.length ≤ sizeLine ∧ (a == sysModules) = false ∧ ∃ vs, KV kvs vs ∧ h.DictOf (cM P w) a vs := jR ok (.inl e)
theorem oW {ks : List Key} (ok : mJ P w H h) (e : H a = some (.tup (ks.map kV))) : (tupleKind (cM P w)).is h ks a := by
 obtain ⟨_, its, r, o, h1, h2, n, h3⟩ := (show eY P w H h a (.tup (ks.map kV)) from ok a _ e)
 exact ⟨o, its.toArray, n, h1, h2, h3, by simpa using uR r⟩
theorem rZ {kvs : List (List Key × V)} (ok : mJ P w H h) (e : Rd H a (.dT kvs)) : kvs.length ≤ sizeLine ∧ (a == sysModules) = false ∧
  ∃ xs, KT H kvs xs ∧ h.DictOfH (tupleKind (cM P w)) a xs := by
 obtain ⟨z, y, xs, r, o, es, ep, h1, h2, h3, h4, h5⟩ := (show eY P w H h a (.dT kvs) from MP ok e)
 refine ⟨z, y, xs, r, o, es, ep, h1, h2, h3, h4, fun x hx => ?_, h5⟩
 have all : ∀ {l : List (List Key × V)} {m : List (List Key × Addr × Value)}, KT H l m → ∀ x ∈ m, (tupleKind (cM P w)).is h x.1 x.2.1 := by
  intro l m q
  induction q with
  | nil => intro x hx; exact nomatch hx
  | @cons p q ps qs hq t ih =>
   intro x hx
   rcases List.mem_cons.mp hx with e | hx
   ·subst e
    exact oW ok (by rw [← hq.1]; exact hq.2.1)
   ·exact ih x hx
 exact all r x hx
theorem UA {kvs : List (List Key × V)} (ok : mJ P w H h) (e : H a = some (.dT kvs)) : kvs.length ≤ sizeLine ∧ (a == sysModules) = false ∧
  ∃ xs, KT H kvs xs ∧ h.DictOfH (tupleKind (cM P w)) a xs := rZ ok (.inl e)
end
noncomputable def AB (H : Hp) (a : Addr) (y : V) (r : Option V) : Prop :=
 (∃ kvs k, Rd H a (.dK kvs) ∧ y = kV k ∧ r = fP kvs k) ∨ ∃ kvs k b, Rd H a (.dT kvs) ∧ y = .ref b ∧ H b = some (.tup (k.map kV)) ∧ r = fP kvs k
noncomputable def HI (H : Hp) (a : Addr) (y v : V) (H' : Hp) : Prop :=
 (∃ kvs k, H a = some (.dK kvs) ∧ y = kV k ∧ kvs.length < sizeLine ∧ H' = upd H a (.dK (putK kvs k v))) ∨
 ∃ kvs k b, H a = some (.dT kvs) ∧ y = .ref b ∧ H b = some (.tup (k.map kV)) ∧ kvs.length < sizeLine ∧ H' = upd H a (.dT (putK kvs k v))
theorem HI.k {H : Hp} {a : Addr} {kvs : List (Key × V)} {k : Key} {v : V} (e : H a = some (.dK kvs)) (hl : kvs.length < sizeLine) : HI H a (kV k) v (upd H a (.dK (putK kvs k v))) := .inl ⟨kvs, k, e, rfl, hl, rfl⟩
section
variable {X : Cx} {pins : List (Addr × Obj)} {σ : St} {H : Hp} {s : Shared} {a : Addr} {y v : V} {u r : Value} {o : Option V} {A : Around} {E : Value → Shared → Prop}
theorem Inv.big (I : Inv X pins σ H s) : sysModules < s.heap.objs.size := by
 have h : mainGlobals < s.heap.objs.size := (I.mod.glob.keeps I.bk).lt
 exact Nat.lt_trans (by decide) h
theorem DS {Q : Value → Shared → Prop} (hu : A.units + 1 < cLine) (I : Inv X pins σ H s) (g : AB H a y (some v)) (ry : RelV y u) (h : ∀ w' s', Inv X pins σ H s' → RelV v w' → Q w' s') :
  wpAny (model X.prog X.w) A (getItem (.ref a) u) Q E s := by
 rcases g with ⟨kvs, k, e, ey, l⟩ | ⟨kvs, k, b, e, ey, eb, l⟩
 ·subst ey
  obtain ⟨z, hd, vs, rel, dd⟩ := jR I.cI e
  obtain ⟨w', hw, rw'⟩ := qC.some_of (v := v) (o := valueAt vs k) (by rw [l]; exact rel.val k)
  exact wpAny_getItem_of (pP ry) dd.mapOf hw (h w' _ (I.tok _) rw')
 ·subst ey
  cases (show u = Value.ref b from ry)
  obtain ⟨z, hd, xs, rel, dd⟩ := rZ I.cI e
  obtain ⟨w', hw, rw'⟩ := qC.some_of (v := v) (o := (atKey xs k).map (·.2)) (by rw [l]; exact rel.val k)
  obtain ⟨p, hp, hp2⟩ := Option.map_eq_some_iff.mp hw
  refine wpAny_getItem_heap (tupleKind_room_in1 hu) (oW I.cI eb) dd hp ?_
  rw [hp2]
  exact h w' _ (I.tok _) rw'
theorem VE {Q : Value → Shared → Prop} (hu : A.units + 1 < cLine) (I : Inv X pins σ H s) (g : AB H a y o) (ry : RelV y u) (h : ∀ s', Inv X pins σ H s' → Q (.bool o.isSome) s') :
  wpAny (model X.prog X.w) A (compareOp .In u (.ref a)) Q E s := by
 rcases g with ⟨kvs, k, e, ey, l⟩ | ⟨kvs, k, b, e, ey, eb, l⟩
 ·subst ey
  obtain ⟨z, hd, vs, rel, dd⟩ := jR I.cI e
  refine wpAny_in_of (pP ry) hd dd.mapOf ?_
  rw [← (rel.val k).jV, ← l]
  exact h _ (I.tok _)
 ·subst ey
  cases (show u = Value.ref b from ry)
  obtain ⟨z, hd, xs, rel, dd⟩ := rZ I.cI e
  refine wpAny_in_heap (tupleKind_room_in1 hu) (oW I.cI eb) hd dd ?_
  have q := (rel.val k).jV
  rw [Option.isSome_map] at q
  rw [← q, ← l]
  exact h _ (I.tok _)
theorem KN {Q : Value → Shared → Prop} (hu : A.units + 1 < cLine) (I : Inv X pins σ H s) (g : AB H a y o) (ry : RelV y u) (h : ∀ s', Inv X pins σ H s' → Q (.bool (!o.isSome)) s') :
  wpAny (model X.prog X.w) A (compareOp .NotIn u (.ref a)) Q E s := by
 rcases g with ⟨kvs, k, e, ey, l⟩ | ⟨kvs, k, b, e, ey, eb, l⟩
 ·subst ey
  obtain ⟨z, hd, vs, rel, dd⟩ := jR I.cI e
  refine wpAny_notIn_of (pP ry) hd dd.mapOf ?_
  rw [← (rel.val k).jV, ← l]
  exact h _ (I.tok _)
 ·subst ey
  cases (show u = Value.ref b from ry)
  obtain ⟨z, hd, xs, rel, dd⟩ := rZ I.cI e
  refine wpAny_notIn_heap (tupleKind_room_in1 hu) (oW I.cI eb) hd dd ?_
  have q := (rel.val k).jV
  rw [Option.isSome_map] at q
  rw [← q, ← l]
  exact h _ (I.tok _)
theorem qD {h' : Heap} {t' : Nat} {ob : HO} (I : Inv X pins σ H s) (mu : TM (H a)) (hs : Heap.SameBut a s.heap h') (he : ∃ q, h'.get? a = some q) (new : eY X.prog X.w (upd H a ob) h' a ob) :
  Inv X pins σ (upd H a ob) { s with heap := h', toks := t' } :=
 I.write (x := a) (e := a) mu (.inl rfl) (fun b q hb z => (hs.2 b hb).trans z) he new
theorem zE {P : Program} {w : World} {H' : Hp} {h' : Heap} {kvs : List (Key × V)} {vs : List (Key × Value)} (z : kvs.length ≤ sizeLine) (hd : (a == sysModules) = false) (rel : KV kvs vs) (dd : h'.DictOf (cM P w) a vs) :
  eY P w H' h' a (.dK kvs) := ⟨z, hd, vs, rel, dd⟩
theorem CY {H' : Hp} {Q : Unit → Shared → Prop} (hu : A.units + 1 < cLine) (I : Inv X pins σ H s) (g : HI H a y v H') (ry : RelV y u) (rv : RelV v r) (h : ∀ s', Inv X pins σ H' s' → Q () s') :
  wpAny (model X.prog X.w) A (setItem (.ref a) u r) Q E s := by
 rcases g with ⟨kvs, k, e, ey, l, eH⟩ | ⟨kvs, k, b, e, ey, eb, l, eH⟩
 ·subst ey eH
  obtain ⟨z, hd, vs, rel, dd⟩ := EL I.cI e
  have hz : vs.length ≤ sizeLine := by rw [← rel.length]; exact z
  have hl : (putK kvs k v).length ≤ sizeLine := by have := i9 kvs k v; omega
  refine wpAny_setItem_pairs (hsz := hz) (pP ry) dd fun h' dd' hs => h _ ?_
  have he : ∃ q, h'.get? a = some q := let ⟨q, _, _, hq, _⟩ := dd'; ⟨q, hq⟩
  exact qD I (by rw [e]; exact True.intro) hs he (zE hl hd (rel.put k rv) dd')
 ·subst ey eH
  cases (show u = Value.ref b from ry)
  obtain ⟨z, hd, xs, rel, dd⟩ := UA I.cI e
  have hz : xs.length ≤ sizeLine := by rw [← Paired.length rel]; exact z
  have hl : (putK kvs k v).length ≤ sizeLine := by have := i9 kvs k v; omega
  refine wpAny_setItem_heap (hsz := hz) (tupleKind_room_in1 hu) (oW I.cI eb) dd fun h' dd' hs => h _ ?_
  obtain ⟨q, es, ep, hq, h2, h3, h4, _, h5⟩ := dd'
  refine qD I (by rw [e]; exact True.intro) hs ⟨q, hq⟩ ⟨hl, hd, _, (rel.put k eb rv).keeps fun c ys ec => ?_, q, es, ep, hq, h2, h3, h4, h5⟩
  rw [aX (HN ec e (fun z => nomatch z))]
  exact ec
end
section
variable {X : Cx} {pins : List (Addr × Obj)} {σ : St} {H : Hp} {s : Shared} {a : Addr} {kvs : List (Key × V)} {k : Key} {u : Value} {A : Around} {E : Value → Shared → Prop}
end
theorem x8 {X : Cx} {pins : List (Addr × Obj)} {σ : St} {H : Hp} {s : Shared} {a : Addr} {y : V} {o : Option V} (I : Inv X pins σ H s) (g : AB H a y o) : s.TypeIs (.ref a) "dict" := by
 rcases g with ⟨kvs, k, e, _, _⟩ | ⟨kvs, k, b, e, _, _, _⟩
 ·obtain ⟨_, _, vs, _, dd⟩ := jR I.cI e
  exact dd.typeIs
 ·obtain ⟨_, _, xs, _, dd⟩ := rZ I.cI e
  exact dd.typeIs
noncomputable def rK (td ty tv : TE) : TS := fun D σ H => tv σ H fun v H1 => td σ H1 fun x H2 => ty σ H2 fun y H3 => ∃ a H4, x = .ref a ∧ HI H3 a y v H4 ∧ D.nx σ H4
section
variable {X : Cx} {o i e value : Expr} {pos pos' tpos : Pos} {td ty tv : TE}
theorem B0 (hu : X.A.units + 1 < cLine) (ho : PE X o td) (hi : PE X i ty) (hv : PE X value tv) (hs : swapsWith value (some (.Subscript o i pos')) pos.line X.env = pure false) :
  PS X (.Assign [.Subscript o i pos'] value pos) (rK td ty tv) := by
 intro pins s σ H D I h
 refine wpAny_Assign_Subscript (d8 (hv pins s σ H _ I h) fun r s1 ⟨v, H1, I1, rv, q1⟩ => d8 (ho pins s1 σ H1 _ I1 q1) fun u s2 ⟨x, H2, I2, rx, q2⟩ => d8 (hi pins s2 σ H2 _ I2 q2) fun iv s3 ⟨y, H3, I3, ry, a, H4, ex, g, q3⟩ => ?_) hs
 subst ex
 obtain rfl : u = Value.ref a := rx
 exact CY hu I3 g ry rv fun s4 I4 => ⟨σ, H4, I4, q3⟩
end
theorem IL {P : Program} {w : World} {H : Hp} (h : Heap) (hb : sysModules < h.objs.size) : eY P w H (h.push { cls := .type "dict", data := .dict #[] }) h.objs.size (.dK []) :=
 ⟨Nat.zero_le _, beq_eq_false_iff_ne.mpr (Ne.symm (Nat.ne_of_lt hb)), [], .nil, Heap.DictOf.new h⟩
noncomputable def zD : TE := fun _ H Q => ∀ p, H p = none → Q (.ref p) (upd H p (.dK []))
section
variable {X : Cx} {pos : Pos}
theorem rE : PE X (.Dict [] [] pos) zD := fun pins s σ H Q I h =>
 wpAny_Dict_empty ⟨.ref s.heap.objs.size, _, I.laid (a := s.heap.objs.size) (o := .dK []) (t' := s.toks) (fun _ _ q => Heap.get?_push_of_some _ q) (Nat.le_refl _) (IL s.heap I.big), rfl, h _ (I.cI.fresh (Nat.le_refl _))⟩
end
structure M1 (X : Cx) (o : Expr) (m : Str) (apos : Pos) (e : Expr) (cpos : Pos) : Prop where
 base : attributeBase o m X.env (eval o X.env) = eval o X.env
 SU : ((backTo cpos (starEach [e] X.env)).all (fun x => !x.1) && (backToKw cpos (keywordEach [] X.env)).all (fun x => x.1.isSome)
  && decide (([e] : List Expr).length + ([] : List Keyword).length + (if ([] : List Keyword).isEmpty then 0 else 1) < 30)) = true
 line : (apos.endLine == cpos.line) = true
 trees : backTo cpos (starEach [e] X.env) = [(false, eval e X.env)]
structure M2 (X : Cx) (o : Expr) (m : Str) (apos : Pos) (e f : Expr) (cpos : Pos) : Prop where
 base : attributeBase o m X.env (eval o X.env) = eval o X.env
 SU : ((backTo cpos (starEach [e, f] X.env)).all (fun x => !x.1) && (backToKw cpos (keywordEach [] X.env)).all (fun x => x.1.isSome)
  && decide (([e, f] : List Expr).length + ([] : List Keyword).length + (if ([] : List Keyword).isEmpty then 0 else 1) < 30)) = true
 line : (apos.endLine == cpos.line) = true
 trees : backTo cpos (starEach [e, f] X.env) = [(false, eval e X.env), (false, eval f X.env)]
noncomputable def VF (H : Hp) (a : Addr) : Prop := (∃ kvs, Rd H a (.dK kvs)) ∨ ∃ kvs, Rd H a (.dT kvs)
theorem GO {X : Cx} {pins : List (Addr × Obj)} {σ : St} {H : Hp} {s : Shared} {a : Addr} (I : Inv X pins σ H s) (d : VF H a) :
  s.TypeIs (.ref a) "dict" ∧ (∀ b, Value.ref a = .ref b → ∃ ob, s.heap.get? b = some ob ∧ ob.dict = none) ∧ (a == sysModules) = false := by
 rcases d with ⟨kvs, e⟩ | ⟨kvs, e⟩
 ·obtain ⟨_, hd, vs, _, dd⟩ := jR I.cI e
  refine ⟨dd.typeIs, fun b q => ?_, hd⟩
  cases q
  obtain ⟨ob, _, _, h1, h2, _⟩ := dd
  exact ⟨ob, h1, h2.2.1⟩
 ·obtain ⟨_, hd, xs, _, dd⟩ := rZ I.cI e
  refine ⟨dd.typeIs, fun b q => ?_, hd⟩
  cases q
  obtain ⟨ob, _, _, h1, h2, _⟩ := dd
  exact ⟨ob, h1, h2.2.1⟩
section
variable {X : Cx} {pins : List (Addr × Obj)} {σ : St} {H : Hp} {s : Shared} {a : Addr} {y d : V} {u r : Value} {o : Option V} {A : Around} {E : Value → Shared → Prop}
theorem O6 {Q : Value → Shared → Prop} (hu : A.units + 1 < cLine) (I : Inv X pins σ H s) (g : AB H a y o) (ry : RelV y u) (h : ∀ w' s', Inv X pins σ H s' → RelV (o.getD .bJ) w' → Q w' s') :
  wpAny (model X.prog X.w) A (call (.builtin "dict.get") [.ref a, u]) Q E s := by
 rcases g with ⟨kvs, k, e, ey, l⟩ | ⟨kvs, k, b, e, ey, eb, l⟩
 ·subst ey
  obtain ⟨z, hd, vs, rel, dd⟩ := jR I.cI e
  refine call_meetsIn PySem.F.slot_dict_get dd.typeIs PySem.F.entry_dict_get (PySem.F.args_dict_get_2 _ _) (meets_dict_get (cM X.prog X.w) a (pP ry) hd) ⟨_, dd.mapOf, h _ _ (I.tok _) ?_⟩
  rw [l]
  exact (rel.val k).getD rfl
 ·subst ey
  cases (show u = Value.ref b from ry)
  obtain ⟨z, hd, xs, rel, dd⟩ := rZ I.cI e
  refine call_meetsIn PySem.F.slot_dict_get dd.typeIs PySem.F.entry_dict_get (PySem.F.args_dict_get_2 _ _) (meetsH_dict_get (tupleKind (cM X.prog X.w)) a b hd) ⟨tupleKind_room_in1 hu, k, xs, oW I.cI eb, dd, h _ _ (I.tok _) ?_⟩
  rw [l]
  exact (rel.val k).getD rfl
end
noncomputable def EN (td ty : TE) : TE := fun σ H Q => td σ H fun x H1 => ∃ a, x = .ref a ∧ VF H1 a ∧ ty σ H1 fun y H2 => ∃ o, AB H2 a y o ∧ Q (o.getD .bJ) H2
section
variable {X : Cx} {o e f : Expr} {apos cpos : Pos} {td ty tx : TE}
theorem GD (hu : X.A.units + 1 < cLine) (ho : PE X o td) (he : PE X e ty) (m : M1 X o "get" apos e cpos) : PE X (.Call (.Attribute o "get" apos) [e] [] cpos) (EN td ty) := by
 intro pins s σ H Q I h
 refine wpAny_Call_method m.base m.SU m.line PySem.F.plainAttrs_dict PySem.F.slot_dict_get PySem.F.type_dict_get (d8 (ho pins s σ H _ I h) fun u s1 ⟨x, H1, I1, rx, a, ex, d, q1⟩ => ?_)
 subst ex
 obtain rfl : u = Value.ref a := rx
 obtain ⟨t1, t2, _⟩ := GO I1 d
 refine ⟨t1, t2, ?_⟩
 rw [m.trees]
 refine Calls.callWith_builtin rfl (Calls.evalArgs_plain (Calls.spliced_cons (d8 (he pins s1 σ H1 _ I1 q1) fun iv s2 ⟨y, H2, I2, ry, ov, g, q2⟩ => Calls.spliced_nil ?_)))
 exact O6 hu I2 g ry fun w' s3 I3 rw' => ⟨_, H2, I3, rw', q2⟩
end
section
variable {X : Cx} {pins : List (Addr × Obj)} {σ : St} {H : Hp} {s : Shared} {a : Addr} {kvs : List (Key × V)} {A : Around} {E : Value → Shared → Prop}
end
section
variable {X : Cx} {pins : List (Addr × Obj)} {σ : St} {H : Hp} {s : Shared} {a : Addr} {y : V} {u : Value} {A : Around} {E : Value → Shared → Prop}
end
end L2
namespace HT
open PySem PySem.Spec PyProof.Rows
end HT
namespace L2
open PySem PySem.Spec PyProof.Rows
section
variable {X : Cx}
end
end L2
namespace L2
open PySem PySem.Spec PyProof.Rows
section
variable {k : Nat} {cV : List Nat} {g : TG} {tt : TT} {te : TE} {σ : St} {H : Hp} {Q : VK} {l : Addr}
end
noncomputable def Kp (H H' : Hp) : Prop := ∀ a o, H a = some o → H' a = some o ∨ ∃ xs ys, o = .lst xs ∧ H' a = some (.lst ys)
theorem Kp.tup {H H' : Hp} (k : Kp H H') {a : Addr} {xs : List V} (h : H a = some (.tup xs)) : H' a = some (.tup xs) := by
 rcases k a _ h with r | ⟨_, _, e, _⟩
 ·exact r
 ·cases e
structure Tg (H : Hp) (v : V) (k : Kd) : Prop where
 is : WU H v k
 SU : ∀ x, v = .str x → x.length ≤ 1000000
theorem Tg.kp {H H' : Hp} {v : V} {k : Kd} (t : Tg H v k) (s : Kp H H') : Tg H' v k := by
 refine ⟨?_, t.SU⟩
 have h := t.is
 cases k with
 | bJ => exact h
 | bl => exact h
 | int => exact h
 | str => exact h
 | lst =>
  obtain ⟨a, xs, rfl, e⟩ := h
  rcases s _ _ e with r | ⟨_, ys, _, r⟩
  ·exact ⟨a, xs, rfl, r⟩
  ·exact ⟨a, ys, rfl, r⟩
 | tup => obtain ⟨a, xs, rfl, e⟩ := h; exact ⟨a, xs, rfl, s.tup e⟩
 | bW =>
  obtain ⟨a, xs, rfl, e⟩ := h
  rcases s _ _ e with r | ⟨_, _, z, _⟩
  ·exact ⟨a, xs, rfl, r⟩
  ·cases z
noncomputable def kZ (H : Hp) : V → Option (List V)
 | .ref a => match H a with | some (.tup xs) => some xs | _ => none
 | _ => none
theorem wZ {H : Hp} {a : Addr} {xs : List V} (h : H a = some (.tup xs)) : kZ H (.ref a) = some xs := by unfold kZ; simp only [h]
theorem Tg.tup {H : Hp} {v : V} {k : Kd} (t : Tg H v k) : (k = .tup ∧ ∃ a xs, v = .ref a ∧ H a = some (.tup xs) ∧ kZ H v = some xs) ∨ (k ≠ .tup ∧ kZ H v = none) := by
 have h := t.is
 cases k with
 | bJ => cases (show v = .bJ from h); exact .inr ⟨(fun z => nomatch z), rfl⟩
 | bl => obtain ⟨_, rfl⟩ := h; exact .inr ⟨(fun z => nomatch z), rfl⟩
 | int => obtain ⟨_, rfl⟩ := h; exact .inr ⟨(fun z => nomatch z), rfl⟩
 | str => obtain ⟨_, rfl⟩ := h; exact .inr ⟨(fun z => nomatch z), rfl⟩
 | lst => obtain ⟨a, xs, rfl, e⟩ := h; exact .inr ⟨(fun z => nomatch z), by unfold kZ; simp only [e]⟩
 | tup => obtain ⟨a, xs, rfl, e⟩ := h; exact .inl ⟨rfl, a, xs, rfl, e, wZ e⟩
 | bW => obtain ⟨a, xs, rfl, e⟩ := h; exact .inr ⟨(fun z => nomatch z), by unfold kZ; simp only [e]⟩
theorem Tg.Q4 {H H' : Hp} {v : V} {k : Kd} (t : Tg H v k) (s : Kp H H') : kZ H' v = kZ H v := by
 rcases t.tup with ⟨rfl, a, xs, rfl, e, e2⟩ | ⟨n, e⟩
 ·rw [e2]; exact wZ (s.tup e)
 ·rw [e]
  rcases (t.kp s).tup with ⟨z, _⟩ | ⟨_, e'⟩
  ·exact absurd z n
  ·exact e'
noncomputable def yJ : Nat → Hp → V → Prop
 | 0, H, v => ∃ k, Tg H v k
 | n + 1, H, v => (∃ k, Tg H v k) ∧ ∀ xs, kZ H v = some xs → xs.length ≤ 1000 ∧ ∀ x ∈ xs, yJ n H x
theorem yJ.tg : ∀ {n : Nat} {H : Hp} {v : V}, yJ n H v → ∃ k, Tg H v k
 | 0, _, _, h => h
 | _ + 1, _, _, h => h.1
theorem yJ.kp : ∀ {n : Nat} {H H' : Hp} {v : V}, yJ n H v → Kp H H' → yJ n H' v
 | 0, _, _, _, ⟨k, t⟩, s => ⟨k, t.kp s⟩
 | n + 1, _, _, _, ⟨⟨k, t⟩, h⟩, s => ⟨⟨k, t.kp s⟩, fun xs e => by
   rw [t.Q4 s] at e
   exact ⟨(h xs e).1, fun x hx => yJ.kp ((h xs e).2 x hx) s⟩⟩
noncomputable def Any (H : Hp) (v : V) : Prop := ∀ n, yJ n H v
theorem Any.kp {H H' : Hp} {v : V} (h : Any H v) (s : Kp H H') : Any H' v := fun n => (h n).kp s
end L2
namespace L2
open PySem PySem.Spec PyProof.Rows
section
variable {X : Cx} {es : List Expr} {te : TE} {t : TA}
end
section
variable {X : Cx} {elt tg iter : Expr} {ifs : List Expr} {scope : Scope} {pos : Pos} {wi : TI} {g : TG} {tt : TT} {te : TE} {N : List Str} {k : Nat} {cV : List Nat}
theorem J0 {iy : Nat} {y : Str} {py spos : Pos} (hc : X.calm = true) (hNd : X.N.Nodup) (hiy : X.N[iy]? = some y) (hy : X.env.scope.names.lookup y = some .local)
  (S : g8 X scope N k cV) (hi : PI X tg iter wi) (hg : ∀ c, PG (bP X scope N c) tg g) (ht : ∀ c, M7 (bP X scope N c) ifs tt) (he : ∀ c, PE (bP X scope N c) elt te)
  (hsw : swapsWith (.ListComp elt [⟨tg, iter, ifs, 0⟩] scope pos) (some (.Name y py)) spos.line X.env = pure true)
  (hs : ∀ x, foldedSetIterable iter X.env x = pure x := by intro _; rfl) : PS X (.Assign [.Name y py] (.ListComp elt [⟨tg, iter, ifs, 0⟩] scope pos) spos) (u5 (tS wi k cV g tt te) (nJ iy)) := by
 intro pins s σ H D I h
 rw [exec_Assign_Name_used _ _ _ _ hsw]
 refine wpAny_bind (wpAny_standAt (wpAny_bind ?_))
 obtain ⟨cl, hclos, hcl1, hcl2⟩ := jH (scope := scope) (env := X.env) (fun p hp hf => I.ok.has p.1 (S.free p hp hf))
 show wpAny _ X.A (do let _ ← comprehension (.ListComp elt [⟨tg, iter, ifs, 0⟩] scope pos) scope X.env _ (newList []) false (eval iter X.env) (some (assign (.Name y py) X.env))) _ _ s
 refine wpAny_bind (wpAny_mono (wpAny_comprehension_free (use := some (assign (.Name y py) X.env)) (Q := fun _ s' => SP X pins D .next s') rfl hs hclos S.kind S.names (d8 (hi pins s σ H _ I h) fun v s1 h1 => d8 h1 fun itv s2 h2 => ?_)) (fun _ s' hq => wpAny_pure (wpAny_pure hq)) fun _ _ e => e)
 obtain ⟨it, fp, tn, J, H2, e, I2, T, st2, f2, q2⟩ := h2
 subst e
 obtain ⟨W, ⟨m0, w0⟩, turn⟩ := q2 s2.heap.objs.size (I2.cI.fresh (Nat.le_refl _))
 have hob : ∀ b ∈ fp, b < s2.heap.objs.size := fun b hb => let ⟨o, e, _⟩ := T.obj _ _ st2 b hb; Heap.lt_size e
 refine wpAny_newObj_type (wpAny_newFunctionEnv S.cell (by intro y hy; simp at hy) (fun h₁ hns₁ hsb₁ => ?_) S.kind)
 dsimp only at hns₁ hsb₁ ⊢
 generalize hHH : s2.heap.push { cls := .type "list", dict := none, data := .seq ([] : List Value).toArray } = HH at hns₁ hsb₁ ⊢
 have hCC : HH.objs.size = s2.heap.objs.size + 1 := by rw [← hHH, Heap.size_push]
 have old : ∀ b o, s2.heap.get? b = some o → h₁.get? b = some o := fun b o e => hsb₁.extBut b o (Nat.ne_of_lt (hCC ▸ Nat.lt_succ_of_lt (Heap.lt_size e))) (Heap.get?_push_of_some _ (hHH ▸ Heap.get?_push_of_some _ e))
 have hD : h₁.get? s2.heap.objs.size = some { cls := .type "list", data := .seq #[] 0 } := hsb₁.extBut _ _ (Nat.ne_of_lt (hCC ▸ Nat.lt_succ_self _)) (Heap.get?_push_of_some _ (hHH ▸ Heap.get?_push_size _ rfl))
 have I4 := fun tk => B4 (tk := tk) S I2 hcl1 hcl2 hCC f2 hob old hD hns₁
 have X' := bP X scope N ⟨cl, HH.objs.size, s2, H2, fp⟩
 have stat : ∀ {H' : Hp}, (∀ b ∈ fp, H' b = none) → ∀ b ∈ fp, oQ (bP X scope N ⟨cl, HH.objs.size, s2, H2, fp⟩) [] H' b := fun hn b hb =>
  ⟨hn b hb, Nat.ne_of_lt (hCC ▸ Nat.lt_succ_of_lt (hob b hb)), (sM S I2 hcl1 hcl2 (hCC ▸ Nat.le_succ _) f2 hob).y3 b hb, .inl hb, fun x c e => (f2 b hb).2.2.2.2.1 x c (hcl1 x c e), fun p hp => absurd (show p ∈ ([] : List (Addr × Obj)) from hp) (by simp)⟩
 have loop : ∀ s₃ : Shared, s₃ = { s2 with heap := h₁, toks := s2.toks + ([] : List (Str × Value)).length } →
   codeAny (model X.prog X.w) X.A (.compLoop (.ListComp elt [⟨tg, iter, ifs, 0⟩] scope pos) 0 (.ref it) (.ref s2.heap.objs.size) (compEnvC scope cl HH.objs.size X.env))
    (compPost (model X.prog X.w) X.A X.xe (some (assign (.Name y py) X.env)) (fun _ s' => SP X pins D .next s') (.ref s2.heap.objs.size) HH.objs.size) s₃ := by
  rintro s₃ rfl
  refine t9 (fun n s' => ∃ i σ' H', Inv (bP X scope N ⟨cl, HH.objs.size, s2, H2, fp⟩) [] σ' H' s' ∧ tn i s'.heap ∧ (∀ b ∈ fp, H' b = none) ∧ W i n σ' H') ?_ m0
   ⟨0, fV k cV σ, _, I4 _, T.keep _ _ _ st2 fun b _ o e => old b o e, fun b hb => by rw [aX (Nat.ne_of_lt (hob b hb))]; exact (f2 b hb).1, w0⟩
  rintro n s3 ⟨i, σ3, H3, I3, st3, fr3, w3⟩
  rcases turn i n σ3 H3 w3 with ⟨stop, qn⟩ | ⟨go, NN, hN, step⟩
  ·refine d8 (T.done (bP X scope N ⟨cl, HH.objs.size, s2, H2, fp⟩) rfl rfl rfl hc i [] s3 σ3 H3 _ I3 (stat fr3) st3 stop) fun r s4 ⟨hr, J4⟩ => ?_
   subst hr
   obtain ⟨m, hn, _⟩ := J4.loc
   obtain ⟨oC, es, ep, hoC, hdC, rC⟩ := hn
   have iY : ∀ b o, s2.heap.get? b = some o → b ≠ HH.objs.size := fun b o e => Nat.ne_of_lt (hCC ▸ Nat.lt_succ_of_lt (Heap.lt_size e))
   have szC : s2.heap.objs.size ≤ HH.objs.size := hCC ▸ Nat.le_succ _
   have u := J4.base
   have I4x : Inv X pins σ H3 s4 := I2.JC (ch := fp) J4.os u J4.cI J4.bare fun b hb => by
    obtain ⟨_, f1, _, f3, f4, f5⟩ := f2 b hb
    exact ⟨f3, f1, f4, f5⟩
   have lC : HH.objs.size ≠ X.env.locals := Nat.ne_of_gt (Nat.lt_of_lt_of_le I2.lt szC)
   have I4p : Inv X ((HH.objs.size, oC) :: pins) σ H3 s4 := I4x.qO fun p hp => by
    rcases List.mem_cons.mp hp with r | r
    ·rw [r]
     exact ⟨hoC, J4.free, lC, I2.SX szC, fun v z => by rw [hdC] at z; cases z⟩
    ·exact I4x.pin p (List.mem_append_right _ r)
   show wpAny _ X.A (assign (.Name y py) X.env (.ref s2.heap.objs.size)) _ _ _
   refine wpAny_assign_Name (sI I4p hNd hiy (.inl hy) (v := .ref s2.heap.objs.size) rfl (fun s5 I5 => ?_) (.inr hy))
   have hC5 := I5.pin (HH.objs.size, oC) (List.mem_append_right _ List.mem_cons_self)
   refine ⟨m, ⟨oC, es, ep, hC5.1, hdC, rC⟩, fun h' hs' => ⟨_, H3, ?_, qn⟩⟩
   have I6 : Inv X pins (σ.set iy (some (.ref s2.heap.objs.size))) H3 s5 := I5.qO fun p hp => I5.pin p (List.mem_append_right _ (List.mem_cons_of_mem _ hp))
   refine I6.turned (it := HH.objs.size) (t' := s5.toks) (fun b o hb e => hs'.extBut b o hb e) J4.free lC (.inr (Nat.le_trans I2.sz szC)) (fun x c e => ?_) (fun p hp => ?_)
   ·obtain ⟨v, q⟩ := I2.cell x c e
    exact Nat.ne_of_lt (Nat.lt_of_lt_of_le q.lt szC)
   ·exact iY p.1 p.2 (I2.pin p hp).1
  ·refine d8 (T.item (bP X scope N ⟨cl, HH.objs.size, s2, H2, fp⟩) rfl rfl rfl hc i [] s3 σ3 H3 _ I3 (stat fr3) st3 go) fun r s4 ⟨u, hr, h4⟩ => ?_
   subst hr
   refine d8 h4 fun _ s5 ⟨x, H5, I5, r5, y5, st5, fr5⟩ => ?_
   have I5' := I5.pinned (stat fr5) (T.obj _ _ st5)
   have again : ∀ {s7 : Shared} {σ7 : St} {H7 : Hp}, Inv (bP X scope N ⟨cl, HH.objs.size, s2, H2, fp⟩) ([] ++ m7 fp s5.heap) σ7 H7 s7 → NN σ7 H7 →
     ∃ m, m < n ∧ ∃ i σ' H', Inv (bP X scope N ⟨cl, HH.objs.size, s2, H2, fp⟩) [] σ' H' s7 ∧ tn i s7.heap ∧ (∀ b ∈ fp, H' b = none) ∧ W i m σ' H' := fun {s7 σ7 H7} I7 n7 => by
    obtain ⟨m', hm, w7⟩ := hN σ7 H7 n7
    refine ⟨m', hm, i + 1, σ7, H7, I7.jP, T.keep _ _ _ st5 fun b hb o e => (I7.pin (b, o) (List.mem_append_right _ (List.mem_append_right _ (fA hb e)))).1, fun b hb => ?_, w7⟩
    obtain ⟨o, e, d⟩ := T.obj _ _ st5 b hb
    exact (I7.pin (b, o) (List.mem_append_right _ (List.mem_append_right _ (fA hb e)))).2.1
   refine d8 (hg _ _ s5 σ3 H5 x u _ I5' r5 (step x H5 y5)) fun _ s6 ⟨σ6, H6, I6, q6⟩ => ?_
   refine d8 (ht _ _ s6 σ6 H6 _ I6 q6) fun b s7 ⟨H7, I7, q7⟩ => ?_
   cases b with
   | false => exact again I7 q7
   | true =>
    refine d8 (he _ _ s7 σ6 H7 _ I7 q7) fun y s8 ⟨yv, H8, I8, r8, xs, hl, hz, n8⟩ => ?_
    refine d8 (gZ _ s8 σ6 H8 (.ref s2.heap.objs.size) [yv] (.ref s2.heap.objs.size) [y] (fun _ H9 => NN σ6 H9) I8 rfl (.cons r8 .nil) ⟨_, xs, yv, rfl, rfl, hl, hz, n8⟩) fun _ s9 ⟨_, H9, I9, _, q9⟩ => ?_
    exact again I9 q9
 exact codeAny_compStart_list (loop _ rfl) (T.self X.A 0 _ _ _ (T.keep _ _ _ st2 fun b _ o e => old b o e) (loop _ rfl))
theorem oM {i : Nat} {y : Str} {py spos : Pos} (N : List Str) (k : Nat) (cV : List Nat) (XN : List Str) (xs : Scope) (hc : X.calm = true) (hN : X.N = XN) (hx : X.env.scope = xs) (hNd : X.N.Nodup) (hiy : X.N[i]? = some y) (hy : X.env.scope.names.lookup y = some .local)
  (hi : PI X tg iter wi) (chk : oA XN xs scope N k cV = true) (hg : ∀ c, PG (bP X scope N c) tg g) (ht : ∀ c, M7 (bP X scope N c) ifs tt) (he : ∀ c, PE (bP X scope N c) elt te)
  (hsw : swapsWith (.ListComp elt [⟨tg, iter, ifs, 0⟩] scope pos) (some (.Name y py)) spos.line X.env = pure true := by rfl)
  (hs : ∀ x, foldedSetIterable iter X.env x = pure x := by intro _; rfl) : PS X (.Assign [.Name y py] (.ListComp elt [⟨tg, iter, ifs, 0⟩] scope pos) spos) (u5 (tS wi k cV g tt te) (nJ i)) :=
 J0 hc hNd hiy hy (j0 hN hx chk) hi hg ht he hsw hs
end
section
variable {X : Cx} {es : List Expr} {e : Expr} {te tk tv : TE} {t : TA}
structure WV (X : Cx) (e : Expr) (t : TE) : Prop where
 h : PE X e t
structure W4 (X : Cx) (es : List Expr) (t : TA) : Prop where
 h : PA X es t
theorem ew (h : PE X e te) : WV X e te := ⟨h⟩
end
section
variable {X : Cx} {es : List Expr} {te : TE} {t : TA} {st : Stmt} {rest : List Stmt} {ts us : TS}
structure W3 (X : Cx) (st : Stmt) (t : TS) : Prop where
 h : PS X st t
structure WM (X : Cx) (st : List Stmt) (t : TS) : Prop where
 h : C4 X st t
end
end L2
namespace L2
open PySem PySem.Spec PyProof.Rows
section
variable {X : Cx} {pos : Pos} {k : Nat} {a b e : Expr} {es rest : List Expr} {te ta tb : TE} {t : Str → TE}
noncomputable def U3 (K : PySem.W.Frag) : R2 := fun x y H Q => ∃ a b xs ys, x = .ref a ∧ y = .ref b ∧ iZ K H a xs ∧ iZ K H b ys ∧ (xs.length = ys.length → xs.all BG = true ∧ ys.all BG = true) ∧ Q (.bl (!DB xs ys)) H
theorem VG (K : PySem.W.Frag) (hr : eU k X.A) (hK : X.K = K := by rfl) : iK X (compareOp .NotEq) (U3 K) := by
 subst hK
 intro pins s σ H x y v u Q I rx ry h
 obtain ⟨a, b, xs, ys, rfl, rfl, ha, hb, hf, q⟩ := h
 cases rx
 cases ry
 obtain ⟨its, r1, p1, _⟩ := I.list ha
 obtain ⟨its2, r2, p2, _⟩ := I.list hb
 have l1 := r1.length
 have l2 := r2.length
 by_cases e : xs.length = ys.length
 ·obtain ⟨f1, f2⟩ := hf e
  refine SeqAt.RcNeAt.lists (e := fun j => UP ((xs[j]?).getD .bJ) ((ys[j]?).getD .bJ)) p1.isList p2.isList (by simp; omega) hr.I0 (fun j h1 h2 => ?_) _ _ _ _ ?_
  ·have g1 : its[j]? = some (its.toArray[j]) := by simp at h1 ⊢
   have g2 : its2[j]? = some (its2.toArray[j]) := by simp at h2 ⊢
   obtain ⟨x, ex, rx⟩ := r1.get' g1
   obtain ⟨y, ey, ry⟩ := r2.get' g2
   rw [ex, ey]
   exact QF rx ry (List.all_eq_true.mp f1 _ (List.mem_of_getElem? ex)) (List.all_eq_true.mp f2 _ (List.mem_of_getElem? ey))
  ·have e1 : its.toArray.size = xs.length := by simp; omega
   rw [e1, sD e]
   exact ⟨.bl _, H, I, rfl, q⟩
 ·refine SeqAt.RcNeAt.lists_lengths p1.isList p2.isList (by simp; omega) hr.I0 _ _ _ _ ?_
  rw [x3 e] at q
  exact ⟨.bl true, H, I, rfl, q⟩
end
noncomputable def WA (H : Hp) (p g : Addr) : Prop := ∃ (xs : List Int) (s c : Int), H p = some (.lst [.ref g, .int s, .int c]) ∧ H g = some (.lst (xs.map V.int)) ∧ p ≠ g
noncomputable def Fr (p g : Addr) (H H' : Hp) : Prop := ∀ b o, H b = some o → b ≠ p → b ≠ g → H' b = some o
theorem Fr.kp {H H' : Hp} {p g : Addr} (h : WA H p g) (h' : WA H' p g) (f : Fr p g H H') : Kp H H' := fun a o e => by
 obtain ⟨xs, s, c, e1, e2, n⟩ := h
 obtain ⟨xs', s', c', e1', e2', n'⟩ := h'
 by_cases z : a = p
 ·subst z
  rw [e1] at e; cases e
  exact .inr ⟨_, _, rfl, e1'⟩
 ·by_cases z2 : a = g
  ·subst z2
   rw [e2] at e; cases e
   exact .inr ⟨_, _, rfl, e2'⟩
  ·exact .inl (f a o e z z2)
section
variable {k : Nat} {cV : List Nat} {gg : TG} {tt : TT} {te : TE} {σ : St} {H : Hp} {Q : VK} {l : Addr}
end
section
variable {k : Nat} {cV : List Nat} {g : TG} {tt : TT} {te : TE} {σ : St} {H : Hp} {Q : VK} {l : Addr}
end
end L2
namespace L2
open PySem PySem.Spec PyProof.Rows
noncomputable def CV (A : Around) (s : Shared) (x y : Value) (c : Bool) : Prop :=
 ∀ (prog : Program) (w : World) (E : Value → Shared → Prop) (Q : Value → Shared → Prop), Q (.bool c) s → wpAny (model prog w) A (richCompare .Lt x y) Q E s
inductive xF (A : Around) (s : Shared) (fin : Bool) : List (Value × Value) → Bool → Prop
 | done : xF A s fin [] fin
 | same {p q : Value} {r : List (Value × Value)} {c : Bool} : SeqAt.EqAt A s p q true → xF A s fin r c → xF A s fin ((p, q) :: r) c
 | less {p q : Value} {r : List (Value × Value)} {c : Bool} : SeqAt.EqAt A s p q false → CV A s p q c → xF A s fin ((p, q) :: r) c
section
open PySem.SeqAt
open PySem.AutoSeq1 (wpAny_loadPart')
open PySem.MeetsSeq PySem.MeetsSeq2 PySem.MeetsSeq3
theorem NC (l b : Addr) (us vs : Array Value) (n m : Nat) (d1 d2 : Option Addr) (k1 k2 : Array (Option Value)) (c : Bool) :
  Meets (Builtin.«tuple.__lt__» ⟨[.ref l, .ref b], []⟩) (fun A R s => s.heap.get? l = some ⟨.type "tuple", d1, .seq us n, k1⟩ ∧ s.heap.get? b = some ⟨.type "tuple", d2, .seq vs m, k2⟩ ∧
   xF A.in1 s (decide (us.size < vs.size)) (us.toList.zip vs.toList) c ∧ R (.ok (.ret (.bool c))) s) :=
 .of_wp fun prog w A R s h => by
  obtain ⟨hp, gg, dd, tk, os⟩ := s
  obtain ⟨hl, hb, hx, hr⟩ := h
  have f2 := AutoSeq1.sub_tuple_tuple
  wp_walk using wpAny_loadPart' hl, wpAny_loadPart' hb, wpAny_forIn_list _ (fun rest acc s' => acc.1 = none ∧ s' = ⟨hp, gg, dd, tk, os⟩ ∧ xF A.in1 ⟨hp, gg, dd, tk, os⟩ (decide (us.size < vs.size)) rest c) _
  case turn =>
   rintro ⟨y, x⟩ rest acc s' ⟨ha, rfl, hx'⟩
   cases hx' with
   | same he hrest =>
    refine wpAny_bind (he prog w _ _ ?_)
    wp_walk
    exact ⟨rfl, rfl, hrest⟩
   | less he hlt =>
    refine wpAny_bind (he prog w _ _ ?_)
    have hq := hlt prog w
    wp_walk using hq
    exact ⟨_, rfl, by simpa using hr⟩
  case fin =>
   rintro ⟨b1, b2⟩ s' ⟨ha, rfl, hx'⟩
   simp only at ha
   subst ha
   cases hx'
   wp_walk
   exact ⟨_, rfl, by simpa [Builtin.Tuple.tupleCompareSizes] using hr⟩
  case h => exact ⟨rfl, rfl, hx⟩
end
theorem N9 {A : Around} {s : Shared} {l b : Addr} {us vs : Array Value} {c : Bool} (hl : IsTup s.heap l us) (hb : IsTup s.heap b vs) (hu : A.units < cLine) (hx : xF A.in1 s (decide (us.size < vs.size)) (us.toList.zip vs.toList) c) :
  CV A s (.ref l) (.ref b) c := by
 intro prog w E Q q
 obtain ⟨⟨c1, d1, t1, k1⟩, g1, e1, n, r1⟩ := id hl
 obtain ⟨⟨c2, d2, t2, k2⟩, g2, e2, m, r2⟩ := id hb
 simp only at e1 r1 e2 r2
 subst e1 r1 e2 r2
 exact richCompare_meets_room (op := .Lt) ⟨_, g1, rfl⟩ ⟨_, g2, rfl⟩ PySem.F.slot_tuple_lt PySem.F.entry_tuple_lt (PySem.F.args_tuple_lt_2 _ _) (NC l b us vs n m d1 d2 k1 k2 c) ⟨g1, g2, hx, (fun x => nomatch x), q⟩ hu
section
variable {X : Cx} {pins : List (Addr × Obj)} {σ : St} {H : Hp} {s : Shared}
end
section
open PySem.W
noncomputable def Al {α : Type} (n : Nat) (P : α → Prop) : KasT α → Prop
 | .ret a => P a
 | .ask i j k => i < n ∧ j < n ∧ ∀ b, Al n P (k b)
theorem Al.bind {α β : Type} {n : Nat} {P : α → Prop} {R : β → Prop} {f : α → KasT β} : ∀ {t : KasT α}, Al n P t → (∀ a, P a → Al n R (f a)) → Al n R (t.bind f)
 | .ret a, h, hf => hf a h
 | .ask _ _ _, h, hf => ⟨h.1, h.2.1, fun b => Al.bind (h.2.2 b) hf⟩
noncomputable def nC (n : Nat) (p : Array Nat) : Prop := p.Perm (List.toArray (List.range n))
theorem nC.lt {n : Nat} {p : Array Nat} (h0 : 0 < n) (h : nC n p) (i : Nat) : p.getD i 0 < n := by
 by_cases hi : i < p.size
 ·have e : p.getD i 0 = p[i] := by simp [Array.getD, hi]
  rw [e]
  have hm : p[i] ∈ p := Array.getElem_mem hi
  have := (h.mem_iff).mp hm
  simpa using this
 ·have e : p.getD i 0 = 0 := by simp [Array.getD, hi]
  omega
theorem nC.rev {n : Nat} {p : Array Nat} (h : nC n p) (i j : Nat) : nC n (kas_rev p i j) := (mirror_perm p i j ((j - i) / 2)).trans h
theorem nC.WL {n : Nat} {p : Array Nat} (h : nC n p) (i j : Nat) : nC n (bubble p i j) := (bubble_perm p i j).trans h
theorem zG {n : Nat} {p : Array Nat} (h0 : 0 < n) (h : nC n p) : ∀ f m, Al n (fun _ => True) (kas_asc p f m)
 | 0, m => trivial
 | f + 1, m => ⟨h.lt h0 _, h.lt h0 _, fun b => by
  cases b with
  | true => exact trivial
  | false => exact zG h0 h f (m + 1)⟩
theorem qK {n : Nat} (h0 : 0 < n) : ∀ f (p : Array Nat) m q, nC n p → Al n (fun r : Array Nat × Nat × Nat => nC n r.1) (kas_desc f p m q)
 | 0, p, m, q, h => h
 | f + 1, p, m, q, h => ⟨h.lt h0 _, h.lt h0 _, fun b => by
  cases b with
  | true =>
   show Al n _ (if q > 0 then _ else _)
   split
   ·exact qK h0 f _ _ _ (h.rev _ _)
   ·exact qK h0 f _ _ _ h
  | false =>
   refine ⟨h.lt h0 _, h.lt h0 _, fun d => ?_⟩
   cases d with
   | true => exact h
   | false => exact qK h0 f _ _ _ h⟩
theorem yZ {n : Nat} (h0 : 0 < n) {p : Array Nat} (h : nC n p) (m k : Nat) : Al n (fun r : Nat × Array Nat => nC n r.2) (kas_tail3 m k p) :=
 (zG h0 (h.rev 0 m) _ _).bind fun _ _ => h.rev 0 m
theorem pR {n : Nat} (h0 : 0 < n) {p : Array Nat} (h : nC n p) (m k : Nat) : Al n (fun r : Nat × Array Nat => nC n r.2) (kas_descPart m k p) := by
 refine (qK h0 _ _ _ _ h).bind fun r hr => ?_
 split
 ·exact yZ h0 (hr.rev _ _) _ _
 ·exact yZ h0 hr _ _
theorem HY {n : Nat} (h0 : 0 < n) {p : Array Nat} (h : nC n p) (k : Nat) : Al n (fun r : Nat × Array Nat => nC n r.2) (kas_count k p) := by
 refine (zG h0 h _ _).bind fun m _ => ?_
 split
 ·exact h
 ·split
  ·refine ⟨h.lt h0 _, h.lt h0 _, fun b => ?_⟩
   cases b with
   | true => exact h
   | false => exact pR h0 (h.rev _ _) _ _
  ·exact pR h0 h _ _
theorem rR {n : Nat} (h0 : 0 < n) {p : Array Nat} (h : nC n p) (k : Nat) : ∀ f l r, Al n (fun _ => True) (kas_place p k f l r)
 | 0, _, _ => trivial
 | f + 1, l, r => by
  unfold kas_place
  split
  ·exact trivial
  ·refine ⟨h.lt h0 _, h.lt h0 _, fun b => ?_⟩
   cases b with
   | true => exact rR h0 h k f _ _
   | false => exact rR h0 h k f _ _
theorem IE {n : Nat} (h0 : 0 < n) : ∀ f (p : Array Nat) k, nC n p → Al n (nC n) (kas_bin f p k)
 | 0, _, _, h => h
 | f + 1, p, k, h => (rR h0 h k _ _ _).bind fun l _ => IE h0 f _ _ (h.WL _ _)
theorem BE {n : Nat} (h0 : 0 < n) : Al n (nC n) (kas_sort n) := by
 refine (HY h0 (show nC n _ from Array.Perm.refl _) n).bind fun r hr => ?_
 split
 ·exact IE h0 _ _ _ hr
 ·exact hr
theorem nC.perm {vs : List Value} {p : Array Nat} (h : nC vs.length p) : (p.toList.map fun i => vs.getD i Value.none).Perm vs := by
 have h1 : p.toList.Perm (List.range vs.length) := by simpa using Array.perm_iff_toList_perm.mp h
 have h2 := h1.map fun i => vs.getD i Value.none
 have e : (List.range vs.length).map (fun i => vs.getD i Value.none) = vs := by
  apply List.ext_getElem
  ·simp
  ·intro i a1 a2
   simp [List.getElem?_eq_getElem a2]
 rw [e] at h2
 exact h2
end
section
open PySem.W
variable {prog : Program} {w : World} {A : Around} {E : Value → Shared → Prop} {s : Shared}
end
section
open PySem.W
variable {X : Cx} {pins : List (Addr × Obj)} {σ : St} {H : Hp} {s : Shared} {k : Nat}
end
end L2
namespace HT
open PySem PySem.Spec PyProof.Rows
section
variable {prog : Program} {w : World} {A : Around} {E : Value → Shared → Prop} {s : Shared}
end
end HT
namespace L2
open PySem PySem.Spec PyProof.Rows
section
variable {X : Cx} {e st : Expr} {te ts : TE} {pos p2 : Pos}
end
end L2
namespace L2
open PySem PySem.Spec PyProof.Rows
section
variable {X : Cx}
theorem jY : ∀ {us : List Value} {ss : List Str}, StrsAre us ss → Vals (ss.map V.str) us
 | [], _, .nil => .nil
 | _ :: _, _, .cons x t r => .cons ⟨t, rfl⟩ (jY r)
noncomputable def zB (K : PySem.W.Frag) : List V → Hp → VK → Prop := fun xs H Q => ∃ p ss, xs = [.ref p] ∧ iZ K H p (ss.map V.str) ∧ ss.length < 64 ∧ ∀ l out, out.Perm ss → sortedS out = true → H l = none → Q (.ref l) (upd H l (.lst (out.map V.str)))
theorem DV (K : PySem.W.Frag) (hK : X.K = K := by rfl) : dN X (.builtin "sorted") (zB K) := by
 subst hK
 intro pins s σ H xs us Q I r ⟨p, ss, e, hq, h64, q⟩
 subst e
 obtain ⟨u, rfl, rx⟩ := vals1 r
 cases rx
 obtain ⟨vs, rv, pl, hz⟩ := I.list hq
 have hlen := rv.length
 rw [List.length_map] at hlen hz
 refine sorted_strs pl.isList (vP rv) (by omega) fun out ss' h1 h2 h3 => ?_
 obtain ⟨c, hat⟩ := sortedAll_at s.heap vs out
 exact ⟨.ref (s.heap.objs.size + 1), _, I.laid (t' := s.toks) (o := .lst (ss'.map V.str)) (fun b o e => sortedAll_old e) (Nat.le_succ _) ⟨by rw [List.length_map, h2.length_eq]; exact hz, out.toList, c, jY h1, hat⟩, rfl, q _ ss' h2 h3 (I.cI.fresh (Nat.le_succ _))⟩
end
end L2
namespace L2
open PySem PySem.Spec PyProof.Rows
noncomputable def EW (H : Hp) : Nat → V → V → Prop
 | 0, x, y => (∃ i j, x = .str i ∧ y = .str j) ∨ ∃ i j, x = .int i ∧ y = .int j
 | n + 1, x, y => ((∃ i j, x = .str i ∧ y = .str j) ∨ ∃ i j, x = .int i ∧ y = .int j) ∨ ∃ a b xs ys, x = .ref a ∧ y = .ref b ∧ H a = some (.tup xs) ∧ H b = some (.tup ys) ∧ ∀ (i : Nat) u v, xs[i]? = some u → ys[i]? = some v → EW H n u v
section
variable {X : Cx} {pins : List (Addr × Obj)} {σ : St} {H : Hp} {s : Shared} {k : Nat}
end
theorem EW.kp {H H' : Hp} (s : Kp H H') : ∀ {n : Nat} {x y : V}, EW H n x y → EW H' n x y
 | 0, _, _, h => h
 | n + 1, _, _, .inl h => .inl h
 | n + 1, _, _, .inr ⟨a, b, xs, ys, e1, e2, ha, hb, k⟩ => .inr ⟨a, b, xs, ys, e1, e2, s.tup ha, s.tup hb, fun i u v h1 h2 => EW.kp s (k i u v h1 h2)⟩
end L2
namespace L2
open PySem PySem.Spec PyProof.Rows
section
open PySem.W
noncomputable def oT {α : Type} (ans : Nat → Nat → Bool) (P : α → Prop) : KasT α → Prop
 | .ret a => P a
 | .ask i j k => oT ans P (k (ans i j))
theorem oT.bind {α β : Type} {ans : Nat → Nat → Bool} {P : α → Prop} {R : β → Prop} {f : α → KasT β} : ∀ {t : KasT α}, oT ans P t → (∀ a, P a → oT ans R (f a)) → oT ans R (t.bind f)
 | .ret a, h, hf => hf a h
 | .ask i j k, h, hf => oT.bind (t := k (ans i j)) h hf
theorem oT.mono {α : Type} {ans : Nat → Nat → Bool} {P R : α → Prop} (hf : ∀ a, P a → R a) : ∀ {t : KasT α}, oT ans P t → oT ans R t
 | .ret a, h => hf a h
 | .ask i j k, h => oT.mono hf (t := k (ans i j)) h
theorem oT.run {α : Type} {n : Nat} {ans : Nat → Nat → Bool} {P R : α → Prop} {cmp : Nat → Nat → (Bool → Shared → Prop) → Shared → Prop} {G : α → Shared → Prop} {s : Shared}
  (hc : ∀ i j (C : Bool → Shared → Prop), i < n → j < n → C (ans i j) s → cmp i j C s) (hg : ∀ a, P a → R a → G a s) : ∀ {t : KasT α}, Al n P t → oT ans R t → t.kasWp cmp G s
 | .ret a, h, h' => hg a h h'
 | .ask i j _, h, h' => hc i j _ h.1 h.2.1 (oT.run hc hg (h.2.2 _) h')
variable (O : KeyOrd) (key : Nat → O.α)
noncomputable def Ky (p : Array Nat) (i : Nat) : O.α := key (p.getD i 0)
noncomputable def lH (p : Array Nat) (k : Nat) : Prop := ∀ i j, i ≤ j → j < k → O.kle (Ky O key p i) (Ky O key p j)
noncomputable def jC (p : Array Nat) (k : Nat) : Prop := ∀ i j, i ≤ j → j < k → O.kle (Ky O key p j) (Ky O key p i)
noncomputable abbrev zY (i j : Nat) : Bool := O.blt (key i) (key j)
variable {O} {key}
theorem yN {p q : Array Nat} {i j : Nat} (h : p[i]? = q[j]?) : Ky O key p i = Ky O key q j := by
 unfold Ky
 rw [Array.getD_eq_getD_getElem?, Array.getD_eq_getD_getElem?, h]
theorem AL {p : Array Nat} {i j : Nat} (hj : j ≤ p.size) (k : Nat) : Ky O key (kas_rev p i j) k = if i ≤ k ∧ k < j then Ky O key p (i + j - 1 - k) else Ky O key p k := by
 have e := getElem?_mirror_all (xs := p) (i := i) hj k
 split
 ·rename_i h; rw [if_pos h] at e; exact yN e
 ·rename_i h; rw [if_neg h] at e; exact yN e
theorem iO (p : Array Nat) (i j : Nat) : (kas_rev p i j).size = p.size := mirror_size ..
theorem uU {p : Array Nat} {i j : Nat} (hj : j ≤ p.size) (he : ∀ k, i ≤ k → k < j → Ky O key p k = Ky O key p (j - 1)) (k : Nat) : Ky O key (kas_rev p i j) k = Ky O key p k := by
 rw [AL hj]
 split
 ·rename_i h; rw [he _ (by omega) (by omega), he k h.1 h.2]
 ·rfl
theorem lH.more {p : Array Nat} {x : Nat} (h : lH O key p x) (hx : 1 ≤ x) (hl : O.kle (Ky O key p (x - 1)) (Ky O key p x)) : lH O key p (x + 1) := by
 intro i j hij hj
 by_cases h1 : j < x
 ·exact h i j hij h1
 ·have e : j = x := by omega
  subst e
  by_cases h2 : i = j
  ·subst h2; exact KeyOrd.kle_refl _
  ·exact KeyOrd.kle_trans (h i (j - 1) (by omega) (by omega)) hl
theorem jC.more {p : Array Nat} {x : Nat} (h : jC O key p x) (hx : 1 ≤ x) (hl : O.kle (Ky O key p x) (Ky O key p (x - 1))) : jC O key p (x + 1) := by
 intro i j hij hj
 by_cases h1 : j < x
 ·exact h i j hij h1
 ·have e : j = x := by omega
  subst e
  by_cases h2 : i = j
  ·subst h2; exact KeyOrd.kle_refl _
  ·exact KeyOrd.kle_trans hl (h i (j - 1) (by omega) (by omega))
theorem EU {p : Array Nat} : ∀ (f m : Nat), 1 ≤ m → lH O key p m → oT (zY O key) (fun r => m ≤ r ∧ r ≤ m + f ∧ lH O key p r ∧ (r = m + f ∨ O.klt (Ky O key p r) (Ky O key p (r - 1)))) (kas_asc p f m)
 | 0, m, _, h => ⟨Nat.le_refl _, Nat.le_refl _, h, .inl rfl⟩
 | f + 1, m, h1, h => by
  show oT (zY O key) _ (if O.blt (Ky O key p m) (Ky O key p (m - 1)) = true then _ else _)
  cases e : O.blt (Ky O key p m) (Ky O key p (m - 1)) with
  | true =>
   rw [if_pos rfl]
   exact ⟨Nat.le_refl _, by omega, h, .inr e⟩
  | false =>
   rw [if_neg Bool.false_ne_true]
   refine (EU f (m + 1) (by omega) (h.more h1 e)).mono fun r ⟨a, b, c, d⟩ => ⟨by omega, by omega, c, ?_⟩
   rcases d with d | d
   ·exact .inl (by omega)
   ·exact .inr d
noncomputable def NI (O : KeyOrd) (key : Nat → O.α) (p : Array Nat) (m q : Nat) : Prop := q + 1 ≤ m ∧ ∀ i, m - (q + 1) ≤ i → i < m → Ky O key p i = Ky O key p (m - 1)
theorem NI.none {p : Array Nat} {m : Nat} (h : 1 ≤ m) : NI O key p m 0 := ⟨by omega, fun i h1 h2 => by rw [show i = m - 1 by omega]⟩
theorem wC : ∀ (f : Nat) (p : Array Nat) (m q : Nat), 1 ≤ m → m + f ≤ p.size → jC O key p m → NI O key p m q → oT (zY O key) (fun r : Array Nat × Nat × Nat => r.1.size = p.size ∧ m ≤ r.2.1 ∧ r.2.1 ≤ m + f ∧ jC O key r.1 r.2.1 ∧ NI O key r.1 r.2.1 r.2.2) (kas_desc f p m q)
 | 0, p, m, q, _, _, h, he => ⟨rfl, Nat.le_refl _, Nat.le_refl _, h, he⟩
 | f + 1, p, m, q, h1, hz, h, he => by
  show oT (zY O key) _ (if O.blt (Ky O key p m) (Ky O key p (m - 1)) = true then (if q > 0 then kas_desc f (kas_rev p (m - (q + 1)) m) (m + 1) 0 else kas_desc f p (m + 1) 0) else _)
  cases e : O.blt (Ky O key p m) (Ky O key p (m - 1)) with
  | true =>
   rw [if_pos rfl]
   have hd := h.more h1 (KeyOrd.kle_of_klt e)
   split
   ·have ev : ∀ k, Ky O key (kas_rev p (m - (q + 1)) m) k = Ky O key p k := uU (by omega) he.2
    have hd' : jC O key (kas_rev p (m - (q + 1)) m) (m + 1) := fun i j a b => by rw [ev, ev]; exact hd i j a b
    refine (wC f _ (m + 1) 0 (by omega) (by rw [iO]; omega) hd' (NI.none (by omega))).mono fun r ⟨a, b, c, d, z⟩ => ⟨by rw [a, iO], by omega, by omega, d, z⟩
   ·exact (wC f p (m + 1) 0 (by omega) (by omega) hd (NI.none (by omega))).mono fun r ⟨a, b, c, d, z⟩ => ⟨a, by omega, by omega, d, z⟩
  | false =>
   rw [if_neg Bool.false_ne_true]
   show oT (zY O key) _ (if O.blt (Ky O key p (m - 1)) (Ky O key p m) = true then _ else _)
   cases e2 : O.blt (Ky O key p (m - 1)) (Ky O key p m) with
   | true =>
    rw [if_pos rfl]
    exact ⟨rfl, Nat.le_refl _, Nat.le_add_right m (f + 1), h, he⟩
   | false =>
    rw [if_neg Bool.false_ne_true]
    have eq : Ky O key p m = Ky O key p (m - 1) := KeyOrd.kle_antisymm e2 e
    refine (wC f p (m + 1) (q + 1) (by omega) (by omega) (h.more h1 (by rw [eq]; exact KeyOrd.kle_refl _)) ⟨by have := he.1; omega, fun i a b => ?_⟩).mono fun r ⟨a, b, c, d, z⟩ => ⟨a, by omega, by omega, d, z⟩
    rw [show m + 1 - 1 = m by omega]
    by_cases hi : i = m
    ·rw [hi]
    ·rw [eq]; exact he.2 i (by omega) (by omega)
theorem A5 {p : Array Nat} {m k : Nat} (h1 : 1 ≤ m) (hk : m ≤ k) (hz : k ≤ p.size) (h : jC O key p m) : oT (zY O key) (fun r : Nat × Array Nat => 1 ≤ r.1 ∧ r.1 ≤ k ∧ r.2.size = p.size ∧ lH O key r.2 r.1) (kas_tail3 m k p) := by
 have hu : lH O key (kas_rev p 0 m) m := fun i j a b => by
  rw [AL (by omega), AL (by omega), if_pos (by omega), if_pos (by omega)]
  exact h _ _ (by omega) (by omega)
 exact (EU (k - m) m h1 hu).bind fun r ⟨a, b, c, _⟩ => ⟨by omega, by omega, iO .., c⟩
theorem r6 {p : Array Nat} {m k : Nat} (hk : m + 1 ≤ k) (hz : k ≤ p.size) (h : jC O key p (m + 1)) : oT (zY O key) (fun r : Nat × Array Nat => 1 ≤ r.1 ∧ r.1 ≤ k ∧ r.2.size = p.size ∧ lH O key r.2 r.1) (kas_descPart m k p) := by
 refine (wC (k - (m + 1)) p (m + 1) 0 (by omega) (by omega) h (NI.none (by omega))).bind fun r ⟨a, b, c, d, z⟩ => ?_
 split
 ·have ev : ∀ i, Ky O key (kas_rev r.1 (r.2.1 - (r.2.2 + 1)) r.2.1) i = Ky O key r.1 i := uU (by omega) z.2
  refine (A5 (p := kas_rev r.1 (r.2.1 - (r.2.2 + 1)) r.2.1) (by omega) (by omega) (by rw [iO]; omega) fun i j x y => ?_).mono fun r' ⟨x, y, w, v⟩ => ⟨x, y, by rw [w, iO, a], v⟩
  rw [ev, ev]; exact d i j x y
 ·exact (A5 (by omega) (by omega) (by omega) d).mono fun r' ⟨x, y, w, v⟩ => ⟨x, y, by rw [w, a], v⟩
theorem LM {p : Array Nat} {k : Nat} (h1 : 1 ≤ k) (hz : k ≤ p.size) : oT (zY O key) (fun r : Nat × Array Nat => 1 ≤ r.1 ∧ r.1 ≤ k ∧ r.2.size = p.size ∧ lH O key r.2 r.1) (kas_count k p) := by
 have u1 : lH O key p 1 := fun i j a b => by rw [show i = j by omega]; exact KeyOrd.kle_refl _
 refine (EU (k - 1) 1 (Nat.le_refl _) u1).bind fun m ⟨a, b, c, d⟩ => ?_
 by_cases hm : m = k
 ·rw [if_pos (by simpa using hm)]
  exact ⟨a, by omega, rfl, c⟩
 ·rw [if_neg (by simpa using hm)]
  have lt : O.klt (Ky O key p m) (Ky O key p (m - 1)) := d.resolve_left (by omega)
  by_cases h2 : m > 1
  ·rw [if_pos h2]
   show oT (zY O key) _ (if O.blt (Ky O key p 0) (Ky O key p (m - 1)) = true then _ else _)
   cases e : O.blt (Ky O key p 0) (Ky O key p (m - 1)) with
   | true =>
    rw [if_pos rfl]
    exact ⟨a, by omega, rfl, c⟩
   | false =>
    rw [if_neg Bool.false_ne_true]
    have al : ∀ i, 0 ≤ i → i < m → Ky O key p i = Ky O key p (m - 1) := fun i _ hi =>
     KeyOrd.kle_antisymm (c i (m - 1) (by omega) (by omega)) (KeyOrd.kle_trans e (c 0 i (by omega) hi))
    have ev : ∀ i, Ky O key (kas_rev p 0 m) i = Ky O key p i := uU (by omega) al
    have dm : jC O key p m := fun i j x y => by rw [al i (by omega) (by omega), al j (by omega) y]; exact KeyOrd.kle_refl _
    have dn := dm.more a (KeyOrd.kle_of_klt lt)
    refine (r6 (p := kas_rev p 0 m) (by omega) (by rw [iO]; omega) fun i j x y => ?_).mono fun r' ⟨x, y, w, v⟩ => ⟨x, y, by rw [w, iO], v⟩
    rw [ev, ev]; exact dn i j x y
  ·rw [if_neg h2]
   have e1 : m = 1 := by omega
   subst e1
   have d1 : jC O key p 1 := fun i j x y => by rw [show i = j by omega]; exact KeyOrd.kle_refl _
   exact r6 (by omega) hz (d1.more (Nat.le_refl _) (KeyOrd.kle_of_klt lt))
theorem vN {p : Array Nat} {k : Nat} (h : lH O key p k) : ∀ (f l r : Nat), l ≤ r → r ≤ k → r - l ≤ f → (∀ i, i < l → O.kle (Ky O key p i) (Ky O key p k)) → (∀ i, r ≤ i → i < k → O.klt (Ky O key p k) (Ky O key p i)) →
  oT (zY O key) (fun l => l ≤ k ∧ (∀ i, i < l → O.kle (Ky O key p i) (Ky O key p k)) ∧ ∀ i, l ≤ i → i < k → O.klt (Ky O key p k) (Ky O key p i)) (kas_place p k f l r)
 | 0, l, r, h1, h2, h3, ha, hb => by
  have e : l = r := by omega
  subst e
  exact ⟨h2, ha, hb⟩
 | f + 1, l, r, h1, h2, h3, ha, hb => by
  unfold kas_place
  split
  ·have e : l = r := by omega
   subst e
   exact ⟨h2, ha, hb⟩
  ·show oT (zY O key) _ (if O.blt (Ky O key p k) (Ky O key p ((l + r) / 2)) = true then _ else _)
   cases e : O.blt (Ky O key p k) (Ky O key p ((l + r) / 2)) with
   | true =>
    rw [if_pos rfl]
    exact vN h f l ((l + r) / 2) (by omega) (by omega) (by omega) ha fun i a b => KeyOrd.klt_of_klt_of_kle e (h _ _ a b)
   | false =>
    rw [if_neg Bool.false_ne_true]
    exact vN h f ((l + r) / 2 + 1) r (by omega) h2 (by omega) (fun i a => KeyOrd.kle_trans (h i ((l + r) / 2) (by omega) (by omega)) e) hb
theorem IP {p : Array Nat} {k d : Nat} (hk : k < p.size) (hd : d ≤ k) (i : Nat) : Ky O key (bubble p k d) i = if i = k - d then Ky O key p k else if k - d < i ∧ i ≤ k then Ky O key p (i - 1) else Ky O key p i := by
 have e := getElem?_bubble hk d hd i
 by_cases h1 : i = k - d
 ·rw [if_pos h1] at e ⊢; exact yN e
 ·rw [if_neg h1] at e ⊢
  by_cases h2 : k - d < i ∧ i ≤ k
  ·rw [if_pos h2] at e ⊢; exact yN e
  ·rw [if_neg h2] at e ⊢; exact yN e
theorem MT : ∀ (f : Nat) (p : Array Nat) (k : Nat), k + f ≤ p.size → lH O key p k → oT (zY O key) (fun q => lH O key q (k + f)) (kas_bin f p k)
 | 0, p, k, _, h => h
 | f + 1, p, k, hz, h => by
  refine (vN h k 0 k (by omega) (Nat.le_refl _) (by omega) (fun i hi => by omega) (fun i a b => by omega)).bind fun l ⟨hl, ha, hb⟩ => ?_
  have hu : lH O key (bubble p k (k - l)) (k + 1) := fun i j x y => by
   rw [IP (by omega) (by omega), IP (by omega) (by omega), show k - (k - l) = l by omega]
   by_cases j1 : j = l
   ·rw [if_pos j1]
    by_cases i1 : i = l
    ·rw [if_pos i1]; exact KeyOrd.kle_refl _
    ·rw [if_neg i1, if_neg (show ¬ (l < i ∧ i ≤ k) by omega)]; exact ha i (by omega)
   ·rw [if_neg j1]
    by_cases j2 : l < j
    ·rw [if_pos (show l < j ∧ j ≤ k from ⟨j2, by omega⟩)]
     by_cases i1 : i = l
     ·rw [if_pos i1]; exact KeyOrd.kle_of_klt (hb (j - 1) (by omega) (by omega))
     ·rw [if_neg i1]
      by_cases i2 : l < i
      ·rw [if_pos (show l < i ∧ i ≤ k from ⟨i2, by omega⟩)]; exact h _ _ (by omega) (by omega)
      ·rw [if_neg (show ¬ (l < i ∧ i ≤ k) by omega)]; exact h _ _ (by omega) (by omega)
    ·rw [if_neg (show ¬ (l < j ∧ j ≤ k) by omega), if_neg (show ¬ i = l by omega), if_neg (show ¬ (l < i ∧ i ≤ k) by omega)]; exact h _ _ x (by omega)
  have := MT f (bubble p k (k - l)) (k + 1) (by rw [bubble_size]; omega) hu
  rw [show k + 1 + f = k + (f + 1) by omega] at this
  exact this
theorem E2 {n : Nat} (h1 : 1 ≤ n) : oT (zY O key) (fun q => lH O key q n) (kas_sort n) := by
 have hs : (List.toArray (List.range n)).size = n := by simp
 refine (LM h1 (p := List.toArray (List.range n)) (by rw [hs]; exact Nat.le_refl _)).bind fun r ⟨a, b, c, d⟩ => ?_
 rw [hs] at c
 split
 ·have := MT (n - max r.1 1) r.2 (max r.1 1) (by omega) (by rw [show max r.1 1 = r.1 by omega]; exact d)
  rw [show max r.1 1 + (n - max r.1 1) = n by omega] at this
  exact this
 ·have e : r.1 = n := by omega
  rw [e] at d
  exact d
end
end L2
namespace L2
open PySem PySem.Spec PyProof.Rows
section
open PySem.W
variable {prog : Program} {w : World} {A : Around} {E : Value → Shared → Prop} {s : Shared}
theorem DE (vs : List Value) : (List.range vs.length).map (fun i => vs.getD i Value.none) = vs := by
 apply List.ext_getElem
 ·simp
 ·intro i a1 a2
  simp [List.getElem?_eq_getElem a2]
noncomputable def AI (prog : Program) (w : World) (A : Around) (vs : List Value) (R : Array Nat → Prop) (s : Shared) : Prop :=
 ∃ κ : SortKind, (∀ (Q : SortKind → Shared → Prop) (E : Value → Shared → Prop), Q κ s → wpAny (model prog w) A (keyKind' vs.toArray) Q E s) ∧
  ∀ G : Array Nat → Shared → Prop, (∀ p, nC vs.length p → R p → G p s) → (kas_sort vs.length).kasWp (kas_ask prog w A κ vs) G s
theorem uB {R : Array Nat → Prop} {a : Addr} {vs : List Value} {n : Nat} {P : PySem.Fin → Shared → Prop} (ho : s.heap.get? a = some (seqObj "list" vs.toArray n)) (h64 : vs.length < 64)
  (hk : 2 ≤ vs.length → ∀ h' : Heap, (∀ b o, b ≠ a → s.heap.get? b = some o → h'.get? b = some o) → AI prog w A vs R { s with heap := h' }) (hR : vs.length < 2 → R (List.range vs.length).toArray)
  (h : ∀ (out : Array Value) (p : Array Nat), nC vs.length p → R p → out.toList = p.toList.map (fun i => vs.getD i Value.none) → P (.done (.ret .none)) { s with heap := sortedHeap s.heap a vs out }) : wpAny (model prog w) A (Builtin.«list.sort» ⟨[.ref a], []⟩) P E s := by
 have la : a < s.heap.objs.size := Heap.lt_size ho
 have small : vs.length ≤ sizeLine := by rw [sizeLine_eq]; omega
 obtain ⟨e1, k1⟩ : ∃ e1, (s.heap.update a (Obj.mapSeq fun _ => (#[] : Array Value))).get? a = some (seqObj "list" #[] e1) := ⟨_, get?_update_seq ho fun _ => #[]⟩
 generalize hU : s.heap.update a (Obj.mapSeq fun _ => (#[] : Array Value)) = U at k1
 have zU : U.objs.size = s.heap.objs.size := by rw [← hU]; exact Heap.size_update ..
 have kp : ∀ b o, b ≠ a → s.heap.get? b = some o → ((U.push (seqObj "tuple" vs.toArray 0)).push (seqObj "list" #[] 0)).get? b = some o := fun b o nb gb => by
  refine Heap.get?_push_of_some _ (Heap.get?_push_of_some _ ?_)
  rw [← hU, Heap.get?_update_ne _ _ _ _ nb]; exact gb
 have k2 : ((U.push (seqObj "tuple" vs.toArray 0)).push (seqObj "list" #[] 0)).get? a = some (seqObj "list" #[] e1) := Heap.get?_push_of_some _ (Heap.get?_push_of_some _ k1)
 rw [list_sort_plain]
 refine wpAny_bind (listItems_at ho rfl (wpAny_bind (listUpdate_at ho rfl ?_ (by simpa using small) (Nat.zero_le _))))
 have k1' := k1
 rw [← hU] at k1'
 refine wpAny_bind (seqEpoch_at k1' rfl (wpAny_bind (wpAny_newTuple (wpAny_bind (wpAny_newList (wpAny_holding ?_) (Nat.zero_le _))) (by simpa using small))))
 rw [hU]
 show wpAny (model prog w) A _ P E { s with heap := (U.push (seqObj "tuple" vs.toArray 0)).push (seqObj "list" #[] 0) }
 have fin : ∀ (out : Array Value) (p : Array Nat), nC vs.length p → R p → out.toList = p.toList.map (fun i => vs.getD i Value.none) → P (.done (.ret .none)) { s with heap := ((U.push (seqObj "tuple" vs.toArray 0)).push (seqObj "list" #[] 0)).update a (Obj.mapSeq fun _ => out) } := fun out p h1 h2 h3 => by
  have := h out p h1 h2 h3
  unfold sortedHeap at this
  rw [hU] at this
  exact this
 dsimp only
 by_cases h2 : vs.toArray.size < 2
 ·rw [if_pos h2, if_pos h2]
  refine wpAny_bind (wpAny_pure ?_)
  rw [StateT.run_pure]
  refine wpAny_bind (wpAny_pure ?_)
  dsimp only
  have ev : ((vs.toArray.zip vs.toArray).map fun x => x.2).toList = vs := by simp [List.map_snd_zip]
  refine wpAny_bind (seqEpoch_at k2 rfl (wpAny_bind (listUpdate_at k2 rfl ?_ (Nat.zero_le _) ?_)))
  ·simp only [bne_self_eq_false, Bool.false_eq_true, if_false]
   exact wpAny_pure (fin _ (List.range vs.length).toArray (Array.Perm.refl _) (hR (by rw [List.size_toArray] at h2; exact h2)) (by rw [show (arrOf (SortSt.mk' general' (vs.toArray.zip vs.toArray) #[] 7 none)) = vs.toArray.zip vs.toArray from rfl, ev, List.toList_toArray, DE]))
  ·rw [← Array.length_toList, show (arrOf (SortSt.mk' general' (vs.toArray.zip vs.toArray) #[] 7 none)) = vs.toArray.zip vs.toArray from rfl, ev]; exact Nat.le_succ_of_le small
 ·rw [if_neg h2, if_neg h2]
  have l2 : 2 ≤ vs.length := by rw [List.size_toArray] at h2; omega
  obtain ⟨κ, kd, ak⟩ := hk l2 _ kp
  refine wpAny_bind (kd _ _ ?_)
  refine wpAny_bind (wpAny_mono (kat_run (ks := vs) (vs := vs) (Q := fun st' s' => s' = { s with heap := (U.push (seqObj "tuple" vs.toArray 0)).push (seqObj "list" #[] 0) } ∧ ∃ p : Array Nat, (nC vs.length p ∧ R p) ∧ arrOf st' = p.map (kas_item (vs.toArray.zip vs.toArray)) ∧ failedOf st' = none)
   (G := fun p s' => s' = { s with heap := (U.push (seqObj "tuple" vs.toArray 0)).push (seqObj "list" #[] 0) } ∧ nC vs.length p ∧ R p) rfl l2 h64 (fun p st' s' _ ar fl g => ⟨g.1, p, g.2, ar, fl⟩) (ak _ fun p h1 h2 => ⟨rfl, h1, h2⟩)) ?_ fun _ _ e => e)
  rintro ⟨⟨⟩, st'⟩ s' ⟨rfl, p, ⟨hp, hr⟩, ar, fl⟩
  dsimp only
  have out := kat_snds rfl ar
  have pm := hp.perm
  rw [out]
  refine wpAny_bind (seqEpoch_at k2 rfl (wpAny_bind (listUpdate_at k2 rfl ?_ (Nat.zero_le _) ?_)))
  ·rw [fl]
   simp only [bne_self_eq_false, Bool.false_eq_true, if_false]
   exact wpAny_pure (fin _ p hp hr (by simp))
  ·rw [List.size_toArray, pm.length_eq]; exact Nat.le_succ_of_le small
theorem xP {R : Array Nat → Prop} {l : Addr} {vs : List Value} {Q : Value → Shared → Prop} (hl : s.heap.IsList l vs.toArray) (h64 : vs.length < 64)
  (hk : 2 ≤ vs.length → ∀ h' : Heap, (∀ b o, s.heap.get? b = some o → h'.get? b = some o) → AI prog w A.in1.in1 vs R { s with heap := h' }) (hR : vs.length < 2 → R (List.range vs.length).toArray)
  (h : ∀ (out : Array Value) (p : Array Nat), nC vs.length p → R p → out.toList = p.toList.map (fun i => vs.getD i Value.none) → Q (.ref (s.heap.objs.size + 1)) { s with heap := sortedAll s.heap vs out }) : wpAny (model prog w) A (call (.builtin "sorted") [.ref l]) Q E s := by
 have small : vs.length ≤ sizeLine := by rw [sizeLine_eq]; omega
 refine Calls.call_function_entry kind_sorted plain_sorted entry_sorted (args_sorted1 _) ?_
 unfold Builtin.«sorted»
 refine wpAny_bind (m := checkCount "sorted" 1 1 _) (wpAny_pure (wpAny_bind (collect_list hl (wpAny_bind (wpAny_newList ?_ (by simpa using small))) (by simpa using small))))
 generalize hU : (s.heap.push (seqObj "list" #[] 0)).update s.heap.objs.size (Obj.mapSeq (· ++ vs.toArray)) = U
 have zU : U.objs.size = s.heap.objs.size + 1 := by rw [← hU, Heap.size_update]; exact size_push' ..
 have kU : ∀ b o, s.heap.get? b = some o → U.get? b = some o := fun b o gb => by
  rw [← hU, Heap.get?_update_ne _ _ _ _ (Nat.ne_of_lt (Heap.lt_size gb))]
  exact Heap.get?_push_of_some _ gb
 have at' : (U.push (seqObj "list" vs.toArray 0)).get? (s.heap.objs.size + 1) = some (seqObj "list" vs.toArray 0) := by rw [← zU]; exact Heap.get?_push_size _ rfl
 show wpAny _ _ _ _ _ { s with heap := U.push (seqObj "list" vs.toArray 0) }
 rw [zU]
 refine wpAny_bind (wpAny_holding (wpAny_call_entry slot_list_sort ⟨_, at', rfl⟩ entry_list_sort ?bd (args_list_sort _)))
 case bd =>
  refine uB at' h64 (fun l2 h' kp => hk l2 h' fun b o gb => kp b o (Nat.ne_of_lt (Nat.lt_succ_of_lt (Heap.lt_size gb))) (Heap.get?_push_of_some _ (kU b o gb))) hR fun out p p1 p2 p3 => ⟨_, rfl, wpAny_pure ⟨_, rfl, ?_⟩⟩
  have := h out p p1 p2 p3
  unfold sortedAll at this
  rw [hU] at this
  exact this
end
end L2
namespace L2
open PySem PySem.Spec PyProof.Rows
section
open PySem.W
variable {X : Cx} {pins : List (Addr × Obj)} {σ : St} {H : Hp} {s : Shared} {k : Nat}
theorem qW {ys : List V} {vs : List Value} (r : Vals ys vs) : ∀ ps : List Nat, (∀ i ∈ ps, i < vs.length) → Vals (ps.map fun i => ys.getD i .bJ) (ps.map fun i => vs.getD i Value.none)
 | [], _ => .nil
 | i :: ps, h => by
  have hlen := r.length
  have hi := h i List.mem_cons_self
  obtain ⟨x, hx, rx⟩ := r.get' (show vs[i]? = some vs[i] by simp)
  refine .cons ?_ (qW r ps fun j hj => h j (List.mem_cons_of_mem _ hj))
  dsimp only
  rw [List.getD_eq_getElem?_getD, hx, List.getD_eq_getElem?_getD, List.getElem?_eq_getElem hi]
  exact rx
end
end L2
namespace L2
open PySem PySem.Spec PyProof.Rows
noncomputable def yD : KeyOrd where
 α := Int
 blt a b := decide (a < b)
 irrefl a := decide_eq_false (by omega)
 trans a b c h1 h2 := decide_eq_true (by have := of_decide_eq_true h1; have := of_decide_eq_true h2; omega)
 negTrans a b c h := by
  have h := of_decide_eq_true h
  by_cases g : a < b
  ·exact .inl (decide_eq_true g)
  ·exact .inr (decide_eq_true (by omega))
 total a b h1 h2 := by have := of_decide_eq_false h1; have := of_decide_eq_false h2; omega
theorem vY {A : KeyOrd} {a b : A.α} (h : A.blt a b = true) : A.blt b a = false := KeyOrd.klt_asymm (O := A) h
theorem gQ {A : KeyOrd} (a b : A.α) : (A.blt a b = true ∧ A.blt b a = false) ∨ (A.blt b a = true ∧ A.blt a b = false) ∨ (a = b) := by
 cases h1 : A.blt a b with
 | true => exact .inl ⟨rfl, vY h1⟩
 | false =>
  cases h2 : A.blt b a with
  | true => exact .inr (.inl ⟨rfl, rfl⟩)
  | false => exact .inr (.inr (A.total a b h1 h2))
noncomputable def gX (A : KeyOrd) (a b : A.α) (r : Bool) : Bool := A.blt a b || (!A.blt b a && r)
theorem fW {A : KeyOrd} {a b : A.α} {r : Bool} (h : A.blt a b = true) : gX A a b r = true := by unfold gX; rw [h]; rfl
theorem jT {A : KeyOrd} {a b : A.α} {r : Bool} (h : A.blt b a = true) : gX A a b r = false := by unfold gX; rw [h, vY h]; rfl
theorem gM {A : KeyOrd} {a : A.α} {r : Bool} : gX A a a r = r := by unfold gX; rw [A.irrefl]; rfl
theorem pV {A : KeyOrd} {a b c : A.α} {r r' r'' : Bool} (hr : r = true → r' = true → r'' = true) (h1 : gX A a b r = true) (h2 : gX A b c r' = true) : gX A a c r'' = true := by
 rcases gQ (A := A) a b with ⟨x, _⟩ | ⟨x, _⟩ | x
 ·rcases gQ (A := A) b c with ⟨y, _⟩ | ⟨y, _⟩ | y
  ·exact fW (A.trans _ _ _ x y)
  ·rw [jT y] at h2; cases h2
  ·rw [← y]; exact fW x
 ·rw [jT x] at h1; cases h1
 ·subst x
  rw [gM] at h1
  rcases gQ (A := A) a c with ⟨y, _⟩ | ⟨y, _⟩ | y
  ·exact fW y
  ·rw [jT y] at h2; cases h2
  ·subst y
   rw [gM] at h2 ⊢
   exact hr h1 h2
theorem uP {A : KeyOrd} {a b c : A.α} {r r' r'' : Bool} (hr : r'' = true → r = true ∨ r' = true) (h : gX A a c r'' = true) : gX A a b r = true ∨ gX A b c r' = true := by
 rcases gQ (A := A) a b with ⟨x, _⟩ | ⟨x, _⟩ | x
 ·exact .inl (fW x)
 ·right
  rcases gQ (A := A) a c with ⟨y, _⟩ | ⟨y, _⟩ | y
  ·exact fW (A.trans _ _ _ x y)
  ·rw [jT y] at h; cases h
  ·rw [← y]; exact fW x
 ·subst x
  rcases gQ (A := A) a c with ⟨y, _⟩ | ⟨y, _⟩ | y
  ·exact .inr (fW y)
  ·rw [jT y] at h; cases h
  ·subst y
   rw [gM] at h ⊢
   rw [gM]
   exact hr h
theorem pN {A : KeyOrd} {a b : A.α} {r r' : Bool} (h1 : gX A a b r = false) (h2 : gX A b a r' = false) : a = b ∧ r = false ∧ r' = false := by
 rcases gQ (A := A) a b with ⟨x, _⟩ | ⟨x, _⟩ | x
 ·rw [fW x] at h1; cases h1
 ·rw [fW x] at h2; cases h2
 ·subst x
  rw [gM] at h1 h2
  exact ⟨rfl, h1, h2⟩
noncomputable def IZ (A B : KeyOrd) : KeyOrd where
 α := A.α × B.α
 blt x y := gX A x.1 y.1 (B.blt x.2 y.2)
 irrefl a := by rw [gM]; exact B.irrefl _
 trans a b c h1 h2 := pV (fun x y => B.trans _ _ _ x y) h1 h2
 negTrans a b c h := uP (fun x => B.negTrans _ b.2 _ x) h
 total a b h1 h2 := by
  obtain ⟨x, y, z⟩ := pN h1 h2
  exact Prod.ext x (B.total _ _ y z)
noncomputable def jN (A : KeyOrd) : List A.α → List A.α → Bool
 | [], [] => false
 | [], _ :: _ => true
 | _ :: _, [] => false
 | x :: xs, y :: ys => gX A x y (jN A xs ys)
theorem tY {A : KeyOrd} : ∀ xs : List A.α, jN A xs xs = false
 | [] => rfl
 | x :: xs => by unfold jN; rw [gM]; exact tY xs
theorem pQ {A : KeyOrd} : ∀ xs ys zs : List A.α, jN A xs ys = true → jN A ys zs = true → jN A xs zs = true
 | [], [], _, h, _ => by cases h
 | [], _ :: _, [], _, h => by cases h
 | [], _ :: _, _ :: _, _, _ => rfl
 | _ :: _, [], _, h, _ => by cases h
 | _ :: _, _ :: _, [], _, h => by cases h
 | x :: xs, y :: ys, z :: zs, h1, h2 => pV (pQ xs ys zs) h1 h2
theorem tJ {A : KeyOrd} : ∀ xs ys zs : List A.α, jN A xs zs = true → jN A xs ys = true ∨ jN A ys zs = true
 | [], [], zs, h => .inr h
 | [], _ :: _, _, _ => .inl rfl
 | _ :: _, _, [], h => by cases h
 | _ :: _, [], _ :: _, _ => .inr rfl
 | x :: xs, y :: ys, z :: zs, h => uP (tJ xs ys zs) h
theorem pJ {A : KeyOrd} : ∀ xs ys : List A.α, jN A xs ys = false → jN A ys xs = false → xs = ys
 | [], [], _, _ => rfl
 | [], _ :: _, h, _ => by cases h
 | _ :: _, [], _, h => by cases h
 | x :: xs, y :: ys, h1, h2 => by
  obtain ⟨a, b, c⟩ := pN h1 h2
  rw [a, pJ xs ys b c]
noncomputable def MK (A : KeyOrd) : KeyOrd := ⟨List A.α, jN A, tY, pQ, tJ, pJ⟩
noncomputable def U7 : KeyOrd := IZ strKind.toKeyOrd (IZ yD (IZ strKind.toKeyOrd (MK strKind.toKeyOrd)))
end L2
namespace L2
open PySem PySem.Spec PyProof.Rows
theorem CD {a b : Str} (h : a.cps.toList = b.cps.toList) : a = b := by
 cases a with
 | mk x =>
  cases b with
  | mk y => congr 1; exact Array.toList_inj.mp h
structure V6 (H : Hp) (v : V) (n : Str) (d : Int) (h : Str) (rs : List Str) : Prop where
 at' : ∃ a r, v = .ref a ∧ H a = some (.tup [.str n, .int d, .str h, .ref r]) ∧ H r = some (.tup (rs.map V.str))
section
variable {X : Cx} {pins : List (Addr × Obj)} {σ : St} {H : Hp} {s : Shared} {k : Nat}
end
noncomputable def D8 (H : Hp) (v : V) : U7.α := match kZ H v with
 | some [.str n, .int d, .str h, .ref r] => (n.cps.toList, d, h.cps.toList, ((kZ H (.ref r)).getD []).map fun z => match z with | .str x => x.cps.toList | _ => [])
 | _ => ([], (0 : Int), [], [])
end L2
namespace Mr
open PySem L2
inductive PV where
 | bJ | bl (b : Bool) | int (i : Int) | str (x : Str) | ty (n : String)
 | tup (xs : List PV) | lst (xs : List PV) | bW (kvs : List (Key × PV))
noncomputable abbrev aQ := Addr → Prop
noncomputable def bD (A B : aQ) : aQ := fun a => A a ∨ B a
noncomputable def one (l : Addr) : aQ := fun a => a = l
noncomputable def d6 : aQ := fun _ => False
structure WS where
 w : Nat → aQ
 old : aQ
instance : CoeFun WS (fun _ => Nat → aQ) := ⟨WS.w⟩
noncomputable def aw (W : WS) : aQ := fun a => ∃ i, W i a
noncomputable def TupAt (K : PySem.W.Frag) (H : Hp) (a : Addr) (xs : List V) : Prop := H a = some (.tup xs) ∨
  ∃ (o : Obj) (its : Array Value) (n : Nat), K.lookup a = some o ∧ o.cls = .type "tuple" ∧ o.data = .seq its n ∧ its.size ≤ sizeLine ∧ Vals xs its.toList
noncomputable def O8 (K : PySem.W.Frag) (a : Addr) (xs : List V) : Prop :=
  ∃ (o : Obj) (its : Array Value) (n : Nat), K.lookup a = some o ∧ o.cls = .type "list" ∧ o.dict = none ∧ o.data = .seq its n ∧ its.size ≤ sizeLine ∧ Vals xs its.toList
theorem TupAt.sq {K : PySem.W.Frag} {H : Hp} {a : Addr} {xs : List V} (h : TupAt K H a xs) : mB K H a xs := h.elim mB.of .inr
mutual
inductive Rep (K : PySem.W.Frag) (Z : aQ) (H : Hp) : PV → V → Prop
 | bJ : Rep K Z H .bJ .bJ
 | bl (b) : Rep K Z H (.bl b) (.bl b)
 | int (i) : Rep K Z H (.int i) (.int i)
 | str (x) : Rep K Z H (.str x) (.str x)
 | ty (n) : Rep K Z H (.ty n) (.ty n)
 | tup {a : Addr} {xs : List V} {ps : List PV} : TupAt K H a xs → bQ K Z H ps xs → Rep K Z H (.tup ps) (.ref a)
 | lst {a : Addr} {xs : List V} {ps : List PV} : Rd H a (.lst xs) → ¬ Z a → bQ K Z H ps xs → Rep K Z H (.lst ps) (.ref a)
 | bW {a : Addr} {ys : List (Key × V)} {kvs : List (Key × PV)} : Rd H a (.dK ys) → ¬ Z a → ys.map (·.1) = kvs.map (·.1) → bQ K Z H (kvs.map (·.2)) (ys.map (·.2)) → Rep K Z H (.bW kvs) (.ref a)
inductive bQ (K : PySem.W.Frag) (Z : aQ) (H : Hp) : List PV → List V → Prop
 | nil : bQ K Z H [] []
 | cons {p : PV} {v : V} {ps : List PV} {vs : List V} : Rep K Z H p v → bQ K Z H ps vs → bQ K Z H (p :: ps) (v :: vs)
end
structure eA (Z Z' : aQ) (H H' : Hp) : Prop where
 tup : ∀ a xs, H a = some (.tup xs) → H' a = some (.tup xs)
 obj : ∀ a o, H a = some o → ¬ Z a → H' a = some o ∧ ¬ Z' a
theorem eA.rd {Z Z' : aQ} {H H' : Hp} (k : eA Z Z' H H') {a : Addr} {o : HO} (h : Rd H a o) (n : ¬ Z a) : Rd H' a o ∧ ¬ Z' a := by
 rcases h with h | ⟨u, h⟩
 ·exact ⟨.inl (k.obj _ _ h n).1, (k.obj _ _ h n).2⟩
 ·exact ⟨.inr ⟨u, (k.obj _ _ h n).1⟩, (k.obj _ _ h n).2⟩
mutual
theorem Rep.aP {K : PySem.W.Frag} {Z Z' : aQ} {H H' : Hp} (k : eA Z Z' H H') : ∀ {p : PV} {v : V}, Rep K Z H p v → Rep K Z' H' p v
 | _, _, .bJ => .bJ
 | _, _, .bl b => .bl b
 | _, _, .int b => .int b
 | _, _, .str b => .str b
 | _, _, .ty b => .ty b
 | _, _, .tup h r => .tup (h.elim (fun h => .inl (k.tup _ _ h)) .inr) (bQ.aP k r)
 | _, _, .lst h n r => .lst (k.rd h n).1 (k.rd h n).2 (bQ.aP k r)
 | _, _, .bW h n e r => .bW (k.rd h n).1 (k.rd h n).2 e (bQ.aP k r)
theorem bQ.aP {K : PySem.W.Frag} {Z Z' : aQ} {H H' : Hp} (k : eA Z Z' H H') : ∀ {p : List PV} {v : List V}, bQ K Z H p v → bQ K Z' H' p v
 | _, _, .nil => .nil
 | _, _, .cons h r => .cons (Rep.aP k h) (bQ.aP k r)
end
theorem eA.same {Z : aQ} {H H' : Hp} (s : bN H H') : eA Z Z H H' := ⟨fun _ _ h => s _ _ h, fun _ _ h n => ⟨s _ _ h, n⟩⟩
theorem eA.less {Z Z' : aQ} {H : Hp} (h : ∀ a, Z' a → Z a) : eA Z Z' H H := ⟨fun _ _ h => h, fun _ _ e n => ⟨e, fun z => n (h _ z)⟩⟩
theorem eA.new {Z : aQ} {H H' : Hp} {l : Addr} (s : bN H H') (hl : H l = none) : eA Z (bD Z (one l)) H H' :=
 ⟨fun _ _ h => s _ _ h, fun a o h n => ⟨s _ _ h, fun z => z.elim n fun e => by rw [show a = l from e, hl] at h; cases h⟩⟩
theorem bQ.length {K : PySem.W.Frag} {Z : aQ} {H : Hp} : ∀ {ps : List PV} {vs : List V}, bQ K Z H ps vs → ps.length = vs.length
 | _, _, .nil => rfl
 | _, _, .cons _ r => by rw [List.length_cons, List.length_cons, bQ.length r]
theorem bQ.get {K : PySem.W.Frag} {Z : aQ} {H : Hp} : ∀ {ps : List PV} {vs : List V} {i : Nat} {p : PV}, bQ K Z H ps vs → ps[i]? = some p → ∃ v, vs[i]? = some v ∧ Rep K Z H p v
 | _, _, _, _, .nil, h => by simp at h
 | _, _, 0, _, .cons h _, e => by simp at e; subst e; exact ⟨_, rfl, h⟩
 | _, _, i + 1, _, .cons _ r, e => by
  obtain ⟨v, h1, h2⟩ := bQ.get (i := i) r (by simpa using e)
  exact ⟨v, by simpa using h1, h2⟩
theorem bQ.app {K : PySem.W.Frag} {Z : aQ} {H : Hp} : ∀ {ps qs : List PV} {vs ws : List V}, bQ K Z H ps vs → bQ K Z H qs ws → bQ K Z H (ps ++ qs) (vs ++ ws)
 | _, _, _, _, .nil, s => s
 | _, _, _, _, .cons h r, s => .cons h (bQ.app r s)
theorem bQ.drop {K : PySem.W.Frag} {Z : aQ} {H : Hp} : ∀ {ps : List PV} {vs : List V} (n : Nat), bQ K Z H ps vs → bQ K Z H (ps.drop n) (vs.drop n)
 | _, _, 0, h => h
 | _, _, _ + 1, .nil => .nil
 | _, _, n + 1, .cons _ r => bQ.drop n r
theorem bQ.take {K : PySem.W.Frag} {Z : aQ} {H : Hp} : ∀ {ps : List PV} {vs : List V} (n : Nat), bQ K Z H ps vs → bQ K Z H (ps.take n) (vs.take n)
 | _, _, 0, _ => .nil
 | _, _, _ + 1, .nil => .nil
 | _, _, n + 1, .cons h r => .cons h (bQ.take n r)
theorem bQ.set {K : PySem.W.Frag} {Z : aQ} {H : Hp} {p : PV} {v : V} (h : Rep K Z H p v) : ∀ {ps : List PV} {vs : List V} (n : Nat), bQ K Z H ps vs → bQ K Z H (ps.set n p) (vs.set n v)
 | _, _, _, .nil => .nil
 | _, _, 0, .cons _ r => .cons h r
 | _, _, n + 1, .cons q r => .cons q (bQ.set h n r)
noncomputable def LstAt (K : PySem.W.Frag) (H : Hp) (a : Addr) (xs : List V) : Prop := Rd H a (.lst xs) ∨ O8 K a xs
theorem LstAt.sq {K : PySem.W.Frag} {H : Hp} {a : Addr} {xs : List V} (h : LstAt K H a xs) : iZ K H a xs := h
inductive Red (K : PySem.W.Frag) (Z : aQ) (H : Hp) : PV → V → Prop
 | rep {p : PV} {v : V} : Rep K Z H p v → Red K Z H p v
 | lst {a : Addr} {xs : List V} {ps : List PV} : LstAt K H a xs → bQ K Z H ps xs → Red K Z H (.lst ps) (.ref a)
 | bW {a : Addr} {ys : List (Key × V)} {kvs : List (Key × PV)} : Rd H a (.dK ys) → ys.map (·.1) = kvs.map (·.1) → bQ K Z H (kvs.map (·.2)) (ys.map (·.2)) → Red K Z H (.bW kvs) (.ref a)
section
variable {K : PySem.W.Frag} {Z : aQ} {H : Hp} {v : V}
theorem Red.int {i : Int} (h : Red K Z H (.int i) v) : v = .int i := by cases h with | rep h => cases h; rfl
theorem Red.str {i : Str} (h : Red K Z H (.str i) v) : v = .str i := by cases h with | rep h => cases h; rfl
theorem Red.bl {i : Bool} (h : Red K Z H (.bl i) v) : v = .bl i := by cases h with | rep h => cases h; rfl
theorem Red.bJ (h : Red K Z H .bJ v) : v = .bJ := by cases h with | rep h => cases h; rfl
theorem Red.tup {ps : List PV} (h : Red K Z H (.tup ps) v) : ∃ a xs, v = .ref a ∧ TupAt K H a xs ∧ bQ K Z H ps xs := by
 cases h with | rep h => cases h with | tup h r => exact ⟨_, _, rfl, h, r⟩
theorem Red.p9 {ps : List PV} (h : Red K Z H (.lst ps) v) : ∃ a xs, v = .ref a ∧ LstAt K H a xs ∧ bQ K Z H ps xs := by
 cases h with
 | rep h => cases h with | lst h _ r => exact ⟨_, _, rfl, .inl h, r⟩
 | lst h r => exact ⟨_, _, rfl, h, r⟩
theorem Red.yC {kvs : List (Key × PV)} (h : Red K Z H (.bW kvs) v) : ∃ a ys, v = .ref a ∧ Rd H a (.dK ys) ∧ ys.map (·.1) = kvs.map (·.1) ∧ bQ K Z H (kvs.map (·.2)) (ys.map (·.2)) := by
 cases h with
 | rep h => cases h with | bW h _ e r => exact ⟨_, _, rfl, h, e, r⟩
 | bW h e r => exact ⟨_, _, rfl, h, e, r⟩
end
inductive Sl where
 | val (p : PV) | own (p : PV) | loc (p : PV) | bor (p : PV)
noncomputable def Sl.pv : Sl → PV
 | .val p => p | .own p => p | .loc p => p | .bor p => p
noncomputable def Sl.dR : Sl → Bool
 | .own _ => true | .loc _ => true | _ => false
noncomputable abbrev En := List (Option Sl)
inductive iI (K : PySem.W.Frag) (Z : aQ) (H : Hp) (a : Addr) : PV → Prop
 | lst {xs : List V} {ps : List PV} : H a = some (.lst xs) → bQ K Z H ps xs → iI K Z H a (.lst ps)
 | bW {ys : List (Key × V)} {kvs : List (Key × PV)} : H a = some (.dK ys) → ys.map (·.1) = kvs.map (·.1) → bQ K Z H (kvs.map (·.2)) (ys.map (·.2)) → iI K Z H a (.bW kvs)
theorem iI.red {K : PySem.W.Frag} {Z : aQ} {H : Hp} {a : Addr} {p : PV} (h : iI K Z H a p) : Red K Z H p (.ref a) := by
 cases h with
 | lst e r => exact .lst (.inl (.inl e)) r
 | bW e k r => exact .bW (.inl e) k r
theorem iI.rep {K : PySem.W.Frag} {Z : aQ} {H : Hp} {a : Addr} {p : PV} (h : iI K Z H a p) (n : ¬ Z a) : Rep K Z H p (.ref a) := by
 cases h with
 | lst e r => exact .lst (.inl e) n r
 | bW e k r => exact .bW (.inl e) n k r
theorem iI.there {K : PySem.W.Frag} {Z : aQ} {H : Hp} {a : Addr} {p : PV} (h : iI K Z H a p) : ∃ o, H a = some o ∧ ∀ xs, o ≠ .tup xs := by
 cases h with
 | lst e r => exact ⟨_, e, fun _ z => nomatch z⟩
 | bW e k r => exact ⟨_, e, fun _ z => nomatch z⟩
theorem iI.aP {K : PySem.W.Frag} {Z Z' : aQ} {H H' : Hp} {a : Addr} {p : PV} (k : eA Z Z' H H') (e : ∀ o, H a = some o → H' a = some o) (h : iI K Z H a p) : iI K Z' H' a p := by
 cases h with
 | lst h r => exact .lst (e _ h) (r.aP k)
 | bW h q r => exact .bW (e _ h) q (r.aP k)
inductive p7 (K : PySem.W.Frag) (Z : aQ) (W : WS) (L : aQ) (H : Hp) (a : Addr) : PV → Prop
 | lst {xs : List V} {ps : List PV} : Rd H a (.lst xs) → W.old a → ¬ aw W a → ¬ L a → bQ K Z H ps xs → p7 K Z W L H a (.lst ps)
 | fE {xs : List V} {ps : List PV} : O8 K a xs → bQ K Z H ps xs → p7 K Z W L H a (.lst ps)
 | bW {ys : List (Key × V)} {kvs : List (Key × PV)} : Rd H a (.dK ys) → W.old a → ¬ aw W a → ¬ L a → ys.map (·.1) = kvs.map (·.1) → bQ K Z H (kvs.map (·.2)) (ys.map (·.2)) → p7 K Z W L H a (.bW kvs)
theorem p7.red {K : PySem.W.Frag} {Z L : aQ} {W : WS} {H : Hp} {a : Addr} {p : PV} (h : p7 K Z W L H a p) : Red K Z H p (.ref a) := by
 cases h with
 | lst e _ _ _ r => exact .lst (.inl e) r
 | fE e r => exact .lst (.inr e) r
 | bW e _ _ _ k r => exact .bW e k r
noncomputable def i6 (K : PySem.W.Frag) (Z : aQ) (W : WS) (L : aQ) (H : Hp) (i : Nat) (v : V) : Sl → Prop
 | .val p => Rep K Z H p v
 | .own p => ∃ a, v = .ref a ∧ W i a ∧ iI K Z H a p
 | .loc p => ∃ a, v = .ref a ∧ L a ∧ iI K Z H a p
 | .bor p => ∃ a, v = .ref a ∧ p7 K Z W L H a p
theorem i6.red {K : PySem.W.Frag} {Z L : aQ} {W : WS} {H : Hp} {i : Nat} {v : V} {s : Sl} (h : i6 K Z W L H i v s) : Red K Z H s.pv v := by
 cases s with
 | val p => exact .rep h
 | own p => obtain ⟨a, rfl, _, c⟩ := h; exact c.red
 | loc p => obtain ⟨a, rfl, _, c⟩ := h; exact c.red
 | bor p => obtain ⟨a, rfl, c⟩ := h; exact c.red
structure aV (K : PySem.W.Frag) (Z : aQ) (W : WS) (L : aQ) (H : Hp) (σ : St) (e : En) : Prop where
 len : e.length = σ.length
 at' : ∀ (i : Nat) s, e[i]? = some (some s) → ∃ v, σ[i]? = some (some v) ∧ i6 K Z W L H i v s
 nE : ∀ (i j : Nat) s t, i ≠ j → e[i]? = some (some s) → e[j]? = some (some t) → s.dR = true → t.dR = true → σ[i]? ≠ σ[j]?
structure j7 (O M : aQ) (W : WS) (L : aQ) (H : Hp) : Prop where
 old : ∀ a, O a → H a ≠ none
 mo : ∀ a, M a → O a
 wm : ∀ i a, W i a → M a
 loc : ∀ a, L a → H a ≠ none ∧ ¬ O a
structure cO (W : WS) (L : aQ) (H H' : Hp) : Prop where
 obj : ∀ a o, H a = some o → ¬ aw W a → ¬ L a → H' a = some o
 tup : ∀ a xs, H a = some (.tup xs) → H' a = some (.tup xs)
 cZ : ∀ a, H a ≠ none → H' a ≠ none
theorem cO.refl {W : WS} {L : aQ} {H : Hp} : cO W L H H := ⟨fun _ _ h _ _ => h, fun _ _ h => h, fun _ h => h⟩
theorem cO.trans {W : WS} {L : aQ} {H H1 H2 : Hp} (a : cO W L H H1) (b : cO W L H1 H2) : cO W L H H2 := ⟨fun c o h n m => b.obj c o (a.obj c o h n m) n m, fun c o h => b.tup c o (a.tup c o h), fun c h => b.cZ c (a.cZ c h)⟩
theorem cO.same {W : WS} {L : aQ} {H H' : Hp} (s : bN H H') : cO W L H H' := ⟨fun _ _ h _ _ => s _ _ h, fun _ _ h => s _ _ h, fun a h => by
 cases e : H a with
 | none => exact absurd e h
 | some o => rw [s _ _ e]; exact fun z => nomatch z⟩
theorem j7.keep {O M L : aQ} {W : WS} {H H' : Hp} (o : j7 O M W L H) (d : ∀ a, H a ≠ none → H' a ≠ none) : j7 O M W L H' := ⟨fun a h => d a (o.old a h), o.mo, o.wm, fun a h => ⟨d a (o.loc a h).1, (o.loc a h).2⟩⟩
theorem cO.aP {O M L : aQ} {W : WS} {H H' : Hp} (o : j7 O M W L H) (k : cO W L H H') : eA (bD M L) (bD M L) H H' :=
 ⟨k.tup, fun a u h n => ⟨k.obj a u h (fun ⟨i, z⟩ => n (.inl (o.wm i a z))) fun z => n (.inr z), n⟩⟩
theorem aV.aP {K : PySem.W.Frag} {Z Z' L : aQ} {W : WS} {H H' : Hp} {σ : St} {e : En} (h : aV K Z W L H σ e) (k : eA Z Z' H H') (ow : ∀ a o, aw W a ∨ L a → H a = some o → H' a = some o) (bo : ∀ a o, H a = some o → ¬ aw W a → ¬ L a → H' a = some o) : aV K Z' W L H' σ e :=
 ⟨h.len, fun i s q => by
  obtain ⟨v, h1, h2⟩ := h.at' i s q
  refine ⟨v, h1, ?_⟩
  cases s with
  | val p => exact Rep.aP k h2
  | own p => obtain ⟨a, e, w, c⟩ := h2; exact ⟨a, e, w, c.aP k fun o q => ow a o (.inl ⟨_, w⟩) q⟩
  | loc p => obtain ⟨a, e, w, c⟩ := h2; exact ⟨a, e, w, c.aP k fun o q => ow a o (.inr w) q⟩
  | bor p =>
   obtain ⟨a, e, c⟩ := h2
   refine ⟨a, e, ?_⟩
   cases c with
   | lst e od n m r => exact .lst (e.elim (fun e => .inl (bo _ _ e n m)) fun ⟨u, e⟩ => .inr ⟨u, bo _ _ e n m⟩) od n m (r.aP k)
   | fE e r => exact .fE e (r.aP k)
   | bW e od n m kk r => exact .bW (e.elim (fun e => .inl (bo _ _ e n m)) fun ⟨u, e⟩ => .inr ⟨u, bo _ _ e n m⟩) od n m kk (r.aP k), h.nE⟩
theorem aV.same {K : PySem.W.Frag} {Z L : aQ} {W : WS} {H H' : Hp} {σ : St} {e : En} (h : aV K Z W L H σ e) (s : bN H H') : aV K Z W L H' σ e := h.aP (.same s) (fun a o _ q => s a o q) fun a o q _ _ => s a o q
noncomputable def FR (σ : St) (e : En) (a : Addr) : Prop := ∀ (i : Nat) s, e[i]? = some (some s) → s.dR = true → σ[i]? ≠ some (some (.ref a))
theorem Rd.ne {H : Hp} {a l : Addr} {o : HO} (h : Rd H a o) (hl : H l = none) : a ≠ l := by
 rintro rfl
 rcases h with h | ⟨_, h⟩ <;> (rw [hl] at h; cases h)
theorem aV.new {K : PySem.W.Frag} {M L : aQ} {W : WS} {H H' : Hp} {σ : St} {e : En} {l : Addr} (h : aV K (bD M L) W L H σ e) (s : bN H H') (hl : H l = none) : aV K (bD M (bD L (one l))) W (bD L (one l)) H' σ e ∧ FR σ e l := by
 have k : eA (bD M L) (bD M (bD L (one l))) H H' := ⟨fun _ _ h => s _ _ h, fun a o h n => ⟨s _ _ h, fun z => by
  rcases z with z | z | z
  ·exact n (.inl z)
  ·exact n (.inr z)
  ·rw [show a = l from z, hl] at h; cases h⟩⟩
 refine ⟨⟨h.len, fun i sl q => ?_, h.nE⟩, fun i sl q hm e => ?_⟩
 ·obtain ⟨v, h1, h2⟩ := h.at' i sl q
  refine ⟨v, h1, ?_⟩
  cases sl with
  | val p => exact Rep.aP k h2
  | own p => obtain ⟨a, e, w, c⟩ := h2; exact ⟨a, e, w, c.aP k fun o q => s _ _ q⟩
  | loc p => obtain ⟨a, e, w, c⟩ := h2; exact ⟨a, e, .inl w, c.aP k fun o q => s _ _ q⟩
  | bor p =>
   obtain ⟨a, e, c⟩ := h2
   refine ⟨a, e, ?_⟩
   cases c with
   | lst e od n m r => exact .lst (e.elim (fun e => .inl (s _ _ e)) fun ⟨u, e⟩ => .inr ⟨u, s _ _ e⟩) od n (fun z => z.elim m (Rd.ne e hl)) (r.aP k)
   | fE e r => exact .fE e (r.aP k)
   | bW e od n m kk r => exact .bW (e.elim (fun e => .inl (s _ _ e)) fun ⟨u, e⟩ => .inr ⟨u, s _ _ e⟩) od n (fun z => z.elim m (Rd.ne e hl)) kk (r.aP k)
 ·obtain ⟨v, h1, h2⟩ := h.at' i sl q
  rw [h1] at e
  cases e
  cases sl with
  | val p => cases hm
  | bor p => cases hm
  | own p => obtain ⟨a, e, w, c⟩ := h2; cases e; obtain ⟨o, e, _⟩ := c.there; rw [hl] at e; cases e
  | loc p => obtain ⟨a, e, w, c⟩ := h2; cases e; obtain ⟨o, e, _⟩ := c.there; rw [hl] at e; cases e
theorem aV.M3 {K : PySem.W.Frag} {M L : aQ} {W : WS} {H : Hp} {σ : St} {e : En} {l : Addr} (h : aV K (bD M (bD L (one l))) W (bD L (one l)) H σ e) (f : FR σ e l) : aV K (bD M L) W L H σ e := by
 have k : eA (bD M (bD L (one l))) (bD M L) H H := .less fun a z => z.elim .inl fun z => .inr (.inl z)
 refine ⟨h.len, fun i sl q => ?_, h.nE⟩
 obtain ⟨v, h1, h2⟩ := h.at' i sl q
 refine ⟨v, h1, ?_⟩
 cases sl with
 | val p => exact Rep.aP k h2
 | own p => obtain ⟨a, e, w, c⟩ := h2; exact ⟨a, e, w, c.aP k fun o q => q⟩
 | loc p =>
  obtain ⟨a, e, w, c⟩ := h2
  refine ⟨a, e, w.elim id fun z => ?_, c.aP k fun o q => q⟩
  exfalso
  have z : a = l := z
  subst z e
  exact f i _ q rfl h1
 | bor p =>
  obtain ⟨a, e, c⟩ := h2
  refine ⟨a, e, ?_⟩
  cases c with
  | lst e od n m r => exact .lst e od n (fun z => m (.inl z)) (r.aP k)
  | fE e r => exact .fE e (r.aP k)
  | bW e od n m kk r => exact .bW e od n (fun z => m (.inl z)) kk (r.aP k)
inductive Bv where
 | val (p : PV) | slot (i : Nat) | new (p : PV)
noncomputable def rd (e : En) (i : Nat) : Option PV := match e[i]? with
 | some (some s) => some s.pv
 | _ => none
noncomputable def Bv.get (e : En) : Bv → Option PV
 | .val p => some p
 | .new p => some p
 | .slot i => rd e i
noncomputable def Bv.weak : Bv → Bv
 | .new p => .val p
 | b => b
noncomputable def Bv.put : Bv → Option PV
 | .val p => some p
 | .new p => some p
 | .slot _ => none
noncomputable def RB (K : PySem.W.Frag) (O M : aQ) (W : WS) (L : aQ) (H : Hp) (σ : St) (e : En) (v : V) : Bv → Prop
 | .val p => aV K (bD M L) W L H σ e ∧ Rep K (bD M L) H p v
 | .slot i => aV K (bD M L) W L H σ e ∧ σ[i]? = some (some v)
 | .new p => ∃ a, v = .ref a ∧ ¬ O a ∧ ¬ L a ∧ aV K (bD M (bD L (one a))) W (bD L (one a)) H σ e ∧ FR σ e a ∧ iI K (bD M (bD L (one a))) H a p
theorem RB.weak {K : PySem.W.Frag} {O M L : aQ} {W : WS} {H : Hp} {σ : St} {e : En} {v : V} {b : Bv} (o : j7 O M W L H) (h : RB K O M W L H σ e v b) : RB K O M W L H σ e v b.weak := by
 cases b with
 | val p => exact h
 | slot i => exact h
 | new p =>
  obtain ⟨a, rfl, n1, n2, h1, hf, h2⟩ := h
  exact ⟨h1.M3 hf, (h2.aP (.less fun _ z => z.elim .inl fun z => .inr (.inl z)) fun _ q => q).rep fun z => z.elim (fun z => n1 (o.mo _ z)) n2⟩
theorem RB.en {K : PySem.W.Frag} {O M L : aQ} {W : WS} {H : Hp} {σ : St} {e : En} {v : V} {b : Bv} (o : j7 O M W L H) (h : RB K O M W L H σ e v b) : aV K (bD M L) W L H σ e := by
 cases b with
 | val p => exact h.1
 | slot i => exact h.1
 | new p => exact (RB.weak (b := .new p) o h).1
noncomputable def RV (K : PySem.W.Frag) (Z : aQ) (H : Hp) (σ : St) (v : V) : Bv → Prop
 | .val p => Rep K Z H p v
 | .slot i => σ[i]? = some (some v)
 | .new _ => False
theorem RB.rv {K : PySem.W.Frag} {O M L : aQ} {W : WS} {H : Hp} {σ : St} {e : En} {v : V} {b : Bv} (o : j7 O M W L H) (h : RB K O M W L H σ e v b) : RV K (bD M L) H σ v b.weak := by
 have h := h.weak o
 cases b with
 | val p => exact h.2
 | slot i => exact h.2
 | new p => exact h.2
theorem RV.keep {K : PySem.W.Frag} {O M L : aQ} {W : WS} {H H' : Hp} {σ : St} {v : V} {b : Bv} (o : j7 O M W L H) (k : cO W L H H') (h : RV K (bD M L) H σ v b) : RV K (bD M L) H' σ v b := by
 cases b with
 | val p => exact Rep.aP (k.aP o) h
 | slot i => exact h
 | new p => exact h
theorem aV.rd {K : PySem.W.Frag} {Z L : aQ} {W : WS} {H : Hp} {σ : St} {e : En} {i : Nat} {p : PV} {v : V} (h : aV K Z W L H σ e) (g : rd e i = some p) (hv : σ[i]? = some (some v)) : Red K Z H p v := by
 unfold Mr.rd at g
 cases q : e[i]? with
 | none => rw [q] at g; cases g
 | some s =>
  cases s with
  | none => rw [q] at g; cases g
  | some s =>
   rw [q] at g
   cases g
   obtain ⟨w, h1, h2⟩ := h.at' i s q
   rw [hv] at h1
   cases h1
   exact h2.red
theorem RV.red {K : PySem.W.Frag} {Z L : aQ} {W : WS} {H : Hp} {σ : St} {e : En} {v : V} {b : Bv} {p : PV} (h : RV K Z H σ v b) (he : aV K Z W L H σ e) (g : b.get e = some p) : Red K Z H p v := by
 cases b with
 | val q => cases g; exact .rep h
 | slot i => exact he.rd g h
 | new q => exact h.elim
noncomputable abbrev FE := En → Option (Bv × En)
noncomputable abbrev FT := En → Option (Bool × En)
noncomputable abbrev FA := En → Option (List Bv × En)
noncomputable def Fr (H : Hp) (v : V) : Bv → Prop
 | .new _ => ∀ a, v = .ref a → H a = none
 | _ => True
theorem Fr.back {H H1 : Hp} {v : V} {b : Bv} (d : ∀ a, H a ≠ none → H1 a ≠ none) (h : Fr H1 v b) : Fr H v b := by
 cases b with
 | val p => trivial
 | slot i => trivial
 | new p =>
  intro a e
  cases z : H a with
  | none => rfl
  | some o => exact absurd (h a e) (d a (by rw [z]; exact fun z => nomatch z))
noncomputable def Ref (K : PySem.W.Frag) (t : TE) (f : FE) : Prop := ∀ (O M : aQ) (W : WS) (L : aQ) (σ : St) (H : Hp) (e e' : En) (b : Bv) (Q : VK), j7 O M W L H → aV K (bD M L) W L H σ e → f e = some (b, e') →
 (∀ v H', cO W L H H' → RB K O M W L H' σ e' v b → Fr H v b → Q v H') → t σ H Q
noncomputable def j5 (K : PySem.W.Frag) (t : TT) (f : FT) : Prop := ∀ (O M : aQ) (W : WS) (L : aQ) (σ : St) (H : Hp) (e e' : En) (b : Bool) (Q : Bool → Hp → Prop), j7 O M W L H → aV K (bD M L) W L H σ e → f e = some (b, e') →
 (∀ H', cO W L H H' → aV K (bD M L) W L H' σ e' → Q b H') → t σ H Q
inductive xY (K : PySem.W.Frag) (Z : aQ) (H : Hp) (σ : St) : List Bv → List V → Prop
 | nil : xY K Z H σ [] []
 | cons {b : Bv} {v : V} {bs : List Bv} {vs : List V} : RV K Z H σ v b → xY K Z H σ bs vs → xY K Z H σ (b :: bs) (v :: vs)
noncomputable def qB (K : PySem.W.Frag) (t : TA) (f : FA) : Prop := ∀ (O M : aQ) (W : WS) (L : aQ) (σ : St) (H : Hp) (e e' : En) (bs : List Bv) (Q : List V → Hp → Prop), j7 O M W L H → aV K (bD M L) W L H σ e → f e = some (bs, e') →
 (∀ vs H', cO W L H H' → aV K (bD M L) W L H' σ e' → xY K (bD M L) H' σ bs vs → Q vs H') → t σ H Q
end Mr
namespace Mr
open PySem L2
noncomputable def bE {α β : Type} (r : Option (α × En)) (k : α → En → Option β) : Option β := match r with
 | some (a, e) => k a e
 | none => none
noncomputable def bO {α β : Type} (r : Option α) (k : α → Option β) : Option β := match r with
 | some a => k a
 | none => none
theorem aT {α β : Type} {r : Option (α × En)} {k : α → En → Option β} {b : β} (h : bE r k = some b) : ∃ a e, r = some (a, e) ∧ k a e = some b := by
 cases r with
 | none => cases h
 | some x => exact ⟨x.1, x.2, rfl, h⟩
theorem aL {α β : Type} {r : Option α} {k : α → Option β} {b : β} (h : bO r k = some b) : ∃ a, r = some a ∧ k a = some b := by
 cases r with
 | none => cases h
 | some x => exact ⟨x, rfl, h⟩
theorem zL {α β : Type} {a : α} {e : En} {k : α → En → Option β} : bE (some (a, e)) k = k a e := rfl
theorem sY {α β : Type} {a : α} {k : α → Option β} : bO (some a) k = k a := rfl
noncomputable def bB {β : Type} (c : Bool) (x y : β) : β := match c with | true => x | false => y
noncomputable def bI (c : Bool) {β : Type} (k : Option β) : Option β := match c with | true => k | false => none
theorem aS {c : Bool} {β : Type} {k : Option β} {b : β} (h : bI c k = some b) : c = true ∧ k = some b := by
 cases c with
 | false => cases h
 | true => exact ⟨rfl, h⟩
noncomputable def RN (K : PySem.W.Frag) (Z : aQ) (H H' : Hp) (v : V) : Bv → Prop
 | .val p => Rep K Z H' p v
 | .new p => ∃ a, v = .ref a ∧ H a = none ∧ iI K (bD Z (one a)) H' a p
 | .slot _ => False
theorem RN.rb {K : PySem.W.Frag} {O M L : aQ} {W : WS} {H H' : Hp} {σ : St} {e : En} {v : V} {b : Bv} (o : j7 O M W L H) (he : aV K (bD M L) W L H σ e) (s : bN H H') (h : RN K (bD M L) H H' v b) : RB K O M W L H' σ e v b := by
 cases b with
 | val p => exact ⟨he.same s, h⟩
 | slot i => exact h.elim
 | new p =>
  obtain ⟨a, rfl, n, c⟩ := h
  have w := he.new s n
  exact ⟨a, rfl, fun z => o.old a z n, fun z => (o.loc a z).1 n, w.1, w.2, c.aP (.less fun _ z => by rcases z with z | z | z; exact .inl (.inl z); exact .inl (.inr z); exact .inr z) fun _ q => q⟩
theorem RN.fr {K : PySem.W.Frag} {Z : aQ} {H0 H H' : Hp} {v : V} {b : Bv} (d : ∀ a, H0 a ≠ none → H a ≠ none) (h : RN K Z H H' v b) : Fr H0 v b := by
 refine Fr.back d ?_
 cases b with
 | val p => trivial
 | slot i => trivial
 | new p =>
  obtain ⟨a, rfl, n, c⟩ := h
  intro a' e
  cases e
  exact n
noncomputable def eT (K : PySem.W.Frag) (r : R2) (g : PV → PV → Option Bv) : Prop := ∀ (Z : aQ) (H : Hp) (x y : V) (p q : PV) (b : Bv) (Q : VK), Red K Z H p x → Red K Z H q y → g p q = some b → (∀ v H', bN H H' → RN K Z H H' v b → Q v H') → r x y H Q
noncomputable def S6 (K : PySem.W.Frag) (r : V → Hp → VK → Prop) (g : PV → Option Bv) : Prop := ∀ (Z : aQ) (H : Hp) (x : V) (p : PV) (b : Bv) (Q : VK), Red K Z H p x → g p = some b → (∀ v H', bN H H' → RN K Z H H' v b → Q v H') → r x H Q
inductive sW (K : PySem.W.Frag) (Z : aQ) (H : Hp) : List PV → List V → Prop
 | nil : sW K Z H [] []
 | cons {p : PV} {v : V} {ps : List PV} {vs : List V} : Red K Z H p v → sW K Z H ps vs → sW K Z H (p :: ps) (v :: vs)
noncomputable def jI (K : PySem.W.Frag) (r : List V → Hp → VK → Prop) (g : List PV → Option Bv) : Prop := ∀ (Z : aQ) (H : Hp) (vs : List V) (ps : List PV) (b : Bv) (Q : VK), sW K Z H ps vs → g ps = some b → (∀ v H', bN H H' → RN K Z H H' v b → Q v H') → r vs H Q
noncomputable def TF (K : PySem.W.Frag) (r : V → List V → Hp → VK → Prop) (g : PV → List PV → Option Bv) : Prop := ∀ (Z : aQ) (H : Hp) (x : V) (vs : List V) (p : PV) (ps : List PV) (b : Bv) (Q : VK), Red K Z H p x → sW K Z H ps vs → g p ps = some b → (∀ v H', bN H H' → RN K Z H H' v b → Q v H') → r x vs H Q
noncomputable def getL (e : En) : List Bv → Option (List PV)
 | [] => some []
 | b :: bs => bO (b.get e) fun p => bO (getL e bs) fun ps => some (p :: ps)
theorem xY.red {K : PySem.W.Frag} {Z L : aQ} {W : WS} {H : Hp} {σ : St} {e : En} (he : aV K Z W L H σ e) : ∀ {bs : List Bv} {vs : List V} {ps : List PV}, xY K Z H σ bs vs → getL e bs = some ps → sW K Z H ps vs
 | _, _, _, .nil, g => by cases g; exact .nil
 | _, _, _, .cons h r, g => by
  obtain ⟨p, g1, g⟩ := aL g
  obtain ⟨ps, g2, g⟩ := aL g
  cases g
  exact .cons (h.red he g1) (xY.red he r g2)
section
variable {K : PySem.W.Frag}
noncomputable def aE (i : Nat) : FE := fun e => match e[i]? with
 | some (some (.val p)) => some (.val p, e)
 | some (some _) => some (.slot i, e)
 | _ => none
theorem aB (i : Nat) : Ref K (wN i) (aE i) := by
 intro O M W L σ H e e' b Q o he hf q
 unfold aE at hf
 cases g : e[i]? with
 | none => rw [g] at hf; cases hf
 | some s =>
  cases s with
  | none => rw [g] at hf; cases hf
  | some s =>
   rw [g] at hf
   obtain ⟨v, h1, h2⟩ := he.at' i s g
   cases s with
   | val p => cases hf; exact ⟨v, h1, q v H .refl ⟨he, h2⟩ trivial⟩
   | own p => cases hf; exact ⟨v, h1, q v H .refl ⟨he, h1⟩ trivial⟩
   | loc p => cases hf; exact ⟨v, h1, q v H .refl ⟨he, h1⟩ trivial⟩
   | bor p => cases hf; exact ⟨v, h1, q v H .refl ⟨he, h1⟩ trivial⟩
noncomputable def fC (p : PV) : FE := fun e => some (.val p, e)
theorem BI {p : PV} {v : V} (h : ∀ Z H, Rep K Z H p v) : Ref K (tC v) (fC p) := by
 intro O M W L σ H e e' b Q o he hf q
 cases hf
 exact q v H .refl ⟨he, h _ _⟩ trivial
theorem aH (i : Int) : Ref K (tC (.int i)) (fC (.int i)) := BI fun _ _ => .int i
theorem eN (i : Str) : Ref K (tC (.str i)) (fC (.str i)) := BI fun _ _ => .str i
theorem pC (i : Bool) : Ref K (tC (.bl i)) (fC (.bl i)) := BI fun _ _ => .bl i
theorem kC : Ref K (tC .bJ) (fC .bJ) := BI fun _ _ => .bJ
noncomputable def bS (g : PV → PV → Option Bv) (fa fb : FE) : FE := fun e => bE (fa e) fun x e1 => bE (fb e1) fun y e2 => bO (x.weak.get e2) fun p => bO (y.weak.get e2) fun q => bO (g p q) fun b => some (b, e2)
theorem aI {r : R2} {g : PV → PV → Option Bv} {ta tb : TE} {fa fb : FE} (hg : eT K r g) (ha : Ref K ta fa) (hb : Ref K tb fb) : Ref K (TK r ta tb) (bS g fa fb) := by
 intro O M W L σ H e e' b Q o he hf q
 obtain ⟨x, e1, f1, hf⟩ := aT hf
 obtain ⟨y, e2, f2, hf⟩ := aT hf
 obtain ⟨p, g1, hf⟩ := aL hf
 obtain ⟨p', g2, hf⟩ := aL hf
 obtain ⟨c, g3, hf⟩ := aL hf
 cases hf
 refine ha O M W L σ H e e1 x _ o he f1 fun v1 H1 k1 r1 fr => ?_
 have o1 := o.keep k1.cZ
 refine hb O M W L σ H1 e1 _ y _ o1 (r1.en o1) f2 fun v2 H2 k2 r2 fr => ?_
 have o2 := o1.keep k2.cZ
 have en := r2.en o2
 refine hg _ H2 v1 v2 p p' _ Q (((r1.rv o1).keep o1 k2).red en g1) ((r2.rv o2).red en g2) g3 fun v H' s rn => ?_
 exact q v H' ((k1.trans k2).trans (.same s)) (rn.rb o2 en s) (rn.fr (k1.trans k2).cZ)
noncomputable def T8 (g : PV → Option Bv) (fa : FE) : FE := fun e => bE (fa e) fun x e1 => bO (x.weak.get e1) fun p => bO (g p) fun b => some (b, e1)
theorem HQ {r : V → Hp → VK → Prop} {g : PV → Option Bv} {ta : TE} {fa : FE} (hg : S6 K r g) (ha : Ref K ta fa) : Ref K (V5 r ta) (T8 g fa) := by
 intro O M W L σ H e e' b Q o he hf q
 obtain ⟨x, e1, f1, hf⟩ := aT hf
 obtain ⟨p, g1, hf⟩ := aL hf
 obtain ⟨c, g3, hf⟩ := aL hf
 cases hf
 refine ha O M W L σ H e _ x _ o he f1 fun v1 H1 k1 r1 fr => ?_
 have o1 := o.keep k1.cZ
 have en := r1.en o1
 refine hg _ H1 v1 p _ Q ((r1.rv o1).red en g1) g3 fun v H' s rn => ?_
 exact q v H' (k1.trans (.same s)) (rn.rb o1 en s) (rn.fr k1.cZ)
noncomputable def aN : FA := fun e => some ([], e)
noncomputable def aD (fa : FE) (fr : FA) : FA := fun e => bE (fa e) fun x e1 => bE (fr e1) fun xs e2 => some (x.weak :: xs, e2)
theorem aF : qB K u9 aN := by
 intro O M W L σ H e e' b Q o he hf q
 cases hf
 exact q [] H .refl he .nil
theorem aA {ta : TE} {tr : TA} {fa : FE} {fr : FA} (ha : Ref K ta fa) (hr : qB K tr fr) : qB K (oI ta tr) (aD fa fr) := by
 intro O M W L σ H e e' b Q o he hf q
 obtain ⟨x, e1, f1, hf⟩ := aT hf
 obtain ⟨xs, e2, f2, hf⟩ := aT hf
 cases hf
 refine ha O M W L σ H e e1 x _ o he f1 fun v1 H1 k1 r1 fr => ?_
 have o1 := o.keep k1.cZ
 refine hr O M W L σ H1 e1 _ xs _ o1 (r1.en o1) f2 fun vs H2 k2 en2 r2 => ?_
 exact q (v1 :: vs) H2 (k1.trans k2) en2 (.cons ((r1.rv o1).keep o1 k2) r2)
noncomputable def oU (g : List PV → Option Bv) (fa : FA) : FE := fun e => bE (fa e) fun xs e1 => bO (getL e1 xs) fun ps => bO (g ps) fun b => some (b, e1)
theorem dF {r : List V → Hp → VK → Prop} {g : List PV → Option Bv} {ta : TA} {fa : FA} (hg : jI K r g) (ha : qB K ta fa) : Ref K (SV r ta) (oU g fa) := by
 intro O M W L σ H e e' b Q o he hf q
 obtain ⟨x, e1, f1, hf⟩ := aT hf
 obtain ⟨p, g1, hf⟩ := aL hf
 obtain ⟨c, g3, hf⟩ := aL hf
 cases hf
 refine ha O M W L σ H e _ x _ o he f1 fun v1 H1 k1 en r1 => ?_
 have o1 := o.keep k1.cZ
 refine hg _ H1 v1 p _ Q (r1.red en g1) g3 fun v H' s rn => ?_
 exact q v H' (k1.trans (.same s)) (rn.rb o1 en s) (rn.fr k1.cZ)
noncomputable def VR (g : PV → List PV → Option Bv) (fo : FE) (fa : FA) : FE := fun e => bE (fo e) fun x e0 => match x with
 | .val (.str z) => bE (fa e0) fun xs e1 => bO (getL e1 xs) fun ps => bO (g (.str z) ps) fun b => some (b, e1)
 | _ => none
theorem RA {r : V → List V → Hp → VK → Prop} {g : PV → List PV → Option Bv} {to : TE} {ta : TA} {fo : FE} {fa : FA} (hg : TF K r g) (ho : Ref K to fo) (ha : qB K ta fa) : Ref K (SH K "str" r to ta) (VR g fo fa) := by
 intro O M W L σ H e e' b Q o he hf q
 obtain ⟨x, e0, f0, hf⟩ := aT hf
 cases x with
 | slot i => cases hf
 | new p => cases hf
 | val p =>
  cases p with
  | str z =>
   obtain ⟨xs, e1, f1, hf⟩ := aT hf
   obtain ⟨p, g1, hf⟩ := aL hf
   obtain ⟨c, g3, hf⟩ := aL hf
   cases hf
   refine ho O M W L σ H e e0 _ _ o he f0 fun v0 H0 k0 r0 fr => ?_
   have o0 := o.keep k0.cZ
   obtain ⟨en0, r0⟩ := r0
   cases r0
   refine ⟨rfl, ha O M W L σ H0 e0 _ xs _ o0 en0 f1 fun v1 H1 k1 en r1 => ?_⟩
   have o1 := o0.keep k1.cZ
   refine hg _ H1 (.str z) v1 (.str z) p _ Q (.rep (.str z)) (r1.red en g1) g3 fun v H' s rn => ?_
   exact q v H' ((k0.trans k1).trans (.same s)) (rn.rb o1 en s) (rn.fr (k0.trans k1).cZ)
  | _ => cases hf
noncomputable def putL : List Bv → Option (List PV)
 | [] => some []
 | b :: bs => bO b.put fun p => bO (putL bs) fun ps => some (p :: ps)
theorem xY.put {Z : aQ} {H : Hp} {σ : St} : ∀ {bs : List Bv} {vs : List V} {ps : List PV}, xY K Z H σ bs vs → putL bs = some ps → bQ K Z H ps vs
 | _, _, _, .nil, g => by cases g; exact .nil
 | b :: _, _, _, .cons h r, g => by
  obtain ⟨p, g1, g⟩ := aL g
  obtain ⟨ps, g2, g⟩ := aL g
  cases g
  cases b with
  | val p => cases g1; exact .cons h (xY.put r g2)
  | slot i => cases g1
  | new p => exact h.elim
theorem iX {n : Nat} (h : decide (n < 1000000) = true) : n < sizeLine := WB (by have := of_decide_eq_true h; omega)
noncomputable def dS (fa : FA) : FE := fun e => bE (fa e) fun xs e1 => bO (putL xs) fun ps => bI (decide (ps.length < 1000000)) (some (.val (.tup ps), e1))
theorem bX {ta : TA} {fa : FA} (ha : qB K ta fa) : Ref K (TR ta) (dS fa) := by
 intro O M W L σ H e e' b Q o he hf q
 obtain ⟨x, e1, f1, hf⟩ := aT hf
 obtain ⟨ps, g1, hf⟩ := aL hf
 obtain ⟨g2, hf⟩ := aS hf
 cases hf
 refine ha O M W L σ H e _ x _ o he f1 fun vs H1 k1 en r1 => ?_
 have rl := r1.put g1
 refine ⟨by rw [← rl.length]; exact Nat.le_of_lt (iX g2), fun p hp => ?_⟩
 have s : bN H1 (upd H1 p (.tup vs)) := bN.upd hp
 exact q _ _ (k1.trans (.same s)) ⟨en.same s, .tup (.inl bG) (rl.aP (.same s))⟩ trivial
noncomputable def fM (fa : FA) : FE := fun e => bE (fa e) fun xs e1 => bO (putL xs) fun ps => bI (decide (ps.length < 1000000)) (some (.new (.lst ps), e1))
theorem dG {ta : TA} {fa : FA} (ha : qB K ta fa) : Ref K (P7 ta) (fM fa) := by
 intro O M W L σ H e e' b Q o he hf q
 obtain ⟨x, e1, f1, hf⟩ := aT hf
 obtain ⟨ps, g1, hf⟩ := aL hf
 obtain ⟨g2, hf⟩ := aS hf
 cases hf
 refine ha O M W L σ H e _ x _ o he f1 fun vs H1 k1 en r1 => ?_
 have o1 := o.keep k1.cZ
 have rl := r1.put g1
 refine ⟨by rw [← rl.length]; exact Nat.le_of_lt (iX g2), fun p hp => ?_⟩
 have s : bN H1 (upd H1 p (.lst vs)) := bN.upd hp
 exact q _ _ (k1.trans (.same s)) ⟨p, rfl, fun z => o1.old p z hp, fun z => (o1.loc p z).1 hp, (en.new s hp).1, (en.new s hp).2, .lst bG (rl.aP ⟨fun _ _ h => s _ _ h, fun a o h n => ⟨s _ _ h, fun z => by
  rcases z with z | z | z
  ·exact n (.inl z)
  ·exact n (.inr z)
  ·rw [show a = p from z, hp] at h; cases h⟩⟩)⟩ (Fr.back (b := .new (.lst ps)) k1.cZ fun a e => by cases e; exact hp)
noncomputable def AX : FE := fun e => some (.new (.bW []), e)
theorem xU : Ref K zD AX := by
 intro O M W L σ H e e' b Q o he hf q
 cases hf
 intro p hp
 have s : bN H (upd H p (.dK [])) := bN.upd hp
 exact q _ _ (.same s) ⟨p, rfl, fun z => o.old p z hp, fun z => (o.loc p z).1 hp, (he.new s hp).1, (he.new s hp).2, .bW bG rfl .nil⟩ fun a e => by cases e; exact hp
noncomputable def cT (f : FE) : FT := fun e => bE (f e) fun b e1 => match b with
 | .val (.bl c) => some (c, e1)
 | _ => none
theorem bR {t : TE} {f : FE} (h : Ref K t f) : j5 K (MY t) (cT f) := by
 intro O M W L σ H e e' b Q o he hf q
 obtain ⟨x, e1, f1, hf⟩ := aT hf
 cases x with
 | slot i => cases hf
 | new p => cases hf
 | val p =>
  cases p with
  | bl c =>
   cases hf
   refine h O M W L σ H e _ _ _ o he f1 fun v1 H1 k1 r1 fr => ?_
   obtain ⟨en, r⟩ := r1
   cases r
   exact ⟨b, rfl, q H1 k1 en⟩
  | _ => cases hf
theorem G3 {t : TE} {f : FE} (h : Ref K t f) : j5 K (tB t) (cT f) := bR h
noncomputable def DJ (f g : FT) : FT := fun e => bE (f e) fun b e1 => bB b (g e1) (some (false, e1))
noncomputable def UX (f g : FT) : FT := fun e => bE (f e) fun b e1 => bB b (some (true, e1)) (g e1)
noncomputable def HX (f : FT) : FT := fun e => bE (f e) fun b e1 => some (!b, e1)
theorem qH {t u : TT} {f g : FT} (h : j5 K t f) (h2 : j5 K u g) : j5 K (TL t u) (DJ f g) := by
 intro O M W L σ H e e' b Q o he hf q
 obtain ⟨x, e1, f1, hf⟩ := aT hf
 refine h O M W L σ H e _ _ _ o he f1 fun H1 k1 en => ?_
 cases x with
 | true => rw [if_pos rfl]; exact h2 O M W L σ H1 e1 _ _ _ (o.keep k1.cZ) en hf fun H2 k2 en2 => q H2 (k1.trans k2) en2
 | false => cases hf; rw [if_neg Bool.false_ne_true]; exact q H1 k1 en
theorem QV {t u : TT} {f g : FT} (h : j5 K t f) (h2 : j5 K u g) : j5 K (WC t u) (UX f g) := by
 intro O M W L σ H e e' b Q o he hf q
 obtain ⟨x, e1, f1, hf⟩ := aT hf
 refine h O M W L σ H e _ _ _ o he f1 fun H1 k1 en => ?_
 cases x with
 | true => cases hf; rw [if_pos rfl]; exact q H1 k1 en
 | false => rw [if_neg Bool.false_ne_true]; exact h2 O M W L σ H1 e1 _ _ _ (o.keep k1.cZ) en hf fun H2 k2 en2 => q H2 (k1.trans k2) en2
theorem A4 {t : TT} {f : FT} (h : j5 K t f) : j5 K (T5 t) (HX f) := by
 intro O M W L σ H e e' b Q o he hf q
 obtain ⟨x, e1, f1, hf⟩ := aT hf
 cases hf
 exact h O M W L σ H e _ _ _ o he f1 fun H1 k1 en => q H1 k1 en
noncomputable def gC : FT := fun e => some (true, e)
theorem fU : j5 K MM gC := by
 intro O M W L σ H e e' b Q o he hf q
 cases hf
 exact q H .refl he
noncomputable def HK : Bv → Option Bool
 | .val (.bl c) => some c
 | _ => none
theorem CO {x : Bv} {c : Bool} (h : HK x = some c) : x = .val (.bl c) := by
 unfold HK at h
 split at h
 ·cases h; rfl
 ·cases h
noncomputable def NV (fa fb : FE) : FE := fun e => bE (fa e) fun b e1 => bO (HK b) fun c => bB c (some (.val (.bl true), e1)) (fb e1)
theorem LD {ta tb : TE} {fa fb : FE} (ha : Ref K ta fa) (hb : Ref K tb fb) : Ref K (S3 ta tb) (NV fa fb) := by
 intro O M W L σ H e e' b Q o he hf q
 obtain ⟨x, e1, f1, hf⟩ := aT hf
 obtain ⟨c, gc, hf⟩ := aL hf
 have ec := CO gc
 subst ec
 refine ha O M W L σ H e _ _ _ o he f1 fun v1 H1 k1 r1 fr => ?_
 obtain ⟨en, r⟩ := r1
 cases r
 refine ⟨c, rfl, ?_⟩
 cases c with
 | true => cases hf; rw [if_pos rfl]; exact q _ H1 k1 ⟨en, .bl _⟩ trivial
 | false => rw [if_neg Bool.false_ne_true]; exact hb O M W L σ H1 e1 _ _ _ (o.keep k1.cZ) en hf fun v2 H2 k2 r2 fr => q v2 H2 (k1.trans k2) r2 (fr.back k1.cZ)
noncomputable def KZ (fc : FT) (fa fb : FE) : FE := fun e => bE (fc e) fun b e1 => bB b (fa e1) (fb e1)
theorem vM {tc : TT} {ta tb : TE} {fc : FT} {fa fb : FE} (hc : j5 K tc fc) (ha : Ref K ta fa) (hb : Ref K tb fb) : Ref K (WE tc ta tb) (KZ fc fa fb) := by
 intro O M W L σ H e e' b Q o he hf q
 obtain ⟨x, e1, f1, hf⟩ := aT hf
 refine hc O M W L σ H e _ _ _ o he f1 fun H1 k1 en => ?_
 cases x with
 | true => rw [if_pos rfl]; exact ha O M W L σ H1 e1 _ _ _ (o.keep k1.cZ) en hf fun v2 H2 k2 r2 fr => q v2 H2 (k1.trans k2) r2 (fr.back k1.cZ)
 | false => rw [if_neg Bool.false_ne_true]; exact hb O M W L σ H1 e1 _ _ _ (o.keep k1.cZ) en hf fun v2 H2 k2 r2 fr => q v2 H2 (k1.trans k2) r2 (fr.back k1.cZ)
noncomputable abbrev FO := En → Option (Option Int × En)
noncomputable def J9 (K : PySem.W.Frag) (t : TO) (f : FO) : Prop := ∀ (O M : aQ) (W : WS) (L : aQ) (σ : St) (H : Hp) (e e' : En) (b : Option Int) (Q : Option Int → Hp → Prop), j7 O M W L H → aV K (bD M L) W L H σ e → f e = some (b, e') →
 (∀ H', cO W L H H' → aV K (bD M L) W L H' σ e' → Q b H') → t σ H Q
noncomputable def iJ : FO := fun e => some (none, e)
noncomputable def nY (f : FE) : FO := fun e => bE (f e) fun b e1 => match b with
 | .val (.int i) => some (some i, e1)
 | _ => none
theorem iU : J9 K B7 iJ := by
 intro O M W L σ H e e' b Q o he hf q
 cases hf
 exact q H .refl he
theorem lB {t : TE} {f : FE} (h : Ref K t f) : J9 K (MQ t) (nY f) := by
 intro O M W L σ H e e' b Q o he hf q
 obtain ⟨x, e1, f1, hf⟩ := aT hf
 cases x with
 | slot i => cases hf
 | new p => cases hf
 | val p =>
  cases p with
  | int c =>
   cases hf
   refine h O M W L σ H e _ _ _ o he f1 fun v1 H1 k1 r1 fr => ?_
   obtain ⟨en, r⟩ := r1
   cases r
   exact ⟨c, rfl, q H1 k1 en⟩
  | _ => cases hf
noncomputable def R6 (K : PySem.W.Frag) (r : V → Option Int → Option Int → Hp → VK → Prop) (g : PV → Option Int → Option Int → Option Bv) : Prop := ∀ (Z : aQ) (H : Hp) (x : V) (p : PV) (lo hi : Option Int) (b : Bv) (Q : VK), Red K Z H p x → g p lo hi = some b → (∀ v H', bN H H' → RN K Z H H' v b → Q v H') → r x lo hi H Q
noncomputable def LK (g : PV → Option Int → Option Int → Option Bv) (fa : FE) (fl fh : FO) : FE := fun e => bE (fa e) fun x e1 => bE (fl e1) fun lo e2 => bE (fh e2) fun hi e3 => bO (x.weak.get e3) fun p => bO (g p lo hi) fun b => some (b, e3)
theorem rD {r : V → Option Int → Option Int → Hp → VK → Prop} {g : PV → Option Int → Option Int → Option Bv} {ta : TE} {tl th : TO} {fa : FE} {fl fh : FO} (hg : R6 K r g) (ha : Ref K ta fa) (hl : J9 K tl fl) (hh : J9 K th fh) : Ref K (WD r ta tl th) (LK g fa fl fh) := by
 intro O M W L σ H e e' b Q o he hf q
 obtain ⟨x, e1, f1, hf⟩ := aT hf
 obtain ⟨lo, e2, f2, hf⟩ := aT hf
 obtain ⟨hi, e3, f3, hf⟩ := aT hf
 obtain ⟨p, g1, hf⟩ := aL hf
 obtain ⟨c, g3, hf⟩ := aL hf
 cases hf
 refine ha O M W L σ H e e1 x _ o he f1 fun v1 H1 k1 r1 fr => ?_
 have o1 := o.keep k1.cZ
 refine hl O M W L σ H1 e1 e2 lo _ o1 (r1.en o1) f2 fun H2 k2 en2 => ?_
 have o2 := o1.keep k2.cZ
 refine hh O M W L σ H2 e2 _ hi _ o2 en2 f3 fun H3 k3 en3 => ?_
 have o3 := o2.keep k3.cZ
 refine hg _ H3 v1 p lo hi _ Q ((((r1.rv o1).keep o1 k2).keep o2 k3).red en3 g1) g3 fun v H' s rn => ?_
 exact q v H' (((k1.trans k2).trans k3).trans (.same s)) (rn.rb o3 en3 s) (rn.fr ((k1.trans k2).trans k3).cZ)
end
end Mr
namespace Mr
open PySem L2
inductive Out where
 | nx (e : En) | rt (b : Bv) (e : En) | bk (e : En) | ct (e : En)
noncomputable abbrev FS := En → Option Out
structure lX (W : WS) (L L' : aQ) (H H' : Hp) : Prop where
 obj : ∀ a o, H a = some o → ¬ aw W a → ¬ L a → H' a = some o
 tup : ∀ a xs, H a = some (.tup xs) → H' a = some (.tup xs)
 cZ : ∀ a, H a ≠ none → H' a ≠ none
 new : ∀ a, L' a → L a ∨ H a = none
theorem lX.refl {W : WS} {L : aQ} {H : Hp} : lX W L L H H := ⟨fun _ _ h _ _ => h, fun _ _ h => h, fun _ h => h, fun _ h => .inl h⟩
theorem lX.keep {W : WS} {L : aQ} {H H' : Hp} (k : cO W L H H') : lX W L L H H' := ⟨k.obj, k.tup, k.cZ, fun _ h => .inl h⟩
theorem lX.trans {W : WS} {L L1 L2 : aQ} {H H1 H2 : Hp} (a : lX W L L1 H H1) (b : lX W L1 L2 H1 H2) : lX W L L2 H H2 :=
 ⟨fun c o h n m => b.obj c o (a.obj c o h n m) n fun z => (a.new c z).elim m fun z => (by rw [h] at z; cases z), fun c xs h => b.tup c xs (a.tup c xs h), fun c h => b.cZ c (a.cZ c h), fun c h => by
  rcases b.new c h with z | z
  ·exact a.new c z
  ·refine .inr ?_
   cases e : H c with
   | none => rfl
   | some o => exact absurd z (a.cZ c (by rw [e]; exact fun z => nomatch z))⟩
noncomputable def KQ (K : PySem.W.Frag) (O M : aQ) (W : WS) (L : aQ) (H : Hp) (D : Ends) : Out → Prop
 | .nx e' => ∀ L' σ' H', lX W L L' H H' → j7 O M W L' H' → aV K (bD M L') W L' H' σ' e' → D.nx σ' H'
 | .bk e' => ∀ L' σ' H', lX W L L' H H' → j7 O M W L' H' → aV K (bD M L') W L' H' σ' e' → D.bk σ' H'
 | .ct e' => ∀ L' σ' H', lX W L L' H H' → j7 O M W L' H' → aV K (bD M L') W L' H' σ' e' → D.ct σ' H'
 | .rt b e' => ∀ L' σ' H' v, lX W L L' H H' → j7 O M W L' H' → RB K O M W L' H' σ' e' v b → D.rt v H'
theorem KQ.later {K : PySem.W.Frag} {O M : aQ} {W : WS} {L L1 : aQ} {H H1 : Hp} {D : Ends} {r : Out} (g : lX W L L1 H H1) (h : KQ K O M W L H D r) : KQ K O M W L1 H1 D r := by
 cases r with
 | nx e => exact fun L' σ' H' g' => h L' σ' H' (g.trans g')
 | bk e => exact fun L' σ' H' g' => h L' σ' H' (g.trans g')
 | ct e => exact fun L' σ' H' g' => h L' σ' H' (g.trans g')
 | rt b e => exact fun L' σ' H' v g' => h L' σ' H' v (g.trans g')
noncomputable def kI (K : PySem.W.Frag) (t : TS) (f : FS) : Prop := ∀ (O M : aQ) (W : WS) (L : aQ) (σ : St) (H : Hp) (e : En) (r : Out) (D : Ends), j7 O M W L H → aV K (bD M L) W L H σ e → f e = some r → KQ K O M W L H D r → t D σ H
section
variable {K : PySem.W.Frag}
noncomputable def gE : FS := fun e => some (.nx e)
theorem dC : kI K HL gE := by
 intro O M W L σ H e r D o he hf q
 cases hf
 exact q L σ H .refl o he
noncomputable def bK (f g : FS) : FS := fun e => match f e with
 | some (.nx e1) => g e1
 | r => r
theorem aR {t u : TS} {f g : FS} (h1 : kI K t f) (h2 : kI K u g) : kI K (KG t u) (bK f g) := by
 intro O M W L σ H e r D o he hf q
 unfold bK at hf
 cases c : f e with
 | none => rw [c] at hf; cases hf
 | some r1 =>
  rw [c] at hf
  cases r1 with
  | nx e1 => exact h1 O M W L σ H e _ _ o he c fun L' σ' H' g' o' he' => h2 O M W L' σ' H' e1 r D o' he' hf (q.later g')
  | rt b e1 => cases hf; exact h1 O M W L σ H e _ _ o he c q
  | bk e1 => cases hf; exact h1 O M W L σ H e _ _ o he c q
  | ct e1 => cases hf; exact h1 O M W L σ H e _ _ o he c q
noncomputable def fG (f : FE) : FS := fun e => bE (f e) fun b e1 => some (.rt b e1)
theorem cE {t : TE} {f : FE} (h : Ref K t f) : kI K (NX t) (fG f) := by
 intro O M W L σ H e r D o he hf q
 obtain ⟨x, e1, f1, hf⟩ := aT hf
 cases hf
 exact h O M W L σ H e _ _ _ o he f1 fun v H' k rb fr => q L σ H' v (.keep k) (o.keep k.cZ) rb
noncomputable def t7 (fc : FT) (f g : FS) : FS := fun e => bE (fc e) fun b e1 => bB b (f e1) (g e1)
theorem eB {c : TT} {t u : TS} {fc : FT} {f g : FS} (hc : j5 K c fc) (h1 : kI K t f) (h2 : kI K u g) : kI K (Q2 c t u) (t7 fc f g) := by
 intro O M W L σ H e r D o he hf q
 obtain ⟨x, e1, f1, hf⟩ := aT hf
 refine hc O M W L σ H e _ _ _ o he f1 fun H1 k1 en => ?_
 cases x with
 | true => rw [if_pos rfl]; exact h1 O M W L σ H1 e1 r D (o.keep k1.cZ) en hf (q.later (.keep k1))
 | false => rw [if_neg Bool.false_ne_true]; exact h2 O M W L σ H1 e1 r D (o.keep k1.cZ) en hf (q.later (.keep k1))
theorem hW {α : Type} {l : List α} {i j : Nat} {x y : α} (h : (l.set i x)[j]? = some y) : (i = j ∧ i < l.length ∧ x = y) ∨ (i ≠ j ∧ l[j]? = some y) := by
 by_cases e : i = j
 ·subst e
  have hl : i < l.length := by
   have := (List.getElem?_eq_some_iff.mp h).1
   simpa using this
  rw [List.getElem?_set_self hl] at h
  exact .inl ⟨rfl, hl, Option.some.inj h⟩
 ·rw [List.getElem?_set_ne e] at h
  exact .inr ⟨e, h⟩
theorem aV.put {Z L : aQ} {W : WS} {H : Hp} {σ : St} {e : En} {i : Nat} {s : Sl} {v : V} (h : aV K Z W L H σ e) (hm : s.dR = false) (hs : i6 K Z W L H i v s) : aV K Z W L H (σ.set i (some v)) (e.set i (some s)) := by
 refine ⟨by rw [List.length_set, List.length_set]; exact h.len, fun j t q => ?_, fun j k s1 s2 hjk q1 q2 m1 m2 => ?_⟩
 ·rcases hW q with ⟨rfl, hl, e⟩ | ⟨hn, q⟩
  ·cases e
   exact ⟨v, by rw [List.getElem?_set_self (by rw [← h.len]; exact hl)], hs⟩
  ·rw [List.getElem?_set_ne hn]
   exact h.at' j t q
 ·rcases hW q1 with ⟨rfl, hl, e⟩ | ⟨hn1, q1⟩
  ·cases e; rw [hm] at m1; cases m1
  ·rcases hW q2 with ⟨rfl, hl, e⟩ | ⟨hn2, q2⟩
   ·cases e; rw [hm] at m2; cases m2
   ·rw [List.getElem?_set_ne hn1, List.getElem?_set_ne hn2]
    exact h.nE j k s1 s2 hjk q1 q2 m1 m2
theorem aV.putL {M L : aQ} {W : WS} {H : Hp} {σ : St} {e : En} {i : Nat} {p : PV} {a : Addr} (h : aV K (bD M (bD L (one a))) W (bD L (one a)) H σ e) (hf : FR σ e a) (hc : iI K (bD M (bD L (one a))) H a p) :
  aV K (bD M (bD L (one a))) W (bD L (one a)) H (σ.set i (some (.ref a))) (e.set i (some (.loc p))) := by
 refine ⟨by rw [List.length_set, List.length_set]; exact h.len, fun j t q => ?_, fun j k s1 s2 hjk q1 q2 m1 m2 => ?_⟩
 ·rcases hW q with ⟨rfl, hl, e⟩ | ⟨hn, q⟩
  ·cases e
   exact ⟨_, by rw [List.getElem?_set_self (by rw [← h.len]; exact hl)], a, rfl, .inr rfl, hc⟩
  ·rw [List.getElem?_set_ne hn]
   exact h.at' j t q
 ·rcases hW q1 with ⟨rfl, hl, e⟩ | ⟨hn1, q1⟩
  ·rcases hW q2 with ⟨rfl, hl, e⟩ | ⟨hn2, q2⟩
   ·exact absurd rfl hjk
   ·rw [List.getElem?_set_ne hn2, List.getElem?_set_self (by rw [← h.len]; exact hl)]
    exact fun z => hf k s2 q2 m2 z.symm
  ·rcases hW q2 with ⟨rfl, hl, e⟩ | ⟨hn2, q2⟩
   ·rw [List.getElem?_set_ne hn1, List.getElem?_set_self (by rw [← h.len]; exact hl)]
    exact fun z => hf j s1 q1 m1 z
   ·rw [List.getElem?_set_ne hn1, List.getElem?_set_ne hn2]
    exact h.nE j k s1 s2 hjk q1 q2 m1 m2
noncomputable def cH (i : Nat) (f : FE) : FS := fun e => bE (f e) fun b e1 => match b with
 | .val p => some (.nx (e1.set i (some (.val p))))
 | .new p => some (.nx (e1.set i (some (.val p))))
 | .slot j => match e1[j]? with
  | some (some (.bor p)) => some (.nx (e1.set i (some (.bor p))))
  | _ => none
theorem bF {i : Nat} {t : TE} {f : FE} (h : Ref K t f) : kI K (u5 t (nJ i)) (cH i f) := by
 intro O M W L σ H e r D o he hf q
 obtain ⟨x, e1, f1, hf⟩ := aT hf
 refine h O M W L σ H e _ _ _ o he f1 fun v H' k rb fr => ?_
 have o1 := o.keep k.cZ
 cases x with
 | val p => cases hf; exact q L _ H' (.keep k) o1 (aV.put rb.1 rfl rb.2)
 | new p => cases hf; have rb := rb.weak o1; exact q L _ H' (.keep k) o1 (aV.put (s := .val p) rb.1 rfl rb.2)
 | slot j =>
  dsimp only at hf
  cases c : e1[j]? with
  | none => rw [c] at hf; cases hf
  | some s =>
   cases s with
   | none => rw [c] at hf; cases hf
   | some s =>
    rw [c] at hf
    cases s with
    | bor p =>
     cases hf
     obtain ⟨u, h1, h2⟩ := rb.1.at' j _ c
     rw [rb.2] at h1
     cases h1
     exact q L _ H' (.keep k) o1 (aV.put (s := .bor p) rb.1 rfl h2)
    | _ => cases hf
noncomputable def mH (i : Nat) (f : FE) : FS := fun e => bE (f e) fun b e1 => match b with
 | .new p => some (.nx (e1.set i (some (.loc p))))
 | _ => none
theorem iM {i : Nat} {t : TE} {f : FE} (h : Ref K t f) : kI K (u5 t (nJ i)) (mH i f) := by
 intro O M W L σ H e r D o he hf q
 obtain ⟨x, e1, f1, hf⟩ := aT hf
 cases x with
 | val p => cases hf
 | slot j => cases hf
 | new p =>
  cases hf
  refine h O M W L σ H e _ _ _ o he f1 fun v H' k rb fr => ?_
  obtain ⟨a, rfl, nO, nL, en, fe, c⟩ := rb
  obtain ⟨ob, hob, _⟩ := c.there
  have o1 := o.keep k.cZ
  have new : H a = none := fr a rfl
  exact q (bD L (one a)) _ H' ⟨k.obj, k.tup, k.cZ, fun b z => z.elim .inl fun z => .inr (by rw [show b = a from z]; exact new)⟩ ⟨o1.old, o1.mo, o1.wm, fun b z => z.elim (o1.loc b) fun z => (by rw [show b = a from z]; exact ⟨(by rw [hob]; exact fun z => nomatch z), nO⟩)⟩ (aV.putL en fe c)
noncomputable def rel (i : Nat) (e : En) : Option En := match e[i]? with
 | some (some (.loc p)) => some (e.set i (some (.val p)))
 | some (some (.val p)) => some e
 | _ => none
noncomputable def dA (e : En) (i : Nat) (p : PV) : En := match e[i]? with
 | some (some (.own _)) => e.set i (some (.own p))
 | _ => e.set i (some (.loc p))
noncomputable def ownAt (e : En) (i : Nat) : Option PV := match e[i]? with
 | some (some (.own p)) => some p
 | some (some (.loc p)) => some p
 | _ => none
theorem cC {e : En} {i : Nat} {p : PV} (h : ownAt e i = some p) : (e[i]? = some (some (.own p)) ∨ e[i]? = some (some (.loc p))) := by
 unfold ownAt at h
 split at h
 ·cases h; exact .inl (by assumption)
 ·cases h; exact .inr (by assumption)
 ·cases h
theorem aV.own {Z L : aQ} {W : WS} {H : Hp} {σ : St} {e : En} {i : Nat} {p : PV} (h : aV K Z W L H σ e) (g : ownAt e i = some p) : ∃ a, σ[i]? = some (some (.ref a)) ∧ (aw W a ∨ L a) ∧ iI K Z H a p := by
 rcases cC g with g | g
 ·obtain ⟨v, h1, a, rfl, w, c⟩ := h.at' i _ g
  exact ⟨a, h1, .inl ⟨i, w⟩, c⟩
 ·obtain ⟨v, h1, a, rfl, w, c⟩ := h.at' i _ g
  exact ⟨a, h1, .inr w, c⟩
theorem eA.write {Z : aQ} {H : Hp} {a : Addr} {o ob : HO} (z : Z a) (h : H a = some ob) (nt : ∀ xs, ob ≠ .tup xs) : eA Z Z H (upd H a o) :=
 ⟨fun b xs e => by rw [aX (HN e h fun z => nt _ z.symm)]; exact e, fun b u e n => ⟨by rw [aX (fun q : b = a => n (by rw [q]; exact z))]; exact e, n⟩⟩
theorem aV.write {M L : aQ} {W : WS} {H : Hp} {σ : St} {e : En} {i : Nat} {p q : PV} {a : Addr} {ob : HO} (wm : ∀ i a, W i a → M a) (h : aV K (bD M L) W L H σ e) (g : ownAt e i = some p) (ha : σ[i]? = some (some (.ref a))) (c : iI K (bD M L) (upd H a ob) a q) :
  aV K (bD M L) W L (upd H a ob) σ (dA e i q) := by
 obtain ⟨a', h1, hz, c0⟩ := h.own g
 rw [ha] at h1
 cases h1
 have za : bD M L a := hz.elim (fun ⟨i, w⟩ => .inl (wm i a w)) .inr
 obtain ⟨o0, e0, nt⟩ := c0.there
 have k : eA (bD M L) (bD M L) H (upd H a ob) := .write za e0 nt
 have hl : i < e.length := by
  rcases cC g with g | g <;> exact (List.getElem?_eq_some_iff.mp g).1
 have hm : ∃ s, e[i]? = some (some s) ∧ s.dR = true := by
  rcases cC g with g | g <;> exact ⟨_, g, rfl⟩
 obtain ⟨s0, hs0, hm0⟩ := hm
 have key : ∀ s', (dA e i q)[i]? = some (some s') → ∃ v, σ[i]? = some (some v) ∧ i6 K (bD M L) W L (upd H a ob) i v s' := fun s' z => by
  unfold dA at z
  rcases cC g with g | g
  ·rw [g] at z
   rw [List.getElem?_set_self hl] at z
   cases z
   obtain ⟨v, h1, a', rfl, w, _⟩ := h.at' i _ g
   rw [ha] at h1; cases h1
   exact ⟨_, ha, a, rfl, w, c⟩
  ·rw [g] at z
   rw [List.getElem?_set_self hl] at z
   cases z
   obtain ⟨v, h1, a', rfl, w, _⟩ := h.at' i _ g
   rw [ha] at h1; cases h1
   exact ⟨_, ha, a, rfl, w, c⟩
 have oth : ∀ j, i ≠ j → (dA e i q)[j]? = e[j]? := fun j hj => by
  unfold dA
  rcases cC g with g | g <;> (rw [g]; exact List.getElem?_set_ne hj)
 refine ⟨?_, fun j t z => ?_, fun j l s1 s2 hjk q1 q2 m1 m2 => ?_⟩
 ·rw [← h.len]; unfold dA; rcases cC g with g | g <;> (rw [g]; exact List.length_set)
 ·by_cases hj : i = j
  ·subst hj; exact key t z
  ·rw [oth j hj] at z
   obtain ⟨v, g1, g2⟩ := h.at' j t z
   refine ⟨v, g1, ?_⟩
   cases t with
   | val p => exact Rep.aP k g2
   | own p =>
    obtain ⟨b, e', w, c⟩ := g2
    subst e'
    have hb : b ≠ a := fun z' => h.nE i j s0 _ hj hs0 z hm0 rfl (by rw [ha, g1, z'])
    exact ⟨b, rfl, w, c.aP k fun o q => by rw [aX hb]; exact q⟩
   | loc p =>
    obtain ⟨b, e', w, c⟩ := g2
    subst e'
    have hb : b ≠ a := fun z' => h.nE i j s0 _ hj hs0 z hm0 rfl (by rw [ha, g1, z'])
    exact ⟨b, rfl, w, c.aP k fun o q => by rw [aX hb]; exact q⟩
   | bor p =>
    obtain ⟨b, e', c⟩ := g2
    refine ⟨b, e', ?_⟩
    cases c with
    | lst e od n m r =>
     have hb : b ≠ a := fun z' => hz.elim (fun w => n (z' ▸ w)) fun w => m (z' ▸ w)
     exact .lst (e.elim (fun e => .inl (by rw [aX hb]; exact e)) fun ⟨u, e⟩ => .inr ⟨u, by rw [aX hb]; exact e⟩) od n m (r.aP k)
    | fE e r => exact .fE e (r.aP k)
    | bW e od n m kk r =>
     have hb : b ≠ a := fun z' => hz.elim (fun w => n (z' ▸ w)) fun w => m (z' ▸ w)
     exact .bW (e.elim (fun e => .inl (by rw [aX hb]; exact e)) fun ⟨u, e⟩ => .inr ⟨u, by rw [aX hb]; exact e⟩) od n m kk (r.aP k)
 ·have dR : ∀ (j : Nat) (s : Sl), (dA e i q)[j]? = some (some s) → s.dR = true → ∃ s' : Sl, e[j]? = some (some s') ∧ s'.dR = true := fun j s z m => by
   by_cases hj : i = j
   ·subst hj; exact ⟨s0, hs0, hm0⟩
   ·rw [oth j hj] at z; exact ⟨s, z, m⟩
  obtain ⟨t1, w1, n1⟩ := dR j s1 q1 m1
  obtain ⟨t2, w2, n2⟩ := dR l s2 q2 m2
  exact h.nE j l t1 t2 hjk w1 w2 n1 n2
theorem cO.write {W : WS} {L : aQ} {H : Hp} {a : Addr} {ob o : HO} (hz : aw W a ∨ L a) (h : H a = some ob) (nt : ∀ xs, ob ≠ .tup xs) : cO W L H (upd H a o) :=
 ⟨fun b u e n m => by rw [aX (fun q : b = a => hz.elim (fun z => n (by rw [q]; exact z)) fun z => m (by rw [q]; exact z))]; exact e, fun b xs e => by rw [aX (HN e h fun z => nt _ z.symm)]; exact e, fun b e => by
  by_cases hb : b = a
  ·subst hb; rw [bG]; exact fun z => nomatch z
  ·rw [aX hb]; exact e⟩
noncomputable def D2 (i : Nat) (f : FE) : FS := fun e => bO (ownAt e i) fun p0 => match p0 with
 | .lst _ => bE (f e) fun b e1 => bO b.put fun p => match ownAt e1 i with
  | some (.lst ps) => bI (decide (ps.length < 1000000)) (some (.nx (dA e1 i (.lst (ps ++ [p])))))
  | _ => none
 | _ => none
theorem RB.put {O M L : aQ} {W : WS} {H : Hp} {σ : St} {e : En} {v : V} {b : Bv} {p : PV} (o : j7 O M W L H) (h : RB K O M W L H σ e v b) (g : b.put = some p) : aV K (bD M L) W L H σ e ∧ Rep K (bD M L) H p v := by
 have h := h.weak o
 cases b with
 | val q => cases g; exact h
 | new q => cases g; exact h
 | slot i => cases g
theorem qM {i : Nat} {t : TE} {f : FE} (h : Ref K t f) : kI K (G0 (SH K "list" qG (wN i) (oI t u9))) (D2 i f) := by
 intro O M W L σ H e r D o he hf q
 obtain ⟨p0, g0, hf⟩ := aL hf
 cases p0 with
 | lst ps0 =>
  obtain ⟨x, e1, f1, hf⟩ := aT hf
  obtain ⟨p, g1, hf⟩ := aL hf
  cases c : ownAt e1 i with
  | none => rw [c] at hf; cases hf
  | some q1 =>
   rw [c] at hf
   cases q1 with
   | lst ps =>
    obtain ⟨g2, hf⟩ := aS hf
    cases hf
    obtain ⟨a, ha, hz, ct⟩ := he.own g0
    refine ⟨_, ha, .inl ⟨rfl, ?_⟩, ?_⟩
    ·cases ct with | lst e r => exact ⟨_, iZ.of e⟩
    refine h O M W L σ H e _ _ _ o he f1 fun v H' k rb fr => ?_
    have o1 := o.keep k.cZ
    obtain ⟨en, rp⟩ := rb.put o1 g1
    obtain ⟨a', ha', hz', ct'⟩ := en.own c
    rw [ha] at ha'
    cases ha'
    cases ct' with
    | lst e2 r2 =>
     rename_i xs
     refine ⟨a, xs, v, rfl, rfl, e2, by rw [← r2.length]; exact iX g2, ?_⟩
     have kw : cO W L H' (upd H' a (.lst (xs ++ [v]))) := .write hz e2 fun _ z => nomatch z
     have st : eA (bD M L) (bD M L) H' (upd H' a (.lst (xs ++ [v]))) := .write (hz.elim (fun ⟨i, w⟩ => .inl (o.wm i a w)) .inr) e2 fun _ z => nomatch z
     exact q L σ _ (.keep (k.trans kw)) (o1.keep kw.cZ) (aV.write o.wm en c ha (.lst bG ((r2.aP st).app (.cons (rp.aP st) .nil))))
   | _ => cases hf
 | _ => cases hf
noncomputable def vL (i : Nat) (fi fv : FE) : FS := fun e => bE (fv e) fun b e1 => bO b.put fun p => bO (ownAt e1 i) fun _ => bE (fi e1) fun k e2 => match k with
 | .val (.int k) => match ownAt e2 i with
  | some (.lst ps) => bO (sS ps.length k) fun j => some (.nx (dA e2 i (.lst (ps.set j p))))
  | _ => none
 | _ => none
theorem tN {i : Nat} {tv ti : TE} {fv fi : FE} (hv : Ref K tv fv) (hi : Ref K ti fi) : kI K (u5 tv (w5 (wN i) ti M0)) (vL i fi fv) := by
 intro O M W L σ H e r D o he hf q
 obtain ⟨x, e1, f1, hf⟩ := aT hf
 obtain ⟨p, g1, hf⟩ := aL hf
 obtain ⟨p0, g0, hf⟩ := aL hf
 obtain ⟨y, e2, f2, hf⟩ := aT hf
 cases y with
 | slot i => cases hf
 | new p => cases hf
 | val y =>
  cases y with
  | int k =>
   dsimp only at hf
   cases c : ownAt e2 i with
   | none => rw [c] at hf; cases hf
   | some q1 =>
    rw [c] at hf
    cases q1 with
    | lst ps =>
     obtain ⟨j, g2, hf⟩ := aL hf
     cases hf
     refine hv O M W L σ H e _ _ _ o he f1 fun v H1 k1 rb fr => ?_
     have o1 := o.keep k1.cZ
     obtain ⟨en, rp⟩ := rb.put o1 g1
     obtain ⟨a, ha, _, _⟩ := en.own g0
     refine ⟨_, ha, hi O M W L σ H1 e1 _ _ _ o1 en f2 fun v2 H2 k2 rb2 fr2 => ?_⟩
     obtain ⟨en2, r2⟩ := rb2
     cases r2
     have o2 := o1.keep k2.cZ
     obtain ⟨a', ha', hz, ct⟩ := en2.own c
     rw [ha] at ha'
     cases ha'
     cases ct with
     | lst e3 r3 =>
      rename_i xs
      refine ⟨a, xs, k, j, rfl, rfl, e3, by rw [← r3.length]; exact g2, ?_⟩
      have kw : cO W L H2 (upd H2 a (.lst (xs.set j v))) := .write hz e3 fun _ z => nomatch z
      have st : eA (bD M L) (bD M L) H2 (upd H2 a (.lst (xs.set j v))) := .write (hz.elim (fun ⟨i, w⟩ => .inl (o.wm i a w)) .inr) e3 fun _ z => nomatch z
      exact q L σ _ (.keep ((k1.trans k2).trans kw)) (o2.keep kw.cZ) (aV.write o.wm en2 c ha (.lst bG ((r3.aP st).set ((rp.aP (k2.aP o1)).aP st) j)))
    | _ => cases hf
  | _ => cases hf
end
end Mr
namespace Mr
open PySem L2
noncomputable def d5 (kvs : List (Key × PV)) (k : Key) : Option PV := (kvs.find? fun kv => decide (kv.1 = k)).map (·.2)
noncomputable def i3 (kvs : List (Key × PV)) (k : Key) (v : PV) : List (Key × PV) :=
 if (kvs.any fun kv => decide (kv.1 = k)) = true then kvs.map (fun kv => if kv.1 = k then (kv.1, v) else kv) else kvs ++ [(k, v)]
section
variable {K : PySem.W.Frag} {Z : aQ} {H : Hp}
noncomputable def gH (K : PySem.W.Frag) (Z : aQ) (H : Hp) (kvs : List (Key × PV)) (ys : List (Key × V)) : Prop := ys.map (·.1) = kvs.map (·.1) ∧ bQ K Z H (kvs.map (·.2)) (ys.map (·.2))
theorem gH.cases {kvs : List (Key × PV)} {ys : List (Key × V)} (h : gH K Z H kvs ys) : (kvs = [] ∧ ys = []) ∨ ∃ k p v r s, kvs = (k, p) :: r ∧ ys = (k, v) :: s ∧ Rep K Z H p v ∧ gH K Z H r s := by
 obtain ⟨h1, h2⟩ := h
 cases kvs with
 | nil =>
  cases ys with
  | nil => exact .inl ⟨rfl, rfl⟩
  | cons y ys => cases h1
 | cons x kvs =>
  cases ys with
  | nil => cases h1
  | cons y ys =>
   obtain ⟨a, p⟩ := x
   obtain ⟨b, v⟩ := y
   rw [List.map_cons, List.map_cons] at h1
   have h1' := List.cons.inj h1
   have e : b = a := h1'.1
   subst e
   cases h2 with
   | cons h2 r2 => exact .inr ⟨b, p, v, kvs, ys, rfl, rfl, h2, h1'.2, r2⟩
theorem gH.cons {k : Key} {p : PV} {v : V} {r : List (Key × PV)} {s : List (Key × V)} (h : Rep K Z H p v) (hr : gH K Z H r s) : gH K Z H ((k, p) :: r) ((k, v) :: s) :=
 ⟨by rw [List.map_cons, List.map_cons, hr.1], .cons h hr.2⟩
theorem gH.val : ∀ {kvs : List (Key × PV)} {ys : List (Key × V)} (k : Key), gH K Z H kvs ys → (d5 kvs k = none ∧ fP ys k = none) ∨ ∃ p v, d5 kvs k = some p ∧ fP ys k = some v ∧ Rep K Z H p v
 | [], ys, k, h => by
  rcases h.cases with ⟨_, rfl⟩ | ⟨_, _, _, _, _, e, _⟩
  ·exact .inl ⟨rfl, rfl⟩
  ·cases e
 | x :: kvs, ys, k, h => by
  rcases h.cases with ⟨e, _⟩ | ⟨j, p, v, r, s, e, e', hp, hr⟩
  ·cases e
  ·cases e
   subst e'
   by_cases hj : j = k
   ·exact .inr ⟨p, v, by simp [d5, List.find?_cons, hj], by simp [fP, List.find?_cons, hj], hp⟩
   ·have a : d5 ((j, p) :: kvs) k = d5 kvs k := by simp [d5, List.find?_cons, hj]
    have b : fP ((j, v) :: s) k = fP s k := by simp [fP, List.find?_cons, hj]
    rw [a, b]
    exact gH.val k hr
theorem gH.any {kvs : List (Key × PV)} {ys : List (Key × V)} (k : Key) (h : gH K Z H kvs ys) : (kvs.any fun kv => decide (kv.1 = k)) = ys.any fun kv => decide (kv.1 = k) := by
 have e1 : (kvs.any fun kv => decide (kv.1 = k)) = (kvs.map (·.1)).any fun j => decide (j = k) := by rw [List.any_map]; rfl
 have e2 : (ys.any fun kv => decide (kv.1 = k)) = (ys.map (·.1)).any fun j => decide (j = k) := by rw [List.any_map]; rfl
 rw [e1, e2, h.1]
theorem gH.AR {p : PV} {v : V} (hp : Rep K Z H p v) (k : Key) : ∀ {kvs : List (Key × PV)} {ys : List (Key × V)}, gH K Z H kvs ys → gH K Z H (kvs.map fun kv => if kv.1 = k then (kv.1, p) else kv) (ys.map fun kv => if kv.1 = k then (kv.1, v) else kv)
 | [], ys, h => by
  rcases h.cases with ⟨_, rfl⟩ | ⟨_, _, _, _, _, e, _⟩
  ·exact h
  ·cases e
 | x :: kvs, ys, h => by
  rcases h.cases with ⟨e, _⟩ | ⟨j, q, u, r, s, e, e', hq, hr⟩
  ·cases e
  ·cases e
   subst e'
   rw [List.map_cons, List.map_cons]
   by_cases hj : j = k
   ·rw [if_pos hj, if_pos hj]; exact .cons hp (gH.AR hp k hr)
   ·rw [if_neg hj, if_neg hj]; exact .cons hq (gH.AR hp k hr)
theorem gH.put {kvs : List (Key × PV)} {ys : List (Key × V)} {p : PV} {v : V} (k : Key) (h : gH K Z H kvs ys) (hp : Rep K Z H p v) : gH K Z H (i3 kvs k p) (putK ys k v) := by
 unfold i3 putK
 rw [h.any k]
 split
 ·exact h.AR hp k
 ·exact ⟨by rw [List.map_append, List.map_append, h.1]; rfl, by rw [List.map_append, List.map_append]; exact h.2.app (.cons hp .nil)⟩
end
noncomputable def keyOf : PV → Option Key
 | .int i => some (.inl i)
 | .str x => some (.inr x)
 | _ => none
section
variable {K : PySem.W.Frag}
theorem Red.key {Z : aQ} {H : Hp} {p : PV} {v : V} {k : Key} (h : Red K Z H p v) (g : keyOf p = some k) : v = kV k := by
 cases p with
 | int i => cases g; exact h.int
 | str i => cases g; exact h.str
 | _ => cases g
noncomputable def rK (i : Nat) (fk fv : FE) : FS := fun e => bE (fv e) fun b e1 => bO b.put fun p => bO (ownAt e1 i) fun _ => bE (fk e1) fun k e2 => bO (k.weak.get e2) fun kp => bO (keyOf kp) fun key => match ownAt e2 i with
  | some (.bW kvs) => bI (decide (kvs.length < 1000000)) (some (.nx (dA e2 i (.bW (i3 kvs key p)))))
  | _ => none
theorem yM {i : Nat} {tv tk : TE} {fv fk : FE} (hv : Ref K tv fv) (hk : Ref K tk fk) : kI K (L2.rK (wN i) tk tv) (rK i fk fv) := by
 intro O M W L σ H e r D o he hf q
 obtain ⟨x, e1, f1, hf⟩ := aT hf
 obtain ⟨p, g1, hf⟩ := aL hf
 obtain ⟨p0, g0, hf⟩ := aL hf
 obtain ⟨y, e2, f2, hf⟩ := aT hf
 obtain ⟨kp, g3, hf⟩ := aL hf
 obtain ⟨key, g4, hf⟩ := aL hf
 cases c : ownAt e2 i with
 | none => rw [c] at hf; cases hf
 | some q1 =>
  rw [c] at hf
  cases q1 with
  | bW kvs =>
   obtain ⟨g2, hf⟩ := aS hf
   cases hf
   refine hv O M W L σ H e _ _ _ o he f1 fun v H1 k1 rb fr => ?_
   have o1 := o.keep k1.cZ
   obtain ⟨en, rp⟩ := rb.put o1 g1
   obtain ⟨a, ha, _, _⟩ := en.own g0
   refine ⟨_, ha, hk O M W L σ H1 e1 _ _ _ o1 en f2 fun v2 H2 k2 rb2 fr2 => ?_⟩
   have o2 := o1.keep k2.cZ
   have en2 := rb2.en o2
   have ek := ((rb2.rv o2).red en2 g3).key g4
   subst ek
   obtain ⟨a', ha', hz, ct⟩ := en2.own c
   rw [ha] at ha'
   cases ha'
   cases ct with
   | bW e3 kk r3 =>
    rename_i ys
    have hl : ys.length = kvs.length := by have := congrArg List.length kk; simpa using this
    refine ⟨a, _, rfl, HI.k e3 (by rw [hl]; exact iX g2), ?_⟩
    have kw : cO W L H2 (upd H2 a (.dK (putK ys key v))) := .write hz e3 fun _ z => nomatch z
    have st : eA (bD M L) (bD M L) H2 (upd H2 a (.dK (putK ys key v))) := .write (hz.elim (fun ⟨i, w⟩ => .inl (o.wm i a w)) .inr) e3 fun _ z => nomatch z
    have rd : gH K (bD M L) (upd H2 a (.dK (putK ys key v))) (i3 kvs key p) (putK ys key v) := gH.put key ⟨kk, r3.aP st⟩ ((rp.aP (k2.aP o1)).aP st)
    exact q L σ _ (.keep ((k1.trans k2).trans kw)) (o2.keep kw.cZ) (aV.write o.wm en2 c ha (.bW bG rd.1 rd.2))
  | _ => cases hf
noncomputable abbrev FG := PV → En → Option En
noncomputable abbrev zP := List PV → En → Option En
noncomputable def tF (K : PySem.W.Frag) (g : TG) (f : FG) : Prop := ∀ (O M : aQ) (W : WS) (L : aQ) (σ : St) (H : Hp) (e e' : En) (p : PV) (v : V) (Q : St → Hp → Prop), j7 O M W L H → aV K (bD M L) W L H σ e → Rep K (bD M L) H p v → f p e = some e' → (∀ σ', aV K (bD M L) W L H σ' e' → Q σ' H) → g v σ H Q
noncomputable def xQ (K : PySem.W.Frag) (g : wY) (f : zP) : Prop := ∀ (O M : aQ) (W : WS) (L : aQ) (σ : St) (H : Hp) (e e' : En) (p : List PV) (v : List V) (Q : St → Hp → Prop), j7 O M W L H → aV K (bD M L) W L H σ e → bQ K (bD M L) H p v → f p e = some e' → (∀ σ', aV K (bD M L) W L H σ' e' → Q σ' H) → g v σ H Q
noncomputable def bH (i : Nat) : FG := fun p e => some (e.set i (some (.val p)))
theorem aY (i : Nat) : tF K (nJ i) (bH i) := by
 intro O M W L σ H e e' p v Q o he hp hf q
 cases hf
 exact q _ (aV.put he rfl hp)
noncomputable def mL : zP := fun ps e => match ps with | [] => some e | _ => none
noncomputable def dO (f : FG) (g : zP) : zP := fun ps e => match ps with | p :: ps => bO (f p e) (g ps) | [] => none
theorem kS : xQ K QA mL := by
 intro O M W L σ H e e' p v Q o he hp hf q
 cases p with
 | nil => cases hf; cases hp; exact ⟨rfl, q σ he⟩
 | cons p ps => cases hf
theorem cY {g : TG} {gs : wY} {f : FG} {fs : zP} (h1 : tF K g f) (h2 : xQ K gs fs) : xQ K (EB g gs) (dO f fs) := by
 intro O M W L σ H e e' p v Q o he hp hf q
 cases p with
 | nil => cases hf
 | cons p ps =>
  obtain ⟨e1, f1, hf⟩ := aL hf
  cases hp with
  | cons hp hr => exact ⟨_, _, rfl, h1 O M W L σ H e e1 p _ _ o he hp f1 fun σ' he' => h2 O M W L σ' H e1 e' ps _ _ o he' hr hf q⟩
noncomputable def pH (n : Nat) (f : zP) : FG := fun p e => match p with
 | .tup ps => bI (decide (ps.length = n)) (f ps e)
 | _ => none
theorem nX {n : Nat} {g : wY} {f : zP} (h : xQ K g f) : tF K (FL K n g) (pH n f) := by
 intro O M W L σ H e e' p v Q o he hp hf q
 cases p with
 | tup ps =>
  obtain ⟨g1, hf⟩ := aS hf
  cases hp with
  | tup ha hr => exact ⟨_, _, rfl, ha.sq, by rw [← hr.length]; exact of_decide_eq_true g1, h O M W L σ H e e' ps _ Q o he hr hf q⟩
 | _ => cases hf
noncomputable def GQ (f : FE) (fg : FG) : FS := fun e => bE (f e) fun b e1 => bO b.put fun p => bO (fg p e1) fun e2 => some (.nx e2)
theorem BS {t : TE} {g : TG} {f : FE} {fg : FG} (h : Ref K t f) (hg : tF K g fg) : kI K (u5 t g) (GQ f fg) := by
 intro O M W L σ H e r D o he hf q
 obtain ⟨x, e1, f1, hf⟩ := aT hf
 obtain ⟨p, g1, hf⟩ := aL hf
 obtain ⟨e2, f2, hf⟩ := aL hf
 cases hf
 refine h O M W L σ H e _ _ _ o he f1 fun v H1 k1 rb fr => ?_
 have o1 := o.keep k1.cZ
 obtain ⟨en, rp⟩ := rb.put o1 g1
 exact hg O M W L σ H1 e1 e2 p v _ o1 en rp f2 fun σ' he' => q L σ' H1 (.keep k1) o1 he'
noncomputable def GJ (K : PySem.W.Frag) (M L Wr : aQ) (H : Hp) (J : It) (items : List PV) : Prop := ∀ L' H', (∀ a o, H a = some o → ¬ Wr a → H' a = some o) → (∀ a xs, H a = some (.tup xs) → H' a = some (.tup xs)) → (∀ a, L' a → L a ∨ H a = none) →
 (∀ k p, items[k]? = some p → J.go k H' ∧ ∀ x H3, J.RE k H' x H3 → bN H' H3 ∧ Rep K (bD M L') H3 p x) ∧ J.stop items.length H'
noncomputable abbrev FI := (Nat → Bool) → En → Option (List PV × En)
noncomputable def vV (K : PySem.W.Frag) (wi : TI) (f : FI) : Prop := ∀ (st : Nat → Bool) (O M : aQ) (W : WS) (L : aQ) (σ : St) (H : Hp) (e e' : En) (ps : List PV) (R : It → Hp → Prop), j7 O M W L H → aV K (bD M L) W L H σ e → f st e = some (ps, e') →
 (∀ J H', cO W L H H' → aV K (bD M L) W L H' σ e' →
  (∀ Wr : aQ, (∀ a, Wr a → aw W a ∨ L a) → (∀ (i : Nat) a s, st i = true → e'[i]? = some (some s) → s.dR = true → σ[i]? = some (some (.ref a)) → ¬ Wr a) → GJ K M L Wr H' J ps) → R J H') → wi σ H R
noncomputable def mK (body : PV → En → Option Out) : List PV → En → Option Out
 | [], e => some (.nx e)
 | x :: xs, e => match body x e with
  | some (.nx e1) => mK body xs e1
  | some (.ct e1) => mK body xs e1
  | some (.bk e1) => some (.nx e1)
  | some (.rt b e1) => some (.rt b e1)
  | none => none
noncomputable def rY (fi : FI) (fg : FG) (fb : FS) : FS := fun e => bE (fi (fun _ => false) e) fun ps e1 => mK (fun x e => bO (fg x e) fb) ps e1
theorem i5 {wi : TI} {g : TG} {tb : TS} {fi : FI} {fg : FG} {fb : FS} (hi : vV K wi fi) (hg : tF K g fg) (hb : kI K tb fb) : kI K (NY wi g tb) (rY fi fg fb) := by
 intro O M W L σ H e r D o he hf q
 obtain ⟨ps, e1, f1, hf⟩ := aT hf
 refine hi (fun _ => false) O M W L σ H e e1 ps _ o he f1 fun J H1 k1 en it => ?_
 have it := it (bD (aw W) L) (fun a z => z) fun i a s z => nomatch z
 have o1 := o.keep k1.cZ
 have q1 := q.later (.keep k1)
 let N : Nat → St → Hp → Prop := fun i σ' H' => ∃ L' e', lX W L L' H1 H' ∧ j7 O M W L' H' ∧ aV K (bD M L') W L' H' σ' e' ∧ mK (fun x e => bO (fg x e) fb) (ps.drop i) e' = some r
 refine ⟨fun i m σ' H' => m = ps.length - i ∧ i ≤ ps.length ∧ N i σ' H', ⟨ps.length, by simp, Nat.zero_le _, L, e1, .refl, o1, en, by rw [List.drop_zero]; exact hf⟩, ?_⟩
 rintro i m σ2 H2 ⟨rfl, hil, L2, e2, g2, o2, en2, f2⟩
 obtain ⟨itm, its⟩ := it L2 H2 (fun a ob h n => g2.obj a ob h (fun z => n (.inl z)) fun z => n (.inr z)) g2.tup g2.new
 by_cases hlt : i < ps.length
 ·refine .inr ?_
  obtain ⟨go, yl⟩ := itm i ps[i] (by simp [hlt])
  refine ⟨go, N (i + 1), fun σ' H' n => ⟨ps.length - (i + 1), by omega, rfl, hlt, n⟩, fun x H3 y => ?_⟩
  obtain ⟨s3, rp⟩ := yl x H3 y
  rw [List.drop_eq_getElem_cons hlt] at f2
  unfold mK at f2
  have k3 : cO W L2 H2 H3 := .same s3
  have o3 := o2.keep k3.cZ
  have g3 : lX W L L2 H1 H3 := g2.trans (.keep k3)
  cases c1 : fg ps[i] e2 with
  | none => rw [c1] at f2; cases f2
  | some e3 =>
   rw [c1] at f2
   refine hg O M W L2 σ2 H3 e2 e3 _ x _ o3 (en2.same s3) rp c1 fun σ3 en3 => ?_
   cases c2 : fb e3 with
   | none => rw [sY, c2] at f2; cases f2
   | some r1 =>
    rw [sY, c2] at f2
    refine hb O M W L2 σ3 H3 e3 r1 _ o3 en3 c2 ?_
    cases r1 with
    | nx e4 => exact fun L' σ' H' g' o' en' => ⟨L', e4, g3.trans g', o', en', f2⟩
    | ct e4 => exact fun L' σ' H' g' o' en' => ⟨L', e4, g3.trans g', o', en', f2⟩
    | bk e4 => cases f2; exact fun L' σ' H' g' o' en' => q1 L' σ' H' (g3.trans g') o' en'
    | rt b e4 => cases f2; exact fun L' σ' H' v g' o' en' => q1 L' σ' H' v (g3.trans g') o' en'
 ·have e : i = ps.length := by omega
  subst e
  rw [List.drop_length] at f2
  cases f2
  exact .inl ⟨its, q1 L2 σ2 H2 g2 o2 en2⟩
end
end Mr
namespace Mr
open PySem L2
noncomputable def vG (e : En) (ms : List (Nat × Nat)) (i j : Nat) : Option Sl := match e[i]? with
 | some (some (.val p)) => some (.val p)
 | some (some (.bor p)) => some (.bor p)
 | some (some (.own p)) => if ms.contains (i, j) then some (.own p) else if ms.any (fun z => z.1 == i) then none else some (.bor p)
 | some (some (.loc p)) => if ms.contains (i, j) then some (.own p) else if ms.any (fun z => z.1 == i) then none else some (.bor p)
 | _ => none
noncomputable def wA (e : En) (ms : List (Nat × Nat)) : Nat → List Nat → En
 | _, [] => []
 | j, i :: r => vG e ms i j :: wA e ms (j + 1) r
noncomputable def nF (k : Nat) (cV : List Nat) (ms : List (Nat × Nat)) (e : En) : En := List.replicate k none ++ wA e ms k cV
theorem x9 {e : En} {ms : List (Nat × Nat)} : ∀ {cV : List Nat} {j q : Nat}, (wA e ms j cV)[q]? = (cV[q]?).map fun i => vG e ms i (j + q)
 | [], j, q => by simp [wA]
 | i :: r, j, 0 => by simp [wA]
 | i :: r, j, q + 1 => by
  rw [wA, List.getElem?_cons_succ, x9, List.getElem?_cons_succ]
  congr 1
  funext i
  rw [show j + 1 + q = j + (q + 1) by omega]
theorem sP {e : En} {ms : List (Nat × Nat)} : ∀ {cV : List Nat} {j : Nat}, (wA e ms j cV).length = cV.length
 | [], j => rfl
 | i :: r, j => by rw [wA, List.length_cons, List.length_cons, sP]
theorem jU {k : Nat} {cV : List Nat} {ms : List (Nat × Nat)} {e : En} {j : Nat} {s : Sl} (h : (nF k cV ms e)[j]? = some (some s)) : ∃ q i, j = k + q ∧ cV[q]? = some i ∧ vG e ms i j = some s := by
 unfold nF at h
 by_cases hj : j < k
 ·rw [List.getElem?_append_left (by simpa using hj), List.getElem?_replicate] at h
  split at h <;> cases h
 ·rw [List.getElem?_append_right (by simpa using hj), List.length_replicate, x9] at h
  cases q : cV[j - k]? with
  | none => rw [q] at h; cases h
  | some i =>
   rw [q] at h
   have h' : vG e ms i (k + (j - k)) = some s := Option.some.inj h
   rw [show k + (j - k) = j by omega] at h'
   exact ⟨j - k, i, by omega, q, h'⟩
theorem jK {k : Nat} {cV : List Nat} {σ : St} {q i : Nat} {v : V} (h : cV[q]? = some i) (hv : σ[i]? = some (some v)) : (fV k cV σ)[k + q]? = some (some v) := by
 unfold fV
 rw [List.getElem?_append_right (by simp), List.length_replicate, List.getElem?_map, show k + q - k = q by omega, h]
 show some ((σ[i]?).getD none) = _
 rw [hv]; rfl
noncomputable def kG (fg : FG) (ft : FT) (fe : FE) : List PV → En → Option (List PV × En)
 | [], e => some ([], e)
 | x :: xs, e => bO (fg x e) fun e1 => bE (ft e1) fun b e2 => match b with
  | false => kG fg ft fe xs e2
  | true => bE (fe e2) fun r e3 => bO r.put fun p => bE (kG fg ft fe xs e3) fun ys e4 => some (p :: ys, e4)
noncomputable def mC (ei : En) : List (Nat × Nat) → En → Option En
 | [], e => some e
 | (i, j) :: r, e => bO (ownAt ei j) fun p => bO (ownAt e i) fun _ => mC ei r (dA e i p)
noncomputable def gF (fi : FI) (k : Nat) (cV : List Nat) (ms : List (Nat × Nat)) (fg : FG) (ft : FT) (fe : FE) : FE := fun e =>
 bE (fi (fun i => !(ms.any fun z => z.1 == i)) e) fun items e1 => bI (decide (items.length < 1000000)) (bE (kG fg ft fe items (nF k cV ms e1)) fun ys ei => bO (mC ei ms e1) fun e2 => some (.new (.lst ys), e2))
structure vX (K : PySem.W.Frag) (Z : aQ) (W : WS) (L : aQ) (H : Hp) (σ : St) (T : Nat → Prop) (e : En) : Prop where
 len : e.length = σ.length
 at' : ∀ (i : Nat) s, e[i]? = some (some s) → ∃ v, σ[i]? = some (some v) ∧ ((¬ T i ∨ s.dR = false) → i6 K Z W L H i v s) ∧ (s.dR = true → ∃ a, v = .ref a ∧ ((∃ p, s = .own p ∧ W i a) ∨ ∃ p, s = .loc p ∧ L a))
 nE : ∀ (i j : Nat) s t, i ≠ j → e[i]? = some (some s) → e[j]? = some (some t) → s.dR = true → t.dR = true → σ[i]? ≠ σ[j]?
theorem lL {K : PySem.W.Frag} {Z L : aQ} {W : WS} {H : Hp} {σ : St} {ei : En} : ∀ {ms : List (Nat × Nat)} {e e' : En}, vX K Z W L H σ (fun i => ∃ j, (i, j) ∈ ms) e → (∀ i j p a, (i, j) ∈ ms → ownAt ei j = some p → σ[i]? = some (some (.ref a)) → iI K Z H a p) → mC ei ms e = some e' → aV K Z W L H σ e'
 | [], e, e', h, hc, g => by
  cases g
  exact ⟨h.len, fun i s q => let ⟨v, h1, h2, _⟩ := h.at' i s q; ⟨v, h1, h2 (.inl fun ⟨j, z⟩ => nomatch z)⟩, h.nE⟩
 | (i, j) :: r, e, e', h, hc, g => by
  obtain ⟨p, g1, g⟩ := aL g
  obtain ⟨p0, g2, g⟩ := aL g
  refine lL (e := dA e i p) ?_ (fun i' j' p' a' hm => hc i' j' p' a' (List.mem_cons_of_mem _ hm)) g
  have hl : i < e.length := by
   rcases cC g2 with g | g <;> exact (List.getElem?_eq_some_iff.mp g).1
  have oth : ∀ l, i ≠ l → (dA e i p)[l]? = e[l]? := fun l hj => by
   unfold dA
   rcases cC g2 with g | g <;> (rw [g]; exact List.getElem?_set_ne hj)
  have own : ∃ s0 s1 a, e[i]? = some (some s0) ∧ s0.dR = true ∧ (dA e i p)[i]? = some (some s1) ∧ σ[i]? = some (some (.ref a)) ∧ i6 K Z W L H i (.ref a) s1 ∧ ((∃ p, s1 = .own p ∧ W i a) ∨ ∃ p, s1 = .loc p ∧ L a) := by
   rcases cC g2 with g | g
   ·obtain ⟨v, h1, _, h3⟩ := h.at' i _ g
    obtain ⟨a, rfl, h4⟩ := h3 rfl
    have c := hc i j p a List.mem_cons_self g1 h1
    rcases h4 with ⟨q, e1, w⟩ | ⟨q, e1, w⟩
    ·exact ⟨_, .own p, a, g, rfl, by unfold dA; rw [g]; exact List.getElem?_set_self hl, h1, ⟨a, rfl, w, c⟩, .inl ⟨p, rfl, w⟩⟩
    ·cases e1
   ·obtain ⟨v, h1, _, h3⟩ := h.at' i _ g
    obtain ⟨a, rfl, h4⟩ := h3 rfl
    have c := hc i j p a List.mem_cons_self g1 h1
    rcases h4 with ⟨q, e1, w⟩ | ⟨q, e1, w⟩
    ·cases e1
    ·exact ⟨_, .loc p, a, g, rfl, by unfold dA; rw [g]; exact List.getElem?_set_self hl, h1, ⟨a, rfl, w, c⟩, .inr ⟨p, rfl, w⟩⟩
  obtain ⟨s0, s1, a, hs0, hm0, hs1, ha, hrep, hwl⟩ := own
  refine ⟨?_, fun l s q => ?_, fun l1 l2 t1 t2 hn q1 q2 m1 m2 => ?_⟩
  ·rw [← h.len]; unfold dA; rcases cC g2 with g | g <;> (rw [g]; exact List.length_set)
  ·by_cases hil : i = l
   ·subst hil
    rw [hs1] at q
    cases q
    exact ⟨_, ha, fun _ => hrep, fun _ => ⟨a, rfl, hwl⟩⟩
   ·rw [oth l hil] at q
    obtain ⟨v, h1, h2, h3⟩ := h.at' l s q
    refine ⟨v, h1, fun z => h2 (z.elim (fun z => .inl fun ⟨j', hm⟩ => ?_) .inr), h3⟩
    rcases List.mem_cons.mp hm with hm | hm
    ·cases hm; exact hil rfl
    ·exact z ⟨j', hm⟩
  ·have dR : ∀ (l : Nat) (s : Sl), (dA e i p)[l]? = some (some s) → s.dR = true → ∃ s' : Sl, e[l]? = some (some s') ∧ s'.dR = true := fun l s z m => by
    by_cases hj : i = l
    ·subst hj; exact ⟨s0, hs0, hm0⟩
    ·rw [oth l hj] at z; exact ⟨s, z, m⟩
   obtain ⟨u1, w1, n1⟩ := dR l1 t1 q1 m1
   obtain ⟨u2, w2, n2⟩ := dR l2 t2 q2 m2
   exact h.nE l1 l2 u1 u2 hn w1 w2 n1 n2
theorem j9 {ei : En} : ∀ {ms : List (Nat × Nat)} {e e' : En}, mC ei ms e = some e' → ∀ (i : Nat) (s : Sl), e'[i]? = some (some s) → s.dR = true → ∃ s' : Sl, e[i]? = some (some s') ∧ s'.dR = true
 | [], e, e', g => by cases g; exact fun i s h m => ⟨s, h, m⟩
 | (i, j) :: r, e, e', g => by
  obtain ⟨p, g1, g⟩ := aL g
  obtain ⟨p0, g2, g⟩ := aL g
  intro l s h m
  obtain ⟨s', h', m'⟩ := j9 g l s h m
  by_cases hj : i = l
  ·subst hj
   rcases cC g2 with g | g <;> exact ⟨_, g, rfl⟩
  ·have oth : (dA e i p)[l]? = e[l]? := by
    unfold dA
    rcases cC g2 with g | g <;> (rw [g]; exact List.getElem?_set_ne hj)
   rw [oth] at h'
   exact ⟨s', h', m'⟩
section
variable {K : PySem.W.Frag}
theorem IT {wi : TI} {g : TG} {tt : TT} {te : TE} {fi : FI} {k : Nat} {cV : List Nat} (ms : List (Nat × Nat)) {fg : FG} {ft : FT} {fe : FE} (hms : ∀ i j1 j2, (i, j1) ∈ ms → (i, j2) ∈ ms → j1 = j2) (hms2 : ∀ i1 i2 j, (i1, j) ∈ ms → (i2, j) ∈ ms → i1 = i2) (hi : vV K wi fi) (hg : tF K g fg) (ht : j5 K tt ft) (he : Ref K te fe) : Ref K (tS wi k cV g tt te) (gF fi k cV ms fg ft fe) := by
 intro O M W L σ H e e' b Q o hen hf q
 obtain ⟨items, e1, f1, hf⟩ := aT hf
 obtain ⟨hsz, hf⟩ := aS hf
 obtain ⟨ys, ei, f2, hf⟩ := aT hf
 obtain ⟨e2, f3, hf⟩ := aL hf
 cases hf
 have hsz := of_decide_eq_true hsz
 refine hi (fun i => !(ms.any fun z => z.1 == i)) O M W L σ H e e1 items _ o hen f1 fun J H1 k1 en it => ?_
 have o1 := o.keep k1.cZ
 let W' : WS := ⟨fun j a => ∃ i s, (i, j) ∈ ms ∧ e1[i]? = some (some s) ∧ s.dR = true ∧ σ[i]? = some (some (.ref a)), fun a => H1 a ≠ none⟩
 have whose : ∀ (i : Nat) s a, e1[i]? = some (some s) → s.dR = true → σ[i]? = some (some (.ref a)) → (aw W a ∨ L a) ∧ ∃ ob, H1 a = some ob ∧ ∀ xs, ob ≠ .tup xs := fun i s a hs hm ha => by
  obtain ⟨v, h1, h2⟩ := en.at' i s hs
  rw [ha] at h1
  cases h1
  cases s with
  | val p => cases hm
  | bor p => cases hm
  | own p => obtain ⟨b, e, w, c⟩ := h2; cases e; exact ⟨.inl ⟨i, w⟩, c.there⟩
  | loc p => obtain ⟨b, e, w, c⟩ := h2; cases e; exact ⟨.inr w, c.there⟩
 have wsub : ∀ a, aw W' a → (aw W a ∨ L a) ∧ ∃ ob, H1 a = some ob ∧ ∀ xs, ob ≠ .tup xs := fun a ⟨j, i, s, hm, hs, hmine, ha⟩ => whose i s a hs hmine ha
 have it := it (aw W') (fun a z => (wsub a z).1) fun i a s hst hs hm ha ⟨j, i', s', hm', hs', hmine', ha'⟩ => by
  have ne : i' ≠ i := fun z => by
   subst z
   have : (ms.any fun z => z.1 == i') = true := List.any_eq_true.mpr ⟨(i', j), hm', by simp⟩
   rw [this] at hst
   cases hst
  exact en.nE i' i s' s ne hs' hs hmine' hm (by rw [ha', ha])
 intro l hl
 have zl : ∀ a ob, H1 a = some ob → a ≠ l := fun a ob h => cQ h hl
 let M' : aQ := bD M (bD L (one l))
 let O' : aQ := fun a => H1 a ≠ none ∨ a = l
 have s0 : bN H1 (upd H1 l (.lst [])) := bN.upd hl
 have ML : ∀ a, (aw W a ∨ L a) → bD M L a := fun a z => z.elim (fun ⟨i, w⟩ => .inl (o.wm i a w)) .inr
 have k0 : eA (bD M L) (bD M' d6) H1 (upd H1 l (.lst [])) := ⟨fun a xs h => s0 _ _ h, fun a ob h n => ⟨s0 _ _ h, fun z => by
  rcases z with (z | z | z) | z
  ·exact n (.inl z)
  ·exact n (.inr z)
  ·exact zl a ob h z
  ·exact z⟩⟩
 have okc0 : ∀ H2, (∀ a, H1 a ≠ none ∨ a = l → H2 a ≠ none) → j7 O' M' W' d6 H2 := fun H2 d => ⟨d, fun a z => by
   rcases z with z | z | z
   ·exact .inl (o1.old a (o1.mo a z))
   ·exact .inl (o1.loc a z).1
   ·exact .inr z, fun j a z => by
   rcases ML a (wsub a ⟨j, z⟩).1 with z | z
   ·exact .inl z
   ·exact .inr (.inl z), fun a z => z.elim⟩
 have lenS : (nF k cV ms e1).length = (fV k cV σ).length := by
  unfold nF fV
  rw [List.length_append, List.length_append, sP, List.length_map, List.length_replicate, List.length_replicate]
 have en0 : aV K (bD M' d6) W' d6 (upd H1 l (.lst [])) (fV k cV σ) (nF k cV ms e1) := by
  have lend : ∀ (i : Nat) s p a, e1[i]? = some (some s) → (s = .own p ∨ s = .loc p) → σ[i]? = some (some (.ref a)) → iI K (bD M L) H1 a p → ¬ (∃ j, (i, j) ∈ ms) → p7 K (bD M' d6) W' d6 (upd H1 l (.lst [])) a p := fun i s p a hs hp ha c nm => by
   have hm : s.dR = true := by rcases hp with rfl | rfl <;> rfl
   have nw : ¬ aw W' a := fun ⟨j, i', s', hm', hs', hmine', ha'⟩ => by
    have ne : i' ≠ i := fun z => nm ⟨j, z ▸ hm'⟩
    exact en.nE i' i s' s ne hs' hs hmine' hm (by rw [ha', ha])
   have c' := c.aP k0 fun ob h => s0 _ _ h
   cases c' with
   | lst h r => exact .lst (.inl h) (by obtain ⟨ob, h1, _⟩ := c.there; show H1 a ≠ none; rw [h1]; exact fun z => nomatch z) nw (fun z => z) r
   | bW h kk r => exact .bW (.inl h) (by obtain ⟨ob, h1, _⟩ := c.there; show H1 a ≠ none; rw [h1]; exact fun z => nomatch z) nw (fun z => z) kk r
  have bors : ∀ p a, p7 K (bD M L) W L H1 a p → p7 K (bD M' d6) W' d6 (upd H1 l (.lst [])) a p := fun p a c => by
   cases c with
   | lst h od n m r => exact .lst (h.elim (fun h => .inl (s0 _ _ h)) fun ⟨u, h⟩ => .inr ⟨u, s0 _ _ h⟩) (fun z => Rd.ne h z rfl) (fun z => (wsub a z).1.elim n m) (fun z => z) (r.aP k0)
   | fE h r => exact .fE h (r.aP k0)
   | bW h od n m kk r => exact .bW (h.elim (fun h => .inl (s0 _ _ h)) fun ⟨u, h⟩ => .inr ⟨u, s0 _ _ h⟩) (fun z => Rd.ne h z rfl) (fun z => (wsub a z).1.elim n m) (fun z => z) kk (r.aP k0)
  have row : ∀ (i j : Nat) s, vG e1 ms i j = some s → ∃ v, σ[i]? = some (some v) ∧ i6 K (bD M' d6) W' d6 (upd H1 l (.lst [])) j v s ∧ (s.dR = true → (i, j) ∈ ms ∧ ∃ s', e1[i]? = some (some s') ∧ s'.dR = true) := fun i j s h => by
   unfold vG at h
   have nc : ∀ {p : PV}, ms.contains (i, j) = true → (i, j) ∈ ms := fun z => List.contains_iff_mem.mp z
   cases c : e1[i]? with
   | none => rw [c] at h; cases h
   | some s' =>
    cases s' with
    | none => rw [c] at h; cases h
    | some s' =>
     rw [c] at h
     obtain ⟨v, h1, h2⟩ := en.at' i s' c
     refine ⟨v, h1, ?_⟩
     cases s' with
     | val p => cases h; exact ⟨Rep.aP k0 h2, fun z => nomatch z⟩
     | bor p => cases h; obtain ⟨a, e, c⟩ := h2; exact ⟨⟨a, e, bors p a c⟩, fun z => nomatch z⟩
     | own p =>
      obtain ⟨a, e, w, ct⟩ := h2
      subst e
      dsimp only at h
      cases d : ms.contains (i, j) with
      | true =>
       rw [d, if_pos rfl] at h
       cases h
       have hm := List.contains_iff_mem.mp d
       exact ⟨⟨a, rfl, ⟨i, _, hm, c, rfl, h1⟩, ct.aP k0 fun ob h => s0 _ _ h⟩, fun _ => ⟨hm, _, rfl, rfl⟩⟩
      | false =>
       rw [d, if_neg Bool.false_ne_true] at h
       cases d2 : ms.any (fun z => z.1 == i) with
       | true => rw [d2, if_pos rfl] at h; cases h
       | false =>
        rw [d2, if_neg Bool.false_ne_true] at h
        cases h
        refine ⟨⟨a, rfl, lend i _ p a c (.inl rfl) h1 ct fun ⟨j', hm'⟩ => ?_⟩, fun z => nomatch z⟩
        have : (ms.any fun z => z.1 == i) = true := List.any_eq_true.mpr ⟨(i, j'), hm', by simp⟩
        rw [d2] at this
        cases this
     | loc p =>
      obtain ⟨a, e, w, ct⟩ := h2
      subst e
      dsimp only at h
      cases d : ms.contains (i, j) with
      | true =>
       rw [d, if_pos rfl] at h
       cases h
       have hm := List.contains_iff_mem.mp d
       exact ⟨⟨a, rfl, ⟨i, _, hm, c, rfl, h1⟩, ct.aP k0 fun ob h => s0 _ _ h⟩, fun _ => ⟨hm, _, rfl, rfl⟩⟩
      | false =>
       rw [d, if_neg Bool.false_ne_true] at h
       cases d2 : ms.any (fun z => z.1 == i) with
       | true => rw [d2, if_pos rfl] at h; cases h
       | false =>
        rw [d2, if_neg Bool.false_ne_true] at h
        cases h
        refine ⟨⟨a, rfl, lend i _ p a c (.inr rfl) h1 ct fun ⟨j', hm'⟩ => ?_⟩, fun z => nomatch z⟩
        have : (ms.any fun z => z.1 == i) = true := List.any_eq_true.mpr ⟨(i, j'), hm', by simp⟩
        rw [d2] at this
        cases this
  refine ⟨lenS, fun j s hj => ?_, fun j1 j2 s t hn h1 h2 m1 m2 => ?_⟩
  ·obtain ⟨q, i, rfl, hc, hs⟩ := jU hj
   obtain ⟨v, h1, h2, _⟩ := row i _ s hs
   exact ⟨v, jK hc h1, h2⟩
  ·obtain ⟨q1, i1, rfl, c1, hs1⟩ := jU h1
   obtain ⟨q2, i2, rfl, c2, hs2⟩ := jU h2
   obtain ⟨v1, a1, _, b1⟩ := row i1 _ s hs1
   obtain ⟨v2, a2, _, b2⟩ := row i2 _ t hs2
   obtain ⟨w1, s1, d1, n1⟩ := b1 m1
   obtain ⟨w2, s2, d2, n2⟩ := b2 m2
   rw [jK c1 a1, jK c2 a2]
   have ne : i1 ≠ i2 := fun z => by subst z; exact hn (hms _ _ _ w1 w2)
   have := en.nE i1 i2 s1 s2 ne d1 d2 n1 n2
   rw [a1, a2] at this
   exact this
 have dl : ∀ a xs, H1 a = some (.tup xs) → a ≠ l := fun a xs h => zl a _ h
 let N : Nat → St → Hp → Prop := fun i σ' H' => ∃ ei' acc rest vs, cO W' (one l) (upd H1 l (.lst [])) H' ∧ H' l = some (.lst vs) ∧ bQ K (bD M' d6) H' acc vs ∧ aV K (bD M' d6) W' d6 H' σ' ei' ∧ acc.length ≤ i ∧
  kG fg ft fe (items.drop i) ei' = some (rest, ei) ∧ ys = acc ++ rest
 have k0' : ∀ H', cO W' (one l) (upd H1 l (.lst [])) H' → ∀ a, H1 a ≠ none ∨ a = l → H' a ≠ none := fun H' kk a z => kk.cZ a (by
  rcases z with z | z
  ·cases e : H1 a with
   | none => exact absurd e z
   | some u => rw [s0 _ _ e]; exact fun z => nomatch z
  ·rw [z, bG]; exact fun z => nomatch z)
 refine ⟨fun i m σ' H' => m = items.length - i ∧ i ≤ items.length ∧ N i σ' H', ⟨items.length, by simp, Nat.zero_le _, nF k cV ms e1, [], ys, [], .refl, bG, .nil, en0, Nat.le_refl _, by rw [List.drop_zero]; exact f2, rfl⟩, ?_⟩
 rintro i m σ2 H2 ⟨rfl, hil, ei2, acc, rest, vs, kk, hl2, ra, en2, hacc, f4, hys⟩
 have oki := okc0 H2 (k0' H2 kk)
 obtain ⟨itm, its⟩ := it (bD L (one l)) H2 (fun a ob h n => kk.obj a ob (s0 _ _ h) n (zl a ob h)) (fun a xs h => kk.tup a xs (s0 _ _ h)) (fun a z => z.elim .inl fun z => .inr (by rw [show a = l from z]; exact hl))
 by_cases hlt : i < items.length
 ·refine .inr ?_
  obtain ⟨go, yl⟩ := itm i items[i] (by simp [hlt])
  refine ⟨go, N (i + 1), fun σ' H' n => ⟨items.length - (i + 1), by omega, rfl, hlt, n⟩, fun x H3 y => ?_⟩
  obtain ⟨s3, rp⟩ := yl x H3 y
  rw [List.drop_eq_getElem_cons hlt] at f4
  obtain ⟨e4, c1, f4⟩ := aL f4
  have oki3 := oki.keep (H' := H3) (cO.same (W := W') (L := d6) s3).cZ
  have rp' : Rep K (bD M' d6) H3 items[i] x := rp.aP (.less fun a z => z.elim id fun z => z.elim)
  refine hg O' M' W' d6 σ2 H3 ei2 e4 _ x _ oki3 (en2.same s3) rp' c1 fun σ3 en3 => ?_
  obtain ⟨b, e5, c2, f4⟩ := aT f4
  refine ht O' M' W' d6 σ3 H3 e4 e5 b _ oki3 en3 c2 fun H4 k4 en4 => ?_
  have oki4 := oki3.keep k4.cZ
  have nlw : ¬ aw W' l := fun z => by obtain ⟨_, ob, h, _⟩ := wsub l z; rw [hl] at h; cases h
  have kL : ∀ {A B : Hp}, cO W' d6 A B → cO W' (one l) A B := fun k => ⟨fun a ob h n m => k.obj a ob h n fun z => z, k.tup, k.cZ⟩
  have st : ∀ {A B : Hp}, cO W' d6 A B → j7 O' M' W' d6 A → eA (bD M' d6) (bD M' d6) A B := fun k ok => k.aP ok
  have k34 : cO W' d6 H2 H4 := (cO.same s3).trans k4
  cases b with
  | false =>
   rw [if_neg Bool.false_ne_true]
   exact ⟨e5, acc, rest, vs, kk.trans (kL k34), k34.obj l _ hl2 nlw (fun z => z), ra.aP (st k34 oki), en4, Nat.le_succ_of_le hacc, f4, hys⟩
  | true =>
   rw [if_pos rfl]
   obtain ⟨rv, e6, c3, f4⟩ := aT f4
   obtain ⟨p, c4, f4⟩ := aL f4
   obtain ⟨rest', e7, c5, f4⟩ := aT f4
   cases f4
   refine he O' M' W' d6 σ3 H4 e5 e6 rv _ oki4 en4 c3 fun v H5 k5 rb fr => ?_
   have oki5 := oki4.keep k5.cZ
   obtain ⟨en5, rp5⟩ := rb.put oki5 c4
   have k35 : cO W' d6 H2 H5 := k34.trans k5
   have hl5 := k35.obj l _ hl2 nlw (fun z => z)
   have ra5 := ra.aP (st k35 oki)
   refine ⟨vs, hl5, WB (by have := ra.length; omega), ?_⟩
   have stw : eA (bD M' d6) (bD M' d6) H5 (upd H5 l (.lst (vs ++ [v]))) := .write (.inl (.inr (.inr rfl))) hl5 fun _ z => nomatch z
   have kw : cO W' (one l) H5 (upd H5 l (.lst (vs ++ [v]))) := .write (.inr rfl) hl5 fun _ z => nomatch z
   refine ⟨e6, acc ++ [p], rest', vs ++ [v], (kk.trans (kL k35)).trans kw, bG, (ra5.aP stw).app (.cons (rp5.aP stw) .nil), ?_, by rw [List.length_append]; exact Nat.succ_le_succ hacc, c5, by rw [hys, List.append_assoc]; rfl⟩
   refine ⟨en5.len, fun j s hj => ?_, en5.nE⟩
   obtain ⟨u, g1, g2⟩ := en5.at' j s hj
   refine ⟨u, g1, ?_⟩
   cases s with
   | val p => exact Rep.aP stw g2
   | own p =>
    obtain ⟨a, e, w, c⟩ := g2
    exact ⟨a, e, w, c.aP stw fun ob h => by rw [aX (fun z : a = l => nlw (by rw [← z]; exact ⟨j, w⟩))]; exact h⟩
   | loc p => obtain ⟨a, e, w, c⟩ := g2; exact w.elim
   | bor p =>
    obtain ⟨a, e, c⟩ := g2
    refine ⟨a, e, ?_⟩
    have ne : W'.old a → a ≠ l := fun od z => od (by rw [z]; exact hl)
    cases c with
    | lst h od n m r => exact .lst (h.elim (fun h => .inl (by rw [aX (ne od)]; exact h)) fun ⟨u, h⟩ => .inr ⟨u, by rw [aX (ne od)]; exact h⟩) od n m (r.aP stw)
    | fE h r => exact .fE h (r.aP stw)
    | bW h od n m kk r => exact .bW (h.elim (fun h => .inl (by rw [aX (ne od)]; exact h)) fun ⟨u, h⟩ => .inr ⟨u, by rw [aX (ne od)]; exact h⟩) od n m kk (r.aP stw)
 ·have e : i = items.length := by omega
  subst e
  rw [List.drop_length] at f4
  cases f4
  rw [List.append_nil] at hys
  subst hys
  have kout : cO W L H1 H2 := ⟨fun a ob h n m => kk.obj a ob (s0 _ _ h) (fun z => (wsub a z).1.elim n m) (zl a ob h), fun a xs h => kk.tup a xs (s0 _ _ h), fun a h => k0' H2 kk a (.inl h)⟩
  have kf : eA (bD M L) (bD M (bD L (one l))) H1 H2 := ⟨kout.tup, fun a ob h n => ⟨kk.obj a ob (s0 _ _ h) (fun z => n (ML a (wsub a z).1)) (zl a ob h), fun z => by
   rcases z with z | z | z
   ·exact n (.inl z)
   ·exact n (.inr z)
   ·exact zl a ob h z⟩⟩
  have pend : vX K (bD M (bD L (one l))) W (bD L (one l)) H2 σ (fun i => ∃ j, (i, j) ∈ ms) e1 := by
   refine ⟨en.len, fun i s hs => ?_, en.nE⟩
   obtain ⟨v, h1, h2⟩ := en.at' i s hs
   have keepM : ∀ a, s.dR = true → ¬ (∃ j, (i, j) ∈ ms) → v = .ref a → ∀ ob, H1 a = some ob → H2 a = some ob := fun a hm nt ev ob h => by
    subst ev
    refine kk.obj a ob (s0 _ _ h) (fun ⟨j, i', s', hm', hs', hmine', ha'⟩ => ?_) (zl a ob h)
    have ne : i' ≠ i := fun z => nt ⟨j, z ▸ hm'⟩
    exact en.nE i' i s' s ne hs' hs hmine' hm (by rw [ha', h1])
   refine ⟨v, h1, fun z => ?_, fun hm => ?_⟩
   ·cases s with
    | val p => exact Rep.aP kf h2
    | own p =>
     obtain ⟨a, e, w, c⟩ := h2
     exact ⟨a, e, w, c.aP kf fun ob h => keepM a rfl (z.elim id fun z => nomatch z) e ob h⟩
    | loc p =>
     obtain ⟨a, e, w, c⟩ := h2
     exact ⟨a, e, .inl w, c.aP kf fun ob h => keepM a rfl (z.elim id fun z => nomatch z) e ob h⟩
    | bor p =>
     obtain ⟨a, e, c⟩ := h2
     refine ⟨a, e, ?_⟩
     cases c with
     | lst h od n m r => exact .lst (h.elim (fun h => .inl (kout.obj _ _ h n m)) fun ⟨u, h⟩ => .inr ⟨u, kout.obj _ _ h n m⟩) od n (fun z => z.elim m (Rd.ne h hl)) (r.aP kf)
     | fE h r => exact .fE h (r.aP kf)
     | bW h od n m kk r => exact .bW (h.elim (fun h => .inl (kout.obj _ _ h n m)) fun ⟨u, h⟩ => .inr ⟨u, kout.obj _ _ h n m⟩) od n (fun z => z.elim m (Rd.ne h hl)) kk (r.aP kf)
   ·cases s with
    | val p => cases hm
    | bor p => cases hm
    | own p => obtain ⟨a, e, w, c⟩ := h2; exact ⟨a, e, .inl ⟨p, rfl, w⟩⟩
    | loc p => obtain ⟨a, e, w, c⟩ := h2; exact ⟨a, e, .inr ⟨p, rfl, .inl w⟩⟩
  have enf : aV K (bD M (bD L (one l))) W (bD L (one l)) H2 σ e' := lL pend (fun i j p a hm hp ha => by
   rcases cC hp with g | g
   ·obtain ⟨v, h1, a', rfl, ⟨i', s', hm', _, _, ha'⟩, c⟩ := en2.at' j _ g
    have ei := hms2 i i' j hm hm'
    subst ei
    rw [ha] at ha'
    cases ha'
    exact c.aP (.less fun a z => .inl z) fun _ h => h
   ·obtain ⟨v, h1, a', rfl, w, c⟩ := en2.at' j _ g
    exact w.elim) f3
  refine .inl ⟨its, q _ _ (k1.trans kout) ⟨l, rfl, fun z => o1.old l z hl, fun z => (o1.loc l z).1 hl, enf, fun i s hs hm e => ?_, .lst hl2 (ra.aP (.less fun a z => .inl z))⟩ (Fr.back (b := .new (.lst _)) k1.cZ fun a e => by cases e; exact hl)⟩
  obtain ⟨s', hs', hm'⟩ := j9 f3 i s hs hm
  obtain ⟨_, ob, h, _⟩ := whose i s' l hs' hm' e
  rw [hl] at h
  cases h
end
end Mr
namespace Mr
open PySem L2
inductive Kd where
 | v | b | m
 deriving DecidableEq
noncomputable def zX : Kd → PV → Sl
 | .v, p => .val p
 | .m, p => .own p
 | .b, .lst ps => .bor (.lst ps)
 | .b, .bW ps => .bor (.bW ps)
 | .b, p => .val p
noncomputable def lY : List Kd → List PV → En
 | k :: ks, p :: ps => some (zX k p) :: lY ks ps
 | _, _ => []
noncomputable def m5 (ks : List Kd) (vs : List V) (H : Hp) : WS := ⟨fun i a => ks[i]? = some .m ∧ vs[i]? = some (.ref a), fun a => H a ≠ none⟩
noncomputable def G9 : List Kd → List V → List V
 | .m :: ks, v :: vs => v :: G9 ks vs
 | _ :: ks, _ :: vs => G9 ks vs
 | _, _ => []
noncomputable def yB (K : PySem.W.Frag) (Z : aQ) (H : Hp) (ks : List Kd) (vs : List V) (qs : List PV) : Prop := ∀ (n : Nat) v q, (G9 ks vs)[n]? = some v → qs[n]? = some q → ∃ a, v = .ref a ∧ iI K Z H a q
noncomputable def S2 (K : PySem.W.Frag) (M : aQ) (H H' : Hp) (ks : List Kd) (vs : List V) (r : PV) (qs : List PV) (v : V) : Bool → Prop
 | false => Rep K M H' r v ∧ yB K M H' ks vs qs
 | true => ∃ a, v = .ref a ∧ H a = none ∧ iI K (bD M (one a)) H' a r ∧ yB K (bD M (one a)) H' ks vs qs
noncomputable abbrev FN := List PV → Option (PV × List PV)
noncomputable def hZ (K : PySem.W.Frag) (ks : List Kd) (fr : Bool) (f : FN) : Sp := fun vs H Q _ => ∃ (M : aQ) (ps : List PV) (r : PV) (qs : List PV), (∀ a, M a → H a ≠ none) ∧ vs.length = ks.length ∧ ps.length = ks.length ∧
 (∀ (i : Nat) k p v, ks[i]? = some k → ps[i]? = some p → vs[i]? = some v → i6 K M (m5 ks vs H) d6 H i v (zX k p)) ∧
 (∀ (i j : Nat), i ≠ j → ks[i]? = some .m → ks[j]? = some .m → vs[i]? ≠ vs[j]?) ∧ (∀ i a, m5 ks vs H i a → M a) ∧
 f ps = some (r, qs) ∧ ∀ v H', cO (m5 ks vs H) d6 H H' → S2 K M H H' ks vs r qs v fr → Q v H'
noncomputable def TX (e : En) : Bool → Bv → Option PV
 | false, .val p => some p
 | _, .new p => some p
 | _, .slot i => match e[i]? with
  | some (some (.loc p)) => some p
  | _ => none
 | true, .val _ => none
noncomputable def pU (e : En) : Nat → List Kd → Option (List PV)
 | _, [] => some []
 | j, .m :: ks => match e[j]? with
  | some (some (.own q)) => bO (pU e (j + 1) ks) fun qs => some (q :: qs)
  | _ => none
 | j, _ :: ks => pU e (j + 1) ks
noncomputable def KU (ks : List Kd) (fr : Bool) : Out → Option (PV × List PV)
 | .rt b e => bO (TX e fr b) fun r => bO (pU e 0 ks) fun qs => some (r, qs)
 | .nx e => match fr with
  | false => bO (pU e 0 ks) fun qs => some (.bJ, qs)
  | true => none
 | _ => none
noncomputable def rH (ks : List Kd) (nl : Nat) (fr : Bool) (g : FS) : FN := fun ps => bO (g (lY ks ps ++ List.replicate nl none)) (KU ks fr)
theorem yF : ∀ {ks : List Kd} {ps : List PV} {i : Nat} {s : Sl}, (lY ks ps)[i]? = some (some s) → ∃ k p, ks[i]? = some k ∧ ps[i]? = some p ∧ s = zX k p
 | [], ps, i, s, h => by simp [lY] at h
 | k :: ks, [], i, s, h => by simp [lY] at h
 | k :: ks, p :: ps, 0, s, h => by simp [lY] at h; exact ⟨k, p, rfl, rfl, h.symm⟩
 | k :: ks, p :: ps, i + 1, s, h => by
  rw [lY, List.getElem?_cons_succ] at h
  obtain ⟨k', p', h1, h2, h3⟩ := yF h
  exact ⟨k', p', by simpa using h1, by simpa using h2, h3⟩
theorem wR : ∀ {ks : List Kd} {ps : List PV}, ps.length = ks.length → (lY ks ps).length = ks.length
 | [], ps, h => rfl
 | k :: ks, [], h => by simp at h
 | k :: ks, p :: ps, h => by rw [lY, List.length_cons, List.length_cons, wR (by simpa using h)]
theorem lU {e : En} : ∀ {ks : List Kd} {vs : List V} {j : Nat} {qs : List PV} {n : Nat} {v : V} {q : PV}, pU e j ks = some qs → (G9 ks vs)[n]? = some v → qs[n]? = some q → ∃ i, ks[i]? = some .m ∧ vs[i]? = some v ∧ e[j + i]? = some (some (.own q))
 | [], vs, j, qs, n, v, q, h, h1, h2 => by cases h; simp at h2
 | .m :: ks, [], j, qs, n, v, q, h, h1, h2 => by simp [G9] at h1
 | .v :: ks, [], j, qs, n, v, q, h, h1, h2 => by simp [G9] at h1
 | .b :: ks, [], j, qs, n, v, q, h, h1, h2 => by simp [G9] at h1
 | .v :: ks, x :: vs, j, qs, n, v, q, h, h1, h2 => by
  obtain ⟨i, a, b, c⟩ := lU (ks := ks) (vs := vs) (j := j + 1) h h1 h2
  exact ⟨i + 1, by simpa using a, by simpa using b, by rw [show j + (i + 1) = j + 1 + i by omega]; exact c⟩
 | .b :: ks, x :: vs, j, qs, n, v, q, h, h1, h2 => by
  obtain ⟨i, a, b, c⟩ := lU (ks := ks) (vs := vs) (j := j + 1) h h1 h2
  exact ⟨i + 1, by simpa using a, by simpa using b, by rw [show j + (i + 1) = j + 1 + i by omega]; exact c⟩
 | .m :: ks, x :: vs, j, qs, n, v, q, h, h1, h2 => by
  unfold pU at h
  split at h
  ·rename_i q0 he
   obtain ⟨qs', g, h⟩ := aL h
   cases h
   cases n with
   | zero =>
    simp [G9] at h1 h2
    subst h1 h2
    exact ⟨0, rfl, rfl, he⟩
   | succ n =>
    obtain ⟨i, a, b, c⟩ := lU (ks := ks) (vs := vs) (j := j + 1) g (by simpa [G9] using h1) (by simpa using h2)
    exact ⟨i + 1, by simpa using a, by simpa using b, by rw [show j + (i + 1) = j + 1 + i by omega]; exact c⟩
  ·cases h
section
variable {K : PySem.W.Frag}
theorem i6.d6 {M L : aQ} {W : WS} {H : Hp} {i : Nat} {v : V} {s : Sl} (h : i6 K M W L H i v s) : i6 K (bD M d6) W L H i v s := by
 have k : eA M (bD M Mr.d6) H H := .less fun a z => z.elim id fun z => z.elim
 cases s with
 | val p => exact Rep.aP k h
 | own p => obtain ⟨a, e, w, c⟩ := h; exact ⟨a, e, w, c.aP k fun _ h => h⟩
 | loc p => obtain ⟨a, e, w, c⟩ := h; exact ⟨a, e, w, c.aP k fun _ h => h⟩
 | bor p =>
  obtain ⟨a, e, c⟩ := h
  refine ⟨a, e, ?_⟩
  cases c with
  | lst e od n m r => exact .lst e od n m (r.aP k)
  | fE e r => exact .fE e (r.aP k)
  | bW e od n m kk r => exact .bW e od n m kk (r.aP k)
theorem eI {ks : List Kd} {nl : Nat} {fr : Bool} {t : TS} {g : FS} {N : List Str} (h : kI K t g) (hN : N.length = ks.length + nl) {vs : List V} {H : Hp} {Q : VK} {E : XK} (hs : hZ K ks fr (rH ks nl fr g) vs H Q E) : t { nx := fun _ H' => Q .bJ H', rt := Q } (L2.start N vs) H := by
 obtain ⟨M, ps, r, qs, hM, hvl, hpl, har, hdis, hwm, hf, q⟩ := hs
 obtain ⟨out, g1, hf⟩ := aL hf
 let O : aQ := fun a => H a ≠ none
 have o : j7 O M (m5 ks vs H) d6 H := ⟨fun a h => h, hM, hwm, fun a z => z.elim⟩
 have hvN : N.length - vs.length = nl := by omega
 have st : ∀ (i : Nat) v, vs[i]? = some v → (L2.start N vs)[i]? = some (some v) := fun i v hv => by
  unfold L2.start
  have hi := (List.getElem?_eq_some_iff.mp hv).1
  rw [List.getElem?_append_left (by simpa using hi), List.getElem?_map, hv]
  rfl
 have sl : ∀ (i : Nat) s, (lY ks ps ++ List.replicate nl none)[i]? = some (some s) → ∃ k p v, ks[i]? = some k ∧ ps[i]? = some p ∧ vs[i]? = some v ∧ s = zX k p := fun i s hi => by
  by_cases hl : i < (lY ks ps).length
  ·rw [List.getElem?_append_left hl] at hi
   obtain ⟨k, p, h1, h2, h3⟩ := yF hi
   have : i < vs.length := by have := (List.getElem?_eq_some_iff.mp h1).1; omega
   exact ⟨k, p, vs[i], h1, h2, by simp, h3⟩
  ·rw [List.getElem?_append_right (by omega), List.getElem?_replicate] at hi
   split at hi <;> cases hi
 have mk : ∀ k p, (zX k p).dR = true → k = .m := fun k p hm => by
  cases k with
  | v => cases hm
  | m => rfl
  | b => cases p <;> cases hm
 have en : aV K (bD M d6) (m5 ks vs H) d6 H (L2.start N vs) (lY ks ps ++ List.replicate nl none) := by
  refine ⟨?_, fun i s hi => ?_, fun i j s s' hij h1 h2 m1 m2 => ?_⟩
  ·unfold L2.start
   rw [List.length_append, List.length_append, List.length_replicate, List.length_replicate, wR hpl, List.length_map, hvN, hvl]
  ·obtain ⟨k, p, v, h1, h2, h3, rfl⟩ := sl i s hi
   exact ⟨v, st i v h3, (har i k p v h1 h2 h3).d6⟩
  ·obtain ⟨k, p, v, a1, a2, a3, rfl⟩ := sl i s h1
   obtain ⟨k', p', v', b1, b2, b3, rfl⟩ := sl j s' h2
   rw [st i v a3, st j v' b3]
   have e1 := mk _ _ m1
   have e2 := mk _ _ m2
   subst e1 e2
   have := hdis i j hij a1 b1
   rw [a3, b3] at this
   exact fun z => this (by cases z; rfl)
 have gk : ∀ {L' : aQ} {H' : Hp}, lX (m5 ks vs H) d6 L' H H' → cO (m5 ks vs H) d6 H H' := fun gr => ⟨gr.obj, gr.tup, gr.cZ⟩
 have mu : ∀ {Z Zf : aQ} {L' : aQ} {H' : Hp} {σ' : St} {e' : En} {qs : List PV}, aV K Z (m5 ks vs H) L' H' σ' e' → (∀ a, Zf a → Z a) → pU e' 0 ks = some qs → yB K Zf H' ks vs qs := fun en' hz hm n v q' h1 h2 => by
  obtain ⟨i, a1, a2, a3⟩ := lU hm h1 h2
  rw [Nat.zero_add] at a3
  obtain ⟨u, h3, a, rfl, ⟨_, w⟩, c⟩ := en'.at' i _ a3
  rw [a2] at w
  cases w
  exact ⟨a, rfl, c.aP (.less hz) fun _ h => h⟩
 refine h O M (m5 ks vs H) d6 (L2.start N vs) H _ out _ o en g1 ?_
 cases out with
 | bk e' => cases hf
 | ct e' => cases hf
 | nx e' =>
  cases fr with
  | true => cases hf
  | false =>
   obtain ⟨qs', g2, hf⟩ := aL hf
   cases hf
   exact fun L' σ' H' gr o' en' => q .bJ H' (gk gr) ⟨.bJ, mu en' (fun a z => .inl z) g2⟩
 | rt b e' =>
  obtain ⟨r', g2, hf⟩ := aL hf
  obtain ⟨qs', g3, hf⟩ := aL hf
  cases hf
  intro L' σ' H' v gr o' rb
  refine q v H' (gk gr) ?_
  cases b with
  | val p =>
   cases fr with
   | true => cases g2
   | false =>
    cases g2
    exact ⟨rb.2.aP (.less fun a z => .inl z), mu rb.1 (fun a z => .inl z) g3⟩
  | new p =>
   cases fr with
   | false =>
    cases g2
    have rb := rb.weak o'
    exact ⟨Rep.aP (.less fun a z => .inl z) rb.2, mu rb.1 (fun a z => .inl z) g3⟩
   | true =>
    cases g2
    obtain ⟨a, rfl, n1, n2, en', fe, c⟩ := rb
    exact ⟨a, rfl, Classical.byContradiction n1, c.aP (.less fun a z => z.elim .inl fun z => .inr (.inr z)) fun _ h => h, mu en' (fun a z => z.elim .inl fun z => .inr (.inr z)) g3⟩
  | slot i =>
   have g2' : (match e'[i]? with | some (some (.loc p)) => some p | _ => none) = some r := by
    cases fr <;> exact g2
   cases c : e'[i]? with
   | none => rw [c] at g2'; cases g2'
   | some s =>
    cases s with
    | none => rw [c] at g2'; cases g2'
    | some s =>
     rw [c] at g2'
     cases s with
     | loc p =>
      cases g2'
      obtain ⟨u, h1, a, rfl, la, ct⟩ := rb.1.at' i _ c
      have := rb.2
      rw [h1] at this
      cases this
      have nO : H a = none := Classical.byContradiction (o'.loc a la).2
      cases fr with
      | false => exact ⟨(ct.aP (.less fun a z => .inl z) fun _ h => h).rep fun z => absurd nO (hM a z), mu rb.1 (fun a z => .inl z) g3⟩
      | true => exact ⟨a, rfl, nO, ct.aP (.less fun b z => z.elim .inl fun z => .inr (by rw [show b = a from z]; exact la)) fun _ h => h, mu rb.1 (fun b z => z.elim .inl fun z => .inr (by rw [show b = a from z]; exact la)) g3⟩
     | _ => cases g2'
noncomputable def zQ (e : En) : Kd → Bv → Option PV
 | .v, b => b.put
 | .b, b => b.get e
 | .m, .slot i => ownAt e i
 | .m, _ => none
noncomputable def CL (e : En) : List Kd → List Bv → Option (List PV)
 | [], [] => some []
 | k :: ks, b :: bs => bO (zQ e k b) fun p => bO (CL e ks bs) fun ps => some (p :: ps)
 | _, _ => none
noncomputable def cP : List Kd → List Bv → List Nat
 | .m :: ks, .slot i :: bs => i :: cP ks bs
 | _ :: ks, _ :: bs => cP ks bs
 | _, _ => []
noncomputable def mN : List Kd → List Bv → List Nat
 | .b :: ks, .slot i :: bs => i :: mN ks bs
 | _ :: ks, _ :: bs => mN ks bs
 | _, _ => []
noncomputable def resB (r : PV) : Bool → Bv
 | true => .new r
 | false => .val r
noncomputable def aW (ks : List Kd) (fr : Bool) (f : FN) (fa : FA) : FE := fun e => bE (fa e) fun bs e1 => bO (CL e1 ks bs) fun ps =>
 bI (decide ((cP ks bs).Nodup) && (mN ks bs).all fun i => !(cP ks bs).contains i) (bO (f ps) fun rq => bO (mC (rq.2.map fun q => some (.own q)) (cP ks bs).zipIdx e1) fun e2 => some (resB rq.1 fr, e2))
theorem xM {e : En} : ∀ {ks : List Kd} {bs : List Bv} {ps : List PV}, CL e ks bs = some ps → ps.length = ks.length ∧ bs.length = ks.length ∧ ∀ (i : Nat) k b p, ks[i]? = some k → bs[i]? = some b → ps[i]? = some p → zQ e k b = some p
 | [], [], ps, h => by cases h; exact ⟨rfl, rfl, fun i k b p h => by simp at h⟩
 | [], _ :: _, ps, h => by cases h
 | _ :: _, [], ps, h => by cases h
 | k :: ks, b :: bs, ps, h => by
  obtain ⟨p, g1, h⟩ := aL h
  obtain ⟨ps', g2, h⟩ := aL h
  cases h
  obtain ⟨a1, a2, a3⟩ := xM g2
  refine ⟨by rw [List.length_cons, List.length_cons, a1], by rw [List.length_cons, List.length_cons, a2], fun i k' b' p' h1 h2 h3 => ?_⟩
  cases i with
  | zero => simp at h1 h2 h3; subst h1 h2 h3; exact g1
  | succ i => exact a3 i k' b' p' (by simpa using h1) (by simpa using h2) (by simpa using h3)
theorem xY.get {Z : aQ} {H : Hp} {σ : St} : ∀ {bs : List Bv} {vs : List V} {i : Nat} {v : V}, xY K Z H σ bs vs → vs[i]? = some v → ∃ b, bs[i]? = some b ∧ RV K Z H σ v b
 | _, _, _, _, .nil, h => by simp at h
 | _, _, 0, _, .cons h _, e => by simp at e; subst e; exact ⟨_, rfl, h⟩
 | _, _, i + 1, _, .cons _ r, e => by
  obtain ⟨b, h1, h2⟩ := xY.get (i := i) r (by simpa using e)
  exact ⟨b, by simpa using h1, h2⟩
theorem xY.length {Z : aQ} {H : Hp} {σ : St} : ∀ {bs : List Bv} {vs : List V}, xY K Z H σ bs vs → bs.length = vs.length
 | _, _, .nil => rfl
 | _, _, .cons _ r => by rw [List.length_cons, List.length_cons, xY.length r]
theorem lT : ∀ {ks : List Kd} {bs : List Bv} {i j : Nat}, ks[i]? = some .m → bs[i]? = some (.slot j) → ∃ n : Nat, (cP ks bs)[n]? = some j
 | [], bs, i, j, h, _ => by simp at h
 | k :: ks, [], i, j, _, h => by simp at h
 | k :: ks, b :: bs, 0, j, h1, h2 => by simp at h1 h2; subst h1 h2; exact ⟨0, rfl⟩
 | k :: ks, b :: bs, i + 1, j, h1, h2 => by
  obtain ⟨n, h⟩ := lT (ks := ks) (bs := bs) (i := i) (by simpa using h1) (by simpa using h2)
  cases k with
  | v => exact ⟨n, h⟩
  | b => exact ⟨n, h⟩
  | m =>
   cases b with
   | val p => exact ⟨n, h⟩
   | new p => exact ⟨n, h⟩
   | slot l => exact ⟨n + 1, by simpa [cP] using h⟩
theorem tU : ∀ {ks : List Kd} {bs : List Bv} {i j : Nat}, ks[i]? = some .b → bs[i]? = some (.slot j) → j ∈ mN ks bs
 | [], bs, i, j, h, _ => by simp at h
 | k :: ks, [], i, j, _, h => by simp at h
 | k :: ks, b :: bs, 0, j, h1, h2 => by simp at h1 h2; subst h1 h2; exact List.mem_cons_self
 | k :: ks, b :: bs, i + 1, j, h1, h2 => by
  have h := tU (ks := ks) (bs := bs) (i := i) (j := j) (by simpa using h1) (by simpa using h2)
  cases k with
  | v => exact h
  | m => exact h
  | b =>
   cases b with
   | val p => exact h
   | new p => exact h
   | slot l => exact List.mem_cons_of_mem _ h
theorem sE : ∀ {ks : List Kd} {bs : List Bv} {i1 i2 j : Nat}, (cP ks bs).Nodup → i1 ≠ i2 → ks[i1]? = some .m → ks[i2]? = some .m → bs[i1]? = some (.slot j) → bs[i2]? = some (.slot j) → False
 | [], bs, i1, i2, j, _, _, h, _, _, _ => by simp at h
 | k :: ks, [], i1, i2, j, _, _, _, _, h, _ => by simp at h
 | k :: ks, b :: bs, 0, 0, j, _, n, _, _, _, _ => n rfl
 | k :: ks, b :: bs, 0, i2 + 1, j, nd, n, h1, h2, h3, h4 => by
  simp at h1 h3
  subst h1 h3
  obtain ⟨q, h⟩ := lT (ks := ks) (bs := bs) (i := i2) (j := j) (by simpa using h2) (by simpa using h4)
  rw [cP, List.nodup_cons] at nd
  exact nd.1 (List.mem_of_getElem? h)
 | k :: ks, b :: bs, i1 + 1, 0, j, nd, n, h1, h2, h3, h4 => by
  simp at h2 h4
  subst h2 h4
  obtain ⟨q, h⟩ := lT (ks := ks) (bs := bs) (i := i1) (j := j) (by simpa using h1) (by simpa using h3)
  rw [cP, List.nodup_cons] at nd
  exact nd.1 (List.mem_of_getElem? h)
 | k :: ks, b :: bs, i1 + 1, i2 + 1, j, nd, n, h1, h2, h3, h4 => by
  refine sE (ks := ks) (bs := bs) (i1 := i1) (i2 := i2) (j := j) ?_ (fun z => n (by rw [z])) (by simpa using h1) (by simpa using h2) (by simpa using h3) (by simpa using h4)
  cases k with
  | v => exact nd
  | b => exact nd
  | m =>
   cases b with
   | val p => exact nd
   | new p => exact nd
   | slot l => rw [cP, List.nodup_cons] at nd; exact nd.2
theorem nR {Z : aQ} {H : Hp} {σ : St} {e : En} : ∀ {ks : List Kd} {bs : List Bv} {vs : List V} {ps : List PV} {n j : Nat}, xY K Z H σ bs vs → CL e ks bs = some ps → (cP ks bs)[n]? = some j → ∃ v, (G9 ks vs)[n]? = some v ∧ σ[j]? = some (some v)
 | [], bs, vs, ps, n, j, r, g, h => by cases bs <;> simp [cP] at h
 | k :: ks, [], vs, ps, n, j, r, g, h => by simp [cP] at h
 | k :: ks, b :: bs, vs, ps, n, j, r, g, h => by
  obtain ⟨p, g1, g⟩ := aL g
  obtain ⟨ps', g2, g⟩ := aL g
  cases r with
  | cons h0 r =>
   cases k with
   | v => exact nR (ks := ks) r g2 (by simpa [cP] using h)
   | b => exact nR (ks := ks) r g2 (by simpa [cP] using h)
   | m =>
    cases b with
    | val p => cases g1
    | new p => cases g1
    | slot l =>
     cases n with
     | zero => simp [cP] at h; subst h; exact ⟨_, rfl, h0⟩
     | succ n =>
      obtain ⟨v, a, b⟩ := nR (n := n) r g2 (by simpa [cP] using h)
      exact ⟨v, by simpa [G9] using a, b⟩
theorem aU {ks : List Kd} {fr : Bool} {f : FN} {ta : TA} {fa : FA} {E : XK} (ha : qB K ta fa) : Ref K (BJ (hZ K ks fr f) [] E ta) (aW ks fr f fa) := by
 intro O M W L σ H e e' b Q o he hf q
 obtain ⟨bs, e1, f1, hf⟩ := aT hf
 obtain ⟨ps, g1, hf⟩ := aL hf
 obtain ⟨g2, hf⟩ := aS hf
 obtain ⟨⟨r, qs⟩, g3, hf⟩ := aL hf
 obtain ⟨e2, g4, hf⟩ := aL hf
 cases hf
 rw [Bool.and_eq_true] at g2
 have nd := of_decide_eq_true g2.1
 have nb : ∀ i ∈ mN ks bs, i ∉ cP ks bs := fun i hi hm => by
  have := List.all_eq_true.mp g2.2 i hi
  rw [List.contains_iff_mem.mpr hm] at this
  cases this
 refine ha O M W L σ H e e1 bs _ o he f1 fun vs H1 k1 en rv => ?_
 have o1 := o.keep k1.cZ
 obtain ⟨pl, bl, ap⟩ := xM g1
 have vl := rv.length
 show hZ K ks fr f (vs ++ []) H1 Q E
 rw [List.append_nil]
 have wr : ∀ i a, m5 ks vs H1 i a → ∃ j, bs[i]? = some (.slot j) ∧ σ[j]? = some (some (.ref a)) ∧ j ∈ cP ks bs ∧ ∃ p, ownAt e1 j = some p := fun i a ⟨h1, h2⟩ => by
  obtain ⟨b, hb, rb⟩ := rv.get h2
  have hi : i < ks.length := (List.getElem?_eq_some_iff.mp h1).1
  have hp : ps[i]? = some (ps[i]'(by omega)) := List.getElem?_eq_getElem (by omega)
  have := ap i _ b _ h1 hb hp
  cases b with
  | val p => cases this
  | new p => cases this
  | slot j =>
   obtain ⟨n, hn⟩ := lT h1 hb
   exact ⟨j, hb, rb, List.mem_of_getElem? hn, _, this⟩
 have wml : ∀ i a, m5 ks vs H1 i a → (aw W a ∨ L a) ∧ ∃ j s, e1[j]? = some (some s) ∧ s.dR = true ∧ σ[j]? = some (some (.ref a)) ∧ j ∈ cP ks bs := fun i a h => by
  obtain ⟨j, _, hs, hm, p, hp⟩ := wr i a h
  obtain ⟨a', ha', hz, _⟩ := en.own hp
  rw [hs] at ha'
  cases ha'
  refine ⟨hz, j, ?_⟩
  rcases cC hp with g | g
  ·exact ⟨_, g, rfl, hs, hm⟩
  ·exact ⟨_, g, rfl, hs, hm⟩
 have ML : ∀ a, (aw W a ∨ L a) → bD M L a := fun a z => z.elim (fun ⟨i, w⟩ => .inl (o.wm i a w)) .inr
 have nn : ∀ {a : Addr} {o : HO}, Rd H1 a o → H1 a ≠ none := fun h => h.elim (fun h => by rw [h]; exact fun z => nomatch z) fun ⟨u, h⟩ => by rw [h]; exact fun z => nomatch z
 refine ⟨bD M L, ps, r, qs, fun a z => z.elim (fun z => o1.old a (o1.mo a z)) fun z => (o1.loc a z).1, by omega, by omega, fun i k p v h1 h2 h3 => ?_, fun i j hij h1 h2 z => ?_, fun i a z => ML a (wml i a z).1, g3, fun v H' kc res => ?_⟩
 ·obtain ⟨b, hb, rb⟩ := rv.get h3
  have hone := ap i k b p h1 hb h2
  cases k with
  | v =>
   cases b with
   | val p' => cases hone; exact rb
   | new p' => exact rb.elim
   | slot j => cases hone
  | m =>
   cases b with
   | val p' => cases hone
   | new p' => cases hone
   | slot j =>
    obtain ⟨a, hs, hz, c⟩ := en.own hone
    have rb' : σ[j]? = some (some v) := rb
    rw [hs] at rb'
    cases rb'
    exact ⟨a, rfl, ⟨h1, h3⟩, c⟩
  | b =>
   have lendR : ∀ p, Rep K (bD M L) H1 p v → i6 K (bD M L) (m5 ks vs H1) d6 H1 i v (zX .b p) := fun p hr => by
    cases hr with
    | lst h n r => exact ⟨_, rfl, .lst h (nn h) (fun ⟨i', w⟩ => n (ML _ (wml i' _ w).1)) (fun z => z) r⟩
    | bW h n kk r => exact ⟨_, rfl, .bW h (nn h) (fun ⟨i', w⟩ => n (ML _ (wml i' _ w).1)) (fun z => z) kk r⟩
    | bJ => exact Rep.bJ
    | bl b => exact Rep.bl b
    | int b => exact Rep.int b
    | str b => exact Rep.str b
    | ty b => exact Rep.ty b
    | tup h r => exact Rep.tup h r
   cases b with
   | val p' => cases hone; exact lendR _ rb
   | new p' => exact rb.elim
   | slot j =>
    have hone : rd e1 j = some p := hone
    unfold Mr.rd at hone
    cases c : e1[j]? with
    | none => rw [c] at hone; cases hone
    | some s =>
     cases s with
     | none => rw [c] at hone; cases hone
     | some s =>
      rw [c] at hone
      cases hone
      obtain ⟨u, hs, sr⟩ := en.at' j s c
      have rb' : σ[j]? = some (some v) := rb
      rw [hs] at rb'
      cases rb'
      have nm : j ∉ cP ks bs := nb j (tU h1 hb)
      have nw : ∀ a, s.dR = true → σ[j]? = some (some (.ref a)) → ¬ aw (m5 ks vs H1) a := fun a hm ha ⟨i', w⟩ => by
       obtain ⟨_, j', s', hs', hm', ha', hj'⟩ := wml i' a w
       have ne : j ≠ j' := fun z => nm (z ▸ hj')
       exact en.nE j j' s s' ne c hs' hm hm' (by rw [ha, ha'])
      cases s with
      | val p => exact lendR p sr
      | own p =>
       obtain ⟨a, e, w, ct⟩ := sr
       subst e
       cases ct with
       | lst h r => exact ⟨a, rfl, .lst (.inl h) (nn (.inl h)) (nw a rfl hs) (fun z => z) r⟩
       | bW h kk r => exact ⟨a, rfl, .bW (.inl h) (nn (.inl h)) (nw a rfl hs) (fun z => z) kk r⟩
      | loc p =>
       obtain ⟨a, e, w, ct⟩ := sr
       subst e
       cases ct with
       | lst h r => exact ⟨a, rfl, .lst (.inl h) (nn (.inl h)) (nw a rfl hs) (fun z => z) r⟩
       | bW h kk r => exact ⟨a, rfl, .bW (.inl h) (nn (.inl h)) (nw a rfl hs) (fun z => z) kk r⟩
      | bor p =>
       obtain ⟨a, e, ct⟩ := sr
       subst e
       cases ct with
       | lst h od n m r => exact ⟨a, rfl, .lst h (nn h) (fun ⟨i', w⟩ => (wml i' a w).1.elim n m) (fun z => z) r⟩
       | fE h r => exact ⟨a, rfl, .fE h r⟩
       | bW h od n m kk r => exact ⟨a, rfl, .bW h (nn h) (fun ⟨i', w⟩ => (wml i' a w).1.elim n m) (fun z => z) kk r⟩
 ·
  have hi : i < ks.length := (List.getElem?_eq_some_iff.mp h1).1
  have hj : j < ks.length := (List.getElem?_eq_some_iff.mp h2).1
  have vi : vs[i]? = some (vs[i]'(by omega)) := List.getElem?_eq_getElem (by omega)
  have vj : vs[j]? = some (vs[j]'(by omega)) := List.getElem?_eq_getElem (by omega)
  have key : ∀ (i : Nat) (v : V), ks[i]? = some Kd.m → vs[i]? = some v → ∃ (j : Nat) (a : Addr), v = .ref a ∧ bs[i]? = some (Bv.slot j) ∧ σ[j]? = some (some v) ∧ ∃ p, ownAt e1 j = some p := fun i v h1 h3 => by
   obtain ⟨b, hb, rb⟩ := rv.get h3
   have hi : i < ks.length := (List.getElem?_eq_some_iff.mp h1).1
   have := ap i _ b _ h1 hb (List.getElem?_eq_getElem (show i < ps.length by omega))
   cases b with
   | val p => cases this
   | new p => cases this
   | slot l =>
    obtain ⟨a, ha, _, _⟩ := en.own this
    have rb' : σ[l]? = some (some v) := rb
    rw [ha] at rb'
    cases rb'
    exact ⟨l, a, rfl, hb, ha, _, this⟩
  obtain ⟨l1, a1, x1, y1, z1, p1, w1⟩ := key i _ h1 vi
  obtain ⟨l2, a2, x2, y2, z2, p2, w2⟩ := key j _ h2 vj
  by_cases hl : l1 = l2
  ·subst hl; exact sE nd hij h1 h2 y1 y2
  ·have m1 : ∃ s, e1[l1]? = some (some s) ∧ s.dR = true := by rcases cC w1 with g | g <;> exact ⟨_, g, rfl⟩
   have m2 : ∃ s, e1[l2]? = some (some s) ∧ s.dR = true := by rcases cC w2 with g | g <;> exact ⟨_, g, rfl⟩
   obtain ⟨s1, b1, c1⟩ := m1
   obtain ⟨s2, b2, c2⟩ := m2
   refine en.nE l1 l2 s1 s2 hl b1 b2 c1 c2 ?_
   rw [z1, z2, ← Option.some.inj (vi.symm.trans (z.trans vj))]
 ·
  have kout : cO W L H1 H' := ⟨fun a ob h n m => kc.obj a ob h (fun ⟨i, w⟩ => (wml i a w).1.elim n m) (fun z => z), kc.tup, kc.cZ⟩
  have pend : ∀ (Zf Lf : aQ), (∀ a ob, H1 a = some ob → ¬ bD M L a → ¬ Zf a) → (∀ a, L a → Lf a) → (∀ a ob, H1 a = some ob → ¬ L a → ¬ Lf a) → vX K Zf W Lf H' σ (fun i => ∃ j, (i, j) ∈ (cP ks bs).zipIdx) e1 := fun Zf Lf hz hL hL2 => by
   have kf : eA (bD M L) Zf H1 H' := ⟨kc.tup, fun a ob h n => ⟨kc.obj a ob h (fun ⟨i, w⟩ => n (ML a (wml i a w).1)) (fun z => z), hz a ob h n⟩⟩
   refine ⟨en.len, fun i s hs => ?_, en.nE⟩
   obtain ⟨u, h1, h2⟩ := en.at' i s hs
   have keepM : ∀ a, s.dR = true → ¬ (∃ j, (i, j) ∈ (cP ks bs).zipIdx) → u = .ref a → ∀ ob, H1 a = some ob → H' a = some ob := fun a hm nt ev ob h => by
    subst ev
    refine kc.obj a ob h (fun ⟨i', w⟩ => ?_) (fun z => z)
    obtain ⟨_, j', s', hs', hm', ha', hj'⟩ := wml i' a w
    obtain ⟨n, hn⟩ := List.getElem?_of_mem hj'
    have ne : j' ≠ i := fun z => nt ⟨n, by rw [← z]; exact List.mem_zipIdx_iff_getElem?.mpr hn⟩
    exact en.nE j' i s' s ne hs' hs hm' hm (by rw [ha', h1])
   have rk : ∀ {a : Addr} {o : HO}, Rd H1 a o → ¬ L a → ¬ Lf a := fun h n => h.elim (fun h => hL2 _ _ h n) fun ⟨u, h⟩ => hL2 _ _ h n
   refine ⟨u, h1, fun z => ?_, fun hm => ?_⟩
   ·cases s with
    | val p => exact Rep.aP kf h2
    | own p => obtain ⟨a, e, w, c⟩ := h2; exact ⟨a, e, w, c.aP kf fun ob h => keepM a rfl (z.elim id fun z => nomatch z) e ob h⟩
    | loc p => obtain ⟨a, e, w, c⟩ := h2; exact ⟨a, e, hL a w, c.aP kf fun ob h => keepM a rfl (z.elim id fun z => nomatch z) e ob h⟩
    | bor p =>
     obtain ⟨a, e, c⟩ := h2
     refine ⟨a, e, ?_⟩
     cases c with
     | lst h od n m r => exact .lst (h.elim (fun h => .inl (kout.obj _ _ h n m)) fun ⟨u, h⟩ => .inr ⟨u, kout.obj _ _ h n m⟩) od n (rk h m) (r.aP kf)
     | fE h r => exact .fE h (r.aP kf)
     | bW h od n m kk r => exact .bW (h.elim (fun h => .inl (kout.obj _ _ h n m)) fun ⟨u, h⟩ => .inr ⟨u, kout.obj _ _ h n m⟩) od n (rk h m) kk (r.aP kf)
   ·cases s with
    | val p => cases hm
    | bor p => cases hm
    | own p => obtain ⟨a, e, w, c⟩ := h2; exact ⟨a, e, .inl ⟨p, rfl, w⟩⟩
    | loc p => obtain ⟨a, e, w, c⟩ := h2; exact ⟨a, e, .inr ⟨p, rfl, hL a w⟩⟩
  have back : ∀ (Zf : aQ), yB K Zf H' ks vs qs → ∀ i j p a, (i, j) ∈ (cP ks bs).zipIdx → ownAt (qs.map fun q => some (.own q)) j = some p → σ[i]? = some (some (.ref a)) → iI K Zf H' a p := fun Zf mu i j p a hm hp ha => by
   have hm' := List.mem_zipIdx_iff_getElem?.mp hm
   obtain ⟨v', a1, a2⟩ := nR rv g1 hm'
   dsimp only at a2
   rw [ha] at a2
   cases a2
   have hq : qs[j]? = some p := by
    rcases cC hp with g | g
    ·rw [List.getElem?_map] at g
     cases c : qs[j]? with
     | none => rw [c] at g; cases g
     | some q' => rw [c] at g; cases g; rfl
    ·rw [List.getElem?_map] at g
     cases c : qs[j]? with
     | none => rw [c] at g; cases g
     | some q' => rw [c] at g; cases g
   obtain ⟨a', e, c⟩ := mu j _ p a1 hq
   cases e
   exact c
  cases fr with
  | false =>
   obtain ⟨rr, mu⟩ := res
   exact q v H' (k1.trans kout) ⟨lL (pend (bD M L) L (fun _ _ _ n => n) (fun _ z => z) fun _ _ _ n => n) (back _ mu) g4, rr⟩ trivial
  | true =>
   obtain ⟨a, rfl, na, c, mu⟩ := res
   have sub : ∀ b, bD M (bD L (one a)) b → bD (bD M L) (one a) b := fun b z => by
    rcases z with z | z | z
    ·exact .inl (.inl z)
    ·exact .inl (.inr z)
    ·exact .inr z
   have ne : ∀ b ob, H1 b = some ob → b ≠ a := fun b ob h => cQ h na
   have mu' : yB K (bD M (bD L (one a))) H' ks vs qs := fun n v q' h1 h2 => by
    obtain ⟨a', e, c⟩ := mu n v q' h1 h2
    exact ⟨a', e, c.aP (.less sub) fun _ h => h⟩
   refine q _ H' (k1.trans kout) ⟨a, rfl, fun z => o1.old a z na, fun z => (o1.loc a z).1 na, lL (pend (bD M (bD L (one a))) (bD L (one a)) (fun b ob h n z => ?_) (fun _ z => .inl z) fun b ob h n z => z.elim n (ne b ob h)) (back _ mu') g4, fun i s hs hm e => ?_, c.aP (.less sub) fun _ h => h⟩ (Fr.back (b := .new r) k1.cZ fun b e => by cases e; exact na)
   ·rcases z with z | z | z
    ·exact n (.inl z)
    ·exact n (.inr z)
    ·exact ne b ob h z
   ·obtain ⟨s', hs', hm'⟩ := j9 g4 i s hs hm
    obtain ⟨u, h1, h2⟩ := en.at' i s' hs'
    rw [e] at h1
    cases h1
    cases s' with
    | val p => cases hm'
    | bor p => cases hm'
    | own p => obtain ⟨b, e, w, c⟩ := h2; cases e; obtain ⟨ob, h, _⟩ := c.there; rw [na] at h; cases h
    | loc p => obtain ⟨b, e, w, c⟩ := h2; cases e; obtain ⟨ob, h, _⟩ := c.there; rw [na] at h; cases h
end
end Mr
namespace Mr
open PySem PySem.Spec L2 PyProof.Rows
mutual
inductive Lies (h : Heap) : PV → Value → Prop
 | bJ : Lies h .bJ .none
 | bl (b) : Lies h (.bl b) (.bool b)
 | int (i t) : Lies h (.int i) (.int i t)
 | str (x t) : Lies h (.str x) (.str x t)
 | tup {a : Addr} {its : List Value} {ps : List PV} : IsTup h a its.toArray → cD h ps its → Lies h (.tup ps) (.ref a)
 | lst {a : Addr} {its : List Value} {ps : List PV} : h.IsList a its.toArray → cD h ps its → Lies h (.lst ps) (.ref a)
inductive cD (h : Heap) : List PV → List Value → Prop
 | nil : cD h [] []
 | cons {p : PV} {v : Value} {ps : List PV} {vs : List Value} : Lies h p v → cD h ps vs → cD h (p :: ps) (v :: vs)
end
noncomputable def gU : Nat → PV → Bool
 | _, .bJ => true
 | _, .bl _ => true
 | _, .int _ => true
 | _, .str _ => true
 | n + 1, .tup ps => ps.all (gU n)
 | n + 1, .lst ps => ps.all (gU n)
 | _, _ => false
section
variable {X : Cx} {pins : List (Addr × Obj)} {σ : L2.St} {H : Hp} {s : Shared}
theorem Rep.lies {Z : aQ} (I : Inv X pins σ H s) : ∀ {n : Nat} {p : PV} {x : V} {v : Value}, gU n p = true → Rep X.K Z H p x → RelV x v → Lies s.heap p v
 | n, .bJ, x, v, ok, h, r => by cases h; cases r; exact .bJ
 | n, .bl b, x, v, ok, h, r => by cases h; cases r; exact .bl b
 | n, .int b, x, v, ok, h, r => by cases h; obtain ⟨t, rfl⟩ := r; exact .int b t
 | n, .str b, x, v, ok, h, r => by cases h; obtain ⟨t, rfl⟩ := r; exact .str b t
 | n, .ty b, x, v, ok, h, r => by cases n <;> cases ok
 | n, .bW b, x, v, ok, h, r => by cases n <;> cases ok
 | 0, .tup ps, x, v, ok, h, r => by cases ok
 | 0, .lst ps, x, v, ok, h, r => by cases ok
 | n + 1, .tup ps, x, v, ok, h, r => by
  cases h with
  | tup h rl =>
   cases r
   obtain ⟨its, rv, pl, _⟩ := I.tuple h.sq
   have key : ∀ (ps : List PV) (xs : List V) (its : List Value), ps.all (gU n) = true → bQ X.K Z H ps xs → Vals xs its → cD s.heap ps its := fun ps => by
    induction ps with
    | nil => intro xs its _ h1 h2; cases h1; cases h2; exact .nil
    | cons p ps ih =>
     intro xs its ha h1 h2
     rw [List.all_cons, Bool.and_eq_true] at ha
     cases h1 with
     | cons h1 r1 =>
      cases h2 with
      | cons h2 r2 => exact .cons (Rep.lies I (n := n) ha.1 h1 h2) (ih _ _ ha.2 r1 r2)
   exact .tup pl (key ps _ its ok rl rv)
 | n + 1, .lst ps, x, v, ok, h, r => by
  cases h with
  | lst h nz rl =>
   cases r
   obtain ⟨its, rv, pl, _⟩ := I.list (show iZ X.K H _ _ from .inl h)
   have key : ∀ (ps : List PV) (xs : List V) (its : List Value), ps.all (gU n) = true → bQ X.K Z H ps xs → Vals xs its → cD s.heap ps its := fun ps => by
    induction ps with
    | nil => intro xs its _ h1 h2; cases h1; cases h2; exact .nil
    | cons p ps ih =>
     intro xs its ha h1 h2
     rw [List.all_cons, Bool.and_eq_true] at ha
     cases h1 with
     | cons h1 r1 =>
      cases h2 with
      | cons h2 r2 => exact .cons (Rep.lies I (n := n) ha.1 h1 h2) (ih _ _ ha.2 r1 r2)
   exact .lst pl.isList (key ps _ its ok rl rv)
theorem bQ.lies {Z : aQ} (I : Inv X pins σ H s) {n : Nat} : ∀ {ps : List PV} {xs : List V} {its : List Value}, ps.all (gU n) = true → bQ X.K Z H ps xs → Vals xs its → cD s.heap ps its
 | [], _, _, _, h1, h2 => by cases h1; cases h2; exact .nil
 | p :: ps, _, _, ha, h1, h2 => by
  rw [List.all_cons, Bool.and_eq_true] at ha
  cases h1 with
  | cons h1 r1 =>
   cases h2 with
   | cons h2 r2 => exact .cons (Rep.lies I (n := n) ha.1 h1 h2) (bQ.lies I ha.2 r1 r2)
theorem Red.lies {Z : aQ} (I : Inv X pins σ H s) {n : Nat} {p : PV} {x : V} {v : Value} (ok : gU n p = true) (h : Red X.K Z H p x) (r : RelV x v) : Lies s.heap p v := by
 cases h with
 | rep h => exact h.lies I ok r
 | lst h rl =>
  cases r
  cases n with
  | zero => cases ok
  | succ n =>
   obtain ⟨its, rv, pl, _⟩ := I.list h.sq
   exact .lst pl.isList (bQ.lies I (n := n) ok rl rv)
 | bW h e r => cases n <;> cases ok
end
mutual
noncomputable def bT : PV → PV → Bool
 | .bJ, .bJ => true
 | .bl a, .bl b => a == b
 | .bl a, .int b => (if a then 1 else 0) == b
 | .int a, .bl b => a == (if b then 1 else 0)
 | .int a, .int b => a == b
 | .str a, .str b => a == b
 | .tup xs, .tup ys => dP xs ys
 | .lst xs, .lst ys => dP xs ys
 | _, _ => false
noncomputable def dP : List PV → List PV → Bool
 | [], [] => true
 | x :: xs, y :: ys => bT x y && dP xs ys
 | _, _ => false
end
theorem lQ {xs ys : List PV} : bT (.tup xs) (.tup ys) = dP xs ys := by rw [bT]
theorem qN {xs ys : List PV} : bT (.lst xs) (.lst ys) = dP xs ys := by rw [bT]
theorem cD.length {h : Heap} : ∀ {ps : List PV} {vs : List Value}, cD h ps vs → ps.length = vs.length
 | _, _, .nil => rfl
 | _, _, .cons _ r => by rw [List.length_cons, List.length_cons, cD.length r]
theorem cD.get {h : Heap} : ∀ {ps : List PV} {vs : List Value} {i : Nat} {v : Value}, cD h ps vs → vs[i]? = some v → ∃ p, ps[i]? = some p ∧ Lies h p v
 | _, _, _, _, .nil, e => by simp at e
 | _, _, 0, _, .cons q _, e => by simp at e; subst e; exact ⟨_, rfl, q⟩
 | _, _, i + 1, _, .cons _ r, e => by
  obtain ⟨v, h1, h2⟩ := cD.get (i := i) r (by simpa using e)
  exact ⟨v, by simpa using h1, h2⟩
theorem A3 {h : Heap} {a : Addr} {xs ys : Array Value} (h1 : IsTup h a xs) (h2 : IsTup h a ys) : xs = ys := by
 obtain ⟨o, g, _, n, d⟩ := h1
 obtain ⟨o', g', _, n', d'⟩ := h2
 rw [g] at g'
 cases g'
 rw [d] at d'
 injection d'
theorem AW {h : Heap} {a : Addr} {xs ys : Array Value} (h1 : h.IsList a xs) (h2 : h.IsList a ys) : xs = ys := by
 obtain ⟨o, g, _, n, d⟩ := h1
 obtain ⟨o', g', _, n', d'⟩ := h2
 rw [g] at g'
 cases g'
 rw [d] at d'
 injection d'
theorem qJ {h : Heap} {a : Addr} {xs ys : Array Value} (h1 : IsTup h a xs) (h2 : h.IsList a ys) : False := by
 obtain ⟨o, g, c, n, d⟩ := h1
 obtain ⟨o', g', c', n', d'⟩ := h2
 rw [g] at g'
 cases g'
 rw [c] at c'
 exact absurd c' (by decide)
mutual
theorem Lies.same {h : Heap} : ∀ {p : PV} {v : Value}, Lies h p v → ∀ {q : PV}, Lies h q v → bT p q = true
 | _, _, .bJ, q, k => by cases k; rfl
 | _, _, .bl b, q, k => by cases k; exact beq_self_eq_true b
 | _, _, .int i t, q, k => by cases k; exact beq_self_eq_true i
 | _, _, .str i t, q, k => by cases k; exact beq_self_eq_true i
 | _, _, .tup ht r, q, k => by
  cases k with
  | tup ht' r' =>
   have e : _ = _ := A3 ht ht'
   have e := congrArg Array.toList e
   simp only [List.toList_toArray] at e
   subst e
   unfold bT
   exact cD.same r r'
  | lst hl r' => exact (qJ ht hl).elim
 | _, _, .lst ht r, q, k => by
  cases k with
  | tup ht' r' => exact (qJ ht' ht).elim
  | lst hl r' =>
   have e := congrArg Array.toList (AW ht hl)
   simp only [List.toList_toArray] at e
   subst e
   unfold bT
   exact cD.same r r'
theorem cD.same {h : Heap} : ∀ {p : List PV} {v : List Value}, cD h p v → ∀ {q : List PV}, cD h q v → dP p q = true
 | _, _, .nil, q, k => by cases k; rfl
 | _, _, .cons h1 r1, q, k => by
  cases k with
  | cons h2 r2 => unfold dP; rw [Lies.same h1 h2, cD.same r1 r2]; rfl
end
mutual
theorem Lies.fn {h : Heap} : ∀ {p : PV} {v : Value}, Lies h p v → ∀ {q : PV}, Lies h q v → p = q
 | _, _, .bJ, q, k => by cases k; rfl
 | _, _, .bl b, q, k => by cases k; rfl
 | _, _, .int i t, q, k => by cases k; rfl
 | _, _, .str i t, q, k => by cases k; rfl
 | _, _, .tup ht r, q, k => by
  cases k with
  | tup ht' r' =>
   have e := congrArg Array.toList (A3 ht ht')
   simp only [List.toList_toArray] at e
   subst e
   rw [cD.fn r r']
  | lst hl r' => exact (qJ ht hl).elim
 | _, _, .lst ht r, q, k => by
  cases k with
  | tup ht' r' => exact (qJ ht' ht).elim
  | lst hl r' =>
   have e := congrArg Array.toList (AW ht hl)
   simp only [List.toList_toArray] at e
   subst e
   rw [cD.fn r r']
theorem cD.fn {h : Heap} : ∀ {p : List PV} {v : List Value}, cD h p v → ∀ {q : List PV}, cD h q v → p = q
 | _, _, .nil, q, k => by cases k; rfl
 | _, _, .cons h1 r1, q, k => by
  cases k with
  | cons h2 r2 => rw [Lies.fn h1 h2, cD.fn r1 r2]
end
theorem gB : ∀ {ps qs : List PV}, ((List.range (min ps.length qs.length)).all (fun j => bT (ps.getD j .bJ) (qs.getD j .bJ)) && ps.length == qs.length) = dP ps qs
 | [], [] => rfl
 | [], _ :: _ => by unfold dP; simp
 | _ :: _, [] => by unfold dP; simp
 | p :: ps, q :: qs => by
  have ih := gB (ps := ps) (qs := qs)
  unfold dP
  rw [← ih]
  have e : min (p :: ps).length (q :: qs).length = min ps.length qs.length + 1 := by simp only [List.length_cons]; omega
  rw [e, List.range_succ_eq_map, List.all_cons, List.all_map]
  have e2 : ((p :: ps).length == (q :: qs).length) = (ps.length == qs.length) := by
   rw [Bool.eq_iff_iff]; simp
  rw [e2, Bool.and_assoc]
  rfl
section
variable {A : Around} {s : Shared}
theorem toArr {vs : List Value} {j : Nat} (h : j < vs.toArray.size) : vs[j]? = some (vs.toArray[j]) := by simp at h ⊢
theorem rX : ∀ (n : Nat) (A : Around) {p q : PV} {v u : Value}, A.units + n < cLine → gU n p = true → gU n q = true → Lies s.heap p v → Lies s.heap q u → SeqAt.EqAt A s v u (bT p q) := by
 intro n
 induction n with
 | zero =>
  intro A p q v u hu o1 o2 h1 h2
  cases h1 with
  | tup _ _ => cases o1
  | lst _ _ => cases o1
  | bJ =>
   cases h2 with
   | tup _ _ => cases o2
   | lst _ _ => cases o2
   | bJ => exact .same _
   | bl b => exact .none_bool b
   | int b t => exact .none_int b t
   | str b t => exact .none_str b t
  | bl a =>
   cases h2 with
   | tup _ _ => cases o2
   | lst _ _ => cases o2
   | bJ => exact .bool_none a
   | bl b => exact .bool_bool a b
   | int b t => exact .bool_int a b t
   | str b t => exact .bool_str a b t
  | int a t' =>
   cases h2 with
   | tup _ _ => cases o2
   | lst _ _ => cases o2
   | bJ => exact .int_none a t'
   | bl b => exact .int_bool a t' b
   | int b t => exact .int_int a t' b t
   | str b t => exact .int_str a t' b t
  | str a t' =>
   cases h2 with
   | tup _ _ => cases o2
   | lst _ _ => cases o2
   | bJ => exact .str_none a t'
   | bl b => exact .str_bool a t' b
   | int b t => exact .str_int a t' b t
   | str b t => exact .str_str a t' b t
 | succ n ih =>
  intro A p q v u hu o1 o2 h1 h2
  have hu0 : A.units < cLine := by omega
  have hin : A.in1.units = A.units + 1 := rfl
  have els : ∀ {ps qs : List PV} {vs us : List Value}, ps.all (gU n) = true → qs.all (gU n) = true → cD s.heap ps vs → cD s.heap qs us → ∀ (j : Nat) (g1 : j < vs.toArray.size) (g2 : j < us.toArray.size), SeqAt.EqAt A.in1 s vs.toArray[j] us.toArray[j] (bT (ps.getD j .bJ) (qs.getD j .bJ)) := fun {ps qs vs us} a1 a2 l1 l2 j g1 g2 => by
   obtain ⟨x, ex, rx⟩ := l1.get (toArr g1)
   obtain ⟨y, ey, ry⟩ := l2.get (toArr g2)
   rw [List.getD_eq_getElem?_getD, List.getD_eq_getElem?_getD, ex, ey]
   exact ih A.in1 (by omega) (List.all_eq_true.mp a1 _ (List.mem_of_getElem? ex)) (List.all_eq_true.mp a2 _ (List.mem_of_getElem? ey)) rx ry
  cases h1 with
  | tup ht r =>
   cases h2 with
   | tup ht' r' =>
    rename_i a its ps a' its' ps'
    by_cases hab : a = a'
    ·subst hab
     rw [Lies.same (.tup ht r) (.tup ht' r')]
     exact .same _
    ·refine .of_refs hab ?_
     have e : bT (.tup ps) (.tup ps') = ((List.range (min its.toArray.size its'.toArray.size)).all (fun j => bT (ps.getD j .bJ) (ps'.getD j .bJ)) && its.toArray.size == its'.toArray.size) := by
      rw [lQ, ← gB, r.length, r'.length, List.size_toArray, List.size_toArray]
     rw [e]
     exact SeqAt.RcAt.tuples (e := fun j => bT (ps.getD j .bJ) (ps'.getD j .bJ)) ht ht' hu0 (els o1 o2 r r')
   | lst hl r' => exact .tuple_list ht hl hu0
   | bJ => exact .tuple_none ht hu0
   | bl b => exact .tuple_bool b ht hu0
   | int b t => exact .tuple_int b t ht hu0
   | str b t => exact .tuple_str b t ht hu0
  | lst ht r =>
   cases h2 with
   | tup ht' r' => exact .list_tuple ht ht' hu0
   | lst ht' r' =>
    rename_i a its ps a' its' ps'
    by_cases hab : a = a'
    ·subst hab
     rw [Lies.same (.lst ht r) (.lst ht' r')]
     exact .same _
    ·refine .of_refs hab ?_
     by_cases hsz : its.length = its'.length
     ·have e : bT (.lst ps) (.lst ps') = (List.range its.toArray.size).all (fun j => bT (ps.getD j .bJ) (ps'.getD j .bJ)) := by
       rw [qN, ← gB, r.length, r'.length, List.size_toArray, ← hsz, Nat.min_self, beq_self_eq_true, Bool.and_true]
      rw [e]
      exact SeqAt.RcAt.lists (e := fun j => bT (ps.getD j .bJ) (ps'.getD j .bJ)) ht ht' (by simp [hsz]) hu0 (els o1 o2 r r')
     ·have e : bT (.lst ps) (.lst ps') = false := by
       rw [qN, ← gB, r.length, r'.length, show (its.length == its'.length) = false by simp [hsz], Bool.and_false]
      rw [e]
      exact SeqAt.RcAt.lists_lengths ht ht' (by simp [hsz]) hu0
   | bJ => exact .list_none ht hu0
   | bl b => exact .list_bool b ht hu0
   | int b t => exact .list_int b t ht hu0
   | str b t => exact .list_str b t ht hu0
  | bJ =>
   cases h2 with
   | tup ht' r' => exact .none_tuple ht' hu0
   | lst hl r' => exact .none_list hl hu0
   | bJ => exact .same _
   | bl b => exact .none_bool b
   | int b t => exact .none_int b t
   | str b t => exact .none_str b t
  | bl a =>
   cases h2 with
   | tup ht' r' => exact .bool_tuple a ht' hu0
   | lst hl r' => exact .bool_list a hl hu0
   | bJ => exact .bool_none a
   | bl b => exact .bool_bool a b
   | int b t => exact .bool_int a b t
   | str b t => exact .bool_str a b t
  | int a t' =>
   cases h2 with
   | tup ht' r' => exact .int_tuple a t' ht' hu0
   | lst hl r' => exact .int_list a t' hl hu0
   | bJ => exact .int_none a t'
   | bl b => exact .int_bool a t' b
   | int b t => exact .int_int a t' b t
   | str b t => exact .int_str a t' b t
  | str a t' =>
   cases h2 with
   | tup ht' r' => exact .str_tuple a t' ht' hu0
   | lst hl r' => exact .str_list a t' hl hu0
   | bJ => exact .str_none a t'
   | bl b => exact .str_bool a t' b
   | int b t => exact .str_int a t' b t
   | str b t => exact .str_str a t' b t
theorem FP {n : Nat} {A : Around} {p q : PV} {v u : Value} (hu : A.units + (n + 1) < cLine) (o1 : gU (n + 1) p = true) (o2 : gU (n + 1) q = true) (h1 : Lies s.heap p v) (h2 : Lies s.heap q u) : SeqAt.RcAt A s v u (bT p q) ∧ SeqAt.RcNeAt A s v u (!bT p q) := by
 have hu0 : A.units < cLine := by omega
 have hin : A.in1.units = A.units + 1 := rfl
 have els : ∀ {ps qs : List PV} {vs us : List Value}, ps.all (gU n) = true → qs.all (gU n) = true → cD s.heap ps vs → cD s.heap qs us → ∀ (j : Nat) (g1 : j < vs.toArray.size) (g2 : j < us.toArray.size), SeqAt.EqAt A.in1 s vs.toArray[j] us.toArray[j] (bT (ps.getD j .bJ) (qs.getD j .bJ)) := fun {ps qs vs us} a1 a2 l1 l2 j g1 g2 => by
  obtain ⟨x, ex, rx⟩ := l1.get (toArr g1)
  obtain ⟨y, ey, ry⟩ := l2.get (toArr g2)
  rw [List.getD_eq_getElem?_getD, List.getD_eq_getElem?_getD, ex, ey]
  exact rX n A.in1 (by omega) (List.all_eq_true.mp a1 _ (List.mem_of_getElem? ex)) (List.all_eq_true.mp a2 _ (List.mem_of_getElem? ey)) rx ry
 cases h1 with
 | tup ht r =>
  cases h2 with
  | tup ht' r' =>
   rename_i a its ps a' its' ps'
   have e : bT (.tup ps) (.tup ps') = ((List.range (min its.toArray.size its'.toArray.size)).all (fun j => bT (ps.getD j .bJ) (ps'.getD j .bJ)) && its.toArray.size == its'.toArray.size) := by
    rw [lQ, ← gB, r.length, r'.length, List.size_toArray, List.size_toArray]
   rw [e]
   exact ⟨SeqAt.RcAt.tuples (e := fun j => bT (ps.getD j .bJ) (ps'.getD j .bJ)) ht ht' hu0 (els o1 o2 r r'), SeqAt.RcNeAt.tuples (e := fun j => bT (ps.getD j .bJ) (ps'.getD j .bJ)) ht ht' hu0 (els o1 o2 r r')⟩
  | lst hl r' => exact ⟨.tuple_list ht hl hu0, .tuple_list ht hl hu0⟩
  | bJ => exact ⟨.tuple_none ht hu0, .tuple_none ht hu0⟩
  | bl b => exact ⟨.tuple_bool b ht hu0, .tuple_bool b ht hu0⟩
  | int b t => exact ⟨.tuple_int b t ht hu0, .tuple_int b t ht hu0⟩
  | str b t => exact ⟨.tuple_str b t ht hu0, .tuple_str b t ht hu0⟩
 | lst ht r =>
  cases h2 with
  | tup ht' r' => exact ⟨.list_tuple ht ht' hu0, .list_tuple ht ht' hu0⟩
  | lst ht' r' =>
   rename_i a its ps a' its' ps'
   by_cases hsz : its.length = its'.length
   ·have e : bT (.lst ps) (.lst ps') = (List.range its.toArray.size).all (fun j => bT (ps.getD j .bJ) (ps'.getD j .bJ)) := by
     rw [qN, ← gB, r.length, r'.length, List.size_toArray, ← hsz, Nat.min_self, beq_self_eq_true, Bool.and_true]
    rw [e]
    exact ⟨SeqAt.RcAt.lists (e := fun j => bT (ps.getD j .bJ) (ps'.getD j .bJ)) ht ht' (by simp [hsz]) hu0 (els o1 o2 r r'), SeqAt.RcNeAt.lists (e := fun j => bT (ps.getD j .bJ) (ps'.getD j .bJ)) ht ht' (by simp [hsz]) hu0 (els o1 o2 r r')⟩
   ·have e : bT (.lst ps) (.lst ps') = false := by
     rw [qN, ← gB, r.length, r'.length, show (its.length == its'.length) = false by simp [hsz], Bool.and_false]
    rw [e]
    exact ⟨SeqAt.RcAt.lists_lengths ht ht' (by simp [hsz]) hu0, SeqAt.RcNeAt.lists_lengths ht ht' (by simp [hsz]) hu0⟩
  | bJ => exact ⟨.list_none ht hu0, .list_none ht hu0⟩
  | bl b => exact ⟨.list_bool b ht hu0, .list_bool b ht hu0⟩
  | int b t => exact ⟨.list_int b t ht hu0, .list_int b t ht hu0⟩
  | str b t => exact ⟨.list_str b t ht hu0, .list_str b t ht hu0⟩
 | bJ =>
  cases h2 with
  | tup ht' r' => exact ⟨.none_tuple ht' hu0, .none_tuple ht' hu0⟩
  | lst hl r' => exact ⟨.none_list hl hu0, .none_list hl hu0⟩
  | bJ => exact ⟨.none_none, .none_none⟩
  | bl b => exact ⟨.none_bool b, .none_bool b⟩
  | int b t => exact ⟨.none_int b t, .none_int b t⟩
  | str b t => exact ⟨.none_str b t, .none_str b t⟩
 | bl a =>
  cases h2 with
  | tup ht' r' => exact ⟨.bool_tuple a ht' hu0, .bool_tuple a ht' hu0⟩
  | lst hl r' => exact ⟨.bool_list a hl hu0, .bool_list a hl hu0⟩
  | bJ => exact ⟨.bool_none a, .bool_none a⟩
  | bl b => exact ⟨.bool_bool a b, .bool_bool a b⟩
  | int b t => exact ⟨.bool_int a b t, .bool_int a b t⟩
  | str b t => exact ⟨.bool_str a b t, .bool_str a b t⟩
 | int a t' =>
  cases h2 with
  | tup ht' r' => exact ⟨.int_tuple a t' ht' hu0, .int_tuple a t' ht' hu0⟩
  | lst hl r' => exact ⟨.int_list a t' hl hu0, .int_list a t' hl hu0⟩
  | bJ => exact ⟨.int_none a t', .int_none a t'⟩
  | bl b => exact ⟨.int_bool a t' b, .int_bool a t' b⟩
  | int b t => exact ⟨.int_int a t' b t, .int_int a t' b t⟩
  | str b t => exact ⟨.int_str a t' b t, .int_str a t' b t⟩
 | str a t' =>
  cases h2 with
  | tup ht' r' => exact ⟨.str_tuple a t' ht' hu0, .str_tuple a t' ht' hu0⟩
  | lst hl r' => exact ⟨.str_list a t' hl hu0, .str_list a t' hl hu0⟩
  | bJ => exact ⟨.str_none a t', .str_none a t'⟩
  | bl b => exact ⟨.str_bool a t' b, .str_bool a t' b⟩
  | int b t => exact ⟨.str_int a t' b t, .str_int a t' b t⟩
  | str b t => exact ⟨.str_str a t' b t, .str_str a t' b t⟩
end
noncomputable def JJ (K : PySem.W.Frag) (neg : Bool) : R2 := fun x y H Q => ∃ p q, Red K d6 H p x ∧ Red K d6 H q y ∧ gU 9 p = true ∧ gU 9 q = true ∧ Q (.bl (if neg then !bT p q else bT p q)) H
noncomputable def AD : PV → Option (List PV)
 | .lst ps => some ps
 | .tup ps => some ps
 | _ => none
noncomputable def K1 (K : PySem.W.Frag) (neg : Bool) : R2 := fun x y H Q => ∃ p q ps, Red K d6 H p x ∧ Red K d6 H q y ∧ AD q = some ps ∧ gU 8 p = true ∧ ps.all (gU 8) = true ∧ Q (.bl (if neg then !ps.any (fun z => bT z p) else ps.any fun z => bT z p)) H
section
variable {X : Cx} {k : Nat}
theorem GU (K : PySem.W.Frag) (hr : eU k X.A) (hK : X.K = K := by rfl) : iK X (compareOp .Eq) (JJ K false) := by
 subst hK
 intro pins s σ H x y v u Q I rx ry h
 obtain ⟨p, q, h1, h2, o1, o2, hQ⟩ := h
 exact (FP (n := 8) (by have := hr.un; omega) o1 o2 (h1.lies I o1 rx) (h2.lies I o2 ry)).1 _ _ _ _ (iS I hQ rfl)
theorem wL (K : PySem.W.Frag) (hr : eU k X.A) (hK : X.K = K := by rfl) : iK X (compareOp .NotEq) (JJ K true) := by
 subst hK
 intro pins s σ H x y v u Q I rx ry h
 obtain ⟨p, q, h1, h2, o1, o2, hQ⟩ := h
 exact (FP (n := 8) (by have := hr.un; omega) o1 o2 (h1.lies I o1 rx) (h2.lies I o2 ry)).2 _ _ _ _ (iS I hQ rfl)
theorem cD.any {h : Heap} {e : Value → Bool} {f : PV → Bool} (he : ∀ {q : PV} {y : Value}, Lies h q y → e y = f q) : ∀ {ps : List PV} {its : List Value}, cD h ps its → its.any e = ps.any f
 | _, _, .nil => rfl
 | _, _, .cons h r => by rw [List.any_cons, List.any_cons, he h, cD.any he r]
theorem u3 {s : Shared} {A : Around} {p : PV} {u : Value} (hu : A.units + 8 < cLine) (op : gU 8 p = true) (hp : Lies s.heap p u) {ps : List PV} {its : List Value} (ops : ps.all (gU 8) = true) (hl : cD s.heap ps its) :
  ∃ e : Value → Bool, (∀ y, y ∈ its.toArray → SeqAt.EqAt A s y u (e y)) ∧ its.toArray.any e = ps.any fun z => bT z p := by
 classical
 let e : Value → Bool := fun y => if c : ∃ q, Lies s.heap q y then bT c.choose p else false
 have he : ∀ {q : PV} {y : Value}, Lies s.heap q y → e y = bT q p := fun {q y} h => by
  have c : ∃ q, Lies s.heap q y := ⟨q, h⟩
  show (if c : ∃ q, Lies s.heap q y then bT c.choose p else false) = _
  rw [dif_pos c, Lies.fn c.choose_spec h]
 refine ⟨e, fun y hy => ?_, ?_⟩
 ·obtain ⟨j, hj⟩ := List.getElem?_of_mem (show y ∈ its by simpa using hy)
  obtain ⟨q, h1, h2⟩ := hl.get hj
  rw [he h2]
  exact rX 8 A hu (List.all_eq_true.mp ops _ (List.mem_of_getElem? h1)) op h2 hp
 ·rw [List.any_toArray]
  exact cD.any (fun h => he h) hl
theorem UT (K : PySem.W.Frag) (hr : eU k X.A) (hK : X.K = K := by rfl) : iK X (compareOp .In) (K1 K false) := by
 subst hK
 intro pins s σ H x y v u Q I rx ry h
 obtain ⟨p, q, ps, h1, h2, hi, o1, o2, hQ⟩ := h
 have hu : X.A.in1.units + 8 < cLine := by have := hr.un; show X.A.units + 1 + 8 < _; omega
 have lp := h1.lies I o1 rx
 cases q with
 | lst qs =>
  cases hi
  cases h2.lies I (n := 9) (p := .lst _) o2 ry with
  | lst hl r =>
   obtain ⟨e, e1, e2⟩ := u3 hu o1 lp o2 r
   exact SeqAt.in_listAt e hl e1 (by rw [e2]; exact iS I hQ rfl)
 | tup qs =>
  cases hi
  cases h2.lies I (n := 9) (p := .tup _) o2 ry with
  | tup hl r =>
   obtain ⟨e, e1, e2⟩ := u3 hu o1 lp o2 r
   exact SeqAt.in_tupleAt e hl e1 (by rw [e2]; exact iS I hQ rfl)
 | _ => cases hi
theorem L7 (K : PySem.W.Frag) (hr : eU k X.A) (hK : X.K = K := by rfl) : iK X (compareOp .NotIn) (K1 K true) := by
 subst hK
 intro pins s σ H x y v u Q I rx ry h
 obtain ⟨p, q, ps, h1, h2, hi, o1, o2, hQ⟩ := h
 have hu : X.A.in1.units + 8 < cLine := by have := hr.un; show X.A.units + 1 + 8 < _; omega
 have lp := h1.lies I o1 rx
 cases q with
 | lst qs =>
  cases hi
  cases h2.lies I (n := 9) (p := .lst _) o2 ry with
  | lst hl r =>
   obtain ⟨e, e1, e2⟩ := u3 hu o1 lp o2 r
   exact SeqAt.notIn_listAt e hl e1 (by rw [e2]; exact iS I hQ rfl)
 | tup qs =>
  cases hi
  cases h2.lies I (n := 9) (p := .tup _) o2 ry with
  | tup hl r =>
   obtain ⟨e, e1, e2⟩ := u3 hu o1 lp o2 r
   exact SeqAt.notIn_tupleAt e hl e1 (by rw [e2]; exact iS I hQ rfl)
 | _ => cases hi
end
end Mr
namespace Mr
open PySem PySem.Spec L2 PyProof.Rows
section
variable {K : PySem.W.Frag}
theorem eT.or {r r' : R2} {g g' : PV → PV → Option Bv} (h : eT K r g) (h' : eT K r' g') : eT K (fun x y H Q => r x y H Q ∨ r' x y H Q) (fun p q => (g p q).or (g' p q)) := by
 intro Z H x y p q b Q hp hq hg k
 have hg : (g p q).or (g' p q) = some b := hg
 cases c : g p q with
 | some b' => rw [c] at hg; cases hg; exact .inl (h Z H x y p q _ Q hp hq c k)
 | none => rw [c] at hg; exact .inr (h' Z H x y p q b Q hp hq hg k)
theorem jI.or {r r' : List V → Hp → VK → Prop} {g g' : List PV → Option Bv} (h : jI K r g) (h' : jI K r' g') : jI K (fun x H Q => r x H Q ∨ r' x H Q) (fun p => (g p).or (g' p)) := by
 intro Z H x p b Q hp hg k
 have hg : (g p).or (g' p) = some b := hg
 cases c : g p with
 | some b' => rw [c] at hg; cases hg; exact .inl (h Z H x p _ Q hp c k)
 | none => rw [c] at hg; exact .inr (h' Z H x p b Q hp hg k)
noncomputable def gI (C : Int → Int → Bool) (g : Int → Int → PV) : PV → PV → Option Bv
 | .int i, .int j => bI (C i j) (some (.val (g i j)))
 | _, _ => none
theorem G4 {C : Int → Int → Prop} {D : Int → Int → Bool} {g : Int → Int → V} {g' : Int → Int → PV} (hD : ∀ i j, D i j = true → C i j) (hg : ∀ i j Z H, Rep K Z H (g' i j) (g i j)) : eT K (rI C g) (gI D g') := by
 intro Z H x y p q b Q hp hq h k
 cases p with
 | int i =>
  cases q with
  | int j =>
   obtain ⟨c, h⟩ := aS h
   cases h
   exact ⟨i, j, hp.int, hq.int, hD i j c, k _ H (bN.refl _) (hg i j Z H)⟩
  | _ => cases h
 | _ => cases h
noncomputable def QP (g : Int → Int → PV) : PV → PV → Option Bv
 | .int i, .int j => some (.val (g i j))
 | _, _ => none
theorem xW {g : Int → Int → V} {g' : Int → Int → PV} (hg : ∀ i j Z H, Rep K Z H (g' i j) (g i j)) : eT K (A8 g) (QP g') := by
 intro Z H x y p q b Q hp hq h k
 cases p with
 | int i =>
  cases q with
  | int j => cases h; exact ⟨i, j, hp.int, hq.int, k _ H (bN.refl _) (hg i j Z H)⟩
  | _ => cases h
 | _ => cases h
noncomputable def w5 : PV → PV → Option Bv := QP fun i j => .int (i - j)
theorem GX : eT K (A8 fun i j => .int (i - j)) w5 := xW fun _ _ _ _ => .int _
noncomputable def uI (i j : Int) : Bool := decide ((-18446744073709551616 < i ∧ i < 18446744073709551616) ∨ (-18446744073709551616 < j ∧ j < 18446744073709551616))
noncomputable def pD : PV → PV → Option Bv := gI uI fun i j => .int (i * j)
theorem kW : eT K (rI JV fun i j => .int (i * j)) pD := G4 (fun i j h => by have := of_decide_eq_true h; show (-(2 ^ 64) < i ∧ i < 2 ^ 64) ∨ (-(2 ^ 64) < j ∧ j < 2 ^ 64); omega) fun _ _ _ _ => .int _
noncomputable def HF : PV → PV → Option Bv := gI (fun _ j => decide (0 < j ∧ j < 1000000000000000000000000)) fun i j => .int (i / j)
theorem zO : eT K (rI NB fun i j => .int (i / j)) HF := G4 (fun i j h => by have := of_decide_eq_true h; show 0 < j ∧ j < 2 ^ 200; omega) fun _ _ _ _ => .int _
noncomputable def lZ : PV → PV → Option Bv := gI (fun _ j => decide (0 < j)) fun i j => .int (i % j)
theorem jE : eT K (rI (fun _ j => 0 < j) fun i j => .int (i % j)) lZ := G4 (fun _ _ h => of_decide_eq_true h) fun _ _ _ _ => .int _
noncomputable def p5 : PV → PV → Option Bv := gI (fun i j => decide (0 ≤ j ∧ (Builtin.Int.intBits i : Int) * j ≤ 2 ^ 27)) fun i j => .int (i ^ j.toNat)
theorem sL : eT K (rI (fun i j => 0 ≤ j ∧ (Builtin.Int.intBits i : Int) * j ≤ 2 ^ 27) fun i j => .int (i ^ j.toNat)) p5 := G4 (fun _ _ h => of_decide_eq_true h) fun _ _ _ _ => .int _
noncomputable def EM : PV → Option Bv
 | .int i => some (.val (.int (-i)))
 | _ => none
theorem IX : S6 K (rU fun i => .int (-i)) EM := by
 intro Z H x p b Q hp h k
 cases p with
 | int i => cases h; exact ⟨i, hp.int, k _ H (bN.refl _) (Rep.int (-i))⟩
 | _ => cases h
noncomputable def HB : PV → PV → Option Bv
 | .str i, .str j => bI (decide (i.length + j.length < 1000000)) (some (.val (.str (i ++ j))))
 | _, _ => none
theorem LQ : eT K (fun x y H Q => ∃ i j, x = .str i ∧ y = .str j ∧ i.length + j.length ≤ sizeLine ∧ Q (.str (i ++ j)) H) HB := by
 intro Z H x y p q b Q hp hq h k
 cases p with
 | str i =>
  cases q with
  | str j =>
   obtain ⟨c, h⟩ := aS h
   cases h
   exact ⟨i, j, hp.str, hq.str, Nat.le_of_lt (iX c), k _ H (bN.refl _) (Rep.str (i ++ j))⟩
  | _ => cases h
 | _ => cases h
noncomputable def G8 (K : PySem.W.Frag) : R2 := fun x y H Q => ∃ a b xs ys, x = .ref a ∧ y = .ref b ∧ iZ K H a xs ∧ iZ K H b ys ∧ xs.length + ys.length ≤ sizeLine ∧ ∀ p, H p = none → Q (.ref p) (upd H p (.lst (xs ++ ys)))
theorem VI {X : Cx} (K : PySem.W.Frag) (hK : X.K = K := by rfl) : iK X (binaryOp .Add) (G8 K) := by
 subst hK
 intro pins s σ H x y v u Q I rx ry h
 obtain ⟨a, b, xs, ys, rfl, rfl, ha, hb, hz, q⟩ := h
 cases rx
 cases ry
 obtain ⟨its, r1, p1, _⟩ := I.list ha
 obtain ⟨its2, r2, p2, _⟩ := I.list hb
 obtain ⟨⟨cls, dd, data, sl⟩, ho, hc, n, hd⟩ := id p1.isList
 obtain ⟨⟨cls2, dd2, data2, sl2⟩, ho2, hc2, n2, hd2⟩ := id p2.isList
 simp only at hc hd hc2 hd2
 subst hc hd hc2 hd2
 have l1 := r1.length
 have l2 := r2.length
 have e : its.toArray ++ its2.toArray = (its ++ its2).toArray := by simp
 refine concat_meets ⟨_, ho, rfl⟩ ⟨_, ho2, rfl⟩ noFill_list_add seq_list_add PySem.F.slot_list_add PySem.F.entry_list_add (PySem.F.args_list_add_2 _ _) (list_addW a b its.toArray its2.toArray n n2 dd dd2 sl sl2 (by simp only [List.size_toArray]; omega)) ⟨ho, ho2, ?_⟩
 rw [e]
 exact ⟨.ref s.heap.objs.size, _, I.laid (t' := s.toks) (o := .lst (xs ++ ys)) (fun b ob q => Heap.get?_push_of_some _ q) (Nat.le_refl _) ⟨by rw [List.length_append]; exact hz, its ++ its2, 0, r1.append r2, Heap.get?_push_size _ rfl⟩, rfl, q _ (I.cI.fresh (Nat.le_refl _))⟩
noncomputable def FJ : PV → PV → Option Bv
 | .lst i, .lst j => bI (decide (i.length + j.length < 1000000)) (some (.new (.lst (i ++ j))))
 | _, _ => none
theorem z4 {Z : aQ} {H : Hp} {a : Addr} {ps : List PV} {xs : List V} (hl : H a = none) (r : bQ K Z H ps xs) : RN K Z H (upd H a (.lst xs)) (.ref a) (.new (.lst ps)) :=
 ⟨a, rfl, hl, .lst bG (r.aP (.new (bN.upd hl) hl))⟩
theorem LR : eT K (G8 K) FJ := by
 intro Z H x y p q b Q hp hq h k
 cases p with
 | lst i =>
  cases q with
  | lst j =>
   obtain ⟨c, h⟩ := aS h
   cases h
   obtain ⟨a, xs, rfl, ha, ra⟩ := hp.p9
   obtain ⟨a', ys, rfl, ha', ra'⟩ := hq.p9
   exact ⟨a, a', xs, ys, rfl, rfl, ha.sq, ha'.sq, by rw [← ra.length, ← ra'.length]; exact Nat.le_of_lt (iX c), fun l hl => k _ _ (bN.upd hl) (z4 hl (ra.app ra'))⟩
  | _ => cases h
 | _ => cases h
noncomputable def E1 (K : PySem.W.Frag) : R2 := fun x y H Q => ∃ a b xs ys, x = .ref a ∧ y = .ref b ∧ TupAt K H a xs ∧ TupAt K H b ys ∧ xs.length + ys.length ≤ sizeLine ∧ ∀ p H', bN H H' → TupAt K H' p (xs ++ ys) → Q (.ref p) H'
theorem V3 {X : Cx} (K : PySem.W.Frag) (hK : X.K = K := by rfl) : iK X (binaryOp .Add) (E1 K) := by
 subst hK
 intro pins s σ H x y v u Q I rx ry h
 obtain ⟨a, b, xs, ys, rfl, rfl, ha, hb, hz, q⟩ := h
 cases rx
 cases ry
 obtain ⟨its, r1, p1, _⟩ := I.tuple ha.sq
 obtain ⟨its2, r2, p2, _⟩ := I.tuple hb.sq
 refine HT.LJ p1 p2 (fun z => ⟨.ref b, H, I, rfl, q b H (bN.refl _) (by rw [r1.A0.mp z]; exact hb)⟩) (fun z => ⟨.ref a, H, I, rfl, q a H (bN.refl _) (by rw [r2.A0.mp z, List.append_nil]; exact ha)⟩) (fun _ _ => ?_) (by rw [← r1.length, ← r2.length]; exact hz)
 refine ⟨.ref s.heap.objs.size, _, I.laid (t' := s.toks) (o := .tup (xs ++ ys)) (fun b ob q => Heap.get?_push_of_some _ q) (Nat.le_refl _) ?_, rfl, q _ _ (bN.upd (I.cI.fresh (Nat.le_refl _))) (.inl bG)⟩
 exact ⟨by rw [List.length_append]; exact hz, _, r1.append r2, IsTup.new _ _⟩
noncomputable def FD : PV → PV → Option Bv
 | .tup i, .tup j => bI (decide (i.length + j.length < 1000000)) (some (.val (.tup (i ++ j))))
 | _, _ => none
theorem J5 : eT K (E1 K) FD := by
 intro Z H x y p q b Q hp hq h k
 cases p with
 | tup i =>
  cases q with
  | tup j =>
   obtain ⟨c, h⟩ := aS h
   cases h
   obtain ⟨a, xs, rfl, ha, ra⟩ := hp.tup
   obtain ⟨a', ys, rfl, ha', ra'⟩ := hq.tup
   exact ⟨a, a', xs, ys, rfl, rfl, ha, ha', by rw [← ra.length, ← ra'.length]; exact Nat.le_of_lt (iX c), fun l H' s t => k _ _ s (Rep.tup t ((ra.app ra').aP (.same s)))⟩
  | _ => cases h
 | _ => cases h
theorem iK.or {X : Cx} {f : Value → Value → Sem Value} {r r' : R2} (h : iK X f r) (h' : iK X f r') : iK X f (fun x y H Q => r x y H Q ∨ r' x y H Q) := by
 intro pins s σ H x y v u Q I rx ry q
 rcases q with q | q
 ·exact h pins s σ H x y v u Q I rx ry q
 ·exact h' pins s σ H x y v u Q I rx ry q
noncomputable def NA (K : PySem.W.Frag) : R2 := fun x y H Q => A8 (fun i j => .int (i + j)) x y H Q ∨ ((∃ i j, x = .str i ∧ y = .str j ∧ i.length + j.length ≤ sizeLine ∧ Q (.str (i ++ j)) H) ∨ (G8 K x y H Q ∨ E1 K x y H Q))
theorem j4 {X : Cx} (K : PySem.W.Frag) (hK : X.K = K := by rfl) : iK X (binaryOp .Add) (NA K) := iK.or O0 (iK.or zK (iK.or (VI K hK) (V3 K hK)))
noncomputable def gT : PV → PV → Option Bv := fun p q => (QP (fun i j => .int (i + j)) p q).or ((HB p q).or ((FJ p q).or (FD p q)))
theorem eP : eT K (NA K) gT := eT.or (xW fun _ _ _ _ => .int _) (eT.or LQ (eT.or LR J5))
noncomputable def JL : PV → PV → Option Bv := fun p q => bI (gU 9 p && gU 9 q) (some (.val (.bl (bT p q))))
theorem Red.any {Z : aQ} {H : Hp} {p : PV} {v : V} (h : Red K Z H p v) : Red K d6 H p v := by
 have k : eA Z d6 H H := .less fun a z => z.elim
 cases h with
 | rep h => exact .rep (h.aP k)
 | lst h r => exact .lst h (r.aP k)
 | bW h e r => exact .bW h e (r.aP k)
theorem wV : eT K (JJ K false) JL := by
 intro Z H x y p q b Q hp hq h k
 obtain ⟨c, h⟩ := aS h
 rw [Bool.and_eq_true] at c
 cases h
 exact ⟨p, q, hp.any, hq.any, c.1, c.2, k _ H (bN.refl _) (Rep.bl _)⟩
noncomputable def D7 : PV → PV → Option Bv := fun p q => bI (gU 9 p && gU 9 q) (some (.val (.bl (!bT p q))))
theorem nM : eT K (JJ K true) D7 := by
 intro Z H x y p q b Q hp hq h k
 obtain ⟨c, h⟩ := aS h
 rw [Bool.and_eq_true] at c
 cases h
 exact ⟨p, q, hp.any, hq.any, c.1, c.2, k _ H (bN.refl _) (Rep.bl _)⟩
noncomputable def QH (neg : Bool) : PV → PV → Option Bv := fun p q => bO (AD q) fun ps => bI (gU 8 p && ps.all (gU 8)) (some (.val (.bl (if neg then !ps.any (fun z => bT z p) else ps.any fun z => bT z p))))
theorem OQ (neg : Bool) : eT K (K1 K neg) (QH neg) := by
 intro Z H x y p q b Q hp hq h k
 obtain ⟨ps, g, h⟩ := aL h
 obtain ⟨c, h⟩ := aS h
 rw [Bool.and_eq_true] at c
 cases h
 exact ⟨p, q, ps, hp.any, hq.any, g, c.1, c.2, k _ H (bN.refl _) (Rep.bl _)⟩
noncomputable def QL (neg : Bool) : PV → PV → Option Bv
 | .str i, .str j => some (.val (.bl (if neg then !(!(Builtin.Str.occurrences j i 0 j.length 1).isEmpty) else !(Builtin.Str.occurrences j i 0 j.length 1).isEmpty)))
 | _, _ => none
noncomputable def T4 (neg : Bool) : R2 := fun x y H Q => ∃ i j, x = .str i ∧ y = .str j ∧ Q (.bl (if neg then !(!(Builtin.Str.occurrences j i 0 j.length 1).isEmpty) else !(Builtin.Str.occurrences j i 0 j.length 1).isEmpty)) H
theorem NU (neg : Bool) : eT K (T4 neg) (QL neg) := by
 intro Z H x y p q b Q hp hq h k
 cases p with
 | str i =>
  cases q with
  | str j => cases h; exact ⟨i, j, hp.str, hq.str, k _ H (bN.refl _) (Rep.bl _)⟩
  | _ => cases h
 | _ => cases h
noncomputable def O3 (neg : Bool) : PV → PV → Option Bv
 | p, .bW kvs => bO (keyOf p) fun k => some (.val (.bl (if neg then !(d5 kvs k).isSome else (d5 kvs k).isSome)))
 | _, _ => none
noncomputable def LN (neg : Bool) : R2 := fun x y H Q => ∃ a kvs k, y = .ref a ∧ Rd H a (.dK kvs) ∧ x = kV k ∧ Q (.bl (if neg then !(fP kvs k).isSome else (fP kvs k).isSome)) H
theorem inD {X : Cx} {k : Nat} (hr : eU k X.A) : iK X (compareOp .In) (LN false) := by
 intro pins s σ H x y v u Q I rx ry h
 obtain ⟨a, kvs, key, rfl, ha, rfl, q⟩ := h
 cases ry
 exact VE (by have := hr.un; omega) I (.inl ⟨kvs, key, ha, rfl, rfl⟩) rx fun s' I' => ⟨.bl _, H, I', rfl, q⟩
theorem OS {X : Cx} {k : Nat} (hr : eU k X.A) : iK X (compareOp .NotIn) (LN true) := by
 intro pins s σ H x y v u Q I rx ry h
 obtain ⟨a, kvs, key, rfl, ha, rfl, q⟩ := h
 cases ry
 exact KN (by have := hr.un; omega) I (.inl ⟨kvs, key, ha, rfl, rfl⟩) rx fun s' I' => ⟨.bl _, H, I', rfl, q⟩
theorem OC (neg : Bool) : eT K (LN neg) (O3 neg) := by
 intro Z H x y p q b Q hp hq h k
 cases q with
 | bW kvs =>
  obtain ⟨key, g, h⟩ := aL h
  cases h
  obtain ⟨a, ys, rfl, ha, e, r⟩ := hq.yC
  refine ⟨a, ys, key, rfl, ha, hp.key g, ?_⟩
  have es : (fP ys key).isSome = (d5 kvs key).isSome := by
   rcases gH.val key ⟨e, r⟩ with ⟨h1, h2⟩ | ⟨p', v', h1, h2, _⟩
   ·rw [h1, h2]
    rfl
   ·rw [h1, h2]
    rfl
  rw [es]
  exact k _ H (bN.refl _) (Rep.bl _)
 | _ => cases h
noncomputable def OR (K : PySem.W.Frag) (neg : Bool) : R2 := fun x y H Q => T4 neg x y H Q ∨ (K1 K neg x y H Q ∨ LN neg x y H Q)
theorem UJ {X : Cx} {k : Nat} (K : PySem.W.Frag) (hr : eU k X.A) (hK : X.K = K := by rfl) : iK X (compareOp .In) (OR K false) := iK.or C7 (iK.or (UT K hr hK) (inD hr))
theorem nA {X : Cx} {k : Nat} (K : PySem.W.Frag) (hr : eU k X.A) (hK : X.K = K := by rfl) : iK X (compareOp .NotIn) (OR K true) := iK.or vI (iK.or (L7 K hr hK) (OS hr))
noncomputable def DP (neg : Bool) : PV → PV → Option Bv := fun p q => (QL neg p q).or ((QH neg p q).or (O3 neg p q))
theorem kO (neg : Bool) : eT K (OR K neg) (DP neg) := eT.or (NU neg) (eT.or (OQ neg) (OC neg))
noncomputable def ID (f : Str → Str → Bool) : PV → PV → Option Bv
 | .str i, .str j => some (.val (.bl (f i j)))
 | _, _ => none
theorem KS {f : Str → Str → Bool} : eT K (fun x y H Q => ∃ i j, x = .str i ∧ y = .str j ∧ Q (.bl (f i j)) H) (ID f) := by
 intro Z H x y p q b Q hp hq h k
 cases p with
 | str i =>
  cases q with
  | str j => cases h; exact ⟨i, j, hp.str, hq.str, k _ H (bN.refl _) (Rep.bl _)⟩
  | _ => cases h
 | _ => cases h
noncomputable def TZ : R2 := fun x y H Q => A8 (fun i j => .bl (decide (i < j))) x y H Q ∨ ∃ i j, x = .str i ∧ y = .str j ∧ Q (.bl (decide (i.cps.toList < j.cps.toList))) H
theorem WO {X : Cx} : iK X (compareOp .Lt) TZ := iK.or SM CK
noncomputable def UB : PV → PV → Option Bv := fun p q => (QP (fun i j => .bl (decide (i < j))) p q).or (ID (fun i j => decide (i.cps.toList < j.cps.toList)) p q)
theorem TY : eT K TZ UB := eT.or (xW fun _ _ _ _ => .bl _) KS
noncomputable def T9 : PV → PV → Option Bv := QP fun i j => .bl (decide (j < i))
theorem GF : eT K (A8 fun i j => .bl (decide (j < i))) T9 := xW fun _ _ _ _ => .bl _
noncomputable def UE : PV → PV → Option Bv := QP fun i j => .bl (decide (j ≤ i))
theorem TH : eT K (A8 fun i j => .bl (decide (j ≤ i))) UE := xW fun _ _ _ _ => .bl _
noncomputable def isNone : PV → Bool
 | .bJ => true
 | _ => false
theorem Red.isNone {Z : aQ} {H : Hp} {p : PV} {v : V} (h : Red K Z H p v) : decide (v = .bJ) = Mr.isNone p := by
 cases h with
 | rep h => cases h <;> rfl
 | lst h r => rfl
 | bW h e r => rfl
noncomputable def UY (neg : Bool) : PV → PV → Option Bv
 | p, .bJ => some (.val (.bl (if neg then !isNone p else isNone p)))
 | _, _ => none
theorem RW : eT K (fun x y H Q => y = .bJ ∧ Q (.bl (decide (x = .bJ))) H) (UY false) := by
 intro Z H x y p q b Q hp hq h k
 cases q with
 | bJ => cases h; exact ⟨hq.bJ, by rw [hp.isNone]; exact k _ H (bN.refl _) (Rep.bl _)⟩
 | _ => cases h
noncomputable def fZ : PV → PV → Option Bv
 | .lst ps, .int i => bO (oS ps i) fun p => some (.val p)
 | .tup ps, .int i => bO (oS ps i) fun p => some (.val p)
 | .str z, .int i => bI (decide (z.length < 1000000)) (bO (oS z.cps.toList i) fun c => some (.val (.str ⟨#[c]⟩)))
 | .bW kvs, p => bO (keyOf p) fun k => bO (d5 kvs k) fun q => some (.val q)
 | _, _ => none
theorem bQ.oS {Z : aQ} {H : Hp} {ps : List PV} {xs : List V} {i : Int} {p : PV} (r : bQ K Z H ps xs) (h : L2.oS ps i = some p) : ∃ v, L2.oS xs i = some v ∧ Rep K Z H p v := by
 unfold L2.oS at h ⊢
 rw [← r.length]
 cases c : sS ps.length i with
 | none => rw [c] at h; cases h
 | some j => rw [c] at h; exact r.get h
noncomputable def SS : R2 := fun x y H Q => ∃ a kvs k v, x = .ref a ∧ Rd H a (.dK kvs) ∧ y = kV k ∧ fP kvs k = some v ∧ Q v H
theorem WN {X : Cx} {k : Nat} (hr : eU k X.A) : zV X SS := by
 intro value slice pins s σ H x y v u Q I rx ry h hs
 obtain ⟨a, kvs, key, w, rfl, ha, rfl, hv, q⟩ := h
 cases rx
 have g : AB H a (kV key) (some w) := .inl ⟨kvs, key, ha, rfl, hv.symm⟩
 have hT := x8 I g
 unfold subscriptTail
 refine wpAny_bind ?_
 rw [getitemInPython_of_ne hT.not_modules]
 refine wpAny_bind (wpAny_specialOf hT PySem.F.slot_dict_getitem.lookup ?_)
 have fin : wpAny (model X.prog X.w) X.A (subscripted slice false (.ref a) u) (fun r s₃ => wpAny (model X.prog X.w) X.A (letTemporaryGo value (.ref a) r >>= fun _ => pure r) (EP X pins σ Q) X.xe s₃) X.xe s := by
  rw [hs]
  exact wpAny_operating (wpAny_mono (DS (by have := hr.un; omega) I g ry fun w' s3 I3 rw' => (⟨w, H, I3, rw', q⟩ : EP X pins σ Q w' s3)) (fun r s₃ h₃ => wpAny_bind (wpAny_letTemporaryGo (wpAny_pure h₃))) fun _ _ x => x)
 first
  | exact wpAny_pure (wpAny_bind fin)
  | exact wpAny_bind (wpAny_pure (wpAny_bind fin))
  | exact wpAny_bind fin
noncomputable def T6 (K : PySem.W.Frag) : R2 := fun x y H Q => N0 K x y H Q ∨ (NK K x y H Q ∨ (RT x y H Q ∨ SS x y H Q))
theorem iF {X : Cx} {k : Nat} (K : PySem.W.Frag) (hr : eU k X.A) (hK : X.K = K := by rfl) : zV X (T6 K) := zV.or (WZ K hK) (zV.or (WT K hK) (zV.or PZ (WN hr)))
theorem bY : eT K (T6 K) fZ := by
 intro Z H x y p q b Q hp hq h k
 cases p with
 | lst ps =>
  cases q with
  | int i =>
   obtain ⟨p, g, h⟩ := aL h
   cases h
   obtain ⟨a, xs, rfl, ha, ra⟩ := hp.p9
   obtain ⟨v, hv, rv⟩ := ra.oS g
   exact .inl ⟨a, xs, i, v, rfl, hq.int, ha.sq, hv, k _ H (bN.refl _) rv⟩
  | _ => cases h
 | tup ps =>
  cases q with
  | int i =>
   obtain ⟨p, g, h⟩ := aL h
   cases h
   obtain ⟨a, xs, rfl, ha, ra⟩ := hp.tup
   obtain ⟨v, hv, rv⟩ := ra.oS g
   exact .inr (.inl ⟨a, xs, i, v, rfl, hq.int, ha.sq, hv, k _ H (bN.refl _) rv⟩)
  | _ => cases h
 | str z =>
  cases q with
  | int i =>
   obtain ⟨c, h⟩ := aS h
   obtain ⟨p, g, h⟩ := aL h
   cases h
   exact .inr (.inr (.inl ⟨z, i, p, hp.str, hq.int, Nat.le_of_lt (iX c), g, k _ H (bN.refl _) (Rep.str _)⟩))
  | _ => cases h
 | bW kvs =>
  have h : (bO (keyOf q) fun k => bO (d5 kvs k) fun q => some (Bv.val q)) = some b := by cases q <;> exact h
  obtain ⟨key, g, h⟩ := aL h
  obtain ⟨p, g2, h⟩ := aL h
  cases h
  obtain ⟨a, ys, rfl, ha, e, r⟩ := hp.yC
  rcases gH.val key ⟨e, r⟩ with ⟨h1, h2⟩ | ⟨p', v', h1, h2, h3⟩
  ·rw [h1] at g2; cases g2
  ·rw [h1] at g2
   cases g2
   exact .inr (.inr (.inr ⟨a, ys, key, v', rfl, ha, hq.key g, h2, k _ H (bN.refl _) h3⟩))
 | _ => cases q <;> cases h
noncomputable def qS (xs : List PV) (lo hi : Option Int) : List PV := (xs.drop (HT.fS xs.length 0 lo)).take (HT.fS xs.length xs.length hi - HT.fS xs.length 0 lo)
theorem bQ.cut {Z : aQ} {H : Hp} {ps : List PV} {xs : List V} (r : bQ K Z H ps xs) (lo hi : Option Int) : bQ K Z H (qS ps lo hi) (qU xs lo hi) := by
 unfold qS qU
 rw [← r.length]
 exact (r.drop _).take _
noncomputable def TQ (K : PySem.W.Frag) : V → Option Int → Option Int → Hp → VK → Prop := fun x lo hi H Q => ∃ a xs, x = .ref a ∧ TupAt K H a xs ∧ ∀ p H', bN H H' → TupAt K H' p (qU xs lo hi) → Q (.ref p) H'
theorem U1 {X : Cx} (K : PySem.W.Frag) (hK : X.K = K := by rfl) : C5 X (TQ K) := by
 subst hK
 intro pins s σ H x v vl vu lo hi sl Q I rx hs pl pu h
 obtain ⟨a, xs, rfl, hx, q⟩ := h
 by_cases hw : HT.fS xs.length 0 lo = 0 ∧ HT.fS xs.length xs.length hi = xs.length
 ·cases rx
  obtain ⟨its, r, ht, hz⟩ := I.tuple hx.sq
  have hlen : its.toArray.size = xs.length := by rw [List.size_toArray]; exact r.length.symm
  refine ⟨"tuple", _, PyProof.Rows.slot_tuple_getitem.lookup, ht.typeIs, ?_⟩
  refine HT.n6 ht hs pl pu (by rw [hlen]; exact hw) ⟨.ref a, H, I, rfl, q a H (bN.refl _) ?_⟩
  have e : qU xs lo hi = xs := by unfold qU; rw [hw.1, hw.2, List.drop_zero, Nat.sub_zero, List.take_length]
  rw [e]; exact hx
 ·exact QC pins s σ H (.ref a) v vl vu lo hi sl Q I rx hs pl pu ⟨a, xs, rfl, hx.sq, hw, fun p hp => q p _ (bN.upd hp) (.inl bG)⟩
noncomputable def HA (K : PySem.W.Frag) : V → Option Int → Option Int → Hp → VK → Prop := fun x lo hi H Q => QI K x lo hi H Q ∨ (TQ K x lo hi H Q ∨ (∃ z, x = .str z ∧ z.length ≤ sizeLine ∧ Q (.str (Txt.slice z lo hi)) H))
theorem S7 {X : Cx} (K : PySem.W.Frag) (hK : X.K = K := by rfl) : C5 X (HA K) := C5.or (WW K hK) (C5.or (U1 K hK) RC)
noncomputable def J7 : PV → Option Int → Option Int → Option Bv
 | .lst ps, lo, hi => some (.new (.lst (qS ps lo hi)))
 | .tup ps, lo, hi => some (.val (.tup (qS ps lo hi)))
 | .str z, lo, hi => bI (decide (z.length < 1000000)) (some (.val (.str (Txt.slice z lo hi))))
 | _, _, _ => none
theorem xB : R6 K (HA K) J7 := by
 intro Z H x p lo hi b Q hp h k
 cases p with
 | lst ps =>
  cases h
  obtain ⟨a, xs, rfl, ha, ra⟩ := hp.p9
  exact .inl ⟨a, xs, rfl, ha.sq, fun l hl => k _ _ (bN.upd hl) (z4 hl (ra.cut lo hi))⟩
 | tup ps =>
  cases h
  obtain ⟨a, xs, rfl, ha, ra⟩ := hp.tup
  exact .inr (.inl ⟨a, xs, rfl, ha, fun l H' s t => k _ _ s (Rep.tup t ((ra.cut lo hi).aP (.same s)))⟩)
 | str z =>
  obtain ⟨c, h⟩ := aS h
  cases h
  exact .inr (.inr ⟨z, hp.str, Nat.le_of_lt (iX c), k _ H (bN.refl _) (Rep.str _)⟩)
 | _ => cases h
theorem sW.one {Z : aQ} {H : Hp} {p : PV} {vs : List V} (h : sW K Z H [p] vs) : ∃ v, vs = [v] ∧ Red K Z H p v := by
 cases h with | cons h r => cases r; exact ⟨_, rfl, h⟩
theorem sW.two {Z : aQ} {H : Hp} {p q : PV} {vs : List V} (h : sW K Z H [p, q] vs) : ∃ v u, vs = [v, u] ∧ Red K Z H p v ∧ Red K Z H q u := by
 cases h with | cons h r => cases r with | cons h' r => cases r; exact ⟨_, _, rfl, h, h'⟩
noncomputable def sH : List PV → Option Bv
 | [.lst ps] => some (.val (.int ps.length))
 | [.tup ps] => some (.val (.int ps.length))
 | [.str z] => bI (decide (z.length < 1000000)) (some (.val (.int z.length)))
 | _ => none
noncomputable def G7 (K : PySem.W.Frag) : List V → Hp → VK → Prop := fun xs H Q => (∃ p ys, xs = [.ref p] ∧ (iZ K H p ys ∨ mB K H p ys) ∧ Q (.int ys.length) H) ∨ ∃ z, xs = [.str z] ∧ z.length ≤ sizeLine ∧ Q (.int z.length) H
theorem zW {X : Cx} (K : PySem.W.Frag) (hK : X.K = K := by rfl) : dN X (.builtin "len") (G7 K) := by subst hK; exact dN.or oG u7
theorem m4 : jI K (G7 K) sH := by
 intro Z H vs ps b Q hp h k
 unfold sH at h
 split at h
 ·cases h
  obtain ⟨v, rfl, hv⟩ := hp.one
  obtain ⟨a, xs, rfl, ha, ra⟩ := hv.p9
  exact .inl ⟨a, xs, rfl, .inl ha.sq, k _ H (bN.refl _) (by rw [ra.length]; exact Rep.int _)⟩
 ·cases h
  obtain ⟨v, rfl, hv⟩ := hp.one
  obtain ⟨a, xs, rfl, ha, ra⟩ := hv.tup
  exact .inl ⟨a, xs, rfl, .inr ha.sq, k _ H (bN.refl _) (by rw [ra.length]; exact Rep.int _)⟩
 ·obtain ⟨c, h⟩ := aS h
  cases h
  obtain ⟨v, rfl, hv⟩ := hp.one
  exact .inr ⟨_, by rw [hv.str], Nat.le_of_lt (iX c), k _ H (bN.refl _) (Rep.int _)⟩
 ·cases h
noncomputable def kT : List PV → Option Bv
 | [.lst ps] => some (.val (.tup ps))
 | [.tup ps] => some (.val (.tup ps))
 | _ => none
noncomputable def MZ (K : PySem.W.Frag) : List V → Hp → VK → Prop := fun xs H Q => ∃ p ys, xs = [.ref p] ∧ ((iZ K H p ys ∧ ∀ l, H l = none → Q (.ref l) (upd H l (.tup ys))) ∨ (mB K H p ys ∧ Q (.ref p) H))
theorem yR {X : Cx} (K : PySem.W.Frag) (hK : X.K = K := by rfl) : dN X (.type "tuple") (MZ K) := by subst hK; exact sZ
theorem jB : jI K (MZ K) kT := by
 intro Z H vs ps b Q hp h k
 unfold kT at h
 split at h
 ·cases h
  obtain ⟨v, rfl, hv⟩ := hp.one
  obtain ⟨a, xs, rfl, ha, ra⟩ := hv.p9
  exact ⟨a, xs, rfl, .inl ⟨ha.sq, fun l hl => k _ _ (bN.upd hl) (Rep.tup (.inl bG) (ra.aP (.same (bN.upd hl))))⟩⟩
 ·cases h
  obtain ⟨v, rfl, hv⟩ := hp.one
  obtain ⟨a, xs, rfl, ha, ra⟩ := hv.tup
  exact ⟨a, xs, rfl, .inr ⟨ha.sq, k _ H (bN.refl _) (Rep.tup ha ra)⟩⟩
 ·cases h
noncomputable def uV : List PV → Option Bv
 | [.lst ps] => some (.new (.lst ps))
 | [.tup ps] => some (.new (.lst ps))
 | _ => none
theorem IJ : jI K (HS K) uV := by
 intro Z H vs ps b Q hp h k
 unfold uV at h
 split at h
 ·cases h
  obtain ⟨v, rfl, hv⟩ := hp.one
  obtain ⟨a, xs, rfl, ha, ra⟩ := hv.p9
  exact ⟨a, xs, rfl, .inl ha.sq, fun l hl => k _ _ (bN.upd hl) (z4 hl ra)⟩
 ·cases h
  obtain ⟨v, rfl, hv⟩ := hp.one
  obtain ⟨a, xs, rfl, ha, ra⟩ := hv.tup
  exact ⟨a, xs, rfl, .inr ha.sq, fun l hl => k _ _ (bN.upd hl) (z4 hl ra)⟩
 ·cases h
noncomputable def BL : List PV → Option Bv
 | [.int i, .int j] => some (.val (.int (if j < i then j else i)))
 | _ => none
theorem JQ : jI K (fun xs H Q => ∃ i j, xs = [.int i, .int j] ∧ Q (.int (if j < i then j else i)) H) BL := by
 intro Z H vs ps b Q hp h k
 unfold BL at h
 split at h
 ·cases h
  obtain ⟨v, u, rfl, hv, hu⟩ := hp.two
  exact ⟨_, _, by rw [hv.int, hu.int], k _ H (bN.refl _) (Rep.int _)⟩
 ·cases h
noncomputable def xA : List PV → Option Bv
 | [.int i] => some (.val (.int i))
 | [.bl k] => some (.val (.int (if k then 1 else 0)))
 | _ => none
theorem KW : jI K (fun xs H Q => (∃ i, xs = [.int i] ∧ Q (.int i) H) ∨ ∃ k, xs = [.bl k] ∧ Q (.int (if k then 1 else 0)) H) xA := by
 intro Z H vs ps b Q hp h k
 unfold xA at h
 split at h
 ·cases h
  obtain ⟨v, rfl, hv⟩ := hp.one
  exact .inl ⟨_, by rw [hv.int], k _ H (bN.refl _) (Rep.int _)⟩
 ·cases h
  obtain ⟨v, rfl, hv⟩ := hp.one
  exact .inr ⟨_, by rw [hv.bl], k _ H (bN.refl _) (Rep.int _)⟩
 ·cases h
noncomputable def xK : List PV → Option Bv
 | [.int i] => bI (decide (i.natAbs.log2 < 1920)) (some (.val (.str (toString i))))
 | _ => none
theorem BF : jI K (fun xs H Q => ∃ i, xs = [.int i] ∧ i.natAbs.log2 < 1920 ∧ Q (.str (toString i)) H) xK := by
 intro Z H vs ps b Q hp h k
 unfold xK at h
 split at h
 ·obtain ⟨c, h⟩ := aS h
  cases h
  obtain ⟨v, rfl, hv⟩ := hp.one
  exact ⟨_, by rw [hv.int], of_decide_eq_true c, k _ H (bN.refl _) (Rep.str _)⟩
 ·cases h
noncomputable def uF : List PV → Option (List Str)
 | [] => some []
 | .str x :: ps => bO (uF ps) fun xs => some (x :: xs)
 | _ => none
theorem rF : ∀ {ps : List PV} {xs : List Str}, uF ps = some xs → ps = xs.map PV.str
 | [], xs, h => by cases h; rfl
 | p :: ps, xs, h => by
  cases p with
  | str x =>
   obtain ⟨ys, g, h⟩ := aL h
   cases h
   rw [rF g]; rfl
  | _ => cases h
theorem CZ (xs : List Str) : uF (xs.map PV.str) = some xs := by
 induction xs with
 | nil => rfl
 | cons x xs ih => rw [List.map_cons, uF, ih]; rfl
theorem bQ.strs {Z : aQ} {H : Hp} : ∀ {xs : List Str} {vs : List V}, bQ K Z H (xs.map PV.str) vs → vs = xs.map V.str
 | [], vs, h => by cases h; rfl
 | x :: xs, vs, h => by cases h with | cons h r => cases h; rw [bQ.strs r]; rfl
noncomputable def w6 : PV → List PV → Option Bv
 | .str z, [.lst ps] => bO (uF ps) fun xs => bI (decide ((xs.map (·.length)).sum + xs.length * z.length < 1000000)) (some (.val (.str (Txt.join z xs))))
 | _, _ => none
theorem MA : TF K (rJoin K) w6 := by
 intro Z H x vs p ps b Q hp hps h k
 unfold w6 at h
 split at h
 ·obtain ⟨xs, g, h⟩ := aL h
  obtain ⟨c, h⟩ := aS h
  cases h
  obtain ⟨v, rfl, hv⟩ := hps.one
  obtain ⟨a, ys, rfl, ha, ra⟩ := hv.p9
  rw [rF g] at ra
  rw [ra.strs] at ha
  refine ⟨_, a, xs, hp.str, rfl, ha.sq, ?_, k _ H (bN.refl _) (Rep.str _)⟩
  have := of_decide_eq_true c
  omega
 ·cases h
noncomputable def iD : PV → Option (List PV)
 | .lst ps => some ps
 | .tup ps => some ps
 | .str z => some (z.cps.toList.map fun c => .str ⟨#[c]⟩)
 | _ => none
noncomputable def y9 (f : FE) : FI := fun st e => bE (f e) fun b e1 => match b with
 | .slot i => match e1[i]? with
  | some (some (.bor p)) => bO (iD p) fun ps => some (ps, e1)
  | some (some (.own p)) => bI (st i) (bO (iD p) fun ps => some (ps, e1))
  | some (some (.loc p)) => bI (st i) (bO (iD p) fun ps => some (ps, e1))
  | _ => none
 | .val p => bO (iD p) fun ps => some (ps, e1)
 | .new p => bO (iD p) fun ps => some (ps, e1)
noncomputable def QB (K : PySem.W.Frag) (tl : TE) : TI := fun σ H R => tl σ H fun x H1 => (∃ a, x = .ref a ∧ (∃ xs, iZ K H1 a xs) ∧ R (UI K a) H1) ∨ ((∃ a, x = .ref a ∧ (∃ xs, mB K H1 a xs) ∧ R (UC K a) H1) ∨ ∃ z, x = .str z ∧ R (RJ z) H1)
theorem hJ (K : PySem.W.Frag) {X : Cx} {tg l : Expr} {tl : TE} (hl : PE X l tl) (hK : X.K = K := by rfl) : PI X tg l (QB K tl) := by
 subst hK
 intro pins s σ H R I h
 refine d8 (hl pins s σ H _ I h) fun v s1 ⟨x, H1, I1, r1, q1⟩ => ?_
 rcases q1 with ⟨a, e, ⟨xs, hq⟩, q⟩ | ⟨a, e, ⟨xs, hq⟩, q⟩ | ⟨z, e, q⟩
 ·subst e
  cases r1
  obtain ⟨its, rv, p, hz⟩ := I1.list hq
  refine wpAny_pyIter_list p.isList ?_
  refine ⟨s1.heap.objs.size, [s1.heap.objs.size], _, _, H1, rfl, I1.kept (t' := s1.toks) fun b o e => Heap.get?_push_of_some _ e, DT a _, ⟨_, Heap.get?_push_size _ rfl, rfl, rfl⟩, fun b hb => ?_, q⟩
  have e : b = s1.heap.objs.size := by simpa using hb
  subst e
  exact I1.wG (Nat.le_refl _) (I1.cI.fresh (Nat.le_refl _))
 ·subst e
  cases r1
  obtain ⟨its, rv, p, hz⟩ := I1.tuple hq
  refine wpAny_pyIter_tuple (show s1.heap.IsTuple a its.toArray from p) ?_
  refine ⟨s1.heap.objs.size, [s1.heap.objs.size], _, _, H1, rfl, I1.kept (t' := s1.toks) fun b o e => Heap.get?_push_of_some _ e, z7 a _, ⟨_, Heap.get?_push_size _ rfl, rfl, rfl⟩, fun b hb => ?_, q⟩
  have e : b = s1.heap.objs.size := by simpa using hb
  subst e
  exact I1.wG (Nat.le_refl _) (I1.cI.fresh (Nat.le_refl _))
 ·subst e
  obtain ⟨t, rfl⟩ := r1
  cases ha : z.cps.all (· < 128) with
  | true =>
   refine wpAny_pyIter_ascii ha ?_
   refine ⟨s1.heap.objs.size, [s1.heap.objs.size], _, _, H1, rfl, I1.kept (t' := s1.toks) fun b o e => Heap.get?_push_of_some _ e, CG z t _, ⟨_, Heap.get?_push_size _ rfl, rfl, rfl⟩, fun b hb => ?_, q⟩
   have e : b = s1.heap.objs.size := by simpa using hb
   subst e
   exact I1.wG (Nat.le_refl _) (I1.cI.fresh (Nat.le_refl _))
  | false =>
   refine wpAny_pyIter_wide ha ?_
   refine ⟨s1.heap.objs.size, [s1.heap.objs.size], _, _, H1, rfl, I1.kept (t' := s1.toks) fun b o e => Heap.get?_push_of_some _ e, CN z t _, ⟨_, Heap.get?_push_size _ rfl, rfl, rfl⟩, fun b hb => ?_, q⟩
   have e : b = s1.heap.objs.size := by simpa using hb
   subst e
   exact I1.wG (Nat.le_refl _) (I1.cI.fresh (Nat.le_refl _))
theorem wK {O M L Wr L' : aQ} {W : WS} {H H' : Hp} (o : j7 O M W L H) (hw : ∀ a, Wr a → aw W a ∨ L a) (k1 : ∀ a ob, H a = some ob → ¬ Wr a → H' a = some ob) (k2 : ∀ a xs, H a = some (.tup xs) → H' a = some (.tup xs)) (k3 : ∀ a, L' a → L a ∨ H a = none) : eA (bD M L) (bD M L') H H' :=
 ⟨k2, fun a ob h n => ⟨k1 a ob h fun z => n ((hw a z).elim (fun ⟨i, w⟩ => .inl (o.wm i a w)) .inr), fun z => z.elim (fun z => n (.inl z)) fun z => (k3 a z).elim (fun z => n (.inr z)) fun z => by rw [h] at z; cases z⟩⟩
theorem oJ {O M L Wr : aQ} {W : WS} {H : Hp} {a : Addr} {xs : List V} {ps : List PV} (o : j7 O M W L H) (hw : ∀ a, Wr a → aw W a ∨ L a) (ha : (Rd H a (.lst xs) ∧ ¬ Wr a) ∨ O8 K a xs) (r : bQ K (bD M L) H ps xs) : GJ K M L Wr H (UI K a) ps := by
 intro L' H' k1 k2 k3
 have st := wK o hw k1 k2 k3
 have sq : iZ K H' a xs := by
  rcases ha with ⟨h | ⟨u, h⟩, n⟩ | h
  ·exact .inl (.inl (k1 _ _ h n))
  ·exact .inl (.inr ⟨u, k1 _ _ h n⟩)
  ·exact .inr h
 refine ⟨fun k p hp => ?_, xs, sq, by rw [r.length]; exact Nat.le_refl _⟩
 obtain ⟨v, hv, rv⟩ := r.get hp
 refine ⟨⟨xs, v, sq, hv⟩, fun x H3 y => ?_⟩
 obtain ⟨e, y⟩ := y
 subst e
 have := y xs sq
 rw [hv] at this
 cases this
 exact ⟨bN.refl _, rv.aP st⟩
theorem O5 {O M L Wr : aQ} {W : WS} {H : Hp} {a : Addr} {xs : List V} {ps : List PV} (o : j7 O M W L H) (hw : ∀ a, Wr a → aw W a ∨ L a) (ha : TupAt K H a xs) (r : bQ K (bD M L) H ps xs) : GJ K M L Wr H (UC K a) ps := by
 intro L' H' k1 k2 k3
 have st := wK o hw k1 k2 k3
 have sq : mB K H' a xs := TupAt.sq (ha.elim (fun h => .inl (k2 _ _ h)) .inr)
 refine ⟨fun k p hp => ?_, xs, sq, by rw [r.length]; exact Nat.le_refl _⟩
 obtain ⟨v, hv, rv⟩ := r.get hp
 refine ⟨⟨xs, v, sq, hv⟩, fun x H3 y => ?_⟩
 obtain ⟨e, y⟩ := y
 subst e
 have := y xs sq
 rw [hv] at this
 cases this
 exact ⟨bN.refl _, rv.aP st⟩
theorem OL {M L Wr : aQ} {H : Hp} {z : Str} : GJ K M L Wr H (RJ z) (z.cps.toList.map fun c => .str ⟨#[c]⟩) := by
 intro L' H' k1 k2 k3
 refine ⟨fun k p hp => ?_, by simp [RJ]⟩
 rw [List.getElem?_map] at hp
 cases c : z.cps.toList[k]? with
 | none => rw [c] at hp; cases hp
 | some d =>
  rw [c] at hp
  cases hp
  have hk : k < z.cps.size := by simpa using (List.getElem?_eq_some_iff.mp c).1
  refine ⟨hk, fun x H3 y => ?_⟩
  obtain ⟨e, d', h1, h2⟩ := y
  subst e h2
  rw [← Array.getElem?_toList, c] at h1
  cases h1
  exact ⟨bN.refl _, .str _⟩
theorem iE {t : TE} {f : FE} (h : Ref K t f) : vV K (QB K t) (y9 f) := by
 intro st O M W L σ H e e' ps R o he hf q
 obtain ⟨x, e1, f1, hf⟩ := aT hf
 refine h O M W L σ H e e1 x _ o he f1 fun v H1 k1 rb fr => ?_
 have o1 := o.keep k1.cZ
 have en := rb.en o1
 have vals : ∀ p, Rep K (bD M L) H1 p v → iD p = some ps → e1 = e' → (∃ a, v = .ref a ∧ (∃ xs, iZ K H1 a xs) ∧ R (UI K a) H1) ∨ ((∃ a, v = .ref a ∧ (∃ xs, mB K H1 a xs) ∧ R (UC K a) H1) ∨ ∃ z, v = .str z ∧ R (RJ z) H1) := fun p hp hi ee => by
  subst ee
  cases hp with
  | lst ha n r =>
   cases hi
   exact .inl ⟨_, rfl, ⟨_, .inl ha⟩, q _ H1 k1 en fun Wr hw _ => oJ o1 hw (.inl ⟨ha, fun z => n ((hw _ z).elim (fun ⟨i, w⟩ => .inl (o.wm i _ w)) .inr)⟩) r⟩
  | tup ha r =>
   cases hi
   exact .inr (.inl ⟨_, rfl, ⟨_, ha.sq⟩, q _ H1 k1 en fun Wr hw _ => O5 o1 hw ha r⟩)
  | str z =>
   cases hi
   exact .inr (.inr ⟨z, rfl, q _ H1 k1 en fun Wr hw _ => OL⟩)
  | _ => cases hi
 cases x with
 | val p =>
  obtain ⟨ps', g, hf⟩ := aL hf
  cases hf
  exact vals p rb.2 g rfl
 | new p =>
  obtain ⟨ps', g, hf⟩ := aL hf
  cases hf
  exact vals p (rb.weak o1).2 g rfl
 | slot i =>
  dsimp only at hf
  cases c : e1[i]? with
  | none => rw [c] at hf; cases hf
  | some s =>
   cases s with
   | none => rw [c] at hf; cases hf
   | some s =>
    rw [c] at hf
    obtain ⟨u, hu, sr⟩ := rb.1.at' i s c
    have := rb.2
    rw [hu] at this
    cases this
    cases s with
    | val p => cases hf
    | bor p =>
     obtain ⟨ps', g, hf⟩ := aL hf
     cases hf
     obtain ⟨a, rfl, lt⟩ := sr
     cases lt with
     | lst ha od n m r => cases g; exact .inl ⟨a, rfl, ⟨_, .inl ha⟩, q _ H1 k1 en fun Wr hw _ => oJ o1 hw (.inl ⟨ha, fun z => (hw _ z).elim n m⟩) r⟩
     | fE ha r => cases g; exact .inl ⟨a, rfl, ⟨_, .inr ha⟩, q _ H1 k1 en fun Wr hw _ => oJ o1 hw (.inr ha) r⟩
     | bW ha od n m kk r => cases g
    | own p =>
     obtain ⟨hst, hf⟩ := aS hf
     obtain ⟨ps', g, hf⟩ := aL hf
     cases hf
     obtain ⟨a, rfl, w, ct⟩ := sr
     cases ct with
     | lst ha r => cases g; exact .inl ⟨a, rfl, ⟨_, iZ.of ha⟩, q _ H1 k1 en fun Wr hw hs => oJ o1 hw (.inl ⟨.inl ha, hs i a _ hst c rfl hu⟩) r⟩
     | bW ha kk r => cases g
    | loc p =>
     obtain ⟨hst, hf⟩ := aS hf
     obtain ⟨ps', g, hf⟩ := aL hf
     cases hf
     obtain ⟨a, rfl, w, ct⟩ := sr
     cases ct with
     | lst ha r => cases g; exact .inl ⟨a, rfl, ⟨_, iZ.of ha⟩, q _ H1 k1 en fun Wr hw hs => oJ o1 hw (.inl ⟨.inl ha, hs i a _ hst c rfl hu⟩) r⟩
     | bW ha kk r => cases g
theorem FU {M L Wr : aQ} {H : Hp} {lo : Int} {n : Nat} : GJ K M L Wr H (RF lo n) ((List.range n).map fun k : Nat => .int (lo + (k : Int))) := by
 intro L' H' k1 k2 k3
 refine ⟨fun k p hp => ?_, by simp [RF]⟩
 rw [List.getElem?_map] at hp
 by_cases hk : k < n
 ·rw [List.getElem?_range hk] at hp
  cases hp
  refine ⟨hk, fun x H3 y => ?_⟩
  obtain ⟨e, y⟩ := y
  subst e y
  exact ⟨bN.refl _, .int _⟩
 ·rw [List.getElem?_eq_none (by simpa using hk)] at hp
  cases hp
end
end Mr
namespace Mr
open PySem PySem.Spec L2 PyProof.Rows
section
variable {K : PySem.W.Frag}
theorem MB {f : FN} {vs : List V} {H : Hp} {Q : VK} {E : XK} (hf : ∀ ns : List Int, ns.length ≤ 63 → f [.lst (ns.map PV.int)] = some (.bl true, [])) (h : BV K vs H Q E) : hZ K [.b] false f vs H Q E := by
 obtain ⟨a, ns, rfl, hS, hl, q⟩ := h
 have rl : ∀ (Z : aQ) (ms : List Int), bQ K Z H (ms.map PV.int) (ms.map V.int) := fun Z ms => by
  induction ms with
  | nil => exact .nil
  | cons m ms ih => exact .cons (.int m) ih
 refine ⟨d6, [.lst (ns.map PV.int)], .bl true, [], fun a z => z.elim, rfl, rfl, fun i k p v h1 h2 h3 => ?_, fun i j hij h1 h2 => ?_, fun i a ⟨h1, _⟩ => ?_, hf ns hl, fun v H' k r => ?_⟩
 ·cases i with
  | zero =>
   cases h1
   cases h2
   cases h3
   have nw : ¬ aw (m5 [.b] [.ref a] H) a := fun ⟨i, h, _⟩ => by
    cases i with
    | zero => cases h
    | succ i => simp at h
   rcases hS with h | h
   ·refine ⟨a, rfl, .lst h ?_ nw (fun z => z) (rl _ ns)⟩
    rcases h with h | ⟨u, h⟩
    ·show H a ≠ none
     rw [h]; exact fun z => nomatch z
    ·show H a ≠ none
     rw [h]; exact fun z => nomatch z
   ·exact ⟨a, rfl, .fE h (rl _ ns)⟩
  | succ i => simp at h1
 ·cases i with
  | zero => cases h1
  | succ i => simp at h1
 ·cases i with
  | zero => cases h1
  | succ i => simp at h1
 ·obtain ⟨r, _⟩ := r
  cases r
  exact q H'
noncomputable def kdOf : PV → Option L2.Kd
 | .bJ => some .bJ
 | .bl _ => some .bl
 | .int _ => some .int
 | .str _ => some .str
 | .lst _ => some .lst
 | .tup _ => some .tup
 | .bW _ => some .bW
 | .ty _ => none
noncomputable def UZ (k : L2.Kd) : String → Option Bool
 | "str" => some (decide (k = .str))
 | "tuple" => some (decide (k = .tup))
 | "int" => some (decide (k = .int) || decide (k = .bl))
 | "bool" => some (decide (k = .bl))
 | _ => none
noncomputable def PH : PV → Option Bool
 | .bJ => some false
 | .bl b => some b
 | .int i => some (i != 0)
 | .str y => bI (decide (y.length < 1000000)) (some ((y.length : Int) != 0))
 | .lst ps => some (!ps.isEmpty)
 | .tup ps => some (!ps.isEmpty)
 | _ => none
noncomputable def K4 (f : FE) : FT := fun e => bE (f e) fun b e1 => bO (b.weak.get e1) fun p => bO (PH p) fun c => some (c, e1)
theorem bQ.empty {Z : aQ} {H : Hp} {ps : List PV} {xs : List V} (r : bQ K Z H ps xs) : ps.isEmpty = xs.isEmpty := by cases r <;> rfl
theorem A1 {t : TE} {f : FE} (h : Ref K t f) : j5 K (fun σ H Q => t σ H fun x H' => ∃ k, L9 K x H' k ∧ Q k H') (K4 f) := by
 intro O M W L σ H e e' b Q o he hf q
 obtain ⟨x, e1, f1, hf⟩ := aT hf
 obtain ⟨p, g1, hf⟩ := aL hf
 obtain ⟨c, g2, hf⟩ := aL hf
 cases hf
 refine h O M W L σ H e _ _ _ o he f1 fun v1 H1 k1 r1 fr => ?_
 have o1 := o.keep k1.cZ
 have en := r1.en o1
 have rd := (r1.rv o1).red en g1
 refine ⟨b, ?_, q H1 k1 en⟩
 cases p with
 | bJ => cases g2; rw [rd.bJ]; rfl
 | bl y => cases g2; rw [rd.bl]; rfl
 | int y => cases g2; rw [rd.int]; rfl
 | str y => obtain ⟨c, g2⟩ := aS g2; cases g2; rw [rd.str]; exact ⟨Nat.le_of_lt (iX c), rfl⟩
 | lst ps => cases g2; obtain ⟨a, xs, rfl, ha, ra⟩ := rd.p9; exact .inl ⟨xs, ha.sq, by rw [ra.empty]⟩
 | tup ps => cases g2; obtain ⟨a, xs, rfl, ha, ra⟩ := rd.tup; exact .inr (.inl ⟨xs, ha.sq, by rw [ra.empty]⟩)
 | ty y => cases g2
 | bW y => cases g2
end
end Mr
namespace Mr
open PySem PySem.Spec L2 PyProof.Rows
theorem uD (K : PySem.W.Frag) {X : Cx} {a : Expr} {ta : TE} (ha : PE X a ta) (he : ∀ whole, isTrue a X.env whole = (do let v ← whole; standAt a.pos; holding [v] (truthy v))) (hK : X.K = K := by rfl) :
  PT X a (fun σ H Q => ta σ H fun x H' => ∃ k, L9 K x H' k ∧ Q k H') := by subst hK; exact G2 ha he
theorem dQ {K : PySem.W.Frag} {wi : TI} {g : TG} {tt : TT} {te : TE} {fi : FI} {k : Nat} {cV : List Nat} (ms : List (Nat × Nat)) {fg : FG} {ft : FT} {fe : FE} (hms : (ms.all fun z => ms.all fun z' => (z.1 == z'.1) == (z.2 == z'.2)) = true) (hi : vV K wi fi) (hg : tF K g fg) (ht : j5 K tt ft) (he : Ref K te fe) : Ref K (tS wi k cV g tt te) (gF fi k cV ms fg ft fe) := by
 have key : ∀ z ∈ ms, ∀ z' ∈ ms, (z.1 == z'.1) = (z.2 == z'.2) := fun z hz z' hz' => by
  have := List.all_eq_true.mp (List.all_eq_true.mp hms z hz) z' hz'
  simpa using this
 refine IT ms (fun i j1 j2 h1 h2 => ?_) (fun i1 i2 j h1 h2 => ?_) hi hg ht he
 ·have := key _ h1 _ h2
  simpa using this
 ·have := key _ h1 _ h2
  simpa using this
end Mr
namespace Mr
open PySem PySem.Spec L2 PyProof.Rows
theorem NL (i : Nat) (e : En) : aE i e = (match e[i]? with
 | some (some (.val p)) => some (.val p, e)
 | some (some _) => some (.slot i, e)
 | _ => none) := rfl
theorem V2 (p : PV) (e : En) : fC p e = some (.val p, e) := rfl
theorem SQ (g : PV → PV → Option Bv) (fa fb : FE) (e : En) : bS g fa fb e = bE (fa e) fun x e1 => bE (fb e1) fun y e2 => bO (x.weak.get e2) fun p => bO (y.weak.get e2) fun q => bO (g p q) fun b => some (b, e2) := rfl
theorem TV (g : PV → Option Bv) (fa : FE) (e : En) : T8 g fa e = bE (fa e) fun x e1 => bO (x.weak.get e1) fun p => bO (g p) fun b => some (b, e1) := rfl
theorem N4 (e : En) : aN e = some ([], e) := rfl
theorem JY (fa : FE) (fr : FA) (e : En) : aD fa fr e = bE (fa e) fun x e1 => bE (fr e1) fun xs e2 => some (x.weak :: xs, e2) := rfl
theorem S1 (g : List PV → Option Bv) (fa : FA) (e : En) : oU g fa e = bE (fa e) fun xs e1 => bO (getL e1 xs) fun ps => bO (g ps) fun b => some (b, e1) := rfl
theorem SJ (g : PV → List PV → Option Bv) (fo : FE) (fa : FA) (e : En) : VR g fo fa e = (bE (fo e) fun x e0 => match x with
 | .val (.str z) => bE (fa e0) fun xs e1 => bO (getL e1 xs) fun ps => bO (g (.str z) ps) fun b => some (b, e1)
 | _ => none) := rfl
theorem NQ (fa : FA) (e : En) : dS fa e = bE (fa e) fun xs e1 => bO (putL xs) fun ps => bI (decide (ps.length < 1000000)) (some (.val (.tup ps), e1)) := rfl
theorem QR (fa : FA) (e : En) : fM fa e = bE (fa e) fun xs e1 => bO (putL xs) fun ps => bI (decide (ps.length < 1000000)) (some (.new (.lst ps), e1)) := rfl
theorem LI (f : FE) (e : En) : cT f e = (bE (f e) fun b e1 => match b with
 | .val (.bl c) => some (c, e1)
 | _ => none) := rfl
theorem PY (f g : FT) (e : En) : DJ f g e = bE (f e) fun b e1 => bB b (g e1) (some (false, e1)) := rfl
theorem SF (f g : FT) (e : En) : UX f g e = bE (f e) fun b e1 => bB b (some (true, e1)) (g e1) := rfl
theorem PU (f : FT) (e : En) : HX f e = bE (f e) fun b e1 => some (!b, e1) := rfl
theorem MD (e : En) : gC e = some (true, e) := rfl
theorem PF (fa fb : FE) (e : En) : NV fa fb e = bE (fa e) fun b e1 => bO (HK b) fun c => bB c (some (.val (.bl true), e1)) (fb e1) := rfl
theorem TB (fc : FT) (fa fb : FE) (e : En) : KZ fc fa fb e = bE (fc e) fun b e1 => bB b (fa e1) (fb e1) := rfl
theorem CH (e : En) : iJ e = some (none, e) := rfl
theorem L8 (f : FE) (e : En) : nY f e = (bE (f e) fun b e1 => match b with
 | .val (.int i) => some (some i, e1)
 | _ => none) := rfl
theorem RX (g : PV → Option Int → Option Int → Option Bv) (fa : FE) (fl fh : FO) (e : En) : LK g fa fl fh e = bE (fa e) fun x e1 => bE (fl e1) fun lo e2 => bE (fh e2) fun hi e3 => bO (x.weak.get e3) fun p => bO (g p lo hi) fun b => some (b, e3) := rfl
theorem JI (e : En) : gE e = some (.nx e) := rfl
theorem NO (f : FE) (e : En) : fG f e = bE (f e) fun b e1 => some (.rt b e1) := rfl
theorem R9 (fc : FT) (f g : FS) (e : En) : t7 fc f g e = bE (fc e) fun b e1 => bB b (f e1) (g e1) := rfl
theorem OP (i : Nat) (f : FE) (e : En) : cH i f e = (bE (f e) fun b e1 => match b with
 | .val p => some (.nx (e1.set i (some (.val p))))
 | .new p => some (.nx (e1.set i (some (.val p))))
 | .slot j => match e1[j]? with
  | some (some (.bor p)) => some (.nx (e1.set i (some (.bor p))))
  | _ => none) := rfl
theorem JK (i : Nat) (f : FE) (e : En) : mH i f e = (bE (f e) fun b e1 => match b with
 | .new p => some (.nx (e1.set i (some (.loc p))))
 | _ => none) := rfl
theorem O9 (i : Nat) (f : FE) (e : En) : D2 i f e = (bO (ownAt e i) fun p0 => match p0 with
 | .lst _ => bE (f e) fun b e1 => bO b.put fun p => match ownAt e1 i with
  | some (.lst ps) => bI (decide (ps.length < 1000000)) (some (.nx (dA e1 i (.lst (ps ++ [p])))))
  | _ => none
 | _ => none) := rfl
theorem EA (i : Nat) (fi fv : FE) (e : En) : vL i fi fv e = (bE (fv e) fun b e1 => bO b.put fun p => bO (ownAt e1 i) fun _ => bE (fi e1) fun k e2 => match k with
 | .val (.int k) => match ownAt e2 i with
  | some (.lst ps) => bO (sS ps.length k) fun j => some (.nx (dA e2 i (.lst (ps.set j p))))
  | _ => none
 | _ => none) := rfl
theorem LA (i : Nat) (fk fv : FE) (e : En) : rK i fk fv e = (bE (fv e) fun b e1 => bO b.put fun p => bO (ownAt e1 i) fun _ => bE (fk e1) fun k e2 => bO (k.weak.get e2) fun kp => bO (keyOf kp) fun key => match ownAt e2 i with
  | some (.bW kvs) => bI (decide (kvs.length < 1000000)) (some (.nx (dA e2 i (.bW (i3 kvs key p)))))
  | _ => none) := rfl
theorem IV (i : Nat) (p : PV) (e : En) : bH i p e = some (e.set i (some (.val p))) := rfl
theorem MH (ps : List PV) (e : En) : mL ps e = match ps with | [] => some e | _ => none := rfl
theorem GL (f : FG) (g : zP) (ps : List PV) (e : En) : dO f g ps e = match ps with | p :: ps => bO (f p e) (g ps) | [] => none := rfl
theorem KO (n : Nat) (f : zP) (p : PV) (e : En) : pH n f p e = (match p with
 | .tup ps => bI (decide (ps.length = n)) (f ps e)
 | _ => none) := rfl
theorem OM (f : FE) (fg : FG) (e : En) : GQ f fg e = bE (f e) fun b e1 => bO b.put fun p => bO (fg p e1) fun e2 => some (.nx e2) := rfl
theorem RO (f : FE) (st : Nat → Bool) (e : En) : y9 f st e = (bE (f e) fun b e1 => match b with
 | .slot i => match e1[i]? with
  | some (some (.bor p)) => bO (iD p) fun ps => some (ps, e1)
  | some (some (.own p)) => bI (st i) (bO (iD p) fun ps => some (ps, e1))
  | some (some (.loc p)) => bI (st i) (bO (iD p) fun ps => some (ps, e1))
  | _ => none
 | .val p => bO (iD p) fun ps => some (ps, e1)
 | .new p => bO (iD p) fun ps => some (ps, e1)) := rfl
theorem OK (f : FE) (e : En) : K4 f e = bE (f e) fun b e1 => bO (b.weak.get e1) fun p => bO (PH p) fun c => some (c, e1) := rfl
theorem K7 (e : En) : AX e = some (.new (.bW []), e) := rfl
end Mr
namespace L2
open PySem PySem.Spec PyProof.Rows
noncomputable def S5 (K : PySem.W.Frag) (a : Addr) : It :=
 ⟨fun i H => ∃ xs x, iZ K H a xs ∧ xs[i]? = some x, fun i H v H' => ∃ t, H t = none ∧ v = .ref t ∧ ∀ xs, iZ K H a xs → ∃ x, xs[i]? = some x ∧ H' = upd H t (.tup [.int i, x]), fun i H => ∃ xs, iZ K H a xs ∧ xs.length = i⟩
theorem AA {P : Program} {w : World} {K : PySem.W.Frag} {elts : List Expr} {x1} {pos : Pos} (a it e : Addr) (hei : e ≠ it) : Turn P w K (.Tuple elts x1 pos) (S5 K a) [e, it] e (fun i h => (∃ old, IsEnum h e it i old) ∧ h.IsListIter it a i) where
 mem := by simp
 obj := fun i h st b hb => by
  obtain ⟨⟨old, he⟩, o, ho, c, d⟩ := st
  rcases List.mem_cons.mp hb with z | z
  ·subst z; exact ⟨_, he, fun v z => by cases z⟩
  ·have z : b = it := by simpa using z
   subst z; exact ⟨o, ho, fun v z => by rw [d] at z; cases z⟩
 keep := fun i h h' st k => ⟨let ⟨old, he⟩ := st.1; ⟨old, k e (by simp) _ he⟩, st.2.at fun o q => k it (by simp) o q⟩
 item := by
  intro X hP hw hK hc i pins s σ H E I hf st hg
  subst hP hw hK
  obtain ⟨xs, x, hq, hx⟩ := hg
  obtain ⟨its, rv, p, hz⟩ := I.list hq
  obtain ⟨u, hu, ru⟩ := rv.get hx
  obtain ⟨⟨old, he⟩, ht⟩ := st
  have hne : a ≠ it := fun z => by
   obtain ⟨o, ho, c, _⟩ := ht
   obtain ⟨o', _, ho', c', _, _⟩ := p
   subst z
   rw [ho] at ho'; cases ho'
   rw [c] at c'
   exact absurd (Value.type.inj c') (by decide)
  have hae : a ≠ e := fun z => by
   obtain ⟨o', _, ho', c', _, _⟩ := p
   subst z
   rw [he] at ho'; cases ho'
   exact absurd (Value.type.inj c') (by decide)
  have hlt : i < its.toArray.size := by have := (List.getElem?_eq_some_iff.mp hu).1; simpa using this
  refine wpAny_pyNext_enum_itemD (Draws.list (A := X.A.in1) (by exact I.ok.hd hc) it a hne its.toArray) he ⟨ht, p.isList⟩ hlt hei (by simp [hei, Ne.symm hae]) fun v h' tk hPv ho' st' htup hsz hk => ?_
  have ev : v = u := by
   have h1 : its[i]? = some v := by simpa using hPv
   rw [hu] at h1; exact (Option.some.inj h1).symm
  subst ev
  refine ⟨_, rfl, wpAny_letOwnedTupleGo_enum (s := { s with heap := h', toks := tk + 1 }) ho' fun h2 he2 sb => ?_⟩
  have hTe : s.heap.objs.size ≠ e := fun z => by
   have := Heap.lt_size he; rw [← z] at this; exact Nat.lt_irrefl _ this
  have hTi : s.heap.objs.size ≠ it := fun z => by
   obtain ⟨o, ho, _⟩ := ht
   have := Heap.lt_size ho; rw [← z] at this; exact Nat.lt_irrefl _ this
  have hk2 : ∀ b o, b ∉ [e, it] → s.heap.get? b = some o → h2.get? b = some o := fun b o hb q =>
   sb.extBut b o (fun z => hb (by simp [z])) (hk b o (fun z => hb (by simp [z])) (fun z => hb (by simp [z])) q)
  have I1 : Inv X pins σ H { s with heap := h2, toks := tk + 1 } := I.A2 hk2 hf
  have hfr : H s.heap.objs.size = none := I.cI.fresh (Nat.le_refl _)
  have htup2 : h2.get? s.heap.objs.size = some { cls := .type "tuple", data := .seq #[.int i tk, v] } := sb.extBut _ _ hTe htup
  have I2 : Inv X pins σ (upd H s.heap.objs.size (.tup [.int i, x])) { s with heap := h2, toks := tk + 1 } := by
   refine I.V7 hk2 hf hfr (by simp [hTe, hTi]) ⟨by show 2 ≤ sizeLine; decide, [.int i tk, v], .cons ⟨_, rfl⟩ (.cons ru .nil), ⟨_, htup2, rfl, 0, rfl⟩⟩ (fun b hb o q => ?_)
   rcases List.mem_cons.mp hb with r | r
   ·subst r; exact ⟨_, he2⟩
   ·have r : b = it := by simpa using r
    subst r
    obtain ⟨o', ho', _⟩ := st'.1.extBut sb.extBut (Ne.symm hei)
    exact ⟨o', ho'⟩
  refine ⟨.ref s.heap.objs.size, _, I2, rfl, ⟨s.heap.objs.size, hfr, rfl, fun ys hy => ⟨x, by rw [I.y6 hy hq]; exact hx, rfl⟩⟩, ⟨⟨_, he2⟩, st'.1.extBut sb.extBut (Ne.symm hei)⟩, fun b hb => ?_⟩
  have hbT : b ≠ s.heap.objs.size := fun z => by
   rcases List.mem_cons.mp hb with r | r
   ·exact hTe (z ▸ r)
   ·have r : b = it := by simpa using r
    exact hTi (z ▸ r)
  rw [aX hbT]
  exact (hf b hb).1
 done := by
  intro X hP hw hK hc i pins s σ H E I hf st hg
  subst hP hw hK
  obtain ⟨xs, hq, hx⟩ := hg
  obtain ⟨its, rv, p, hz⟩ := I.list hq
  obtain ⟨⟨old, he⟩, ht⟩ := st
  have hl := rv.length
  have hne : a ≠ it := fun z => by
   obtain ⟨o, ho, c, _⟩ := ht
   obtain ⟨o', _, ho', c', _, _⟩ := p
   subst z
   rw [ho] at ho'; cases ho'
   rw [c] at c'
   exact absurd (Value.type.inj c') (by decide)
  have ei : (i : Nat) = its.toArray.size := by simp; omega
  subst ei
  obtain ⟨f0, f1, f2, f3, f4, f5⟩ := hf it (by simp)
  exact wpAny_pyNext_enum_endD (Draws.list (A := X.A.in1) (by exact I.ok.hd hc) it a hne its.toArray) he ⟨ht, p.isList⟩ fun h' eb => ⟨rfl, I.turned (t' := s.toks) (fun b o hb e => eb b o hb e) f0 f1 f3 f4 f5⟩
 self := fun _ _ _ _ _ st h => let ⟨_, he⟩ := st.1; wpAny_pyIter_enum he h
section
variable {X : Cx} {elts : List Expr} {x1 : Nat} {tpos : Pos}
noncomputable def v9 (K : PySem.W.Frag) (ta : TA) : TI := fun σ H R => ta σ H fun vs H1 => (∃ a xs, vs = [.ref a] ∧ mB K H1 a xs ∧ R (V8 K a) H1) ∨ ∃ a xs, vs = [.ref a] ∧ iZ K H1 a xs ∧ R (S5 K a) H1
theorem E8 {a : Expr} {ta : TA} {p pos : Pos} (hg : Gl X "enumerate") (hm : X.mg "enumerate" = none) (ha : PA X [a] ta) (hs : starEach [a] X.env = [(false, eval a X.env)] := by rfl) : PI X (.Tuple elts x1 tpos) (.Call (.Name "enumerate" p) [a] [] pos) (v9 X.K ta) := by
 intro pins s σ H R I h
 refine Call_ (sC I hg hm vO (PyProof.Rows.callWith_type1 (d8 (ha pos pins s σ H _ I h) fun us s1 ⟨vs, H1, I1, r1, q1⟩ => ?_) hs rfl))
 rcases q1 with ⟨t, xs, e, hq, q⟩ | ⟨t, xs, e, hq, q⟩
 ·subst e
  obtain ⟨u, rfl, rx⟩ := vals1 r1
  cases rx
  obtain ⟨its, rv, pt, hz⟩ := I1.tuple hq
  refine i0 (show s1.heap.IsTuple t its.toArray from pt) fun h' he ht hsz hk => ?_
  have I2 : Inv X pins σ H1 { s1 with heap := h' } := I1.kept (t' := s1.toks) hk
  refine wpAny_pyIter_enum (s := { s1 with heap := h' }) he ?_
  refine ⟨s1.heap.objs.size + 1, [s1.heap.objs.size + 1, s1.heap.objs.size], _, _, H1, rfl, I2, z9 t s1.heap.objs.size (s1.heap.objs.size + 1) (Nat.succ_ne_self _), ⟨⟨_, he⟩, ht⟩, fun b hb => ?_, q⟩
  rcases List.mem_cons.mp hb with r | r
  ·subst r; exact I1.wG (Nat.le_succ _) (I1.cI.fresh (Nat.le_succ _))
  ·have r : b = s1.heap.objs.size := by simpa using r
   subst r; exact I1.wG (Nat.le_refl _) (I1.cI.fresh (Nat.le_refl _))
 ·subst e
  obtain ⟨u, rfl, rx⟩ := vals1 r1
  cases rx
  obtain ⟨its, rv, pt, hz⟩ := I1.list hq
  refine call_enumerate_list pt.isList fun h' he ht hsz hk => ?_
  have I2 : Inv X pins σ H1 { s1 with heap := h' } := I1.kept (t' := s1.toks) hk
  refine wpAny_pyIter_enum (s := { s1 with heap := h' }) he ?_
  refine ⟨s1.heap.objs.size + 1, [s1.heap.objs.size + 1, s1.heap.objs.size], _, _, H1, rfl, I2, AA t s1.heap.objs.size (s1.heap.objs.size + 1) (Nat.succ_ne_self _), ⟨⟨_, he⟩, ht⟩, fun b hb => ?_, q⟩
  rcases List.mem_cons.mp hb with r | r
  ·subst r; exact I1.wG (Nat.le_succ _) (I1.cI.fresh (Nat.le_succ _))
  ·have r : b = s1.heap.objs.size := by simpa using r
   subst r; exact I1.wG (Nat.le_refl _) (I1.cI.fresh (Nat.le_refl _))
theorem BA (K : PySem.W.Frag) {a : Expr} {ta : TA} {p pos : Pos} (hg : Gl X "enumerate") (hm : X.mg "enumerate" = none) (ha : PA X [a] ta) (h : X.K = K := by rfl) (hs : starEach [a] X.env = [(false, eval a X.env)] := by rfl) :
  PI X (.Tuple elts x1 tpos) (.Call (.Name "enumerate" p) [a] [] pos) (v9 K ta) := h ▸ E8 hg hm ha hs
end
end L2
namespace Mr
open PySem PySem.Spec L2 PyProof.Rows
section
variable {K : PySem.W.Frag}
noncomputable def IA (fa : FA) : FI := fun _ e => bE (fa e) fun bs e1 => match bs with
 | [.val (.tup ps)] => some (ps.zipIdx.map fun z => .tup [.int (z.2 : Int), z.1], e1)
 | [.val (.lst ps)] => some (ps.zipIdx.map fun z => .tup [.int (z.2 : Int), z.1], e1)
 | _ => none
theorem JD {ta : TA} {fa : FA} (h : qB K ta fa) : vV K (v9 K ta) (IA fa) := by
 intro st O M W L σ H e e' ps R o he hf q
 obtain ⟨x, e1, f1, hf⟩ := aT hf
 refine h O M W L σ H e e1 x _ o he f1 fun vs H1 k1 en rv => ?_
 have o1 := o.keep k1.cZ
 split at hf
 ·rename_i ps0
  cases hf
  cases rv with
  | cons h r =>
   cases r
   cases h with
   | tup ha ra =>
    rename_i a xs
    refine .inl ⟨a, xs, rfl, ha.sq, q _ H1 k1 en fun Wr hw _ => ?_⟩
    intro L' H' j1 j2 j3
    have st := wK o1 hw j1 j2 j3
    have sq : mB K H' a xs := TupAt.sq (ha.elim (fun h => .inl (j2 _ _ h)) .inr)
    refine ⟨fun k p hp => ?_, xs, sq, by rw [List.length_map, List.length_zipIdx, ra.length]⟩
    rw [List.getElem?_map, List.getElem?_zipIdx] at hp
    cases c : ps0[k]? with
    | none => rw [c] at hp; cases hp
    | some p0 =>
     rw [c] at hp
     cases hp
     obtain ⟨v, hv, rv⟩ := ra.get c
     refine ⟨⟨xs, v, sq, hv⟩, fun x H3 y => ?_⟩
     obtain ⟨t, ht, rfl, y⟩ := y
     obtain ⟨x', hx', rfl⟩ := y xs sq
     rw [hv] at hx'
     cases hx'
     refine ⟨bN.upd ht, .tup (.inl bG) (.cons ?_ (.cons ((rv.aP st).aP (.same (bN.upd ht))) .nil))⟩
     rw [Nat.zero_add]
     exact .int _
 ·rename_i ps0
  cases hf
  cases rv with
  | cons h r =>
   cases r
   cases h with
   | lst ha n ra =>
    rename_i a xs
    refine .inr ⟨a, xs, rfl, .inl ha, q _ H1 k1 en fun Wr hw _ => ?_⟩
    intro L' H' j1 j2 j3
    have st := wK o1 hw j1 j2 j3
    have nw : ¬ Wr a := fun z => n ((hw _ z).elim (fun ⟨i, w⟩ => .inl (o.wm i _ w)) .inr)
    have sq : iZ K H' a xs := by
     rcases ha with h | ⟨u, h⟩
     ·exact .inl (.inl (j1 _ _ h nw))
     ·exact .inl (.inr ⟨u, j1 _ _ h nw⟩)
    refine ⟨fun k p hp => ?_, xs, sq, by rw [List.length_map, List.length_zipIdx, ra.length]⟩
    rw [List.getElem?_map, List.getElem?_zipIdx] at hp
    cases c : ps0[k]? with
    | none => rw [c] at hp; cases hp
    | some p0 =>
     rw [c] at hp
     cases hp
     obtain ⟨v, hv, rv⟩ := ra.get c
     refine ⟨⟨xs, v, sq, hv⟩, fun x H3 y => ?_⟩
     obtain ⟨t, ht, rfl, y⟩ := y
     obtain ⟨x', hx', rfl⟩ := y xs sq
     rw [hv] at hx'
     cases hx'
     refine ⟨bN.upd ht, .tup (.inl bG) (.cons ?_ (.cons ((rv.aP st).aP (.same (bN.upd ht))) .nil))⟩
     rw [Nat.zero_add]
     exact .int _
 ·cases hf
theorem MJ {fa : FA} {st : Nat → Bool} {e : En} : IA fa st e = bE (fa e) fun bs e1 => match bs with
 | [.val (.tup ps)] => some (ps.zipIdx.map fun z => .tup [.int (z.2 : Int), z.1], e1)
 | [.val (.lst ps)] => some (ps.zipIdx.map fun z => .tup [.int (z.2 : Int), z.1], e1)
 | _ => none := rfl
end
end Mr
namespace L2
open PySem PySem.Spec PyProof.Rows
section
variable {X : Cx} {e st : Expr} {te ts : TE} {pos p2 : Pos}
end
end L2
namespace Mr
open PySem PySem.Spec L2 PyProof.Rows
section
variable {K : PySem.W.Frag}
end
end Mr
namespace Mr
open PySem PySem.Spec L2 PyProof.Rows
section
variable {K : PySem.W.Frag}
noncomputable def zA (a b : Str) : Prop := ¬ b.cps.toList < a.cps.toList
theorem uC {a b c : Str} (h : zA a b) (h' : zA b c) : zA a c := List.not_lt.mpr (List.le_trans (List.not_lt.mp h) (List.not_lt.mp h'))
theorem ET {a b : Str} (h : zA a b) (h' : zA b a) : a = b := by
 have := List.le_antisymm (List.not_lt.mp h) (List.not_lt.mp h')
 exact Str.ext' (by cases a; cases b; simp at this; exact this)
theorem pY : ∀ {x : Str} {r : List Str}, risingS x r = true → (x :: r).Pairwise zA
 | x, [], _ => List.pairwise_singleton _ _
 | x, y :: r, h => by
  have h : (!ltCps y.cps.toList x.cps.toList && risingS y r) = true := h
  rw [Bool.and_eq_true] at h
  have ih := pY h.2
  have hxy : zA x y := by
   have := h.1
   rw [ltCps_eq] at this
   simpa [zA] using this
  refine List.pairwise_cons.mpr ⟨fun z hz => ?_, ih⟩
  rcases List.mem_cons.mp hz with e | e
  ·rw [e]; exact hxy
  ·exact uC hxy ((List.pairwise_cons.mp ih).1 z e)
theorem xD {l : List Str} (h : sortedS l = true) : l.Pairwise zA := by
 cases l with
 | nil => exact .nil
 | cons x r => exact pY h
theorem pX : ∀ {a b : List Str}, a.Pairwise zA → b.Pairwise zA → a.Perm b → a = b
 | [], b, _, _, p => (List.Perm.nil_eq p)
 | x :: a, [], _, _, p => absurd p.symm.nil_eq (by simp)
 | x :: a, y :: b, ha, hb, p => by
  have hx := (List.pairwise_cons.mp ha).1
  have hy := (List.pairwise_cons.mp hb).1
  have e : x = y := by
   rcases List.mem_cons.mp (p.mem_iff.mp List.mem_cons_self) with z | z
   ·exact z
   ·rcases List.mem_cons.mp (p.mem_iff.mpr List.mem_cons_self) with w | w
    ·exact w.symm
    ·exact ET (hx y w) (hy x z)
  subst e
  rw [pX (List.pairwise_cons.mp ha).2 (List.pairwise_cons.mp hb).2 p.cons_inv]
noncomputable def R5 (a b : Str) : Bool := !ltCps b.cps.toList a.cps.toList
theorem lR {a b : Str} : R5 a b = true ↔ zA a b := by
 unfold R5 zA
 rw [ltCps_eq]
 simp
noncomputable def nN (ss : List Str) : List Str := ss.mergeSort R5
theorem wI (ss : List Str) : (nN ss).Pairwise zA := by
 have := List.pairwise_mergeSort (le := R5) (fun a b c h1 h2 => lR.mpr (uC (lR.mp h1) (lR.mp h2))) (fun a b => by
  rw [Bool.or_eq_true, lR, lR]
  by_cases h : zA a b
  ·exact .inl h
  ·right
   unfold zA at h ⊢
   have h := Classical.not_not.mp h
   exact List.not_lt.mpr (List.le_of_lt h)) ss
 exact this.imp fun h => lR.mp h
theorem ER (ss : List Str) : (nN ss).Perm ss := List.mergeSort_perm ss R5
theorem yK {ss out : List Str} (hp : out.Perm ss) (hs : sortedS out = true) : nN ss = out := pX (wI ss) (xD hs) ((ER ss).trans hp.symm)
noncomputable def qX : List PV → Option Bv
 | [.lst ps] => bO (uF ps) fun ss => bI (decide (ss.length < 64)) (some (.new (.lst ((nN ss).map PV.str))))
 | _ => none
theorem bQ.ofStrs {Z : aQ} {H : Hp} : ∀ (ss : List Str), bQ K Z H (ss.map PV.str) (ss.map V.str)
 | [] => .nil
 | s :: ss => .cons (.str s) (bQ.ofStrs ss)
theorem EY : jI K (zB K) qX := by
 intro Z H vs ps b Q hp h k
 unfold qX at h
 split at h
 ·obtain ⟨ss, g, h⟩ := aL h
  obtain ⟨c, h⟩ := aS h
  cases h
  obtain ⟨v, rfl, hv⟩ := hp.one
  obtain ⟨a, ys, rfl, ha, ra⟩ := hv.p9
  rw [rF g] at ra
  rw [ra.strs] at ha
  refine ⟨a, ss, rfl, ha.sq, of_decide_eq_true c, fun l out h1 h2 hl => ?_⟩
  rw [yK h1 h2] at k
  exact k _ _ (bN.upd hl) (z4 hl (bQ.ofStrs out))
 ·cases h
end
end Mr
namespace Mr
open PySem L2
structure Mark {α : Type} (Q : α → Prop) : Type where
noncomputable def Wp {α : Type} (r : Option α) (Q : α → Prop) (u : Mark Q := ⟨⟩) : Prop := ∃ a, r = some a ∧ Q a
section
variable {α β : Type} {Q : β → Prop}
theorem VC : sS 1 0 = some 0 := by decide
theorem VY : sS 2 0 = some 0 := by decide
theorem VM : sS 2 1 = some 1 := by decide
theorem VW : sS 3 0 = some 0 := by decide
theorem UU : sS 3 1 = some 1 := by decide
theorem VH : sS 3 2 = some 2 := by decide
theorem U8 : sS 4 0 = some 0 := by decide
theorem U2 : sS 4 1 = some 1 := by decide
theorem VO : sS 4 2 = some 2 := by decide
theorem VT : sS 4 3 = some 3 := by decide
theorem E9 {a b c d : Nat} : (((a, b) : Nat × Nat) == (c, d)) = (a == c && b == d) := rfl
theorem UD {x : α} {xs : List α} : oS (x :: xs) 0 = some x := j6 (j := 0) rfl
theorem UK {x y : α} {xs : List α} : oS (x :: y :: xs) 1 = some y := j6 (j := 1) rfl
theorem at2 {x y z : α} {xs : List α} : oS (x :: y :: z :: xs) 2 = some z := j6 (j := 2) rfl
theorem WY {x y z w : α} {xs : List α} : oS (x :: y :: z :: w :: xs) 3 = some w := j6 (j := 3) rfl
theorem jO {r : Option (α × En)} {k : α → En → Option β} : Wp (bE r k) Q ↔ Wp r fun z => Wp (k z.1 z.2) Q := by
 constructor
 ·rintro ⟨b, h, q⟩
  obtain ⟨a, e, h1, h2⟩ := aT h
  exact ⟨(a, e), h1, b, h2, q⟩
 ·rintro ⟨⟨a, e⟩, rfl, b, h2, q⟩
  exact ⟨b, h2, q⟩
theorem jS {r : Option α} {k : α → Option β} : Wp (bO r k) Q ↔ Wp r fun z => Wp (k z) Q := by
 constructor
 ·rintro ⟨b, h, q⟩
  obtain ⟨a, h1, h2⟩ := aL h
  exact ⟨a, h1, b, h2, q⟩
 ·rintro ⟨a, rfl, b, h2, q⟩
  exact ⟨b, h2, q⟩
theorem dD {b : β} : Wp (some b) Q ↔ Q b := ⟨fun ⟨_, h, q⟩ => by cases h; exact q, fun q => ⟨b, rfl, q⟩⟩
theorem qL : Wp (none : Option β) Q ↔ False := by
 constructor
 ·rintro ⟨_, h, _⟩; cases h
 ·exact False.elim
theorem fD {c : Bool} {k : Option β} : Wp (bI c k) Q ↔ c = true ∧ Wp k Q := by
 constructor
 ·rintro ⟨b, h, q⟩
  obtain ⟨h1, h2⟩ := aS h
  exact ⟨h1, b, h2, q⟩
 ·rintro ⟨rfl, b, h, q⟩
  exact ⟨b, h, q⟩
theorem wp_seq {f g : FS} {e : En} {Q : Out → Prop} : Wp (bK f g e) Q ↔ Wp (f e) fun o => match o with | .nx e1 => Wp (g e1) Q | o => Q o := by
 unfold bK
 cases f e with
 | none => simp [qL]
 | some o =>
  rw [dD]
  cases o <;> simp [dD]
theorem KJ {c : Bool} {x y : Option β} : Wp (bB c x y) Q ↔ ((c = true → Wp x Q) ∧ (c = false → Wp y Q)) := by
 cases c <;> simp [bB]
theorem UR {x y : β} : bB true x y = x := rfl
theorem VD {x y : β} : bB false x y = y := rfl
theorem Wp.mono {r : Option β} {Q Q' : β → Prop} (h : Wp r Q) (k : ∀ b, Q b → Q' b) : Wp r Q' := let ⟨b, e, q⟩ := h; ⟨b, e, k b q⟩
theorem Wp.eq {r : Option β} {b : β} (h : Wp r fun x => x = b) : r = some b := let ⟨_, e, q⟩ := h; q ▸ e
end
theorem OI {ks : List Kd} {nl : Nat} {fr : Bool} {g : FS} {ps : List PV} {Q : PV × List PV → Prop} : Wp (rH ks nl fr g ps) Q ↔ Wp (g (lY ks ps ++ List.replicate nl none)) fun o => Wp (KU ks fr o) Q := by
 unfold rH; exact jS
theorem wp_call {ks : List Kd} {fr : Bool} {f : FN} {fa : FA} {e : En} {Q : Bv × En → Prop} : Wp (aW ks fr f fa e) Q ↔ Wp (fa e) fun z => Wp (CL z.2 ks z.1) fun ps =>
  (decide ((cP ks z.1).Nodup) && (mN ks z.1).all fun i => !(cP ks z.1).contains i) = true ∧ Wp (f ps) fun rq => Wp (mC (rq.2.map fun q => some (.own q)) (cP ks z.1).zipIdx z.2) fun e2 => Q (resB rq.1 fr, e2) := by
 unfold aW
 constructor
 ·intro h
  obtain ⟨z, h1, h⟩ := jO.mp h
  obtain ⟨ps, h2, h⟩ := jS.mp h
  obtain ⟨g, h⟩ := fD.mp h
  obtain ⟨rq, h3, h⟩ := jS.mp h
  obtain ⟨e2, h4, h⟩ := jS.mp h
  exact ⟨z, h1, ps, h2, g, rq, h3, e2, h4, dD.mp h⟩
 ·rintro ⟨z, h1, ps, h2, g, rq, h3, e2, h4, q⟩
  exact jO.mpr ⟨z, h1, jS.mpr ⟨ps, h2, fD.mpr ⟨g, jS.mpr ⟨rq, h3, jS.mpr ⟨e2, h4, dD.mpr q⟩⟩⟩⟩⟩
theorem iL {body : PV → En → Option Out} (I : Nat → En → Prop) {Q : Out → Prop} {xs : List PV} (hs : ∀ (i : Nat) x e, xs[i]? = some x → I i e → Wp (body x e) fun o => match o with | .nx e1 => I (i + 1) e1 | .ct e1 => I (i + 1) e1 | .bk e1 => Q (.nx e1) | .rt b e1 => Q (.rt b e1))
  (hd : ∀ e, I xs.length e → Q (.nx e)) {e : En} (h0 : I 0 e) : Wp (mK body xs e) Q := by
 have key : ∀ (ys : List PV) (i : Nat) (e : En), i ≤ xs.length → xs.drop i = ys → I i e → Wp (mK body ys e) Q := by
  intro ys
  induction ys with
  | nil =>
   intro i e hil hy hi
   unfold mK
   rw [dD]
   have hl : xs.length ≤ i := by
    have := congrArg List.length hy
    rw [List.length_drop] at this
    simp at this
    omega
   have h : i = xs.length := by omega
   subst h
   exact hd e hi
  | cons x ys ih =>
   intro i e hil hy hi
   have hlt : i < xs.length := by
    have := congrArg List.length hy
    rw [List.length_drop, List.length_cons] at this
    omega
   rw [List.drop_eq_getElem_cons hlt] at hy
   have hx : xs[i]? = some x := by rw [List.getElem?_eq_getElem hlt, (List.cons.inj hy).1]
   obtain ⟨o, h1, h2⟩ := hs i x e hx hi
   unfold mK
   rw [h1]
   cases o with
   | nx e1 => exact ih (i + 1) e1 hlt (List.cons.inj hy).2 h2
   | ct e1 => exact ih (i + 1) e1 hlt (List.cons.inj hy).2 h2
   | bk e1 => exact dD.mpr h2
   | rt b e1 => exact dD.mpr h2
 exact key xs 0 e (Nat.zero_le _) rfl h0
theorem gL {fg : FG} {ft : FT} {fe : FE} (I : Nat → List PV → En → Prop) {Q : List PV × En → Prop} {xs : List PV} (hs : ∀ (i : Nat) x e acc, xs[i]? = some x → I i acc e → Wp (fg x e) fun e1 => Wp (ft e1) fun z => match z.1 with | false => I (i + 1) acc z.2 | true => Wp (fe z.2) fun w => Wp w.1.put fun p => I (i + 1) (acc ++ [p]) w.2)
  (hd : ∀ acc e, I xs.length acc e → Q (acc, e)) {e : En} (h0 : I 0 [] e) : Wp (kG fg ft fe xs e) Q := by
 have key : ∀ (ys : List PV) (i : Nat) (acc : List PV) (e : En), i ≤ xs.length → xs.drop i = ys → I i acc e → ∃ rest e', kG fg ft fe ys e = some (rest, e') ∧ I xs.length (acc ++ rest) e' := by
  intro ys
  induction ys with
  | nil =>
   intro i acc e hil hy hi
   have hl : xs.length ≤ i := by
    have := congrArg List.length hy
    rw [List.length_drop] at this
    simp at this
    omega
   have h : i = xs.length := by omega
   subst h
   exact ⟨[], e, rfl, by rw [List.append_nil]; exact hi⟩
  | cons x ys ih =>
   intro i acc e hil hy hi
   have hlt : i < xs.length := by
    have := congrArg List.length hy
    rw [List.length_drop, List.length_cons] at this
    omega
   rw [List.drop_eq_getElem_cons hlt] at hy
   have hx : xs[i]? = some x := by rw [List.getElem?_eq_getElem hlt, (List.cons.inj hy).1]
   obtain ⟨e1, h1, z, h2, h3⟩ := hs i x e acc hx hi
   obtain ⟨b, e2⟩ := z
   unfold kG
   rw [h1, sY, h2, zL]
   cases b with
   | false => exact ih (i + 1) acc e2 hlt (List.cons.inj hy).2 h3
   | true =>
    obtain ⟨⟨r, e3⟩, h4, p, h5, h6⟩ := h3
    dsimp only at h4 h5 h6 ⊢
    obtain ⟨rest, e', h7, h8⟩ := ih (i + 1) (acc ++ [p]) e3 hlt (List.cons.inj hy).2 h6
    rw [h4, zL, h5, sY, h7, zL]
    exact ⟨p :: rest, e', rfl, by rw [List.append_assoc] at h8; exact h8⟩
 obtain ⟨rest, e', h1, h2⟩ := key xs 0 [] e (Nat.zero_le _) rfl h0
 exact ⟨_, h1, hd _ _ h2⟩
theorem EC {fi : FI} {k : Nat} {cV : List Nat} {ms : List (Nat × Nat)} {fg : FG} {ft : FT} {fe : FE} {e : En} {Q : Bv × En → Prop} : Wp (gF fi k cV ms fg ft fe e) Q ↔ Wp (fi (fun i => !(ms.any fun z => z.1 == i)) e) fun z => z.1.length < 1000000 ∧ Wp (kG fg ft fe z.1 (nF k cV ms z.2)) fun w => Wp (mC w.2 ms z.2) fun e2 => Q (.new (.lst w.1), e2) := by
 unfold gF
 constructor
 ·intro h
  obtain ⟨z, h1, h⟩ := jO.mp h
  obtain ⟨g, h⟩ := fD.mp h
  obtain ⟨w, h2, h⟩ := jO.mp h
  obtain ⟨e2, h3, h⟩ := jS.mp h
  exact ⟨z, h1, of_decide_eq_true g, w, h2, e2, h3, dD.mp h⟩
 ·rintro ⟨z, h1, g, w, h2, e2, h3, q⟩
  exact jO.mpr ⟨z, h1, fD.mpr ⟨decide_eq_true g, jO.mpr ⟨w, h2, jS.mpr ⟨e2, h3, dD.mpr q⟩⟩⟩⟩
theorem KH {fi : FI} {fg : FG} {fb : FS} {e : En} {Q : Out → Prop} : Wp (rY fi fg fb e) Q ↔ Wp (fi (fun _ => false) e) fun z => Wp (mK (fun x e => bO (fg x e) fb) z.1 z.2) Q := by
 unfold rY
 rw [jO]
theorem Q8 : bT PV.bJ PV.bJ = true := by simp [bT]
theorem N5 {y : Bool} : bT PV.bJ (PV.bl y) = false := by simp [bT]
theorem OT {y : Int} : bT PV.bJ (PV.int y) = false := by simp [bT]
theorem PL {y : Str} : bT PV.bJ (PV.str y) = false := by simp [bT]
theorem P1 {y : List PV} : bT PV.bJ (PV.tup y) = false := by simp [bT]
theorem Q9 {y : List PV} : bT PV.bJ (PV.lst y) = false := by simp [bT]
theorem NP {x : Bool} : bT (PV.bl x) PV.bJ = false := by simp [bT]
theorem OD {x : Bool} {y : Bool} : bT (PV.bl x) (PV.bl y) = (x == y) := by simp [bT]
theorem Q7 {x : Bool} {y : Int} : bT (PV.bl x) (PV.int y) = ((if x then 1 else 0) == y) := by simp [bT]
theorem Q5 {x : Bool} {y : Str} : bT (PV.bl x) (PV.str y) = false := by simp [bT]
theorem P2 {x : Bool} {y : List PV} : bT (PV.bl x) (PV.tup y) = false := by simp [bT]
theorem NZ {x : Bool} {y : List PV} : bT (PV.bl x) (PV.lst y) = false := by simp [bT]
theorem OA {x : Int} : bT (PV.int x) PV.bJ = false := by simp [bT]
theorem OY {x : Int} {y : Bool} : bT (PV.int x) (PV.bl y) = (x == (if y then 1 else 0)) := by simp [bT]
theorem z8 {x : Int} {y : Int} : bT (PV.int x) (PV.int y) = (x == y) := by simp [bT]
theorem OU {x : Int} {y : Str} : bT (PV.int x) (PV.str y) = false := by simp [bT]
theorem QG {x : Int} {y : List PV} : bT (PV.int x) (PV.tup y) = false := by simp [bT]
theorem Q1 {x : Int} {y : List PV} : bT (PV.int x) (PV.lst y) = false := by simp [bT]
theorem QT {x : Str} : bT (PV.str x) PV.bJ = false := by simp [bT]
theorem PD {x : Str} {y : Bool} : bT (PV.str x) (PV.bl y) = false := by simp [bT]
theorem OV {x : Str} {y : Int} : bT (PV.str x) (PV.int y) = false := by simp [bT]
theorem o9 {x : Str} {y : Str} : bT (PV.str x) (PV.str y) = (x == y) := by simp [bT]
theorem Q0 {x : Str} {y : List PV} : bT (PV.str x) (PV.tup y) = false := by simp [bT]
theorem O1 {x : Str} {y : List PV} : bT (PV.str x) (PV.lst y) = false := by simp [bT]
theorem NT {x : List PV} : bT (PV.tup x) PV.bJ = false := by simp [bT]
theorem O4 {x : List PV} {y : Bool} : bT (PV.tup x) (PV.bl y) = false := by simp [bT]
theorem O2 {x : List PV} {y : Int} : bT (PV.tup x) (PV.int y) = false := by simp [bT]
theorem PB {x : List PV} {y : Str} : bT (PV.tup x) (PV.str y) = false := by simp [bT]
theorem FW {x : List PV} {y : List PV} : bT (PV.tup x) (PV.tup y) = dP x y := by simp [bT]
theorem QJ {x : List PV} {y : List PV} : bT (PV.tup x) (PV.lst y) = false := by simp [bT]
theorem QO {x : List PV} : bT (PV.lst x) PV.bJ = false := by simp [bT]
theorem OF {x : List PV} {y : Bool} : bT (PV.lst x) (PV.bl y) = false := by simp [bT]
theorem N2 {x : List PV} {y : Int} : bT (PV.lst x) (PV.int y) = false := by simp [bT]
theorem OG {x : List PV} {y : Str} : bT (PV.lst x) (PV.str y) = false := by simp [bT]
theorem QM {x : List PV} {y : List PV} : bT (PV.lst x) (PV.tup y) = false := by simp [bT]
theorem OX {x : List PV} {y : List PV} : bT (PV.lst x) (PV.lst y) = dP x y := by simp [bT]
theorem A6 : dP [] [] = true := by simp [dP]
theorem MI {x y : PV} {xs ys : List PV} : dP (x :: xs) (y :: ys) = (bT x y && dP xs ys) := by simp [dP]
theorem J1 {y : PV} {ys : List PV} : dP [] (y :: ys) = false := by simp [dP]
theorem L0 {x : PV} {xs : List PV} : dP (x :: xs) [] = false := by simp [dP]
end Mr
namespace Mr
open PySem PySem.Spec L2 PyProof.Rows
section
variable {K : PySem.W.Frag}
noncomputable def EE : PV → PV → Option Bv
 | .bW kvs, p => bO (keyOf p) fun k => some (.val ((d5 kvs k).getD .bJ))
 | _, _ => none
noncomputable def FQ (fa fb : FE) : FE := fun e => bE (fa e) fun x e1 => bO (x.weak.get e1) fun p1 => match p1 with
 | .bW _ => bE (fb e1) fun y e2 => bO (x.weak.get e2) fun p => bO (y.weak.get e2) fun q => bO (EE p q) fun b => some (b, e2)
 | _ => none
theorem GH {ta tb : TE} {fa fb : FE} (ha : Ref K ta fa) (hb : Ref K tb fb) : Ref K (EN ta tb) (FQ fa fb) := by
 intro O M W L σ H e e' b Q o he hf q
 obtain ⟨x, e1, f1, hf⟩ := aT hf
 obtain ⟨p1, g0, hf⟩ := aL hf
 cases p1 with
 | bW kvs1 =>
  obtain ⟨y, e2, f2, hf⟩ := aT hf
  obtain ⟨p, g1, hf⟩ := aL hf
  obtain ⟨p', g2, hf⟩ := aL hf
  obtain ⟨c, g3, hf⟩ := aL hf
  cases hf
  refine ha O M W L σ H e e1 x _ o he f1 fun v1 H1 k1 r1 fr => ?_
  have o1 := o.keep k1.cZ
  obtain ⟨a1, ys1, e11, ha1, _, _⟩ := ((r1.rv o1).red (r1.en o1) g0).yC
  refine ⟨a1, e11, .inl ⟨ys1, ha1⟩, ?_⟩
  refine hb O M W L σ H1 e1 _ y _ o1 (r1.en o1) f2 fun v2 H2 k2 r2 fr => ?_
  have o2 := o1.keep k2.cZ
  have en := r2.en o2
  have rp := ((r1.rv o1).keep o1 k2).red en g1
  have rq := (r2.rv o2).red en g2
  cases p with
  | bW kvs =>
   obtain ⟨key, g4, g3⟩ := aL g3
   cases g3
   obtain ⟨a, ys, e3, ha', ek, r⟩ := rp.yC
   rw [e11] at e3
   cases e3
   refine ⟨fP ys key, .inl ⟨ys, key, ha', rq.key g4, rfl⟩, ?_⟩
   refine q _ H2 (k1.trans k2) ?_ ?_
   ·refine ⟨en, ?_⟩
    rcases gH.val key ⟨ek, r⟩ with ⟨h1, h2⟩ | ⟨p'', v', h1, h2, h3⟩
    ·rw [h1, h2]; exact .bJ
    ·rw [h1, h2]; exact h3
   ·trivial
  | _ => cases g3
 | _ => cases hf
theorem LL {fa fb : FE} {e : En} : FQ fa fb e = bE (fa e) fun x e1 => bO (x.weak.get e1) fun p1 => match p1 with
 | .bW _ => bE (fb e1) fun y e2 => bO (x.weak.get e2) fun p => bO (y.weak.get e2) fun q => bO (EE p q) fun b => some (b, e2)
 | _ => none := rfl
end
end Mr
namespace L2
open PySem PySem.Spec PyProof.Rows PySem.W
section
variable {prog : Program} {w : World} {A : Around} {E : Value → Shared → Prop} {s : Shared} {T : String} {r d : Addr} {n : Nat} {Pz : Nat → Value → Prop} {OKh : Heap → Prop}
noncomputable def kJ (s s' : Shared) : Prop := ∃ h' tk dr, s' = { s with heap := h', toks := tk, drawn := dr } ∧ s.heap.objs.size ≤ h'.objs.size ∧ ∀ b o, s.heap.get? b = some o → h'.get? b = some o
theorem kJ.size {s s' : Shared} (g : kJ s s') : s.heap.objs.size ≤ s'.heap.objs.size := by
 obtain ⟨h', tk, dr, rfl, k, _⟩ := g
 exact k
theorem pT {Q : List Value → Shared → Prop} (K : KdlSrc prog w T r d n Pz OKh) (hh : A.handled = none) (cI : OKh s.heap) (hn : n ≤ sizeLine)
  (hq : ∀ vs s', kJ s s' → vs.length = n → (∀ j v, vs[j]? = some v → Pz j v) → Q vs s') : wpAny (model prog w) A (collect (.ref r)) Q E s := by
 have ha := K.there _ cI
 have fin : ∀ (h' : Heap) (tk : Nat) (acc : Array Value) (c : Nat), (∀ b o, s.heap.get? b = some o → h'.get? b = some o) →
   h'.get? s.heap.objs.size = some { cls := .type "list", dict := none, data := .seq acc c, slots := #[] } → ItemsOf Pz acc n →
   wpAny (model prog w) A (match Value.ref s.heap.objs.size with
    | Value.ref a => do
     match (← load a).data with
      | Data.seq xs _ => pure xs.toList
      | _ => unsupported "internal:collect"
    | _ => unsupported "internal:collect") Q E { s with heap := h', toks := tk } := fun h' tk acc c kp hS hacc => by
  show wpAny _ A (load s.heap.objs.size >>= _) _ _ _
  exact wpAny_bind (wpAny_load hS (wpAny_pure (hq _ _ ⟨h', tk, s.drawn, rfl, Nat.le_of_lt (Heap.lt_size hS), kp⟩ (by rw [Array.length_toList]; exact hacc.1) fun j v e => hacc.2 j v (by rw [← Array.getElem?_toList]; exact e))))
 unfold collect
 refine wpAny_bind (wpAny_runValue (codeAny_builtin F.entry_proto_collect ?_))
 rw [Around.under_plainId F.plain_proto_collect _]
 refine wpAny_bind (m := newList []) (wpAny_newObj_type ?_)
 refine wpAny_pure ⟨plainId_quiet F.plain_list_iadd _, codeAny_builtin F.entry_list_iadd ?_⟩
 rw [Around.under_plainId F.plain_list_iadd _]
 have e0 : (s.heap.push { cls := .type "list", data := .seq ([] : List Value).toArray }).get? s.heap.objs.size = some { cls := .type "list", data := .seq #[] 0 } := Heap.get?_push_size _ rfl
 have key := kdl_extend (A := A) (s := { s with heap := s.heap.push { cls := .type "list", data := .seq ([] : List Value).toArray } }) (R := fun rs s' => ∃ h' tk acc c, rs = .ok (.ret (.ref s.heap.objs.size)) ∧ s' = { s with heap := h', toks := tk } ∧ (∀ b o, s.heap.get? b = some o → h'.get? b = some o) ∧ h'.get? s.heap.objs.size = some { cls := .type "list", dict := none, data := .seq acc c, slots := #[] } ∧ ItemsOf Pz acc n) K hh (K.keep _ _ cI fun b _ o e => Heap.get?_push_of_some _ e) s.heap.objs.size (Nat.ne_of_gt ha.1) (Nat.ne_of_gt ha.2) (.ref s.heap.objs.size) 0 e0
  (fun h' tk acc c kp hS hacc => ⟨h', tk, acc, c, rfl, rfl, fun b o e => kp b o (Nat.ne_of_lt (Heap.lt_size e)) (Heap.get?_push_of_some _ e), hS, hacc⟩) hn
 refine wpAny_mono key (fun f s' h => ?_) fun e s' h => ?_
 ·cases f with
  | done f =>
   obtain ⟨h', tk, acc, c, e1, rfl, kp, hS, hacc⟩ := h
   cases e1
   exact fin h' tk acc c kp hS hacc
  | again c' =>
   refine ⟨h.1, codeAny_mono h.2 fun rs s2 hr => ?_⟩
   obtain ⟨h', tk, acc, c, rfl, rfl, kp, hS, hacc⟩ := hr
   exact fin h' tk acc c kp hS hacc
 ·obtain ⟨h', tk, acc, c, e1, _⟩ := h
  cases e1
theorem C6 {Q : Value → Shared → Prop} (K : KdlSrc prog w T r d n Pz OKh) (hnt : T ≠ "tuple") (hh : A.handled = none) (cI : OKh s.heap) (hn : n ≤ sizeLine)
  (hq : ∀ (vs : List Value) s1, kJ s s1 → vs.length = n → (∀ j v, vs[j]? = some v → Pz j v) → Q (.ref s1.heap.objs.size) { s1 with heap := s1.heap.push { cls := .type "tuple", data := .seq vs.toArray } }) :
  wpAny (model prog w) A (call (.type "tuple") [.ref r]) Q E s := by
 have hT := K.type s cI
 refine callType_codes (Q₁ := fun obj s₁ => s₁.TypeIs obj "tuple" ∧ Q obj s₁) F.called_tuple (F.typeCall_tuple_1 _) F.entry_object_init ?_ fun obj s₁ h₁ =>
  ⟨h₁.1, F.args_object_init_2 obj _, object_init_meets F.called_tuple.init.lookup F.called_tuple.made (by decide) prog w A.in1 _ s₁ ⟨h₁.1, rfl, h₁.2⟩⟩
 refine codeAny_of_tree ?_
 refine wpAny_bind (m := checkBuiltinCall "tuple.__new__" ⟨[.type "tuple", .ref r], []⟩) (wpAny_of_eq (F.newCall_tuple_1 _) (wpAny_pure ⟨plainId_quiet F.plain_tuple_new _, codeAny_builtin F.entry_tuple_new ?_⟩))
 rw [Around.under_plainId F.plain_tuple_new _]
 have a1 := sub_tuple_self
 have a2 := init_tuple_lookup
 have a3 := madeHere_tuple
 have a4 : (Value.type T == Value.type "tuple") = false := K.notTuple
 unfold Builtin.«tuple.__new__»
 generalize hC : collect = C
 wp_walk using wpAny_typeOf hT
 subst hC
 refine pT K hh cI hn fun vs s1 g hl hv => ?_
 refine wpAny_bind (wpAny_pure ?_)
 unfold Builtin.Tuple.tupleExact
 refine wpAny_bind (m := newObj (.type "tuple") (.seq vs.toArray)) (wpAny_newObj_type ?_ (by show vs.toArray.size ≤ sizeLine; rw [List.size_toArray, hl]; exact hn))
 exact wpAny_pure ⟨⟨_, Heap.get?_push_size _ rfl, rfl⟩, hq vs s1 g hl hv⟩
theorem o4 {v : Value} {R : List Str → Prop} {Q : Value → Shared → Prop}
  (hcol : ∀ (E' : Value → Shared → Prop) (Q' : List Value → Shared → Prop), (∀ vs s1 ss, kJ s s1 → StrsAre vs ss → R ss → Q' vs s1) → wpAny (model prog w) A.in1 (collect v) Q' E' s) (h64 : ∀ ss, R ss → ss.length < 64)
  (hq : ∀ (a : Addr) s2 (out : List Value) c ss ss', kJ s s2 → s.heap.objs.size ≤ a → s2.heap.get? a = some (seqObj "list" out.toArray c) → StrsAre out ss' → R ss → ss'.Perm ss → sortedS ss' = true → Q (.ref a) s2) :
  wpAny (model prog w) A (call (.builtin "sorted") [v]) Q E s := by
 refine Calls.call_function_entry kind_sorted plain_sorted entry_sorted (args_sorted1 _) ?_
 unfold Builtin.«sorted»
 refine wpAny_bind (m := checkCount "sorted" 1 1 _) (wpAny_pure (wpAny_bind (hcol _ _ fun vs s1 ss g hS hR => ?_)))
 have hl : vs.length < 64 := by rw [hS.length]; exact h64 ss hR
 refine wpAny_bind (wpAny_newList ?_ (by simp only [sizeLine_eq]; omega))
 have e1 : (s1.heap.push (seqObj "list" vs.toArray 0)).get? s1.heap.objs.size = some (seqObj "list" vs.toArray 0) := Heap.get?_push_size _ rfl
 refine wpAny_bind (wpAny_holding (wpAny_call_entry slot_list_sort ⟨_, e1, rfl⟩ entry_list_sort (list_sort_treeK strKind_oneLt e1 hS.keysOf (fun v₁ v₂ rest e => keyKind_strs (by rw [← e]; exact hS)) hl fun st' a1 a2 => ⟨_, rfl, ?_⟩) (args_list_sort _)))
 obtain ⟨ss', b1, b2, b3⟩ := sorted_out_str hS a1 a2
 refine wpAny_pure ⟨_, rfl, ?_⟩
 obtain ⟨c, hc⟩ := sortedHeap_at (out := (arrOf st').map (·.2)) e1
 refine hq s1.heap.objs.size _ ((arrOf st').map (·.2)).toList c ss ss' ?_ g.size (by rw [Array.toArray_toList]; exact hc) b1 hR b2 b3
 obtain ⟨h', tk, dr, rfl, gz, k⟩ := g
 refine ⟨_, tk, dr, rfl, Nat.le_trans gz (Nat.le_of_lt (Heap.lt_size hc)), fun b o e => ?_⟩
 have hb := Heap.lt_size (k b o e)
 rw [sortedHeap_old (Nat.ne_of_lt hb) (by rw [size_push']; exact Nat.lt_succ_of_lt hb)]
 exact Heap.get?_push_of_some _ (k b o e)
end
section
variable {X : Cx} {pins : List (Addr × Obj)} {σ : St} {H : Hp} {s s' : Shared}
theorem Inv.T3 (I : Inv X pins σ H s) (g : kJ s s') : Inv X pins σ H s' := by
 obtain ⟨h', tk, dr, rfl, _, k⟩ := g
 exact I.call (g' := s.gens) (d' := dr) (t' := tk) (ch := []) (Un.kept k) (I.cI.kept k) I.bare fun _ z => nomatch z
end
end L2
namespace L2
open PySem PySem.Spec PyProof.Rows PySem.W
noncomputable def LP (v d : Addr) : HO := .ext fun h => h.IsValuesView v d
theorem Rd.upd {H : Hp} {a l : Addr} {o u : HO} (h : Rd H a o) (hl : H l = none) : Rd (upd H l u) a o := by
 have ne : a ≠ l := by
  rintro rfl
  rcases h with h | ⟨_, h⟩ <;> (rw [hl] at h; cases h)
 rcases h with h | ⟨x, h⟩
 ·exact .inl (by rw [aX ne]; exact h)
 ·exact .inr ⟨x, by rw [aX ne]; exact h⟩
theorem KV.vals {kvs : List (Key × V)} {vs : List (Key × Value)} (r : KV kvs vs) : Vals (kvs.map (·.2)) (vs.map (·.2)) := by
 unfold KV at r
 induction r with
 | nil => exact .nil
 | cons h t ih => exact .cons h.2 ih
theorem KV.len {kvs : List (Key × V)} {vs : List (Key × Value)} (r : KV kvs vs) : kvs.length = vs.length := by
 have := congrArg List.length r.keys
 simpa using this
theorem Inv.SW {X : Cx} {pins : List (Addr × Obj)} {σ : St} {H : Hp} {s s' : Shared} {a : Addr} {o : HO} (I : Inv X pins σ H s) (g : kJ s s') (hp : s.heap.objs.size ≤ a) (new : eY X.prog X.w (L2.upd H a o) s'.heap a o) : Inv X pins σ (L2.upd H a o) s' := by
 obtain ⟨h', tk, dr, rfl, _, k⟩ := g
 exact I.call (g' := s.gens) (d' := dr) (t' := tk) (ch := []) (Un.laid k hp (I.cI.fresh hp)) (I.cI.laid k hp new) I.bare fun _ z => nomatch z
section
variable {X : Cx}
noncomputable def MX (to : TE) : TE := fun σ H Q => to σ H fun x H1 => ∃ a kvs, x = .ref a ∧ Rd H1 a (.dK kvs) ∧ ∀ v, H1 v = none → Q (.ref v) (upd H1 v (LP v a))
theorem JM {o : Expr} {to : TE} {apos cpos : Pos} (ho : PE X o to) (hbase : attributeBase o "values" X.env (eval o X.env) = eval o X.env := by rfl) (hline : (apos.endLine == cpos.line) = true := by rfl) :
  PE X (.Call (.Attribute o "values" apos) [] [] cpos) (MX to) := by
 intro pins s σ H Q I h
 refine wpAny_Call_method0_late hbase hline (d8 (ho pins s σ H _ I h) fun v s1 ⟨x, H1, I1, r1, a, kvs, ex, ha, q1⟩ => ?_)
 subst ex
 obtain rfl : v = Value.ref a := r1
 obtain ⟨hz, hd, vs, rel, dd⟩ := jR I1.cI ha
 refine ⟨"dict", "dict.values", PySem.F.plainAttrs_dict, PySem.F.slot_dict_values, PySem.F.type_dict_values, dd.typeIs, dd.mapOf.noDict, Calls.callWith_builtin rfl (PySem.evalArgs_none ?_)⟩
 refine call_meetsIn PySem.F.slot_dict_values dd.typeIs PySem.F.entry_dict_values (PySem.F.args_dict_values_1 _) (meets_dict_values (cM X.prog X.w) a hd) ⟨⟨vs, dd⟩, ?_⟩
 have e0 : (s1.heap.push { cls := .type "dict_values", data := .fields #[.ref a] }).get? s1.heap.objs.size = some { cls := .type "dict_values", data := .fields #[.ref a] } := Heap.get?_push_size _ rfl
 refine ⟨.ref s1.heap.objs.size, _, I1.laid (t' := s1.toks) (o := LP s1.heap.objs.size a) (fun b u e => Heap.get?_push_of_some _ e) (Nat.le_refl _) ⟨⟨_, e0, rfl, rfl⟩, ⟨_, e0⟩, fun h1 h2 ⟨u, e, c⟩ k => ⟨u, k u e, c⟩⟩, rfl, q1 _ (I1.cI.fresh (Nat.le_refl _))⟩
noncomputable def MN : List V → Hp → VK → Prop := fun xs H Q => ∃ v a kvs, xs = [.ref v] ∧ H v = some (LP v a) ∧ Rd H a (.dK kvs) ∧ ∀ l, H l = none → Q (.ref l) (upd H l (.tup (kvs.map (·.2))))
theorem VU (hc : X.calm = true := by rfl) : dN X (.type "tuple") MN := by
 intro pins s σ H xs us Q I r ⟨v, a, kvs, e, hv, ha, q⟩
 subst e
 obtain ⟨u, rfl, rx⟩ := vals1 r
 cases rx
 obtain ⟨hz, hd, vs, rel, dd⟩ := jR I.cI ha
 obtain ⟨ep, dd⟩ := dd.dictAt
 refine C6 (kdl_values (knd := cM X.prog X.w) (r := v) (d := a) (kvs := vs) (ep := ep)) (by decide) (by exact I.ok.hd hc) ⟨(I.cI v _ hv).1, dd⟩ (by rw [← rel.len]; exact hz) fun ws s1 g hl hw => ?_
 have ew := kdl_vals_eq ws hl hw
 subst ew
 have I1 := I.T3 g
 exact ⟨.ref s1.heap.objs.size, _, I1.laid (t' := s1.toks) (o := .tup (kvs.map (·.2))) (fun b o e => Heap.get?_push_of_some _ e) (Nat.le_refl _) ⟨by rw [List.length_map]; exact hz, _, rel.vals, IsTup.new _ _⟩, rfl, q _ (I1.cI.fresh (Nat.le_refl _))⟩
noncomputable def zS : List V → Hp → VK → Prop := fun xs H Q => ∃ a kvs ss, xs = [.ref a] ∧ Rd H a (.dK kvs) ∧ kvs.map (·.1) = ss.map Sum.inr ∧ ss.length < 64 ∧ ∀ l out, out.Perm ss → sortedS out = true → H l = none → Q (.ref l) (upd H l (.lst (out.map V.str)))
theorem tK {prog : Program} {w : World} : ∀ {ss : List Str} {vs : List (Key × Value)} {us : List Value}, vs.map (·.1) = ss.map Sum.inr → us.length = vs.length → (∀ (j : Nat) v, us[j]? = some v → ∃ k x, vs[j]? = some (k, x) ∧ (cM prog w).is k v = true) → StrsAre us ss
 | [], [], [], _, _, _ => .nil
 | [], [], _ :: _, _, h, _ => by cases h
 | [], _ :: _, _, h, _, _ => by cases h
 | _ :: _, [], _, h, _, _ => by cases h
 | _ :: _, _ :: _, [], _, h, _ => by cases h
 | t :: ss, (k, x) :: vs, u :: us, h, hl, hu => by
  rw [List.map_cons, List.map_cons] at h
  have h := List.cons.inj h
  have e : k = Sum.inr t := h.1
  subst e
  obtain ⟨k', x', e', hk⟩ := hu 0 u rfl
  cases e'
  rcases cW (show mE (Sum.inr t) u = true from hk) with ⟨i, tk, z, _⟩ | ⟨y, tk, z, rfl⟩
  ·cases z
  ·cases z
   exact .cons _ tk (tK h.2 (by simpa using hl) fun j v e => hu (j + 1) v (by simpa using e))
theorem RQ (hc : X.calm = true := by rfl) : dN X (.builtin "sorted") zS := by
 intro pins s σ H xs us Q I r ⟨a, kvs, ss, e, ha, hk, h64, q⟩
 subst e
 obtain ⟨u, rfl, rx⟩ := vals1 r
 cases rx
 obtain ⟨hz, hd, vs, rel, dd⟩ := jR I.cI ha
 obtain ⟨ep, dd⟩ := dd.dictAt
 rw [rel.keys] at hk
 refine o4 (R := fun tt => tt = ss) (fun E' Q' k => ?_) (fun tt e => by rw [e]; exact h64) fun l s2 out c tt tt' g hl hat h1 h2 h3 h4 => ?_
 ·exact pT (kdl_dict (knd := cM X.prog X.w) (d := a) (kvs := vs) (ep := ep) hd) (by exact I.ok.hd hc) dd (by rw [← rel.len]; exact hz) fun ws s1 g hl hw => k ws s1 ss g (tK hk hl hw) rfl
 ·subst h2
  exact ⟨.ref l, _, I.SW (o := .lst (tt'.map V.str)) g hl ⟨by rw [List.length_map, h3.length_eq]; rw [sizeLine_eq]; omega, out, c, jY h1, hat⟩, rfl, q _ tt' h3 h4 (I.cI.fresh hl)⟩
end
end L2
namespace L2
open PySem PySem.Spec PyProof.Rows PySem.W
section
variable (prog : Program) (w : World)
noncomputable abbrev UH : Bool := w.params.followText "set-order"
variable {prog w}
noncomputable def yY (ks : List Str) (x : Str) : List Str := if x ∈ ks then ks else ks ++ [x]
variable {A : Around} {E : Value → Shared → Prop} {s : Shared}
end
end L2
namespace L2
open PySem PySem.Spec PyProof.Rows PySem.W
noncomputable def vT (ss : List Str) : List Str := ss.foldl yY []
section
variable {prog : Program} {w : World} {A : Around} {E : Value → Shared → Prop} {s : Shared}
end
end L2
namespace L2
open PySem PySem.Spec PyProof.Rows PySem.W
section
variable {prog : Program} {w : World} {A : Around} {E : Value → Shared → Prop} {s : Shared}
end
end L2
namespace L2
open PySem PySem.Spec PyProof.Rows PySem.W
section
variable {prog : Program} {w : World} {A : Around} {E : Value → Shared → Prop} {s : Shared}
end
end L2
namespace L2
open PySem PySem.Spec PyProof.Rows PySem.W
section
variable {prog : Program} {w : World} {A : Around} {E : Value → Shared → Prop} {s : Shared}
inductive IG (w : World) (h : Heap) (es : Array (Int × Value)) (t : SetTable) (a : Addr) (ep : Nat) (ord : List Value) (T : Addr) : Value → Nat → Prop
 | drawn {ps : List Nat} {o : Obj} (i : Nat) (ho : h.get? T = some o) (hd : o.data = .seq (ps.map fun i : Nat => rawInt i).toArray 0) (hc : o.cls = .type "tuple") (he : ∀ j : Nat, (ps[j]?.bind fun p => (es[p]?).map (·.2)) = ord[j]?) (hl : ∀ (j : Nat) p, ps[j]? = some p → p < es.size) (hn : ps.length = es.size) : IG w h es t a ep ord T (.ref T) i
 | text (k i : Nat) (hb : UH w = true) (he : ord = (pickOrder (w.params.setOrder a ep) es).toList.map (·.2)) : IG w h es t a ep ord T (rawInt (k : Int)) i
 | none (k : Nat) (hb : UH w = false) (hn : es.size = 0) (he : ord = []) : IG w h es t a ep ord T (rawInt (k : Int)) 0
 | WJ {x : Int × Value} {p : Nat} (hb : UH w = false) (hn : es = #[x]) (hp : t.place = #[p]) (he : ord = [x.2]) : IG w h es t a ep ord T (rawInt 0) 0
 | WR {x : Int × Value} {p : Nat} (hb : UH w = false) (hn : es = #[x]) (hp : t.place = #[p]) (he : ord = [x.2]) : IG w h es t a ep ord T (rawInt ((p + 1 : Nat) : Int)) 1
end
end L2
namespace L2
open PySem PySem.Spec PyProof.Rows PySem.W
section
variable {prog : Program} {w : World} {A : Around} {E : Value → Shared → Prop} {s : Shared}
end
end L2
namespace L2
open PySem PySem.Spec PyProof.Rows PySem.W
section
variable {prog : Program} {w : World} {A : Around} {E : Value → Shared → Prop} {s : Shared}
end
end L2
namespace L2
open PySem PySem.Spec PyProof.Rows PySem.W
section
variable {X : Cx}
end
end L2
namespace Mr
open PySem PySem.Spec L2 PyProof.Rows
section
variable {K : PySem.W.Frag}
noncomputable def AJ (fa : FE) : FE := fun e => bE (fa e) fun x e1 => bO (x.weak.get e1) fun p => match p with
 | .bW kvs => some (.val (.tup (kvs.map (·.2))), e1)
 | _ => none
theorem DY {ta : TE} {fa : FE} (ha : Ref K ta fa) : Ref K (SV MN (oI (MX ta) u9)) (AJ fa) := by
 intro O M W L σ H e e' b Q o he hf q
 obtain ⟨x, e1, f1, hf⟩ := aT hf
 obtain ⟨p, g0, hf⟩ := aL hf
 cases p with
 | bW kvs =>
  cases hf
  refine ha O M W L σ H e _ x _ o he f1 fun v1 H1 k1 r1 fr => ?_
  have o1 := o.keep k1.cZ
  have en := r1.en o1
  obtain ⟨a, ys, rfl, hd, ek, rl⟩ := ((r1.rv o1).red en g0).yC
  refine ⟨a, ys, rfl, hd, fun v hv => ⟨v, a, ys, rfl, bG, hd.upd hv, fun l hl => ?_⟩⟩
  have s1 : bN H1 (upd H1 v (LP v a)) := bN.upd hv
  have s2 := bN.upd (o := .tup (ys.map (·.2))) hl
  refine q _ _ ((k1.trans (.same s1)).trans (.same s2)) ⟨(en.same s1).same s2, .tup (.inl bG) ((rl.aP (.same s1)).aP (.same s2))⟩ trivial
 | _ => cases hf
noncomputable def GA : List (Key × PV) → Option (List Str)
 | [] => some []
 | (.inr x, _) :: r => bO (GA r) fun ss => some (x :: ss)
 | _ => none
theorem xR : ∀ {kvs : List (Key × PV)} {ss : List Str}, GA kvs = some ss → kvs.map (·.1) = ss.map Sum.inr
 | [], ss, h => by cases h; rfl
 | (.inr x, p) :: r, ss, h => by
  obtain ⟨ss', h1, h⟩ := aL h
  cases h
  rw [List.map_cons, List.map_cons, xR h1]
 | (.inl x, p) :: r, ss, h => by cases h
noncomputable def rO : List PV → Option Bv
 | [.bW kvs] => bO (GA kvs) fun ss => bI (decide (ss.length < 64)) (some (.new (.lst ((nN ss).map PV.str))))
 | _ => none
theorem HR : jI K zS rO := by
 intro Z H vs ps b Q hp h k
 unfold rO at h
 split at h
 ·obtain ⟨ss, g, h⟩ := aL h
  obtain ⟨c, h⟩ := aS h
  cases h
  obtain ⟨v, rfl, hv⟩ := hp.one
  obtain ⟨a, ys, rfl, ha, ek, ra⟩ := hv.yC
  refine ⟨a, ys, ss, rfl, ha, ek.trans (xR g), of_decide_eq_true c, fun l out h1 h2 hl => ?_⟩
  rw [yK h1 h2] at k
  exact k _ _ (bN.upd hl) (z4 hl (bQ.ofStrs out))
 ·cases h
theorem EZ {fa : FE} {e : En} : AJ fa e = bE (fa e) fun x e1 => bO (x.weak.get e1) fun p => match p with
 | .bW kvs => some (.val (.tup (kvs.map (·.2))), e1)
 | _ => none := rfl
end
end Mr
namespace Mr
open PySem PySem.Spec L2 PyProof.Rows PySem.W
noncomputable def fR (lt : PV → PV → Option Bool) : List PV → List PV → Option Bool
 | [], [] => some false
 | [], _ :: _ => some true
 | _ :: _, [] => some false
 | x :: xs, y :: ys => if bT x y = true then fR lt xs ys else lt x y
noncomputable def oF : Nat → PV → PV → Option Bool
 | _, .str a, .str b => some (decide (a.cps.toList < b.cps.toList))
 | _, .int a, .int b => some (decide (a < b))
 | n + 1, .tup xs, .tup ys => fR (oF n) xs ys
 | _, _, _ => none
section
variable {s : Shared}
theorem HZ {A : Around} {lt : PV → PV → Option Bool} : ∀ {xs ys : List PV} {us vs : List Value} {c : Bool} {fin : Bool}, cD s.heap xs us → cD s.heap ys vs → (∀ x ∈ xs, ∀ y ∈ ys, ∀ u v, Lies s.heap x u → Lies s.heap y v → SeqAt.EqAt A s u v (bT x y) ∧ ∀ b, lt x y = some b → CV A s u v b) →
  fin = decide (us.length < vs.length) → fR lt xs ys = some c → xF A s fin (us.zip vs) c
 | [], [], _, _, c, fin, .nil, .nil, _, hf, h => by cases h; rw [hf]; exact .done
 | [], _ :: _, _, _, c, fin, .nil, .cons _ r, _, hf, h => by cases h; rw [hf]; exact .done
 | _ :: _, [], _, _, c, fin, .cons _ r, .nil, _, hf, h => by cases h; rw [hf]; exact .done
 | x :: xs, y :: ys, _, _, c, fin, .cons r1 rr1, .cons r2 rr2, hk, hf, h => by
  obtain ⟨he, hl⟩ := hk x List.mem_cons_self y List.mem_cons_self _ _ r1 r2
  unfold fR at h
  cases e : bT x y with
  | true =>
   rw [e] at he
   rw [if_pos e] at h
   exact .same he (HZ rr1 rr2 (fun a ha b hb => hk a (List.mem_cons_of_mem _ ha) b (List.mem_cons_of_mem _ hb)) (by rw [hf]; simp) h)
  | false =>
   rw [e] at he
   rw [if_neg (by rw [e]; exact Bool.false_ne_true)] at h
   exact .less he (hl c h)
theorem IH : ∀ (n : Nat) (A : Around) {p q : PV} {v u : Value} {b : Bool}, A.units + n < cLine → gU n p = true → gU n q = true → Lies s.heap p v → Lies s.heap q u → oF n p q = some b → CV A s v u b := by
 intro n
 induction n with
 | zero =>
  intro A p q v u b hu o1 o2 h1 h2 h
  cases p with
  | str x =>
   cases q with
   | str y => cases h; cases h1; cases h2; exact fun prog w E Q q => PySem.P.lt_str q
   | _ => cases h
  | int x =>
   cases q with
   | int y => cases h; cases h1; cases h2; exact fun prog w E Q q => PyProof.Rows.lt_int q
   | _ => cases h
  | _ => cases q <;> cases h
 | succ n ih =>
  intro A p q v u b hu o1 o2 h1 h2 h
  cases p with
  | str x =>
   cases q with
   | str y => cases h; cases h1; cases h2; exact fun prog w E Q q => PySem.P.lt_str q
   | _ => cases h
  | int x =>
   cases q with
   | int y => cases h; cases h1; cases h2; exact fun prog w E Q q => PyProof.Rows.lt_int q
   | _ => cases h
  | tup xs =>
   cases q with
   | tup ys =>
    cases h1 with
    | tup t1 l1 =>
     cases h2 with
     | tup t2 l2 =>
      have hin : A.in1.units = A.units + 1 := rfl
      have o1 : xs.all (gU n) = true := o1
      have o2 : ys.all (gU n) = true := o2
      refine N9 t1 t2 (by omega) ?_
      simpa using HZ (A := A.in1) (s := s) l1 l2 (fun x hx y hy u v a b => ⟨rX n A.in1 (by omega) (List.all_eq_true.mp o1 x hx) (List.all_eq_true.mp o2 y hy) a b, fun c hc => ih A.in1 (by omega) (List.all_eq_true.mp o1 x hx) (List.all_eq_true.mp o2 y hy) a b hc⟩) rfl h
   | _ => cases h
  | _ => cases q <;> cases h
theorem yI {prog : Program} {w : World} {A : Around} {fin : Bool} {lt : PV → PV → Option Bool} {C : Bool → Shared → Prop} : ∀ {xs ys : List PV} {us vs : List Value} {c : Bool} (i : Nat), 1 ≤ i → cD s.heap xs us → cD s.heap ys vs →
  (∀ x ∈ xs, ∀ y ∈ ys, ∀ u v, Lies s.heap x u → Lies s.heap y v → SeqAt.EqAt A s u v (bT x y) ∧ ∀ b, lt x y = some b → CV A s u v b) → fin = decide (us.length < vs.length) → fR lt xs ys = some c → C c s → KatLex prog w A true fin C (us.zip vs) i s
 | [], [], _, _, c, _, _, .nil, .nil, _, hf, h, hC => by cases h; exact kat_nil (by rw [hf]; exact hC)
 | [], _ :: _, _, _, c, _, _, .nil, .cons _ r, _, hf, h, hC => by cases h; exact kat_nil (by rw [hf]; exact hC)
 | _ :: _, [], _, _, c, _, _, .cons _ r, .nil, _, hf, h, hC => by cases h; exact kat_nil (by rw [hf]; exact hC)
 | x :: xs, y :: ys, _, _, c, i, hi, .cons r1 rr1, .cons r2 rr2, hk, hf, h, hC => by
  obtain ⟨he, hl⟩ := hk x List.mem_cons_self y List.mem_cons_self _ _ r1 r2
  refine kat_cons (he prog w _ _ ?_)
  unfold fR at h
  cases e : bT x y with
  | true =>
   rw [if_pos e] at h
   exact kat_yes (yI (i + 1) (by omega) rr1 rr2 (fun a ha b hb => hk a (List.mem_cons_of_mem _ ha) b (List.mem_cons_of_mem _ hb)) (by rw [hf]; simp) h hC)
  | false =>
   rw [if_neg (by rw [e]; exact Bool.false_ne_true)] at h
   refine kat_no ?_
   have e0 : (true && i == 0) = false := by simp; omega
   rw [e0]
   exact kat_one _ _ (hl c h prog w _ _ hC)
noncomputable def mX (b : Bool) : PV → Bool
 | .tup (.str _ :: _) => b
 | .tup (.int _ :: _) => !b
 | _ => false
noncomputable def ME (b : Bool) : String := if b then "str" else "int"
theorem SD {prog : Program} {w : World} {A : Around} {b : Bool} {n : Nat} {ps : List PV} {vs : List Value} (hl : cD s.heap ps vs) (hu : A.units + n < cLine) (led : ∀ p ∈ ps, mX b p = true) (ok : ∀ p ∈ ps, gU (n + 1) p = true)
  {i j : Nat} {c : Bool} {C : Bool → Shared → Prop} {p q : PV} (hp : ps[i]? = some p) (hq : ps[j]? = some q) (hc : oF (n + 1) p q = some c) (hC : C c s) : kas_ask prog w A (tuples' (Value.type (ME b) != Value.type "tuple")) vs i j C s := by
 have kt : (Value.type (ME b) != Value.type "tuple") = true := by cases b <;> decide
 obtain ⟨u, hu1, lu⟩ : ∃ u, vs[i]? = some u ∧ Lies s.heap p u := by
  have hlt : i < vs.length := by rw [← hl.length]; exact (List.getElem?_eq_some_iff.mp hp).1
  obtain ⟨p', e, l⟩ := hl.get (List.getElem?_eq_getElem hlt)
  rw [hp] at e; cases e
  exact ⟨_, List.getElem?_eq_getElem hlt, l⟩
 obtain ⟨v, hv1, lv⟩ : ∃ v, vs[j]? = some v ∧ Lies s.heap q v := by
  have hlt : j < vs.length := by rw [← hl.length]; exact (List.getElem?_eq_some_iff.mp hq).1
  obtain ⟨p', e, l⟩ := hl.get (List.getElem?_eq_getElem hlt)
  rw [hq] at e; cases e
  exact ⟨_, List.getElem?_eq_getElem hlt, l⟩
 have l1 := led p (List.mem_of_getElem? hp)
 have l2 := led q (List.mem_of_getElem? hq)
 have o1 := ok p (List.mem_of_getElem? hp)
 have o2 := ok q (List.mem_of_getElem? hq)
 show wpAny _ _ (keyLt' _ (vs.getD i Value.none) (vs.getD j Value.none)) C _ s
 rw [List.getD_eq_getElem?_getD, hu1, List.getD_eq_getElem?_getD, hv1, kt]
 cases lu with
 | @tup _ us xs t1 r1 =>
  cases lv with
  | @tup _ vs' ys t2 r2 =>
   obtain ⟨oa, ga, _, na, da⟩ := t1
   obtain ⟨ob, gb, _, nb, db⟩ := t2
   refine kat_lt ga da gb db ?_
   have o1 : xs.all (gU n) = true := o1
   have o2 : ys.all (gU n) = true := o2
   have key : ∀ x ∈ xs, ∀ y ∈ ys, ∀ u v, Lies s.heap x u → Lies s.heap y v → SeqAt.EqAt A s u v (bT x y) ∧ ∀ b, oF n x y = some b → CV A s u v b := fun x hx y hy u v a b =>
    ⟨rX n A hu (List.all_eq_true.mp o1 x hx) (List.all_eq_true.mp o2 y hy) a b, fun c hc => IH n A hu (List.all_eq_true.mp o1 x hx) (List.all_eq_true.mp o2 y hy) a b hc⟩
   have hc : fR (oF n) xs ys = some c := hc
   cases r1 with
   | nil => cases l1
   | @cons x u0 xs us a1 a2 =>
    cases r2 with
    | nil => cases l2
    | @cons y v0 ys vs' b1 b2 =>
     obtain ⟨he, _⟩ := key x List.mem_cons_self y List.mem_cons_self _ _ a1 b1
     refine kat_cons (he prog w _ _ ?_)
     unfold fR at hc
     cases e : bT x y with
     | true =>
      rw [if_pos e] at hc
      exact kat_yes (yI 1 (Nat.le_refl _) a2 b2 (fun a ha b hb => key a (List.mem_cons_of_mem _ ha) b (List.mem_cons_of_mem _ hb)) (by simp) hc hC)
     | false =>
      rw [if_neg (by rw [e]; exact Bool.false_ne_true)] at hc
      refine kat_no ?_
      cases x with
      | str x =>
       cases y with
       | str y =>
        have hc : some (decide (x.cps.toList < y.cps.toList)) = some c := by cases n <;> exact hc
        cases hc
        cases a1
        cases b1
        exact oneLt_str hC
       | int y => cases b <;> cases l1 <;> cases l2
       | _ => cases l2
      | int x =>
       cases y with
       | int y =>
        have hc : some (decide (x < y)) = some c := by cases n <;> exact hc
        cases hc
        cases a1
        cases b1
        exact oneLt_int hC
       | str y => cases b <;> cases l1 <;> cases l2
       | _ => cases l2
      | _ => cases l1
  | _ => cases l2
 | _ => cases l1
end
end Mr
namespace Mr
open PySem PySem.Spec L2 PyProof.Rows PySem.W
noncomputable def mD : Nat → PV → Bool
 | _, .bJ => true
 | _, .int _ => true
 | _, .str _ => true
 | n + 1, .tup ps => ps.all (mD n)
 | _, _ => false
theorem zI : ∀ {n : Nat} {p : PV}, mD n p = true → gU n p = true := by
 intro n
 induction n with
 | zero => intro p h; cases p <;> first | rfl | cases h
 | succ n ih =>
  intro p h
  cases p with
  | tup ps => exact List.all_eq_true.mpr fun x hx => ih (List.all_eq_true.mp h x hx)
  | lst ps => cases h
  | bW ps => cases h
  | ty x => cases h
  | bl x => cases h
  | _ => rfl
theorem BR {n : Nat} (ih : ∀ {p q : PV}, mD n p = true → mD n q = true → bT p q = true → p = q) : ∀ {xs ys : List PV}, xs.all (mD n) = true → ys.all (mD n) = true → dP xs ys = true → xs = ys
 | [], [], _, _, _ => rfl
 | [], _ :: _, _, _, h => by simp [dP] at h
 | _ :: _, [], _, _, h => by simp [dP] at h
 | x :: xs, y :: ys, h1, h2, h => by
  simp only [dP, Bool.and_eq_true] at h
  rw [List.all_cons, Bool.and_eq_true] at h1 h2
  rw [ih h1.1 h2.1 h.1, BR ih h1.2 h2.2 h.2]
theorem AE : ∀ {n : Nat} {p q : PV}, mD n p = true → mD n q = true → bT p q = true → p = q := by
 intro n
 induction n with
 | zero =>
  intro p q h1 h2 h
  cases p <;> cases q <;> first | rfl | (cases h1; done) | (cases h2; done) | (simp [bT] at h; try subst h; try rfl)
 | succ n ih =>
  intro p q h1 h2 h
  cases p with
  | tup xs =>
   cases q with
   | tup ys => rw [lQ] at h; rw [BR ih h1 h2 h]
   | _ => simp [bT] at h
  | lst xs => cases h1
  | bW xs => cases h1
  | ty xs => cases h1
  | bl xs => cases h1
  | bJ => cases q <;> first | rfl | (simp [bT] at h)
  | int i => cases q <;> first | (cases h2; done) | (simp [bT] at h; try subst h; try rfl)
  | str i => cases q <;> first | (cases h2; done) | (simp [bT] at h; try subst h; try rfl)
theorem tZ {n : Nat} (ih : ∀ {p : PV}, mD n p = true → bT p p = true) : ∀ {xs : List PV}, xs.all (mD n) = true → dP xs xs = true
 | [], _ => by simp [dP]
 | x :: xs, h => by
  rw [List.all_cons, Bool.and_eq_true] at h
  simp only [dP, Bool.and_eq_true]
  exact ⟨ih h.1, tZ ih h.2⟩
theorem qY : ∀ {n : Nat} {p : PV}, mD n p = true → bT p p = true := by
 intro n
 induction n with
 | zero => intro p h; cases p <;> first | (simp [bT]; done) | cases h
 | succ n ih =>
  intro p h
  cases p with
  | tup xs => rw [lQ]; exact tZ ih h
  | lst xs => cases h
  | bW xs => cases h
  | ty xs => cases h
  | bl xs => cases h
  | _ => simp [bT]
noncomputable def code : Nat → PV → List Int
 | _, .str x => x.cps.toList.map (fun c : Nat => (c : Int) + 1) ++ [0]
 | _, .int i => [i]
 | n + 1, .tup xs => xs.flatMap (fun x => 1 :: code n x) ++ [0]
 | _, _ => [0]
noncomputable abbrev iY : List Int → List Int → Bool := jN yD
theorem wJ (a r r' : List Int) : iY (a ++ r) (a ++ r') = iY r r' := by
 induction a with
 | nil => rfl
 | cons x a ih =>
  show gX yD x x (iY (a ++ r) (a ++ r')) = _
  exact (gM (A := yD) (a := x)).trans ih
theorem iT {x y : Int} {r r' : List Int} : iY (x :: r) (y :: r') = if x = y then iY r r' else decide (x < y) := by
 show gX yD x y (iY r r') = _
 rcases gQ (A := yD) x y with ⟨a, b⟩ | ⟨a, b⟩ | a
 ·rw [fW a]
  have a := of_decide_eq_true a
  rw [if_neg (by omega), decide_eq_true a]
 ·rw [jT a]
  have a := of_decide_eq_true a
  rw [if_neg (by omega), decide_eq_false (by omega)]
 ·subst a
  rw [if_pos rfl]
  exact gM (A := yD) (a := x)
theorem B8 : ∀ (a b : List Nat) (r r' : List Int), iY ((a.map fun c : Nat => (c : Int) + 1) ++ [0] ++ r) ((b.map fun c : Nat => (c : Int) + 1) ++ [0] ++ r') = if a = b then iY r r' else decide (a < b)
 | [], [], r, r' => by
  rw [if_pos rfl]
  exact wJ [0] r r'
 | [], y :: b, r, r' => by
  rw [if_neg (by simp)]
  show iY (0 :: r) (((y : Int) + 1) :: _) = _
  rw [iT, if_neg (by omega), decide_eq_true (by omega)]
  exact (decide_eq_true (by simp)).symm
 | x :: a, [], r, r' => by
  rw [if_neg (by simp)]
  show iY (((x : Int) + 1) :: _) (0 :: r') = _
  rw [iT, if_neg (by omega), decide_eq_false (by omega)]
  exact (decide_eq_false (by simp)).symm
 | x :: a, y :: b, r, r' => by
  show iY (((x : Int) + 1) :: ((a.map fun c : Nat => (c : Int) + 1) ++ [0] ++ r)) (((y : Int) + 1) :: ((b.map fun c : Nat => (c : Int) + 1) ++ [0] ++ r')) = _
  rw [iT, B8 a b r r']
  by_cases e : x = y
  ·subst e
   rw [if_pos rfl]
   by_cases e2 : a = b
   ·subst e2; rw [if_pos rfl, if_pos rfl]
   ·rw [if_neg e2, if_neg (by simpa using e2)]
    congr 1
    simp [List.cons_lt_cons_iff]
  ·rw [if_neg (by omega), if_neg (by intro z; exact e (List.cons.inj z).1)]
   by_cases h : x < y
   ·rw [decide_eq_true (show (x : Int) + 1 < y + 1 by omega)]
    exact (decide_eq_true (List.cons_lt_cons_iff.mpr (.inl h))).symm
   ·rw [decide_eq_false (show ¬ (x : Int) + 1 < y + 1 by omega)]
    refine (decide_eq_false fun z => ?_).symm
    rcases List.cons_lt_cons_iff.mp z with z | z
    ·exact h z
    ·exact e z.1
theorem wU {n : Nat} (ih : ∀ {p q : PV} {b : Bool} (r r' : List Int), mD n p = true → mD n q = true → oF n p q = some b → iY (code n p ++ r) (code n q ++ r') = if bT p q = true then iY r r' else b) :
  ∀ {xs ys : List PV} {b : Bool} (r r' : List Int), xs.all (mD n) = true → ys.all (mD n) = true → fR (oF n) xs ys = some b →
   iY (xs.flatMap (fun x => 1 :: code n x) ++ [0] ++ r) (ys.flatMap (fun x => 1 :: code n x) ++ [0] ++ r') = if dP xs ys = true then iY r r' else b
 | [], [], b, r, r', _, _, h => by
  rw [if_pos (by simp [dP])]
  exact wJ [0] r r'
 | [], y :: ys, b, r, r', _, _, h => by
  cases h
  rw [if_neg (by simp [dP])]
  show iY (0 :: r) (1 :: _) = _
  rw [iT]; rfl
 | x :: xs, [], b, r, r', _, _, h => by
  cases h
  rw [if_neg (by simp [dP])]
  show iY (1 :: _) (0 :: r') = _
  rw [iT]; rfl
 | x :: xs, y :: ys, b, r, r', h1, h2, h => by
  rw [List.all_cons, Bool.and_eq_true] at h1 h2
  have e1 : ∀ (z : PV) (zs : List PV) (w : List Int), (z :: zs).flatMap (fun x => 1 :: code n x) ++ [0] ++ w = 1 :: (code n z ++ (zs.flatMap (fun x => 1 :: code n x) ++ [0] ++ w)) := fun z zs w => by simp
  rw [e1, e1, iT, if_pos rfl]
  unfold fR at h
  cases e : bT x y with
  | true =>
   rw [if_pos e] at h
   have exy := AE h1.1 h2.1 e
   subst exy
   rw [wJ, wU ih r r' h1.2 h2.2 h]
   simp only [dP, e, Bool.true_and]
  | false =>
   rw [if_neg (by rw [e]; exact Bool.false_ne_true)] at h
   rw [ih _ _ h1.1 h2.1 h, if_neg (by rw [e]; exact Bool.false_ne_true), if_neg (by simp [dP, e])]
theorem L6 : ∀ {n : Nat} {p q : PV} {b : Bool} (r r' : List Int), mD n p = true → mD n q = true → oF n p q = some b → iY (code n p ++ r) (code n q ++ r') = if bT p q = true then iY r r' else b := by
 have str : ∀ {n : Nat} {x y : Str} {b : Bool} (r r' : List Int), oF n (.str x) (.str y) = some b → iY (code n (.str x) ++ r) (code n (.str y) ++ r') = if bT (.str x) (.str y) = true then iY r r' else b := fun {n x y b} r r' h => by
  have h : some (decide (x.cps.toList < y.cps.toList)) = some b := by cases n <;> exact h
  cases h
  have e1 : ∀ z : Str, code n (.str z) = z.cps.toList.map (fun c : Nat => (c : Int) + 1) ++ [0] := fun z => by cases n <;> rfl
  rw [e1, e1, B8]
  by_cases e : x = y
  ·subst e; rw [if_pos rfl, if_pos (by simp [bT])]
  ·rw [if_neg (fun z => e (CD z)), if_neg (by simpa [bT] using e)]
 have int : ∀ {n : Nat} {x y : Int} {b : Bool} (r r' : List Int), oF n (.int x) (.int y) = some b → iY (code n (.int x) ++ r) (code n (.int y) ++ r') = if bT (.int x) (.int y) = true then iY r r' else b := fun {n x y b} r r' h => by
  have h : some (decide (x < y)) = some b := by cases n <;> exact h
  cases h
  have e1 : ∀ z : Int, code n (.int z) = [z] := fun z => by cases n <;> rfl
  rw [e1, e1]
  show iY (x :: r) (y :: r') = _
  rw [iT]
  by_cases e : x = y
  ·subst e; rw [if_pos rfl, if_pos (by simp [bT])]
  ·rw [if_neg e, if_neg (by simpa [bT] using e)]
 intro n
 induction n with
 | zero =>
  intro p q b r r' h1 h2 h
  cases p with
  | str x => cases q with
   | str y => exact str r r' h
   | _ => cases h
  | int x => cases q with
   | int y => exact int r r' h
   | _ => cases h
  | _ => cases q <;> cases h
 | succ n ih =>
  intro p q b r r' h1 h2 h
  cases p with
  | str x => cases q with
   | str y => exact str r r' h
   | _ => cases h
  | int x => cases q with
   | int y => exact int r r' h
   | _ => cases h
  | tup xs => cases q with
   | tup ys =>
    rw [lQ]
    exact wU ih r r' h1 h2 h
   | _ => cases h
  | _ => cases q <;> cases h
end Mr
namespace Mr
open PySem PySem.Spec L2 PyProof.Rows PySem.W
theorem A7 {n : Nat} (ih : ∀ {p q : PV}, oF n p q = some false → oF n q p = some false → bT p q = true) (sym : ∀ p q : PV, bT p q = bT q p) : ∀ {xs ys : List PV}, fR (oF n) xs ys = some false → fR (oF n) ys xs = some false → dP xs ys = true
 | [], [], _, _ => by simp [dP]
 | [], _ :: _, h, _ => by cases h
 | _ :: _, [], _, h => by cases h
 | x :: xs, y :: ys, h, h' => by
  unfold fR at h h'
  rw [sym y x] at h'
  cases e : bT x y with
  | true =>
   rw [if_pos e] at h h'
   simp only [dP, e, Bool.true_and]
   exact A7 ih sym h h'
  | false =>
   rw [if_neg (by rw [e]; exact Bool.false_ne_true)] at h h'
   rw [ih h h'] at e
   cases e
mutual
theorem AY : ∀ p q : PV, bT p q = bT q p
 | .bJ, q => by cases q <;> simp [bT]
 | .bl a, q => by cases q <;> simp only [bT] <;> (rw [Bool.eq_iff_iff, beq_iff_eq, beq_iff_eq]; exact eq_comm)
 | .int a, q => by cases q <;> simp only [bT] <;> (rw [Bool.eq_iff_iff, beq_iff_eq, beq_iff_eq]; exact eq_comm)
 | .str a, q => by cases q <;> simp only [bT] <;> (rw [Bool.eq_iff_iff, beq_iff_eq, beq_iff_eq]; exact eq_comm)
 | .ty a, q => by cases q <;> simp [bT]
 | .bW a, q => by cases q <;> simp [bT]
 | .tup xs, q => by
  cases q with
  | tup ys => simp only [bT]; exact rW xs ys
  | _ => simp [bT]
 | .lst xs, q => by
  cases q with
  | lst ys => simp only [bT]; exact rW xs ys
  | _ => simp [bT]
theorem rW : ∀ xs ys : List PV, dP xs ys = dP ys xs
 | [], ys => by cases ys <;> simp [dP]
 | x :: xs, [] => by simp [dP]
 | x :: xs, y :: ys => by simp only [dP]; rw [AY x y, rW xs ys]
end
theorem WK : ∀ {n : Nat} {p q : PV}, oF n p q = some false → oF n q p = some false → bT p q = true := by
 have str : ∀ {x y : Str}, ¬ x.cps.toList < y.cps.toList → ¬ y.cps.toList < x.cps.toList → bT (.str x) (.str y) = true := fun h h' => by
  have e := List.le_antisymm (List.not_lt.mp h') (List.not_lt.mp h)
  rw [CD e]
  simp [bT]
 have int : ∀ {x y : Int}, ¬ x < y → ¬ y < x → bT (.int x) (.int y) = true := fun h h' => by
  have e : _ = _ := Int.le_antisymm (Int.not_lt.mp h') (Int.not_lt.mp h)
  rw [e]
  simp [bT]
 intro n
 induction n with
 | zero =>
  intro p q h h'
  cases p with
  | str x => cases q with
   | str y => exact str (of_decide_eq_false (Option.some.inj h)) (of_decide_eq_false (Option.some.inj h'))
   | _ => cases h
  | int x => cases q with
   | int y => exact int (of_decide_eq_false (Option.some.inj h)) (of_decide_eq_false (Option.some.inj h'))
   | _ => cases h
  | _ => cases q <;> cases h
 | succ n ih =>
  intro p q h h'
  cases p with
  | str x => cases q with
   | str y => exact str (of_decide_eq_false (Option.some.inj h)) (of_decide_eq_false (Option.some.inj h'))
   | _ => cases h
  | int x => cases q with
   | int y => exact int (of_decide_eq_false (Option.some.inj h)) (of_decide_eq_false (Option.some.inj h'))
   | _ => cases h
  | tup xs => cases q with
   | tup ys => rw [lQ]; exact A7 ih AY h h'
   | _ => cases h
  | _ => cases q <;> cases h
noncomputable def gY (n : Nat) (ps : List PV) : Bool := ps.all fun p => mD n p && ps.all fun q => (oF n p q).isSome
noncomputable abbrev oB : KeyOrd := MK yD
noncomputable def mF (n : Nat) (a b : PV) : Bool := !iY (code n b) (code n a)
noncomputable def rB (n : Nat) (ps : List PV) : List PV := ps.mergeSort (mF n)
theorem uG {n : Nat} (a b c : PV) (h1 : mF n a b = true) (h2 : mF n b c = true) : mF n a c = true := by
 unfold mF at *
 rw [Bool.not_eq_true'] at *
 exact KeyOrd.kle_trans (O := oB) h1 h2
theorem uL {n : Nat} (a b : PV) : (mF n a b || mF n b a) = true := by
 unfold mF
 rcases gQ (A := oB) (code n a) (code n b) with ⟨x, y⟩ | ⟨x, y⟩ | x
 ·rw [show iY (code n b) (code n a) = false from y]; rfl
 ·rw [show iY (code n a) (code n b) = false from y]; simp
 ·rw [x, show iY (code n b) (code n b) = false from oB.irrefl _]; rfl
theorem eQ (n : Nat) (ps : List PV) : (rB n ps).Perm ps := List.mergeSort_perm ps (mF n)
theorem j8 (n : Nat) (ps : List PV) : (rB n ps).Pairwise fun a b => mF n a b = true := List.pairwise_mergeSort uG uL ps
theorem lJ {n : Nat} : ∀ {a b : List PV}, a.Pairwise (fun x y => mF n x y = true) → b.Pairwise (fun x y => mF n x y = true) → a.Perm b → (∀ x ∈ a, ∀ y ∈ a, mF n x y = true → mF n y x = true → x = y) → a = b
 | [], b, _, _, p, _ => List.Perm.nil_eq p
 | x :: a, [], _, _, p, _ => absurd p.symm.nil_eq (by simp)
 | x :: a, y :: b, ha, hb, p, an => by
  have hx := (List.pairwise_cons.mp ha).1
  have hy := (List.pairwise_cons.mp hb).1
  have e : x = y := by
   rcases List.mem_cons.mp (p.mem_iff.mp List.mem_cons_self) with z | z
   ·exact z
   ·rcases List.mem_cons.mp (p.mem_iff.mpr List.mem_cons_self) with w | w
    ·exact w.symm
    ·exact an x List.mem_cons_self y (List.mem_cons_of_mem _ w) (hx y w) (hy x z)
  subst e
  rw [lJ (List.pairwise_cons.mp ha).2 (List.pairwise_cons.mp hb).2 p.cons_inv fun u hu v hv => an u (List.mem_cons_of_mem _ hu) v (List.mem_cons_of_mem _ hv)]
theorem lN {n : Nat} {ps : List PV} (h : gY n ps = true) {p q : PV} (hp : p ∈ ps) (hq : q ∈ ps) : oF n p q = some (iY (code n p) (code n q)) := by
 have a := List.all_eq_true.mp h p hp
 have b := List.all_eq_true.mp h q hq
 rw [Bool.and_eq_true] at a b
 have c := List.all_eq_true.mp a.2 q hq
 obtain ⟨v, e⟩ := Option.isSome_iff_exists.mp c
 have c' := List.all_eq_true.mp b.2 p hp
 obtain ⟨v', e'⟩ := Option.isSome_iff_exists.mp c'
 have k := L6 [] [] a.1 b.1 e
 rw [List.append_nil, List.append_nil] at k
 rw [e, k]
 cases z : bT p q with
 | false => rw [if_neg Bool.false_ne_true]
 | true =>
  rw [if_pos rfl]
  have epq := AE a.1 b.1 z
  subst epq
  rw [e] at e'
  cases e'
  show some v = some false
  have irr : ∀ {m : Nat} {p : PV} {v : Bool}, mD m p = true → oF m p p = some v → v = false := by
   intro m p v hp h
   cases v with
   | false => rfl
   | true =>
    exfalso
    cases m with
    | zero =>
     cases p with
     | str x => exact absurd (of_decide_eq_true (Option.some.inj h)) (List.lt_irrefl _)
     | int x => exact absurd (of_decide_eq_true (Option.some.inj h)) (by omega)
     | _ => cases h
    | succ m =>
     cases p with
     | str x => exact absurd (of_decide_eq_true (Option.some.inj h)) (List.lt_irrefl _)
     | int x => exact absurd (of_decide_eq_true (Option.some.inj h)) (by omega)
     | tup xs =>
      have key : ∀ {l : List PV}, l.all (mD m) = true → fR (oF m) l l = some false := by
       intro l
       induction l with
       | nil => intro _; rfl
       | cons x l ih =>
        intro hl
        rw [List.all_cons, Bool.and_eq_true] at hl
        unfold fR
        rw [if_pos (qY hl.1)]
        exact ih hl.2
      have := key (show xs.all (mD m) = true from hp)
      rw [show fR (oF m) xs xs = some true from h] at this
      cases this
     | _ => cases h
  rw [irr a.1 e]
theorem rP {n : Nat} {ps : List PV} (h : gY n ps = true) {p q : PV} (hp : p ∈ ps) (hq : q ∈ ps) (h1 : mF n p q = true) (h2 : mF n q p = true) : p = q := by
 have a := List.all_eq_true.mp h p hp
 have b := List.all_eq_true.mp h q hq
 rw [Bool.and_eq_true] at a b
 unfold mF at h1 h2
 rw [Bool.not_eq_true'] at h1 h2
 refine AE a.1 b.1 (WK (n := n) ?_ ?_)
 ·rw [lN h hp hq, h2]
 ·rw [lN h hq hp, h1]
section
variable {X : Cx} {k : Nat}
noncomputable def AQ (K : PySem.W.Frag) : List V → Hp → VK → Prop := fun xs H Q => ∃ p ys ps b, xs = [.ref p] ∧ iZ K H p ys ∧ bQ K d6 H ps ys ∧ ys.length < 64 ∧ (∀ x ∈ ps, mX b x = true) ∧ gY 3 ps = true ∧
 ∀ l (ix : List Nat), ix.Perm (List.range ps.length) → (ix.map fun i => ps.getD i .bJ).Pairwise (fun a b => mF 3 a b = true) → H l = none → Q (.ref l) (upd H l (.lst (ix.map fun i => ys.getD i .bJ)))
theorem oV {s : Shared} {b : Bool} : ∀ {ps : List PV} {vs : List Value}, cD s.heap ps vs → (∀ x ∈ ps, mX b x = true) → ∃ fs, KatTups s.heap vs fs ∧ fs.length = vs.length ∧ ∀ v ∈ fs, (∃ x t, b = true ∧ v = .str x t) ∨ ∃ x t, b = false ∧ v = .int x t
 | [], _, .nil, _ => ⟨[], .nil, rfl, fun _ h => nomatch h⟩
 | p :: ps, _, .cons l r, h => by
  obtain ⟨fs, h1, h2, h3⟩ := oV r fun z hz => h z (List.mem_cons_of_mem _ hz)
  have hp := h p List.mem_cons_self
  cases l with
  | tup t1 r1 =>
   obtain ⟨o, g1, g2, m, g3⟩ := t1
   cases r1 with
   | nil => cases hp
   | cons a1 a2 =>
    cases a1 with
    | str x t =>
     refine ⟨.str x t :: fs, .cons g1 g2 g3 (by simp) h1, by rw [List.length_cons, List.length_cons, h2], fun v hv => ?_⟩
     rcases List.mem_cons.mp hv with e | e
     ·exact .inl ⟨x, t, hp, e⟩
     ·exact h3 v e
    | int x t =>
     refine ⟨.int x t :: fs, .cons g1 g2 g3 (by simp) h1, by rw [List.length_cons, List.length_cons, h2], fun v hv => ?_⟩
     rcases List.mem_cons.mp hv with e | e
     ·exact .inr ⟨x, t, by simpa [mX] using hp, e⟩
     ·exact h3 v e
    | _ => cases hp
  | _ => cases hp
theorem N7 (K : PySem.W.Frag) (hr : eU k X.A) (hK : X.K = K := by rfl) : dN X (.builtin "sorted") (AQ K) := by
 subst hK
 intro pins s σ H xs us Q I r ⟨p, ys, ps, b, e, hq, rp, h64, led, cmp, q⟩
 subst e
 obtain ⟨u, rfl, rx⟩ := vals1 r
 cases rx
 obtain ⟨vs, rv, pl, hz⟩ := I.list hq
 have hlen := rv.length
 have hpl := rp.length
 have ok : ∀ x ∈ ps, gU 3 x = true := fun x hx => by
  have := List.all_eq_true.mp cmp x hx
  rw [Bool.and_eq_true] at this
  exact zI this.1
 refine xP (R := fun p => lH oB (fun i => code 3 (ps.getD i .bJ)) p vs.length) pl.isList (by omega) (fun l2 h' kp => ?_) (fun h2 i j a b => ?_) fun out p h1 h2 h3 => ?_
 ·have I' := I.kept (t' := s.toks) kp
  have hL : cD h' ps vs := bQ.lies I' (n := 3) (List.all_eq_true.mpr ok) rp rv
  obtain ⟨fs, k1, k2, k3⟩ := oV (s := { s with heap := h' }) hL led
  refine ⟨tuples' (Value.type (ME b) != Value.type "tuple"), fun Q E q => kat_kind k1 (by omega) (fun v hv => ?_) (by cases b <;> decide) q, fun G hG => oT.run (n := vs.length) (ans := zY oB (fun i => code 3 (ps.getD i .bJ))) (fun i j C hi hj hC => ?_) (fun p h1 h2 => hG p h1 h2) (BE (by omega)) (E2 (by omega))⟩
  ·rcases k3 v hv with ⟨x, t, rfl, rfl⟩ | ⟨x, t, rfl, rfl⟩
   ·exact Looks.of_pure rfl
   ·exact Looks.of_pure rfl
  ·have e1 : ps[i]? = some ps[i] := List.getElem?_eq_getElem (by omega)
   have e2 : ps[j]? = some ps[j] := List.getElem?_eq_getElem (by omega)
   refine SD (s := { s with heap := h' }) (n := 2) hL (by have := hr.un; show X.A.units + 1 + 1 + 2 < _; omega) led ok e1 e2 (lN cmp (List.getElem_mem _) (List.getElem_mem _)) ?_
   have hC : C (oB.blt (code 3 (ps.getD i .bJ)) (code 3 (ps.getD j .bJ))) _ := hC
   rw [List.getD_eq_getElem?_getD, e1, List.getD_eq_getElem?_getD, e2] at hC
   exact hC
 ·rw [show i = j by omega]; exact KeyOrd.kle_refl _
 ·have hp : p.toList.Perm (List.range vs.length) := by simpa using Array.perm_iff_toList_perm.mp h1
  have hlt : ∀ i ∈ p.toList, i < vs.length := fun i hi => List.mem_range.mp (hp.mem_iff.mp hi)
  have z2 := qW rv p.toList hlt
  rw [← h3] at z2
  have hpz : p.toList.length = vs.length := by rw [hp.length_eq, List.length_range]
  obtain ⟨c, hat⟩ := sortedAll_at s.heap vs out
  refine ⟨.ref (s.heap.objs.size + 1), _, I.laid (t' := s.toks) (o := .lst (p.toList.map fun i => ys.getD i .bJ)) (fun b o e => sortedAll_old e) (Nat.le_succ _) ⟨by rw [List.length_map, hpz, ← hlen]; exact hz, out.toList, c, z2, hat⟩, rfl, q _ _ (by rw [hpl, hlen]; exact hp) ?_ (I.cI.fresh (Nat.le_succ _))⟩
  rw [List.pairwise_iff_getElem]
  intro i j hi hj hij
  rw [List.length_map] at hi hj
  have h := h2 i j (by omega) (by omega)
  rw [List.getElem_map, List.getElem_map]
  have ky : ∀ (i : Nat) (hi : i < p.toList.length), Ky oB (fun i => code 3 (ps.getD i .bJ)) p i = code 3 (ps.getD p.toList[i] .bJ) := fun i hi => by
   unfold Ky
   rw [Array.getD_eq_getD_getElem?, ← Array.getElem?_toList, List.getElem?_eq_getElem hi]
   rfl
  rw [ky i hi, ky j hj] at h
  show (!iY _ _) = true
  rw [Bool.not_eq_true']
  exact h
end
section
variable {K : PySem.W.Frag}
noncomputable def rQ : List PV → Option Bv
 | [.lst ps] => bI (decide (ps.length < 64) && ((ps.all (mX true) || ps.all (mX false)) && gY 3 ps)) (some (.new (.lst (rB 3 ps))))
 | _ => none
theorem uJ {Z : aQ} {H : Hp} {ps : List PV} {ys : List V} (r : bQ K Z H ps ys) : ∀ {ix : List Nat}, (∀ i ∈ ix, i < ps.length) → bQ K Z H (ix.map fun i => ps.getD i .bJ) (ix.map fun i => ys.getD i .bJ)
 | [], _ => .nil
 | i :: ix, h => by
  have hi := h i List.mem_cons_self
  have e := List.getElem?_eq_getElem hi
  obtain ⟨v, ev, rv⟩ := r.get e
  refine .cons ?_ (uJ r fun j hj => h j (List.mem_cons_of_mem _ hj))
  dsimp only
  rw [List.getD_eq_getElem?_getD, List.getD_eq_getElem?_getD, e, ev]
  exact rv
theorem E5 : jI K (AQ K) rQ := by
 intro Z H vs qs b Q hp h kk
 unfold rQ at h
 split at h
 ·rename_i ps
  obtain ⟨c, h⟩ := aS h
  cases h
  rw [Bool.and_eq_true, Bool.and_eq_true] at c
  obtain ⟨c1, c2, c3⟩ := c
  obtain ⟨v, rfl, hv⟩ := hp.one
  obtain ⟨a, ys, rfl, ha, ra⟩ := hv.p9
  have led : ∃ b, ∀ x ∈ ps, mX b x = true := by
   rcases Bool.or_eq_true_iff.mp c2 with z | z
   ·exact ⟨true, fun x hx => List.all_eq_true.mp z x hx⟩
   ·exact ⟨false, fun x hx => List.all_eq_true.mp z x hx⟩
  obtain ⟨b, led⟩ := led
  refine ⟨a, ys, ps, b, rfl, ha.sq, ra.aP (.less fun _ z => z.elim), by rw [← ra.length]; exact of_decide_eq_true c1, led, c3, fun l ix h1 h2 hl => ?_⟩
  have hix : ∀ i ∈ ix, i < ps.length := fun i hi => List.mem_range.mp (h1.mem_iff.mp hi)
  have pm : (ix.map fun i => ps.getD i .bJ).Perm ps := by
   have := h1.map fun i => ps.getD i PV.bJ
   have e : (List.range ps.length).map (fun i => ps.getD i PV.bJ) = ps := by
    apply List.ext_getElem
    ·simp
    ·intro i a1 a2
     simp [List.getElem?_eq_getElem a2]
   rw [e] at this
   exact this
  have es : rB 3 ps = ix.map fun i => ps.getD i .bJ :=
   lJ (j8 3 ps) h2 ((eQ 3 ps).trans pm.symm) fun x hx y hy => rP c3 ((eQ 3 ps).mem_iff.mp hx) ((eQ 3 ps).mem_iff.mp hy)
  rw [es] at kk
  exact kk _ _ (bN.upd hl) (z4 hl (uJ ra hix))
 ·cases h
end
end Mr
namespace Mr
open PySem PySem.Spec L2 PyProof.Rows
section
variable {K : PySem.W.Frag}
noncomputable def GR (K : PySem.W.Frag) : List V → Hp → VK → Prop := fun xs H Q => zB K xs H Q ∨ (zS xs H Q ∨ AQ K xs H Q)
theorem GK {X : Cx} {k : Nat} (K : PySem.W.Frag) (hr : eU k X.A) (hK : X.K = K := by rfl) (hc : X.calm = true := by rfl) : dN X (.builtin "sorted") (GR K) := dN.or (DV K hK) (dN.or (RQ hc) (N7 K hr hK))
noncomputable def kN : List PV → Option Bv := fun p => (qX p).or ((rO p).or (rQ p))
theorem sQ : jI K (GR K) kN := jI.or EY (jI.or HR E5)
end
end Mr
namespace Mr
open PySem PySem.Spec L2 PyProof.Rows
section
variable {K : PySem.W.Frag}
noncomputable def mulC (i j : Int) : Bool := decide (Builtin.Int.intTooBig (Builtin.Int.intBits i + Builtin.Int.intBits j) = false)
theorem uT {X : Cx} : iK X (binaryOp .Mult) (rI IntMulOk fun i j => .int (i * j)) := S0 fun _ _ _ _ _ _ _ hc q => mul_int q hc
noncomputable def pO : PV → PV → Option Bv := gI mulC fun i j => .int (i * j)
theorem vZ : eT K (rI IntMulOk fun i j => .int (i * j)) pO := G4 (fun i j h => by
 have h := of_decide_eq_true h
 unfold IntMulOk
 rw [h, Bool.and_false]
 exact Bool.false_ne_true) fun _ _ _ _ => .int _
end
end Mr
namespace Mr
open PySem PySem.Spec L2 PyProof.Rows
section
variable {K : PySem.W.Frag}
noncomputable def inR (k : Int) : Bool := @decide (-1000000000 ≤ k ∧ k < 1000000000) (Classical.propDecidable _)
theorem iN {k : Int} (h0 : -1000000000 ≤ k) (h1 : k < 1000000000) : inR k = true := @decide_eq_true _ (Classical.propDecidable _) ⟨h0, h1⟩
noncomputable def pF (fa : FA) : FI := fun _ e => bE (fa e) fun bs e1 => match bs with
 | [.val (.int j)] => bI (inR j) (some ((List.range j.toNat).map (fun k : Nat => .int (0 + (k : Int))), e1))
 | _ => none
theorem iH {ta : TA} {fa : FA} (h : qB K ta fa) : vV K (MR ta) (pF fa) := by
 intro st O M W L σ H e e' ps R o he hf q
 obtain ⟨x, e1, f1, hf⟩ := aT hf
 refine h O M W L σ H e e1 x _ o he f1 fun vs H1 k1 en rv => ?_
 split at hf
 ·rename_i j
  obtain ⟨c, hf⟩ := aS hf
  have c := @of_decide_eq_true _ (Classical.propDecidable _) c
  cases hf
  cases rv with
  | cons h r =>
   cases r
   cases h
   exact ⟨j, rfl, by omega, by omega, q _ H1 k1 en fun Wr hw _ => FU⟩
 ·cases hf
noncomputable def P5 (fa : FA) : FI := fun _ e => bE (fa e) fun bs e1 => match bs with
 | [.val (.int i), .val (.int j)] => bI (inR i && inR j) (some ((List.range (j - i).toNat).map (fun k : Nat => .int (i + (k : Int))), e1))
 | _ => none
theorem LV {ta : TA} {fa : FA} (h : qB K ta fa) : vV K (MW ta) (P5 fa) := by
 intro st O M W L σ H e e' ps R o he hf q
 obtain ⟨x, e1, f1, hf⟩ := aT hf
 refine h O M W L σ H e e1 x _ o he f1 fun vs H1 k1 en rv => ?_
 split at hf
 ·rename_i i j
  obtain ⟨c, hf⟩ := aS hf
  rw [Bool.and_eq_true] at c
  have c1 := @of_decide_eq_true _ (Classical.propDecidable _) c.1
  have c2 := @of_decide_eq_true _ (Classical.propDecidable _) c.2
  cases hf
  cases rv with
  | cons h r =>
   cases r with
   | cons h' r =>
    cases r
    cases h
    cases h'
    exact ⟨i, j, rfl, ⟨by omega, by omega, by omega, by omega⟩, q _ H1 k1 en fun Wr hw _ => FU⟩
 ·cases hf
theorem PJ {fa : FA} {st : Nat → Bool} {e : En} : pF fa st e = bE (fa e) fun bs e1 => match bs with
 | [.val (.int j)] => bI (inR j) (some ((List.range j.toNat).map (fun k : Nat => .int (0 + (k : Int))), e1))
 | _ => none := rfl
theorem P9 {fa : FA} {st : Nat → Bool} {e : En} : P5 fa st e = bE (fa e) fun bs e1 => match bs with
 | [.val (.int i), .val (.int j)] => bI (inR i && inR j) (some ((List.range (j - i).toNat).map (fun k : Nat => .int (i + (k : Int))), e1))
 | _ => none := rfl
end
end Mr
namespace Mr
open PySem L2
section
variable {K : PySem.W.Frag}
theorem aV.given {M L : aQ} {W : WS} {H H' : Hp} {σ : St} {e : En} {l : Addr} (h : aV K (bD M (bD L (one l))) W (bD L (one l)) H σ e) (f : FR σ e l) (nL : ¬ L l) (nW : ∀ i, ¬ W i l) (kp : ∀ a o, a ≠ l → H a = some o → H' a = some o) (kt : ∀ a xs, H a = some (.tup xs) → H' a = some (.tup xs)) : aV K (bD M L) W L H' σ e := by
 have k : eA (bD M (bD L (one l))) (bD M L) H H' := ⟨kt, fun a o q n => ⟨kp a o (fun z => n (.inr (.inr z))) q, fun z => n (z.elim .inl fun z => .inr (.inl z))⟩⟩
 refine ⟨h.len, fun i sl q => ?_, h.nE⟩
 obtain ⟨v, h1, h2⟩ := h.at' i sl q
 refine ⟨v, h1, ?_⟩
 cases sl with
 | val p => exact Rep.aP k h2
 | own p => obtain ⟨a, e, w, c⟩ := h2; exact ⟨a, e, w, c.aP k fun o q => kp a o (fun z => nW i (z ▸ w)) q⟩
 | loc p =>
  obtain ⟨a, e, w, c⟩ := h2
  have na : a ≠ l := fun z => by
   subst z e
   exact f i _ q rfl h1
  exact ⟨a, e, w.elim id fun z => absurd z na, c.aP k fun o q => kp a o na q⟩
 | bor p =>
  obtain ⟨a, e, c⟩ := h2
  refine ⟨a, e, ?_⟩
  cases c with
  | lst e od n m r => exact .lst (e.elim (fun e => .inl (kp _ _ (fun z => m (.inr z)) e)) fun ⟨u, e⟩ => .inr ⟨u, kp _ _ (fun z => m (.inr z)) e⟩) od n (fun z => m (.inl z)) (r.aP k)
  | fE e r => exact .fE e (r.aP k)
  | bW e od n m kk r => exact .bW (e.elim (fun e => .inl (kp _ _ (fun z => m (.inr z)) e)) fun ⟨u, e⟩ => .inr ⟨u, kp _ _ (fun z => m (.inr z)) e⟩) od n (fun z => m (.inl z)) kk (r.aP k)
noncomputable def AO (f : FN) (fa : FE) (i : Nat) : FE := fun e => bE (fa e) fun x e1 => match x with
 | .new p => bO (rd e1 i) fun q => match q with
  | .int k => bO (f [p, .int k]) fun rq => some (.val rq.1, e1)
  | _ => none
 | _ => none
theorem DQ {f : FN} {ta : TE} {fa : FE} {E : XK} (i : Nat) (ha : Ref K ta fa) : Ref K (BJ (hZ K [.m, .b] false f) [] E (oI ta (oI (wN i) u9))) (AO f fa i) := by
 intro O M W L σ H e e' b Q o he hf q
 obtain ⟨x, e1, f1, hf⟩ := aT hf
 cases x with
 | new p =>
  obtain ⟨qv, g1, hf⟩ := aL hf
  cases qv with
  | int k =>
   obtain ⟨⟨r, qs⟩, g2, hf⟩ := aL hf
   cases hf
   refine ha O M W L σ H e _ _ _ o he f1 fun v1 H1 k1 r1 fr => ?_
   have o1 := o.keep k1.cZ
   obtain ⟨a, rfl, nO, nL, en, hfree, ct⟩ := r1
   have hfr : H a = none := fr a rfl
   have en0 := en.M3 hfree
   have g1' := g1
   unfold Mr.rd at g1'
   cases c : e'[i]? with
   | none => rw [c] at g1'; cases g1'
   | some s =>
    cases s with
    | none => rw [c] at g1'; cases g1'
    | some s =>
     obtain ⟨u, hs, _⟩ := en0.at' i s c
     have hu := (en0.rd g1 hs).int
     subst hu
     refine ⟨.int k, hs, ?_⟩
     show hZ K [.m, .b] false f ([.ref a, .int k] ++ []) H1 Q E
     rw [List.append_nil]
     obtain ⟨ob, hob, nt⟩ := ct.there
     have ws : ∀ j b, m5 [.m, .b] [.ref a, .int k] H1 j b → b = a := fun j b ⟨h1, h2⟩ => by
      match j, h1, h2 with
      | 0, h1, h2 => cases h2; rfl
      | 1, h1, h2 => cases h1
     refine ⟨bD M (bD L (one a)), [p, .int k], r, qs, fun b z => ?_, rfl, rfl, fun j kk p' v h1 h2 h3 => ?_, fun j1 j2 hne h1 h2 => ?_, fun j b h => ?_, g2, fun v H' kc res => ?_⟩
     ·rcases z with z | z | z
      ·exact o1.old b (o1.mo b z)
      ·exact (o1.loc b z).1
      ·rw [show b = a from z, hob]; exact fun z => nomatch z
     ·match j, h1, h2, h3 with
      | 0, h1, h2, h3 => cases h1; cases h2; cases h3; exact ⟨a, rfl, ⟨rfl, rfl⟩, ct⟩
      | 1, h1, h2, h3 => cases h1; cases h2; cases h3; exact Rep.int k
     ·match j1, j2, h1, h2 with
      | 0, 0, _, _ => exact absurd rfl hne
      | 0, 1, _, h2 => cases h2
      | 1, _, h1, _ => cases h1
     ·exact .inr (.inr (ws j b h))
     ·have kp : ∀ b u, b ≠ a → H1 b = some u → H' b = some u := fun b u nb e => kc.obj b u e (fun ⟨j, w⟩ => nb (ws j b w)) fun z => z
      have kout : cO W L H H' := ⟨fun b u e n m => kp b u (fun z => by rw [z, hfr] at e; cases e) (k1.obj b u e n m), fun b xs e => kc.tup b xs (k1.tup b xs e), fun b h => kc.cZ b (k1.cZ b h)⟩
      exact q v H' kout ⟨en.given hfree nL (fun j w => nO (o1.mo a (o1.wm j a w))) kp kc.tup, res.1.aP (.less fun b z => z.elim .inl fun z => .inr (.inl z))⟩ trivial
  | _ => cases hf
 | _ => cases hf
theorem II {f : FN} {fa : FE} {i : Nat} {e : En} : AO f fa i e = bE (fa e) fun x e1 => match x with
 | .new p => bO (rd e1 i) fun q => match q with
  | .int k => bO (f [p, .int k]) fun rq => some (.val rq.1, e1)
  | _ => none
 | _ => none := rfl
end
end Mr
namespace Mr
open PySem L2
theorem K9 {α β : Type} {k : α → Option β} : bO (none : Option α) k = none := rfl
theorem JN {α β : Type} {k : α → En → Option β} : bE (none : Option (α × En)) k = none := rfl
end Mr
namespace L2
open PySem PySem.Spec PyProof.Rows PySem.W
section
variable {prog : Program} {w : World} {A : Around} {E : Value → Shared → Prop} {s : Shared}
theorem kJ.trans {s s1 s2 : Shared} (a : kJ s s1) (b : kJ s1 s2) : kJ s s2 := by
 obtain ⟨h1, t1, d1, rfl, z1, k1⟩ := a
 obtain ⟨h2, t2, d2, rfl, z2, k2⟩ := b
 exact ⟨h2, t2, d2, rfl, Nat.le_trans z1 z2, fun x o e => k2 x o (k1 x o e)⟩
theorem p4 {v : Value} {Ok : List Value → Shared → Prop} {R : List Value → Array Nat → Prop} {Q : Value → Shared → Prop}
  (hcol : ∀ (E' : Value → Shared → Prop) (Q' : List Value → Shared → Prop), (∀ vs s1, kJ s s1 → Ok vs s1 → Q' vs s1) → wpAny (model prog w) A.in1 (collect v) Q' E' s) (h64 : ∀ vs s1, Ok vs s1 → vs.length < 64)
  (hk : ∀ vs s1, kJ s s1 → Ok vs s1 → 2 ≤ vs.length → ∀ h' : Heap, (∀ b o, s1.heap.get? b = some o → h'.get? b = some o) → AI prog w A.in1.in1 vs (R vs) { s1 with heap := h' }) (hR : ∀ vs s1, Ok vs s1 → vs.length < 2 → R vs (List.range vs.length).toArray)
  (hq : ∀ (a : Addr) s1 s2 (out : Array Value) c vs (p : Array Nat), kJ s s1 → Ok vs s1 → kJ s1 s2 → s1.heap.objs.size ≤ a → s2.heap.get? a = some (seqObj "list" out c) → nC vs.length p → R vs p → out.toList = p.toList.map (fun i => vs.getD i Value.none) → Q (.ref a) s2) :
  wpAny (model prog w) A (call (.builtin "sorted") [v]) Q E s := by
 refine Calls.call_function_entry kind_sorted plain_sorted entry_sorted (args_sorted1 _) ?_
 unfold Builtin.«sorted»
 refine wpAny_bind (m := checkCount "sorted" 1 1 _) (wpAny_pure (wpAny_bind (hcol _ _ fun vs s1 g ok => ?_)))
 have hl := h64 vs s1 ok
 refine wpAny_bind (wpAny_newList ?_ (by simp only [sizeLine_eq]; omega))
 have e1 : (s1.heap.push (seqObj "list" vs.toArray 0)).get? s1.heap.objs.size = some (seqObj "list" vs.toArray 0) := Heap.get?_push_size _ rfl
 refine wpAny_bind (wpAny_holding (wpAny_call_entry slot_list_sort ⟨_, e1, rfl⟩ entry_list_sort ?bd (args_list_sort _)))
 case bd =>
  refine uB e1 hl (fun l2 h' kp => hk vs s1 g ok l2 h' fun b o gb => kp b o (Nat.ne_of_lt (Heap.lt_size gb)) (Heap.get?_push_of_some _ gb)) (hR vs s1 ok) fun out p p1 p2 p3 => ⟨_, rfl, wpAny_pure ⟨_, rfl, ?_⟩⟩
  obtain ⟨c, hc⟩ := sortedHeap_at (out := out) e1
  refine hq s1.heap.objs.size s1 _ out c vs p g ok ?_ (Nat.le_refl _) hc p1 p2 p3
  refine ⟨_, s1.toks, s1.drawn, rfl, Nat.le_of_lt (Heap.lt_size hc), fun b o e => ?_⟩
  have hb := Heap.lt_size e
  rw [sortedHeap_old (Nat.ne_of_lt hb) (by rw [size_push']; exact Nat.lt_succ_of_lt hb)]
  exact Heap.get?_push_of_some _ e
theorem tI {K : Type} [DecidableEq K] {knd : KeyKind prog w K} {r d : Addr} {kvs : List (K × Value)} {ep : Nat} {Q : List Value → Shared → Prop} (hh : A.handled = none) (hv : s.heap.IsItemsView r d) (hm : s.heap.DictAt knd d kvs ep) (hn : kvs.length ≤ sizeLine)
  (hq : ∀ s1 (as : List Addr), kJ s s1 → as.length = kvs.length → KdxG knd kvs s.heap.objs.size s1.heap as → Q (as.map Value.ref) s1) : wpAny (model prog w) A (collect (.ref r)) Q E s := by
 have hr : r < s.heap.objs.size := let ⟨_, ho, _⟩ := hv; Heap.lt_size ho
 have hd : d < s.heap.objs.size := hm.lt_size
 have fin : ∀ (h' : Heap) (tk : Nat) (acc : Array Value) (c : Nat) (as : List Addr), (∀ b o, s.heap.get? b = some o → h'.get? b = some o) →
   h'.get? s.heap.objs.size = some { cls := .type "list", dict := none, data := .seq acc c, slots := #[] } → as.length = kvs.length → KdxG knd kvs s.heap.objs.size h' as → acc.toList = as.map Value.ref →
   wpAny (model prog w) A (match Value.ref s.heap.objs.size with
    | Value.ref a => do
     match (← load a).data with
      | Data.seq xs _ => pure xs.toList
      | _ => unsupported "internal:collect"
    | _ => unsupported "internal:collect") Q E { s with heap := h', toks := tk } := fun h' tk acc c as kp hS hl hG ea => by
  show wpAny _ A (load s.heap.objs.size >>= _) _ _ _
  refine wpAny_bind (wpAny_load hS (wpAny_pure ?_))
  show Q acc.toList _
  rw [ea]
  exact hq _ as ⟨h', tk, s.drawn, rfl, Nat.le_of_lt (Heap.lt_size hS), kp⟩ hl hG
 unfold collect
 refine wpAny_bind (wpAny_runValue (codeAny_builtin F.entry_proto_collect ?_))
 rw [Around.under_plainId F.plain_proto_collect _]
 refine wpAny_bind (m := newList []) (wpAny_newObj_type ?_)
 refine wpAny_pure ⟨plainId_quiet F.plain_list_iadd _, codeAny_builtin F.entry_list_iadd ?_⟩
 rw [Around.under_plainId F.plain_list_iadd _]
 have e0 : (s.heap.push { cls := .type "list", data := .seq ([] : List Value).toArray }).get? s.heap.objs.size = some { cls := .type "list", data := .seq #[] 0 } := Heap.get?_push_size _ rfl
 have key := kdx_extend (A := A) (knd := knd) (kvs := kvs) (ep := ep) (s := { s with heap := s.heap.push { cls := .type "list", data := .seq ([] : List Value).toArray } }) (R := fun rs s' => ∃ h' tk acc c as, rs = .ok (.ret (.ref s.heap.objs.size)) ∧ s' = { s with heap := h', toks := tk } ∧ (∀ b o, s.heap.get? b = some o → h'.get? b = some o) ∧ h'.get? s.heap.objs.size = some { cls := .type "list", dict := none, data := .seq acc c, slots := #[] } ∧ as.length = kvs.length ∧ KdxG knd kvs s.heap.objs.size h' as ∧ acc.toList = as.map Value.ref)
  hh (let ⟨o, ho, x⟩ := hv; ⟨o, Heap.get?_push_of_some _ ho, x⟩) (hm.push _) s.heap.objs.size (Nat.ne_of_gt hr) (Nat.ne_of_lt hd) (.ref s.heap.objs.size) 0 e0
  (fun h' tk acc c as kp hS hl hG ea => ⟨h', tk, acc, c, as, rfl, rfl, fun b o e => kp b o (Nat.ne_of_lt (Heap.lt_size e)) (Heap.get?_push_of_some _ e), hS, hl, hG.low (by rw [Heap.size_push]; exact Nat.le_succ _), ea⟩) hn
 refine wpAny_mono key (fun f s' h => ?_) fun e s' h => ?_
 ·cases f with
  | done f =>
   obtain ⟨h', tk, acc, c, as, e1, rfl, kp, hS, hl, hG, ea⟩ := h
   cases e1
   exact fin h' tk acc c as kp hS hl hG ea
  | again c' =>
   refine ⟨h.1, codeAny_mono h.2 fun rs s2 hr => ?_⟩
   obtain ⟨h', tk, acc, c, as, rfl, rfl, kp, hS, hl, hG, ea⟩ := hr
   exact fin h' tk acc c as kp hS hl hG ea
 ·obtain ⟨h', tk, acc, c, as, e1, _⟩ := h
  cases e1
theorem Inv.RS {X : Cx} {pins : List (Addr × Obj)} {σ : L2.St} {H H' : Hp} {s s' : Shared} (I : Inv X pins σ H s) (g : kJ s s') (he : ∀ b, b < s.heap.objs.size → H' b = H b) (new : ∀ a o, s.heap.objs.size ≤ a → H' a = some o → eY X.prog X.w H' s'.heap a o) : Inv X pins σ H' s' := by
 obtain ⟨h', tk, dr, rfl, _, k⟩ := g
 have old : ∀ a o, H a = some o → H' a = some o := fun a o e => by rw [he a (I.cI.lt e)]; exact e
 refine I.call (g' := s.gens) (d' := dr) (t' := tk) (ch := []) ⟨fun b u q _ _ _ => k b u q, fun b u q _ _ _ => ⟨u.slots, k b u q⟩, fun b u q n _ => by rw [he b (Heap.lt_size q)]; exact n, fun b u q _ => ⟨u, k b u q⟩, fun b xs q => old b _ q, fun b u xs q => old b _ q, fun b ps q => ⟨#[], by rw [old b _ q]; simp⟩⟩ (fun a o e => ?_) I.bare fun _ z => nomatch z
 by_cases ha : a < s.heap.objs.size
 ·rw [he a ha] at e
  exact (I.cI a o e).aP (fun c v _ q => k c v q) (fun c q => old c _ q) fun c xs q => old c _ q
 ·exact new a o (Nat.le_of_not_lt ha) e
end
section
variable {X : Cx}
noncomputable def N3 (v d : Addr) : HO := .ext fun h => h.IsItemsView v d
noncomputable def GW (to : TE) : TE := fun σ H Q => to σ H fun x H1 => ∃ a kvs, x = .ref a ∧ Rd H1 a (.dK kvs) ∧ ∀ v, H1 v = none → Q (.ref v) (upd H1 v (N3 v a))
theorem HG {o : Expr} {to : TE} {apos cpos : Pos} (ho : PE X o to) (hbase : attributeBase o "items" X.env (eval o X.env) = eval o X.env := by rfl) (hline : (apos.endLine == cpos.line) = true := by rfl) :
  PE X (.Call (.Attribute o "items" apos) [] [] cpos) (GW to) := by
 intro pins s σ H Q I h
 refine wpAny_Call_method0_late hbase hline (d8 (ho pins s σ H _ I h) fun v s1 ⟨x, H1, I1, r1, a, kvs, ex, ha, q1⟩ => ?_)
 subst ex
 obtain rfl : v = Value.ref a := r1
 obtain ⟨hz, hd, vs, rel, dd⟩ := jR I1.cI ha
 refine ⟨"dict", "dict.items", PySem.F.plainAttrs_dict, PySem.F.slot_dict_items, PySem.F.type_dict_items, dd.typeIs, dd.mapOf.noDict, Calls.callWith_builtin rfl (PySem.evalArgs_none ?_)⟩
 refine call_meetsIn PySem.F.slot_dict_items dd.typeIs PySem.F.entry_dict_items (PySem.F.args_dict_items_1 _) (meets_dict_items (cM X.prog X.w) a hd) ⟨⟨vs, dd⟩, ?_⟩
 have e0 : (s1.heap.push { cls := .type "dict_items", data := .fields #[.ref a] }).get? s1.heap.objs.size = some { cls := .type "dict_items", data := .fields #[.ref a] } := Heap.get?_push_size _ rfl
 exact ⟨.ref s1.heap.objs.size, _, I1.laid (t' := s1.toks) (o := N3 s1.heap.objs.size a) (fun b u e => Heap.get?_push_of_some _ e) (Nat.le_refl _) ⟨⟨_, e0, rfl, rfl⟩, ⟨_, e0⟩, fun h1 h2 ⟨u, e, c⟩ k => ⟨u, k u e, c⟩⟩, rfl, q1 _ (I1.cI.fresh (Nat.le_refl _))⟩
end
end L2
namespace Mr
open PySem PySem.Spec L2 PyProof.Rows PySem.W
noncomputable def DR : Key → PV
 | .inl i => .int i
 | .inr x => .str x
theorem uM {h : Heap} {k : Key} {v : Value} (e : mE k v = true) : Lies h (DR k) v ∧ RelV (kV k) v := by
 rcases cW e with ⟨i, t, rfl, rfl⟩ | ⟨x, t, rfl, rfl⟩
 ·exact ⟨.int i t, t, rfl⟩
 ·exact ⟨.str x t, t, rfl⟩
noncomputable def bV (kvs : List (Key × PV)) : List PV := kvs.map fun z => .tup [DR z.1, z.2]
section
variable {X : Cx} {k : Nat}
noncomputable def HW (K : PySem.W.Frag) : List V → Hp → VK → Prop := fun xs H Q => ∃ v a ys kvs b, xs = [.ref v] ∧ H v = some (N3 v a) ∧ Rd H a (.dK ys) ∧ gH K d6 H kvs ys ∧ kvs.length < 64 ∧ (∀ x ∈ bV kvs, mX b x = true) ∧ gY 3 (bV kvs) = true ∧
 ∀ l H' (as : List Addr) (ix : List Nat), bN H H' → (∀ (j : Nat) t q, as[j]? = some t → ys[j]? = some q → H' t = some (.tup [kV q.1, q.2])) → as.length = ys.length → ix.Perm (List.range kvs.length) → (ix.map fun i => (bV kvs).getD i .bJ).Pairwise (fun a b => mF 3 a b = true) → H l = none → H' l = some (.lst (ix.map fun i => .ref (as.getD i 0))) → Q (.ref l) H'
theorem xS {h : Heap} : ∀ {ps : List PV} {vs : List Value}, ps.length = vs.length → (∀ (j : Nat) p v, ps[j]? = some p → vs[j]? = some v → Lies h p v) → cD h ps vs
 | [], [], _, _ => .nil
 | [], _ :: _, h, _ => by cases h
 | _ :: _, [], h, _ => by cases h
 | p :: ps, v :: vs, h, k => .cons (k 0 p v rfl rfl) (xS (by simpa using h) fun j p v a b => k (j + 1) p v (by simpa using a) (by simpa using b))
theorem sortI (K : PySem.W.Frag) (hr : eU k X.A) (hK : X.K = K := by rfl) (hc : X.calm = true := by rfl) : dN X (.builtin "sorted") (HW K) := by
 subst hK
 intro pins s σ H xs us Q I r ⟨v, a, ys, kvs, b, e, hv, ha, rd, h64, led, cmp, q⟩
 subst e
 obtain ⟨u, rfl, rx⟩ := vals1 r
 cases rx
 obtain ⟨hz, hd, vs, rel, dd⟩ := jR I.cI ha
 obtain ⟨ep, dd⟩ := dd.dictAt
 have hlen : kvs.length = ys.length := by have := congrArg List.length rd.1; simpa using this.symm
 have hlen2 := rel.len
 have ok : ∀ x ∈ bV kvs, gU 3 x = true := fun x hx => by
  have := List.all_eq_true.mp cmp x hx
  rw [Bool.and_eq_true] at this
  exact zI this.1
 refine p4 (s := s) (Ok := fun ws s1 => ∃ as : List Addr, ws = as.map Value.ref ∧ as.length = vs.length ∧ KdxG (cM X.prog X.w) vs s.heap.objs.size s1.heap as) (R := fun ws p => lH oB (fun i => code 3 ((bV kvs).getD i .bJ)) p ws.length) (fun E' Q' kk => ?_) ?_ ?_ ?_ ?_
 ·exact tI (by exact I.ok.hd hc) (I.cI v _ hv).1 dd (by rw [← hlen2]; exact hz) fun s1 as gr hl g => kk _ s1 gr ⟨as, rfl, hl, g⟩
 ·rintro ws s1 ⟨as, rfl, hl, g⟩
  rw [List.length_map]; omega
 ·rintro ws s1 gr ⟨as, rfl, hl, g⟩ l2 h' kp
  have I' : Inv X pins σ H { s1 with heap := h' } := (I.T3 gr).kept (t' := s1.toks) kp
  have okv : (kvs.map (·.2)).all (gU 2) = true := List.all_eq_true.mpr fun p hp => by
   obtain ⟨z, hz, rfl⟩ := List.mem_map.mp hp
   have := ok (.tup [DR z.1, z.2]) (List.mem_map.mpr ⟨z, hz, rfl⟩)
   have this : ([DR z.1, z.2].all (gU 2)) = true := this
   rw [List.all_cons, List.all_cons, Bool.and_eq_true, Bool.and_eq_true] at this
   exact this.2.1
  have lv : cD h' (kvs.map (·.2)) (vs.map (·.2)) := bQ.lies I' (n := 2) okv rd.2 rel.vals
  have hL : cD h' (bV kvs) (as.map Value.ref) := by
   refine xS (by unfold bV; rw [List.length_map, List.length_map]; omega) fun j p v hp hv => ?_
   rw [List.getElem?_map] at hv
   obtain ⟨t, ht, rfl⟩ := Option.map_eq_some_iff.mp hv
   unfold bV at hp
   rw [List.getElem?_map] at hp
   obtain ⟨z, hz', rfl⟩ := Option.map_eq_some_iff.mp hp
   obtain ⟨key, kk, x, e1, e2, e3⟩ := g.pairs j t ht
   have ek : kk = z.1 := by
    have a1 : (vs.map (·.1))[j]? = some kk := by rw [List.getElem?_map, e1]; rfl
    have a2 : (kvs.map (·.1))[j]? = some z.1 := by rw [List.getElem?_map, hz']; rfl
    rw [← rel.keys, rd.1, a2] at a1
    exact (Option.some.inj a1).symm
   subst ek
   obtain ⟨p', h1, h2⟩ := lv.get (show (vs.map (·.2))[j]? = some x by rw [List.getElem?_map, e1]; rfl)
   rw [List.getElem?_map, hz'] at h1
   cases h1
   exact .tup ⟨_, kp _ _ e3, rfl, 0, rfl⟩ (.cons (uM (show mE z.1 key = true from e2)).1 (.cons h2 .nil))
  obtain ⟨fs, k1, k2, k3⟩ := oV (s := { s1 with heap := h' }) hL led
  have hpl : (bV kvs).length = (as.map Value.ref).length := hL.length
  have h64' : (as.map Value.ref).length < 64 := by rw [List.length_map]; omega
  refine ⟨tuples' (Value.type (ME b) != Value.type "tuple"), fun Q E q => kat_kind k1 (by omega) (fun v hv => ?_) (by cases b <;> decide) q, fun G hG => oT.run (n := (as.map Value.ref).length) (ans := zY oB (fun i => code 3 ((bV kvs).getD i .bJ))) (fun i j C hi hj hC => ?_) (fun p h1 h2 => hG p h1 h2) (BE (by omega)) (E2 (by omega))⟩
  ·rcases k3 v hv with ⟨x, t, rfl, rfl⟩ | ⟨x, t, rfl, rfl⟩
   ·exact Looks.of_pure rfl
   ·exact Looks.of_pure rfl
  ·have e1 : (bV kvs)[i]? = some (bV kvs)[i] := List.getElem?_eq_getElem (by omega)
   have e2 : (bV kvs)[j]? = some (bV kvs)[j] := List.getElem?_eq_getElem (by omega)
   refine SD (s := { s1 with heap := h' }) (n := 2) hL (by have := hr.un; show X.A.units + 1 + 1 + 2 < _; omega) led ok e1 e2 (lN cmp (List.getElem_mem _) (List.getElem_mem _)) ?_
   have hC : C (oB.blt (code 3 ((bV kvs).getD i .bJ)) (code 3 ((bV kvs).getD j .bJ))) _ := hC
   rw [List.getD_eq_getElem?_getD, e1, List.getD_eq_getElem?_getD, e2] at hC
   exact hC
 ·rintro ws s1 ⟨as, rfl, hl, g⟩ h2 i j a b
  rw [show i = j by omega]; exact KeyOrd.kle_refl _
 ·rintro l s1 s2 out c ws p gr ⟨as, rfl, hl, g⟩ g2 hla hat h1 h2 h3
  have hp : p.toList.Perm (List.range as.length) := by
   have := Array.perm_iff_toList_perm.mp h1
   rw [List.length_map] at this
   simpa using this
  have hlt : ∀ i ∈ p.toList, i < as.length := fun i hi => List.mem_range.mp (hp.mem_iff.mp hi)
  have above : ∀ t ∈ as, s.heap.objs.size ≤ t := fun t ht => Nat.le_of_lt (g.above t ht)
  have nl : l ∉ as := fun z => absurd (g.there z) (Nat.not_lt.mpr hla)
  have hls : s.heap.objs.size ≤ l := Nat.le_trans gr.size hla
  let H' : Hp := fun x => if x = l then some (.lst (p.toList.map fun i => V.ref (as.getD i 0))) else match as.findIdx? (fun t => t == x) with
   | some j => (ys[j]?).map fun q => HO.tup [kV q.1, q.2]
   | none => H x
  have hl' : H' l = some (.lst (p.toList.map fun i => V.ref (as.getD i 0))) := if_pos rfl
  have hno : ∀ x, x ≠ l → x ∉ as → H' x = H x := fun x h1 h2 => by
   show (if x = l then _ else _) = _
   rw [if_neg h1]
   have : as.findIdx? (fun t => t == x) = none := List.findIdx?_eq_none_iff.mpr fun t ht => by
    cases c : t == x with
    | false => rfl
    | true => exact absurd (by rw [← eq_of_beq c]; exact ht) h2
   rw [this]
  have hat' : ∀ (j : Nat) t q, as[j]? = some t → ys[j]? = some q → H' t = some (.tup [kV q.1, q.2]) := fun j t q hj hq => by
   have hm := List.mem_of_getElem? hj
   show (if t = l then _ else _) = _
   rw [if_neg (fun z : t = l => nl (by rw [← z]; exact hm))]
   have : as.findIdx? (fun u => u == t) = some j := by
    rw [List.findIdx?_eq_some_iff_getElem]
    obtain ⟨hjl, ej⟩ := List.getElem?_eq_some_iff.mp hj
    refine ⟨hjl, by simp [ej], fun i hi => ?_⟩
    have := List.pairwise_iff_getElem.mp g.rise i j (by omega) hjl hi
    rw [ej] at this
    simpa using Nat.ne_of_lt this
   rw [this]
   show (ys[j]?).map _ = _
   rw [hq]; rfl
  have same : bN H H' := fun x o e => by
   have hx := I.cI.lt e
   rw [hno x (fun z : x = l => absurd (by rw [← z]; exact hx) (Nat.not_lt.mpr hls)) (fun z => absurd hx (Nat.not_lt.mpr (above x z)))]
   exact e
  have I2 : Inv X pins σ H' s2 := by
   refine I.RS (gr.trans g2) (fun x hx => hno x (fun z : x = l => absurd (by rw [← z]; exact hx) (Nat.not_lt.mpr hls)) (fun z => absurd hx (Nat.not_lt.mpr (above x z)))) fun x o hx e => ?_
   by_cases hxl : x = l
   ·subst hxl
    rw [hl'] at e
    cases e
    refine ⟨by rw [List.length_map, hp.length_eq, List.length_range, hl, ← hlen2]; exact hz, out.toList, c, ?_, hat⟩
    rw [h3]
    have : ∀ (ix : List Nat), (∀ i ∈ ix, i < as.length) → Vals (ix.map fun i => V.ref (as.getD i 0)) (ix.map fun i => (as.map Value.ref).getD i Value.none) := by
     intro ix
     induction ix with
     | nil => intro _; exact .nil
     | cons i ix ih =>
      intro hi
      refine .cons ?_ (ih fun j hj => hi j (List.mem_cons_of_mem _ hj))
      have := hi i List.mem_cons_self
      dsimp only
      rw [List.getD_eq_getElem?_getD, List.getD_eq_getElem?_getD, List.getElem?_map, List.getElem?_eq_getElem this]
      rfl
    exact this _ hlt
   ·by_cases hxa : x ∈ as
    ·obtain ⟨j, hj⟩ := List.mem_iff_getElem?.mp hxa
     have hjl := (List.getElem?_eq_some_iff.mp hj).1
     have hy : ys[j]? = some (ys[j]'(by omega)) := List.getElem?_eq_getElem (by omega)
     rw [hat' j x _ hj hy] at e
     cases e
     obtain ⟨key, kk, y, e1, e2, e3⟩ := g.pairs j x hj
     have rl := rel
     obtain ⟨t1, t2, t3, t4, t5, t6⟩ := g2
     subst t4
     have rj : ∀ {l1 : List (Key × V)} {l2 : List (Key × Value)} {j : Nat} {a b}, KV l1 l2 → l1[j]? = some a → l2[j]? = some b → a.1 = b.1 ∧ RelV a.2 b.2 := by
      intro l1 l2 j a b r
      unfold KV at r
      induction r generalizing j with
      | nil => intro h; simp at h
      | cons h t ih =>
       intro h1 h2
       cases j with
       | zero => simp at h1 h2; subst h1 h2; exact h
       | succ j => exact ih (by simpa using h1) (by simpa using h2)
     obtain ⟨q1, q2⟩ := rj rel hy e1
     refine ⟨by show 2 ≤ sizeLine; decide, [key, y], .cons ?_ (.cons q2 .nil), _, t6 _ _ e3, rfl, 0, rfl⟩
     have q1 : (ys[j]'(by omega)).1 = kk := q1
     rw [q1]
     exact (uM (h := s1.heap) (show mE kk key = true from e2)).2
    ·rw [hno x hxl hxa] at e
     exact absurd (I.cI.lt e) (Nat.not_lt.mpr hx)
  have hk : as.length = kvs.length := by omega
  refine ⟨.ref l, H', I2, rfl, q l H' as p.toList same hat' (by omega) (by rw [← hk]; exact hp) ?_ (I.cI.fresh hls) hl'⟩
  rw [List.pairwise_iff_getElem]
  intro i j hi hj hij
  rw [List.length_map] at hi hj
  have hpz : p.toList.length = as.length := by rw [hp.length_eq, List.length_range]
  have h := h2 i j (by omega) (by rw [List.length_map]; omega)
  rw [List.getElem_map, List.getElem_map]
  have ky : ∀ (i : Nat) (hi : i < p.toList.length), Ky oB (fun i => code 3 ((bV kvs).getD i .bJ)) p i = code 3 ((bV kvs).getD p.toList[i] .bJ) := fun i hi => by
   unfold Ky
   rw [Array.getD_eq_getD_getElem?, ← Array.getElem?_toList, List.getElem?_eq_getElem hi]
   rfl
  rw [ky i hi, ky j hj] at h
  show (!iY _ _) = true
  rw [Bool.not_eq_true']
  exact h
end
section
variable {K : PySem.W.Frag}
theorem FC {Z : aQ} {H : Hp} (k : Key) : Rep K Z H (DR k) (kV k) := by
 cases k with
 | inl i => exact .int i
 | inr x => exact .str x
noncomputable def zZ (fa : FE) : FE := fun e => bE (fa e) fun x e1 => bO (x.weak.get e1) fun p => match p with
 | .bW kvs => bI (decide (kvs.length < 64) && (((bV kvs).all (mX true) || (bV kvs).all (mX false)) && gY 3 (bV kvs))) (some (.new (.lst (rB 3 (bV kvs))), e1))
 | _ => none
theorem x6 {Z : aQ} {H : Hp} : ∀ {kvs : List (Key × PV)} {ys : List (Key × V)} {i : Nat} {z : Key × PV}, gH K Z H kvs ys → kvs[i]? = some z → ∃ y, ys[i]? = some y ∧ y.1 = z.1 ∧ Rep K Z H z.2 y.2
 | [], ys, i, z, h, e => by simp at e
 | x :: kvs, ys, i, z, h, e => by
  rcases h.cases with ⟨q, _⟩ | ⟨j, p, v, r, t, q, q', hp, hr⟩
  ·cases q
  ·cases q
   subst q'
   cases i with
   | zero => simp at e; subst e; exact ⟨(j, v), rfl, rfl, hp⟩
   | succ i => exact x6 (i := i) hr (by simpa using e)
theorem DW {ta : TE} {fa : FE} (ha : Ref K ta fa) : Ref K (SV (HW K) (oI (GW ta) u9)) (zZ fa) := by
 intro O M W L σ H e e' b Q o he hf q
 obtain ⟨x, e1, f1, hf⟩ := aT hf
 obtain ⟨p, g0, hf⟩ := aL hf
 cases p with
 | bW kvs =>
  obtain ⟨c, hf⟩ := aS hf
  cases hf
  rw [Bool.and_eq_true, Bool.and_eq_true] at c
  obtain ⟨c1, c2, c3⟩ := c
  refine ha O M W L σ H e _ x _ o he f1 fun v1 H1 k1 r1 fr => ?_
  have o1 := o.keep k1.cZ
  have en := r1.en o1
  obtain ⟨a, ys, rfl, hd, ek, rl⟩ := ((r1.rv o1).red en g0).yC
  have led : ∃ b, ∀ x ∈ bV kvs, mX b x = true := by
   rcases Bool.or_eq_true_iff.mp c2 with z | z
   ·exact ⟨true, fun x hx => List.all_eq_true.mp z x hx⟩
   ·exact ⟨false, fun x hx => List.all_eq_true.mp z x hx⟩
  obtain ⟨bb, led⟩ := led
  refine ⟨a, ys, rfl, hd, fun v hv => ?_⟩
  have s1 : bN H1 (upd H1 v (N3 v a)) := bN.upd hv
  have k2 := k1.trans (.same s1)
  have rd : gH K (bD M L) (upd H1 v (N3 v a)) kvs ys := ⟨ek, rl.aP (.same s1)⟩
  refine ⟨v, a, ys, kvs, bb, rfl, bG, hd.upd hv, ⟨ek, (rl.aP (.same s1)).aP (.less fun _ z => z.elim)⟩, of_decide_eq_true c1, led, c3, fun l H' as ix sm hat al h1 h2 hl hl' => ?_⟩
  have hix : ∀ i ∈ ix, i < kvs.length := fun i hi => List.mem_range.mp (h1.mem_iff.mp hi)
  have pl : (bV kvs).length = kvs.length := by unfold bV; rw [List.length_map]
  have pm : (ix.map fun i => (bV kvs).getD i .bJ).Perm (bV kvs) := by
   have := h1.map fun i => (bV kvs).getD i PV.bJ
   have e : (List.range kvs.length).map (fun i => (bV kvs).getD i PV.bJ) = bV kvs := by
    rw [← pl]
    apply List.ext_getElem
    ·simp
    ·intro i a1 a2
     simp [List.getElem?_eq_getElem a2]
   rw [e] at this
   exact this
  have es : rB 3 (bV kvs) = ix.map fun i => (bV kvs).getD i .bJ :=
   lJ (j8 3 _) h2 ((eQ 3 _).trans pm.symm) fun x hx y hy => rP c3 ((eQ 3 _).mem_iff.mp hx) ((eQ 3 _).mem_iff.mp hy)
  rw [es] at q
  have st : eA (bD M L) (bD (bD M L) (one l)) (upd H1 v (N3 v a)) H' := eA.new sm hl
  have reps : ∀ (js : List Nat), (∀ i ∈ js, i < kvs.length) → bQ K (bD (bD M L) (one l)) H' (js.map fun i => (bV kvs).getD i .bJ) (js.map fun i => V.ref (as.getD i 0)) := by
   intro js
   induction js with
   | nil => intro _; exact .nil
   | cons i js ih =>
    intro hj
    have hi := hj i List.mem_cons_self
    refine .cons ?_ (ih fun j h => hj j (List.mem_cons_of_mem _ h))
    have hlen : ys.length = kvs.length := by have := congrArg List.length ek; simpa using this
    obtain ⟨y, hy, e1, e2⟩ := x6 rd (List.getElem?_eq_getElem hi)
    have ht : as[i]? = some (as[i]'(by omega)) := List.getElem?_eq_getElem (by omega)
    dsimp only
    rw [List.getD_eq_getElem?_getD, List.getD_eq_getElem?_getD, ht]
    unfold bV
    rw [List.getElem?_map, List.getElem?_eq_getElem hi]
    show Rep K _ H' (.tup [DR kvs[i].1, kvs[i].2]) (.ref as[i])
    refine .tup (.inl (hat i _ _ ht hy)) (.cons (by rw [e1]; exact FC _) (.cons (e2.aP st) .nil))
  have rn : RN K (bD M L) (upd H1 v (N3 v a)) H' (.ref l) (.new (.lst (ix.map fun i => (bV kvs).getD i .bJ))) := ⟨l, rfl, hl, .lst hl' (reps ix hix)⟩
  exact q _ _ (k2.trans (.same sm)) (rn.rb (o.keep k2.cZ) (en.same s1) sm) (rn.fr k2.cZ)
 | _ => cases hf
theorem IW {fa : FE} {e : En} : zZ fa e = bE (fa e) fun x e1 => bO (x.weak.get e1) fun p => match p with
 | .bW kvs => bI (decide (kvs.length < 64) && (((bV kvs).all (mX true) || (bV kvs).all (mX false)) && gY 3 (bV kvs))) (some (.new (.lst (rB 3 (bV kvs))), e1))
 | _ => none := rfl
end
end Mr
namespace L2
open PySem PySem.Spec PyProof.Rows PySem.W
section
variable {X : Cx}
noncomputable def G1 : List V → Hp → VK → Prop := fun xs H Q => ∃ a kvs, xs = [.ref a] ∧ Rd H a (.dK kvs) ∧ Q (.int kvs.length) H
theorem V1 : dN X (.builtin "len") G1 := by
 intro pins s σ H xs us Q I r ⟨a, kvs, e, ha, q⟩
 subst e
 obtain ⟨u, rfl, rx⟩ := vals1 r
 cases rx
 obtain ⟨hz, hd, vs, rel, dd⟩ := jR I.cI ha
 refine call_len_dict hd dd (by have := rel.len; rw [sizeLine_eq] at hz; omega) ?_
 exact ⟨.int kvs.length, H, I.tok _, ⟨s.toks + 1, by rw [rel.len]⟩, q⟩
end
end L2
namespace Mr
open PySem L2
section
variable {K : PySem.W.Frag}
noncomputable def BP : List PV → Option Bv
 | [.bW kvs] => some (.val (.int kvs.length))
 | _ => none
theorem L5 : jI K G1 BP := by
 intro Z H vs ps b Q hp h k
 unfold BP at h
 split at h
 ·cases h
  obtain ⟨v, rfl, hv⟩ := hp.one
  obtain ⟨a, ys, rfl, ha, ek, ra⟩ := hv.yC
  refine ⟨a, ys, rfl, ha, k _ H (bN.refl _) ?_⟩
  have := congrArg List.length ek
  rw [List.length_map, List.length_map] at this
  rw [this]
  exact Rep.int _
 ·cases h
noncomputable def MV (K : PySem.W.Frag) : List V → Hp → VK → Prop := fun xs H Q => G7 K xs H Q ∨ G1 xs H Q
theorem U0 {X : Cx} (K : PySem.W.Frag) (hK : X.K = K := by rfl) : dN X (.builtin "len") (MV K) := dN.or (zW K hK) V1
noncomputable def E6 : List PV → Option Bv := fun p => (sH p).or (BP p)
theorem K2 : jI K (MV K) E6 := jI.or m4 L5
end
end Mr
namespace L2
open PySem PySem.Spec PyProof.Rows PySem.W
section
variable {prog : Program} {w : World} {A : Around} {R : Result → Shared → Prop} {I : Addr} {fp wr : List Addr} {n : Nat} {Pz : Nat → Value → Prop} {Sz : Nat → Heap → Prop}
noncomputable def M5 (prog : Program) (w : World) (A : Around) (ok : Heap → Prop) (Pz : Nat → Value → Prop) (bt : Nat → Nat → Bool) : Prop :=
 ∀ i j vi vj (s : Shared) (Q : Value → Shared → Prop) (E : Value → Shared → Prop), ok s.heap → Pz i vi → Pz j vj → Q (.bool (bt i j)) s → wpAny (model prog w) A (richCompare .Lt vi vj) Q E s
theorem wF : (toString "min" ++ toString ".loop" : String) = "min.loop" := by decide
theorem IM {ok : Heap → Prop} (W : Walks prog w A.in1 I fp wr n Pz Sz) (bt : Nat → Nat → Bool) (hcmp : M5 prog w A.in1 ok Pz bt) (S : Addr) (nf : S ∉ fp) (okk : ∀ h h', ok h → (∀ b o, b ∉ wr → b ≠ S → h.get? b = some o → h'.get? b = some o) → ok h') :
  ∀ (k j : Nat) (s : Shared) (vb : Value) (c : Nat), n - (j + 1) = k → j + 1 ≤ n → ok s.heap → Sz (j + 1) s.heap → Pz (argBest bt j) vb → s.heap.get? S = some { cls := .type "list", dict := none, data := .seq #[vb, vb] c, slots := #[] } →
  (∀ v h' tk, Pz (argBest bt (n - 1)) v → (∀ b o, b ∉ wr → b ≠ S → s.heap.get? b = some o → h'.get? b = some o) → R (.ok (.ret v)) { s with heap := h', toks := tk }) → codeAny (model prog w) A (.builtin "min.loop" ⟨[.ref I, .none, .ref S], []⟩) R s := by
 have nw : S ∉ wr := fun h => nf (W.sub _ h)
 intro k
 induction k with
 | zero =>
  intro j s vb c hk hj cI st hb gS hR
  have e : j + 1 = n := by omega
  refine codeAny_builtin F.entry_min_loop ?_
  rw [Around.under_plainId F.plain_min_loop _]
  refine wpAny_bind (m := seqItems? (.ref S)) (wpAny_seqItems gS rfl ?_)
  refine wpAny_bind (m := tryCatch (pyNext (.ref I)) _) (wpAny_tryCatch (W.done s _ _ (e ▸ st) fun h' tk kp => ?_))
  have gS' := kp S _ nw gS
  refine wpAny_bind (m := updateSeq S (fun _ => #[])) (wpAny_updateSeq gS' rfl (wpAny_bind (wpAny_letGo (wpAny_pure ?_))))
  exact hR vb _ tk (by rw [← e]; exact hb) fun b o h1 h2 q => (Heap.get?_update_other _ _ (Ne.symm h2)).trans (kp b o h1 q)
 | succ k ih =>
  intro j s vb c hk hj cI st hb gS hR
  have hlt : j + 1 < n := by omega
  refine codeAny_builtin F.entry_min_loop ?_
  rw [Around.under_plainId F.plain_min_loop _]
  refine wpAny_bind (m := seqItems? (.ref S)) (wpAny_seqItems gS rfl ?_)
  refine wpAny_bind (m := tryCatch (pyNext (.ref I)) _) (wpAny_tryCatch (W.item (j + 1) s _ _ hlt st fun v h' tk hP st' kp => ?_))
  have gS' := kp S _ nw gS
  have ok' : ok h' := okk _ _ cI fun b o h1 _ q => kp b o h1 q
  refine wpAny_bind (m := tryCatch (holding [v, v] (richCompare .Lt v vb >>= _)) _) (wpAny_tryCatch (wpAny_holding (wpAny_bind (hcmp (j + 1) (argBest bt j) v vb { s with heap := h', toks := tk } _ _ ok' hP hb ?_))))
  refine wpAny_bind (wpAny_holding (wpAny_truthy_bool (wpAny_bind (wpAny_letGo (wpAny_pure ?_)))))
  cases hbt : bt (j + 1) (argBest bt j) with
  | true =>
   simp only [if_true]
   refine wpAny_bind (wpAny_updateSeq gS' rfl (wpAny_bind (wpAny_letGo ?_)))
   rw [wF]
   have ne : ∀ {b : Addr} {o : Obj}, b ≠ S → h'.get? b = some o → (h'.update S (Obj.mapSeq fun _ => #[v, v])).get? b = some o := fun h q => (Heap.get?_update_other _ _ (Ne.symm h)).trans q
   refine wpAny_pure ⟨plainId_quiet F.plain_min_loop _, ih (j + 1) _ v _ (by omega) hlt (okk _ _ ok' fun b o _ h2 q => ne h2 q) (W.frame _ _ _ st' fun b hbf o q => ne (fun z => nf (by rw [← z]; exact hbf)) q) (by simp only [argBest, hbt, if_true]; exact hP) (Heap.get?_update_self _ gS' rfl) fun v' h2 tk2 hP' kp2 => ?_⟩
   exact hR v' h2 tk2 hP' fun b o h1 h3 q => kp2 b o h1 h3 (ne h3 (kp b o h1 q))
  | false =>
   simp only [Bool.false_eq_true, if_false]
   refine wpAny_bind (wpAny_letGo ?_)
   rw [wF]
   refine wpAny_pure ⟨plainId_quiet F.plain_min_loop _, ih (j + 1) _ vb c (by omega) hlt ok' st' (by simp only [argBest, hbt, Bool.false_eq_true, if_false]; exact hb) gS' fun v' h2 tk2 hP' kp2 => ?_⟩
   exact hR v' h2 tk2 hP' fun b o h1 h3 q => kp2 b o h1 h3 (kp b o h1 q)
theorem min_list {E : Value → Shared → Prop} {s : Shared} {l : Addr} {vs : List Value} {Q : Value → Shared → Prop} {ok : Heap → Prop} (bt : Nat → Nat → Bool) (hh : A.handled = none) (hl : s.heap.IsList l vs.toArray) (hn : 0 < vs.length)
  (cI : ∀ h', (∀ b o, s.heap.get? b = some o → h'.get? b = some o) → ok h') (okk : ∀ h h' : Heap, ok h → (∀ b o, b < s.heap.objs.size → h.get? b = some o → h'.get? b = some o) → ok h') (hcmp : M5 prog w A.in1 ok (fun i v => vs[i]? = some v) bt)
  (hq : ∀ v h' tk, vs[argBest bt (vs.length - 1)]? = some v → (∀ b o, s.heap.get? b = some o → h'.get? b = some o) → Q v { s with heap := h', toks := tk }) : wpAny (model prog w) A (call (.builtin "min") [.ref l]) Q E s := by
 have lS : l < s.heap.objs.size := let ⟨_, e, _⟩ := hl; Heap.lt_size e
 refine call_function_tree F.kind_min F.plain_min F.entry_min (F.args_min1 _) ?_
 refine wpAny_bind (m := Builtin.Builtins.bindParams "min" ["key", "default"] 0 ⟨[], []⟩) (wpAny_of_eq (show Builtin.Builtins.bindParams "min" ["key", "default"] 0 ⟨[], []⟩ = pure [none, none] from rfl) (wpAny_bind (wpAny_pure ?_)))
 refine wpAny_bind (wpAny_pyIter_list hl ?_)
 refine wpAny_bind (wpAny_newObj_type ?_)
 rw [wF]
 generalize hX : (s.heap.push { cls := .type "list_iterator", data := .fields #[.ref l, .int 0 0] }) = h1
 have z1 : h1.objs.size = s.heap.objs.size + 1 := by rw [← hX]; exact Heap.size_push ..
 have k1 : ∀ b o, s.heap.get? b = some o → h1.get? b = some o := fun b o e => by rw [← hX]; exact Heap.get?_push_of_some _ e
 have e1 : h1.get? s.heap.objs.size = some { cls := .type "list_iterator", data := .fields #[.ref l, .int 0 0] } := by rw [← hX]; exact Heap.get?_push_size _ rfl
 have nI : l ≠ s.heap.objs.size := Nat.ne_of_lt lS
 have W := Walks.list (prog := prog) (w := w) (A := A.in1) (by exact hh) s.heap.objs.size l nI vs.toArray
 have gS : (h1.push { cls := .type "list", data := .seq ([] : List Value).toArray }).get? h1.objs.size = some { cls := .type "list", dict := none, data := .seq #[] 0, slots := #[] } := Heap.get?_push_size _ rfl
 have nf : h1.objs.size ∉ [s.heap.objs.size, l] := by
  rw [z1]
  simp only [List.mem_cons, List.not_mem_nil, or_false, not_or]
  exact ⟨Nat.ne_of_gt (Nat.lt_succ_self _), Nat.ne_of_gt (Nat.lt_succ_of_lt lS)⟩
 have nw : h1.objs.size ∉ [s.heap.objs.size] := fun z => nf (by simp at z ⊢; exact .inl z)
 have st0 : (h1.push { cls := .type "list", data := .seq ([] : List Value).toArray }).IsListIter s.heap.objs.size l 0 ∧ (h1.push { cls := .type "list", data := .seq ([] : List Value).toArray }).IsList l vs.toArray := by
  refine ⟨⟨_, Heap.get?_push_of_some _ e1, rfl, rfl⟩, ?_⟩
  obtain ⟨o, e, r⟩ := hl
  exact ⟨o, Heap.get?_push_of_some _ (k1 _ _ e), r⟩
 refine wpAny_pure ⟨plainId_quiet F.plain_min_loop _, ?_⟩
 refine codeAny_builtin F.entry_min_loop ?_
 rw [Around.under_plainId F.plain_min_loop _]
 refine wpAny_bind (m := seqItems? (.ref h1.objs.size)) (wpAny_seqItems gS rfl ?_)
 refine wpAny_bind (m := tryCatch (pyNext (.ref s.heap.objs.size)) _) (wpAny_tryCatch (W.item 0 { s with heap := h1.push { cls := .type "list", data := .seq ([] : List Value).toArray } } _ _ (by simpa using hn) st0 fun v h' tk hP st' kp => ?_))
 have gS' := kp h1.objs.size _ nw gS
 refine wpAny_bind (m := updateSeq h1.objs.size (fun _ => #[v, v])) (wpAny_updateSeq gS' rfl ?_)
 rw [wF]
 have ne : ∀ {b : Addr} {o : Obj}, b ≠ h1.objs.size → h'.get? b = some o → (h'.update h1.objs.size (Obj.mapSeq fun _ => #[v, v])).get? b = some o := fun h q => (Heap.get?_update_other _ _ (Ne.symm h)).trans q
 have ltS : ∀ {b : Addr} {o : Obj}, s.heap.get? b = some o → b ∉ [s.heap.objs.size] ∧ b ≠ h1.objs.size := fun e => by
  have := Heap.lt_size e
  rw [z1]
  exact ⟨by simp; exact Nat.ne_of_lt this, Nat.ne_of_lt (Nat.lt_succ_of_lt this)⟩
 have kq : ∀ b o, s.heap.get? b = some o → (h'.update h1.objs.size (Obj.mapSeq fun _ => #[v, v])).get? b = some o := fun b o e => ne (ltS e).2 (kp b o (ltS e).1 (Heap.get?_push_of_some _ (k1 b o e)))
 refine wpAny_pure ⟨plainId_quiet F.plain_min_loop _, IM (ok := ok) W bt (fun i j vi vj s Q E h1 h2 h3 h4 => hcmp i j vi vj s Q E h1 (by simpa using h2) (by simpa using h3) h4) h1.objs.size nf (fun h h2 o k => okk h h2 o fun b u hb q => k b u (by simp; exact Nat.ne_of_lt hb) (by rw [z1]; exact Nat.ne_of_lt (Nat.lt_succ_of_lt hb)) q) _ 0 _ v _ rfl (by simp; omega) (cI _ kq) (W.frame _ _ _ st' fun b hbf o q => ne (fun z => nf (by rw [← z]; exact hbf)) q) (by simpa [argBest] using hP) (Heap.get?_update_self _ gS' rfl) fun v' h2 tk2 hP' kp2 => ?_⟩
 exact hq v' h2 tk2 (by simpa using hP') fun b o e => kp2 b o (ltS e).1 (ltS e).2 (kq b o e)
end
end L2
namespace Mr
open PySem PySem.Spec L2 PyProof.Rows PySem.W
noncomputable def DN (ps : List PV) (i j : Nat) : Bool := iY (code 3 (ps.getD i .bJ)) (code 3 (ps.getD j .bJ))
noncomputable def vQ (ps : List PV) : PV := ps.getD (argBest (DN ps) (ps.length - 1)) .bJ
theorem m8 (bt : Nat → Nat → Bool) : ∀ k, argBest bt k ≤ k
 | 0 => Nat.le_refl _
 | k + 1 => by
  have := m8 bt k
  unfold argBest
  split <;> omega
theorem J6 {ps : List PV} {k : Nat} (hk : k < ps.length) : ∀ i, i ≤ k → mF 3 (ps.getD (argBest (DN ps) k) .bJ) (ps.getD i .bJ) = true := by
 induction k with
 | zero =>
  intro i hi
  have : i = 0 := by omega
  subst this
  unfold mF argBest
  rw [show iY (code 3 (ps.getD 0 .bJ)) (code 3 (ps.getD 0 .bJ)) = false from oB.irrefl _]; rfl
 | succ k ih =>
  intro i hi
  have ih := ih (by omega)
  unfold argBest
  cases e : DN ps (k + 1) (argBest (DN ps) k) with
  | true =>
   rw [if_pos rfl]
   by_cases h : i = k + 1
   ·subst h; unfold mF; rw [show iY (code 3 (ps.getD (k + 1) .bJ)) (code 3 (ps.getD (k + 1) .bJ)) = false from oB.irrefl _]; rfl
   ·refine uG _ (ps.getD (argBest (DN ps) k) .bJ) _ ?_ (ih i (by omega))
    unfold mF
    rw [show iY (code 3 (ps.getD (argBest (DN ps) k) .bJ)) (code 3 (ps.getD (k + 1) .bJ)) = false from vY (A := oB) e]; rfl
  | false =>
   rw [if_neg Bool.false_ne_true]
   by_cases h : i = k + 1
   ·subst h
    unfold mF
    rw [show iY (code 3 (ps.getD (k + 1) .bJ)) (code 3 (ps.getD (argBest (DN ps) k) .bJ)) = false from e]; rfl
   ·exact ih i (by omega)
theorem IS {ps : List PV} (h : 0 < ps.length) : vQ ps ∈ ps := by
 unfold vQ
 have := m8 (DN ps) (ps.length - 1)
 rw [List.getD_eq_getElem?_getD, List.getElem?_eq_getElem (show argBest (DN ps) (ps.length - 1) < ps.length by omega)]
 exact List.getElem_mem _
theorem AS {ps : List PV} {q : PV} (hq : q ∈ ps) : mF 3 (vQ ps) q = true := by
 obtain ⟨i, hi, rfl⟩ := List.mem_iff_getElem.mp hq
 have := J6 (ps := ps) (k := ps.length - 1) (by omega) i (by omega)
 rw [show ps.getD i .bJ = ps[i] by rw [List.getD_eq_getElem?_getD, List.getElem?_eq_getElem hi]; rfl] at this
 exact this
section
variable {X : Cx} {k : Nat}
noncomputable def M8 (K : PySem.W.Frag) : List V → Hp → VK → Prop := fun xs H Q => ∃ p ys ps, xs = [.ref p] ∧ iZ K H p ys ∧ bQ K d6 H ps ys ∧ 0 < ps.length ∧ gY 3 ps = true ∧ Q (ys.getD (argBest (DN ps) (ps.length - 1)) .bJ) H
theorem VJ (K : PySem.W.Frag) (hr : eU k X.A) (hK : X.K = K := by rfl) (hc : X.calm = true := by rfl) : dN X (.builtin "min") (M8 K) := by
 subst hK
 intro pins s σ H xs us Q I r ⟨p, ys, ps, e, hq, rp, h0, cmp, q⟩
 subst e
 obtain ⟨u, rfl, rx⟩ := vals1 r
 cases rx
 obtain ⟨vs, rv, pl, hz⟩ := I.list hq
 have hlen := rv.length
 have hpl := rp.length
 have ok : ∀ x ∈ ps, gU 3 x = true := fun x hx => by
  have := List.all_eq_true.mp cmp x hx
  rw [Bool.and_eq_true] at this
  exact zI this.1
 refine min_list (ok := fun h => ∀ b o, s.heap.get? b = some o → h.get? b = some o) (DN ps) (by exact I.ok.hd hc) pl.isList (by omega) (fun h' kp => kp) (fun h h' o kk b u e => kk b u (Heap.lt_size e) (o b u e)) (fun i j vi vj s' Q E cI h1 h2 hQ => ?_) fun v h' tk hv kp => ?_
 ·have hL : cD s'.heap ps vs := bQ.lies (I.kept (t' := s.toks) cI) (n := 3) (List.all_eq_true.mpr ok) rp rv
  obtain ⟨p1, e1, l1⟩ := hL.get h1
  obtain ⟨p2, e2, l2⟩ := hL.get h2
  have m1 := List.mem_of_getElem? e1
  have m2 := List.mem_of_getElem? e2
  refine IH (s := s') 3 X.A.in1 (by have := hr.un; show X.A.units + 1 + 3 < _; omega) (ok p1 m1) (ok p2 m2) l1 l2 (lN cmp m1 m2) _ _ _ _ ?_
  have hQ : Q (.bool (iY (code 3 (ps.getD i .bJ)) (code 3 (ps.getD j .bJ)))) s' := hQ
  rw [List.getD_eq_getElem?_getD, e1, List.getD_eq_getElem?_getD, e2] at hQ
  exact hQ
 ·obtain ⟨y, hy, ry⟩ := rv.get' hv
  refine ⟨y, H, I.kept (t' := tk) kp, ry, ?_⟩
  rw [List.getD_eq_getElem?_getD, show ps.length = vs.length by omega, hy] at q
  exact q
end
section
variable {K : PySem.W.Frag}
noncomputable def BK : List PV → Option Bv
 | [.lst ps] => bI (decide (0 < ps.length) && gY 3 ps) (some (.val (vQ ps)))
 | _ => none
theorem JT : jI K (M8 K) BK := by
 intro Z H vs qs b Q hp h kk
 unfold BK at h
 split at h
 ·rename_i ps
  obtain ⟨c, h⟩ := aS h
  cases h
  rw [Bool.and_eq_true] at c
  have c1 := of_decide_eq_true c.1
  obtain ⟨v, rfl, hv⟩ := hp.one
  obtain ⟨a, ys, rfl, ha, ra⟩ := hv.p9
  refine ⟨a, ys, ps, rfl, ha.sq, ra.aP (.less fun _ z => z.elim), c1, c.2, kk _ H (bN.refl _) ?_⟩
  have hlt : argBest (DN ps) (ps.length - 1) < ps.length := by have := m8 (DN ps) (ps.length - 1); omega
  obtain ⟨y, hy, ry⟩ := ra.get (List.getElem?_eq_getElem hlt)
  show Rep K Z H (vQ ps) _
  unfold vQ
  rw [List.getD_eq_getElem?_getD, List.getD_eq_getElem?_getD, hy, List.getElem?_eq_getElem hlt]
  exact ry
 ·cases h
end
end Mr
namespace Mr
open PySem L2
section
variable {K : PySem.W.Frag}
end
end Mr
namespace L2
open PySem
section
variable {X : Cx} {pins : List (Addr × Obj)} {σ : St} {H : Hp} {s : Shared} {a : Addr} {y d : V} {u r : Value} {A : Around} {E : Value → Shared → Prop}
theorem FK {kvs : List (Key × V)} {k : Key} {Q : Value → Shared → Prop} (I : Inv X pins σ H s) (e : H a = some (.dK kvs)) (ry : RelV (kV k) u) (rd : RelV d r) (hz : kvs.length < sizeLine)
  (h1 : ∀ v w' s', fP kvs k = some v → Inv X pins σ H s' → RelV v w' → Q w' s') (h2 : ∀ s', fP kvs k = none → Inv X pins σ (upd H a (.dK (putK kvs k d))) s' → Q r s') :
  wpAny (model X.prog X.w) A (call (.builtin "dict.setdefault") [.ref a, u, r]) Q E s := by
 obtain ⟨z, hd, vs, rel, dd⟩ := EL I.cI e
 have hz' : vs.length ≤ sizeLine := by rw [← rel.length]; exact z
 have rv := rel.val k
 refine call_meetsIn PySem.F.slot_dict_setdefault dd.typeIs PySem.F.entry_dict_setdefault (PySem.F.args_dict_setdefault_3 _ _ _) (kt_meets_setdefault (cM X.prog X.w) a (pP ry) hd r) ⟨vs, dd, hz', fun v hv => ?_, fun hn h' dd' hs => ?_⟩
 ·rw [hv] at rv
  cases c : fP kvs k with
  | none => rw [c] at rv; exact rv.elim
  | some v' => rw [c] at rv; exact h1 v' v _ c (I.tok _) rv
 ·rw [hn] at rv
  cases c : fP kvs k with
  | some v' => rw [c] at rv; exact rv.elim
  | none =>
   have hl : (putK kvs k d).length ≤ sizeLine := by have := i9 kvs k d; omega
   have he : ∃ q, h'.get? a = some q := let ⟨q, _, _, hq, _⟩ := dd'; ⟨q, hq⟩
   exact h2 _ c (qD I (by rw [e]; exact True.intro) hs he (zE hl hd (rel.put k rd) dd'))
end
noncomputable def EV (td ty tx : TE) : TE := fun σ H Q => td σ H fun x H1 => ∃ a, x = .ref a ∧ VF H1 a ∧ ty σ H1 fun y H2 => tx σ H2 fun z H3 => ∃ kvs k, H3 a = some (.dK kvs) ∧ y = kV k ∧ kvs.length < sizeLine ∧
 (∀ v, fP kvs k = some v → Q v H3) ∧ (fP kvs k = none → Q z (upd H3 a (.dK (putK kvs k z))))
section
variable {X : Cx} {o e f : Expr} {apos cpos : Pos} {td ty tx : TE}
theorem z5 (ho : PE X o td) (he : PE X e ty) (hf : PE X f tx) (m : M2 X o "setdefault" apos e f cpos) : PE X (.Call (.Attribute o "setdefault" apos) [e, f] [] cpos) (EV td ty tx) := by
 intro pins s σ H Q I h
 refine wpAny_Call_method m.base m.SU m.line PySem.F.plainAttrs_dict PySem.F.slot_dict_setdefault PySem.F.type_dict_setdefault (d8 (ho pins s σ H _ I h) fun u s1 ⟨x, H1, I1, rx, a, ex, d, q1⟩ => ?_)
 subst ex
 obtain rfl : u = Value.ref a := rx
 obtain ⟨t1, t2, _⟩ := GO I1 d
 refine ⟨t1, t2, ?_⟩
 rw [m.trees]
 refine Calls.callWith_builtin rfl (Calls.evalArgs_plain (Calls.spliced_cons (d8 (he pins s1 σ H1 _ I1 q1) fun iv s2 ⟨y, H2, I2, ry, q2⟩ =>
  Calls.spliced_cons (d8 (hf pins s2 σ H2 _ I2 q2) fun fv s3 ⟨z, H3, I3, rz, kvs, k, ea, ey, hz, g1, g2⟩ => Calls.spliced_nil ?_))))
 subst ey
 exact FK I3 ea ry rz hz (fun v w' s' c I' r' => ⟨v, H3, I', r', g1 v c⟩) fun s' c I' => ⟨z, _, I', rz, g2 c⟩
end
end L2
namespace Mr
open PySem L2
noncomputable abbrev DD := List (Key × List PV)
noncomputable abbrev Tr := List (Key × Addr × List PV)
noncomputable def ofT (t : Tr) : DD := t.map fun z => (z.1, z.2.2)
noncomputable def BX (a : Addr) (t : Tr) : aQ := fun b => b = a ∨ b ∈ t.map (·.2.1)
noncomputable def wB (W : WS) (B : aQ) : WS := ⟨W.w, fun c => W.old c ∧ ¬ B c⟩
structure UN (K : PySem.W.Frag) (Z : aQ) (H : Hp) (a : Addr) (t : Tr) : Prop where
 RK : H a = some (.dK (t.map fun z => (z.1, V.ref z.2.1)))
 lst : ∀ z ∈ t, ∃ xs, H z.2.1 = some (.lst xs) ∧ bQ K Z H z.2.2 xs
 nd : (a :: t.map (·.2.1)).Nodup
 kd : (t.map (·.1)).Nodup
noncomputable def UG (O L : aQ) (H : Hp) (B : aQ) : Prop := ∀ b, B b → H b ≠ none ∧ ¬ O b ∧ ¬ L b
theorem UG.M9 {O M L B : aQ} {W : WS} {H : Hp} (o : j7 O M W L H) (b : UG O L H B) : j7 (bD O B) (bD M B) (wB W B) L H :=
 ⟨fun a h => h.elim (o.old a) fun h => (b a h).1, fun a h => h.elim (fun h => .inl (o.mo a h)) .inr, fun i a h => .inl (o.wm i a h), fun a h => ⟨(o.loc a h).1, fun z => z.elim (o.loc a h).2 fun z => (b a z).2.2 h⟩⟩
structure gG (W : WS) (L L' B B' : aQ) (H H' : Hp) : Prop where
 obj : ∀ a o, H a = some o → ¬ aw W a → ¬ L a → ¬ B a → H' a = some o
 tup : ∀ a xs, H a = some (.tup xs) → H' a = some (.tup xs)
 cZ : ∀ a, H a ≠ none → H' a ≠ none
 new : ∀ a, L' a → L a ∨ H a = none
 LO : ∀ a, B' a → B a ∨ H a = none
theorem none_of {H H1 : Hp} (d : ∀ a, H a ≠ none → H1 a ≠ none) {a : Addr} (h : H1 a = none) : H a = none := by
 cases e : H a with
 | none => rfl
 | some o => exact absurd h (d a (by rw [e]; exact fun z => nomatch z))
theorem gG.keep {W : WS} {L B : aQ} {H H' : Hp} (k : cO W L H H') : gG W L L B B H H' := ⟨fun a o h n m _ => k.obj a o h n m, k.tup, k.cZ, fun _ h => .inl h, fun _ h => .inl h⟩
theorem gG.refl {W : WS} {L B : aQ} {H : Hp} : gG W L L B B H H := .keep .refl
theorem gG.trans {W : WS} {L L1 L2 B B1 B2 : aQ} {H H1 H2 : Hp} (a : gG W L L1 B B1 H H1) (b : gG W L1 L2 B1 B2 H1 H2) : gG W L L2 B B2 H H2 :=
  ⟨fun c o h n m l => b.obj c o (a.obj c o h n m l) n (fun z => (a.new c z).elim m fun z => (by rw [h] at z; cases z)) fun z => (a.LO c z).elim l fun z => (by rw [h] at z; cases z),
   fun c xs h => b.tup c xs (a.tup c xs h), fun c h => b.cZ c (a.cZ c h), fun c h => (b.new c h).elim (a.new c) fun z => .inr (none_of a.cZ z), fun c h => (b.LO c h).elim (a.LO c) fun z => .inr (none_of a.cZ z)⟩
inductive uZ where
 | nx (e : En) (d : DD) | ct (e : En) (d : DD)
noncomputable abbrev FX := En → DD → Option uZ
structure C9 (K : PySem.W.Frag) (O M : aQ) (W : WS) (x : Nat) (a : Addr) (L : aQ) (σ : St) (H : Hp) (e : En) (t : Tr) : Prop where
 ok : j7 O M W L H
 vU : UG O L H (BX a t)
 en : aV K (bD (bD M (BX a t)) L) (wB W (BX a t)) L H σ e
 at' : σ[x]? = some (some (.ref a))
 sec : UN K (bD (bD M (BX a t)) L) H a t
noncomputable def BD (K : PySem.W.Frag) (O M : aQ) (W : WS) (x : Nat) (a : Addr) (L : aQ) (H : Hp) (t : Tr) (D : Ends) : uZ → Prop
 | .nx e' d' => ∀ L' σ' H' t', gG W L L' (BX a t) (BX a t') H H' → C9 K O M W x a L' σ' H' e' t' → ofT t' = d' → D.nx σ' H'
 | .ct e' d' => ∀ L' σ' H' t', gG W L L' (BX a t) (BX a t') H H' → C9 K O M W x a L' σ' H' e' t' → ofT t' = d' → D.ct σ' H'
theorem BD.later {K : PySem.W.Frag} {O M L L1 : aQ} {W : WS} {x : Nat} {a : Addr} {H H1 : Hp} {t t1 : Tr} {D : Ends} {r : uZ} (g : gG W L L1 (BX a t) (BX a t1) H H1) (h : BD K O M W x a L H t D r) : BD K O M W x a L1 H1 t1 D r := by
 cases r with
 | nx e d => exact fun L' σ' H' t' g' => h L' σ' H' t' (g.trans g')
 | ct e d => exact fun L' σ' H' t' g' => h L' σ' H' t' (g.trans g')
noncomputable def yP (K : PySem.W.Frag) (x : Nat) (ts : TS) (f : FX) : Prop := ∀ (O M : aQ) (W : WS) (a : Addr) (L : aQ) (σ : St) (H : Hp) (e : En) (t : Tr) (r : uZ) (D : Ends), C9 K O M W x a L σ H e t → f e (ofT t) = some r → BD K O M W x a L H t D r → ts D σ H
section
variable {K : PySem.W.Frag} {x : Nat}
theorem UN.keep {O M L : aQ} {W : WS} {a : Addr} {t : Tr} {H H' : Hp} (o : j7 O M W L H) (b : UG O L H (BX a t)) (k : cO (wB W (BX a t)) L H H') (s : UN K (bD (bD M (BX a t)) L) H a t) : UN K (bD (bD M (BX a t)) L) H' a t := by
 have st := k.aP (b.M9 o)
 have nb : ∀ c ob, BX a t c → H c = some ob → H' c = some ob := fun c ob hc h => k.obj c ob h (fun ⟨i, w⟩ => (b c hc).2.1 (o.mo _ (o.wm i c w))) (b c hc).2.2
 exact ⟨nb a _ (.inl rfl) s.RK, fun z hz => let ⟨xs, h1, h2⟩ := s.lst z hz; ⟨xs, nb _ _ (.inr (List.mem_map.mpr ⟨z, hz, rfl⟩)) h1, h2.aP st⟩, s.nd, s.kd⟩
theorem C9.keep {O M L : aQ} {W : WS} {a : Addr} {t : Tr} {σ : St} {H H' : Hp} {e e' : En} (n : C9 K O M W x a L σ H e t) (k : cO (wB W (BX a t)) L H H') (en : aV K (bD (bD M (BX a t)) L) (wB W (BX a t)) L H' σ e') : C9 K O M W x a L σ H' e' t :=
 ⟨n.ok.keep k.cZ, fun b h => ⟨k.cZ b (n.vU b h).1, (n.vU b h).2⟩, en, n.at', n.sec.keep n.ok n.vU k⟩
theorem kw {W : WS} {B L : aQ} {H H' : Hp} (k : cO (wB W B) L H H') : cO W L H H' := ⟨k.obj, k.tup, k.cZ⟩
noncomputable def EI : FX := fun e d => some (.nx e d)
theorem DH : yP K x HL EI := by
 intro O M W a L σ H e t r D n hf q
 cases hf
 exact q L σ H t .refl n rfl
noncomputable def U9 (fc : FT) (f g : FX) : FX := fun e d => bE (fc e) fun b e1 => bB b (f e1 d) (g e1 d)
theorem HJ {c : TT} {t u : TS} {fc : FT} {f g : FX} (hc : j5 K c fc) (h1 : yP K x t f) (h2 : yP K x u g) : yP K x (Q2 c t u) (U9 fc f g) := by
 intro O M W a L σ H e tr r D n hf q
 obtain ⟨b, e1, f1, hf⟩ := aT hf
 refine hc _ _ _ L σ H e _ _ _ (n.vU.M9 n.ok) n.en f1 fun H1 k1 en => ?_
 have n1 := n.keep k1 en
 cases b with
 | true => rw [if_pos rfl]; exact h1 O M W a L σ H1 e1 tr r D n1 hf (q.later (.keep (kw k1)))
 | false => rw [if_neg Bool.false_ne_true]; exact h2 O M W a L σ H1 e1 tr r D n1 hf (q.later (.keep (kw k1)))
noncomputable def BZ (K : PySem.W.Frag) (x : Nat) (g : TG) (f : FG) : Prop := ∀ (O M : aQ) (W : WS) (L : aQ) (σ : St) (H : Hp) (e e' : En) (p : PV) (v : V) (Q : St → Hp → Prop), j7 O M W L H → aV K (bD M L) W L H σ e → Rep K (bD M L) H p v → f p e = some e' → (∀ σ', σ'[x]? = σ[x]? → aV K (bD M L) W L H σ' e' → Q σ' H) → g v σ H Q
noncomputable def wM (K : PySem.W.Frag) (x : Nat) (g : wY) (f : zP) : Prop := ∀ (O M : aQ) (W : WS) (L : aQ) (σ : St) (H : Hp) (e e' : En) (p : List PV) (v : List V) (Q : St → Hp → Prop), j7 O M W L H → aV K (bD M L) W L H σ e → bQ K (bD M L) H p v → f p e = some e' → (∀ σ', σ'[x]? = σ[x]? → aV K (bD M L) W L H σ' e' → Q σ' H) → g v σ H Q
theorem nH {i : Nat} (h : i ≠ x) : BZ K x (nJ i) (bH i) := by
 intro O M W L σ H e e' p v Q o he hp hf q
 cases hf
 exact q _ (List.getElem?_set_ne h) (aV.put he rfl hp)
theorem DX : wM K x QA mL := by
 intro O M W L σ H e e' p v Q o he hp hf q
 cases p with
 | nil => cases hf; cases hp; exact ⟨rfl, q σ rfl he⟩
 | cons p ps => cases hf
theorem sA {g : TG} {gs : wY} {f : FG} {fs : zP} (h1 : BZ K x g f) (h2 : wM K x gs fs) : wM K x (EB g gs) (dO f fs) := by
 intro O M W L σ H e e' p v Q o he hp hf q
 cases p with
 | nil => cases hf
 | cons p ps =>
  obtain ⟨e1, f1, hf⟩ := aL hf
  cases hp with
  | cons hp hr => exact ⟨_, _, rfl, h1 O M W L σ H e e1 p _ _ o he hp f1 fun σ' ex he' => h2 O M W L σ' H e1 e' ps _ _ o he' hr hf fun σ2 ex2 => q σ2 (ex2.trans ex)⟩
theorem CW {n : Nat} {g : wY} {f : zP} (h : wM K x g f) : BZ K x (FL K n g) (pH n f) := by
 intro O M W L σ H e e' p v Q o he hp hf q
 cases p with
 | tup ps =>
  obtain ⟨g1, hf⟩ := aS hf
  cases hp with
  | tup ha hr => exact ⟨_, _, rfl, ha.sq, by rw [← hr.length]; exact of_decide_eq_true g1, h O M W L σ H e e' ps _ Q o he hr hf q⟩
 | _ => cases hf
noncomputable def SN (K : PySem.W.Frag) (Z : aQ) (H : Hp) (J : It) (items : List PV) : Prop := ∀ Z' H', eA Z Z' H H' → (∀ k p, items[k]? = some p → J.go k H' ∧ ∀ x H3, J.RE k H' x H3 → bN H' H3 ∧ Rep K Z' H3 p x) ∧ J.stop items.length H'
noncomputable abbrev RI := En → Option (List PV × En)
noncomputable def G6 (K : PySem.W.Frag) (wi : TI) (f : RI) : Prop := ∀ (O M : aQ) (W : WS) (L : aQ) (σ : St) (H : Hp) (e e' : En) (ps : List PV) (R : It → Hp → Prop), j7 O M W L H → aV K (bD M L) W L H σ e → f e = some (ps, e') →
 (∀ J H', cO W L H H' → aV K (bD M L) W L H' σ e' → SN K (bD M L) H' J ps → R J H') → wi σ H R
noncomputable def V4 (f : FE) : RI := fun e => bE (f e) fun b e1 => match b with
 | .val (.tup ps) => some (ps, e1)
 | _ => none
theorem LS {t : TE} {f : FE} (h : Ref K t f) : G6 K (QB K t) (V4 f) := by
 intro O M W L σ H e e' ps R o he hf q
 obtain ⟨b, e1, f1, hf⟩ := aT hf
 refine h O M W L σ H e e1 b _ o he f1 fun v H1 k1 rb fr => ?_
 split at hf
 ·cases hf
  obtain ⟨en, rp⟩ := rb
  cases rp with
  | tup ha r =>
   rename_i aa xs
   refine .inr (.inl ⟨_, rfl, ⟨_, ha.sq⟩, q _ H1 k1 en fun Z' H' st => ?_⟩)
   have sq : mB K H' aa xs := TupAt.sq (ha.elim (fun h => .inl (st.tup _ _ h)) .inr)
   refine ⟨fun k p hp => ?_, xs, sq, by rw [r.length]; exact Nat.le_refl _⟩
   obtain ⟨v, hv, rv⟩ := r.get hp
   refine ⟨⟨xs, v, sq, hv⟩, fun x H3 y => ?_⟩
   obtain ⟨e, y⟩ := y
   subst e
   have := y xs sq
   rw [hv] at this
   cases this
   exact ⟨bN.refl _, rv.aP st⟩
 ·cases hf
noncomputable def OZ (fa : FA) : RI := fun e => bE (fa e) fun bs e1 => match bs with
 | [.val (.tup ps)] => some (ps.zipIdx.map fun z => .tup [.int (z.2 : Int), z.1], e1)
 | _ => none
theorem GS {ta : TA} {fa : FA} (h : qB K ta fa) : G6 K (v9 K ta) (OZ fa) := by
 intro O M W L σ H e e' ps R o he hf q
 obtain ⟨b, e1, f1, hf⟩ := aT hf
 refine h O M W L σ H e e1 b _ o he f1 fun vs H1 k1 en rv => ?_
 split at hf
 ·rename_i ps0
  cases hf
  cases rv with
  | cons h r =>
   cases r
   cases h with
   | tup ha ra =>
    rename_i aa xs
    refine .inl ⟨aa, xs, rfl, ha.sq, q _ H1 k1 en fun Z' H' st => ?_⟩
    have sq : mB K H' aa xs := TupAt.sq (ha.elim (fun h => .inl (st.tup _ _ h)) .inr)
    refine ⟨fun k p hp => ?_, xs, sq, by rw [List.length_map, List.length_zipIdx, ra.length]⟩
    rw [List.getElem?_map, List.getElem?_zipIdx] at hp
    cases c : ps0[k]? with
    | none => rw [c] at hp; cases hp
    | some p0 =>
     rw [c] at hp
     cases hp
     obtain ⟨v, hv, rv⟩ := ra.get c
     refine ⟨⟨xs, v, sq, hv⟩, fun x H3 y => ?_⟩
     obtain ⟨t, ht, rfl, y⟩ := y
     obtain ⟨x', hx', rfl⟩ := y xs sq
     rw [hv] at hx'
     cases hx'
     refine ⟨bN.upd ht, .tup (.inl bG) (.cons ?_ (.cons ((rv.aP st).aP (.same (bN.upd ht))) .nil))⟩
     rw [Nat.zero_add]
     exact .int _
 ·cases hf
noncomputable def mI (body : PV → En → DD → Option uZ) : List PV → En → DD → Option uZ
 | [], e, d => some (.nx e d)
 | p :: ps, e, d => match body p e d with
  | some (.nx e1 d1) => mI body ps e1 d1
  | some (.ct e1 d1) => mI body ps e1 d1
  | none => none
noncomputable def E4 (fi : RI) (fg : FG) (fb : FX) : FX := fun e d => bE (fi e) fun ps e1 => mI (fun x e d => bO (fg x e) fun e2 => fb e2 d) ps e1 d
theorem gG.aP {O M L L' : aQ} {W : WS} {a : Addr} {t t' : Tr} {H H' : Hp} (o : j7 O M W L H) (g : gG W L L' (BX a t) (BX a t') H H') : eA (bD (bD M (BX a t)) L) (bD (bD M (BX a t')) L') H H' :=
 ⟨g.tup, fun c ob h n => ⟨g.obj c ob h (fun ⟨i, w⟩ => n (.inl (.inl (o.wm i c w)))) (fun z => n (.inr z)) fun z => n (.inl (.inr z)), fun z => by
  rcases z with (z | z) | z
  ·exact n (.inl (.inl z))
  ·exact (g.LO c z).elim (fun z => n (.inl (.inr z))) fun z => by rw [h] at z; cases z
  ·exact (g.new c z).elim (fun z => n (.inr z)) fun z => by rw [h] at z; cases z⟩⟩
theorem xC {wi : TI} {g : TG} {tb : TS} {fi : RI} {fg : FG} {fb : FX} (hi : G6 K wi fi) (hg : BZ K x g fg) (hb : yP K x tb fb) : yP K x (NY wi g tb) (E4 fi fg fb) := by
 intro O M W a L σ H e tr r D n hf q
 obtain ⟨ps, e1, f1, hf⟩ := aT hf
 refine hi _ _ _ L σ H e e1 ps _ (n.vU.M9 n.ok) n.en f1 fun J H1 k1 en it => ?_
 have n1 := n.keep k1 en
 have q1 := q.later (.keep (kw k1))
 let N : Nat → St → Hp → Prop := fun i σ' H' => ∃ L' e' t', gG W L L' (BX a tr) (BX a t') H1 H' ∧ C9 K O M W x a L' σ' H' e' t' ∧ mI (fun x e d => bO (fg x e) fun e2 => fb e2 d) (ps.drop i) e' (ofT t') = some r
 refine ⟨fun i m σ' H' => m = ps.length - i ∧ i ≤ ps.length ∧ N i σ' H', ⟨ps.length, by simp, Nat.zero_le _, L, e1, tr, .refl, n1, by rw [List.drop_zero]; exact hf⟩, ?_⟩
 rintro i m σ2 H2 ⟨rfl, hil, L2, e2, t2, g2, n2, f2⟩
 obtain ⟨itm, its⟩ := it _ H2 (g2.aP n1.ok)
 by_cases hlt : i < ps.length
 ·refine .inr ?_
  obtain ⟨go, yl⟩ := itm i ps[i] (by simp [hlt])
  refine ⟨go, N (i + 1), fun σ' H' n => ⟨ps.length - (i + 1), by omega, rfl, hlt, n⟩, fun v H3 y => ?_⟩
  obtain ⟨s3, rp⟩ := yl v H3 y
  rw [List.drop_eq_getElem_cons hlt] at f2
  unfold mI at f2
  have k3 : cO (wB W (BX a t2)) L2 H2 H3 := .same s3
  have n3 := n2.keep k3 (n2.en.same s3)
  have g3 : gG W L L2 (BX a tr) (BX a t2) H1 H3 := g2.trans (.keep (kw k3))
  cases c1 : fg ps[i] e2 with
  | none => rw [c1] at f2; cases f2
  | some e3 =>
   rw [c1, sY] at f2
   refine hg _ _ _ L2 σ2 H3 e2 e3 _ v _ (n3.vU.M9 n3.ok) n3.en rp c1 fun σ3 ex en3 => ?_
   have n4 : C9 K O M W x a L2 σ3 H3 e3 t2 := ⟨n3.ok, n3.vU, en3, by rw [ex]; exact n3.at', n3.sec⟩
   cases c2 : fb e3 (ofT t2) with
   | none => rw [c2] at f2; cases f2
   | some r1 =>
    rw [c2] at f2
    refine hb O M W a L2 σ3 H3 e3 t2 r1 _ n4 c2 ?_
    cases r1 with
    | nx e4 d4 => exact fun L' σ' H' t' g' n' ed => ⟨L', e4, t', g3.trans g', n', by rw [ed]; exact f2⟩
    | ct e4 d4 => exact fun L' σ' H' t' g' n' ed => ⟨L', e4, t', g3.trans g', n', by rw [ed]; exact f2⟩
 ·have e : i = ps.length := by omega
  subst e
  rw [List.drop_length] at f2
  cases f2
  exact .inl ⟨its, q1 L2 σ2 H2 t2 g2 n2 rfl⟩
end
end Mr
namespace Mr
open PySem L2
theorem AU {α β : Type} {f : α → β} : ∀ {l : List α}, (l.map f).Nodup → ∀ y ∈ l, ∀ z ∈ l, f y = f z → y = z
 | [], _, _, h, _, _, _ => nomatch h
 | w :: l, nd, y, hy, z, hz, e => by
  rw [List.map_cons, List.nodup_cons] at nd
  rcases List.mem_cons.mp hy with e1 | h1
  ·rcases List.mem_cons.mp hz with e2 | h2
   ·rw [e1, e2]
   ·exact absurd (List.mem_map.mpr ⟨z, h2, by rw [← e, e1]⟩) nd.1
  ·rcases List.mem_cons.mp hz with e2 | h2
   ·exact absurd (List.mem_map.mpr ⟨y, h1, by rw [e, e2]⟩) nd.1
   ·exact AU nd.2 y h1 z h2 e
noncomputable def nS (d : DD) (k : Key) (p : PV) : DD := if (d.any fun kp => decide (kp.1 = k)) = true then d.map (fun kp => if kp.1 = k then (kp.1, kp.2 ++ [p]) else kp) else d ++ [(k, [p])]
noncomputable def qR (t : Tr) (k : Key) (p : PV) : Tr := t.map fun z => if z.1 = k then (z.1, z.2.1, z.2.2 ++ [p]) else z
theorem uK (t : Tr) (k : Key) (p : PV) : (qR t k p).map (·.2.1) = t.map (·.2.1) := by
 unfold qR
 rw [List.map_map]
 refine List.map_congr_left fun z _ => ?_
 simp only [Function.comp_apply]
 split <;> rfl
theorem HV (t : Tr) (k : Key) (p : PV) : (qR t k p).map (·.1) = t.map (·.1) := by
 unfold qR
 rw [List.map_map]
 refine List.map_congr_left fun z _ => ?_
 simp only [Function.comp_apply]
 split <;> rfl
theorem HP (t : Tr) (k : Key) (p : PV) : (qR t k p).map (fun z => (z.1, V.ref z.2.1)) = t.map fun z => (z.1, V.ref z.2.1) := by
 unfold qR
 rw [List.map_map]
 refine List.map_congr_left fun z _ => ?_
 simp only [Function.comp_apply]
 split <;> rfl
theorem CA (t : Tr) (k : Key) (p : PV) : ofT (qR t k p) = (ofT t).map fun kp => if kp.1 = k then (kp.1, kp.2 ++ [p]) else kp := by
 unfold qR ofT
 rw [List.map_map, List.map_map]
 refine List.map_congr_left fun z _ => ?_
 simp only [Function.comp_apply]
 split <;> rfl
theorem vB (a : Addr) (t : Tr) (k : Key) (p : PV) : BX a (qR t k p) = BX a t := by
 unfold BX
 rw [uK]
section
variable {K : PySem.W.Frag} {x : Nat}
theorem aV.grow {Z Z' L : aQ} {W W' : WS} {H H' : Hp} {σ : St} {e : En} (h : aV K Z W L H σ e) (k : eA Z Z' H H') (ew : W'.w = W.w) (od : ∀ a, W.old a → H a ≠ none → W'.old a)
  (ow : ∀ a o, aw W a ∨ L a → H a = some o → H' a = some o) (bo : ∀ a o, H a = some o → W.old a → ¬ aw W a → ¬ L a → H' a = some o) : aV K Z' W' L H' σ e := by
 have aw' : ∀ a, aw W' a → aw W a := fun a ⟨i, w⟩ => ⟨i, by rw [← ew]; exact w⟩
 refine ⟨h.len, fun i s q => ?_, h.nE⟩
 obtain ⟨v, h1, h2⟩ := h.at' i s q
 refine ⟨v, h1, ?_⟩
 have rn : ∀ {a : Addr} {ob : HO}, Rd H a ob → H a ≠ none := fun r => by rcases r with r | ⟨u, r⟩ <;> (rw [r]; exact fun z => nomatch z)
 cases s with
 | val p => exact Rep.aP k h2
 | own p => obtain ⟨a, e, w, c⟩ := h2; exact ⟨a, e, by rw [ew]; exact w, c.aP k fun o q => ow a o (.inl ⟨_, w⟩) q⟩
 | loc p => obtain ⟨a, e, w, c⟩ := h2; exact ⟨a, e, w, c.aP k fun o q => ow a o (.inr w) q⟩
 | bor p =>
  obtain ⟨a, e, c⟩ := h2
  refine ⟨a, e, ?_⟩
  cases c with
  | lst e o n m r => exact .lst (e.elim (fun e => .inl (bo _ _ e o n m)) fun ⟨u, e⟩ => .inr ⟨u, bo _ _ e o n m⟩) (od _ o (rn e)) (fun z => n (aw' _ z)) m (r.aP k)
  | fE e r => exact .fE e (r.aP k)
  | bW e o n m kk r => exact .bW (e.elim (fun e => .inl (bo _ _ e o n m)) fun ⟨u, e⟩ => .inr ⟨u, bo _ _ e o n m⟩) (od _ o (rn e)) (fun z => n (aw' _ z)) m kk (r.aP k)
theorem aV.unset {Z L : aQ} {W : WS} {H : Hp} {σ : St} {e : En} {i : Nat} {v : Option V} (h : aV K Z W L H σ e) : aV K Z W L H (σ.set i v) (e.set i none) := by
 refine ⟨by rw [List.length_set, List.length_set]; exact h.len, fun j t q => ?_, fun j k s1 s2 hjk q1 q2 m1 m2 => ?_⟩
 ·rcases hW q with ⟨rfl, hl, e⟩ | ⟨hn, q⟩
  ·cases e
  ·rw [List.getElem?_set_ne hn]
   exact h.at' j t q
 ·rcases hW q1 with ⟨rfl, hl, e⟩ | ⟨hn1, q1⟩
  ·cases e
  ·rcases hW q2 with ⟨rfl, hl, e⟩ | ⟨hn2, q2⟩
   ·cases e
   ·rw [List.getElem?_set_ne hn1, List.getElem?_set_ne hn2]
    exact h.nE j k s1 s2 hjk q1 q2 m1 m2
theorem x5 {O M L : aQ} {W : WS} {a l : Addr} {t : Tr} {k : Key} {ps : List PV} {σ : St} {H : Hp} {e e2 : En} {b : Bv} {p : PV} {tv : TE} {fv : FE} {D : Ends} (hv : Ref K tv fv) (n : C9 K O M W x a L σ H e t) (hz : (k, l, ps) ∈ t)
  (f2 : fv e = some (b, e2)) (g : b.put = some p) (hl : ps.length < 1000000) (q : ∀ H', gG W L L (BX a t) (BX a (qR t k p)) H H' → C9 K O M W x a L σ H' e2 (qR t k p) → D.nx σ H') :
  U6 K "list" (.ref l) H ∧ (oI tv u9) σ H fun xs H5 => qG (.ref l) xs H5 fun _ H6 => D.nx σ H6 := by
 obtain ⟨xs0, e0, _⟩ := n.sec.lst _ hz
 refine ⟨.inl ⟨rfl, xs0, iZ.of e0⟩, ?_⟩
 refine hv _ _ _ L σ H e _ _ _ (n.vU.M9 n.ok) n.en f2 fun v H5 k5 rb fr => ?_
 have o5 := (n.vU.M9 n.ok).keep k5.cZ
 obtain ⟨en, rp⟩ := rb.put o5 g
 have n5 := n.keep k5 en
 obtain ⟨xs, e5, r5⟩ := n5.sec.lst _ hz
 have bl : BX a t l := .inr (List.mem_map.mpr ⟨_, hz, rfl⟩)
 have nl := (n5.vU l bl).2
 have st : eA (bD (bD M (BX a t)) L) (bD (bD M (BX a t)) L) H5 (upd H5 l (.lst (xs ++ [v]))) := .write (.inl (.inr bl)) e5 fun _ z => nomatch z
 have cZ : ∀ c, H5 c ≠ none → upd H5 l (.lst (xs ++ [v])) c ≠ none := fun c h => by
  by_cases hc : c = l
  ·rw [hc, bG]; exact fun z => nomatch z
  ·rw [aX hc]; exact h
 have off : ∀ c ob, c ≠ l → H5 c = some ob → upd H5 l (.lst (xs ++ [v])) c = some ob := fun c ob hc h => by rw [aX hc]; exact h
 refine ⟨l, xs, v, rfl, rfl, e5, by rw [← r5.length, sizeLine_eq]; show ps.length < _; omega, q _ ?_ ?_⟩
 ·rw [vB]
  exact ⟨fun c ob h nw nL nB => off c ob (fun z => nB (by rw [z]; exact bl)) (k5.obj c ob h nw nL), fun c ys h => st.tup c ys (k5.tup c ys h), fun c h => cZ c (k5.cZ c h), fun _ h => .inl h, fun _ h => .inl h⟩
 ·have al : a ≠ l := fun z => by
   have := n5.sec.nd
   rw [List.nodup_cons] at this
   exact this.1 (by rw [z]; exact List.mem_map.mpr ⟨_, hz, rfl⟩)
  refine ⟨n5.ok.keep cZ, ?_, ?_, n5.at', ?_⟩
  ·rw [vB]; exact fun c h => ⟨cZ c (n5.vU c h).1, (n5.vU c h).2⟩
  ·rw [vB]
   refine n5.en.grow st rfl (fun _ h _ => h) (fun c ob h he => off c ob (fun z => ?_) he) fun c ob he h _ _ => off c ob (fun z => h.2 (by rw [z]; exact bl)) he
   rw [z] at h
   exact h.elim (fun ⟨i, w⟩ => nl.1 (n.ok.mo _ (n.ok.wm i l w))) nl.2
  ·rw [vB]
   refine ⟨?_, fun z hz' => ?_, ?_, ?_⟩
   ·rw [HP]; exact off a _ al n5.sec.RK
   ·obtain ⟨z0, h0, rfl⟩ := List.mem_map.mp hz'
    by_cases hk : z0.1 = k
    ·have : z0 = (k, l, ps) := AU n5.sec.kd z0 h0 _ hz hk
     subst this
     rw [if_pos rfl]
     exact ⟨_, bG, (r5.aP st).app (.cons (rp.aP st) .nil)⟩
    ·rw [if_neg hk]
     obtain ⟨ys, h1, h2⟩ := n5.sec.lst z0 h0
     have hne : z0.2.1 ≠ l := fun z => by
      have := AU (List.nodup_cons.mp n5.sec.nd).2 z0 h0 _ hz z
      exact hk (by rw [this])
     exact ⟨ys, off _ _ hne h1, h2.aP st⟩
   ·rw [uK]; exact n5.sec.nd
   ·rw [HV]; exact n5.sec.kd
noncomputable def OO (fk fv : FE) : FX := fun e d => bE (fk e) fun kb e1 => bO (kb.weak.get e1) fun kp => bO (keyOf kp) fun k => bE (fv e1) fun b e2 => bO b.put fun p =>
 bI (decide (d.length < 1000000) && d.all fun kp => decide (kp.2.length < 1000000)) (some (.nx e2 (nS d k p)))
theorem ND : ∀ (t : Tr) (k : Key), (fP (t.map fun z => (z.1, V.ref z.2.1)) k = none ∧ ∀ z ∈ t, z.1 ≠ k) ∨ ∃ z ∈ t, z.1 = k ∧ fP (t.map fun z => (z.1, V.ref z.2.1)) k = some (.ref z.2.1)
 | [], k => .inl ⟨rfl, fun _ h => nomatch h⟩
 | z :: t, k => by
  by_cases h : z.1 = k
  ·refine .inr ⟨z, List.mem_cons_self, h, ?_⟩
   unfold fP
   rw [List.map_cons, List.find?_cons, decide_eq_true h]
   rfl
  ·have e : fP ((z :: t).map fun z => (z.1, V.ref z.2.1)) k = fP (t.map fun z => (z.1, V.ref z.2.1)) k := by
    unfold fP
    rw [List.map_cons, List.find?_cons, decide_eq_false h]
   rw [e]
   rcases ND t k with ⟨h1, h2⟩ | ⟨y, hy, h1, h2⟩
   ·exact .inl ⟨h1, fun w hw => (List.mem_cons.mp hw).elim (fun e => by rw [e]; exact h) (h2 w)⟩
   ·exact .inr ⟨y, List.mem_cons_of_mem _ hy, h1, h2⟩
theorem GN {tk tv : TE} {fk fv : FE} (hk : Ref K tk fk) (hv : Ref K tv fv) : yP K x (G0 (SH K "list" qG (EV (wN x) tk (P7 u9)) (oI tv u9))) (OO fk fv) := by
 intro O M W a L σ H e tr r D n hf q
 obtain ⟨kb, e1, f1, hf⟩ := aT hf
 obtain ⟨kp, g1, hf⟩ := aL hf
 obtain ⟨k, gk, hf⟩ := aL hf
 obtain ⟨b, e2, f2, hf⟩ := aT hf
 obtain ⟨p, g2, hf⟩ := aL hf
 obtain ⟨gz, hf⟩ := aS hf
 cases hf
 rw [Bool.and_eq_true] at gz
 have z1 := of_decide_eq_true gz.1
 have z2 := List.all_eq_true.mp gz.2
 have S4 : tr.length = (ofT tr).length := by unfold ofT; rw [List.length_map]
 refine ⟨.ref a, n.at', a, rfl, .inl ⟨_, .inl n.sec.RK⟩, ?_⟩
 refine hk _ _ _ L σ H e _ _ _ (n.vU.M9 n.ok) n.en f1 fun y H2 k1 rb fr => ?_
 have o2 := (n.vU.M9 n.ok).keep k1.cZ
 have n2 := n.keep k1 (rb.en o2)
 have ky : y = kV k := ((rb.rv o2).red (rb.en o2) g1).key gk
 refine ⟨Nat.zero_le _, fun l hl => ?_⟩
 have al : a ≠ l := fun z => (n2.vU a (.inl rfl)).1 (by rw [z]; exact hl)
 have sm : bN H2 (upd H2 l (.lst [])) := bN.upd hl
 have n3 : C9 K O M W x a L σ (upd H2 l (.lst [])) e1 tr := n2.keep (.same sm) (n2.en.same sm)
 refine ⟨_, k, n3.sec.RK, ky, by rw [List.length_map, S4, sizeLine_eq]; omega, ?_, ?_⟩
 ·intro v hv'
  rcases ND tr k with ⟨h1, _⟩ | ⟨z, hz, h1, h2⟩
  ·rw [h1] at hv'; cases hv'
  ·rw [h2] at hv'
   cases hv'
   have hz' : (k, z.2.1, z.2.2) ∈ tr := by rw [← h1]; exact hz
   have zl := of_decide_eq_true (z2 (z.1, z.2.2) (List.mem_map.mpr ⟨z, hz, rfl⟩))
   refine x5 hv n3 hz' f2 g2 zl fun H' g' n' => q L σ H' _ ((gG.keep (kw k1)).trans ((gG.keep (.same sm)).trans g')) n' ?_
   rw [CA]
   have anyT : ((ofT tr).any fun kp => decide (kp.1 = k)) = true := List.any_eq_true.mpr ⟨(z.1, z.2.2), List.mem_map.mpr ⟨z, hz, rfl⟩, decide_eq_true h1⟩
   unfold nS
   rw [if_pos anyT]
 ·intro hv'
  rcases ND tr k with ⟨_, h2⟩ | ⟨z, hz, h1, h2⟩
  ·have anyF : ((tr.map fun z => (z.1, V.ref z.2.1)).any fun kv => decide (kv.1 = k)) = false := by
    rw [List.any_map, List.any_eq_false]
    intro z hz
    simpa using h2 z hz
   have eput : putK (tr.map fun z => (z.1, V.ref z.2.1)) k (.ref l) = (tr ++ [(k, l, [])] : Tr).map fun z : Key × Addr × List PV => (z.1, V.ref z.2.1) := by
    unfold putK
    rw [anyF, if_neg Bool.false_ne_true, List.map_append]; rfl
   rw [eput]
   have cZ : ∀ c, H2 c ≠ none → upd (upd H2 l (.lst [])) a (.dK ((tr ++ [(k, l, [])] : Tr).map fun z : Key × Addr × List PV => (z.1, V.ref z.2.1))) c ≠ none := fun c h => by
    by_cases hc : c = a
    ·rw [hc, bG]; exact fun z => nomatch z
    ·rw [aX hc]
     by_cases hc : c = l
     ·rw [hc, bG]; exact fun z => nomatch z
     ·rw [aX hc]; exact h
   have off : ∀ c ob, c ≠ a → H2 c = some ob → upd (upd H2 l (.lst [])) a (.dK ((tr ++ [(k, l, [])] : Tr).map fun z : Key × Addr × List PV => (z.1, V.ref z.2.1))) c = some ob := fun c ob hc h => by
    rw [aX hc, aX (fun z => by rw [z, hl] at h; cases h)]; exact h
   have ll : upd (upd H2 l (.lst [])) a (.dK ((tr ++ [(k, l, [])] : Tr).map fun z : Key × Addr × List PV => (z.1, V.ref z.2.1))) l = some (.lst []) := by rw [aX (Ne.symm al), bG]
   have bx : ∀ c, BX a (tr ++ [(k, l, [])]) c → BX a tr c ∨ c = l := fun c h => by
    rcases h with h | h
    ·exact .inl (.inl h)
    ·rw [List.map_append] at h
     rcases List.mem_append.mp h with h | h
     ·exact .inl (.inr h)
     ·exact .inr (by simpa using h)
   have st : eA (bD (bD M (BX a tr)) L) (bD (bD M (BX a (tr ++ [(k, l, [])]))) L) H2 (upd (upd H2 l (.lst [])) a (.dK ((tr ++ [(k, l, [])] : Tr).map fun z : Key × Addr × List PV => (z.1, V.ref z.2.1)))) :=
    ⟨fun c ys h => off c _ (fun z => by rw [z, n2.sec.RK] at h; cases h) h, fun c ob h nz => ⟨off c ob (fun z => nz (.inl (.inr (.inl z)))) h, fun z => by
     rcases z with (z | z) | z
     ·exact nz (.inl (.inl z))
     ·rcases bx c z with z | z
      ·exact nz (.inl (.inr z))
      ·rw [z, hl] at h; cases h
     ·exact nz (.inr z)⟩⟩
   have na := n2.vU a (.inl rfl)
   have n4 : C9 K O M W x a L σ (upd (upd H2 l (.lst [])) a (.dK ((tr ++ [(k, l, [])] : Tr).map fun z : Key × Addr × List PV => (z.1, V.ref z.2.1)))) e1 (tr ++ [(k, l, [])]) := by
    refine ⟨n2.ok.keep cZ, fun c h => ?_, ?_, n2.at', ?_⟩
    ·rcases bx c h with h | h
     ·exact ⟨cZ c (n2.vU c h).1, (n2.vU c h).2⟩
     ·rw [h]
      exact ⟨by rw [ll]; exact (fun z => nomatch z), fun z => n2.ok.old l z hl, fun z => (n2.ok.loc l z).1 hl⟩
    ·refine n2.en.grow st rfl (fun c h hc => ⟨h.1, fun z => (bx c z).elim h.2 fun z => hc (by rw [z]; exact hl)⟩) (fun c ob h he => off c ob (fun z => ?_) he) fun c ob he h _ _ => off c ob (fun z => h.2 (.inl z)) he
     rw [z] at h
     exact h.elim (fun ⟨i, w⟩ => na.2.1 (n2.ok.mo _ (n2.ok.wm i a w))) na.2.2
    ·refine ⟨bG, fun z hz => ?_, ?_, ?_⟩
     ·rcases List.mem_append.mp hz with hz | hz
      ·obtain ⟨xs, h1, h3⟩ := n2.sec.lst z hz
       have hne : z.2.1 ≠ a := fun w => (List.nodup_cons.mp n2.sec.nd).1 (by rw [← w]; exact List.mem_map.mpr ⟨z, hz, rfl⟩)
       exact ⟨xs, off _ _ hne h1, h3.aP st⟩
      ·rw [List.mem_singleton.mp hz]
       exact ⟨[], ll, .nil⟩
     ·rw [List.map_append, ← List.cons_append]
      refine List.nodup_append.mpr ⟨n2.sec.nd, by simp, fun u hu w hw e => ?_⟩
      have hw' : w = l := by simpa using hw
      rw [e, hw'] at hu
      rcases List.mem_cons.mp hu with hu | hu
      ·exact al hu.symm
      ·obtain ⟨z, hz, ez⟩ := List.mem_map.mp hu
       obtain ⟨xs, h1, _⟩ := n2.sec.lst z hz
       rw [show z.2.1 = l from ez, hl] at h1
       cases h1
     ·rw [List.map_append]
      refine List.nodup_append.mpr ⟨n2.sec.kd, by simp, fun u hu w hw e => ?_⟩
      have hw' : w = k := by simpa using hw
      obtain ⟨z, hz, ez⟩ := List.mem_map.mp hu
      exact h2 z hz (by rw [ez, e, hw'])
   have g4 : gG W L L (BX a tr) (BX a (tr ++ [(k, l, [])])) H2 (upd (upd H2 l (.lst [])) a (.dK ((tr ++ [(k, l, [])] : Tr).map fun z : Key × Addr × List PV => (z.1, V.ref z.2.1)))) :=
    ⟨fun c ob h _ _ nb => off c ob (fun z => nb (.inl z)) h, st.tup, cZ, fun _ h => .inl h, fun c h => (bx c h).elim .inl fun z => .inr (by rw [z]; exact hl)⟩
   have hz : (k, l, []) ∈ tr ++ [(k, l, ([] : List PV))] := List.mem_append.mpr (.inr List.mem_cons_self)
   refine x5 hv n4 hz f2 g2 (by decide) fun H' g' n' => q L σ H' _ ((gG.keep (kw k1)).trans (g4.trans g')) n' ?_
   have anyD : ((ofT tr).any fun kp => decide (kp.1 = k)) = false := by
    unfold ofT
    rw [List.any_map, List.any_eq_false]
    intro z hz
    simpa using h2 z hz
   unfold nS
   rw [anyD, if_neg Bool.false_ne_true, CA]
   have eo : ofT (tr ++ [(k, l, [])]) = ofT tr ++ [(k, [])] := by unfold ofT; rw [List.map_append]; rfl
   rw [eo, List.map_append]
   congr 1
   ·have : ∀ kp ∈ ofT tr, (if kp.1 = k then (kp.1, kp.2 ++ [p]) else kp) = kp := fun kp hkp => by
     obtain ⟨z, hz, rfl⟩ := List.mem_map.mp hkp
     exact if_neg (h2 z hz)
    rw [List.map_congr_left this, List.map_id']
   ·simp
  ·rw [h2] at hv'; cases hv'
noncomputable def sX (x : Nat) (f : FX) : FS := fun e => bI (decide (x < e.length)) (match f (e.set x none) [] with
 | some (.nx e' d) => some (.rt (.new (.bW (d.map fun kp => (kp.1, .lst kp.2)))) e')
 | _ => none)
theorem rS {Z : aQ} {H : Hp} : ∀ {t : Tr}, (∀ z ∈ t, ∃ xs, H z.2.1 = some (.lst xs) ∧ bQ K Z H z.2.2 xs ∧ ¬ Z z.2.1) → bQ K Z H (((ofT t).map fun kp => (kp.1, PV.lst kp.2)).map (·.2)) ((t.map fun z => (z.1, V.ref z.2.1)).map (·.2))
 | [], _ => .nil
 | z :: t, h => by
  obtain ⟨xs, h1, h2, h3⟩ := h z List.mem_cons_self
  exact .cons (.lst (.inl h1) h3 h2) (rS fun w hw => h w (List.mem_cons_of_mem _ hw))
theorem zM {ts : TS} {f : FX} (h : yP K x ts f) : kI K (KG (u5 zD (nJ x)) (KG ts (NX (wN x)))) (sX x f) := by
 intro O M W L σ H e r D o he hf q
 obtain ⟨hx, hf⟩ := aS hf
 have hx := of_decide_eq_true hx
 split at hf
 ·rename_i e' d c
  cases hf
  intro a ha
  have sm : bN H (upd H a (.dK [])) := bN.upd ha
  have na : ¬ O a ∧ ¬ L a := ⟨fun z => o.old a z ha, fun z => (o.loc a z).1 ha⟩
  have b0 : ∀ c, BX a [] c → c = a := fun c h => h.elim id fun h => nomatch h
  have n0 : C9 K O M W x a L (σ.set x (some (.ref a))) (upd H a (.dK [])) (e.set x none) [] := by
   refine ⟨o.keep (cO.same (W := W) (L := L) sm).cZ, fun c h => ?_, ?_, ?_, ?_⟩
   ·rw [b0 c h, bG]; exact ⟨(fun z => nomatch z), na⟩
   ·refine (he.grow (Z' := bD (bD M (BX a [])) L) (W' := wB W (BX a [])) (H' := upd H a (.dK [])) ⟨fun _ _ h => sm _ _ h, fun c ob h nz => ⟨sm _ _ h, fun z => ?_⟩⟩ rfl (fun c h hc => ⟨h, fun z => hc (by rw [b0 c z]; exact ha)⟩) (fun c ob _ h => sm _ _ h) fun c ob h _ _ _ => sm _ _ h).unset
    rcases z with (z | z) | z
    ·exact nz (.inl z)
    ·rw [b0 c z, ha] at h; cases h
    ·exact nz (.inr z)
   ·rw [List.getElem?_set_self (by rw [← he.len]; exact hx)]
   ·exact ⟨bG, (fun _ h => nomatch h), by simp, by simp⟩
  refine h O M W a L _ _ _ [] _ _ n0 c fun L' σ' H' t' g n ed => ⟨.ref a, n.at', q L' σ' H' (.ref a) ?_ n.ok ?_⟩
  ·refine ⟨fun c ob h nw nl => g.obj c ob (sm _ _ h) nw nl fun z => ?_, fun c ys h => g.tup c ys (sm _ _ h), fun c h => g.cZ c ((cO.same (W := W) (L := L) sm).cZ c h), fun c h => (g.new c h).elim .inl fun z => .inr (none_of (cO.same (W := W) (L := L) sm).cZ z)⟩
   rw [b0 c z, ha] at h; cases h
  ·subst ed
   have nb := fun c h => n.vU c h
   have na' := nb a (.inl rfl)
   have less : ∀ c, bD M (bD L' (one a)) c → bD (bD M (BX a t')) L' c := fun c z => by
    rcases z with z | z | z
    ·exact .inl (.inl z)
    ·exact .inr z
    ·exact .inl (.inr (.inl z))
   have k : eA (bD (bD M (BX a t')) L') (bD M (bD L' (one a))) H' H' := .less less
   refine ⟨a, rfl, na'.2.1, na'.2.2, ⟨n.en.len, fun i s hs => ?_, n.en.nE⟩, fun i s hs hm es => ?_, ?_⟩
   ·obtain ⟨v, h1, h2⟩ := n.en.at' i s hs
    refine ⟨v, h1, ?_⟩
    cases s with
    | val p => exact Rep.aP k h2
    | own p => obtain ⟨a, e, w, c⟩ := h2; exact ⟨a, e, w, c.aP k fun o q => q⟩
    | loc p => obtain ⟨a, e, w, c⟩ := h2; exact ⟨a, e, .inl w, c.aP k fun o q => q⟩
    | bor p =>
     obtain ⟨a', e, c⟩ := h2
     refine ⟨a', e, ?_⟩
     cases c with
     | lst e od n m r => exact .lst e od.1 n (fun z => z.elim m fun z => od.2 (.inl z)) (r.aP k)
     | fE e r => exact .fE e (r.aP k)
     | bW e od n m kk r => exact .bW e od.1 n (fun z => z.elim m fun z => od.2 (.inl z)) kk (r.aP k)
   ·obtain ⟨v, h1, h2⟩ := n.en.at' i s hs
    rw [h1] at es
    cases es
    cases s with
    | val p => cases hm
    | bor p => cases hm
    | own p => obtain ⟨a', e, w, c⟩ := h2; cases e; exact na'.2.1 (n.ok.mo _ (n.ok.wm i a w))
    | loc p => obtain ⟨a', e, w, c⟩ := h2; cases e; exact na'.2.2 w
   ·refine .bW n.sec.RK ?_ (rS fun z hz => ?_)
    ·unfold ofT
     rw [List.map_map, List.map_map, List.map_map]
     rfl
    ·obtain ⟨xs, h1, h2⟩ := n.sec.lst z hz
     have hb : BX a t' z.2.1 := .inr (List.mem_map.mpr ⟨z, hz, rfl⟩)
     have nz := nb _ hb
     refine ⟨xs, h1, h2.aP k, fun w => ?_⟩
     rcases w with w | w | w
     ·exact nz.2.1 (n.ok.mo _ w)
     ·exact nz.2.2 w
     ·exact (List.nodup_cons.mp n.sec.nd).1 (by rw [← show z.2.1 = a from w]; exact List.mem_map.mpr ⟨z, hz, rfl⟩)
 ·cases hf
end
end Mr
namespace Mr
open PySem L2
section
variable {K : PySem.W.Frag}
theorem LW {fi : RI} {fg : FG} {fb : FX} {e : En} {d : DD} {Q : uZ → Prop} : Wp (E4 fi fg fb e d) Q ↔ Wp (fi e) fun z => Wp (mI (fun x e d => bO (fg x e) fun e2 => fb e2 d) z.1 z.2 d) Q := by
 unfold E4
 rw [jO]
theorem R7 {x : Nat} {f : FX} {e : En} {Q : Out → Prop} : Wp (sX x f e) Q ↔ x < e.length ∧ Wp (f (e.set x none) []) fun o => match o with | .nx e' d => Q (.rt (.new (.bW (d.map fun kp => (kp.1, .lst kp.2)))) e') | .ct _ _ => False := by
 unfold sX
 rw [fD, decide_eq_true_eq]
 refine and_congr_right fun _ => ?_
 cases f (e.set x none) [] with
 | none => simp [qL]
 | some o =>
  rw [dD]
  cases o <;> simp [dD, qL]
theorem JH {e : En} {d : DD} : EI e d = some (.nx e d) := rfl
theorem R0 {fc : FT} {f g : FX} {e : En} {d : DD} : U9 fc f g e d = bE (fc e) fun b e1 => bB b (f e1 d) (g e1 d) := rfl
theorem R3 {f : FE} {e : En} : V4 f e = bE (f e) fun b e1 => match b with
 | .val (.tup ps) => some (ps, e1)
 | _ => none := rfl
theorem PR {fa : FA} {e : En} : OZ fa e = bE (fa e) fun bs e1 => match bs with
 | [.val (.tup ps)] => some (ps.zipIdx.map fun z => .tup [.int (z.2 : Int), z.1], e1)
 | _ => none := rfl
theorem P0 {fk fv : FE} {e : En} {d : DD} : OO fk fv e d = bE (fk e) fun kb e1 => bO (kb.weak.get e1) fun kp => bO (keyOf kp) fun k => bE (fv e1) fun b e2 => bO b.put fun p =>
 bI (decide (d.length < 1000000) && d.all fun kp => decide (kp.2.length < 1000000)) (some (.nx e2 (nS d k p))) := rfl
theorem xN {body : PV → En → DD → Option uZ} (I : Nat → En → DD → Prop) {Q : uZ → Prop} {xs : List PV} (hs : ∀ (i : Nat) x e d, xs[i]? = some x → I i e d → Wp (body x e d) fun o => match o with | .nx e1 d1 => I (i + 1) e1 d1 | .ct e1 d1 => I (i + 1) e1 d1)
  (hd : ∀ e d, I xs.length e d → Q (.nx e d)) {e : En} {d : DD} (h0 : I 0 e d) : Wp (mI body xs e d) Q := by
 have key : ∀ (ys : List PV) (i : Nat) (e : En) (d : DD), i ≤ xs.length → xs.drop i = ys → I i e d → Wp (mI body ys e d) Q := by
  intro ys
  induction ys with
  | nil =>
   intro i e d hil hy hi
   unfold mI
   rw [dD]
   have hl : xs.length ≤ i := by
    have := congrArg List.length hy
    rw [List.length_drop] at this
    simp at this
    omega
   have h : i = xs.length := by omega
   subst h
   exact hd e d hi
  | cons x ys ih =>
   intro i e d hil hy hi
   have hlt : i < xs.length := by
    have := congrArg List.length hy
    rw [List.length_drop, List.length_cons] at this
    omega
   rw [List.drop_eq_getElem_cons hlt] at hy
   have hx : xs[i]? = some x := by rw [List.getElem?_eq_getElem hlt, (List.cons.inj hy).1]
   obtain ⟨o, h1, h2⟩ := hs i x e d hx hi
   unfold mI
   rw [h1]
   cases o with
   | nx e1 d1 => exact ih (i + 1) e1 d1 hlt (List.cons.inj hy).2 h2
   | ct e1 d1 => exact ih (i + 1) e1 d1 hlt (List.cons.inj hy).2 h2
 exact key xs 0 e d (Nat.zero_le _) rfl h0
end
end Mr
namespace L2
open PySem
section
variable {prog : Program} {w : World} {A : Around} {R : Result → Shared → Prop} {s : Shared}
theorem C1 {kx vx target iter : Expr} {ifs : List Expr} {scope : Scope} {pos : Pos} {it : Value} {D : Addr} {env : Env} (I : Nat → Shared → Prop)
  (turn : ∀ n s, I n s → wpAny (model prog w) A (pyNext it) (fun r s₁ => match r with
   | none => R (.ok .next) s₁
   | some v => wpAny (model prog w) A (letOwnedTupleGo target it v) (fun _ s₁' => wpAny (model prog w) A (assign target env v) (fun _ s₂ =>
     wpAny (model prog w) A (forIn ifs true fun c r => if r = true then do let ok ← isTrue c env (eval c env); pure (ForInStep.yield ok) else pure (ForInStep.yield r)) (fun ok s₃ =>
      if ok = true then wpAny (model prog w) A (eval kx env) (fun kv s₄ => wpAny (model prog w) A (eval vx env) (fun vv s₅ =>
       wpAny (model prog w) A (dictSet D kv vv) (fun _ s₆ => ∃ m, m < n ∧ I m s₆) (fun _ _ => False) s₅) (fun _ _ => False) s₄) (fun _ _ => False) s₃
      else ∃ m, m < n ∧ I m s₃) (fun _ _ => False) s₂) (fun _ _ => False) s₁') (fun _ _ => False) s₁) (fun _ _ => False) s)
  (n : Nat) (h : I n s) :
  codeAny (model prog w) A (.compLoop (.DictComp kx vx [⟨target, iter, ifs, 0⟩] scope pos) 0 it (.ref D) env) R s := by
 refine codeAny_loop rfl I (fun n s hI => ?_) n h
 show wpAny _ A ((compTurn (.DictComp kx vx [⟨target, iter, ifs, 0⟩] scope pos) 0 it (.ref D) env).onRaise (fun x => do noteFrame x env; theTreesLotGoes x)) _ _ s
 refine wpAny_noted ?_
 refine wpAny_mono (E := fun _ _ => False) ?_ (fun _ _ q => q) (fun _ _ z => z.elim)
 rw [compTurn_dict]
 refine wpAny_bind (wpAny_standAt (wpAny_bind (wpAny_mono (turn n s hI) (fun r s₁ h₁ => ?_) fun _ _ h' => h')))
 cases r with
 | none => exact wpAny_pure h₁
 | some v =>
  refine wpAny_bind (wpAny_mono h₁ (fun _ s₁' h₁' => ?_) fun _ _ h' => h')
  refine wpAny_bind (wpAny_mono h₁' (fun _ s₂ h₂ => wpAny_bind (wpAny_mono h₂ (fun ok s₃ h₃ => ?_) fun _ _ h' => h')) fun _ _ h' => h')
  cases ok with
  | false => exact wpAny_pure ⟨rfl, h₃⟩
  | true =>
   exact wpAny_bind (wpAny_bind (wpAny_mono h₃ (fun kv s₄ h₄ => wpAny_bind (wpAny_holding (wpAny_mono h₄ (fun vv s₅ h₅ => wpAny_bind (wpAny_standAt (wpAny_holding (wpAny_mono h₅ (fun _ s₆ h₆ => wpAny_pure ⟨rfl, h₆⟩) fun _ _ h' => h')))) fun _ _ h' => h'))) fun _ _ h' => h'))
end
noncomputable def T7 (J : It) (g : TG) (tt : TT) (tk te : TE) (l : Addr) (σ0 : St) (H0 : Hp) (Q : VK) : Prop :=
 ∃ W : Nat → Nat → St → Hp → Prop, (∃ m, W 0 m σ0 H0) ∧
   ∀ i m σ' H2, W i m σ' H2 → (J.stop i H2 ∧ Q (.ref l) H2) ∨ (J.go i H2 ∧ ∃ N : St → Hp → Prop, (∀ σ3 H3, N σ3 H3 → ∃ m', m' < m ∧ W (i + 1) m' σ3 H3) ∧
    ∀ x H3, J.RE i H2 x H3 → g x σ' H3 fun σ4 H4 => tt σ4 H4 fun b H5 => if b = true then tk σ4 H5 fun kv H6 => te σ4 H6 fun y H7 => ∃ kvs key, H7 l = some (.dK kvs) ∧ kv = kV key ∧ kvs.length < sizeLine ∧ N σ4 (upd H7 l (.dK (putK kvs key y))) else N σ4 H5)
noncomputable def vS (wi : TI) (k : Nat) (cV : List Nat) (g : TG) (tt : TT) (tk te : TE) : TE := fun σ H Q => wi σ H fun J H1 => ∀ l, H1 l = none → T7 J g tt tk te l (fV k cV σ) (upd H1 l (.dK [])) Q
section
variable {X : Cx} {kx vx tg iter : Expr} {ifs : List Expr} {scope : Scope} {pos : Pos} {wi : TI} {g : TG} {tt : TT} {tk te : TE} {N : List Str} {k : Nat} {cV : List Nat}
theorem JB {pins : List (Addr × Obj)} {σ : St} {H2 : Hp} {s2 : Shared} {cl : List (Str × Addr)} {C : Addr} {fp : List Addr} {h1 : Heap} {tk : Nat} {m0 : Str → Option Value} (S : g8 X scope N k cV) (I2 : Inv X pins σ H2 s2)
  (hcl1 : ∀ y c, cl.lookup y = some c → X.env.cells.lookup y = some c) (hcl2 : ∀ y, (y, NameKind.free) ∈ scope.names → (cl.lookup y).isSome = true) (hC : C = s2.heap.objs.size + 1)
  (hf : ∀ b ∈ fp, oQ X pins H2 b) (ho : ∀ b ∈ fp, b < s2.heap.objs.size) (hk : ∀ b o, s2.heap.get? b = some o → h1.get? b = some o) (hD : h1.get? s2.heap.objs.size = some { cls := .type "dict", data := .dict #[] }) (hns : h1.Ns C m0) :
  Inv (bP X scope N ⟨cl, C, s2, H2, fp⟩) [] (fV k cV σ) (upd H2 s2.heap.objs.size (.dK [])) { s2 with heap := h1, toks := tk } := by
 have fr : H2 s2.heap.objs.size = none := I2.cI.fresh (Nat.le_refl _)
 have hCf : H2 C = none := I2.cI.fresh (hC ▸ Nat.le_succ _)
 refine ⟨sM S I2 hcl1 hcl2 (hC ▸ Nat.le_succ _) hf ho, rfl, I2.bare, Un.laid hk (Nat.le_refl _) fr, ⟨m0, hns, fun i y v e1 e2 e3 => ?_⟩, fun x c e => ?_, ?_, fun x c e => ?_, fun p hp => absurd (show p ∈ ([] : List (Addr × Obj)) from hp) (by simp), I2.cI.laid hk (Nat.le_refl _) ?_, ?_⟩
 ·obtain ⟨q, j, rfl, hj, hv⟩ := uN e2
  obtain ⟨z, hz1, hz2, hz3⟩ := S.cV q j hj
  have e1' : N[k + q]? = some y := e1
  rw [hz1] at e1'
  cases e1'
  obtain ⟨m, hn, hl⟩ := I2.loc
  have hfr := S.free (y, .free) (PySem.mem_of_lookup hz3) rfl
  obtain ⟨u, r, l⟩ := hl j y v hz2 hv (by rcases hfr with z | z; exact .inr (.inl z); exact .inr (.inr z))
  refine ⟨u, r, .inr ⟨fQ (env := X.env) hz3, ?_⟩⟩
  obtain ⟨c, hc⟩ := Option.isSome_iff_exists.mp (hcl2 y (PySem.mem_of_lookup hz3))
  rcases l with ⟨hk', _⟩ | ⟨_, c', hc', hcell⟩
  ·rcases hfr with z | z <;> (rw [hk'] at z; cases z)
  ·have e := hcl1 y c hc
   rw [hc'] at e
   cases e
   obtain ⟨o, ho', hd⟩ := hcell
   exact ⟨_, hc, o, hk _ _ ho', hd⟩
 ·obtain ⟨v, o, ho', hd⟩ := I2.cell x c (hcl1 x c e)
  exact ⟨v, o, hk _ _ ho', hd⟩
 ·show upd H2 s2.heap.objs.size (.dK []) C = none
  rw [aX (Nat.ne_of_gt (hC ▸ Nat.lt_succ_self _))]
  exact hCf
 ·have e' := hcl1 x c e
  obtain ⟨v, q⟩ := I2.cell x c e'
  rw [aX (Nat.ne_of_lt q.lt)]
  exact I2.kX x c e'
 ·exact ⟨Nat.zero_le _, beq_eq_false_iff_ne.mpr (Ne.symm (Nat.ne_of_lt I2.big)), [], .nil, ⟨_, #[], 0, hD, ⟨rfl, rfl, rfl⟩, rfl, (fun _ h => absurd h (by simp)), .nil, List.nodup_nil⟩⟩
 ·show (fV k cV σ).length = N.length
  unfold fV
  rw [List.length_append, List.length_replicate, List.length_map, S.len]
theorem EG (hc : X.calm = true) (S : g8 X scope N k cV) (hi : PI X tg iter wi) (hg : ∀ c, PG (bP X scope N c) tg g) (ht : ∀ c, M7 (bP X scope N c) ifs tt) (hk : ∀ c, PE (bP X scope N c) kx tk) (he : ∀ c, PE (bP X scope N c) vx te)
  (hs : ∀ x, foldedSetIterable iter X.env x = pure x := by intro _; rfl) : PE X (.DictComp kx vx [⟨tg, iter, ifs, 0⟩] scope pos) (vS wi k cV g tt tk te) := by
 intro pins s σ H Q I h
 rw [arm_eval_DictComp]
 obtain ⟨cl, hclos, hcl1, hcl2⟩ := jH (scope := scope) (env := X.env) (fun p hp hf => I.ok.has p.1 (S.free p hp hf))
 refine wpAny_comprehension_free (use := none) rfl hs hclos S.kind S.names (d8 (hi pins s σ H _ I h) fun v s1 h1 => d8 h1 fun itv s2 h2 => ?_)
 obtain ⟨it, fp, tn, J, H2, e, I2, T, st2, f2, q2⟩ := h2
 subst e
 obtain ⟨W, ⟨m0, w0⟩, turn⟩ := q2 s2.heap.objs.size (I2.cI.fresh (Nat.le_refl _))
 have hob : ∀ b ∈ fp, b < s2.heap.objs.size := fun b hb => let ⟨o, e, _⟩ := T.obj _ _ st2 b hb; Heap.lt_size e
 refine wpAny_newObj_type (wpAny_newFunctionEnv S.cell (by intro y hy; simp at hy) (fun h₁ hns₁ hsb₁ => ?_) S.kind)
 dsimp only at hns₁ hsb₁ ⊢
 generalize hHH : s2.heap.push { cls := .type "dict", dict := none, data := .dict #[] } = HH at hns₁ hsb₁ ⊢
 have hCC : HH.objs.size = s2.heap.objs.size + 1 := by rw [← hHH, Heap.size_push]
 have old : ∀ b o, s2.heap.get? b = some o → h₁.get? b = some o := fun b o e => hsb₁.extBut b o (Nat.ne_of_lt (hCC ▸ Nat.lt_succ_of_lt (Heap.lt_size e))) (Heap.get?_push_of_some _ (hHH ▸ Heap.get?_push_of_some _ e))
 have hD : h₁.get? s2.heap.objs.size = some { cls := .type "dict", data := .dict #[] } := hsb₁.extBut _ _ (Nat.ne_of_lt (hCC ▸ Nat.lt_succ_self _)) (Heap.get?_push_of_some _ (hHH ▸ Heap.get?_push_size _ rfl))
 have I4 := fun tk => JB (tk := tk) S I2 hcl1 hcl2 hCC f2 hob old hD hns₁
 have X' := bP X scope N ⟨cl, HH.objs.size, s2, H2, fp⟩
 have stat : ∀ {H' : Hp}, (∀ b ∈ fp, H' b = none) → ∀ b ∈ fp, oQ (bP X scope N ⟨cl, HH.objs.size, s2, H2, fp⟩) [] H' b := fun hn b hb =>
  ⟨hn b hb, Nat.ne_of_lt (hCC ▸ Nat.lt_succ_of_lt (hob b hb)), (sM S I2 hcl1 hcl2 (hCC ▸ Nat.le_succ _) f2 hob).y3 b hb, .inl hb, fun x c e => (f2 b hb).2.2.2.2.1 x c (hcl1 x c e), fun p hp => absurd (show p ∈ ([] : List (Addr × Obj)) from hp) (by simp)⟩
 have loop : ∀ s₃ : Shared, s₃ = { s2 with heap := h₁, toks := s2.toks + ([] : List (Str × Value)).length } →
   codeAny (model X.prog X.w) X.A (.compLoop (.DictComp kx vx [⟨tg, iter, ifs, 0⟩] scope pos) 0 (.ref it) (.ref s2.heap.objs.size) (compEnvC scope cl HH.objs.size X.env))
    (compPost (model X.prog X.w) X.A X.xe none (EP X pins σ Q) (.ref s2.heap.objs.size) HH.objs.size) s₃ := by
  rintro s₃ rfl
  refine C1 (fun n s' => ∃ i σ' H', Inv (bP X scope N ⟨cl, HH.objs.size, s2, H2, fp⟩) [] σ' H' s' ∧ tn i s'.heap ∧ (∀ b ∈ fp, H' b = none) ∧ W i n σ' H') ?_ m0
   ⟨0, fV k cV σ, _, I4 _, T.keep _ _ _ st2 fun b _ o e => old b o e, fun b hb => by rw [aX (Nat.ne_of_lt (hob b hb))]; exact (f2 b hb).1, w0⟩
  rintro n s3 ⟨i, σ3, H3, I3, st3, fr3, w3⟩
  rcases turn i n σ3 H3 w3 with ⟨stop, qn⟩ | ⟨go, NN, hN, step⟩
  ·refine d8 (T.done (bP X scope N ⟨cl, HH.objs.size, s2, H2, fp⟩) rfl rfl rfl hc i [] s3 σ3 H3 _ I3 (stat fr3) st3 stop) fun r s4 ⟨hr, J4⟩ => ?_
   subst hr
   obtain ⟨m, hn, _⟩ := J4.loc
   refine ⟨m, hn, fun h' hs' => ?_⟩
   have keepC : ∀ b o, b ≠ HH.objs.size → s4.heap.get? b = some o → h'.get? b = some o := fun b o hb e => hs'.extBut b o hb e
   have iY : ∀ b o, s2.heap.get? b = some o → b ≠ HH.objs.size := fun b o e => Nat.ne_of_lt (hCC ▸ Nat.lt_succ_of_lt (Heap.lt_size e))
   have u := J4.base
   have u' : Un (C3 X.stack) fp H2 H3 s2.heap h' := ⟨fun b o q n hb hx => keepC b o (iY b o q) (u.keep b o q n hb hx), fun b o q n hb hx => by
     obtain ⟨sl, e⟩ := u.slot b o q n hb hx
     exact ⟨sl, keepC b _ (iY b o q) e⟩, u.free, fun b o q hx => by
     obtain ⟨o', e⟩ := u.there b o q hx
     exact ⟨o', keepC b _ (iY b o q) e⟩, u.tE, u.qP, u.sV⟩
   refine ⟨.ref s2.heap.objs.size, H3, I2.JC (ch := fp) J4.os u' (J4.cI.but J4.free keepC) J4.bare fun b hb => ?_, rfl, qn⟩
   obtain ⟨_, f1, _, f3, f4, f5⟩ := f2 b hb
   exact ⟨f3, f1, f4, f5⟩
  ·refine d8 (T.item (bP X scope N ⟨cl, HH.objs.size, s2, H2, fp⟩) rfl rfl rfl hc i [] s3 σ3 H3 _ I3 (stat fr3) st3 go) fun r s4 ⟨u, hr, h4⟩ => ?_
   subst hr
   refine d8 h4 fun _ s5 ⟨x, H5, I5, r5, y5, st5, fr5⟩ => ?_
   have I5' := I5.pinned (stat fr5) (T.obj _ _ st5)
   have again : ∀ {s7 : Shared} {σ7 : St} {H7 : Hp}, Inv (bP X scope N ⟨cl, HH.objs.size, s2, H2, fp⟩) ([] ++ m7 fp s5.heap) σ7 H7 s7 → NN σ7 H7 →
     ∃ m, m < n ∧ ∃ i σ' H', Inv (bP X scope N ⟨cl, HH.objs.size, s2, H2, fp⟩) [] σ' H' s7 ∧ tn i s7.heap ∧ (∀ b ∈ fp, H' b = none) ∧ W i m σ' H' := fun {s7 σ7 H7} I7 n7 => by
    obtain ⟨m', hm, w7⟩ := hN σ7 H7 n7
    refine ⟨m', hm, i + 1, σ7, H7, I7.jP, T.keep _ _ _ st5 fun b hb o e => (I7.pin (b, o) (List.mem_append_right _ (List.mem_append_right _ (fA hb e)))).1, fun b hb => ?_, w7⟩
    obtain ⟨o, e, d⟩ := T.obj _ _ st5 b hb
    exact (I7.pin (b, o) (List.mem_append_right _ (List.mem_append_right _ (fA hb e)))).2.1
   refine d8 (hg _ _ s5 σ3 H5 x u _ I5' r5 (step x H5 y5)) fun _ s6 ⟨σ6, H6, I6, q6⟩ => ?_
   refine d8 (ht _ _ s6 σ6 H6 _ I6 q6) fun b s7 ⟨H7, I7, q7⟩ => ?_
   cases b with
   | false => exact again I7 q7
   | true =>
    refine d8 (hk _ _ s7 σ6 H7 _ I7 q7) fun kv s8 ⟨kx', H8, I8, r8, q8⟩ => ?_
    refine d8 (he _ _ s8 σ6 H8 _ I8 q8) fun y s9 ⟨yv, H9, I9, r9, kvs, key, hl, ek, hz, n9⟩ => ?_
    subst ek
    obtain ⟨z, hd, vs, rel, dd⟩ := EL I9.cI hl
    have hz' : vs.length ≤ sizeLine := by rw [← rel.length]; exact z
    have hl' : (putK kvs key yv).length ≤ sizeLine := by have := i9 kvs key yv; omega
    refine wpAny_dictSet_pairs (hsz := hz') (pP r8) dd fun h' dd' hs' => ?_
    have hx' : ∃ q, h'.get? s2.heap.objs.size = some q := let ⟨q, _, _, hq, _⟩ := dd'; ⟨q, hq⟩
    exact again (qD I9 (by rw [hl]; exact True.intro) hs' hx' (zE hl' hd (rel.put key r9) dd')) n9
 exact codeAny_compStart_dict (loop _ rfl) (T.self X.A 0 _ _ _ (T.keep _ _ _ st2 fun b _ o e => old b o e) (loop _ rfl))
theorem FY (N : List Str) (k : Nat) (cV : List Nat) (XN : List Str) (xs : Scope) (hc : X.calm = true) (hN : X.N = XN) (hx : X.env.scope = xs) (hi : PI X tg iter wi) (chk : oA XN xs scope N k cV = true)
  (hg : ∀ c, PG (bP X scope N c) tg g) (ht : ∀ c, M7 (bP X scope N c) ifs tt) (hk : ∀ c, PE (bP X scope N c) kx tk) (he : ∀ c, PE (bP X scope N c) vx te)
  (hs : ∀ x, foldedSetIterable iter X.env x = pure x := by intro _; rfl) : PE X (.DictComp kx vx [⟨tg, iter, ifs, 0⟩] scope pos) (vS wi k cV g tt tk te) := EG hc (j0 hN hx chk) hi hg ht hk he hs
end
end L2
namespace Mr
open PySem L2
noncomputable def jX (fg : FG) (ft : FT) (fk fe : FE) : List PV → En → List (Key × PV) → Option (List (Key × PV) × En)
 | [], e, d => some (d, e)
 | x :: xs, e, d => bO (fg x e) fun e1 => bE (ft e1) fun b e2 => match b with
  | false => jX fg ft fk fe xs e2 d
  | true => bE (fk e2) fun kb e3 => bE (fe e3) fun r e4 => bO (kb.weak.get e4) fun kp => bO (keyOf kp) fun k => bO r.put fun p => jX fg ft fk fe xs e4 (i3 d k p)
noncomputable def mU (fi : FI) (k : Nat) (cV : List Nat) (ms : List (Nat × Nat)) (fg : FG) (ft : FT) (fk fe : FE) : FE := fun e =>
 bE (fi (fun i => !(ms.any fun z => z.1 == i)) e) fun items e1 => bI (decide (items.length < 1000000)) (bE (jX fg ft fk fe items (nF k cV ms e1) []) fun ys ei => bO (mC ei ms e1) fun e2 => some (.new (.bW ys), e2))
section
variable {K : PySem.W.Frag}
theorem C0 {wi : TI} {g : TG} {tt : TT} {tk te : TE} {fi : FI} {k : Nat} {cV : List Nat} (ms : List (Nat × Nat)) {fg : FG} {ft : FT} {fk fe : FE} (hms : ∀ i j1 j2, (i, j1) ∈ ms → (i, j2) ∈ ms → j1 = j2) (hms2 : ∀ i1 i2 j, (i1, j) ∈ ms → (i2, j) ∈ ms → i1 = i2) (hi : vV K wi fi) (hg : tF K g fg) (ht : j5 K tt ft) (hk : Ref K tk fk) (he : Ref K te fe) : Ref K (vS wi k cV g tt tk te) (mU fi k cV ms fg ft fk fe) := by
 intro O M W L σ H e e' b Q o hen hf q
 obtain ⟨items, e1, f1, hf⟩ := aT hf
 obtain ⟨hsz, hf⟩ := aS hf
 obtain ⟨ys, ei, f2, hf⟩ := aT hf
 obtain ⟨e2, f3, hf⟩ := aL hf
 cases hf
 have hsz := of_decide_eq_true hsz
 refine hi (fun i => !(ms.any fun z => z.1 == i)) O M W L σ H e e1 items _ o hen f1 fun J H1 k1 en it => ?_
 have o1 := o.keep k1.cZ
 let W' : WS := ⟨fun j a => ∃ i s, (i, j) ∈ ms ∧ e1[i]? = some (some s) ∧ s.dR = true ∧ σ[i]? = some (some (.ref a)), fun a => H1 a ≠ none⟩
 have whose : ∀ (i : Nat) s a, e1[i]? = some (some s) → s.dR = true → σ[i]? = some (some (.ref a)) → (aw W a ∨ L a) ∧ ∃ ob, H1 a = some ob ∧ ∀ xs, ob ≠ .tup xs := fun i s a hs hm ha => by
  obtain ⟨v, h1, h2⟩ := en.at' i s hs
  rw [ha] at h1
  cases h1
  cases s with
  | val p => cases hm
  | bor p => cases hm
  | own p => obtain ⟨b, e, w, c⟩ := h2; cases e; exact ⟨.inl ⟨i, w⟩, c.there⟩
  | loc p => obtain ⟨b, e, w, c⟩ := h2; cases e; exact ⟨.inr w, c.there⟩
 have wsub : ∀ a, aw W' a → (aw W a ∨ L a) ∧ ∃ ob, H1 a = some ob ∧ ∀ xs, ob ≠ .tup xs := fun a ⟨j, i, s, hm, hs, hmine, ha⟩ => whose i s a hs hmine ha
 have it := it (aw W') (fun a z => (wsub a z).1) fun i a s hst hs hm ha ⟨j, i', s', hm', hs', hmine', ha'⟩ => by
  have ne : i' ≠ i := fun z => by
   subst z
   have : (ms.any fun z => z.1 == i') = true := List.any_eq_true.mpr ⟨(i', j), hm', by simp⟩
   rw [this] at hst
   cases hst
  exact en.nE i' i s' s ne hs' hs hmine' hm (by rw [ha', ha])
 intro l hl
 have zl : ∀ a ob, H1 a = some ob → a ≠ l := fun a ob h => cQ h hl
 let M' : aQ := bD M (bD L (one l))
 let O' : aQ := fun a => H1 a ≠ none ∨ a = l
 have s0 : bN H1 (upd H1 l (.dK [])) := bN.upd hl
 have ML : ∀ a, (aw W a ∨ L a) → bD M L a := fun a z => z.elim (fun ⟨i, w⟩ => .inl (o.wm i a w)) .inr
 have k0 : eA (bD M L) (bD M' d6) H1 (upd H1 l (.dK [])) := ⟨fun a xs h => s0 _ _ h, fun a ob h n => ⟨s0 _ _ h, fun z => by
  rcases z with (z | z | z) | z
  ·exact n (.inl z)
  ·exact n (.inr z)
  ·exact zl a ob h z
  ·exact z⟩⟩
 have okc0 : ∀ H2, (∀ a, H1 a ≠ none ∨ a = l → H2 a ≠ none) → j7 O' M' W' d6 H2 := fun H2 d => ⟨d, fun a z => by
   rcases z with z | z | z
   ·exact .inl (o1.old a (o1.mo a z))
   ·exact .inl (o1.loc a z).1
   ·exact .inr z, fun j a z => by
   rcases ML a (wsub a ⟨j, z⟩).1 with z | z
   ·exact .inl z
   ·exact .inr (.inl z), fun a z => z.elim⟩
 have lenS : (nF k cV ms e1).length = (fV k cV σ).length := by
  unfold nF fV
  rw [List.length_append, List.length_append, sP, List.length_map, List.length_replicate, List.length_replicate]
 have en0 : aV K (bD M' d6) W' d6 (upd H1 l (.dK [])) (fV k cV σ) (nF k cV ms e1) := by
  have lend : ∀ (i : Nat) s p a, e1[i]? = some (some s) → (s = .own p ∨ s = .loc p) → σ[i]? = some (some (.ref a)) → iI K (bD M L) H1 a p → ¬ (∃ j, (i, j) ∈ ms) → p7 K (bD M' d6) W' d6 (upd H1 l (.dK [])) a p := fun i s p a hs hp ha c nm => by
   have hm : s.dR = true := by rcases hp with rfl | rfl <;> rfl
   have nw : ¬ aw W' a := fun ⟨j, i', s', hm', hs', hmine', ha'⟩ => by
    have ne : i' ≠ i := fun z => nm ⟨j, z ▸ hm'⟩
    exact en.nE i' i s' s ne hs' hs hmine' hm (by rw [ha', ha])
   have c' := c.aP k0 fun ob h => s0 _ _ h
   cases c' with
   | lst h r => exact .lst (.inl h) (by obtain ⟨ob, h1, _⟩ := c.there; show H1 a ≠ none; rw [h1]; exact fun z => nomatch z) nw (fun z => z) r
   | bW h kk r => exact .bW (.inl h) (by obtain ⟨ob, h1, _⟩ := c.there; show H1 a ≠ none; rw [h1]; exact fun z => nomatch z) nw (fun z => z) kk r
  have bors : ∀ p a, p7 K (bD M L) W L H1 a p → p7 K (bD M' d6) W' d6 (upd H1 l (.dK [])) a p := fun p a c => by
   cases c with
   | lst h od n m r => exact .lst (h.elim (fun h => .inl (s0 _ _ h)) fun ⟨u, h⟩ => .inr ⟨u, s0 _ _ h⟩) (fun z => Rd.ne h z rfl) (fun z => (wsub a z).1.elim n m) (fun z => z) (r.aP k0)
   | fE h r => exact .fE h (r.aP k0)
   | bW h od n m kk r => exact .bW (h.elim (fun h => .inl (s0 _ _ h)) fun ⟨u, h⟩ => .inr ⟨u, s0 _ _ h⟩) (fun z => Rd.ne h z rfl) (fun z => (wsub a z).1.elim n m) (fun z => z) kk (r.aP k0)
  have row : ∀ (i j : Nat) s, vG e1 ms i j = some s → ∃ v, σ[i]? = some (some v) ∧ i6 K (bD M' d6) W' d6 (upd H1 l (.dK [])) j v s ∧ (s.dR = true → (i, j) ∈ ms ∧ ∃ s', e1[i]? = some (some s') ∧ s'.dR = true) := fun i j s h => by
   unfold vG at h
   have nc : ∀ {p : PV}, ms.contains (i, j) = true → (i, j) ∈ ms := fun z => List.contains_iff_mem.mp z
   cases c : e1[i]? with
   | none => rw [c] at h; cases h
   | some s' =>
    cases s' with
    | none => rw [c] at h; cases h
    | some s' =>
     rw [c] at h
     obtain ⟨v, h1, h2⟩ := en.at' i s' c
     refine ⟨v, h1, ?_⟩
     cases s' with
     | val p => cases h; exact ⟨Rep.aP k0 h2, fun z => nomatch z⟩
     | bor p => cases h; obtain ⟨a, e, c⟩ := h2; exact ⟨⟨a, e, bors p a c⟩, fun z => nomatch z⟩
     | own p =>
      obtain ⟨a, e, w, ct⟩ := h2
      subst e
      dsimp only at h
      cases d : ms.contains (i, j) with
      | true =>
       rw [d, if_pos rfl] at h
       cases h
       have hm := List.contains_iff_mem.mp d
       exact ⟨⟨a, rfl, ⟨i, _, hm, c, rfl, h1⟩, ct.aP k0 fun ob h => s0 _ _ h⟩, fun _ => ⟨hm, _, rfl, rfl⟩⟩
      | false =>
       rw [d, if_neg Bool.false_ne_true] at h
       cases d2 : ms.any (fun z => z.1 == i) with
       | true => rw [d2, if_pos rfl] at h; cases h
       | false =>
        rw [d2, if_neg Bool.false_ne_true] at h
        cases h
        refine ⟨⟨a, rfl, lend i _ p a c (.inl rfl) h1 ct fun ⟨j', hm'⟩ => ?_⟩, fun z => nomatch z⟩
        have : (ms.any fun z => z.1 == i) = true := List.any_eq_true.mpr ⟨(i, j'), hm', by simp⟩
        rw [d2] at this
        cases this
     | loc p =>
      obtain ⟨a, e, w, ct⟩ := h2
      subst e
      dsimp only at h
      cases d : ms.contains (i, j) with
      | true =>
       rw [d, if_pos rfl] at h
       cases h
       have hm := List.contains_iff_mem.mp d
       exact ⟨⟨a, rfl, ⟨i, _, hm, c, rfl, h1⟩, ct.aP k0 fun ob h => s0 _ _ h⟩, fun _ => ⟨hm, _, rfl, rfl⟩⟩
      | false =>
       rw [d, if_neg Bool.false_ne_true] at h
       cases d2 : ms.any (fun z => z.1 == i) with
       | true => rw [d2, if_pos rfl] at h; cases h
       | false =>
        rw [d2, if_neg Bool.false_ne_true] at h
        cases h
        refine ⟨⟨a, rfl, lend i _ p a c (.inr rfl) h1 ct fun ⟨j', hm'⟩ => ?_⟩, fun z => nomatch z⟩
        have : (ms.any fun z => z.1 == i) = true := List.any_eq_true.mpr ⟨(i, j'), hm', by simp⟩
        rw [d2] at this
        cases this
  refine ⟨lenS, fun j s hj => ?_, fun j1 j2 s t hn h1 h2 m1 m2 => ?_⟩
  ·obtain ⟨q, i, rfl, hc, hs⟩ := jU hj
   obtain ⟨v, h1, h2, _⟩ := row i _ s hs
   exact ⟨v, jK hc h1, h2⟩
  ·obtain ⟨q1, i1, rfl, c1, hs1⟩ := jU h1
   obtain ⟨q2, i2, rfl, c2, hs2⟩ := jU h2
   obtain ⟨v1, a1, _, b1⟩ := row i1 _ s hs1
   obtain ⟨v2, a2, _, b2⟩ := row i2 _ t hs2
   obtain ⟨w1, s1, d1, n1⟩ := b1 m1
   obtain ⟨w2, s2, d2, n2⟩ := b2 m2
   rw [jK c1 a1, jK c2 a2]
   have ne : i1 ≠ i2 := fun z => by subst z; exact hn (hms _ _ _ w1 w2)
   have := en.nE i1 i2 s1 s2 ne d1 d2 n1 n2
   rw [a1, a2] at this
   exact this
 have dl : ∀ a xs, H1 a = some (.tup xs) → a ≠ l := fun a xs h => zl a _ h
 let N : Nat → St → Hp → Prop := fun i σ' H' => ∃ ei' acc vs, cO W' (one l) (upd H1 l (.dK [])) H' ∧ H' l = some (.dK vs) ∧ gH K (bD M' d6) H' acc vs ∧ aV K (bD M' d6) W' d6 H' σ' ei' ∧ acc.length ≤ i ∧
  jX fg ft fk fe (items.drop i) ei' acc = some (ys, ei)
 have k0' : ∀ H', cO W' (one l) (upd H1 l (.dK [])) H' → ∀ a, H1 a ≠ none ∨ a = l → H' a ≠ none := fun H' kk a z => kk.cZ a (by
  rcases z with z | z
  ·cases e : H1 a with
   | none => exact absurd e z
   | some u => rw [s0 _ _ e]; exact fun z => nomatch z
  ·rw [z, bG]; exact fun z => nomatch z)
 refine ⟨fun i m σ' H' => m = items.length - i ∧ i ≤ items.length ∧ N i σ' H', ⟨items.length, by simp, Nat.zero_le _, nF k cV ms e1, [], [], .refl, bG, ⟨rfl, .nil⟩, en0, Nat.le_refl _, by rw [List.drop_zero]; exact f2⟩, ?_⟩
 rintro i m σ2 H2 ⟨rfl, hil, ei2, acc, vs, kk, hl2, ra, en2, hacc, f4⟩
 have oki := okc0 H2 (k0' H2 kk)
 obtain ⟨itm, its⟩ := it (bD L (one l)) H2 (fun a ob h n => kk.obj a ob (s0 _ _ h) n (zl a ob h)) (fun a xs h => kk.tup a xs (s0 _ _ h)) (fun a z => z.elim .inl fun z => .inr (by rw [show a = l from z]; exact hl))
 by_cases hlt : i < items.length
 ·refine .inr ?_
  obtain ⟨go, yl⟩ := itm i items[i] (by simp [hlt])
  refine ⟨go, N (i + 1), fun σ' H' n => ⟨items.length - (i + 1), by omega, rfl, hlt, n⟩, fun x H3 y => ?_⟩
  obtain ⟨s3, rp⟩ := yl x H3 y
  rw [List.drop_eq_getElem_cons hlt] at f4
  obtain ⟨e4, c1, f4⟩ := aL f4
  have oki3 := oki.keep (H' := H3) (cO.same (W := W') (L := d6) s3).cZ
  have rp' : Rep K (bD M' d6) H3 items[i] x := rp.aP (.less fun a z => z.elim id fun z => z.elim)
  refine hg O' M' W' d6 σ2 H3 ei2 e4 _ x _ oki3 (en2.same s3) rp' c1 fun σ3 en3 => ?_
  obtain ⟨b, e5, c2, f4⟩ := aT f4
  refine ht O' M' W' d6 σ3 H3 e4 e5 b _ oki3 en3 c2 fun H4 k4 en4 => ?_
  have oki4 := oki3.keep k4.cZ
  have nlw : ¬ aw W' l := fun z => by obtain ⟨_, ob, h, _⟩ := wsub l z; rw [hl] at h; cases h
  have kL : ∀ {A B : Hp}, cO W' d6 A B → cO W' (one l) A B := fun k => ⟨fun a ob h n m => k.obj a ob h n fun z => z, k.tup, k.cZ⟩
  have st : ∀ {A B : Hp}, cO W' d6 A B → j7 O' M' W' d6 A → eA (bD M' d6) (bD M' d6) A B := fun k ok => k.aP ok
  have k34 : cO W' d6 H2 H4 := (cO.same s3).trans k4
  cases b with
  | false =>
   rw [if_neg Bool.false_ne_true]
   exact ⟨e5, acc, vs, kk.trans (kL k34), k34.obj l _ hl2 nlw (fun z => z), ⟨ra.1, ra.2.aP (st k34 oki)⟩, en4, Nat.le_succ_of_le hacc, f4⟩
  | true =>
   rw [if_pos rfl]
   obtain ⟨kb, e6, ck, f4⟩ := aT f4
   obtain ⟨rv, e7, c3, f4⟩ := aT f4
   obtain ⟨kp, cg, f4⟩ := aL f4
   obtain ⟨key, cy, f4⟩ := aL f4
   obtain ⟨p, c4, f4⟩ := aL f4
   refine hk O' M' W' d6 σ3 H4 e5 e6 kb _ oki4 en4 ck fun kv H4' k4' rk frk => ?_
   have oki4' := oki4.keep k4'.cZ
   refine he O' M' W' d6 σ3 H4' e6 e7 rv _ oki4' (rk.en oki4') c3 fun v H5 k5 rb fr => ?_
   have oki5 := oki4'.keep k5.cZ
   obtain ⟨en5, rp5⟩ := rb.put oki5 c4
   have ek : kv = kV key := (((rk.rv oki4').keep oki4' k5).red en5 cg).key cy
   have k35 : cO W' d6 H2 H5 := (k34.trans k4').trans k5
   have hl5 := k35.obj l _ hl2 nlw (fun z => z)
   have ra5 : gH K (bD M' d6) H5 acc vs := ⟨ra.1, ra.2.aP (st k35 oki)⟩
   have lv : vs.length = acc.length := by have := congrArg List.length ra.1; rw [List.length_map, List.length_map] at this; exact this
   refine ⟨vs, key, hl5, ek, by rw [sizeLine_eq]; omega, ?_⟩
   have stw : eA (bD M' d6) (bD M' d6) H5 (upd H5 l (.dK (putK vs key v))) := .write (.inl (.inr (.inr rfl))) hl5 fun _ z => nomatch z
   have kw : cO W' (one l) H5 (upd H5 l (.dK (putK vs key v))) := .write (.inr rfl) hl5 fun _ z => nomatch z
   have lp : (i3 acc key p).length ≤ acc.length + 1 := by
    unfold i3
    split
    ·rw [List.length_map]; omega
    ·rw [List.length_append]; exact Nat.le_refl _
   refine ⟨e7, i3 acc key p, putK vs key v, (kk.trans (kL k35)).trans kw, bG, gH.put key ⟨ra5.1, ra5.2.aP stw⟩ (rp5.aP stw), ?_, by omega, f4⟩
   refine ⟨en5.len, fun j s hj => ?_, en5.nE⟩
   obtain ⟨u, g1, g2⟩ := en5.at' j s hj
   refine ⟨u, g1, ?_⟩
   cases s with
   | val p => exact Rep.aP stw g2
   | own p =>
    obtain ⟨a, e, w, c⟩ := g2
    exact ⟨a, e, w, c.aP stw fun ob h => by rw [aX (fun z : a = l => nlw (by rw [← z]; exact ⟨j, w⟩))]; exact h⟩
   | loc p => obtain ⟨a, e, w, c⟩ := g2; exact w.elim
   | bor p =>
    obtain ⟨a, e, c⟩ := g2
    refine ⟨a, e, ?_⟩
    have ne : W'.old a → a ≠ l := fun od z => od (by rw [z]; exact hl)
    cases c with
    | lst h od n m r => exact .lst (h.elim (fun h => .inl (by rw [aX (ne od)]; exact h)) fun ⟨u, h⟩ => .inr ⟨u, by rw [aX (ne od)]; exact h⟩) od n m (r.aP stw)
    | fE h r => exact .fE h (r.aP stw)
    | bW h od n m kk r => exact .bW (h.elim (fun h => .inl (by rw [aX (ne od)]; exact h)) fun ⟨u, h⟩ => .inr ⟨u, by rw [aX (ne od)]; exact h⟩) od n m kk (r.aP stw)
 ·have e : i = items.length := by omega
  subst e
  rw [List.drop_length] at f4
  cases f4
  have kout : cO W L H1 H2 := ⟨fun a ob h n m => kk.obj a ob (s0 _ _ h) (fun z => (wsub a z).1.elim n m) (zl a ob h), fun a xs h => kk.tup a xs (s0 _ _ h), fun a h => k0' H2 kk a (.inl h)⟩
  have kf : eA (bD M L) (bD M (bD L (one l))) H1 H2 := ⟨kout.tup, fun a ob h n => ⟨kk.obj a ob (s0 _ _ h) (fun z => n (ML a (wsub a z).1)) (zl a ob h), fun z => by
   rcases z with z | z | z
   ·exact n (.inl z)
   ·exact n (.inr z)
   ·exact zl a ob h z⟩⟩
  have pend : vX K (bD M (bD L (one l))) W (bD L (one l)) H2 σ (fun i => ∃ j, (i, j) ∈ ms) e1 := by
   refine ⟨en.len, fun i s hs => ?_, en.nE⟩
   obtain ⟨v, h1, h2⟩ := en.at' i s hs
   have keepM : ∀ a, s.dR = true → ¬ (∃ j, (i, j) ∈ ms) → v = .ref a → ∀ ob, H1 a = some ob → H2 a = some ob := fun a hm nt ev ob h => by
    subst ev
    refine kk.obj a ob (s0 _ _ h) (fun ⟨j, i', s', hm', hs', hmine', ha'⟩ => ?_) (zl a ob h)
    have ne : i' ≠ i := fun z => nt ⟨j, z ▸ hm'⟩
    exact en.nE i' i s' s ne hs' hs hmine' hm (by rw [ha', h1])
   refine ⟨v, h1, fun z => ?_, fun hm => ?_⟩
   ·cases s with
    | val p => exact Rep.aP kf h2
    | own p =>
     obtain ⟨a, e, w, c⟩ := h2
     exact ⟨a, e, w, c.aP kf fun ob h => keepM a rfl (z.elim id fun z => nomatch z) e ob h⟩
    | loc p =>
     obtain ⟨a, e, w, c⟩ := h2
     exact ⟨a, e, .inl w, c.aP kf fun ob h => keepM a rfl (z.elim id fun z => nomatch z) e ob h⟩
    | bor p =>
     obtain ⟨a, e, c⟩ := h2
     refine ⟨a, e, ?_⟩
     cases c with
     | lst h od n m r => exact .lst (h.elim (fun h => .inl (kout.obj _ _ h n m)) fun ⟨u, h⟩ => .inr ⟨u, kout.obj _ _ h n m⟩) od n (fun z => z.elim m (Rd.ne h hl)) (r.aP kf)
     | fE h r => exact .fE h (r.aP kf)
     | bW h od n m kk r => exact .bW (h.elim (fun h => .inl (kout.obj _ _ h n m)) fun ⟨u, h⟩ => .inr ⟨u, kout.obj _ _ h n m⟩) od n (fun z => z.elim m (Rd.ne h hl)) kk (r.aP kf)
   ·cases s with
    | val p => cases hm
    | bor p => cases hm
    | own p => obtain ⟨a, e, w, c⟩ := h2; exact ⟨a, e, .inl ⟨p, rfl, w⟩⟩
    | loc p => obtain ⟨a, e, w, c⟩ := h2; exact ⟨a, e, .inr ⟨p, rfl, .inl w⟩⟩
  have enf : aV K (bD M (bD L (one l))) W (bD L (one l)) H2 σ e' := lL pend (fun i j p a hm hp ha => by
   rcases cC hp with g | g
   ·obtain ⟨v, h1, a', rfl, ⟨i', s', hm', _, _, ha'⟩, c⟩ := en2.at' j _ g
    have ei := hms2 i i' j hm hm'
    subst ei
    rw [ha] at ha'
    cases ha'
    exact c.aP (.less fun a z => .inl z) fun _ h => h
   ·obtain ⟨v, h1, a', rfl, w, c⟩ := en2.at' j _ g
    exact w.elim) f3
  refine .inl ⟨its, q _ _ (k1.trans kout) ⟨l, rfl, fun z => o1.old l z hl, fun z => (o1.loc l z).1 hl, enf, fun i s hs hm e => ?_, .bW hl2 ra.1 (ra.2.aP (.less fun a z => .inl z))⟩ (Fr.back (b := .new (.bW _)) k1.cZ fun a e => by cases e; exact hl)⟩
  obtain ⟨s', hs', hm'⟩ := j9 f3 i s hs hm
  obtain ⟨_, ob, h, _⟩ := whose i s' l hs' hm' e
  rw [hl] at h
  cases h
theorem nG {wi : TI} {g : TG} {tt : TT} {tk te : TE} {fi : FI} {k : Nat} {cV : List Nat} (ms : List (Nat × Nat)) {fg : FG} {ft : FT} {fk fe : FE} (hms : (ms.all fun z => ms.all fun z' => (z.1 == z'.1) == (z.2 == z'.2)) = true) (hi : vV K wi fi) (hg : tF K g fg) (ht : j5 K tt ft) (hk : Ref K tk fk) (he : Ref K te fe) : Ref K (vS wi k cV g tt tk te) (mU fi k cV ms fg ft fk fe) := by
 have key : ∀ z ∈ ms, ∀ z' ∈ ms, (z.1 == z'.1) = (z.2 == z'.2) := fun z hz z' hz' => by
  have := List.all_eq_true.mp (List.all_eq_true.mp hms z hz) z' hz'
  simpa using this
 refine C0 ms (fun i j1 j2 h1 h2 => ?_) (fun i1 i2 j h1 h2 => ?_) hi hg ht hk he
 ·have := key _ h1 _ h2
  simpa using this
 ·have := key _ h1 _ h2
  simpa using this
end
end Mr
namespace L2
open PySem
section
variable {X : Cx} {kx vx tg iter : Expr} {ifs : List Expr} {scope : Scope} {pos : Pos} {wi : TI} {g : TG} {tt : TT} {tk te : TE} {N : List Str} {k : Nat} {cV : List Nat}
end
end L2
namespace Mr
open PySem L2
theorem sF {fg : FG} {ft : FT} {fk fe : FE} (I : Nat → List (Key × PV) → En → Prop) {Q : List (Key × PV) × En → Prop} {xs : List PV}
  (hs : ∀ (i : Nat) x e d, xs[i]? = some x → I i d e → Wp (fg x e) fun e1 => Wp (ft e1) fun z => match z.1 with | false => I (i + 1) d z.2 | true => Wp (fk z.2) fun kb => Wp (fe kb.2) fun w => Wp (kb.1.weak.get w.2) fun kp => Wp (keyOf kp) fun k => Wp w.1.put fun p => I (i + 1) (i3 d k p) w.2)
  (hd : ∀ d e, I xs.length d e → Q (d, e)) {e : En} {d : List (Key × PV)} (h0 : I 0 d e) : Wp (jX fg ft fk fe xs e d) Q := by
 have key : ∀ (ys : List PV) (i : Nat) (e : En) (d : List (Key × PV)), i ≤ xs.length → xs.drop i = ys → I i d e → Wp (jX fg ft fk fe ys e d) Q := by
  intro ys
  induction ys with
  | nil =>
   intro i e d hil hy hi
   unfold jX
   rw [dD]
   have hl : xs.length ≤ i := by
    have := congrArg List.length hy
    rw [List.length_drop] at this
    simp at this
    omega
   have h : i = xs.length := by omega
   subst h
   exact hd d e hi
  | cons x ys ih =>
   intro i e d hil hy hi
   have hlt : i < xs.length := by
    have := congrArg List.length hy
    rw [List.length_drop, List.length_cons] at this
    omega
   rw [List.drop_eq_getElem_cons hlt] at hy
   have hx : xs[i]? = some x := by rw [List.getElem?_eq_getElem hlt, (List.cons.inj hy).1]
   obtain ⟨e1, g1, ⟨b, e2⟩, g2, h⟩ := hs i x e d hx hi
   unfold jX
   rw [g1, sY, g2, zL]
   cases b with
   | false => exact ih (i + 1) e2 d hlt (List.cons.inj hy).2 h
   | true =>
    obtain ⟨⟨kb, e3⟩, g3, ⟨r, e4⟩, g4, kp, g5, k, g6, p, g7, h⟩ := h
    dsimp only at g3 g4 g5 g6 g7 h ⊢
    rw [g3, zL, g4, zL, g5, sY, g6, sY, g7, sY]
    exact ih (i + 1) e4 _ hlt (List.cons.inj hy).2 h
 exact key xs 0 e d (Nat.zero_le _) rfl h0
theorem CS {fi : FI} {k : Nat} {cV : List Nat} {ms : List (Nat × Nat)} {fg : FG} {ft : FT} {fk fe : FE} {e : En} {Q : Bv × En → Prop} :
  Wp (mU fi k cV ms fg ft fk fe e) Q ↔ Wp (fi (fun i => !(ms.any fun z => z.1 == i)) e) fun z => z.1.length < 1000000 ∧ Wp (jX fg ft fk fe z.1 (nF k cV ms z.2) []) fun w => Wp (mC w.2 ms z.2) fun e2 => Q (.new (.bW w.1), e2) := by
 unfold mU
 constructor
 ·intro h
  obtain ⟨z, h1, h⟩ := jO.mp h
  obtain ⟨g, h⟩ := fD.mp h
  obtain ⟨w, h2, h⟩ := jO.mp h
  obtain ⟨e2, h3, h⟩ := jS.mp h
  exact ⟨z, h1, of_decide_eq_true g, w, h2, e2, h3, dD.mp h⟩
 ·rintro ⟨z, h1, g, w, h2, e2, h3, q⟩
  exact jO.mpr ⟨z, h1, fD.mpr ⟨decide_eq_true g, jO.mpr ⟨w, h2, jS.mpr ⟨e2, h3, dD.mpr q⟩⟩⟩⟩
end Mr
namespace L2
open PySem PyProof.Rows
section
variable {X : Cx}
end
end L2
namespace Mr
open PySem L2
section
variable {K : PySem.W.Frag}
end
end Mr
namespace L2
open PySem PySem.Spec PyProof.Rows
noncomputable def KC (A : Around) (s : Shared) (x y : Value) (c : Bool) : Prop :=
 ∀ (prog : Program) (w : World) (E : Value → Shared → Prop) (Q : Value → Shared → Prop), Q (.bool c) s → wpAny (model prog w) A (richCompare .Gt x y) Q E s
inductive w8 (A : Around) (s : Shared) (fin : Bool) : List (Value × Value) → Bool → Prop
 | done : w8 A s fin [] fin
 | same {p q : Value} {r : List (Value × Value)} {c : Bool} : SeqAt.EqAt A s p q true → w8 A s fin r c → w8 A s fin ((p, q) :: r) c
 | less {p q : Value} {r : List (Value × Value)} {c : Bool} : SeqAt.EqAt A s p q false → KC A s p q c → w8 A s fin ((p, q) :: r) c
section
open PySem.SeqAt
open PySem.AutoSeq1 (wpAny_loadPart')
open PySem.MeetsSeq PySem.MeetsSeq2 PySem.MeetsSeq3
theorem QE (l b : Addr) (us vs : Array Value) (n m : Nat) (d1 d2 : Option Addr) (k1 k2 : Array (Option Value)) (c : Bool) :
  Meets (Builtin.«tuple.__gt__» ⟨[.ref l, .ref b], []⟩) (fun A R s => s.heap.get? l = some ⟨.type "tuple", d1, .seq us n, k1⟩ ∧ s.heap.get? b = some ⟨.type "tuple", d2, .seq vs m, k2⟩ ∧
   w8 A.in1 s (decide (vs.size < us.size)) (us.toList.zip vs.toList) c ∧ R (.ok (.ret (.bool c))) s) :=
 .of_wp fun prog w A R s h => by
  obtain ⟨hp, gg, dd, tk, os⟩ := s
  obtain ⟨hl, hb, hx, hr⟩ := h
  have f2 := AutoSeq1.sub_tuple_tuple
  wp_walk using wpAny_loadPart' hl, wpAny_loadPart' hb, wpAny_forIn_list _ (fun rest acc s' => acc.1 = none ∧ s' = ⟨hp, gg, dd, tk, os⟩ ∧ w8 A.in1 ⟨hp, gg, dd, tk, os⟩ (decide (vs.size < us.size)) rest c) _
  case turn =>
   rintro ⟨y, x⟩ rest acc s' ⟨ha, rfl, hx'⟩
   cases hx' with
   | same he hrest =>
    refine wpAny_bind (he prog w _ _ ?_)
    wp_walk
    exact ⟨rfl, rfl, hrest⟩
   | less he hlt =>
    refine wpAny_bind (he prog w _ _ ?_)
    have hq := hlt prog w
    wp_walk using hq
    exact ⟨_, rfl, by simpa using hr⟩
  case fin =>
   rintro ⟨b1, b2⟩ s' ⟨ha, rfl, hx'⟩
   simp only at ha
   subst ha
   cases hx'
   wp_walk
   exact ⟨_, rfl, by simpa [Builtin.Tuple.tupleCompareSizes] using hr⟩
  case h => exact ⟨rfl, rfl, hx⟩
end
theorem QN {A : Around} {s : Shared} {l b : Addr} {us vs : Array Value} {c : Bool} (hl : IsTup s.heap l us) (hb : IsTup s.heap b vs) (hu : A.units < cLine) (hx : w8 A.in1 s (decide (vs.size < us.size)) (us.toList.zip vs.toList) c) :
  KC A s (.ref l) (.ref b) c := by
 intro prog w E Q q
 obtain ⟨⟨c1, d1, t1, k1⟩, g1, e1, n, r1⟩ := id hl
 obtain ⟨⟨c2, d2, t2, k2⟩, g2, e2, m, r2⟩ := id hb
 simp only at e1 r1 e2 r2
 subst e1 r1 e2 r2
 exact richCompare_meets_room (op := .Gt) ⟨_, g1, rfl⟩ ⟨_, g2, rfl⟩ PySem.F.slot_tuple_gt PySem.F.entry_tuple_gt (PySem.F.args_tuple_gt_2 _ _) (QE l b us vs n m d1 d2 k1 k2 c) ⟨g1, g2, hx, (fun x => nomatch x), q⟩ hu
end L2
namespace Mr
open PySem PySem.Spec L2
noncomputable def AN (gt : PV → PV → Option Bool) : List PV → List PV → Option Bool
 | [], [] => some false
 | [], _ :: _ => some false
 | _ :: _, [] => some true
 | x :: xs, y :: ys => if bT x y = true then AN gt xs ys else gt x y
noncomputable def RM : Nat → PV → PV → Option Bool
 | _, .str a, .str b => some (decide (b.cps.toList < a.cps.toList))
 | _, .int a, .int b => some (decide (b < a))
 | n + 1, .tup xs, .tup ys => AN (RM n) xs ys
 | _, _, _ => none
section
variable {s : Shared}
theorem IB {A : Around} {lt : PV → PV → Option Bool} : ∀ {xs ys : List PV} {us vs : List Value} {c : Bool} {fin : Bool}, cD s.heap xs us → cD s.heap ys vs → (∀ x ∈ xs, ∀ y ∈ ys, ∀ u v, Lies s.heap x u → Lies s.heap y v → SeqAt.EqAt A s u v (bT x y) ∧ ∀ b, lt x y = some b → KC A s u v b) →
  fin = decide (vs.length < us.length) → AN lt xs ys = some c → w8 A s fin (us.zip vs) c
 | [], [], _, _, c, fin, .nil, .nil, _, hf, h => by cases h; rw [hf]; exact .done
 | [], _ :: _, _, _, c, fin, .nil, .cons _ r, _, hf, h => by cases h; rw [hf]; exact .done
 | _ :: _, [], _, _, c, fin, .cons _ r, .nil, _, hf, h => by cases h; rw [hf]; exact .done
 | x :: xs, y :: ys, _, _, c, fin, .cons r1 rr1, .cons r2 rr2, hk, hf, h => by
  obtain ⟨he, hl⟩ := hk x List.mem_cons_self y List.mem_cons_self _ _ r1 r2
  unfold AN at h
  cases e : bT x y with
  | true =>
   rw [e] at he
   rw [if_pos e] at h
   exact .same he (IB rr1 rr2 (fun a ha b hb => hk a (List.mem_cons_of_mem _ ha) b (List.mem_cons_of_mem _ hb)) (by rw [hf]; simp) h)
  | false =>
   rw [e] at he
   rw [if_neg (by rw [e]; exact Bool.false_ne_true)] at h
   exact .less he (hl c h)
theorem QS : ∀ (n : Nat) (A : Around) {p q : PV} {v u : Value} {b : Bool}, A.units + n < cLine → gU n p = true → gU n q = true → Lies s.heap p v → Lies s.heap q u → RM n p q = some b → KC A s v u b := by
 intro n
 induction n with
 | zero =>
  intro A p q v u b hu o1 o2 h1 h2 h
  cases p with
  | str x =>
   cases q with
   | str y => cases h; cases h1; cases h2; exact fun prog w E Q q => PySem.P.gt_str q
   | _ => cases h
  | int x =>
   cases q with
   | int y => cases h; cases h1; cases h2; exact fun prog w E Q q => PyProof.Rows.gt_int q
   | _ => cases h
  | _ => cases q <;> cases h
 | succ n ih =>
  intro A p q v u b hu o1 o2 h1 h2 h
  cases p with
  | str x =>
   cases q with
   | str y => cases h; cases h1; cases h2; exact fun prog w E Q q => PySem.P.gt_str q
   | _ => cases h
  | int x =>
   cases q with
   | int y => cases h; cases h1; cases h2; exact fun prog w E Q q => PyProof.Rows.gt_int q
   | _ => cases h
  | tup xs =>
   cases q with
   | tup ys =>
    cases h1 with
    | tup t1 l1 =>
     cases h2 with
     | tup t2 l2 =>
      have hin : A.in1.units = A.units + 1 := rfl
      have o1 : xs.all (gU n) = true := o1
      have o2 : ys.all (gU n) = true := o2
      refine QN t1 t2 (by omega) ?_
      simpa using IB (A := A.in1) (s := s) l1 l2 (fun x hx y hy u v a b => ⟨rX n A.in1 (by omega) (List.all_eq_true.mp o1 x hx) (List.all_eq_true.mp o2 y hy) a b, fun c hc => ih A.in1 (by omega) (List.all_eq_true.mp o1 x hx) (List.all_eq_true.mp o2 y hy) a b hc⟩) rfl h
   | _ => cases h
  | _ => cases q <;> cases h
end
section
variable {X : Cx} {k : Nat}
noncomputable def O7 (K : PySem.W.Frag) : R2 := fun x y H Q => ∃ p q b, Red K d6 H p x ∧ Red K d6 H q y ∧ gU 3 p = true ∧ gU 3 q = true ∧ RM 3 p q = some b ∧ Q (.bl b) H
theorem UW (K : PySem.W.Frag) (hr : eU k X.A) (hK : X.K = K := by rfl) : iK X (compareOp .Gt) (O7 K) := by
 subst hK
 intro pins s σ H x y v u Q I rx ry h
 obtain ⟨p, q, b, h1, h2, o1, o2, hb, hQ⟩ := h
 exact QS 3 X.A (by have := hr.un; omega) o1 o2 (h1.lies I o1 rx) (h2.lies I o2 ry) hb _ _ _ _ (iS I hQ rfl)
end
section
variable {K : PySem.W.Frag}
noncomputable def OJ : PV → PV → Option Bv := fun p q => bI (gU 3 p && gU 3 q) (bO (RM 3 p q) fun b => some (.val (.bl b)))
theorem Q3 : eT K (O7 K) OJ := by
 intro Z H x y p q b Q h1 h2 h k
 obtain ⟨g, h⟩ := aS h
 rw [Bool.and_eq_true] at g
 obtain ⟨c, hc, h⟩ := aL h
 cases h
 exact ⟨p, q, c, h1.any, h2.any, g.1, g.2, hc, k _ H (bN.refl _) (Rep.bl _)⟩
noncomputable def T2 (K : PySem.W.Frag) : R2 := fun x y H Q => A8 (fun i j => .bl (decide (j < i))) x y H Q ∨ O7 K x y H Q
theorem WX {X : Cx} {k : Nat} (K : PySem.W.Frag) (hr : eU k X.A) (hK : X.K = K := by rfl) : iK X (compareOp .Gt) (T2 K) := iK.or ES (UW K hr hK)
noncomputable def PC : PV → PV → Option Bv := fun p q => (T9 p q).or (OJ p q)
theorem OW : eT K (T2 K) PC := eT.or GF Q3
end
end Mr
namespace L2
open PySem PySem.Spec PyProof.Rows
section
variable {X : Cx} {pos : Pos}
noncomputable def M6 (K : PySem.W.Frag) (n : Nat) (t : wY) : TG := fun v σ H Q => FL K n t v σ H Q ∨ ∃ a xs, v = .ref a ∧ iZ K H a xs ∧ xs.length = n ∧ t xs σ H Q
theorem JX (K : PySem.W.Frag) {es : List Expr} {k : Nat} {t : wY} {n : Nat} (hc : X.calm = true) (h : RL X es t) (hK : X.K = K := by rfl)
  (hn : (assignEach es X.env).length = n := by rfl) (hst : (assignEach es X.env).findIdx? (·.1) = none := by rfl) : PG X (.Tuple es k pos) (M6 K n t) := by
 subst hK
 intro pins s σ H v u Q I r hw
 rcases hw with hw | ⟨a, xs, e1, hq, hl, hw⟩
 ·exact JE hc h hn hst pins s σ H v u Q I r hw
 ·subst e1
  cases r
  obtain ⟨its, rv, pl, hz⟩ := I.list hq
  rw [arm_assign_Tuple]
  refine wpAny_bind (wpAny_standAt ?_)
  unfold unpack
  have hsz : (assignEach es X.env).length = its.toArray.size := by simp [hn, ← hl, rv.length]
  rw [hsz, hst]
  refine wpAny_bind (wpAny_holding (PySem.W.kun_itemsOf (I.ok.hd hc) pl.isList fun h' hx => ?_))
  have I1 : Inv X pins σ H { s with heap := h' } := I.kept (t' := s.toks) fun b o e => hx b o (Nat.ne_of_lt (Heap.lt_size e)) e
  exact h pins _ σ H xs _ Q I1 (by simpa using rv) hw
end
end L2
namespace Mr
open PySem L2
section
variable {K : PySem.W.Frag}
noncomputable def CB (n : Nat) (f : zP) : FG := fun p e => match p with
 | .tup ps => bI (decide (ps.length = n)) (f ps e)
 | .lst ps => bI (decide (ps.length = n)) (f ps e)
 | _ => none
theorem D9 {n : Nat} {g : wY} {f : zP} (h : xQ K g f) : tF K (M6 K n g) (CB n f) := by
 intro O M W L σ H e e' p v Q o he hp hf q
 cases p with
 | tup ps =>
  obtain ⟨g1, hf⟩ := aS hf
  cases hp with
  | tup ha hr => exact .inl ⟨_, _, rfl, ha.sq, by rw [← hr.length]; exact of_decide_eq_true g1, h O M W L σ H e e' ps _ Q o he hr hf q⟩
 | lst ps =>
  obtain ⟨g1, hf⟩ := aS hf
  cases hp with
  | lst ha n hr => exact .inr ⟨_, _, rfl, .inl ha, by rw [← hr.length]; exact of_decide_eq_true g1, h O M W L σ H e e' ps _ Q o he hr hf q⟩
 | _ => cases hf
theorem JP {n : Nat} {f : zP} {p : PV} {e : En} : CB n f p e = match p with
 | .tup ps => bI (decide (ps.length = n)) (f ps e)
 | .lst ps => bI (decide (ps.length = n)) (f ps e)
 | _ => none := rfl
end
end Mr
namespace My
open PySem L2 Mr
noncomputable def rA : FS := (bK (cH 1 (bS fZ (aE 0) (fC (.int 0))))
  (bK (cH 2 (bS fZ (aE 0) (fC (.int 3))))
  (fG (oU kT (aD (gF (IA (aD (aE 2) aN)) 2 [1, 2] [] (pH 2 (dO (bH 0) (dO (bH 1) mL))) (DJ (cT (bS D7 (aE 1) (aE 2))) (cT (bS (DP true) (aE 1) (LK J7 (aE 3) (nY (bS gT (aE 0) (fC (.int 1)))) iJ)))) (aE 1)) aN)))))
noncomputable def g9 : FN := rH [.b] 2 false rA
noncomputable def mV : FS := (bK (mH 1 AX)
  (bK (rY (y9 (aE 0)) (bH 2) (t7 (cT (bS (DP true) (bS fZ (aE 2) (fC (.int 0))) (aE 1))) (rK 1 (bS fZ (aE 2) (fC (.int 0))) (aE 2)) gE))
  (fG (AJ (aE 1)))))
noncomputable def e8 : FN := rH [.b] 2 false mV
noncomputable def lA : FS := (bK (t7 (cT (bS (DP false) (aE 3) (aE 0))) (fG (dS (aD (bS fZ (aE 0) (aE 3)) (aD (dS (aD (fC (.str "hand")) aN)) aN)))) gE)
  (bK (t7 (cT (bS (DP false) (aE 3) (aE 1))) (bK (cH 4 (bS fZ (aE 1) (aE 3)))
  (fG (KZ (K4 (aE 4)) (dS (aD (bS fZ (aE 4) (T8 EM (fC (.int 1)))) (aD (dS (aD (fC (.str "own")) aN)) aN))) (dS (aD (fC .bJ) (aD (dS (aD (fC (.str "first")) aN)) aN)))))) gE)
  (bK (t7 (cT (bS (DP false) (aE 3) (aE 2))) (bK (GQ (oU BK (aD (bS fZ (aE 2) (aE 3)) aN)) (pH 3 (dO (bH 5) (dO (bH 6) (dO (bH 7) mL)))))
  (fG (dS (aD (bS fZ (bS fZ (aE 1) (aE 6)) (bS Mr.w5 (aE 7) (fC (.int 1)))) (aD (dS (aD (fC (.str "told")) (aD (aE 6) (aD (aE 7) aN)))) aN))))) gE)
  (fG (dS (aD (fC .bJ) (aD (dS (aD (fC (.str "first")) aN)) aN)))))))
noncomputable def dM : FN := rH [.b, .b, .b, .b] 4 false lA
noncomputable def mS : FS := (bK (cH 2 (KZ (cT (bS UB (aE 1) (oU sH (aD (aE 0) aN)))) (bS fZ (aE 0) (aE 1)) (fC (.int 0))))
  (bK (cH 3 (KZ (cT (bS UE (aE 2) (bS p5 (fC (.int 10)) (fC (.int 18))))) (bS lZ (aE 2) (bS pO (bS pO (bS pO (bS p5 (fC (.int 10)) (fC (.int 60))) (bS p5 (fC (.int 10)) (fC (.int 60)))) (bS p5 (fC (.int 10)) (fC (.int 60)))) (bS p5 (fC (.int 10)) (fC (.int 60))))) (fC (.int 0))))
  (fG (fM (aD (aE 3) (aD (bS lZ (bS pD (bS gT (bS gT (bS lZ (aE 2) (fC (.int 2305843009213693951))) (bS pD (bS pD (fC (.int 7919)) (aE 1)) (aE 1))) (fC (.int 3))) (fC (.int 48271))) (fC (.int 2305843009213693921))) (aD (fC (.int 0)) aN)))))))
noncomputable def eL : FN := rH [.b, .b] 2 true mS
noncomputable def mZ : FS := (bK (t7 (cT (bS T9 (bS fZ (aE 0) (fC (.int 0))) (fC (.int 0)))) (bK (cH 2 (bS lZ (bS fZ (aE 0) (fC (.int 0))) (aE 1)))
  (bK (vL 0 (fC (.int 0)) (bS HF (bS fZ (aE 0) (fC (.int 0))) (aE 1)))
  (fG (aE 2)))) gE)
  (bK (vL 0 (fC (.int 2)) (bS gT (bS fZ (aE 0) (fC (.int 2))) (fC (.int 1))))
  (bK (cH 3 (bS lZ (bS pD (bS gT (bS gT (bS fZ (aE 0) (fC (.int 1))) (bS pD (bS pD (fC (.int 65537)) (bS fZ (aE 0) (fC (.int 2)))) (bS fZ (aE 0) (fC (.int 2))))) (fC (.int 11))) (fC (.int 48271))) (fC (.int 2305843009213693921))))
  (bK (cH 3 (bS lZ (bS pD (aE 3) (bS gT (bS lZ (aE 3) (fC (.int 1000003))) (bS pD (fC (.int 99991)) (bS fZ (aE 0) (fC (.int 2)))))) (fC (.int 2305843009213693907))))
  (fG (bS lZ (bS gT (bS HF (aE 3) (fC (.int 97))) (bS HF (aE 3) (fC (.int 1000033)))) (aE 1)))))))
noncomputable def aO : FN := rH [.m, .b] 2 false mZ
noncomputable def kA : FS := (bK (mH 2 (fM aN))
  (bK (rY (y9 (aE 0)) (pH 4 (dO (bH 3) (dO (bH 4) (dO (bH 5) (dO (bH 6) mL))))) (bK (cH 7 (dS (aD (bS fZ (aE 1) (aE 3)) (aD (aE 4) (aD (aE 5) (aD (oU kT (aD (gF (y9 (aE 6)) 1 [1] [] (bH 0) gC (bS fZ (aE 1) (aE 0))) aN)) aN))))))
  (t7 (cT (bS (DP true) (aE 7) (aE 2))) (D2 2 (aE 7)) gE)))
  (fG (oU kT (aD (oU kN (aD (aE 2) aN)) aN)))))
noncomputable def cS : FN := rH [.b, .b] 6 false kA
noncomputable def jW : FS := (bK (rY (pF (aD (bS gT (oU E6 (aD (aE 0) aN)) (fC (.int 1))) aN)) (bH 3) (bK (t7 (UX (cT (bS (UY false) (aE 1) (fC .bJ))) (cT (bS JL (aE 1) (aE 2)))) (fG (bS JL (aE 1) (aE 2))) gE)
  (cH 1 (FQ (aE 0) (aE 1)))))
  (fG (fC (.bl false))))
noncomputable def fX : FN := rH [.b, .b, .b] 1 false jW
noncomputable def oY : FS := (bK (cH 1 (bS fZ (aE 0) (fC (.int 3))))
  (fG (gF (pF (aD (oU sH (aD (aE 1) aN)) aN)) 1 [1, 0] [] (bH 0) (DJ (cT (bS D7 (bS fZ (aE 1) (aE 0)) (bS fZ (aE 2) (fC (.int 0))))) (cT (bS (DP true) (bS fZ (aE 1) (aE 0)) (LK J7 (aE 1) (nY (bS gT (aE 0) (fC (.int 1)))) iJ)))) (bS fZ (aE 1) (aE 0)))))
noncomputable def e9 : FN := rH [.b] 1 false oY
noncomputable def kR : FS := (fG (oU kT (aD (oU kN (aD (bS gT (fM (aD (aE 0) aN)) (gF (y9 (aE 1)) 1 [0] [] (bH 0) (cT (bS D7 (bS fZ (aE 0) (fC (.int 0))) (bS fZ (aE 1) (fC (.int 0))))) (aE 0))) aN)) aN)))
noncomputable def dZ : FN := rH [.v, .b] 0 false kR
noncomputable def pA : FS := (fG (mU (y9 (aW [.b] false e8 (aD (aE 0) aN))) 1 [] [] (bH 0) gC (bS fZ (aE 0) (fC (.int 0))) (aW [.b] false g9 (aD (aE 0) aN))))
noncomputable def iV : FN := rH [.b] 0 false pA
noncomputable def lI : FS := (sX 1 (E4 (V4 (aW [.b] false e8 (aD (aE 0) aN))) (bH 2) (E4 (OZ (aD (aW [.b] false g9 (aD (aE 2) aN)) aN)) (pH 2 (dO (bH 3) (dO (bH 4) mL))) (U9 (cT (bS T9 (aE 3) (fC (.int 0)))) (OO (aE 4) (dS (aD (bS fZ (aE 2) (fC (.int 1))) (aD (bS fZ (aE 2) (fC (.int 0))) (aD (aE 3) aN))))) EI))))
noncomputable def gR : FN := rH [.b] 4 false lI
noncomputable def lF : FS := (bK (mH 2 (fM aN))
  (bK (rY (pF (aD (aE 1) aN)) (bH 3) (bK (cH 4 (bS fZ (fM (aD (fC (.int 1)) (aD (fC (.int 1)) (aD (fC (.int 2)) (aD (fC (.int 3)) (aD (fC (.int 12)) (aD (bS gT (fC (.int 1)) (bS lZ (aE 3) (fC (.int 12)))) aN))))))) (aW [.m, .b] false aO (aD (aE 0) (aD (fC (.int 6)) aN)))))
  (bK (cH 5 (VR w6 (fC (.str "")) (aD (gF (pF (aD (aE 4) aN)) 1 [0] [(0, 1)] (bH 0) gC (bS fZ (fC (.str "abcdefghijklmnopqrstuvwxyz0123456789")) (aW [.m, .b] false aO (aD (aE 1) (aD (fC (.int 36)) aN))))) aN)))
  (bK (t7 (cT (bS (DP false) (aE 5) (aE 2))) (cH 5 (bS fZ (gF (pF (aD (bS gT (oU sH (aD (aE 2) aN)) (fC (.int 1))) aN)) 1 [2] [] (bH 0) (cT (bS (DP true) (oU xK (aD (aE 0) aN)) (aE 1))) (oU xK (aD (aE 0) aN))) (fC (.int 0)))) gE)
  (D2 2 (aE 5))))))
  (fG (aE 2))))
noncomputable def fF : FN := rH [.m, .b] 4 false lF
noncomputable def kE : FS := (bK (cH 2 (aW [.m, .b] false aO (aD (aE 0) (aD (aE 1) aN))))
  (bK (cH 3 (aW [.m, .b] false aO (aD (aE 0) (aD (fC (.int 4)) aN))))
  (bK (cH 4 (aW [.m, .b] false aO (aD (aE 0) (aD (bS fZ (fM (aD (fC (.int 1)) (aD (fC (.int 3)) (aD (fC (.int 2)) (aD (fC (.int 100000000)) aN))))) (aE 3)) aN))))
  (bK (cH 5 (gF (pF (aD (bS fZ (fM (aD (fC (.int 0)) (aD (fC (.int 1)) (aD (fC (.int 1)) (aD (fC (.int 2)) (aD (fC (.int 3)) (aD (fC (.int 9)) aN))))))) (aW [.m, .b] false aO (aD (aE 0) (aD (fC (.int 6)) aN)))) aN)) 1 [0, 1] [(0, 1)] (bH 0) gC (aW [.m, .b] false aO (aD (aE 1) (aD (aE 2) aN)))))
  (bK (t7 (cT (bS JL (aW [.m, .b] false aO (aD (aE 0) (aD (fC (.int 4)) aN))) (fC (.int 0)))) (cH 5 (bS gT (LK J7 (aE 5) iJ (nY (fC (.int 8)))) (fM (aD (bS lZ (bS gT (aE 2) (fC (.int 1))) (aE 1)) aN)))) gE)
  (fG (dS (aD (aE 2) (aD (bS fZ (fM (aD (aE 4) (aD (bS Mr.w5 (fC (.int 99999999)) (aE 4)) aN))) (oU xA (aD (bS JL (aE 3) (fC (.int 2))) aN))) (aD (bS fZ (fM (aD (fC (.str "")) (aD (fC (.str "walls")) (aD (fC (.str "Re: walls")) aN)))) (aW [.m, .b] false aO (aD (aE 0) (aD (fC (.int 3)) aN)))) (aD (aE 5) aN)))))))))))
noncomputable def cF : FN := rH [.m, .b] 4 false kE
noncomputable def lG : FS := (bK (mH 3 AX)
  (bK (rY (pF (aD (aE 2) aN)) (bH 4) (bK (cH 5 (bS fZ (aE 1) (aW [.m, .b] false aO (aD (aE 0) (aD (oU sH (aD (aE 1) aN)) aN)))))
  (bK (cH 6 (bS fZ (aE 1) (aW [.m, .b] false aO (aD (aE 0) (aD (oU sH (aD (aE 1) aN)) aN)))))
  (bK (t7 (cT (bS JL (aW [.m, .b] false aO (aD (aE 0) (aD (fC (.int 3)) aN))) (fC (.int 0)))) (cH 6 (fC .bJ)) gE)
  (t7 (DJ (cT (bS (DP true) (aE 5) (aE 3))) (HX (cT (aW [.b, .b, .b] false fX (aD (aE 3) (aD (aE 6) (aD (aE 5) aN))))))) (rK 3 (aE 5) (aE 6)) gE)))))
  (fG (oU kT (aD (zZ (aE 3)) aN)))))
noncomputable def fN : FN := rH [.m, .b, .b] 4 false lG
noncomputable def kM : FS := (bK (mH 3 (fM aN))
  (bK (rY (y9 (aE 0)) (bH 4) (bK (cH 5 (NV (bS PC (dS (aD (bS fZ (aE 4) (fC (.int 1))) (aD (bS fZ (aE 4) (fC (.int 0))) aN))) (aE 1)) (bS (DP true) (aE 2) (LK J7 (aW [.b] false e9 (aD (aE 4) aN)) (nY (fC (.int 1))) iJ))))
  (t7 (DJ (K4 (aE 5)) (cT (bS D7 (bS fZ (aE 4) (fC (.int 0))) (aE 2)))) (D2 3 (aE 4)) gE)))
  (fG (oU kT (aD (aE 3) aN)))))
noncomputable def fO : FN := rH [.b, .b, .b] 3 false kM
noncomputable def oZ : FS := (bK (cH 3 (mU (y9 (aE 1)) 2 [] [] (pH 2 (dO (bH 0) (dO (bH 1) mL))) gC (aE 0) (aE 1)))
  (bK (cH 4 (aW [.b] false iV (aD (aE 0) aN)))
  (bK (cH 5 (aW [.b] false gR (aD (aE 0) aN)))
  (fG (mU (y9 (aE 2)) 1 [3, 4, 5] [] (bH 0) gC (aE 0) (aW [.b, .b, .b, .b] false dM (aD (aE 1) (aD (aE 2) (aD (aE 3) (aD (aE 0) aN))))))))))
noncomputable def iP : FN := rH [.b, .b, .b] 3 false oZ
noncomputable def jG : FS := (bK (mH 3 (gF (pF (aD (aW [.m, .b] false aO (aD (aE 1) (aD (fC (.int 13)) aN))) aN)) 1 [1, 2] [(1, 1)] (bH 0) gC (aW [.m, .b] false cF (aD (aE 1) (aD (aE 2) aN)))))
  (bK (rY (P5 (aD (fC (.int 1)) (aD (oU BL (aD (oU sH (aD (aE 0) aN)) (aD (fC (.int 40)) aN))) aN))) (bH 4) (D2 3 (AO cF (aW [.b, .b] true eL (aD (aE 0) (aD (aE 4) aN))) 2)))
  (fG (aE 3))))
noncomputable def eK : FN := rH [.b, .m, .b] 2 false jG
noncomputable def qT : FS := (fG (bS fZ (aW [.b, .b, .b] false iP (aD (aE 0) (aD (aE 1) (aD (dS (aD (aE 2) aN)) aN)))) (aE 2)))
noncomputable def hV : FN := rH [.b, .b, .v] 0 false qT
noncomputable def mQ : FS := (bK (cH 4 (oU kT (aD (gF (y9 (aE 1)) 1 [2] [] (bH 0) (cT (bS D7 (bS fZ (aE 0) (fC (.int 0))) (aE 1))) (aE 0)) aN)))
  (bK (rY (y9 (aE 0)) (bH 5) (bK (t7 (cT (bS D7 (aW [.b, .b, .v] false hV (aD (aE 5) (aD (aE 4) (aD (aE 2) aN)))) (aE 3))) (fG (fC (.bl false))) gE)
  (bK (t7 (cT (bS D7 (aW [.b, .b, .v] false hV (aD (aE 5) (aD (dS aN) (aD (aE 2) aN)))) (aE 3))) (fG (fC (.bl false))) gE)
  (bK (cH 6 (oU kT (aD (oU kN (aD (bS gT (fM (aD (dS (aD (aE 2) (aD (fC .bJ) aN))) aN)) (oU uV (aD (aE 4) aN))) aN)) aN)))
  (t7 (cT (bS D7 (aW [.b, .b, .v] false hV (aD (aE 5) (aD (aE 6) (aD (aE 2) aN)))) (dS (aD (fC .bJ) (aD (dS (aD (fC (.str "hand")) aN)) aN))))) (fG (fC (.bl false))) gE)))))
  (fG (fC (.bl true)))))
noncomputable def eM : FN := rH [.b, .b, .v, .b] 3 false mQ
noncomputable def EH : FS := (bK (mH 1 (aW [.b, .b] true eL (aD (aE 0) (aD (fC (.int 0)) aN))))
  (bK (cH 2 (bS gT (fC (.int 3)) (aW [.m, .b] false aO (aD (aE 1) (aD (bS fZ (fM (aD (fC (.int 4)) (aD (fC (.int 10)) aN))) (aW [.m, .b] false aO (aD (aE 1) (aD (fC (.int 2)) aN)))) aN)))))
  (bK (cH 3 (aW [.m, .b] false aO (aD (aE 1) (aD (fC (.int 7)) aN))))
  (bK (cH 4 (aW [.m, .b] false aO (aD (aE 1) (aD (bS fZ (fM (aD (fC (.int 1)) (aD (fC (.int 3)) (aD (fC (.int 100000000)) aN)))) (aW [.m, .b] false aO (aD (aE 1) (aD (fC (.int 3)) aN)))) aN))))
  (bK (cH 5 (aW [.m, .b] false cF (aD (aE 1) (aD (aE 2) aN))))
  (bK (cH 6 (aW [.b, .m, .b] false eK (aD (aE 0) (aD (aE 1) (aD (aE 2) aN)))))
  (bK (cH 7 (gF (pF (aD (aW [.m, .b] false aO (aD (aE 1) (aD (fC (.int 9)) aN))) aN)) 1 [1, 2] [(1, 1)] (bH 0) gC (aW [.m, .b] false cF (aD (aE 1) (aD (aE 2) aN)))))
  (bK (cH 8 (aW [.m, .b] false fF (aD (aE 1) (aD (aE 2) aN))))
  (bK (cH 9 (aW [.m, .b, .b] false fN (aD (aE 1) (aD (aE 8) (aD (aE 3) aN)))))
  (bK (cH 10 (fM (aD (aW [.b, .b] false cS (aD (aE 6) (aD (aE 8) aN))) (aD (aW [.b, .b] false cS (aD (aE 7) (aD (aE 8) aN))) aN))))
  (bK (cH 11 (bS fZ (aW [.b, .b] false cS (aD (fM (aD (aE 5) aN)) (aD (aE 8) aN))) (fC (.int 0))))
  (bK (cH 12 (aW [.b] false e9 (aD (aE 11) aN)))
  (bK (cH 13 (KZ (cT (bS D7 (aE 12) (fM aN))) (dS (aD (bS fZ (aE 12) (T8 EM (fC (.int 1)))) (aD (dS (aD (fC (.str "own")) aN)) aN))) (dS (aD (fC .bJ) (aD (dS (aD (fC (.str "first")) aN)) aN)))))
  (bK (cH 14 (bS gT (gF (y9 (aE 10)) 1 [11] [] (bH 0) gC (aW [.v, .b] false dZ (aD (aE 1) (aD (aE 0) aN)))) (fM (aD (dS (aD (aE 11) aN)) aN))))
  (bK (t7 (HX (cT (aW [.b, .b, .v, .b] false eM (aD (aE 14) (aD (aE 9) (aD (bS fZ (aE 11) (fC (.int 0))) (aD (aE 13) aN))))))) (fG (fC (.bl false))) gE)
  (bK (GQ (LK J7 (aE 8) iJ (nY (fC (.int 3)))) (CB 3 (dO (bH 15) (dO (bH 16) (dO (bH 17) mL)))))
  (bK (cH 18 (dS (aD (aE 17) (aD (aE 4) (aD (fC (.str "")) (aD (dS (aD (aE 16) (aD (aE 15) aN))) aN))))))
  (bK (cH 19 (gF (y9 (aE 10)) 1 [18, 4, 17, 15] [] (bH 0) gC (aW [.v, .b] false dZ (aD (aE 1) (aD (aW [.b, .b, .b] false fO (aD (aE 0) (aD (dS (aD (aE 2) (aD (aE 3) aN))) (aD (aE 4) aN)))) aN)))))
  (fG (aW [.b, .b, .v, .b] false eM (aD (bS gT (aE 19) (fM (aD (dS (aD (aE 18) aN)) aN))) (aD (aE 9) (aD (aE 15) (aD (dS (aD (aE 16) (aD (dS (aD (fC (.str "told")) (aD (aE 17) (aD (fC (.int 1)) aN)))) aN))) aN))))))))))))))))))))))))
noncomputable def vD : FN := rH [.b] 19 false EH
noncomputable def top (i : Nat) : Stmt := PySem.Challenge.pw_answertrees_k17_chosen_by_its_own.main.body.getD i (.Pass ⟨0, 0, 0, 0⟩)
noncomputable abbrev fY : Stmt := top 1
noncomputable abbrev eO : Stmt := top 2
noncomputable abbrev eX : Stmt := top 4
noncomputable abbrev dW : Stmt := top 5
noncomputable abbrev gK : Stmt := top 6
noncomputable abbrev eF : Stmt := top 7
noncomputable abbrev gP : Stmt := top 8
noncomputable abbrev eS : Stmt := top 10
noncomputable abbrev eR : Stmt := top 11
noncomputable abbrev cX : Stmt := top 12
noncomputable abbrev cU : Stmt := top 13
noncomputable abbrev cL : Stmt := top 14
noncomputable abbrev d7 : Stmt := top 15
noncomputable abbrev dH : Stmt := top 16
noncomputable abbrev dY : Stmt := top 17
noncomputable abbrev eW : Stmt := top 18
noncomputable abbrev dI : Stmt := top 19
noncomputable abbrev dX : Stmt := top 20
noncomputable abbrev d9 : Stmt := top 21
noncomputable abbrev gW : Stmt := top 22
structure Txt (K : PySem.W.Frag) (mg : Str → Option Value) (fs : Nat → Addr) (fds : Nat → FuncData) (tc : Nat → Addr) (u : Nat → Value) : Prop where
 sO : Def K mg "elders" fY ["letter"] (fs 0) (fds 0)
 mT : Def K mg "standing" eO ["pack"] (fs 1) (fds 1)
 tX : Def K mg "rows_of" eX ["pack"] (fs 2) (fds 2)
 pZ : Def K mg "claims_of" dW ["pack"] (fs 3) (fds 3)
 yG : Def K mg "choice" gK ["held", "rows", "claimed", "name"] (fs 4) (fds 4)
 tR : Def K mg "choices" eF ["pack", "marks", "names"] (fs 5) (fds 5)
 oO : Def K mg "chosen" gP ["pack", "marks", "name"] (fs 6) (fds 6)
 nD : Def K mg "_law_hand" eS ["_law_script", "_law_k"] (fs 7) (fds 7)
 bU : Def K mg "_law_take" eR ["_law_hand_here", "_law_many"] (fs 8) (fds 8)
 pG : Def K mg "_law_names" cX ["_law_hand_here", "_law_many"] (fs 9) (fds 9)
 gN : Def K mg "_law_letter" cU ["_law_hand_here", "_law_m"] (fs 10) (fds 10)
 mM : Def K mg "_law_letters" cL ["_law_script", "_law_hand_here", "_law_m"] (fs 11) (fds 11)
 kD : Def K mg "_law_pack" d7 ["_law_letters_here", "_law_names_here"] (fs 12) (fds 12)
 oD : Def K mg "_law_climbs" dH ["_law_held", "_law_here", "_law_name"] (fs 13) (fds 13)
 pK : Def K mg "_law_marks" dY ["_law_hand_here", "_law_names_here", "_law_many"] (fs 14) (fds 14)
 pE : Def K mg "_law_row" eW ["_law_letter_here"] (fs 15) (fds 15)
 kP : Def K mg "_law_among" dI ["_law_letter_here", "_law_pack_here"] (fs 16) (fds 16)
 pM : Def K mg "_law_later" dX ["_law_pack_here", "_law_claim", "_law_name"] (fs 17) (fds 17)
 mY : Def K mg "_law_goes" d9 ["_law_packs", "_law_marks_here", "_law_name", "_law_due"] (fs 18) (fds 18)
 TJ : Def K mg "law" gW ["_law_script"] (fs 19) (fds 19)
 gD : mg "enumerate" = none
 fI : mg "tuple" = none
 uH : mg "min" = none
 kY : mg "len" = none
 iB : mg "sorted" = none
 eZ : mg "range" = none
 uO : mg "str" = none
 yV : mg "int" = none
 rT : mg "list" = none
section
variable {P : Program} {w : World} {K : PySem.W.Frag} {mg : Str → Option Value} {base : Heap} {fs : Nat → Addr} {fds : Nat → FuncData} {tc : Nat → Addr} {u : Nat → Value}
theorem oX : cR ["letter", "own", "row"] ["letter"] (aJ fY) := ⟨rfl, rfl, rfl, by decide +kernel, rfl, by decide +kernel, by decide +kernel⟩
theorem DF (T : Txt K mg fs fds tc u)  : cK P w K mg base hB 1 (fs 0) (fds 0) ["letter"] (hZ K [.b] false g9) := by
 refine T.sO.F.ok oX (fun vs H Q E h => ?_) (fun cdv A outer s H vs Q E hr h => ?_)
 ·obtain ⟨_, _, _, _, _, hl, _⟩ := h; exact hl
 ·refine ⟨_, (aM (bL (i := 1) oX.nd rfl (Or.inr rfl) (cB (iF K hr) (pv 0) aK (fun _ _ => rfl)))
   (aM (bL (i := 2) oX.nd rfl (Or.inr rfl) (cB (iF K hr) (pv 0) aK (fun _ _ => rfl)))
   (aZ (cN (dJ (yR K) (by rfl) T.fI gJ (aC (pI ["at", "name", "own", "row"] 2 [1, 2] ["letter", "own", "row"] (aJ fY) rfl rfl rfl (BA K rfl T.gD (aC (pv 2) aG)) (by decide +kernel) (fun _ => (oR (n := 2) K rfl (dB (bM (i := 0) (show (["at", "name", "own", "row"] : List Str).Nodup by decide +kernel) rfl (Or.inl rfl)) (dB (bM (i := 1) (show (["at", "name", "own", "row"] : List Str).Nodup by decide +kernel) rfl (Or.inl rfl)) lO)))) (fun _ => (oE (PW.pt (u6 (cG (wL K hr) (pv 1) (pv 2) (eC _)) (qE (cG (nA K hr) (pv 1) (lD (S7 K) (pv 3) (nQ (bZ (j4 K) (pv 0) aK)) oK) (by rfl))))))) (fun _ => (pv 1))) aG)))))), ?_⟩
  exact eI (g := rA) (aR (bF (aI bY (aB 0) (aH 0)))
   (aR (bF (aI bY (aB 0) (aH 3)))
   (cE (dF jB (aA (dQ [] (by rfl) (JD (aA (aB 2) aF)) (nX (cY (aY 0) (cY (aY 1) kS))) (qH (bR (aI nM (aB 1) (aB 2))) (bR (aI (kO true) (aB 1) (rD xB (aB 3) (lB (aI eP (aB 0) (aH 1))) iU)))) (aB 1)) aF))))) rfl h
theorem lM : cR ["pack", "first", "letter"] ["pack"] (aJ eO) := ⟨rfl, rfl, rfl, by decide +kernel, rfl, by decide +kernel, by decide +kernel⟩
theorem xO (T : Txt K mg fs fds tc u)  : cK P w K mg base hB 1 (fs 1) (fds 1) ["pack"] (hZ K [.b] false e8) := by
 refine T.mT.F.ok lM (fun vs H Q E h => ?_) (fun cdv A outer s H vs Q E hr h => ?_)
 ·obtain ⟨_, _, _, _, _, hl, _⟩ := h; exact hl
 ·refine ⟨_, (aM (bL (i := 1) lM.nd rfl (Or.inl rfl) rE)
   (aM (jD PassesOwn.never rfl (hJ K (pv 0)) (bM (i := 2) lM.nd rfl (Or.inl rfl)) (aZ (iC (cG (nA K hr) (cB (iF K hr) (pv 2) aK (fun _ _ => rfl)) (pv 1) (by rfl)) (aZ (B0 (IK hr) (pv 1) (cB (iF K hr) (pv 2) aK (fun _ _ => rfl)) (pv 2) rfl)) dU)))
   (aZ (cN (dJ VU (by rfl) T.fI gJ (aC (JM (pv 1)) aG)))))), ?_⟩
  exact eI (g := mV) (aR (iM xU)
   (aR (i5 (iE (aB 0)) (aY 2) (eB (bR (aI (kO true) (aI bY (aB 2) (aH 0)) (aB 1))) (yM (aB 2) (aI bY (aB 2) (aH 0))) dC))
   (cE (DY (aB 1))))) rfl h
theorem jL : cR ["held", "rows", "claimed", "name", "row", "day", "one", "at"] ["held", "rows", "claimed", "name"] (aJ gK) := ⟨rfl, rfl, rfl, by decide +kernel, rfl, by decide +kernel, by decide +kernel⟩
theorem DA (T : Txt K mg fs fds tc u)  : cK P w K mg base hB 1 (fs 4) (fds 4) ["held", "rows", "claimed", "name"] (hZ K [.b, .b, .b, .b] false dM) := by
 refine T.yG.F.ok jL (fun vs H Q E h => ?_) (fun cdv A outer s H vs Q E hr h => ?_)
 ·obtain ⟨_, _, _, _, _, hl, _⟩ := h; exact hl
 ·refine ⟨_, (aM (iC (cG (UJ K hr) (pv 3) (pv 0) (by rfl)) (aZ (cN (cJ (aC (cB (iF K hr) (pv 0) (pv 3) (fun _ _ => rfl)) (aC (cJ (aC gA aG)) aG))))) dU)
   (aM (iC (cG (UJ K hr) (pv 3) (pv 1) (by rfl)) (aM (bL (i := 4) jL.nd rfl (Or.inl rfl) (cB (iF K hr) (pv 1) (pv 3) (fun _ _ => rfl)))
   (aZ (cN (nZ (uD K (pv 4) (fun _ => rfl)) (cJ (aC (cB (iF K hr) (pv 4) (M4 FH aK) (fun _ _ => rfl)) (aC (cJ (aC gA aG)) aG))) (cJ (aC mW (aC (cJ (aC gA aG)) aG))))))) dU)
   (aM (iC (cG (UJ K hr) (pv 3) (pv 2) (by rfl)) (aM (wH (eJ (VJ K hr) (by rfl) T.uH JA (aC (cB (iF K hr) (pv 2) (pv 3) (fun _ _ => rfl)) aG)) (oR (n := 3) K rfl (dB (bM (i := 5) jL.nd rfl (Or.inl rfl)) (dB (bM (i := 6) jL.nd rfl (Or.inl rfl)) (dB (bM (i := 7) jL.nd rfl (Or.inl rfl)) lO)))))
   (aZ (cN (cJ (aC (cB (iF K hr) (cB (iF K hr) (pv 1) (pv 6) (fun _ _ => rfl)) (bZ IY (pv 7) aK) (fun _ _ => rfl)) (aC (cJ (aC gA (aC (pv 6) (aC (pv 7) aG)))) aG)))))) dU)
   (aZ (cN (cJ (aC mW (aC (cJ (aC gA aG)) aG)))))))), ?_⟩
  exact eI (g := lA) (aR (eB (bR (aI (kO false) (aB 3) (aB 0))) (cE (bX (aA (aI bY (aB 0) (aB 3)) (aA (bX (aA (eN "hand") aF)) aF)))) dC)
   (aR (eB (bR (aI (kO false) (aB 3) (aB 1))) (aR (bF (aI bY (aB 1) (aB 3)))
   (cE (vM (A1 (aB 4)) (bX (aA (aI bY (aB 4) (HQ IX (aH 1))) (aA (bX (aA (eN "own") aF)) aF))) (bX (aA kC (aA (bX (aA (eN "first") aF)) aF)))))) dC)
   (aR (eB (bR (aI (kO false) (aB 3) (aB 2))) (aR (BS (dF JT (aA (aI bY (aB 2) (aB 3)) aF)) (nX (cY (aY 5) (cY (aY 6) (cY (aY 7) kS)))))
   (cE (bX (aA (aI bY (aI bY (aB 1) (aB 6)) (aI GX (aB 7) (aH 1))) (aA (bX (aA (eN "told") (aA (aB 6) (aA (aB 7) aF)))) aF))))) dC)
   (cE (bX (aA kC (aA (bX (aA (eN "first") aF)) aF))))))) rfl h
theorem kQ : cR ["_law_script", "_law_k", "_law_cell", "_law_great"] ["_law_script", "_law_k"] (aJ eS) := ⟨rfl, rfl, rfl, by decide +kernel, rfl, by decide +kernel, by decide +kernel⟩
theorem yL (T : Txt K mg fs fds tc u)  : cK P w K mg base hB 1 (fs 7) (fds 7) ["_law_script", "_law_k"] (hZ K [.b, .b] true eL) := by
 refine T.nD.F.ok kQ (fun vs H Q E h => ?_) (fun cdv A outer s H vs Q E hr h => ?_)
 ·obtain ⟨_, _, _, _, _, hl, _⟩ := h; exact hl
 ·refine ⟨_, (aM (bL (i := 2) kQ.nd rfl (Or.inl rfl) (nZ (cG WO (pv 1) (eJ (zW K) (by rfl) T.kY mR (aC (pv 0) aG)) (eC _)) (cB (iF K hr) (pv 0) (pv 1) (fun _ _ => rfl)) aK))
   (aM (bL (i := 3) kQ.nd rfl (Or.inl rfl) (nZ (cG S8 (pv 2) (bZ nV aK aK) (eC _)) (bZ jF (pv 2) (bZ uT (bZ uT (bZ uT (bZ nV aK aK) (bZ nV aK aK)) (bZ nV aK aK)) (bZ nV aK aK))) aK))
   (aZ (cN (eG (aC (pv 3) (aC (bZ jF (bZ lE (bZ (j4 K) (bZ (j4 K) (bZ jF (pv 2) aK) (bZ lE (bZ lE aK (pv 1)) (pv 1))) aK) aK) aK) (aC aK aG)))))))), ?_⟩
  exact eI (g := mS) (aR (bF (vM (bR (aI TY (aB 1) (dF m4 (aA (aB 0) aF)))) (aI bY (aB 0) (aB 1)) (aH 0)))
   (aR (bF (vM (bR (aI TH (aB 2) (aI sL (aH 10) (aH 18)))) (aI jE (aB 2) (aI vZ (aI vZ (aI vZ (aI sL (aH 10) (aH 60)) (aI sL (aH 10) (aH 60))) (aI sL (aH 10) (aH 60))) (aI sL (aH 10) (aH 60)))) (aH 0)))
   (cE (dG (aA (aB 3) (aA (aI jE (aI kW (aI eP (aI eP (aI jE (aB 2) (aH 2305843009213693951)) (aI kW (aI kW (aH 7919) (aB 1)) (aB 1))) (aH 3)) (aH 48271)) (aH 2305843009213693921)) (aA (aH 0) aF))))))) rfl h
theorem i8 : cR ["_law_hand_here", "_law_many", "_law_digit", "_law_blent"] ["_law_hand_here", "_law_many"] (aJ eR) := ⟨rfl, rfl, rfl, by decide +kernel, rfl, by decide +kernel, by decide +kernel⟩
theorem yX (T : Txt K mg fs fds tc u)  : cK P w K mg base hB 1 (fs 8) (fds 8) ["_law_hand_here", "_law_many"] (hZ K [.m, .b] false aO) := by
 refine T.bU.F.ok i8 (fun vs H Q E h => ?_) (fun cdv A outer s H vs Q E hr h => ?_)
 ·obtain ⟨_, _, _, _, _, hl, _⟩ := h; exact hl
 ·refine ⟨_, (aM (iC (cG ES (cB (iF K hr) (pv 0) aK (fun _ _ => rfl)) aK (eC _)) (aM (bL (i := 2) i8.nd rfl (Or.inl rfl) (bZ jF (cB (iF K hr) (pv 0) aK (fun _ _ => rfl)) (pv 1)))
   (aM (wH (bZ rM (cB (iF K hr) (pv 0) aK (fun _ _ => rfl)) (pv 1)) (GC (pv 0) aK set_list))
   (aZ (cN (pv 2))))) dU)
   (aM (wH (bZ (j4 K) (cB (iF K hr) (pv 0) aK (fun _ _ => rfl)) aK) (GC (pv 0) aK set_list))
   (aM (bL (i := 3) i8.nd rfl (Or.inl rfl) (bZ jF (bZ lE (bZ (j4 K) (bZ (j4 K) (cB (iF K hr) (pv 0) aK (fun _ _ => rfl)) (bZ lE (bZ lE aK (cB (iF K hr) (pv 0) aK (fun _ _ => rfl))) (cB (iF K hr) (pv 0) aK (fun _ _ => rfl)))) aK) aK) aK))
   (aM (bL (i := 3) i8.nd rfl (Or.inl rfl) (bZ jF (bZ lE (pv 3) (bZ (j4 K) (bZ jF (pv 3) aK) (bZ lE aK (cB (iF K hr) (pv 0) aK (fun _ _ => rfl))))) aK))
   (aZ (cN (bZ jF (bZ (j4 K) (bZ rM (pv 3) aK) (bZ rM (pv 3) aK)) (pv 1)))))))), ?_⟩
  exact eI (g := mZ) (aR (eB (bR (aI GF (aI bY (aB 0) (aH 0)) (aH 0))) (aR (bF (aI jE (aI bY (aB 0) (aH 0)) (aB 1)))
   (aR (tN (aI zO (aI bY (aB 0) (aH 0)) (aB 1)) (aH 0))
   (cE (aB 2)))) dC)
   (aR (tN (aI eP (aI bY (aB 0) (aH 2)) (aH 1)) (aH 2))
   (aR (bF (aI jE (aI kW (aI eP (aI eP (aI bY (aB 0) (aH 1)) (aI kW (aI kW (aH 65537) (aI bY (aB 0) (aH 2))) (aI bY (aB 0) (aH 2)))) (aH 11)) (aH 48271)) (aH 2305843009213693921)))
   (aR (bF (aI jE (aI kW (aB 3) (aI eP (aI jE (aB 3) (aH 1000003)) (aI kW (aH 99991) (aI bY (aB 0) (aH 2))))) (aH 2305843009213693907)))
   (cE (aI jE (aI eP (aI zO (aB 3) (aH 97)) (aI zO (aB 3) (aH 1000033))) (aB 1))))))) rfl h
theorem fB : cR ["_law_letters_here", "_law_names_here", "_law_pack_here", "_law_at", "_law_day", "_law_head", "_law_row_here", "_law_letter_here"] ["_law_letters_here", "_law_names_here"] (aJ d7) := ⟨rfl, rfl, rfl, by decide +kernel, rfl, by decide +kernel, by decide +kernel⟩
theorem x4 (T : Txt K mg fs fds tc u)  : cK P w K mg base hB 1 (fs 12) (fds 12) ["_law_letters_here", "_law_names_here"] (hZ K [.b, .b] false cS) := by
 refine T.kD.F.ok fB (fun vs H Q E h => ?_) (fun cdv A outer s H vs Q E hr h => ?_)
 ·obtain ⟨_, _, _, _, _, hl, _⟩ := h; exact hl
 ·refine ⟨_, (aM (bL (i := 2) fB.nd rfl (Or.inl rfl) (eG aG))
   (aM (jD PassesOwn.never rfl (hJ K (pv 0)) (oR (n := 4) K rfl (dB (bM (i := 3) fB.nd rfl (Or.inl rfl)) (dB (bM (i := 4) fB.nd rfl (Or.inl rfl)) (dB (bM (i := 5) fB.nd rfl (Or.inl rfl)) (dB (bM (i := 6) fB.nd rfl (Or.inl rfl)) lO))))) (aM (bL (i := 7) fB.nd rfl (Or.inl rfl) (cJ (aC (cB (iF K hr) (pv 1) (pv 3) (fun _ _ => rfl)) (aC (pv 4) (aC (pv 5) (aC (dJ (yR K) (by rfl) T.fI gJ (aC (pI ["_law_n", "_law_names_here"] 1 [1] ["_law_letters_here", "_law_names_here", "_law_pack_here", "_law_at", "_law_day", "_law_head", "_law_row_here", "_law_letter_here"] (aJ d7) rfl rfl rfl (hJ K (pv 6)) (by decide +kernel) (fun _ => (bM (i := 0) (show (["_law_n", "_law_names_here"] : List Str).Nodup by decide +kernel) rfl (Or.inl rfl))) (fun _ => h9) (fun _ => (cB (iF K hr) (pv 1) (pv 0) (fun _ _ => rfl)))) aG)) aG))))))
   (aZ (iC (cG (nA K hr) (pv 7) (pv 2) (by rfl)) (aZ (nU (pB K PySem.F.plainAttrs_list PySem.F.slot_list_append PySem.F.type_list_append gZ (pv 2) (aC (pv 7) aG)))) dU))))
   (aZ (cN (dJ (yR K) (by rfl) T.fI gJ (aC (eJ (GK K hr) (by rfl) T.iB lV (aC (pv 2) aG)) aG)))))), ?_⟩
  exact eI (g := kA) (aR (iM (dG aF))
   (aR (i5 (iE (aB 0)) (nX (cY (aY 3) (cY (aY 4) (cY (aY 5) (cY (aY 6) kS))))) (aR (bF (bX (aA (aI bY (aB 1) (aB 3)) (aA (aB 4) (aA (aB 5) (aA (dF jB (aA (dQ [] (by rfl) (iE (aB 6)) (aY 0) fU (aI bY (aB 1) (aB 0))) aF)) aF))))))
   (eB (bR (aI (kO true) (aB 7) (aB 2))) (qM (aB 7)) dC)))
   (cE (dF jB (aA (dF sQ (aA (aB 2) aF)) aF))))) rfl h
theorem jJ : cR ["_law_held", "_law_here", "_law_name", "_law_n"] ["_law_held", "_law_here", "_law_name"] (aJ dH) := ⟨rfl, rfl, rfl, by decide +kernel, rfl, by decide +kernel, by decide +kernel⟩
theorem tD (T : Txt K mg fs fds tc u)  : cK P w K mg base hB 1 (fs 13) (fds 13) ["_law_held", "_law_here", "_law_name"] (hZ K [.b, .b, .b] false fX) := by
 refine T.oD.F.ok jJ (fun vs H Q E h => ?_) (fun cdv A outer s H vs Q E hr h => ?_)
 ·obtain ⟨_, _, _, _, _, hl, _⟩ := h; exact hl
 ·refine ⟨_, (aM (jD PassesOwn.never rfl (fJ rfl T.eZ (aC (bZ (j4 K) (eJ (U0 K) (by rfl) T.kY mR (aC (pv 0) aG)) aK) aG)) (bM (i := 3) jJ.nd rfl (Or.inl rfl)) (aM (iC (PW.pt (R4 (cG OH (pv 1) mW (eC _)) (NM (cG (GU K hr) (pv 1) (pv 2) (eC _))))) (aZ (cN (qF (GU K hr) (pv 1) (pv 2) (eC _)))) dU)
   (aZ (bL (i := 1) jJ.nd rfl (Or.inl rfl) (GD (IK hr) (pv 0) (pv 1) ⟨rfl, by rfl, rfl, rfl⟩)))))
   (aZ (cN uQ))), ?_⟩
  exact eI (g := jW) (aR (i5 (iH (aA (aI eP (dF K2 (aA (aB 0) aF)) (aH 1)) aF)) (aY 3) (aR (eB (QV (bR (aI RW (aB 1) kC)) (bR (aI wV (aB 1) (aB 2)))) (cE (aI wV (aB 1) (aB 2))) dC)
   (bF (GH (aB 0) (aB 1)))))
   (cE (pC false))) rfl h
theorem qV : cR ["_law_letter_here", "_law_row_here"] ["_law_letter_here"] (aJ eW) := ⟨rfl, rfl, rfl, by decide +kernel, rfl, by decide +kernel, by decide +kernel⟩
theorem zJ (T : Txt K mg fs fds tc u)  : cK P w K mg base hB 1 (fs 15) (fds 15) ["_law_letter_here"] (hZ K [.b] false e9) := by
 refine T.pE.F.ok qV (fun vs H Q E h => ?_) (fun cdv A outer s H vs Q E hr h => ?_)
 ·obtain ⟨_, _, _, _, _, hl, _⟩ := h; exact hl
 ·refine ⟨_, (aM (bL (i := 1) qV.nd rfl (Or.inr rfl) (cB (iF K hr) (pv 0) aK (fun _ _ => rfl)))
   (aZ (cN (pI ["_law_n", "_law_row_here", "_law_letter_here"] 1 [1, 0] ["_law_letter_here", "_law_row_here"] (aJ eW) rfl rfl rfl (fJ rfl T.eZ (aC (eJ (zW K) (by rfl) T.kY mR (aC (pv 1) aG)) aG)) (by decide +kernel) (fun _ => (bM (i := 0) (show (["_law_n", "_law_row_here", "_law_letter_here"] : List Str).Nodup by decide +kernel) rfl (Or.inl rfl))) (fun _ => (oE (PW.pt (u6 (cG (wL K hr) (cB (iF K hr) (pv 1) (pv 0) (fun _ _ => rfl)) (cB (iF K hr) (pv 2) aK (fun _ _ => rfl)) (eC _)) (qE (cG (nA K hr) (cB (iF K hr) (pv 1) (pv 0) (fun _ _ => rfl)) (lD (S7 K) (pv 1) (nQ (bZ (j4 K) (pv 0) aK)) oK) (by rfl))))))) (fun _ => (cB (iF K hr) (pv 1) (pv 0) (fun _ _ => rfl))))))), ?_⟩
  exact eI (g := oY) (aR (bF (aI bY (aB 0) (aH 3)))
   (cE (dQ [] (by rfl) (iH (aA (dF m4 (aA (aB 1) aF)) aF)) (aY 0) (qH (bR (aI nM (aI bY (aB 1) (aB 0)) (aI bY (aB 2) (aH 0)))) (bR (aI (kO true) (aI bY (aB 1) (aB 0)) (rD xB (aB 1) (lB (aI eP (aB 0) (aH 1))) iU)))) (aI bY (aB 1) (aB 0))))) rfl h
theorem vJ : cR ["_law_letter_here", "_law_pack_here"] ["_law_letter_here", "_law_pack_here"] (aJ dI) := ⟨rfl, rfl, rfl, by decide +kernel, rfl, by decide +kernel, by decide +kernel⟩
theorem uX (T : Txt K mg fs fds tc u)  : cK P w K mg base hB 1 (fs 16) (fds 16) ["_law_letter_here", "_law_pack_here"] (hZ K [.v, .b] false dZ) := by
 refine T.kP.F.ok vJ (fun vs H Q E h => ?_) (fun cdv A outer s H vs Q E hr h => ?_)
 ·obtain ⟨_, _, _, _, _, hl, _⟩ := h; exact hl
 ·refine ⟨_, (aZ (cN (dJ (yR K) (by rfl) T.fI gJ (aC (eJ (GK K hr) (by rfl) T.iB lV (aC (bZ (j4 K) (eG (aC (pv 0) aG)) (pI ["_law_one", "_law_letter_here"] 1 [0] ["_law_letter_here", "_law_pack_here"] (aJ dI) rfl rfl rfl (hJ K (pv 1)) (by decide +kernel) (fun _ => (bM (i := 0) (show (["_law_one", "_law_letter_here"] : List Str).Nodup by decide +kernel) rfl (Or.inl rfl))) (fun _ => (oE (cG (wL K hr) (cB (iF K hr) (pv 0) aK (fun _ _ => rfl)) (cB (iF K hr) (pv 1) aK (fun _ _ => rfl)) (eC _)))) (fun _ => (pv 0)))) aG)) aG)))), ?_⟩
  exact eI (g := kR) (cE (dF jB (aA (dF sQ (aA (aI eP (dG (aA (aB 0) aF)) (dQ [] (by rfl) (iE (aB 1)) (aY 0) (bR (aI nM (aI bY (aB 0) (aH 0)) (aI bY (aB 1) (aH 0)))) (aB 0))) aF)) aF))) rfl h
theorem AV : cR ["pack"] ["pack"] (aJ eX) := ⟨rfl, rfl, rfl, by decide +kernel, rfl, by decide +kernel, by decide +kernel⟩
theorem AM (T : Txt K mg fs fds tc u) (G_elders : cK P w K mg base hB 1 (fs 0) (fds 0) ["letter"] (hZ K [.b] false g9)) (G_standing : cK P w K mg base hB 1 (fs 1) (fds 1) ["pack"] (hZ K [.b] false e8)) : cK P w K mg base hB 2 (fs 2) (fds 2) ["pack"] (hZ K [.b] false iV) := by
 refine T.tX.F.ok AV (fun vs H Q E h => ?_) (fun cdv A outer s H vs Q E hr h => ?_)
 ·obtain ⟨_, _, _, _, _, hl, _⟩ := h; exact hl
 ·refine ⟨_, (aZ (cN (FY ["letter"] 1 [] ["pack"] (aJ eX) rfl rfl rfl (hJ K (cA T.mT G_standing hr (by decide) rfl (aC (pv 0) aG))) (by decide +kernel) (fun _ => (bM (i := 0) (show (["letter"] : List Str).Nodup by decide +kernel) rfl (Or.inl rfl))) (fun _ => h9) (fun _ => (cB (iF K hr) (pv 0) aK (fun _ _ => rfl))) (fun _ => (cA T.sO G_elders hr (by decide) rfl (aC (pv 0) aG)))))), ?_⟩
  exact eI (g := pA) (cE (nG [] (by rfl) (iE (aU (aA (aB 0) aF))) (aY 0) fU (aI bY (aB 0) (aH 0)) (aU (aA (aB 0) aF)))) rfl h
theorem gO : cR ["pack", "found", "letter", "at", "name"] ["pack"] (aJ dW) := ⟨rfl, rfl, rfl, by decide +kernel, rfl, by decide +kernel, by decide +kernel⟩
theorem vW (T : Txt K mg fs fds tc u) (G_standing : cK P w K mg base hB 1 (fs 1) (fds 1) ["pack"] (hZ K [.b] false e8)) (G_elders : cK P w K mg base hB 1 (fs 0) (fds 0) ["letter"] (hZ K [.b] false g9)) : cK P w K mg base hB 2 (fs 3) (fds 3) ["pack"] (hZ K [.b] false gR) := by
 refine T.pZ.F.ok gO (fun vs H Q E h => ?_) (fun cdv A outer s H vs Q E hr h => ?_)
 ·obtain ⟨_, _, _, _, _, hl, _⟩ := h; exact hl
 ·refine ⟨_, (aM (bL (i := 1) gO.nd rfl (Or.inl rfl) rE)
   (aM (jD PassesOwn.never rfl (hJ K (cA T.mT G_standing hr (by decide) rfl (aC (pv 0) aG))) (bM (i := 2) gO.nd rfl (Or.inl rfl)) (aZ (jD PassesOwn.never rfl (BA K rfl T.gD (aC (cA T.sO G_elders hr (by decide) rfl (aC (pv 2) aG)) aG)) (oR (n := 2) K rfl (dB (bM (i := 3) gO.nd rfl (Or.inl rfl)) (dB (bM (i := 4) gO.nd rfl (Or.inl rfl)) lO))) (aZ (iC (cG ES (pv 3) aK (eC _)) (aZ (nU (pB K PySem.F.plainAttrs_list PySem.F.slot_list_append PySem.F.type_list_append gZ (z5 (pv 1) (pv 4) (eG aG) ⟨rfl, by rfl, rfl, rfl⟩) (aC (cJ (aC (cB (iF K hr) (pv 2) aK (fun _ _ => rfl)) (aC (cB (iF K hr) (pv 2) aK (fun _ _ => rfl)) (aC (pv 3) aG)))) aG)))) dU)))))
   (aZ (cN (pv 1))))), ?_⟩
  exact eI (g := lI) (zM (xC (LS (aU (aA (aB 0) aF))) (nH (i := 2) (by decide)) (xC (GS (aA (aU (aA (aB 2) aF)) aF)) (CW (sA (nH (i := 3) (by decide)) (sA (nH (i := 4) (by decide)) DX))) (HJ (bR (aI GF (aB 3) (aH 0))) (GN (aB 4) (bX (aA (aI bY (aB 2) (aH 1)) (aA (aI bY (aB 2) (aH 0)) (aA (aB 3) aF))))) DH)))) rfl h
theorem fH : cR ["_law_hand_here", "_law_many", "_law_found", "_law_k", "_law_size", "_law_name"] ["_law_hand_here", "_law_many"] (aJ cX) := ⟨rfl, rfl, rfl, by decide +kernel, rfl, by decide +kernel, by decide +kernel⟩
theorem vF (T : Txt K mg fs fds tc u) (G_law_take : cK P w K mg base hB 1 (fs 8) (fds 8) ["_law_hand_here", "_law_many"] (hZ K [.m, .b] false aO)) : cK P w K mg base hB 2 (fs 9) (fds 9) ["_law_hand_here", "_law_many"] (hZ K [.m, .b] false fF) := by
 refine T.pG.F.ok fH (fun vs H Q E h => ?_) (fun cdv A outer s H vs Q E hr h => ?_)
 ·obtain ⟨_, _, _, _, _, hl, _⟩ := h; exact hl
 ·refine ⟨_, (aM (bL (i := 2) fH.nd rfl (Or.inr rfl) (eG aG))
   (aM (jD PassesOwn.never rfl (fJ rfl T.eZ (aC (pv 1) aG)) (bM (i := 3) fH.nd rfl (Or.inl rfl)) (aM (bL (i := 4) fH.nd rfl (Or.inl rfl) (cB (iF K hr) (eG (aC aK (aC aK (aC aK (aC aK (aC aK (aC (bZ (j4 K) aK (bZ jF (pv 3) aK)) aG))))))) (cA T.bU G_law_take hr (by decide) rfl (aC (pv 0) (aC aK aG))) (fun _ _ => rfl)))
   (aM (bL (i := 5) fH.nd rfl (Or.inl rfl) (pB K PySem.F.plainAttrs_str PySem.F.slot_str_join PySem.F.type_str_join (SG K) gA (aC (pI ["_law_n", "_law_hand_here"] 1 [0] ["_law_hand_here", "_law_many", "_law_found", "_law_k", "_law_size", "_law_name"] (aJ cX) rfl rfl rfl (fJ rfl T.eZ (aC (pv 4) aG)) (by decide +kernel) (fun _ => (bM (i := 0) (show (["_law_n", "_law_hand_here"] : List Str).Nodup by decide +kernel) rfl (Or.inl rfl))) (fun _ => h9) (fun _ => (cB (iF K hr) gA (cA T.bU G_law_take hr (by decide) rfl (aC (pv 1) (aC aK aG))) (fun _ _ => rfl)))) aG)))
   (aM (iC (cG (UJ K hr) (pv 5) (pv 2) (by rfl)) (aZ (bL (i := 5) fH.nd rfl (Or.inl rfl) (cB (iF K hr) (pI ["_law_n", "_law_found"] 1 [2] ["_law_hand_here", "_law_many", "_law_found", "_law_k", "_law_size", "_law_name"] (aJ cX) rfl rfl rfl (fJ rfl T.eZ (aC (bZ (j4 K) (eJ (zW K) (by rfl) T.kY mR (aC (pv 2) aG)) aK) aG)) (by decide +kernel) (fun _ => (bM (i := 0) (show (["_law_n", "_law_found"] : List Str).Nodup by decide +kernel) rfl (Or.inl rfl))) (fun _ => (oE (cG (nA K hr) (dJ oN (by rfl) T.uO GI (aC (pv 0) aG)) (pv 1) (by rfl)))) (fun _ => (dJ oN (by rfl) T.uO GI (aC (pv 0) aG)))) aK (fun _ _ => rfl)))) dU)
   (aZ (nU (pB K PySem.F.plainAttrs_list PySem.F.slot_list_append PySem.F.type_list_append gZ (pv 2) (aC (pv 5) aG))))))))
   (aZ (cN (pv 2))))), ?_⟩
  exact eI (g := lF) (aR (iM (dG aF))
   (aR (i5 (iH (aA (aB 1) aF)) (aY 3) (aR (bF (aI bY (dG (aA (aH 1) (aA (aH 1) (aA (aH 2) (aA (aH 3) (aA (aH 12) (aA (aI eP (aH 1) (aI jE (aB 3) (aH 12))) aF))))))) (aU (aA (aB 0) (aA (aH 6) aF)))))
   (aR (bF (RA MA (eN "") (aA (dQ [(0, 1)] (by rfl) (iH (aA (aB 4) aF)) (aY 0) fU (aI bY (eN "abcdefghijklmnopqrstuvwxyz0123456789") (aU (aA (aB 1) (aA (aH 36) aF))))) aF)))
   (aR (eB (bR (aI (kO false) (aB 5) (aB 2))) (bF (aI bY (dQ [] (by rfl) (iH (aA (aI eP (dF m4 (aA (aB 2) aF)) (aH 1)) aF)) (aY 0) (bR (aI (kO true) (dF BF (aA (aB 0) aF)) (aB 1))) (dF BF (aA (aB 0) aF))) (aH 0))) dC)
   (qM (aB 5))))))
   (cE (aB 2)))) rfl h
theorem eV : cR ["_law_hand_here", "_law_m", "_law_at", "_law_kind", "_law_day", "_law_row_here"] ["_law_hand_here", "_law_m"] (aJ cU) := ⟨rfl, rfl, rfl, by decide +kernel, rfl, by decide +kernel, by decide +kernel⟩
theorem sU (T : Txt K mg fs fds tc u) (G_law_take : cK P w K mg base hB 1 (fs 8) (fds 8) ["_law_hand_here", "_law_many"] (hZ K [.m, .b] false aO)) : cK P w K mg base hB 2 (fs 10) (fds 10) ["_law_hand_here", "_law_m"] (hZ K [.m, .b] false cF) := by
 refine T.gN.F.ok eV (fun vs H Q E h => ?_) (fun cdv A outer s H vs Q E hr h => ?_)
 ·obtain ⟨_, _, _, _, _, hl, _⟩ := h; exact hl
 ·refine ⟨_, (aM (bL (i := 2) eV.nd rfl (Or.inl rfl) (cA T.bU G_law_take hr (by decide) rfl (aC (pv 0) (aC (pv 1) aG))))
   (aM (bL (i := 3) eV.nd rfl (Or.inl rfl) (cA T.bU G_law_take hr (by decide) rfl (aC (pv 0) (aC aK aG))))
   (aM (bL (i := 4) eV.nd rfl (Or.inl rfl) (cA T.bU G_law_take hr (by decide) rfl (aC (pv 0) (aC (cB (iF K hr) (eG (aC aK (aC aK (aC aK (aC aK aG))))) (pv 3) (fun _ _ => rfl)) aG))))
   (aM (oM (i := 5) ["_law_n", "_law_hand_here", "_law_m"] 1 [0, 1] ["_law_hand_here", "_law_m", "_law_at", "_law_kind", "_law_day", "_law_row_here"] (aJ cU) rfl rfl rfl eV.nd rfl rfl (fJ rfl T.eZ (aC (cB (iF K hr) (eG (aC aK (aC aK (aC aK (aC aK (aC aK (aC aK aG))))))) (cA T.bU G_law_take hr (by decide) rfl (aC (pv 0) (aC aK aG))) (fun _ _ => rfl)) aG)) (by decide +kernel) (fun _ => (bM (i := 0) (show (["_law_n", "_law_hand_here", "_law_m"] : List Str).Nodup by decide +kernel) rfl (Or.inl rfl))) (fun _ => h9) (fun _ => (cA T.bU G_law_take hr (by decide) rfl (aC (pv 1) (aC (pv 2) aG)))))
   (aM (iC (cG (GU K hr) (cA T.bU G_law_take hr (by decide) rfl (aC (pv 0) (aC aK aG))) aK (eC _)) (aZ (bL (i := 5) eV.nd rfl (Or.inl rfl) (bZ (j4 K) (lD (S7 K) (pv 5) oK (nQ aK)) (eG (aC (bZ jF (bZ (j4 K) (pv 2) aK) (pv 1)) aG))))) dU)
   (aZ (cN (cJ (aC (pv 2) (aC (cB (iF K hr) (eG (aC (pv 4) (aC (bZ IY aK (pv 4)) aG))) (dJ CQ (by rfl) T.yV NG (aC (qF (GU K hr) (pv 3) aK (eC _)) aG)) (fun _ _ => rfl)) (aC (cB (iF K hr) (eG (aC gA (aC gA (aC gA aG)))) (cA T.bU G_law_take hr (by decide) rfl (aC (pv 0) (aC aK aG))) (fun _ _ => rfl)) (aC (pv 5) aG)))))))))))), ?_⟩
  exact eI (g := kE) (aR (bF (aU (aA (aB 0) (aA (aB 1) aF))))
   (aR (bF (aU (aA (aB 0) (aA (aH 4) aF))))
   (aR (bF (aU (aA (aB 0) (aA (aI bY (dG (aA (aH 1) (aA (aH 3) (aA (aH 2) (aA (aH 100000000) aF))))) (aB 3)) aF))))
   (aR (bF (dQ [(0, 1)] (by rfl) (iH (aA (aI bY (dG (aA (aH 0) (aA (aH 1) (aA (aH 1) (aA (aH 2) (aA (aH 3) (aA (aH 9) aF))))))) (aU (aA (aB 0) (aA (aH 6) aF)))) aF)) (aY 0) fU (aU (aA (aB 1) (aA (aB 2) aF)))))
   (aR (eB (bR (aI wV (aU (aA (aB 0) (aA (aH 4) aF))) (aH 0))) (bF (aI eP (rD xB (aB 5) iU (lB (aH 8))) (dG (aA (aI jE (aI eP (aB 2) (aH 1)) (aB 1)) aF)))) dC)
   (cE (bX (aA (aB 2) (aA (aI bY (dG (aA (aB 4) (aA (aI GX (aH 99999999) (aB 4)) aF))) (dF KW (aA (aI wV (aB 3) (aH 2)) aF))) (aA (aI bY (dG (aA (eN "") (aA (eN "walls") (aA (eN "Re: walls") aF)))) (aU (aA (aB 0) (aA (aH 3) aF)))) (aA (aB 5) aF))))))))))) rfl h
theorem fL : cR ["_law_hand_here", "_law_names_here", "_law_many", "_law_held", "_law_n", "_law_name", "_law_elder"] ["_law_hand_here", "_law_names_here", "_law_many"] (aJ dY) := ⟨rfl, rfl, rfl, by decide +kernel, rfl, by decide +kernel, by decide +kernel⟩
theorem vK (T : Txt K mg fs fds tc u) (G_law_take : cK P w K mg base hB 1 (fs 8) (fds 8) ["_law_hand_here", "_law_many"] (hZ K [.m, .b] false aO)) (G_law_climbs : cK P w K mg base hB 1 (fs 13) (fds 13) ["_law_held", "_law_here", "_law_name"] (hZ K [.b, .b, .b] false fX)) : cK P w K mg base hB 2 (fs 14) (fds 14) ["_law_hand_here", "_law_names_here", "_law_many"] (hZ K [.m, .b, .b] false fN) := by
 refine T.pK.F.ok fL (fun vs H Q E h => ?_) (fun cdv A outer s H vs Q E hr h => ?_)
 ·obtain ⟨_, _, _, _, _, hl, _⟩ := h; exact hl
 ·refine ⟨_, (aM (bL (i := 3) fL.nd rfl (Or.inl rfl) rE)
   (aM (jD PassesOwn.never rfl (fJ rfl T.eZ (aC (pv 2) aG)) (bM (i := 4) fL.nd rfl (Or.inl rfl)) (aM (bL (i := 5) fL.nd rfl (Or.inl rfl) (cB (iF K hr) (pv 1) (cA T.bU G_law_take hr (by decide) rfl (aC (pv 0) (aC (eJ (zW K) (by rfl) T.kY mR (aC (pv 1) aG)) aG))) (fun _ _ => rfl)))
   (aM (bL (i := 6) fL.nd rfl (Or.inl rfl) (cB (iF K hr) (pv 1) (cA T.bU G_law_take hr (by decide) rfl (aC (pv 0) (aC (eJ (zW K) (by rfl) T.kY mR (aC (pv 1) aG)) aG))) (fun _ _ => rfl)))
   (aM (iC (cG (GU K hr) (cA T.bU G_law_take hr (by decide) rfl (aC (pv 0) (aC aK aG))) aK (eC _)) (aZ (bL (i := 6) fL.nd rfl (Or.inl rfl) mW)) dU)
   (aZ (iC (PW.pt (u6 (cG (nA K hr) (pv 5) (pv 3) (by rfl)) (qE (IF (HE (cA T.oD G_law_climbs hr (by decide) rfl (aC (pv 3) (aC (pv 6) (aC (pv 5) aG))))))))) (aZ (B0 (IK hr) (pv 3) (pv 5) (pv 6) rfl)) dU))))))
   (aZ (cN (dJ (yR K) (by rfl) T.fI gJ (aC (eJ (sortI K hr) (by rfl) T.iB lV (aC (HG (pv 3)) aG)) aG)))))), ?_⟩
  exact eI (g := lG) (aR (iM xU)
   (aR (i5 (iH (aA (aB 2) aF)) (aY 4) (aR (bF (aI bY (aB 1) (aU (aA (aB 0) (aA (dF m4 (aA (aB 1) aF)) aF)))))
   (aR (bF (aI bY (aB 1) (aU (aA (aB 0) (aA (dF m4 (aA (aB 1) aF)) aF)))))
   (aR (eB (bR (aI wV (aU (aA (aB 0) (aA (aH 3) aF))) (aH 0))) (bF kC) dC)
   (eB (qH (bR (aI (kO true) (aB 5) (aB 3))) (A4 (G3 (aU (aA (aB 3) (aA (aB 6) (aA (aB 5) aF))))))) (yM (aB 6) (aB 5)) dC)))))
   (cE (dF jB (aA (DW (aB 3)) aF))))) rfl h
theorem iG : cR ["_law_pack_here", "_law_claim", "_law_name", "_law_kept", "_law_letter_here", "_law_later_here"] ["_law_pack_here", "_law_claim", "_law_name"] (aJ dX) := ⟨rfl, rfl, rfl, by decide +kernel, rfl, by decide +kernel, by decide +kernel⟩
theorem wO (T : Txt K mg fs fds tc u) (G_law_row : cK P w K mg base hB 1 (fs 15) (fds 15) ["_law_letter_here"] (hZ K [.b] false e9)) : cK P w K mg base hB 2 (fs 17) (fds 17) ["_law_pack_here", "_law_claim", "_law_name"] (hZ K [.b, .b, .b] false fO) := by
 refine T.pM.F.ok iG (fun vs H Q E h => ?_) (fun cdv A outer s H vs Q E hr h => ?_)
 ·obtain ⟨_, _, _, _, _, hl, _⟩ := h; exact hl
 ·refine ⟨_, (aM (bL (i := 3) iG.nd rfl (Or.inl rfl) (eG aG))
   (aM (jD PassesOwn.never rfl (hJ K (pv 0)) (bM (i := 4) iG.nd rfl (Or.inl rfl)) (aM (bL (i := 5) iG.nd rfl (Or.inl rfl) (R1 (qF (WX K hr) (cJ (aC (cB (iF K hr) (pv 4) aK (fun _ _ => rfl)) (aC (cB (iF K hr) (pv 4) aK (fun _ _ => rfl)) aG))) (pv 1) (eC _)) (N6 (qF (nA K hr) (pv 2) (lD (S7 K) (cA T.pE G_law_row hr (by decide) rfl (aC (pv 4) aG)) (nQ aK) oK) (by rfl)))))
   (aZ (iC (PW.pt (u6 (uD K (pv 5) (fun _ => rfl)) (qE (cG (wL K hr) (cB (iF K hr) (pv 4) aK (fun _ _ => rfl)) (pv 2) (eC _))))) (aZ (nU (pB K PySem.F.plainAttrs_list PySem.F.slot_list_append PySem.F.type_list_append gZ (pv 3) (aC (pv 4) aG)))) dU))))
   (aZ (cN (dJ (yR K) (by rfl) T.fI gJ (aC (pv 3) aG)))))), ?_⟩
  exact eI (g := kM) (aR (iM (dG aF))
   (aR (i5 (iE (aB 0)) (aY 4) (aR (bF (LD (aI OW (bX (aA (aI bY (aB 4) (aH 1)) (aA (aI bY (aB 4) (aH 0)) aF))) (aB 1)) (aI (kO true) (aB 2) (rD xB (aU (aA (aB 4) aF)) (lB (aH 1)) iU))))
   (eB (qH (A1 (aB 5)) (bR (aI nM (aI bY (aB 4) (aH 0)) (aB 2)))) (qM (aB 4)) dC)))
   (cE (dF jB (aA (aB 3) aF))))) rfl h
theorem jZ : cR ["pack", "marks", "names", "held", "rows", "claimed"] ["pack", "marks", "names"] (aJ eF) := ⟨rfl, rfl, rfl, by decide +kernel, rfl, by decide +kernel, by decide +kernel⟩
theorem z6 (T : Txt K mg fs fds tc u) (G_rows_of : cK P w K mg base hB 2 (fs 2) (fds 2) ["pack"] (hZ K [.b] false iV)) (G_claims_of : cK P w K mg base hB 2 (fs 3) (fds 3) ["pack"] (hZ K [.b] false gR)) (G_choice : cK P w K mg base hB 1 (fs 4) (fds 4) ["held", "rows", "claimed", "name"] (hZ K [.b, .b, .b, .b] false dM)) : cK P w K mg base hB 3 (fs 5) (fds 5) ["pack", "marks", "names"] (hZ K [.b, .b, .b] false iP) := by
 refine T.tR.F.ok jZ (fun vs H Q E h => ?_) (fun cdv A outer s H vs Q E hr h => ?_)
 ·obtain ⟨_, _, _, _, _, hl, _⟩ := h; exact hl
 ·refine ⟨_, (aM (bL (i := 3) jZ.nd rfl (Or.inr rfl) (FY ["name", "elder"] 2 [] ["pack", "marks", "names", "held", "rows", "claimed"] (aJ eF) rfl rfl rfl (hJ K (pv 1)) (by decide +kernel) (fun _ => (oR (n := 2) K rfl (dB (bM (i := 0) (show (["name", "elder"] : List Str).Nodup by decide +kernel) rfl (Or.inl rfl)) (dB (bM (i := 1) (show (["name", "elder"] : List Str).Nodup by decide +kernel) rfl (Or.inl rfl)) lO)))) (fun _ => h9) (fun _ => (pv 0)) (fun _ => (pv 1))))
   (aM (bL (i := 4) jZ.nd rfl (Or.inr rfl) (cA T.tX G_rows_of hr (by decide) rfl (aC (pv 0) aG)))
   (aM (bL (i := 5) jZ.nd rfl (Or.inr rfl) (cA T.pZ G_claims_of hr (by decide) rfl (aC (pv 0) aG)))
   (aZ (cN (FY ["name", "held", "rows", "claimed"] 1 [3, 4, 5] ["pack", "marks", "names", "held", "rows", "claimed"] (aJ eF) rfl rfl rfl (hJ K (pv 2)) (by decide +kernel) (fun _ => (bM (i := 0) (show (["name", "held", "rows", "claimed"] : List Str).Nodup by decide +kernel) rfl (Or.inl rfl))) (fun _ => h9) (fun _ => (pv 0)) (fun _ => (cA T.yG G_choice hr (by decide) rfl (aC (pv 1) (aC (pv 2) (aC (pv 3) (aC (pv 0) aG)))))))))))), ?_⟩
  exact eI (g := oZ) (aR (bF (nG [] (by rfl) (iE (aB 1)) (nX (cY (aY 0) (cY (aY 1) kS))) fU (aB 0) (aB 1)))
   (aR (bF (aU (aA (aB 0) aF)))
   (aR (bF (aU (aA (aB 0) aF)))
   (cE (nG [] (by rfl) (iE (aB 2)) (aY 0) fU (aB 0) (aU (aA (aB 1) (aA (aB 2) (aA (aB 3) (aA (aB 0) aF)))))))))) rfl h
theorem iQ : cR ["_law_script", "_law_hand_here", "_law_m", "_law_found", "_law_k"] ["_law_script", "_law_hand_here", "_law_m"] (aJ cL) := ⟨rfl, rfl, rfl, by decide +kernel, rfl, by decide +kernel, by decide +kernel⟩
theorem qZ (T : Txt K mg fs fds tc u) (G_law_letter : cK P w K mg base hB 2 (fs 10) (fds 10) ["_law_hand_here", "_law_m"] (hZ K [.m, .b] false cF)) (G_law_take : cK P w K mg base hB 1 (fs 8) (fds 8) ["_law_hand_here", "_law_many"] (hZ K [.m, .b] false aO)) (G_law_hand : cK P w K mg base hB 1 (fs 7) (fds 7) ["_law_script", "_law_k"] (hZ K [.b, .b] true eL)) : cK P w K mg base hB 3 (fs 11) (fds 11) ["_law_script", "_law_hand_here", "_law_m"] (hZ K [.b, .m, .b] false eK) := by
 refine T.mM.F.ok iQ (fun vs H Q E h => ?_) (fun cdv A outer s H vs Q E hr h => ?_)
 ·obtain ⟨_, _, _, _, _, hl, _⟩ := h; exact hl
 ·refine ⟨_, (aM (oM (i := 3) ["_law_n", "_law_hand_here", "_law_m"] 1 [1, 2] ["_law_script", "_law_hand_here", "_law_m", "_law_found", "_law_k"] (aJ cL) rfl rfl rfl iQ.nd rfl rfl (fJ rfl T.eZ (aC (cA T.bU G_law_take hr (by decide) rfl (aC (pv 1) (aC aK aG))) aG)) (by decide +kernel) (fun _ => (bM (i := 0) (show (["_law_n", "_law_hand_here", "_law_m"] : List Str).Nodup by decide +kernel) rfl (Or.inl rfl))) (fun _ => h9) (fun _ => (cA T.gN G_law_letter hr (by decide) rfl (aC (pv 1) (aC (pv 2) aG)))))
   (aM (jD PassesOwn.never rfl (DK rfl T.eZ (aC aK (aC (eJ (DZ rfl) (by rfl) T.uH JA (aC (eJ (zW K) (by rfl) T.kY mR (aC (pv 0) aG)) (aC aK aG))) aG))) (bM (i := 4) iQ.nd rfl (Or.inl rfl)) (aZ (nU (pB K PySem.F.plainAttrs_list PySem.F.slot_list_append PySem.F.type_list_append gZ (pv 3) (aC (cA T.gN G_law_letter hr (by decide) rfl (aC (cA T.nD G_law_hand hr (by decide) rfl (aC (pv 0) (aC (pv 4) aG))) (aC (pv 2) aG))) aG)))))
   (aZ (cN (pv 3))))), ?_⟩
  exact eI (g := jG) (aR (iM (dQ [(1, 1)] (by rfl) (iH (aA (aU (aA (aB 1) (aA (aH 13) aF))) aF)) (aY 0) fU (aU (aA (aB 1) (aA (aB 2) aF)))))
   (aR (i5 (LV (aA (aH 1) (aA (dF JQ (aA (dF m4 (aA (aB 0) aF)) (aA (aH 40) aF))) aF))) (aY 4) (qM (DQ 2 (aU (aA (aB 0) (aA (aB 4) aF))))))
   (cE (aB 3)))) rfl h
theorem CI : cR ["pack", "marks", "name"] ["pack", "marks", "name"] (aJ gP) := ⟨rfl, rfl, rfl, by decide +kernel, rfl, by decide +kernel, by decide +kernel⟩
theorem DM (T : Txt K mg fs fds tc u) (G_choices : cK P w K mg base hB 3 (fs 5) (fds 5) ["pack", "marks", "names"] (hZ K [.b, .b, .b] false iP)) : cK P w K mg base hB 4 (fs 6) (fds 6) ["pack", "marks", "name"] (hZ K [.b, .b, .v] false hV) := by
 refine T.oO.F.ok CI (fun vs H Q E h => ?_) (fun cdv A outer s H vs Q E hr h => ?_)
 ·obtain ⟨_, _, _, _, _, hl, _⟩ := h; exact hl
 ·refine ⟨_, (aZ (cN (cB (iF K hr) (cA T.tR G_choices hr (by decide) rfl (aC (pv 0) (aC (pv 1) (aC (cJ (aC (pv 2) aG)) aG)))) (pv 2) (fun _ _ => rfl)))), ?_⟩
  exact eI (g := qT) (cE (aI bY (aU (aA (aB 0) (aA (aB 1) (aA (bX (aA (aB 2) aF)) aF)))) (aB 2))) rfl h
theorem i7 : cR ["_law_packs", "_law_marks_here", "_law_name", "_law_due", "_law_others", "_law_pack_here", "_law_split"] ["_law_packs", "_law_marks_here", "_law_name", "_law_due"] (aJ d9) := ⟨rfl, rfl, rfl, by decide +kernel, rfl, by decide +kernel, by decide +kernel⟩
theorem xX (T : Txt K mg fs fds tc u) (G_chosen : cK P w K mg base hB 4 (fs 6) (fds 6) ["pack", "marks", "name"] (hZ K [.b, .b, .v] false hV)) : cK P w K mg base hB 5 (fs 18) (fds 18) ["_law_packs", "_law_marks_here", "_law_name", "_law_due"] (hZ K [.b, .b, .v, .b] false eM) := by
 refine T.mY.F.ok i7 (fun vs H Q E h => ?_) (fun cdv A outer s H vs Q E hr h => ?_)
 ·obtain ⟨_, _, _, _, _, hl, _⟩ := h; exact hl
 ·refine ⟨_, (aM (bL (i := 4) i7.nd rfl (Or.inl rfl) (dJ (yR K) (by rfl) T.fI gJ (aC (pI ["_law_mark", "_law_name"] 1 [2] ["_law_packs", "_law_marks_here", "_law_name", "_law_due", "_law_others", "_law_pack_here", "_law_split"] (aJ d9) rfl rfl rfl (hJ K (pv 1)) (by decide +kernel) (fun _ => (bM (i := 0) (show (["_law_mark", "_law_name"] : List Str).Nodup by decide +kernel) rfl (Or.inl rfl))) (fun _ => (oE (cG (wL K hr) (cB (iF K hr) (pv 0) aK (fun _ _ => rfl)) (pv 1) (eC _)))) (fun _ => (pv 0))) aG)))
   (aM (jD PassesOwn.never rfl (hJ K (pv 0)) (bM (i := 5) i7.nd rfl (Or.inl rfl)) (aM (iC (cG (wL K hr) (cA T.oO G_chosen hr (by decide) rfl (aC (pv 5) (aC (pv 4) (aC (pv 2) aG)))) (pv 3) (eC _)) (aZ (cN uQ)) dU)
   (aM (iC (cG (wL K hr) (cA T.oO G_chosen hr (by decide) rfl (aC (pv 5) (aC (cJ aG) (aC (pv 2) aG)))) (pv 3) (eC _)) (aZ (cN uQ)) dU)
   (aM (bL (i := 6) i7.nd rfl (Or.inl rfl) (dJ (yR K) (by rfl) T.fI gJ (aC (eJ (GK K hr) (by rfl) T.iB lV (aC (bZ (j4 K) (eG (aC (cJ (aC (pv 2) (aC mW aG))) aG)) (dJ (SR K) (by rfl) T.rT MC (aC (pv 4) aG))) aG)) aG)))
   (aZ (iC (cG (wL K hr) (cA T.oO G_chosen hr (by decide) rfl (aC (pv 5) (aC (pv 6) (aC (pv 2) aG)))) (cJ (aC mW (aC (cJ (aC gA aG)) aG))) (eC _)) (aZ (cN uQ)) dU))))))
   (aZ (cN uQ)))), ?_⟩
  exact eI (g := mQ) (aR (bF (dF jB (aA (dQ [] (by rfl) (iE (aB 1)) (aY 0) (bR (aI nM (aI bY (aB 0) (aH 0)) (aB 1))) (aB 0)) aF)))
   (aR (i5 (iE (aB 0)) (aY 5) (aR (eB (bR (aI nM (aU (aA (aB 5) (aA (aB 4) (aA (aB 2) aF)))) (aB 3))) (cE (pC false)) dC)
   (aR (eB (bR (aI nM (aU (aA (aB 5) (aA (bX aF) (aA (aB 2) aF)))) (aB 3))) (cE (pC false)) dC)
   (aR (bF (dF jB (aA (dF sQ (aA (aI eP (dG (aA (bX (aA (aB 2) (aA kC aF))) aF)) (dF IJ (aA (aB 4) aF))) aF)) aF)))
   (eB (bR (aI nM (aU (aA (aB 5) (aA (aB 6) (aA (aB 2) aF)))) (bX (aA kC (aA (bX (aA (eN "hand") aF)) aF))))) (cE (pC false)) dC)))))
   (cE (pC true)))) rfl h
theorem eD : cR ["_law_script", "_law_hand_here", "_law_m", "_law_many", "_law_day", "_law_mine", "_law_letters_here", "_law_others", "_law_names_here", "_law_marks_here", "_law_packs", "_law_own", "_law_row_here", "_law_due", "_law_known", "_law_name", "_law_elder", "_law_one", "_law_teller", "_law_kept"] ["_law_script"] (aJ gW) := ⟨rfl, rfl, rfl, by decide +kernel, rfl, by decide +kernel, by decide +kernel⟩
theorem OB (T : Txt K mg fs fds tc u) (G_law_hand : cK P w K mg base hB 1 (fs 7) (fds 7) ["_law_script", "_law_k"] (hZ K [.b, .b] true eL)) (G_law_take : cK P w K mg base hB 1 (fs 8) (fds 8) ["_law_hand_here", "_law_many"] (hZ K [.m, .b] false aO)) (G_law_letter : cK P w K mg base hB 2 (fs 10) (fds 10) ["_law_hand_here", "_law_m"] (hZ K [.m, .b] false cF)) (G_law_letters : cK P w K mg base hB 3 (fs 11) (fds 11) ["_law_script", "_law_hand_here", "_law_m"] (hZ K [.b, .m, .b] false eK)) (G_law_names : cK P w K mg base hB 2 (fs 9) (fds 9) ["_law_hand_here", "_law_many"] (hZ K [.m, .b] false fF)) (G_law_marks : cK P w K mg base hB 2 (fs 14) (fds 14) ["_law_hand_here", "_law_names_here", "_law_many"] (hZ K [.m, .b, .b] false fN)) (G_law_row : cK P w K mg base hB 1 (fs 15) (fds 15) ["_law_letter_here"] (hZ K [.b] false e9)) (G_law_goes : cK P w K mg base hB 5 (fs 18) (fds 18) ["_law_packs", "_law_marks_here", "_law_name", "_law_due"] (hZ K [.b, .b, .v, .b] false eM)) (G_law_pack : cK P w K mg base hB 1 (fs 12) (fds 12) ["_law_letters_here", "_law_names_here"] (hZ K [.b, .b] false cS)) (G_law_among : cK P w K mg base hB 1 (fs 16) (fds 16) ["_law_letter_here", "_law_pack_here"] (hZ K [.v, .b] false dZ)) (G_law_later : cK P w K mg base hB 2 (fs 17) (fds 17) ["_law_pack_here", "_law_claim", "_law_name"] (hZ K [.b, .b, .b] false fO)) : cK P w K mg base hB 6 (fs 19) (fds 19) ["_law_script"] (hZ K [.b] false vD) := by
 refine T.TJ.F.ok eD (fun vs H Q E h => ?_) (fun cdv A outer s H vs Q E hr h => ?_)
 ·obtain ⟨_, _, _, _, _, hl, _⟩ := h; exact hl
 ·refine ⟨_, (aM (bL (i := 1) eD.nd rfl (Or.inr rfl) (cA T.nD G_law_hand hr (by decide) rfl (aC (pv 0) (aC aK aG))))
   (aM (bL (i := 2) eD.nd rfl (Or.inr rfl) (bZ (j4 K) aK (cA T.bU G_law_take hr (by decide) rfl (aC (pv 1) (aC (cB (iF K hr) (eG (aC aK (aC aK aG))) (cA T.bU G_law_take hr (by decide) rfl (aC (pv 1) (aC aK aG))) (fun _ _ => rfl)) aG)))))
   (aM (bL (i := 3) eD.nd rfl (Or.inl rfl) (cA T.bU G_law_take hr (by decide) rfl (aC (pv 1) (aC aK aG))))
   (aM (bL (i := 4) eD.nd rfl (Or.inr rfl) (cA T.bU G_law_take hr (by decide) rfl (aC (pv 1) (aC (cB (iF K hr) (eG (aC aK (aC aK (aC aK aG)))) (cA T.bU G_law_take hr (by decide) rfl (aC (pv 1) (aC aK aG))) (fun _ _ => rfl)) aG))))
   (aM (bL (i := 5) eD.nd rfl (Or.inl rfl) (cA T.gN G_law_letter hr (by decide) rfl (aC (pv 1) (aC (pv 2) aG))))
   (aM (bL (i := 6) eD.nd rfl (Or.inl rfl) (cA T.mM G_law_letters hr (by decide) rfl (aC (pv 0) (aC (pv 1) (aC (pv 2) aG)))))
   (aM (oM (i := 7) ["_law_n", "_law_hand_here", "_law_m"] 1 [1, 2] ["_law_script", "_law_hand_here", "_law_m", "_law_many", "_law_day", "_law_mine", "_law_letters_here", "_law_others", "_law_names_here", "_law_marks_here", "_law_packs", "_law_own", "_law_row_here", "_law_due", "_law_known", "_law_name", "_law_elder", "_law_one", "_law_teller", "_law_kept"] (aJ gW) rfl rfl rfl eD.nd rfl rfl (fJ rfl T.eZ (aC (cA T.bU G_law_take hr (by decide) rfl (aC (pv 1) (aC aK aG))) aG)) (by decide +kernel) (fun _ => (bM (i := 0) (show (["_law_n", "_law_hand_here", "_law_m"] : List Str).Nodup by decide +kernel) rfl (Or.inl rfl))) (fun _ => h9) (fun _ => (cA T.gN G_law_letter hr (by decide) rfl (aC (pv 1) (aC (pv 2) aG)))))
   (aM (bL (i := 8) eD.nd rfl (Or.inl rfl) (cA T.pG G_law_names hr (by decide) rfl (aC (pv 1) (aC (pv 2) aG))))
   (aM (bL (i := 9) eD.nd rfl (Or.inl rfl) (cA T.pK G_law_marks hr (by decide) rfl (aC (pv 1) (aC (pv 8) (aC (pv 3) aG)))))
   (aM (bL (i := 10) eD.nd rfl (Or.inl rfl) (eG (aC (cA T.kD G_law_pack hr (by decide) rfl (aC (pv 6) (aC (pv 8) aG))) (aC (cA T.kD G_law_pack hr (by decide) rfl (aC (pv 7) (aC (pv 8) aG))) aG))))
   (aM (bL (i := 11) eD.nd rfl (Or.inr rfl) (cB (iF K hr) (cA T.kD G_law_pack hr (by decide) rfl (aC (eG (aC (pv 5) aG)) (aC (pv 8) aG))) aK (fun _ _ => rfl)))
   (aM (bL (i := 12) eD.nd rfl (Or.inl rfl) (cA T.pE G_law_row hr (by decide) rfl (aC (pv 11) aG)))
   (aM (bL (i := 13) eD.nd rfl (Or.inl rfl) (nZ (cG (wL K hr) (pv 12) (eG aG) (eC _)) (cJ (aC (cB (iF K hr) (pv 12) (M4 FH aK) (fun _ _ => rfl)) (aC (cJ (aC gA aG)) aG))) (cJ (aC mW (aC (cJ (aC gA aG)) aG)))))
   (aM (bL (i := 14) eD.nd rfl (Or.inl rfl) (bZ (j4 K) (pI ["_law_pack_here", "_law_own"] 1 [11] ["_law_script", "_law_hand_here", "_law_m", "_law_many", "_law_day", "_law_mine", "_law_letters_here", "_law_others", "_law_names_here", "_law_marks_here", "_law_packs", "_law_own", "_law_row_here", "_law_due", "_law_known", "_law_name", "_law_elder", "_law_one", "_law_teller", "_law_kept"] (aJ gW) rfl rfl rfl (hJ K (pv 10)) (by decide +kernel) (fun _ => (bM (i := 0) (show (["_law_pack_here", "_law_own"] : List Str).Nodup by decide +kernel) rfl (Or.inl rfl))) (fun _ => h9) (fun _ => (cA T.kP G_law_among hr (by decide) rfl (aC (pv 1) (aC (pv 0) aG))))) (eG (aC (cJ (aC (pv 11) aG)) aG))))
   (aM (iC (IF (HE (cA T.mY G_law_goes hr (by decide) rfl (aC (pv 14) (aC (pv 9) (aC (cB (iF K hr) (pv 11) aK (fun _ _ => rfl)) (aC (pv 13) aG))))))) (aZ (cN uQ)) dU)
   (aM (wH (lD (S7 K) (pv 8) oK (nQ aK)) (JX (n := 3) K rfl (dB (bM (i := 15) eD.nd rfl (Or.inr rfl)) (dB (bM (i := 16) eD.nd rfl (Or.inl rfl)) (dB (bM (i := 17) eD.nd rfl (Or.inr rfl)) lO)))))
   (aM (bL (i := 18) eD.nd rfl (Or.inr rfl) (cJ (aC (pv 17) (aC (pv 4) (aC gA (aC (cJ (aC (pv 16) (aC (pv 15) aG))) aG))))))
   (aM (oM (i := 19) ["_law_pack_here", "_law_teller", "_law_day", "_law_one", "_law_name"] 1 [18, 4, 17, 15] ["_law_script", "_law_hand_here", "_law_m", "_law_many", "_law_day", "_law_mine", "_law_letters_here", "_law_others", "_law_names_here", "_law_marks_here", "_law_packs", "_law_own", "_law_row_here", "_law_due", "_law_known", "_law_name", "_law_elder", "_law_one", "_law_teller", "_law_kept"] (aJ gW) rfl rfl rfl eD.nd rfl rfl (hJ K (pv 10)) (by decide +kernel) (fun _ => (bM (i := 0) (show (["_law_pack_here", "_law_teller", "_law_day", "_law_one", "_law_name"] : List Str).Nodup by decide +kernel) rfl (Or.inl rfl))) (fun _ => h9) (fun _ => (cA T.kP G_law_among hr (by decide) rfl (aC (pv 1) (aC (cA T.pM G_law_later hr (by decide) rfl (aC (pv 0) (aC (cJ (aC (pv 2) (aC (pv 3) aG))) (aC (pv 4) aG)))) aG)))))
   (aZ (cN (cA T.mY G_law_goes hr (by decide) rfl (aC (bZ (j4 K) (pv 19) (eG (aC (cJ (aC (pv 18) aG)) aG))) (aC (pv 9) (aC (pv 15) (aC (cJ (aC (pv 16) (aC (cJ (aC gA (aC (pv 17) (aC aK aG)))) aG))) aG))))))))))))))))))))))))), ?_⟩
  exact eI (g := EH) (aR (iM (aU (aA (aB 0) (aA (aH 0) aF))))
   (aR (bF (aI eP (aH 3) (aU (aA (aB 1) (aA (aI bY (dG (aA (aH 4) (aA (aH 10) aF))) (aU (aA (aB 1) (aA (aH 2) aF)))) aF)))))
   (aR (bF (aU (aA (aB 1) (aA (aH 7) aF))))
   (aR (bF (aU (aA (aB 1) (aA (aI bY (dG (aA (aH 1) (aA (aH 3) (aA (aH 100000000) aF)))) (aU (aA (aB 1) (aA (aH 3) aF)))) aF))))
   (aR (bF (aU (aA (aB 1) (aA (aB 2) aF))))
   (aR (bF (aU (aA (aB 0) (aA (aB 1) (aA (aB 2) aF)))))
   (aR (bF (dQ [(1, 1)] (by rfl) (iH (aA (aU (aA (aB 1) (aA (aH 9) aF))) aF)) (aY 0) fU (aU (aA (aB 1) (aA (aB 2) aF)))))
   (aR (bF (aU (aA (aB 1) (aA (aB 2) aF))))
   (aR (bF (aU (aA (aB 1) (aA (aB 8) (aA (aB 3) aF)))))
   (aR (bF (dG (aA (aU (aA (aB 6) (aA (aB 8) aF))) (aA (aU (aA (aB 7) (aA (aB 8) aF))) aF))))
   (aR (bF (aI bY (aU (aA (dG (aA (aB 5) aF)) (aA (aB 8) aF))) (aH 0)))
   (aR (bF (aU (aA (aB 11) aF)))
   (aR (bF (vM (bR (aI nM (aB 12) (dG aF))) (bX (aA (aI bY (aB 12) (HQ IX (aH 1))) (aA (bX (aA (eN "own") aF)) aF))) (bX (aA kC (aA (bX (aA (eN "first") aF)) aF)))))
   (aR (bF (aI eP (dQ [] (by rfl) (iE (aB 10)) (aY 0) fU (aU (aA (aB 1) (aA (aB 0) aF)))) (dG (aA (bX (aA (aB 11) aF)) aF))))
   (aR (eB (A4 (G3 (aU (aA (aB 14) (aA (aB 9) (aA (aI bY (aB 11) (aH 0)) (aA (aB 13) aF))))))) (cE (pC false)) dC)
   (aR (BS (rD xB (aB 8) iU (lB (aH 3))) (D9 (cY (aY 15) (cY (aY 16) (cY (aY 17) kS)))))
   (aR (bF (bX (aA (aB 17) (aA (aB 4) (aA (eN "") (aA (bX (aA (aB 16) (aA (aB 15) aF))) aF))))))
   (aR (bF (dQ [] (by rfl) (iE (aB 10)) (aY 0) fU (aU (aA (aB 1) (aA (aU (aA (aB 0) (aA (bX (aA (aB 2) (aA (aB 3) aF))) (aA (aB 4) aF)))) aF)))))
   (cE (aU (aA (aI eP (aB 19) (dG (aA (bX (aA (aB 18) aF)) aF))) (aA (aB 9) (aA (aB 15) (aA (bX (aA (aB 16) (aA (bX (aA (eN "told") (aA (aB 17) (aA (aH 1) aF)))) aF))) aF)))))))))))))))))))))))) rfl h
end
local macro_rules | `(tactic| walk_at "wp") => `(tactic| simp only [OI, jO, jS, dD, qL, fD, wp_seq, wp_call, EC, KH, UR, VD, KJ, NL, V2, SQ, TV, N4, JY, S1, SJ, NQ, QR, LI, PY, SF, PU, MD, PF, TB, CH, L8, RX, JI, NO, R9, OP, JK, O9, EA, LA, IV, MH, GL, KO, OM, RO, PJ, P9, MJ, OK, K7, zL, sY, HK, lY, zX, List.replicate, List.cons_append, List.nil_append, rel, iD, putL, getL, CL, zQ, cP, mN, Mr.resB, mC, nF, wA, vG, Bv.weak, Bv.get, Bv.put, rd, Sl.pv, ownAt, dA, KU, TX, pU, VC, VY, VM, VW, UU, VH, U8, U2, VO, VT, UD, UK, at2, WY, fZ, Mr.w5, pD, HF, lZ, p5, EM, gT, HB, FJ, FD, gI, QP, JL, D7, DP, QL, QH, UB, T9, UE, ID, UY, isNone, J7, sH, kT, uV, BL, xA, xK, kdOf, UZ, PH, gU, Q8, N5, OT, PL, P1, Q9, NP, OD, Q7, Q5, P2, NZ, OA, OY, z8, OU, QG, Q1, QT, PD, OV, o9, Q0, O1, NT, O4, O2, PB, FW, QJ, QO, OF, N2, OG, QM, OX, A6, MI, J1, L0, AD, List.getElem?_cons_zero, List.getElem?_cons_succ, List.set_cons_zero, List.set_cons_succ, List.zipIdx_cons, List.zipIdx_nil, List.map_cons, List.map_nil, List.all_nil, List.all_cons, List.contains_nil, List.contains_cons, List.any_nil, List.any_cons, List.nodup_cons, List.nodup_nil, List.not_mem_nil, List.mem_cons, not_false_eq_true, and_true, true_and, decide_true, decide_false, Bool.and_self, Bool.and_true, Bool.true_and, Bool.not_true, Bool.not_false, if_true, if_false, ite_true, ite_false, Option.or_some, Option.none_or, Option.some_or, Option.or_none, decide_eq_true_eq, decide_eq_false_iff_not, Bool.and_eq_true, reduceCtorEq, Bool.false_eq_true, List.length_cons, List.length_nil, Nat.reduceAdd, Nat.reduceLT, Int.reduceLT, Int.reduceLE, PV.int.injEq, PV.str.injEq, PV.bl.injEq, Option.some.injEq, E9, beq_self_eq_true, Bool.or_false, Bool.or_true, Bool.true_or, Bool.false_or, Bool.false_and, Bool.and_false, Nat.reduceBEq, List.length_map, List.length_range, Int.reduceToNat, and_self, true_implies, forall_const, Int.reduceAdd, Int.reduceNeg, EZ, pO, O3, keyOf, II, Option.getD_none, Option.getD_some, K9, JN, IW, LL, EE, E6, BP, BK, LW, R7, JH, R0, R3, PR, P0, CS, PC, OJ, JP])
section
open PySem L2 Mr
noncomputable abbrev hd (a b c : Int) : PV := .lst [.int a, .int b, .int c]
structure Hand (a b c : Int) (n : Nat) : Prop where
 a0 : 0 ≤ a
 b0 : 0 ≤ b
 b1 : b < 2305843009213693921
 c0 : 0 ≤ c
 c1 : c ≤ n
theorem Hand.mono {a b c : Int} {n m : Nat} (h : Hand a b c n) (l : n ≤ m) : Hand a b c m := ⟨h.a0, h.b0, h.b1, h.c0, by have := h.c1; omega⟩
theorem LX {i j : Int} (h0 : 0 ≤ i) (h1 : i < 18446744073709551616) : uI i j = true := decide_eq_true (.inl ⟨by omega, h1⟩)
theorem mulR {i j : Int} (h0 : 0 ≤ j) (h1 : j < 18446744073709551616) : uI i j = true := decide_eq_true (.inr ⟨by omega, h1⟩)
theorem dE {a b c m : Int} {n : Nat} {Q : PV × List PV → Prop} (h : Hand a b c n) (hn : n < 1000000) (m0 : 0 < m) (m1 : m < 1073741824) (q : ∀ d a' b' c', 0 ≤ d → d < m → Hand a' b' c' (n + 1) → Q (.int d, [hd a' b' c'])) : Wp (aO [hd a b c, .int m]) Q := by
 unfold aO mZ
 have a0 := h.a0
 have b0 := h.b0
 have b1 := h.b1
 have c0 := h.c0
 have c1 := h.c1
 walk_at "wp"
 refine ⟨fun ha => ⟨m0, ⟨m0, by omega⟩, q _ _ _ _ (Int.emod_nonneg _ (by omega)) (Int.emod_lt_of_pos _ m0) ⟨Int.ediv_nonneg a0 (by omega), b0, b1, c0, by omega⟩⟩, fun ha => ⟨LX (by decide) (by decide), mulR (by omega) (by omega), mulR (by decide) (by decide), LX (by decide) (by decide), LX (Int.emod_nonneg _ (by decide)) ?_, m0, q _ _ _ _ (Int.emod_nonneg _ (by omega)) (Int.emod_lt_of_pos _ m0) ⟨a0, b0, b1, by omega, by omega⟩⟩⟩
 have := Int.emod_lt_of_pos ((b + 65537 * (c + 1) * (c + 1) + 11) * 48271) (show (0 : Int) < 2305843009213693921 by decide)
 omega
theorem fK {xs : List PV} {k : Int} {Q : PV → Prop} (h0 : 0 ≤ k) (h1 : k < (xs.length : Int)) (q : ∀ x ∈ xs, Q x) : Wp (oS xs k) Q := by
 obtain ⟨c, hc, e⟩ := KD h0 h1
 exact ⟨c, e, q c hc⟩
noncomputable def kB : FS := (bK (cH 3 (KZ (cT (bS UE (aE 2) (bS p5 (fC (.int 10)) (fC (.int 18))))) (bS lZ (aE 2) (bS pO (bS pO (bS pO (bS p5 (fC (.int 10)) (fC (.int 60))) (bS p5 (fC (.int 10)) (fC (.int 60)))) (bS p5 (fC (.int 10)) (fC (.int 60)))) (bS p5 (fC (.int 10)) (fC (.int 60))))) (fC (.int 0))))
  (fG (fM (aD (aE 3) (aD (bS lZ (bS pD (bS gT (bS gT (bS lZ (aE 2) (fC (.int 2305843009213693951))) (bS pD (bS pD (fC (.int 7919)) (aE 1)) (aE 1))) (fC (.int 3))) (fC (.int 48271))) (fC (.int 2305843009213693921))) (aD (fC (.int 0)) aN))))))
theorem v8 : mS = (bK (cH 2 (KZ (cT (bS UB (aE 1) (oU sH (aD (aE 0) aN)))) (bS fZ (aE 0) (aE 1)) (fC (.int 0))))
  kB) := rfl
theorem tT {x k : Int} {v0 v3 : Option Sl} {Q : Out → Prop} (k0 : 0 ≤ k) (k1 : k < 1000) (q : ∀ a b v0 v1 v2 v3, Hand a b 0 0 → Q (.rt (.new (hd a b 0)) [v0, v1, v2, v3])) : Wp (kB [v0, some (.val (.int k)), some (.val (.int x)), v3]) Q := by
 unfold kB
 walk_at "wp"
 have r0 : 0 ≤ x % 2305843009213693951 := Int.emod_nonneg _ (by decide)
 have r1 : x % 2305843009213693951 < 2305843009213693951 := Int.emod_lt_of_pos _ (by decide)
 have kk : 0 ≤ 7919 * k * k := Int.mul_nonneg (by omega) k0
 have m1 : uI 7919 k = true := LX (by decide) (by decide)
 have m2 : uI (7919 * k) k = true := mulR k0 (by omega)
 have m3 : uI (x % 2305843009213693951 + 7919 * k * k + 3) 48271 = true := mulR (by decide) (by decide)
 have b0 : 0 ≤ (x % 2305843009213693951 + 7919 * k * k + 3) * 48271 % 2305843009213693921 := Int.emod_nonneg _ (by decide)
 have b1 : (x % 2305843009213693951 + 7919 * k * k + 3) * 48271 % 2305843009213693921 < 2305843009213693921 := Int.emod_lt_of_pos _ (by decide)
 refine ⟨by decide +kernel, fun hx => ⟨by decide +kernel, by decide +kernel, by decide +kernel, by decide +kernel, by decide +kernel, by decide +kernel, by decide +kernel, by decide +kernel, m1, m2, m3, q _ _ _ _ _ _ ⟨Int.emod_nonneg _ (by decide +kernel), b0, b1, by decide, by decide⟩⟩, fun hx => ⟨m1, m2, m3, q _ _ _ _ _ _ ⟨by decide, b0, b1, by decide, by decide⟩⟩⟩
theorem BC {ns : List Int} {k : Int} {Q : PV × List PV → Prop} (k0 : 0 ≤ k) (k1 : k < 1000) (hn : ns.length ≤ 63) (q : ∀ a b, Hand a b 0 0 → Q (hd a b 0, [])) : Wp (eL [.lst (ns.map PV.int), .int k]) Q := by
 unfold eL
 rw [v8]
 walk_at "wp"
 refine ⟨fun g => ?_, fun g => ?_⟩
 ·refine fK k0 (by rw [List.length_map]; exact g) fun p hp => ?_
  obtain ⟨c, _, rfl⟩ := List.mem_map.mp hp
  walk_at "wp"
  refine tT k0 k1 fun a b v0 v1 v2 v3 h => ?_
  walk_at "wp"
  exact q a b h
 ·refine tT k0 k1 fun a b v0 v1 v2 v3 h => ?_
  walk_at "wp"
  exact q a b h
end
section
open PySem L2 Mr
noncomputable def sg : Str := "abcdefghijklmnopqrstuvwxyz0123456789"
theorem atS {Z : Str} {d : Int} {Q : Nat → Prop} (h0 : 0 ≤ d) (h : d < (Z.length : Int)) (q : ∀ c ∈ Z.cps.toList, Q c) : Wp (oS Z.cps.toList d) Q := by
 obtain ⟨c, hc, e⟩ := FZ h0 h
 exact ⟨c, e, q c hc⟩
theorem HM {a b c : Int} {n : Nat} {s : Option Sl} {xs : List PV} {Q : List PV × En → Prop} (hp : Hand a b c n) (hn : n + xs.length < 1000000)
  (q : ∀ (zs : List Str) s' a' b' c', zs.length = xs.length → (∀ z ∈ zs, ∃ k ∈ sg.cps.toList, z = ⟨#[k]⟩) → Hand a' b' c' (n + xs.length) → Q (zs.map PV.str, [s', some (.own (hd a' b' c'))])) :
  Wp (kG (bH 0) gC (bS fZ (fC (.str "abcdefghijklmnopqrstuvwxyz0123456789")) (aW [.m, .b] false aO (aD (aE 1) (aD (fC (.int 36)) aN)))) xs [s, some (.own (hd a b c))]) Q := by
 refine gL (fun i acc e => ∃ (zs : List Str) (s : Option Sl) (a b c : Int), acc = zs.map PV.str ∧ zs.length = i ∧ (∀ z ∈ zs, ∃ k ∈ sg.cps.toList, z = ⟨#[k]⟩) ∧ e = [s, some (.own (hd a b c))] ∧ Hand a b c (n + i)) ?_ ?_ ⟨[], s, a, b, c, rfl, rfl, fun _ h => (nomatch h), rfl, hp⟩
 ·rintro i x e acc hx ⟨zs, s, a, b, c, rfl, hl', hz, rfl, hp⟩
  have hi := (List.getElem?_eq_some_iff.mp hx).1
  walk_at "wp"
  refine dE hp (by omega) (by decide) (by decide) fun d a' b' c' d0 d1 hp' => ?_
  walk_at "wp"
  refine ⟨by decide +kernel, ?_⟩
  refine atS d0 (Int.lt_of_lt_of_le d1 (by decide +kernel)) fun k hk => ?_
  walk_at "wp"
  exact ⟨zs ++ [⟨#[k]⟩], _, a', b', c', by rw [List.map_append]; rfl, by rw [List.length_append, hl']; rfl, fun z hz' => (List.mem_append.mp hz').elim (hz z) fun h => ⟨k, hk, List.mem_singleton.mp h⟩, rfl, hp'⟩
 ·rintro acc e ⟨zs, s, a, b, c, rfl, hl', hz, rfl, hp⟩
  exact q zs s a b c hl' hz hp
theorem KR {zs : List Str} (h : ∀ z ∈ zs, ∃ k ∈ sg.cps.toList, z = ⟨#[k]⟩) : (zs.map (·.length)).sum = zs.length := by
 induction zs with
 | nil => rfl
 | cons z zs ih =>
  obtain ⟨k, _, rfl⟩ := h z List.mem_cons_self
  rw [List.map_cons, List.sum_cons, List.length_cons, ih fun w hw => h w (List.mem_cons_of_mem _ hw)]
  show 1 + _ = _
  omega
theorem e0 : (Str.ofString "").length = 0 := by decide +kernel
theorem KL {zs : List Str} {Q : Bv → Prop} (h : ∀ z ∈ zs, ∃ k ∈ sg.cps.toList, z = ⟨#[k]⟩) (hs : zs.length < 1000) (q : ∀ x : Str, x.length ≤ zs.length → Q (.val (.str x))) :
  Wp (w6 (.str (Str.ofString "")) [.lst (zs.map PV.str)]) Q := by
 have l1 := KR h
 have l2 : (Txt.join (Str.ofString "") zs).length ≤ (zs.map (·.length)).sum := joined
 unfold w6
 simp only [CZ, jS, dD, fD, decide_eq_true_eq, e0]
 exact ⟨by omega, q _ (by omega)⟩
theorem G5 {α : Type} [DecidableEq α] : ∀ {l m : List α}, l.Nodup → (∀ x ∈ l, x ∈ m) → l.length ≤ m.length
 | [], m, _, _ => Nat.zero_le _
 | x :: l, m, hn, h => by
  have hx := h x List.mem_cons_self
  rw [List.nodup_cons] at hn
  have := G5 (l := l) (m := m.erase x) hn.2 fun y hy => (List.mem_erase_of_ne (fun e : y = x => hn.1 (by rw [← e]; exact hy))).mpr (h y (List.mem_cons_of_mem _ hy))
  rw [List.length_erase_of_mem hx] at this
  have : 0 < m.length := List.length_pos_of_mem hx
  rw [List.length_cons]
  omega
noncomputable abbrev sN (k : Nat) : Str := toString (0 + (k : Int))
theorem HU : ((List.range 64).map sN).Nodup := by decide +kernel
theorem J2 {ss : List Str} (h : ss.length < 63) : ∃ k ∈ List.range (ss.length + 1), sN k ∉ ss := by
 refine Classical.byContradiction fun no => ?_
 have all : ∀ x ∈ (List.range (ss.length + 1)).map sN, x ∈ ss := fun x hx => by
  obtain ⟨k, hk, rfl⟩ := List.mem_map.mp hx
  exact Classical.byContradiction fun z => no ⟨k, hk, z⟩
 have nd : ((List.range (ss.length + 1)).map sN).Nodup := by
  have e : List.range (ss.length + 1) = (List.range 64).take (ss.length + 1) := by rw [List.take_range]; congr 1; omega
  rw [e, List.map_take]
  exact HU.sublist (List.take_sublist _ _)
 have := G5 nd all
 rw [List.length_map, List.length_range] at this
 omega
theorem PQ : ∀ k ∈ List.range 64, (sN k).length ≤ 2 := by decide +kernel
end
section
open PySem L2 Mr
theorem oH {ss : List Str} {x : Str} : ((ss.map PV.str).any fun z => bT z (PV.str x)) = decide (x ∈ ss) := by
 rw [Bool.eq_iff_iff, List.any_eq_true, decide_eq_true_eq]
 constructor
 ·rintro ⟨p, hp, e⟩
  obtain ⟨y, hy, rfl⟩ := List.mem_map.mp hp
  rw [o9] at e
  rw [← eq_of_beq e]
  exact hy
 ·intro h
  exact ⟨.str x, List.mem_map.mpr ⟨x, h, rfl⟩, by rw [o9]; exact beq_self_eq_true x⟩
theorem tW {j : Nat} (h : j < 64) : (0 + (j : Int)).natAbs.log2 < 1920 := by
 rw [Int.zero_add, Int.natAbs_natCast]
 exact Nat.lt_of_le_of_lt (Nat.log2_le_self j) (by omega)
end
section
open PySem L2 Mr
structure xE where
 at' : Int
 day : Int
 head : Str
 row : List Int
noncomputable def BH (l : xE) : PV := .tup [.int l.at', .int l.day, .str l.head, .lst (l.row.map PV.int)]
structure MU (m : Int) (l : xE) : Prop where
 a0 : 0 ≤ l.at'
 a1 : l.at' < m
 r : ∀ x ∈ l.row, 0 ≤ x ∧ x < m
 n : l.row.length ≤ 9
theorem K3 {a b c m : Int} {n : Nat} {s : Option Sl} {xs : List PV} {Q : List PV × En → Prop} (hp : Hand a b c n) (m0 : 0 < m) (m1 : m ≤ 64) (hn : n + xs.length < 1000000)
  (q : ∀ (zs : List Int) s' a' b' c', zs.length = xs.length → (∀ z ∈ zs, 0 ≤ z ∧ z < m) → Hand a' b' c' (n + xs.length) → Q (zs.map PV.int, [s', some (.own (hd a' b' c')), some (.val (.int m))])) :
  Wp (kG (bH 0) gC (aW [.m, .b] false aO (aD (aE 1) (aD (aE 2) aN))) xs [s, some (.own (hd a b c)), some (.val (.int m))]) Q := by
 refine gL (fun i acc e => ∃ (zs : List Int) (s : Option Sl) (a b c : Int), acc = zs.map PV.int ∧ zs.length = i ∧ (∀ z ∈ zs, 0 ≤ z ∧ z < m) ∧ e = [s, some (.own (hd a b c)), some (.val (.int m))] ∧ Hand a b c (n + i)) ?_ ?_ ⟨[], s, a, b, c, rfl, rfl, fun _ h => (nomatch h), rfl, hp⟩
 ·rintro i x e acc hx ⟨zs, s, a, b, c, rfl, hl', hz, rfl, hp⟩
  have hi := (List.getElem?_eq_some_iff.mp hx).1
  walk_at "wp"
  refine dE hp (by omega) m0 (by omega) fun d a' b' c' d0 d1 hp' => ?_
  walk_at "wp"
  exact ⟨zs ++ [d], _, a', b', c', by rw [List.map_append]; rfl, by rw [List.length_append, hl']; rfl, fun z hz' => (List.mem_append.mp hz').elim (hz z) fun h => by rw [List.mem_singleton.mp h]; exact ⟨d0, d1⟩, rfl, hp'⟩
 ·rintro acc e ⟨zs, s, a, b, c, rfl, hl', hz, rfl, hp⟩
  exact q zs s a b c hl' hz hp
noncomputable def iW : FS := (fG (dS (aD (aE 2) (aD (bS fZ (fM (aD (aE 4) (aD (bS Mr.w5 (fC (.int 99999999)) (aE 4)) aN))) (oU xA (aD (bS JL (aE 3) (fC (.int 2))) aN))) (aD (bS fZ (fM (aD (fC (.str "")) (aD (fC (.str "walls")) (aD (fC (.str "Re: walls")) aN)))) (aW [.m, .b] false aO (aD (aE 0) (aD (fC (.int 3)) aN)))) (aD (aE 5) aN))))))
theorem q5 : kE = (bK (cH 2 (aW [.m, .b] false aO (aD (aE 0) (aD (aE 1) aN))))
  (bK (cH 3 (aW [.m, .b] false aO (aD (aE 0) (aD (fC (.int 4)) aN))))
  (bK (cH 4 (aW [.m, .b] false aO (aD (aE 0) (aD (bS fZ (fM (aD (fC (.int 1)) (aD (fC (.int 3)) (aD (fC (.int 2)) (aD (fC (.int 100000000)) aN))))) (aE 3)) aN))))
  (bK (cH 5 (gF (pF (aD (bS fZ (fM (aD (fC (.int 0)) (aD (fC (.int 1)) (aD (fC (.int 1)) (aD (fC (.int 2)) (aD (fC (.int 3)) (aD (fC (.int 9)) aN))))))) (aW [.m, .b] false aO (aD (aE 0) (aD (fC (.int 6)) aN)))) aN)) 1 [0, 1] [(0, 1)] (bH 0) gC (aW [.m, .b] false aO (aD (aE 1) (aD (aE 2) aN)))))
  (bK (t7 (cT (bS JL (aW [.m, .b] false aO (aD (aE 0) (aD (fC (.int 4)) aN))) (fC (.int 0)))) (cH 5 (bS gT (LK J7 (aE 5) iJ (nY (fC (.int 8)))) (fM (aD (bS lZ (bS gT (aE 2) (fC (.int 1))) (aE 1)) aN)))) gE)
  iW))))) := rfl
theorem w4 (xs : List PV) (k : Nat) : qS xs none (some (k : Int)) = xs.take k := by
 unfold qS
 rw [HT.xV, HT.AZ, List.drop_zero, Nat.sub_zero]
 by_cases h : k ≤ xs.length
 ·rw [Nat.min_eq_left h]
 ·rw [Nat.min_eq_right (by omega), List.take_of_length_le (Nat.le_refl _), List.take_of_length_le (by omega)]
theorem rN (xs : List PV) (k : Nat) : qS xs (some (k : Int)) none = xs.drop k := by
 unfold qS
 rw [HT.xV, HT.AZ]
 by_cases h : k ≤ xs.length
 ·rw [Nat.min_eq_left h, List.take_of_length_le (by rw [List.length_drop]; exact Nat.le_refl _)]
 ·rw [Nat.min_eq_right (by omega), List.drop_of_length_le (Nat.le_refl _), List.drop_of_length_le (by omega), List.take_nil]
theorem VP (zs : List Int) : qS (zs.map PV.int) none (some 8) = (zs.take 8).map PV.int := by
 have := w4 (zs.map PV.int) 8
 rw [List.map_take]
 exact this
theorem pL {a b c m at' kind day : Int} {n : Nat} {zs : List Int} {Q : Out → Prop} (h : Hand a b c n) (hn : n < 100100) (a0 : 0 ≤ at') (a1 : at' < m) (hz : ∀ z ∈ zs, 0 ≤ z ∧ z < m) (zl : zs.length ≤ 9)
  (q : ∀ l a' b' c' v1 v2 v3 v4 v5, MU m l → Hand a' b' c' (n + 1) → Q (.rt (.val (BH l)) [some (.own (hd a' b' c')), v1, v2, v3, v4, v5])) :
  Wp (iW [some (.own (hd a b c)), some (.val (.int m)), some (.val (.int at')), some (.val (.int kind)), some (.val (.int day)), some (.val (.lst (zs.map PV.int)))]) Q := by
 unfold iW
 walk_at "wp"
 refine fK (by split <;> decide) (by simp only [List.length_cons, List.length_nil]; split <;> decide) fun p hp' => ?_
 obtain ⟨z, rfl⟩ : ∃ z : Int, p = .int z := by
  simp only [List.mem_cons, List.not_mem_nil, or_false] at hp'
  rcases hp' with rfl | rfl <;> exact ⟨_, rfl⟩
 walk_at "wp"
 refine dE h (by omega) (by decide) (by decide) fun e a6 b6 c6 e0 e1 hp => ?_
 walk_at "wp"
 refine fK e0 e1 fun p hp' => ?_
 obtain ⟨x, rfl⟩ : ∃ z : Str, p = .str z := by
  simp only [List.mem_cons, List.not_mem_nil, or_false] at hp'
  rcases hp' with rfl | rfl | rfl <;> exact ⟨_, rfl⟩
 walk_at "wp"
 exact q ⟨at', z, x, zs⟩ _ _ _ _ _ _ _ _ ⟨a0, a1, hz, zl⟩ hp
theorem o8 {a b c m : Int} {n : Nat} {Q : PV × List PV → Prop} (h : Hand a b c n) (m0 : 0 < m) (m1 : m ≤ 64) (hn : n < 100000)
  (q : ∀ l a' b' c', MU m l → Hand a' b' c' (n + 20) → Q (BH l, [hd a' b' c'])) : Wp (cF [hd a b c, .int m]) Q := by
 unfold cF
 rw [q5]
 walk_at "wp"
 refine dE h (by omega) m0 (by omega) fun at' a1 b1 c1 UD UK hp => ?_
 walk_at "wp"
 refine dE hp (by omega) (by decide) (by decide) fun kind a2 b2 c2 k0 k1 hp => ?_
 walk_at "wp"
 refine fK k0 k1 fun p hp' => ?_
 obtain ⟨z, rfl, z0, z1⟩ : ∃ z : Int, p = .int z ∧ 0 < z ∧ z ≤ 100000000 := by
  simp only [List.mem_cons, List.not_mem_nil, or_false] at hp'
  rcases hp' with rfl | rfl | rfl | rfl <;> exact ⟨_, rfl, by decide, by decide⟩
 walk_at "wp"
 refine dE hp (by omega) z0 (by omega) fun day a3 b3 c3 dy0 dy1 hp => ?_
 walk_at "wp"
 refine dE hp (by omega) (by decide) (by decide) fun d a4 b4 c4 d0 d1 hp => ?_
 walk_at "wp"
 refine fK d0 d1 fun p hp' => ?_
 obtain ⟨w, rfl, w0, w1⟩ : ∃ z : Int, p = .int z ∧ 0 ≤ z ∧ z ≤ 9 := by
  simp only [List.mem_cons, List.not_mem_nil, or_false] at hp'
  rcases hp' with rfl | rfl | rfl | rfl | rfl | rfl <;> exact ⟨_, rfl, by decide, by decide⟩
 walk_at "wp"
 refine ⟨iN (by omega) (by omega), by omega, ?_⟩
 refine K3 hp m0 m1 (by rw [List.length_map, List.length_range]; omega) fun zs s' a5 b5 c5 zl hz hp => ?_
 rw [List.length_map, List.length_range] at zl hp
 walk_at "wp"
 refine dE hp (by omega) (by decide) (by decide) fun e a6 b6 c6 e0 e1 hp => ?_
 walk_at "wp"
 have r0 := Int.emod_nonneg (at' + 1) (show m ≠ 0 by omega)
 have r1 := Int.emod_lt_of_pos (at' + 1) m0
 rw [VP]
 have l8 : (zs.take 8).length ≤ 8 := by rw [List.length_take]; omega
 refine ⟨fun _ => ⟨m0, by rw [List.length_map]; omega, ?_⟩, fun _ => ?_⟩
 ·have ee : (zs.take 8).map PV.int ++ [PV.int ((at' + 1) % m)] = ((zs.take 8) ++ [(at' + 1) % m]).map PV.int := by rw [List.map_append]; rfl
  rw [ee]
  refine pL hp (by omega) UD UK (fun z hz' => ?_) (by rw [List.length_append]; simp; omega) fun l a' b' c' v1 v2 v3 v4 v5 hl hp => ?_
  ·rcases List.mem_append.mp hz' with g | g
   ·exact hz z (List.mem_of_mem_take g)
   ·rw [List.mem_singleton.mp g]; exact ⟨r0, r1⟩
  ·walk_at "wp"
   exact q l a' b' c' hl (hp.mono (by omega))
 ·refine pL hp (by omega) UD UK hz (by omega) fun l a' b' c' v1 v2 v3 v4 v5 hl hp => ?_
  walk_at "wp"
  exact q l a' b' c' hl (hp.mono (by omega))
end
section
open PySem L2 Mr
theorem BU {a b c m : Int} {n : Nat} {s : Option Sl} {xs : List PV} {Q : List PV × En → Prop} (hp : Hand a b c n) (m0 : 0 < m) (m1 : m ≤ 64) (hn : n + 20 * xs.length < 100000)
  (q : ∀ (zs : List xE) s' a' b' c', zs.length = xs.length → (∀ z ∈ zs, MU m z) → Hand a' b' c' (n + 20 * xs.length) → Q (zs.map BH, [s', some (.own (hd a' b' c')), some (.val (.int m))])) :
  Wp (kG (bH 0) gC (aW [.m, .b] false cF (aD (aE 1) (aD (aE 2) aN))) xs [s, some (.own (hd a b c)), some (.val (.int m))]) Q := by
 refine gL (fun i acc e => ∃ (zs : List xE) (s : Option Sl) (a b c : Int), acc = zs.map BH ∧ zs.length = i ∧ (∀ z ∈ zs, MU m z) ∧ e = [s, some (.own (hd a b c)), some (.val (.int m))] ∧ Hand a b c (n + 20 * i)) ?_ ?_ ⟨[], s, a, b, c, rfl, rfl, fun _ h => (nomatch h), rfl, hp⟩
 ·rintro i x e acc hx ⟨zs, s, a, b, c, rfl, hl', hz, rfl, hp⟩
  have hi := (List.getElem?_eq_some_iff.mp hx).1
  walk_at "wp"
  refine o8 hp m0 m1 (by omega) fun l a' b' c' hl hp' => ?_
  walk_at "wp"
  exact ⟨zs ++ [l], _, a', b', c', by rw [List.map_append]; rfl, by rw [List.length_append, hl']; rfl, fun z hz' => (List.mem_append.mp hz').elim (hz z) fun h => by rw [List.mem_singleton.mp h]; exact hl, rfl, hp'.mono (by omega)⟩
 ·rintro acc e ⟨zs, s, a, b, c, rfl, hl', hz, rfl, hp⟩
  exact q zs s a b c hl' hz hp
theorem z3 {ns : List Int} {a b c m : Int} {n : Nat} {Q : PV × List PV → Prop} (hns : ns.length ≤ 63) (h : Hand a b c n) (m0 : 0 < m) (m1 : m ≤ 64) (hn : n < 50000)
  (q : ∀ (zs : List xE) a' b' c', zs.length ≤ 51 → (∀ z ∈ zs, MU m z) → Hand a' b' c' (n + 300) → Q (.lst (zs.map BH), [hd a' b' c'])) : Wp (eK [.lst (ns.map PV.int), hd a b c, .int m]) Q := by
 unfold eK jG
 walk_at "wp"
 refine dE h (by omega) (by decide) (by decide) fun d a1 b1 c1 d0 d1 hp => ?_
 walk_at "wp"
 refine ⟨iN (by omega) (by omega), by omega, ?_⟩
 refine BU hp m0 m1 (by rw [List.length_map, List.length_range]; omega) fun zs s' a2 b2 c2 zl hz hp => ?_
 rw [List.length_map, List.length_range] at zl hp
 walk_at "wp"
 have hm1 : (if (40 : Int) < (ns.length : Int) then (40 : Int) else (ns.length : Int)) ≤ 40 := by split <;> omega
 have hm0 : 0 ≤ (if (40 : Int) < (ns.length : Int) then (40 : Int) else (ns.length : Int)) := by split <;> omega
 refine ⟨⟨iN (by decide) (by decide), iN (by omega) (by omega)⟩, ?_⟩
 generalize (if (40 : Int) < (ns.length : Int) then (40 : Int) else (ns.length : Int)) = N at hm0 hm1
 refine iL (fun i e => ∃ (ys : List xE) (v4 : Option Sl), ys.length = zs.length + i ∧ (∀ z ∈ ys, MU m z) ∧ e = [some (Sl.bor (PV.lst (ns.map PV.int))), some (Sl.own (hd a2 b2 c2)), some (Sl.val (PV.int m)), some (Sl.loc (PV.lst (ys.map BH))), v4]) ?_ ?_ ⟨zs, _, rfl, hz, rfl⟩
 ·rintro i x e hx ⟨ys, v4, yl, hy, rfl⟩
  rw [List.getElem?_map] at hx
  obtain ⟨k, hk, rfl⟩ := Option.map_eq_some_iff.mp hx
  have hi := (List.getElem?_eq_some_iff.mp hk).1
  have ek := (List.getElem?_eq_some_iff.mp hk).2
  rw [List.length_range] at hi
  rw [List.getElem_range] at ek
  walk_at "wp"
  refine BC (by omega) (by omega) hns fun a3 b3 hh => ?_
  walk_at "wp"
  refine o8 hh m0 m1 (by omega) fun l a' b' c' hl _ => ?_
  walk_at "wp"
  refine ⟨by omega, ys ++ [l], _, by rw [List.length_append, yl]; simp; omega, fun z hz' => (List.mem_append.mp hz').elim (hy z) fun h => by rw [List.mem_singleton.mp h]; exact hl, by rw [List.map_append]; rfl⟩
 ·rintro e ⟨ys, v4, yl, hy, rfl⟩
  rw [List.length_map, List.length_range] at yl
  walk_at "wp"
  exact q ys _ _ _ (by omega) hy (hp.mono (by omega))
end
section
open PySem L2 Mr
structure Let where
 name : Str
 day : Int
 head : Str
 row : List Str
 deriving DecidableEq
noncomputable def lP (l : Let) : PV := .tup [.str l.name, .int l.day, .str l.head, .tup (l.row.map PV.str)]
theorem iA (ss : List Str) (n : Nat) : (ss.map PV.str).all (gU n) = true := List.all_eq_true.mpr fun p hp => by obtain ⟨y, _, rfl⟩ := List.mem_map.mp hp; cases n <;> rfl
theorem J8 (ss : List Str) (n : Nat) : (ss.map PV.str).all (mD n) = true := List.all_eq_true.mpr fun p hp => by obtain ⟨y, _, rfl⟩ := List.mem_map.mp hp; cases n <;> rfl
theorem MO (l : Let) : gU 8 (lP l) = true := by
 show ([PV.str l.name, PV.int l.day, PV.str l.head, PV.tup (l.row.map PV.str)].all (gU 7)) = true
 simp only [List.all_cons, List.all_nil, gU, iA, Bool.and_true]
theorem SO (l : Let) : mD 3 (lP l) = true := by
 show ([PV.str l.name, PV.int l.day, PV.str l.head, PV.tup (l.row.map PV.str)].all (mD 2)) = true
 simp only [List.all_cons, List.all_nil, mD, J8, Bool.and_true]
theorem mG (n : Nat) : ∀ xs ys : List Str, (fR (oF n) (xs.map PV.str) (ys.map PV.str)).isSome = true
 | [], [] => rfl
 | [], _ :: _ => rfl
 | _ :: _, [] => rfl
 | x :: xs, y :: ys => by
  rw [List.map_cons, List.map_cons]
  unfold fR
  split
  ·exact mG n xs ys
  ·cases n <;> rfl
theorem S9 (l k : Let) : (oF 3 (lP l) (lP k)).isSome = true := by
 show (fR (oF 2) [PV.str l.name, PV.int l.day, PV.str l.head, PV.tup (l.row.map PV.str)] [PV.str k.name, PV.int k.day, PV.str k.head, PV.tup (k.row.map PV.str)]).isSome = true
 unfold fR
 split
 ·unfold fR
  split
  ·unfold fR
   split
   ·unfold fR
    split
    ·rfl
    ·exact mG 1 _ _
   ·rfl
  ·rfl
 ·rfl
theorem IC (ls : List Let) : gY 3 (ls.map lP) = true := List.all_eq_true.mpr fun p hp => by
 obtain ⟨l, _, rfl⟩ := List.mem_map.mp hp
 rw [Bool.and_eq_true]
 refine ⟨SO l, List.all_eq_true.mpr fun q hq => ?_⟩
 obtain ⟨k, _, rfl⟩ := List.mem_map.mp hq
 exact S9 l k
theorem E3 (ls : List Let) : (ls.map lP).all (mX true) = true := List.all_eq_true.mpr fun p hp => by obtain ⟨l, _, rfl⟩ := List.mem_map.mp hp; rfl
theorem xH {ls : List Let} {ps : List PV} (h : ps.Perm (ls.map lP)) : ∃ ks : List Let, ks.Perm ls ∧ ps = ks.map lP := by
 have key : ∀ (ps : List PV) (ls : List Let), ps.Perm (ls.map lP) → ∃ ks : List Let, ks.Perm ls ∧ ps = ks.map lP := by
  intro ps
  induction ps with
  | nil => intro ls h; have := h.nil_eq; rw [List.eq_nil_of_map_eq_nil this.symm]; exact ⟨[], .refl _, rfl⟩
  | cons p ps ih =>
   intro ls h
   obtain ⟨l, hl, e⟩ := List.mem_map.mp (h.mem_iff.mp List.mem_cons_self)
   subst e
   have h2 : (lP l :: ps).Perm ((l :: ls.erase l).map lP) := h.trans ((List.perm_cons_erase hl).map lP)
   obtain ⟨ks, k1, k2⟩ := ih _ (h2.cons_inv)
   exact ⟨l :: ks, (k1.cons l).trans (List.perm_cons_erase hl).symm, by rw [k2]; rfl⟩
 exact key ps ls h
theorem o7 {ls : List Let} {Q : Bv → Prop} (h : ls.length < 64) (q : ∀ ks : List Let, ks.Perm ls → (ks.map lP).Pairwise (fun a b => mF 3 a b = true) → Q (.new (.lst (ks.map lP)))) : Wp (kN [.lst (ls.map lP)]) Q := by
 cases ls with
 | nil => exact ⟨_, rfl, by rw [show nN [] = [] by unfold nN; simp]; exact q [] (.refl _) .nil⟩
 | cons l ls =>
  have e1 : qX [.lst ((l :: ls).map lP)] = none := rfl
  have e2 : rO [.lst ((l :: ls).map lP)] = none := rfl
  unfold kN
  rw [e1, e2, Option.none_or, Option.none_or]
  unfold rQ
  simp only [fD, dD]
  refine ⟨?_, ?_⟩
  ·rw [E3, IC, List.length_map, decide_eq_true h]; rfl
  ·obtain ⟨ks, k1, k2⟩ := xH (eQ 3 ((l :: ls).map lP))
   have := j8 3 ((l :: ls).map lP)
   rw [k2] at this ⊢
   exact q ks k1 this
end
section
open PySem L2 Mr
theorem xZ {ss : List Str} {m : Int} {rs : List Int} {s : Option Sl} {Q : List PV × En → Prop} (hm : (ss.length : Int) = m) (hr : ∀ x ∈ rs, 0 ≤ x ∧ x < m)
  (q : ∀ (zs : List Str) s', zs.length = rs.length → (∀ z ∈ zs, z ∈ ss) → Q (zs.map PV.str, [s', some (Sl.bor (PV.lst (ss.map PV.str)))])) :
  Wp (kG (bH 0) gC (bS fZ (aE 1) (aE 0)) (rs.map PV.int) [s, some (Sl.bor (PV.lst (ss.map PV.str)))]) Q := by
 refine gL (fun i acc e => ∃ (zs : List Str) (s : Option Sl), acc = zs.map PV.str ∧ zs.length = i ∧ (∀ z ∈ zs, z ∈ ss) ∧ e = [s, some (Sl.bor (PV.lst (ss.map PV.str)))]) ?_ ?_ ⟨[], s, rfl, rfl, fun _ h => (nomatch h), rfl⟩
 ·rintro i x e acc hx ⟨zs, s, rfl, hl, hz, rfl⟩
  rw [List.getElem?_map] at hx
  obtain ⟨k, hk, rfl⟩ := Option.map_eq_some_iff.mp hx
  obtain ⟨k0, k1⟩ := hr k (List.mem_of_getElem? hk)
  walk_at "wp"
  refine fK k0 (by rw [List.length_map]; omega) fun p hp => ?_
  obtain ⟨y, hy, rfl⟩ := List.mem_map.mp hp
  walk_at "wp"
  exact ⟨zs ++ [y], _, by rw [List.map_append]; rfl, by rw [List.length_append, hl]; rfl, fun z hz' => (List.mem_append.mp hz').elim (hz z) fun h => by rw [List.mem_singleton.mp h]; exact hy, rfl⟩
 ·rintro acc e ⟨zs, s, rfl, hl, hz, rfl⟩
  rw [List.length_map] at hl
  exact q zs s hl hz
theorem B5 {ss : List Str} {m : Int} {zs : List xE} {Q : PV × List PV → Prop} (hm : (ss.length : Int) = m) (hz : ∀ z ∈ zs, MU m z) (hl : zs.length ≤ 60)
  (q : ∀ ls : List Let, ls.length ≤ zs.length → (ls.map lP).Pairwise (fun a b => mF 3 a b = true) → (∀ l ∈ ls, l.row.length ≤ 9 ∧ l.name ∈ ss ∧ ∀ x ∈ l.row, x ∈ ss) → Q (.tup (ls.map lP), [])) : Wp (cS [.lst (zs.map BH), .lst (ss.map PV.str)]) Q := by
 unfold cS kA
 walk_at "wp"
 refine iL (fun i e => ∃ (ls : List Let) (v3 v4 v5 v6 v7 : Option Sl), ls.length ≤ i ∧ (∀ l ∈ ls, l.row.length ≤ 9 ∧ l.name ∈ ss ∧ ∀ x ∈ l.row, x ∈ ss) ∧ e = [some (Sl.bor (PV.lst (zs.map BH))), some (Sl.bor (PV.lst (ss.map PV.str))), some (Sl.loc (PV.lst (ls.map lP))), v3, v4, v5, v6, v7]) ?_ ?_ ⟨[], _, _, _, _, _, Nat.le_refl _, fun _ h => (nomatch h), rfl⟩
 ·rintro i x e hx ⟨ls, v3, v4, v5, v6, v7, ll, hls, rfl⟩
  rw [List.getElem?_map] at hx
  obtain ⟨z, hk, rfl⟩ := Option.map_eq_some_iff.mp hx
  have hi := (List.getElem?_eq_some_iff.mp hk).1
  have ok := hz z (List.mem_of_getElem? hk)
  rw [show BH z = PV.tup [PV.int z.at', PV.int z.day, PV.str z.head, PV.lst (z.row.map PV.int)] from rfl]
  walk_at "wp"
  refine fK ok.a0 (by rw [List.length_map, hm]; exact ok.a1) fun p hp => ?_
  obtain ⟨y, hy, rfl⟩ := List.mem_map.mp hp
  walk_at "wp"
  have hn := ok.n
  refine ⟨by omega, xZ hm ok.r fun xs s' xl hxs => ?_⟩
  walk_at "wp"
  have hnew : Let := ⟨y, z.day, z.head, xs⟩
  refine ⟨⟨iA xs 6, List.all_eq_true.mpr fun p hp => by obtain ⟨l, _, rfl⟩ := List.mem_map.mp hp; exact MO l⟩, fun _ => ⟨by omega, ls ++ [⟨y, z.day, z.head, xs⟩], _, _, _, _, _, by rw [List.length_append]; simp; omega, fun l hl' => ?_, by rw [List.map_append]; rfl⟩, fun _ => ⟨ls, _, _, _, _, _, by omega, hls, rfl⟩⟩
  rcases List.mem_append.mp hl' with g | g
  ·exact hls l g
  ·rw [List.mem_singleton.mp g]; exact ⟨by rw [show (Let.mk y z.day z.head xs).row = xs from rfl, xl]; exact hn, hy, hxs⟩
 ·rintro e ⟨ls, v3, v4, v5, v6, v7, ll, hls, rfl⟩
  rw [List.length_map] at ll
  walk_at "wp"
  refine o7 (by omega) fun ks k1 k2 => ?_
  walk_at "wp"
  exact q ks (by rw [k1.length_eq]; exact ll) k2 fun l h => hls l (k1.mem_iff.mp h)
end
section
open PySem L2 Mr
noncomputable def lK (acc : List Let) (l : Let) : List Let := if (acc.any fun k => decide (k.name = l.name)) = true then acc else acc ++ [l]
noncomputable def st (qs : List Let) : List Let := qs.foldl lK []
noncomputable def D8 (acc : List Let) : List (Key × PV) := acc.map fun l => (Sum.inr l.name, lP l)
theorem JR (acc : List Let) (x : Str) : (d5 (D8 acc) (Sum.inr x)).isSome = acc.any fun k => decide (k.name = x) := by
 unfold d5 D8
 induction acc with
 | nil => rfl
 | cons l acc ih =>
  rw [List.map_cons, List.find?_cons, List.any_cons]
  by_cases h : l.name = x
  ·subst h; simp
  ·have h' : ¬ (Sum.inr l.name : Key) = Sum.inr x := fun z => h (Sum.inr.inj z)
   rw [decide_eq_false h', decide_eq_false h, Bool.false_or]
   exact ih
theorem JS {acc : List Let} {l : Let} (h : (acc.any fun k => decide (k.name = l.name)) = false) : i3 (D8 acc) (Sum.inr l.name) (lP l) = D8 (acc ++ [l]) := by
 unfold i3
 have e : ((D8 acc).any fun kv => decide (kv.1 = Sum.inr l.name)) = false := by
  rw [← h]
  unfold D8
  rw [List.any_map]
  congr 1
  funext k
  simp
 rw [e, if_neg Bool.false_ne_true]
 unfold D8
 rw [List.map_append]; rfl
theorem JU (qs : List Let) (i : Nat) (l : Let) (h : qs[i]? = some l) : st (qs.take (i + 1)) = lK (st (qs.take i)) l := by
 unfold st
 rw [List.take_succ, h, Option.toList_some, List.foldl_append]; rfl
theorem zT (qs : List Let) : (st qs).length ≤ qs.length := by
 have key : ∀ (l k : List Let), (l.foldl lK k).length ≤ k.length + l.length := by
  intro l
  induction l with
  | nil => intro k; exact Nat.le_refl _
  | cons x l ih =>
   intro k
   have := ih (lK k x)
   have h : (lK k x).length ≤ k.length + 1 := by
    unfold lK; split
    ·omega
    ·rw [List.length_append]; exact Nat.le_refl _
   rw [List.foldl_cons, List.length_cons]; omega
 have := key qs []
 simpa [st] using this
theorem mO {qs : List Let} {l : Let} (h : l ∈ st qs) : l ∈ qs := by
 have key : ∀ (xs k : List Let), l ∈ xs.foldl lK k → l ∈ k ∨ l ∈ xs := by
  intro xs
  induction xs with
  | nil => intro k h; exact .inl h
  | cons x xs ih =>
   intro k h
   rcases ih _ h with g | g
   ·unfold lK at g
    split at g
    ·exact .inl g
    ·rcases List.mem_append.mp g with g | g
     ·exact .inl g
     ·exact .inr (by rw [List.mem_singleton.mp g]; exact List.mem_cons_self)
   ·exact .inr (List.mem_cons_of_mem _ g)
 exact (key qs [] h).resolve_left (fun z => nomatch z)
theorem GB (acc : List Let) : (D8 acc).map (·.2) = acc.map lP := by unfold D8; rw [List.map_map]; rfl
theorem pS {qs : List Let} {Q : PV × List PV → Prop} (hl : qs.length ≤ 100) (q : Q (.tup ((st qs).map lP), [])) : Wp (e8 [.tup (qs.map lP)]) Q := by
 unfold e8 mV
 walk_at "wp"
 refine iL (fun i e => ∃ v2, e = [some (Sl.val (PV.tup (qs.map lP))), some (Sl.loc (PV.bW (D8 (st (qs.take i))))), v2]) ?_ ?_ ⟨_, rfl⟩
 ·rintro i x e hx ⟨v2, rfl⟩
  rw [List.getElem?_map] at hx
  obtain ⟨l, hk, rfl⟩ := Option.map_eq_some_iff.mp hx
  have hi := (List.getElem?_eq_some_iff.mp hk).1
  have hs := JU qs i l hk
  have hlen := zT (qs.take i)
  rw [List.length_take] at hlen
  rw [show lP l = PV.tup [PV.str l.name, PV.int l.day, PV.str l.head, PV.tup (l.row.map PV.str)] from rfl]
  walk_at "wp"
  rw [JR]
  rw [hs]
  unfold lK
  cases g : (st (qs.take i)).any fun k => decide (k.name = l.name) with
  | true => exact ⟨fun z => (by cases z), fun _ => ⟨_, by rw [if_pos rfl]⟩⟩
  | false =>
   refine ⟨fun _ => ⟨by unfold D8; rw [List.length_map]; omega, some (Sl.val (lP l)), ?_⟩, fun z => (by cases z)⟩
   rw [if_neg Bool.false_ne_true]
   have := JS g
   rw [← this]; rfl
 ·rintro e ⟨v2, rfl⟩
  rw [List.length_map, List.take_length]
  walk_at "wp"
  rw [GB]
  exact q
noncomputable def MF (own : Str) (row : List Str) (k : Nat) : List Str := (List.range k).filterMap fun i => (row[i]?).bind fun x => if x ≠ own ∧ x ∉ row.drop (i + 1) then some x else none
noncomputable def el (l : Let) : List Str := MF l.name l.row l.row.length
theorem nK {own : Str} {row : List Str} {i : Nat} {x : Str} (h : row[i]? = some x) : MF own row (i + 1) = MF own row i ++ (if x ≠ own ∧ x ∉ row.drop (i + 1) then [x] else []) := by
 unfold MF
 rw [List.range_succ, List.filterMap_append]
 congr 1
 rw [List.filterMap_cons, h, Option.bind_some]
 split
 ·rename_i e; split at e
  ·cases e
  ·rename_i g; rw [if_neg g]; rfl
 ·rename_i e; split at e
  ·rename_i g; cases e; rw [if_pos g]; rfl
  ·cases e
theorem tL {l : Let} {Q : PV × List PV → Prop} (hl : l.row.length ≤ 9) (q : Q (.tup ((el l).map PV.str), [])) : Wp (g9 [lP l]) Q := by
 unfold g9 rA
 rw [show lP l = PV.tup [PV.str l.name, PV.int l.day, PV.str l.head, PV.tup (l.row.map PV.str)] from rfl]
 walk_at "wp"
 refine ⟨by rw [List.length_zipIdx, List.length_map]; omega, ?_⟩
 refine gL (fun i acc e => acc = (MF l.name l.row i).map PV.str ∧ ∃ v0 v1, e = [v0, v1, some (Sl.val (PV.str l.name)), some (Sl.val (PV.tup (l.row.map PV.str)))]) ?_ ?_ ⟨rfl, _, _, rfl⟩
 ·rintro i x e acc hx ⟨rfl, v0, v1, rfl⟩
  rw [List.getElem?_map, List.getElem?_zipIdx, List.getElem?_map, Option.map_map, Option.map_map] at hx
  obtain ⟨y, hy, rfl⟩ := Option.map_eq_some_iff.mp hx
  have hi := (List.getElem?_eq_some_iff.mp hy).1
  have hs := nK (own := l.name) hy
  simp only [Function.comp_apply]
  walk_at "wp"
  rw [show (((0 + i : Nat) : Int) + 1) = ((i + 1 : Nat) : Int) by omega, rN, ← List.map_drop, oH, hs]
  have ok8 := iA (l.row.drop (i + 1)) 8
  by_cases h1 : y = l.name
  ·refine ⟨fun z => absurd z (by simp [h1]), fun _ => ⟨?_, _, _, rfl⟩⟩
   rw [if_neg (fun z => z.1 h1), List.append_nil]
  ·refine ⟨fun _ => ⟨ok8, ?_⟩, fun z => absurd z (by simp [h1])⟩
   by_cases h2 : y ∈ l.row.drop (i + 1)
   ·rw [decide_eq_true h2]
    refine ⟨?_, _, _, rfl⟩
    rw [if_neg (fun z => z.2 h2), List.append_nil]
   ·rw [decide_eq_false h2]
    refine ⟨?_, _, _, rfl⟩
    rw [if_pos ⟨h1, h2⟩, List.map_append]; rfl
 ·rintro acc e ⟨rfl, v0, v1, rfl⟩
  rw [List.length_map, List.length_zipIdx, List.length_map]
  walk_at "wp"
  exact q
theorem BM {l : Let} {Q : PV × List PV → Prop} (hl : l.row.length ≤ 9) (q : Q (.lst ((el l).map PV.str), [])) : Wp (e9 [lP l]) Q := by
 unfold e9 oY
 rw [show lP l = PV.tup [PV.str l.name, PV.int l.day, PV.str l.head, PV.tup (l.row.map PV.str)] from rfl]
 walk_at "wp"
 refine ⟨iN (by omega) (by omega), by omega, ?_⟩
 rw [Int.toNat_natCast]
 refine gL (fun i acc e => acc = (MF l.name l.row i).map PV.str ∧ ∃ v0, e = [v0, some (Sl.val (PV.tup (l.row.map PV.str))), some (Sl.val (PV.tup [PV.str l.name, PV.int l.day, PV.str l.head, PV.tup (l.row.map PV.str)]))]) ?_ ?_ ⟨rfl, _, rfl⟩
 ·rintro i x e acc hx ⟨rfl, v0, rfl⟩
  rw [List.getElem?_map] at hx
  obtain ⟨k, hk, rfl⟩ := Option.map_eq_some_iff.mp hx
  have hi := (List.getElem?_eq_some_iff.mp hk).1
  have ek := (List.getElem?_eq_some_iff.mp hk).2
  rw [List.length_range] at hi
  rw [List.getElem_range] at ek
  subst ek
  have hy : l.row[i]? = some l.row[i] := List.getElem?_eq_getElem hi
  have hs := nK (own := l.name) hy
  generalize l.row[i] = y at hy hs
  have ea : oS (l.row.map PV.str) (0 + (i : Int)) = some (.str y) := by rw [Int.zero_add]; exact j6 (by rw [List.getElem?_map, hy]; rfl)
  walk_at "wp"
  rw [ea]
  walk_at "wp"
  have ok8 := iA (l.row.drop (i + 1)) 8
  by_cases h1 : y = l.name
  ·refine ⟨fun z => absurd z (by simp [h1]), fun _ => ⟨?_, _, rfl⟩⟩
   rw [hs, if_neg (fun z => z.1 h1), List.append_nil]
  ·refine ⟨fun _ => ?_, fun z => absurd z (by simp [h1])⟩
   rw [ea]
   walk_at "wp"
   rw [show (0 + (i : Int) + 1) = ((i + 1 : Nat) : Int) by omega, rN, ← List.map_drop, oH, hs]
   refine ⟨ok8, ?_⟩
   by_cases h2 : y ∈ l.row.drop (i + 1)
   ·rw [decide_eq_true h2]
    refine ⟨?_, _, rfl⟩
    rw [if_neg (fun z => z.2 h2), List.append_nil]
   ·rw [decide_eq_false h2]
    simp only [Bool.not_false]
    rw [ea]
    walk_at "wp"
    refine ⟨?_, _, rfl⟩
    rw [if_pos ⟨h1, h2⟩, List.map_append]; rfl
 ·rintro acc e ⟨rfl, v0, rfl⟩
  rw [List.length_map, List.length_range]
  walk_at "wp"
  exact q
end
section
open PySem L2 Mr
noncomputable def oP : Option Str → PV
 | none => .bJ
 | some x => .str x
noncomputable abbrev Hl := List (Str × Option Str)
noncomputable def qI (hs : Hl) : List (Key × PV) := hs.map fun z => (Sum.inr z.1, oP z.2)
theorem BQ (hs : Hl) (x : Str) : (d5 (qI hs) (Sum.inr x) = none ∧ x ∉ hs.map (·.1)) ∨ ∃ o, d5 (qI hs) (Sum.inr x) = some (oP o) ∧ (x, o) ∈ hs := by
 unfold d5 qI
 induction hs with
 | nil => exact .inl ⟨rfl, fun h => nomatch h⟩
 | cons z hs ih =>
  rw [List.map_cons, List.find?_cons]
  by_cases h : z.1 = x
  ·right
   subst h
   exact ⟨z.2, by simp, List.mem_cons_self⟩
  ·have h' : ¬ (Sum.inr z.1 : Key) = Sum.inr x := fun e => h (Sum.inr.inj e)
   rw [decide_eq_false h']
   rcases ih with ⟨a, b⟩ | ⟨o, a, b⟩
   ·exact .inl ⟨a, fun e => by rcases List.mem_cons.mp e with e | e; exact h e.symm; exact b e⟩
   ·exact .inr ⟨o, a, List.mem_cons_of_mem _ b⟩
theorem LC {hs : Hl} {x : Str} {o : Option Str} (h : x ∉ hs.map (·.1)) : i3 (qI hs) (Sum.inr x) (oP o) = qI (hs ++ [(x, o)]) := by
 unfold i3
 have e : ((qI hs).any fun kv => decide (kv.1 = Sum.inr x)) = false := by
  unfold qI
  rw [List.any_map, List.any_eq_false]
  intro z hz
  have : z.1 ≠ x := fun e => h (List.mem_map.mpr ⟨z, hz, e⟩)
  simp [this]
 rw [e, if_neg Bool.false_ne_true]
 unfold qI
 rw [List.map_append]; rfl
theorem tV {hs : Hl} {o : Option Str} {x : Str} {Q : PV × List PV → Prop} (hl : hs.length ≤ 60) (q : ∀ b, Q (.bl b, [])) : Wp (fX [.bW (qI hs), oP o, .str x]) Q := by
 unfold fX jW
 walk_at "wp"
 have hk : (qI hs).length = hs.length := by unfold qI; rw [List.length_map]
 refine ⟨iN (by omega) (by omega), ?_⟩
 refine iL (fun i e => ∃ (o : Option Str) (v3 : Option Sl), e = [some (Sl.bor (PV.bW (qI hs))), some (Sl.val (oP o)), some (Sl.val (PV.str x)), v3]) ?_ ?_ ⟨o, _, by cases o <;> rfl⟩
 ·rintro i p e hx ⟨o, v3, rfl⟩
  cases o with
  | none =>
   rw [show oP none = PV.bJ from rfl]
   walk_at "wp"
   exact q _
  | some y =>
   rw [show oP (some y) = PV.str y from rfl]
   walk_at "wp"
   refine ⟨fun _ => q _, fun _ => ?_⟩
   rcases BQ hs y with ⟨a, _⟩ | ⟨o, a, _⟩
   ·exact ⟨none, _, by rw [a]; rfl⟩
   ·exact ⟨o, _, by rw [a]; rfl⟩
 ·rintro e ⟨o, v3, rfl⟩
  walk_at "wp"
  exact q _
structure R8 (ss : List Str) (hs : Hl) : Prop where
 nd : (hs.map (·.1)).Nodup
 nm : ∀ z ∈ hs, z.1 ∈ ss ∧ ∀ y, z.2 = some y → y ∈ ss
noncomputable def mP (hs : Hl) : List PV := hs.map fun z => .tup [.str z.1, oP z.2]
theorem D1 (hs : Hl) : bV (qI hs) = mP hs := by unfold bV qI mP; rw [List.map_map]; rfl
theorem SE (z : Str × Option Str) : mD 3 (.tup [.str z.1, oP z.2]) = true := by
 show ([PV.str z.1, oP z.2].all (mD 2)) = true
 cases z.2 <;> rfl
theorem IU {hs : Hl} (h : (hs.map (·.1)).Nodup) : gY 3 (mP hs) = true := List.all_eq_true.mpr fun p hp => by
 obtain ⟨z, hz, rfl⟩ := List.mem_map.mp hp
 rw [Bool.and_eq_true]
 refine ⟨SE z, List.all_eq_true.mpr fun q hq => ?_⟩
 obtain ⟨w, hw, rfl⟩ := List.mem_map.mp hq
 show (fR (oF 2) [PV.str z.1, oP z.2] [PV.str w.1, oP w.2]).isSome = true
 unfold fR
 split
 ·rename_i e
  rw [o9] at e
  have e1 : z.1 = w.1 := eq_of_beq e
  have e2 : z = w := by
   have key : ∀ (l : Hl), (l.map (·.1)).Nodup → ∀ a ∈ l, ∀ b ∈ l, a.1 = b.1 → a = b := by
    intro l
    induction l with
    | nil => intro _ a ha; cases ha
    | cons c l ih =>
     intro hn a ha b hb hab
     rw [List.map_cons, List.nodup_cons] at hn
     rcases List.mem_cons.mp ha with rfl | ha
     ·rcases List.mem_cons.mp hb with rfl | hb
      ·rfl
      ·exact absurd (List.mem_map.mpr ⟨b, hb, hab.symm⟩) hn.1
     ·rcases List.mem_cons.mp hb with e | hb
      ·exact absurd (List.mem_map.mpr ⟨a, ha, by rw [hab, e]⟩) hn.1
      ·exact ih hn.2 a ha b hb hab
   exact key hs h z hz w hw e1
  subst e2
  unfold fR
  rw [if_pos (qY (n := 0) (by cases z.2 <;> rfl))]
  rfl
 ·rfl
theorem GG (hs : Hl) : (mP hs).all (mX true) = true := List.all_eq_true.mpr fun p hp => by obtain ⟨z, _, rfl⟩ := List.mem_map.mp hp; rfl
theorem A9 {hs : Hl} {ps : List PV} (h : ps.Perm (mP hs)) : ∃ ks : Hl, ks.Perm hs ∧ ps = mP ks := by
 have key : ∀ (ps : List PV) (ls : Hl), ps.Perm (mP ls) → ∃ ks : Hl, ks.Perm ls ∧ ps = mP ks := by
  intro ps
  induction ps with
  | nil => intro ls h; have := h.nil_eq; unfold mP at this; rw [List.eq_nil_of_map_eq_nil this.symm]; exact ⟨[], .refl _, rfl⟩
  | cons p ps ih =>
   intro ls h
   obtain ⟨l, hl, e⟩ := List.mem_map.mp (h.mem_iff.mp List.mem_cons_self)
   subst e
   have h2 : (PV.tup [.str l.1, oP l.2] :: ps).Perm (mP (l :: ls.erase l)) := h.trans ((List.perm_cons_erase hl).map _)
   obtain ⟨ks, k1, k2⟩ := ih _ (h2.cons_inv)
   exact ⟨l :: ks, (k1.cons l).trans (List.perm_cons_erase hl).symm, by rw [k2]; rfl⟩
 exact key ps hs h
theorem GZ {ss : List Str} {a b c many : Int} {n : Nat} {Q : PV × List PV → Prop} (h : Hand a b c n) (hs0 : 0 < ss.length) (hs1 : ss.length ≤ 60) (m0 : 0 ≤ many) (m1 : many ≤ 40) (hn : n < 100000)
  (q : ∀ (hs : Hl) a' b' c', hs.length ≤ many.toNat → R8 ss hs → Hand a' b' c' (n + 130) → Q (.tup (mP hs), [hd a' b' c'])) : Wp (fN [hd a b c, .lst (ss.map PV.str), .int many]) Q := by
 unfold fN lG
 walk_at "wp"
 refine ⟨iN (by omega) (by omega), ?_⟩
 refine iL (fun i e => ∃ (hs : Hl) (a b c : Int) (v4 v5 v6 : Option Sl), hs.length ≤ i ∧ R8 ss hs ∧ Hand a b c (n + 3 * i) ∧ e = [some (.own (hd a b c)), some (.bor (.lst (ss.map PV.str))), some (.val (.int many)), some (.loc (.bW (qI hs))), v4, v5, v6]) ?_ ?_ ⟨[], a, b, c, _, _, _, Nat.le_refl _, ⟨List.nodup_nil, fun _ h => (nomatch h)⟩, h, rfl⟩
 ·rintro i x e hx ⟨hs, a, b, c, v4, v5, v6, hl, ok, hp, rfl⟩
  rw [List.getElem?_map] at hx
  obtain ⟨k, hk, rfl⟩ := Option.map_eq_some_iff.mp hx
  have hi := (List.getElem?_eq_some_iff.mp hk).1
  rw [List.length_range] at hi
  walk_at "wp"
  refine dE hp (by omega) (by omega) (by omega) fun d a1 b1 c1 d0 d1 hp => ?_
  walk_at "wp"
  refine fK d0 (by rw [List.length_map]; exact d1) fun p hp' => ?_
  obtain ⟨x, hx, rfl⟩ := List.mem_map.mp hp'
  walk_at "wp"
  refine dE hp (by omega) (by omega) (by omega) fun d a1 b1 c1 d0 d1 hp => ?_
  walk_at "wp"
  refine fK d0 (by rw [List.length_map]; exact d1) fun p hp' => ?_
  obtain ⟨y, hy, rfl⟩ := List.mem_map.mp hp'
  walk_at "wp"
  refine dE hp (by omega) (by decide) (by decide) fun d a1 b1 c1 d0 d1 hp => ?_
  walk_at "wp"
  have aP : ∀ p6 : PV, ∃ (hs' : Hl) (a b c : Int) (v4 v5 v6 : Option Sl), hs'.length ≤ i + 1 ∧ R8 ss hs' ∧ Hand a b c (n + 3 * (i + 1)) ∧ [some (Sl.own (hd a1 b1 c1)), some (Sl.bor (PV.lst (ss.map PV.str))), some (Sl.val (PV.int many)), some (Sl.loc (PV.bW (qI hs))), some (Sl.val (PV.int (0 + (k : Int)))), some (Sl.val (PV.str x)), some (Sl.val p6)] = [some (.own (hd a b c)), some (.bor (.lst (ss.map PV.str))), some (.val (.int many)), some (.loc (.bW (qI hs'))), v4, v5, v6] := fun p6 =>
   ⟨hs, a1, b1, c1, _, _, _, by omega, ok, hp.mono (by omega), rfl⟩
  have put : ∀ o : Option Str, (∀ y, o = some y → y ∈ ss) → (!(d5 (qI hs) (Sum.inr x)).isSome) = true → ∃ (hs' : Hl) (a b c : Int) (v4 v5 v6 : Option Sl), hs'.length ≤ i + 1 ∧ R8 ss hs' ∧ Hand a b c (n + 3 * (i + 1)) ∧ [some (Sl.own (hd a1 b1 c1)), some (Sl.bor (PV.lst (ss.map PV.str))), some (Sl.val (PV.int many)), some (Sl.loc (PV.bW (i3 (qI hs) (Sum.inr x) (oP o)))), some (Sl.val (PV.int (0 + (k : Int)))), some (Sl.val (PV.str x)), some (Sl.val (oP o))] = [some (.own (hd a b c)), some (.bor (.lst (ss.map PV.str))), some (.val (.int many)), some (.loc (.bW (qI hs'))), v4, v5, v6] := fun o ho g => by
   have hxn : x ∉ hs.map (·.1) := by
    rcases BQ hs x with ⟨_, e⟩ | ⟨o, e, _⟩
    ·exact e
    ·rw [e] at g; cases g
   refine ⟨hs ++ [(x, o)], a1, b1, c1, _, _, _, by rw [List.length_append]; simp; omega, ⟨?_, fun z hz => ?_⟩, hp.mono (by omega), by rw [LC hxn]⟩
   ·rw [List.map_append]
    refine List.nodup_append.mpr ⟨ok.nd, by simp, fun u hu v hv e => ?_⟩
    have : v = x := by simpa using hv
    rw [e, this] at hu
    exact hxn hu
   ·rcases List.mem_append.mp hz with g | g
    ·exact ok.nm z g
    ·rw [List.mem_singleton.mp g]; exact ⟨hx, ho⟩
  have hkl : (qI hs).length < 1000000 := by unfold qI; rw [List.length_map]; omega
  refine ⟨fun _ => ⟨fun g => tV (o := none) (by omega) fun b => ?_, fun g => aP _⟩, fun _ => ⟨fun g => tV (o := some y) (by omega) fun b => ?_, fun g => aP _⟩⟩
  ·cases b with
   | true => walk_at "wp"; exact aP _
   | false => walk_at "wp"; exact ⟨hkl, put none (fun y e => by cases e) g⟩
  ·cases b with
   | true => walk_at "wp"; exact aP _
   | false => walk_at "wp"; exact ⟨hkl, put (some y) (fun z e => by cases e; exact hy) g⟩
 ·rintro e ⟨hs, a, b, c, v4, v5, v6, hl, ok, hp, rfl⟩
  rw [List.length_map, List.length_range] at hl hp
  walk_at "wp"
  rw [D1, GG, IU ok.nd]
  obtain ⟨ks, k1, k2⟩ := A9 (eQ 3 (mP hs))
  rw [k2]
  have hk : (qI hs).length = hs.length := by unfold qI; rw [List.length_map]
  walk_at "wp"
  refine ⟨by omega, q ks a b c (by rw [k1.length_eq]; exact hl) ⟨(k1.map _).nodup_iff.mpr ok.nd, fun z hz => ok.nm z (k1.mem_iff.mp hz)⟩ (hp.mono (by omega))⟩
end
section
open PySem L2 Mr
structure wQ where
 key : Str
 day : Int
 name : Str
 at' : Int
noncomputable def tP (t : wQ) : PV := .tup [.int t.day, .str t.name, .int t.at']
noncomputable def UM (l : Let) (z : Str × Nat) : Option wQ := if 0 < z.2 then some ⟨z.1, l.day, l.name, (z.2 : Int)⟩ else none
noncomputable def tG (l : Let) (j : Nat) : List wQ := ((el l).zipIdx.take j).filterMap (UM l)
noncomputable def D3 (l : Let) : List wQ := (el l).zipIdx.filterMap (UM l)
noncomputable def lW (qs : List Let) : List wQ := (st qs).flatMap D3
noncomputable def D6 (x : Str) (ts : List wQ) : List wQ := ts.filter fun t => decide (t.key = x)
noncomputable def xJ (ts : List wQ) : DD := ts.foldl (fun d t => nS d (Sum.inr t.key) (tP t)) []
theorem HD (ts : List wQ) (t : wQ) : xJ (ts ++ [t]) = nS (xJ ts) (Sum.inr t.key) (tP t) := by unfold xJ; rw [List.foldl_append]; rfl
theorem DI {l : Let} {j : Nat} {n : Str} (h : (el l)[j]? = some n) : tG l (j + 1) = tG l j ++ (if 0 < j then [⟨n, l.day, l.name, (j : Int)⟩] else []) := by
 unfold tG
 have e : (el l).zipIdx[j]? = some (n, j) := by rw [List.getElem?_zipIdx, h]; simp
 rw [List.take_succ, e, Option.toList_some, List.filterMap_append]
 congr 1
 rw [List.filterMap_cons, show UM l (n, j) = if 0 < j then some ⟨n, l.day, l.name, (j : Int)⟩ else none from rfl]
 by_cases g : 0 < j
 ·rw [if_pos g, if_pos g]; rfl
 ·rw [if_neg g, if_neg g]; rfl
theorem wX (l : Let) : tG l (el l).length = D3 l := by
 unfold tG D3
 rw [List.take_of_length_le (by rw [List.length_zipIdx]; exact Nat.le_refl _)]
theorem GP {α β : Type} {f : α → List β} {xs : List α} {i : Nat} {x : α} (h : xs[i]? = some x) : (xs.take (i + 1)).flatMap f = (xs.take i).flatMap f ++ f x := by
 rw [List.take_succ, h, Option.toList_some, List.flatMap_append]
 simp
theorem BN {α β : Type} {f : α → List β} {k : Nat} : ∀ {xs : List α}, (∀ x ∈ xs, (f x).length ≤ k) → (xs.flatMap f).length ≤ k * xs.length
 | [], _ => by simp
 | x :: xs, h => by
  have := BN (f := f) (k := k) (xs := xs) fun y hy => h y (List.mem_cons_of_mem _ hy)
  have := h x List.mem_cons_self
  rw [List.flatMap_cons, List.length_append, List.length_cons, Nat.mul_succ]
  omega
theorem EJ (l : Let) : (el l).length ≤ l.row.length := by
 unfold el MF
 have := List.length_filterMap_le (fun i => (l.row[i]?).bind fun x => if x ≠ l.name ∧ x ∉ l.row.drop (i + 1) then some x else none) (List.range l.row.length)
 rw [List.length_range] at this
 exact this
theorem yQ (l : Let) (j : Nat) : (tG l j).length ≤ (el l).length := by
 unfold tG
 refine Nat.le_trans (List.length_filterMap_le _ _) ?_
 rw [List.length_take, List.length_zipIdx]
 omega
theorem LG (l : Let) : (D3 l).length ≤ (el l).length := by rw [← wX]; exact yQ l _
noncomputable def lk (d : DD) (k : Key) : List PV := ((d.find? fun kp => decide (kp.1 = k)).map (·.2)).getD []
theorem QQ (d : DD) (k k' : Key) (p : PV) : lk (nS d k p) k' = if k = k' then lk d k' ++ [p] else lk d k' := by
 unfold nS
 cases c : d.any fun kp => decide (kp.1 = k) with
 | true =>
  rw [if_pos rfl]
  have key : ∀ d : DD, (d.map fun kp => if kp.1 = k then (kp.1, kp.2 ++ [p]) else kp).find? (fun kp => decide (kp.1 = k')) = (d.find? fun kp => decide (kp.1 = k')).map fun kp => if kp.1 = k then (kp.1, kp.2 ++ [p]) else kp := by
   intro d
   induction d with
   | nil => rfl
   | cons z d ih =>
    have e1 : (if z.1 = k then (z.1, z.2 ++ [p]) else z).1 = z.1 := by split <;> rfl
    rw [List.map_cons, List.find?_cons, List.find?_cons, e1]
    cases decide (z.1 = k') with
    | true => rfl
    | false => exact ih
  unfold lk
  rw [key]
  by_cases hk : k = k'
  ·subst hk
   rw [if_pos rfl]
   cases f : d.find? fun kp => decide (kp.1 = k) with
   | none =>
    have := List.find?_eq_none.mp f
    obtain ⟨z, hz, e⟩ := List.any_eq_true.mp c
    exact absurd e (by simpa using this z hz)
   | some z =>
    have hz : z.1 = k := by have := List.find?_some f; simpa using this
    simp [hz]
  ·rw [if_neg hk]
   cases f : d.find? fun kp => decide (kp.1 = k') with
   | none => rfl
   | some z =>
    have hz : z.1 = k' := by have := List.find?_some f; simpa using this
    have : ¬ z.1 = k := fun e => hk (e.symm.trans hz)
    simp [this]
 | false =>
  rw [if_neg Bool.false_ne_true]
  unfold lk
  rw [List.find?_append]
  by_cases hk : k = k'
  ·subst hk
   rw [if_pos rfl]
   have f : (d.find? fun kp => decide (kp.1 = k)) = none := List.find?_eq_none.mpr fun z hz => by
    have := List.any_eq_false.mp c z hz
    simpa using this
   rw [f]
   simp
  ·rw [if_neg hk]
   have f : ([(k, [p])] : DD).find? (fun kp => decide (kp.1 = k')) = none := by simp [hk]
   rw [f, Option.or_none]
theorem NR (ts : List wQ) (x : Str) : lk (xJ ts) (Sum.inr x) = (D6 x ts).map tP := by
 have key : ∀ (ts : List wQ) (d : DD), lk (ts.foldl (fun d t => nS d (Sum.inr t.key) (tP t)) d) (Sum.inr x) = lk d (Sum.inr x) ++ (D6 x ts).map tP := by
  intro ts
  induction ts with
  | nil => intro d; simp [D6]
  | cons t ts ih =>
   intro d
   rw [List.foldl_cons, ih, QQ]
   unfold D6
   by_cases h : t.key = x
   ·rw [if_pos (by rw [h]), List.filter_cons_of_pos (by simpa using h), List.map_cons, List.append_assoc]; rfl
   ·rw [if_neg (fun e => h (Sum.inr.inj e)), List.filter_cons_of_neg (by simpa using h)]
 have := key ts []
 simpa [xJ, lk] using this
theorem QX (d : DD) (k : Key) : (d5 (d.map fun kp => (kp.1, PV.lst kp.2)) k).getD (.lst []) = .lst (lk d k) := by
 unfold d5 lk
 induction d with
 | nil => rfl
 | cons z d ih =>
  rw [List.map_cons, List.find?_cons, List.find?_cons]
  cases decide (z.1 = k) with
  | true => rfl
  | false => exact ih
theorem LB (d : DD) (k : Key) (p : PV) {m : Nat} (h1 : d.length ≤ m) (h2 : ∀ kp ∈ d, kp.2.length ≤ m) : (nS d k p).length ≤ m + 1 ∧ ∀ kp ∈ nS d k p, kp.2.length ≤ m + 1 := by
 unfold nS
 split
 ·refine ⟨by rw [List.length_map]; omega, fun kp hk => ?_⟩
  obtain ⟨z, hz, rfl⟩ := List.mem_map.mp hk
  have := h2 z hz
  split
  ·rw [List.length_append]; simp only [List.length_cons, List.length_nil]; omega
  ·omega
 ·refine ⟨by rw [List.length_append]; simp only [List.length_cons, List.length_nil]; omega, fun kp hk => ?_⟩
  rcases List.mem_append.mp hk with h | h
  ·have := h2 kp h; omega
  ·rw [List.mem_singleton.mp h]; simp
theorem JZ (ts : List wQ) : (xJ ts).length ≤ ts.length ∧ ∀ kp ∈ xJ ts, kp.2.length ≤ ts.length := by
 have key : ∀ (ts : List wQ) (d : DD) (m : Nat), d.length ≤ m → (∀ kp ∈ d, kp.2.length ≤ m) → (ts.foldl (fun d t => nS d (Sum.inr t.key) (tP t)) d).length ≤ m + ts.length ∧ ∀ kp ∈ ts.foldl (fun d t => nS d (Sum.inr t.key) (tP t)) d, kp.2.length ≤ m + ts.length := by
  intro ts
  induction ts with
  | nil => intro d m h1 h2; exact ⟨h1, h2⟩
  | cons t ts ih =>
   intro d m h1 h2
   obtain ⟨g1, g2⟩ := LB d (Sum.inr t.key) (tP t) h1 h2
   have := ih _ (m + 1) g1 g2
   rw [List.foldl_cons, List.length_cons]
   rw [show m + (ts.length + 1) = m + 1 + ts.length by omega]
   exact this
 have := key ts [] 0 (Nat.le_refl _) (fun _ h => (nomatch h))
 rw [Nat.zero_add] at this
 exact this
end
section
open PySem L2 Mr
theorem RP (t : wQ) : mD 3 (tP t) = true := rfl
theorem RU (l k : wQ) : (oF 3 (tP l) (tP k)).isSome = true := by
 show (fR (oF 2) [PV.int l.day, PV.str l.name, PV.int l.at'] [PV.int k.day, PV.str k.name, PV.int k.at']).isSome = true
 unfold fR
 split
 ·unfold fR
  split
  ·unfold fR
   split
   ·rfl
   ·rfl
  ·rfl
 ·rfl
theorem u4 (ls : List wQ) : gY 3 (ls.map tP) = true := List.all_eq_true.mpr fun p hp => by
 obtain ⟨l, _, rfl⟩ := List.mem_map.mp hp
 rw [Bool.and_eq_true]
 refine ⟨RP l, List.all_eq_true.mpr fun q hq => ?_⟩
 obtain ⟨k, _, rfl⟩ := List.mem_map.mp hq
 exact RU l k
theorem EK {qs : List Let} (hr : ∀ l ∈ qs, l.row.length ≤ 9) (hl : qs.length ≤ 100) (i : Nat) : (((st qs).take i).flatMap D3).length ≤ 900 := by
 have := BN (f := D3) (k := 9) (xs := (st qs).take i) fun l h => by
  have := hr l (mO (List.mem_of_mem_take h))
  have := EJ l
  have := LG l
  omega
 rw [List.length_take] at this
 have := zT qs
 omega
theorem uY {qs : List Let} {Q : PV × List PV → Prop} (hr : ∀ l ∈ qs, l.row.length ≤ 9) (hl : qs.length ≤ 100) (q : Q (.bW ((xJ (lW qs)).map fun kp => (kp.1, PV.lst kp.2)), [])) : Wp (gR [.tup (qs.map lP)]) Q := by
 unfold gR lI
 walk_at "wp"
 refine pS hl ?_
 walk_at "wp"
 refine xN (fun i e d => d = xJ (((st qs).take i).flatMap D3) ∧ ∃ v2 v3 v4, e = [some (Sl.val (PV.tup (qs.map lP))), none, v2, v3, v4]) ?_ ?_ ⟨rfl, _, _, _, rfl⟩
 ·rintro i p e d hx ⟨rfl, v2, v3, v4, rfl⟩
  rw [List.getElem?_map] at hx
  obtain ⟨l, hk, rfl⟩ := Option.map_eq_some_iff.mp hx
  have hrow := hr l (mO (List.mem_of_getElem? hk))
  have b1 := EK hr hl i
  walk_at "wp"
  refine tL (l := l) hrow ?_
  walk_at "wp"
  refine xN (fun j e d => d = xJ (((st qs).take i).flatMap D3 ++ tG l j) ∧ ∃ v3 v4, e = [some (Sl.val (PV.tup (qs.map lP))), none, some (Sl.val (lP l)), v3, v4]) ?_ ?_ ⟨by rw [show tG l 0 = [] from rfl, List.append_nil], _, _, rfl⟩
  ·rintro j p e d hx ⟨rfl, v3, v4, rfl⟩
   rw [List.getElem?_map, List.getElem?_zipIdx, List.getElem?_map] at hx
   cases hn : (el l)[j]? with
   | none => rw [hn] at hx; cases hx
   | some n =>
    rw [hn] at hx
    cases hx
    have hs := DI hn
    have b2 := yQ l j
    have b3 := EJ l
    have g := JZ (((st qs).take i).flatMap D3 ++ tG l j)
    rw [List.length_append] at g
    rw [show lP l = PV.tup [PV.str l.name, PV.int l.day, PV.str l.head, PV.tup (l.row.map PV.str)] from rfl]
    walk_at "wp"
    rw [hs, Nat.zero_add]
    refine ⟨fun hj => ?_, fun hj => ?_⟩
    ·have hj' : 0 < j := by omega
     refine ⟨⟨by omega, List.all_eq_true.mpr fun kp hkp => decide_eq_true (by have := g.2 kp hkp; omega)⟩, ?_, _, _, rfl⟩
     rw [if_pos hj', ← List.append_assoc, HD]; rfl
    ·have hj' : ¬ 0 < j := by omega
     refine ⟨?_, _, _, rfl⟩
     rw [if_neg hj', List.append_nil]
  ·rintro e d ⟨rfl, v3, v4, rfl⟩
   walk_at "wp"
   rw [List.length_zipIdx, List.length_map, wX, GP hk]
   exact ⟨rfl, _, _, _, rfl⟩
 ·rintro e d ⟨rfl, v2, v3, v4, rfl⟩
  rw [List.length_map, List.take_length]
  walk_at "wp"
  exact q
end
section
open PySem L2 Mr
theorem FV {ks : List Str} {x y : Str} : y ∈ yY ks x ↔ y ∈ ks ∨ y = x := by
 unfold yY
 split
 ·rename_i h
  exact ⟨.inl, fun z => z.elim id fun e => by rw [e]; exact h⟩
 ·rw [List.mem_append, List.mem_singleton]
theorem rG {xs : List Str} {y : Str} : y ∈ vT xs ↔ y ∈ xs := by
 have key : ∀ (l k : List Str), y ∈ l.foldl yY k ↔ y ∈ k ∨ y ∈ l := by
  intro l
  induction l with
  | nil => intro k; simp
  | cons x l ih =>
   intro k
   rw [List.foldl_cons, ih, FV, List.mem_cons, or_assoc]
 have := key xs []
 simpa [vT] using this
theorem CU (xs : List Str) : (vT xs).Nodup := by
 have key : ∀ (l k : List Str), k.Nodup → (l.foldl yY k).Nodup := by
  intro l
  induction l with
  | nil => intro k h; exact h
  | cons x l ih =>
   intro k h
   rw [List.foldl_cons]
   refine ih _ ?_
   unfold yY
   split
   ·exact h
   ·rename_i hx
    refine List.nodup_append.mpr ⟨h, by simp, fun u hu v hv e => ?_⟩
    have : v = x := by simpa using hv
    rw [e, this] at hu
    exact hx hu
 exact key xs [] List.nodup_nil
theorem sR (qs : List Let) : (st qs).map (·.name) = vT (qs.map (·.name)) := by
 have key : ∀ (xs k : List Let), (xs.foldl lK k).map (·.name) = (xs.map (·.name)).foldl yY (k.map (·.name)) := by
  intro xs
  induction xs with
  | nil => intro k; rfl
  | cons x xs ih =>
   intro k
   rw [List.foldl_cons, ih, List.map_cons, List.foldl_cons]
   congr 1
   unfold lK yY
   by_cases h : x.name ∈ k.map (·.name)
   ·have : (k.any fun y => decide (y.name = x.name)) = true := by
     obtain ⟨y, hy, e⟩ := List.mem_map.mp h
     exact List.any_eq_true.mpr ⟨y, hy, decide_eq_true e⟩
    rw [if_pos this, if_pos h]
   ·have : ¬ (k.any fun y => decide (y.name = x.name)) = true := fun z => by
     obtain ⟨y, hy, e⟩ := List.any_eq_true.mp z
     exact h (List.mem_map.mpr ⟨y, hy, of_decide_eq_true e⟩)
    rw [if_neg this, if_neg h, List.map_append]; rfl
 exact key qs []
theorem RR (qs : List Let) : ((st qs).map (·.name)).Nodup := by rw [sR]; exact CU _
noncomputable def y8 (ls : List Let) : List (Key × PV) := ls.map fun l => (Sum.inr l.name, PV.tup ((el l).map PV.str))
theorem KI {ls : List Let} {l : Let} (h : l.name ∉ ls.map (·.name)) : i3 (y8 ls) (Sum.inr l.name) (PV.tup ((el l).map PV.str)) = y8 (ls ++ [l]) := by
 unfold i3
 have e : ((y8 ls).any fun kv => decide (kv.1 = Sum.inr l.name)) = false := by
  unfold y8
  rw [List.any_map, List.any_eq_false]
  intro k hk
  have : k.name ≠ l.name := fun z => h (List.mem_map.mpr ⟨k, hk, z⟩)
  simp [this]
 rw [e, if_neg Bool.false_ne_true]
 unfold y8
 rw [List.map_append]; rfl
theorem BB (ls : List Let) (x : Str) : d5 (y8 ls) (Sum.inr x) = (ls.find? fun l => decide (l.name = x)).map fun l => PV.tup ((el l).map PV.str) := by
 unfold d5 y8
 induction ls with
 | nil => rfl
 | cons l ls ih =>
  rw [List.map_cons, List.find?_cons, List.find?_cons]
  by_cases h : l.name = x
  ·subst h; simp
  ·have h' : ¬ (Sum.inr l.name : Key) = Sum.inr x := fun z => h (Sum.inr.inj z)
   rw [decide_eq_false h', decide_eq_false h]
   exact ih
theorem K6 {qs : List Let} {Q : PV × List PV → Prop} (hr : ∀ l ∈ qs, l.row.length ≤ 9) (hl : qs.length ≤ 100) (q : Q (.bW (y8 (st qs)), [])) : Wp (iV [.tup (qs.map lP)]) Q := by
 unfold iV pA
 walk_at "wp"
 refine pS hl ?_
 walk_at "wp"
 have sl := zT qs
 refine ⟨by omega, ?_⟩
 refine sF (fun i d e => d = y8 ((st qs).take i) ∧ ∃ s, e = [s]) ?_ ?_ ⟨rfl, _, rfl⟩
 ·rintro i x e d hx ⟨rfl, s, rfl⟩
  rw [List.getElem?_map] at hx
  obtain ⟨l, hk, rfl⟩ := Option.map_eq_some_iff.mp hx
  have hrow := hr l (mO (List.mem_of_getElem? hk))
  have ok := tL (l := l) (Q := fun w => w = (PV.tup ((el l).map PV.str), [])) hrow rfl
  rw [show lP l = PV.tup [PV.str l.name, PV.int l.day, PV.str l.head, PV.tup (l.row.map PV.str)] from rfl] at ok ⊢
  walk_at "wp"
  refine ok.mono fun w hw => ?_
  subst hw
  walk_at "wp"
  refine ⟨?_, _, rfl⟩
  have nd := RR qs
  have hn : l.name ∉ ((st qs).take i).map (·.name) := fun z => by
   obtain ⟨k, hk2, e⟩ := List.mem_map.mp z
   obtain ⟨j, hj⟩ := List.mem_iff_getElem?.mp hk2
   rw [List.getElem?_take] at hj
   have hji : j < i := Classical.byContradiction fun z => by rw [if_neg z] at hj; cases hj
   rw [if_pos hji] at hj
   have e1 : ((st qs).map (·.name))[j]? = some l.name := by rw [List.getElem?_map, hj]; simp [e]
   have e2 : ((st qs).map (·.name))[i]? = some l.name := by rw [List.getElem?_map, hk]; rfl
   have hlt : j < ((st qs).map (·.name)).length := (List.getElem?_eq_some_iff.mp e1).1
   have := (List.getElem?_inj hlt nd).mp (e1.trans e2.symm)
   omega
  rw [KI hn, List.take_succ, hk]; rfl
 ·rintro d e ⟨rfl, s, rfl⟩
  rw [List.length_map, List.take_length]
  walk_at "wp"
  exact q
end
section
open PySem L2 Mr
theorem xT {held rows claimed : List (Key × PV)} {x : Str} {v : PV} {Q : PV × List PV → Prop} (h : d5 held (Sum.inr x) = some v) (q : Q (.tup [v, .tup [.str (Str.ofString "hand")]], [])) : Wp (dM [.bW held, .bW rows, .bW claimed, .str x]) Q := by
 unfold dM lA
 walk_at "wp"
 rw [h]
 walk_at "wp"
 exact ⟨fun _ => q, fun z => (by cases z)⟩
noncomputable def vA (ps : List PV) : PV := match ps.getLast? with
 | some p => .tup [p, .tup [.str (Str.ofString "own")]]
 | none => .tup [.bJ, .tup [.str (Str.ofString "first")]]
theorem B9 {ps : List PV} {p : PV} (h : ps.getLast? = some p) : oS ps (-1) = some p := by
 have hne : ps ≠ [] := fun z => by rw [z] at h; cases h
 have hl : 0 < ps.length := List.length_pos_iff.mpr hne
 rw [List.getLast?_eq_getElem?] at h
 unfold oS
 have e : sS ps.length (-1) = some (ps.length - 1) := by
  unfold sS
  rw [if_neg (by decide), if_pos (by omega)]
  congr 1
  omega
 rw [e]
 exact h
theorem zH {held rows claimed : List (Key × PV)} {x : Str} {ps : List PV} {Q : PV × List PV → Prop} (h : d5 held (Sum.inr x) = none) (hr : d5 rows (Sum.inr x) = some (.tup ps)) (q : Q (vA ps, [])) : Wp (dM [.bW held, .bW rows, .bW claimed, .str x]) Q := by
 unfold dM lA
 walk_at "wp"
 rw [h, hr]
 refine ⟨fun z => (by cases z), fun _ => ⟨fun _ => ?_, fun z => (by cases z)⟩⟩
 walk_at "wp"
 cases e : ps.getLast? with
 | none =>
  have hn : ps = [] := List.getLast?_eq_none_iff.mp e
  subst hn
  exact ⟨fun z => (by cases z), fun _ => q⟩
 | some p =>
  have hn : ps.isEmpty = false := by cases ps with | nil => cases e | cons a r => rfl
  unfold vA at q
  rw [e] at q
  refine ⟨fun _ => ?_, fun z => by rw [hn] at z; cases z⟩
  rw [B9 e]
  walk_at "wp"
  exact q
theorem yA {held rows claimed : List (Key × PV)} {x one : Str} {d at' : Int} {ts r : List PV} {e : PV} {Q : PV × List PV → Prop} (h : d5 held (Sum.inr x) = none) (hr : d5 rows (Sum.inr x) = none) (hc : d5 claimed (Sum.inr x) = some (.lst ts)) (h0 : 0 < ts.length) (ok : gY 3 ts = true)
  (hm : vQ ts = .tup [.int d, .str one, .int at']) (ho : d5 rows (Sum.inr one) = some (.tup r)) (he : oS r (at' - 1) = some e) (q : Q (.tup [e, .tup [.str (Str.ofString "told"), .str one, .int at']], [])) : Wp (dM [.bW held, .bW rows, .bW claimed, .str x]) Q := by
 unfold dM lA
 walk_at "wp"
 rw [h, hr, hc]
 refine ⟨fun z => (by cases z), fun _ => ⟨fun z => (by cases z), fun _ => ⟨fun _ => ?_, fun z => (by cases z)⟩⟩⟩
 walk_at "wp"
 rw [hm]
 refine ⟨⟨h0, ok⟩, ?_⟩
 walk_at "wp"
 rw [ho]
 walk_at "wp"
 rw [he]
 walk_at "wp"
 exact q
end
section
open PySem L2 Mr
theorem CC (d : List (Key × PV)) (k k' : Key) (v : PV) : d5 (i3 d k v) k' = if k = k' then some v else d5 d k' := by
 unfold i3
 cases c : d.any fun kv => decide (kv.1 = k) with
 | true =>
  rw [if_pos rfl]
  have key : ∀ d : List (Key × PV), (d.map fun kv => if kv.1 = k then (kv.1, v) else kv).find? (fun kp => decide (kp.1 = k')) = (d.find? fun kp => decide (kp.1 = k')).map fun kv => if kv.1 = k then (kv.1, v) else kv := by
   intro d
   induction d with
   | nil => rfl
   | cons z d ih =>
    have e1 : (if z.1 = k then (z.1, v) else z).1 = z.1 := by split <;> rfl
    rw [List.map_cons, List.find?_cons, List.find?_cons, e1]
    cases decide (z.1 = k') with
    | true => rfl
    | false => exact ih
  unfold d5
  rw [key]
  by_cases hk : k = k'
  ·subst hk
   rw [if_pos rfl]
   cases f : d.find? fun kp => decide (kp.1 = k) with
   | none =>
    have := List.find?_eq_none.mp f
    obtain ⟨z, hz, e⟩ := List.any_eq_true.mp c
    exact absurd e (by simpa using this z hz)
   | some z =>
    have hz : z.1 = k := by have := List.find?_some f; simpa using this
    simp [hz]
  ·rw [if_neg hk]
   cases f : d.find? fun kp => decide (kp.1 = k') with
   | none => rfl
   | some z =>
    have hz : z.1 = k' := by have := List.find?_some f; simpa using this
    have : ¬ z.1 = k := fun e => hk (e.symm.trans hz)
    simp [this]
 | false =>
  rw [if_neg Bool.false_ne_true]
  unfold d5
  rw [List.find?_append]
  by_cases hk : k = k'
  ·subst hk
   rw [if_pos rfl]
   have f : (d.find? fun kp => decide (kp.1 = k)) = none := List.find?_eq_none.mpr fun z hz => by
    have := List.any_eq_false.mp c z hz
    simpa using this
   rw [f]
   simp
  ·rw [if_neg hk]
   have f : ([(k, v)] : List (Key × PV)).find? (fun kp => decide (kp.1 = k')) = none := by simp [hk]
   rw [f, Option.or_none]
noncomputable def heldOf (ks : Hl) : List (Key × PV) := ks.foldl (fun d z => i3 d (Sum.inr z.1) (oP z.2)) []
theorem wD {x : Str} : ∀ (ks : Hl) (d : List (Key × PV)), (∀ z ∈ ks, z.1 ≠ x) → d5 (ks.foldl (fun d z => i3 d (Sum.inr z.1) (oP z.2)) d) (Sum.inr x) = d5 d (Sum.inr x)
 | [], d, _ => rfl
 | z :: ks, d, h => by
  rw [List.foldl_cons, wD ks _ fun y hy => h y (List.mem_cons_of_mem _ hy), CC, if_neg fun e => h z List.mem_cons_self (Sum.inr.inj e)]
theorem tM {ks : Hl} {x : Str} (h : ∀ z ∈ ks, z.1 ≠ x) : d5 (heldOf ks) (Sum.inr x) = none := wD ks [] h
theorem BY {x : Str} {o : Option Str} : ∀ (ks : Hl) (d : List (Key × PV)), (∀ z ∈ ks, z.1 = x → z.2 = o) → (x, o) ∈ ks → d5 (ks.foldl (fun d z => i3 d (Sum.inr z.1) (oP z.2)) d) (Sum.inr x) = some (oP o)
 | z :: ks, d, h, hm => by
  rw [List.foldl_cons]
  by_cases hin : (x, o) ∈ ks
  ·exact BY ks _ (fun y hy => h y (List.mem_cons_of_mem _ hy)) hin
  ·have hz : z = (x, o) := ((List.mem_cons.mp hm).resolve_right hin).symm
   rw [wD ks _ fun y hy e => hin (by have := h y (List.mem_cons_of_mem _ hy) e; rw [← e, ← this]; exact hy), CC, hz, if_pos rfl]
theorem C8 {ks : Hl} {x : Str} {o : Option Str} (h : ∀ z ∈ ks, z.1 = x → z.2 = o) (hm : (x, o) ∈ ks) : d5 (heldOf ks) (Sum.inr x) = some (oP o) := BY ks [] h hm
theorem o6 {qs : List Let} {ks : Hl} {x : Str} {res : PV} {Q : PV × List PV → Prop} (hr : ∀ l ∈ qs, l.row.length ≤ 9) (hl : qs.length ≤ 100) (hk : ks.length ≤ 100)
  (hc : Wp (dM [.bW (heldOf ks), .bW (y8 (st qs)), .bW ((xJ (lW qs)).map fun kp => (kp.1, PV.lst kp.2)), .str x]) fun w => w = (res, [])) (q : Q (res, [])) : Wp (hV [.tup (qs.map lP), .tup (mP ks), .str x]) Q := by
 have ch : ∀ {R : PV × List PV → Prop}, R (.bW [(Sum.inr x, res)], []) → Wp (iP [.tup (qs.map lP), .tup (mP ks), .tup [.str x]]) R := fun {R} r => by
  unfold iP oZ
  walk_at "wp"
  refine ⟨by unfold mP; rw [List.length_map]; omega, ?_⟩
  refine sF (fun i d e => d = heldOf (ks.take i) ∧ ∃ s t, e = [s, t]) ?_ ?_ ⟨rfl, _, _, rfl⟩
  ·rintro i p e d hx ⟨rfl, s, t, rfl⟩
   unfold mP at hx
   rw [List.getElem?_map] at hx
   obtain ⟨z, hz, rfl⟩ := Option.map_eq_some_iff.mp hx
   walk_at "wp"
   refine ⟨?_, _, _, rfl⟩
   unfold heldOf
   rw [List.take_succ, hz, Option.toList_some, List.foldl_append]; rfl
  ·rintro d e ⟨rfl, s, t, rfl⟩
   rw [show (mP ks).length = ks.length by unfold mP; rw [List.length_map], List.take_length]
   walk_at "wp"
   refine K6 hr hl ?_
   walk_at "wp"
   refine uY hr hl ?_
   walk_at "wp"
   refine sF (fun i d e => (i = 0 → d = []) ∧ (i = 1 → d = [(Sum.inr x, res)]) ∧ ∃ s, e = [s, some (Sl.val (.bW (heldOf ks))), some (Sl.val (.bW (y8 (st qs)))), some (Sl.val (.bW ((xJ (lW qs)).map fun kp => (kp.1, PV.lst kp.2))))]) ?_ ?_ ⟨fun _ => rfl, fun z => (by cases z), _, rfl⟩
   ·rintro i p e d hx ⟨h1, h2, s, rfl⟩
    have hi : i = 0 := by
     have := (List.getElem?_eq_some_iff.mp hx).1
     simp at this; exact this
    subst hi
    rw [h1 rfl]
    cases hx
    walk_at "wp"
    refine hc.mono fun w hw => ?_
    subst hw
    walk_at "wp"
    exact ⟨fun z => (by cases z), rfl, _, rfl⟩
   ·rintro d e ⟨h1, h2, s, rfl⟩
    rw [h2 rfl]
    walk_at "wp"
    exact r
 unfold hV qT
 walk_at "wp"
 refine ch ?_
 walk_at "wp"
 have e : d5 [((Sum.inr x : Key), res)] (Sum.inr x) = some res := by unfold d5; simp
 rw [e]
 walk_at "wp"
 exact q
end
section
open PySem L2 Mr
theorem FF {a b c m : Int} {n : Nat} {Q : PV × List PV → Prop} (h : Hand a b c n) (m0 : 0 ≤ m) (m1 : m ≤ 60) (hn : n < 100000)
  (q : ∀ (ss : List Str) a' b' c', (ss.length : Int) = m → (∀ x ∈ ss, x.length ≤ 12) → ss.Nodup → Hand a' b' c' (n + 13 * 60) → Q (.lst (ss.map PV.str), [hd a' b' c'])) : Wp (fF [hd a b c, .int m]) Q := by
 unfold fF lF
 walk_at "wp"
 refine ⟨iN (by omega) (by omega), ?_⟩
 refine iL (fun i e => ∃ (ss : List Str) (a b c : Int) (v3 v4 v5 : Option Sl), ss.length = i ∧ (∀ x ∈ ss, x.length ≤ 12) ∧ ss.Nodup ∧ Hand a b c (n + 13 * i) ∧ e = [some (.own (hd a b c)), some (.val (.int m)), some (.loc (.lst (ss.map PV.str))), v3, v4, v5]) ?_ ?_ ⟨[], a, b, c, _, _, _, rfl, fun _ h => (nomatch h), List.nodup_nil, h, rfl⟩
 ·rintro i x e hx ⟨ss, a, b, c, v3, v4, v5, hl, hs, nd, hp, rfl⟩
  rw [List.getElem?_map] at hx
  obtain ⟨k, hk, rfl⟩ := Option.map_eq_some_iff.mp hx
  have hi := (List.getElem?_eq_some_iff.mp hk).1
  rw [List.length_range] at hi
  walk_at "wp"
  refine dE hp (by omega) (by decide) (by decide) fun d a1 b1 c1 d0 d1 hp => ?_
  walk_at "wp"
  refine fK d0 d1 fun p hp' => ?_
  obtain ⟨z, rfl, z0, z1⟩ : ∃ z : Int, p = .int z ∧ 1 ≤ z ∧ z ≤ 12 := by
   have r0 := Int.emod_nonneg (0 + (k : Int)) (show (12 : Int) ≠ 0 by decide)
   have r1 := Int.emod_lt_of_pos (0 + (k : Int)) (show (0 : Int) < 12 by decide)
   simp only [List.mem_cons, List.not_mem_nil, or_false] at hp'
   rcases hp' with rfl | rfl | rfl | rfl | rfl | rfl
   ·exact ⟨_, rfl, by decide, by decide⟩
   ·exact ⟨_, rfl, by decide, by decide⟩
   ·exact ⟨_, rfl, by decide, by decide⟩
   ·exact ⟨_, rfl, by decide, by decide⟩
   ·exact ⟨_, rfl, by decide, by decide⟩
   ·exact ⟨_, rfl, by omega, by omega⟩
  walk_at "wp"
  refine ⟨iN (by omega) (by omega), by omega, ?_⟩
  refine HM hp (by rw [List.length_map, List.length_range]; omega) fun zs s' a2 b2 c2 zl hz hp => ?_
  rw [List.length_map, List.length_range] at zl hp
  walk_at "wp"
  refine KL hz (by omega) fun x hx => ?_
  walk_at "wp"
  have ok8 : (ss.map PV.str).all (gU 8) = true := List.all_eq_true.mpr fun p hp => by obtain ⟨y, _, rfl⟩ := List.mem_map.mp hp; rfl
  have done : ∀ y : Str, y.length ≤ 12 → y ∉ ss → ∃ (ss' : List Str) (a b c : Int) (v3 v4 v5 : Option Sl), ss'.length = i + 1 ∧ (∀ x ∈ ss', x.length ≤ 12) ∧ ss'.Nodup ∧ Hand a b c (n + 13 * (i + 1)) ∧ [some (Sl.own (hd a2 b2 c2)), some (Sl.val (PV.int m)), some (Sl.loc (PV.lst (ss.map PV.str ++ [PV.str y]))), some (Sl.val (PV.int (0 + (k : Int)))), some (Sl.val (PV.int z)), some (Sl.val (PV.str y))] = [some (.own (hd a b c)), some (.val (.int m)), some (.loc (.lst (ss'.map PV.str))), v3, v4, v5] := fun y hy hny =>
   ⟨ss ++ [y], a2, b2, c2, _, _, _, by rw [List.length_append, hl]; rfl, fun w hw => (List.mem_append.mp hw).elim (hs w) fun e => by rw [List.mem_singleton.mp e]; exact hy, List.nodup_append.mpr ⟨nd, by simp, fun u hu v hv e => hny (by rw [← show v = y by simpa using hv, ← e]; exact hu)⟩, hp.mono (by omega), by rw [List.map_append]; rfl⟩
  refine ⟨ok8, fun g => ⟨iN (by omega) (by omega), by omega, ?_⟩, fun g => ⟨by omega, done x (by omega) (by rw [oH] at g; simpa using g)⟩⟩
  rw [show ((ss.length : Int) + 1).toNat = ss.length + 1 by omega]
  refine gL (fun j acc e => acc = (((List.range j).filter fun k => decide (sN k ∉ ss)).map fun k => PV.str (sN k)) ∧ ∃ s, e = [s, some (Sl.bor (PV.lst (ss.map PV.str)))]) ?_ ?_ ⟨rfl, _, rfl⟩
  ·rintro j y e acc hy ⟨rfl, s1, rfl⟩
   rw [List.getElem?_map] at hy
   obtain ⟨k', hk', rfl⟩ := Option.map_eq_some_iff.mp hy
   have hj := (List.getElem?_eq_some_iff.mp hk').1
   have ej := (List.getElem?_eq_some_iff.mp hk').2
   rw [List.length_range] at hj
   rw [List.getElem_range] at ej
   subst ej
   walk_at "wp"
   refine ⟨tW (by omega), ok8, ?_⟩
   rw [oH]
   have er : (List.range (j + 1)).filter (fun k => decide (sN k ∉ ss)) = (List.range j).filter (fun k => decide (sN k ∉ ss)) ++ (if sN j ∉ ss then [j] else []) := by
    rw [List.range_succ, List.filter_append]
    congr 1
    by_cases hm : sN j ∉ ss
    ·rw [if_pos hm]; simp [hm]
    ·rw [if_neg hm]; simp at hm; simp [hm]
   by_cases hm : sN j ∈ ss
   ·rw [show decide (Str.ofString (toString (0 + (j : Int))) ∈ ss) = true from decide_eq_true hm]
    refine ⟨?_, _, rfl⟩
    rw [er, if_neg (fun z => z hm), List.append_nil]
   ·rw [show decide (Str.ofString (toString (0 + (j : Int))) ∈ ss) = false from decide_eq_false hm]
    refine ⟨tW (by omega), ?_, _, rfl⟩
    rw [er, if_pos hm, List.map_append]
    rfl
  ·rintro acc e ⟨rfl, s1, rfl⟩
   rw [List.length_map, List.length_range]
   obtain ⟨k0, hk0, hf⟩ := J2 (ss := ss) (by omega)
   have hm : k0 ∈ (List.range (ss.length + 1)).filter fun k => decide (sN k ∉ ss) := List.mem_filter.mpr ⟨hk0, decide_eq_true hf⟩
   have sub : ∀ k ∈ (List.range (ss.length + 1)).filter fun k => decide (sN k ∉ ss), (sN k).length ≤ 12 := fun k hk => by
    have := List.mem_range.mp (List.mem_filter.mp hk).1
    have := PQ k (List.mem_range.mpr (by omega))
    omega
   cases ef : (List.range (ss.length + 1)).filter fun k => decide (sN k ∉ ss) with
   | nil => rw [ef] at hm; cases hm
   | cons k1 r =>
    have := sub k1 (by rw [ef]; exact List.mem_cons_self)
    walk_at "wp"
    exact ⟨by omega, done _ this (by have h1 := (List.mem_filter.mp (show k1 ∈ (List.range (ss.length + 1)).filter fun k => decide (sN k ∉ ss) by rw [ef]; exact List.mem_cons_self)).2; simpa using h1)⟩
 ·rintro e ⟨ss, a, b, c, v3, v4, v5, hl, hs, nd, hp, rfl⟩
  walk_at "wp"
  rw [List.length_map, List.length_range] at hl
  rw [List.length_map, List.length_range] at hp
  exact q ss a b c (by omega) hs nd (hp.mono (by omega))
end
section
open PySem L2 Mr
theorem yT {own : Let} {qs : List Let} {Q : PV × List PV → Prop} (hl : qs.length ≤ 60) (q : ∀ ls : List Let, ls.Perm (own :: qs.filter fun l => decide (l.name ≠ own.name)) → Q (.tup (ls.map lP), [])) : Wp (dZ [lP own, .tup (qs.map lP)]) Q := by
 unfold dZ kR
 walk_at "wp"
 refine ⟨by omega, ?_⟩
 refine gL (fun i acc e => acc = ((qs.take i).filter fun l => decide (l.name ≠ own.name)).map lP ∧ ∃ s, e = [s, some (Sl.val (lP own))]) ?_ ?_ ⟨rfl, _, rfl⟩
 ·rintro i p e acc hx ⟨rfl, s, rfl⟩
  rw [List.getElem?_map] at hx
  obtain ⟨k, hk, rfl⟩ := Option.map_eq_some_iff.mp hx
  rw [List.take_succ, hk, Option.toList_some, List.filter_append, List.map_append]
  rw [show lP k = PV.tup [PV.str k.name, PV.int k.day, PV.str k.head, PV.tup (k.row.map PV.str)] from rfl, show lP own = PV.tup [PV.str own.name, PV.int own.day, PV.str own.head, PV.tup (own.row.map PV.str)] from rfl]
  walk_at "wp"
  by_cases g : k.name = own.name
  ·rw [show (k.name == own.name) = true by rw [g]; exact beq_self_eq_true _, List.filter_cons_of_neg (by simp [g])]
   exact ⟨by simp, _, rfl⟩
  ·rw [show (k.name == own.name) = false from beq_false_of_ne g, List.filter_cons_of_pos (by simp [g])]
   exact ⟨rfl, _, rfl⟩
 ·rintro acc e ⟨rfl, s, rfl⟩
  have et : qs.take (qs.map lP).length = qs := by rw [List.length_map, List.take_length]
  rw [et]
  walk_at "wp"
  have fl := List.length_filter_le (fun l => decide (l.name ≠ own.name)) qs
  rw [show lP own :: (qs.filter fun l => decide (l.name ≠ own.name)).map lP = (own :: qs.filter fun l => decide (l.name ≠ own.name)).map lP from rfl]
  refine ⟨by omega, ?_⟩
  refine o7 (by rw [List.length_cons]; omega) fun ks k1 _ => ?_
  walk_at "wp"
  exact q ks k1
theorem AG {hs : Hl} {Q : Bv → Prop} (nd : (hs.map (·.1)).Nodup) (h : hs.length < 64) (q : ∀ ks : Hl, ks.Perm hs → Q (.new (.lst (mP ks)))) : Wp (kN [.lst (mP hs)]) Q := by
 cases hs with
 | nil => exact ⟨_, rfl, by rw [show nN [] = [] by unfold nN; simp]; exact q [] (.refl _)⟩
 | cons l ls =>
  have e1 : qX [.lst (mP (l :: ls))] = none := rfl
  have e2 : rO [.lst (mP (l :: ls))] = none := rfl
  unfold kN
  rw [e1, e2, Option.none_or, Option.none_or]
  unfold rQ
  simp only [fD, dD]
  refine ⟨?_, ?_⟩
  ·rw [GG, IU nd, show (mP (l :: ls)).length = (l :: ls).length by unfold mP; rw [List.length_map], decide_eq_true h]; rfl
  ·obtain ⟨ks, k1, k2⟩ := A9 (eQ 3 (mP (l :: ls)))
   rw [k2]
   exact q ks k1
theorem B3 {ps : List (List Let)} {ks : Hl} {x : Str} {ds : List PV} {Q : PV × List PV → Prop} (nd : (ks.map (·.1)).Nodup) (hk : ks.length ≤ 50) (hd : mD 3 (.tup ds) = true) (hps : ps.length ≤ 100)
  (hp : ∀ qs ∈ ps, (∀ l ∈ qs, l.row.length ≤ 9) ∧ qs.length ≤ 100 ∧ ∀ ks' : Hl, (∀ z ∈ ks', z.1 ≠ x) → Wp (dM [.bW (heldOf ks'), .bW (y8 (st qs)), .bW ((xJ (lW qs)).map fun kp => (kp.1, PV.lst kp.2)), .str x]) fun w => w = (.tup ds, []))
  (q : Q (.bl true, [])) : Wp (eM [.lst (ps.map fun qs => PV.tup (qs.map lP)), .tup (mP ks), .str x, .tup ds]) Q := by
 unfold eM mQ
 walk_at "wp"
 refine ⟨by unfold mP; rw [List.length_map]; omega, ?_⟩
 refine gL (fun i acc e => acc = mP ((ks.take i).filter fun z => decide (z.1 ≠ x)) ∧ ∃ s, e = [s, some (Sl.val (PV.str x))]) ?_ ?_ ⟨rfl, _, rfl⟩
 ·rintro i p e acc hx ⟨rfl, s, rfl⟩
  unfold mP at hx
  rw [List.getElem?_map] at hx
  obtain ⟨z, hz, rfl⟩ := Option.map_eq_some_iff.mp hx
  rw [List.take_succ, hz, Option.toList_some, List.filter_append]
  unfold mP
  rw [List.map_append]
  walk_at "wp"
  by_cases g : z.1 = x
  ·rw [show (z.1 == x) = true by rw [g]; exact beq_self_eq_true _, List.filter_cons_of_neg (by simp [g])]
   exact ⟨by simp, _, rfl⟩
  ·rw [show (z.1 == x) = false from beq_false_of_ne g, List.filter_cons_of_pos (by simp [g])]
   exact ⟨rfl, _, rfl⟩
 ·rintro acc e ⟨rfl, s, rfl⟩
  have et : ks.take (mP ks).length = ks := by unfold mP; rw [List.length_map, List.take_length]
  rw [et]
  walk_at "wp"
  have hoth : ∀ z ∈ ks.filter fun z => decide (z.1 ≠ x), z.1 ≠ x := fun z hz => by simpa using (List.mem_filter.mp hz).2
  have lo : (ks.filter fun z => decide (z.1 ≠ x)).length ≤ ks.length := List.length_filter_le _ _
  have edue : dP ds ds = true := by have := qY hd; rw [FW] at this; exact this
  have odue : gU 9 (.tup ds) = true := by
   have key : ∀ (n : Nat) (p : PV), mD n p = true → ∀ m, n ≤ m → gU m p = true := by
    intro n
    induction n with
    | zero => intro p h m _; cases p <;> first | (cases m <;> rfl) | cases h
    | succ n ih =>
     intro p h m hm
     cases p with
     | tup ps =>
      cases m with
      | zero => omega
      | succ m => exact List.all_eq_true.mpr fun r hr => ih r (List.all_eq_true.mp h r hr) m (by omega)
     | bJ => cases m <;> rfl
     | int i => cases m <;> rfl
     | str i => cases m <;> rfl
     | _ => cases h
   exact key 3 _ hd 9 (by decide)
  have ndo : ((ks.filter fun z => decide (z.1 ≠ x)).map (·.1)).Nodup := nd.sublist ((List.filter_sublist).map _)
  generalize ks.filter (fun z => decide (z.1 ≠ x)) = oth at *
  refine iL (fun i e => ∃ v0 v1 v5 v6 : Option Sl, e = [v0, v1, some (Sl.val (PV.str x)), some (Sl.val (PV.tup ds)), some (Sl.val (PV.tup (mP oth))), v5, v6]) ?_ ?_ ⟨_, _, _, _, rfl⟩
  ·rintro i p e hx ⟨v0, v1, v5, v6, rfl⟩
   rw [List.getElem?_map] at hx
   obtain ⟨qs, hq, rfl⟩ := Option.map_eq_some_iff.mp hx
   obtain ⟨r1, r2, r3⟩ := hp qs (List.mem_of_getElem? hq)
   walk_at "wp"
   refine o6 r1 r2 (by omega) (r3 oth hoth) ?_
   walk_at "wp"
   rw [edue]
   refine ⟨odue, fun z => (by cases z), fun _ => ?_⟩
   refine o6 (ks := []) r1 r2 (by simp) (r3 [] (fun _ h => nomatch h)) ?_
   walk_at "wp"
   rw [edue]
   refine ⟨odue, fun z => (by cases z), fun _ => ?_⟩
   have lm : (mP oth).length = oth.length := by unfold mP; rw [List.length_map]
   have nd2 : (((x, none) :: oth : Hl).map (·.1)).Nodup := by
    rw [List.map_cons, List.nodup_cons]
    refine ⟨fun z => ?_, ndo⟩
    obtain ⟨w, hw, e⟩ := List.mem_map.mp z
    exact hoth w hw e
   refine ⟨by omega, ?_⟩
   rw [show PV.tup [PV.str x, PV.bJ] :: mP oth = mP ((x, none) :: oth) from rfl]
   refine AG nd2 (by rw [List.length_cons]; omega) fun sp hsp => ?_
   walk_at "wp"
   have inx : (x, none) ∈ sp := hsp.mem_iff.mpr List.mem_cons_self
   have bD : ∀ z ∈ sp, z.1 = x → z.2 = none := fun z hz e => by
    rcases List.mem_cons.mp (hsp.mem_iff.mp hz) with h | h
    ·rw [h]
    ·exact absurd e (hoth z h)
   refine o6 (res := .tup [.bJ, .tup [.str (Str.ofString "hand")]]) r1 r2 (by rw [hsp.length_eq, List.length_cons]; omega) (xT (C8 bD inx) rfl) ?_
   walk_at "wp"
   exact ⟨_, _, _, _, rfl⟩
  ·rintro e ⟨v0, v1, v5, v6, rfl⟩
   walk_at "wp"
   exact q
end
section
open PySem L2 Mr
theorem w9 {qs : List Let} {own : Let} (hm : own ∈ qs) (hu : ∀ l ∈ qs, l.name = own.name → l = own) : d5 (y8 (st qs)) (Sum.inr own.name) = some (.tup ((el own).map PV.str)) := by
 rw [BB]
 have hx : own.name ∈ (st qs).map (·.name) := by
  rw [sR]
  exact rG.mpr (List.mem_map.mpr ⟨own, hm, rfl⟩)
 obtain ⟨l0, h0, e0⟩ := List.mem_map.mp hx
 cases f : (st qs).find? fun l => decide (l.name = own.name) with
 | none => exact absurd (decide_eq_true e0) (List.find?_eq_none.mp f l0 h0)
 | some l =>
  have hl : l.name = own.name := by have := List.find?_some f; simpa using this
  rw [hu l (mO (List.mem_of_find?_eq_some f)) hl]
  rfl
theorem JO {qs : List Let} {x : Str} (h : ∀ l ∈ qs, l.name ≠ x) : d5 (y8 (st qs)) (Sum.inr x) = none := by
 rw [BB]
 have : (st qs).find? (fun l => decide (l.name = x)) = none := List.find?_eq_none.mpr fun l hl => by simpa using h l (mO hl)
 rw [this]; rfl
theorem vR {qs : List Let} {own : Let} (hm : own ∈ qs) (hu : ∀ l ∈ qs, l.name = own.name → l = own) {ks : Hl} (hk : ∀ z ∈ ks, z.1 ≠ own.name) {cl : List (Key × PV)} :
  Wp (dM [.bW (heldOf ks), .bW (y8 (st qs)), .bW cl, .str own.name]) fun w => w = (vA ((el own).map PV.str), []) := zH (tM hk) (w9 hm hu) rfl
theorem IQ (ss : List Str) : ∃ ds, vA (ss.map PV.str) = .tup ds ∧ mD 3 (.tup ds) = true := by
 unfold vA
 cases e : (ss.map PV.str).getLast? with
 | none => exact ⟨_, rfl, rfl⟩
 | some p =>
  obtain ⟨y, _, rfl⟩ := List.mem_map.mp (List.mem_of_getLast? e)
  exact ⟨_, rfl, rfl⟩
theorem CM {one e x : Str} {d : Int} (h1 : e ≠ x) (h2 : e ≠ one) (h3 : x ≠ one) {h : Str} : el ⟨one, d, h, [e, x]⟩ = [e, x] := by
 have a : MF one [e, x] 1 = [e] := by
  rw [nK (x := e) rfl, if_pos ⟨h2, by simpa using h1⟩]; rfl
 show MF one [e, x] 2 = [e, x]
 rw [nK (x := x) rfl, a, if_pos ⟨h3, by simp⟩]; rfl
end
section
open PySem L2 Mr
noncomputable def gtB (day : Int) (one : Str) (l : Let) : Bool := if (l.day == day) = true then (if (l.name == one) = true then false else decide (one.cps.toList < l.name.cps.toList)) else decide (day < l.day)
theorem MG (day : Int) (one : Str) (l : Let) : RM 3 (.tup [.int l.day, .str l.name]) (.tup [.int day, .str one]) = some (gtB day one l) := by
 show AN (RM 2) [PV.int l.day, PV.str l.name] [PV.int day, PV.str one] = _
 unfold AN gtB
 rw [z8]
 split
 ·unfold AN
  rw [o9]
  split
  ·rfl
  ·rfl
 ·rfl
noncomputable def fT (day : Int) (one x : Str) (l : Let) : Bool := (gtB day one l || !decide (x ∈ (el l).drop 1)) && !(l.name == x)
theorem GV {qs : List Let} {day : Int} {one x : Str} {Q : PV × List PV → Prop} (hr : ∀ l ∈ qs, l.row.length ≤ 9) (hl : qs.length ≤ 100) (q : Q (.tup ((qs.filter (fT day one x)).map lP), [])) : Wp (fO [.tup (qs.map lP), .tup [.int day, .str one], .str x]) Q := by
 unfold fO kM
 walk_at "wp"
 refine iL (fun i e => ∃ v4 v5, e = [some (Sl.val (PV.tup (qs.map lP))), some (Sl.val (PV.tup [PV.int day, PV.str one])), some (Sl.val (PV.str x)), some (Sl.loc (PV.lst (((qs.take i).filter (fT day one x)).map lP))), v4, v5]) ?_ ?_ ⟨_, _, rfl⟩
 ·rintro i p e hx ⟨v4, v5, rfl⟩
  rw [List.getElem?_map] at hx
  obtain ⟨l, hk, rfl⟩ := Option.map_eq_some_iff.mp hx
  have hrow := hr l (List.mem_of_getElem? hk)
  have hi := (List.getElem?_eq_some_iff.mp hk).1
  have fl : ((qs.take i).filter (fT day one x)).length ≤ 100 := Nat.le_trans (List.length_filter_le _ _) (by rw [List.length_take]; omega)
  have ok := BM (l := l) (Q := fun w => w = (PV.lst ((el l).map PV.str), [])) hrow rfl
  rw [List.take_succ, hk, Option.toList_some, List.filter_append, List.map_append]
  rw [show lP l = PV.tup [PV.str l.name, PV.int l.day, PV.str l.head, PV.tup (l.row.map PV.str)] from rfl] at ok ⊢
  walk_at "wp"
  rw [MG]
  have k1 : fT day one x l = true → [l].filter (fT day one x) = [l] := fun h => List.filter_cons_of_pos h
  have k0 : fT day one x l = false → [l].filter (fT day one x) = [] := fun h => List.filter_cons_of_neg (by rw [h]; exact Bool.false_ne_true)
  have ed : qS ((el l).map PV.str) (some 1) none = ((el l).drop 1).map PV.str := by rw [List.map_drop]; exact rN _ 1
  have kb : fT day one x l = ((gtB day one l || !decide (x ∈ (el l).drop 1)) && !(l.name == x)) := rfl
  have f1 : fT day one x l = true → ∀ a b : Option Sl, ∃ v4 v5, [some (Sl.val (PV.tup (qs.map lP))), some (Sl.val (PV.tup [PV.int day, PV.str one])), some (Sl.val (PV.str x)), some (Sl.loc (PV.lst (((qs.take i).filter (fT day one x)).map lP ++ [PV.tup [PV.str l.name, PV.int l.day, PV.str l.head, PV.tup (l.row.map PV.str)]]))), a, b] = [some (Sl.val (PV.tup (qs.map lP))), some (Sl.val (PV.tup [PV.int day, PV.str one])), some (Sl.val (PV.str x)), some (Sl.loc (PV.lst (((qs.take i).filter (fT day one x)).map lP ++ ([l].filter (fT day one x)).map lP))), v4, v5] := fun h a b => ⟨a, b, by rw [k1 h]; rfl⟩
  have f0 : fT day one x l = false → ∀ a b : Option Sl, ∃ v4 v5, [some (Sl.val (PV.tup (qs.map lP))), some (Sl.val (PV.tup [PV.int day, PV.str one])), some (Sl.val (PV.str x)), some (Sl.loc (PV.lst (((qs.take i).filter (fT day one x)).map lP))), a, b] = [some (Sl.val (PV.tup (qs.map lP))), some (Sl.val (PV.tup [PV.int day, PV.str one])), some (Sl.val (PV.str x)), some (Sl.loc (PV.lst (((qs.take i).filter (fT day one x)).map lP ++ ([l].filter (fT day one x)).map lP))), v4, v5] := fun h a b => ⟨a, b, by rw [k0 h, List.map_nil, List.append_nil]⟩
  cases hg : gtB day one l with
  | true =>
   walk_at "wp"
   exact ⟨fun hn => ⟨by omega, f1 (by rw [kb, hg, Bool.true_or, Bool.true_and]; exact hn) _ _⟩, fun hn => f0 (by rw [kb, hg, Bool.true_or, Bool.true_and]; exact hn) _ _⟩
  | false =>
   walk_at "wp"
   refine ok.mono fun w hw => ?_
   subst hw
   walk_at "wp"
   rw [ed, oH]
   rw [hg, Bool.false_or] at kb
   cases hm : decide (x ∈ (el l).drop 1) with
   | true =>
    rw [hm] at kb
    walk_at "wp"
    exact ⟨iA _ 8, fun z => z.elim, f0 kb _ _⟩
   | false =>
    rw [hm] at kb
    walk_at "wp"
    exact ⟨iA _ 8, ⟨fun hn => ⟨by omega, f1 (by rw [kb]; exact hn) _ _⟩, fun hn => f0 (by rw [kb]; exact hn) _ _⟩, fun z => z.elim⟩
 ·rintro e ⟨v4, v5, rfl⟩
  rw [List.length_map, List.take_length]
  walk_at "wp"
  exact q
end
section
open PySem L2 Mr
theorem GY {day : Int} {one x : Str} {l : Let} {j : Int} (h : gtB day one l = true) : mF 3 (tP ⟨x, day, one, 1⟩) (tP ⟨x, l.day, l.name, j⟩) = true := by
 have e := lN (u4 [⟨x, l.day, l.name, j⟩, ⟨x, day, one, 1⟩]) (p := tP ⟨x, l.day, l.name, j⟩) (q := tP ⟨x, day, one, 1⟩) (by simp) (by simp)
 have e2 : oF 3 (tP ⟨x, l.day, l.name, j⟩) (tP ⟨x, day, one, 1⟩) = some false := by
  show fR (oF 2) [PV.int l.day, PV.str l.name, PV.int j] [PV.int day, PV.str one, PV.int 1] = some false
  unfold gtB at h
  unfold fR
  rw [z8]
  split at h
  ·rename_i hd
   rw [if_pos hd]
   unfold fR
   rw [o9]
   split at h
   ·cases h
   ·rename_i hn
    rw [if_neg hn]
    show some (decide (l.name.cps.toList < one.cps.toList)) = some false
    rw [decide_eq_false (List.lt_asymm (of_decide_eq_true h))]
  ·rename_i hd
   rw [if_neg hd]
   show some (decide (l.day < day)) = some false
   rw [decide_eq_false (by have := of_decide_eq_true h; omega)]
 rw [e2] at e
 unfold mF
 rw [← Option.some.inj e]; rfl
theorem yH {qs : List Let} {day : Int} {one e x h : Str} (h1 : e ≠ x) (h2 : e ≠ one) (h3 : x ≠ one) (hm : (⟨one, day, h, [e, x]⟩ : Let) ∈ qs) (hu : ∀ l ∈ qs, l.name = one → l = ⟨one, day, h, [e, x]⟩) (hx : ∀ l ∈ qs, l.name ≠ x)
  (hk : ∀ l ∈ qs, l ≠ ⟨one, day, h, [e, x]⟩ → gtB day one l = true ∨ x ∉ (el l).drop 1) {ks : Hl} (hks : ∀ z ∈ ks, z.1 ≠ x) :
  Wp (dM [.bW (heldOf ks), .bW (y8 (st qs)), .bW ((xJ (lW qs)).map fun kp => (kp.1, PV.lst kp.2)), .str x]) fun w => w = (.tup [.str e, .tup [.str (Str.ofString "told"), .str one, .int 1]], []) := by
 have elt := CM (d := day) (h := h) h1 h2 h3
 have tt : D3 ⟨one, day, h, [e, x]⟩ = [⟨x, day, one, 1⟩] := by
  unfold D3
  rw [elt]; rfl
 have tin : (⟨one, day, h, [e, x]⟩ : Let) ∈ st qs := by
  have hx : one ∈ (st qs).map (·.name) := by
   rw [sR]
   exact rG.mpr (List.mem_map.mpr ⟨_, hm, rfl⟩)
  obtain ⟨l0, h0, e0⟩ := List.mem_map.mp hx
  rw [← hu l0 (mO h0) e0]; exact h0
 have in0 : (⟨x, day, one, 1⟩ : wQ) ∈ D6 x (lW qs) := by
  unfold D6 lW
  exact List.mem_filter.mpr ⟨List.mem_flatMap.mpr ⟨_, tin, by rw [tt]; exact List.mem_cons_self⟩, by simp⟩
 have low : ∀ c ∈ D6 x (lW qs), mF 3 (tP ⟨x, day, one, 1⟩) (tP c) = true := fun c hc => by
  obtain ⟨c1, c2⟩ := List.mem_filter.mp hc
  obtain ⟨l, l1, l2⟩ := List.mem_flatMap.mp c1
  have ck : c.key = x := of_decide_eq_true c2
  by_cases g : l = ⟨one, day, h, [e, x]⟩
  ·rw [g, tt] at l2
   rw [List.mem_singleton.mp l2]
   have := uL (n := 3) (tP ⟨x, day, one, 1⟩) (tP ⟨x, day, one, 1⟩)
   simpa using this
  ·unfold D3 at l2
   obtain ⟨z, z1, z2⟩ := List.mem_filterMap.mp l2
   unfold UM at z2
   split at z2
   ·rename_i hz
    cases z2
    have hz1 : z.1 = x := ck
    obtain ⟨j, hj⟩ := List.mem_iff_getElem?.mp z1
    rw [List.getElem?_zipIdx] at hj
    cases hn : (el l)[j]? with
    | none => rw [hn] at hj; cases hj
    | some n =>
     rw [hn] at hj
     cases hj
     have hj0 : 0 < j := by simpa using hz
     have hin : x ∈ (el l).drop 1 := by
      have : ((el l).drop 1)[j - 1]? = some x := by rw [List.getElem?_drop, show 1 + (j - 1) = j by omega, hn]; exact congrArg some hz1
      exact List.mem_of_getElem? this
     have hg := (hk l (mO l1) g).resolve_right fun z => z hin
     have hnx : n = x := hz1
     subst hnx
     exact GY hg
   ·cases z2
 have hc : d5 ((xJ (lW qs)).map fun kp => (kp.1, PV.lst kp.2)) (Sum.inr x) = some (.lst ((D6 x (lW qs)).map tP)) := by
  have v := QX (xJ (lW qs)) (Sum.inr x)
  rw [NR] at v
  cases c : d5 ((xJ (lW qs)).map fun kp => (kp.1, PV.lst kp.2)) (Sum.inr x) with
  | none =>
   rw [c, Option.getD_none] at v
   have : (D6 x (lW qs)).map tP = [] := by injection v with v; exact v.symm
   have := List.map_eq_nil_iff.mp this
   rw [this] at in0
   cases in0
  | some p => rw [c, Option.getD_some] at v; rw [v]
 have pos : 0 < ((D6 x (lW qs)).map tP).length := List.length_pos_of_mem (List.mem_map.mpr ⟨_, in0, rfl⟩)
 have hmin : vQ ((D6 x (lW qs)).map tP) = tP ⟨x, day, one, 1⟩ := by
  have m1 := IS pos
  have m2 : mF 3 (vQ ((D6 x (lW qs)).map tP)) (tP ⟨x, day, one, 1⟩) = true := AS (List.mem_map.mpr ⟨_, in0, rfl⟩)
  obtain ⟨c, hc1, hc2⟩ := List.mem_map.mp m1
  refine rP (u4 _) m1 (List.mem_map.mpr ⟨_, in0, rfl⟩) m2 ?_
  rw [← hc2]
  exact low c hc1
 have ho := w9 hm hu
 rw [elt] at ho
 exact yA (tM hks) (JO hx) hc pos (u4 _) hmin ho rfl rfl
end
section
open PySem L2 Mr
theorem JW {ss : List Str} {m : Int} {zs : List xE} {Q : PV × List PV → Prop} (hm : (ss.length : Int) = m) (hz : ∀ z ∈ zs, MU m z) (hl : zs.length ≤ 60)
  (q : ∀ ls : List Let, ls.length ≤ zs.length → (0 < zs.length → 0 < ls.length) → (ls.map lP).Pairwise (fun a b => mF 3 a b = true) → (∀ l ∈ ls, l.row.length ≤ 9 ∧ l.name ∈ ss ∧ ∀ x ∈ l.row, x ∈ ss) → Q (.tup (ls.map lP), [])) : Wp (cS [.lst (zs.map BH), .lst (ss.map PV.str)]) Q := by
 unfold cS kA
 walk_at "wp"
 refine iL (fun i e => ∃ (ls : List Let) (v3 v4 v5 v6 v7 : Option Sl), ls.length ≤ i ∧ (0 < i → 0 < ls.length) ∧ (∀ l ∈ ls, l.row.length ≤ 9 ∧ l.name ∈ ss ∧ ∀ x ∈ l.row, x ∈ ss) ∧ e = [some (Sl.bor (PV.lst (zs.map BH))), some (Sl.bor (PV.lst (ss.map PV.str))), some (Sl.loc (PV.lst (ls.map lP))), v3, v4, v5, v6, v7]) ?_ ?_ ⟨[], _, _, _, _, _, Nat.le_refl _, (fun z => absurd z (by omega)), fun _ h => (nomatch h), rfl⟩
 ·rintro i x e hx ⟨ls, v3, v4, v5, v6, v7, ll, lp, hls, rfl⟩
  rw [List.getElem?_map] at hx
  obtain ⟨z, hk, rfl⟩ := Option.map_eq_some_iff.mp hx
  have hi := (List.getElem?_eq_some_iff.mp hk).1
  have ok := hz z (List.mem_of_getElem? hk)
  rw [show BH z = PV.tup [PV.int z.at', PV.int z.day, PV.str z.head, PV.lst (z.row.map PV.int)] from rfl]
  walk_at "wp"
  refine fK ok.a0 (by rw [List.length_map, hm]; exact ok.a1) fun p hp => ?_
  obtain ⟨y, hy, rfl⟩ := List.mem_map.mp hp
  walk_at "wp"
  have hn := ok.n
  refine ⟨by omega, xZ hm ok.r fun xs s' xl hxs => ?_⟩
  walk_at "wp"
  have hnew : Let := ⟨y, z.day, z.head, xs⟩
  refine ⟨⟨iA xs 6, List.all_eq_true.mpr fun p hp => by obtain ⟨l, _, rfl⟩ := List.mem_map.mp hp; exact MO l⟩, fun _ => ⟨by omega, ls ++ [⟨y, z.day, z.head, xs⟩], _, _, _, _, _, by rw [List.length_append]; simp; omega, (fun _ => by rw [List.length_append]; simp), fun l hl' => ?_, by rw [List.map_append]; rfl⟩, fun hh => ⟨ls, _, _, _, _, _, by omega, (fun _ => by cases ls with | nil => simp at hh | cons a b => simp), hls, rfl⟩⟩
  rcases List.mem_append.mp hl' with g | g
  ·exact hls l g
  ·rw [List.mem_singleton.mp g]; exact ⟨by rw [show (Let.mk y z.day z.head xs).row = xs from rfl, xl]; exact hn, hy, hxs⟩
 ·rintro e ⟨ls, v3, v4, v5, v6, v7, ll, lp, hls, rfl⟩
  rw [List.length_map] at ll lp
  walk_at "wp"
  refine o7 (by omega) fun ks k1 k2 => ?_
  walk_at "wp"
  exact q ks (by rw [k1.length_eq]; exact ll) (by rw [k1.length_eq]; exact lp) k2 fun l h => hls l (k1.mem_iff.mp h)
noncomputable def rV : FS := (bK (cH 14 (bS gT (gF (y9 (aE 10)) 1 [11] [] (bH 0) gC (aW [.v, .b] false dZ (aD (aE 1) (aD (aE 0) aN)))) (fM (aD (dS (aD (aE 11) aN)) aN))))
  (bK (t7 (HX (cT (aW [.b, .b, .v, .b] false eM (aD (aE 14) (aD (aE 9) (aD (bS fZ (aE 11) (fC (.int 0))) (aD (aE 13) aN))))))) (fG (fC (.bl false))) gE)
  (bK (GQ (LK J7 (aE 8) iJ (nY (fC (.int 3)))) (CB 3 (dO (bH 15) (dO (bH 16) (dO (bH 17) mL)))))
  (bK (cH 18 (dS (aD (aE 17) (aD (aE 4) (aD (fC (.str "")) (aD (dS (aD (aE 16) (aD (aE 15) aN))) aN))))))
  (bK (cH 19 (gF (y9 (aE 10)) 1 [18, 4, 17, 15] [] (bH 0) gC (aW [.v, .b] false dZ (aD (aE 1) (aD (aW [.b, .b, .b] false fO (aD (aE 0) (aD (dS (aD (aE 2) (aD (aE 3) aN))) (aD (aE 4) aN)))) aN)))))
  (fG (aW [.b, .b, .v, .b] false eM (aD (bS gT (aE 19) (fM (aD (dS (aD (aE 18) aN)) aN))) (aD (aE 9) (aD (aE 15) (aD (dS (aD (aE 16) (aD (dS (aD (fC (.str "told")) (aD (aE 17) (aD (fC (.int 1)) aN)))) aN))) aN)))))))))))
theorem EX : EH = (bK (mH 1 (aW [.b, .b] true eL (aD (aE 0) (aD (fC (.int 0)) aN))))
  (bK (cH 2 (bS gT (fC (.int 3)) (aW [.m, .b] false aO (aD (aE 1) (aD (bS fZ (fM (aD (fC (.int 4)) (aD (fC (.int 10)) aN))) (aW [.m, .b] false aO (aD (aE 1) (aD (fC (.int 2)) aN)))) aN)))))
  (bK (cH 3 (aW [.m, .b] false aO (aD (aE 1) (aD (fC (.int 7)) aN))))
  (bK (cH 4 (aW [.m, .b] false aO (aD (aE 1) (aD (bS fZ (fM (aD (fC (.int 1)) (aD (fC (.int 3)) (aD (fC (.int 100000000)) aN)))) (aW [.m, .b] false aO (aD (aE 1) (aD (fC (.int 3)) aN)))) aN))))
  (bK (cH 5 (aW [.m, .b] false cF (aD (aE 1) (aD (aE 2) aN))))
  (bK (cH 6 (aW [.b, .m, .b] false eK (aD (aE 0) (aD (aE 1) (aD (aE 2) aN)))))
  (bK (cH 7 (gF (pF (aD (aW [.m, .b] false aO (aD (aE 1) (aD (fC (.int 9)) aN))) aN)) 1 [1, 2] [(1, 1)] (bH 0) gC (aW [.m, .b] false cF (aD (aE 1) (aD (aE 2) aN)))))
  (bK (cH 8 (aW [.m, .b] false fF (aD (aE 1) (aD (aE 2) aN))))
  (bK (cH 9 (aW [.m, .b, .b] false fN (aD (aE 1) (aD (aE 8) (aD (aE 3) aN)))))
  (bK (cH 10 (fM (aD (aW [.b, .b] false cS (aD (aE 6) (aD (aE 8) aN))) (aD (aW [.b, .b] false cS (aD (aE 7) (aD (aE 8) aN))) aN))))
  (bK (cH 11 (bS fZ (aW [.b, .b] false cS (aD (fM (aD (aE 5) aN)) (aD (aE 8) aN))) (fC (.int 0))))
  (bK (cH 12 (aW [.b] false e9 (aD (aE 11) aN)))
  (bK (cH 13 (KZ (cT (bS D7 (aE 12) (fM aN))) (dS (aD (bS fZ (aE 12) (T8 EM (fC (.int 1)))) (aD (dS (aD (fC (.str "own")) aN)) aN))) (dS (aD (fC .bJ) (aD (dS (aD (fC (.str "first")) aN)) aN)))))
  rV))))))))))))) := rfl
noncomputable def Kn (own : Let) (qs : List Let) : Prop := own ∈ qs ∧ (∀ l ∈ qs, l.name = own.name → l = own) ∧ (∀ l ∈ qs, l.row.length ≤ 9) ∧ qs.length ≤ 100
noncomputable def MS (day : Int) (n0 n1 n2 : Str) : Let := ⟨n2, day, Str.ofString "", [n1, n0]⟩
noncomputable def Tk (day : Int) (n0 n1 n2 : Str) (qs : List Let) : Prop := MS day n0 n1 n2 ∈ qs ∧ (∀ l ∈ qs, l.name = n2 → l = MS day n0 n1 n2) ∧ (∀ l ∈ qs, l.name ≠ n0) ∧ (∀ l ∈ qs, l ≠ MS day n0 n1 n2 → gtB day n2 l = true ∨ n0 ∉ (el l).drop 1) ∧ (∀ l ∈ qs, l.row.length ≤ 9) ∧ qs.length ≤ 100
noncomputable abbrev JF (qs : List Let) : PV := PV.tup (qs.map lP)
theorem wW {v0 v1 v2 v3 v5 v6 v7 v12 : Option Sl} {day : Int} {ss : List Str} {hs : Hl} {l1 l2 : List Let} {own : Let} {ds : List PV} (hS : 3 ≤ ss.length) (ndS : ss.Nodup) (mok : R8 ss hs) (hl : hs.length ≤ 40)
  (k1 : l1.length ≤ 60) (k2 : l2.length ≤ 60) (r1 : ∀ l ∈ l1, l.row.length ≤ 9) (r2 : ∀ l ∈ l2, l.row.length ≤ 9) (ro : own.row.length ≤ 9) (ed : vA ((el own).map PV.str) = .tup ds) (pd : mD 3 (.tup ds) = true) :
  Wp (rV [v0, v1, v2, v3, some (Sl.val (PV.int day)), v5, v6, v7, some (Sl.val (PV.lst (ss.map PV.str))), some (Sl.val (PV.tup (mP hs))), some (Sl.val (PV.lst [JF l1, JF l2])), some (Sl.val (lP own)), v12, some (Sl.val (PV.tup ds)), none, none, none, none, none, none]) fun o => Wp (KU [Kd.b] false o) fun w => w = (.bl true, []) := by
 unfold rV
 walk_at "wp"
 refine gL (fun i acc e => ∃ (ps : List (List Let)) (s : Option Sl), acc = ps.map JF ∧ ps.length = i ∧ (∀ qs ∈ ps, Kn own qs) ∧ e = [s, some (Sl.val (lP own))]) ?_ ?_ ⟨[], none, rfl, rfl, fun _ h => (nomatch h), rfl⟩
 ·rintro i p e acc hx ⟨ps, s, rfl, pl, hps, rfl⟩
  obtain ⟨ql, rfl, q1, q2⟩ : ∃ ql : List Let, p = JF ql ∧ ql.length ≤ 60 ∧ ∀ l ∈ ql, l.row.length ≤ 9 := by
   have := List.mem_of_getElem? hx
   simp only [List.mem_cons, List.not_mem_nil, or_false] at this
   rcases this with rfl | rfl
   ·exact ⟨l1, rfl, k1, r1⟩
   ·exact ⟨l2, rfl, k2, r2⟩
  walk_at "wp"
  refine yT q1 fun ls hls => ?_
  walk_at "wp"
  have fl := List.length_filter_le (fun l => decide (l.name ≠ own.name)) ql
  refine ⟨ps ++ [ls], _, by rw [List.map_append]; rfl, by rw [List.length_append, pl]; rfl, fun qs hq => ?_, rfl⟩
  rcases List.mem_append.mp hq with g | g
  ·exact hps qs g
  ·rw [List.mem_singleton.mp g]
   refine ⟨hls.mem_iff.mpr List.mem_cons_self, fun l h e => ?_, fun l h => ?_, by rw [hls.length_eq, List.length_cons]; omega⟩
   ·rcases List.mem_cons.mp (hls.mem_iff.mp h) with h | h
    ·exact h
    ·exact absurd e (by simpa using (List.mem_filter.mp h).2)
   ·rcases List.mem_cons.mp (hls.mem_iff.mp h) with h | h
    ·rw [h]; exact ro
    ·exact q2 l (List.mem_filter.mp h).1
 ·rintro acc e ⟨ps, s, rfl, pl, hps, rfl⟩
  walk_at "wp"
  refine ⟨by rw [pl]; exact (by decide : 2 + 1 < 1000000), ?_⟩
  rw [show lP own = PV.tup [PV.str own.name, PV.int own.day, PV.str own.head, PV.tup (own.row.map PV.str)] from rfl]
  walk_at "wp"
  have eps : ps.map JF ++ [PV.tup [PV.tup [PV.str own.name, PV.int own.day, PV.str own.head, PV.tup (own.row.map PV.str)]]] = (ps ++ [[own]]).map JF := by rw [List.map_append]; rfl
  rw [eps]
  have pl' : ps.length = 2 := pl
  refine B3 (x := own.name) mok.nd (by omega) pd (by rw [List.length_append, pl']; exact (by decide : 2 + 1 ≤ 100)) (fun qs hq => ?_) ?_
  ·have kn : Kn own qs := by
    rcases List.mem_append.mp hq with g | g
    ·exact hps qs g
    ·rw [List.mem_singleton.mp g]
     exact ⟨List.mem_cons_self, fun l h _ => List.mem_singleton.mp h, fun l h => by rw [List.mem_singleton.mp h]; exact ro, by simp⟩
   exact ⟨kn.2.2.1, kn.2.2.2, fun ks' hk' => by rw [← ed]; exact vR kn.1 kn.2.1 hk'⟩
  ·walk_at "wp"
   match ss, hS, ndS with
   | n0 :: n1 :: n2 :: rest, _, ndS =>
    have ec : qS ((n0 :: n1 :: n2 :: rest).map PV.str) none (some 3) = [PV.str n0, PV.str n1, PV.str n2] := w4 _ 3
    rw [ec]
    walk_at "wp"
    have nd0 := List.nodup_cons.mp ndS
    have nd1 := List.nodup_cons.mp nd0.2
    have h01 : n1 ≠ n0 := fun z => nd0.1 (by rw [← z]; simp)
    have h02 : n0 ≠ n2 := fun z => nd0.1 (by rw [z]; simp)
    have h12 : n1 ≠ n2 := fun z => nd1.1 (by rw [z]; simp)
    refine gL (fun i acc e => ∃ (ps : List (List Let)) (s : Option Sl), acc = ps.map JF ∧ ps.length = i ∧ (∀ qs ∈ ps, Tk day n0 n1 n2 qs) ∧ e = [s, some (Sl.val (lP (MS day n0 n1 n2))), some (Sl.val (PV.int day)), some (Sl.val (PV.str n2)), some (Sl.val (PV.str n0))]) ?_ ?_ ⟨[], none, rfl, rfl, fun _ h => (nomatch h), rfl⟩
    ·rintro i p e acc hx ⟨ps, s, rfl, pl, hps, rfl⟩
     obtain ⟨ql, rfl, q1, q2⟩ : ∃ ql : List Let, p = JF ql ∧ ql.length ≤ 60 ∧ ∀ l ∈ ql, l.row.length ≤ 9 := by
      have := List.mem_of_getElem? hx
      simp only [List.mem_cons, List.not_mem_nil, or_false] at this
      rcases this with rfl | rfl
      ·exact ⟨l1, rfl, k1, r1⟩
      ·exact ⟨l2, rfl, k2, r2⟩
     walk_at "wp"
     refine GV q2 (by omega) ?_
     walk_at "wp"
     have fl0 := List.length_filter_le (fT day n2 n0) ql
     refine yT (own := MS day n0 n1 n2) (by omega) fun ls hls => ?_
     walk_at "wp"
     have fl := List.length_filter_le (fun l => decide (l.name ≠ (MS day n0 n1 n2).name)) (ql.filter (fT day n2 n0))
     refine ⟨ps ++ [ls], _, by rw [List.map_append]; rfl, by rw [List.length_append, pl]; rfl, fun qs hq => ?_, rfl⟩
     rcases List.mem_append.mp hq with g | g
     ·exact hps qs g
     ·rw [List.mem_singleton.mp g]
      have kd : ∀ l ∈ ls, l = MS day n0 n1 n2 ∨ (l ∈ ql ∧ fT day n2 n0 l = true ∧ l.name ≠ n2) := fun l h => by
       rcases List.mem_cons.mp (hls.mem_iff.mp h) with h | h
       ·exact .inl h
       ·obtain ⟨h1, h2⟩ := List.mem_filter.mp h
        obtain ⟨h3, h4⟩ := List.mem_filter.mp h1
        exact .inr ⟨h3, h4, of_decide_eq_true h2⟩
      refine ⟨hls.mem_iff.mpr List.mem_cons_self, fun l h e => (kd l h).resolve_right fun z => z.2.2 e, fun l h e => ?_, fun l h hne => ?_, fun l h => ?_, by rw [hls.length_eq, List.length_cons]; omega⟩
      ·rcases kd l h with h | h
       ·rw [h] at e; exact h02 e.symm
       ·have := h.2.1
        unfold fT at this
        rw [Bool.and_eq_true] at this
        have := this.2
        rw [e] at this
        simp at this
      ·have h := (kd l h).resolve_left hne
       have := h.2.1
       unfold fT at this
       rw [Bool.and_eq_true, Bool.or_eq_true] at this
       exact this.1.elim .inl fun z => .inr (by simpa using z)
      ·rcases kd l h with h | h
       ·rw [h]; exact (by decide : 2 ≤ 9)
       ·exact q2 l h.1
    ·rintro acc e ⟨ps2, s2, rfl, pl2, hps2, rfl⟩
     walk_at "wp"
     have pl2' : ps2.length = 2 := pl2
     refine ⟨by rw [pl2']; decide, ?_⟩
     have eps2 : ps2.map JF ++ [PV.tup [PV.tup [PV.str n2, PV.int day, PV.str (Str.ofString ""), PV.tup [PV.str n1, PV.str n0]]]] = (ps2 ++ [[MS day n0 n1 n2]]).map JF := by rw [List.map_append]; rfl
     rw [eps2]
     refine B3 (x := n0) mok.nd (by omega) rfl (by rw [List.length_append, pl2']; exact (by decide : 2 + 1 ≤ 100)) (fun qs hq => ?_) ?_
     ·have tk : Tk day n0 n1 n2 qs := by
       rcases List.mem_append.mp hq with g | g
       ·exact hps2 qs g
       ·rw [List.mem_singleton.mp g]
        exact ⟨List.mem_cons_self, fun l h _ => List.mem_singleton.mp h, fun l h e => by rw [List.mem_singleton.mp h] at e; exact h02 e.symm, fun l h hne => absurd (List.mem_singleton.mp h) hne, fun l h => by rw [List.mem_singleton.mp h]; exact (by decide : 2 ≤ 9), by simp⟩
      obtain ⟨t1, t2, t3, t4, t5, t6⟩ := tk
      exact ⟨t5, t6, fun ks' hk' => yH h01 h12 h02 t1 t2 t3 t4 hk'⟩
     ·walk_at "wp"
theorem QK {ns : List Int} (hn : ns.length ≤ 63) : Wp (vD [.lst (ns.map PV.int)]) fun w => w = (.bl true, []) := by
 unfold vD
 rw [EX]
 walk_at "wp"
 refine BC (by decide) (by decide) hn fun a b h => ?_
 walk_at "wp"
 refine dE h (by decide) (by decide) (by decide) fun d a1 b1 c1 d0 d1 hp => ?_
 walk_at "wp"
 refine fK d0 d1 fun p hp' => ?_
 obtain ⟨z, rfl, z0, z1⟩ : ∃ z : Int, p = .int z ∧ 0 < z ∧ z ≤ 10 := by
  simp only [List.mem_cons, List.not_mem_nil, or_false] at hp'
  rcases hp' with rfl | rfl <;> exact ⟨_, rfl, by decide, by decide⟩
 walk_at "wp"
 refine dE hp (by decide) z0 (by omega) fun e' a2 b2 c2 e0 e1 hp => ?_
 walk_at "wp"
 refine dE hp (by decide) (by decide) (by decide) fun many a3 b3 c3 m0 m1 hp => ?_
 walk_at "wp"
 refine dE hp (by decide) (by decide) (by decide) fun d2 a4 b4 c4 d20 d21 hp => ?_
 walk_at "wp"
 refine fK d20 d21 fun p hp' => ?_
 obtain ⟨y, rfl, y0, y1⟩ : ∃ z : Int, p = .int z ∧ 0 < z ∧ z ≤ 100000000 := by
  simp only [List.mem_cons, List.not_mem_nil, or_false] at hp'
  rcases hp' with rfl | rfl | rfl <;> exact ⟨_, rfl, by decide, by decide⟩
 walk_at "wp"
 refine dE hp (by decide) y0 (by omega) fun day a5 b5 c5 _ _ hp => ?_
 walk_at "wp"
 refine o8 hp (by omega) (by omega) (by decide) fun dR a6 b6 c6 hmine hp => ?_
 walk_at "wp"
 refine z3 hn hp (by omega) (by omega) (by decide) fun zs a7 b7 c7 zl hz hp => ?_
 walk_at "wp"
 refine dE hp (by decide) (by decide) (by decide) fun d3 a8 b8 c8 d30 d31 hp => ?_
 walk_at "wp"
 refine ⟨iN (by omega) (by omega), by omega, ?_⟩
 refine BU hp (by omega) (by omega) (by rw [List.length_map, List.length_range]; omega) fun os s' a9 b9 c9 ol ho hp => ?_
 rw [List.length_map, List.length_range] at ol hp
 walk_at "wp"
 refine FF hp (by omega) (by omega) (by omega) fun ss a10 b10 c10 sl hss ndS hp => ?_
 walk_at "wp"
 refine GZ hp (by omega) (by omega) m0 (by omega) (by omega) fun hs a11 b11 c11 hl mok hp => ?_
 walk_at "wp"
 refine B5 (m := 3 + e') sl hz (by omega) fun l1 ll1 _ hl1 => ?_
 walk_at "wp"
 refine B5 (m := 3 + e') sl ho (by omega) fun l2 ll2 _ hl2 => ?_
 walk_at "wp"
 rw [show [BH dR] = [dR].map BH from rfl]
 refine JW (m := 3 + e') sl (fun z hz => by rw [List.mem_singleton.mp hz]; exact hmine) (by simp) fun l3 ll3 lp3 _ hl3 => ?_
 obtain ⟨own, rfl⟩ : ∃ own, l3 = [own] := by
  have := lp3 (by simp)
  match l3, ll3, this with
  | [o], _, _ => exact ⟨o, rfl⟩
  | _ :: _ :: _, h, _ => simp at h
 obtain ⟨orow, onm, _⟩ := hl3 own List.mem_cons_self
 rw [List.map_cons, List.map_nil]
 walk_at "wp"
 refine BM (l := own) orow ?_
 walk_at "wp"
 refine ⟨iA _ 8, fun hb => ?_, fun hb => ?_⟩
 ·cases e : ((el own).map PV.str).getLast? with
  | none => rw [List.getLast?_eq_none_iff.mp e, A6] at hb; cases hb
  | some p =>
   rw [B9 e]
   walk_at "wp"
   have ed : vA ((el own).map PV.str) = .tup [p, .tup [.str (Str.ofString "own")]] := by unfold vA; rw [e]
   obtain ⟨ds, e1, e2⟩ := IQ (el own)
   rw [ed] at e1
   rw [← e1] at e2
   exact wW (by omega) ndS mok (by omega) (by omega) (by omega) (fun l h => (hl1 l h).1) (fun l h => (hl2 l h).1) orow ed e2
 ·have en : el own = [] := by
   cases e : el own with
   | nil => rfl
   | cons a r => rw [e, List.map_cons] at hb; simp [dP] at hb
  have ed : vA ((el own).map PV.str) = .tup [.bJ, .tup [.str (Str.ofString "first")]] := by rw [en]; rfl
  exact wW (by omega) ndS mok (by omega) (by omega) (by omega) (fun l h => (hl1 l h).1) (fun l h => (hl2 l h).1) orow ed rfl
theorem HC : ∀ ns : List Int, ns.length ≤ 63 → vD [.lst (ns.map PV.int)] = some (.bl true, []) := fun ns hn => (QK hn).eq
end
theorem all_mk {l : PySem.W.OpenLaw} {w : World} {K : PySem.W.Frag} {h : Heap} {mg : Str → Option Value} {fa f0 f1 f2 f3 f4 f5 f6 f7 f8 f9 f10 f11 f12 f13 f14 f15 f16 f17 f18 f19 : Addr} (X : K.In h) (G : h.Ns mainGlobals mg) (hfa : mg "law" = some (.ref fa))
  {od0 an0 od1 an1 od2 an2 od3 an3 od4 an4 od5 an5 od6 an6 od7 an7 od8 an8 od9 an9 od10 an10 od11 an11 od12 an12 od13 an13 od14 an14 od15 an15 od16 an16 od17 an17 od18 an18 od19 an19 : Option Addr} {sl0 sl1 sl2 sl3 sl4 sl5 sl6 sl7 sl8 sl9 sl10 sl11 sl12 sl13 sl14 sl15 sl16 sl17 sl18 sl19 : Array (Option Value)} {oc0 kV0 dc0 pm0 cd0 ct0 oc1 kV1 dc1 pm1 cd1 ct1 oc2 kV2 dc2 pm2 cd2 ct2 oc3 kV3 dc3 pm3 cd3 ct3 oc4 kV4 dc4 pm4 cd4 ct4 oc5 kV5 dc5 pm5 cd5 ct5 oc6 kV6 dc6 pm6 cd6 ct6 oc7 kV7 dc7 pm7 cd7 ct7 oc8 kV8 dc8 pm8 cd8 ct8 oc9 kV9 dc9 pm9 cd9 ct9 oc10 kV10 dc10 pm10 cd10 ct10 oc11 kV11 dc11 pm11 cd11 ct11 oc12 kV12 dc12 pm12 cd12 ct12 oc13 kV13 dc13 pm13 cd13 ct13 oc14 kV14 dc14 pm14 cd14 ct14 oc15 kV15 dc15 pm15 cd15 ct15 oc16 kV16 dc16 pm16 cd16 ct16 oc17 kV17 dc17 pm17 cd17 ct17 oc18 kV18 dc18 pm18 cd18 ct18 oc19 kV19 dc19 pm19 cd19 ct19 : Value}
  (a0 : PySem.W.nsIn K mainGlobals "elders" = some (some (.ref f0))) (l0 : K.lookup f0 = some ⟨oc0, od0, .func (PySem.W.fnOf "elders" "elders" (bC fY) (bA fY) (aJ fY) .none kV0 dc0 pm0 an0 cd0 ct0), sl0⟩) (c0 : PySem.W.codeIn K cd0 "elders" = true) (k0 : PySem.W.keepIn K (.ref f0) = true)
  (a1 : PySem.W.nsIn K mainGlobals "standing" = some (some (.ref f1))) (l1 : K.lookup f1 = some ⟨oc1, od1, .func (PySem.W.fnOf "standing" "standing" (bC eO) (bA eO) (aJ eO) .none kV1 dc1 pm1 an1 cd1 ct1), sl1⟩) (c1 : PySem.W.codeIn K cd1 "standing" = true) (k1 : PySem.W.keepIn K (.ref f1) = true)
  (a2 : PySem.W.nsIn K mainGlobals "rows_of" = some (some (.ref f2))) (l2 : K.lookup f2 = some ⟨oc2, od2, .func (PySem.W.fnOf "rows_of" "rows_of" (bC eX) (bA eX) (aJ eX) .none kV2 dc2 pm2 an2 cd2 ct2), sl2⟩) (c2 : PySem.W.codeIn K cd2 "rows_of" = true) (k2 : PySem.W.keepIn K (.ref f2) = true)
  (a3 : PySem.W.nsIn K mainGlobals "claims_of" = some (some (.ref f3))) (l3 : K.lookup f3 = some ⟨oc3, od3, .func (PySem.W.fnOf "claims_of" "claims_of" (bC dW) (bA dW) (aJ dW) .none kV3 dc3 pm3 an3 cd3 ct3), sl3⟩) (c3 : PySem.W.codeIn K cd3 "claims_of" = true) (k3 : PySem.W.keepIn K (.ref f3) = true)
  (a4 : PySem.W.nsIn K mainGlobals "choice" = some (some (.ref f4))) (l4 : K.lookup f4 = some ⟨oc4, od4, .func (PySem.W.fnOf "choice" "choice" (bC gK) (bA gK) (aJ gK) .none kV4 dc4 pm4 an4 cd4 ct4), sl4⟩) (c4 : PySem.W.codeIn K cd4 "choice" = true) (k4 : PySem.W.keepIn K (.ref f4) = true)
  (a5 : PySem.W.nsIn K mainGlobals "choices" = some (some (.ref f5))) (l5 : K.lookup f5 = some ⟨oc5, od5, .func (PySem.W.fnOf "choices" "choices" (bC eF) (bA eF) (aJ eF) .none kV5 dc5 pm5 an5 cd5 ct5), sl5⟩) (c5 : PySem.W.codeIn K cd5 "choices" = true) (k5 : PySem.W.keepIn K (.ref f5) = true)
  (a6 : PySem.W.nsIn K mainGlobals "chosen" = some (some (.ref f6))) (l6 : K.lookup f6 = some ⟨oc6, od6, .func (PySem.W.fnOf "chosen" "chosen" (bC gP) (bA gP) (aJ gP) .none kV6 dc6 pm6 an6 cd6 ct6), sl6⟩) (c6 : PySem.W.codeIn K cd6 "chosen" = true) (k6 : PySem.W.keepIn K (.ref f6) = true)
  (a7 : PySem.W.nsIn K mainGlobals "_law_hand" = some (some (.ref f7))) (l7 : K.lookup f7 = some ⟨oc7, od7, .func (PySem.W.fnOf "_law_hand" "_law_hand" (bC eS) (bA eS) (aJ eS) .none kV7 dc7 pm7 an7 cd7 ct7), sl7⟩) (c7 : PySem.W.codeIn K cd7 "_law_hand" = true) (k7 : PySem.W.keepIn K (.ref f7) = true)
  (a8 : PySem.W.nsIn K mainGlobals "_law_take" = some (some (.ref f8))) (l8 : K.lookup f8 = some ⟨oc8, od8, .func (PySem.W.fnOf "_law_take" "_law_take" (bC eR) (bA eR) (aJ eR) .none kV8 dc8 pm8 an8 cd8 ct8), sl8⟩) (c8 : PySem.W.codeIn K cd8 "_law_take" = true) (k8 : PySem.W.keepIn K (.ref f8) = true)
  (a9 : PySem.W.nsIn K mainGlobals "_law_names" = some (some (.ref f9))) (l9 : K.lookup f9 = some ⟨oc9, od9, .func (PySem.W.fnOf "_law_names" "_law_names" (bC cX) (bA cX) (aJ cX) .none kV9 dc9 pm9 an9 cd9 ct9), sl9⟩) (c9 : PySem.W.codeIn K cd9 "_law_names" = true) (k9 : PySem.W.keepIn K (.ref f9) = true)
  (a10 : PySem.W.nsIn K mainGlobals "_law_letter" = some (some (.ref f10))) (l10 : K.lookup f10 = some ⟨oc10, od10, .func (PySem.W.fnOf "_law_letter" "_law_letter" (bC cU) (bA cU) (aJ cU) .none kV10 dc10 pm10 an10 cd10 ct10), sl10⟩) (c10 : PySem.W.codeIn K cd10 "_law_letter" = true) (k10 : PySem.W.keepIn K (.ref f10) = true)
  (a11 : PySem.W.nsIn K mainGlobals "_law_letters" = some (some (.ref f11))) (l11 : K.lookup f11 = some ⟨oc11, od11, .func (PySem.W.fnOf "_law_letters" "_law_letters" (bC cL) (bA cL) (aJ cL) .none kV11 dc11 pm11 an11 cd11 ct11), sl11⟩) (c11 : PySem.W.codeIn K cd11 "_law_letters" = true) (k11 : PySem.W.keepIn K (.ref f11) = true)
  (a12 : PySem.W.nsIn K mainGlobals "_law_pack" = some (some (.ref f12))) (l12 : K.lookup f12 = some ⟨oc12, od12, .func (PySem.W.fnOf "_law_pack" "_law_pack" (bC d7) (bA d7) (aJ d7) .none kV12 dc12 pm12 an12 cd12 ct12), sl12⟩) (c12 : PySem.W.codeIn K cd12 "_law_pack" = true) (k12 : PySem.W.keepIn K (.ref f12) = true)
  (a13 : PySem.W.nsIn K mainGlobals "_law_climbs" = some (some (.ref f13))) (l13 : K.lookup f13 = some ⟨oc13, od13, .func (PySem.W.fnOf "_law_climbs" "_law_climbs" (bC dH) (bA dH) (aJ dH) .none kV13 dc13 pm13 an13 cd13 ct13), sl13⟩) (c13 : PySem.W.codeIn K cd13 "_law_climbs" = true) (k13 : PySem.W.keepIn K (.ref f13) = true)
  (a14 : PySem.W.nsIn K mainGlobals "_law_marks" = some (some (.ref f14))) (l14 : K.lookup f14 = some ⟨oc14, od14, .func (PySem.W.fnOf "_law_marks" "_law_marks" (bC dY) (bA dY) (aJ dY) .none kV14 dc14 pm14 an14 cd14 ct14), sl14⟩) (c14 : PySem.W.codeIn K cd14 "_law_marks" = true) (k14 : PySem.W.keepIn K (.ref f14) = true)
  (a15 : PySem.W.nsIn K mainGlobals "_law_row" = some (some (.ref f15))) (l15 : K.lookup f15 = some ⟨oc15, od15, .func (PySem.W.fnOf "_law_row" "_law_row" (bC eW) (bA eW) (aJ eW) .none kV15 dc15 pm15 an15 cd15 ct15), sl15⟩) (c15 : PySem.W.codeIn K cd15 "_law_row" = true) (k15 : PySem.W.keepIn K (.ref f15) = true)
  (a16 : PySem.W.nsIn K mainGlobals "_law_among" = some (some (.ref f16))) (l16 : K.lookup f16 = some ⟨oc16, od16, .func (PySem.W.fnOf "_law_among" "_law_among" (bC dI) (bA dI) (aJ dI) .none kV16 dc16 pm16 an16 cd16 ct16), sl16⟩) (c16 : PySem.W.codeIn K cd16 "_law_among" = true) (k16 : PySem.W.keepIn K (.ref f16) = true)
  (a17 : PySem.W.nsIn K mainGlobals "_law_later" = some (some (.ref f17))) (l17 : K.lookup f17 = some ⟨oc17, od17, .func (PySem.W.fnOf "_law_later" "_law_later" (bC dX) (bA dX) (aJ dX) .none kV17 dc17 pm17 an17 cd17 ct17), sl17⟩) (c17 : PySem.W.codeIn K cd17 "_law_later" = true) (k17 : PySem.W.keepIn K (.ref f17) = true)
  (a18 : PySem.W.nsIn K mainGlobals "_law_goes" = some (some (.ref f18))) (l18 : K.lookup f18 = some ⟨oc18, od18, .func (PySem.W.fnOf "_law_goes" "_law_goes" (bC d9) (bA d9) (aJ d9) .none kV18 dc18 pm18 an18 cd18 ct18), sl18⟩) (c18 : PySem.W.codeIn K cd18 "_law_goes" = true) (k18 : PySem.W.keepIn K (.ref f18) = true)
  (a19 : PySem.W.nsIn K mainGlobals "law" = some (some (.ref f19))) (l19 : K.lookup f19 = some ⟨oc19, od19, .func (PySem.W.fnOf "law" "law" (bC gW) (bA gW) (aJ gW) .none kV19 dc19 pm19 an19 cd19 ct19), sl19⟩) (c19 : PySem.W.codeIn K cd19 "law" = true) (k19 : PySem.W.keepIn K (.ref f19) = true)
  (gD : PySem.W.nsIn K mainGlobals "enumerate" = some none)
  (fI : PySem.W.nsIn K mainGlobals "tuple" = some none)
  (uH : PySem.W.nsIn K mainGlobals "min" = some none)
  (kY : PySem.W.nsIn K mainGlobals "len" = some none)
  (iB : PySem.W.nsIn K mainGlobals "sorted" = some none)
  (eZ : PySem.W.nsIn K mainGlobals "range" = some none)
  (uO : PySem.W.nsIn K mainGlobals "str" = some none)
  (yV : PySem.W.nsIn K mainGlobals "int" = some none)
  (rT : PySem.W.nsIn K mainGlobals "list" = some none)
  : ∃ fd : FuncData, (∀ (s : Shared) (v : Value), BindsTo s fd ⟨[v], []⟩ [("_law_script", v)]) ∧ ∀ base : Heap, K.In base → base.Ns mainGlobals mg → cK l.prog w K mg base hB 6 fa fd ["_law_script"] (BV K) := by
 have e := hfa.symm.trans (PySem.W.mg_of X G a19)
 cases e
 have F0 := eE (st := fY) l0 c0 k0
 have b0 := F0.binds (ps := ["letter"]) fun _ _ _ _ _ _ us hl => match us, hl with | [_], _ => rfl
 have F1 := eE (st := eO) l1 c1 k1
 have b1 := F1.binds (ps := ["pack"]) fun _ _ _ _ _ _ us hl => match us, hl with | [_], _ => rfl
 have F2 := eE (st := eX) l2 c2 k2
 have b2 := F2.binds (ps := ["pack"]) fun _ _ _ _ _ _ us hl => match us, hl with | [_], _ => rfl
 have F3 := eE (st := dW) l3 c3 k3
 have b3 := F3.binds (ps := ["pack"]) fun _ _ _ _ _ _ us hl => match us, hl with | [_], _ => rfl
 have F4 := eE (st := gK) l4 c4 k4
 have b4 := F4.binds (ps := ["held", "rows", "claimed", "name"]) fun _ _ _ _ _ _ us hl => match us, hl with | [_, _, _, _], _ => rfl
 have F5 := eE (st := eF) l5 c5 k5
 have b5 := F5.binds (ps := ["pack", "marks", "names"]) fun _ _ _ _ _ _ us hl => match us, hl with | [_, _, _], _ => rfl
 have F6 := eE (st := gP) l6 c6 k6
 have b6 := F6.binds (ps := ["pack", "marks", "name"]) fun _ _ _ _ _ _ us hl => match us, hl with | [_, _, _], _ => rfl
 have F7 := eE (st := eS) l7 c7 k7
 have b7 := F7.binds (ps := ["_law_script", "_law_k"]) fun _ _ _ _ _ _ us hl => match us, hl with | [_, _], _ => rfl
 have F8 := eE (st := eR) l8 c8 k8
 have b8 := F8.binds (ps := ["_law_hand_here", "_law_many"]) fun _ _ _ _ _ _ us hl => match us, hl with | [_, _], _ => rfl
 have F9 := eE (st := cX) l9 c9 k9
 have b9 := F9.binds (ps := ["_law_hand_here", "_law_many"]) fun _ _ _ _ _ _ us hl => match us, hl with | [_, _], _ => rfl
 have F10 := eE (st := cU) l10 c10 k10
 have b10 := F10.binds (ps := ["_law_hand_here", "_law_m"]) fun _ _ _ _ _ _ us hl => match us, hl with | [_, _], _ => rfl
 have F11 := eE (st := cL) l11 c11 k11
 have b11 := F11.binds (ps := ["_law_script", "_law_hand_here", "_law_m"]) fun _ _ _ _ _ _ us hl => match us, hl with | [_, _, _], _ => rfl
 have F12 := eE (st := d7) l12 c12 k12
 have b12 := F12.binds (ps := ["_law_letters_here", "_law_names_here"]) fun _ _ _ _ _ _ us hl => match us, hl with | [_, _], _ => rfl
 have F13 := eE (st := dH) l13 c13 k13
 have b13 := F13.binds (ps := ["_law_held", "_law_here", "_law_name"]) fun _ _ _ _ _ _ us hl => match us, hl with | [_, _, _], _ => rfl
 have F14 := eE (st := dY) l14 c14 k14
 have b14 := F14.binds (ps := ["_law_hand_here", "_law_names_here", "_law_many"]) fun _ _ _ _ _ _ us hl => match us, hl with | [_, _, _], _ => rfl
 have F15 := eE (st := eW) l15 c15 k15
 have b15 := F15.binds (ps := ["_law_letter_here"]) fun _ _ _ _ _ _ us hl => match us, hl with | [_], _ => rfl
 have F16 := eE (st := dI) l16 c16 k16
 have b16 := F16.binds (ps := ["_law_letter_here", "_law_pack_here"]) fun _ _ _ _ _ _ us hl => match us, hl with | [_, _], _ => rfl
 have F17 := eE (st := dX) l17 c17 k17
 have b17 := F17.binds (ps := ["_law_pack_here", "_law_claim", "_law_name"]) fun _ _ _ _ _ _ us hl => match us, hl with | [_, _, _], _ => rfl
 have F18 := eE (st := d9) l18 c18 k18
 have b18 := F18.binds (ps := ["_law_packs", "_law_marks_here", "_law_name", "_law_due"]) fun _ _ _ _ _ _ us hl => match us, hl with | [_, _, _, _], _ => rfl
 have F19 := eE (st := gW) l19 c19 k19
 have b19 := F19.binds (ps := ["_law_script"]) fun _ _ _ _ _ _ us hl => match us, hl with | [_], _ => rfl
 have T : Txt K mg (fun i => ([f0, f1, f2, f3, f4, f5, f6, f7, f8, f9, f10, f11, f12, f13, f14, f15, f16, f17, f18, fa] : List Addr).getD i 0) (fun i => ([PySem.W.fnOf "elders" "elders" (bC fY) (bA fY) (aJ fY) .none kV0 dc0 pm0 an0 cd0 ct0, PySem.W.fnOf "standing" "standing" (bC eO) (bA eO) (aJ eO) .none kV1 dc1 pm1 an1 cd1 ct1, PySem.W.fnOf "rows_of" "rows_of" (bC eX) (bA eX) (aJ eX) .none kV2 dc2 pm2 an2 cd2 ct2, PySem.W.fnOf "claims_of" "claims_of" (bC dW) (bA dW) (aJ dW) .none kV3 dc3 pm3 an3 cd3 ct3, PySem.W.fnOf "choice" "choice" (bC gK) (bA gK) (aJ gK) .none kV4 dc4 pm4 an4 cd4 ct4, PySem.W.fnOf "choices" "choices" (bC eF) (bA eF) (aJ eF) .none kV5 dc5 pm5 an5 cd5 ct5, PySem.W.fnOf "chosen" "chosen" (bC gP) (bA gP) (aJ gP) .none kV6 dc6 pm6 an6 cd6 ct6, PySem.W.fnOf "_law_hand" "_law_hand" (bC eS) (bA eS) (aJ eS) .none kV7 dc7 pm7 an7 cd7 ct7, PySem.W.fnOf "_law_take" "_law_take" (bC eR) (bA eR) (aJ eR) .none kV8 dc8 pm8 an8 cd8 ct8, PySem.W.fnOf "_law_names" "_law_names" (bC cX) (bA cX) (aJ cX) .none kV9 dc9 pm9 an9 cd9 ct9, PySem.W.fnOf "_law_letter" "_law_letter" (bC cU) (bA cU) (aJ cU) .none kV10 dc10 pm10 an10 cd10 ct10, PySem.W.fnOf "_law_letters" "_law_letters" (bC cL) (bA cL) (aJ cL) .none kV11 dc11 pm11 an11 cd11 ct11, PySem.W.fnOf "_law_pack" "_law_pack" (bC d7) (bA d7) (aJ d7) .none kV12 dc12 pm12 an12 cd12 ct12, PySem.W.fnOf "_law_climbs" "_law_climbs" (bC dH) (bA dH) (aJ dH) .none kV13 dc13 pm13 an13 cd13 ct13, PySem.W.fnOf "_law_marks" "_law_marks" (bC dY) (bA dY) (aJ dY) .none kV14 dc14 pm14 an14 cd14 ct14, PySem.W.fnOf "_law_row" "_law_row" (bC eW) (bA eW) (aJ eW) .none kV15 dc15 pm15 an15 cd15 ct15, PySem.W.fnOf "_law_among" "_law_among" (bC dI) (bA dI) (aJ dI) .none kV16 dc16 pm16 an16 cd16 ct16, PySem.W.fnOf "_law_later" "_law_later" (bC dX) (bA dX) (aJ dX) .none kV17 dc17 pm17 an17 cd17 ct17, PySem.W.fnOf "_law_goes" "_law_goes" (bC d9) (bA d9) (aJ d9) .none kV18 dc18 pm18 an18 cd18 ct18, PySem.W.fnOf "law" "law" (bC gW) (bA gW) (aJ gW) .none kV19 dc19 pm19 an19 cd19 ct19] : List FuncData).getD i (PySem.W.fnOf "law" "law" (bC gW) (bA gW) (aJ gW) .none kV19 dc19 pm19 an19 cd19 ct19)) (fun i => ([] : List Addr).getD i 0) (fun i => ([] : List Value).getD i .none) := ⟨⟨F0, PySem.W.mg_of X G a0, b0⟩, ⟨F1, PySem.W.mg_of X G a1, b1⟩, ⟨F2, PySem.W.mg_of X G a2, b2⟩, ⟨F3, PySem.W.mg_of X G a3, b3⟩, ⟨F4, PySem.W.mg_of X G a4, b4⟩, ⟨F5, PySem.W.mg_of X G a5, b5⟩, ⟨F6, PySem.W.mg_of X G a6, b6⟩, ⟨F7, PySem.W.mg_of X G a7, b7⟩, ⟨F8, PySem.W.mg_of X G a8, b8⟩, ⟨F9, PySem.W.mg_of X G a9, b9⟩, ⟨F10, PySem.W.mg_of X G a10, b10⟩, ⟨F11, PySem.W.mg_of X G a11, b11⟩, ⟨F12, PySem.W.mg_of X G a12, b12⟩, ⟨F13, PySem.W.mg_of X G a13, b13⟩, ⟨F14, PySem.W.mg_of X G a14, b14⟩, ⟨F15, PySem.W.mg_of X G a15, b15⟩, ⟨F16, PySem.W.mg_of X G a16, b16⟩, ⟨F17, PySem.W.mg_of X G a17, b17⟩, ⟨F18, PySem.W.mg_of X G a18, b18⟩, ⟨F19, PySem.W.mg_of X G a19, b19⟩, PySem.W.mg_none_of X G gD, PySem.W.mg_none_of X G fI, PySem.W.mg_none_of X G uH, PySem.W.mg_none_of X G kY, PySem.W.mg_none_of X G iB, PySem.W.mg_none_of X G eZ, PySem.W.mg_none_of X G uO, PySem.W.mg_none_of X G yV, PySem.W.mg_none_of X G rT⟩
 refine ⟨PySem.W.fnOf "law" "law" (bC gW) (bA gW) (aJ gW) .none kV19 dc19 pm19 an19 cd19 ct19, fun s v => .of_eq rfl, fun base _ _ => ?_⟩
 have G_elders := DF (P := l.prog) (w := w) (base := base) T
 have G_standing := xO (P := l.prog) (w := w) (base := base) T
 have G_choice := DA (P := l.prog) (w := w) (base := base) T
 have G_law_hand := yL (P := l.prog) (w := w) (base := base) T
 have G_law_take := yX (P := l.prog) (w := w) (base := base) T
 have G_law_pack := x4 (P := l.prog) (w := w) (base := base) T
 have G_law_climbs := tD (P := l.prog) (w := w) (base := base) T
 have G_law_row := zJ (P := l.prog) (w := w) (base := base) T
 have G_law_among := uX (P := l.prog) (w := w) (base := base) T
 have G_rows_of := AM (P := l.prog) (w := w) (base := base) T G_elders G_standing
 have G_claims_of := vW (P := l.prog) (w := w) (base := base) T G_standing G_elders
 have G_law_names := vF (P := l.prog) (w := w) (base := base) T G_law_take
 have G_law_letter := sU (P := l.prog) (w := w) (base := base) T G_law_take
 have G_law_marks := vK (P := l.prog) (w := w) (base := base) T G_law_take G_law_climbs
 have G_law_later := wO (P := l.prog) (w := w) (base := base) T G_law_row
 have G_choices := z6 (P := l.prog) (w := w) (base := base) T G_rows_of G_claims_of G_choice
 have G_law_letters := qZ (P := l.prog) (w := w) (base := base) T G_law_letter G_law_take G_law_hand
 have G_chosen := DM (P := l.prog) (w := w) (base := base) T G_choices
 have G_law_goes := xX (P := l.prog) (w := w) (base := base) T G_chosen
 have G_law := OB (P := l.prog) (w := w) (base := base) T G_law_hand G_law_take G_law_letter G_law_letters G_law_names G_law_marks G_law_row G_law_goes G_law_pack G_law_among G_law_later
 exact G_law.imp fun vs H Q E h => MB HC h
theorem walk {l : PySem.W.OpenLaw} {q : Program} {loose : List Str} {XP : (Str → Option Value) → Heap → Prop} {YP : World → Heap → Prop} {d : DefRec} {K : Params → PySem.W.Frag} (hn : l.most = some 63) (hdf : d.params.defaults = [])
  (hY : ∀ (w : World) (h : Heap), YP w h → (K w.params).In h)
  (F : ∀ (w : World) (mg : Str → Option Value) (fa : Addr) (h : Heap), (K w.params).In h → h.Ns mainGlobals mg → mg d.name = some (.ref fa) →
   ∃ fd : FuncData, (∀ (s : Shared) (u : Value), BindsTo s fd ⟨[u], []⟩ [("_law_script", u)]) ∧ ∀ base : Heap, (K w.params).In base → base.Ns mainGlobals mg → cK l.prog w (K w.params) mg base hB 6 fa fd ["_law_script"] (BV (K w.params))) :
  PySem.W.WalkO q loose XP YP l.row.toRowW d [] (fun f vs => PySem.call f vs) :=
 L2.L4 (n := 63) (k := 6) (x := "_law_script") (CX := fun _ => hB) (sp := fun w => BV (K w.params)) hn (by decide) hdf ⟨rfl, by decide, by decide⟩ hY F (fun _ _ a ns hl _ hS => ⟨a, ns, rfl, hS, hl, fun _ => rfl⟩) fun _ _ _ _ _ z => z
end My
open PySem PySem.W PyProof.Rows
set_option maxRecDepth 100000 in
set_option maxHeartbeats 0 in
theorem PySem.Challenge.cw_answertrees_k17_chosen_by_its_own_holds : PySem.Challenge.rw_answertrees_k17_chosen_by_its_own.Holds := by
 w_on; o_law; k_head; (case hw => w_witness2)
 k_fill
 refine My.walk (l := PySem.Challenge.rw_answertrees_k17_chosen_by_its_own) rfl rfl (fun w h Y => PySem.W.kIn_of Y) ?F
 case F =>
  intro w mg fa h KX G hmg
  refine' My.all_mk KX G hmg ?a0 ?l0 ?c0 ?k0 ?a1 ?l1 ?c1 ?k1 ?a2 ?l2 ?c2 ?k2 ?a3 ?l3 ?c3 ?k3 ?a4 ?l4 ?c4 ?k4 ?a5 ?l5 ?c5 ?k5 ?a6 ?l6 ?c6 ?k6 ?a7 ?l7 ?c7 ?k7 ?a8 ?l8 ?c8 ?k8 ?a9 ?l9 ?c9 ?k9 ?a10 ?l10 ?c10 ?k10 ?a11 ?l11 ?c11 ?k11 ?a12 ?l12 ?c12 ?k12 ?a13 ?l13 ?c13 ?k13 ?a14 ?l14 ?c14 ?k14 ?a15 ?l15 ?c15 ?k15 ?a16 ?l16 ?c16 ?k16 ?a17 ?l17 ?c17 ?k17 ?a18 ?l18 ?c18 ?k18 ?a19 ?l19 ?c19 ?k19 ?gD ?fI ?uH ?kY ?iB ?eZ ?uO ?yV ?rT
  (case a0 => k_is)
  (case l0 => k_is)
  (case c0 => k_is)
  (case k0 => k_is)
  (case a1 => k_is)
  (case l1 => k_is)
  (case c1 => k_is)
  (case k1 => k_is)
  (case a2 => k_is)
  (case l2 => k_is)
  (case c2 => k_is)
  (case k2 => k_is)
  (case a3 => k_is)
  (case l3 => k_is)
  (case c3 => k_is)
  (case k3 => k_is)
  (case a4 => k_is)
  (case l4 => k_is)
  (case c4 => k_is)
  (case k4 => k_is)
  (case a5 => k_is)
  (case l5 => k_is)
  (case c5 => k_is)
  (case k5 => k_is)
  (case a6 => k_is)
  (case l6 => k_is)
  (case c6 => k_is)
  (case k6 => k_is)
  (case a7 => k_is)
  (case l7 => k_is)
  (case c7 => k_is)
  (case k7 => k_is)
  (case a8 => k_is)
  (case l8 => k_is)
  (case c8 => k_is)
  (case k8 => k_is)
  (case a9 => k_is)
  (case l9 => k_is)
  (case c9 => k_is)
  (case k9 => k_is)
  (case a10 => k_is)
  (case l10 => k_is)
  (case c10 => k_is)
  (case k10 => k_is)
  (case a11 => k_is)
  (case l11 => k_is)
  (case c11 => k_is)
  (case k11 => k_is)
  (case a12 => k_is)
  (case l12 => k_is)
  (case c12 => k_is)
  (case k12 => k_is)
  (case a13 => k_is)
  (case l13 => k_is)
  (case c13 => k_is)
  (case k13 => k_is)
  (case a14 => k_is)
  (case l14 => k_is)
  (case c14 => k_is)
  (case k14 => k_is)
  (case a15 => k_is)
  (case l15 => k_is)
  (case c15 => k_is)
  (case k15 => k_is)
  (case a16 => k_is)
  (case l16 => k_is)
  (case c16 => k_is)
  (case k16 => k_is)
  (case a17 => k_is)
  (case l17 => k_is)
  (case c17 => k_is)
  (case k17 => k_is)
  (case a18 => k_is)
  (case l18 => k_is)
  (case c18 => k_is)
  (case k18 => k_is)
  (case a19 => k_is)
  (case l19 => k_is)
  (case c19 => k_is)
  (case k19 => k_is)
  (case gD => k_is)
  (case fI => k_is)
  (case uH => k_is)
  (case kY => k_is)
  (case iB => k_is)
  (case eZ => k_is)
  (case uO => k_is)
  (case yV => k_is)
  (case rT => k_is)
#print axioms PySem.Challenge.cw_answertrees_k17_chosen_by_its_own_holds
