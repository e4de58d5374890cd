import PyProof.Rows.All
import Wide.All
import OpenK.AllK
import Wide.FinOn
import Lean
import PyProof.EqAt
import PyProof.EqKinds
import PyProof.TupleCall
import PySem.Challenge.RW_answertrees_k04_packs
set_option Elab.async false
set_option linter.all false
set_option maxRecDepth 100000
/-! THE HAND LAYER, for ints, bools, texts, own classes, LISTS and tuples (index, slices, in, append, pop ..), calls, loops. Paste it whole ahead of your own text; what your proof does not reach may be deleted. -/
namespace L2
open PySem PySem.Spec PyProof.Rows

/-- a key: an int or a str -/
abbrev Key := Sum Int Str
def keyIs : Key → Value → Bool
  | .inl k, v => Value.isInt k v
  | .inr x, v => Value.isStrOf x v
def keyH (w : World) : Key → Int
  | .inl k => hashInt k
  | .inr x => hashStr w x
theorem keyIs_shape : ∀ {k : Key} {v : Value}, keyIs k v = true → (∃ i t, k = Sum.inl i ∧ v = Value.int i t) ∨ (∃ x t, k = Sum.inr x ∧ v = Value.str x t)
  | .inl i, v, h => by
    obtain ⟨t, e⟩ := Value.isInt_shape (k := i) (v := v) h
    exact .inl ⟨i, t, rfl, e⟩
  | .inr x, v, h => by
    obtain ⟨t, e⟩ := Value.isStrOf_shape (x := x) (v := v) h
    exact .inr ⟨x, t, rfl, e⟩
theorem keyIs_int (i : Int) (t : Tok) : keyIs (.inl i) (.int i t) = true := by simp [keyIs, Value.isInt]
theorem keyIs_str (x : Str) (t : Tok) : keyIs (.inr x) (.str x t) = true := by simp [keyIs, Value.isStrOf]
theorem key_ll (a b : Int) : decide ((Sum.inl a : Key) = Sum.inl b) = (a == b) := by
  by_cases e : a = b
  · subst e; simp
  · have h : ¬ (Sum.inl a : Key) = Sum.inl b := fun q => e (Sum.inl.inj q)
    rw [decide_eq_false h]
    exact (beq_eq_false_iff_ne.mpr e).symm
theorem key_rr (a b : Str) : decide ((Sum.inr a : Key) = Sum.inr b) = decide (a = b) := by
  by_cases e : a = b
  · subst e; simp
  · have h : ¬ (Sum.inr a : Key) = Sum.inr b := fun q => e (Sum.inr.inj q)
    rw [decide_eq_false h, decide_eq_false e]
theorem key_lr (a : Int) (b : Str) : decide ((Sum.inl a : Key) = Sum.inr b) = false := decide_eq_false (fun q => nomatch q)
theorem key_rl (a : Str) (b : Int) : decide ((Sum.inr a : Key) = Sum.inl b) = false := decide_eq_false (fun q => nomatch q)

def mixKind (prog : Program) (w : World) : PySem.KeyKind prog w Key where
  is := keyIs
  hash := keyH w
  inj := fun v a b ha hb => by
    rcases keyIs_shape ha with ⟨i, t, rfl, rfl⟩ | ⟨x, t, rfl, rfl⟩
    · rcases keyIs_shape hb with ⟨j, u, rfl, e⟩ | ⟨y, u, rfl, e⟩
      · injection e with e1 _; rw [e1]
      · exact nomatch e
    · rcases keyIs_shape hb with ⟨j, u, rfl, e⟩ | ⟨y, u, rfl, e⟩
      · exact nomatch e
      · injection e with e1 _; rw [e1]
  byValue := fun k v h => by
    rcases keyIs_shape h with ⟨i, t, rfl, rfl⟩ | ⟨x, t, rfl, rfl⟩ <;> rfl
  pyHash := fun hv h => by
    rcases keyIs_shape hv with ⟨i, t, rfl, rfl⟩ | ⟨x, t, rfl, rfl⟩
    · exact wpAny_pyHash_int h
    · exact wpAny_pyHash_str h
  eqBool := fun hu hv h => by
    rcases keyIs_shape hu with ⟨i, t, rfl, rfl⟩ | ⟨x, t, rfl, rfl⟩
    · rcases keyIs_shape hv with ⟨j, u, rfl, rfl⟩ | ⟨y, u, rfl, rfl⟩
      · rw [key_ll] at h; exact wpAny_eqBool_int h
      · rw [key_lr] at h; exact SeqAt.EqAt.int_str i t y u _ _ _ _ h
    · rcases keyIs_shape hv with ⟨j, u, rfl, rfl⟩ | ⟨y, u, rfl, rfl⟩
      · rw [key_rl] at h; exact SeqAt.EqAt.str_int x t j u _ _ _ _ h
      · rw [key_rr] at h; exact wpAny_eqBool_str h
  «strs» := fun k x t v h => by
    rcases keyIs_shape h with ⟨i, u, rfl, e⟩ | ⟨y, u, rfl, e⟩
    · exact nomatch e
    · injection e with e1 _
      subst e1
      cases v <;> rfl

theorem mixKind_is (prog : Program) (w : World) (k : Key) (v : Value) : (mixKind prog w).is k v = keyIs k v := rfl
theorem mixKind_int (prog : Program) (w : World) (i : Int) (t : Tok) : (mixKind prog w).is (.inl i) (.int i t) = true := keyIs_int i t
theorem mixKind_str (prog : Program) (w : World) (x : Str) (t : Tok) : (mixKind prog w).is (.inr x) (.str x t) = true := keyIs_str x t
end L2

namespace L2
open PySem PySem.Spec PyProof.Rows

/-- a value, without the heap -/
inductive V where
  | non | bl (b : Bool) | int (i : Int) | str (x : Str) | byt (b : Array UInt8) | flt (b : UInt64) | ref (a : Addr) | ty (n : String)
  deriving DecidableEq

def RelV : V → Value → Prop
  | .non, u => u = Value.none
  | .bl b, u => u = Value.bool b
  | .int i, u => ∃ t, u = Value.int i t
  | .str x, u => ∃ t, u = Value.str x t
  | .byt b, u => ∃ t, u = Value.bytes b t
  | .flt b, u => ∃ t, u = Value.float b t
  | .ref a, u => u = Value.ref a
  | .ty n, u => u = Value.type n

abbrev Vals : List V → List Value → Prop := Paired RelV
theorem Vals.length {xs : List V} {us : List Value} (r : Vals xs us) : xs.length = us.length := Paired.length r
theorem Vals.get : ∀ {xs : List V} {us : List Value} {i : Nat} {x : V}, Vals xs us → xs[i]? = some x → ∃ u, us[i]? = some u ∧ RelV x u
  | _, _, _, _, .nil, e => by simp at e
  | _, _, 0, _, .cons r _, e => by simp at e; subst e; exact ⟨_, rfl, r⟩
  | _, _, i + 1, x, .cons _ t, e => by
    obtain ⟨u, h1, h2⟩ := Vals.get (i := i) (x := x) t (by simpa using e)
    exact ⟨u, by simpa using h1, h2⟩
theorem Vals.set {x : V} {u : Value} (r : RelV x u) : ∀ {xs : List V} {us : List Value} (i : Nat), Vals xs us → Vals (xs.set i x) (us.set i u)
  | _, _, _, .nil => .nil
  | _, _, 0, .cons _ t => .cons r t
  | _, _, i + 1, .cons q t => .cons q (Vals.set r i t)
theorem Vals.append : ∀ {xs ys : List V} {us ws : List Value}, Vals xs us → Vals ys ws → Vals (xs ++ ys) (us ++ ws)
  | _, _, _, _, .nil, s => s
  | _, _, _, _, .cons r t, s => .cons r (Vals.append t s)
theorem Vals.take : ∀ {xs : List V} {us : List Value} (n : Nat), Vals xs us → Vals (xs.take n) (us.take n)
  | _, _, 0, _ => .nil
  | _, _, _ + 1, .nil => .nil
  | _, _, n + 1, .cons r t => .cons r (Vals.take n t)
theorem Vals.drop : ∀ {xs : List V} {us : List Value} (n : Nat), Vals xs us → Vals (xs.drop n) (us.drop n)
  | _, _, 0, r => r
  | _, _, _ + 1, .nil => .nil
  | _, _, n + 1, .cons _ t => Vals.drop n t
theorem Vals.none_of : ∀ {xs : List V} {us : List Value} {i : Nat}, Vals xs us → xs[i]? = none → us[i]? = none := fun {xs us i} r e => by
  have h1 := r.length
  have h2 : xs.length ≤ i := List.getElem?_eq_none_iff.mp e
  exact List.getElem?_eq_none_iff.mpr (by omega)

def RelO : Option V → Option Value → Prop
  | some v, some u => RelV v u
  | none, none => True
  | _, _ => False
def KV {κ : Type} : List (κ × V) → List (κ × Value) → Prop := Paired fun (p : κ × V) (q : κ × Value) => p.1 = q.1 ∧ RelV p.2 q.2

/-- a key of a dict (00_mix): an int or a text -/
def kV : Key → V
  | .inl i => .int i
  | .inr x => .str x

/-- what stands at a tracked address -/
inductive HO where
  /-- a list -/
  | lst (xs : List V)
  /-- a tuple (never changes) -/
  | tup (xs : List V)
  /-- a dict whose keys are ints and texts; one whose keys are tuples of ints and texts (the empty one is both) -/
  | dK (kvs : List (Key × V)) | dT (kvs : List (List Key × V))
  /-- a set of ints: its members, its size -/
  | set (S : Int → Bool) (n : Nat)
  /-- an instance of the class at C, its dict at dx, its attributes -/
  | ins (C dx : Addr) (fs : List (Str × V))
  /-- the dict of the instance at x -/
  | own (x : Addr)
  /-- the dict of an exception -/
  | xd (fs : List (Str × V))
  /-- a bound method, f of x -/
  | met (f x : Addr)
  /-- a range object lo, lo + 1, .. below hi -/
  | rng (lo hi : Int)
  /-- a thing that is known to the object (the script; a dict while a loop walks it): read, never written while it is so -/
  | frz (o : Obj) (u : HO)
  /-- a code object's table -/
  | tbl (ps : Array Value)
  /-- any other thing, by what is true of its one object (a def of one's own: SetO a S n := HO.ext fun h => ..) -/
  | ext (φ : Heap → Prop)

abbrev Hp := Addr → Option HO
def upd (H : Hp) (a : Addr) (o : HO) : Hp := fun b => if b = a then some o else H b
theorem upd_same {H : Hp} {a : Addr} {o : HO} : upd H a o a = some o := by unfold upd; rw [if_pos rfl]
theorem upd_ne {H : Hp} {a b : Addr} {o : HO} (h : b ≠ a) : upd H a o b = H b := by unfold upd; rw [if_neg h]
theorem upd_upd {H : Hp} {a : Addr} {o u : HO} : upd (upd H a o) a u = upd H a u := by
  funext b; unfold upd; split <;> rfl
/-- two objects of different content stand apart -/
theorem ne_of {H : Hp} {a b : Addr} {o u : HO} (h : H a = some o) (h' : H b = some u) (d : o ≠ u) : a ≠ b := by
  intro e; subst e; rw [h] at h'; exact d (Option.some.inj h')
theorem ne_of_none {H : Hp} {a b : Addr} {o : HO} (h : H a = some o) (h' : H b = none) : a ≠ b := by
  intro e; subst e; rw [h] at h'; cases h'

section
variable (P : Program) (w : World)
def ObjOk (H : Hp) (h : Heap) (a : Addr) : HO → Prop
  | .lst xs => xs.length ≤ sizeLine ∧ ∃ (its : List Value) (n : Nat), Vals xs its ∧ h.get? a = some { cls := .type "list", data := .seq its.toArray n }
  | .tup xs => xs.length ≤ sizeLine ∧ ∃ its : List Value, Vals xs its ∧ IsTup h a its.toArray
  | .dK kvs => kvs.length ≤ sizeLine ∧ (a == sysModules) = false ∧ ∃ vs, KV kvs vs ∧ h.DictOf (mixKind P w) a vs
  | .dT kvs => kvs.length ≤ sizeLine ∧ (a == sysModules) = false ∧ ∃ xs : List (List Key × Addr × Value),
      Paired (fun (p : List Key × V) (q : List Key × Addr × Value) => p.1 = q.1 ∧ H q.2.1 = some (.tup (p.1.map kV)) ∧ RelV p.2 q.2.2) kvs xs ∧
      ∃ o es ep, h.get? a = some o ∧ o.ExactDict ∧ o.data = .dict es ep ∧ es.toList = xs.map (entryOfKey (tupleKind (mixKind P w))) ∧ (xs.map (·.1)).Nodup
  | .set S n => h.SetOf (intKind P w) a S n
  | .ins C dx fs => H dx = some (.own a) ∧ fs.length ≤ 1000 ∧ dx ≠ a ∧ h.get? a = some (PySem.W.instObj C dx) ∧
      ∃ mA, h.Ns1 dx mA ∧ (∀ f, RelO (fs.lookup f) (mA f)) ∧ PySem.Within mA (fs.map (·.1))
  | .own _ => ∃ o, h.get? a = some o
  | .xd fs => ∃ mA, h.Ns1 a mA ∧ ∀ f, RelO (fs.lookup f) (mA f)
  | .rng lo hi => ∃ t u v, h.get? a = some { cls := .type "range", data := .fields #[.int lo t, .int hi u, .int 1 v] }
  | .frz o u => h.get? a = some o ∧ ObjOk H h a u
  | .tbl ps => h.get? a = some { cls := .none, data := .fields ps }
  | .met f x => h.get? a = some (PySem.W.methodObj (.ref f) (.ref x))
  | .ext φ => φ h ∧ (∃ o, h.get? a = some o) ∧ ∀ h1 h2 : Heap, φ h1 → (∀ o, h1.get? a = some o → h2.get? a = some o) → φ h2
/-- the abstract heap is held -/
def HOk (H : Hp) (h : Heap) : Prop := ∀ a o, H a = some o → ObjOk P w H h a o
end

section
variable {P : Program} {w : World} {H H' : Hp} {h h' : Heap} {a : Addr} {o : HO}
theorem ObjOk.lt (x : ObjOk P w H h a o) : a < h.objs.size := by
  cases o with
  | lst xs => obtain ⟨_, _, _, _, e⟩ := x; exact Heap.lt_size e
  | tup xs => obtain ⟨_, _, _, p⟩ := x; exact p.lt
  | dK kvs => obtain ⟨_, _, _, _, o, _, _, e, _⟩ := x; exact Heap.lt_size e
  | dT kvs => obtain ⟨_, _, _, _, o, _, _, e, _⟩ := x; exact Heap.lt_size e
  | set S n => obtain ⟨o, _, _, _, e, _⟩ := x; exact Heap.lt_size e
  | ins C dx fs => obtain ⟨_, _, _, e, _⟩ := x; exact Heap.lt_size e
  | own y => obtain ⟨_, e⟩ := x; exact Heap.lt_size e
  | xd fs => obtain ⟨_, ⟨_, _, _, e, _⟩, _⟩ := x; exact Heap.lt_size e
  | rng lo hi => obtain ⟨_, _, _, e⟩ := x; exact Heap.lt_size e
  | frz ob u => obtain ⟨e, _⟩ := x; exact Heap.lt_size e
  | tbl ps => exact Heap.lt_size (show h.get? a = some _ from x)
  | met f y => exact Heap.lt_size (show h.get? a = some _ from x)
  | ext φ => obtain ⟨_, ⟨_, e⟩, _⟩ := x; exact Heap.lt_size e
theorem Paired.mapP {α β : Type} {F G : α → β → Prop} : ∀ {l₁ : List α} {l₂ : List β}, Paired F l₁ l₂ → (∀ a b, F a b → G a b) → Paired G l₁ l₂
  | _, _, .nil, _ => .nil
  | _, _, .cons r t, f => .cons (f _ _ r) (Paired.mapP t f)
theorem Paired.imp' {α β : Type} {F G : α → β → Prop} (f : ∀ a b, F a b → G a b) {l₁ : List α} {l₂ : List β} (r : Paired F l₁ l₂) : Paired G l₁ l₂ := Paired.mapP r f
/-- what an object's description leans on: its own object, its own dict, the tuples -/
theorem ObjOk.stay (x : ObjOk P w H h a o) (k : ∀ b u, (b = a ∨ H b = some (.own a)) → h.get? b = some u → h'.get? b = some u)
    (ho : ∀ b, H b = some (.own a) → H' b = some (.own a)) (ht : ∀ b xs, H b = some (.tup xs) → H' b = some (.tup xs)) : ObjOk P w H' h' a o := by
  induction o with
  | lst xs => obtain ⟨z, its, n, r, e⟩ := x; exact ⟨z, its, n, r, k _ _ (.inl rfl) e⟩
  | tup xs => obtain ⟨z, its, r, ob, e, c⟩ := x; exact ⟨z, its, r, ob, k _ _ (.inl rfl) e, c⟩
  | dK kvs => obtain ⟨z, y, vs, r, ob, es, ep, e, c⟩ := x; exact ⟨z, y, vs, r, ob, es, ep, k _ _ (.inl rfl) e, c⟩
  | dT kvs =>
    obtain ⟨z, y, xs, r, ob, es, ep, e, c⟩ := x
    exact ⟨z, y, xs, Paired.mapP r fun p q z => ⟨z.1, ht _ _ z.2.1, z.2.2⟩, ob, es, ep, k _ _ (.inl rfl) e, c⟩
  | set S n => obtain ⟨ob, es, ep, t, e, c⟩ := x; exact ⟨ob, es, ep, t, k _ _ (.inl rfl) e, c⟩
  | ins C dx fs =>
    obtain ⟨d, z, ne, e, mA, ⟨od, es, ep, e2, c⟩, r⟩ := x
    exact ⟨ho _ d, z, ne, k _ _ (.inl rfl) e, mA, ⟨od, es, ep, k _ _ (.inr d) e2, c⟩, r⟩
  | own y => obtain ⟨ob, e⟩ := x; exact ⟨ob, k _ _ (.inl rfl) e⟩
  | xd fs => obtain ⟨mA, ⟨od, es, ep, e, c⟩, r⟩ := x; exact ⟨mA, ⟨od, es, ep, k _ _ (.inl rfl) e, c⟩, r⟩
  | rng lo hi => obtain ⟨t, u, v, e⟩ := x; exact ⟨t, u, v, k _ _ (.inl rfl) e⟩
  | frz ob u ih => obtain ⟨e, q⟩ := x; exact ⟨k _ _ (.inl rfl) e, ih q⟩
  | tbl ps =>
    have e : h.get? a = some { cls := .none, data := .fields ps } := x
    show h'.get? a = some { cls := .none, data := .fields ps }
    exact k a _ (.inl rfl) e
  | met f y =>
    have e : h.get? a = some (PySem.W.methodObj (.ref f) (.ref y)) := x
    show h'.get? a = some (PySem.W.methodObj (.ref f) (.ref y))
    exact k a _ (.inl rfl) e
  | ext φ => obtain ⟨p, ⟨o, e⟩, st⟩ := x; exact ⟨st _ _ p fun o q => k _ _ (.inl rfl) q, ⟨o, k _ _ (.inl rfl) e⟩, st⟩
theorem HOk.lt (x : HOk P w H h) (e : H a = some o) : a < h.objs.size := (x a o e).lt
theorem HOk.fresh (x : HOk P w H h) (e : h.objs.size ≤ a) : H a = none := by
  cases q : H a with
  | none => rfl
  | some u => exact absurd (Nat.lt_of_lt_of_le (x.lt q) e) (Nat.lt_irrefl _)
/-- every object of the heap is kept -/
theorem HOk.kept (x : HOk P w H h) (k : ∀ b u, h.get? b = some u → h'.get? b = some u) : HOk P w H h' := fun a o e =>
  (x a o e).stay (fun b u _ q => k b u q) (fun _ q => q) fun _ _ q => q
/-- a new object is laid and tracked -/
theorem HOk.laid (x : HOk P w H h) (k : ∀ b u, h.get? b = some u → h'.get? b = some u) (hp : h.objs.size ≤ a) (new : ObjOk P w (upd H a o) h' a o) : HOk P w (upd H a o) h' := fun b u e => by
  have hn := x.fresh hp
  by_cases hb : b = a
  · subst hb; rw [upd_same] at e; cases e; exact new
  · rw [upd_ne hb] at e
    exact (x b u e).stay (fun c v _ q => k c v q) (fun c q => by rw [upd_ne (ne_of_none q hn)]; exact q) fun c xs q => by rw [upd_ne (ne_of_none q hn)]; exact q
end

/-- what may be read as u: it is u, or a known u -/
def Rd (H : Hp) (a : Addr) (u : HO) : Prop := H a = some u ∨ ∃ o, H a = some (.frz o u)
theorem Rd.of {H : Hp} {a : Addr} {u : HO} (h : H a = some u) : Rd H a u := .inl h
theorem Rd.ok {P : Program} {w : World} {H : Hp} {h : Heap} {a : Addr} {u : HO} (r : Rd H a u) (x : HOk P w H h) : ObjOk P w H h a u := by
  rcases r with r | ⟨o, r⟩
  · exact x a u r
  · obtain ⟨_, q⟩ := x a _ r
    exact q
/-- what may be written -/
def Mut : Option HO → Prop
  | some (.lst _) => True
  | some (.dK _) => True
  | some (.dT _) => True
  | some (.set _ _) => True
  | some (.ins _ _ _) => True
  | some (.ext _) => True
  | _ => False
section
variable {P : Program} {w : World} {H : Hp} {h h' : Heap} {x e : Addr} {o' : HO}
/-- the object at e is changed: x itself, or the dict of the instance x -/
theorem HOk.write (ok : HOk P w H h) (mu : Mut (H x)) (he : e = x ∨ H e = some (.own x)) (k : ∀ b u, b ≠ e → h.get? b = some u → h'.get? b = some u) (heo : ∃ u, h'.get? e = some u)
    (new : ObjOk P w (upd H x o') h' x o') : HOk P w (upd H x o') h' := fun b u q => by
  have nown : ∀ c y, H c = some (.own y) → c ≠ x := fun c y r z => by subst z; rw [r] at mu; exact mu
  have ntup : ∀ c xs, H c = some (.tup xs) → c ≠ x := fun c xs r z => by subst z; rw [r] at mu; exact mu
  by_cases hb : b = x
  · subst hb; rw [upd_same] at q; cases q; exact new
  · rw [upd_ne hb] at q
    by_cases hbe : b = e
    · have q' : H b = some (.own x) := by
        rcases he with z | z
        · exact absurd (hbe.trans z) hb
        · rw [hbe]; exact z
      rw [q] at q'; cases q'
      obtain ⟨v, hv⟩ := heo
      exact ⟨v, by rw [hbe]; exact hv⟩
    · refine (ok b u q).stay (fun c v hc r => k c v ?_ r) (fun c r => by rw [upd_ne (nown c b r)]; exact r) fun c xs r => by rw [upd_ne (ntup c xs r)]; exact r
      rcases hc with rfl | hc
      · exact hbe
      · rintro rfl
        rcases he with z | z
        · exact nown c b hc z
        · rw [hc] at z; cases z; exact hb rfl
end

/-! ### kept unless tracked; of the frames at fs (the callers') the slots may change (an exception that passes writes there); of the records at ex (iterators) nothing is said -/
structure Un (fs ex : List Addr) (H H' : Hp) (h h' : Heap) : Prop where
  keep : ∀ b o, h.get? b = some o → H b = none → b ∉ fs → b ∉ ex → h'.get? b = some o
  slot : ∀ b o, h.get? b = some o → H b = none → b ∈ fs → b ∉ ex → ∃ sl, h'.get? b = some { o with slots := sl }
  free : ∀ b o, h.get? b = some o → H b = none → b ∉ ex → H' b = none
  there : ∀ b o, h.get? b = some o → b ∉ ex → ∃ o', h'.get? b = some o'
  tups : ∀ b xs, H b = some (.tup xs) → H' b = some (.tup xs)
  frzs : ∀ b o u, H b = some (.frz o u) → H' b = some (.frz o u)
  tbls : ∀ b ps, H b = some (.tbl ps) → ∃ more, H' b = some (.tbl (ps ++ more))
section
variable {fs fs' ex ex' : List Addr} {H H1 H2 : Hp} {h h1 h2 h' : Heap} {a x e : Addr} {o : HO}
theorem Un.any (u : Un fs ex H H1 h h1) {b : Addr} {ob : Obj} (q : h.get? b = some ob) (n : H b = none) (hx : b ∉ ex) : ∃ sl, h1.get? b = some { ob with slots := sl } := by
  by_cases hb : b ∈ fs
  · exact u.slot b ob q n hb hx
  · exact ⟨ob.slots, u.keep b ob q n hb hx⟩
theorem Un.trans (a : Un fs ex H H1 h h1) (b : Un fs ex H1 H2 h1 h2) : Un fs ex H H2 h h2 where
  keep := fun c ob q n hc hx => b.keep c ob (a.keep c ob q n hc hx) (a.free c ob q n hx) hc hx
  slot := fun c ob q n hc hx => by
    obtain ⟨sl, e1⟩ := a.slot c ob q n hc hx
    obtain ⟨sl', e2⟩ := b.slot c _ e1 (a.free c ob q n hx) hc hx
    exact ⟨sl', e2⟩
  free := fun c ob q n hx => by
    obtain ⟨o', e1⟩ := a.there c ob q hx
    exact b.free c o' e1 (a.free c ob q n hx) hx
  there := fun c ob q hx => by
    obtain ⟨o', e1⟩ := a.there c ob q hx
    exact b.there c o' e1 hx
  tups := fun c xs q => b.tups c xs (a.tups c xs q)
  frzs := fun c ob xs q => b.frzs c ob xs (a.frzs c ob xs q)
  tbls := fun c ps q => by
    obtain ⟨m1, e1⟩ := a.tbls c ps q
    obtain ⟨m2, e2⟩ := b.tbls c _ e1
    exact ⟨m1 ++ m2, by rw [e2, Array.append_assoc]⟩
theorem Un.kept (k : ∀ b u, h.get? b = some u → h'.get? b = some u) : Un fs ex H H h h' :=
  ⟨fun b ob q _ _ _ => k b ob q, fun b ob q _ _ _ => ⟨ob.slots, k b ob q⟩, fun _ _ _ n _ => n, fun b ob q _ => ⟨ob, k b ob q⟩, fun _ _ q => q, fun _ _ _ q => q, fun _ ps q => ⟨#[], by rw [q]; simp⟩⟩
theorem Un.refl : Un fs ex H H h h := Un.kept fun _ _ q => q
theorem Un.laid (k : ∀ b u, h.get? b = some u → h'.get? b = some u) (hp : h.objs.size ≤ a) (hn : H a = none) : Un fs ex H (upd H a o) h h' where
  keep := fun b u q _ _ _ => k b u q
  slot := fun b u q _ _ _ => ⟨u.slots, k b u q⟩
  free := fun b u q n _ => by rw [upd_ne (Nat.ne_of_lt (Nat.lt_of_lt_of_le (Heap.lt_size q) hp))]; exact n
  there := fun b u q _ => ⟨u, k b u q⟩
  tups := fun b xs q => by rw [upd_ne (ne_of_none q hn)]; exact q
  frzs := fun b u xs q => by rw [upd_ne (ne_of_none q hn)]; exact q
  tbls := fun b ps q => ⟨#[], by rw [upd_ne (ne_of_none q hn), q]; simp⟩
theorem Un.write (mu : Mut (H x)) (he : e = x ∨ H e = some (.own x)) (k : ∀ b u, b ≠ e → h.get? b = some u → h'.get? b = some u) (heo : ∃ u, h'.get? e = some u) : Un fs ex H (upd H x o) h h' := by
  have hx : ∀ b, H b = none → b ≠ x := fun b n z => by subst z; rw [n] at mu; exact mu
  have hb : ∀ b, H b = none → b ≠ e := fun b n z => by
    subst z
    rcases he with r | r
    · exact hx b n r
    · rw [n] at r; cases r
  have hm : ∀ b u, H b = some u → ¬ Mut (some u) → b ≠ x := fun b u q nm z => by subst z; rw [q] at mu; exact nm mu
  refine ⟨fun b u q n _ _ => k b u (hb b n) q, fun b u q n _ _ => ⟨u.slots, k b u (hb b n) q⟩, fun b u q n _ => by rw [upd_ne (hx b n)]; exact n, fun b u q _ => ?_,
    fun b xs q => by rw [upd_ne (hm b _ q fun z => z)]; exact q, fun b u xs q => by rw [upd_ne (hm b _ q fun z => z)]; exact q, fun b ps q => ⟨#[], by rw [upd_ne (hm b _ q fun z => z), q]; simp⟩⟩
  by_cases hbe : b = e
  · subst hbe; exact heo
  · exact ⟨u, k b u hbe q⟩
theorem Un.mono (u : Un fs ex H H1 h h1) (hs : ∀ b ∈ fs, b ∈ fs') (hx : ∀ b ∈ ex, b ∈ ex') : Un fs' ex' H H1 h h1 :=
  ⟨fun b ob q n hb he => u.keep b ob q n (fun z => hb (hs b z)) fun z => he (hx b z), fun _ _ q n _ he => u.any q n fun z => he (hx _ z), fun b ob q n he => u.free b ob q n fun z => he (hx b z), fun b ob q he => u.there b ob q fun z => he (hx b z), u.tups, u.frzs, u.tbls⟩
end

/-! ### the heap without what is tracked -/
def trk (h : Heap) (H : Hp) : List Addr := (List.range h.objs.size).filter fun a => (H a).isSome
def hidT (h : Heap) (H : Hp) : Heap := PySem.W.hideAll h (trk h H)
theorem hidT_size (h : Heap) (H : Hp) : (hidT h H).objs.size = h.objs.size := PySem.W.hideAll_size _ _
theorem hidT_get {h : Heap} {H : Hp} {b : Addr} {o : Obj} (e : h.get? b = some o) (n : H b = none) : (hidT h H).get? b = some o :=
  PySem.W.hideAll_get _ e fun hm => by
    have q : (H b).isSome = true := (List.mem_filter.mp hm).2
    rw [n] at q; simp at q
theorem of_hidT {h : Heap} {H : Hp} {b : Addr} {o : Obj} (e : (hidT h H).get? b = some o) : h.get? b = some o ∧ H b = none := by
  have e' : h.get? b = some o := PySem.W.of_hideAll (trk h H) e
  refine ⟨e', ?_⟩
  cases q : H b with
  | none => rfl
  | some x =>
    have hm : b ∈ trk h H := List.mem_filter.mpr ⟨List.mem_range.mpr (Heap.lt_size e'), by simp [q]⟩
    have z : (hidT h H).get? b = none := PySem.W.hideAll_none (trk h H) hm
    rw [z] at e; cases e

/-! ### OpenK's ledger, filled with every new object but one -/
def allNews (g h : Heap) (L : Addr) : List (Addr × Obj) := (List.range h.objs.size).filterMap fun a => if a = L ∨ (g.get? a).isSome = true then none else (h.get? a).map fun o => (a, o)
theorem mem_allNews {g h : Heap} {L a : Addr} {o : Obj} (h1 : a ≠ L) (h2 : g.get? a = none) (h3 : h.get? a = some o) : (a, o) ∈ allNews g h L :=
  List.mem_filterMap.mpr ⟨a, List.mem_range.mpr (Heap.lt_size h3), by simp [h1, h2, h3]⟩
theorem of_mem_allNews {g h : Heap} {L : Addr} {p : Addr × Obj} (hp : p ∈ allNews g h L) : p.1 ≠ L ∧ g.get? p.1 = none ∧ h.get? p.1 = some p.2 := by
  obtain ⟨b, _, e⟩ := List.mem_filterMap.mp hp
  split at e
  · cases e
  · rename_i hn
    cases q : h.get? b with
    | none => rw [q] at e; simp at e
    | some u =>
      rw [q] at e
      simp only [Option.map_some, Option.some.injEq] at e
      subst e
      refine ⟨fun z => hn (.inl z), ?_, q⟩
      show g.get? b = none
      cases r : g.get? b with
      | none => rfl
      | some v => exact (hn (.inr (by simp [r]))).elim
def rest (g h : Heap) (L d : Addr) : List (Addr × Obj) := (allNews g h L).filter fun p => decide (p.1 ≠ d)
theorem rest_ne {g h : Heap} {L d : Addr} : ∀ p ∈ rest g h L d, p.1 ≠ d := fun p hp => of_decide_eq_true (List.mem_filter.mp hp).2
theorem mem_rest {g h : Heap} {L d a : Addr} {o : Obj} (h1 : a ≠ L) (h2 : g.get? a = none) (h3 : h.get? a = some o) (h4 : a ≠ d) : (a, o) ∈ rest g h L d :=
  List.mem_filter.mpr ⟨mem_allNews h1 h2 h3, decide_eq_true h4⟩
theorem news_all {g h : Heap} {L : Addr} : News g L h (allNews g h L) := fun p hp => let ⟨a, b, c⟩ := of_mem_allNews hp; ⟨c, a, b⟩
theorem news_at {g h : Heap} {L d : Addr} {o : Obj} (h1 : d ≠ L) (h2 : g.get? d = none) (h3 : h.get? d = some o) : News g L h ((d, o) :: rest g h L d) := fun p hp => by
  rcases List.mem_cons.mp hp with rfl | hp
  · exact ⟨h3, h1, h2⟩
  · exact news_all p (List.mem_filter.mp hp).1
/-- behind a rule that changed d alone: all else but the frame is kept -/
theorem kept_of_news {g h h' : Heap} {L d : Addr} {m : Str → Option Value} (k : ∀ b o, g.get? b = some o → h.get? b = some o) (F : Fr g L h' m) (N : News g L h' (rest g h L d)) :
    ∀ b o, b ≠ L → b ≠ d → h.get? b = some o → h'.get? b = some o := fun b o h1 h2 e => by
  cases q : g.get? b with
  | some u =>
    have := k b u q
    rw [e] at this; cases this
    exact F.keep b _ q
  | none => exact (N (b, o) (mem_rest h1 q e h2)).1
end L2

namespace L2
open PySem PySem.Spec PyProof.Rows

/-- the module's facts, over the base: the heap at the law's entry without what is tracked there -/
structure Mod (K : PySem.W.Frag) (mg : Str → Option Value) (base : Heap) : Prop where
  kin : K.In base
  glob : base.Ns mainGlobals mg
  blt : ∃ mb, base.Ns builtinsNs mb ∧ ∀ x : Str, x ≠ "__name__" → mb x = bootBuiltins x
  nolimit : base.NoLimit

/-- the context: a def's body (or a comprehension's block) running. base: fixed through the whole law; s₀, H₀: the entry; outer: the frames whose slots others may change (a def's callers); stack: all frames that run;
   ex: iterators that were made ahead of the entry and are walked here (a comprehension's); fn: the names whose cells were made at the entry (a def: all; a comprehension's block: its own); calm: not within an except suite; pn: pins that every state bears; xe: what is wanted of an exception that leaves the code -/
structure Cx where
  prog : Program
  w : World
  K : PySem.W.Frag
  mg : Str → Option Value
  base : Heap
  A : Around
  N : List Str
  s₀ : Shared
  H₀ : Hp
  env : Env
  outer : List Env
  stack : List Env
  ex : List Addr
  fn : Str → Bool
  calm : Bool
  pn : List (Addr × Obj)
  xe : Value → Shared → Prop
/-- the callers' frames -/
def frs (l : List Env) : List Addr := l.filterMap (·.frame)
abbrev Cx.fs (X : Cx) : List Addr := frs X.outer

def Vis (sc : Scope) (x : Str) : Prop := sc.names.lookup x = some .local ∨ sc.names.lookup x = some .cell ∨ sc.names.lookup x = some .free
def Loc (sc : Scope) (x : Str) : Prop := sc.names.lookup x = some .local ∨ sc.names.lookup x = some .cell
def Look (env : Env) (h : Heap) (m : Str → Option Value) (x : Str) (u : Value) : Prop :=
  (env.kindOf x = some .local ∧ m x = some u) ∨ ((env.kindOf x = some .cell ∨ env.kindOf x = some .free) ∧ ∃ c, env.cells.lookup x = some c ∧ h.IsCell c (some u))

structure Cx.Ok (X : Cx) : Prop where
  mod : Mod X.K X.mg X.base
  kind : X.env.scope.kind = .function
  glob : X.env.globals = mainGlobals
  blt : X.env.builtins = builtinsNs
  above : X.s₀.heap.objs.size ≤ X.env.locals
  inj : ∀ x y c, X.env.cells.lookup x = some c → X.env.cells.lookup y = some c → x = y
  has : ∀ x, (X.env.kindOf x = some .cell ∨ X.env.kindOf x = some .free) → ∃ c, X.env.cells.lookup x = some c
  cab : ∀ x c, X.fn x = true → X.env.cells.lookup x = some c → X.s₀.heap.objs.size ≤ c
  hd : X.calm = true → X.A.handled = none
  frames : X.A.frames = some X.stack
  stk : X.stack = X.outer ∨ (X.stack = X.env :: X.outer ∧ X.env.frame = some X.env.locals)
  exf : ∀ b ∈ X.ex, b ≠ X.env.locals ∧ ∀ x c, X.env.cells.lookup x = some c → c ≠ b
  bs : ∀ b o, X.base.get? b = some o → X.s₀.heap.get? b = some o ∧ X.H₀ b = none
  bsz : X.base.objs.size ≤ X.s₀.heap.objs.size
  noex : ∀ b o, X.base.get? b = some o → b ∉ X.ex
  exfs : ∀ b ∈ X.ex, b ∉ X.fs
  funs : X.s₀.heap.FunFrames X.base X.outer
  frf : ∀ b ∈ X.fs, X.H₀ b = none

structure Inv (X : Cx) (pins : List (Addr × Obj)) (σ : List (Option V)) (H : Hp) (s : Shared) : Prop where
  ok : X.Ok
  os : s.os = X.s₀.os
  bare : AllBare s.gens
  base : Un X.fs X.ex X.H₀ H X.s₀.heap s.heap
  loc : ∃ m, s.heap.Ns X.env.locals m ∧ ∀ (i : Nat) (x : Str) (v : V), X.N[i]? = some x → σ[i]? = some (some v) → Vis X.env.scope x → ∃ u, RelV v u ∧ Look X.env s.heap m x u
  cell : ∀ x c, X.env.cells.lookup x = some c → ∃ v, s.heap.IsCell c v
  free : H X.env.locals = none
  freeC : ∀ x c, X.env.cells.lookup x = some c → H c = none
  pin : ∀ p ∈ X.pn ++ pins, s.heap.get? p.1 = some p.2 ∧ H p.1 = none ∧ p.1 ≠ X.env.locals ∧ p.1 ∉ X.fs ∧ ∀ v, p.2.data ≠ .cell v
  hok : HOk X.prog X.w H s.heap
  len : σ.length = X.N.length

section
variable {X : Cx} {pins : List (Addr × Obj)} {σ : List (Option V)} {H H' : Hp} {s : Shared} {h' : Heap}

theorem Cx.Ok.nofr (ok : X.Ok) {b : Addr} {o : Obj} (e : X.base.get? b = some o) : b ∉ X.fs := fun hb => by
  have := (ok.funs.mem hb).1
  rw [e] at this; cases this
theorem Inv.bs (I : Inv X pins σ H s) : ∀ b o, X.base.get? b = some o → s.heap.get? b = some o ∧ H b = none := fun b o e =>
  ⟨I.base.keep b o (I.ok.bs b o e).1 (I.ok.bs b o e).2 (I.ok.nofr e) (I.ok.noex b o e), I.base.free b o (I.ok.bs b o e).1 (I.ok.bs b o e).2 (I.ok.noex b o e)⟩
theorem Inv.bk (I : Inv X pins σ H s) : ∀ b o, X.base.get? b = some o → s.heap.get? b = some o := fun b o e => (I.bs b o e).1
theorem Inv.mod (I : Inv X pins σ H s) : Mod X.K X.mg X.base := I.ok.mod
theorem Inv.kIn (I : Inv X pins σ H s) : X.K.In s.heap := I.ok.mod.kin.keeps I.bk
theorem Inv.nolimit (I : Inv X pins σ H s) : s.heap.NoLimit := I.ok.mod.nolimit.keeps I.bk
/-- the frame over the base: for OpenK's rules (K.In X.base is I.mod.kin) -/
theorem Inv.fr (I : Inv X pins σ H s) : ∃ m, Fr X.base X.env.locals s.heap m :=
  let ⟨m, hn, _⟩ := I.loc
  ⟨m, hn, I.bk, Nat.le_trans I.ok.bsz I.ok.above⟩
theorem Inv.lt (I : Inv X pins σ H s) : X.env.locals < s.heap.objs.size := let ⟨_, hn, _⟩ := I.loc; hn.lt
theorem Inv.sz (I : Inv X pins σ H s) : X.s₀.heap.objs.size ≤ s.heap.objs.size := Nat.le_trans I.ok.above (Nat.le_of_lt I.lt)
theorem Inv.nofs (I : Inv X pins σ H s) {a : Addr} (h : s.heap.objs.size ≤ a) : a ∉ X.fs := fun hb => by
  obtain ⟨_, o, ho, _⟩ := I.ok.funs.mem hb
  exact absurd (Nat.lt_of_lt_of_le (Heap.lt_size ho) (Nat.le_trans I.sz h)) (Nat.lt_irrefl _)
theorem Inv.cne (I : Inv X pins σ H s) : ∀ x c, X.env.cells.lookup x = some c → c ≠ X.env.locals := fun x c e z => by
  obtain ⟨v, o, ho, hd⟩ := I.cell x c e
  obtain ⟨m, ⟨o', es, ep, ho', hd', _⟩, _⟩ := I.loc
  rw [z, ho'] at ho; cases ho; rw [hd'] at hd; cases hd
theorem Inv.funs (I : Inv X pins σ H s) : s.heap.FunFrames X.base X.outer := by
  have all : ∀ (l : List Env), (∀ b ∈ frs l, b ∈ X.fs) → X.s₀.heap.FunFrames X.base l → s.heap.FunFrames X.base l := by
    intro l
    induction l with
    | nil => intro _ _; trivial
    | cons env r ih =>
      intro hs hl
      obtain ⟨hk, ⟨L, o, hf, hn, ho, hd⟩, hr⟩ := hl
      have hL : L ∈ X.fs := hs L (by unfold frs; rw [List.filterMap_cons, hf]; exact List.mem_cons_self)
      obtain ⟨sl, e⟩ := I.base.slot L o ho (I.ok.frf L hL) hL fun z => I.ok.exfs L z hL
      exact ⟨hk, ⟨L, _, hf, hn, e, hd⟩, ih (fun b hb => hs b (by unfold frs; rw [List.filterMap_cons, hf]; exact List.mem_cons_of_mem _ hb)) hr⟩
  exact all X.outer (fun _ hb => hb) I.ok.funs

/-- the frames that run, for a call -/
theorem Inv.stack (I : Inv X pins σ H s) : s.heap.FunFrames X.base X.stack := by
  rcases I.ok.stk with e | ⟨e, hf⟩
  · rw [e]; exact I.funs
  · rw [e]
    obtain ⟨m, hn, _⟩ := I.loc
    refine .cons (by rw [I.ok.kind]; decide) hf hn ?_ I.funs
    exact Heap.get?_none_of_le (Nat.le_trans I.ok.bsz I.ok.above)
theorem Inv.stkSub (I : Inv X pins σ H s) : ∀ b ∈ frs X.stack, b ∈ X.env.locals :: X.fs := fun b hb => by
  rcases I.ok.stk with e | ⟨e, hf⟩
  · rw [e] at hb; exact List.mem_cons_of_mem _ hb
  · rw [e] at hb
    unfold frs at hb
    rw [List.filterMap_cons, hf] at hb
    exact hb
theorem Inv.stkFree (I : Inv X pins σ H s) : ∀ b ∈ frs X.stack, H b = none := fun b hb => by
  rcases List.mem_cons.mp (I.stkSub b hb) with e | hb
  · rw [e]; exact I.free
  · obtain ⟨_, o, ho, _⟩ := I.ok.funs.mem hb
    exact I.base.free b o ho (I.ok.frf b hb) fun z => I.ok.exfs b z hb

/-- THE STEP: the untracked objects but the frame and the records at ch are kept (the callers' frames up to slots), the frame's map is kept, the new abstract heap is held -/
theorem Inv.step {g' : Array GenState} {t' : Nat} {d' : Drawn} {ch : List Addr} (I : Inv X pins σ H s)
    (hch : ∀ b ∈ ch, (b ∈ X.ex ∨ X.s₀.heap.objs.size ≤ b) ∧ b ≠ X.env.locals ∧ (∀ x c, X.env.cells.lookup x = some c → c ≠ b) ∧ ∀ p ∈ X.pn ++ pins, p.1 ≠ b)
    (keep : ∀ b o, b ≠ X.env.locals → b ∉ X.fs → b ∉ ch → s.heap.get? b = some o → H b = none → h'.get? b = some o)
    (slot : ∀ b o, b ≠ X.env.locals → b ∈ X.fs → b ∉ ch → s.heap.get? b = some o → H b = none → ∃ sl, h'.get? b = some { o with slots := sl }) (free : ∀ b o, b ∉ ch → s.heap.get? b = some o → H b = none → H' b = none)
    (there : ∀ b o, b ∉ ch → s.heap.get? b = some o → ∃ o', h'.get? b = some o')
    (tups : ∀ b xs, H b = some (.tup xs) → H' b = some (.tup xs)) (frzs : ∀ b o u, H b = some (.frz o u) → H' b = some (.frz o u)) (tbls : ∀ b ps, H b = some (.tbl ps) → ∃ more, H' b = some (.tbl (ps ++ more)))
    (ns : ∀ m, s.heap.Ns X.env.locals m → h'.Ns X.env.locals m) (hok : HOk X.prog X.w H' h') (hg : AllBare g') :
    Inv X pins σ H' { s with heap := h', gens := g', drawn := d', toks := t' } := by
  have neL : ∀ b o, X.s₀.heap.get? b = some o → b ≠ X.env.locals := fun b o e => Nat.ne_of_lt (Nat.lt_of_lt_of_le (Heap.lt_size e) I.ok.above)
  have neC : ∀ b o, X.s₀.heap.get? b = some o → b ∉ X.ex → b ∉ ch := fun b o e hx hb => by
    rcases (hch b hb).1 with z | z
    · exact hx z
    · exact absurd (Nat.lt_of_lt_of_le (Heap.lt_size e) z) (Nat.lt_irrefl _)
  have cellK : ∀ x c, X.env.cells.lookup x = some c → ∀ v, s.heap.IsCell c v → h'.IsCell c v := fun x c e v ⟨o, ho, hd⟩ => by
    have nch : c ∉ ch := fun z => (hch c z).2.2.1 x c e rfl
    by_cases hc : c ∈ X.fs
    · obtain ⟨sl, q⟩ := slot c o (I.cne x c e) hc nch ho (I.freeC x c e)
      exact ⟨_, q, hd⟩
    · exact ⟨o, keep c o (I.cne x c e) hc nch ho (I.freeC x c e), hd⟩
  refine ⟨I.ok, I.os, hg, ⟨fun b o e n hb hx => ?_, fun b o e n hb hx => ?_, fun b o e n hx => ?_, fun b o e hx => ?_, fun b xs e => tups b xs (I.base.tups b xs e), fun b o xs e => frzs b o xs (I.base.frzs b o xs e), fun b ps e => ?_⟩, ?_, fun x c e => ?_, ?_, fun x c e => ?_, fun p hp => ?_, hok, I.len⟩
  · exact keep b o (neL b o e) hb (neC b o e hx) (I.base.keep b o e n hb hx) (I.base.free b o e n hx)
  · obtain ⟨sl, e1⟩ := I.base.slot b o e n hb hx
    obtain ⟨sl', e2⟩ := slot b _ (neL b o e) hb (neC b o e hx) e1 (I.base.free b o e n hx)
    exact ⟨sl', e2⟩
  · obtain ⟨o', e1⟩ := I.base.there b o e hx
    exact free b o' (neC b o e hx) e1 (I.base.free b o e n hx)
  · obtain ⟨o', e1⟩ := I.base.there b o e hx
    exact there b o' (neC b o e hx) e1
  · obtain ⟨m1, e1⟩ := I.base.tbls b ps e
    obtain ⟨m2, e2⟩ := tbls b _ e1
    exact ⟨m1 ++ m2, by rw [e2, Array.append_assoc]⟩
  · obtain ⟨m, hn, hl⟩ := I.loc
    refine ⟨m, ns m hn, fun i x v e1 e2 e3 => ?_⟩
    obtain ⟨u, r, l⟩ := hl i x v e1 e2 e3
    refine ⟨u, r, ?_⟩
    rcases l with l | ⟨k, c, e, z⟩
    · exact .inl l
    · exact .inr ⟨k, c, e, cellK x c e _ z⟩
  · obtain ⟨v, z⟩ := I.cell x c e
    exact ⟨v, cellK x c e v z⟩
  · obtain ⟨m, ⟨o, _, _, ho, _⟩, _⟩ := I.loc
    exact free _ o (fun z => (hch _ z).2.1 rfl) ho I.free
  · obtain ⟨v, o, ho, hd⟩ := I.cell x c e
    exact free c o (fun z => (hch c z).2.2.1 x c e rfl) ho (I.freeC x c e)
  · obtain ⟨e, n, ne, nf, d⟩ := I.pin p hp
    have nch : p.1 ∉ ch := fun z => (hch p.1 z).2.2.2 p hp rfl
    exact ⟨keep p.1 p.2 ne nf nch e n, free p.1 p.2 nch e n, ne, nf, d⟩
/-- .. where the frame's own object is kept too -/
theorem Inv.un {t' : Nat} (I : Inv X pins σ H s) (u : Un X.fs [] H H' s.heap h') (hok : HOk X.prog X.w H' h') : Inv X pins σ H' { s with heap := h', toks := t' } := by
  obtain ⟨m, ⟨o, es, ep, ho, r⟩, _⟩ := id I.loc
  obtain ⟨sl, hL⟩ := u.any ho I.free (by simp)
  exact I.step (g' := s.gens) (d' := s.drawn) (ch := []) (fun _ z => nomatch z) (fun b o _ hb _ e n => u.keep b o e n hb (by simp)) (fun b o _ hb _ e n => u.slot b o e n hb (by simp)) (fun b o _ e n => u.free b o e n (by simp)) (fun b o _ e => u.there b o e (by simp)) u.tups u.frzs u.tbls (fun m' hm => by
    obtain ⟨o', es', ep', ho', r'⟩ := hm
    rw [ho] at ho'; cases ho'
    exact ⟨_, es', ep', hL, r'⟩) hok I.bare
/-- behind a call (or a comprehension's block): the slots of this frame may have changed too, the records at ch may have turned -/
theorem Inv.call {g' : Array GenState} {t' : Nat} {d' : Drawn} {ch : List Addr} (I : Inv X pins σ H s) (u : Un (frs X.stack) ch H H' s.heap h') (hok : HOk X.prog X.w H' h') (hg : AllBare g')
    (hch : ∀ b ∈ ch, (b ∈ X.ex ∨ X.s₀.heap.objs.size ≤ b) ∧ b ≠ X.env.locals ∧ (∀ x c, X.env.cells.lookup x = some c → c ≠ b) ∧ ∀ p ∈ X.pn ++ pins, p.1 ≠ b) :
    Inv X pins σ H' { s with heap := h', gens := g', drawn := d', toks := t' } := by
  obtain ⟨m, ⟨o, es, ep, ho, r⟩, _⟩ := id I.loc
  obtain ⟨sl, hL⟩ := u.any ho I.free fun z => (hch _ z).2.1 rfl
  exact I.step (ch := ch) hch (fun b o hL hb hc e n => u.keep b o e n (fun z => (List.mem_cons.mp (I.stkSub b z)).elim hL hb) hc) (fun b o _ _ hc e n => u.any e n hc) (fun b o hc e n => u.free b o e n hc) (fun b o hc e => u.there b o e hc) u.tups u.frzs u.tbls (fun m' hm => by
    obtain ⟨o', es', ep', ho', r'⟩ := hm
    rw [ho] at ho'; cases ho'
    exact ⟨_, es', ep', hL, r'⟩) hok hg
/-- an untracked record of ours (an iterator) has turned -/
theorem Inv.turned {t' : Nat} {it : Addr} (I : Inv X pins σ H s) (k : ∀ b o, b ≠ it → s.heap.get? b = some o → h'.get? b = some o) (hn : H it = none) (hL : it ≠ X.env.locals)
    (h1 : it ∈ X.ex ∨ X.s₀.heap.objs.size ≤ it) (h2 : ∀ x c, X.env.cells.lookup x = some c → c ≠ it) (h3 : ∀ p ∈ X.pn ++ pins, p.1 ≠ it) : Inv X pins σ H { s with heap := h', toks := t' } := by
  have nit : ∀ b u, H b = some u → b ≠ it := fun b u e z => by rw [z, hn] at e; cases e
  refine I.step (g' := s.gens) (d' := s.drawn) (ch := [it]) (fun b hb => ?_) (fun b o _ _ hc e _ => k b o (fun z => hc (by simp [z])) e) (fun b o _ _ hc e _ => ⟨o.slots, k b o (fun z => hc (by simp [z])) e⟩) (fun _ _ _ _ n => n)
    (fun b o hc e => ⟨o, k b o (fun z => hc (by simp [z])) e⟩) (fun _ _ e => e) (fun _ _ _ e => e) (fun b ps e => ⟨#[], by rw [e]; simp⟩) (fun m hm => ?_) (fun b u e => ?_) I.bare
  · have e : b = it := by simpa using hb
    subst e
    exact ⟨h1, hL, h2, h3⟩
  · obtain ⟨o, es, ep, ho, r⟩ := hm
    exact ⟨o, es, ep, k _ o (Ne.symm hL) ho, r⟩
  · refine (I.hok b u e).stay (fun c v hc q => k c v ?_ q) (fun _ q => q) fun _ _ q => q
    rcases hc with z | z
    · rw [z]; exact nit b u e
    · exact nit c _ z
theorem Inv.tok (I : Inv X pins σ H s) (t : Nat) : Inv X pins σ H { s with toks := t } := I.un (h' := s.heap) (t' := t) Un.refl I.hok
/-- all objects kept -/
theorem Inv.kept {t' : Nat} (I : Inv X pins σ H s) (k : ∀ b u, s.heap.get? b = some u → h'.get? b = some u) : Inv X pins σ H { s with heap := h', toks := t' } := I.un (Un.kept k) (I.hok.kept k)
/-- a new object laid and tracked -/
theorem Inv.laid {a : Addr} {o : HO} {t' : Nat} (I : Inv X pins σ H s) (k : ∀ b u, s.heap.get? b = some u → h'.get? b = some u) (hp : s.heap.objs.size ≤ a) (new : ObjOk X.prog X.w (upd H a o) h' a o) :
    Inv X pins σ (upd H a o) { s with heap := h', toks := t' } := I.un (Un.laid k hp (I.hok.fresh hp)) (I.hok.laid k hp new)
/-- an object written -/
theorem Inv.write {x e : Addr} {o : HO} {t' : Nat} (I : Inv X pins σ H s) (mu : Mut (H x)) (he : e = x ∨ H e = some (.own x)) (k : ∀ b u, b ≠ e → s.heap.get? b = some u → h'.get? b = some u) (heo : ∃ u, h'.get? e = some u)
    (new : ObjOk X.prog X.w (upd H x o) h' x o) : Inv X pins σ (upd H x o) { s with heap := h', toks := t' } := I.un (Un.write mu he k heo) (I.hok.write mu he k heo new)
/-- forgetting slots, pins -/
theorem Inv.weak {σ' : List (Option V)} (I : Inv X pins σ H s) (hl : σ'.length = σ.length) (w : ∀ (i : Nat) v, σ'[i]? = some (some v) → σ[i]? = some (some v)) : Inv X pins σ' H s :=
  ⟨I.ok, I.os, I.bare, I.base, let ⟨m, hn, hl'⟩ := I.loc; ⟨m, hn, fun i x v e1 e2 e3 => hl' i x v e1 (w i v e2) e3⟩, I.cell, I.free, I.freeC, I.pin, I.hok, hl.trans I.len⟩
theorem Inv.pins_of {pins' : List (Addr × Obj)} (I : Inv X pins σ H s) (h : ∀ p ∈ pins', s.heap.get? p.1 = some p.2 ∧ H p.1 = none ∧ p.1 ≠ X.env.locals ∧ p.1 ∉ X.fs ∧ ∀ v, p.2.data ≠ .cell v) : Inv X pins' σ H s :=
  ⟨I.ok, I.os, I.bare, I.base, I.loc, I.cell, I.free, I.freeC, fun p hp => (List.mem_append.mp hp).elim (fun z => I.pin p (List.mem_append_left _ z)) (h p), I.hok, I.len⟩

theorem nodup_ix {N : List Str} (hN : N.Nodup) {i j : Nat} {x : Str} (a : N[i]? = some x) (b : N[j]? = some x) : i = j := by
  obtain ⟨h1, e1⟩ := List.getElem?_eq_some_iff.mp a
  obtain ⟨h2, e2⟩ := List.getElem?_eq_some_iff.mp b
  exact (List.getElem_inj hN).mp (e1.trans e2.symm)

/-- a name is stored; what changed -/
theorem store_ok2 {M : Model} {A : Around} {E : Value → Shared → Prop} {i : Nat} {x : Str} {v : V} {u : Value} {Q : Unit → Shared → Prop} (I : Inv X pins σ H s) (hN : X.N.Nodup) (hi : X.N[i]? = some x) (hx : Loc X.env.scope x) (r : RelV v u)
    (h : ∀ s', Inv X pins (σ.set i (some v)) H s' → (∃ a, Heap.SameBut a s.heap s'.heap ∧ (a = X.env.locals ∨ X.env.cells.lookup x = some a)) → Q () s') (hf : X.fn x = true ∨ X.env.scope.names.lookup x = some .local := by first | exact .inl rfl | exact .inr rfl | assumption) : wpAny M A (storeName X.env x u) Q E s := by
  obtain ⟨m, hn, hl⟩ := id I.loc
  have hcls : (X.env.scope.kind == .class || (X.env.scope.kind == .module && X.env.locals != X.env.globals)) = false := by rw [I.ok.kind]; rfl
  have hiσ : i < σ.length := by rw [I.len]; exact (List.getElem?_eq_some_iff.mp hi).1
  have cne := I.cne
  have tracked : ∀ {a : Addr} {h' : Heap}, (∃ o, s.heap.get? a = some o ∧ H a = none) → Heap.SameBut a s.heap h' → HOk X.prog X.w H h' := fun {a h'} ha hs b ob e => by
    obtain ⟨_, _, hfree⟩ := ha
    refine (I.hok b ob e).stay (fun c w' hc q => (hs.2 c ?_).trans q) (fun _ q => q) fun _ _ q => q
    rintro rfl
    rcases hc with rfl | hc
    · rw [hfree] at e; cases e
    · rw [hfree] at hc; cases hc
  rcases hx with hk | hk
  · refine wpAny_storeName_local hk hn (fun h' hn' hs => ?_) hcls
    obtain ⟨oL, _, _, hoL, _⟩ := id hn
    refine h _ ⟨I.ok, I.os, I.bare, ⟨fun b o e n hb hx => ?_, fun b o e n hb hx => ?_, I.base.free, fun b o e hx => ?_, I.base.tups, I.base.frzs, I.base.tbls⟩, ⟨_, hn', fun j y v' e1 e2 e3 => ?_⟩, fun y c e => ?_, I.free, I.freeC, fun p hp => ?_, tracked ⟨oL, hoL, I.free⟩ hs, by simpa using I.len⟩ ⟨_, hs, .inl rfl⟩
    · exact (hs.2 b (Nat.ne_of_lt (Nat.lt_of_lt_of_le (Heap.lt_size e) I.ok.above))).trans (I.base.keep b o e n hb hx)
    · obtain ⟨sl, e1⟩ := I.base.slot b o e n hb hx
      exact ⟨sl, (hs.2 b (Nat.ne_of_lt (Nat.lt_of_lt_of_le (Heap.lt_size e) I.ok.above))).trans e1⟩
    · obtain ⟨o', e1⟩ := I.base.there b o e hx
      exact ⟨o', (hs.2 b (Nat.ne_of_lt (Nat.lt_of_lt_of_le (Heap.lt_size e) I.ok.above))).trans e1⟩
    · by_cases hj : j = i
      · subst hj
        rw [hi] at e1; cases e1
        rw [List.getElem?_set_self hiσ] at e2
        cases e2
        exact ⟨u, r, .inl ⟨hk, by simp⟩⟩
      · rw [List.getElem?_set_ne (Ne.symm hj)] at e2
        obtain ⟨u', r', q⟩ := hl j y v' e1 e2 e3
        refine ⟨u', r', ?_⟩
        rcases q with ⟨k, e⟩ | ⟨k, c, e, z⟩
        · refine .inl ⟨k, ?_⟩
          have : y ≠ x := fun e => hj (nodup_ix hN e1 (e ▸ hi))
          simp [this, e]
        · exact .inr ⟨k, c, e, z.sameBut hs (cne y c e)⟩
    · obtain ⟨w', z⟩ := I.cell y c e
      exact ⟨w', z.sameBut hs (cne y c e)⟩
    · obtain ⟨e, n, ne, nf, d⟩ := I.pin p hp
      exact ⟨(hs.2 p.1 ne).trans e, n, ne, nf, d⟩
  · have hfn : X.fn x = true := by
      rcases hf with z | z
      · exact z
      · rw [z] at hk; cases hk
    obtain ⟨c, hc⟩ := I.ok.has x (.inl hk)
    obtain ⟨w', z⟩ := I.cell x c hc
    refine wpAny_storeName_cell I.ok.kind hk hc z (fun h' hc' hs => ?_)
    obtain ⟨oc, hoc, hocd⟩ := id z
    refine h { s with heap := h' } ⟨I.ok, I.os, I.bare, ⟨fun b o e n hb hx => ?_, fun b o e n hb hx => ?_, I.base.free, fun b o e hx => ?_, I.base.tups, I.base.frzs, I.base.tbls⟩, ⟨m, hn.sameBut hs (Ne.symm (cne x c hc)), fun j y v' e1 e2 e3 => ?_⟩, fun y c' e => ?_, I.free, I.freeC, fun p hp => ?_, tracked ⟨oc, hoc, I.freeC x c hc⟩ hs, by simpa using I.len⟩ ⟨c, hs, .inr hc⟩
    · exact (hs.2 b (Nat.ne_of_lt (Nat.lt_of_lt_of_le (Heap.lt_size e) (I.ok.cab x c hfn hc)))).trans (I.base.keep b o e n hb hx)
    · obtain ⟨sl, e1⟩ := I.base.slot b o e n hb hx
      exact ⟨sl, (hs.2 b (Nat.ne_of_lt (Nat.lt_of_lt_of_le (Heap.lt_size e) (I.ok.cab x c hfn hc)))).trans e1⟩
    · obtain ⟨o', e1⟩ := I.base.there b o e hx
      exact ⟨o', (hs.2 b (Nat.ne_of_lt (Nat.lt_of_lt_of_le (Heap.lt_size e) (I.ok.cab x c hfn hc)))).trans e1⟩
    · by_cases hj : j = i
      · subst hj
        rw [hi] at e1; cases e1
        rw [List.getElem?_set_self hiσ] at e2
        cases e2
        exact ⟨u, r, .inr ⟨.inl hk, c, hc, hc'⟩⟩
      · rw [List.getElem?_set_ne (Ne.symm hj)] at e2
        obtain ⟨u', r', q⟩ := hl j y v' e1 e2 e3
        refine ⟨u', r', ?_⟩
        rcases q with q | ⟨k, c', e, z'⟩
        · exact .inl q
        · refine .inr ⟨k, c', e, z'.sameBut hs ?_⟩
          rintro rfl
          exact hj (nodup_ix hN e1 (I.ok.inj _ _ _ e hc ▸ hi))
    · by_cases hcc : c' = c
      · subst hcc; exact ⟨_, hc'⟩
      · obtain ⟨w2, z2⟩ := I.cell y c' e
        exact ⟨w2, z2.sameBut hs hcc⟩
    · obtain ⟨e, n, ne, nf, d⟩ := I.pin p hp
      refine ⟨(hs.2 p.1 ?_).trans e, n, ne, nf, d⟩
      intro q
      rw [q, hoc] at e
      have q' : oc = p.2 := Option.some.inj e
      exact d w' (by rw [← q']; exact hocd)
theorem store_ok {M : Model} {A : Around} {E : Value → Shared → Prop} {i : Nat} {x : Str} {v : V} {u : Value} {Q : Unit → Shared → Prop} (I : Inv X pins σ H s) (hN : X.N.Nodup) (hi : X.N[i]? = some x) (hx : Loc X.env.scope x) (r : RelV v u)
    (h : ∀ s', Inv X pins (σ.set i (some v)) H s' → Q () s') (hf : X.fn x = true ∨ X.env.scope.names.lookup x = some .local := by first | exact .inl rfl | exact .inr rfl | assumption) : wpAny M A (storeName X.env x u) Q E s :=
  store_ok2 I hN hi hx r (fun s' I' _ => h s' I') hf
/-- behind a call or a block, the state as it is -/
theorem Inv.call' {s' : Shared} {ch : List Addr} (I : Inv X pins σ H s) (ho : s'.os = s.os) (u : Un (frs X.stack) ch H H' s.heap s'.heap) (hok : HOk X.prog X.w H' s'.heap) (hg : AllBare s'.gens)
    (hch : ∀ b ∈ ch, (b ∈ X.ex ∨ X.s₀.heap.objs.size ≤ b) ∧ b ≠ X.env.locals ∧ (∀ x c, X.env.cells.lookup x = some c → c ≠ b) ∧ ∀ p ∈ X.pn ++ pins, p.1 ≠ b) : Inv X pins σ H' s' := by
  obtain ⟨h', g', d', t', o'⟩ := s'
  have e : o' = s.os := ho
  subst e
  exact I.call (g' := g') (t' := t') (d' := d') u hok hg hch
end

/-! ### the judgements -/
/-- an exception: its class, its own dict's address (where it has one), the abstract heap behind it -/
abbrev XK := Value → Option Addr → Hp → Prop
abbrev St := List (Option V)
abbrev VK := V → Hp → Prop
/-- an expression's reading; a test's; an argument list's -/
abbrev TE := St → Hp → VK → Prop
abbrev TT := St → Hp → (Bool → Hp → Prop) → Prop
abbrev TA := St → Hp → (List V → Hp → Prop) → Prop
/-- what is wanted behind a statement -/
structure Ends where
  nx : St → Hp → Prop
  rt : VK
  bk : St → Hp → Prop := fun _ _ => False
  ct : St → Hp → Prop := fun _ _ => False
abbrev TS := Ends → St → Hp → Prop

def EP (X : Cx) (pins : List (Addr × Obj)) (σ : St) (Q : VK) (u : Value) (s' : Shared) : Prop := ∃ v H', Inv X pins σ H' s' ∧ RelV v u ∧ Q v H'
def TP (X : Cx) (pins : List (Addr × Obj)) (σ : St) (Q : Bool → Hp → Prop) (b : Bool) (s' : Shared) : Prop := ∃ H', Inv X pins σ H' s' ∧ Q b H'
def AP (X : Cx) (pins : List (Addr × Obj)) (σ : St) (Q : List V → Hp → Prop) (us : List Value) (s' : Shared) : Prop := ∃ vs H', Inv X pins σ H' s' ∧ Vals vs us ∧ Q vs H'
def SP (X : Cx) (pins : List (Addr × Obj)) (D : Ends) (f : Flow) (s' : Shared) : Prop :=
  match f with
  | .next => ∃ σ' H', Inv X pins σ' H' s' ∧ D.nx σ' H'
  | .brk => ∃ σ' H', Inv X pins σ' H' s' ∧ D.bk σ' H'
  | .cont => ∃ σ' H', Inv X pins σ' H' s' ∧ D.ct σ' H'
  | .ret u => ∃ v σ' H', Inv X pins σ' H' s' ∧ RelV v u ∧ D.rt v H'

def PE (X : Cx) (e : Expr) (t : TE) : Prop :=
  ∀ (pins : List (Addr × Obj)) (s : Shared) (σ : St) (H : Hp) (Q : VK), Inv X pins σ H s → t σ H Q → wpAny (model X.prog X.w) X.A (eval e X.env) (EP X pins σ Q) X.xe s
def PT (X : Cx) (e : Expr) (t : TT) : Prop :=
  ∀ (pins : List (Addr × Obj)) (s : Shared) (σ : St) (H : Hp) (Q : Bool → Hp → Prop), Inv X pins σ H s → t σ H Q → wpAny (model X.prog X.w) X.A (isTrue e X.env (eval e X.env)) (TP X pins σ Q) X.xe s
/-- a test whatever its 'whole' is (and, or) -/
def PW (X : Cx) (e : Expr) (t : TT) : Prop :=
  ∀ (whole : Sem Value) (pins : List (Addr × Obj)) (s : Shared) (σ : St) (H : Hp) (Q : Bool → Hp → Prop), Inv X pins σ H s → t σ H Q → wpAny (model X.prog X.w) X.A (isTrue e X.env whole) (TP X pins σ Q) X.xe s
theorem PW.pt {X : Cx} {e : Expr} {t : TT} (h : PW X e t) : PT X e t := h _
/-- an argument list (no star), from the left -/
def PA (X : Cx) (es : List Expr) (t : TA) : Prop :=
  ∀ (pos : Pos) (pins : List (Addr × Obj)) (s : Shared) (σ : St) (H : Hp) (Q : List V → Hp → Prop), Inv X pins σ H s → t σ H Q → wpAny (model X.prog X.w) X.A (spliced (backTo pos (starEach es X.env))) (AP X pins σ Q) X.xe s
def PS (X : Cx) (st : Stmt) (t : TS) : Prop :=
  ∀ (pins : List (Addr × Obj)) (s : Shared) (σ : St) (H : Hp) (D : Ends), Inv X pins σ H s → t D σ H → wpAny (model X.prog X.w) X.A (exec st X.env) (SP X pins D) X.xe s
def PSs (X : Cx) (st : List Stmt) (t : TS) : Prop :=
  ∀ (pins : List (Addr × Obj)) (s : Shared) (σ : St) (H : Hp) (D : Ends), Inv X pins σ H s → t D σ H → wpAny (model X.prog X.w) X.A (execs st X.env) (SP X pins D) X.xe s
/-- weaken the end -/
theorem thn {α : Type} {t : Sem α} {Q Q' : α → Shared → Prop} {M : Model} {A : Around} {E : Value → Shared → Prop} {s : Shared} (h : wpAny M A t Q E s) (hQ : ∀ a s, Q a s → Q' a s) : wpAny M A t Q' E s := wpAny_mono h hQ fun _ _ x => x
end L2

namespace L2
open PySem PySem.Spec PyProof.Rows
section
variable {X : Cx}

/-- two expressions in a row -/
theorem bin {a b : Expr} {ta tb : TE} (ha : PE X a ta) (hb : PE X b tb) {pins : List (Addr × Obj)} {s : Shared} {σ : St} {H : Hp} {R : V → V → Hp → Prop} (I : Inv X pins σ H s) (h : ta σ H fun x H1 => tb σ H1 fun y H2 => R x y H2)
    {α : Type} {Q : α → Shared → Prop} {f : Value → Value → Sem α}
    (hf : ∀ v u s2 x y H2, Inv X pins σ H2 s2 → RelV x v → RelV y u → R x y H2 → wpAny (model X.prog X.w) X.A (f v u) Q X.xe s2) :
    wpAny (model X.prog X.w) X.A (eval a X.env) (fun v s₁ => wpAny (model X.prog X.w) X.A (eval b X.env) (fun u s₂ => wpAny (model X.prog X.w) X.A (f v u) Q X.xe s₂) X.xe s₁) X.xe s := by
  refine thn (ha pins s σ H _ I h) fun v s1 ⟨x, H1, I1, r1, q1⟩ => ?_
  refine thn (hb pins s1 σ H1 _ I1 q1) fun u s2 ⟨y, H2, I2, r2, q2⟩ => ?_
  exact hf v u s2 x y H2 I2 r1 r2 q2

/-! ### names and constants -/
def tVar (i : Nat) : TE := fun σ H Q => ∃ v, σ[i]? = some (some v) ∧ Q v H
def tC (v : V) : TE := fun _ H Q => Q v H
theorem pe_var {i : Nat} {x : Str} {pos : Pos} (hN : X.N[i]? = some x) (hv : Vis X.env.scope x) (hd : (x == ("__debug__" : Str)) = false := by decide) (hcd : (x == ("__classdict__" : Str)) = false := by decide) : PE X (.Name x pos) (tVar i) := by
  intro pins s σ H Q I h
  obtain ⟨v, e, h⟩ := h
  obtain ⟨m, hn, hl⟩ := I.loc
  obtain ⟨u, r, l⟩ := hl i x v hN e hv
  have fin : EP X pins σ Q u s := ⟨v, H, I, r, h⟩
  rcases l with ⟨hk, hm⟩ | ⟨hk, c, hc, hcell⟩
  · exact wpAny_Name (wpAny_loadName_local I.ok.kind hk hn hm fin) hd
  · rcases hk with hk | hk
    · exact wpAny_Name (wpAny_loadName_cell I.ok.kind hk hc hcell fin) hd
    · exact wpAny_Name (wpAny_loadName_free I.ok.kind hk hc hcell fin hcd) hd
theorem pe_int {i j pos} : PE X (.Constant (.int i) j pos) (tC (.int i)) := fun _ _ _ H _ I h => wpAny_Constant_int ⟨.int i, H, I.tok _, ⟨_, rfl⟩, h⟩
theorem pe_bl {b j pos} : PE X (.Constant (.bool b) j pos) (tC (.bl b)) := fun _ _ _ H _ I h => Constant_bool ⟨.bl b, H, I, rfl, h⟩
theorem pe_non {j pos} : PE X (.Constant .none j pos) (tC .non) := fun _ _ _ H _ I h => Constant_none ⟨.non, H, I, rfl, h⟩
theorem pe_str {x j pos} : PE X (.Constant (.str x) j pos) (tC (.str x)) := fun _ _ _ H _ I h => Calls.Constant_str ⟨.str x, H, I.tok _, ⟨_, rfl⟩, h⟩

/-- a global name of the def -/
def Gl (X : Cx) (x : Str) : Prop := X.env.kindOf x = some .globalImplicit
theorem ld_glob {E : Value → Shared → Prop} {pins : List (Addr × Obj)} {s : Shared} {σ : St} {H : Hp} {x : Str} {u : Value} {pos : Pos} {Q : Value → Shared → Prop} (I : Inv X pins σ H s) (hg : Gl X x) (hm : X.mg x = some u) (h : Q u s)
    (hd : (x == ("__debug__" : Str)) = false := by decide) : wpAny (model X.prog X.w) X.A (eval (.Name x pos) X.env) Q E s :=
  Calls.Name_function_global I.ok.kind hg (Calls.loadGlobal_global (by rw [I.ok.glob]; exact I.mod.glob.keeps I.bk) hm h) hd
theorem ld_blt {E : Value → Shared → Prop} {pins : List (Addr × Obj)} {s : Shared} {σ : St} {H : Hp} {x : Str} {u : Value} {pos : Pos} {Q : Value → Shared → Prop} (I : Inv X pins σ H s) (hg : Gl X x) (hm : X.mg x = none) (hv : bootBuiltins x = some u) (h : Q u s)
    (hn : x ≠ "__name__" := by decide) (hd : (x == ("__debug__" : Str)) = false := by decide) : wpAny (model X.prog X.w) X.A (eval (.Name x pos) X.env) Q E s := by
  obtain ⟨mb, h1, h2⟩ := I.mod.blt
  exact Calls.Name_function_global I.ok.kind hg (Calls.loadGlobal_builtin (by rw [I.ok.glob]; exact I.mod.glob.keeps I.bk) hm (by rw [I.ok.blt]; exact h1.keeps I.bk) ((h2 x hn).trans hv) h) hd
/-- a module's constant, a class, a function, as a value -/
theorem pe_glob {x : Str} {v : V} {u : Value} {pos : Pos} (hg : Gl X x) (hm : X.mg x = some u) (r : RelV v u) (hd : (x == ("__debug__" : Str)) = false := by decide) : PE X (.Name x pos) (tC v) :=
  fun _ _ _ H _ I h => ld_glob I hg hm ⟨v, H, I, r, h⟩ hd
theorem pe_bltn {x : Str} {v : V} {u : Value} {pos : Pos} (hg : Gl X x) (hm : X.mg x = none) (hv : bootBuiltins x = some u) (r : RelV v u) (hn : x ≠ "__name__" := by decide) (hd : (x == ("__debug__" : Str)) = false := by decide) : PE X (.Name x pos) (tC v) :=
  fun _ _ _ H _ I h => ld_blt I hg hm hv ⟨v, H, I, r, h⟩ hn hd

/-! ### arithmetic -/
/-- two ints -/
def t2I (ta tb : TE) (k : Int → Int → Hp → Prop) : St → Hp → Prop := fun σ H => ta σ H fun x H1 => tb σ H1 fun y H2 => ∃ i j, x = .int i ∧ y = .int j ∧ k i j H2
def tAdd (ta tb : TE) : TE := fun σ H Q => t2I ta tb (fun i j H2 => Q (.int (i + j)) H2) σ H
def tSub (ta tb : TE) : TE := fun σ H Q => t2I ta tb (fun i j H2 => Q (.int (i - j)) H2) σ H
/-- the left factor below 2^64 -/
def tMul (ta tb : TE) : TE := fun σ H Q => t2I ta tb (fun i j H2 => (-(2 ^ 64) < i ∧ i < 2 ^ 64) ∧ Q (.int (i * j)) H2) σ H
variable {a b : Expr} {ta tb : TE} {pos : Pos}
theorem pe_add (ha : PE X a ta) (hb : PE X b tb) : PE X (.BinOp a .Add b pos) (tAdd ta tb) := by
  intro pins s σ H Q I h
  refine wpAny_BinOp (bin ha hb I h fun v u s2 x y H2 I2 rx ry q => ?_)
  obtain ⟨i, j, rfl, rfl, q⟩ := q
  obtain ⟨t, rfl⟩ := rx
  obtain ⟨t', rfl⟩ := ry
  exact add_int ⟨.int _, H2, I2.tok _, ⟨_, rfl⟩, q⟩
theorem pe_sub (ha : PE X a ta) (hb : PE X b tb) : PE X (.BinOp a .Sub b pos) (tSub ta tb) := by
  intro pins s σ H Q I h
  refine wpAny_BinOp (bin ha hb I h fun v u s2 x y H2 I2 rx ry q => ?_)
  obtain ⟨i, j, rfl, rfl, q⟩ := q
  obtain ⟨t, rfl⟩ := rx
  obtain ⟨t', rfl⟩ := ry
  exact sub_int ⟨.int _, H2, I2.tok _, ⟨_, rfl⟩, q⟩
theorem pe_mul (ha : PE X a ta) (hb : PE X b tb) : PE X (.BinOp a .Mult b pos) (tMul ta tb) := by
  intro pins s σ H Q I h
  refine wpAny_BinOp (bin ha hb I h fun v u s2 x y H2 I2 rx ry q => ?_)
  obtain ⟨i, j, rfl, rfl, ⟨q1, q2⟩, q⟩ := q
  obtain ⟨t, rfl⟩ := rx
  obtain ⟨t', rfl⟩ := ry
  exact mul_int ⟨.int _, H2, I2.tok _, ⟨_, rfl⟩, q⟩ (.of_left (intBits_le_64 q1 q2))

/-! ### comparisons -/
def PC (X : Cx) (op : CmpOp) (a b : Expr) (t : TE) : Prop :=
  ∀ (pins : List (Addr × Obj)) (s : Shared) (σ : St) (H : Hp) (Q : VK), Inv X pins σ H s → t σ H Q →
    wpAny (model X.prog X.w) X.A (eval a X.env) (fun v s₁ => wpAny (model X.prog X.w) X.A (eval b X.env) (fun u s₂ => wpAny (model X.prog X.w) X.A (compareOp op v u) (EP X pins σ Q) X.xe s₂) X.xe s₁) X.xe s
theorem nobehind (b : Expr) {op : CmpOp} (h : op ≠ .In) (h2 : op ≠ .NotIn) : behindInMarks op b = false := by
  have e1 : (op == CmpOp.In) = false := by cases op <;> first | rfl | exact absurd rfl h
  have e2 : (op == CmpOp.NotIn) = false := by cases op <;> first | rfl | exact absurd rfl h2
  cases b <;> simp [behindInMarks, e1, e2]
def tCmp (p : Int → Int → Bool) (ta tb : TE) : TE := fun σ H Q => t2I ta tb (fun i j H2 => Q (.bl (p i j)) H2) σ H
abbrev tLt : TE → TE → TE := tCmp fun i j => decide (i < j)
abbrev tLe : TE → TE → TE := tCmp fun i j => decide (i ≤ j)
abbrev tGt : TE → TE → TE := tCmp fun i j => decide (j < i)
abbrev tGe : TE → TE → TE := tCmp fun i j => decide (j ≤ i)
abbrev tEqI : TE → TE → TE := tCmp fun i j => decide (i = j)
abbrev tNeI : TE → TE → TE := tCmp fun i j => !decide (i = j)
/-- a comparison of two ints, by its rule -/
theorem pc_int {op : CmpOp} {p : Int → Int → Bool} (ha : PE X a ta) (hb : PE X b tb)
    (rule : ∀ (i j : Int) (t u : Tok) (Q : Value → Shared → Prop) (s : Shared), Q (.bool (p i j)) s → wpAny (model X.prog X.w) X.A (compareOp op (.int i t) (.int j u)) Q X.xe s) : PC X op a b (tCmp p ta tb) := by
  intro pins s σ H Q I h
  refine bin ha hb I h fun v u s2 x y H2 I2 rx ry q => ?_
  obtain ⟨i, j, rfl, rfl, q⟩ := q
  obtain ⟨t, rfl⟩ := rx
  obtain ⟨t', rfl⟩ := ry
  exact rule i j t t' _ s2 ⟨.bl _, H2, I2, rfl, q⟩
theorem pc_lt (ha : PE X a ta) (hb : PE X b tb) : PC X .Lt a b (tLt ta tb) := pc_int ha hb fun _ _ _ _ _ _ h => lt_int h
theorem pc_le (ha : PE X a ta) (hb : PE X b tb) : PC X .LtE a b (tLe ta tb) := pc_int ha hb fun _ _ _ _ _ _ h => le_int h
theorem pc_gt (ha : PE X a ta) (hb : PE X b tb) : PC X .Gt a b (tGt ta tb) := pc_int ha hb fun _ _ _ _ _ _ h => gt_int h
theorem pc_ge (ha : PE X a ta) (hb : PE X b tb) : PC X .GtE a b (tGe ta tb) := pc_int ha hb fun _ _ _ _ _ _ h => ge_int h
theorem pc_eqI (ha : PE X a ta) (hb : PE X b tb) : PC X .Eq a b (tEqI ta tb) := pc_int ha hb fun _ _ _ _ _ _ h => eq_int (by rw [Bool.beq_eq_decide_eq]; exact h)
theorem pc_neI (ha : PE X a ta) (hb : PE X b tb) : PC X .NotEq a b (tNeI ta tb) := pc_int ha hb fun _ _ _ _ _ _ h => ne_int (by rw [bne, Bool.beq_eq_decide_eq]; exact h)
/-- is None -/
def tIsN (ta : TE) : TE := fun σ H Q => ta σ H fun x H1 => Q (.bl (decide (x = .non))) H1
def tNotN (ta : TE) : TE := fun σ H Q => ta σ H fun x H1 => Q (.bl (!decide (x = .non))) H1
theorem RelV.none_iff {x : V} {v : Value} (r : RelV x v) : (v == Value.none) = decide (x = .non) := by
  cases x with
  | non => cases r; rfl
  | bl _ => cases r; rfl
  | int _ => obtain ⟨t, rfl⟩ := r; rfl
  | str _ => obtain ⟨t, rfl⟩ := r; rfl
  | byt _ => obtain ⟨t, rfl⟩ := r; rfl
  | flt _ => obtain ⟨t, rfl⟩ := r; rfl
  | ref _ => cases r; rfl
  | ty _ => cases r; rfl
theorem pc_isN {j pos'} (ha : PE X a ta) : PC X .Is a (.Constant .none j pos') (tIsN ta) := by
  intro pins s σ H Q I h
  refine thn (ha pins s σ H _ I h) fun v s1 ⟨x, H1, I1, r1, q1⟩ => ?_
  exact Constant_none (is_none_gen ⟨.bl _, H1, I1, by rw [r1.none_iff]; rfl, q1⟩)
theorem pc_notN {j pos'} (ha : PE X a ta) : PC X .IsNot a (.Constant .none j pos') (tNotN ta) := by
  intro pins s σ H Q I h
  refine thn (ha pins s σ H _ I h) fun v s1 ⟨x, H1, I1, r1, q1⟩ => ?_
  exact Constant_none (isnot_none_gen ⟨.bl _, H1, I1, by rw [r1.none_iff]; rfl, q1⟩)
/-- a comparison as a value, as a test -/
def tB (t : TE) : TT := fun σ H Q => t σ H fun x H1 => ∃ c, x = .bl c ∧ Q c H1
theorem pe_cmp {op : CmpOp} {t : TE} (h : PC X op a b t) (h1 : behindInMarks op b = false := by first | exact nobehind _ (by decide) (by decide) | rfl) : PE X (.Compare a [op] [b] pos) t := fun pins s σ H Q I hw => wpAny_Compare1 (h pins s σ H Q I hw) h1
theorem pt_cmp {op : CmpOp} {t : TE} (h : PC X op a b t) (h1 : behindInMarks op b = false := by first | exact nobehind _ (by decide) (by decide) | rfl) : PT X (.Compare a [op] [b] pos) (tB t) := by
  intro pins s σ H Q I hw
  refine wpAny_isTrue_Compare1 (thn (h pins s σ H _ I hw) fun v s1 h1 => thn h1 fun u s2 h2 => thn h2 fun c s3 ⟨x, H1, I1, r1, q1⟩ => ?_) h1
  obtain ⟨d, rfl, q⟩ := q1
  cases r1
  exact wpAny_truthy_bool ⟨H1, I1, q⟩
/-- an expression whose value is a bool, as a test -/
theorem pt_val {e : Expr} {t : TE} (h : PE X e t) (he : ∀ whole, isTrue e X.env whole = (do let v ← whole; standAt e.pos; holding [v] (truthy v)) := by intro _; rfl) : PT X e (tB t) := by
  intro pins s σ H Q I hw
  refine isTrue_plain (thn (h pins s σ H _ I hw) fun v s1 ⟨x, H1, I1, r1, q1⟩ => ?_) (he _)
  obtain ⟨d, rfl, q⟩ := q1
  cases r1
  exact wpAny_truthy_bool ⟨H1, I1, q⟩

/-! ### and, or, not -/
variable {tA tB' : TT} {rest : List Expr}
def tAnd (t u : TT) : TT := fun σ H Q => t σ H fun c H1 => if c = true then u σ H1 Q else Q false H1
def tOr (t u : TT) : TT := fun σ H Q => t σ H fun c H1 => if c = true then Q true H1 else u σ H1 Q
def tNot (t : TT) : TT := fun σ H Q => t σ H fun c H1 => Q (!c) H1
theorem pw_and1 (ha : PT X a tA) : PW X (.BoolOp .And [a] pos) tA := by
  intro wh pins s σ H Q I h
  refine isTrue_and (thn (ha pins s σ H Q I h) fun c s1 e => ?_)
  cases c with
  | true => exact isTrue_and_nil e
  | false => exact e
theorem pw_or1 (ha : PT X a tA) : PW X (.BoolOp .Or [a] pos) tA := by
  intro wh pins s σ H Q I h
  refine isTrue_or (thn (ha pins s σ H Q I h) fun c s1 e => ?_)
  cases c with
  | false => exact isTrue_or_nil e
  | true => exact e
theorem pw_and (ha : PT X a tA) (hb : PW X (.BoolOp .And (b :: rest) pos) tB') : PW X (.BoolOp .And (a :: b :: rest) pos) (tAnd tA tB') := by
  intro wh pins s σ H Q I h
  refine isTrue_and (thn (ha pins s σ H _ I h) fun c s1 ⟨H1, I1, q1⟩ => ?_)
  cases c with
  | true => exact hb wh pins s1 σ H1 Q I1 q1
  | false => exact ⟨H1, I1, q1⟩
theorem pw_or (ha : PT X a tA) (hb : PW X (.BoolOp .Or (b :: rest) pos) tB') : PW X (.BoolOp .Or (a :: b :: rest) pos) (tOr tA tB') := by
  intro wh pins s σ H Q I h
  refine isTrue_or (thn (ha pins s σ H _ I h) fun c s1 ⟨H1, I1, q1⟩ => ?_)
  cases c with
  | true => exact ⟨H1, I1, q1⟩
  | false => exact hb wh pins s1 σ H1 Q I1 q1
theorem pt_not (ha : PT X a tA) : PT X (.UnaryOp .Not a pos) (tNot tA) := by
  intro pins s σ H Q I h
  exact isTrue_not (ha pins s σ H (fun c H1 => Q (!c) H1) I h)
/-- .. as values (bools) -/
def tAndV (ta tb : TE) : TE := fun σ H Q => ta σ H fun x H1 => ∃ c, x = .bl c ∧ if c = true then tb σ H1 Q else Q (.bl false) H1
def tOrV (ta tb : TE) : TE := fun σ H Q => ta σ H fun x H1 => ∃ c, x = .bl c ∧ if c = true then Q (.bl true) H1 else tb σ H1 Q
def tNotV (ta : TE) : TE := fun σ H Q => ta σ H fun x H1 => ∃ c, x = .bl c ∧ Q (.bl (!c)) H1
theorem pe_one {op} {t : TE} (h : PE X a t) : PE X (.BoolOp op [a] pos) t := fun pins s σ H Q I hw => BoolOp_one (h pins s σ H Q I hw)
theorem pe_and (ha : PE X a ta) (hb : PE X (.BoolOp .And (b :: rest) pos) tb) : PE X (.BoolOp .And (a :: b :: rest) pos) (tAndV ta tb) := by
  intro pins s σ H Q I h
  refine BoolOp_and (thn (ha pins s σ H _ I h) fun v s1 ⟨x, H1, I1, r1, q1⟩ => ?_)
  obtain ⟨c, rfl, q1⟩ := q1
  cases r1
  refine wpAny_truthy_bool ?_
  cases c with
  | true => exact hb pins s1 σ H1 Q I1 q1
  | false => exact ⟨.bl false, H1, I1, rfl, q1⟩
theorem pe_or (ha : PE X a ta) (hb : PE X (.BoolOp .Or (b :: rest) pos) tb) : PE X (.BoolOp .Or (a :: b :: rest) pos) (tOrV ta tb) := by
  intro pins s σ H Q I h
  refine BoolOp_or (thn (ha pins s σ H _ I h) fun v s1 ⟨x, H1, I1, r1, q1⟩ => ?_)
  obtain ⟨c, rfl, q1⟩ := q1
  cases r1
  refine wpAny_truthy_bool ?_
  cases c with
  | false => exact hb pins s1 σ H1 Q I1 q1
  | true => exact ⟨.bl true, H1, I1, rfl, q1⟩
theorem pe_not (ha : PE X a ta) : PE X (.UnaryOp .Not a pos) (tNotV ta) := by
  intro pins s σ H Q I h
  refine UnaryOp_ (thn (ha pins s σ H _ I h) fun v s1 ⟨x, H1, I1, r1, q1⟩ => ?_)
  obtain ⟨c, rfl, q1⟩ := q1
  cases r1
  exact not_of (wpAny_truthy_bool ⟨.bl (!c), H1, I1, rfl, q1⟩)
/-- a if t else b -/
def tIf (t : TT) (ta tb : TE) : TE := fun σ H Q => t σ H fun c H1 => if c = true then ta σ H1 Q else tb σ H1 Q
theorem pe_ifExp {c : Expr} (hc : PT X c tA) (ha : PE X a ta) (hb : PE X b tb) : PE X (.IfExp c a b pos) (tIf tA ta tb) := by
  intro pins s σ H Q I h
  refine wpAny_IfExp (thn (hc pins s σ H _ I h) fun d s1 ⟨H1, I1, q1⟩ => ?_)
  cases d with
  | true => exact ha pins s1 σ H1 Q I1 q1
  | false => exact hb pins s1 σ H1 Q I1 q1
end
end L2

namespace L2
open PySem PySem.Spec PyProof.Rows

/-! ### a list, a tuple that is read: tracked, frozen, or an object of the module -/
def SqL (K : PySem.W.Frag) (H : Hp) (a : Addr) (xs : List V) : Prop :=
  Rd H a (.lst xs) ∨
    ∃ (o : Obj) (its : Array Value) (n : Nat), K.lookup a = some o ∧ o.cls = .type "list" ∧ o.dict = none ∧ o.data = .seq its n ∧ its.size ≤ sizeLine ∧ Vals xs its.toList
def SqT (K : PySem.W.Frag) (H : Hp) (a : Addr) (xs : List V) : Prop :=
  Rd H a (.tup xs) ∨
    ∃ (o : Obj) (its : Array Value) (n : Nat), K.lookup a = some o ∧ o.cls = .type "tuple" ∧ o.data = .seq its n ∧ its.size ≤ sizeLine ∧ Vals xs its.toList
def absV : Value → Option V
  | .none => some .non
  | .bool b => some (.bl b)
  | .int i _ => some (.int i)
  | .str x _ => some (.str x)
  | .bytes b _ => some (.byt b)
  | .float b _ => some (.flt b)
  | .ref a => some (.ref a)
  | .type n => some (.ty n)
  | _ => none
theorem RelV.abs {x : V} {u : Value} (r : RelV x u) : absV u = some x := by
  cases x with
  | non => cases r; rfl
  | bl _ => cases r; rfl
  | int _ => obtain ⟨t, rfl⟩ := r; rfl
  | str _ => obtain ⟨t, rfl⟩ := r; rfl
  | byt _ => obtain ⟨t, rfl⟩ := r; rfl
  | flt _ => obtain ⟨t, rfl⟩ := r; rfl
  | ref _ => cases r; rfl
  | ty _ => cases r; rfl
theorem RelV.inj {x y : V} {u : Value} (r : RelV x u) (q : RelV y u) : x = y := Option.some.inj (r.abs.symm.trans q.abs)
theorem Vals.inj : ∀ {xs ys : List V} {us : List Value}, Vals xs us → Vals ys us → xs = ys
  | _, _, _, .nil, .nil => rfl
  | _, _, _, .cons r t, .cons r' t' => by rw [r.inj r', Vals.inj t t']
section
variable {X : Cx} {pins : List (Addr × Obj)} {σ : St} {H : Hp} {s : Shared} {a : Addr} {xs ys : List V}
theorem SqL.of {K : PySem.W.Frag} (h : H a = some (.lst xs)) : SqL K H a xs := .inl (.inl h)
theorem SqT.of {K : PySem.W.Frag} (h : H a = some (.tup xs)) : SqT K H a xs := .inl (.inl h)
theorem Inv.list (I : Inv X pins σ H s) (h : SqL X.K H a xs) : ∃ its : List Value, Vals xs its ∧ PlainL s.heap a its.toArray ∧ xs.length ≤ sizeLine := by
  rcases h with h | ⟨o, its, n, hk, hc, hd, hs, hz, r⟩
  · obtain ⟨z, its, n, r, e⟩ := h.ok I.hok
    exact ⟨its, r, ⟨_, n, e, rfl, rfl, rfl⟩, z⟩
  · refine ⟨its.toList, r, ⟨o, n, I.kIn a o hk, hc, hd, by simpa using hs⟩, ?_⟩
    have e := r.length
    simp only [Array.length_toList] at e
    omega
theorem Inv.tuple (I : Inv X pins σ H s) (h : SqT X.K H a xs) : ∃ its : List Value, Vals xs its ∧ IsTup s.heap a its.toArray ∧ xs.length ≤ sizeLine := by
  rcases h with h | ⟨o, its, n, hk, hc, hs, hz, r⟩
  · obtain ⟨z, its, r, p⟩ := h.ok I.hok
    exact ⟨its, r, p, z⟩
  · refine ⟨its.toList, r, ⟨o, I.kIn a o hk, hc, n, by simpa using hs⟩, ?_⟩
    have e := r.length
    simp only [Array.length_toList] at e
    omega
theorem Inv.list_inj (I : Inv X pins σ H s) (h : SqL X.K H a xs) (h' : SqL X.K H a ys) : xs = ys := by
  obtain ⟨its, r, ⟨o, n, e, _, _, d⟩, _⟩ := I.list h
  obtain ⟨its', r', ⟨o', n', e', _, _, d'⟩, _⟩ := I.list h'
  rw [e] at e'; cases e'
  rw [d] at d'
  injection d' with d1 _
  have : its = its' := by simpa using congrArg Array.toList d1
  subst this
  exact r.inj r'
theorem Inv.tuple_inj (I : Inv X pins σ H s) (h : SqT X.K H a xs) (h' : SqT X.K H a ys) : xs = ys := by
  obtain ⟨its, r, ⟨o, e, _, n, d⟩, _⟩ := I.tuple h
  obtain ⟨its', r', ⟨o', e', _, n', d'⟩, _⟩ := I.tuple h'
  rw [e] at e'; cases e'
  rw [d] at d'
  injection d' with d1 _
  have : its = its' := by simpa using congrArg Array.toList d1
  subst this
  exact r.inj r'
end

/-! ### another wish about exceptions -/
abbrev Cx.wish (X : Cx) (E : Value → Shared → Prop) : Cx := { X with xe := E }
/-- no exception leaves -/
abbrev Cx.nox (X : Cx) : Cx := X.wish fun _ _ => False
theorem Cx.Ok.wish {X : Cx} (ok : X.Ok) (E : Value → Shared → Prop) : (X.wish E).Ok :=
  ⟨ok.mod, ok.kind, ok.glob, ok.blt, ok.above, ok.inj, ok.has, ok.cab, ok.hd, ok.frames, ok.stk, ok.exf, ok.bs, ok.bsz, ok.noex, ok.exfs, ok.funs, ok.frf⟩
theorem Cx.Ok.unwish {X : Cx} {E : Value → Shared → Prop} (ok : (X.wish E).Ok) : X.Ok :=
  ⟨ok.mod, ok.kind, ok.glob, ok.blt, ok.above, ok.inj, ok.has, ok.cab, ok.hd, ok.frames, ok.stk, ok.exf, ok.bs, ok.bsz, ok.noex, ok.exfs, ok.funs, ok.frf⟩
section
variable {X : Cx} {pins : List (Addr × Obj)} {σ : St} {H : Hp} {s : Shared} {E : Value → Shared → Prop}
theorem Inv.wish (I : Inv X pins σ H s) (E : Value → Shared → Prop) : Inv (X.wish E) pins σ H s := ⟨I.ok.wish E, I.os, I.bare, I.base, I.loc, I.cell, I.free, I.freeC, I.pin, I.hok, I.len⟩
theorem Inv.unwish (I : Inv (X.wish E) pins σ H s) : Inv X pins σ H s := ⟨I.ok.unwish, I.os, I.bare, I.base, I.loc, I.cell, I.free, I.freeC, I.pin, I.hok, I.len⟩
theorem SP.unwish {D : Ends} {f : Flow} {s' : Shared} (h : SP (X.wish E) pins D f s') : SP X pins D f s' := by
  cases f with
  | next => obtain ⟨σ', H', I, q⟩ := h; exact ⟨σ', H', I.unwish, q⟩
  | brk => obtain ⟨σ', H', I, q⟩ := h; exact ⟨σ', H', I.unwish, q⟩
  | cont => obtain ⟨σ', H', I, q⟩ := h; exact ⟨σ', H', I.unwish, q⟩
  | ret u => obtain ⟨v, σ', H', I, r, q⟩ := h; exact ⟨v, σ', H', I.unwish, r, q⟩
theorem PE.nox {e : Expr} {t : TE} (h : PE X.nox e t) : PE X e t := fun pins s σ H Q I hw =>
  wpAny_mono (h pins s σ H Q (I.wish _) hw) (fun _ _ ⟨v, H', I', r, q⟩ => ⟨v, H', I'.unwish, r, q⟩) fun _ _ z => False.elim z
theorem PT.nox {e : Expr} {t : TT} (h : PT X.nox e t) : PT X e t := fun pins s σ H Q I hw =>
  wpAny_mono (h pins s σ H Q (I.wish _) hw) (fun _ _ ⟨H', I', q⟩ => ⟨H', I'.unwish, q⟩) fun _ _ z => False.elim z
theorem PSs.nox {st : List Stmt} {t : TS} (h : PSs X.nox st t) : PSs X st t := fun pins s σ H D I hw =>
  wpAny_mono (h pins s σ H D (I.wish _) hw) (fun _ _ q => q.unwish) fun _ _ z => False.elim z
end

/-! ### blocks and small statements -/
section
variable {X : Cx} {st : Stmt} {rest : List Stmt} {t u : TS} {e : Expr} {te : TE} {pos : Pos}
def tNext : TS := fun D σ H => D.nx σ H
def tSeq (t u : TS) : TS := fun D σ H => t { D with nx := u D } σ H
theorem pss_nil : PSs X [] tNext := fun _ _ σ H _ I h => wpAny_execs_nil ⟨σ, H, I, h⟩
theorem pss_cons (h1 : PS X st t) (h2 : PSs X rest u) : PSs X (st :: rest) (tSeq t u) := by
  intro pins s σ H D I h
  refine wpAny_execs_cons (thn (h1 pins s σ H { D with nx := u D } I h) fun f s1 q => ?_)
  cases f with
  | next =>
    obtain ⟨σ', H', I', q⟩ := q
    exact h2 pins s1 σ' H' D I' q
  | ret v => exact q
  | brk => exact q
  | cont => exact q
theorem pss_one (h1 : PS X st t) : PSs X [st] t := by
  intro pins s σ H D I h
  refine wpAny_execs_cons (thn (h1 pins s σ H D I h) fun f s1 q => ?_)
  cases f with
  | next => exact wpAny_execs_nil q
  | ret v => exact q
  | brk => exact q
  | cont => exact q
def tBreak : TS := fun D σ H => D.bk σ H
def tCont : TS := fun D σ H => D.ct σ H
theorem ps_pass : PS X (.Pass pos) tNext := fun _ _ σ H _ I h => wpAny_Pass ⟨σ, H, I, h⟩
theorem ps_break : PS X (.Break pos) tBreak := fun _ _ σ H _ I h => wpAny_Break ⟨σ, H, I, h⟩
theorem ps_continue : PS X (.Continue pos) tCont := fun _ _ σ H _ I h => wpAny_Continue ⟨σ, H, I, h⟩
/-- in a def's body nothing is shown -/
theorem Inv.quiet {pins : List (Addr × Obj)} {σ : St} {H : Hp} {s : Shared} (I : Inv X pins σ H s) : interactive X.env = false := by simp [interactive, I.ok.kind]
/-- a docstring -/
theorem ps_doc {x j pos pos'} : PS X (.Expr (.Constant (.str x) j pos) pos') tNext := fun _ s σ H _ I h => wpAny_Expr (Calls.Constant_str (show SP X _ _ .next { s with toks := s.toks + 1 } from ⟨σ, H, I.tok _, h⟩)) I.quiet
/-- an expression whose value is dropped -/
def tDrop (te : TE) : TS := fun D σ H => te σ H fun _ H1 => D.nx σ H1
theorem ps_expr (he : PE X e te) (hs : swapsWith e none pos.line X.env = pure false := by rfl) : PS X (.Expr e pos) (tDrop te) := by
  intro pins s σ H D I h
  exact wpAny_Expr_any (thn (he pins s σ H _ I h) fun v s1 ⟨x, H1, I1, r1, q1⟩ => ⟨σ, H1, I1, q1⟩) I.quiet hs
def tRet (te : TE) : TS := fun D σ H => te σ H D.rt
theorem ps_ret (he : PE X e te) : PS X (.Return (some e) pos) (tRet te) := by
  intro pins s σ H D I h
  exact wpAny_Return_some (thn (he pins s σ H _ I h) fun v s1 ⟨x, H1, I1, r1, q1⟩ => ⟨x, σ, H1, I1, r1, q1⟩)
def tRetN : TS := fun D _ H => D.rt .non H
theorem ps_retN : PS X (.Return none pos) tRetN := fun _ _ σ H _ I h => wpAny_Return_none ⟨.non, σ, H, I, rfl, h⟩
def tIfS (c : TT) (t u : TS) : TS := fun D σ H => c σ H fun b H1 => if b = true then t D σ H1 else u D σ H1
theorem ps_if {c : Expr} {a b : List Stmt} {tc : TT} (hc : PT X c tc) (ha : PSs X a t) (hb : PSs X b u) : PS X (.If c a b pos) (tIfS tc t u) := by
  intro pins s σ H D I h
  refine wpAny_If (thn (hc pins s σ H _ I h) fun d s1 ⟨H1, I1, q1⟩ => ?_)
  cases d with
  | true => exact ha pins s1 σ H1 D I1 q1
  | false => exact hb pins s1 σ H1 D I1 q1
/-- code that the proof never comes to -/
def tNever : TS := fun _ _ _ => False
theorem ps_never : PS X st tNever := fun _ _ _ _ _ _ h => h.elim
theorem pss_never {sts : List Stmt} : PSs X sts tNever := fun _ _ _ _ _ _ h => h.elim
end

/-! ### targets -/
abbrev TG := V → St → Hp → (St → Hp → Prop) → Prop
abbrev TGs := List V → St → Hp → (St → Hp → Prop) → Prop
def PG (X : Cx) (target : Expr) (t : TG) : Prop :=
  ∀ (pins : List (Addr × Obj)) (s : Shared) (σ : St) (H : Hp) (v : V) (u : Value) (Q : St → Hp → Prop), Inv X pins σ H s → RelV v u → t v σ H Q →
    wpAny (model X.prog X.w) X.A (assign target X.env u) (fun _ s' => ∃ σ' H', Inv X pins σ' H' s' ∧ Q σ' H') X.xe s
/-- several targets, one after another -/
def PGs (X : Cx) (ts : List Expr) (t : TGs) : Prop :=
  ∀ (pins : List (Addr × Obj)) (s : Shared) (σ : St) (H : Hp) (vs : List V) (us : List Value) (Q : St → Hp → Prop), Inv X pins σ H s → Vals vs us → t vs σ H Q →
    wpAny (model X.prog X.w) X.A (assignInOrder ((assignEach ts X.env).map (·.2)) us) (fun _ s' => ∃ σ' H', Inv X pins σ' H' s' ∧ Q σ' H') X.xe s
/-- o[i] = v, by values -/
abbrev TSet := V → V → V → Hp → (Hp → Prop) → Prop
def PSet (X : Cx) (t : TSet) : Prop :=
  ∀ (pins : List (Addr × Obj)) (s : Shared) (σ : St) (H : Hp) (o i v : V) (ov iv u : Value) (Q : Hp → Prop), Inv X pins σ H s → RelV o ov → RelV i iv → RelV v u → t o i v H Q →
    wpAny (model X.prog X.w) X.A (setItem ov iv u) (fun _ s' => ∃ H', Inv X pins σ H' s' ∧ Q H') X.xe s
/-- a op= b, by values -/
abbrev TIp := V → V → Hp → VK → Prop
def PIp (X : Cx) (op : Operator) (t : TIp) : Prop :=
  ∀ (pins : List (Addr × Obj)) (s : Shared) (σ : St) (H : Hp) (x y : V) (v u : Value) (Q : VK), Inv X pins σ H s → RelV x v → RelV y u → t x y H Q →
    wpAny (model X.prog X.w) X.A (inplaceOp op v u) (EP X pins σ Q) X.xe s
section
variable {X : Cx} {pos : Pos}
def gName (i : Nat) : TG := fun v σ H Q => Q (σ.set i (some v)) H
theorem pg_name {i : Nat} {x : Str} (hN : X.N.Nodup) (hi : X.N[i]? = some x) (hx : Loc X.env.scope x) (hf : X.fn x = true ∨ X.env.scope.names.lookup x = some .local := by first | exact .inl rfl | exact .inr rfl | assumption) : PG X (.Name x pos) (gName i) := by
  intro pins s σ H v u Q I r h
  exact wpAny_assign_Name (store_ok I hN hi hx r (fun s' I' => ⟨_, H, I', h⟩) hf)
def gNil : TGs := fun vs σ H Q => vs = [] ∧ Q σ H
def gCons (t : TG) (u : TGs) : TGs := fun vs σ H Q => ∃ v r, vs = v :: r ∧ t v σ H fun σ' H' => u r σ' H' Q
theorem pgs_nil : PGs X [] gNil := by
  intro pins s σ H vs us Q I r h
  obtain ⟨e, h⟩ := h
  subst e
  cases r
  exact assignInOrder_nil ⟨σ, H, I, h⟩
theorem pgs_cons {e : Expr} {es : List Expr} {t : TG} {u : TGs} (h1 : PG X e t) (h2 : PGs X es u)
    (hs : (assignEach (e :: es) X.env).map (·.2) = assign e X.env :: (assignEach es X.env).map (·.2) := by rfl) : PGs X (e :: es) (gCons t u) := by
  intro pins s σ H vs us Q I r h
  obtain ⟨v, vr, e1, h⟩ := h
  subst e1
  cases r with
  | cons r rr =>
    rw [hs]
    refine assignInOrder_cons (thn (h1 pins s σ H _ _ _ I r h) fun _ s1 ⟨σ1, H1, I1, q1⟩ => ?_)
    exact h2 pins s1 σ1 H1 _ _ Q I1 rr q1
/-- (a, b, ..) = a tuple of that length -/
def gTup (K : PySem.W.Frag) (n : Nat) (t : TGs) : TG := fun v σ H Q => ∃ a xs, v = .ref a ∧ SqT K H a xs ∧ xs.length = n ∧ t xs σ H Q
theorem pg_tup {es : List Expr} {k : Nat} {t : TGs} {n : Nat} (hc : X.calm = true) (h : PGs X es t)
    (hn : (assignEach es X.env).length = n := by rfl) (hst : (assignEach es X.env).findIdx? (·.1) = none := by rfl) : PG X (.Tuple es k pos) (gTup X.K n t) := by
  intro pins s σ H v u Q I r hw
  obtain ⟨a, xs, e1, hq, hl, hw⟩ := hw
  subst e1
  cases r
  obtain ⟨its, rv, ht, hz⟩ := I.tuple hq
  refine assign_Tuple_tuple (I.ok.hd hc) ht (by simp [hn, ← hl, rv.length]) hst fun h' hx => ?_
  have I1 : Inv X pins σ H { s with heap := h' } := I.kept (t' := s.toks) fun b o e => hx b o (Nat.ne_of_lt (Heap.lt_size e)) e
  exact h pins _ σ H xs _ Q I1 (by simpa using rv) hw
/-- o[i] = .. -/
def gSub (to ti : TE) (t : TSet) : TG := fun v σ H Q => to σ H fun o H1 => ti σ H1 fun i H2 => t o i v H2 fun H3 => Q σ H3
theorem pg_sub {o i : Expr} {to ti : TE} {t : TSet} (ho : PE X o to) (hi : PE X i ti) (hs : PSet X t)
    (ha : ∀ v, assign (.Subscript o i pos) X.env v = (do
      let ov ← holding [v] (eval o X.env)
      let iv ← holding [v, ov] (eval i X.env)
      standAt pos
      holding [v, ov, iv] (setItem ov iv v)
      release [v, ov, iv] []) := by intro _; rfl) : PG X (.Subscript o i pos) (gSub to ti t) := by
  intro pins s σ H v u Q I r h
  rw [ha]
  refine wpAny_bind (wpAny_holding (thn (ho pins s σ H _ I h) fun ov s1 ⟨x, H1, I1, r1, q1⟩ => ?_))
  refine wpAny_bind (wpAny_holding (thn (hi pins s1 σ H1 _ I1 q1) fun iv s2 ⟨y, H2, I2, r2, q2⟩ => ?_))
  refine wpAny_bind (wpAny_standAt (wpAny_bind (wpAny_holding (thn (hs pins s2 σ H2 x y v ov iv u _ I2 r1 r2 r q2) fun _ s3 ⟨H3, I3, q3⟩ => ?_))))
  exact wpAny_release ⟨σ, H3, I3, q3⟩
/-- target = value -/
def tAsg (te : TE) (g : TG) : TS := fun D σ H => te σ H fun x H1 => g x σ H1 D.nx
theorem ps_asg {tg e : Expr} {te : TE} {g : TG} (he : PE X e te) (hg : PG X tg g) (hs : swapsWithSole [tg] e pos.line X.env = pure false := by rfl) (hw : swappedStores [tg] e X.env = pure none := by rfl)
    (h1 : (assignEach [tg] X.env).map (·.2) = [assign tg X.env] := by rfl) : PS X (.Assign [tg] e pos) (tAsg te g) := by
  intro pins s σ H D I h
  refine wpAny_Assign_stores (thn (he pins s σ H _ I h) fun v s1 ⟨x, H1, I1, r1, q1⟩ => ?_) hs hw
  rw [h1]
  exact thn (hg pins s1 σ H1 x v _ I1 r1 q1) fun _ s2 q => q
/-- name = value -/
theorem ps_set {i : Nat} {x : Str} {e : Expr} {te : TE} {pos' : Pos} (hN : X.N.Nodup) (hi : X.N[i]? = some x) (hx : Loc X.env.scope x) (he : PE X e te) (hs : swapsWith e (some (.Name x pos')) pos.line X.env = pure false := by rfl) (hf : X.fn x = true ∨ X.env.scope.names.lookup x = some .local := by first | exact .inl rfl | exact .inr rfl | assumption) :
    PS X (.Assign [.Name x pos'] e pos) (tAsg te (gName i)) := by
  intro pins s σ H D I h
  refine wpAny_Assign_Name (thn (he pins s σ H _ I h) fun v s1 ⟨y, H1, I1, r1, q1⟩ => ?_) hs
  exact store_ok I1 hN hi hx r1 (fun s2 I2 => ⟨_, H1, I2, q1⟩) hf
/-- a, b = x, y with plain local names: stored from the right; the pair itself is not tracked (the opening rows as in PyProof/Rows/TupAssign.lean:23) -/
def tPar (i j : Nat) (ta : TA) : TS := fun D σ H => ta σ H fun vs H1 => ∃ v w, vs = [v, w] ∧ D.nx ((σ.set i (some v)).set j (some w)) H1
theorem ps_par {i j : Nat} {x y : Str} {a b : Expr} {ta : TA} {px py pt : Pos} {kt k2 pt2} (hc : X.calm = true) (hN : X.N.Nodup) (hi : X.N[i]? = some x) (hj : X.N[j]? = some y) (hij : i ≠ j)
    (hx : X.env.scope.names.lookup x = some .local) (hy : X.env.scope.names.lookup y = some .local) (ha : PA X [a, b] ta)
    (hw : swappedStores [.Tuple [.Name x px, .Name y py] kt pt] (.Tuple [a, b] k2 pt2) X.env = pure (some [x, y]))
    (hs : swapsWithSole [.Tuple [.Name x px, .Name y py] kt pt] (.Tuple [a, b] k2 pt2) pos.line X.env = pure false := by rfl) :
    PS X (.Assign [.Tuple [.Name x px, .Name y py] kt pt] (.Tuple [a, b] k2 pt2) pos) (tPar i j ta) := by
  intro pins s σ H D I h
  rw [exec_Assign_arm]
  refine wpAny_bind (wpAny_standAt ?_)
  rw [hs]
  refine wpAny_bind (wpAny_pure ?_)
  rw [if_neg (by decide)]
  refine wpAny_bind (Tuple_ (thn (ha _ pins s σ H _ I h) fun us s1 ⟨vs, H1, I1, r1, q1⟩ => ?_))
  obtain ⟨v, w, e1, q1⟩ := q1
  subst e1
  obtain ⟨u1, u2, rfl, rv, rw'⟩ : ∃ u1 u2, us = [u1, u2] ∧ RelV v u1 ∧ RelV w u2 := by
    cases r1 with
    | cons p q =>
      cases q with
      | cons p' q' =>
        cases q'
        exact ⟨_, _, rfl, p, p'⟩
  refine wpAny_newObj_type ?_ (by show 2 ≤ sizeLine; decide)
  have I2 : Inv X pins σ H1 { s1 with heap := s1.heap.push { cls := .type "tuple", data := .seq [u1, u2].toArray } } := I1.kept (t' := s1.toks) fun b o e => Heap.get?_push_of_some _ e
  rw [hw]
  refine wpAny_bind (wpAny_pure ?_)
  show wpAny (model X.prog X.w) X.A (do rule "assign.swapped-stores"; let items ← unpackItems (.ref s1.heap.objs.size) 2 none; assignInOrder [fun v => bindName X.env y v, fun v => bindName X.env x v] items.reverse; pure Flow.next) _ _ _
  refine wpAny_bind (wpAny_rule (wpAny_bind (unpackItems_tuple (items := #[u1, u2]) (I.ok.hd hc) (IsTup.new s1.heap _) fun h' hx' => ?_)))
  have I3 := I2.kept (h' := h') (t' := s1.toks) fun b o e => hx' b o (Nat.ne_of_lt (Heap.lt_size e)) e
  show wpAny _ _ (assignInOrder [fun v => bindName X.env y v, fun v => bindName X.env x v] [u2, u1] >>= fun _ => pure Flow.next) _ _ _
  refine wpAny_bind (assignInOrder_cons (wpAny_bindName (store_ok I3 hN hj (.inl hy) rw' (fun s2 I4 => ?_) (.inr hy))))
  refine assignInOrder_cons (wpAny_bindName (store_ok I4 hN hi (.inl hx) rv (fun s3 I5 => assignInOrder_nil (wpAny_pure ?_)) (.inr hx)))
  rw [List.set_comm _ _ (Ne.symm hij)] at I5
  exact ⟨_, H1, I5, q1⟩
/-- name op= e -/
def tAug (i : Nat) (te : TE) (ti : TIp) : TS := fun D σ H => ∃ x, σ[i]? = some (some x) ∧ te σ H fun y H1 => ti x y H1 fun z H2 => D.nx (σ.set i (some z)) H2
theorem ps_aug {i : Nat} {x : Str} {e : Expr} {te : TE} {op : Operator} {ti : TIp} {pos' : Pos} (hN : X.N.Nodup) (hi : X.N[i]? = some x) (hx : Loc X.env.scope x) (he : PE X e te) (ho : PIp X op ti) (hf : X.fn x = true ∨ X.env.scope.names.lookup x = some .local := by first | exact .inl rfl | exact .inr rfl | assumption) :
    PS X (.AugAssign (.Name x pos') op e pos) (tAug i te ti) := by
  intro pins s σ H D I h
  obtain ⟨v, e1, h⟩ := h
  obtain ⟨m, hn, hl⟩ := I.loc
  have vis : Vis X.env.scope x := by rcases hx with k | k; exact .inl k; exact .inr (.inl k)
  obtain ⟨u, r, l⟩ := hl i x v hi e1 vis
  refine wpAny_AugAssign_Name ?_
  have go : wpAny (model X.prog X.w) X.A (eval e X.env) (fun w s₂ => wpAny (model X.prog X.w) X.A (inplaceOp op u w) (fun r s₃ => wpAny (model X.prog X.w) X.A (storeName X.env x r) (fun _ => SP X pins D .next) X.xe s₃) X.xe s₂) X.xe s := by
    refine thn (he pins s σ H _ I h) fun w s1 ⟨y, H1, I1, r1, q1⟩ => ?_
    refine thn (ho pins s1 σ H1 v y u w _ I1 r r1 q1) fun z s2 ⟨zv, H2, I2, r2, q2⟩ => ?_
    exact store_ok I2 hN hi hx r2 (fun s3 I3 => ⟨_, H2, I3, q2⟩) hf
  rcases l with ⟨hk, hm⟩ | ⟨hk, c, hc, hcell⟩
  · exact wpAny_loadName_local I.ok.kind hk hn hm go
  · rcases hk with hk | hk
    · exact wpAny_loadName_cell I.ok.kind hk hc hcell go
    · rcases hx with k | k
      · have : X.env.scope.names.lookup x = some .free := hk
        rw [k] at this; cases this
      · have : X.env.scope.names.lookup x = some .free := hk
        rw [k] at this; cases this
/-- o[i] op= e -/
def tAugS (to ti te : TE) (tget : V → V → Hp → VK → Prop) (tip : TIp) (tset : TSet) : TS := fun D σ H => to σ H fun o H1 => ti σ H1 fun i H2 => tget o i H2 fun x H3 => te σ H3 fun y H4 => tip x y H4 fun z H5 => tset o i z H5 fun H6 => D.nx σ H6
/-- o[i], by values -/
def PGet (X : Cx) (t : V → V → Hp → VK → Prop) : Prop :=
  ∀ (pins : List (Addr × Obj)) (s : Shared) (σ : St) (H : Hp) (o i : V) (ov iv : Value) (Q : VK), Inv X pins σ H s → RelV o ov → RelV i iv → t o i H Q →
    wpAny (model X.prog X.w) X.A (getItem ov iv) (EP X pins σ Q) X.xe s
theorem ps_augS {o i e : Expr} {to ti te : TE} {tget : V → V → Hp → VK → Prop} {tip : TIp} {tset : TSet} {op : Operator} {tpos : Pos} (ho : PE X o to) (hi : PE X i ti) (hg : PGet X tget) (he : PE X e te) (hp : PIp X op tip) (hs : PSet X tset)
    (ha : ∀ ov iv new, augStore i ov iv new = (do holding [new, ov, iv] (setItem ov iv new); release [new, ov, iv] []; pure .next) := by intros; rfl) : PS X (.AugAssign (.Subscript o i tpos) op e pos) (tAugS to ti te tget tip tset) := by
  intro pins s σ H D I h
  refine wpAny_AugAssign_SubscriptAny (thn (ho pins s σ H _ I h) fun ov s1 ⟨x1, H1, I1, r1, q1⟩ => ?_) ha
  refine thn (hi pins s1 σ H1 _ I1 q1) fun iv s2 ⟨x2, H2, I2, r2, q2⟩ => ?_
  refine thn (hg pins s2 σ H2 x1 x2 ov iv _ I2 r1 r2 q2) fun old s3 ⟨x3, H3, I3, r3, q3⟩ => ?_
  refine thn (he pins s3 σ H3 _ I3 q3) fun v s4 ⟨x4, H4, I4, r4, q4⟩ => ?_
  refine thn (hp pins s4 σ H4 x3 x4 old v _ I4 r3 r4 q4) fun new s5 ⟨x5, H5, I5, r5, q5⟩ => ?_
  exact thn (hs pins s5 σ H5 x1 x2 x5 ov iv new _ I5 r1 r2 r5 q5) fun _ s6 ⟨H6, I6, q6⟩ => ⟨σ, H6, I6, q6⟩
/-- ints -/
def ipI (f : Int → Int → Int) : TIp := fun x y H Q => ∃ i j, x = .int i ∧ y = .int j ∧ Q (.int (f i j)) H
theorem ip_add : PIp X .Add (ipI fun i j => i + j) := by
  intro pins s σ H x y v u Q I r1 r2 h
  obtain ⟨i, j, e1, e2, q⟩ := h
  subst e1; subst e2
  obtain ⟨t, rfl⟩ := r1
  obtain ⟨t', rfl⟩ := r2
  exact iadd_int ⟨.int _, H, I.tok _, ⟨_, rfl⟩, q⟩
theorem ip_sub : PIp X .Sub (ipI fun i j => i - j) := by
  intro pins s σ H x y v u Q I r1 r2 h
  obtain ⟨i, j, e1, e2, q⟩ := h
  subst e1; subst e2
  obtain ⟨t, rfl⟩ := r1
  obtain ⟨t', rfl⟩ := r2
  exact isub_int ⟨.int _, H, I.tok _, ⟨_, rfl⟩, q⟩
end

/-! ### while -/
section
variable {X : Cx} {pos : Pos}
/-- the invariant W with its measure -/
def tWhile (c : TT) (tb : TS) : TS := fun D σ H => ∃ W : Nat → St → Hp → Prop, (∃ m, W m σ H) ∧ ∀ m σ H, W m σ H →
  c σ H fun b H1 => if b = true then ∃ N : St → Hp → Prop, (∀ σ' H', N σ' H' → ∃ m', m' < m ∧ W m' σ' H') ∧ tb { D with nx := N, ct := N, bk := D.nx } σ H1 else D.nx σ H1
theorem ps_while {c : Expr} {body : List Stmt} {tc : TT} {tb : TS} (hp : PassesOwn (model X.prog X.w) X.A X.env X.xe) (hc : PT X c tc) (hb : PSs X body tb) : PS X (.While c body [] pos) (tWhile tc tb) := by
  intro pins s σ H D I h
  obtain ⟨W, ⟨m0, w0⟩, turn⟩ := h
  refine wpAny_While (codeAny_whileLoop (fun n s' => ∃ σ' H', Inv X pins σ' H' s' ∧ W n σ' H') ?_ m0 ⟨σ, H, I, w0⟩)
  rintro n s1 ⟨σ1, H1, I1, w1⟩
  refine wpAny_passesOwn hp (thn (hc pins s1 σ1 H1 _ I1 (turn n σ1 H1 w1)) fun b s2 ⟨H2, I2, q2⟩ => ?_)
  cases b with
  | true =>
    obtain ⟨N, hN, q2⟩ := q2
    rw [if_pos rfl]
    refine wpAny_passesOwn hp (thn (hb pins s2 σ1 H2 _ I2 q2) fun f s3 q3 => ?_)
    cases f with
    | next =>
      obtain ⟨σ3, H3, I3, n3⟩ := q3
      obtain ⟨m', hm, w3⟩ := hN σ3 H3 n3
      exact ⟨m', hm, σ3, H3, I3, w3⟩
    | cont =>
      obtain ⟨σ3, H3, I3, n3⟩ := q3
      obtain ⟨m', hm, w3⟩ := hN σ3 H3 n3
      exact ⟨m', hm, σ3, H3, I3, w3⟩
    | brk => exact q3
    | ret v => exact q3
  | false =>
    rw [if_neg Bool.false_ne_true]
    exact wpAny_execs_nil ⟨σ1, H2, I2, q2⟩
end

/-! ### what a loop or a comprehension walks -/
/-- at turn i: it yields x (the heap may grow), or it stops -/
structure It where
  go : Nat → Hp → Prop
  yld : Nat → Hp → V → Hp → Prop
  stop : Nat → Hp → Prop
/-- the iterator's own objects may turn: they are not the frame's, not pinned, younger than the entry (or a comprehension's own) -/
def FpOk (X : Cx) (pins : List (Addr × Obj)) (H : Hp) (b : Addr) : Prop :=
  H b = none ∧ b ≠ X.env.locals ∧ b ∉ X.fs ∧ (b ∈ X.ex ∨ X.s₀.heap.objs.size ≤ b) ∧ (∀ x c, X.env.cells.lookup x = some c → c ≠ b) ∧ ∀ p ∈ X.pn ++ pins, p.1 ≠ b
theorem Inv.fpOk {X : Cx} {pins : List (Addr × Obj)} {σ : St} {H H' : Hp} {s : Shared} {b : Addr} (I : Inv X pins σ H s) (hb : s.heap.objs.size ≤ b) (hn : H' b = none) : FpOk X pins H' b := by
  refine ⟨hn, Nat.ne_of_gt (Nat.lt_of_lt_of_le I.lt hb), I.nofs hb, .inr (Nat.le_trans I.sz hb), fun x c e z => ?_, fun p hp z => ?_⟩
  · obtain ⟨v, q⟩ := I.cell x c e
    exact absurd (Nat.lt_of_lt_of_le q.lt (by rw [z]; exact hb)) (Nat.lt_irrefl _)
  · exact absurd (Nat.lt_of_lt_of_le (Heap.lt_size (I.pin p hp).1) (by rw [z]; exact hb)) (Nat.lt_irrefl _)
structure Turn (P : Program) (w : World) (K : PySem.W.Frag) (tg : Expr) (J : It) (fp : List Addr) (it : Addr) (tn : Nat → Heap → Prop) : Prop where
  mem : it ∈ fp
  obj : ∀ i h, tn i h → ∀ b ∈ fp, ∃ o, h.get? b = some o ∧ ∀ v, o.data ≠ .cell v
  keep : ∀ i h h', tn i h → (∀ b ∈ fp, ∀ o, h.get? b = some o → h'.get? b = some o) → tn i h'
  item : ∀ (X : Cx), X.prog = P → X.w = w → X.K = K → X.calm = true → ∀ (i : Nat) (pins : List (Addr × Obj)) (s : Shared) (σ : St) (H : Hp) (E : Value → Shared → Prop), Inv X pins σ H s → (∀ b ∈ fp, FpOk X pins H b) → tn i s.heap → J.go i H →
    wpAny (model P w) X.A (pyNext (.ref it)) (fun r s1 => ∃ u, r = some u ∧
      wpAny (model P w) X.A (letOwnedTupleGo tg (.ref it) u) (fun _ s2 => ∃ x H', Inv X pins σ H' s2 ∧ RelV x u ∧ J.yld i H x H' ∧ tn (i + 1) s2.heap ∧ ∀ b ∈ fp, H' b = none) E s1) E s
  done : ∀ (X : Cx), X.prog = P → X.w = w → X.K = K → X.calm = true → ∀ (i : Nat) (pins : List (Addr × Obj)) (s : Shared) (σ : St) (H : Hp) (E : Value → Shared → Prop), Inv X pins σ H s → (∀ b ∈ fp, FpOk X pins H b) → tn i s.heap → J.stop i H →
    wpAny (model P w) X.A (pyNext (.ref it)) (fun r s1 => r = none ∧ Inv X pins σ H s1) E s
  self : ∀ (A : Around) (i : Nat) (s : Shared) (Q : Value → Shared → Prop) (E : Value → Shared → Prop), tn i s.heap → Q (.ref it) s → wpAny (model P w) A (pyIter (.ref it)) Q E s
abbrev TI := St → Hp → (It → Hp → Prop) → Prop
/-- an iterator has come -/
def PIE (X : Cx) (pins : List (Addr × Obj)) (σ : St) (tg : Expr) (R : It → Hp → Prop) (itv : Value) (s2 : Shared) : Prop :=
  ∃ (it : Addr) (fp : List Addr) (tn : Nat → Heap → Prop) (J : It) (H' : Hp), itv = .ref it ∧ Inv X pins σ H' s2 ∧ Turn X.prog X.w X.K tg J fp it tn ∧ tn 0 s2.heap ∧ (∀ b ∈ fp, FpOk X pins H' b) ∧ R J H'
def PI (X : Cx) (tg iter : Expr) (wi : TI) : Prop :=
  ∀ (pins : List (Addr × Obj)) (s : Shared) (σ : St) (H : Hp) (R : It → Hp → Prop), Inv X pins σ H s → wi σ H R →
    wpAny (model X.prog X.w) X.A (eval iter X.env) (fun v s1 => wpAny (model X.prog X.w) X.A (pyIter v) (PIE X pins σ tg R) X.xe s1) X.xe s

/-- the step ahead of the store is nothing for an iterator that keeps no tuple -/
theorem go_of {M : Model} {A : Around} {E : Value → Shared → Prop} {s : Shared} {tg : Expr} {it : Addr} {u : Value} {o : Obj} {n : String} {vs : Array Value} {Q : Unit → Shared → Prop} (ho : s.heap.get? it = some o) (hc : o.cls = .type n) (hd : o.data = .fields vs)
    (hn : ["enumerate", "zip", "dict_itemiterator", "dict_reverseitemiterator", "odict_iterator", "itertools.zip_longest", "itertools.pairwise"].contains n = false) (hQ : Q () s) : wpAny M A (letOwnedTupleGo tg (.ref it) u) Q E s := by
  unfold letOwnedTupleGo
  cases tg <;> first
    | exact wpAny_pure hQ
    | (cases u <;> first
        | exact wpAny_pure hQ
        | (refine wpAny_bind (wpAny_load ho ?_)
           rw [hc, hd]
           show wpAny M A (if (["enumerate", "zip", "dict_itemiterator", "dict_reverseitemiterator", "odict_iterator", "itertools.zip_longest", "itertools.pairwise"].contains n && vs[0]? == some (rawInt _)) = true then _ else _) Q E s
           rw [if_neg (by intro h; rw [hn, Bool.false_and] at h; cases h)]
           exact wpAny_pure hQ))

/-- the list at a, as it stands at each turn (a loop may append to it) -/
def Itl (K : PySem.W.Frag) (a : Addr) : It :=
  ⟨fun i H => ∃ xs x, SqL K H a xs ∧ xs[i]? = some x, fun i H x H' => H' = H ∧ ∀ xs, SqL K H a xs → xs[i]? = some x, fun i H => ∃ xs, SqL K H a xs ∧ xs.length ≤ i⟩
def Itt (K : PySem.W.Frag) (a : Addr) : It :=
  ⟨fun i H => ∃ xs x, SqT K H a xs ∧ xs[i]? = some x, fun i H x H' => H' = H ∧ ∀ xs, SqT K H a xs → xs[i]? = some x, fun i H => ∃ xs, SqT K H a xs ∧ xs.length ≤ i⟩
/-- lo, lo + 1, .. (n of them) -/
def Itr (lo : Int) (n : Nat) : It := ⟨fun i _ => i < n, fun i H x H' => H' = H ∧ x = .int (lo + i), fun i _ => n ≤ i⟩
theorem turn_list {P : Program} {w : World} {K : PySem.W.Frag} {tg : Expr} (a it : Addr) : Turn P w K tg (Itl K a) [it] it (fun i h => h.IsListIter it a i) where
  mem := by simp
  obj := fun i h st b hb => by
    have e : b = it := by simpa using hb
    subst e
    obtain ⟨o, e, c, d⟩ := st
    exact ⟨o, e, fun v z => by rw [d] at z; cases z⟩
  keep := fun i h h' st k => st.at fun o e => k it (by simp) o e
  item := by
    intro X hP hw hK hc i pins s σ H E I hf st hg
    subst hP hw hK
    obtain ⟨xs, x, hq, hx⟩ := hg
    obtain ⟨its, rv, p, hz⟩ := I.list hq
    obtain ⟨u, hu, ru⟩ := rv.get hx
    obtain ⟨f0, f1, f2, f3, f4, f5⟩ := hf it (by simp)
    refine wpAny_pyNext_list_item st p.isList (x := u) (by simpa using hu) fun h' st' sb => ?_
    have I1 : Inv X pins σ H { s with heap := h' } := I.turned (t' := s.toks) (fun b o hb e => (sb.2 b hb).trans e) f0 f1 f3 f4 f5
    obtain ⟨o, e, c, d⟩ := id st'
    exact ⟨u, rfl, go_of (s := { s with heap := h' }) e c d (by decide) ⟨x, H, I1, ru, ⟨rfl, fun ys hy => by rw [I.list_inj hy hq]; exact hx⟩, st', fun b hb => (hf b hb).1⟩⟩
  done := by
    intro X hP hw hK hc i pins s σ H E I hf st hg
    subst hP hw hK
    obtain ⟨xs, hq, hx⟩ := hg
    obtain ⟨its, rv, p, hz⟩ := I.list hq
    obtain ⟨f0, f1, f2, f3, f4, f5⟩ := hf it (by simp)
    have hl := rv.length
    exact wpAny_pyNext_list_end (I.ok.hd hc) st p.isList (by simp; omega) fun h' eb => ⟨rfl, I.turned (t' := s.toks) (fun b o hb e => eb b o hb e) f0 f1 f3 f4 f5⟩
  self := fun _ _ _ _ _ st h => wpAny_pyIter_listiter st h
theorem turn_tuple {P : Program} {w : World} {K : PySem.W.Frag} {tg : Expr} (a it : Addr) : Turn P w K tg (Itt K a) [it] it (fun i h => h.IsTupleIter it a i) where
  mem := by simp
  obj := fun i h st b hb => by
    have e : b = it := by simpa using hb
    subst e
    obtain ⟨o, e, c, d⟩ := st
    exact ⟨o, e, fun v z => by rw [d] at z; cases z⟩
  keep := fun i h h' st k => st.at fun o e => k it (by simp) o e
  item := by
    intro X hP hw hK hc i pins s σ H E I hf st hg
    subst hP hw hK
    obtain ⟨xs, x, hq, hx⟩ := hg
    obtain ⟨its, rv, p, hz⟩ := I.tuple hq
    obtain ⟨u, hu, ru⟩ := rv.get hx
    obtain ⟨f0, f1, f2, f3, f4, f5⟩ := hf it (by simp)
    refine wpAny_pyNext_tuple_item st (show s.heap.IsTuple a its.toArray from p) (x := u) (by simpa using hu) fun h' st' sb => ?_
    have I1 : Inv X pins σ H { s with heap := h' } := I.turned (t' := s.toks) (fun b o hb e => (sb.2 b hb).trans e) f0 f1 f3 f4 f5
    obtain ⟨o, e, c, d⟩ := id st'
    exact ⟨u, rfl, go_of (s := { s with heap := h' }) e c d (by decide) ⟨x, H, I1, ru, ⟨rfl, fun ys hy => by rw [I.tuple_inj hy hq]; exact hx⟩, st', fun b hb => (hf b hb).1⟩⟩
  done := by
    intro X hP hw hK hc i pins s σ H E I hf st hg
    subst hP hw hK
    obtain ⟨xs, hq, hx⟩ := hg
    obtain ⟨its, rv, p, hz⟩ := I.tuple hq
    obtain ⟨f0, f1, f2, f3, f4, f5⟩ := hf it (by simp)
    have hl := rv.length
    exact wpAny_pyNext_tuple_end (I.ok.hd hc) st (show s.heap.IsTuple a its.toArray from p) (by simp; omega) fun h' eb => ⟨rfl, I.turned (t' := s.toks) (fun b o hb e => eb b o hb e) f0 f1 f3 f4 f5⟩
  self := fun _ _ _ _ _ st h => wpAny_pyIter_tupleiter st h
theorem turn_range {P : Program} {w : World} {K : PySem.W.Frag} {tg : Expr} (it : Addr) (lo : Int) (n : Nat) : Turn P w K tg (Itr lo n) [it] it (fun i h => IsRangeIter h it (lo + (i : Nat) * 1) ((n : Int) - (i : Nat)) 1) where
  mem := by simp
  obj := fun i h st b hb => by
    have e : b = it := by simpa using hb
    subst e
    exact ⟨_, st, fun v z => by
      have z' : Data.fields _ = Data.cell v := z
      cases z'⟩
  keep := fun i h h' st k => k it (by simp) _ st
  item := by
    intro X hP hw hK hc i pins s σ H E I hf st hg
    subst hP hw hK
    obtain ⟨f0, f1, f2, f3, f4, f5⟩ := hf it (by simp)
    have W := Walks.range (prog := X.prog) (w := X.w) (I.ok.hd hc) it lo 1 n
    refine W.item i s _ _ hg st fun v h' tk hv st' kk => ?_
    obtain ⟨t, rfl⟩ := hv
    have I1 : Inv X pins σ H { s with heap := h', toks := tk } := I.turned (fun b o hb e => kk b o (by simpa using hb) e) f0 f1 f3 f4 f5
    refine ⟨_, rfl, go_of (s := { s with heap := h', toks := tk }) (n := "range_iterator") st' rfl rfl (by decide) ⟨.int (lo + i), H, I1, ⟨t, ?_⟩, ⟨rfl, rfl⟩, st', fun b hb => (hf b hb).1⟩⟩
    rw [Int.mul_one]
  done := by
    intro X hP hw hK hc i pins s σ H E I hf st hg
    subst hP hw hK
    obtain ⟨f0, f1, f2, f3, f4, f5⟩ := hf it (by simp)
    exact wpAny_pyNext_range_end (I.ok.hd hc) st (by have : n ≤ i := hg; omega) fun h' eb => ⟨rfl, I.turned (t' := s.toks) (fun b o hb e => eb b o hb e) f0 f1 f3 f4 f5⟩
  self := fun _ _ _ _ _ st h => wpAny_pyIter_rangeiter st h
end L2

namespace L2
open PySem PySem.Spec PyProof.Rows
section
variable {X : Cx} {tg : Expr}
def iList (K : PySem.W.Frag) (tl : TE) : TI := fun σ H R => tl σ H fun x H1 => ∃ a, x = .ref a ∧ (∃ xs, SqL K H1 a xs) ∧ R (Itl K a) H1
def iTup (K : PySem.W.Frag) (tl : TE) : TI := fun σ H R => tl σ H fun x H1 => ∃ a, x = .ref a ∧ (∃ xs, SqT K H1 a xs) ∧ R (Itt K a) H1
theorem pi_list {l : Expr} {tl : TE} (hl : PE X l tl) : PI X tg l (iList X.K tl) := by
  intro pins s σ H R I h
  refine thn (hl pins s σ H _ I h) fun v s1 ⟨x, H1, I1, r1, q1⟩ => ?_
  obtain ⟨a, e, ⟨xs, hq⟩, q⟩ := q1
  subst e
  cases r1
  obtain ⟨its, rv, p, hz⟩ := I1.list hq
  refine wpAny_pyIter_list p.isList ?_
  refine ⟨s1.heap.objs.size, [s1.heap.objs.size], _, _, H1, rfl, I1.kept (t' := s1.toks) fun b o e => Heap.get?_push_of_some _ e, turn_list a _, ⟨_, Heap.get?_push_size _ rfl, rfl, rfl⟩, fun b hb => ?_, q⟩
  have e : b = s1.heap.objs.size := by simpa using hb
  subst e
  exact I1.fpOk (Nat.le_refl _) (I1.hok.fresh (Nat.le_refl _))
theorem pi_tup {l : Expr} {tl : TE} (hl : PE X l tl) : PI X tg l (iTup X.K tl) := by
  intro pins s σ H R I h
  refine thn (hl pins s σ H _ I h) fun v s1 ⟨x, H1, I1, r1, q1⟩ => ?_
  obtain ⟨a, e, ⟨xs, hq⟩, q⟩ := q1
  subst e
  cases r1
  obtain ⟨its, rv, p, hz⟩ := I1.tuple hq
  refine wpAny_pyIter_tuple (show s1.heap.IsTuple a its.toArray from p) ?_
  refine ⟨s1.heap.objs.size, [s1.heap.objs.size], _, _, H1, rfl, I1.kept (t' := s1.toks) fun b o e => Heap.get?_push_of_some _ e, turn_tuple a _, ⟨_, Heap.get?_push_size _ rfl, rfl, rfl⟩, fun b hb => ?_, q⟩
  have e : b = s1.heap.objs.size := by simpa using hb
  subst e
  exact I1.fpOk (Nat.le_refl _) (I1.hok.fresh (Nat.le_refl _))
/-- a range object just made, walked -/
theorem range_it {pins : List (Addr × Obj)} {σ : St} {H : Hp} {s : Shared} {R : It → Hp → Prop} {E : Value → Shared → Prop} {lo hi : Int} {t u v : Tok} {tk : Nat} (I : Inv X pins σ H s) (h1 : -(2 ^ 62) ≤ lo) (h2 : lo < 2 ^ 62) (h3 : -(2 ^ 62) ≤ hi) (h4 : hi < 2 ^ 62)
    (q : R (Itr lo (hi - lo).toNat) H) : wpAny (model X.prog X.w) X.A (pyIter (.ref s.heap.objs.size)) (PIE X pins σ tg R) E { s with heap := s.heap.push { cls := .type "range", data := .fields #[.int lo t, .int hi u, .int 1 v] }, toks := tk } := by
  refine wpAny_pyIter_range (IsRange.new ..) (small_one h1 h2 h3 h4) ?_
  have I1 : Inv X pins σ H { s with heap := s.heap.push { cls := .type "range", data := .fields #[.int lo t, .int hi u, .int 1 v] }, toks := tk } := I.kept fun b o e => Heap.get?_push_of_some _ e
  refine ⟨(s.heap.push { cls := .type "range", data := .fields #[.int lo t, .int hi u, .int 1 v] }).objs.size, [(s.heap.push { cls := .type "range", data := .fields #[.int lo t, .int hi u, .int 1 v] }).objs.size], _, _, H, rfl,
    I1.kept (t' := tk) fun b o e => Heap.get?_push_of_some _ e, turn_range _ lo (hi - lo).toNat, ?_, fun b hb => ?_, q⟩
  · have e1 : lo + ((0 : Nat) : Int) * 1 = lo := by simp
    have e2 : (((hi - lo).toNat : Nat) : Int) - ((0 : Nat) : Int) = Builtin.Range.rangeSize lo hi 1 := by rw [rangeSize_one]; split <;> omega
    show IsRangeIter _ _ (lo + ((0 : Nat) : Int) * 1) ((((hi - lo).toNat : Nat) : Int) - ((0 : Nat) : Int)) 1
    rw [e1, e2]
    exact Heap.get?_push_size _ rfl
  · have e : b = (s.heap.push { cls := .type "range", data := .fields #[.int lo t, .int hi u, .int 1 v] }).objs.size := by simpa using hb
    subst e
    exact I1.fpOk (Nat.le_refl _) (I1.hok.fresh (Nat.le_refl _))
def iRng1 (ta : TA) : TI := fun σ H R => ta σ H fun vs H1 => ∃ j : Int, vs = [.int j] ∧ -(2 ^ 62) ≤ j ∧ j < 2 ^ 62 ∧ R (Itr 0 j.toNat) H1
def iRng2 (ta : TA) : TI := fun σ H R => ta σ H fun vs H1 => ∃ i j : Int, vs = [.int i, .int j] ∧ (-(2 ^ 62) ≤ i ∧ i < 2 ^ 62 ∧ -(2 ^ 62) ≤ j ∧ j < 2 ^ 62) ∧ R (Itr i (j - i).toNat) H1
theorem pi_range1 {a : Expr} {ta : TA} {p pos : Pos} (hg : Gl X "range") (hm : X.mg "range" = none) (ha : PA X [a] ta) (hs : starEach [a] X.env = [(false, eval a X.env)] := by rfl) : PI X tg (.Call (.Name "range" p) [a] [] pos) (iRng1 ta) := by
  intro pins s σ H R I h
  refine Call_ (ld_blt I hg hm boot_range (PyProof.Rows.callWith_type1 (thn (ha pos pins s σ H _ I h) fun us s1 ⟨vs, H1, I1, r1, q1⟩ => ?_) hs rfl))
  obtain ⟨j, e, q1, q2, q⟩ := q1
  subst e
  cases r1 with
  | cons r rr =>
    cases rr
    obtain ⟨t, rfl⟩ := r
    exact call_range_1 (range_it I1 (by omega) (by omega) q1 q2 (by simpa using q))
theorem pi_range2 {a b : Expr} {ta : TA} {p pos : Pos} (hg : Gl X "range") (hm : X.mg "range" = none) (ha : PA X [a, b] ta) (hs : starEach [a, b] X.env = [(false, eval a X.env), (false, eval b X.env)] := by rfl) (hs2 : starEach [b] X.env = [(false, eval b X.env)] := by rfl) :
    PI X tg (.Call (.Name "range" p) [a, b] [] pos) (iRng2 ta) := by
  intro pins s σ H R I h
  refine Call_ (ld_blt I hg hm boot_range (PyProof.Rows.callWith_type1 (thn (ha pos pins s σ H _ I h) fun us s1 ⟨vs, H1, I1, r1, q1⟩ => ?_) (by rw [hs, hs2]) (by rw [hs2]; rfl)))
  obtain ⟨i, j, e, ⟨q1, q2, q3, q4⟩, q⟩ := q1
  subst e
  cases r1 with
  | cons r rr =>
    cases rr with
    | cons r' rr =>
      cases rr
      obtain ⟨t, rfl⟩ := r
      obtain ⟨t', rfl⟩ := r'
      exact call_range_2 (range_it I1 q1 q2 q3 q4 q)

/-! ### for -/
/-- W: the invariant by the turn and a measure; N: what the body is to reach -/
def tFor (wi : TI) (g : TG) (tb : TS) : TS := fun D σ H => wi σ H fun J H1 => ∃ W : Nat → Nat → St → Hp → Prop, (∃ m, W 0 m σ H1) ∧ ∀ i m σ H, W i m σ H →
  (J.stop i H ∧ D.nx σ H) ∨ (J.go i H ∧ ∃ N : St → Hp → Prop, (∀ σ' H', N σ' H' → ∃ m', m' < m ∧ W (i + 1) m' σ' H') ∧ ∀ x H', J.yld i H x H' → g x σ H' fun σ2 H2 => tb { D with nx := N, ct := N, bk := D.nx } σ2 H2)
/-- the records at fp as they stand -/
def pinsAt (fp : List Addr) (h : Heap) : List (Addr × Obj) := fp.filterMap fun b => (h.get? b).map fun o => (b, o)
theorem mem_pinsAt {fp : List Addr} {h : Heap} {b : Addr} {o : Obj} (hb : b ∈ fp) (e : h.get? b = some o) : (b, o) ∈ pinsAt fp h := List.mem_filterMap.mpr ⟨b, hb, by rw [e]; rfl⟩
theorem of_pinsAt {fp : List Addr} {h : Heap} {p : Addr × Obj} (hp : p ∈ pinsAt fp h) : p.1 ∈ fp ∧ h.get? p.1 = some p.2 := by
  obtain ⟨b, hb, e⟩ := List.mem_filterMap.mp hp
  cases q : h.get? b with
  | none => rw [q] at e; cases e
  | some o =>
    rw [q] at e
    have e' : (b, o) = p := Option.some.inj e
    subst e'
    exact ⟨hb, q⟩
theorem Inv.pinned {pins : List (Addr × Obj)} {σ : St} {H : Hp} {s : Shared} {fp : List Addr} (I : Inv X pins σ H s) (hf : ∀ b ∈ fp, FpOk X pins H b) (ho : ∀ b ∈ fp, ∃ o, s.heap.get? b = some o ∧ ∀ v, o.data ≠ .cell v) : Inv X (pins ++ pinsAt fp s.heap) σ H s :=
  I.pins_of fun p hp => (List.mem_append.mp hp).elim (fun z => I.pin p (List.mem_append_right _ z)) fun z => by
    obtain ⟨hb, e⟩ := of_pinsAt z
    obtain ⟨f0, f1, f2, _⟩ := hf p.1 hb
    obtain ⟨o, e', d⟩ := ho p.1 hb
    rw [e] at e'; cases e'
    exact ⟨e, f0, f1, f2, d⟩
theorem Inv.unpinned {pins pl : List (Addr × Obj)} {σ : St} {H : Hp} {s : Shared} (I : Inv X (pins ++ pl) σ H s) : Inv X pins σ H s := I.pins_of fun p hp => I.pin p (List.mem_append_right _ (List.mem_append_left _ hp))
theorem ps_for {iter : Expr} {body : List Stmt} {wi : TI} {g : TG} {tb : TS} {pos : Pos} (hp : PassesOwn (model X.prog X.w) X.A X.env X.xe) (hc : X.calm = true) (hi : PI X tg iter wi) (hg : PG X tg g) (hb : PSs X body tb)
    (hs : ∀ x, foldedSetIterable iter X.env x = pure x := by intro _; rfl) : PS X (.For tg iter body [] pos) (tFor wi g tb) := by
  intro pins s σ H D I h
  refine wpAny_For (thn (hi pins s σ H _ I h) fun v s1 h1 => thn h1 fun itv s2 h2 => ?_) hs
  obtain ⟨it, fp, tn, J, H2, e, I2, T, st2, f2, W, ⟨m0, w0⟩, turn⟩ := h2
  subst e
  -- what stays true of the iterator's objects through the loop
  have stat : ∀ {H' : Hp}, (∀ b ∈ fp, H' b = none) → ∀ b ∈ fp, FpOk X pins H' b := fun hn b hb => ⟨hn b hb, (f2 b hb).2⟩
  refine codeAny_forLoop_any (fun n s' => ∃ i σ' H', Inv X pins σ' H' s' ∧ tn i s'.heap ∧ (∀ b ∈ fp, H' b = none) ∧ W i n σ' H') ?_ m0 ⟨0, σ, H2, I2, st2, fun b hb => (f2 b hb).1, w0⟩
  rintro n s3 ⟨i, σ3, H3, I3, st3, fr3, w3⟩
  rcases turn i n σ3 H3 w3 with ⟨stop, qn⟩ | ⟨go, N, hN, step⟩
  · refine wpAny_passesOwn hp (thn (T.done X rfl rfl rfl hc i pins s3 σ3 H3 X.xe I3 (stat fr3) st3 stop) fun r s4 ⟨hr, I4⟩ => ?_)
    subst hr
    exact wpAny_execs_nil ⟨σ3, H3, I4, qn⟩
  · refine wpAny_passesOwn hp (thn (T.item X rfl rfl rfl hc i pins s3 σ3 H3 X.xe I3 (stat fr3) st3 go) fun r s4 ⟨u, hr, h4⟩ => ?_)
    subst hr
    refine wpAny_passesOwn hp (thn h4 fun _ s5 ⟨x, H5, I5, r5, y5, st5, fr5⟩ => ?_)
    have I5' := I5.pinned (stat fr5) (T.obj _ _ st5)
    refine wpAny_passesOwn hp (thn (hg _ s5 σ3 H5 x u _ I5' r5 (step x H5 y5)) fun _ s6 ⟨σ6, H6, I6, q6⟩ => ?_)
    refine wpAny_passesOwn hp (thn (hb _ s6 σ6 H6 _ I6 q6) fun f s7 q7 => ?_)
    have again : ∀ {σ7 : St} {H7 : Hp}, Inv X (pins ++ pinsAt fp s5.heap) σ7 H7 s7 → N σ7 H7 → ∃ m, m < n ∧ ∃ i σ' H', Inv X pins σ' H' s7 ∧ tn i s7.heap ∧ (∀ b ∈ fp, H' b = none) ∧ W i m σ' H' := fun {σ7 H7} I7 n7 => by
      obtain ⟨m', hm, w7⟩ := hN σ7 H7 n7
      refine ⟨m', hm, i + 1, σ7, H7, I7.unpinned, T.keep _ _ _ st5 fun b hb o e => (I7.pin (b, o) (List.mem_append_right _ (List.mem_append_right _ (mem_pinsAt hb e)))).1, fun b hb => ?_, w7⟩
      obtain ⟨o, e, d⟩ := T.obj _ _ st5 b hb
      exact (I7.pin (b, o) (List.mem_append_right _ (List.mem_append_right _ (mem_pinsAt hb e)))).2.1
    cases f with
    | next => obtain ⟨σ7, H7, I7, n7⟩ := q7; exact again I7 n7
    | cont => obtain ⟨σ7, H7, I7, n7⟩ := q7; exact again I7 n7
    | brk => obtain ⟨σ7, H7, I7, q7⟩ := q7; exact ⟨σ7, H7, I7.unpinned, q7⟩
    | ret v => obtain ⟨x7, σ7, H7, I7, r7, q7⟩ := q7; exact ⟨x7, σ7, H7, I7.unpinned, r7, q7⟩
end

/-! ### the forms one uses -/
/-- over a list that the body leaves as it is -/
theorem for_list {K : PySem.W.Frag} {a : Addr} {xs : List V} {g : TG} {tb : TS} {D : Ends} {σ : St} {H : Hp} (Pv : Nat → St → Hp → Prop) (h0 : Pv 0 σ H) (hl : ∀ i σ H, i ≤ xs.length → Pv i σ H → SqL K H a xs)
    (hs : ∀ i x σ H, xs[i]? = some x → Pv i σ H → g x σ H fun σ2 H2 => tb { D with nx := Pv (i + 1), ct := Pv (i + 1), bk := D.nx } σ2 H2) (hd : ∀ σ H, Pv xs.length σ H → D.nx σ H) :
    ∃ W : Nat → Nat → St → Hp → Prop, (∃ m, W 0 m σ H) ∧ ∀ i m σ H, W i m σ H →
      ((Itl K a).stop i H ∧ D.nx σ H) ∨ ((Itl K a).go i H ∧ ∃ N : St → Hp → Prop, (∀ σ' H', N σ' H' → ∃ m', m' < m ∧ W (i + 1) m' σ' H') ∧ ∀ x H', (Itl K a).yld i H x H' → g x σ H' fun σ2 H2 => tb { D with nx := N, ct := N, bk := D.nx } σ2 H2) := by
  refine ⟨fun i m σ H => m = xs.length - i ∧ i ≤ xs.length ∧ Pv i σ H, ⟨xs.length, by simp, Nat.zero_le _, h0⟩, ?_⟩
  rintro i m σ H ⟨rfl, hi, p⟩
  have q := hl i σ H hi p
  by_cases hlt : i < xs.length
  · refine .inr ⟨⟨xs, xs[i], q, by simp [hlt]⟩, Pv (i + 1), fun σ' H' p' => ⟨xs.length - (i + 1), by omega, rfl, hlt, p'⟩, fun x H' y => ?_⟩
    obtain ⟨e, y⟩ := y
    subst e
    exact hs i x σ _ (y xs q) p
  · have e : i = xs.length := by omega
    subst e
    exact .inl ⟨⟨xs, q, Nat.le_refl _⟩, hd σ H p⟩
theorem for_tup {K : PySem.W.Frag} {a : Addr} {xs : List V} {g : TG} {tb : TS} {D : Ends} {σ : St} {H : Hp} (Pv : Nat → St → Hp → Prop) (h0 : Pv 0 σ H) (hl : ∀ i σ H, i ≤ xs.length → Pv i σ H → SqT K H a xs)
    (hs : ∀ i x σ H, xs[i]? = some x → Pv i σ H → g x σ H fun σ2 H2 => tb { D with nx := Pv (i + 1), ct := Pv (i + 1), bk := D.nx } σ2 H2) (hd : ∀ σ H, Pv xs.length σ H → D.nx σ H) :
    ∃ W : Nat → Nat → St → Hp → Prop, (∃ m, W 0 m σ H) ∧ ∀ i m σ H, W i m σ H →
      ((Itt K a).stop i H ∧ D.nx σ H) ∨ ((Itt K a).go i H ∧ ∃ N : St → Hp → Prop, (∀ σ' H', N σ' H' → ∃ m', m' < m ∧ W (i + 1) m' σ' H') ∧ ∀ x H', (Itt K a).yld i H x H' → g x σ H' fun σ2 H2 => tb { D with nx := N, ct := N, bk := D.nx } σ2 H2) := by
  refine ⟨fun i m σ H => m = xs.length - i ∧ i ≤ xs.length ∧ Pv i σ H, ⟨xs.length, by simp, Nat.zero_le _, h0⟩, ?_⟩
  rintro i m σ H ⟨rfl, hi, p⟩
  have q := hl i σ H hi p
  by_cases hlt : i < xs.length
  · refine .inr ⟨⟨xs, xs[i], q, by simp [hlt]⟩, Pv (i + 1), fun σ' H' p' => ⟨xs.length - (i + 1), by omega, rfl, hlt, p'⟩, fun x H' y => ?_⟩
    obtain ⟨e, y⟩ := y
    subst e
    exact hs i x σ _ (y xs q) p
  · have e : i = xs.length := by omega
    subst e
    exact .inl ⟨⟨xs, q, Nat.le_refl _⟩, hd σ H p⟩
theorem for_range {lo : Int} {n : Nat} {g : TG} {tb : TS} {D : Ends} {σ : St} {H : Hp} (Pv : Nat → St → Hp → Prop) (h0 : Pv 0 σ H)
    (hs : ∀ i σ H, i < n → Pv i σ H → g (.int (lo + i)) σ H fun σ2 H2 => tb { D with nx := Pv (i + 1), ct := Pv (i + 1), bk := D.nx } σ2 H2) (hd : ∀ σ H, Pv n σ H → D.nx σ H) :
    ∃ W : Nat → Nat → St → Hp → Prop, (∃ m, W 0 m σ H) ∧ ∀ i m σ H, W i m σ H →
      ((Itr lo n).stop i H ∧ D.nx σ H) ∨ ((Itr lo n).go i H ∧ ∃ N : St → Hp → Prop, (∀ σ' H', N σ' H' → ∃ m', m' < m ∧ W (i + 1) m' σ' H') ∧ ∀ x H', (Itr lo n).yld i H x H' → g x σ H' fun σ2 H2 => tb { D with nx := N, ct := N, bk := D.nx } σ2 H2) := by
  refine ⟨fun i m σ H => m = n - i ∧ i ≤ n ∧ Pv i σ H, ⟨n, by simp, Nat.zero_le _, h0⟩, ?_⟩
  rintro i m σ H ⟨rfl, hi, p⟩
  by_cases hlt : i < n
  · refine .inr ⟨hlt, Pv (i + 1), fun σ' H' p' => ⟨n - (i + 1), by omega, rfl, hlt, p'⟩, fun x H' y => ?_⟩
    obtain ⟨e, y⟩ := y
    subst e y
    exact hs i σ _ hlt p
  · have e : i = n := by omega
    subst e
    exact .inl ⟨Nat.le_refl _, hd σ H p⟩
/-- while, by a word and a measure of the state -/
theorem while_by {c : TT} {tb : TS} {D : Ends} {σ : St} {H : Hp} (Pv : St → Hp → Prop) (μ : St → Hp → Nat) (h0 : Pv σ H)
    (hs : ∀ σ H, Pv σ H → c σ H fun b H1 => if b = true then tb { D with nx := fun σ' H' => Pv σ' H' ∧ μ σ' H' < μ σ H, ct := fun σ' H' => Pv σ' H' ∧ μ σ' H' < μ σ H, bk := D.nx } σ H1 else D.nx σ H1)
    (mono : ∀ σ H Q Q', (∀ b H1, Q b H1 → Q' b H1) → c σ H Q → c σ H Q') : tWhile c tb D σ H := by
  refine ⟨fun m σ H => m = μ σ H ∧ Pv σ H, ⟨_, rfl, h0⟩, ?_⟩
  rintro m σ H ⟨rfl, p⟩
  refine mono σ H _ _ (fun b H1 q => ?_) (hs σ H p)
  cases b with
  | true => exact ⟨_, fun σ' H' ⟨p', l⟩ => ⟨_, l, rfl, p'⟩, q⟩
  | false => exact q
end L2

namespace L2
open PySem PySem.Spec PyProof.Rows

abbrev R2 := V → V → Hp → VK → Prop
/-- a two-place operation on values: f is binaryOp op, inplaceOp op or compareOp op -/
def OpR (X : Cx) (f : Value → Value → Sem Value) (r : R2) : Prop :=
  ∀ (pins : List (Addr × Obj)) (s : Shared) (σ : St) (H : Hp) (x y : V) (v u : Value) (Q : VK), Inv X pins σ H s → RelV x v → RelV y u → r x y H Q →
    wpAny (model X.prog X.w) X.A (f v u) (EP X pins σ Q) X.xe s
/-- a one-place operation -/
def UnR (X : Cx) (f : Value → Sem Value) (r : V → Hp → VK → Prop) : Prop :=
  ∀ (pins : List (Addr × Obj)) (s : Shared) (σ : St) (H : Hp) (x : V) (v : Value) (Q : VK), Inv X pins σ H s → RelV x v → r x H Q →
    wpAny (model X.prog X.w) X.A (f v) (EP X pins σ Q) X.xe s
/-- a call of a value that is known (a builtin, a type) with values -/
def CallR (X : Cx) (f : Value) (r : List V → Hp → VK → Prop) : Prop :=
  ∀ (pins : List (Addr × Obj)) (s : Shared) (σ : St) (H : Hp) (xs : List V) (us : List Value) (Q : VK), Inv X pins σ H s → Vals xs us → r xs H Q →
    wpAny (model X.prog X.w) X.A (call f us) (EP X pins σ Q) X.xe s
/-- a value's truth -/
def TruR (X : Cx) (r : V → Hp → (Bool → Hp → Prop) → Prop) : Prop :=
  ∀ (pins : List (Addr × Obj)) (s : Shared) (σ : St) (H : Hp) (x : V) (v : Value) (Q : Bool → Hp → Prop), Inv X pins σ H s → RelV x v → r x H Q →
    wpAny (model X.prog X.w) X.A (truthy v) (TP X pins σ Q) X.xe s

def tOp (r : R2) (ta tb : TE) : TE := fun σ H Q => ta σ H fun x H1 => tb σ H1 fun y H2 => r x y H2 Q
def tUn (r : V → Hp → VK → Prop) (ta : TE) : TE := fun σ H Q => ta σ H fun x H1 => r x H1 Q
/-- ints in, under C, and a value out -/
def rI (C : Int → Int → Prop) (g : Int → Int → V) : R2 := fun x y H Q => ∃ i j, x = .int i ∧ y = .int j ∧ C i j ∧ Q (g i j) H
def rI0 (g : Int → Int → V) : R2 := fun x y H Q => ∃ i j, x = .int i ∧ y = .int j ∧ Q (g i j) H
def rU (g : Int → V) : V → Hp → VK → Prop := fun x H Q => ∃ i, x = .int i ∧ Q (g i) H

section
variable {X : Cx} {a b c : Expr} {ta tb tc : TE} {pos : Pos}

theorem binT (ha : PE X a ta) (hb : PE X b tb) {pins : List (Addr × Obj)} {s : Shared} {σ : St} {H : Hp} {R : V → V → Hp → Prop} (I : Inv X pins σ H s)
    (h : ta σ H fun x H1 => tb σ H1 fun y H2 => R x y H2) {Q : Value → Shared → Prop} {f : Value → Value → Sem Value}
    (hf : ∀ v u s2 x y H2, Inv X pins σ H2 s2 → RelV x v → RelV y u → R x y H2 → wpAny (model X.prog X.w) X.A (f v u) Q X.xe s2) :
    wpAny (model X.prog X.w) X.A (eval a X.env) (fun v s₁ => wpAny (model X.prog X.w) X.A (eval b X.env) (fun u s₂ => wpAny (model X.prog X.w) X.A (f v u) Q X.xe s₂) X.xe s₁) X.xe s := by
  refine thn (ha pins s σ H _ I h) fun v s1 ⟨x, H1, I1, r1, q1⟩ => ?_
  refine thn (hb pins s1 σ H1 _ I1 q1) fun u s2 ⟨y, H2, I2, r2, q2⟩ => ?_
  exact hf v u s2 x y H2 I2 r1 r2 q2

theorem pe_op {op : Operator} {r : R2} (ho : OpR X (binaryOp op) r) (ha : PE X a ta) (hb : PE X b tb) : PE X (.BinOp a op b pos) (tOp r ta tb) := by
  intro pins s σ H Q I h
  exact wpAny_BinOp (binT ha hb I h fun v u s2 x y H2 I2 rx ry q => ho pins s2 σ H2 x y v u Q I2 rx ry q)
theorem pe_un {op : UnaryOp} {r : V → Hp → VK → Prop} (ho : UnR X (unaryOp op) r) (ha : PE X a ta) : PE X (.UnaryOp op a pos) (tUn r ta) := by
  intro pins s σ H Q I h
  exact UnaryOp_ (thn (ha pins s σ H _ I h) fun v s1 ⟨x, H1, I1, r1, q1⟩ => ho pins s1 σ H1 x v Q I1 r1 q1)
/-- a op= e at a name: the name's slot i -/
theorem augR {op : Operator} {r : R2} (ho : OpR X (inplaceOp op) r) {pins : List (Addr × Obj)} {s : Shared} {σ : St} {H : Hp} {x y : V} {v u : Value} {Q : VK} (I : Inv X pins σ H s)
    (rx : RelV x v) (ry : RelV y u) (q : r x y H Q) : wpAny (model X.prog X.w) X.A (inplaceOp op v u) (EP X pins σ Q) X.xe s := ho pins s σ H x y v u Q I rx ry q

/-! ### ints -/
theorem opI {f : Value → Value → Sem Value} {C : Int → Int → Prop} {g : Int → Int → Int}
    (rule : ∀ (i j : Int) (t u : Tok) (s : Shared) (Q : Value → Shared → Prop) (E : Value → Shared → Prop), C i j → Q (.int (g i j) s.toks) { s with toks := s.toks + 1 } → wpAny (model X.prog X.w) X.A (f (.int i t) (.int j u)) Q E s) :
    OpR X f (rI C fun i j => .int (g i j)) := by
  intro pins s σ H x y v u Q I rx ry h
  obtain ⟨i, j, rfl, rfl, hc, q⟩ := h
  obtain ⟨t, rfl⟩ := rx
  obtain ⟨t', rfl⟩ := ry
  exact rule i j t t' s _ _ hc ⟨.int (g i j), H, I.tok _, ⟨_, rfl⟩, q⟩
theorem opI0 {f : Value → Value → Sem Value} {g : Int → Int → Int}
    (rule : ∀ (i j : Int) (t u : Tok) (s : Shared) (Q : Value → Shared → Prop) (E : Value → Shared → Prop), Q (.int (g i j) s.toks) { s with toks := s.toks + 1 } → wpAny (model X.prog X.w) X.A (f (.int i t) (.int j u)) Q E s) :
    OpR X f (rI0 fun i j => .int (g i j)) := by
  intro pins s σ H x y v u Q I rx ry h
  obtain ⟨i, j, rfl, rfl, q⟩ := h
  obtain ⟨t, rfl⟩ := rx
  obtain ⟨t', rfl⟩ := ry
  exact rule i j t t' s _ _ ⟨.int (g i j), H, I.tok _, ⟨_, rfl⟩, q⟩
theorem opB0 {f : Value → Value → Sem Value} {g : Int → Int → Bool}
    (rule : ∀ (i j : Int) (t u : Tok) (s : Shared) (Q : Value → Shared → Prop) (E : Value → Shared → Prop), Q (.bool (g i j)) s → wpAny (model X.prog X.w) X.A (f (.int i t) (.int j u)) Q E s) :
    OpR X f (rI0 fun i j => .bl (g i j)) := by
  intro pins s σ H x y v u Q I rx ry h
  obtain ⟨i, j, rfl, rfl, q⟩ := h
  obtain ⟨t, rfl⟩ := rx
  obtain ⟨t', rfl⟩ := ry
  exact rule i j t t' s _ _ ⟨.bl (g i j), H, I, rfl, q⟩

def CDiv (i j : Int) : Prop := 0 < j ∧ j < 1073741824
def CDivN (i j : Int) : Prop := j ≠ 0 ∧ j.natAbs < 1073741824
def CPow (i j : Int) : Prop := 0 ≤ j ∧ j ≤ 1000000 ∧ i.natAbs < 2 ^ 64
def CMul (i j : Int) : Prop := (-(2 ^ 64) < i ∧ i < 2 ^ 64) ∨ (-(2 ^ 64) < j ∧ j < 2 ^ 64)
theorem CMul.ok {i j : Int} (h : CMul i j) : IntMulOk i j := by
  rcases h with ⟨h1, h2⟩ | ⟨h1, h2⟩
  · exact .of_left (intBits_le_64 h1 h2)
  · exact .of_right (intBits_le_64 h1 h2)
theorem two_pow_nn (k : Nat) : (0 : Int) ≤ 2 ^ k := by
  rw [two_pow_cast]
  exact Int.natCast_nonneg _

theorem op_add : OpR X (binaryOp .Add) (rI0 fun i j => .int (i + j)) := opI0 fun _ _ _ _ _ _ _ q => add_int q
theorem op_sub : OpR X (binaryOp .Sub) (rI0 fun i j => .int (i - j)) := opI0 fun _ _ _ _ _ _ _ q => sub_int q
theorem op_mul : OpR X (binaryOp .Mult) (rI CMul fun i j => .int (i * j)) := opI fun _ _ _ _ _ _ _ hc q => mul_int q hc.ok
/-- // by a positive divisor -/
theorem op_fdiv : OpR X (binaryOp .FloorDiv) (rI CDiv fun i j => .int (i / j)) := opI fun i j _ _ _ _ _ hc q => by
  have h1 : (0 : Int) < j := hc.1
  have h2 : j < 1073741824 := hc.2
  exact floordiv_int (by omega) (by rw [Int.fdiv_eq_ediv_of_nonneg i (by omega)]; exact q) (.inl (PyProof.noPylong_small (by omega)))
theorem op_fdivN : OpR X (binaryOp .FloorDiv) (rI CDivN fun i j => .int (i.fdiv j)) := opI fun _ _ _ _ _ _ _ hc q => floordiv_int hc.1 q (.inl (PyProof.noPylong_small hc.2))
/-- % by a positive divisor of any size -/
theorem op_mod : OpR X (binaryOp .Mod) (rI (fun _ j => 0 < j) fun i j => .int (i % j)) := opI fun i j _ _ _ _ _ hc q => by
  have h1 : (0 : Int) < j := hc
  exact mod_int' (by omega) (by rw [Int.fmod_eq_emod_of_nonneg i (by omega)]; exact q)
theorem op_modN : OpR X (binaryOp .Mod) (rI (fun _ j => j ≠ 0) fun i j => .int (i.fmod j)) := opI fun _ _ _ _ _ _ _ hc q => mod_int' hc q
theorem op_pow : OpR X (binaryOp .Pow) (rI CPow fun i j => .int (i ^ j.toNat)) := opI fun _ _ _ _ _ _ _ hc q => pow_int_small hc.1 hc.2.1 hc.2.2 q
theorem op_shl : OpR X (binaryOp .LShift) (rI CPow fun i j => .int (i * 2 ^ j.toNat)) := opI fun _ _ _ _ _ _ _ hc q => lshift_int_small hc.1 hc.2.1 hc.2.2 q
theorem op_shr : OpR X (binaryOp .RShift) (rI (fun _ j => 0 ≤ j) fun i j => .int (i / 2 ^ j.toNat)) := opI fun i j _ _ _ _ _ hc q =>
  rshift_int hc (by rw [Int.fdiv_eq_ediv_of_nonneg i (two_pow_nn _)]; exact q)
theorem op_and : OpR X (binaryOp .BitAnd) (rI0 fun i j => .int (Builtin.bitAnd i j)) := opI0 fun _ _ _ _ _ _ _ q => and_int q
theorem op_or : OpR X (binaryOp .BitOr) (rI0 fun i j => .int (Builtin.bitOr i j)) := opI0 fun _ _ _ _ _ _ _ q => or_int q
theorem op_xor : OpR X (binaryOp .BitXor) (rI0 fun i j => .int (Builtin.bitXor i j)) := opI0 fun _ _ _ _ _ _ _ q => xor_int q

theorem iop_add : OpR X (inplaceOp .Add) (rI0 fun i j => .int (i + j)) := opI0 fun _ _ _ _ _ _ _ q => iadd_int q
theorem iop_sub : OpR X (inplaceOp .Sub) (rI0 fun i j => .int (i - j)) := opI0 fun _ _ _ _ _ _ _ q => isub_int q
theorem iop_mul : OpR X (inplaceOp .Mult) (rI CMul fun i j => .int (i * j)) := opI fun _ _ _ _ _ _ _ hc q => imul_int q hc.ok
theorem iop_fdiv : OpR X (inplaceOp .FloorDiv) (rI CDiv fun i j => .int (i / j)) := opI fun i j _ _ _ _ _ hc q => by
  have h1 : (0 : Int) < j := hc.1
  have h2 : j < 1073741824 := hc.2
  exact ifloordiv_int (by omega) (by rw [Int.fdiv_eq_ediv_of_nonneg i (by omega)]; exact q) (.inl (PyProof.noPylong_small (by omega)))
theorem iop_mod : OpR X (inplaceOp .Mod) (rI (fun _ j => 0 < j) fun i j => .int (i % j)) := opI fun i j _ _ _ _ _ hc q => by
  have h1 : (0 : Int) < j := hc
  exact imod_int (by omega) (by rw [Int.fmod_eq_emod_of_nonneg i (by omega)]; exact q)
theorem iop_shl : OpR X (inplaceOp .LShift) (rI CPow fun i j => .int (i * 2 ^ j.toNat)) := opI fun _ _ _ _ _ _ _ hc q => ilshift_int_small hc.1 hc.2.1 hc.2.2 q
theorem iop_shr : OpR X (inplaceOp .RShift) (rI (fun _ j => 0 ≤ j) fun i j => .int (i / 2 ^ j.toNat)) := opI fun i j _ _ _ _ _ hc q =>
  irshift_int hc (by rw [Int.fdiv_eq_ediv_of_nonneg i (two_pow_nn _)]; exact q)
theorem iop_and : OpR X (inplaceOp .BitAnd) (rI0 fun i j => .int (Builtin.bitAnd i j)) := opI0 fun _ _ _ _ _ _ _ q => iand_int q
theorem iop_or : OpR X (inplaceOp .BitOr) (rI0 fun i j => .int (Builtin.bitOr i j)) := opI0 fun _ _ _ _ _ _ _ q => ior_int q
theorem iop_xor : OpR X (inplaceOp .BitXor) (rI0 fun i j => .int (Builtin.bitXor i j)) := opI0 fun _ _ _ _ _ _ _ q => ixor_int q

theorem unI {f : Value → Sem Value} {g : Int → Int}
    (rule : ∀ (i : Int) (t : Tok) (s : Shared) (Q : Value → Shared → Prop) (E : Value → Shared → Prop), Q (.int (g i) s.toks) { s with toks := s.toks + 1 } → wpAny (model X.prog X.w) X.A (f (.int i t)) Q E s) :
    UnR X f (rU fun i => .int (g i)) := by
  intro pins s σ H x v Q I rx h
  obtain ⟨i, rfl, q⟩ := h
  obtain ⟨t, rfl⟩ := rx
  exact rule i t s _ _ ⟨.int (g i), H, I.tok _, ⟨_, rfl⟩, q⟩
theorem un_neg : UnR X (unaryOp .USub) (rU fun i => .int (-i)) := unI fun _ _ _ _ _ q => neg_int q
theorem un_inv : UnR X (unaryOp .Invert) (rU fun i => .int (Builtin.bitNot i)) := unI fun _ _ _ _ _ q => invert_int q

/-! ### bools among ints: n += (a < b) -/
theorem op_add_ib : OpR X (binaryOp .Add) (fun x y H Q => ∃ i k, x = .int i ∧ y = .bl k ∧ Q (.int (i + b2i k)) H) := by
  intro pins s σ H x y v u Q I rx ry h
  obtain ⟨i, k, rfl, rfl, q⟩ := h
  obtain ⟨t, rfl⟩ := rx
  cases ry
  exact add_int_bool ⟨.int (i + b2i k), H, I.tok _, ⟨_, rfl⟩, q⟩
end

/-! ### comparisons -/
/-- the scalars that == tells apart as data does -/
def scal : V → V → Bool
  | .non, .non => true | .non, .int _ => true | .int _, .non => true | .non, .bl _ => true | .bl _, .non => true | .non, .str _ => true | .str _, .non => true
  | .int _, .int _ => true | .bl _, .bl _ => true | .str _, .str _ => true | .byt _, .byt _ => true
  | .int _, .str _ => true | .str _, .int _ => true | .bl _, .str _ => true | .str _, .bl _ => true
  | _, _ => false
def rEq : R2 := fun x y H Q => scal x y = true ∧ Q (.bl (decide (x = y))) H
def rNe : R2 := fun x y H Q => scal x y = true ∧ Q (.bl (!decide (x = y))) H

theorem dec_int {i j : Int} : decide (V.int i = V.int j) = (i == j) := by
  rw [Bool.eq_iff_iff]
  simp
theorem dec_bl {i j : Bool} : decide (V.bl i = V.bl j) = (i == j) := by
  rw [Bool.eq_iff_iff]
  simp
theorem dec_str {i j : Str} : decide (V.str i = V.str j) = (i == j) := by
  rw [Bool.eq_iff_iff]
  simp
theorem dec_byt {i j : Array UInt8} : decide (V.byt i = V.byt j) = (i.toList == j.toList) := by
  rw [Bool.eq_iff_iff]
  cases i
  cases j
  simp

section
variable {X : Cx} {a b c : Expr} {ta tb tc : TE} {pos : Pos}
theorem fin_bl {pins : List (Addr × Obj)} {σ : St} {H : Hp} {s : Shared} {Q : VK} {k k' : Bool} (I : Inv X pins σ H s) (q : Q (.bl k) H) (e : k = k') : EP X pins σ Q (.bool k') s := by
  subst e
  exact ⟨.bl k, H, I, rfl, q⟩
theorem op_eq : OpR X (compareOp .Eq) rEq := by
  intro pins s σ H x y v u Q I rx ry h
  obtain ⟨hs, q⟩ := h
  cases x with
  | non =>
    cases rx
    cases y with
    | non => cases ry; exact PySem.EqNone.eq_none_none (fin_bl I q (by simp))
    | bl j => cases ry; exact PySem.EqNone.eq_none_bool (fin_bl I q (by simp))
    | int j => obtain ⟨t', rfl⟩ := ry; exact PySem.EqNone.eq_none_int (fin_bl I q (by simp))
    | str j => obtain ⟨t', rfl⟩ := ry; exact PySem.EqNone.eq_none_str (fin_bl I q (by simp))
    | _ => exact absurd (show false = true from hs) Bool.false_ne_true
  | bl i =>
    cases rx
    cases y with
    | non => cases ry; exact PySem.EqNone.eq_bool_none (fin_bl I q (by simp))
    | bl j => cases ry; exact eq_bool (fin_bl I q dec_bl)
    | str j => obtain ⟨t', rfl⟩ := ry; exact PySem.EqMixed.eq_bool_str (fin_bl I q (by simp))
    | _ => exact absurd (show false = true from hs) Bool.false_ne_true
  | int i =>
    obtain ⟨t, rfl⟩ := rx
    cases y with
    | non => cases ry; exact PySem.EqNone.eq_int_none (fin_bl I q (by simp))
    | int j => obtain ⟨t', rfl⟩ := ry; exact eq_int (fin_bl I q dec_int)
    | str j => obtain ⟨t', rfl⟩ := ry; exact PySem.EqMixed.eq_int_str (fin_bl I q (by simp))
    | _ => exact absurd (show false = true from hs) Bool.false_ne_true
  | str i =>
    obtain ⟨t, rfl⟩ := rx
    cases y with
    | non => cases ry; exact PySem.EqNone.eq_str_none (fin_bl I q (by simp))
    | bl j => cases ry; exact PySem.EqMixed.eq_str_bool (fin_bl I q (by simp))
    | int j => obtain ⟨t', rfl⟩ := ry; exact PySem.EqMixed.eq_str_int (fin_bl I q (by simp))
    | str j => obtain ⟨t', rfl⟩ := ry; exact eq_str (fin_bl I q dec_str)
    | _ => exact absurd (show false = true from hs) Bool.false_ne_true
  | byt i =>
    obtain ⟨t, rfl⟩ := rx
    cases y with
    | byt j => obtain ⟨t', rfl⟩ := ry; exact PySem.W.eq_bytes (fin_bl I q dec_byt)
    | _ => exact absurd (show false = true from hs) Bool.false_ne_true
  | _ => cases y <;> exact absurd (show false = true from hs) Bool.false_ne_true
theorem op_ne : OpR X (compareOp .NotEq) rNe := by
  intro pins s σ H x y v u Q I rx ry h
  obtain ⟨hs, q⟩ := h
  cases x with
  | non =>
    cases rx
    cases y with
    | non => cases ry; exact PySem.EqNone.ne_none_none (fin_bl I q (by simp))
    | bl j => cases ry; exact PySem.EqNone.ne_none_bool (fin_bl I q (by simp))
    | int j => obtain ⟨t', rfl⟩ := ry; exact PySem.EqNone.ne_none_int (fin_bl I q (by simp))
    | str j => obtain ⟨t', rfl⟩ := ry; exact PySem.EqNone.ne_none_str (fin_bl I q (by simp))
    | _ => exact absurd (show false = true from hs) Bool.false_ne_true
  | bl i =>
    cases rx
    cases y with
    | non => cases ry; exact PySem.EqNone.ne_bool_none (fin_bl I q (by simp))
    | bl j => cases ry; exact ne_bool (fin_bl I q (congrArg not dec_bl))
    | str j => obtain ⟨t', rfl⟩ := ry; exact PySem.EqMixed.ne_bool_str (fin_bl I q (by simp))
    | _ => exact absurd (show false = true from hs) Bool.false_ne_true
  | int i =>
    obtain ⟨t, rfl⟩ := rx
    cases y with
    | non => cases ry; exact PySem.EqNone.ne_int_none (fin_bl I q (by simp))
    | int j => obtain ⟨t', rfl⟩ := ry; exact ne_int (fin_bl I q (congrArg not dec_int))
    | str j => obtain ⟨t', rfl⟩ := ry; exact PySem.EqMixed.ne_int_str (fin_bl I q (by simp))
    | _ => exact absurd (show false = true from hs) Bool.false_ne_true
  | str i =>
    obtain ⟨t, rfl⟩ := rx
    cases y with
    | non => cases ry; exact PySem.EqNone.ne_str_none (fin_bl I q (by simp))
    | bl j => cases ry; exact PySem.EqMixed.ne_str_bool (fin_bl I q (by simp))
    | int j => obtain ⟨t', rfl⟩ := ry; exact PySem.EqMixed.ne_str_int (fin_bl I q (by simp))
    | str j => obtain ⟨t', rfl⟩ := ry; exact ne_str (fin_bl I q (congrArg not dec_str))
    | _ => exact absurd (show false = true from hs) Bool.false_ne_true
  | byt i =>
    obtain ⟨t, rfl⟩ := rx
    cases y with
    | byt j => obtain ⟨t', rfl⟩ := ry; exact PySem.W.ne_bytes (fin_bl I q (congrArg not dec_byt))
    | _ => exact absurd (show false = true from hs) Bool.false_ne_true
  | _ => cases y <;> exact absurd (show false = true from hs) Bool.false_ne_true

theorem op_lt : OpR X (compareOp .Lt) (rI0 fun i j => .bl (decide (i < j))) := opB0 fun _ _ _ _ _ _ _ q => lt_int q
theorem op_le : OpR X (compareOp .LtE) (rI0 fun i j => .bl (decide (i ≤ j))) := opB0 fun _ _ _ _ _ _ _ q => le_int q
theorem op_gt : OpR X (compareOp .Gt) (rI0 fun i j => .bl (decide (j < i))) := opB0 fun _ _ _ _ _ _ _ q => gt_int q
theorem op_ge : OpR X (compareOp .GtE) (rI0 fun i j => .bl (decide (j ≤ i))) := opB0 fun _ _ _ _ _ _ _ q => ge_int q
theorem op_lt_str : OpR X (compareOp .Lt) (fun x y H Q => ∃ i j, x = .str i ∧ y = .str j ∧ Q (.bl (decide (i.cps.toList < j.cps.toList))) H) := by
  intro pins s σ H x y v u Q I rx ry h
  obtain ⟨i, j, rfl, rfl, q⟩ := h
  obtain ⟨t, rfl⟩ := rx
  obtain ⟨t', rfl⟩ := ry
  exact lt_str (fin_bl I q rfl)
/-- the one string within the other -/
theorem op_in_str : OpR X (compareOp .In) (fun x y H Q => ∃ i j, x = .str i ∧ y = .str j ∧ Q (.bl (!(Builtin.Str.occurrences j i 0 j.length 1).isEmpty)) H) := by
  intro pins s σ H x y v u Q I rx ry h
  obtain ⟨i, j, rfl, rfl, q⟩ := h
  obtain ⟨t, rfl⟩ := rx
  obtain ⟨t', rfl⟩ := ry
  exact in_str (fin_bl I q rfl)

/-- is None, is not None: the right side a value none -/
theorem op_isN : OpR X (compareOp .Is) (fun x y H Q => y = .non ∧ Q (.bl (decide (x = .non))) H) := by
  intro pins s σ H x y v u Q I rx ry h
  obtain ⟨rfl, q⟩ := h
  cases ry
  refine is_none_gen (fin_bl I q ?_)
  cases x <;> first
    | (cases rx; rfl)
    | (obtain ⟨t, rfl⟩ := rx; rfl)
theorem op_notN : OpR X (compareOp .IsNot) (fun x y H Q => y = .non ∧ Q (.bl (!decide (x = .non))) H) := by
  intro pins s σ H x y v u Q I rx ry h
  obtain ⟨rfl, q⟩ := h
  cases ry
  refine isnot_none_gen (fin_bl I q ?_)
  cases x <;> first
    | (cases rx; rfl)
    | (obtain ⟨t, rfl⟩ := rx; rfl)

theorem op_notin_str : OpR X (compareOp .NotIn) (fun x y H Q => ∃ i j, x = .str i ∧ y = .str j ∧ Q (.bl (!(!(Builtin.Str.occurrences j i 0 j.length 1).isEmpty))) H) := by
  intro pins s σ H x y v u Q I rx ry h
  obtain ⟨i, j, rfl, rfl, q⟩ := h
  obtain ⟨t, rfl⟩ := rx
  obtain ⟨t', rfl⟩ := ry
  exact notIn_str (fin_bl I q rfl)
/-- is, is not of two objects that are tracked lists or instances -/
def isObj : HO → Bool
  | .lst _ => true
  | .ins _ _ _ => true
  | _ => false
theorem obj_there {pins : List (Addr × Obj)} {s : Shared} {σ : St} {H : Hp} {a : Addr} {o : HO} (I : Inv X pins σ H s) (h : H a = some o) (p : isObj o = true) : ∃ ob, s.heap.get? a = some ob ∧ ob.cls ≠ .type "tuple" := by
  cases o with
  | lst xs =>
    obtain ⟨_, its, n, _, e⟩ : xs.length ≤ sizeLine ∧ ∃ (its : List Value) (n : Nat), Vals xs its ∧ s.heap.get? a = some { cls := .type "list", data := .seq its.toArray n } := I.hok a _ h
    exact ⟨_, e, (by show Value.type "list" ≠ .type "tuple"; decide +kernel)⟩
  | ins C dx fs =>
    have x := I.hok a _ h
    obtain ⟨_, _, _, e, _⟩ := x
    exact ⟨_, e, (by show Value.ref C ≠ .type "tuple"; exact fun z => by cases z)⟩
  | _ => exact absurd (show false = true from p) Bool.false_ne_true
theorem op_is_ref : OpR X (compareOp .Is) (fun x y H Q => ∃ a b oa ob, x = .ref a ∧ y = .ref b ∧ H a = some oa ∧ isObj oa = true ∧ H b = some ob ∧ isObj ob = true ∧ Q (.bl (decide (a = b))) H) := by
  intro pins s σ H x y v u Q I rx ry h
  obtain ⟨a, b, oa, ob, rfl, rfl, ha, pa, hb, pb, q⟩ := h
  cases rx
  cases ry
  obtain ⟨o1, e1, n1⟩ := obj_there I ha pa
  obtain ⟨o2, e2, _⟩ := obj_there I hb pb
  by_cases z : a = b
  · subst z
    exact wpAny_is_ref_self (fin_bl I q (by simp))
  · exact wpAny_is_ref_other z e1 e2 n1 (fin_bl I q (by simp [z]))
theorem op_isnot_ref : OpR X (compareOp .IsNot) (fun x y H Q => ∃ a b oa ob, x = .ref a ∧ y = .ref b ∧ H a = some oa ∧ isObj oa = true ∧ H b = some ob ∧ isObj ob = true ∧ Q (.bl (!decide (a = b))) H) := by
  intro pins s σ H x y v u Q I rx ry h
  obtain ⟨a, b, oa, ob, rfl, rfl, ha, pa, hb, pb, q⟩ := h
  cases rx
  cases ry
  obtain ⟨o1, e1, n1⟩ := obj_there I ha pa
  obtain ⟨o2, e2, _⟩ := obj_there I hb pb
  by_cases z : a = b
  · subst z
    exact wpAny_isNot_ref_self (fin_bl I q (by simp))
  · exact wpAny_isNot_ref_other z e1 e2 n1 (fin_bl I q (by simp [z]))

/-- two rules for one operation: by cases -/
theorem OpR.or {f : Value → Value → Sem Value} {r r' : R2} (h : OpR X f r) (h' : OpR X f r') : OpR X f (fun x y H Q => r x y H Q ∨ r' x y H Q) := by
  intro pins s σ H x y v u Q I rx ry q
  rcases q with q | q
  · exact h pins s σ H x y v u Q I rx ry q
  · exact h' pins s σ H x y v u Q I rx ry q

theorem nomark (b : Expr) {op : CmpOp} (h : op ≠ .In := by decide) (h2 : op ≠ .NotIn := by decide) : behindInMarks op b = false := by
  have e1 : (op == CmpOp.In) = false := by cases op <;> first | rfl | exact absurd rfl h
  have e2 : (op == CmpOp.NotIn) = false := by cases op <;> first | rfl | exact absurd rfl h2
  cases b <;> simp [behindInMarks, e1, e2]
/-- a comparison as a value; hm: nomark b, or (for in, not in) by with_unfolding_all rfl -/
theorem pe_cmpR {op : CmpOp} {r : R2} (ho : OpR X (compareOp op) r) (ha : PE X a ta) (hb : PE X b tb) (hm : behindInMarks op b = false) : PE X (.Compare a [op] [b] pos) (tOp r ta tb) := by
  intro pins s σ H Q I h
  exact wpAny_Compare1 (binT ha hb I h fun v u s2 x y H2 I2 rx ry q => ho pins s2 σ H2 x y v u Q I2 rx ry q) hm
/-- a reading of a value as a test -/
def tTest (t : TE) : TT := fun σ H Q => t σ H fun x H' => ∃ k, x = .bl k ∧ Q k H'
theorem pt_cmpR {op : CmpOp} {r : R2} (ho : OpR X (compareOp op) r) (ha : PE X a ta) (hb : PE X b tb) (hm : behindInMarks op b = false) : PT X (.Compare a [op] [b] pos) (tTest (tOp r ta tb)) := by
  intro pins s σ H Q I h
  refine wpAny_isTrue_Compare1 (thn (ha pins s σ H _ I h) fun v s1 ⟨x, H1, I1, r1, q1⟩ => thn (hb pins s1 σ H1 _ I1 q1) fun u s2 ⟨y, H2, I2, r2, q2⟩ =>
    thn (ho pins s2 σ H2 x y v u _ I2 r1 r2 q2) fun c s3 ⟨z, H3, I3, r3, k, e, q3⟩ => ?_) hm
  subst e
  cases r3
  exact wpAny_truthy_bool ⟨H3, I3, q3⟩
/-- a op1 b op2 c -/
def tChain (r r' : R2) (ta tb tc : TE) : TE := fun σ H Q => ta σ H fun x H1 => tb σ H1 fun y H2 => r x y H2 fun z H3 => ∃ k, z = .bl k ∧
  (if k = true then tc σ H3 fun w' H4 => r' y w' H4 Q else Q (.bl false) H3)
theorem pe_chain {op op' : CmpOp} {r r' : R2} (ho : OpR X (compareOp op) r) (ho' : OpR X (compareOp op') r') (ha : PE X a ta) (hb : PE X b tb) (hc : PE X c tc)
    (hm : lastMarks [op, op'] [b, c] = false := by with_unfolding_all rfl) : PE X (.Compare a [op, op'] [b, c] pos) (tChain r r' ta tb tc) := by
  intro pins s σ H Q I h
  refine Compare_chain (thn (ha pins s σ H _ I h) fun v s1 ⟨x, H1, I1, r1, q1⟩ => chain_link (thn (hb pins s1 σ H1 _ I1 q1) fun u s2 ⟨y, H2, I2, r2, q2⟩ =>
    thn (ho pins s2 σ H2 x y v u _ I2 r1 r2 q2) fun d s3 ⟨z, H3, I3, r3, k, e, q3⟩ => ?_)) hm
  subst e
  cases r3
  refine wpAny_truthy_bool ?_
  cases k with
  | false => exact ite_ff ⟨.bl false, H3, I3, rfl, q3⟩
  | true => exact ite_tt (chain_last (thn (hc pins s3 σ H3 _ I3 q3) fun w' s4 ⟨z', H4, I4, r4, q4⟩ => ho' pins s4 σ H4 y z' u w' Q I4 r2 r4 q4))
theorem pt_chain {op op' : CmpOp} {r r' : R2} (ho : OpR X (compareOp op) r) (ho' : OpR X (compareOp op') r') (ha : PE X a ta) (hb : PE X b tb) (hc : PE X c tc)
    (hm : lastMarks [op, op'] [b, c] = false := by with_unfolding_all rfl) : PT X (.Compare a [op, op'] [b, c] pos) (tTest (tChain r r' ta tb tc)) := by
  intro pins s σ H Q I h
  refine isTrue_chain (thn (ha pins s σ H _ I h) fun v s1 ⟨x, H1, I1, r1, q1⟩ => test_link (thn (hb pins s1 σ H1 _ I1 q1) fun u s2 ⟨y, H2, I2, r2, q2⟩ =>
    thn (ho pins s2 σ H2 x y v u _ I2 r1 r2 q2) fun d s3 ⟨z, H3, I3, r3, k, e, q3⟩ => ?_)) hm
  subst e
  cases r3
  refine wpAny_truthy_bool ?_
  cases k with
  | false =>
    obtain ⟨k', e', q'⟩ := q3
    cases e'
    exact ite_ff ⟨H3, I3, q'⟩
  | true =>
    refine ite_tt (test_last (thn (hc pins s3 σ H3 _ I3 q3) fun w' s4 ⟨z', H4, I4, r4, q4⟩ => thn (ho' pins s4 σ H4 y z' u w' _ I4 r2 r4 q4) fun d' s5 ⟨z2, H5, I5, r5, k2, e2, q5⟩ => ?_))
    subst e2
    cases r5
    exact wpAny_truthy_bool ⟨H5, I5, q5⟩

/-! ### truth -/
/-- a value's truth by the abstract heap -/
def TruV (K : PySem.W.Frag) (x : V) (H : Hp) (k : Bool) : Prop :=
  match x with
  | .non => k = false
  | .bl b => k = b
  | .int i => k = (i != 0)
  | .str y => y.length ≤ sizeLine ∧ k = ((y.length : Int) != 0)
  | .byt y => y.size ≤ sizeLine ∧ k = ((y.size : Int) != 0)
  | .ref p => (∃ xs, SqL K H p xs ∧ k = !xs.isEmpty) ∨ (∃ xs, SqT K H p xs ∧ k = !xs.isEmpty) ∨ ∃ kvs, H p = some (.dK kvs) ∧ k = !kvs.isEmpty
  | _ => False
theorem isEmpty_kv {κ : Type} {kvs : List (κ × V)} {vs : List (κ × Value)} (r : KV kvs vs) : (!vs.isEmpty) = !kvs.isEmpty := by
  cases r <;> rfl
theorem isEmpty_of {xs : List V} {its : List Value} (r : Vals xs its) : (!its.toArray.isEmpty) = !xs.isEmpty := by
  cases r <;> simp
theorem line63 : (sizeLine : Nat) < 2 ^ 63 := by rw [sizeLine_eq]; decide
theorem tru_ok : TruR X (fun x H Q => ∃ k, TruV X.K x H k ∧ Q k H) := by
  intro pins s σ H x v Q I rx h
  obtain ⟨k, e, q⟩ := h
  have hl := line63
  have hs : sizeLine = 16777216 := sizeLine_eq
  cases x with
  | non =>
    cases rx
    have e' : k = false := e
    subst e'
    exact truthy_none ⟨H, I, q⟩
  | bl b =>
    cases rx
    have e' : k = b := e
    subst e'
    exact wpAny_truthy_bool ⟨H, I, q⟩
  | int i =>
    obtain ⟨t, rfl⟩ := rx
    have e' : k = (i != 0) := e
    subst e'
    exact PySem.P.truthy_int ⟨H, I, q⟩
  | str y =>
    obtain ⟨t, rfl⟩ := rx
    obtain ⟨hy, e'⟩ : y.length ≤ sizeLine ∧ k = ((y.length : Int) != 0) := e
    subst e'
    exact PySem.P.truthy_str (by omega) ⟨H, I.tok _, q⟩
  | byt y =>
    obtain ⟨t, rfl⟩ := rx
    obtain ⟨hy, e'⟩ : y.size ≤ sizeLine ∧ k = ((y.size : Int) != 0) := e
    subst e'
    exact PySem.W.truthy_bytes (by omega) ⟨H, I.tok _, q⟩
  | ref p =>
    cases rx
    have e' : (∃ xs, SqL X.K H p xs ∧ k = !xs.isEmpty) ∨ (∃ xs, SqT X.K H p xs ∧ k = !xs.isEmpty) ∨ ∃ kvs, H p = some (.dK kvs) ∧ k = !kvs.isEmpty := e
    rcases e' with ⟨xs, hx, e'⟩ | ⟨xs, hx, e'⟩ | ⟨kvs, hx, e'⟩
    · subst e'
      obtain ⟨its, r, pl, hz⟩ := I.list hx
      have hlen := r.length
      exact wpAny_truthy_list pl.isList (by simp only [List.size_toArray]; omega) ⟨H, I.tok _, by rw [isEmpty_of r]; exact q⟩
    · subst e'
      obtain ⟨its, r, pl, hz⟩ := I.tuple hx
      have hlen := r.length
      exact truthy_tuple pl (by simp only [List.size_toArray]; omega) ⟨H, I.tok _, by rw [isEmpty_of r]; exact q⟩
    · subst e'
      obtain ⟨hz, hS, vs, r, m⟩ : kvs.length ≤ sizeLine ∧ (p == sysModules) = false ∧ ∃ vs, KV kvs vs ∧ s.heap.DictOf (mixKind X.prog X.w) p vs := I.hok p _ hx
      have hlen : kvs.length = vs.length := Paired.length r
      exact wpAny_truthy_dict hS m (by omega) ⟨H, I.tok _, by rw [isEmpty_kv r]; exact q⟩
  | _ => exact (show False from e).elim
/-- any expression whose test is its value's truth (a name, a call, a subscript, a field ..: he by fun _ => rfl) -/
theorem pt_truth (ha : PE X a ta) (he : ∀ whole, isTrue a X.env whole = (do let v ← whole; standAt a.pos; holding [v] (truthy v))) :
    PT X a (fun σ H Q => ta σ H fun x H' => ∃ k, TruV X.K x H' k ∧ Q k H') := by
  intro pins s σ H Q I h
  exact isTrue_plain (thn (ha pins s σ H _ I h) fun v s1 ⟨x, H1, I1, r1, q1⟩ => tru_ok pins s1 σ H1 x v Q I1 r1 q1) (he _)

/-! ### strs and bytes -/
theorem pe_byt {x : List UInt8} {k : Nat} : PE X (.Constant (.bytes x) k pos) (fun _ H Q => Q (.byt x.toArray) H) := fun _ _ _ H _ I h => PySem.W.Constant_bytes ⟨.byt x.toArray, H, I.tok _, ⟨_, rfl⟩, h⟩
theorem op_add_str : OpR X (binaryOp .Add) (fun x y H Q => ∃ i j, x = .str i ∧ y = .str j ∧ i.length + j.length ≤ sizeLine ∧ Q (.str (i ++ j)) H) := by
  intro pins s σ H x y v u Q I rx ry h
  obtain ⟨i, j, rfl, rfl, hz, q⟩ := h
  obtain ⟨t, rfl⟩ := rx
  obtain ⟨t', rfl⟩ := ry
  exact add_str (fun t' tk => ⟨.str (i ++ j), H, I.tok _, ⟨_, rfl⟩, q⟩) hz
theorem iop_add_str : OpR X (inplaceOp .Add) (fun x y H Q => ∃ i j, x = .str i ∧ y = .str j ∧ i.length + j.length ≤ sizeLine ∧ Q (.str (i ++ j)) H) := by
  intro pins s σ H x y v u Q I rx ry h
  obtain ⟨i, j, rfl, rfl, hz, q⟩ := h
  obtain ⟨t, rfl⟩ := rx
  obtain ⟨t', rfl⟩ := ry
  exact iadd_str (fun t' tk => ⟨.str (i ++ j), H, I.tok _, ⟨_, rfl⟩, q⟩) hz
theorem op_add_byt : OpR X (binaryOp .Add) (fun x y H Q => ∃ i j, x = .byt i ∧ y = .byt j ∧ i.size + j.size ≤ 16777216 ∧ Q (.byt (i ++ j)) H) := by
  intro pins s σ H x y v u Q I rx ry h
  obtain ⟨i, j, rfl, rfl, hz, q⟩ := h
  obtain ⟨t, rfl⟩ := rx
  obtain ⟨t', rfl⟩ := ry
  exact PySem.W.KBy.add_bytes hz (fun t' tk => ⟨.byt (i ++ j), H, I.tok _, ⟨_, rfl⟩, q⟩)

def PlainIxT (b : Expr) : Prop := ∀ o i, subscripted b false o i = operate [o, i] (getItem o i)
/-- s[i], 0 ≤ i < len -/
theorem pe_item_str (ha : PE X a ta) (hb : PE X b tb) (hs : PlainIxT b) :
    PE X (.Subscript a b pos) (tOp (fun x y H Q => ∃ z i c, x = .str z ∧ y = .int i ∧ 0 ≤ i ∧ i < 2 ^ 63 ∧ i < z.length ∧ z.cps[i.toNat]? = some c ∧ Q (.str ⟨#[c]⟩) H) ta tb) := by
  intro pins s σ H Q I h
  refine Subscript_ (binT ha hb I h fun v u s2 x y H2 I2 rx ry q => ?_)
  obtain ⟨z, i, c, rfl, rfl, h0, h63, h1, hc, q⟩ := q
  obtain ⟨t, rfl⟩ := rx
  obtain ⟨t', rfl⟩ := ry
  have e : seqIndex? i z.length = some i.toNat := PySem.StrLaws.seqIndex_nonneg h0 h1
  exact tail_any (typeIs_str s2 z t) slot_str_getitem.lookup (getItem_str (c := c) (by
    have e1 : decide (i < -(2 ^ 63 : Int)) = false := decide_eq_false (by omega)
    have e2 : decide (i ≥ 2 ^ 63) = false := decide_eq_false (by omega)
    rw [e1, e2] <;> rfl) (by rw [e]; exact hc) ⟨.str ⟨#[c]⟩, H2, I2.tok _, ⟨_, rfl⟩, q⟩) (hs _ _)
/-- b[i], 0 ≤ i < len -/
theorem pe_item_byt (ha : PE X a ta) (hb : PE X b tb) (hs : PlainIxT b) :
    PE X (.Subscript a b pos) (tOp (fun x y H Q => ∃ (z : List UInt8) (i : Int), x = .byt z.toArray ∧ y = .int i ∧ z.length ≤ sizeLine ∧ 0 ≤ i ∧ i < z.length ∧ Q (.int ((z.getD i.toNat 0).toNat : Nat)) H) ta tb) := by
  intro pins s σ H Q I h
  refine Subscript_ (binT ha hb I h fun v u s2 x y H2 I2 rx ry q => ?_)
  obtain ⟨z, i, rfl, rfl, hz, h0, h1, q⟩ := q
  obtain ⟨t, rfl⟩ := rx
  obtain ⟨t', rfl⟩ := ry
  have hl : sizeLine = 16777216 := sizeLine_eq
  exact tail_any (PySem.W.typeIs_bytes s2 z.toArray t) PySem.W.FB.slot_bytes_getitem.lookup (PySem.W.getItem_bytes (by omega) h0 h1 ⟨.int ((z.getD i.toNat 0).toNat : Nat), H2, I2.tok _, ⟨_, rfl⟩, q⟩) (hs _ _)

/-! ### scalar builtins, by CallR -/
theorem vals1 {x : V} {us : List Value} (r : Vals [x] us) : ∃ u, us = [u] ∧ RelV x u := by
  cases r with
  | cons r1 r2 => cases r2; exact ⟨_, rfl, r1⟩
theorem vals2 {x y : V} {us : List Value} (r : Vals [x, y] us) : ∃ u w', us = [u, w'] ∧ RelV x u ∧ RelV y w' := by
  cases r with
  | cons r1 r2 =>
    cases r2 with
    | cons r3 r4 => cases r4; exact ⟨_, _, rfl, r1, r3⟩
theorem call_abs : CallR X (.builtin "abs") (fun xs H Q => ∃ i, xs = [.int i] ∧ Q (.int (if i < 0 then -i else i)) H) := by
  intro pins s σ H xs us Q I r h
  obtain ⟨i, rfl, q⟩ := h
  obtain ⟨u, rfl, t, rfl⟩ := vals1 r
  exact call_abs_int fun u tk => ⟨.int (if i < 0 then -i else i), H, I.tok _, ⟨_, rfl⟩, q⟩
theorem call_max2 (hc : X.calm = true) : CallR X (.builtin "max") (fun xs H Q => ∃ i j, xs = [.int i, .int j] ∧ Q (.int (if j > i then j else i)) H) := by
  intro pins s σ H xs us Q I r h
  obtain ⟨i, j, rfl, q⟩ := h
  obtain ⟨u, w', rfl, ⟨t, rfl⟩, ⟨t', rfl⟩⟩ := vals2 r
  refine max_two_ints (I.ok.hd hc) fun h' tk k => ⟨_, H, I.kept k, ?_, q⟩
  by_cases hj : j > i
  · rw [if_pos hj, if_pos hj]; exact ⟨_, rfl⟩
  · rw [if_neg hj, if_neg hj]; exact ⟨_, rfl⟩
theorem call_min2 (hc : X.calm = true) : CallR X (.builtin "min") (fun xs H Q => ∃ i j, xs = [.int i, .int j] ∧ Q (.int (if j < i then j else i)) H) := by
  intro pins s σ H xs us Q I r h
  obtain ⟨i, j, rfl, q⟩ := h
  obtain ⟨u, w', rfl, ⟨t, rfl⟩, ⟨t', rfl⟩⟩ := vals2 r
  refine min_two_ints (I.ok.hd hc) fun h' tk k => ⟨_, H, I.kept k, ?_, q⟩
  by_cases hj : j < i
  · rw [if_pos hj, if_pos hj]; exact ⟨_, rfl⟩
  · rw [if_neg hj, if_neg hj]; exact ⟨_, rfl⟩
theorem call_int1 : CallR X (.type "int") (fun xs H Q => (∃ i, xs = [.int i] ∧ Q (.int i) H) ∨ ∃ k, xs = [.bl k] ∧ Q (.int (if k then 1 else 0)) H) := by
  intro pins s σ H xs us Q I r h
  rcases h with ⟨i, rfl, q⟩ | ⟨k, rfl, q⟩
  · obtain ⟨u, rfl, t, rfl⟩ := vals1 r
    exact call_int_int ⟨.int i, H, I, ⟨_, rfl⟩, q⟩
  · obtain ⟨u, rfl, r1⟩ := vals1 r
    cases r1
    exact call_int_bool ⟨.int (if k then 1 else 0), H, I.tok _, ⟨_, rfl⟩, q⟩
theorem call_bool1 : CallR X (.type "bool") (fun xs H Q => (∃ i, xs = [.int i] ∧ Q (.bl (i != 0)) H) ∨ ∃ k, xs = [.bl k] ∧ Q (.bl k) H) := by
  intro pins s σ H xs us Q I r h
  rcases h with ⟨i, rfl, q⟩ | ⟨k, rfl, q⟩
  · obtain ⟨u, rfl, t, rfl⟩ := vals1 r
    exact call_bool_int ⟨.bl (i != 0), H, I, rfl, q⟩
  · obtain ⟨u, rfl, r1⟩ := vals1 r
    cases r1
    exact call_bool_bool ⟨.bl k, H, I, rfl, q⟩
theorem call_str_int : CallR X (.type "str") (fun xs H Q => ∃ i, xs = [.int i] ∧ i.natAbs.log2 < 1920 ∧ Q (.str (toString i)) H) := by
  intro pins s σ H xs us Q I r h
  obtain ⟨i, rfl, hz, q⟩ := h
  obtain ⟨u, rfl, t, rfl⟩ := vals1 r
  exact PySem.P.str_of_int hz ⟨.str _, H, I.tok _, ⟨_, rfl⟩, q⟩
theorem call_ord : CallR X (.builtin "ord") (fun xs H Q => ∃ x, xs = [.str x] ∧ x.length = 1 ∧ Q (.int (x.cps.getD 0 0 : Nat)) H) := by
  intro pins s σ H xs us Q I r h
  obtain ⟨x, rfl, hz, q⟩ := h
  obtain ⟨u, rfl, t, rfl⟩ := vals1 r
  exact ord_of_one hz ⟨.int _, H, I.tok _, ⟨_, rfl⟩, q⟩
theorem call_chr : CallR X (.builtin "chr") (fun xs H Q => ∃ i, xs = [.int i] ∧ 0 ≤ i ∧ i ≤ 1114111 ∧ Q (.str ⟨#[i.toNat]⟩) H) := by
  intro pins s σ H xs us Q I r h
  obtain ⟨i, rfl, h0, h1, q⟩ := h
  obtain ⟨u, rfl, t, rfl⟩ := vals1 r
  exact chr_of_range h0 h1 ⟨.str _, H, I.tok _, ⟨_, rfl⟩, q⟩
/-- len of a str, a bytes, a list, a tuple -/
def LenV (K : PySem.W.Frag) (x : V) (H : Hp) (n : Nat) : Prop :=
  match x with
  | .str y => y.length ≤ sizeLine ∧ n = y.length
  | .byt y => y.size ≤ sizeLine ∧ n = y.size
  | .ref p => (∃ xs, SqL K H p xs ∧ n = xs.length) ∨ ∃ xs, SqT K H p xs ∧ n = xs.length
  | _ => False
theorem call_len : CallR X (.builtin "len") (fun xs H Q => ∃ x n, xs = [x] ∧ LenV X.K x H n ∧ Q (.int n) H) := by
  intro pins s σ H xs us Q I r h
  obtain ⟨x, n, rfl, e, q⟩ := h
  obtain ⟨u, rfl, rx⟩ := vals1 r
  have hl := line63
  have hs : sizeLine = 16777216 := sizeLine_eq
  cases x with
  | str y =>
    obtain ⟨t, rfl⟩ := rx
    obtain ⟨hy, e'⟩ : y.length ≤ sizeLine ∧ n = y.length := e
    subst e'
    exact len_str (by omega) ⟨.int _, H, I.tok _, ⟨_, rfl⟩, q⟩
  | byt y =>
    obtain ⟨t, rfl⟩ := rx
    obtain ⟨hy, e'⟩ : y.size ≤ sizeLine ∧ n = y.size := e
    subst e'
    exact PySem.W.len_bytes (by omega) ⟨.int _, H, I.tok _, ⟨_, rfl⟩, q⟩
  | ref p =>
    cases rx
    have e' : (∃ xs, SqL X.K H p xs ∧ n = xs.length) ∨ ∃ xs, SqT X.K H p xs ∧ n = xs.length := e
    rcases e' with ⟨xs, hx, e'⟩ | ⟨xs, hx, e'⟩
    · subst e'
      obtain ⟨its, r', pl, hz⟩ := I.list hx
      have hlen := r'.length
      exact Calls.call_len_list pl.isList (by simp only [List.size_toArray]; omega) ⟨.int xs.length, H, I.tok _, ⟨_, by simp only [List.size_toArray]; rw [hlen]⟩, q⟩
    · subst e'
      obtain ⟨its, r', pl, hz⟩ := I.tuple hx
      have hlen := r'.length
      exact len_tuple pl (by simp only [List.size_toArray]; omega) ⟨.int xs.length, H, I.tok _, ⟨_, by simp only [List.size_toArray]; rw [hlen]⟩, q⟩
  | _ => exact (show False from e).elim
/-- divmod: a new tuple -/
theorem call_divmod : CallR X (.builtin "divmod") (fun xs H Q => ∃ i j, xs = [.int i, .int j] ∧ CDiv i j ∧ ∀ p, H p = none → Q (.ref p) (upd H p (.tup [.int (i / j), .int (i % j)]))) := by
  intro pins s σ H xs us Q I r h
  obtain ⟨i, j, rfl, ⟨h1, h2⟩, q⟩ := h
  obtain ⟨u, w', rfl, ⟨t, rfl⟩, ⟨t', rfl⟩⟩ := vals2 r
  refine divmod_int (by omega) ?_ (.inl (PyProof.noPylong_small (by omega)))
  rw [Int.fdiv_eq_ediv_of_nonneg i (by omega), Int.fmod_eq_emod_of_nonneg i (by omega)]
  have hn : H s.heap.objs.size = none := I.hok.fresh (Nat.le_refl _)
  refine ⟨.ref s.heap.objs.size, _, ?_, rfl, q _ hn⟩
  refine I.laid (fun b o e => Heap.get?_push_of_some _ e) (Nat.le_refl _) ⟨by simp only [List.length_cons, List.length_nil]; rw [sizeLine_eq]; decide, [.int (i / j) s.toks, .int (i % j) (s.toks + 1)], .cons ⟨_, rfl⟩ (.cons ⟨_, rfl⟩ .nil), ?_⟩
  exact ⟨_, Heap.get?_push_size s.heap rfl, rfl, 0, rfl⟩
end
end L2

namespace L2
open PySem PySem.Spec PyProof.Rows

/-! ### an instance, its attributes a map -/
structure ObjM (h : Heap) (x dx C : Addr) (mA : Str → Option Value) : Prop where
  obj : h.get? x = some (PySem.W.instObj C dx)
  ns : h.Ns1 dx mA
  ne : dx ≠ x

theorem lookIn_ns {h : Heap} {dx : Addr} {mA : Str → Option Value} (n : h.Ns1 dx mA) : ∃ od, h.get? dx = some od ∧ ∀ name, PySem.W.lookIn name od = some (mA name) := by
  obtain ⟨o, es, ep, ho, hd, hk, _, hm⟩ := n
  refine ⟨o, ho, fun name => ?_⟩
  have e := hm name
  unfold nsFind findBy at e
  rw [← Array.find?_toList] at e
  unfold PySem.W.lookIn
  rw [hd]
  dsimp only
  split
  · rename_i y q
    rw [q] at e
    exact congrArg some e
  · rename_i q
    rw [q] at e
    have a : es.toList.any (·.refKey) = false := by
      rw [List.any_eq_false]
      intro y hy
      obtain ⟨z, t, hkey⟩ := hk y (Array.mem_toList_iff.mp hy)
      simp [DictEntry.refKey, hkey]
    have a' : ¬ es.toList.any (·.refKey) = true := by rw [a]; exact Bool.false_ne_true
    rw [if_neg a']
    exact congrArg some e

theorem ObjM.look {h : Heap} {x dx C : Addr} {mA : Str → Option Value} (I : ObjM h x dx C mA) : ∃ od, PySem.W.InstAt h x (PySem.W.instObj C dx) C (some od) ∧ ∀ name, PySem.W.lookIn name od = some (mA name) :=
  let ⟨od, ho, hl⟩ := lookIn_ns I.ns
  ⟨od, ⟨I.obj, rfl, rfl, ho⟩, hl⟩

section
variable {prog : Program} {w : World} {A : Around} {E : Value → Shared → Prop} {s : Shared} {K : PySem.W.Frag} {x dx C f : Addr} {mA : Str → Option Value} {name : Str} {v : Value}

theorem get_map {expr : Bool} {Q : Value → Shared → Prop} (X : K.In s.heap) (I : ObjM s.heap x dx C mA) (hg : PySem.W.plainGet K C name = true) (hh : PySem.W.hasDictIn K C = true)
    (ha : PySem.W.findIn K (.ref C) name = some none) (hv : mA name = some v) (hv' : PySem.W.handedIn v = true) (h : Q v { s with toks := s.toks + 1 }) :
    wpAny (model prog w) A (getAttr (.ref x) name expr) Q E s := by
  obtain ⟨od, J, hl⟩ := I.look
  exact PySem.W.get_value X J (PySem.W.plainGet_of hg).1 (PySem.W.findObj_own hh ha rfl (by rw [hl, hv])) hv' h

theorem get_const {expr : Bool} {a : Value} {Q : Value → Shared → Prop} (X : K.In s.heap) (I : ObjM s.heap x dx C mA) (hg : PySem.W.plainGet K C name = true) (hh : PySem.W.hasDictIn K C = true)
    (ha : PySem.W.findIn K (.ref C) name = some (some a)) (hn : PySem.W.specialIn K a "__get__" = some none) (hc : PySem.W.copiedNames.contains name = false) (hv : mA name = none) (hv' : PySem.W.handedIn a = true)
    (h : Q a { s with toks := s.toks + 1 }) : wpAny (model prog w) A (getAttr (.ref x) name expr) Q E s := by
  obtain ⟨od, J, hl⟩ := I.look
  exact PySem.W.get_value X J (PySem.W.plainGet_of hg).1 (PySem.W.findObj_cls hh ha hn hv' hc (by rw [hl, hv])) hv' h

theorem get_meth {pl : Sem Bool} {Q : Value × List Value → Shared → Prop} (X : K.In s.heap) (I : ObjM s.heap x dx C mA) (hg : PySem.W.plainGet K C name = true)
    (hf : PySem.W.findIn K (.ref C) name = some (some (.ref f))) (ht : PySem.W.isFn K (.ref f) = true) (hv : mA name = none) (h : Q (.ref f, [.ref x]) s) :
    wpAny (model prog w) A (getMethod (.ref x) name pl) Q E s := by
  obtain ⟨od, J, hl⟩ := I.look
  exact PySem.W.method_fn X J (PySem.W.plainGet_of hg).1 (PySem.W.plainGet_of hg).2 hf (beq_iff_eq.mp ht) (by show (PySem.W.lookIn name od).map (·.isSome) = some false; rw [hl, hv]; rfl) h

theorem set_map {ns : List Str} {Q : Unit → Shared → Prop} (X : K.In s.heap) (I : ObjM s.heap x dx C mA)
    (hs : PySem.W.findIn K (.ref C) "__setattr__" = some (some (.builtin "object.__setattr__"))) (hp : PySem.W.plainOver K C = true) (ht : PySem.W.takerIn K C name = some none) (hh : PySem.W.hasDictIn K C = true)
    (hw : PySem.Within mA ns) (hsz : ns.length ≤ sizeLine)
    (h : ∀ h', ObjM h' x dx C (fun y => if y = name then some v else mA y) → Heap.SameBut dx s.heap h' → Q () { s with heap := h', toks := s.toks + 2 }) :
    wpAny (model prog w) A (setAttr (.ref x) name v) Q E s := by
  obtain ⟨od, J, hl⟩ := I.look
  refine PySem.W.set_plain X J hs (PySem.W.osa_open (s := { s with toks := s.toks + 1 }) (r := none) X J hp ht fun b => ?_)
  obtain ⟨cd, hc, hd'⟩ := PySem.W.any_some hh
  have hx : s.heap.get? x = some ⟨.ref C, some dx, .plain, #[]⟩ := I.obj
  refine wpAny_bind (wpAny_pure (wpAny_bind (wpAny_bind (wpAny_loadPart hx (wpAny_bind (PySem.W.Looks.here (s := { s with toks := s.toks + 1 }) (PySem.W.looks_clsIn X hc) ?_))))))
  rw [hd']
  refine wpAny_pure (a := some dx) (wpAny_bind (wpAny_pure (wpAny_bind ?_)))
  refine wpAny_nsSet1 (s := { s with toks := s.toks + 1 }) I.ns fun h' hn2 hs2 => ?_
  obtain ⟨oD, esD, epD, hoD, hdD, hcD⟩ := hn2.count (PySem.Within.cons name v hw)
  refine wpAny_bind (wpAny_lookBehind hoD (by rw [hdD]; exact pastItsLine_dict (Nat.le_trans hcD (by rw [List.length_cons]; omega))) ?_)
  exact wpAny_pure (h _ ⟨(hs2.2 _ (Ne.symm I.ne)).trans I.obj, hn2, I.ne⟩ hs2)

/-- C(..): the dict at the heap's end, the instance behind it; then its __init__ -/
theorem make_map {R : Result → Shared → Prop} {vs : List Value} {kw : List (Str × Value)} (X : K.In s.heap) (hm : PySem.W.makesIn K C = true)
    (hi : PySem.W.findIn K (.ref C) "__init__" = some (some (.ref f))) (hf : PySem.W.typeIn K (.ref f) = some (.type "function"))
    (h : codeAny (model prog w) (A.under (.builtin "type.__call__" ⟨.ref C :: vs, kw⟩)) (.call (.ref f) ⟨.ref (s.heap.objs.size + 1) :: vs, kw⟩) (PySem.W.InitBack (s.heap.objs.size + 1) R)
      { s with heap := (s.heap.push PySem.W.emptyDict).push (PySem.W.instObj C s.heap.objs.size) }) :
    codeAny (model prog w) A (.call (.ref C) ⟨vs, kw⟩) R s := by
  obtain ⟨hh, g, d, t, os⟩ := s
  exact PySem.W.make_core (PySem.W.makes_of X hm) (PySem.W.looks_findIn X hi) (fun self => PySem.W.bind_fn X self hf) (.inl rfl) h
/-- C() where there is no __init__ but object's -/
theorem make_map0 {R : Result → Shared → Prop} (X : K.In s.heap) (hm : PySem.W.makesIn K C = true)
    (hi : PySem.W.findIn K (.ref C) "__init__" = some (some (.builtin "object.__init__")))
    (hb : ∀ self, PySem.W.Looks (model prog w) s.heap (bindSpecial (.builtin "object.__init__") self) (.builtin "object.__init__", [self]))
    (h : codeAny (model prog w) (A.under (.builtin "type.__call__" ⟨[.ref C], []⟩)) (.call (.builtin "object.__init__") ⟨[.ref (s.heap.objs.size + 1)], []⟩) (PySem.W.InitBack (s.heap.objs.size + 1) R)
      { s with heap := (s.heap.push PySem.W.emptyDict).push (PySem.W.instObj C s.heap.objs.size) }) :
    codeAny (model prog w) A (.call (.ref C) ⟨[], []⟩) R s := by
  obtain ⟨hh, g, d, t, os⟩ := s
  exact PySem.W.make_core (PySem.W.makes_of X hm) (PySem.W.looks_findIn X hi) hb (.inr ⟨rfl, rfl⟩) h
end

/-! ### the attributes as a list of pairs -/
def putF (f : Str) (v : V) : List (Str × V) → List (Str × V)
  | [] => [(f, v)]
  | (g, x) :: r => if g = f then (g, v) :: r else (g, x) :: putF f v r
theorem lookup_putF (f g : Str) (v : V) : ∀ fs : List (Str × V), (putF f v fs).lookup g = if g = f then some v else fs.lookup g
  | [] => by
    show List.lookup g [(f, v)] = _
    by_cases h : g = f
    · have hb : (g == f) = true := beq_iff_eq.mpr h
      simp only [List.lookup, hb, if_pos h]
    · have hb : (g == f) = false := beq_eq_false_iff_ne.mpr h
      simp only [List.lookup, hb, if_neg h]
  | (k, x) :: r => by
    have ih := lookup_putF f g v r
    rw [show putF f v ((k, x) :: r) = (if k = f then (k, v) :: r else (k, x) :: putF f v r) from rfl]
    by_cases hk : k = f
    · rw [if_pos hk]
      by_cases h : g = k
      · have hb : (g == k) = true := beq_iff_eq.mpr h
        simp only [List.lookup, hb, if_pos (h.trans hk)]
      · have hb : (g == k) = false := beq_eq_false_iff_ne.mpr h
        simp only [List.lookup, hb, if_neg (fun e : g = f => h (e.trans hk.symm))]
    · rw [if_neg hk]
      by_cases h : g = k
      · have hb : (g == k) = true := beq_iff_eq.mpr h
        simp only [List.lookup, hb, if_neg (fun e : g = f => hk (h.symm.trans e))]
      · have hb : (g == k) = false := beq_eq_false_iff_ne.mpr h
        simp only [List.lookup, hb]
        exact ih
theorem keys_putF (f : Str) (v : V) : ∀ fs : List (Str × V), f ∈ (putF f v fs).map (·.1) ∧ ∀ g, g ∈ fs.map (·.1) → g ∈ (putF f v fs).map (·.1)
  | [] => ⟨by simp [putF], fun g h => by simp at h⟩
  | (k, x) :: r => by
    obtain ⟨i1, i2⟩ := keys_putF f v r
    rw [show putF f v ((k, x) :: r) = (if k = f then (k, v) :: r else (k, x) :: putF f v r) from rfl]
    by_cases hk : k = f
    · rw [if_pos hk]
      subst hk
      exact ⟨by simp, fun g h => by simpa using h⟩
    · rw [if_neg hk]
      refine ⟨?_, fun g h => ?_⟩
      · rw [List.map_cons]
        exact List.mem_cons_of_mem _ i1
      · rw [List.map_cons] at h ⊢
        rcases List.mem_cons.mp h with e | e
        · exact List.mem_cons.mpr (.inl e)
        · exact List.mem_cons_of_mem _ (i2 g e)
theorem length_putF (f : Str) (v : V) : ∀ fs : List (Str × V), (putF f v fs).length ≤ fs.length + 1
  | [] => by simp [putF]
  | (k, x) :: r => by
    have ih := length_putF f v r
    rw [show putF f v ((k, x) :: r) = (if k = f then (k, v) :: r else (k, x) :: putF f v r) from rfl]
    by_cases hk : k = f
    · rw [if_pos hk, List.length_cons, List.length_cons]; omega
    · rw [if_neg hk, List.length_cons, List.length_cons]; omega

theorem RelO.some_of {v : V} {o : Option Value} (r : RelO (some v) o) : ∃ u, o = some u ∧ RelV v u := by
  cases o with
  | none => exact (show False from r).elim
  | some u => exact ⟨u, rfl, r⟩
theorem RelO.none_of {o : Option Value} (r : RelO none o) : o = none := by
  cases o with
  | none => rfl
  | some u => exact (show False from r).elim
theorem handed_of {v : V} {u : Value} (r : RelV v u) : PySem.W.handedIn u = true := by
  cases v with
  | non => cases (show u = Value.none from r); rfl
  | bl b => cases (show u = Value.bool b from r); rfl
  | int i => obtain ⟨t, e⟩ := (show ∃ t, u = Value.int i t from r); cases e; rfl
  | str x => obtain ⟨t, e⟩ := (show ∃ t, u = Value.str x t from r); cases e; rfl
  | byt b => obtain ⟨t, e⟩ := (show ∃ t, u = Value.bytes b t from r); cases e; rfl
  | flt b => obtain ⟨t, e⟩ := (show ∃ t, u = Value.float b t from r); cases e; rfl
  | ref a => cases (show u = Value.ref a from r); rfl
  | ty n => cases (show u = Value.type n from r); rfl

section
variable {P : Program} {w : World} {H H' : Hp} {h h' : Heap} {a C dx : Addr} {fs fs' : List (Str × V)}
theorem ins_get (hok : HOk P w H h) (e : H a = some (.ins C dx fs)) : ∃ mA, ObjM h a dx C mA ∧ (∀ f, RelO (fs.lookup f) (mA f)) ∧ PySem.Within mA (fs.map (·.1)) ∧ fs.length ≤ 1000 ∧ H dx = some (.own a) := by
  obtain ⟨d, z, ne, ob, mA, n, r, q⟩ := (show ObjOk P w H h a (.ins C dx fs) from hok a _ e)
  exact ⟨mA, ⟨ob, n, ne⟩, r, q, z, d⟩
end

/-! ### what of the text a class must have -/
structure Cls (K : PySem.W.Frag) (C : Addr) : Prop where
  pg : PySem.W.plainGet K C Str.empty = true
  hd : PySem.W.hasDictIn K C = true
  po : PySem.W.plainOver K C = true
  sa : PySem.W.findIn K (.ref C) "__setattr__" = some (some (.builtin "object.__setattr__"))
theorem Cls.get {K : PySem.W.Frag} {C : Addr} (c : Cls K C) (f : Str) : PySem.W.plainGet K C f = true := c.pg
/-- no class of it has the name -/
def NoAttr (K : PySem.W.Frag) (C : Addr) (f : Str) : Prop := PySem.W.findIn K (.ref C) f = some none
theorem NoAttr.taker {K : PySem.W.Frag} {C : Addr} {f : Str} (n : NoAttr K C f) : PySem.W.takerIn K C f = some none := by
  unfold PySem.W.takerIn
  rw [show PySem.W.findIn K (.ref C) f = some none from n]
  rfl
/-- a constant of the class -/
structure Con (K : PySem.W.Frag) (C : Addr) (f : Str) (v : V) (u : Value) : Prop where
  at_ : PySem.W.findIn K (.ref C) f = some (some u)
  rel : RelV v u
  get : PySem.W.specialIn K u "__get__" = some none
  cp : PySem.W.copiedNames.contains f = false
/-- a method: a plain def of the class or of one above it -/
structure Meth (K : PySem.W.Frag) (C : Addr) (m : Str) (f : Addr) : Prop where
  at_ : PySem.W.findIn K (.ref C) m = some (some (.ref f))
  fn : PySem.W.isFn K (.ref f) = true
  kp : PySem.W.keepIn K (.ref f) = true

section
variable {X : Cx} {pins : List (Addr × Obj)} {σ : St} {H : Hp} {s : Shared} {a C dx : Addr} {fs : List (Str × V)} {f : Str} {v : V} {A : Around} {E : Value → Shared → Prop}

theorem getattr_ok {b : Bool} {Q : Value → Shared → Prop} (I : Inv X pins σ H s) (e : H a = some (.ins C dx fs)) (c : Cls X.K C) (n : NoAttr X.K C f) (l : fs.lookup f = some v)
    (h : ∀ u s', Inv X pins σ H s' → RelV v u → Q u s') : wpAny (model X.prog X.w) A (getAttr (.ref a) f b) Q E s := by
  obtain ⟨mA, O, r, _, _, _⟩ := ins_get I.hok e
  obtain ⟨u, hu, ru⟩ := RelO.some_of (v := v) (o := mA f) (by rw [← l]; exact r f)
  exact get_map I.kIn O (c.get f) c.hd n hu (handed_of ru) (h u _ (I.tok _) ru)

theorem getcon_ok {b : Bool} {u : Value} {Q : Value → Shared → Prop} (I : Inv X pins σ H s) (e : H a = some (.ins C dx fs)) (c : Cls X.K C) (k : Con X.K C f v u) (l : fs.lookup f = none)
    (h : ∀ s', Inv X pins σ H s' → Q u s') : wpAny (model X.prog X.w) A (getAttr (.ref a) f b) Q E s := by
  obtain ⟨mA, O, r, _, _, _⟩ := ins_get I.hok e
  have hn : mA f = none := RelO.none_of (by rw [← l]; exact r f)
  exact get_const I.kIn O (c.get f) c.hd k.at_ k.get k.cp hn (handed_of k.rel) (h _ (I.tok _))

theorem getmeth_ok {m : Str} {g : Addr} {pl : Sem Bool} {Q : Value × List Value → Shared → Prop} (I : Inv X pins σ H s) (e : H a = some (.ins C dx fs)) (c : Cls X.K C) (k : Meth X.K C m g) (l : fs.lookup m = none)
    (h : Q (.ref g, [.ref a]) s) : wpAny (model X.prog X.w) A (getMethod (.ref a) m pl) Q E s := by
  obtain ⟨mA, O, r, _, _, _⟩ := ins_get I.hok e
  have hn : mA m = none := RelO.none_of (by rw [← l]; exact r m)
  exact get_meth I.kIn O (c.get m) k.at_ k.fn hn h

theorem setattr_ok {y : V} {u : Value} {Q : Unit → Shared → Prop} (I : Inv X pins σ H s) (e : H a = some (.ins C dx fs)) (c : Cls X.K C) (n : NoAttr X.K C f) (hl : fs.length < 1000) (ry : RelV y u)
    (h : ∀ s', Inv X pins σ (upd H a (.ins C dx (putF f y fs))) s' → Q () s') : wpAny (model X.prog X.w) A (setAttr (.ref a) f u) Q E s := by
  obtain ⟨mA, O, r, wi, _, ho⟩ := ins_get I.hok e
  have hz : (fs.map (·.1)).length ≤ sizeLine := by rw [List.length_map, sizeLine_eq]; omega
  refine set_map I.kIn O c.sa c.po n.taker c.hd wi hz fun h' O' sb => h _ ?_
  have hd : ∃ o, h'.get? dx = some o := let ⟨o, _, _, e', _⟩ := O'.ns; ⟨o, e'⟩
  refine I.write (x := a) (e := dx) (by rw [e]; exact True.intro) (.inr ho) (fun b q hb z => (sb.2 b hb).trans z) hd ?_
  refine ⟨by rw [upd_ne O.ne]; exact ho, ?_, O.ne, O'.obj, _, O'.ns, fun g => ?_, fun g hg => ?_⟩
  · have := length_putF f y fs; omega
  · show RelO ((putF f y fs).lookup g) (if g = f then some u else mA g)
    rw [lookup_putF]
    by_cases q : g = f
    · rw [if_pos q, if_pos q]; exact ry
    · rw [if_neg q, if_neg q]; exact r g
  · by_cases q : g = f
    · rw [q]; exact (keys_putF f y fs).1
    · refine (keys_putF f y fs).2 g (wi g fun z => hg ?_)
      show (if g = f then some u else mA g) = none
      rw [if_neg q]; exact z

/-- a new instance, tracked, without attributes -/
theorem Inv.made (I : Inv X pins σ H s) : Inv X pins σ (upd (upd H s.heap.objs.size (.own (s.heap.objs.size + 1))) (s.heap.objs.size + 1) (.ins C s.heap.objs.size []))
    { s with heap := (s.heap.push PySem.W.emptyDict).push (PySem.W.instObj C s.heap.objs.size) } := by
  have e1 : (s.heap.push PySem.W.emptyDict).get? s.heap.objs.size = some PySem.W.emptyDict := Heap.get?_push_size s.heap rfl
  have e2 : ((s.heap.push PySem.W.emptyDict).push (PySem.W.instObj C s.heap.objs.size)).get? (s.heap.objs.size + 1) = some (PySem.W.instObj C s.heap.objs.size) := by
    have := Heap.get?_push_size (s.heap.push PySem.W.emptyDict) (o := PySem.W.instObj C s.heap.objs.size) rfl
    rwa [Heap.size_push] at this
  have e3 : (s.heap.push PySem.W.emptyDict).Ns s.heap.objs.size (fun _ => none) := ⟨PySem.W.emptyDict, #[], _, e1, rfl, (fun e he => absurd he (by simp)), fun _ => rfl⟩
  have I1 := I.laid (a := s.heap.objs.size) (o := .own (s.heap.objs.size + 1)) (h' := s.heap.push PySem.W.emptyDict) (t' := s.toks) (fun b u q => Heap.get?_push_of_some _ q) (Nat.le_refl _) ⟨_, e1⟩
  refine I1.laid (a := s.heap.objs.size + 1) (o := .ins C s.heap.objs.size []) (t' := s.toks) (fun b u q => Heap.get?_push_of_some _ q) (Nat.le_of_eq (Heap.size_push _ _)) ?_
  have ne : s.heap.objs.size ≠ s.heap.objs.size + 1 := Nat.ne_of_lt (Nat.lt_succ_self _)
  refine ⟨by rw [upd_ne ne, upd_same], Nat.zero_le _, ne, e2, fun _ => none, (Heap.Ns1.of_empty e3).at fun o q => Heap.get?_push_of_some _ q, fun _ => True.intro, fun y hy => absurd rfl hy⟩

/-- e.f where nothing but the object is asked: through attributeBase (super) and the last hold -/
theorem attr_of {prog : Program} {w : World} {env : Env} {e : Expr} {f : Str} {pos : Pos} {s : Shared} {Q : Value → Shared → Prop} (hb : attributeBase e f env (eval e env) = eval e env)
    (h : wpAny (model prog w) A (eval e env) (fun o s₁ => wpAny (model prog w) A (getAttr o f true) Q E s₁) E s) : wpAny (model prog w) A (eval (.Attribute e f pos) env) Q E s :=
  Attribute_any_ h (by rw [arm_eval_Attribute, hb])
end

/-! ### readings and rules -/
/-- e.f, an attribute of the instance -/
def tFld (K : PySem.W.Frag) (ta : TE) (f : Str) : TE := fun σ H Q => ta σ H fun x H1 => ∃ a C dx fs v, x = .ref a ∧ H1 a = some (.ins C dx fs) ∧ Cls K C ∧ NoAttr K C f ∧ fs.lookup f = some v ∧ Q v H1
/-- e.f, a constant of the class -/
def tCon (K : PySem.W.Frag) (ta : TE) (f : Str) : TE := fun σ H Q => ta σ H fun x H1 => ∃ a C dx fs v u, x = .ref a ∧ H1 a = some (.ins C dx fs) ∧ Cls K C ∧ Con K C f v u ∧ fs.lookup f = none ∧ Q v H1
/-- e.f = value -/
def sFld (K : PySem.W.Frag) (ta tv : TE) (f : Str) : TS := fun D σ H => tv σ H fun y H1 => ta σ H1 fun x H2 => ∃ a C dx fs, x = .ref a ∧ H2 a = some (.ins C dx fs) ∧ Cls K C ∧ NoAttr K C f ∧ fs.length < 1000 ∧
  D.nx σ (upd H2 a (.ins C dx (putF f y fs)))
/-- an augmented operator on two values -/
def InOp (X : Cx) (op : Operator) (rd : V → V → Hp → VK → Prop) : Prop :=
  ∀ (pins : List (Addr × Obj)) (s : Shared) (σ : St) (H : Hp) (x y : V) (u v : Value) (Q : VK), Inv X pins σ H s → RelV x u → RelV y v → rd x y H Q → wpAny (model X.prog X.w) X.A (inplaceOp op u v) (EP X pins σ Q) X.xe s
/-- e.f op= value -/
def sFldAug (K : PySem.W.Frag) (ta tv : TE) (rd : V → V → Hp → VK → Prop) (f : Str) : TS := fun D σ H => ta σ H fun x H1 => ∃ a C dx fs v, x = .ref a ∧ H1 a = some (.ins C dx fs) ∧ Cls K C ∧ NoAttr K C f ∧ fs.lookup f = some v ∧
  tv σ H1 fun y H2 => rd v y H2 fun z H3 => ∃ dx' fs', H3 a = some (.ins C dx' fs') ∧ fs'.length < 1000 ∧ D.nx σ (upd H3 a (.ins C dx' (putF f z fs')))

section
variable {X : Cx} {o e value : Expr} {f : Str} {pos pos' tpos : Pos} {ta tv : TE}
theorem pe_fld (he : PE X e ta) (hb : attributeBase e f X.env (eval e X.env) = eval e X.env) : PE X (.Attribute e f pos) (tFld X.K ta f) := by
  intro pins s σ H Q I h
  refine attr_of hb (thn (he pins s σ H _ I h) fun u s1 ⟨x, H1, I1, rx, a, C, dx, fs, v, ex, ea, c, n, l, q⟩ => ?_)
  subst ex
  obtain rfl : u = Value.ref a := rx
  exact getattr_ok I1 ea c n l fun u' s2 I2 ru => ⟨v, H1, I2, ru, q⟩
theorem pe_con (he : PE X e ta) (hb : attributeBase e f X.env (eval e X.env) = eval e X.env) : PE X (.Attribute e f pos) (tCon X.K ta f) := by
  intro pins s σ H Q I h
  refine attr_of hb (thn (he pins s σ H _ I h) fun u s1 ⟨x, H1, I1, rx, a, C, dx, fs, v, u0, ex, ea, c, k, l, q⟩ => ?_)
  subst ex
  obtain rfl : u = Value.ref a := rx
  exact getcon_ok I1 ea c k l fun s2 I2 => ⟨v, H1, I2, k.rel, q⟩
theorem ps_fld (ha : PE X o ta) (hv : PE X value tv) (hs : swapsWith value (some (.Attribute o f pos')) pos.line X.env = pure false) : PS X (.Assign [.Attribute o f pos'] value pos) (sFld X.K ta tv f) := by
  intro pins s σ H D I h
  refine plainObj_wpAny_Assign_Attribute (thn (hv pins s σ H _ I h) fun u s1 ⟨y, H1, I1, ry, q⟩ => thn (ha pins s1 σ H1 _ I1 q) fun ov s2 ⟨x, H2, I2, rx, a, C, dx, fs, ex, ea, c, n, l, q2⟩ => ?_) hs
  subst ex
  obtain rfl : ov = Value.ref a := rx
  exact setattr_ok I2 ea c n l ry fun s3 I3 => ⟨σ, _, I3, q2⟩
theorem ps_fldaug {op : Operator} {rd : V → V → Hp → VK → Prop} (ha : PE X o ta) (hv : PE X value tv) (hop : InOp X op rd) : PS X (.AugAssign (.Attribute o f tpos) op value pos) (sFldAug X.K ta tv rd f) := by
  intro pins s σ H D I h
  refine wpAny_AugAssign_AttributeAny (thn (ha pins s σ H _ I h) fun ov s1 ⟨x, H1, I1, rx, a, C, dx, fs, v, ex, ea, c, n, l, q⟩ => ?_)
  subst ex
  obtain rfl : ov = Value.ref a := rx
  refine getattr_ok I1 ea c n l fun u s2 I2 ru => thn (hv pins s2 σ H1 _ I2 q) fun w3 s3 ⟨y, H2, I3, ry, q3⟩ => thn (hop pins s3 σ H2 v y u w3 _ I3 ru ry q3) fun w4 s4 ⟨z, H3, I4, rz, dx', fs', ea', l', q4⟩ => ?_
  exact setattr_ok I4 ea' c n l' rz fun s5 I5 => ⟨σ, _, I5, q4⟩
def rAdd : V → V → Hp → VK → Prop := fun x y H Q => ∃ i j, x = .int i ∧ y = .int j ∧ Q (.int (i + j)) H
def rSub : V → V → Hp → VK → Prop := fun x y H Q => ∃ i j, x = .int i ∧ y = .int j ∧ Q (.int (i - j)) H
theorem in_add : InOp X .Add rAdd := by
  rintro pins s σ H x y u v Q I rx ry ⟨i, j, rfl, rfl, q⟩
  obtain ⟨t, rfl⟩ := (show ∃ t, u = Value.int i t from rx)
  obtain ⟨t', rfl⟩ := (show ∃ t', v = Value.int j t' from ry)
  exact PyProof.Rows.iadd_int ⟨.int (i + j), H, I.tok _, ⟨_, rfl⟩, q⟩
theorem in_sub : InOp X .Sub rSub := by
  rintro pins s σ H x y u v Q I rx ry ⟨i, j, rfl, rfl, q⟩
  obtain ⟨t, rfl⟩ := (show ∃ t, u = Value.int i t from rx)
  obtain ⟨t', rfl⟩ := (show ∃ t', v = Value.int j t' from ry)
  exact PyProof.Rows.isub_int ⟨.int (i - j), H, I.tok _, ⟨_, rfl⟩, q⟩

/-- what is between an instance and its method: the tree of a method call -/
theorem methcall_of {pl : Sem Bool} {m : Str} {apos : Pos} {args : List Expr} {pins : List (Addr × Obj)} {s : Shared} {σ : St} {H : Hp} {Q : Value → Shared → Prop} {te : TE} (he : PE X e te) (I : Inv X pins σ H s)
    (h : te σ H fun x H1 => ∃ a C dx fs g, x = .ref a ∧ H1 a = some (.ins C dx fs) ∧ Cls X.K C ∧ Meth X.K C m g ∧ fs.lookup m = none ∧
      ∀ s1, Inv X pins σ H1 s1 → wpAny (model X.prog X.w) X.A (callWith pos (.ref g) [.ref a] (backTo pos (starEach args X.env)) (backToKw pos (keywordEach [] X.env))) Q X.xe s1)
    (ht : eval (.Call (.Attribute e m apos) args [] pos) X.env = (do
      let ov ← eval e X.env
      standAt apos.atName
      let (f, first) ← holding [ov] (getMethod ov m pl)
      callWith pos f first (backTo pos (starEach args X.env)) (backToKw pos (keywordEach [] X.env)))) :
    wpAny (model X.prog X.w) X.A (eval (.Call (.Attribute e m apos) args [] pos) X.env) Q X.xe s := by
  refine PySem.W.methodCall_KW (pl := pl) (thn (he pins s σ H _ I h) fun u s1 ⟨x, H1, I1, rx, a, C, dx, fs, g, ex, ea, c, k, l, q⟩ => ?_) ht
  subst ex
  obtain rfl : u = Value.ref a := rx
  exact getmeth_ok I1 ea c k l (q s1 I1)
end

/-! ### isinstance -/
section
variable {X : Cx} {pins : List (Addr × Obj)} {σ : St} {H : Hp} {s : Shared} {A : Around} {E : Value → Shared → Prop} {Q : Value → Shared → Prop} {c : Value} {b : Bool}
/-- the type of a value, as the fragment's deciders take it; for an instance its class -/
inductive TyOf (K : PySem.W.Frag) (H : Hp) : V → Value → Prop where
  | non : TyOf K H .non (.type "NoneType")
  | bl (x : Bool) : TyOf K H (.bl x) (.type "bool")
  | int (i : Int) : TyOf K H (.int i) (.type "int")
  | str (x : Str) : TyOf K H (.str x) (.type "str")
  | flt (x : UInt64) : TyOf K H (.flt x) (.type "float")
  | lst {a : Addr} {xs : List V} (e : H a = some (.lst xs)) : TyOf K H (.ref a) (.type "list")
  | frz {a : Addr} {o : Obj} {xs : List V} (e : H a = some (.frz o (.lst xs))) : TyOf K H (.ref a) (.type "list")
  | tup {a : Addr} {xs : List V} (e : H a = some (.tup xs)) : TyOf K H (.ref a) (.type "tuple")
  | dK {a : Addr} {kvs : List (Key × V)} (e : H a = some (.dK kvs)) : TyOf K H (.ref a) (.type "dict")
  | dT {a : Addr} {kvs : List (List Key × V)} (e : H a = some (.dT kvs)) : TyOf K H (.ref a) (.type "dict")
  | ins {a C dx : Addr} {fs : List (Str × V)} (e : H a = some (.ins C dx fs)) (cl : Cls K C) (ha : PySem.W.findIn K (.ref C) "__class__" = some (some (.builtin "object.__class__")))
      (hn : PySem.W.specialIn K (.builtin "object.__class__") "__get__" = some (some (.builtin "getset_descriptor.__get__"))) (htk : PySem.W.takesIn K (.builtin "object.__class__") = some true)
      (hm : PySem.W.mroIn K C (.type "object") = some true) : TyOf K H (.ref a) (.ref C)
/-- isinstance(x, c) for one class c, a built-in or an own one: kitOne's answer -/
theorem isinst_ok {x : V} {u t : Value} (I : Inv X pins σ H s) (rx : RelV x u) (ty : TyOf X.K H x t) (e : PySem.W.kitOne X.K t c = some b) (h : ∀ tk, Q (.bool b) { s with toks := tk }) :
    wpAny (model X.prog X.w) A (call (.builtin "isinstance") [u, c]) Q E s := by
  cases ty with
  | non => cases (show u = Value.none from rx); exact PySem.W.kia_one PySem.W.kitx_none I.kIn True.intro e (fun z => nomatch z) h
  | bl y => cases (show u = Value.bool y from rx); exact PySem.W.kia_one PySem.W.kitx_bool I.kIn True.intro e (fun z => nomatch z) h
  | int i => obtain ⟨t, q⟩ := (show ∃ t, u = Value.int i t from rx); cases q; exact PySem.W.kia_one PySem.W.kitx_int I.kIn True.intro e (fun z => nomatch z) h
  | str y => obtain ⟨t, q⟩ := (show ∃ t, u = Value.str y t from rx); cases q; exact PySem.W.kia_one PySem.W.kitx_str I.kIn True.intro e (fun z => nomatch z) h
  | flt y => obtain ⟨t, q⟩ := (show ∃ t, u = Value.float y t from rx); cases q; exact PySem.W.kia_one PySem.W.kitx_float I.kIn True.intro e (fun z => nomatch z) h
  | @lst a xs ea =>
    cases (show u = Value.ref a from rx)
    obtain ⟨_, _, n, _, h1⟩ := (show ObjOk X.prog X.w H s.heap a (.lst xs) from I.hok a _ ea)
    exact PySem.W.kia_one PySem.W.kitx_list I.kIn ⟨_, h1, rfl⟩ e (fun z => nomatch z) h
  | @frz a ob xs ea =>
    cases (show u = Value.ref a from rx)
    obtain ⟨_, _, _, n, _, h1⟩ := (show ObjOk X.prog X.w H s.heap a (.frz ob (.lst xs)) from I.hok a _ ea)
    exact PySem.W.kia_one PySem.W.kitx_list I.kIn ⟨_, h1, rfl⟩ e (fun z => nomatch z) h
  | @tup a xs ea =>
    cases (show u = Value.ref a from rx)
    obtain ⟨_, _, _, p⟩ := (show ObjOk X.prog X.w H s.heap a (.tup xs) from I.hok a _ ea)
    obtain ⟨o, h1, h2, _⟩ := p
    exact PySem.W.kia_one PySem.W.kitx_tuple I.kIn ⟨o, h1, h2⟩ e (fun z => nomatch z) h
  | @dK a kvs ea =>
    cases (show u = Value.ref a from rx)
    obtain ⟨_, _, vs, _, p⟩ := (show ObjOk X.prog X.w H s.heap a (.dK kvs) from I.hok a _ ea)
    obtain ⟨o, es, ep, h1, h2, _⟩ := p
    exact PySem.W.kia_one PySem.W.kitx_dict I.kIn ⟨o, h1, h2.1⟩ e (fun z => nomatch z) h
  | @dT a kvs ea =>
    cases (show u = Value.ref a from rx)
    obtain ⟨_, _, xs, _, o, es, ep, h1, h2, _⟩ := (show ObjOk X.prog X.w H s.heap a (.dT kvs) from I.hok a _ ea)
    exact PySem.W.kia_one PySem.W.kitx_dict I.kIn ⟨o, h1, h2.1⟩ e (fun z => nomatch z) h
  | @ins a C dx fs ea cl ha hn htk hm =>
    cases (show u = Value.ref a from rx)
    obtain ⟨mA, O, _⟩ := ins_get I.hok ea
    obtain ⟨od, J, _⟩ := O.look
    exact PySem.W.kia_one (PySem.W.kitx_own (cl.get _) cl.hd ha hn htk hm) I.kIn J e (fun z => nomatch z) h
end
end L2

namespace L2
open PySem PySem.Spec PyProof.Rows

/-! ### room -/
structure Room (k : Nat) (A : Around) : Prop where
  hd : A.handled = none
  dp : A.depth + 3 * k + 5 < recursionLimit
  un : A.units + 16 * k + 200 < cLine
theorem Room.mono {j k : Nat} {A : Around} (r : Room k A) (h : j ≤ k) : Room j A := ⟨r.hd, by have := r.dp; omega, by have := r.un; omega⟩
theorem Room.deeper {k : Nat} {A : Around} (r : Room (k + 1) A) (env : Env) : Room k (A.deeper env) :=
  ⟨r.hd, by have := r.dp; show A.depth + 1 + 3 * k + 5 < _; omega, by have := r.un; show A.units + 3 + 16 * k + 200 < _; omega⟩
theorem Room.in1 {k : Nat} {A : Around} (r : Room (k + 1) A) : Room k A.in1 :=
  ⟨r.hd, by have := r.dp; show A.depth + 3 * k + 5 < _; omega, by have := r.un; show A.units + 1 + 16 * k + 200 < _; omega⟩
theorem make_depth {A : Around} {C : Addr} {us : List Value} {kw : List (Str × Value)} : (A.under (.builtin "type.__call__" ⟨.ref C :: us, kw⟩)).depth = A.depth + 1 := by
  first | rfl | simp [Around.under, Code.weight, Code.isCreation, Code.isGuard, Code.isCaller, Code.frames, Code.isFrame, guardIds]
theorem make_units {A : Around} {C : Addr} {us : List Value} {kw : List (Str × Value)} : (A.under (.builtin "type.__call__" ⟨.ref C :: us, kw⟩)).units = A.units + 1 := by
  first | rfl | simp [Around.under, Code.cUnits, Code.frames, Code.isFrame]
theorem Room.make {k : Nat} {A : Around} (r : Room (k + 1) A) (C : Addr) (us : List Value) (kw : List (Str × Value)) : Room k (A.under (.builtin "type.__call__" ⟨.ref C :: us, kw⟩)) :=
  ⟨r.hd, by have := r.dp; rw [make_depth]; omega, by have := r.un; rw [make_units]; omega⟩
theorem Room.depth {k : Nat} {A : Around} (r : Room k A) : A.depth < recursionLimit := by have := r.dp; omega
theorem Room.units {k : Nat} {A : Around} (r : Room k A) : A.units + 64 < cLine := by have := r.un; omega
theorem Room.units0 {k : Nat} {A : Around} (r : Room k A) : A.units < cLine := by have := r.un; omega

/-! ### argument lists and displays -/
def tNil : TA := fun _ H Q => Q [] H
def tCons (ta : TE) (tr : TA) : TA := fun σ H Q => ta σ H fun x H1 => tr σ H1 fun xs H2 => Q (x :: xs) H2
section
variable {X : Cx} {e : Expr} {es : List Expr} {te : TE} {t : TA} {pos : Pos}
theorem pa_nil : PA X [] tNil := fun _ _ _ _ H Q I h => Calls.spliced_nil ⟨[], H, I, .nil, h⟩
theorem pa_cons (ha : PE X e te) (hr : PA X es t) (hs : starEach (e :: es) X.env = (false, eval e X.env) :: starEach es X.env := by rfl) : PA X (e :: es) (tCons te t) := by
  intro pos pins s σ H Q I h
  rw [hs]
  show wpAny _ _ (spliced ((false, eval e X.env) :: backTo pos (starEach es X.env))) _ _ s
  refine Calls.spliced_cons (thn (ha pins s σ H _ I h) fun u s1 ⟨x, H1, I1, r1, q1⟩ => ?_)
  exact thn (hr pos pins s1 σ H1 _ I1 q1) fun us s2 ⟨xs, H2, I2, r2, q2⟩ => ⟨x :: xs, H2, I2, .cons r1 r2, q2⟩

/-- a tuple, a list of written items -/
def tTup (t : TA) : TE := fun σ H Q => t σ H fun xs H1 => xs.length ≤ sizeLine ∧ ∀ p, H1 p = none → Q (.ref p) (upd H1 p (.tup xs))
def tLst (t : TA) : TE := fun σ H Q => t σ H fun xs H1 => xs.length ≤ sizeLine ∧ ∀ p, H1 p = none → Q (.ref p) (upd H1 p (.lst xs))
theorem pe_tup {x1} (h : PA X es t) : PE X (.Tuple es x1 pos) (tTup t) := by
  intro pins s σ H Q I hq
  refine wpAny_Tuple_spliced (thn (h pos pins s σ H _ I hq) fun us s1 ⟨xs, H1, I1, r, z, q⟩ => ⟨by rw [← r.length]; exact z, ?_⟩)
  have hf : H1 s1.heap.objs.size = none := I1.hok.fresh (Nat.le_refl _)
  refine ⟨.ref s1.heap.objs.size, upd H1 s1.heap.objs.size (.tup xs), I1.laid (t' := s1.toks) (fun b u e => Heap.get?_push_of_some _ e) (Nat.le_refl _) ?_, rfl, q _ hf⟩
  exact ⟨z, us, r, ⟨_, Heap.get?_push_size _ rfl, rfl, _, rfl⟩⟩
theorem pe_lst (h : PA X es t) : PE X (.List es pos) (tLst t) := by
  intro pins s σ H Q I hq
  refine wpAny_List_spliced (thn (h pos pins s σ H _ I hq) fun us s1 ⟨xs, H1, I1, r, z, q⟩ => ⟨by rw [← r.length]; exact z, ?_⟩)
  have hf : H1 s1.heap.objs.size = none := I1.hok.fresh (Nat.le_refl _)
  refine ⟨.ref s1.heap.objs.size, upd H1 s1.heap.objs.size (.lst xs), I1.laid (t' := s1.toks) (fun b u e => Heap.get?_push_of_some _ e) (Nat.le_refl _) ?_, rfl, q _ hf⟩
  exact ⟨z, us, 0, r, Heap.get?_push_size _ rfl⟩
end

/-! ### what a def promises -/
/-- a def's promise: the bound arguments in the parameters' order, the heap, the wanted end, the wanted exception -/
abbrev Sp := List V → Hp → VK → XK → Prop
/-- how an exception lies behind a call (file 08 gives it): the callers' frames, abstract heap and state ahead of the call, the wish, the exception, the state -/
abbrev CXT := List Env → Hp → Shared → XK → Value → Shared → Prop

/-- the state at a call -/
structure Env0 (P : Program) (w : World) (K : PySem.W.Frag) (mg : Str → Option Value) (base : Heap) (A : Around) (outer : List Env) (s : Shared) (H : Hp) : Prop where
  frames : A.frames = some outer
  mod : Mod K mg base
  bs : ∀ b o, base.get? b = some o → s.heap.get? b = some o ∧ H b = none
  bsz : base.objs.size ≤ s.heap.objs.size
  funs : s.heap.FunFrames base outer
  frf : ∀ b ∈ frs outer, H b = none
  hok : HOk P w H s.heap
  bare : AllBare s.gens
/-- a call's end -/
def CE (outer : List Env) (P : Program) (w : World) (H : Hp) (s : Shared) (Q : VK) (u : Value) (s' : Shared) : Prop :=
  ∃ v H', s'.os = s.os ∧ AllBare s'.gens ∧ Un (frs outer) [] H H' s.heap s'.heap ∧ HOk P w H' s'.heap ∧ RelV v u ∧ Q v H'
def CR (CX : CXT) (outer : List Env) (P : Program) (w : World) (H : Hp) (s : Shared) (Q : VK) (E : XK) (r : Result) (s' : Shared) : Prop :=
  match r with
  | .ok (.ret u) => CE outer P w H s Q u s'
  | .ok _ => False
  | .error e => CX outer H s E e s'
structure FnOk (P : Program) (w : World) (K : PySem.W.Frag) (mg : Str → Option Value) (base : Heap) (CX : CXT) (k : Nat) (f : Addr) (fd : FuncData) (ps : List Str) (sp : Sp) : Prop where
  len : ∀ vs H Q E, sp vs H Q E → vs.length = ps.length
  run : ∀ (A : Around) (outer : List Env) (s : Shared) (H : Hp) (args : Args) (us : List Value) (vs : List V) (Q : VK) (E : XK), Room k A → Env0 P w K mg base A outer s H → BindsTo s fd args (ps.zip us) → Vals vs us → sp vs H Q E →
    codeAny (model P w) A (.call (.ref f) args) (CR CX outer P w H s Q E) s
theorem FnOk.mono {P : Program} {w : World} {K : PySem.W.Frag} {mg : Str → Option Value} {base : Heap} {CX : CXT} {j k : Nat} {f : Addr} {fd : FuncData} {ps : List Str} {sp : Sp} (F : FnOk P w K mg base CX j f fd ps sp) (h : j ≤ k) :
    FnOk P w K mg base CX k f fd ps sp := ⟨F.len, fun A outer s H args us vs Q E hr => F.run A outer s H args us vs Q E (hr.mono h)⟩
/-- a weaker promise -/
theorem FnOk.imp {P : Program} {w : World} {K : PySem.W.Frag} {mg : Str → Option Value} {base : Heap} {CX : CXT} {k : Nat} {f : Addr} {fd : FuncData} {ps : List Str} {sp sp' : Sp} (F : FnOk P w K mg base CX k f fd ps sp)
    (h : ∀ vs H Q E, sp' vs H Q E → sp vs H Q E) : FnOk P w K mg base CX k f fd ps sp' :=
  ⟨fun vs H Q E q => F.len vs H Q E (h _ _ _ _ q), fun A outer s H args us vs Q E hr he hb hv hs => F.run A outer s H args us vs Q E hr he hb hv (h _ _ _ _ hs)⟩

theorem Env0.make {P : Program} {w : World} {K : PySem.W.Frag} {mg : Str → Option Value} {base : Heap} {A : Around} {outer : List Env} {s : Shared} {H : Hp} (e : Env0 P w K mg base A outer s H) (C : Addr) (us : List Value) (kw : List (Str × Value)) :
    Env0 P w K mg base (A.under (.builtin "type.__call__" ⟨.ref C :: us, kw⟩)) outer s H := ⟨by first | exact e.frames | (simpa [Around.under, Code.envs, Code.isFrame, pushEnvs] using e.frames), e.mod, e.bs, e.bsz, e.funs, e.frf, e.hok, e.bare⟩
theorem Env0.in1 {P : Program} {w : World} {K : PySem.W.Frag} {mg : Str → Option Value} {base : Heap} {A : Around} {outer : List Env} {s : Shared} {H : Hp} (e : Env0 P w K mg base A outer s H) :
    Env0 P w K mg base A.in1 outer s H := ⟨e.frames, e.mod, e.bs, e.bsz, e.funs, e.frf, e.hok, e.bare⟩

section
variable {X : Cx} {pins : List (Addr × Obj)} {σ : St} {H : Hp} {s s' : Shared}
/-- from a body: what a callee wants -/
theorem Inv.env0 (I : Inv X pins σ H s) : Env0 X.prog X.w X.K X.mg X.base X.A X.stack s H :=
  ⟨I.ok.frames, I.ok.mod, I.bs, Nat.le_trans I.ok.bsz I.sz, I.stack, I.stkFree, I.hok, I.bare⟩
/-- behind a call -/
theorem Inv.after {Q : VK} {u : Value} (I : Inv X pins σ H s) (h : CE X.stack X.prog X.w H s Q u s') : EP X pins σ Q u s' := by
  obtain ⟨v, H', os, bare, un, hok, r, q⟩ := h
  obtain ⟨hh, g, d, t, os'⟩ := s'
  obtain rfl : os' = s.os := os
  exact ⟨v, H', I.call (h' := hh) (g' := g) (d' := d) (t' := t) (ch := []) un hok bare (fun b z => absurd z (by simp)), r, q⟩
end

/-! ### calls -/
/-- f(..): the written arguments, then the defaults dvs; E: what is wanted of an exception -/
def tCall (sp : Sp) (dvs : List V) (E : XK) (t : TA) : TE := fun σ H Q => t σ H fun vs H1 => sp (vs ++ dvs) H1 Q E
/-- o.m(..) of an instance of the class at C -/
def tMeth (C : Addr) (m : Str) (sp : Sp) (dvs : List V) (E : XK) (ta : TE) (t : TA) : TE := fun σ H Q => ta σ H fun x H1 => ∃ a dx fs, x = .ref a ∧ H1 a = some (.ins C dx fs) ∧ fs.lookup m = none ∧
  t σ H1 fun vs H2 => sp (x :: (vs ++ dvs)) H2 Q E
/-- C(..): a new instance and its dict, then __init__ -/
def tMake (C : Addr) (sp : Sp) (dvs : List V) (E : XK) (t : TA) : TE := fun σ H Q => t σ H fun vs H1 => ∀ x dx, H1 x = none → H1 dx = none → dx ≠ x →
  sp (.ref x :: (vs ++ dvs)) (upd (upd H1 dx (.own x)) x (.ins C dx [])) (fun v H2 => v = .non ∧ Q (.ref x) H2) E

/-- how the parameters are bound: us the positional arguments, kw the keywords' values by name, ds the defaults that fill up -/
def Binds (K : PySem.W.Frag) (fd : FuncData) (ps : List Str) (ds : List Value) : Prop :=
  ∀ (s : Shared) (us : List Value), K.In s.heap → (us ++ ds).length = ps.length → BindsTo s fd ⟨us, []⟩ (ps.zip (us ++ ds))
/-- every parameter is given -/
theorem Binds.all {K : PySem.W.Frag} {fd : FuncData} {ps : List Str} (h : ∀ us : List Value, us.length = ps.length → bindArgs fd ⟨us, []⟩ = pure (ps.zip us)) : Binds K fd ps [] := fun s us _ hl => by
  rw [List.append_nil] at hl ⊢
  exact .of_eq (h us hl)

/-- an exception of a callee reaches what this body wants of exceptions -/
def Passes (CX : CXT) (X : Cx) (E : XK) : Prop := ∀ (pins : List (Addr × Obj)) (σ : St) (H : Hp) (s : Shared) (e : Value) (s' : Shared), Inv X pins σ H s → CX X.stack H s E e s' → X.xe e s'

section
variable {X : Cx} {CX : CXT} {k : Nat} {f C : Addr} {fd : FuncData} {ps : List Str} {sp : Sp} {dvs : List V} {ds : List Value} {E : XK} {x m : Str} {p pos apos : Pos} {e o : Expr} {es : List Expr} {ta : TE} {t : TA}

/-- the callee runs -/
theorem run_fn {pins : List (Addr × Obj)} {σ : St} {H : Hp} {s : Shared} {Q : VK} {us : List Value} {vs : List V} (F : FnOk X.prog X.w X.K X.mg X.base CX k f fd ps sp) (hr : Room k X.A) (hb : Binds X.K fd ps ds) (hd : Vals dvs ds) (hx : Passes CX X E)
    (I : Inv X pins σ H s) (r : Vals vs us) (h : sp (vs ++ dvs) H Q E) : wpAny (model X.prog X.w) X.A (call (.ref f) us) (EP X pins σ Q) X.xe s := by
  have r2 : Vals (vs ++ dvs) (us ++ ds) := r.append hd
  have hl : (us ++ ds).length = ps.length := by rw [← r2.length]; exact F.len _ _ _ _ h
  refine wpAny_call (codeAny_mono (F.run X.A X.stack s H ⟨us, []⟩ (us ++ ds) (vs ++ dvs) Q E hr I.env0 (hb s us I.kIn hl) r2 h) fun r s' hq => ?_)
  cases r with
  | error e => exact hx pins σ H s e s' I hq
  | ok fl =>
    cases fl with
    | ret u => exact I.after hq
    | next => exact False.elim hq
    | brk => exact False.elim hq
    | cont => exact False.elim hq

theorem pe_call (F : FnOk X.prog X.w X.K X.mg X.base CX k f fd ps sp) (hr : Room k X.A) (hg : Gl X x) (hm : X.mg x = some (.ref f)) (hk : PySem.W.keepIn X.K (.ref f) = true) (hb : Binds X.K fd ps ds) (hd : Vals dvs ds) (hx : Passes CX X E)
    (ha : PA X (e :: es) t) (hdb : (x == ("__debug__" : Str)) = false := by decide) (he : starEach (e :: es) X.env = (false, eval e X.env) :: starEach es X.env := by rfl) (hpl : (backTo pos (starEach es X.env)).any (·.1) = false := by rfl) :
    PE X (.Call (.Name x p) (e :: es) [] pos) (tCall sp dvs E t) := by
  intro pins s σ H Q I h
  refine wpAny_Call_Name_kw (ld_glob I hg hm ?_ hdb)
  refine PySem.W.callWith_K (h₀ := X.base) I.ok.mod.kin hk (thn (ha pos pins s σ H _ I h) fun us s1 ⟨vs, H1, I1, r, q⟩ => ⟨I1.kIn, ?_⟩) he hpl
  exact run_fn F hr hb hd hx I1 r q
theorem pe_call0 (F : FnOk X.prog X.w X.K X.mg X.base CX k f fd ps sp) (hr : Room k X.A) (hg : Gl X x) (hm : X.mg x = some (.ref f)) (hk : PySem.W.keepIn X.K (.ref f) = true) (hb : Binds X.K fd ps ds) (hd : Vals dvs ds) (hx : Passes CX X E)
    (hdb : (x == ("__debug__" : Str)) = false := by decide) : PE X (.Call (.Name x p) [] [] pos) (tCall sp dvs E tNil) := by
  intro pins s σ H Q I h
  refine wpAny_Call_Name_kw (ld_glob I hg hm ?_ hdb)
  exact PySem.W.callWith_K0 I.kIn hk (run_fn (us := []) F hr hb hd hx I .nil h)

/-- o.m(e, ..) -/
theorem pe_meth {pl : Sem Bool} (he : PE X o ta) (c : Cls X.K C) (hm : Meth X.K C m f) (F : FnOk X.prog X.w X.K X.mg X.base CX k f fd ps sp) (hr : Room k X.A) (hb : Binds X.K fd ps ds) (hd : Vals dvs ds) (hx : Passes CX X E) (ha : PA X (e :: es) t)
    (hst : starEach (e :: es) X.env = (false, eval e X.env) :: starEach es X.env := by rfl) (hpl : (backTo pos (starEach es X.env)).any (·.1) = false := by rfl)
    (ht : eval (.Call (.Attribute o m apos) (e :: es) [] pos) X.env = (do
      let ov ← eval o X.env
      standAt apos.atName
      let (f, first) ← holding [ov] (getMethod ov m pl)
      callWith pos f first (backTo pos (starEach (e :: es) X.env)) (backToKw pos (keywordEach [] X.env))) := by rfl) :
    PE X (.Call (.Attribute o m apos) (e :: es) [] pos) (tMeth C m sp dvs E ta t) := by
  intro pins s σ H Q I h
  refine PySem.W.methodCall_KW (pl := pl) (thn (he pins s σ H _ I h) fun u s1 ⟨x, H1, I1, rx, a, dx, fs, ex, ea, l, q⟩ => ?_) ht
  subst ex
  obtain rfl : u = Value.ref a := rx
  refine getmeth_ok I1 ea c hm l ?_
  refine PySem.W.callWith_K (first := [.ref a]) (h₀ := X.base) I.ok.mod.kin hm.kp (thn (ha pos pins s1 σ H1 _ I1 q) fun us s2 ⟨vs, H2, I2, r, q2⟩ => ⟨I2.kIn, ?_⟩) hst hpl
  exact run_fn (us := .ref a :: us) (vs := .ref a :: vs) F hr hb hd hx I2 (.cons rfl r) q2
/-- o.m() -/
theorem pe_meth0 {pl : Sem Bool} (he : PE X o ta) (c : Cls X.K C) (hm : Meth X.K C m f) (F : FnOk X.prog X.w X.K X.mg X.base CX k f fd ps sp) (hr : Room k X.A) (hb : Binds X.K fd ps ds) (hd : Vals dvs ds) (hx : Passes CX X E)
    (ht : eval (.Call (.Attribute o m apos) [] [] pos) X.env = (do
      let ov ← eval o X.env
      standAt apos.atName
      let (f, first) ← holding [ov] (getMethod ov m pl)
      callWith pos f first (backTo pos (starEach [] X.env)) (backToKw pos (keywordEach [] X.env))) := by rfl) :
    PE X (.Call (.Attribute o m apos) [] [] pos) (tMeth C m sp dvs E ta tNil) := by
  intro pins s σ H Q I h
  refine PySem.W.methodCall_KW (pl := pl) (thn (he pins s σ H _ I h) fun u s1 ⟨x, H1, I1, rx, a, dx, fs, ex, ea, l, q⟩ => ?_) ht
  subst ex
  obtain rfl : u = Value.ref a := rx
  refine getmeth_ok I1 ea c hm l ?_
  exact PySem.W.callWith_K0 (first := [.ref a]) I1.kIn hm.kp (run_fn (us := [.ref a]) (vs := [.ref a]) F hr hb hd hx I1 (.cons rfl .nil) q)

/-- what a class must have to be made -/
structure Mk (K : PySem.W.Frag) (C f : Addr) : Prop where
  makes : PySem.W.makesIn K C = true
  init : PySem.W.findIn K (.ref C) "__init__" = some (some (.ref f))
  fn : PySem.W.isFn K (.ref f) = true
  kp : PySem.W.keepIn K (.ref C) = true

theorem run_make {pins : List (Addr × Obj)} {σ : St} {H : Hp} {s : Shared} {Q : VK} {us : List Value} {vs : List V} (M : Mk X.K C f) (F : FnOk X.prog X.w X.K X.mg X.base CX k f fd ps sp) (hr : Room (k + 1) X.A) (hb : Binds X.K fd ps ds) (hd : Vals dvs ds)
    (hx : Passes CX X E) (I : Inv X pins σ H s) (r : Vals vs us)
    (h : ∀ x dx, H x = none → H dx = none → dx ≠ x → sp (.ref x :: (vs ++ dvs)) (upd (upd H dx (.own x)) x (.ins C dx [])) (fun v H2 => v = .non ∧ Q (.ref x) H2) E) :
    wpAny (model X.prog X.w) X.A (call (.ref C) us) (EP X pins σ Q) X.xe s := by
  have hq := h (s.heap.objs.size + 1) s.heap.objs.size (I.hok.fresh (Nat.le_succ _)) (I.hok.fresh (Nat.le_refl _)) (Nat.ne_of_lt (Nat.lt_succ_self _))
  have I2 := Inv.made (C := C) I
  have r2 : Vals (V.ref (s.heap.objs.size + 1) :: (vs ++ dvs)) (Value.ref (s.heap.objs.size + 1) :: (us ++ ds)) := .cons rfl (r.append hd)
  have hl : (Value.ref (s.heap.objs.size + 1) :: us ++ ds).length = ps.length := by
    have e := r2.length
    rw [F.len _ _ _ _ hq] at e
    exact e.symm
  refine wpAny_call (make_map (f := f) I.kIn M.makes M.init (beq_iff_eq.mp M.fn) (codeAny_mono (F.run _ X.stack _ _ ⟨Value.ref (s.heap.objs.size + 1) :: us, []⟩ (Value.ref (s.heap.objs.size + 1) :: (us ++ ds)) _ _ E (hr.make C us [])
    (I2.env0.make C us []) (hb _ (Value.ref (s.heap.objs.size + 1) :: us) I2.kIn hl) r2 hq) fun r s' hq' => ?_))
  cases r with
  | error e => exact hx pins σ _ _ e s' I2 hq'
  | ok fl =>
    cases fl with
    | ret u =>
      obtain ⟨v, H', I3, rv, ev, q3⟩ := I2.after hq'
      subst ev
      exact ⟨rv, ⟨V.ref (s.heap.objs.size + 1), H', I3, rfl, q3⟩⟩
    | next => exact False.elim hq'
    | brk => exact False.elim hq'
    | cont => exact False.elim hq'
theorem pe_make (M : Mk X.K C f) (F : FnOk X.prog X.w X.K X.mg X.base CX k f fd ps sp) (hr : Room (k + 1) X.A) (hg : Gl X x) (hm : X.mg x = some (.ref C)) (hb : Binds X.K fd ps ds) (hd : Vals dvs ds) (hx : Passes CX X E)
    (ha : PA X (e :: es) t) (hdb : (x == ("__debug__" : Str)) = false := by decide) (he : starEach (e :: es) X.env = (false, eval e X.env) :: starEach es X.env := by rfl) (hpl : (backTo pos (starEach es X.env)).any (·.1) = false := by rfl) :
    PE X (.Call (.Name x p) (e :: es) [] pos) (tMake C sp dvs E t) := by
  intro pins s σ H Q I h
  refine wpAny_Call_Name_kw (ld_glob I hg hm ?_ hdb)
  refine PySem.W.callWith_K (h₀ := X.base) I.ok.mod.kin M.kp (thn (ha pos pins s σ H _ I h) fun us s1 ⟨vs, H1, I1, r, q⟩ => ⟨I1.kIn, ?_⟩) he hpl
  exact run_make M F hr hb hd hx I1 r q
theorem pe_make0 (M : Mk X.K C f) (F : FnOk X.prog X.w X.K X.mg X.base CX k f fd ps sp) (hr : Room (k + 1) X.A) (hg : Gl X x) (hm : X.mg x = some (.ref C)) (hb : Binds X.K fd ps ds) (hd : Vals dvs ds) (hx : Passes CX X E)
    (hdb : (x == ("__debug__" : Str)) = false := by decide) : PE X (.Call (.Name x p) [] [] pos) (tMake C sp dvs E tNil) := by
  intro pins s σ H Q I h
  refine wpAny_Call_Name_kw (ld_glob I hg hm ?_ hdb)
  exact PySem.W.callWith_K0 I.kIn M.kp (run_make (us := []) M F hr hb hd hx I .nil h)
end

/-! ### keywords -/
/-- the values of the keywords, from the left -/
def PK (X : Cx) (kws : List Keyword) (t : TA) : Prop :=
  ∀ (pos : Pos) (pins : List (Addr × Obj)) (s : Shared) (σ : St) (H : Hp) (Q : List V → Hp → Prop), Inv X pins σ H s → t σ H Q → wpAny (model X.prog X.w) X.A (evalAll ((backToKw pos (keywordEach kws X.env)).map (·.2))) (AP X pins σ Q) X.xe s
section
variable {X : Cx} {CX : CXT} {k : Nat} {f C : Addr} {fd : FuncData} {ps ks : List Str} {sp : Sp} {E : XK} {x m : Str} {p pos apos kpos : Pos} {e o : Expr} {es : List Expr} {kws : List Keyword} {te ta : TE} {t tk : TA} {nm : Option Str}
theorem pk_nil : PK X [] tNil := fun _ _ _ _ H Q I h => wpAny_evalAll_nil ⟨[], H, I, .nil, h⟩
theorem pk_cons (ha : PE X e te) (hr : PK X kws t) : PK X (⟨nm, e, kpos⟩ :: kws) (tCons te t) := by
  intro pos pins s σ H Q I h
  show wpAny _ _ (evalAll ((do let v ← eval e X.env; standAt pos; pure v) :: (backToKw pos (keywordEach kws X.env)).map (·.2))) _ _ s
  refine wpAny_evalAll_cons (wpAny_bind (thn (ha pins s σ H _ I h) fun u s1 ⟨x, H1, I1, r1, q1⟩ => wpAny_bind (wpAny_standAt (wpAny_pure ?_))))
  exact thn (hr pos pins s1 σ H1 _ I1 q1) fun us s2 ⟨xs, H2, I2, r2, q2⟩ => ⟨x :: xs, H2, I2, .cons r1 r2, q2⟩

/-- how a call with keywords binds: g puts the positional values us and the keywords' values ws (names ks) in the parameters' order, defaults among them -/
structure KBinds (K : PySem.W.Frag) (fd : FuncData) (ps ks : List Str) (g : List Value → List Value → List Value) (gV : List V → List V → List V) : Prop where
  to : ∀ (s : Shared) (us ws : List Value), K.In s.heap → (g us ws).length = ps.length → BindsTo s fd ⟨us, ks.zip ws⟩ (ps.zip (g us ws))
  rel : ∀ {vs : List V} {us : List Value} {zs : List V} {ws : List Value}, Vals vs us → Vals zs ws → Vals (gV vs zs) (g us ws)
def tCallK (sp : Sp) (gV : List V → List V → List V) (E : XK) (t tk : TA) : TE := fun σ H Q => t σ H fun vs H1 => tk σ H1 fun zs H2 => sp (gV vs zs) H2 Q E
variable {g : List Value → List Value → List Value} {gV : List V → List V → List V}
theorem run_fnk {pins : List (Addr × Obj)} {σ : St} {H : Hp} {s : Shared} {Q : VK} {us ws : List Value} {vs zs : List V} (F : FnOk X.prog X.w X.K X.mg X.base CX k f fd ps sp) (hr : Room k X.A) (hb : KBinds X.K fd ps ks g gV) (hx : Passes CX X E)
    (I : Inv X pins σ H s) (r : Vals vs us) (rz : Vals zs ws) (h : sp (gV vs zs) H Q E) : wpAny (model X.prog X.w) X.A (call (.ref f) us (ks.zip ws)) (EP X pins σ Q) X.xe s := by
  have r2 := hb.rel r rz
  have hl : (g us ws).length = ps.length := by rw [← r2.length]; exact F.len _ _ _ _ h
  refine wpAny_call (codeAny_mono (F.run X.A X.stack s H ⟨us, ks.zip ws⟩ (g us ws) (gV vs zs) Q E hr I.env0 (hb.to s us ws I.kIn hl) r2 h) fun r s' hq => ?_)
  cases r with
  | error e => exact hx pins σ H s e s' I hq
  | ok fl =>
    cases fl with
    | ret u => exact I.after hq
    | next => exact False.elim hq
    | brk => exact False.elim hq
    | cont => exact False.elim hq
/-- f(e, .., k = v, ..) -/
theorem pe_callK (F : FnOk X.prog X.w X.K X.mg X.base CX k f fd ps sp) (hr : Room k X.A) (hg : Gl X x) (hm : X.mg x = some (.ref f)) (hk : PySem.W.keepIn X.K (.ref f) = true) (hb : KBinds X.K fd ps ks g gV) (hx : Passes CX X E)
    (ha : PA X (e :: es) t) (hkw : PK X kws tk) (hall : (backToKw pos (keywordEach kws X.env)).all (·.1.isSome) = true := by rfl) (hks : (backToKw pos (keywordEach kws X.env)).filterMap (·.1) = ks := by rfl)
    (hdb : (x == ("__debug__" : Str)) = false := by decide) (he : starEach (e :: es) X.env = (false, eval e X.env) :: starEach es X.env := by rfl)
    (hpl : ((backTo pos (starEach (e :: es) X.env)).any (·.1) || (backToKw pos (keywordEach kws X.env)).any (·.1.isNone)) = false := by rfl) :
    PE X (.Call (.Name x p) (e :: es) kws pos) (tCallK sp gV E t tk) := by
  intro pins s σ H Q I h
  refine wpAny_Call_Name_kw (ld_glob I hg hm ?_ hdb)
  refine PySem.W.callWith_KW (h₀ := X.base) I.ok.mod.kin hk hall (thn (ha pos pins s σ H _ I h) fun us s1 ⟨vs, H1, I1, r, q⟩ => ?_) hpl he
  refine thn (hkw pos pins s1 σ H1 _ I1 q) fun ws s2 ⟨zs, H2, I2, rz, q2⟩ => ⟨I2.kIn, ?_⟩
  rw [hks]
  exact run_fnk F hr hb hx I2 r rz q2
end

/-! ### a def's body keeps its promise -/
/-- names: the parameters first -/
structure FnScope (N P : List Str) (sc : Scope) : Prop where
  kind : sc.kind = .function
  co : sc.isCoroutine = false
  gen : sc.isGenerator = false
  nd : N.Nodup
  pre : N.take P.length = P
  par : ∀ x ∈ P, sc.names.lookup x = some .local ∨ sc.names.lookup x = some .cell
  nofree : ∀ y ∈ sc.names, y.2 ≠ .free

theorem bindL_out {kindOf : Str → Option NameKind} {x : Str} : ∀ {binds : List (Str × Value)} {m : Str → Option Value}, (∀ v, (x, v) ∉ binds) → bindL kindOf binds m x = m x
  | [], _, _ => rfl
  | (n, v) :: r, m, h => by
    unfold bindL
    rw [bindL_out fun w hw => h w (List.mem_cons_of_mem _ hw)]
    split
    · have : x ≠ n := by rintro rfl; exact h v List.mem_cons_self
      simp [this]
    · rfl
theorem bindC_out {kindOf : Str → Option NameKind} {x : Str} : ∀ {binds : List (Str × Value)} {m : Str → Option Value}, (∀ v, (x, v) ∉ binds) → bindC kindOf binds m x = m x
  | [], _, _ => rfl
  | (n, v) :: r, m, h => by
    unfold bindC
    rw [bindC_out fun w hw => h w (List.mem_cons_of_mem _ hw)]
    split
    · rfl
    · have : x ≠ n := by rintro rfl; exact h v List.mem_cons_self
      simp [this]
theorem bindL_get {kindOf : Str → Option NameKind} {x : Str} {v : Value} : ∀ {P : List Str} {vs : List Value} {i : Nat} {m : Str → Option Value}, P.Nodup → P[i]? = some x → vs[i]? = some v → kindOf x = some .local →
    bindL kindOf (P.zip vs) m x = some v
  | [], _, _, _, _, h, _, _ => by simp at h
  | _ :: _, [], _, _, _, _, h, _ => by simp at h
  | p :: P, w :: vs, 0, m, nd, h1, h2, hk => by
    simp at h1 h2; subst h1; subst h2
    show bindL kindOf ((p, w) :: P.zip vs) m p = _
    unfold bindL
    rw [bindL_out fun v hv => (List.nodup_cons.mp nd).1 (List.of_mem_zip hv).1, if_pos hk]
    simp
  | p :: P, w :: vs, i + 1, m, nd, h1, h2, hk => by
    show bindL kindOf ((p, w) :: P.zip vs) m x = _
    unfold bindL
    exact bindL_get (i := i) (List.nodup_cons.mp nd).2 (by simpa using h1) (by simpa using h2) hk
theorem bindC_get {kindOf : Str → Option NameKind} {x : Str} {v : Value} : ∀ {P : List Str} {vs : List Value} {i : Nat} {m : Str → Option Value}, P.Nodup → P[i]? = some x → vs[i]? = some v → kindOf x ≠ some .local →
    bindC kindOf (P.zip vs) m x = some v
  | [], _, _, _, _, h, _, _ => by simp at h
  | _ :: _, [], _, _, _, _, h, _ => by simp at h
  | p :: P, w :: vs, 0, m, nd, h1, h2, hk => by
    simp at h1 h2; subst h1; subst h2
    show bindC kindOf ((p, w) :: P.zip vs) m p = _
    unfold bindC
    rw [bindC_out fun v hv => (List.nodup_cons.mp nd).1 (List.of_mem_zip hv).1, if_neg hk]
    simp
  | p :: P, w :: vs, i + 1, m, nd, h1, h2, hk => by
    show bindC kindOf ((p, w) :: P.zip vs) m x = _
    unfold bindC
    exact bindC_get (i := i) (List.nodup_cons.mp nd).2 (by simpa using h1) (by simpa using h2) hk

/-- the names' values at the entry -/
def start (N : List Str) (vs : List V) : St := vs.map some ++ List.replicate (N.length - vs.length) none

/-- the context of a def's body, at its entry; an exception leaves the frame, then lies as CX says -/
def cxOf (CX : CXT) (P : Program) (w : World) (K : PySem.W.Frag) (mg : Str → Option Value) (base : Heap) (N : List Str) (qual : Str) (scope : Scope) (f : Addr) (cd : Value) (A : Around) (outer : List Env) (s : Shared) (H : Hp) (E : XK) : Cx where
  prog := P
  w := w
  K := K
  mg := mg
  base := base
  A := A.deeper (envOfC qual scope s.heap.objs.size f cd)
  N := N
  s₀ := s
  H₀ := H
  env := envOfC qual scope s.heap.objs.size f cd
  outer := outer
  stack := envOfC qual scope s.heap.objs.size f cd :: outer
  ex := []
  calm := true
  fn := fun _ => true
  pn := []
  xe := fun e s' => wpAny (model P w) (A.deeper (envOfC qual scope s.heap.objs.size f cd)) (leaving (envOfC qual scope s.heap.objs.size f cd) e) (fun _ s'' => CX outer H s E e s'') (fun e' s'' => CX outer H s E e' s'') s'

theorem cell_has {sc : Scope} {n : Nat} {x : Str} (h : sc.names.lookup x = some .cell) : ∃ c, (cellsFrom n sc.names []).lookup x = some c := by
  have q := PySem.W.cellsFrom_some sc.names n [] (.inl h)
  exact Option.isSome_iff_exists.mp q

theorem inv_start {CX : CXT} {P : Program} {w : World} {K : PySem.W.Frag} {mg : Str → Option Value} {base : Heap} {N ps : List Str} {qual : Str} {scope : Scope} {f : Addr} {cd : Value} {A : Around} {outer : List Env} {s s1 : Shared} {H : Hp} {E : XK} {us : List Value} {vs : List V}
    (S : FnScope N ps scope) (hd : A.handled = none) (e0 : Env0 P w K mg base A outer s H) (hl : vs.length = ps.length) (r : Vals vs us)
    (x : InCallC s s.heap.objs.size (bindL (envOfC qual scope s.heap.objs.size f cd).kindOf (ps.zip us) fun _ => none) (cellsFrom (s.heap.objs.size + 1) scope.names []) (bindC (envOfC qual scope s.heap.objs.size f cd).kindOf (ps.zip us) fun _ => none) s1) :
    Inv (cxOf CX P w K mg base N qual scope f cd A outer s H E) [] (start N vs) H s1 := by
  have hpl : ps.length ≤ N.length := by have := congrArg List.length S.pre; rw [List.length_take] at this; omega
  obtain ⟨h1, tk, rfl, hk⟩ := x.done
  have noA : ∀ b : Addr, b ∉ (cxOf CX P w K mg base N qual scope f cd A outer s H E).ex := fun b z => absurd (show b ∈ ([] : List Addr) from z) (by simp)
  refine ⟨⟨e0.mod, S.kind, rfl, rfl, Nat.le_refl _, fun y z c h1 h2 => ?_, fun y hy => ?_, fun y c _ h => ?_, fun _ => hd, Around.frames_deeper e0.frames, .inr ⟨rfl, rfl⟩, fun b z => absurd z (noA b), e0.bs, e0.bsz, fun b _ _ => noA b, fun b z => absurd z (noA b), e0.funs, e0.frf⟩,
    rfl, e0.bare, Un.kept hk, ⟨_, x.toInCall.ns, fun i y v h1 h2 h3 => ?_⟩, fun y c h => ⟨_, x.cell y c h⟩, e0.hok.fresh (Nat.le_refl _), fun y c h => ?_, fun p hp => absurd (show p ∈ ([] : List (Addr × Obj)) from hp) (by simp), e0.hok.kept hk, ?_⟩
  · exact name_of_addr x.apart (PySem.mem_of_lookup h1) (PySem.mem_of_lookup h2)
  · have hy : scope.names.lookup y = some .cell ∨ scope.names.lookup y = some .free := hy
    rcases hy with hy | hy
    · exact cell_has hy
    · exact absurd rfl (S.nofree _ (PySem.mem_of_lookup hy))
  · exact Nat.le_of_lt (x.above y c (PySem.mem_of_lookup h))
  · have hi : i < vs.length := by
      unfold start at h2
      by_cases hi : i < vs.length
      · exact hi
      · rw [List.getElem?_append_right (by simpa using hi)] at h2
        rw [List.getElem?_replicate] at h2
        split at h2 <;> cases h2
    have ha : vs[i]? = some v := by
      unfold start at h2
      rw [List.getElem?_append_left (by simpa using hi), List.getElem?_map] at h2
      cases e : vs[i]? with
      | none => rw [e] at h2; cases h2
      | some a => rw [e] at h2; cases h2; rfl
    obtain ⟨u, hu, rv⟩ := r.get ha
    have hp : ps[i]? = some y := by
      rw [← S.pre, List.getElem?_take_of_lt (by omega)]; exact h1
    have ndP : ps.Nodup := by rw [← S.pre]; exact S.nd.sublist (List.take_sublist _ _)
    refine ⟨u, rv, ?_⟩
    rcases S.par y (List.mem_of_getElem? hp) with k | k
    · exact .inl ⟨k, bindL_get ndP hp hu k⟩
    · obtain ⟨c, e⟩ := cell_has (n := s.heap.objs.size + 1) k
      refine .inr ⟨.inl k, c, e, ?_⟩
      have q := x.cell y c e
      rw [bindC_get ndP hp hu (by show scope.names.lookup y ≠ _; rw [k]; decide)] at q
      exact q
  · exact e0.hok.fresh (Nat.le_of_lt (x.above y c (PySem.mem_of_lookup h)))
  · unfold start
    show _ = N.length
    rw [List.length_append, List.length_map, List.length_replicate]
    omega

/-- THE RULE: a def (or a method) of the text, by its body. The body's reading t is chosen for each entry; it is run at the parameters' values -/
theorem fn_of {CX : CXT} {P : Program} {w : World} {K : PySem.W.Frag} {mg : Str → Option Value} {base : Heap} {k : Nat} {f : Addr} {name qual : Str} {params : Arguments} {body : List Stmt} {scope : Scope} {dV kV doc pm cdv ct oc : Value} {an od : Option Addr}
    {osl : Array (Option Value)} {N ps : List Str} {sp : Sp} (lk : K.lookup f = some ⟨oc, od, .func (PySem.W.fnOf name qual params body scope dV kV doc pm an cdv ct), osl⟩) (hcd : PySem.W.codeIn K cdv qual = true) (S : FnScope N ps scope)
    (len : ∀ vs H Q E, sp vs H Q E → vs.length = ps.length)
    (hbody : ∀ (A : Around) (outer : List Env) (s : Shared) (H : Hp) (vs : List V) (Q : VK) (E : XK), Room k (A.deeper (envOfC qual scope s.heap.objs.size f cdv)) → sp vs H Q E →
      ∃ t, PSs (cxOf CX P w K mg base N qual scope f cdv A outer s H E) body t ∧ t { nx := fun _ H' => Q .non H', rt := Q } (start N vs) H) :
    FnOk P w K mg base CX (k + 1) f (PySem.W.fnOf name qual params body scope dV kV doc pm an cdv ct) ps sp := by
  refine ⟨len, fun A outer s H args us vs Q E hr e0 hb r hsp => ?_⟩
  have hl := len _ _ _ _ hsp
  have KX : K.In s.heap := e0.mod.kin.keeps fun b o e => (e0.bs b o e).1
  have lim : s.heap.NoLimit := e0.mod.nolimit.keeps fun b o e => (e0.bs b o e).1
  have hkind : ∀ y ∈ ps.zip us, scope.names.lookup y.1 = some .local ∨ (scope.names.lookup y.1 = some .cell ∧ ((cellsFrom (s.heap.objs.size + 1) scope.names []).lookup y.1).isSome = true) := fun ⟨n, v⟩ hy => by
    rcases S.par n (List.of_mem_zip hy).1 with q | q
    · exact .inl q
    · exact .inr ⟨q, PySem.W.cellsFrom_some _ _ _ (.inl q)⟩
  refine codeAny_call_function hr.depth (KX _ _ lk) rfl S.co S.gen rfl (PySem.W.codeRec_of KX hcd) (hb _ _ _ _ ?_)
  refine wpAny_newFunctionEnv_cells S.kind hkind fun env he s1 x => ?_
  subst he
  refine ⟨lim.keeps x.toInCall.keep, codeAny_func ?_⟩
  obtain ⟨t, ht, hq⟩ := hbody A outer s H vs Q E (hr.deeper _) hsp
  have I : Inv (cxOf CX P w K mg base N qual scope f cdv A outer s H E) [] (start N vs) H s1 := inv_start S hr.hd e0 hl r x
  refine wpAny_mono (ht [] s1 (start N vs) H _ I hq) (fun fl s' hs => ?_) fun e s' hs => hs
  have fin : ∀ {σ' : St} {H' : Hp} {v : V} {u : Value}, Inv (cxOf CX P w K mg base N qual scope f cdv A outer s H E) [] σ' H' s' → RelV v u → Q v H' → CE outer P w H s Q u s' :=
    fun {σ' H' v u} J rv q => ⟨v, H', J.os, J.bare, J.base, J.hok, rv, q⟩
  cases fl with
  | ret u =>
    obtain ⟨v, σ', H', J, rv, q⟩ := hs
    exact fin J rv q
  | next =>
    obtain ⟨σ', H', J, q⟩ := hs
    exact fin (v := V.non) (u := Value.none) J rfl q
  | brk =>
    obtain ⟨_, _, _, q⟩ := hs
    exact False.elim q
  | cont =>
    obtain ⟨_, _, _, q⟩ := hs
    exact False.elim q
end L2

namespace L2
open PySem PySem.Spec PyProof.Rows
section
variable {X : Cx} {x : Str} {p pos : Pos} {e : Expr} {es : List Expr} {t : TA} {id T : String} {r : List V → Hp → VK → Prop}

def tCB (r : List V → Hp → VK → Prop) (t : TA) : TE := fun σ H Q => t σ H fun vs H1 => r vs H1 Q
/-- f(e, ..), f a built-in function -/
theorem pe_callB (hc : CallR X (.builtin id) r) (hg : Gl X x) (hm : X.mg x = none) (hv : bootBuiltins x = some (.builtin id)) (ha : PA X (e :: es) t) (hn : x ≠ "__name__" := by decide) (hdb : (x == ("__debug__" : Str)) = false := by decide)
    (he : starEach (e :: es) X.env = (false, eval e X.env) :: starEach es X.env := by rfl) (hpl : (backTo pos (starEach es X.env)).any (·.1) = false := by rfl) : PE X (.Call (.Name x p) (e :: es) [] pos) (tCB r t) := by
  intro pins s σ H Q I h
  refine wpAny_Call_Name_kw (ld_blt I hg hm hv ?_ hn hdb)
  exact PyProof.Rows.callWith_builtin1 (thn (ha pos pins s σ H _ I h) fun us s1 ⟨vs, H1, I1, r1, q1⟩ => hc pins s1 σ H1 vs us Q I1 r1 q1) he hpl
/-- T(e, ..), T a built-in type -/
theorem pe_callTy (hc : CallR X (.type T) r) (hg : Gl X x) (hm : X.mg x = none) (hv : bootBuiltins x = some (.type T)) (ha : PA X (e :: es) t) (hn : x ≠ "__name__" := by decide) (hdb : (x == ("__debug__" : Str)) = false := by decide)
    (he : starEach (e :: es) X.env = (false, eval e X.env) :: starEach es X.env := by rfl) (hpl : (backTo pos (starEach es X.env)).any (·.1) = false := by rfl) : PE X (.Call (.Name x p) (e :: es) [] pos) (tCB r t) := by
  intro pins s σ H Q I h
  refine wpAny_Call_Name_kw (ld_blt I hg hm hv ?_ hn hdb)
  exact PyProof.Rows.callWith_type1 (thn (ha pos pins s σ H _ I h) fun us s1 ⟨vs, H1, I1, r1, q1⟩ => hc pins s1 σ H1 vs us Q I1 r1 q1) he hpl
/-- T() -/
theorem pe_callTy0 (hc : CallR X (.type T) r) (hg : Gl X x) (hm : X.mg x = none) (hv : bootBuiltins x = some (.type T)) (hn : x ≠ "__name__" := by decide) (hdb : (x == ("__debug__" : Str)) = false := by decide) :
    PE X (.Call (.Name x p) [] [] pos) (tCB r tNil) := by
  intro pins s σ H Q I h
  refine wpAny_Call_Name_kw (ld_blt I hg hm hv ?_ hn hdb)
  exact PyProof.Rows.callWith_type0 (hc pins s σ H [] [] Q I .nil h)
end
end L2

namespace HT
open PySem PyProof.Rows

/-- t < u of tuples of ints -/
def lexLt : List Int → List Int → Bool
  | [], [] => false
  | [], _ :: _ => true
  | _ :: _, [] => false
  | x :: xs, y :: ys => if x = y then lexLt xs ys else decide (x < y)
theorem lexLt_cons (x y : Int) (xs ys : List Int) : lexLt (x :: xs) (y :: ys) = if x = y then lexLt xs ys else decide (x < y) := rfl
theorem lexLt_nil_nil : lexLt [] [] = false := rfl
theorem lexLt_nil_cons (y : Int) (ys : List Int) : lexLt [] (y :: ys) = true := rfl
theorem lexLt_cons_nil (x : Int) (xs : List Int) : lexLt (x :: xs) [] = false := rfl

theorem eqAt_int (A : Around) (s : Shared) (a : Int) (t : Tok) (c : Int) (u : Tok) : ∃ e, SeqAt.EqAt A s (.int a t) (.int c u) e ∧ (e = true ↔ a = c) :=
  ⟨(a == c), SeqAt.EqAt.int_int a t c u, by simp⟩
theorem rcLt_int (A : Around) (s : Shared) (a : Int) (t : Tok) (c : Int) (u : Tok) (prog : Program) (w : World) (E : Value → Shared → Prop) (Q : Value → Shared → Prop) (h : Q (.bool (decide (a < c))) s) :
    wpAny (model prog w) A (richCompare .Lt (.int a t) (.int c u)) Q E s :=
  (PyProof.Rows.lt_int h : wpAny (model prog w) A (compareOp .Lt (.int a t) (.int c u)) Q E s)

section
open PySem.SeqAt
open PySem.AutoSeq1 (wpAny_loadPart')
open PySem.MeetsSeq PySem.MeetsSeq2 PySem.MeetsSeq3

theorem tuple_lt_ints (l b : Addr) (items items2 : Array Value) (n n2 : Nat) (dd dd2 : Option Addr) (sl sl2 : Array (Option Value)) (ns ms : List Int) (hi : IntsAre items.toList ns) (hj : IntsAre items2.toList ms) :
    Meets (Builtin.«tuple.__lt__» ⟨[.ref l, .ref b], []⟩)
      (fun _ R s => s.heap.get? l = some { cls := .type "tuple", dict := dd, data := .seq items n, slots := sl } ∧ s.heap.get? b = some { cls := .type "tuple", dict := dd2, data := .seq items2 n2, slots := sl2 } ∧
        R (.ok (.ret (.bool (lexLt ns ms)))) s) :=
  .of_wp fun prog w A R s h => by
    obtain ⟨hp, g, d, tk, os⟩ := s; obtain ⟨hl, hb, h⟩ := h
    have f2 := AutoSeq1.sub_tuple_tuple
    have z1 : items.size = ns.length := by rw [← hi.length]; simp
    have z2 : items2.size = ms.length := by rw [← hj.length]; simp
    wp_walk using wpAny_loadPart' hl, wpAny_loadPart' hb, wpAny_forIn_list _ (fun rest b s' => b.1 = none ∧ s' = ⟨hp, g, d, tk, os⟩ ∧ ∃ (vs ws : List Value) (ns' ms' : List Int), rest = vs.zip ws ∧
      IntsAre vs ns' ∧ IntsAre ws ms' ∧ ns'.length + items2.size = ms'.length + items.size ∧ R (.ok (.ret (.bool (lexLt ns' ms')))) ⟨hp, g, d, tk, os⟩) _
    case turn =>
      rintro ⟨y, x⟩ rest b s' ⟨hb', rfl, vs, ws, ns', ms', hz, hvi, hwi, hlen, hR⟩
      cases hvi with
      | nil => rw [List.zip_nil_left] at hz; cases hz
      | cons a t hvi' =>
        cases hwi with
        | nil => rw [List.zip_nil_right] at hz; cases hz
        | cons c u hwi' =>
          rw [List.zip_cons_cons] at hz
          injection hz with hyx hrest
          injection hyx with hy hx
          subst hy hx
          rw [lexLt_cons] at hR
          simp only [List.length_cons] at hlen
          obtain ⟨e, he, hiff⟩ := eqAt_int A.in1 ⟨hp, g, d, tk, os⟩ a t c u
          refine wpAny_bind (he prog w _ _ ?_)
          cases e with
          | true =>
            rw [if_pos (hiff.mp rfl)] at hR
            wp_walk
            exact ⟨rfl, rfl, _, _, _, _, hrest, hvi', hwi', by omega, hR⟩
          | false =>
            rw [if_neg (fun q => absurd (hiff.mpr q) Bool.false_ne_true)] at hR
            have hri := rcLt_int A.in1 ⟨hp, g, d, tk, os⟩ a t c u prog w
            wp_walk using hri
            exact ⟨_, rfl, by simpa using hR⟩
    case fin =>
      rintro ⟨b1, b2⟩ s' ⟨hb', rfl, vs, ws, ns', ms', hz, hvi, hwi, hlen, hR⟩
      simp only at hb'
      subst hb'
      have hv : lexLt ns' ms' = decide (items.size < items2.size) := by
        cases hvi with
        | nil =>
          cases hwi with
          | nil =>
            simp only [List.length_nil] at hlen
            rw [lexLt_nil_nil]
            exact (decide_eq_false (by omega)).symm
          | cons c u hw =>
            simp only [List.length_nil, List.length_cons] at hlen
            rw [lexLt_nil_cons]
            exact (decide_eq_true (by omega)).symm
        | cons a t hv =>
          cases hwi with
          | nil =>
            simp only [List.length_nil, List.length_cons] at hlen
            rw [lexLt_cons_nil]
            exact (decide_eq_false (by omega)).symm
          | cons c u hw =>
            rw [List.zip_cons_cons] at hz
            cases hz
      rw [hv] at hR
      wp_walk
      exact ⟨_, rfl, by simpa [Builtin.Tuple.tupleCompareSizes] using hR⟩
    case h =>
      exact ⟨rfl, rfl, items.toList, items2.toList, ns, ms, rfl, hi, hj, by omega, h⟩
end

section
variable {prog : Program} {w : World} {A : Around} {E : Value → Shared → Prop} {s : Shared}

theorem lt_tupInts {l b : Addr} {items items2 : Array Value} {ns ms : List Int} {Q : Value → Shared → Prop} (hl : IsTup s.heap l items) (hb : IsTup s.heap b items2) (hi : IntsAre items.toList ns) (hj : IntsAre items2.toList ms)
    (hu : A.units < cLine) (h : Q (.bool (lexLt ns ms)) s) : wpAny (model prog w) A (compareOp .Lt (.ref l) (.ref b)) Q E s := by
  obtain ⟨⟨cls, dd, data, sl⟩, ho, hc, n, hd⟩ := id hl
  obtain ⟨⟨cls2, dd2, data2, sl2⟩, ho2, hc2, n2, hd2⟩ := id hb
  simp only at hc hd hc2 hd2
  subst hc hd hc2 hd2
  exact richCompare_meets_room (op := .Lt) ⟨_, ho, rfl⟩ ⟨_, ho2, rfl⟩ PySem.F.slot_tuple_lt PySem.F.entry_tuple_lt (PySem.F.args_tuple_lt_2 _ _) (tuple_lt_ints l b items items2 n n2 dd dd2 sl sl2 ns ms hi hj)
    ⟨ho, ho2, show Value.bool (lexLt ns ms) ≠ Value.notImplemented ∧ Q (.bool (lexLt ns ms)) s from ⟨(fun x => nomatch x), h⟩⟩ hu

/-- t + u, t not empty -/
theorem cat_tup {t b : Addr} {vs ws : List Value} {Q : Value → Shared → Prop} (ht : IsTup s.heap t vs.toArray) (hb : IsTup s.heap b ws.toArray) (hv : vs ≠ [])
    (h1 : ws = [] → Q (.ref t) s) (h2 : ws ≠ [] → Q (.ref s.heap.objs.size) { s with heap := s.heap.push { cls := .type "tuple", data := .seq (vs ++ ws).toArray } })
    (hsz : vs.length + ws.length ≤ sizeLine) : wpAny (model prog w) A (binaryOp .Add (.ref t) (.ref b)) Q E s := by
  obtain ⟨⟨cls, dd, data, sl⟩, ho, hc, n, hd⟩ := id ht
  obtain ⟨⟨cls2, dd2, data2, sl2⟩, ho2, hc2, n2, hd2⟩ := id hb
  simp only at hc hd hc2 hd2
  subst hc hd hc2 hd2
  have e : vs.toArray ++ ws.toArray = (vs ++ ws).toArray := by simp
  by_cases hw : ws = []
  · exact concat_meets ⟨_, ho, rfl⟩ ⟨_, ho2, rfl⟩ noFill_tuple_add seq_tuple_add PySem.F.slot_tuple_add PySem.F.entry_tuple_add (PySem.F.args_tuple_add_2 _ _)
      (tuple_addW1 t b vs.toArray ws.toArray n n2 dd dd2 sl sl2 (by simpa using hv) (by simp [hw])) ⟨ho, ho2, h1 hw⟩
  · refine concat_meets ⟨_, ho, rfl⟩ ⟨_, ho2, rfl⟩ noFill_tuple_add seq_tuple_add PySem.F.slot_tuple_add PySem.F.entry_tuple_add (PySem.F.args_tuple_add_2 _ _)
      (tuple_addW2 t b vs.toArray ws.toArray n n2 dd dd2 sl sl2 (by simpa using hv) (by simpa using hw) (by rw [List.size_toArray, List.size_toArray]; exact hsz)) ⟨ho, ho2, ?_⟩
    rw [e]
    exact h2 hw

/-! ### t[a:b], not the whole -/
/-- a slice's bound as a place among n (d where it is left out) -/
def sIx (n d : Nat) : Option Int → Nat
  | none => d
  | some v => if v < 0 then (v + (n : Int)).toNat else min v.toNat n
theorem sIx_none (n d : Nat) : sIx n d none = d := rfl
theorem sIx_nat (n d k : Nat) : sIx n d (some (k : Int)) = min k n := by
  show (if (k : Int) < 0 then ((k : Int) + (n : Int)).toNat else min (k : Int).toNat n) = min k n
  rw [if_neg (by omega), Int.toNat_natCast]
theorem sIx_le (n d : Nat) (hd : d ≤ n) (o : Option Int) : sIx n d o ≤ n := by
  cases o with
  | none => exact hd
  | some v =>
    show (if v < 0 then (v + (n : Int)).toNat else min v.toNat n) ≤ n
    by_cases hv : v < 0
    · rw [if_pos hv]; omega
    · rw [if_neg hv]; exact Nat.min_le_right _ _
theorem clip_eq (v : Int) (n d : Nat) : (if v < 0 then max (v + (n : Int)) 0 else min v (n : Int)) = ((sIx n d (some v) : Nat) : Int) := by
  show (if v < 0 then max (v + (n : Int)) 0 else min v (n : Int)) = (((if v < 0 then (v + (n : Int)).toNat else min v.toNat n) : Nat) : Int)
  by_cases hv : v < 0
  · simp only [if_pos hv]; omega
  · simp only [if_neg hv]; omega
theorem adjust_gen (lo hi : Option Int) (n : Nat) : Builtin.Slice.sliceAdjust lo hi 1 (n : Int) = (((sIx n 0 lo : Nat) : Int), ((sIx n n hi : Nat) : Int)) := by
  have h1 : ¬ ((1 : Int) < 0) := by omega
  unfold Builtin.Slice.sliceAdjust
  simp only [h1, if_false]
  refine Prod.ext ?_ ?_
  · cases lo with
    | none => rfl
    | some v => exact clip_eq v n 0
  · cases hi with
    | none => rfl
    | some v => exact clip_eq v n n
theorem places_gen (i j : Nat) : Builtin.Slice.slicePlaces (i : Int) (j : Int) 1 = j - i := by
  unfold Builtin.Slice.slicePlaces
  have h1 : (1 : Int) > 0 := by omega
  simp only [h1, if_true, Int.ediv_one]
  split <;> omega
theorem slicePart_ {v : Value} {o : Option Int} {Q : Option Int → Shared → Prop} (p : IsPart v o) (h : Q o s) : wpAny (model prog w) A (Builtin.Slice.slicePartIndex v) Q E s := by
  cases p with
  | none => exact slicePart_none h
  | int i t => exact slicePart_int h
theorem sliceApplied_gen {sl : Addr} {vl vu : Value} {lo hi : Option Int} {n : Nat} {Q : Int × Int × Nat → Shared → Prop} (hs : s.heap.IsSliceOf sl vl vu .none) (pl : IsPart vl lo) (pu : IsPart vu hi)
    (h : Q (((sIx n 0 lo : Nat) : Int), 1, sIx n n hi - sIx n 0 lo) s) : wpAny (model prog w) A (Builtin.Slice.sliceApplied (.ref sl) (pure (n : Int))) Q E s := by
  obtain ⟨os, hos, hcs, hds⟩ := id hs
  unfold Builtin.Slice.sliceApplied Builtin.Slice.sliceFields
  refine wpAny_bind (wpAny_bind (wpAny_field hos hds (x := vl) rfl (wpAny_bind (wpAny_field hos hds (x := vu) rfl (wpAny_bind (wpAny_field hos hds (x := .none) rfl (wpAny_pure ?_)))))))
  refine wpAny_bind (slicePart_none ?_)
  show wpAny _ _ (if ((1 : Int) == 0) = true then _ else _) _ _ s
  rw [if_neg (by decide)]
  refine wpAny_bind (slicePart_ pl (wpAny_bind (slicePart_ pu (wpAny_bind (wpAny_pure ?_)))))
  show wpAny _ _ (match Builtin.Slice.sliceAdjust lo hi 1 (n : Int) with | (lo, hi) => pure (lo, (1 : Int), Builtin.Slice.slicePlaces lo hi 1)) _ _ s
  rw [adjust_gen lo hi n]
  show wpAny _ _ (pure (((sIx n 0 lo : Nat) : Int), (1 : Int), Builtin.Slice.slicePlaces ((sIx n 0 lo : Nat) : Int) ((sIx n n hi : Nat) : Int) 1)) _ _ s
  rw [places_gen]
  exact wpAny_pure h
theorem pick_gen (xs : Array Value) (i k : Nat) : ((List.range k).filterMap fun (m : Nat) => xs[((i : Int) + (m : Int) * 1).toNat]?).toArray = ((xs.toList.drop i).take k).toArray := by
  have e : (fun (m : Nat) => xs[((i : Int) + (m : Int) * 1).toNat]?) = fun m => xs[i + m]? := by
    funext m
    have : ((i : Int) + (m : Int) * 1).toNat = i + m := by omega
    rw [this]
  rw [e]
  have := pick_run xs i k
  rw [List.filterMap_map] at this
  have e2 : ((fun x => xs[x]?) ∘ fun x => i + x) = fun m => xs[i + m]? := rfl
  rw [e2] at this
  rw [this]

theorem getItem_tuple_cut {t sl : Addr} {items : Array Value} {vl vu : Value} {lo hi : Option Int} {Q : Value → Shared → Prop} (ht : IsTup s.heap t items) (hs : s.heap.IsSliceOf sl vl vu .none) (pl : IsPart vl lo) (pu : IsPart vu hi)
    (hw : ¬ (sIx items.size 0 lo = 0 ∧ sIx items.size items.size hi = items.size))
    (h : Q (.ref s.heap.objs.size) { s with heap := s.heap.push { cls := .type "tuple", data := .seq ((items.toList.drop (sIx items.size 0 lo)).take (sIx items.size items.size hi - sIx items.size 0 lo)).toArray } })
    (hsz : items.size ≤ sizeLine) : wpAny (model prog w) A (getItem (.ref t) (.ref sl)) Q E s := by
  have htake : sizeOk (.seq ((items.toList.drop (sIx items.size 0 lo)).take (sIx items.size items.size hi - sIx items.size 0 lo)).toArray) := by
    show ((items.toList.drop (sIx items.size 0 lo)).take (sIx items.size items.size hi - sIx items.size 0 lo)).toArray.size ≤ sizeLine
    rw [List.size_toArray, List.length_take, List.length_drop, Array.length_toList]
    omega
  have hj : sIx items.size items.size hi ≤ items.size := sIx_le _ _ (Nat.le_refl _) hi
  obtain ⟨os, hos, hcs, hds⟩ := id hs
  have hTs : s.TypeIs (.ref sl) "slice" := ⟨os, hos, hcs⟩
  unfold getItem
  try with_reducible refine wpAny_holding ?_
  first | refine wpAny_bind (wpAny_pure ?_) | skip
  refine wpAny_bind (wpAny_sequenceKey ht.typeIs (by decide) ?_)
  refine wpAny_bind (wpAny_callSpecial?_slot (name := Str.ofString "__getitem__") ht.typeIs PyProof.Rows.slot_tuple_getitem
    (wpAny_call_entry PyProof.Rows.slot_tuple_getitem ht.typeIs entry_tuple_getitem ?_ (args_tuple_getitem _ _)))
  show wpAny _ _ (Builtin.Tuple.tupleItemsOf (.ref t) >>= _) _ _ s
  refine wpAny_bind (tupleItemsOf_ ht ?_)
  refine wpAny_bind (wpAny_typeOf hTs ?_)
  rw [if_pos (by decide)]
  refine wpAny_bind (sliceApplied_gen hs pl pu ?_)
  have hno : ¬ ((((sIx items.size 0 lo : Nat) : Int) == 0 && (1 : Int) == 1 && (sIx items.size items.size hi - sIx items.size 0 lo) == items.size) = true) := by
    intro q
    rw [Bool.and_eq_true, Bool.and_eq_true] at q
    have q1 : ((sIx items.size 0 lo : Nat) : Int) = 0 := eq_of_beq q.1.1
    have q2 : sIx items.size items.size hi - sIx items.size 0 lo = items.size := eq_of_beq q.2
    exact hw ⟨by omega, by omega⟩
  show wpAny _ _ (if (((sIx items.size 0 lo : Nat) : Int) == 0 && (1 : Int) == 1 && (sIx items.size items.size hi - sIx items.size 0 lo) == items.size) = true then _ else _) _ _ s
  rw [if_neg hno, pick_gen]
  first
    | exact wpAny_bind (m := Builtin.Tuple.tupleExact _) (wpAny_newObj_type (wpAny_pure ⟨_, rfl, wpAny_pure h⟩) htake)
    | exact wpAny_bind (m := Builtin.Tuple.tupleExact _) (wpAny_newObj_type (wpAny_bind (wpAny_pure (wpAny_pure ⟨_, rfl, wpAny_pure h⟩))) htake)
    | exact wpAny_bind (wpAny_bind (m := Builtin.Tuple.tupleExact _) (wpAny_newObj_type (wpAny_pure (wpAny_pure ⟨_, rfl, wpAny_pure h⟩)) htake))
    | exact wpAny_bind (wpAny_bind (m := Builtin.Tuple.tupleExact _) (wpAny_newObj_type (wpAny_pure ⟨_, rfl, wpAny_pure h⟩) htake))
end
end HT

namespace L2
open PySem PySem.Spec PyProof.Rows

/-! ### the parts of a slice -/
abbrev TO := St → Hp → (Option Int → Hp → Prop) → Prop
/-- a slice's part (left out, or an int) -/
def PO (X : Cx) (e : Option Expr) (t : TO) : Prop :=
  ∀ (pins : List (Addr × Obj)) (s : Shared) (σ : St) (H : Hp) (Q : Option Int → Hp → Prop), Inv X pins σ H s → t σ H Q →
    wpAny (model X.prog X.w) X.A (evalPart e X.env) (fun u s' => ∃ o H', Inv X pins σ H' s' ∧ IsPart u o ∧ Q o H') X.xe s
def tNoPart : TO := fun _ H Q => Q none H
def tPart (t : TE) : TO := fun σ H Q => t σ H fun x H1 => ∃ i, x = .int i ∧ Q (some i) H1

theorem intsAre_of {ns : List Int} : ∀ {us : List Value}, Vals (ns.map V.int) us → IntsAre us ns := by
  induction ns with
  | nil => intro us r; rw [List.map_nil] at r; cases r; exact .nil
  | cons n ns ih =>
    intro us r
    rw [List.map_cons] at r
    cases r with
    | cons r1 r2 =>
      obtain ⟨t, e⟩ := r1
      subst e
      exact .cons n t (ih r2)

section
variable {X : Cx} {e : Expr} {te : TE} {lo hi : Option Expr} {tl th : TO} {pos p2 : Pos}

theorem po_none : PO X none tNoPart := by
  intro pins s σ H Q I h
  rw [evalPart_none]
  exact wpAny_pure ⟨none, H, I, .none, h⟩
theorem po_some (h : PE X e te) : PO X (some e) (tPart te) := by
  intro pins s σ H Q I hw
  rw [evalPart_some]
  refine thn (h pins s σ H _ I hw) fun u s1 ⟨x, H1, I1, r1, q1⟩ => ?_
  obtain ⟨i, rfl, q⟩ := q1
  obtain ⟨t, rfl⟩ := r1
  exact ⟨some i, H1, I1, .int i t, q⟩

/-- what a slice of a value is, by values: the slice object stands at sl -/
def SlR (X : Cx) (r : V → Option Int → Option Int → Hp → VK → Prop) : Prop :=
  ∀ (pins : List (Addr × Obj)) (s : Shared) (σ : St) (H : Hp) (x : V) (v vl vu : Value) (lo hi : Option Int) (sl : Addr) (Q : VK), Inv X pins σ H s → RelV x v → s.heap.IsSliceOf sl vl vu .none → IsPart vl lo → IsPart vu hi → r x lo hi H Q →
    ∃ T id, typeLookup (.type T) "__getitem__" = pure (some (.builtin id)) ∧ s.TypeIs v T ∧ wpAny (model X.prog X.w) X.A (getItem v (.ref sl)) (EP X pins σ Q) X.xe s
theorem SlR.or {r r' : V → Option Int → Option Int → Hp → VK → Prop} (h : SlR X r) (h' : SlR X r') : SlR X (fun x lo hi H Q => r x lo hi H Q ∨ r' x lo hi H Q) := by
  intro pins s σ H x v vl vu lo hi sl Q I rx hs pl pu q
  rcases q with q | q
  · exact h pins s σ H x v vl vu lo hi sl Q I rx hs pl pu q
  · exact h' pins s σ H x v vl vu lo hi sl Q I rx hs pl pu q
def tSl (r : V → Option Int → Option Int → Hp → VK → Prop) (te : TE) (tl th : TO) : TE := fun σ H Q => te σ H fun x H1 => tl σ H1 fun l H2 => th σ H2 fun u H3 => r x l u H3 Q
/-- a[lo:hi], any a -/
theorem pe_slice {r : V → Option Int → Option Int → Hp → VK → Prop} (hr : SlR X r) (he : PE X e te) (hl : PO X lo tl) (hu : PO X hi th) : PE X (.Subscript e (.Slice lo hi none p2) pos) (tSl r te tl th) := by
  intro pins s σ H Q I h
  refine Subscript_ (thn (he pins s σ H _ I h) fun v s1 ⟨x, H1, I1, r1, q1⟩ => ?_)
  refine wpAny_Slice (thn (hl pins s1 σ H1 _ I1 q1) fun vl s2 ⟨l, H2, I2, pl, q2⟩ => thn (hu pins s2 σ H2 _ I2 q2) fun vu s3 ⟨u, H3, I3, pu, q3⟩ => ?_)
  rw [evalPart_none]
  refine wpAny_pure ?_
  have I4 : Inv X pins σ H3 { s3 with heap := s3.heap.push { cls := .type "slice", data := .fields #[vl, vu, .none] } } := I3.kept (t' := s3.toks) fun b ob q => Heap.get?_push_of_some _ q
  obtain ⟨T, id, hT, ht, hg⟩ := hr pins { s3 with heap := s3.heap.push { cls := .type "slice", data := .fields #[vl, vu, .none] } } σ H3 x v vl vu l u s3.heap.objs.size Q I4 r1 (Heap.IsSliceOf.new ..) pl pu q3
  show wpAny (model X.prog X.w) X.A (subscriptTail e (.Slice lo hi none p2) v (.ref s3.heap.objs.size)) (EP X pins σ Q) X.xe { s3 with heap := s3.heap.push { cls := .type "slice", data := .fields #[vl, vu, .none] } }
  exact tail_any (ops := [.ref s3.heap.objs.size, v]) ht hT hg (by with_unfolding_all rfl)

/-- the items of xs[lo:hi] -/
def cutV (xs : List V) (lo hi : Option Int) : List V := (xs.drop (HT.sIx xs.length 0 lo)).take (HT.sIx xs.length xs.length hi - HT.sIx xs.length 0 lo)
theorem cutV_length (xs : List V) (lo hi : Option Int) : (cutV xs lo hi).length ≤ xs.length := by
  unfold cutV
  rw [List.length_take, List.length_drop]
  omega
/-- t[lo:hi], not the whole of it (the whole would be t itself) -/
def rSlT (K : PySem.W.Frag) : V → Option Int → Option Int → Hp → VK → Prop := fun x lo hi H Q => ∃ a xs, x = .ref a ∧ SqT K H a xs ∧
  ¬ (HT.sIx xs.length 0 lo = 0 ∧ HT.sIx xs.length xs.length hi = xs.length) ∧ ∀ p, H p = none → Q (.ref p) (upd H p (.tup (cutV xs lo hi)))
theorem sl_tup : SlR X (rSlT X.K) := by
  intro pins s σ H x v vl vu lo hi sl Q I rx hs pl pu h
  obtain ⟨a, xs, rfl, hx, hw, q⟩ := h
  cases rx
  obtain ⟨its, r, ht, hz⟩ := I.tuple hx
  have hlen : its.toArray.size = xs.length := by rw [List.size_toArray]; exact r.length.symm
  refine ⟨"tuple", _, PyProof.Rows.slot_tuple_getitem.lookup, ht.typeIs, ?_⟩
  refine HT.getItem_tuple_cut ht hs pl pu (by rw [hlen]; exact hw) ?_ (by rw [hlen]; exact hz)
  rw [hlen]
  refine ⟨.ref s.heap.objs.size, _, I.laid (t' := s.toks) (o := .tup (cutV xs lo hi)) (fun b ob q => Heap.get?_push_of_some _ q) (Nat.le_refl _) ?_, rfl, q _ (I.hok.fresh (Nat.le_refl _))⟩
  exact ⟨Nat.le_trans (cutV_length xs lo hi) hz, _, (r.drop (HT.sIx xs.length 0 lo)).take (HT.sIx xs.length xs.length hi - HT.sIx xs.length 0 lo), IsTup.new _ _⟩

/-! ### t < u, t + u -/
def rLtT (K : PySem.W.Frag) : R2 := fun x y H Q => ∃ a b ns ms, x = .ref a ∧ y = .ref b ∧ SqT K H a (ns.map V.int) ∧ SqT K H b (ms.map V.int) ∧ Q (.bl (HT.lexLt ns ms)) H
theorem op_ltT (hu : X.A.units < cLine) : OpR X (compareOp .Lt) (rLtT X.K) := by
  intro pins s σ H x y v u Q I rx ry h
  obtain ⟨a, b, ns, ms, rfl, rfl, ha, hb, q⟩ := h
  cases rx
  cases ry
  obtain ⟨its, r1, p1, _⟩ := I.tuple ha
  obtain ⟨its2, r2, p2, _⟩ := I.tuple hb
  have i1 : IntsAre its.toArray.toList ns := intsAre_of r1
  have i2 : IntsAre its2.toArray.toList ms := intsAre_of r2
  exact HT.lt_tupInts p1 p2 i1 i2 hu ⟨.bl (HT.lexLt ns ms), H, I, rfl, q⟩
/-- t + u, t not empty: u empty gives t itself -/
def rCatT (K : PySem.W.Frag) : R2 := fun x y H Q => ∃ a b xs ys, x = .ref a ∧ y = .ref b ∧ SqT K H a xs ∧ SqT K H b ys ∧ xs ≠ [] ∧ xs.length + ys.length ≤ sizeLine ∧
  (ys = [] → Q (.ref a) H) ∧ (ys ≠ [] → ∀ p, H p = none → Q (.ref p) (upd H p (.tup (xs ++ ys))))
theorem Vals.nil_iff {xs : List V} {us : List Value} (r : Vals xs us) : us = [] ↔ xs = [] := by
  cases r with
  | nil => simp
  | cons _ _ => simp
theorem op_catT : OpR X (binaryOp .Add) (rCatT X.K) := by
  intro pins s σ H x y v u Q I rx ry h
  obtain ⟨a, b, xs, ys, rfl, rfl, ha, hb, hx, hz, q1, q2⟩ := h
  cases rx
  cases ry
  obtain ⟨its, r1, p1, _⟩ := I.tuple ha
  obtain ⟨its2, r2, p2, _⟩ := I.tuple hb
  refine HT.cat_tup p1 p2 (fun z => hx (r1.nil_iff.mp z)) (fun z => ⟨.ref a, H, I, rfl, q1 (r2.nil_iff.mp z)⟩) (fun z => ?_) (by rw [← r1.length, ← r2.length]; exact hz)
  refine ⟨.ref s.heap.objs.size, _, I.laid (t' := s.toks) (o := .tup (xs ++ ys)) (fun b ob q => Heap.get?_push_of_some _ q) (Nat.le_refl _) ?_, rfl, q2 (fun w => z (r2.nil_iff.mpr w)) _ (I.hok.fresh (Nat.le_refl _))⟩
  exact ⟨by rw [List.length_append]; exact hz, _, r1.append r2, IsTup.new _ _⟩
/-- tuple(t) -/
theorem call_tupleT : CallR X (.type "tuple") (fun xs H Q => ∃ a ys, xs = [.ref a] ∧ SqT X.K H a ys ∧ Q (.ref a) H) := by
  intro pins s σ H xs us Q I r h
  obtain ⟨a, ys, rfl, ha, q⟩ := h
  obtain ⟨u, rfl, ru⟩ := vals1 r
  cases ru
  obtain ⟨its, _, p1, _⟩ := I.tuple ha
  exact call_tuple_same (items := its.toArray) p1 ⟨.ref a, H, I, rfl, q⟩
end
end L2

namespace L2
open PySem PySem.Spec PyProof.Rows

/-! ### places -/
/-- the place that an index of any sign means -/
def ixN (n : Nat) (i : Int) : Option Nat := if 0 ≤ i then (if i < n then some i.toNat else none) else if -(n : Int) ≤ i then some (i + n).toNat else none
def atI {α : Type} (xs : List α) (i : Int) : Option α := (ixN xs.length i).bind fun j => xs[j]?
theorem ixN_seq {n : Nat} {i : Int} {j : Nat} (h : ixN n i = some j) : seqIndex? i n = some j ∧ j < n ∧ -(n : Int) ≤ i ∧ i < n := by
  unfold ixN at h
  by_cases h0 : 0 ≤ i
  · rw [if_pos h0] at h
    by_cases h1 : i < n
    · rw [if_pos h1] at h
      have e : i.toNat = j := Option.some.inj h
      exact ⟨by rw [seqIndex_of h0 h1, e], by omega, by omega, h1⟩
    · rw [if_neg h1] at h; cases h
  · rw [if_neg h0] at h
    by_cases h1 : -(n : Int) ≤ i
    · rw [if_pos h1] at h
      have e : (i + n).toNat = j := Option.some.inj h
      exact ⟨by rw [seqIndex_neg (by omega) h1, e], by omega, h1, by omega⟩
    · rw [if_neg h1] at h; cases h
theorem atI_get {α : Type} {xs : List α} {i : Int} {v : α} (h : atI xs i = some v) : ∃ j, seqIndex? i xs.length = some j ∧ xs[j]? = some v ∧ j < xs.length ∧ -(xs.length : Int) ≤ i ∧ i < xs.length := by
  unfold atI at h
  cases e : ixN xs.length i with
  | none => rw [e] at h; cases h
  | some j =>
    rw [e] at h
    obtain ⟨h1, h2, h3, h4⟩ := ixN_seq e
    exact ⟨j, h1, h, h2, h3, h4⟩
theorem atI_nat {α : Type} {xs : List α} {j : Nat} {v : α} (h : xs[j]? = some v) : atI xs (j : Int) = some v := by
  have hj : j < xs.length := (List.getElem?_eq_some_iff.mp h).1
  have e : ixN xs.length (j : Int) = some j := by
    unfold ixN
    rw [if_pos (by omega), if_pos (by omega)]; simp
  unfold atI; rw [e]; exact h
theorem atI_last {α : Type} (xs : List α) (v : α) : atI (xs ++ [v]) (-1) = some v := by
  have hl : (xs ++ [v]).length = xs.length + 1 := by simp
  have e : ixN (xs ++ [v]).length (-1) = some xs.length := by
    unfold ixN
    rw [hl, if_neg (by decide), if_pos (by omega)]
    congr 1
    omega
  unfold atI
  rw [e]
  show (xs ++ [v])[xs.length]? = some v
  simp

/-! ### what may be subscripted -/
/-- what stands as an index of a plain subscript -/
def PlainIx (b : Expr) : Prop := ∀ o i, subscripted b false o i = operate [o, i] (getItem o i)
/-- a subscript by values -/
def IxR (X : Cx) (r : R2) : Prop :=
  ∀ (value slice : Expr) (pins : List (Addr × Obj)) (s : Shared) (σ : St) (H : Hp) (x y : V) (v u : Value) (Q : VK), Inv X pins σ H s → RelV x v → RelV y u → r x y H Q →
    subscripted slice false v u = operate [v, u] (getItem v u) → wpAny (model X.prog X.w) X.A (subscriptTail value slice v u) (EP X pins σ Q) X.xe s
/-- a call of a builtin's method by values: the receiver, the arguments -/
def MtR (X : Cx) (id : String) (r : V → List V → Hp → VK → Prop) : Prop :=
  ∀ (pins : List (Addr × Obj)) (s : Shared) (σ : St) (H : Hp) (x : V) (xs : List V) (v : Value) (us : List Value) (Q : VK), Inv X pins σ H s → RelV x v → Vals xs us → r x xs H Q →
    wpAny (model X.prog X.w) X.A (call (.builtin id) (v :: us)) (EP X pins σ Q) X.xe s
section
variable {X : Cx} {a b : Expr} {ta tb : TE} {pos : Pos}
theorem IxR.or {r r' : R2} (h : IxR X r) (h' : IxR X r') : IxR X (fun x y H Q => r x y H Q ∨ r' x y H Q) := by
  intro value slice pins s σ H x y v u Q I rx ry q hs
  rcases q with q | q
  · exact h value slice pins s σ H x y v u Q I rx ry q hs
  · exact h' value slice pins s σ H x y v u Q I rx ry q hs
theorem MtR.or {id : String} {r r' : V → List V → Hp → VK → Prop} (h : MtR X id r) (h' : MtR X id r') : MtR X id (fun x xs H Q => r x xs H Q ∨ r' x xs H Q) := by
  intro pins s σ H x xs v us Q I rx rs q
  rcases q with q | q
  · exact h pins s σ H x xs v us Q I rx rs q
  · exact h' pins s σ H x xs v us Q I rx rs q
/-- a[b] -/
theorem pe_ix {r : R2} (hr : IxR X r) (ha : PE X a ta) (hb : PE X b tb) (hs : PlainIx b) : PE X (.Subscript a b pos) (tOp r ta tb) := by
  intro pins s σ H Q I h
  exact Subscript_ (binT ha hb I h fun v u s2 x y H2 I2 rx ry q => hr a b pins s2 σ H2 x y v u Q I2 rx ry q (hs _ _))

def rIxL (K : PySem.W.Frag) : R2 := fun x y H Q => ∃ p xs i v, x = .ref p ∧ y = .int i ∧ SqL K H p xs ∧ atI xs i = some v ∧ Q v H
def rIxT (K : PySem.W.Frag) : R2 := fun x y H Q => ∃ p xs i v, x = .ref p ∧ y = .int i ∧ SqT K H p xs ∧ atI xs i = some v ∧ Q v H
def rIxS : R2 := fun x y H Q => ∃ z i c, x = .str z ∧ y = .int i ∧ z.length ≤ sizeLine ∧ atI z.cps.toList i = some c ∧ Q (.str ⟨#[c]⟩) H
theorem ix_list : IxR X (rIxL X.K) := by
  intro value slice pins s σ H x y v u Q I rx ry h hs
  obtain ⟨p, xs, i, z, rfl, rfl, hq, he, q⟩ := h
  cases rx
  obtain ⟨t, rfl⟩ := ry
  obtain ⟨its, r, pl, hz⟩ := I.list hq
  obtain ⟨j, h1, h2, h3, h4, h5⟩ := atI_get he
  obtain ⟨w, ew, rw'⟩ := r.get h2
  have hl := r.length
  have hn := line63
  have fin : EP X pins σ Q w s := ⟨z, H, I, rw', q⟩
  by_cases h0 : 0 ≤ i
  · have hj : i.toNat = j := by
      rw [seqIndex_of h0 h5] at h1
      exact Option.some.inj h1
    exact item_listR pl.isList h0 (by omega) (by rw [hj]; simpa using ew) fin hs
  · have hj : (i + (its.toArray.size : Int)).toNat = j := by
      rw [seqIndex_neg (by omega) h4] at h1
      rw [List.size_toArray, ← hl]
      exact Option.some.inj h1
    exact subscriptTail_builtinR (x := w) pl.isList.typeIs slot_list_getitem.lookup
      (wpAny_getItem_list_neg (Q := fun r s' => r = w ∧ EP X pins σ Q r s') pl.isList (by omega) (by rw [List.size_toArray] <;> omega) (by omega) (by rw [hj]; simpa using ew) ⟨rfl, fin⟩) hs
theorem ix_tup : IxR X (rIxT X.K) := by
  intro value slice pins s σ H x y v u Q I rx ry h hs
  obtain ⟨p, xs, i, z, rfl, rfl, hq, he, q⟩ := h
  cases rx
  obtain ⟨t, rfl⟩ := ry
  obtain ⟨its, r, pl, hz⟩ := I.tuple hq
  obtain ⟨j, h1, h2, h3, h4, h5⟩ := atI_get he
  obtain ⟨w, ew, rw'⟩ := r.get h2
  have hl := r.length
  have hn := line63
  have fin : EP X pins σ Q w s := ⟨z, H, I, rw', q⟩
  exact subscriptTail_builtinR (x := w) pl.typeIs slot_tuple_getitem.lookup
    (getItem_tuple (j := j) (Q := fun r s' => r = w ∧ EP X pins σ Q r s') pl (by omega) (by omega) (by rw [List.size_toArray, ← hl]; exact h1) (by simpa using ew) ⟨rfl, fin⟩) hs
theorem ix_str : IxR X rIxS := by
  intro value slice pins s σ H x y v u Q I rx ry h hs
  obtain ⟨z, i, c, rfl, rfl, hz, he, q⟩ := h
  obtain ⟨t, rfl⟩ := rx
  obtain ⟨t', rfl⟩ := ry
  obtain ⟨j, h1, h2, h3, h4, h5⟩ := atI_get he
  have hl : z.cps.toList.length = z.length := by simp [Str.length]
  rw [hl] at h1 h4 h5
  have hn := line63
  exact tail_any (typeIs_str s z t) slot_str_getitem.lookup (getItem_str (c := c) (by
    have e1 : decide (i < -(2 ^ 63 : Int)) = false := decide_eq_false (by omega)
    have e2 : decide (i ≥ 2 ^ 63) = false := decide_eq_false (by omega)
    rw [e1, e2, Bool.or_false]) (by rw [h1]; simpa using h2) ⟨.str ⟨#[c]⟩, H, I.tok _, ⟨_, rfl⟩, q⟩) hs
/-- list, tuple or str -/
def rIx (K : PySem.W.Frag) : R2 := fun x y H Q => rIxL K x y H Q ∨ rIxT K x y H Q ∨ rIxS x y H Q
theorem ix_seq : IxR X (rIx X.K) := ix_list.or (ix_tup.or ix_str)

/-! ### xs[i] = v, any sign -/
/-- the list's object behind a store -/
theorem mapSeq_set (its : List Value) (n j : Nat) (u : Value) : Obj.mapSeq (·.setIfInBounds j u) { cls := .type "list", data := .seq its.toArray n } = { cls := .type "list", data := .seq (its.set j u).toArray n } := by
  simp [Obj.mapSeq]
theorem Inv.lst {pins : List (Addr × Obj)} {σ : St} {H : Hp} {s : Shared} {p : Addr} {xs : List V} (I : Inv X pins σ H s) (h : H p = some (.lst xs)) :
    ∃ (its : List Value) (n : Nat), Vals xs its ∧ s.heap.get? p = some { cls := .type "list", data := .seq its.toArray n } ∧ xs.length ≤ sizeLine := by
  obtain ⟨z, its, n, r, e⟩ := I.hok p _ h
  exact ⟨its, n, r, e, z⟩
/-- the list at p is written by an update of its object -/
theorem Inv.lstUpd {pins : List (Addr × Obj)} {σ : St} {H : Hp} {s : Shared} {p : Addr} {xs ys : List V} {its its' : List Value} {n n' : Nat} {f : Obj → Obj} (I : Inv X pins σ H s) (h : H p = some (.lst xs))
    (ho : s.heap.get? p = some { cls := .type "list", data := .seq its.toArray n }) (hf : f { cls := .type "list", data := .seq its.toArray n } = { cls := .type "list", data := .seq its'.toArray n' }) (r : Vals ys its') (hz : ys.length ≤ sizeLine) (t : Nat) :
    Inv X pins σ (upd H p (.lst ys)) { s with heap := s.heap.update p f, toks := t } := by
  have e : (s.heap.update p f).get? p = some { cls := .type "list", data := .seq its'.toArray n' } := by
    rw [Heap.get?_update_self f ho (by rw [hf] <;> rfl), hf]
  refine I.write (x := p) (e := p) (by rw [h]; trivial) (.inl rfl) (fun b u hb q => (Heap.get?_update_other _ _ (Ne.symm hb)).trans q) ⟨_, e⟩ ?_
  exact ⟨hz, its', n', r, e⟩
def rSetL : V → V → V → Hp → (Hp → Prop) → Prop := fun o i v H Q => ∃ p xs k j, o = .ref p ∧ i = .int k ∧ H p = some (.lst xs) ∧ ixN xs.length k = some j ∧ Q (upd H p (.lst (xs.set j v)))
theorem set_list : PSet X rSetL := by
  intro pins s σ H o i v ov iv u Q I ro ri rv h
  obtain ⟨p, xs, k, j, rfl, rfl, hp, hj, q⟩ := h
  cases ro
  obtain ⟨t, rfl⟩ := ri
  obtain ⟨its, n, r, ho, hz⟩ := I.lst hp
  obtain ⟨h1, h2, h3, h4⟩ := ixN_seq hj
  have hl := r.length
  have hn := line63
  have I' : Inv X pins σ (upd H p (.lst (xs.set j v))) { s with heap := s.heap.update p (Obj.mapSeq (·.setIfInBounds j u)) } :=
    I.lstUpd hp ho (mapSeq_set its n j u) (r.set rv j) (by rw [List.length_set]; exact hz) s.toks
  by_cases h0 : 0 ≤ k
  · have hk : k.toNat = j := by
      rw [seqIndex_of h0 h4] at h1
      exact Option.some.inj h1
    exact PySem.W.ki_setAt ho h0 (by omega) (by rw [List.size_toArray, ← hl]; exact h4) (by rw [hk]; exact ⟨_, I', q⟩)
  · have hk : (k + (its.toArray.size : Int)).toNat = j := by
      rw [seqIndex_neg (by omega) h3] at h1
      rw [List.size_toArray, ← hl]
      exact Option.some.inj h1
    exact PySem.W.ki_setBack ho (by omega) (by rw [List.size_toArray, ← hl]; exact h3) (by omega) (by rw [hk]; exact ⟨_, I', q⟩)

/-! ### slices -/
theorem slice_bounds (lo hi : Option Int) (n : Nat) : (sliceBounds lo hi none n).1 = ((HT.sIx n 0 lo : Nat) : Int) ∧ (sliceBounds lo hi none n).2.1 = ((HT.sIx n n hi : Nat) : Int) ∧ (sliceBounds lo hi none n).2.2 = 1 := by
  refine ⟨?_, ?_, rfl⟩
  · cases lo with
    | none => simp [sliceBounds, HT.sIx]
    | some i =>
      simp only [sliceBounds, HT.sIx, Option.getD_none, show (1 : Int) > 0 by decide, if_true]
      by_cases h : i < 0
      · simp only [h, if_true] <;> omega
      · simp only [h, if_false] <;> omega
  · cases hi with
    | none => simp [sliceBounds, HT.sIx]
    | some i =>
      simp only [sliceBounds, HT.sIx, Option.getD_none, show (1 : Int) > 0 by decide, if_true]
      by_cases h : i < 0
      · simp only [h, if_true] <;> omega
      · simp only [h, if_false] <;> omega
theorem slicePick_cut (its : List Value) (lo hi : Option Int) : slicePick its.toArray lo hi none = ((its.drop (HT.sIx its.length 0 lo)).take (HT.sIx its.length its.length hi - HT.sIx its.length 0 lo)).toArray := by
  obtain ⟨h1, h2, h3⟩ := slice_bounds lo hi its.toArray.size
  unfold slicePick
  rw [h1, h2, h3]
  simp only [sliceRange_one, pick_run, List.size_toArray] <;> rfl
/-- xs[lo:hi] of a list: a new list -/
def rSlL (K : PySem.W.Frag) : V → Option Int → Option Int → Hp → VK → Prop := fun x lo hi H Q => ∃ a xs, x = .ref a ∧ SqL K H a xs ∧ ∀ p, H p = none → Q (.ref p) (upd H p (.lst (cutV xs lo hi)))
theorem sl_list : SlR X (rSlL X.K) := by
  intro pins s σ H x v vl vu lo hi sl Q I rx hs pl pu h
  obtain ⟨a, xs, rfl, hx, q⟩ := h
  cases rx
  obtain ⟨its, r, ht, hz⟩ := I.list hx
  have hlen := r.length
  refine ⟨"list", _, slot_list_getitem.lookup, ht.isList.typeIs, ?_⟩
  refine wpAny_getItem_list_slice ht.isList hs pl pu .none (by simp) ?_ (by rw [List.size_toArray] <;> omega)
  rw [slicePick_cut, ← hlen]
  refine ⟨.ref s.heap.objs.size, _, I.laid (t' := s.toks) (o := .lst (cutV xs lo hi)) (fun b ob q => Heap.get?_push_of_some _ q) (Nat.le_refl _) ?_, rfl, q _ (I.hok.fresh (Nat.le_refl _))⟩
  exact ⟨Nat.le_trans (cutV_length xs lo hi) hz, _, 0, (r.drop (HT.sIx xs.length 0 lo)).take (HT.sIx xs.length xs.length hi - HT.sIx xs.length 0 lo), Heap.get?_push_size _ rfl⟩

/-! ### in, not in: flat items -/
def flatV : V → Bool
  | .non => true
  | .bl _ => true
  | .int _ => true
  | .str _ => true
  | _ => false
/-- == of flat values -/
def eqV : V → V → Bool
  | .non, .non => true
  | .bl a, .bl b => a == b
  | .bl a, .int b => (if a then 1 else 0) == b
  | .int a, .bl b => a == (if b then 1 else 0)
  | .int a, .int b => a == b
  | .str a, .str b => a == b
  | _, _ => false
theorem eqAt_V {A : Around} {s : Shared} {y x : V} {u v : Value} (ry : RelV y u) (rx : RelV x v) (fy : flatV y = true) (fx : flatV x = true) : SeqAt.EqAt A s u v (eqV y x) := by
  cases y with
  | non =>
    cases ry
    cases x with
    | non => cases rx; exact SeqAt.EqAt.same _
    | bl b => cases rx; exact SeqAt.EqAt.none_bool b
    | int b => obtain ⟨t, rfl⟩ := rx; exact SeqAt.EqAt.none_int b t
    | str b => obtain ⟨t, rfl⟩ := rx; exact SeqAt.EqAt.none_str b t
    | _ => exact absurd (show false = true from fx) Bool.false_ne_true
  | bl a =>
    cases ry
    cases x with
    | non => cases rx; exact SeqAt.EqAt.bool_none a
    | bl b => cases rx; exact SeqAt.EqAt.bool_bool a b
    | int b => obtain ⟨t, rfl⟩ := rx; exact SeqAt.EqAt.bool_int a b t
    | str b => obtain ⟨t, rfl⟩ := rx; exact SeqAt.EqAt.bool_str a b t
    | _ => exact absurd (show false = true from fx) Bool.false_ne_true
  | int a =>
    obtain ⟨t', rfl⟩ := ry
    cases x with
    | non => cases rx; exact SeqAt.EqAt.int_none a t'
    | bl b => cases rx; exact SeqAt.EqAt.int_bool a t' b
    | int b => obtain ⟨t, rfl⟩ := rx; exact SeqAt.EqAt.int_int a t' b t
    | str b => obtain ⟨t, rfl⟩ := rx; exact SeqAt.EqAt.int_str a t' b t
    | _ => exact absurd (show false = true from fx) Bool.false_ne_true
  | str a =>
    obtain ⟨t', rfl⟩ := ry
    cases x with
    | non => cases rx; exact SeqAt.EqAt.str_none a t'
    | bl b => cases rx; exact SeqAt.EqAt.str_bool a t' b
    | int b => obtain ⟨t, rfl⟩ := rx; exact SeqAt.EqAt.str_int a t' b t
    | str b => obtain ⟨t, rfl⟩ := rx; exact SeqAt.EqAt.str_str a t' b t
    | _ => exact absurd (show false = true from fx) Bool.false_ne_true
  | _ => exact absurd (show false = true from fy) Bool.false_ne_true
/-- the items' answers, read off the values (a value's own answer does not lean on its token) -/
def eqU (x : V) (u : Value) : Bool := match u with
  | .none => eqV .non x
  | .bool b => eqV (.bl b) x
  | .int i _ => eqV (.int i) x
  | .str z _ => eqV (.str z) x
  | _ => false
theorem eqU_of {x y : V} {u : Value} (r : RelV y u) (f : flatV y = true) : eqU x u = eqV y x := by
  cases y with
  | non => cases r; rfl
  | bl b => cases r; rfl
  | int i => obtain ⟨t, rfl⟩ := r; rfl
  | str z => obtain ⟨t, rfl⟩ := r; rfl
  | _ => exact absurd (show false = true from f) Bool.false_ne_true
theorem any_eqU {x : V} : ∀ {xs : List V} {us : List Value}, Vals xs us → xs.all flatV = true → us.any (eqU x) = xs.any fun y => eqV y x
  | _, _, .nil, _ => rfl
  | y :: xs, u :: us, .cons r t, f => by
    rw [List.all_cons, Bool.and_eq_true] at f
    rw [List.any_cons, List.any_cons, eqU_of r f.1, any_eqU t f.2]
theorem mem_eqAt {A : Around} {s : Shared} {x : V} {v : Value} (rx : RelV x v) (fx : flatV x = true) : ∀ {xs : List V} {us : List Value}, Vals xs us → xs.all flatV = true → ∀ u ∈ us, SeqAt.EqAt A s u v (eqU x u)
  | _, _, .nil, _ => fun u hu => by cases hu
  | y :: xs, u :: us, .cons r t, f => fun u' hu => by
    rw [List.all_cons, Bool.and_eq_true] at f
    rcases List.mem_cons.mp hu with rfl | hu
    · rw [eqU_of r f.1]; exact eqAt_V r rx f.1 fx
    · exact mem_eqAt rx fx t f.2 u' hu
def inV (x : V) (xs : List V) : Bool := xs.any fun y => eqV y x
/-- x in a list or tuple of flat items -/
def rIn (K : PySem.W.Frag) (neg : Bool) : R2 := fun x y H Q => ∃ p xs, y = .ref p ∧ (SqL K H p xs ∨ SqT K H p xs) ∧ flatV x = true ∧ xs.all flatV = true ∧ Q (.bl (if neg then !inV x xs else inV x xs)) H
theorem op_in_seq : OpR X (compareOp .In) (rIn X.K false) := by
  intro pins s σ H x y v u Q I rx ry h
  obtain ⟨p, xs, rfl, hq, fx, fs, q⟩ := h
  cases ry
  rcases hq with hq | hq
  · obtain ⟨its, r, pl, hz⟩ := I.list hq
    refine SeqAt.in_listAt (eqU x) pl.isList (fun w hw => mem_eqAt rx fx r fs w (by simpa using hw)) ⟨.bl _, H, I, rfl, ?_⟩
    rw [show its.toArray.any (eqU x) = its.any (eqU x) by simp, any_eqU r fs]
    exact q
  · obtain ⟨its, r, pl, hz⟩ := I.tuple hq
    refine SeqAt.in_tupleAt (eqU x) pl (fun w hw => mem_eqAt rx fx r fs w (by simpa using hw)) ⟨.bl _, H, I, rfl, ?_⟩
    rw [show its.toArray.any (eqU x) = its.any (eqU x) by simp, any_eqU r fs]
    exact q
theorem op_notIn_seq : OpR X (compareOp .NotIn) (rIn X.K true) := by
  intro pins s σ H x y v u Q I rx ry h
  obtain ⟨p, xs, rfl, hq, fx, fs, q⟩ := h
  cases ry
  rcases hq with hq | hq
  · obtain ⟨its, r, pl, hz⟩ := I.list hq
    refine SeqAt.notIn_listAt (eqU x) pl.isList (fun w hw => mem_eqAt rx fx r fs w (by simpa using hw)) ⟨.bl _, H, I, rfl, ?_⟩
    rw [show its.toArray.any (eqU x) = its.any (eqU x) by simp, any_eqU r fs]
    exact q
  · obtain ⟨its, r, pl, hz⟩ := I.tuple hq
    refine SeqAt.notIn_tupleAt (eqU x) pl (fun w hw => mem_eqAt rx fx r fs w (by simpa using hw)) ⟨.bl _, H, I, rfl, ?_⟩
    rw [show its.toArray.any (eqU x) = its.any (eqU x) by simp, any_eqU r fs]
    exact q
theorem op_notIn_str : OpR X (compareOp .NotIn) (fun x y H Q => ∃ i j, x = .str i ∧ y = .str j ∧ Q (.bl (!(!(Builtin.Str.occurrences j i 0 j.length 1).isEmpty))) H) := by
  intro pins s σ H x y v u Q I rx ry h
  obtain ⟨i, j, rfl, rfl, q⟩ := h
  obtain ⟨t, rfl⟩ := rx
  obtain ⟨t', rfl⟩ := ry
  exact notIn_str ⟨.bl _, H, I, rfl, q⟩

/-! ### len, list(x), tuple(x) of any list or tuple that is read -/
theorem call_len_seq : CallR X (.builtin "len") (fun xs H Q => ∃ p ys, xs = [.ref p] ∧ (SqL X.K H p ys ∨ SqT X.K H p ys) ∧ Q (.int ys.length) H) := by
  intro pins s σ H xs us Q I r h
  obtain ⟨p, ys, rfl, hq, q⟩ := h
  obtain ⟨u, rfl, rx⟩ := vals1 r
  cases rx
  have hn := line63
  rcases hq with hq | hq
  · obtain ⟨its, r', pl, hz⟩ := I.list hq
    have hlen := r'.length
    exact Calls.call_len_list pl.isList (by simp only [List.size_toArray] <;> omega) ⟨.int ys.length, H, I.tok _, ⟨s.toks + 1, by rw [List.size_toArray, hlen]⟩, q⟩
  · obtain ⟨its, r', pl, hz⟩ := I.tuple hq
    have hlen := r'.length
    exact len_tuple pl (by simp only [List.size_toArray] <;> omega) ⟨.int ys.length, H, I.tok _, ⟨s.toks + 1, by rw [List.size_toArray, hlen]⟩, q⟩
theorem call_len_str : CallR X (.builtin "len") (fun xs H Q => ∃ z, xs = [.str z] ∧ z.length ≤ sizeLine ∧ Q (.int z.length) H) := by
  intro pins s σ H xs us Q I r h
  obtain ⟨z, rfl, hz, q⟩ := h
  obtain ⟨u, rfl, t, rfl⟩ := vals1 r
  have hn := line63
  exact len_str (by omega) ⟨.int z.length, H, I.tok _, ⟨_, rfl⟩, q⟩
theorem CallR.or {f : Value} {r r' : List V → Hp → VK → Prop} (h : CallR X f r) (h' : CallR X f r') : CallR X f (fun xs H Q => r xs H Q ∨ r' xs H Q) := by
  intro pins s σ H xs us Q I rs q
  rcases q with q | q
  · exact h pins s σ H xs us Q I rs q
  · exact h' pins s σ H xs us Q I rs q
theorem call_list_of : CallR X (.type "list") (fun xs H Q => ∃ p ys, xs = [.ref p] ∧ (SqL X.K H p ys ∨ SqT X.K H p ys) ∧ ∀ l, H l = none → Q (.ref l) (upd H l (.lst ys))) := by
  intro pins s σ H xs us Q I r h
  obtain ⟨p, ys, rfl, hq, q⟩ := h
  obtain ⟨u, rfl, rx⟩ := vals1 r
  cases rx
  have fin : ∀ (its : List Value), Vals ys its → ys.length ≤ sizeLine → ∀ (h' : Heap) (c' : Nat), (∀ b o', s.heap.get? b = some o' → h'.get? b = some o') →
      h'.get? s.heap.objs.size = some { cls := .type "list", dict := none, data := .seq its.toArray c', slots := #[] } → EP X pins σ Q (.ref s.heap.objs.size) { s with heap := h' } := fun its r' hz h' c' kp e =>
    ⟨.ref s.heap.objs.size, _, I.laid (t' := s.toks) kp (Nat.le_refl _) (show ObjOk X.prog X.w _ h' _ (.lst ys) from ⟨hz, its, c', r', e⟩), rfl, q _ (I.hok.fresh (Nat.le_refl _))⟩
  rcases hq with hq | hq
  · obtain ⟨its, r', pl, hz⟩ := I.list hq
    have hlen := r'.length
    obtain ⟨o, ho, hc, n, hd⟩ := pl.isList
    exact call_list_seq p (.inl rfl) ho hc hd (fun h' c' kp e => fin its r' hz h' c' kp e) (by simp only [List.size_toArray] <;> omega)
  · obtain ⟨its, r', pl, hz⟩ := I.tuple hq
    have hlen := r'.length
    obtain ⟨o, ho, hc, n, hd⟩ := pl
    exact call_list_seq p (.inr rfl) ho hc hd (fun h' c' kp e => fin its r' hz h' c' kp e) (by simp only [List.size_toArray] <;> omega)
theorem call_tuple_of : CallR X (.type "tuple") (fun xs H Q => ∃ p ys, xs = [.ref p] ∧ ((SqL X.K H p ys ∧ ∀ l, H l = none → Q (.ref l) (upd H l (.tup ys))) ∨ (SqT X.K H p ys ∧ Q (.ref p) H))) := by
  intro pins s σ H xs us Q I r h
  obtain ⟨p, ys, rfl, h⟩ := h
  obtain ⟨u, rfl, rx⟩ := vals1 r
  cases rx
  rcases h with ⟨hq, q⟩ | ⟨hq, q⟩
  · obtain ⟨its, r', pl, hz⟩ := I.list hq
    have hlen := r'.length
    refine call_tuple_list pl.isList (fun h' kp => ?_) (by simp only [List.size_toArray] <;> omega)
    have I1 : Inv X pins σ H { s with heap := h' } := I.kept (t' := s.toks) kp
    have I2 : Inv X pins σ (upd H h'.objs.size (.tup ys)) { s with heap := h'.push { cls := .type "tuple", data := .seq its.toArray } } :=
      I1.laid (t' := s.toks) (fun b o e => Heap.get?_push_of_some _ e) (Nat.le_refl _) (show ObjOk X.prog X.w _ _ _ (.tup ys) from ⟨hz, its, r', IsTup.new _ _⟩)
    exact ⟨.ref h'.objs.size, _, I2, rfl, q _ (I1.hok.fresh (Nat.le_refl _))⟩
  · obtain ⟨its, r', pl, hz⟩ := I.tuple hq
    exact call_tuple_same pl ⟨.ref p, H, I, rfl, q⟩

/-! ### the call of a builtin's method: o.m(..) -/
/-- the value is of that builtin type -/
def tyV (K : PySem.W.Frag) (T : String) (x : V) (H : Hp) : Prop := match x with
  | .str _ => T = "str"
  | .int _ => T = "int"
  | .ref p => (T = "list" ∧ ∃ xs, SqL K H p xs) ∨ (T = "tuple" ∧ ∃ o, K.lookup p = some o ∧ o.cls = .type "tuple" ∧ o.dict = none) ∨
      (T = "dict" ∧ ((∃ kvs, H p = some (.dK kvs)) ∨ ∃ kvs, H p = some (.dT kvs))) ∨ (T = "set" ∧ ∃ S n, H p = some (.set S n))
  | _ => False
theorem tyV_is {pins : List (Addr × Obj)} {σ : St} {H : Hp} {s : Shared} {T : String} {x : V} {v : Value} (I : Inv X pins σ H s) (r : RelV x v) (ty : tyV X.K T x H) :
    s.TypeIs v T ∧ ∀ a, v = .ref a → ∃ ob, s.heap.get? a = some ob ∧ ob.dict = none := by
  cases x with
  | str z =>
    obtain ⟨t, rfl⟩ := r
    cases (show T = "str" from ty)
    exact ⟨typeIs_str s z t, fun _ e => nomatch e⟩
  | int i =>
    obtain ⟨t, rfl⟩ := r
    cases (show T = "int" from ty)
    exact ⟨typeIs_int s i t, fun _ e => nomatch e⟩
  | ref p =>
    cases r
    rcases ty with ⟨rfl, xs, hq⟩ | ⟨rfl, o, hk, hc, hd⟩ | ⟨rfl, hk⟩ | ⟨rfl, S, n, hk⟩
    · obtain ⟨its, _, pl, _⟩ := I.list hq
      refine ⟨pl.isList.typeIs, fun a e => ?_⟩
      cases e
      obtain ⟨o, n, e, c, hd, _⟩ := pl
      exact ⟨o, e, hd⟩
    · refine ⟨⟨o, I.kIn p o hk, hc⟩, fun a e => ?_⟩
      cases e
      exact ⟨o, I.kIn _ o hk, hd⟩
    · have z : ∃ o, s.heap.get? p = some o ∧ o.ExactDict := by
        rcases hk with ⟨kvs, hk⟩ | ⟨kvs, hk⟩
        · obtain ⟨_, _, _, _, o, _, _, e, ex, _⟩ := I.hok p _ hk
          exact ⟨o, e, ex⟩
        · obtain ⟨_, _, _, _, o, _, _, e, ex, _⟩ := I.hok p _ hk
          exact ⟨o, e, ex⟩
      obtain ⟨o, e, ex⟩ := z
      refine ⟨⟨o, e, ex.1⟩, fun a e2 => ?_⟩
      cases e2
      exact ⟨o, e, ex.2.1⟩
    · obtain ⟨o, _, _, _, e, ex, _⟩ := I.hok p _ hk
      refine ⟨⟨o, e, ex.1⟩, fun a e2 => ?_⟩
      cases e2
      exact ⟨o, e, ex.2.1⟩
  | _ => exact False.elim ty
def tBM0 (K : PySem.W.Frag) (T : String) (r : V → List V → Hp → VK → Prop) (to : TE) : TE := fun σ H Q => to σ H fun x H1 => tyV K T x H1 ∧ r x [] H1 Q
def tBM (K : PySem.W.Frag) (T : String) (r : V → List V → Hp → VK → Prop) (to : TE) (t : TA) : TE := fun σ H Q => to σ H fun x H1 => tyV K T x H1 ∧ t σ H1 fun xs H2 => r x xs H2 Q
variable {o e : Expr} {es : List Expr} {to : TE} {t : TA} {name : Str} {apos cpos : Pos} {T id : String} {r : V → List V → Hp → VK → Prop}
theorem pe_bm0 (pa : PlainAttrs T) (slot : Slot T name id) (hty : typeOf (.builtin id) = pure (.type "method_descriptor")) (hm : MtR X id r) (ho : PE X o to)
    (hbase : attributeBase o name X.env (eval o X.env) = eval o X.env := by rfl) (hline : (apos.endLine == cpos.line) = true := by rfl) : PE X (.Call (.Attribute o name apos) [] [] cpos) (tBM0 X.K T r to) := by
  intro pins s σ H Q I h
  refine wpAny_Call_method0_late hbase hline (thn (ho pins s σ H _ I h) fun v s1 ⟨x, H1, I1, r1, ty, q1⟩ => ?_)
  obtain ⟨h1, h2⟩ := tyV_is I1 r1 ty
  exact ⟨T, id, pa, slot, hty, h1, h2, Calls.callWith_builtin rfl (PySem.evalArgs_none (hm pins s1 σ H1 x [] v [] Q I1 r1 .nil q1))⟩
theorem pe_bm (pa : PlainAttrs T) (slot : Slot T name id) (hty : typeOf (.builtin id) = pure (.type "method_descriptor")) (hm : MtR X id r) (ho : PE X o to) (ha : PA X (e :: es) t)
    (hbase : attributeBase o name X.env (eval o X.env) = eval o X.env := by rfl)
    (hfew : ((backTo cpos (starEach (e :: es) X.env)).all (fun x => !x.1) && (backToKw cpos (keywordEach [] X.env)).all (fun x => x.1.isSome)
      && decide ((e :: es).length + ([] : List Keyword).length + (if ([] : List Keyword).isEmpty then 0 else 1) < 30)) = true := by rfl)
    (hline : (apos.endLine == cpos.line) = true := by rfl) (hs : starEach (e :: es) X.env = (false, eval e X.env) :: starEach es X.env := by rfl) (hplain : (backTo cpos (starEach es X.env)).any (·.1) = false := by rfl) :
    PE X (.Call (.Attribute o name apos) (e :: es) [] cpos) (tBM X.K T r to t) := by
  intro pins s σ H Q I h
  refine wpAny_Call_method_late hbase hfew hline rfl (thn (ho pins s σ H _ I h) fun v s1 ⟨x, H1, I1, r1, ty, q1⟩ => ?_)
  obtain ⟨h1, h2⟩ := tyV_is I1 r1 ty
  refine ⟨T, id, pa, slot, hty, h1, h2, ?_⟩
  have hA := ha cpos pins s1 σ H1 _ I1 q1
  rw [hs] at hA ⊢
  refine Calls.callWith_builtin (by show (false || (backTo cpos (starEach es X.env)).any (·.1)) = false; rw [hplain] <;> rfl) (Calls.evalArgs_plain ?_)
  exact thn hA fun us s2 ⟨vs, H2, I2, r2, q2⟩ => hm pins s2 σ H2 x vs v us Q I2 r1 r2 q2
/- xs.append(e), list.index on a module's tuple .. are MtR facts of 06m -/
end
end L2

namespace L2
open PySem PySem.Spec PyProof.Rows

def MtM (X : Cx) (id : String) (r : V → List V → Hp → VK → Prop) : Prop :=
  ∀ (pins : List (Addr × Obj)) (s : Shared) (σ : St) (H : Hp) (x : V) (xs : List V) (v : Value) (us : List Value) (Q : VK), Inv X pins σ H s → RelV x v → Vals xs us → r x xs H Q →
    wpAny (model X.prog X.w) X.A (call (.builtin id) (v :: us)) (EP X pins σ Q) X.xe s

/-! ### lists of values -/
theorem Vals.one : ∀ {x : V} {us : List Value}, Vals [x] us → ∃ u, us = [u] ∧ RelV x u
  | _, _, .cons r .nil => ⟨_, rfl, r⟩
theorem Vals.two : ∀ {x y : V} {us : List Value}, Vals [x, y] us → ∃ u v, us = [u, v] ∧ RelV x u ∧ RelV y v
  | _, _, _, .cons r (.cons q .nil) => ⟨_, _, rfl, r, q⟩
theorem Vals.zero : ∀ {us : List Value}, Vals [] us → us = []
  | _, .nil => rfl
theorem Vals.dropLast {xs : List V} {us : List Value} (h : Vals xs us) : Vals xs.dropLast us.dropLast := by
  induction h with
  | nil => exact .nil
  | cons r t ih =>
    cases t with
    | nil => exact .nil
    | cons q t' => exact .cons r ih
theorem Vals.eraseIdx : ∀ {xs : List V} {us : List Value} (i : Nat), Vals xs us → Vals (xs.eraseIdx i) (us.eraseIdx i)
  | _, _, _, .nil => .nil
  | _, _, 0, .cons _ t => t
  | _, _, i + 1, .cons r t => .cons r (Vals.eraseIdx i t)
theorem Vals.reverse {xs : List V} {us : List Value} (h : Vals xs us) : Vals xs.reverse us.reverse := by
  induction h with
  | nil => exact .nil
  | cons r t ih => rw [List.reverse_cons, List.reverse_cons]; exact Vals.append ih (.cons r .nil)
theorem Vals.rep {xs : List V} {us : List Value} (h : Vals xs us) : ∀ k : Nat, Vals (List.replicate k xs).flatten (List.replicate k us).flatten
  | 0 => .nil
  | k + 1 => by
    rw [List.replicate_succ, List.replicate_succ, List.flatten_cons, List.flatten_cons]
    exact Vals.append h (Vals.rep h k)
theorem erase_last {α : Type} (l : List α) : l.eraseIdx (l.length - 1) = l.dropLast := by
  induction l with
  | nil => rfl
  | cons a r ih =>
    cases r with
    | nil => rfl
    | cons b r =>
      have e : (a :: b :: r).length - 1 = ((b :: r).length - 1) + 1 := by
        have h1 : (a :: b :: r).length = r.length + 2 := rfl
        have h2 : (b :: r).length = r.length + 1 := rfl
        omega
      rw [e, List.eraseIdx_cons_succ, ih]
      all_goals rfl
theorem len_erase {α : Type} : ∀ (l : List α) (i : Nat), (l.eraseIdx i).length ≤ l.length
  | [], _ => Nat.le_refl _
  | _ :: _, 0 => Nat.le_succ _
  | _ :: r, i + 1 => Nat.succ_le_succ (len_erase r i)
theorem foldl_rep (its : List Value) : ∀ (k : Nat) (acc : List Value),
    List.foldl (fun x1 x2 => x1 ++ x2) acc.toArray (List.replicate k its.toArray) = (acc ++ (List.replicate k its).flatten).toArray
  | 0, acc => by simp
  | k + 1, acc => by
    have e : acc.toArray ++ its.toArray = (acc ++ its).toArray := by simp
    have e2 : (acc ++ its) ++ (List.replicate k its).flatten = acc ++ (List.replicate (k + 1) its).flatten := by
      rw [List.replicate_succ, List.flatten_cons, List.append_assoc]
    rw [← e2, ← foldl_rep its k (acc ++ its), ← e, List.replicate_succ, List.foldl_cons]

section
variable {X : Cx} {pins : List (Addr × Obj)} {σ : St} {H : Hp} {s : Shared} {l b : Addr} {xs ys zs : List V}

/-! ### the two steps: a tracked list is rewritten, a new list is laid -/
theorem Inv.lset {its its' : List Value} {n : Nat} {f : Array Value → Array Value} {t' : Nat} (I : Inv X pins σ H s) (hH : H l = some (.lst xs))
    (e : s.heap.get? l = some { cls := .type "list", data := .seq its.toArray n }) (hf : f its.toArray = its'.toArray) (hv : Vals ys its') (hz : ys.length ≤ sizeLine) :
    Inv X pins σ (upd H l (.lst ys)) { s with heap := s.heap.update l (Obj.mapSeq f), toks := t' } := by
  have q := PySem.IsL.update e f
  rw [hf] at q
  refine I.write (x := l) (e := l) (by rw [hH]; exact trivial) (.inl rfl) (fun b' u hb hu => (Heap.get?_update_other s.heap (Obj.mapSeq f) (Ne.symm hb)).trans hu) ⟨_, q⟩ ?_
  exact ⟨hz, its', _, hv, q⟩
theorem Inv.lnew {its : List Value} {t' : Nat} (I : Inv X pins σ H s) (hv : Vals ys its) (hz : ys.length ≤ sizeLine) :
    Inv X pins σ (upd H s.heap.objs.size (.lst ys)) { s with heap := s.heap.push { cls := .type "list", data := .seq its.toArray }, toks := t' } :=
  I.laid (fun _ _ q => Heap.get?_push_of_some _ q) (Nat.le_refl _) ⟨hz, its, 0, hv, Heap.get?_push_size _ rfl⟩
theorem Inv.fresh (I : Inv X pins σ H s) : H s.heap.objs.size = none := I.hok.fresh (Nat.le_refl _)
theorem Inv.lstM (I : Inv X pins σ H s) (hH : H l = some (.lst xs)) : xs.length ≤ sizeLine ∧ ∃ (its : List Value) (n : Nat), Vals xs its ∧ xs.length = its.length ∧ s.heap.get? l = some { cls := .type "list", data := .seq its.toArray n } := by
  obtain ⟨z, its, n, r, e⟩ := I.hok l _ hH
  exact ⟨z, its, n, r, r.length, e⟩

theorem notLongL {n : Nat} (h : n ≤ sizeLine) : Builtin.List.listTooLong n = false := by
  unfold Builtin.List.listTooLong
  exact decide_eq_false (by omega)
end

section
variable {X : Cx}

/-! ### methods -/
def rAppend : V → List V → Hp → VK → Prop := fun x vs H Q => ∃ l xs y, x = .ref l ∧ vs = [y] ∧ H l = some (.lst xs) ∧ xs.length < sizeLine ∧ Q .non (upd H l (.lst (xs ++ [y])))
theorem mt_append : MtM X "list.append" rAppend := by
  intro pins s σ H x vs v us Q I rx rv h
  obtain ⟨l, xs, y, rfl, rfl, hH, hz, q⟩ := h
  cases rx
  obtain ⟨u, rfl, ru⟩ := rv.one
  obtain ⟨z, its, n, r, hl, e⟩ := I.lstM hH
  refine call_meets F.slot_list_append ⟨_, e, rfl⟩ F.entry_list_append (F.args_list_append_2 _ _) (PySem.list_append l its.toArray n u (by rw [List.size_toArray]; omega)) ⟨e, ?_⟩
  refine ⟨.non, _, I.lset (its' := its ++ [u]) hH e (by simp) (r.append (.cons ru .nil)) ?_, rfl, q⟩
  rw [List.length_append, List.length_singleton]
  omega

def rExtend : V → List V → Hp → VK → Prop := fun x vs H Q => ∃ l b xs zs, x = .ref l ∧ vs = [.ref b] ∧ H l = some (.lst xs) ∧ H b = some (.lst zs) ∧ xs.length + zs.length ≤ sizeLine ∧ Q .non (upd H l (.lst (xs ++ zs)))
theorem mt_extend : MtM X "list.extend" rExtend := by
  intro pins s σ H x vs v us Q I rx rv h
  obtain ⟨l, b, xs, zs, rfl, rfl, hH, hB, hz, q⟩ := h
  cases rx
  obtain ⟨u, rfl, ru⟩ := rv.one
  cases ru
  obtain ⟨z, its, n, r, hl, e⟩ := I.lstM hH
  obtain ⟨z2, its2, n2, r2, hl2, e2⟩ := I.lstM hB
  have hsz : its.toArray.size + its2.toArray.size ≤ sizeLine := by rw [List.size_toArray, List.size_toArray]; omega
  have hlong : ¬ (!its.toArray.isEmpty && Builtin.List.listTooLong (its.toArray.size + its2.toArray.size)) = true := by
    rw [notLongL hsz, Bool.and_false]
    exact Bool.false_ne_true
  refine call_meets F.slot_list_extend ⟨_, e, rfl⟩ F.entry_list_extend (F.args_list_extend_2 _ _)
    (AutoSeq1.list_extend_list_list_0 l its.toArray n b its2.toArray n2 hlong (by rw [List.size_toArray]; omega) (by omega)) ⟨e, e2, ?_⟩
  refine ⟨.non, _, I.lset (its' := its ++ its2) hH e (by simp) (r.append r2) ?_, rfl, q⟩
  rw [List.length_append]
  omega

def rPop : V → List V → Hp → VK → Prop := fun x vs H Q => ∃ l xs y, x = .ref l ∧ vs = [] ∧ H l = some (.lst xs) ∧ xs[xs.length - 1]? = some y ∧ Q y (upd H l (.lst xs.dropLast))
theorem mt_pop : MtM X "list.pop" rPop := by
  intro pins s σ H x vs v us Q I rx rv h
  obtain ⟨l, xs, y, rfl, rfl, hH, hy, q⟩ := h
  cases rx
  have hus := rv.zero
  subst hus
  obtain ⟨z, its, n, r, hl, e⟩ := I.lstM hH
  obtain ⟨u, hu, ru⟩ := r.get hy
  have hy' : its.toArray[its.toArray.size - 1]? = some u := by
    show its.toArray[its.length - 1]? = some u
    rw [← Array.getElem?_toList, ← hl]
    exact hu
  refine call_meets F.slot_list_pop ⟨_, e, rfl⟩ F.entry_list_pop (F.args_list_pop_1 _) (MeetsSeq.list_pop_last l its.toArray n u hy' (by rw [List.size_toArray]; omega)) ⟨e, ?_⟩
  refine ⟨y, _, I.lset (its' := its.dropLast) hH e ?_ r.dropLast ?_, ru, q⟩
  · show its.toArray.eraseIdxIfInBounds (its.toArray.size - 1) = its.dropLast.toArray
    rw [List.size_toArray, List.eraseIdxIfInBounds_toArray, erase_last]
  · rw [List.length_dropLast]
    omega

def rPopAt : V → List V → Hp → VK → Prop := fun x vs H Q => ∃ l xs i k y, x = .ref l ∧ vs = [.int i] ∧ H l = some (.lst xs) ∧ -(2 ^ 63) ≤ i ∧ i < 2 ^ 63 ∧ seqIndex? i xs.length = some k ∧ xs[k]? = some y ∧ Q y (upd H l (.lst (xs.eraseIdx k)))
theorem mt_popAt : MtM X "list.pop" rPopAt := by
  intro pins s σ H x vs v us Q I rx rv h
  obtain ⟨l, xs, i, k, y, rfl, rfl, hH, h1, h2, hk, hy, q⟩ := h
  cases rx
  obtain ⟨u, rfl, ru⟩ := rv.one
  obtain ⟨t, rfl⟩ := ru
  obtain ⟨z, its, n, r, hl, e⟩ := I.lstM hH
  obtain ⟨w, hw, rw'⟩ := r.get hy
  refine call_meets F.slot_list_pop ⟨_, e, rfl⟩ F.entry_list_pop (F.args_list_pop_2 _ _)
    (MeetsSeq.list_pop_at l its.toArray n i t k w (fitsIndex_both h1 h2) (by rw [List.size_toArray, ← hl]; exact hk) (by rw [← Array.getElem?_toList]; exact hw) (by rw [List.size_toArray]; omega)) ⟨e, ?_⟩
  refine ⟨y, _, I.lset (its' := its.eraseIdx k) hH e ?_ (r.eraseIdx k) ?_, rw', q⟩
  · show its.toArray.eraseIdxIfInBounds k = (its.eraseIdx k).toArray
    rw [List.eraseIdxIfInBounds_toArray]
  · have := len_erase xs k
    omega

def rReverse : V → List V → Hp → VK → Prop := fun x vs H Q => ∃ l xs, x = .ref l ∧ vs = [] ∧ H l = some (.lst xs) ∧ Q .non (upd H l (.lst xs.reverse))
theorem mt_reverse : MtM X "list.reverse" rReverse := by
  intro pins s σ H x vs v us Q I rx rv h
  obtain ⟨l, xs, rfl, rfl, hH, q⟩ := h
  cases rx
  have hus := rv.zero
  subst hus
  obtain ⟨z, its, n, r, hl, e⟩ := I.lstM hH
  refine call_meets F.slot_list_reverse ⟨_, e, rfl⟩ F.entry_list_reverse (F.args_list_reverse_1 _) (AutoSeq1.list_reverse_list_0 l its.toArray n (by rw [List.size_toArray]; omega)) ⟨e, ?_⟩
  refine ⟨.non, _, I.lset (its' := its.reverse) hH e (by simp) r.reverse ?_, rfl, q⟩
  rw [List.length_reverse]
  omega

def rClear : V → List V → Hp → VK → Prop := fun x vs H Q => ∃ l xs, x = .ref l ∧ vs = [] ∧ H l = some (.lst xs) ∧ Q .non (upd H l (.lst []))
theorem mt_clear : MtM X "list.clear" rClear := by
  intro pins s σ H x vs v us Q I rx rv h
  obtain ⟨l, xs, rfl, rfl, hH, q⟩ := h
  cases rx
  have hus := rv.zero
  subst hus
  obtain ⟨z, its, n, r, hl, e⟩ := I.lstM hH
  refine call_meets F.slot_list_clear ⟨_, e, rfl⟩ F.entry_list_clear (F.args_list_clear_1 _) (AutoSeq1.list_clear_list_0 l its.toArray n (by rw [List.size_toArray]; omega)) ⟨e, ?_⟩
  exact ⟨.non, _, I.lset (its' := []) (ys := []) hH e rfl .nil (Nat.zero_le _), rfl, q⟩

/-! ### list + list, list += list, list * int -/
def rCat : R2 := fun x y H Q => ∃ l b xs zs, x = .ref l ∧ y = .ref b ∧ H l = some (.lst xs) ∧ H b = some (.lst zs) ∧ xs.length + zs.length ≤ sizeLine ∧ ∀ p, H p = none → Q (.ref p) (upd H p (.lst (xs ++ zs)))
theorem op_cat : OpR X (binaryOp .Add) rCat := by
  intro pins s σ H x y v u Q I rx ry h
  obtain ⟨l, b, xs, zs, rfl, rfl, hH, hB, hz, q⟩ := h
  cases rx
  cases ry
  obtain ⟨z, its, n, r, hl, e⟩ := I.lstM hH
  obtain ⟨z2, its2, n2, r2, hl2, e2⟩ := I.lstM hB
  refine PySem.P.add_list e e2 ?_ (by rw [List.size_toArray, List.size_toArray]; omega)
  have ea : its.toArray ++ its2.toArray = (its ++ its2).toArray := by simp
  rw [ea]
  exact ⟨.ref _, _, I.lnew (t' := s.toks) (r.append r2) (by rw [List.length_append]; omega), rfl, q _ I.fresh⟩
/-- a list times an int (a negative one is nothing) -/
def rRep : R2 := fun x y H Q => ∃ l k xs, x = .ref l ∧ y = .int k ∧ H l = some (.lst xs) ∧ -(2 ^ 63) ≤ k ∧ k < 2 ^ 63 ∧ xs.length * k.toNat ≤ sizeLine ∧
  ∀ p, H p = none → Q (.ref p) (upd H p (.lst (List.replicate k.toNat xs).flatten))
theorem len_rep {α : Type} (xs : List α) (k : Nat) : (List.replicate k xs).flatten.length = k * xs.length := by
  induction k with
  | zero => simp
  | succ k ih => rw [List.replicate_succ, List.flatten_cons, List.length_append, ih, Nat.succ_mul, Nat.add_comm]
theorem op_rep : OpR X (binaryOp .Mult) rRep := by
  intro pins s σ H x y v u Q I rx ry h
  obtain ⟨l, k, xs, rfl, rfl, hH, h1, h2, hz, q⟩ := h
  cases rx
  obtain ⟨t, rfl⟩ := ry
  obtain ⟨z, its, n, r, hl, e⟩ := I.lstM hH
  have hlen : its.toArray.size * k.toNat ≤ sizeLine := by rw [List.size_toArray, ← hl]; exact hz
  have hcap : ¬ its.toArray.size * k.toNat > (2 ^ 63 - 1) / 8 := by
    have : (sizeLine : Nat) ≤ (2 ^ 63 - 1) / 8 := by decide
    omega
  have hfit : ¬ (!Builtin.List.listFitsIndex k) = true := by
    rw [fitsIndex_both h1 h2]
    exact Bool.false_ne_true
  have hlong : ¬ Builtin.List.listTooLong (its.toArray.size * k.toNat) = true := by
    rw [notLongL hlen]
    exact Bool.false_ne_true
  have hnew : List.foldl (fun x1 x2 => x1 ++ x2) #[] (List.replicate (if its.toArray.isEmpty = true then 0 else k.toNat) its.toArray) = (List.replicate k.toNat its).flatten.toArray := by
    have f0 : ∀ m : Nat, List.foldl (fun x1 x2 => x1 ++ x2) #[] (List.replicate m its.toArray) = (List.replicate m its).flatten.toArray := fun m => by
      have := foldl_rep its m []
      rw [List.nil_append] at this
      exact this
    rw [f0]
    cases its with
    | nil => simp
    | cons a r' => rw [if_neg (by simp)]
  refine wpAny_binaryOp_repeat_ref (T := "list") (U := "int") (by decide) ⟨_, e, rfl⟩ (fun s' => typeIs_int s' k t) noFill_list_mul F.fills_int_mul F.slot_int_rmul repeat_list F.slot_int_index.lookup
    (call_meets F.slot_int_rmul (typeIs_int s k t) F.entry_int_rmul (F.args_int_rmul_2 _ _) (int___rmul___int_list k t l its.toArray n)
      ⟨e, rfl, ⟨_, e, rfl⟩, call_meets F.slot_list_mul ⟨_, e, rfl⟩ F.entry_list_mul (F.args_list_mul_2 _ _) (AutoListH.list___mul___list_int_3 l its.toArray n k t hfit hcap hlong) ⟨e, ?_⟩⟩)
  rw [hnew]
  exact ⟨.ref _, _, I.lnew (t' := s.toks) (r.rep k.toNat) (by rw [len_rep, Nat.mul_comm]; exact hz), rfl, q _ I.fresh⟩

/-! ### del xs[i] -/
theorem del_list {pins : List (Addr × Obj)} {s : Shared} {σ : St} {H : Hp} {l : Addr} {xs : List V} {i : Int} {t : Tok} {k : Nat} {Q : Unit → Shared → Prop} (I : Inv X pins σ H s) (hH : H l = some (.lst xs))
    (h1 : -(2 ^ 63) ≤ i) (h2 : i < 2 ^ 63) (hk : seqIndex? i xs.length = some k) (h : ∀ s', Inv X pins σ (upd H l (.lst (xs.eraseIdx k))) s' → Q () s') :
    wpAny (model X.prog X.w) X.A (delItem (.ref l) (.int i t)) Q X.xe s := by
  obtain ⟨z, its, n, r, hl, e⟩ := I.lstM hH
  refine PySem.P.delItem_list (k := k) e (fitsIndex_both h1 h2) (by rw [List.size_toArray, ← hl]; exact hk) (h _ ?_) (by rw [List.size_toArray]; omega)
  refine I.lset (its' := its.eraseIdx k) (t' := s.toks) hH e ?_ (r.eraseIdx k) ?_
  · show its.toArray.eraseIdxIfInBounds k = (its.eraseIdx k).toArray
    rw [List.eraseIdxIfInBounds_toArray]
  · have := len_erase xs k
    omega
end

/-! ### xs[a:b] = ys -/
section
variable {prog : Program} {w : World} {A : Around} {E : Value → Shared → Prop} {s : Shared}
theorem splice_eq (its its2 : List Value) (a c : Nat) : its.toArray.extract 0 a ++ its2.toArray ++ its.toArray.extract c its.toArray.size = (its.take a ++ its2 ++ its.drop c).toArray := by
  apply Array.toList_inj.mp
  first
    | (simp
       exact List.take_of_length_le (by simp))
    | simp [List.take_of_length_le]
    | simp
theorem bounds_run {a c n : Nat} (hac : a ≤ c) (hc : c ≤ n) : sliceBounds (some (a : Int)) (some (c : Int)) none n = ((a : Int), (c : Int), 1) := by
  simp only [sliceBounds, Option.getD_none]
  have h1 : ¬ ((a : Int) < 0) := by omega
  have h2 : ¬ ((c : Int) < 0) := by omega
  simp only [h1, h2, if_false, show (1 : Int) > 0 by decide, if_true]
  congr 1
  · omega
  · congr 1; omega
set_option maxRecDepth 100000 in
/-- list.__setitem__ with a slice of step one and another list -/
theorem setItem_slice {l b sl : Addr} {items new : Array Value} {n n2 : Nat} {vl vu : Value} {a c : Nat} {Q : Unit → Shared → Prop}
    (e : s.heap.get? l = some { cls := .type "list", data := .seq items n }) (e2 : s.heap.get? b = some { cls := .type "list", data := .seq new n2 }) (hne : l ≠ b)
    (hs : s.heap.IsSliceOf sl vl vu .none) (pl : IsPart vl (some (a : Int))) (pu : IsPart vu (some (c : Int))) (hac : a ≤ c) (hc : c ≤ items.size)
    (hsz : items.size + new.size ≤ sizeLine) (h : Q () { s with heap := s.heap.update l (Obj.mapSeq fun xs => xs.extract 0 a ++ new ++ xs.extract c xs.size) }) :
    wpAny (model prog w) A (setItem (.ref l) (.ref sl) (.ref b)) Q E s := by
  have hl : s.heap.IsList l items := PySem.IsL.isList e
  have hb : s.heap.IsList b new := PySem.IsL.isList e2
  obtain ⟨os, hos, hcs, hds⟩ := id hs
  have hTs : s.TypeIs (.ref sl) "slice" := ⟨os, hos, hcs⟩
  have hstep : ¬ ((rawPart none == rawInt 0) = true) := Bool.false_ne_true
  have hsame : Builtin.List.listSameRef (.ref l) (.ref b) = false := by
    unfold Builtin.List.listSameRef
    exact beq_eq_false_iff_ne.mpr hne
  have hmax : (max (a : Int) (c : Int)).toNat = c := by omega
  have hz' : ((fun xs : Array Value => xs.extract 0 a ++ new ++ xs.extract c xs.size) items).size ≤ sizeLine + 1 := by
    simp only [Array.size_append, Array.size_extract]
    omega
  unfold setItem
  try with_reducible refine wpAny_holding ?_
  first | refine wpAny_bind (wpAny_pure ?_) | skip
  refine wpAny_bind (wpAny_sequenceKey hl.typeIs (by decide) ?_)
  refine wpAny_bind (wpAny_callSpecial?_slot (name := Str.ofString "__setitem__") hl.typeIs slot_list_setitem
    (wpAny_call_entry slot_list_setitem hl.typeIs entry_list_setitem ?_ (args_list_setitem _ _ _)))
  show wpAny _ _ (Builtin.List.listSubscript? (.ref sl) >>= _) _ _ s
  refine wpAny_bind ?_
  unfold Builtin.List.listSubscript?
  refine wpAny_bind (wpAny_specialOf hTs slice_no_index ?_)
  simp only [Option.isNone_none, if_true]
  refine wpAny_pure ?_
  show wpAny _ _ (typeOf (.ref sl) >>= _) _ _ s
  refine wpAny_bind (wpAny_typeOf hTs ?_)
  first
    | rw [if_neg (by decide)]
    | refine PySem.W.KFB.if_not (by decide) ?_
  rw [listSliceParts_eq]
  refine wpAny_bind (wpAny_bind (wpAny_field hos hds (x := .none) rfl (wpAny_bind (wpAny_listPart .none ?_))))
  rw [if_neg hstep]
  refine wpAny_bind (wpAny_field hos hds (x := vl) rfl (wpAny_bind (wpAny_listPart pl ?_)))
  refine wpAny_bind (wpAny_field hos hds (x := vu) rfl (wpAny_bind (wpAny_listPart pu (wpAny_pure ?_))))
  first
    | simp only [hsame, Bool.false_eq_true, if_false]
    | refine PySem.W.KFB.if_not hsame ?_
    | (dsimp only
       rw [if_neg (by rw [hsame]; exact Bool.false_ne_true)])
  refine wpAny_bind (m := Builtin.List.listAllItems (.ref b) "must assign iterable to extended slice") ?_
  unfold Builtin.List.listAllItems
  refine wpAny_bind (wpAny_typeOf hb.typeIs ?_)
  first
    | refine PySem.W.KFB.if_so (by decide) ?_
    | rw [if_pos (by decide)]
    | simp only [beq_self_eq_true, Bool.true_or, if_true]
  unfold Builtin.List.listItems
  refine wpAny_bind (wpAny_seqItems e2 rfl (wpAny_pure ?_))
  refine wpAny_bind (wpAny_bind (wpAny_seqItems e rfl (wpAny_pure ?_)))
  refine wpAny_bind (wpAny_of_eq ((sliceIndices_raw (some (a : Int)) (some (c : Int)) none items.size (by simp)).trans (congrArg (pure : Int × Int × Int → Sem (Int × Int × Int)) (bounds_run hac hc))) ?_)
  show wpAny _ _ (if ((1 : Int) == 1) = true then _ else _) _ _ s
  rw [if_pos (by decide)]
  refine wpAny_bind (wpAny_rule ?_)
  first
    | simp only [notLongL hsz, Bool.false_eq_true, if_false]
    | refine PySem.W.KFB.if_not (notLongL hsz) ?_
  first | refine wpAny_bind (wpAny_pure ?_) | skip
  show wpAny _ _ (updateSeq l (fun xs => xs.extract 0 ((a : Int)).toNat ++ new ++ xs.extract (max (a : Int) (c : Int)).toNat xs.size) >>= _) _ _ s
  rw [hmax, Int.toNat_natCast]
  refine wpAny_bind (wpAny_updateSeq (hz := Nat.le_trans (Nat.le_add_right _ _) hsz) (_hz' := hz') e rfl ?_)
  refine wpAny_bind (wpAny_letGo ?_)
  first
    | exact wpAny_bind (wpAny_pure (wpAny_pure ⟨.none, rfl, wpAny_pure h⟩))
    | exact wpAny_pure ⟨.none, rfl, wpAny_pure h⟩
end

section
variable {X : Cx}
/-- xs[a:c] = ys of another list, at the value level: sl is the slice object that was just made -/
theorem set_slice {pins : List (Addr × Obj)} {s : Shared} {σ : St} {H : Hp} {l b sl : Addr} {xs ys : List V} {a c : Int} {vl vu : Value} {Q : Unit → Shared → Prop} (I : Inv X pins σ H s)
    (hH : H l = some (.lst xs)) (hB : H b = some (.lst ys)) (hne : l ≠ b) (hs : s.heap.IsSliceOf sl vl vu .none) (ra : RelV (.int a) vl) (rc : RelV (.int c) vu) (h0 : 0 ≤ a) (hac : a ≤ c) (hc : c ≤ xs.length)
    (hz : xs.length + ys.length ≤ sizeLine) (h : ∀ s', Inv X pins σ (upd H l (.lst (xs.take a.toNat ++ ys ++ xs.drop c.toNat))) s' → Q () s') :
    wpAny (model X.prog X.w) X.A (setItem (.ref l) (.ref sl) (.ref b)) Q X.xe s := by
  obtain ⟨ta, rfl⟩ := ra
  obtain ⟨tc, rfl⟩ := rc
  obtain ⟨z, its, n, r, hl, e⟩ := I.lstM hH
  obtain ⟨z2, its2, n2, r2, hl2, e2⟩ := I.lstM hB
  obtain ⟨a', rfl⟩ := Int.eq_ofNat_of_zero_le h0
  obtain ⟨c', rfl⟩ := Int.eq_ofNat_of_zero_le (Int.le_trans h0 hac)
  simp only [Int.toNat_natCast] at h
  refine setItem_slice (a := a') (c := c') e e2 hne hs (.int _ _) (.int _ _) (by omega) (by rw [List.size_toArray]; omega) (by rw [List.size_toArray, List.size_toArray]; omega) (h _ ?_)
  refine I.lset (its' := its.take a' ++ its2 ++ its.drop c') (t' := s.toks) hH e ?_ (Vals.append (Vals.append (r.take _) r2) (r.drop _)) ?_
  · exact splice_eq its its2 a' c'
  · rw [List.length_append, List.length_append, List.length_take, List.length_drop]
    omega
end
end L2

namespace Att
open PySem PySem.W PySem.Calls PyProof.Rows

/-! ### the script -/
theorem ints_of_wellAll {P : Params} {h : Heap} : ∀ (ns : List Int) (vs : List Value), WellAll P h vs (ns.map WData.int) → IntsAre vs ns := by
  intro ns
  induction ns with
  | nil =>
    intro vs w
    rw [List.map_nil] at w
    cases w
    exact .nil
  | cons n ns ih =>
    intro vs w
    rw [List.map_cons] at w
    cases w with
    | cons a b =>
      cases a
      exact .cons _ _ (ih _ b)

theorem script_of {l : OpenLaw} {n : Nat} (hn : l.most = some n) {P : Params} {h : Heap} {args : List WData} {vals : List Value}
    (hpre : l.row.toRowW.claim.pre args = true) (hwl : WellAll P h vals args) :
    ∃ a vs ns, vals = [Value.ref a] ∧ args = [WData.list (ns.map WData.int)] ∧ h.get? a = some { cls := .type "list", data := .seq vs.toArray } ∧ IntsAre vs ns ∧ ns.length ≤ n := by
  have hsh : WShape.hasAll [] args [.list .int] = true := (pre_splitW hpre).1
  have hc : l.pre.holds [] { args := args } = true := (pre_splitW hpre).2
  obtain ⟨d, r, rfl, h1, h2⟩ := hasAllW_cons hsh
  obtain rfl := hasAllW_nil h2
  obtain ⟨xs, rfl, h3⟩ := hasW_list h1
  obtain ⟨ns, rfl⟩ := items_int h3
  have hlen : ns.length ≤ n := by
    unfold OpenLaw.pre at hc
    have h4 : (WTm.not (.lt (.lit (.int (n : Int))) (.len (.arg 0)))).holds [] { args := [.list (ns.map .int)] } = true := by
      have h4 := (holds_andW hc).1
      rw [hn] at h4
      exact h4
    have h5 := condW_of h4 (w_not (w_lt w_lit (w_len_list (w_arg rfl))))
    rw [List.length_map] at h5
    refine Nat.le_of_not_lt fun q => ?_
    have q' : (n : Int) < ((ns.length : Nat) : Int) := by omega
    first
      | (rw [decide_eq_true q'] at h5; exact absurd h5 (by decide))
      | (simp at h5; omega)
  cases hwl with
  | cons w1 w2 =>
    cases w2
    cases w1 with
    | list ho hall => exact ⟨_, _, ns, rfl, rfl, ho, ints_of_wellAll ns _ hall, hlen⟩

theorem post_true (l : OpenLaw) (args : List WData) : l.row.toRowW.claim.post args (.bool true) args = true :=
  postW_of (r := l.row.toRowW) (X := (true == true))
    (show WShape.has [] (.bool true) .bool = true by first | rfl | decide | simp [WShape.has, WShape.arms, WShape.armsAll])
    (show (WTm.eq .res (.lit (.bool true))).value [] { args := args, res := some (.bool true), after := args } = some (.bool (true == true)) from w_eq_bool (w_res rfl) w_lit) rfl

/-! ### the attachment: holds_open's last premise (the goal 'hc' behind k_head) from a wpAny of the law's body -/
theorem attach {l : OpenLaw} {n : Nat} {q : Program} {loose : List Str} {XP : (Str → Option Value) → Heap → Prop} {YP : World → Heap → Prop} {d : DefRec} {x : Str}
    (hn : l.most = some n) (hdf : d.params.defaults = [])
    (hbind : ∀ pm cd doc v : Value, bindArgs (docDef d.name d.params d.body d.scope pm cd doc) ⟨[v], []⟩ = pure [(x, v)])
    (hx : d.scope.names.lookup x = some .local ∨ d.scope.names.lookup x = some .cell)
    (hk : d.scope.kind = .function) (hco : d.scope.isCoroutine = false) (hgen : d.scope.isGenerator = false)
    (body : ∀ (w : World) (s₀ s₁ s : Shared) (mg mb : Str → Option Value) (fa : Addr) (o : Obj) (pm cd doc : Value) (a : Addr) (vs : List Value) (ns : List Int),
      Ground q loose [] XP w s₀ mg mb s₁.heap → YP w s₁.heap →
      s₁.heap.get? fa = some o → o.data = .func (docDef d.name d.params d.body d.scope pm cd doc) → s₁.heap.CodeRec cd d.name → mg d.name = some (.ref fa) →
      s₁.heap.get? a = some { cls := .type "list", data := .seq vs.toArray } → IntsAre vs ns → ns.length ≤ n →
      s.gens = #[] → s.os = s₁.os →
      Fr s₁.heap s₁.heap.objs.size s.heap (bindL (envOfC d.name d.scope s₁.heap.objs.size fa cd).kindOf [(x, .ref a)] fun _ => none) →
      Cl s₁.heap.objs.size (cellsFrom (s₁.heap.objs.size + 1) d.scope.names []) s.heap (bindC (envOfC d.name d.scope s₁.heap.objs.size fa cd).kindOf [(x, .ref a)] fun _ => none) →
      wpAny (model l.prog w) (callerA.deeper (envOfC d.name d.scope s₁.heap.objs.size fa cd)) (execs d.body (envOfC d.name d.scope s₁.heap.objs.size fa cd))
        (fun f s' => f = .ret (.bool true) ∧ OldK s₁.heap s'.heap ∧ s'.os = s₁.os ∧ AllBare s'.gens) (fun _ _ => False) s) :
    WalkO q loose XP YP l.row.toRowW d [] (fun f vs => PySem.call f vs) := by
  intro w s₀ s₁ mg mb G Y fa o pm cd doc dV kV ho hd hcd hD hmg hg args vals as hpre hlay hrd hwl hlo
  obtain rfl : dV = .none := Dflts.none hD hdf
  obtain rfl : kV = .none := Dflts.noKw hD
  obtain ⟨a, vs, ns, rfl, rfl, hobj, hints, hlen⟩ := script_of hn hpre hwl
  refine enter_call ?_
  refine call_cells_ret (o := o) (by rw [depth_caller]; decide) ho (fd_plain hd) G.T.nolimit hcd (hbind pm cd doc (.ref a)) (fun y hy => ?_) (fun h₁ tk F X => ?_) hco hgen hk
  · obtain rfl : y = (x, Value.ref a) := List.mem_singleton.mp hy
    rcases hx with e | e
    · exact .inl e
    · exact .inr ⟨e, cellsFrom_some _ _ _ (.inl e)⟩
  · refine wpAny_mono (body w s₀ s₁ { s₁ with heap := h₁, toks := tk } mg mb fa o pm cd doc a vs ns G Y ho (fd_plain hd) hcd hmg hobj hints hlen hg rfl F X) (fun f s' hq => ?_) (fun _ _ hq => hq)
    obtain ⟨rfl, h2, h3, h4⟩ := hq
    exact ⟨.inl ⟨.bool true, .bool true, [], rfl, fun _ => rfl, .bool true, post_true l _, fun _ => ⟨List.Pairwise.nil, fun _ hm => (nomatch hm)⟩⟩, h2, h3, h4⟩

/-- the same from a codeAny of the CALL (for a layer whose function contracts speak of calls) -/
theorem attach_call {l : OpenLaw} {n : Nat} {q : Program} {loose : List Str} {XP : (Str → Option Value) → Heap → Prop} {YP : World → Heap → Prop} {d : DefRec}
    (hn : l.most = some n) (hdf : d.params.defaults = [])
    (call : ∀ (w : World) (s₀ s₁ : Shared) (mg mb : Str → Option Value) (fa : Addr) (o : Obj) (pm cd doc : Value) (a : Addr) (vs : List Value) (ns : List Int),
      Ground q loose [] XP w s₀ mg mb s₁.heap → YP w s₁.heap →
      s₁.heap.get? fa = some o → o.data = .func (docDef d.name d.params d.body d.scope pm cd doc) → s₁.heap.CodeRec cd d.name → mg d.name = some (.ref fa) →
      s₁.heap.get? a = some { cls := .type "list", data := .seq vs.toArray } → IntsAre vs ns → ns.length ≤ n → s₁.gens = #[] →
      codeAny (model l.prog w) callerA (.call (.ref fa) ⟨[.ref a], []⟩) (fun r s' => r = .ok (.ret (.bool true)) ∧ OldK s₁.heap s'.heap ∧ s'.os = s₁.os ∧ AllBare s'.gens) s₁) :
    WalkO q loose XP YP l.row.toRowW d [] (fun f vs => PySem.call f vs) := by
  intro w s₀ s₁ mg mb G Y fa o pm cd doc dV kV ho hd hcd hD hmg hg args vals as hpre hlay hrd hwl hlo
  obtain rfl : dV = .none := Dflts.none hD hdf
  obtain rfl : kV = .none := Dflts.noKw hD
  obtain ⟨a, vs, ns, rfl, rfl, hobj, hints, hlen⟩ := script_of hn hpre hwl
  refine enter_call (codeAny_mono (call w s₀ s₁ mg mb fa o pm cd doc a vs ns G Y ho (fd_plain hd) hcd hmg hobj hints hlen hg) fun r s' hq => ?_)
  obtain ⟨rfl, h2, h3, h4⟩ := hq
  exact ⟨.inl ⟨.bool true, .bool true, [], rfl, fun _ => rfl, .bool true, post_true l _, fun _ => ⟨List.Pairwise.nil, fun _ hm => (nomatch hm)⟩⟩, h2, h3, h4⟩

/-- the same where the top left finished generators (o_head chose holds_openN): nothing may have changed at all and no generator may be left -/
theorem attachN {l : OpenLaw} {n : Nat} {q : Program} {loose : List Str} {XP : (Str → Option Value) → Heap → Prop} {YP : World → Heap → Prop} {d : DefRec} {x : Str}
    (hn : l.most = some n) (hdf : d.params.defaults = [])
    (hbind : ∀ pm cd doc v : Value, bindArgs (docDef d.name d.params d.body d.scope pm cd doc) ⟨[v], []⟩ = pure [(x, v)])
    (hx : d.scope.names.lookup x = some .local ∨ d.scope.names.lookup x = some .cell)
    (hk : d.scope.kind = .function) (hco : d.scope.isCoroutine = false) (hgen : d.scope.isGenerator = false)
    (body : ∀ (w : World) (s₀ s₁ s : Shared) (mg mb : Str → Option Value) (fa : Addr) (o : Obj) (pm cd doc : Value) (a : Addr) (vs : List Value) (ns : List Int),
      Ground q loose [] XP w s₀ mg mb s₁.heap → YP w s₁.heap →
      s₁.heap.get? fa = some o → o.data = .func (docDef d.name d.params d.body d.scope pm cd doc) → s₁.heap.CodeRec cd d.name → mg d.name = some (.ref fa) →
      s₁.heap.get? a = some { cls := .type "list", data := .seq vs.toArray } → IntsAre vs ns → ns.length ≤ n →
      s.gens = #[] → s.os = s₁.os →
      Fr s₁.heap s₁.heap.objs.size s.heap (bindL (envOfC d.name d.scope s₁.heap.objs.size fa cd).kindOf [(x, .ref a)] fun _ => none) →
      Cl s₁.heap.objs.size (cellsFrom (s₁.heap.objs.size + 1) d.scope.names []) s.heap (bindC (envOfC d.name d.scope s₁.heap.objs.size fa cd).kindOf [(x, .ref a)] fun _ => none) →
      wpAny (model l.prog w) (callerA.deeper (envOfC d.name d.scope s₁.heap.objs.size fa cd)) (execs d.body (envOfC d.name d.scope s₁.heap.objs.size fa cd))
        (fun f s' => f = .ret (.bool true) ∧ (∀ b o, s₁.heap.get? b = some o → s'.heap.get? b = some o) ∧ s'.os = s₁.os ∧ s'.gens = #[]) (fun _ _ => False) s) :
    WalkN q loose XP YP l.row.toRowW d [] (fun f vs => PySem.call f vs) := by
  intro w s₀ s₁ mg mb G Y fa o pm cd doc dV kV ho hd hcd hD hmg hg args vals as hpre hlay hrd hwl hlo
  obtain rfl : dV = .none := Dflts.none hD hdf
  obtain rfl : kV = .none := Dflts.noKw hD
  obtain ⟨a, vs, ns, rfl, rfl, hobj, hints, hlen⟩ := script_of hn hpre hwl
  refine enter_callW ?_
  refine call_cells_ret (o := o) (by rw [depth_caller]; decide) ho (fd_plain hd) G.T.nolimit hcd (hbind pm cd doc (.ref a)) (fun y hy => ?_) (fun h₁ tk F X => ?_) hco hgen hk
  · obtain rfl : y = (x, Value.ref a) := List.mem_singleton.mp hy
    rcases hx with e | e
    · exact .inl e
    · exact .inr ⟨e, cellsFrom_some _ _ _ (.inl e)⟩
  · refine wpAny_mono (body w s₀ s₁ { s₁ with heap := h₁, toks := tk } mg mb fa o pm cd doc a vs ns G Y ho (fd_plain hd) hcd hmg hobj hints hlen hg rfl F X) (fun f s' hq => ?_) (fun _ _ hq => hq)
    obtain ⟨rfl, h2, h3, h4⟩ := hq
    exact ⟨.inl ⟨.bool true, .bool true, [], rfl, fun _ => rfl, .bool true, post_true l _, fun _ => ⟨List.Pairwise.nil, fun _ hm => (nomatch hm)⟩⟩, h2, h3, h4⟩

/-! ### rules over ANY heap (no ledger) from facts about the written part K: the library's own take a ledger (News) for what they write -/
section
variable {prog : Program} {w : World} {A : Around} {E : Value → Shared → Prop} {s : Shared} {K : Frag}

/-- a def of the module, or a method (qual 'C.m'), entered: the frame is the next address; cells behind it -/
theorem call_fn {R : Result → Shared → Prop} {name qual : Str} {params : Arguments} {body : List Stmt} {scope : Scope} {dV kV doc pm cdv ct oc : Value} {an od : Option Addr} {osl : Array (Option Value)} {f : Addr} {args : Args} {binds : List (Str × Value)}
    (X : K.In s.heap) (hlim : s.heap.NoLimit) (ho : K.lookup f = some ⟨oc, od, .func (fnOf name qual params body scope dV kV doc pm an cdv ct), osl⟩) (hcd : codeIn K cdv qual = true) (hroom : A.depth < recursionLimit)
    (hbind : BindsTo s (fnOf name qual params body scope dV kV doc pm an cdv ct) args binds)
    (hkind : (binds.all fun y => scope.names.lookup y.1 == some .local || scope.names.lookup y.1 == some .cell) = true)
    (h : ∀ s₁, InCallC s s.heap.objs.size (bindL (envOfC qual scope s.heap.objs.size f cdv).kindOf binds fun _ => none) (cellsFrom (s.heap.objs.size + 1) scope.names [])
        (bindC (envOfC qual scope s.heap.objs.size f cdv).kindOf binds fun _ => none) s₁ →
      wpAny (model prog w) (A.deeper (envOfC qual scope s.heap.objs.size f cdv)) (execs body (envOfC qual scope s.heap.objs.size f cdv))
        (fun fl s' => R (.ok (.ret (match fl with | .ret v => v | _ => .none))) s')
        (fun e s' => wpAny (model prog w) (A.deeper (envOfC qual scope s.heap.objs.size f cdv)) (leaving (envOfC qual scope s.heap.objs.size f cdv) e) (fun _ s'' => R (.error e) s'') (fun e' s'' => R (.error e') s'') s') s₁)
    (hco : scope.isCoroutine = false) (hgen : scope.isGenerator = false) (hk : scope.kind = .function) : codeAny (model prog w) A (.call (.ref f) args) R s := by
  refine codeAny_call_function hroom (X _ _ ho) rfl hco hgen rfl (codeRec_of X hcd) (hbind _ _ _ _ ?_)
  refine wpAny_newFunctionEnv_cells hk (kindsX hkind _) fun env he s₁ x => ?_
  subst he
  exact ⟨hlim.keeps x.toInCall.keep, codeAny_func (h s₁ x)⟩

/-- C(..): dict at size, instance at size + 1, then __init__ -/
theorem make_obj {R : Result → Shared → Prop} {C fI : Addr} {rest : List Value} {kw : List (Str × Value)}
    (X : K.In s.heap) (hm : makesIn K C = true) (hi : findIn K (.ref C) "__init__" = some (some (.ref fI))) (hf : isFn K (.ref fI) = true)
    (h : codeAny (model prog w) (A.under (.builtin "type.__call__" ⟨.ref C :: rest, kw⟩)) (.call (.ref fI) ⟨.ref (s.heap.objs.size + 1) :: rest, kw⟩) (InitBack (s.heap.objs.size + 1) R)
      { s with heap := (s.heap.push emptyDict).push (instObj C s.heap.objs.size) }) : codeAny (model prog w) A (.call (.ref C) ⟨rest, kw⟩) R s := by
  obtain ⟨hh, g, d, t, os⟩ := s
  exact make_core (makes_of X hm) (looks_findIn X hi) (fun self => bind_fn X self (beq_iff_eq.mp hf)) (.inl rfl) h

/-- x.name where the instance's dict holds the name and the class does not -/
theorem get_field {x C : Addr} {ox : Obj} {es : List DictEntry} {n : Nat} {name : Str} {expr : Bool} {v : Value} {Q : Value → Shared → Prop}
    (X : K.In s.heap) (I : PySem.W.InstAt s.heap x ox C (some (dictOf es n))) (hg : plainGet K C name = true) (hh : hasDictIn K C = true) (ha : findIn K (.ref C) name = some none)
    (hl : getL name es = some (some v)) (hv : handedIn v = true) (h : Q v { s with toks := s.toks + 1 }) : wpAny (model prog w) A (getAttr (.ref x) name expr) Q E s :=
  get_value X I (plainGet_of hg).1 (findObj_own hh ha rfl hl) hv h

/-- x.m(..): the method found in the class -/
theorem get_method {x C f : Addr} {ox : Obj} {es : List DictEntry} {n : Nat} {name : Str} {pl : Sem Bool} {Q : Value × List Value → Shared → Prop}
    (X : K.In s.heap) (I : PySem.W.InstAt s.heap x ox C (some (dictOf es n))) (hg : plainGet K C name = true) (hf : findIn K (.ref C) name = some (some (.ref f))) (ht : isFn K (.ref f) = true)
    (hl : getL name es = some none) (h : Q (.ref f, [.ref x]) s) : wpAny (model prog w) A (getMethod (.ref x) name pl) Q E s :=
  method_fn X I (plainGet_of hg).1 (plainGet_of hg).2 hf (beq_iff_eq.mp ht) (by show (lookIn name (dictOf es n)).map _ = _; rw [lookIn_dict, hl]; rfl) h

/-! the whole heap as the ledger: makes every rule that writes through a ledger a rule over any heap -/
def noObjs (h : Heap) : Heap := { h with objs := #[] }
theorem noObjs_get (h : Heap) (b : Addr) : (noObjs h).get? b = none := by
  cases e : (noObjs h).get? b with
  | none => rfl
  | some o => exact absurd (Heap.lt_size e) (Nat.not_lt_zero _)
def ledger (h : Heap) (L d : Addr) : List (Addr × Obj) := (List.range h.objs.size).filterMap fun a => if a = L ∨ a = d then none else (h.get? a).map fun o => (a, o)
theorem mem_ledger {h : Heap} {L d a : Addr} {o : Obj} : (a, o) ∈ ledger h L d ↔ a ≠ L ∧ a ≠ d ∧ h.get? a = some o := by
  unfold ledger
  rw [List.mem_filterMap]
  constructor
  · rintro ⟨b, _, e⟩
    split at e
    · cases e
    · rename_i hb
      obtain ⟨o', ho, e'⟩ := Option.map_eq_some_iff.mp e
      cases e'
      exact ⟨fun q => hb (.inl q), fun q => hb (.inr q), ho⟩
  · rintro ⟨n1, n2, ho⟩
    refine ⟨a, List.mem_range.mpr (Heap.lt_size ho), ?_⟩
    rw [if_neg (show ¬ (a = L ∨ a = d) from fun q => q.elim n1 n2), ho] <;> rfl
theorem news_ledger {h : Heap} {L d : Addr} {od : Obj} (hne : d ≠ L) (ho : h.get? d = some od) : News (noObjs h) L h ([] ++ (d, od) :: ledger h L d) := by
  rintro ⟨a, o⟩ hp
  rcases List.mem_cons.mp hp with e | hp
  · cases e
    exact ⟨ho, hne, noObjs_get _ _⟩
  · obtain ⟨n1, n2, e⟩ := mem_ledger.mp hp
    exact ⟨e, n1, noObjs_get _ _⟩
theorem fr_all {h : Heap} {L : Addr} {m : Str → Option Value} (n : h.Ns L m) : Fr (noObjs h) L h m :=
  ⟨n, fun b o e => (by rw [noObjs_get] at e; cases e), Nat.zero_le _⟩
/-- Upd of the head entry (for append_K, setItem_K ..) -/
theorem upd_ledger {h : Heap} {L d : Addr} {o o' : Obj} : Upd d o o' ((d, o) :: ledger h L d) ((d, o') :: ledger h L d) :=
  .head fun ⟨_, _⟩ hp => (mem_ledger.mp hp).2.1

/-- x.name = v over any heap: L is any namespace of the heap (the frame's, say): its map stays, its object is not told; all else but the dict stays -/
theorem set_field {x C dx L : Addr} {ox : Obj} {m : Str → Option Value} {es es' : List DictEntry} {n n' : Nat} {name : Str} {v : Value} {Q : Unit → Shared → Prop}
    (X : K.In s.heap) (I : PySem.W.InstAt s.heap x ox C (some (dictOf es n))) (hd : ox.dict = some dx) (hL : s.heap.Ns L m) (hne : dx ≠ L)
    (hs : findIn K (.ref C) "__setattr__" = some (some (.builtin "object.__setattr__"))) (hp : plainOver K C = true) (ht : takerIn K C name = some none) (hh : hasDictIn K C = true) (hl : (getL name es).isSome = true)
    (e : (putL name (PyData.keyHash w.params name) (.str name (s.toks + 1)) v es, putN name es n) = (es', n')) (hz : es'.length ≤ 1000)
    (h : ∀ h' : Heap, h'.Ns L m → h'.get? dx = some (dictOf es' n') → (∀ b o, b ≠ dx → b ≠ L → s.heap.get? b = some o → h'.get? b = some o) → Q () { s with heap := h', toks := s.toks + 2 }) :
    wpAny (model prog w) A (setAttr (.ref x) name v) Q E s := by
  obtain ⟨e1, e2⟩ := Prod.mk.inj e
  have hdx : s.heap.get? dx = some (dictOf es n) := by
    have := I.dict
    rw [hd] at this
    exact this
  refine set_plain X I hs (osa_dict (s := { s with toks := s.toks + 1 }) (h₀ := noObjs s.heap) (L := L) (m := m) (od := dictOf es n) (od' := dictOf es' n') (es := es') (n := n') (pre := []) (post := ledger s.heap L dx)
    (fr_all hL) (news_ledger hne hdx) X I hd hp ht hh hl (fun _ q => nomatch q) (fun ⟨_, _⟩ q => (mem_ledger.mp q).2.1) (by rw [putName_dict, e1, e2]) rfl hz fun h' F' N' => ?_)
  exact h h' F'.ns (N'.get (List.Mem.head _)) fun b o n1 n2 ho => N'.get (List.Mem.tail _ (mem_ledger.mpr ⟨n2, n1, ho⟩))
end
end Att

namespace L2
open PySem PySem.Spec PyProof.Rows

theorem vals_ints : ∀ {vs : List Value} {ns : List Int}, IntsAre vs ns → Vals (ns.map V.int) vs
  | _, _, .nil => .nil
  | _, _, .cons n t h => .cons ⟨t, rfl⟩ (vals_ints h)

/-- nothing is tracked but the script, known to the object (or it is an object of the module) -/
def Only (H : Hp) : Prop := ∀ b, H b = none ∨ ∃ o xs, H b = some (.frz o (.lst xs))

/-- THE HEAD: the law's promise, at the heap behind the top. F, the promise of the law's def, may use that base is part of the heap (so K.In base, base.Ns mainGlobals mg stand in Mod) -/
theorem law_call {P : Program} {w : World} {K : PySem.W.Frag} {mg mb : Str → Option Value} {CX : CXT} {k : Nat} {fa a : Addr} {fd : FuncData} {x : Str} {sp : Sp} {s₁ : Shared} {vs : List Value} {ns : List Int}
    (KX : K.In s₁.heap) (hns : s₁.heap.Ns mainGlobals mg) (hb : s₁.heap.Ns builtinsNs mb) (hbb : ∀ x : Str, x ≠ "__name__" → mb x = bootBuiltins x) (hlim : s₁.heap.NoLimit) (hg : s₁.gens = #[])
    (ha : s₁.heap.get? a = some { cls := .type "list", data := .seq vs.toArray }) (hi : IntsAre vs ns) (hl : ns.length ≤ sizeLine) (hr : Room k callerA)
    (F : ∀ base : Heap, K.In base → base.Ns mainGlobals mg → FnOk P w K mg base CX k fa fd [x] sp) (hbind : ∀ (s : Shared) (u : Value), BindsTo s fd ⟨[u], []⟩ [(x, u)])
    (hsp : ∀ H : Hp, Only H → SqL K H a (ns.map V.int) → sp [.ref a] H (fun v _ => v = .bl true) fun _ _ _ => False)
    (hCX : ∀ H e s', CX [] H s₁ (fun _ _ _ => False) e s' → False) :
    codeAny (model P w) callerA (.call (.ref fa) ⟨[.ref a], []⟩) (fun r s' => r = .ok (.ret (.bool true)) ∧ OldK s₁.heap s'.heap ∧ s'.os = s₁.os ∧ AllBare s'.gens) s₁ := by
  have rv := vals_ints hi
  have lenV := hi.length
  -- from an abstract heap in which nothing but the script may be tracked
  have core : ∀ H : Hp, Only H → SqL K H a (ns.map V.int) → HOk P w H s₁.heap → (∀ b, H b ≠ none → b = a) → (H a ≠ none → K.lookup a = none) →
      codeAny (model P w) callerA (.call (.ref fa) ⟨[.ref a], []⟩) (fun r s' => r = .ok (.ret (.bool true)) ∧ OldK s₁.heap s'.heap ∧ s'.os = s₁.os ∧ AllBare s'.gens) s₁ := by
    intro H hO hS hok hA hK
    have base_of : ∀ {b : Addr} {o : Obj}, s₁.heap.get? b = some o → H b = none → (hidT s₁.heap H).get? b = some o := fun e n => hidT_get e n
    have noA : ∀ {b : Addr} {o : Obj} {es : Array DictEntry} {ep : Nat}, s₁.heap.get? b = some o → o.data = .dict es ep → H b = none := fun {b o es ep} e d => by
      cases q : H b with
      | none => rfl
      | some u =>
        have e' : b = a := hA b (by rw [q]; simp)
        subst e'
        rw [ha] at e; cases e
        have d' : Data.seq vs.toArray _ = Data.dict es ep := d
        cases d'
    have nsK : ∀ {b : Addr} {m : Str → Option Value}, s₁.heap.Ns b m → (hidT s₁.heap H).Ns b m := fun {b m} ⟨o, es, ep, e, d, r⟩ => ⟨o, es, ep, base_of e (noA e d), d, r⟩
    have hKb : K.In (hidT s₁.heap H) := fun b o e => base_of (KX b o e) (by
      cases q : H b with
      | none => rfl
      | some u =>
        have e' : b = a := hA b (by rw [q]; simp)
        subst e'
        rw [hK (by rw [q]; simp)] at e; cases e)
    have hM : Mod K mg (hidT s₁.heap H) := ⟨hKb, nsK hns, ⟨mb, nsK hb, hbb⟩, let ⟨mc, h1, h2⟩ := hlim; ⟨mc, nsK h1, h2⟩⟩
    have e0 : Env0 P w K mg (hidT s₁.heap H) callerA [] s₁ H := ⟨rfl, hM, fun b o e => of_hidT e, Nat.le_of_eq (hidT_size _ _), trivial, fun b hb => absurd (show b ∈ ([] : List Addr) from hb) (by simp), hok, .of_eq hg⟩
    refine codeAny_mono ((F _ hKb (nsK hns)).run callerA [] s₁ H ⟨[.ref a], []⟩ [.ref a] [.ref a] _ _ hr e0 (hbind s₁ (.ref a)) (.cons rfl .nil) (hsp H hO hS)) fun r s' h => ?_
    cases r with
    | error e => exact (hCX H e s' h).elim
    | ok fl =>
      cases fl with
      | next => exact False.elim h
      | brk => exact False.elim h
      | cont => exact False.elim h
      | ret u =>
        obtain ⟨v, H', os, bare, un, hok', r', q⟩ := h
        have q' : v = .bl true := q
        subst q'
        obtain rfl : u = Value.bool true := r'
        refine ⟨rfl, OldK.of_keep fun b o e => ?_, os, bare⟩
        cases q : H b with
        | none => exact un.keep b o e q (by intro z; exact absurd (show b ∈ ([] : List Addr) from z) (by simp)) (by simp)
        | some u =>
          rcases hO b with z | ⟨ob, xs, z⟩
          · rw [q] at z; cases z
          · have z2 := un.frzs b ob _ z
            obtain ⟨e1, _⟩ := hok b _ z
            obtain ⟨e2, _⟩ := hok' b _ z2
            rw [e] at e1; cases e1
            exact e2
  cases hk : K.lookup a with
  | some o =>
    -- the script is one of the module's own objects
    have e := KX a o hk
    rw [ha] at e
    cases e
    refine core (fun _ => none) (fun _ => .inl rfl) (.inr ⟨_, vs.toArray, _, hk, rfl, rfl, rfl, by rw [List.size_toArray, lenV]; exact hl, by simpa using rv⟩) (fun b u z => by have z' : (none : Option HO) = some u := z; cases z') (fun b z => absurd rfl z) fun z => absurd rfl z
  | none =>
    refine core (fun b => if b = a then some (.frz { cls := .type "list", data := .seq vs.toArray } (.lst (ns.map V.int))) else none) (fun b => ?_) (.inl (.inr ⟨{ cls := .type "list", data := .seq vs.toArray }, if_pos rfl⟩)) (fun b u z => ?_) (fun b z => ?_) fun _ => hk
    · by_cases hb : b = a
      · exact .inr ⟨_, _, if_pos hb⟩
      · exact .inl (if_neg hb)
    · by_cases hb : b = a
      · have z' := (if_pos hb).symm.trans z
        cases z'
        subst hb
        exact ⟨ha, by rw [List.length_map]; exact hl, vs, _, rv, ha⟩
      · have z' := (if_neg hb).symm.trans z
        cases z'
    · by_cases hb : b = a
      · exact hb
      · exact absurd (if_neg hb) z
end L2

namespace L2
open PySem PySem.Spec PyProof.Rows

abbrev KOf {K : PySem.W.Frag} {h : Heap} (_ : K.In h) : PySem.W.Frag := K

/-- the goal that k_head leaves (case hc), from the law's promise. F gives the function object fd (K's own) once, then the promise over every base -/
theorem walk_of {l : PySem.W.OpenLaw} {n k : Nat} {q : Program} {loose : List Str} {XP : (Str → Option Value) → Heap → Prop} {YP : World → Heap → Prop} {d : DefRec} {K : Params → PySem.W.Frag} {CX : World → CXT} {sp : World → Sp} {x : Str}
    (hn : l.most = some n) (hn2 : n ≤ sizeLine) (hdf : d.params.defaults = []) (hr : Room k callerA)
    (hY : ∀ (w : World) (h : Heap), YP w h → (K w.params).In h)
    (F : ∀ (w : World) (mg : Str → Option Value) (fa : Addr) (h : Heap), (K w.params).In h → h.Ns mainGlobals mg → mg d.name = some (.ref fa) →
      ∃ fd : FuncData, (∀ (s : Shared) (u : Value), BindsTo s fd ⟨[u], []⟩ [(x, u)]) ∧
        ∀ base : Heap, (K w.params).In base → base.Ns mainGlobals mg → FnOk l.prog w (K w.params) mg base (CX w) k fa fd [x] (sp w))
    (hsp : ∀ (w : World) (H : Hp) (a : Addr) (ns : List Int), ns.length ≤ n → Only H → SqL (K w.params) H a (ns.map V.int) → sp w [.ref a] H (fun v _ => v = .bl true) fun _ _ _ => False)
    (hCX : ∀ (w : World) (H : Hp) (s : Shared) (e : Value) (s' : Shared), CX w [] H s (fun _ _ _ => False) e s' → False) :
    PySem.W.WalkO q loose XP YP l.row.toRowW d [] (fun f vs => PySem.call f vs) := by
  refine Att.attach_call hn hdf fun w s₀ s₁ mg mb fa o pm cd doc a vs ns G Y ho hd hcd hmg hobj hints hlen hg => ?_
  have KX := hY w _ Y
  obtain ⟨fd, hb, hF⟩ := F w mg fa _ KX G.T.g hmg
  exact law_call KX G.T.g G.T.b G.T.builtins G.T.nolimit hg hobj hints (Nat.le_trans hlen hn2) hr hF hb (fun H hO hS => hsp w H a ns hlen hO hS) fun H e s' => hCX w H s₁ e s'
/-- the same where the promise hangs on the written part alone: (sp := My.sp_law), no hole under a binder -/
theorem walk_ofK {l : PySem.W.OpenLaw} {n k : Nat} {q : Program} {loose : List Str} {XP : (Str → Option Value) → Heap → Prop} {YP : World → Heap → Prop} {d : DefRec} {K : Params → PySem.W.Frag} {CX : CXT} {sp : PySem.W.Frag → Sp} {x : Str}
    (hn : l.most = some n) (hn2 : n ≤ sizeLine) (hdf : d.params.defaults = []) (hr : Room k callerA)
    (hY : ∀ (w : World) (h : Heap), YP w h → (K w.params).In h)
    (F : ∀ (w : World) (mg : Str → Option Value) (fa : Addr) (h : Heap), (K w.params).In h → h.Ns mainGlobals mg → mg d.name = some (.ref fa) →
      ∃ fd : FuncData, (∀ (s : Shared) (u : Value), BindsTo s fd ⟨[u], []⟩ [(x, u)]) ∧
        ∀ base : Heap, (K w.params).In base → base.Ns mainGlobals mg → FnOk l.prog w (K w.params) mg base CX k fa fd [x] (sp (K w.params)))
    (hsp : ∀ (K : PySem.W.Frag) (H : Hp) (a : Addr) (ns : List Int), ns.length ≤ n → Only H → SqL K H a (ns.map V.int) → sp K [.ref a] H (fun v _ => v = .bl true) fun _ _ _ => False)
    (hCX : ∀ (H : Hp) (s : Shared) (e : Value) (s' : Shared), CX [] H s (fun _ _ _ => False) e s' → False) :
    PySem.W.WalkO q loose XP YP l.row.toRowW d [] (fun f vs => PySem.call f vs) :=
  walk_of (K := K) (CX := fun _ => CX) (sp := fun w => sp (K w.params)) hn hn2 hdf hr hY F (fun w H a ns h1 h2 h3 => hsp (K w.params) H a ns h1 h2 h3) fun _ H s e s' => hCX H s e s'
end L2

/- THE LAST THEOREM (shape; LID, My.* are yours):
   My.Adr: a structure of the addresses that your layer names (classes, functions); My.Txt K t: a structure (Prop) of the equations over K;
   My.txt_mk : {K} {implicit addresses ..} (e1 : nsIn K mainGlobals "law" = some (some (.ref f))) (e2 : K.lookup f = some ⟨oc, od, .func (fnOf "law" "law" params body scope dV kV doc pm an cdv ct), sl⟩) (e3 : codeIn K cdv "law" = true) .. : ∃ t, My.Txt K t

set_option maxRecDepth 100000 in
set_option maxHeartbeats 0 in
theorem PySem.Challenge.cw_LID_holds : PySem.Challenge.rw_LID.Holds := by
  w_on; o_law; k_head; (case hw => w_witness2)
  k_fill
  refine L2.walk_of (l := PySem.Challenge.rw_LID) (n := 63) (k := 40) (x := "script") (CX := fun w => ..) (sp := fun _ => My.sp_law) rfl (by decide) rfl ⟨rfl, by decide, by decide⟩ (fun w h Y => PySem.W.kIn_of Y) ?F ?S ?C
  case F =>
    intro w mg fa h KX G hmg
    have T : ∃ t, My.Txt (L2.KOf KX) t := by
      dsimp only [L2.KOf]                          -- K must stand as «<heap const> w.params» for k_is
      refine' My.txt_mk ?e1 ?e2 ?e3 ..
      (case e1 => PySem.W.k_is)                    -- in the order: a name -> its address -> its object -> its parts
      (case e2 => PySem.W.k_is)
      ..
    obtain ⟨t, T⟩ := T
    have e0 := hmg.symm.trans (PySem.W.mg_of KX G T.law)
    cases e0                                       -- fa is the law's own address
    exact ⟨_, fun s u => .of_eq rfl, fun base kb nb => My.law_fn T kb nb⟩     -- if «.of_eq rfl» comes too early: refine' ⟨_, ?b, fun base kb nb => My.law_fn T kb nb⟩; exact fun s u => .of_eq rfl
  case S => exact fun w H a ns hl hO hS => ..
  case C => exact ..
(the tactic k_is has no namespace: write k_is) -/

/-! SHORT WORDS over the layer: a def of the text, its body, what a loop and a test want. -/
namespace L2
open PySem PySem.Spec PyProof.Rows

/-! ### the text by places -/
/-- the j-th statement of a class's body -/
def inClass (s : Stmt) (j : Nat) : Stmt := match s with
  | .ClassDef _ _ _ body _ _ _ _ _ _ _ => body.getD j (.Pass ⟨0, 0, 0, 0⟩)
  | _ => .Pass ⟨0, 0, 0, 0⟩
def defArgs (s : Stmt) : Arguments := match s with
  | .FunctionDef _ a _ _ _ _ _ _ _ _ => a
  | _ => { posonlyargs := [], args := [], vararg := none, kwonlyargs := [], kw_defaults := [], kwarg := none, defaults := [] }
def defBody (s : Stmt) : List Stmt := match s with
  | .FunctionDef _ _ b _ _ _ _ _ _ _ => b
  | _ => []
def defScope (s : Stmt) : Scope := match s with
  | .FunctionDef _ _ _ _ _ _ sc _ _ _ => sc
  | _ => { kind := .function, names := [], isGenerator := false, isCoroutine := false }

/-! ### no exception leaves a def -/
abbrev CX0 : CXT := fun _ _ _ _ _ _ => False
abbrev E0 : XK := fun _ _ _ => False
theorem pass0 {X : Cx} : Passes CX0 X E0 := fun _ _ _ _ _ _ _ h => h.elim

/-! ### a def (or method) of the text as it stands behind the top -/
structure Fun (K : PySem.W.Frag) (x qual : Str) (st : Stmt) (f : Addr) (fd : FuncData) : Prop where
  ex : ∃ (oc : Value) (od : Option Addr) (kV doc pm : Value) (an : Option Addr) (cdv ct : Value) (osl : Array (Option Value)),
    fd = PySem.W.fnOf x qual (defArgs st) (defBody st) (defScope st) .none kV doc pm an cdv ct ∧ K.lookup f = some ⟨oc, od, .func fd, osl⟩ ∧ PySem.W.codeIn K cdv qual = true
  kp : PySem.W.keepIn K (.ref f) = true
section
variable {P : Program} {w : World} {K : PySem.W.Frag} {mg : Str → Option Value} {base : Heap}
/-- THE RULE for a def: its body as a term of rules, and the reading of that term -/
theorem Fun.ok {x qual : Str} {st : Stmt} {f : Addr} {fd : FuncData} {N ps : List Str} {k : Nat} {sp : Sp} (F : Fun K x qual st f fd) (S : FnScope N ps (defScope st)) (len : ∀ vs H Q E, sp vs H Q E → vs.length = ps.length)
    (hbody : ∀ (cdv : Value) (A : Around) (outer : List Env) (s : Shared) (H : Hp) (vs : List V) (Q : VK) (E : XK), Room k (A.deeper (envOfC qual (defScope st) s.heap.objs.size f cdv)) → sp vs H Q E →
      ∃ t, PSs (cxOf CX0 P w K mg base N qual (defScope st) f cdv A outer s H E).nox (defBody st) t ∧ t { nx := fun _ H' => Q .non H', rt := Q } (start N vs) H) : FnOk P w K mg base CX0 (k + 1) f fd ps sp := by
  obtain ⟨oc, od, kV, doc, pm, an, cdv, ct, osl, rfl, lk, hcd⟩ := F.ex
  refine fn_of lk hcd S len fun A outer s H vs Q E hr hsp => ?_
  obtain ⟨t, h, q⟩ := hbody cdv A outer s H vs Q E hr hsp
  exact ⟨t, h.nox, q⟩
/-- how its arguments bind (no defaults): h is «fun _ _ _ _ _ _ us hl => match us, hl with | [_, _], _ => rfl», one _ a parameter -/
theorem Fun.binds {x qual : Str} {st : Stmt} {f : Addr} {fd : FuncData} {ps : List Str} (F : Fun K x qual st f fd)
    (h : ∀ (kV doc pm : Value) (an : Option Addr) (cdv ct : Value) (us : List Value), us.length = ps.length → bindArgs (PySem.W.fnOf x qual (defArgs st) (defBody st) (defScope st) .none kV doc pm an cdv ct) ⟨us, []⟩ = pure (ps.zip us)) : Binds K fd ps [] := by
  obtain ⟨oc, od, kV, doc, pm, an, cdv, ct, osl, rfl, lk, hcd⟩ := F.ex
  exact .all (h kV doc pm an cdv ct)
theorem fun_mk {x qual : Str} {st : Stmt} {f : Addr} {oc : Value} {od an : Option Addr} {osl : Array (Option Value)} {kV doc pm cdv ct : Value} (l : K.lookup f = some ⟨oc, od, .func (PySem.W.fnOf x qual (defArgs st) (defBody st) (defScope st) .none kV doc pm an cdv ct), osl⟩)
    (c : PySem.W.codeIn K cdv qual = true) (k : PySem.W.keepIn K (.ref f) = true) : Fun K x qual st f (PySem.W.fnOf x qual (defArgs st) (defBody st) (defScope st) .none kV doc pm an cdv ct) := ⟨⟨oc, od, kV, doc, pm, an, cdv, ct, osl, rfl, l, c⟩, k⟩
end
theorem hu_of {A : Around} {k : Nat} (hr : Room k A) : A.units + 1 < cLine := Nat.lt_of_le_of_lt (Nat.add_le_add_left (by decide : 1 ≤ 64) _) hr.units
theorem small1000 {n : Nat} (h : n ≤ 1000) : n < sizeLine := Nat.lt_of_le_of_lt h (by decide)

/-! ### expressions in short: the name that stands in the i-th slot -/
section
variable {X : Cx}
theorem pv (i : Nat) {x : Str} {pos : Pos} (hN : X.N[i]? = some x := by rfl) (hv : Vis X.env.scope x := by first | exact Or.inl rfl | exact Or.inr (Or.inl rfl) | exact Or.inr (Or.inr rfl)) (hd : (x == ("__debug__" : Str)) = false := by decide)
    (hcd : (x == ("__classdict__" : Str)) = false := by decide) : PE X (.Name x pos) (tVar i) := pe_var hN hv hd hcd
end

/-! ### tests -/
theorem iteF {A B : Prop} (h : B) : if false = true then A else B := by
  rw [if_neg Bool.false_ne_true]
  exact h
theorem iteT {A B : Prop} (h : A) : if true = true then A else B := by
  rw [if_pos rfl]
  exact h
theorem ite2 {c A B : Prop} [Decidable c] (h1 : c → A) (h2 : ¬ c → B) : if c then A else B := by
  by_cases h : c
  · rw [if_pos h]
    exact h1 h
  · rw [if_neg h]
    exact h2 h
theorem iteNS {c A B : Prop} [Decidable c] (hc : c) (h : B) : if (!decide c) = true then A else B := by
  rw [decide_eq_true hc]
  exact iteF h

/-! ### heaps -/
/-- all that was tracked is as it was -/
def Same (H H' : Hp) : Prop := ∀ b o, H b = some o → H' b = some o
theorem Same.refl (H : Hp) : Same H H := fun _ _ h => h
theorem Same.trans {H H1 H2 : Hp} (a : Same H H1) (b : Same H1 H2) : Same H H2 := fun c o h => b c o (a c o h)
theorem Same.free {H H' : Hp} (e : Same H H') {l : Addr} (h : H' l = Option.none) : H l = Option.none := by
  cases q : H l with
  | none => rfl
  | some o =>
    rw [e l o q] at h
    cases h
theorem Same.seq {K : PySem.W.Frag} {H H' : Hp} {a : Addr} {xs : List V} (e : Same H H') (h : SqL K H a xs) : SqL K H' a xs := by
  rcases h with (h | ⟨o, h⟩) | h
  · exact .inl (.inl (e _ _ h))
  · exact .inl (.inr ⟨o, e _ _ h⟩)
  · exact .inr h

end L2

set_option Elab.async false
set_option linter.all false
set_option maxRecDepth 100000
set_option maxHeartbeats 4000000
namespace L2
open PySem PySem.Spec PyProof.Rows

/-! ### comprehensions -/
theorem closure_ok {env : Env} : ∀ (names : List (Str × NameKind)) (acc : List (Str × Addr)), (∀ p ∈ names, p.2 = .free → ∃ c, env.cells.lookup p.1 = some c) →
    (∀ y c, acc.lookup y = some c → env.cells.lookup y = some c) →
    ∃ cl, (forIn names acc (fun (p : Str × NameKind) (cs : List (Str × Addr)) => if (p.2 == NameKind.free) = true then (do let a ← cellOf env p.1; pure (ForInStep.yield ((p.1, a) :: cs))) else (pure (ForInStep.yield cs) : Sem _)) : Sem _) = pure cl ∧
      (∀ y c, cl.lookup y = some c → env.cells.lookup y = some c) ∧ (∀ y, (acc.lookup y).isSome = true → (cl.lookup y).isSome = true) ∧ ∀ y, (y, NameKind.free) ∈ names → (cl.lookup y).isSome = true
  | [], acc, _, h => ⟨acc, rfl, h, fun _ z => z, fun _ z => nomatch z⟩
  | (n, k) :: r, acc, hf, h => by
    by_cases hk : k = .free
    · subst hk
      obtain ⟨c, hc⟩ := hf (n, .free) List.mem_cons_self rfl
      obtain ⟨cl, e, h1, h2, h3⟩ := closure_ok r ((n, c) :: acc) (fun p hp => hf p (List.mem_cons_of_mem _ hp)) (fun y d hd => by
        rw [List.lookup_cons] at hd
        cases q : y == n with
        | true => rw [q] at hd; cases hd; rw [eq_of_beq q]; exact hc
        | false => rw [q] at hd; exact h y d hd)
      refine ⟨cl, ?_, h1, fun y hy => h2 y ?_, fun y hy => ?_⟩
      · rw [List.forIn_cons]
        have e0 : cellOf env n = pure c := by unfold cellOf; rw [hc]
        simp only [beq_self_eq_true, if_true, e0, pure_bind]
        exact e
      · rw [List.lookup_cons]
        cases q : y == n with
        | true => rfl
        | false => exact hy
      · rcases List.mem_cons.mp hy with q | q
        · cases q
          refine h2 n ?_
          rw [List.lookup_cons, beq_self_eq_true]
          rfl
        · exact h3 y q
    · obtain ⟨cl, e, h1, h2, h3⟩ := closure_ok r acc (fun p hp => hf p (List.mem_cons_of_mem _ hp)) h
      refine ⟨cl, ?_, h1, h2, fun y hy => ?_⟩
      · rw [List.forIn_cons]
        have e0 : (k == NameKind.free) = false := by simpa using hk
        simp only [e0, Bool.false_eq_true, if_false, pure_bind]
        exact e
      · rcases List.mem_cons.mp hy with q | q
        · cases q; exact absurd rfl hk
        · exact h3 y q

theorem closureFor_ok {env : Env} {scope : Scope} (hf : ∀ p ∈ scope.names, p.2 = .free → ∃ c, env.cells.lookup p.1 = some c) :
    ∃ cl, closureFor scope env = pure cl ∧ (∀ y c, cl.lookup y = some c → env.cells.lookup y = some c) ∧ ∀ y, (y, NameKind.free) ∈ scope.names → (cl.lookup y).isSome = true := by
  obtain ⟨cl, e, h1, _, h3⟩ := closure_ok (env := env) scope.names [] hf (fun y c h => by simp at h)
  refine ⟨cl, ?_, h1, h3⟩
  unfold closureFor
  have e' := congrArg (fun m : Sem (List (Str × Addr)) => m >>= fun cs => pure cs) e
  simp only [pure_bind] at e'
  rw [← e']

structure CompIn where
  cl : List (Str × Addr)
  C : Addr
  s : Shared
  H : Hp
  ex : List Addr

/-- the context of a comprehension's block -/
def cxComp (X : Cx) (scope : Scope) (N : List Str) (c : CompIn) : Cx :=
  { X with N := N, s₀ := c.s, H₀ := c.H, env := compEnvC scope c.cl c.C X.env, outer := X.stack, stack := X.stack, ex := c.ex, fn := fun _ => false, pn := [], xe := fun _ _ => False }

def capSt (k : Nat) (cap : List Nat) (σ : St) : St := List.replicate k none ++ cap.map fun i => (σ[i]?).getD none

def tTrue : TT := fun _ H Q => Q true H

section
variable {prog : Program} {w : World} {A : Around} {R : Result → Shared → Prop} {s : Shared}
theorem compLoopT {elt target iter : Expr} {ifs : List Expr} {scope : Scope} {pos : Pos} {it acc : Value} {env : Env} (I : Nat → Shared → Prop)
    (turn : ∀ n s, I n s → wpAny (model prog w) A (pyNext it) (fun r s₁ => match r with
      | none => R (.ok .next) s₁
      | some v => wpAny (model prog w) A (letOwnedTupleGo target it v) (fun _ s₁' => wpAny (model prog w) A (assign target env v) (fun _ s₂ =>
          wpAny (model prog w) A (forIn ifs true fun c r => if r = true then do let ok ← isTrue c env (eval c env); pure (ForInStep.yield ok) else pure (ForInStep.yield r)) (fun ok s₃ =>
            if ok = true then wpAny (model prog w) A (eval elt env) (fun x s₄ =>
              wpAny (model prog w) A (call (.builtin "list.append") [acc, x]) (fun _ s₅ => ∃ m, m < n ∧ I m s₅) (fun _ _ => False) s₄) (fun _ _ => False) s₃
            else ∃ m, m < n ∧ I m s₃) (fun _ _ => False) s₂) (fun _ _ => False) s₁') (fun _ _ => False) s₁) (fun _ _ => False) s)
    (n : Nat) (h : I n s) :
    codeAny (model prog w) A (.compLoop (.ListComp elt [⟨target, iter, ifs, 0⟩] scope pos) 0 it acc env) R s := by
  refine codeAny_loop rfl I (fun n s hI => ?_) n h
  show wpAny _ A ((compTurn (.ListComp elt [⟨target, iter, ifs, 0⟩] scope pos) 0 it acc env).onRaise (fun x => do noteFrame x env; theTreesLotGoes x)) _ _ s
  refine wpAny_noted ?_
  refine wpAny_mono (E := fun _ _ => False) ?_ (fun _ _ q => q) (fun _ _ z => z.elim)
  rw [compTurn_list]
  refine wpAny_bind (wpAny_standAt (wpAny_bind (wpAny_mono (turn n s hI) (fun r s₁ h₁ => ?_) fun _ _ h' => h')))
  cases r with
  | none => exact wpAny_pure h₁
  | some v =>
    refine wpAny_bind (wpAny_mono h₁ (fun _ s₁' h₁' => ?_) fun _ _ h' => h')
    refine wpAny_bind (wpAny_mono h₁' (fun _ s₂ h₂ => wpAny_bind (wpAny_mono h₂ (fun ok s₃ h₃ => ?_) fun _ _ h' => h')) fun _ _ h' => h')
    cases ok with
    | false => exact wpAny_pure ⟨rfl, h₃⟩
    | true =>
      exact wpAny_bind (wpAny_bind (wpAny_mono h₃ (fun x s₄ h₄ => wpAny_bind (wpAny_mono h₄ (fun _ s₅ h₅ => wpAny_pure (wpAny_pure ⟨rfl, h₅⟩)) fun _ _ h' => h')) fun _ _ h' => h'))
end

/-- the tests of a clause -/
def PTs (X : Cx) (ifs : List Expr) (t : TT) : Prop :=
  ∀ (pins : List (Addr × Obj)) (s : Shared) (σ : St) (H : Hp) (Q : Bool → Hp → Prop), Inv X pins σ H s → t σ H Q →
    wpAny (model X.prog X.w) X.A (forIn ifs true fun c r => if r = true then do let ok ← isTrue c X.env (eval c X.env); pure (ForInStep.yield ok) else pure (ForInStep.yield r)) (TP X pins σ Q) X.xe s
theorem pts_nil {X : Cx} : PTs X [] tTrue := fun pins s σ H Q I h => wpAny_tests_nil ⟨H, I, h⟩
theorem pts_one {X : Cx} {c : Expr} {t : TT} (h : PT X c t) : PTs X [c] t := fun pins s σ H Q I hq => wpAny_tests_one (h pins s σ H Q I hq)

theorem lookup_relabel_free {env : Env} : ∀ {names : List (Str × NameKind)} {x : Str}, names.lookup x = some .free →
    (names.map fun (n, k) => if (k == NameKind.free && env.scope.kind == .function && env.kindOf n == some .cell) then (n, NameKind.cell) else (n, k)).lookup x = some .cell ∨
    (names.map fun (n, k) => if (k == NameKind.free && env.scope.kind == .function && env.kindOf n == some .cell) then (n, NameKind.cell) else (n, k)).lookup x = some .free
  | [], _, h => by simp at h
  | (n, k) :: r, x, h => by
    have ih := @lookup_relabel_free env r x
    show List.lookup x ((if (k == NameKind.free && env.scope.kind == .function && env.kindOf n == some .cell) = true then (n, NameKind.cell) else (n, k)) :: _) = _ ∨ List.lookup x ((if (k == NameKind.free && env.scope.kind == .function && env.kindOf n == some .cell) = true then (n, NameKind.cell) else (n, k)) :: _) = _
    cases hx : x == n with
    | true =>
      simp only [List.lookup_cons, hx] at h
      cases h
      by_cases hc : (NameKind.free == NameKind.free && env.scope.kind == .function && env.kindOf n == some .cell) = true
      · rw [if_pos hc]; left; simp only [List.lookup_cons, hx]
      · rw [if_neg hc]; right; simp only [List.lookup_cons, hx]
    | false =>
      simp only [List.lookup_cons, hx] at h
      by_cases hc : (k == NameKind.free && env.scope.kind == .function && env.kindOf n == some .cell) = true
      · rw [if_pos hc]; simp only [List.lookup_cons, hx]; exact ih h
      · rw [if_neg hc]; simp only [List.lookup_cons, hx]; exact ih h

theorem lookup_relabel_cf {env : Env} : ∀ {names : List (Str × NameKind)} {x : Str}, (∀ y ∈ names, y.2 ≠ .cell) →
    ((names.map fun (n, k) => if (k == NameKind.free && env.scope.kind == .function && env.kindOf n == some .cell) then (n, NameKind.cell) else (n, k)).lookup x = some .cell ∨
    (names.map fun (n, k) => if (k == NameKind.free && env.scope.kind == .function && env.kindOf n == some .cell) then (n, NameKind.cell) else (n, k)).lookup x = some .free) → (x, NameKind.free) ∈ names
  | [], _, _, h => by simp at h
  | (n, k) :: r, x, hn, h => by
    have ih := @lookup_relabel_cf env r x (fun y hy => hn y (List.mem_cons_of_mem _ hy))
    have h' : List.lookup x ((if (k == NameKind.free && env.scope.kind == .function && env.kindOf n == some .cell) = true then (n, NameKind.cell) else (n, k)) :: (r.map fun (n, k) => if (k == NameKind.free && env.scope.kind == .function && env.kindOf n == some .cell) then (n, NameKind.cell) else (n, k))) = some .cell ∨ List.lookup x ((if (k == NameKind.free && env.scope.kind == .function && env.kindOf n == some .cell) = true then (n, NameKind.cell) else (n, k)) :: (r.map fun (n, k) => if (k == NameKind.free && env.scope.kind == .function && env.kindOf n == some .cell) then (n, NameKind.cell) else (n, k))) = some .free := h
    cases hx : x == n with
    | true =>
      have e := eq_of_beq hx
      subst e
      by_cases hc : (k == NameKind.free && env.scope.kind == .function && env.kindOf x == some .cell) = true
      · have hk : k = .free := by
          have := (Bool.and_eq_true _ _ |>.mp ((Bool.and_eq_true _ _ |>.mp hc).1)).1
          exact eq_of_beq this
        subst hk
        exact List.mem_cons_self
      · rw [if_neg hc] at h'
        simp only [List.lookup_cons, hx] at h'
        have hk := hn (x, k) List.mem_cons_self
        rcases h' with z | z
        · exact absurd (Option.some.inj z) hk
        · rw [Option.some.inj z]; exact List.mem_cons_self
    | false =>
      refine List.mem_cons_of_mem _ (ih ?_)
      by_cases hc : (k == NameKind.free && env.scope.kind == .function && env.kindOf n == some .cell) = true
      · rw [if_pos hc] at h'; simp only [List.lookup_cons, hx] at h'; exact h'
      · rw [if_neg hc] at h'; simp only [List.lookup_cons, hx] at h'; exact h'

/-- the turns of a comprehension: an invariant W by the turn and a measure -/
def GoalW (J : It) (g : TG) (tt : TT) (te : TE) (l : Addr) (σ0 : St) (H0 : Hp) (Q : VK) : Prop :=
  ∃ W : Nat → Nat → St → Hp → Prop, (∃ m, W 0 m σ0 H0) ∧
      ∀ i m σ' H2, W i m σ' H2 → (J.stop i H2 ∧ Q (.ref l) H2) ∨ (J.go i H2 ∧ ∃ N : St → Hp → Prop, (∀ σ3 H3, N σ3 H3 → ∃ m', m' < m ∧ W (i + 1) m' σ3 H3) ∧
        ∀ x H3, J.yld i H2 x H3 → g x σ' H3 fun σ4 H4 => tt σ4 H4 fun b H5 => if b = true then te σ4 H5 fun y H6 => ∃ xs, H6 l = some (.lst xs) ∧ xs.length < sizeLine ∧ N σ4 (upd H6 l (.lst (xs ++ [y]))) else N σ4 H5)
/-- a list comprehension's reading -/
def tComp (wi : TI) (k : Nat) (cap : List Nat) (g : TG) (tt : TT) (te : TE) : TE := fun σ H Q => wi σ H fun J H1 => ∀ l, H1 l = none → GoalW J g tt te l (capSt k cap σ) (upd H1 l (.lst [])) Q

structure CompScope (X : Cx) (scope : Scope) (N : List Str) (k : Nat) (cap : List Nat) : Prop where
  kind : scope.kind = .function
  names : ∀ y ∈ scope.names, y.2 = .local → scope.names.lookup y.1 = some .local
  cell : ∀ y ∈ scope.names, y.2 ≠ .cell
  free : ∀ y ∈ scope.names, y.2 = .free → X.env.kindOf y.1 = some .cell ∨ X.env.kindOf y.1 = some .free
  len : N.length = k + cap.length
  cap : ∀ j i, cap[j]? = some i → ∃ y, N[k + j]? = some y ∧ X.N[i]? = some y ∧ scope.names.lookup y = some .free

theorem capSt_get {k : Nat} {cap : List Nat} {σ : St} {j : Nat} {v : V} (h : (capSt k cap σ)[j]? = some (some v)) : ∃ q i, j = k + q ∧ cap[q]? = some i ∧ σ[i]? = some (some v) := by
  unfold capSt at h
  by_cases hj : j < k
  · rw [List.getElem?_append_left (by simpa using hj), List.getElem?_replicate] at h
    split at h <;> cases h
  · rw [List.getElem?_append_right (by simpa using hj), List.length_replicate, List.getElem?_map] at h
    cases q : cap[j - k]? with
    | none => rw [q] at h; cases h
    | some i =>
      rw [q] at h
      have h' : (σ[i]?).getD none = some v := Option.some.inj h
      refine ⟨j - k, i, by omega, q, ?_⟩
      cases r : σ[i]? with
      | none => rw [r] at h'; cases h'
      | some o => rw [r] at h'; have : o = some v := h'; rw [this]

theorem HOk.but {P : Program} {w : World} {H : Hp} {h h' : Heap} {C : Addr} (x : HOk P w H h) (hC : H C = none) (k : ∀ b o, b ≠ C → h.get? b = some o → h'.get? b = some o) : HOk P w H h' := fun b u e => by
  have nit : ∀ b u, H b = some u → b ≠ C := fun b u e z => by rw [z, hC] at e; cases e
  refine (x b u e).stay (fun c v hc q => k c v ?_ q) (fun _ q => q) fun _ _ q => q
  rcases hc with z | z
  · rw [z]; exact nit b u e
  · exact nit c _ z

section
variable {X : Cx} {elt tg iter : Expr} {ifs : List Expr} {scope : Scope} {pos : Pos} {wi : TI} {g : TG} {tt : TT} {te : TE} {N : List Str} {k : Nat} {cap : List Nat}
theorem compOk {pins : List (Addr × Obj)} {σ : St} {H2 : Hp} {s2 : Shared} {cl : List (Str × Addr)} {C : Addr} {fp : List Addr} (S : CompScope X scope N k cap) (I2 : Inv X pins σ H2 s2)
    (hcl1 : ∀ y c, cl.lookup y = some c → X.env.cells.lookup y = some c) (hcl2 : ∀ y, (y, NameKind.free) ∈ scope.names → (cl.lookup y).isSome = true) (hC : s2.heap.objs.size ≤ C)
    (hf : ∀ b ∈ fp, FpOk X pins H2 b) (ho : ∀ b ∈ fp, b < s2.heap.objs.size) : (cxComp X scope N ⟨cl, C, s2, H2, fp⟩).Ok where
  mod := I2.ok.mod
  kind := S.kind
  glob := I2.ok.glob
  blt := I2.ok.blt
  above := hC
  inj := fun x y c h1 h2 => I2.ok.inj x y c (hcl1 x c h1) (hcl1 y c h2)
  has := fun x h => by
    have h' : (x, NameKind.free) ∈ scope.names := lookup_relabel_cf (env := X.env) S.cell h
    exact Option.isSome_iff_exists.mp (hcl2 x h')
  cab := fun _ _ z => by cases z
  hd := I2.ok.hd
  frames := I2.ok.frames
  stk := .inl rfl
  exf := fun b hb => ⟨Nat.ne_of_lt (Nat.lt_of_lt_of_le (ho b hb) hC), fun x c e => (hf b hb).2.2.2.2.1 x c (hcl1 x c e)⟩
  bs := I2.bs
  bsz := Nat.le_trans I2.ok.bsz I2.sz
  noex := fun b o e hb => by
    rcases (hf b hb).2.2.2.1 with z | z
    · exact I2.ok.noex b o e z
    · exact absurd (Nat.lt_of_lt_of_le (Heap.lt_size e) (Nat.le_trans I2.ok.bsz z)) (Nat.lt_irrefl _)
  exfs := fun b hb hb' => by
    rcases List.mem_cons.mp (I2.stkSub b hb') with z | z
    · exact (hf b hb).2.1 z
    · exact (hf b hb).2.2.1 z
  funs := I2.stack
  frf := I2.stkFree

theorem compInv {pins : List (Addr × Obj)} {σ : St} {H2 : Hp} {s2 : Shared} {cl : List (Str × Addr)} {C : Addr} {fp : List Addr} {h1 : Heap} {tk : Nat} {m0 : Str → Option Value} (S : CompScope X scope N k cap) (I2 : Inv X pins σ H2 s2)
    (hcl1 : ∀ y c, cl.lookup y = some c → X.env.cells.lookup y = some c) (hcl2 : ∀ y, (y, NameKind.free) ∈ scope.names → (cl.lookup y).isSome = true) (hC : C = s2.heap.objs.size + 1)
    (hf : ∀ b ∈ fp, FpOk X pins H2 b) (ho : ∀ b ∈ fp, b < s2.heap.objs.size) (hk : ∀ b o, s2.heap.get? b = some o → h1.get? b = some o) (hD : h1.get? s2.heap.objs.size = some { cls := .type "list", data := .seq #[] 0 }) (hns : h1.Ns C m0) :
    Inv (cxComp X scope N ⟨cl, C, s2, H2, fp⟩) [] (capSt k cap σ) (upd H2 s2.heap.objs.size (.lst [])) { s2 with heap := h1, toks := tk } := by
  have fr : H2 s2.heap.objs.size = none := I2.hok.fresh (Nat.le_refl _)
  have hCf : H2 C = none := I2.hok.fresh (hC ▸ Nat.le_succ _)
  refine ⟨compOk S I2 hcl1 hcl2 (hC ▸ Nat.le_succ _) hf ho, rfl, I2.bare, Un.laid hk (Nat.le_refl _) fr, ⟨m0, hns, fun i y v e1 e2 e3 => ?_⟩, fun x c e => ?_, ?_, fun x c e => ?_, fun p hp => absurd (show p ∈ ([] : List (Addr × Obj)) from hp) (by simp), I2.hok.laid hk (Nat.le_refl _) ?_, ?_⟩
  · obtain ⟨q, j, rfl, hj, hv⟩ := capSt_get e2
    obtain ⟨z, hz1, hz2, hz3⟩ := S.cap q j hj
    have e1' : N[k + q]? = some y := e1
    rw [hz1] at e1'
    cases e1'
    obtain ⟨m, hn, hl⟩ := I2.loc
    have hfr := S.free (y, .free) (PySem.mem_of_lookup hz3) rfl
    obtain ⟨u, r, l⟩ := hl j y v hz2 hv (by rcases hfr with z | z; exact .inr (.inl z); exact .inr (.inr z))
    refine ⟨u, r, .inr ⟨lookup_relabel_free (env := X.env) hz3, ?_⟩⟩
    obtain ⟨c, hc⟩ := Option.isSome_iff_exists.mp (hcl2 y (PySem.mem_of_lookup hz3))
    rcases l with ⟨hk', _⟩ | ⟨_, c', hc', hcell⟩
    · rcases hfr with z | z <;> (rw [hk'] at z; cases z)
    · have e := hcl1 y c hc
      rw [hc'] at e
      cases e
      obtain ⟨o, ho', hd⟩ := hcell
      exact ⟨_, hc, o, hk _ _ ho', hd⟩
  · obtain ⟨v, o, ho', hd⟩ := I2.cell x c (hcl1 x c e)
    exact ⟨v, o, hk _ _ ho', hd⟩
  · show upd H2 s2.heap.objs.size (.lst []) C = none
    rw [upd_ne (Nat.ne_of_gt (hC ▸ Nat.lt_succ_self _))]
    exact hCf
  · have e' := hcl1 x c e
    obtain ⟨v, q⟩ := I2.cell x c e'
    rw [upd_ne (Nat.ne_of_lt q.lt)]
    exact I2.freeC x c e'
  · exact ⟨Nat.zero_le _, [], 0, .nil, hD⟩
  · show (capSt k cap σ).length = N.length
    unfold capSt
    rw [List.length_append, List.length_replicate, List.length_map, S.len]

theorem pe_comp (hc : X.calm = true) (S : CompScope X scope N k cap) (hi : PI X tg iter wi) (hg : ∀ c, PG (cxComp X scope N c) tg g) (ht : ∀ c, PTs (cxComp X scope N c) ifs tt) (he : ∀ c, PE (cxComp X scope N c) elt te)
    (hs : ∀ x, foldedSetIterable iter X.env x = pure x := by intro _; rfl) : PE X (.ListComp elt [⟨tg, iter, ifs, 0⟩] scope pos) (tComp wi k cap g tt te) := by
  intro pins s σ H Q I h
  rw [eval_ListComp]
  obtain ⟨cl, hclos, hcl1, hcl2⟩ := closureFor_ok (scope := scope) (env := X.env) (fun p hp hf => I.ok.has p.1 (S.free p hp hf))
  refine wpAny_comprehension_free (use := none) rfl hs hclos S.kind S.names (thn (hi pins s σ H _ I h) fun v s1 h1 => thn h1 fun itv s2 h2 => ?_)
  obtain ⟨it, fp, tn, J, H2, e, I2, T, st2, f2, q2⟩ := h2
  subst e
  obtain ⟨W, ⟨m0, w0⟩, turn⟩ := q2 s2.heap.objs.size (I2.hok.fresh (Nat.le_refl _))
  have hob : ∀ b ∈ fp, b < s2.heap.objs.size := fun b hb => let ⟨o, e, _⟩ := T.obj _ _ st2 b hb; Heap.lt_size e
  refine wpAny_newObj_type (wpAny_newFunctionEnv S.cell (by intro y hy; simp at hy) (fun h₁ hns₁ hsb₁ => ?_) S.kind)
  dsimp only at hns₁ hsb₁ ⊢
  generalize hHH : s2.heap.push { cls := .type "list", dict := none, data := .seq ([] : List Value).toArray } = HH at hns₁ hsb₁ ⊢
  have hCC : HH.objs.size = s2.heap.objs.size + 1 := by rw [← hHH, Heap.size_push]
  have old : ∀ b o, s2.heap.get? b = some o → h₁.get? b = some o := fun b o e => hsb₁.extBut b o (Nat.ne_of_lt (hCC ▸ Nat.lt_succ_of_lt (Heap.lt_size e))) (Heap.get?_push_of_some _ (hHH ▸ Heap.get?_push_of_some _ e))
  have hD : h₁.get? s2.heap.objs.size = some { cls := .type "list", data := .seq #[] 0 } := hsb₁.extBut _ _ (Nat.ne_of_lt (hCC ▸ Nat.lt_succ_self _)) (Heap.get?_push_of_some _ (hHH ▸ Heap.get?_push_size _ rfl))
  have I4 := fun tk => compInv (tk := tk) S I2 hcl1 hcl2 hCC f2 hob old hD hns₁
  have X' := cxComp X scope N ⟨cl, HH.objs.size, s2, H2, fp⟩
  have stat : ∀ {H' : Hp}, (∀ b ∈ fp, H' b = none) → ∀ b ∈ fp, FpOk (cxComp X scope N ⟨cl, HH.objs.size, s2, H2, fp⟩) [] H' b := fun hn b hb =>
    ⟨hn b hb, Nat.ne_of_lt (hCC ▸ Nat.lt_succ_of_lt (hob b hb)), (compOk S I2 hcl1 hcl2 (hCC ▸ Nat.le_succ _) f2 hob).exfs b hb, .inl hb, fun x c e => (f2 b hb).2.2.2.2.1 x c (hcl1 x c e), fun p hp => absurd (show p ∈ ([] : List (Addr × Obj)) from hp) (by simp)⟩
  have loop : ∀ s₃ : Shared, s₃ = { s2 with heap := h₁, toks := s2.toks + ([] : List (Str × Value)).length } →
      codeAny (model X.prog X.w) X.A (.compLoop (.ListComp elt [⟨tg, iter, ifs, 0⟩] scope pos) 0 (.ref it) (.ref s2.heap.objs.size) (compEnvC scope cl HH.objs.size X.env))
        (compPost (model X.prog X.w) X.A X.xe none (EP X pins σ Q) (.ref s2.heap.objs.size) HH.objs.size) s₃ := by
    rintro s₃ rfl
    refine compLoopT (fun n s' => ∃ i σ' H', Inv (cxComp X scope N ⟨cl, HH.objs.size, s2, H2, fp⟩) [] σ' H' s' ∧ tn i s'.heap ∧ (∀ b ∈ fp, H' b = none) ∧ W i n σ' H') ?_ m0
      ⟨0, capSt k cap σ, _, I4 _, T.keep _ _ _ st2 fun b _ o e => old b o e, fun b hb => by rw [upd_ne (Nat.ne_of_lt (hob b hb))]; exact (f2 b hb).1, w0⟩
    rintro n s3 ⟨i, σ3, H3, I3, st3, fr3, w3⟩
    rcases turn i n σ3 H3 w3 with ⟨stop, qn⟩ | ⟨go, NN, hN, step⟩
    · refine thn (T.done (cxComp X scope N ⟨cl, HH.objs.size, s2, H2, fp⟩) rfl rfl rfl hc i [] s3 σ3 H3 _ I3 (stat fr3) st3 stop) fun r s4 ⟨hr, J4⟩ => ?_
      subst hr
      obtain ⟨m, hn, _⟩ := J4.loc
      refine ⟨m, hn, fun h' hs' => ?_⟩
      have keepC : ∀ b o, b ≠ HH.objs.size → s4.heap.get? b = some o → h'.get? b = some o := fun b o hb e => hs'.extBut b o hb e
      have ltC : ∀ b o, s2.heap.get? b = some o → b ≠ HH.objs.size := fun b o e => Nat.ne_of_lt (hCC ▸ Nat.lt_succ_of_lt (Heap.lt_size e))
      have u := J4.base
      have u' : Un (frs X.stack) fp H2 H3 s2.heap h' := ⟨fun b o q n hb hx => keepC b o (ltC b o q) (u.keep b o q n hb hx), fun b o q n hb hx => by
          obtain ⟨sl, e⟩ := u.slot b o q n hb hx
          exact ⟨sl, keepC b _ (ltC b o q) e⟩, u.free, fun b o q hx => by
          obtain ⟨o', e⟩ := u.there b o q hx
          exact ⟨o', keepC b _ (ltC b o q) e⟩, u.tups, u.frzs, u.tbls⟩
      refine ⟨.ref s2.heap.objs.size, H3, I2.call' (ch := fp) J4.os u' (J4.hok.but J4.free keepC) J4.bare fun b hb => ?_, rfl, qn⟩
      obtain ⟨_, f1, _, f3, f4, f5⟩ := f2 b hb
      exact ⟨f3, f1, f4, f5⟩
    · refine thn (T.item (cxComp X scope N ⟨cl, HH.objs.size, s2, H2, fp⟩) rfl rfl rfl hc i [] s3 σ3 H3 _ I3 (stat fr3) st3 go) fun r s4 ⟨u, hr, h4⟩ => ?_
      subst hr
      refine thn h4 fun _ s5 ⟨x, H5, I5, r5, y5, st5, fr5⟩ => ?_
      have I5' := I5.pinned (stat fr5) (T.obj _ _ st5)
      have again : ∀ {s7 : Shared} {σ7 : St} {H7 : Hp}, Inv (cxComp X scope N ⟨cl, HH.objs.size, s2, H2, fp⟩) ([] ++ pinsAt fp s5.heap) σ7 H7 s7 → NN σ7 H7 →
          ∃ m, m < n ∧ ∃ i σ' H', Inv (cxComp X scope N ⟨cl, HH.objs.size, s2, H2, fp⟩) [] σ' H' s7 ∧ tn i s7.heap ∧ (∀ b ∈ fp, H' b = none) ∧ W i m σ' H' := fun {s7 σ7 H7} I7 n7 => by
        obtain ⟨m', hm, w7⟩ := hN σ7 H7 n7
        refine ⟨m', hm, i + 1, σ7, H7, I7.unpinned, T.keep _ _ _ st5 fun b hb o e => (I7.pin (b, o) (List.mem_append_right _ (List.mem_append_right _ (mem_pinsAt hb e)))).1, fun b hb => ?_, w7⟩
        obtain ⟨o, e, d⟩ := T.obj _ _ st5 b hb
        exact (I7.pin (b, o) (List.mem_append_right _ (List.mem_append_right _ (mem_pinsAt hb e)))).2.1
      refine thn (hg _ _ s5 σ3 H5 x u _ I5' r5 (step x H5 y5)) fun _ s6 ⟨σ6, H6, I6, q6⟩ => ?_
      refine thn (ht _ _ s6 σ6 H6 _ I6 q6) fun b s7 ⟨H7, I7, q7⟩ => ?_
      cases b with
      | false => exact again I7 q7
      | true =>
        refine thn (he _ _ s7 σ6 H7 _ I7 q7) fun y s8 ⟨yv, H8, I8, r8, xs, hl, hz, n8⟩ => ?_
        refine thn (mt_append _ s8 σ6 H8 (.ref s2.heap.objs.size) [yv] (.ref s2.heap.objs.size) [y] (fun _ H9 => NN σ6 H9) I8 rfl (.cons r8 .nil) ⟨_, xs, yv, rfl, rfl, hl, hz, n8⟩) fun _ s9 ⟨_, H9, I9, _, q9⟩ => ?_
        exact again I9 q9
  exact codeAny_compStart_list (loop _ rfl) (T.self X.A 0 _ _ _ (T.keep _ _ _ st2 fun b _ o e => old b o e) (loop _ rfl))
end

end L2

set_option Elab.async false
set_option linter.all false
set_option maxRecDepth 100000
set_option maxHeartbeats 4000000
namespace L2
open PySem PySem.Spec PyProof.Rows

/-! ### a text's signs, one by one -/
def Its (z : Str) : It := ⟨fun i _ => i < z.cps.size, fun i H x H' => H' = H ∧ ∃ c, z.cps[i]? = some c ∧ x = .str ⟨#[c]⟩, fun i _ => z.cps.size ≤ i⟩
theorem turn_strA {P : Program} {w : World} {K : PySem.W.Frag} {tg : Expr} (z : Str) (t : Tok) (it : Addr) : Turn P w K tg (Its z) [it] it (fun i h => h.IsStrIter it "str_ascii_iterator" z t i) where
  mem := by simp
  obj := fun i h st b hb => by
    have e : b = it := by simpa using hb
    subst e
    obtain ⟨o, e, c, d⟩ := st
    exact ⟨o, e, fun v z => by rw [d] at z; cases z⟩
  keep := fun i h h' st k => let ⟨o, e, r⟩ := st; ⟨o, k it (by simp) o e, r⟩
  item := by
    intro X hP hw hK hc i pins s σ H E I hf st hg
    subst hP hw hK
    obtain ⟨f0, f1, f2, f3, f4, f5⟩ := hf it (by simp)
    have hg' : i < z.cps.size := hg
    refine wpAny_pyNext_ascii_item st (c := z.cps[i]) (by simp [hg']) fun h' st' sb => ?_
    have I1 : Inv X pins σ H { s with heap := h', toks := s.toks + 1 } := I.turned (fun b o hb e => (sb.2 b hb).trans e) f0 f1 f3 f4 f5
    obtain ⟨o, e, c, d⟩ := id st'
    exact ⟨_, rfl, go_of (s := { s with heap := h', toks := s.toks + 1 }) e c d (by decide) ⟨.str ⟨#[z.cps[i]]⟩, H, I1, ⟨_, rfl⟩, ⟨rfl, _, by simp [hg'], rfl⟩, st', fun b hb => (hf b hb).1⟩⟩
  done := by
    intro X hP hw hK hc i pins s σ H E I hf st hg
    subst hP hw hK
    obtain ⟨f0, f1, f2, f3, f4, f5⟩ := hf it (by simp)
    exact wpAny_pyNext_ascii_end (I.ok.hd hc) st (Array.getElem?_eq_none hg) fun h' eb => ⟨rfl, I.turned (t' := s.toks) (fun b o hb e => eb b o hb e) f0 f1 f3 f4 f5⟩
  self := fun A i s Q E st h => by
    refine wpAny_pyIter_slot st.typeIs F.slot_str_ascii_iterator_iter (wpAny_call_entry F.slot_str_ascii_iterator_iter st.typeIs F.entry_str_ascii_iterator_iter ?_ (F.args_str_ascii_iterator_iter_1 _))
    show wpAny _ _ (ret (.ref it)) _ _ s
    exact wpAny_pure ⟨_, rfl, "str_ascii_iterator", _, st.typeIs, F.slot_str_ascii_iterator_next.lookup, h⟩
theorem turn_strW {P : Program} {w : World} {K : PySem.W.Frag} {tg : Expr} (z : Str) (t : Tok) (it : Addr) : Turn P w K tg (Its z) [it] it (fun i h => h.IsStrIter it "str_iterator" z t i) where
  mem := by simp
  obj := fun i h st b hb => by
    have e : b = it := by simpa using hb
    subst e
    obtain ⟨o, e, c, d⟩ := st
    exact ⟨o, e, fun v z => by rw [d] at z; cases z⟩
  keep := fun i h h' st k => let ⟨o, e, r⟩ := st; ⟨o, k it (by simp) o e, r⟩
  item := by
    intro X hP hw hK hc i pins s σ H E I hf st hg
    subst hP hw hK
    obtain ⟨f0, f1, f2, f3, f4, f5⟩ := hf it (by simp)
    have hg' : i < z.cps.size := hg
    refine wpAny_pyNext_wide_item st (c := z.cps[i]) (by simp [hg']) fun h' st' sb => ?_
    have I1 : Inv X pins σ H { s with heap := h', toks := s.toks + 1 } := I.turned (fun b o hb e => (sb.2 b hb).trans e) f0 f1 f3 f4 f5
    obtain ⟨o, e, c, d⟩ := id st'
    exact ⟨_, rfl, go_of (s := { s with heap := h', toks := s.toks + 1 }) e c d (by decide) ⟨.str ⟨#[z.cps[i]]⟩, H, I1, ⟨_, rfl⟩, ⟨rfl, _, by simp [hg'], rfl⟩, st', fun b hb => (hf b hb).1⟩⟩
  done := by
    intro X hP hw hK hc i pins s σ H E I hf st hg
    subst hP hw hK
    obtain ⟨f0, f1, f2, f3, f4, f5⟩ := hf it (by simp)
    exact wpAny_pyNext_wide_end (I.ok.hd hc) st (Array.getElem?_eq_none hg) fun h' eb => ⟨rfl, I.turned (t' := s.toks) (fun b o hb e => eb b o hb e) f0 f1 f3 f4 f5⟩
  self := fun A i s Q E st h => by
    refine wpAny_pyIter_slot st.typeIs F.slot_str_iterator_iter (wpAny_call_entry F.slot_str_iterator_iter st.typeIs F.entry_str_iterator_iter ?_ (F.args_str_iterator_iter_1 _))
    show wpAny _ _ (ret (.ref it)) _ _ s
    exact wpAny_pure ⟨_, rfl, "str_iterator", _, st.typeIs, F.slot_str_iterator_next.lookup, h⟩

def iStr (tl : TE) : TI := fun σ H R => tl σ H fun x H1 => ∃ z, x = .str z ∧ R (Its z) H1
section
variable {X : Cx} {tg : Expr}
theorem pi_str {l : Expr} {tl : TE} (hl : PE X l tl) : PI X tg l (iStr tl) := by
  intro pins s σ H R I h
  refine thn (hl pins s σ H _ I h) fun v s1 ⟨x, H1, I1, r1, q1⟩ => ?_
  obtain ⟨z, e, q⟩ := q1
  subst e
  obtain ⟨t, rfl⟩ := r1
  cases ha : z.cps.all (· < 128) with
  | true =>
    refine wpAny_pyIter_ascii ha ?_
    refine ⟨s1.heap.objs.size, [s1.heap.objs.size], _, _, H1, rfl, I1.kept (t' := s1.toks) fun b o e => Heap.get?_push_of_some _ e, turn_strA z t _, ⟨_, Heap.get?_push_size _ rfl, rfl, rfl⟩, fun b hb => ?_, q⟩
    have e : b = s1.heap.objs.size := by simpa using hb
    subst e
    exact I1.fpOk (Nat.le_refl _) (I1.hok.fresh (Nat.le_refl _))
  | false =>
    refine wpAny_pyIter_wide ha ?_
    refine ⟨s1.heap.objs.size, [s1.heap.objs.size], _, _, H1, rfl, I1.kept (t' := s1.toks) fun b o e => Heap.get?_push_of_some _ e, turn_strW z t _, ⟨_, Heap.get?_push_size _ rfl, rfl, rfl⟩, fun b hb => ?_, q⟩
    have e : b = s1.heap.objs.size := by simpa using hb
    subst e
    exact I1.fpOk (Nat.le_refl _) (I1.hok.fresh (Nat.le_refl _))
end

/-! ### all, any over a list of bools -/
def isBl (bs : List Bool) : List V := bs.map V.bl
theorem bl_of {bs : List Bool} {its : List Value} (r : Vals (isBl bs) its) : ∀ i : Nat, its[i]? = (bs[i]?).map Value.bool := by
  induction bs generalizing its with
  | nil => cases r; intro i; simp
  | cons b bs ih =>
    cases r with
    | cons r rr =>
      cases r
      intro i
      cases i with
      | zero => rfl
      | succ i => exact ih rr i
theorem range_all {n : Nat} {f : Nat → Bool} {l : List Bool} (hn : l.length = n) (h : ∀ i b, l[i]? = some b → f i = b) : (List.range n).all f = l.all id := by
  induction l generalizing n f with
  | nil => subst hn; rfl
  | cons b l ih =>
    subst hn
    rw [List.length_cons, List.range_succ_eq_map, List.all_cons, List.all_map, List.all_cons, h 0 b rfl, ih (n := l.length) (f := f ∘ Nat.succ) rfl fun i b e => h (i + 1) b e]
    rfl
theorem range_any {n : Nat} {f : Nat → Bool} {l : List Bool} (hn : l.length = n) (h : ∀ i b, l[i]? = some b → f i = b) : (List.range n).any f = l.any id := by
  induction l generalizing n f with
  | nil => subst hn; rfl
  | cons b l ih =>
    subst hn
    rw [List.length_cons, List.range_succ_eq_map, List.any_cons, List.any_map, List.any_cons, h 0 b rfl, ih (n := l.length) (f := f ∘ Nat.succ) rfl fun i b e => h (i + 1) b e]
    rfl
section
variable {X : Cx}
theorem call_all (hc : X.calm = true) : CallR X (.builtin "all") (fun xs H Q => ∃ p bs, xs = [.ref p] ∧ SqL X.K H p (isBl bs) ∧ Q (.bl (bs.all id)) H) := by
  intro pins s σ H xs us Q I r h
  obtain ⟨p, bs, rfl, hq, q⟩ := h
  obtain ⟨u, rfl, rx⟩ := vals1 r
  cases rx
  obtain ⟨its, rv, pl, hz⟩ := I.list hq
  have hg := bl_of rv
  have hlen : bs.length = its.length := by have := rv.length; simpa [isBl] using this
  refine call_all_walk (wpAny_pyIter_list pl.isList ?_)
  have hlt : p < s.heap.objs.size := let ⟨o, _, e, _⟩ := pl; Heap.lt_size e
  refine ⟨s.heap.objs.size, _, _, _, _, _, fun i => (bs[i]?).getD false, rfl, Walks.list (by exact I.ok.hd hc) s.heap.objs.size p (Nat.ne_of_lt hlt) its.toArray, ⟨⟨_, Heap.get?_push_size _ rfl, rfl, rfl⟩, pl.isList.at fun o e => Heap.get?_push_of_some _ e⟩, ?_, ?_⟩
  · intro i v s' Q' E' hv hq'
    have hv' : its[i]? = some v := by simpa using hv
    rw [hg i] at hv'
    cases e : bs[i]? with
    | none => rw [e] at hv'; cases hv'
    | some b =>
      dsimp only at hq'
      rw [e] at hv' hq'
      cases hv'
      exact wpAny_truthy_bool hq'
  · intro h' tk hk
    have e1 : (List.range its.toArray.size).all (fun i => (bs[i]?).getD false) = bs.all id := range_all (by simpa using hlen) (fun i b e => by rw [e]; rfl)
    rw [e1]
    have I1 : Inv X pins σ H { s with heap := s.heap.push { cls := .type "list_iterator", data := .fields #[.ref p, .int 0 0] }, toks := s.toks } := I.kept fun b o e => Heap.get?_push_of_some _ e
    have f1 := I.fpOk (H' := H) (Nat.le_refl _) (I.hok.fresh (Nat.le_refl _))
    obtain ⟨f0, f1, f2, f3, f4, f5⟩ := f1
    exact ⟨.bl _, H, I1.turned (it := s.heap.objs.size) (fun b o hb e => hk b o (by simpa using hb) e) f0 f1 f3 f4 f5, rfl, q⟩
theorem call_any (hc : X.calm = true) : CallR X (.builtin "any") (fun xs H Q => ∃ p bs, xs = [.ref p] ∧ SqL X.K H p (isBl bs) ∧ Q (.bl (bs.any id)) H) := by
  intro pins s σ H xs us Q I r h
  obtain ⟨p, bs, rfl, hq, q⟩ := h
  obtain ⟨u, rfl, rx⟩ := vals1 r
  cases rx
  obtain ⟨its, rv, pl, hz⟩ := I.list hq
  have hg := bl_of rv
  have hlen : bs.length = its.length := by have := rv.length; simpa [isBl] using this
  refine call_any_walk (wpAny_pyIter_list pl.isList ?_)
  have hlt : p < s.heap.objs.size := let ⟨o, _, e, _⟩ := pl; Heap.lt_size e
  refine ⟨s.heap.objs.size, _, _, _, _, _, fun i => (bs[i]?).getD false, rfl, Walks.list (by exact I.ok.hd hc) s.heap.objs.size p (Nat.ne_of_lt hlt) its.toArray, ⟨⟨_, Heap.get?_push_size _ rfl, rfl, rfl⟩, pl.isList.at fun o e => Heap.get?_push_of_some _ e⟩, ?_, ?_⟩
  · intro i v s' Q' E' hv hq'
    have hv' : its[i]? = some v := by simpa using hv
    rw [hg i] at hv'
    cases e : bs[i]? with
    | none => rw [e] at hv'; cases hv'
    | some b =>
      dsimp only at hq'
      rw [e] at hv' hq'
      cases hv'
      exact wpAny_truthy_bool hq'
  · intro h' tk hk
    have e1 : (List.range its.toArray.size).any (fun i => (bs[i]?).getD false) = bs.any id := range_any (by simpa using hlen) (fun i b e => by rw [e]; rfl)
    rw [e1]
    have I1 : Inv X pins σ H { s with heap := s.heap.push { cls := .type "list_iterator", data := .fields #[.ref p, .int 0 0] }, toks := s.toks } := I.kept fun b o e => Heap.get?_push_of_some _ e
    have f1 := I.fpOk (H' := H) (Nat.le_refl _) (I.hok.fresh (Nat.le_refl _))
    obtain ⟨f0, f1, f2, f3, f4, f5⟩ := f1
    exact ⟨.bl _, H, I1.turned (it := s.heap.objs.size) (fun b o hb e => hk b o (by simpa using hb) e) f0 f1 f3 f4 f5, rfl, q⟩

/-! ### isinstance -/
theorem call_isi : CallR X (.builtin "isinstance") (fun xs H Q => ∃ x T t b, xs = [x, .ty T] ∧ TyOf X.K H x t ∧ PySem.W.kitOne X.K t (.type T) = some b ∧ Q (.bl b) H) := by
  intro pins s σ H xs us Q I r h
  obtain ⟨x, T, t, b, rfl, ty, e, q⟩ := h
  obtain ⟨u, v, rfl, rx, ry⟩ := vals2 r
  cases ry
  exact isinst_ok I rx ty e fun tk => ⟨.bl b, H, I.tok tk, rfl, q⟩

/-! ### slices of a text, join -/
theorem sl_str : SlR X (fun x lo hi H Q => ∃ z, x = .str z ∧ z.length ≤ sizeLine ∧ Q (.str (Txt.slice z lo hi)) H) := by
  intro pins s σ H x v vl vu lo hi sl Q I rx hs pl pu h
  obtain ⟨z, rfl, hz, q⟩ := h
  obtain ⟨t, rfl⟩ := rx
  refine ⟨"str", _, F.slot_str_getitem.lookup, typeIs_str _ _ _, ?_⟩
  obtain ⟨o, ho, hc, hd⟩ := hs
  have fin : ∀ (t' : Tok) (k : Nat), EP X pins σ Q (.str (Txt.slice z lo hi) t') { s with toks := k } := fun t' k => ⟨.str (Txt.slice z lo hi), H, I.tok k, ⟨t', rfl⟩, q⟩
  have hle := Nat.le_trans (Txt.slice_le z lo hi) hz
  cases pl with
  | none => cases pu with
    | none => exact wpAny_getItem_str_slice (l := none) (u := none) (st := none) ⟨o, ho, hc, hd⟩ rfl (post_val_or_str ⟨hle, fun t' k => fin t' k⟩)
    | int j uj => exact wpAny_getItem_str_slice (l := none) (u := some (j, uj)) (st := none) ⟨o, ho, hc, hd⟩ rfl (post_val_or_str ⟨hle, fun t' k => fin t' k⟩)
  | int i ui => cases pu with
    | none => exact wpAny_getItem_str_slice (l := some (i, ui)) (u := none) (st := none) ⟨o, ho, hc, hd⟩ rfl (post_val_or_str ⟨hle, fun t' k => fin t' k⟩)
    | int j uj => exact wpAny_getItem_str_slice (l := some (i, ui)) (u := some (j, uj)) (st := none) ⟨o, ho, hc, hd⟩ rfl (post_val_or_str ⟨hle, fun t' k => fin t' k⟩)

theorem strs_of : ∀ {ys : List Str} {its : List Value}, Vals (ys.map V.str) its → StrsAre its ys
  | [], _, r => by cases r; exact .nil
  | y :: ys, _, r => by
    cases r with
    | cons r rr =>
      obtain ⟨t, rfl⟩ := r
      exact .cons y t (strs_of rr)
def rJoin (K : PySem.W.Frag) : V → List V → Hp → VK → Prop := fun x vs H Q => ∃ z p ys, x = .str z ∧ vs = [.ref p] ∧ SqL K H p (ys.map V.str) ∧ (ys.map (·.length)).sum + ys.length * z.length ≤ 16777216 ∧ Q (.str (Txt.join z ys)) H
theorem mt_join : MtR X "str.join" (rJoin X.K) := by
  intro pins s σ H x vs v us Q I rx rv h
  obtain ⟨z, p, ys, rfl, rfl, hq, hz, q⟩ := h
  obtain ⟨t, rfl⟩ := rx
  obtain ⟨u, rfl, rp⟩ := vals1 rv
  cases rp
  obtain ⟨its, r, pl, _⟩ := I.list hq
  exact join_list pl.isList (by simpa using strs_of r) hz fun t' k => ⟨.str (Txt.join z ys), H, I.tok k, ⟨t', rfl⟩, q⟩

/-! ### powers of larger numbers -/
theorem op_powB : OpR X (binaryOp .Pow) (rI (fun i j => 0 ≤ j ∧ (Builtin.Int.intBits i : Int) * j ≤ 2 ^ 27) fun i j => .int (i ^ j.toNat)) := opI fun _ _ _ _ _ _ _ hc q => pow_int hc.1 hc.2 q
end

/-! ### comprehensions, by a check of the scopes -/
def relabelS (scope xs : Scope) : Scope :=
  { scope with names := scope.names.map fun (n, k) => if (k == .free && xs.kind == .function && xs.names.lookup n == some .cell) then (n, .cell) else (n, k) }
theorem relabelS_eq {scope : Scope} {env : Env} : relabel scope env = relabelS scope env.scope := rfl
def compChk (XN : List Str) (xs scope : Scope) (N : List Str) (k : Nat) (cap : List Nat) : Bool :=
  scope.kind == .function && (scope.names.all fun y => y.2 != .local || scope.names.lookup y.1 == some .local) && (scope.names.all fun y => y.2 != .cell) &&
  (scope.names.all fun y => y.2 != .free || xs.names.lookup y.1 == some .cell || xs.names.lookup y.1 == some .free) && N.length == k + cap.length &&
  (List.range cap.length).all fun j => match cap[j]?, N[k + j]? with
    | some i, some y => XN[i]? == some y && scope.names.lookup y == some .free
    | _, _ => false
theorem compScope_of {X : Cx} {XN : List Str} {xs scope : Scope} {N : List Str} {k : Nat} {cap : List Nat} (hN : X.N = XN) (hs : X.env.scope = xs) (h : compChk XN xs scope N k cap = true) : CompScope X scope N k cap := by
  subst hN hs
  unfold compChk at h
  simp only [Bool.and_eq_true, List.all_eq_true, Bool.or_eq_true, bne_iff_ne, ne_eq, beq_iff_eq] at h
  obtain ⟨⟨⟨⟨⟨h1, h2⟩, h3⟩, h4⟩, h5⟩, h6⟩ := h
  refine ⟨h1, fun y hy e => (h2 y hy).resolve_left (fun z => z e), h3, fun y hy e => ?_, h5, fun j i e => ?_⟩
  · rcases h4 y hy with (z | z) | z
    · exact absurd e z
    · exact .inl z
    · exact .inr z
  · have hj : j < cap.length := (List.getElem?_eq_some_iff.mp e).1
    have q := h6 j (List.mem_range.mpr hj)
    rw [e] at q
    cases r : N[k + j]? with
    | none => rw [r] at q; cases q
    | some y =>
      rw [r] at q
      simp only [Bool.and_eq_true, beq_iff_eq] at q
      exact ⟨y, rfl, q.1, q.2⟩
section
variable {X : Cx} {elt tg iter : Expr} {ifs : List Expr} {scope : Scope} {pos : Pos} {wi : TI} {g : TG} {tt : TT} {te : TE} {N : List Str} {k : Nat} {cap : List Nat} {XN : List Str} {xs : Scope}
theorem pe_lc (N : List Str) (k : Nat) (cap : List Nat) (XN : List Str) (xs : Scope) (hc : X.calm = true) (hN : X.N = XN) (hx : X.env.scope = xs) (hi : PI X tg iter wi) (chk : compChk XN xs scope N k cap = true)
    (hg : ∀ c, PG (cxComp X scope N c) tg g) (ht : ∀ c, PTs (cxComp X scope N c) ifs tt) (he : ∀ c, PE (cxComp X scope N c) elt te)
    (hs : ∀ x, foldedSetIterable iter X.env x = pure x := by intro _; rfl) : PE X (.ListComp elt [⟨tg, iter, ifs, 0⟩] scope pos) (tComp wi k cap g tt te) := pe_comp hc (compScope_of hN hx chk) hi hg ht he hs
end

/-! ### the readings one uses: W by a number of turns left -/
section
variable {wi : TI} {k : Nat} {cap : List Nat} {g : TG} {tt : TT} {te : TE} {σ : St} {H1 : Hp} {Q : VK} {l : Addr}
/-- the body of a turn -/
def turnOf (g : TG) (tt : TT) (te : TE) (l : Addr) (x : V) (σ : St) (H : Hp) (N : St → Hp → Prop) : Prop :=
  g x σ H fun σ4 H4 => tt σ4 H4 fun b H5 => if b = true then te σ4 H5 fun y H6 => ∃ xs, H6 l = some (.lst xs) ∧ xs.length < sizeLine ∧ N σ4 (upd H6 l (.lst (xs ++ [y]))) else N σ4 H5
theorem comp_gen (J : It) (n : Nat) (Pv : Nat → St → Hp → Prop) (h0 : Pv 0 (capSt k cap σ) (upd H1 l (.lst [])))
    (hstop : ∀ σ H, Pv n σ H → J.stop n H) (hgo : ∀ i σ H, i < n → Pv i σ H → J.go i H)
    (hs : ∀ i σ H x H', i < n → Pv i σ H → J.yld i H x H' → turnOf g tt te l x σ H' (Pv (i + 1))) (hd : ∀ σ H, Pv n σ H → Q (.ref l) H) :
    GoalW J g tt te l (capSt k cap σ) (upd H1 l (.lst [])) Q := by
  refine ⟨fun i m σ H => m = n - i ∧ i ≤ n ∧ Pv i σ H, ⟨n, by simp, Nat.zero_le _, h0⟩, ?_⟩
  rintro i m σ H ⟨rfl, hi, p⟩
  by_cases hlt : i < n
  · exact .inr ⟨hgo i σ H hlt p, Pv (i + 1), fun σ' H' p' => ⟨n - (i + 1), by omega, rfl, hlt, p'⟩, fun x H' y => hs i σ H x H' hlt p y⟩
  · have e : i = n := by omega
    subst e
    exact .inl ⟨hstop σ H p, hd σ H p⟩
theorem comp_range (lo : Int) (n : Nat) (Pv : Nat → St → Hp → Prop) (h0 : Pv 0 (capSt k cap σ) (upd H1 l (.lst [])))
    (hs : ∀ i σ H, i < n → Pv i σ H → turnOf g tt te l (.int (lo + i)) σ H (Pv (i + 1))) (hd : ∀ σ H, Pv n σ H → Q (.ref l) H) :
    GoalW (Itr lo n) g tt te l (capSt k cap σ) (upd H1 l (.lst [])) Q :=
  comp_gen (Itr lo n) n Pv h0 (fun _ _ _ => Nat.le_refl n) (fun _ _ _ h _ => h) (fun i σ H x H' hi p y => by obtain ⟨e1, e2⟩ := y; subst e1 e2; exact hs i σ _ hi p) hd
theorem comp_str (z : Str) (Pv : Nat → St → Hp → Prop) (h0 : Pv 0 (capSt k cap σ) (upd H1 l (.lst [])))
    (hs : ∀ i σ H c, z.cps[i]? = some c → Pv i σ H → turnOf g tt te l (.str ⟨#[c]⟩) σ H (Pv (i + 1))) (hd : ∀ σ H, Pv z.cps.size σ H → Q (.ref l) H) :
    GoalW (Its z) g tt te l (capSt k cap σ) (upd H1 l (.lst [])) Q :=
  comp_gen (Its z) z.cps.size Pv h0 (fun _ _ _ => Nat.le_refl _) (fun _ _ _ h _ => h) (fun i σ H x H' hi p y => by obtain ⟨e1, c, hc, e2⟩ := y; subst e1 e2; exact hs i σ _ c hc p) hd
end

/-! ### a def of the text with what a caller needs -/
structure Def (K : PySem.W.Frag) (mg : Str → Option Value) (x : Str) (st : Stmt) (ps : List Str) (f : Addr) (fd : FuncData) : Prop where
  F : Fun K x x st f fd
  m : mg x = some (.ref f)
  b : Binds K fd ps []
section
variable {X : Cx} {x : Str} {st : Stmt} {ps : List Str} {f : Addr} {fd : FuncData} {j k : Nat} {sp : Sp} {e : Expr} {es : List Expr} {t : TA} {p pos : Pos}
theorem pe_fn (D : Def X.K X.mg x st ps f fd) (G : FnOk X.prog X.w X.K X.mg X.base CX0 j f fd ps sp) (hr : Room k X.A) (hjk : j ≤ k) (hg : Gl X x) (ha : PA X (e :: es) t) (hdb : (x == ("__debug__" : Str)) = false := by decide)
    (he : starEach (e :: es) X.env = (false, eval e X.env) :: starEach es X.env := by rfl) (hpl : (backTo pos (starEach es X.env)).any (·.1) = false := by rfl) :
    PE X (.Call (.Name x p) (e :: es) [] pos) (tCall sp [] E0 t) := pe_call G (hr.mono hjk) hg D.m D.F.kp D.b .nil pass0 ha hdb he hpl
theorem pe_fn0 (D : Def X.K X.mg x st ps f fd) (G : FnOk X.prog X.w X.K X.mg X.base CX0 j f fd ps sp) (hr : Room k X.A) (hjk : j ≤ k) (hg : Gl X x) (hdb : (x == ("__debug__" : Str)) = false := by decide) :
    PE X (.Call (.Name x p) [] [] pos) (tCall sp [] E0 tNil) := pe_call0 G (hr.mono hjk) hg D.m D.F.kp D.b .nil pass0 hdb
end
end L2

set_option Elab.async false
set_option linter.all false
set_option maxRecDepth 100000
set_option maxHeartbeats 4000000
namespace L2
open PySem PySem.Spec PyProof.Rows
/-! ### two lists compared -/
def eqLV : List V → List V → Bool
  | [], [] => true
  | x :: xs, y :: ys => eqV x y && eqLV xs ys
  | _, _ => false
theorem eqLV_len : ∀ {xs ys : List V}, xs.length ≠ ys.length → eqLV xs ys = false
  | [], [], h => absurd rfl h
  | [], _ :: _, _ => rfl
  | _ :: _, [], _ => rfl
  | x :: xs, y :: ys, h => by
    unfold eqLV
    rw [eqLV_len (xs := xs) (ys := ys) (by simpa using h), Bool.and_false]
theorem eqLV_range : ∀ {xs ys : List V}, xs.length = ys.length → (List.range xs.length).all (fun j => eqV ((xs[j]?).getD .non) ((ys[j]?).getD .non)) = eqLV xs ys
  | [], [], _ => rfl
  | [], _ :: _, h => by cases h
  | _ :: _, [], h => by cases h
  | x :: xs, y :: ys, h => by
    have ih := eqLV_range (xs := xs) (ys := ys) (by simpa using h)
    rw [List.length_cons, List.range_succ_eq_map, List.all_cons, List.all_map]
    unfold eqLV
    rw [← ih]
    rfl
theorem Vals.get' : ∀ {xs : List V} {us : List Value} {i : Nat} {u : Value}, Vals xs us → us[i]? = some u → ∃ x, xs[i]? = some x ∧ RelV x u
  | _, _, _, _, .nil, h => by simp at h
  | _, _, 0, _, .cons r _, h => by simp at h; subst h; exact ⟨_, rfl, r⟩
  | _, _, i + 1, _, .cons _ t, h => Vals.get' (i := i) t (by simpa using h)
section
variable {X : Cx} {k : Nat}
theorem op_eqL (hr : Room k X.A) : OpR X (compareOp .Eq) (fun x y H Q => ∃ a b xs ys, x = .ref a ∧ y = .ref b ∧ SqL X.K H a xs ∧ SqL X.K H b ys ∧ (xs.length = ys.length → xs.all flatV = true ∧ ys.all flatV = true) ∧ Q (.bl (eqLV xs ys)) H) := by
  intro pins s σ H x y v u Q I rx ry h
  obtain ⟨a, b, xs, ys, rfl, rfl, ha, hb, hf, q⟩ := h
  cases rx
  cases ry
  obtain ⟨its, r1, p1, _⟩ := I.list ha
  obtain ⟨its2, r2, p2, _⟩ := I.list hb
  have l1 := r1.length
  have l2 := r2.length
  by_cases e : xs.length = ys.length
  · obtain ⟨f1, f2⟩ := hf e
    refine SeqAt.eq_listAt (e := fun j => eqV ((xs[j]?).getD .non) ((ys[j]?).getD .non)) p1.isList p2.isList (by simp; omega) hr.units0 (fun j h1 h2 => ?_) ?_
    · have g1 : its[j]? = some (its.toArray[j]) := by simp at h1 ⊢
      have g2 : its2[j]? = some (its2.toArray[j]) := by simp at h2 ⊢
      obtain ⟨x, ex, rx⟩ := r1.get' g1
      obtain ⟨y, ey, ry⟩ := r2.get' g2
      rw [ex, ey]
      exact eqAt_V rx ry (List.all_eq_true.mp f1 _ (List.mem_of_getElem? ex)) (List.all_eq_true.mp f2 _ (List.mem_of_getElem? ey))
    · have e1 : its.toArray.size = xs.length := by simp; omega
      rw [e1, eqLV_range e]
      exact ⟨.bl _, H, I, rfl, q⟩
  · refine SeqAt.eq_list_lengthsAt p1.isList p2.isList (by simp; omega) hr.units0 ?_
    rw [eqLV_len e] at q
    exact ⟨.bl false, H, I, rfl, q⟩
end
/-! ### facts of isinstance that the kit's deciders give, whatever the text -/
theorem kit_str_str {K : PySem.W.Frag} : PySem.W.kitOne K (.type "str") (.type "str") = some true := by rfl
theorem kit_bool_bool {K : PySem.W.Frag} : PySem.W.kitOne K (.type "bool") (.type "bool") = some true := by rfl
theorem kit_tup_tup {K : PySem.W.Frag} : PySem.W.kitOne K (.type "tuple") (.type "tuple") = some true := by rfl
theorem kit_int_str {K : PySem.W.Frag} : PySem.W.kitOne K (.type "int") (.type "str") = some false := by kernel_rfl
theorem kit_bool_int {K : PySem.W.Frag} : PySem.W.kitOne K (.type "bool") (.type "int") = some true := by kernel_rfl
theorem bt_abs : bootBuiltins "abs" = some (.builtin "abs") := by decide +kernel
theorem bt_all : bootBuiltins "all" = some (.builtin "all") := by decide +kernel
theorem bt_any : bootBuiltins "any" = some (.builtin "any") := by decide +kernel
theorem bt_isinstance : bootBuiltins "isinstance" = some (.builtin "isinstance") := by decide +kernel
theorem bt_len : bootBuiltins "len" = some (.builtin "len") := by decide +kernel
theorem bt_max : bootBuiltins "max" = some (.builtin "max") := by decide +kernel
theorem bt_min : bootBuiltins "min" = some (.builtin "min") := by decide +kernel
theorem bt_ord : bootBuiltins "ord" = some (.builtin "ord") := by decide +kernel
theorem bt_repr : bootBuiltins "repr" = some (.builtin "repr") := by decide +kernel
theorem bt_sorted : bootBuiltins "sorted" = some (.builtin "sorted") := by decide +kernel
theorem bt_sum : bootBuiltins "sum" = some (.builtin "sum") := by decide +kernel
theorem bt_divmod : bootBuiltins "divmod" = some (.builtin "divmod") := by decide +kernel
theorem bt_int : bootBuiltins "int" = some (.type "int") := by decide +kernel
theorem bt_bool : bootBuiltins "bool" = some (.type "bool") := by decide +kernel
theorem bt_str : bootBuiltins "str" = some (.type "str") := by decide +kernel
theorem bt_list : bootBuiltins "list" = some (.type "list") := by decide +kernel
theorem bt_tuple : bootBuiltins "tuple" = some (.type "tuple") := by decide +kernel
theorem bt_set : bootBuiltins "set" = some (.type "set") := by decide +kernel
theorem bt_dict : bootBuiltins "dict" = some (.type "dict") := by decide +kernel
theorem bt_enumerate : bootBuiltins "enumerate" = some (.type "enumerate") := by decide +kernel
theorem bt_zip : bootBuiltins "zip" = some (.type "zip") := by decide +kernel
theorem bt_range : bootBuiltins "range" = some (.type "range") := by decide +kernel
theorem bt_frozenset : bootBuiltins "frozenset" = some (.type "frozenset") := by decide +kernel

theorem tSeq_i {t u : TS} {D : Ends} {σ : St} {H : Hp} (h : t { D with nx := u D } σ H) : tSeq t u D σ H := h
theorem cxOf_K {CX : CXT} {P : Program} {w : World} {K : PySem.W.Frag} {mg : Str → Option Value} {base : Heap} {N : List Str} {qual : Str} {scope : Scope} {f : Addr} {cd : Value} {A : Around} {outer : List Env} {s : Shared} {H : Hp} {E : XK} : (cxOf CX P w K mg base N qual scope f cd A outer s H E).K = K := rfl
theorem cxComp_K {X : Cx} {scope : Scope} {N : List Str} {c : CompIn} : (cxComp X scope N c).K = X.K := rfl
theorem atI_ints {ns : List Int} {k : Int} (h0 : 0 ≤ k) (h : k < (ns.length : Int)) : ∃ c, atI (ns.map V.int) k = some (V.int c) := by
  obtain ⟨j, rfl⟩ : ∃ j : Nat, k = (j : Int) := ⟨k.toNat, by omega⟩
  have hj : j < ns.length := by omega
  exact ⟨ns[j], atI_nat (by simp [hj])⟩
section
variable {X : Cx}
theorem call_lenL : CallR X (.builtin "len") (fun xs H Q => ∃ p ys, xs = [.ref p] ∧ SqL X.K H p ys ∧ Q (.int ys.length) H) := by
  intro pins s σ H xs us Q I r h
  obtain ⟨p, ys, e, hq, q⟩ := h
  exact call_len_seq pins s σ H xs us Q I r ⟨p, ys, e, .inl hq, q⟩
theorem call_lenT : CallR X (.builtin "len") (fun xs H Q => ∃ p ys, xs = [.ref p] ∧ SqT X.K H p ys ∧ Q (.int ys.length) H) := by
  intro pins s σ H xs us Q I r h
  obtain ⟨p, ys, e, hq, q⟩ := h
  exact call_len_seq pins s σ H xs us Q I r ⟨p, ys, e, .inr hq, q⟩
end
end L2

set_option Elab.async false
set_option linter.all false
set_option maxRecDepth 100000
set_option maxHeartbeats 4000000
namespace L2
open PySem PySem.Spec PyProof.Rows
/-! ### heaps: all but one object as it was -/
def But (p : Addr) (H H' : Hp) : Prop := ∀ b o, H b = some o → b ≠ p → H' b = some o
theorem But.refl {p : Addr} {H : Hp} : But p H H := fun _ _ h _ => h
theorem But.trans {p : Addr} {H H1 H2 : Hp} (a : But p H H1) (b : But p H1 H2) : But p H H2 := fun c o h n => b c o (a c o h n) n
theorem But.of {p : Addr} {H H1 : Hp} (a : Same H H1) : But p H H1 := fun c o h _ => a c o h
theorem Same.upd {H : Hp} {l : Addr} {o : HO} (h : H l = none) : Same H (upd H l o) := fun b u e => by rw [upd_ne (ne_of_none e h)]; exact e
theorem But.upd {p : Addr} {H : Hp} {o : HO} : But p H (upd H p o) := fun b u e n => by rw [upd_ne n]; exact e
theorem SqL.same {K : PySem.W.Frag} {H H' : Hp} {a : Addr} {xs : List V} (h : SqL K H a xs) (s : Same H H') : SqL K H' a xs := Same.seq s h
theorem SqT.same {K : PySem.W.Frag} {H H' : Hp} {a : Addr} {xs : List V} (h : SqT K H a xs) (s : Same H H') : SqT K H' a xs := by
  rcases h with (h | ⟨o, h⟩) | h
  · exact .inl (.inl (s _ _ h))
  · exact .inl (.inr ⟨o, s _ _ h⟩)
  · exact .inr h
theorem SqL.but {K : PySem.W.Frag} {H H' : Hp} {a p : Addr} {xs : List V} (h : SqL K H a xs) (s : But p H H') (n : a ≠ p) : SqL K H' a xs := by
  rcases h with (h | ⟨o, h⟩) | h
  · exact .inl (.inl (s _ _ h n))
  · exact .inl (.inr ⟨o, s _ _ h n⟩)
  · exact .inr h
theorem SqT.but {K : PySem.W.Frag} {H H' : Hp} {a p : Addr} {xs : List V} (h : SqT K H a xs) (s : But p H H') (n : a ≠ p) : SqT K H' a xs := by
  rcases h with (h | ⟨o, h⟩) | h
  · exact .inl (.inl (s _ _ h n))
  · exact .inl (.inr ⟨o, s _ _ h n⟩)
  · exact .inr h
/-! ### sizes, texts -/
theorem szl {n : Nat} (h : n ≤ 16777216) : n ≤ sizeLine := by rw [PySem.sizeLine_eq]; exact h
theorem szt {n : Nat} (h : n < 16777216) : n < sizeLine := by rw [PySem.sizeLine_eq]; exact h
theorem len_cps (z : Str) : z.cps.toList.length = z.length := by simp [Str.length]
theorem atI_sign {z : Str} {d : Int} (h0 : 0 ≤ d) (h : d < (z.length : Int)) : ∃ c, c ∈ z.cps.toList ∧ atI z.cps.toList d = some c := by
  obtain ⟨j, rfl⟩ : ∃ j : Nat, d = (j : Int) := ⟨d.toNat, by omega⟩
  have hj : j < z.cps.toList.length := by have e := len_cps z; omega
  exact ⟨z.cps.toList[j], List.getElem_mem hj, atI_nat (by simp [hj])⟩
theorem atI_mem {α : Type} {xs : List α} {d : Int} (h0 : 0 ≤ d) (h : d < (xs.length : Int)) : ∃ c, c ∈ xs ∧ atI xs d = some c := by
  obtain ⟨j, rfl⟩ : ∃ j : Nat, d = (j : Int) := ⟨d.toNat, by omega⟩
  have hj : j < xs.length := by omega
  exact ⟨xs[j], List.getElem_mem hj, atI_nat (by simp [hj])⟩
theorem join_len {ys : List Str} (h : ∀ y ∈ ys, y.length = 1) : (ys.map (·.length)).sum = ys.length := by
  induction ys with
  | nil => rfl
  | cons y ys ih =>
    rw [List.map_cons, List.sum_cons, List.length_cons, ih fun z hz => h z (List.mem_cons_of_mem _ hz), h y List.mem_cons_self]
    omega
theorem joined {ys : List Str} : (Txt.join (Str.ofString "") ys).length ≤ (ys.map (·.length)).sum := by
  show (Builtin.Str.glued _ ys).length ≤ _
  rw [StrLaws.glued_eq_join]
  have h := StrLaws.join_length_le (Str.ofString "") ys
  have e : (Str.ofString "").length = 0 := by decide +kernel
  rw [e] at h
  omega
theorem slice_len {z : Str} {lo hi : Option Int} {n : Nat} (h : z.length ≤ n) : (Txt.slice z lo hi).length ≤ n := Nat.le_trans (Txt.slice_le z lo hi) h
theorem strs_back : ∀ {ys : List V}, (∀ y ∈ ys, ∃ x : Str, y = .str x ∧ x.length = 1) → ∃ zs : List Str, ys = zs.map V.str ∧ (∀ z ∈ zs, z.length = 1)
  | [], _ => ⟨[], rfl, fun _ h => nomatch h⟩
  | y :: ys, h => by
    obtain ⟨zs, e, hz⟩ := strs_back (ys := ys) fun z hz => h z (List.mem_cons_of_mem _ hz)
    obtain ⟨x, rfl, hx⟩ := h y List.mem_cons_self
    refine ⟨x :: zs, by rw [e]; rfl, fun z hm => ?_⟩
    rcases List.mem_cons.mp hm with r | r
    · rw [r]; exact hx
    · exact hz z r

/-! ### comprehensions that change nothing; comprehensions that draw -/
section
variable {k : Nat} {cap : List Nat} {g : TG} {tt : TT} {te : TE} {σ : St} {H : Hp} {Q : VK} {l : Addr}
theorem take_filter {α : Type} {p : α → Bool} {vs : List α} {i : Nat} {x : α} (h : vs[i]? = some x) : (vs.take (i + 1)).filter p = (vs.take i).filter p ++ (if p x = true then [x] else []) := by
  rw [List.take_add_one, h, List.filter_append]
  congr 1
  by_cases e : p x = true
  · simp [e]
  · simp [e]
theorem comp_pure (J : It) (vs : List V) (p : V → Bool) (f : V → V) (Good : St → Prop) (h0 : Good (capSt k cap σ)) (hlen : vs.length < sizeLine)
    (hstop : ∀ xs, J.stop vs.length (upd H l (.lst xs))) (hgo : ∀ i xs, i < vs.length → J.go i (upd H l (.lst xs)))
    (hyld : ∀ i xs x H', i < vs.length → J.yld i (upd H l (.lst xs)) x H' → H' = upd H l (.lst xs) ∧ vs[i]? = some x)
    (ht : ∀ x σ xs (N : St → Hp → Prop), x ∈ vs → xs.length < sizeLine → Good σ → (∀ σ', Good σ' → N σ' (upd H l (.lst (if p x = true then xs ++ [f x] else xs)))) → turnOf g tt te l x σ (upd H l (.lst xs)) N)
    (hd : Q (.ref l) (upd H l (.lst ((vs.filter p).map f)))) : GoalW J g tt te l (capSt k cap σ) (upd H l (.lst [])) Q := by
  refine comp_gen J vs.length (fun i σ' H' => i ≤ vs.length ∧ Good σ' ∧ H' = upd H l (.lst (((vs.take i).filter p).map f))) ⟨Nat.zero_le _, h0, rfl⟩ (fun σ' H' ⟨_, _, e⟩ => e ▸ hstop _) (fun i σ' H' hi ⟨_, _, e⟩ => e ▸ hgo i _ hi) (fun i σ' H' x H'' hi ⟨_, gd, e⟩ y => ?_) (fun σ' H' ⟨_, _, e⟩ => ?_)
  · subst e
    obtain ⟨e1, e2⟩ := hyld i _ x H'' hi y
    subst e1
    refine ht x σ' _ _ (List.mem_of_getElem? e2) ?_ gd fun σ2 g2 => ⟨hi, g2, ?_⟩
    · rw [List.length_map]
      have a1 := List.length_filter_le p (vs.take i)
      have a2 := List.length_take_le i vs
      exact Nat.lt_of_le_of_lt (Nat.le_trans a1 (by rw [List.length_take]; omega)) hlen
    · rw [take_filter e2, List.map_append]
      by_cases e : p x = true
      · rw [if_pos e, if_pos e]; rfl
      · rw [if_neg e, if_neg e, List.map_nil, List.append_nil]
  · subst e
    rw [List.take_length]
    exact hd
/-- over a text's signs -/
theorem comp_strP (z : Str) (p : V → Bool) (f : V → V) (Good : St → Prop) (h0 : Good (capSt k cap σ)) (hlen : z.length < sizeLine)
    (ht : ∀ c σ xs (N : St → Hp → Prop), c ∈ z.cps.toList → xs.length < sizeLine → Good σ → (∀ σ', Good σ' → N σ' (upd H l (.lst (if p (.str ⟨#[c]⟩) = true then xs ++ [f (.str ⟨#[c]⟩)] else xs)))) → turnOf g tt te l (.str ⟨#[c]⟩) σ (upd H l (.lst xs)) N)
    (hd : Q (.ref l) (upd H l (.lst (((z.cps.toList.map fun c => V.str ⟨#[c]⟩).filter p).map f)))) : GoalW (Its z) g tt te l (capSt k cap σ) (upd H l (.lst [])) Q := by
  have e : (z.cps.toList.map fun c => V.str ⟨#[c]⟩).length = z.cps.size := by simp
  refine comp_pure (Its z) (z.cps.toList.map fun c => V.str ⟨#[c]⟩) p f Good h0 (by rw [e]; exact hlen) (fun xs => ?_) (fun i xs hi => ?_) (fun i xs x H' hi y => ?_) (fun x σ xs N hx hz gd hN => ?_) hd
  · rw [e]; exact Nat.le_refl _
  · rw [e] at hi; exact hi
  · obtain ⟨e1, c, hc, e2⟩ := y
    subst e2
    refine ⟨e1, ?_⟩
    rw [List.getElem?_map]
    have : z.cps.toList[i]? = some c := by simpa using hc
    rw [this]; rfl
  · obtain ⟨c, hc, rfl⟩ := List.mem_map.mp hx
    exact ht c σ xs N hc hz gd hN
theorem SqL.upd' {K : PySem.W.Frag} {H : Hp} {a l : Addr} {xs : List V} {o : HO} (h : SqL K H a xs) (hl : H l = none) : SqL K (upd H l o) a xs := h.same (Same.upd hl)
theorem SqT.upd' {K : PySem.W.Frag} {H : Hp} {a l : Addr} {xs : List V} {o : HO} (h : SqT K H a xs) (hl : H l = none) : SqT K (upd H l o) a xs := h.same (Same.upd hl)
/-- over a list -/
theorem comp_listP {K : PySem.W.Frag} {a : Addr} {vs : List V} (hl : H l = none) (hS : SqL K H a vs) (p : V → Bool) (f : V → V) (Good : St → Prop) (h0 : Good (capSt k cap σ)) (hlen : vs.length < sizeLine)
    (ht : ∀ x σ xs (N : St → Hp → Prop), x ∈ vs → xs.length < sizeLine → Good σ → (∀ σ', Good σ' → N σ' (upd H l (.lst (if p x = true then xs ++ [f x] else xs)))) → turnOf g tt te l x σ (upd H l (.lst xs)) N)
    (hd : Q (.ref l) (upd H l (.lst ((vs.filter p).map f)))) : GoalW (Itl K a) g tt te l (capSt k cap σ) (upd H l (.lst [])) Q :=
  comp_pure (Itl K a) vs p f Good h0 hlen (fun xs => ⟨vs, hS.upd' hl, Nat.le_refl _⟩) (fun i xs hi => ⟨vs, vs[i], hS.upd' hl, by simp [hi]⟩) (fun i xs x H' _ y => ⟨y.1, y.2 vs (hS.upd' hl)⟩) ht hd
/-- over a tuple -/
theorem comp_tupP {K : PySem.W.Frag} {a : Addr} {vs : List V} (hl : H l = none) (hS : SqT K H a vs) (p : V → Bool) (f : V → V) (Good : St → Prop) (h0 : Good (capSt k cap σ)) (hlen : vs.length < sizeLine)
    (ht : ∀ x σ xs (N : St → Hp → Prop), x ∈ vs → xs.length < sizeLine → Good σ → (∀ σ', Good σ' → N σ' (upd H l (.lst (if p x = true then xs ++ [f x] else xs)))) → turnOf g tt te l x σ (upd H l (.lst xs)) N)
    (hd : Q (.ref l) (upd H l (.lst ((vs.filter p).map f)))) : GoalW (Itt K a) g tt te l (capSt k cap σ) (upd H l (.lst [])) Q :=
  comp_pure (Itt K a) vs p f Good h0 hlen (fun xs => ⟨vs, hS.upd' hl, Nat.le_refl _⟩) (fun i xs hi => ⟨vs, vs[i], hS.upd' hl, by simp [hi]⟩) (fun i xs x H' _ y => ⟨y.1, y.2 vs (hS.upd' hl)⟩) ht hd
/-- over a range -/
theorem comp_rangeP (lo : Int) (n : Nat) (p : V → Bool) (f : V → V) (Good : St → Prop) (h0 : Good (capSt k cap σ)) (hlen : n < sizeLine)
    (ht : ∀ (i : Nat) σ xs (N : St → Hp → Prop), i < n → xs.length < sizeLine → Good σ → (∀ σ', Good σ' → N σ' (upd H l (.lst (if p (.int (lo + i)) = true then xs ++ [f (.int (lo + i))] else xs)))) → turnOf g tt te l (.int (lo + i)) σ (upd H l (.lst xs)) N)
    (hd : Q (.ref l) (upd H l (.lst ((((List.range n).map fun i : Nat => V.int (lo + i)).filter p).map f)))) : GoalW (Itr lo n) g tt te l (capSt k cap σ) (upd H l (.lst [])) Q := by
  have e : ((List.range n).map fun i : Nat => V.int (lo + i)).length = n := by simp
  refine comp_pure (Itr lo n) ((List.range n).map fun i : Nat => V.int (lo + i)) p f Good h0 (by rw [e]; exact hlen) (fun xs => ?_) (fun i xs hi => ?_) (fun i xs x H' hi y => ?_) (fun x σ xs N hx hz gd hN => ?_) hd
  · rw [e]; exact Nat.le_refl _
  · rw [e] at hi; exact hi
  · obtain ⟨e1, e2⟩ := y
    subst e2
    rw [e] at hi
    exact ⟨e1, by simp [hi]⟩
  · obtain ⟨i, hi, rfl⟩ := List.mem_map.mp hx
    exact ht i σ xs N (List.mem_range.mp hi) hz gd hN
/-- over a range, each item drawn: PO says what the pot at p is -/
theorem comp_draw (lo : Int) (n : Nat) (PO : Option HO → Prop) (p : Addr) (R : V → Prop) (Good : St → Prop) (h0 : Good (capSt k cap σ)) (hn : ¬ PO none) (hp : PO (H p)) (hl : H l = none) (hlen : n ≤ 1000000)
    (ht : ∀ i σ H1 xs (N : St → Hp → Prop), i < n → Good σ → PO (H1 p) → H1 l = some (.lst xs) → xs.length = i → But p H H1 →
      (∀ σ' y H2, Good σ' → R y → PO (H2 p) → But p H1 H2 → ∃ xs, H2 l = some (.lst xs) ∧ xs.length < sizeLine ∧ N σ' (upd H2 l (.lst (xs ++ [y])))) → turnOf g tt te l (.int (lo + i)) σ H1 N)
    (hd : ∀ ys H1, ys.length = n → (∀ y ∈ ys, R y) → H1 l = some (.lst ys) → PO (H1 p) → But p H H1 → Q (.ref l) H1) : GoalW (Itr lo n) g tt te l (capSt k cap σ) (upd H l (.lst [])) Q := by
  have pl : p ≠ l := fun e => by rw [e, hl] at hp; exact hn hp
  refine comp_range lo n (fun i σ' H' => Good σ' ∧ ∃ ys : List V, H' l = some (.lst ys) ∧ ys.length = i ∧ (∀ y ∈ ys, R y) ∧ PO (H' p) ∧ But p H H') ⟨h0, [], upd_same, rfl, (fun _ h => nomatch h), by rw [upd_ne pl]; exact hp, But.of (Same.upd hl)⟩
    (fun i σ' H' hi ⟨gd, ys, e, hy, hR, hp', b⟩ => ?_) (fun σ' H' ⟨_, ys, e, hy, hR, hp', b⟩ => hd ys H' hy hR e hp' b)
  refine ht i σ' H' ys _ hi gd hp' e hy b fun σ2 y H2 g2 ry p2 b2 => ?_
  have e2 : H2 l = some (.lst ys) := b2 l _ e pl.symm
  refine ⟨ys, e2, szt (by omega), g2, ys ++ [y], upd_same, by simp [hy], fun z hz => ?_, by rw [upd_ne pl]; exact p2, fun c o h n => ?_⟩
  · rcases List.mem_append.mp hz with r | r
    · exact hR z r
    · rw [List.mem_singleton.mp r]; exact ry
  · rw [upd_ne (ne_of_none h hl)]
    exact b2 c o (b c o h n) n
end
theorem iteDn {c : Prop} [Decidable c] {A B : Prop} (hc : ¬ c) (h : B) : if decide c = true then A else B := by
  rw [decide_eq_false hc]; exact iteF h
theorem iteDy {c : Prop} [Decidable c] {A B : Prop} (hc : c) (h : A) : if decide c = true then A else B := by
  rw [decide_eq_true hc]; exact iteT h
theorem iteD {c : Prop} [Decidable c] {A B : Prop} (h1 : c → A) (h2 : ¬ c → B) : if decide c = true then A else B := by
  by_cases hc : c
  · exact iteDy hc (h1 hc)
  · exact iteDn hc (h2 hc)
theorem Same.but {H H0 H1 H2 : Hp} {p : Addr} (s : Same H H0) (n : H0 p = none) (s1 : Same H0 H1) (b : But p H1 H2) : Same H H2 := fun c o h => b c o (s1 c o (s c o h)) (ne_of_none (s c o h) n)
theorem turns {L c : Int} (hc : 1 ≤ c) : 1 ≤ (if 1 < (if L < c then L else c) then (if L < c then L else c) else 1) ∧ (if 1 < (if L < c then L else c) then (if L < c then L else c) else 1) ≤ c := by
  split <;> (try split) <;> omega
theorem cmul_ite {a : Int} {c : Bool} : CMul a (if c = true then 1 else 0) := by cases c <;> exact .inr ⟨by decide, by decide⟩
theorem ite01 {c : Bool} : (0 : Int) ≤ (if c = true then 1 else 0) := by cases c <;> decide
/-! ### the pots of the laws k01 to k12 -/
def PotO (o : Option HO) : Prop := ∃ a b : Int, o = some (.lst [.int a, .int b]) ∧ 0 ≤ a ∧ 0 ≤ b ∧ b < 2147483647
abbrev Pot (H : Hp) (p : Addr) : Prop := PotO (H p)
theorem potN : ¬ PotO none := fun ⟨_, _, e, _⟩ => nomatch e
theorem Pot.same {H H' : Hp} {p : Addr} (h : Pot H p) (s : Same H H') : Pot H' p := let ⟨a, b, e, r⟩ := h; ⟨a, b, s _ _ e, r⟩
theorem Pot.ne {H : Hp} {p : Addr} (h : Pot H p) {l : Addr} (n : H l = none) : p ≠ l := let ⟨_, _, e, _⟩ := h; ne_of_none e n
theorem Pot.neT {H : Hp} {p t : Addr} {xs : List V} (h : Pot H p) (n : H t = some (.tup xs)) : t ≠ p := let ⟨_, _, e, _⟩ := h; ne_of n e (by intro z; cases z)
def spPot (K : PySem.W.Frag) : Sp := fun vs H Q _ => ∃ (a : Addr) (ns : List Int) (k : Int), vs = [.ref a, .int k] ∧ SqL K H a (ns.map V.int) ∧ ns.length ≤ 63 ∧ 0 ≤ k ∧ k < 64 ∧ ∀ p H', H p = none → Pot H' p → Same H H' → Q (.ref p) H'
def spTake : Sp := fun vs H Q _ => ∃ (p : Addr) (n : Int), vs = [.ref p, .int n] ∧ Pot H p ∧ 0 < n ∧ n < 1073741824 ∧ ∀ d H', 0 ≤ d → d < n → Pot H' p → But p H H' → Q (.int d) H'
def spLaw (K : PySem.W.Frag) : Sp := fun vs H Q _ => ∃ (a : Addr) (ns : List Int), vs = [.ref a] ∧ SqL K H a (ns.map V.int) ∧ ns.length ≤ 63 ∧ ∀ H', Q (.bl true) H'
theorem big_pos : (0 : Int) < ((10 : Int) ^ (60 : Int).toNat) ^ (3 : Int).toNat := by decide +kernel
end L2

set_option Elab.async false
set_option linter.all false
set_option maxRecDepth 100000
set_option maxHeartbeats 4000000
namespace PySem
open Sem (wp)
open AutoSeq1 (wpAny_loadPart')
section
variable {prog : Program} {w : World} {A : Around} {E : Value → Shared → Prop} {s : Shared}
theorem ours_nextOf_tuple_item {it t : Addr} {i : Nat} {items} {x : Value} {Q : Value → Shared → Prop} (hit : s.heap.IsTupleIter it t i)
    (ht : s.heap.IsTuple t items) (hx : items[i]? = some x)
    (hQ : ∀ h', h'.IsTupleIter it t (i + 1) → Heap.SameBut it s.heap h' → Q x { s with heap := h' }) :
    wpAny (model prog w) A (Builtin.SmallTypes.nextOf (.ref it)) Q E s := by
  obtain ⟨o, ho, hc, hd⟩ := id hit
  obtain ⟨ol, hol, _, nl, hdl⟩ := ht
  unfold Builtin.SmallTypes.nextOf
  refine wpAny_bind (wpAny_callSpecial?_slot (name := Str.ofString "__next__") hit.typeIs F.slot_tuple_iterator_next
    (wpAny_call_entry F.slot_tuple_iterator_next hit.typeIs F.entry_tuple_iterator_next ?_ (F.args_tuple_iterator_next_1 _)))
  show wpAny _ _ (field (.ref it) 0 >>= _) _ _ s
  refine wpAny_bind (wpAny_field ho hd (x := .ref t) rfl ?_)
  show wpAny _ _ (if (Value.ref t == Value.none) = true then _ else _) _ _ s
  rw [if_neg (show ¬ ((Value.ref t == Value.none) = true) from Bool.false_ne_true)]
  show wpAny _ _ (field (.ref it) 1 >>= _) _ _ s
  refine wpAny_bind (wpAny_field ho hd (x := .int i 0) rfl ?_)
  show wpAny _ _ (seqItems? (.ref t) >>= _) _ _ s
  refine wpAny_bind (wpAny_seqItems hol hdl ?_)
  simp only [Int.toNat_natCast, hx]
  refine wpAny_bind (wpAny_setField ho hd (by simp) (wpAny_pure ⟨x, rfl, wpAny_pure (hQ _ ?_ (Heap.SameBut.update ..))⟩))
  exact ⟨_, Heap.get?_update_self _ ho (Obj.isFreed_of_fields (Obj.data_mapFields hd _)), (Obj.cls_mapFields ..).trans hc, by
    rw [Obj.data_mapFields hd]; simp [rawInt]⟩
theorem ours_nextOf_tuple_end {it l : Addr} {i : Nat} {items} {Q : Value → Shared → Prop} (hh : A.handled = none)
    (hit : s.heap.IsTupleIter it l i) (hl : s.heap.IsTuple l items) (hx : items[i]? = none)
    (hE : ∀ h' e, Heap.ExtBut it s.heap h' → (∃ o, h'.get? e = some o ∧ o.cls = .type "StopIteration") → E (.ref e) { s with heap := h' }) :
    wpAny (model prog w) A (Builtin.SmallTypes.nextOf (.ref it)) Q E s := by
  obtain ⟨o, ho, hc, hd⟩ := id hit
  obtain ⟨ol, hol, _, nl, hdl⟩ := hl
  unfold Builtin.SmallTypes.nextOf
  refine wpAny_bind (wpAny_callSpecial?_slot (name := Str.ofString "__next__") hit.typeIs F.slot_tuple_iterator_next
    (wpAny_call_entry F.slot_tuple_iterator_next hit.typeIs F.entry_tuple_iterator_next ?_ (F.args_tuple_iterator_next_1 _)))
  show wpAny _ _ (field (.ref it) 0 >>= _) _ _ s
  refine wpAny_bind (wpAny_field ho hd (x := .ref l) rfl ?_)
  show wpAny _ _ (if (Value.ref l == Value.none) = true then _ else _) _ _ s
  rw [if_neg (show ¬ ((Value.ref l == Value.none) = true) from Bool.false_ne_true)]
  show wpAny _ _ (field (.ref it) 1 >>= _) _ _ s
  refine wpAny_bind (wpAny_field ho hd (x := .int i 0) rfl ?_)
  show wpAny _ _ (seqItems? (.ref l) >>= _) _ _ s
  refine wpAny_bind (wpAny_seqItems hol hdl ?_)
  simp only [Int.toNat_natCast, hx]
  refine wpAny_bind (wpAny_rule (wpAny_bind (wpAny_setField ho hd (by simp) ?_)))
  show wpAny _ _ (newExc (.type "StopIteration") [] >>= _) _ _ _
  refine wpAny_bind ?_
  simp only [newExc, newTuple]
  refine wpAny_bind (wpAny_newObj_type ?_ (by size_fits))
  refine wpAny_bind (m := firstArgMember _ _) (wpAny_of_eq (a := Value.none) (by first | rfl | (simp only [firstArgMember]; rfl)) ?_)
  refine wpAny_newObj_type ?_ (by size_fits)
  simp only [raiseNew]
  refine wpAny_bind (wpAny_handled ?_)
  first | rw [show A.in1.handled = none from hh] | rw [hh]
  refine wpAny_bind (wpAny_pure (wpAny_throw ?_))
  exact hE _ _ (((Heap.SameBut.update ..).extBut.push _).push _) ⟨_, Heap.get?_push_size _ rfl, rfl⟩
end
theorem ours_Draws_tuple {prog : Program} {w : World} {A : Around} (hh : A.handled = none) (it l : Addr) (hne : l ≠ it) (items : Array Value) :
    Draws prog w A it [it, l] items.size (fun i v => items[i]? = some v) (fun i h => h.IsTupleIter it l i ∧ h.IsTuple l items) where
  live := fun _ _ st => let ⟨o, ho, _⟩ := st.1; ⟨o, ho⟩
  frame := fun _ _ _ st hk => ⟨st.1.at fun o e => hk it (by simp) o e, let ⟨o, e, r⟩ := st.2; ⟨o, hk l (by simp) o e, r⟩⟩
  item := fun i s Q E hi st hQ => by
    refine ours_nextOf_tuple_item st.1 st.2 (x := items[i]) (by simp [hi]) fun h' hit' hs' => ?_
    exact hQ _ h' s.toks (by simp [hi]) ⟨hit', st.2.extBut hs'.extBut hne⟩ hs'
  done := fun s Q E st hE => ours_nextOf_tuple_end hh st.1 st.2 (by simp) hE
theorem ours_meets_enumerate_newT (l : Addr) (items : Array Value) (n : Nat) (dct : Option Addr) (sl : Array (Option Value)) :
    Meets (Builtin.«enumerate.__new__» ⟨[.type "enumerate", .ref l], []⟩) (fun _ R s => s.heap.get? l = some { cls := .type "tuple", dict := dct, data := .seq items n, slots := sl } ∧
      R (.ok (.ret (.ref (s.heap.push { cls := .type "tuple_iterator", data := .fields #[.ref l, .int 0 0] }).objs.size)))
        { s with heap := (s.heap.push { cls := .type "tuple_iterator", data := .fields #[.ref l, .int 0 0] }).push { cls := .type "enumerate", data := .fields #[.none, .bool false, .ref s.heap.objs.size, rawInt 0, .none, .none] } }) :=
  .of_wp fun prog w A R s h => by
    obtain ⟨hp, g, d, tk, os⟩ := s; obtain ⟨hl, h⟩ := h
    have hsub := sub_enumerate
    have hL : Heap.IsTuple (Shared.heap ⟨hp, g, d, tk, os⟩) l items := ⟨_, hl, rfl, n, rfl⟩
    wp_walk using wpAny_loadPart' hl
    refine wpAny_stack_any fun st => wpAny_pure ?_
    split
    · rename_i c _ _ _ _ _
      cases (c == Value.type "enumerate")
      · wp_walk using wpAny_loadPart' hl, wpAny_pyIter_tuple hL
        exact ⟨_, rfl, h⟩
      · wp_walk using wpAny_loadPart' hl, wpAny_pyIter_tuple hL
        exact ⟨_, rfl, h⟩
    · wp_walk using wpAny_loadPart' hl, wpAny_pyIter_tuple hL
      exact ⟨_, rfl, h⟩
section
variable {prog : Program} {w : World} {A : Around} {E : Value → Shared → Prop} {s : Shared}
theorem ours_call_enumerate_tuple {l : Addr} {items : Array Value} {Q : Value → Shared → Prop} (hL : s.heap.IsTuple l items)
    (h : ∀ h', IsEnum h' (s.heap.objs.size + 1) s.heap.objs.size 0 .none → h'.IsTupleIter s.heap.objs.size l 0 → h'.objs.size = s.heap.objs.size + 2 →
      (∀ b o, s.heap.get? b = some o → h'.get? b = some o) → Q (.ref (s.heap.objs.size + 1)) { s with heap := h' }) :
    wpAny (model prog w) A (call (.type "enumerate") [.ref l]) Q E s := by
  obtain ⟨⟨c, dct, dt, sl⟩, hl, hc, n, hd⟩ := hL
  replace hc : c = .type "tuple" := hc
  replace hd : dt = .seq items n := hd
  subst hc hd
  refine callType_new F.called_enumerate (by decide) (F.typeCall_enumerate_1 _) (F.newCall_enumerate_1 _) (fun obj => F.args_object_init_2 obj _) F.entry_enumerate_new
    (ours_meets_enumerate_newT l items n dct sl) ⟨hl, ?_⟩
  have hz : (s.heap.push { cls := .type "tuple_iterator", data := .fields #[.ref l, .int 0 0] }).objs.size = s.heap.objs.size + 1 := Heap.size_push ..
  show _ ∧ _
  rw [hz]
  have he : IsEnum ((s.heap.push { cls := .type "tuple_iterator", data := .fields #[.ref l, .int 0 0] }).push
      { cls := .type "enumerate", data := .fields #[.none, .bool false, .ref s.heap.objs.size, rawInt 0, .none, .none] }) (s.heap.objs.size + 1) s.heap.objs.size 0 .none := by
    have := Heap.get?_push_size (s.heap.push { cls := .type "tuple_iterator", data := .fields #[.ref l, .int 0 0] })
      (o := { cls := .type "enumerate", data := .fields #[.none, .bool false, .ref s.heap.objs.size, rawInt 0, .none, .none] }) rfl
    rw [hz] at this; exact this
  refine ⟨⟨_, he, rfl⟩, h _ he ⟨_, Heap.get?_push_of_some _ (Heap.get?_push_size _ rfl), rfl, rfl⟩ (by rw [Heap.size_push, hz]) fun b o x => Heap.get?_push_of_some _ (Heap.get?_push_of_some _ x)⟩
end
end PySem
namespace L2
open PySem PySem.Spec PyProof.Rows
/-- several records of ours have turned -/
theorem Inv.turnedL {X : Cx} {pins : List (Addr × Obj)} {σ : St} {H : Hp} {s : Shared} {h' : Heap} {t' : Nat} {fp : List Addr} (I : Inv X pins σ H s) (k : ∀ b o, b ∉ fp → s.heap.get? b = some o → h'.get? b = some o) (hf : ∀ b ∈ fp, FpOk X pins H b) :
    Inv X pins σ H { s with heap := h', toks := t' } := by
  have nit : ∀ b u, H b = some u → b ∉ fp := fun b u e z => by rw [(hf b z).1] at e; cases e
  refine I.step (g' := s.gens) (d' := s.drawn) (ch := fp) (fun b hb => ?_) (fun b o _ _ hc e _ => k b o hc e) (fun b o _ _ hc e _ => ⟨o.slots, k b o hc e⟩) (fun _ _ _ _ n => n)
    (fun b o hc e => ⟨o, k b o hc e⟩) (fun _ _ e => e) (fun _ _ _ e => e) (fun b ps e => ⟨#[], by rw [e]; simp⟩) (fun m hm => ?_) (fun b u e => ?_) I.bare
  · obtain ⟨_, f1, _, f3, f4, f5⟩ := hf b hb
    exact ⟨f3, f1, f4, f5⟩
  · obtain ⟨o, es, ep, ho, r⟩ := hm
    exact ⟨o, es, ep, k _ o (fun z => (hf _ z).2.1 rfl) ho, r⟩
  · refine (I.hok b u e).stay (fun c v hc q => k c v ?_ q) (fun _ q => q) fun _ _ q => q
    rcases hc with z | z
    · rw [z]; exact nit b u e
    · exact nit c _ z
/-- records of ours have turned, and a new tuple is laid -/
theorem Inv.un2 {X : Cx} {pins : List (Addr × Obj)} {σ : St} {H : Hp} {s : Shared} {h' : Heap} {t' : Nat} {fp : List Addr} {xs : List V} (I : Inv X pins σ H s) (k : ∀ b o, b ∉ fp → s.heap.get? b = some o → h'.get? b = some o) (hf : ∀ b ∈ fp, FpOk X pins H b)
    (hfr : H s.heap.objs.size = none) (hno : s.heap.objs.size ∉ fp) (new : ObjOk X.prog X.w (upd H s.heap.objs.size (.tup xs)) h' s.heap.objs.size (.tup xs)) (ht : ∀ b ∈ fp, ∀ o, s.heap.get? b = some o → ∃ o', h'.get? b = some o') :
    Inv X pins σ (upd H s.heap.objs.size (.tup xs)) { s with heap := h', toks := t' } := by
  have nit : ∀ b u, H b = some u → b ∉ fp := fun b u e z => by rw [(hf b z).1] at e; cases e
  have nT : ∀ b o, s.heap.get? b = some o → b ≠ s.heap.objs.size := fun b o e => Nat.ne_of_lt (Heap.lt_size e)
  refine I.step (g' := s.gens) (d' := s.drawn) (ch := fp) (fun b hb => ?_) (fun b o _ _ hc e _ => k b o hc e) (fun b o _ _ hc e _ => ⟨o.slots, k b o hc e⟩) (fun b o _ e n => by rw [upd_ne (nT b o e)]; exact n)
    (fun b o hc e => ⟨o, k b o hc e⟩) (fun b ys e => by rw [upd_ne (ne_of_none e hfr)]; exact e) (fun b o u e => by rw [upd_ne (ne_of_none e hfr)]; exact e) (fun b ps e => ⟨#[], by rw [upd_ne (ne_of_none e hfr), e]; simp⟩) (fun m hm => ?_) (fun b u e => ?_) I.bare
  · obtain ⟨_, f1, _, f3, f4, f5⟩ := hf b hb
    exact ⟨f3, f1, f4, f5⟩
  · obtain ⟨o, es, ep, ho, r⟩ := hm
    exact ⟨o, es, ep, k _ o (fun z => (hf _ z).2.1 rfl) ho, r⟩
  · by_cases hb : b = s.heap.objs.size
    · subst hb; rw [upd_same] at e; cases e; exact new
    · rw [upd_ne hb] at e
      refine (I.hok b u e).stay (fun c v hc q => k c v ?_ q) (fun c q => by rw [upd_ne (ne_of_none q hfr)]; exact q) fun c ys q => by rw [upd_ne (ne_of_none q hfr)]; exact q
      rcases hc with z | z
      · rw [z]; exact nit b u e
      · exact nit c _ z
/-- enumerate over the tuple at a: at each turn a new pair -/
def Ite (K : PySem.W.Frag) (a : Addr) : It :=
  ⟨fun i H => ∃ xs x, SqT K H a xs ∧ xs[i]? = some x, fun i H v H' => ∃ t, H t = none ∧ v = .ref t ∧ ∀ xs, SqT K H a xs → ∃ x, xs[i]? = some x ∧ H' = upd H t (.tup [.int i, x]), fun i H => ∃ xs, SqT K H a xs ∧ xs.length = i⟩
theorem turn_enumT {P : Program} {w : World} {K : PySem.W.Frag} {elts : List Expr} {x1} {pos : Pos} (a it e : Addr) (hei : e ≠ it) : Turn P w K (.Tuple elts x1 pos) (Ite K a) [e, it] e (fun i h => (∃ old, IsEnum h e it i old) ∧ h.IsTupleIter it a i) where
  mem := by simp
  obj := fun i h st b hb => by
    obtain ⟨⟨old, he⟩, o, ho, c, d⟩ := st
    rcases List.mem_cons.mp hb with z | z
    · subst z; exact ⟨_, he, fun v z => by cases z⟩
    · have z : b = it := by simpa using z
      subst z; exact ⟨o, ho, fun v z => by rw [d] at z; cases z⟩
  keep := fun i h h' st k => ⟨let ⟨old, he⟩ := st.1; ⟨old, k e (by simp) _ he⟩, st.2.at fun o q => k it (by simp) o q⟩
  item := by
    intro X hP hw hK hc i pins s σ H E I hf st hg
    subst hP hw hK
    obtain ⟨xs, x, hq, hx⟩ := hg
    obtain ⟨its, rv, p, hz⟩ := I.tuple hq
    obtain ⟨u, hu, ru⟩ := rv.get hx
    obtain ⟨⟨old, he⟩, ht⟩ := st
    have hne : a ≠ it := fun z => by
      obtain ⟨o, ho, c, _⟩ := ht
      obtain ⟨o', ho', c', _⟩ := p
      subst z
      rw [ho] at ho'; cases ho'
      rw [c] at c'
      exact absurd (Value.type.inj c') (by decide)
    have hae : a ≠ e := fun z => by
      obtain ⟨o', ho', c', _⟩ := p
      subst z
      rw [he] at ho'; cases ho'
      exact absurd (Value.type.inj c') (by decide)
    have hlt : i < its.toArray.size := by have := (List.getElem?_eq_some_iff.mp hu).1; simpa using this
    refine wpAny_pyNext_enum_itemD (ours_Draws_tuple (A := X.A.in1) (by exact I.ok.hd hc) it a hne its.toArray) he ⟨ht, p⟩ hlt hei (by simp [hei, Ne.symm hae]) fun v h' tk hPv ho' st' htup hsz hk => ?_
    have ev : v = u := by
      have h1 : its[i]? = some v := by simpa using hPv
      rw [hu] at h1; exact (Option.some.inj h1).symm
    subst ev
    refine ⟨_, rfl, wpAny_letOwnedTupleGo_enum (s := { s with heap := h', toks := tk + 1 }) ho' fun h2 he2 sb => ?_⟩
    have hTe : s.heap.objs.size ≠ e := fun z => by
      have := Heap.lt_size he; rw [← z] at this; exact Nat.lt_irrefl _ this
    have hTi : s.heap.objs.size ≠ it := fun z => by
      obtain ⟨o, ho, _⟩ := ht
      have := Heap.lt_size ho; rw [← z] at this; exact Nat.lt_irrefl _ this
    have hk2 : ∀ b o, b ∉ [e, it] → s.heap.get? b = some o → h2.get? b = some o := fun b o hb q =>
      sb.extBut b o (fun z => hb (by simp [z])) (hk b o (fun z => hb (by simp [z])) (fun z => hb (by simp [z])) q)
    have I1 : Inv X pins σ H { s with heap := h2, toks := tk + 1 } := I.turnedL hk2 hf
    have hfr : H s.heap.objs.size = none := I.hok.fresh (Nat.le_refl _)
    have htup2 : h2.get? s.heap.objs.size = some { cls := .type "tuple", data := .seq #[.int i tk, v] } := sb.extBut _ _ hTe htup
    have I2 : Inv X pins σ (upd H s.heap.objs.size (.tup [.int i, x])) { s with heap := h2, toks := tk + 1 } := by
      refine I.un2 hk2 hf hfr (by simp [hTe, hTi]) ⟨by show 2 ≤ sizeLine; decide, [.int i tk, v], .cons ⟨_, rfl⟩ (.cons ru .nil), ⟨_, htup2, rfl, 0, rfl⟩⟩ (fun b hb o q => ?_)
      rcases List.mem_cons.mp hb with r | r
      · subst r; exact ⟨_, he2⟩
      · have r : b = it := by simpa using r
        subst r
        obtain ⟨o', ho', _⟩ := st'.1.extBut sb.extBut (Ne.symm hei)
        exact ⟨o', ho'⟩
    refine ⟨.ref s.heap.objs.size, _, I2, rfl, ⟨s.heap.objs.size, hfr, rfl, fun ys hy => ⟨x, by rw [I.tuple_inj hy hq]; exact hx, rfl⟩⟩, ⟨⟨_, he2⟩, st'.1.extBut sb.extBut (Ne.symm hei)⟩, fun b hb => ?_⟩
    have hbT : b ≠ s.heap.objs.size := fun z => by
      rcases List.mem_cons.mp hb with r | r
      · exact hTe (z ▸ r)
      · have r : b = it := by simpa using r
        exact hTi (z ▸ r)
    rw [upd_ne hbT]
    exact (hf b hb).1
  done := by
    intro X hP hw hK hc i pins s σ H E I hf st hg
    subst hP hw hK
    obtain ⟨xs, hq, hx⟩ := hg
    obtain ⟨its, rv, p, hz⟩ := I.tuple hq
    obtain ⟨⟨old, he⟩, ht⟩ := st
    have hl := rv.length
    have hne : a ≠ it := fun z => by
      obtain ⟨o, ho, c, _⟩ := ht
      obtain ⟨o', ho', c', _⟩ := p
      subst z
      rw [ho] at ho'; cases ho'
      rw [c] at c'
      exact absurd (Value.type.inj c') (by decide)
    have ei : (i : Nat) = its.toArray.size := by simp; omega
    subst ei
    obtain ⟨f0, f1, f2, f3, f4, f5⟩ := hf it (by simp)
    exact wpAny_pyNext_enum_endD (ours_Draws_tuple (A := X.A.in1) (by exact I.ok.hd hc) it a hne its.toArray) he ⟨ht, p⟩ fun h' eb => ⟨rfl, I.turned (t' := s.toks) (fun b o hb e => eb b o hb e) f0 f1 f3 f4 f5⟩
  self := fun _ _ _ _ _ st h => let ⟨_, he⟩ := st.1; wpAny_pyIter_enum he h
end L2

set_option Elab.async false
set_option linter.all false
set_option maxRecDepth 100000
set_option maxHeartbeats 4000000
namespace L2
open PySem PySem.Spec PyProof.Rows
section
variable {X : Cx} {elts : List Expr} {x1 : Nat} {tpos : Pos}
def iEnumT (K : PySem.W.Frag) (ta : TA) : TI := fun σ H R => ta σ H fun vs H1 => ∃ a xs, vs = [.ref a] ∧ SqT K H1 a xs ∧ R (Ite K a) H1
theorem pi_enumT {a : Expr} {ta : TA} {p pos : Pos} (hg : Gl X "enumerate") (hm : X.mg "enumerate" = none) (ha : PA X [a] ta) (hs : starEach [a] X.env = [(false, eval a X.env)] := by rfl) : PI X (.Tuple elts x1 tpos) (.Call (.Name "enumerate" p) [a] [] pos) (iEnumT X.K ta) := by
  intro pins s σ H R I h
  refine Call_ (ld_blt I hg hm bt_enumerate (PyProof.Rows.callWith_type1 (thn (ha pos pins s σ H _ I h) fun us s1 ⟨vs, H1, I1, r1, q1⟩ => ?_) hs rfl))
  obtain ⟨t, xs, e, hq, q⟩ := q1
  subst e
  obtain ⟨u, rfl, rx⟩ := vals1 r1
  cases rx
  obtain ⟨its, rv, pt, hz⟩ := I1.tuple hq
  refine ours_call_enumerate_tuple (show s1.heap.IsTuple t its.toArray from pt) fun h' he ht hsz hk => ?_
  have I2 : Inv X pins σ H1 { s1 with heap := h' } := I1.kept (t' := s1.toks) hk
  refine wpAny_pyIter_enum (s := { s1 with heap := h' }) he ?_
  refine ⟨s1.heap.objs.size + 1, [s1.heap.objs.size + 1, s1.heap.objs.size], _, _, H1, rfl, I2, turn_enumT t s1.heap.objs.size (s1.heap.objs.size + 1) (Nat.succ_ne_self _), ⟨⟨_, he⟩, ht⟩, fun b hb => ?_, q⟩
  rcases List.mem_cons.mp hb with r | r
  · subst r; exact I1.fpOk (Nat.le_succ _) (I1.hok.fresh (Nat.le_succ _))
  · have r : b = s1.heap.objs.size := by simpa using r
    subst r; exact I1.fpOk (Nat.le_refl _) (I1.hok.fresh (Nat.le_refl _))
end
/-! ### zip over two lists -/
def Itz (K : PySem.W.Frag) (a b : Addr) : It :=
  ⟨fun i H => ∃ xs ys x y, SqL K H a xs ∧ SqL K H b ys ∧ xs[i]? = some x ∧ ys[i]? = some y,
   fun i H v H' => ∃ t, H t = none ∧ v = .ref t ∧ ∀ xs ys, SqL K H a xs → SqL K H b ys → ∃ x y, xs[i]? = some x ∧ ys[i]? = some y ∧ H' = upd H t (.tup [x, y]),
   fun i H => ∃ xs ys, SqL K H a xs ∧ SqL K H b ys ∧ (xs.length ≤ i ∨ ys.length ≤ i)⟩
theorem turn_zipL {P : Program} {w : World} {K : PySem.W.Frag} {elts : List Expr} {x1} {pos : Pos} (a b z TI TO i1 i2 : Addr) (d1 : TI ≠ z) (d2 : TO ≠ z) (d3 : i1 ≠ z) (d4 : i2 ≠ z) (d5 : TI ≠ TO) (d6 : TI ≠ i1) (d7 : TI ≠ i2) (d8 : TO ≠ i1) (d9 : TO ≠ i2) (d10 : i1 ≠ i2) :
    Turn P w K (.Tuple elts x1 pos) (Itz K a b) [z, TI, TO, i1, i2] z (fun i h => IsZip h z TI TO .none ∧ IsPair h TI (.ref i1) (.ref i2) ∧ (∃ u v, IsPair h TO u v) ∧ h.IsListIter i1 a i ∧ h.IsListIter i2 b i) where
  mem := by simp
  obj := fun i h st c hb => by
    obtain ⟨hz, hTI, ⟨u, v, hTO⟩, ⟨o1, h1, _, e1⟩, ⟨o2, h2, _, e2⟩⟩ := st
    simp only [List.mem_cons, List.not_mem_nil, or_false] at hb
    rcases hb with r | r | r | r | r
    · subst r; exact ⟨_, hz, fun v z => by cases z⟩
    · subst r; exact ⟨_, hTI, fun v z => by cases z⟩
    · subst r; exact ⟨_, hTO, fun v z => by cases z⟩
    · subst r; exact ⟨o1, h1, fun v z => by rw [e1] at z; cases z⟩
    · subst r; exact ⟨o2, h2, fun v z => by rw [e2] at z; cases z⟩
  keep := fun i h h' st k => by
    obtain ⟨hz, hTI, ⟨u, v, hTO⟩, h1, h2⟩ := st
    exact ⟨k z (by simp) _ hz, k TI (by simp) _ hTI, ⟨u, v, k TO (by simp) _ hTO⟩, h1.at fun o q => k i1 (by simp) o q, h2.at fun o q => k i2 (by simp) o q⟩
  item := by
    intro X hP hw hK hc i pins s σ H E I hf st hg
    subst hP hw hK
    obtain ⟨xs, ys, x, y, hqa, hqb, hx, hy⟩ := hg
    obtain ⟨itsa, rva, pa, _⟩ := I.list hqa
    obtain ⟨itsb, rvb, pb, _⟩ := I.list hqb
    obtain ⟨u, hu, ru⟩ := rva.get hx
    obtain ⟨v, hv, rv⟩ := rvb.get hy
    obtain ⟨hz, hTI, ⟨p, q, hTO⟩, h1, h2⟩ := st
    have D : ZipApart z TI TO i1 i2 a b := by
      obtain ⟨oa, na, ea, ca, _, _⟩ := pa
      obtain ⟨ob, nb, eb, cb, _, _⟩ := pb
      obtain ⟨o1, e1, c1, _⟩ := h1
      obtain ⟨o2, e2, c2, _⟩ := h2
      have key : ∀ (r : Addr) (o : Obj) (n : String) (l : Addr) (ol : Obj), s.heap.get? r = some o → o.cls = .type n → n ≠ "list" → s.heap.get? l = some ol → ol.cls = .type "list" → l ≠ r := fun r o n l ol hr cr hn hl cl zz => by
        subst zz
        rw [hr] at hl; cases hl
        rw [cr] at cl
        exact hn (Value.type.inj cl)
      exact ⟨d1, d2, d3, d4, d5, d6, d7, d8, d9, d10, key z _ _ a oa hz rfl (by decide) ea ca, key TO _ _ a oa hTO rfl (by decide) ea ca, key i1 _ _ a oa e1 c1 (by decide) ea ca, key i2 _ _ a oa e2 c2 (by decide) ea ca,
        key z _ _ b ob hz rfl (by decide) eb cb, key TO _ _ b ob hTO rfl (by decide) eb cb, key i1 _ _ b ob e1 c1 (by decide) eb cb, key i2 _ _ b ob e2 c2 (by decide) eb cb⟩
    have lt : ∀ (r : Addr) (o : Obj), s.heap.get? r = some o → s.heap.objs.size ≠ r := fun r o e zz => by
      have := Heap.lt_size e; rw [← zz] at this; exact Nat.lt_irrefl _ this
    have n1 := lt z _ hz
    have n2 := lt TI _ hTI
    have n3 := lt TO _ hTO
    have n4 : s.heap.objs.size ≠ i1 := let ⟨o, e, _⟩ := h1; lt i1 o e
    have n5 : s.heap.objs.size ≠ i2 := let ⟨o, e, _⟩ := h2; lt i2 o e
    refine wpAny_pyNext_zip_item D hz hTI hTO h1 h2 pa.isList pb.isList (by simpa using hu) (by simpa using hv) fun h' hz' hTO' h1' h2' hT hsz hk => ?_
    refine ⟨_, rfl, wpAny_letOwnedTupleGo_zip (s := { s with heap := h' }) hz' fun hh2 hz2 sb => ?_⟩
    have hk2 : ∀ c o, c ∉ [z, TI, TO, i1, i2] → s.heap.get? c = some o → hh2.get? c = some o := fun c o hb e => by
      simp only [List.mem_cons, List.not_mem_nil, or_false, not_or] at hb
      exact sb.extBut c o hb.1 (hk c o hb.1 hb.2.2.1 hb.2.2.2.1 hb.2.2.2.2 e)
    have hfr : H s.heap.objs.size = none := I.hok.fresh (Nat.le_refl _)
    have hT2 : hh2.get? s.heap.objs.size = some { cls := .type "tuple", data := .seq #[u, v] } := sb.extBut _ _ n1 hT
    have hTI2 : IsPair hh2 TI (.ref i1) (.ref i2) := sb.extBut _ _ d1 (hk TI _ d1 d5 d6 d7 hTI)
    have hTO2 : IsPair hh2 TO u v := sb.extBut _ _ d2 hTO'
    have h12 := h1'.extBut sb.extBut d3
    have h22 := h2'.extBut sb.extBut d4
    have I2 : Inv X pins σ (upd H s.heap.objs.size (.tup [x, y])) { s with heap := hh2, toks := s.toks } := by
      refine I.un2 hk2 hf hfr (by simp [n1, n2, n3, n4, n5]) ⟨by show 2 ≤ sizeLine; decide, [u, v], .cons ru (.cons rv .nil), ⟨_, hT2, rfl, 0, rfl⟩⟩ (fun c hb o e => ?_)
      simp only [List.mem_cons, List.not_mem_nil, or_false] at hb
      rcases hb with r | r | r | r | r
      · subst r; exact ⟨_, hz2⟩
      · subst r; exact ⟨_, hTI2⟩
      · subst r; exact ⟨_, hTO2⟩
      · subst r; exact let ⟨o, e, _⟩ := h12; ⟨o, e⟩
      · subst r; exact let ⟨o, e, _⟩ := h22; ⟨o, e⟩
    refine ⟨.ref s.heap.objs.size, _, I2, rfl, ⟨s.heap.objs.size, hfr, rfl, fun xs' ys' hx' hy' => ⟨x, y, by rw [I.list_inj hx' hqa]; exact hx, by rw [I.list_inj hy' hqb]; exact hy, rfl⟩⟩, ⟨hz2, hTI2, ⟨u, v, hTO2⟩, h12, h22⟩, fun c hb => ?_⟩
    have hcT : c ≠ s.heap.objs.size := fun zz => by
      simp only [List.mem_cons, List.not_mem_nil, or_false] at hb
      rcases hb with r | r | r | r | r
      · exact n1 (zz ▸ r)
      · exact n2 (zz ▸ r)
      · exact n3 (zz ▸ r)
      · exact n4 (zz ▸ r)
      · exact n5 (zz ▸ r)
    rw [upd_ne hcT]
    exact (hf c hb).1
  done := by
    intro X hP hw hK hc i pins s σ H E I hf st hg
    subst hP hw hK
    obtain ⟨xs, ys, hqa, hqb, hend⟩ := hg
    obtain ⟨itsa, rva, pa, _⟩ := I.list hqa
    obtain ⟨itsb, rvb, pb, _⟩ := I.list hqb
    obtain ⟨hz, hTI, ⟨p, q, hTO⟩, h1, h2⟩ := st
    have l1 := rva.length
    have l2 := rvb.length
    have D : ZipApart z TI TO i1 i2 a b := by
      obtain ⟨oa, na, ea, ca, _, _⟩ := pa
      obtain ⟨ob, nb, eb, cb, _, _⟩ := pb
      obtain ⟨o1, e1, c1, _⟩ := h1
      obtain ⟨o2, e2, c2, _⟩ := h2
      have key : ∀ (r : Addr) (o : Obj) (n : String) (l : Addr) (ol : Obj), s.heap.get? r = some o → o.cls = .type n → n ≠ "list" → s.heap.get? l = some ol → ol.cls = .type "list" → l ≠ r := fun r o n l ol hr cr hn hl cl zz => by
        subst zz
        rw [hr] at hl; cases hl
        rw [cr] at cl
        exact hn (Value.type.inj cl)
      exact ⟨d1, d2, d3, d4, d5, d6, d7, d8, d9, d10, key z _ _ a oa hz rfl (by decide) ea ca, key TO _ _ a oa hTO rfl (by decide) ea ca, key i1 _ _ a oa e1 c1 (by decide) ea ca, key i2 _ _ a oa e2 c2 (by decide) ea ca,
        key z _ _ b ob hz rfl (by decide) eb cb, key TO _ _ b ob hTO rfl (by decide) eb cb, key i1 _ _ b ob e1 c1 (by decide) eb cb, key i2 _ _ b ob e2 c2 (by decide) eb cb⟩
    refine wpAny_pyNext_zip_end (I.ok.hd hc) D hz hTI hTO h1 h2 pa.isList pb.isList (hend.elim (fun r => .inl (by simp; omega)) fun r => .inr (by simp; omega)) fun h' hk => ⟨rfl, I.turnedL (t' := s.toks) (fun c o hb e => ?_) hf⟩
    simp only [List.mem_cons, List.not_mem_nil, or_false, not_or] at hb
    exact hk c o hb.1 hb.2.2.1 hb.2.2.2.1 hb.2.2.2.2 e
  self := fun _ _ _ _ _ st h => wpAny_pyIter_zip st.1 h
section
variable {X : Cx} {elts : List Expr} {x1 : Nat} {tpos : Pos}
def iZipL (K : PySem.W.Frag) (ta : TA) : TI := fun σ H R => ta σ H fun vs H1 => ∃ a b xs ys, vs = [.ref a, .ref b] ∧ SqL K H1 a xs ∧ SqL K H1 b ys ∧ R (Itz K a b) H1
theorem pi_zipL {a b : Expr} {ta : TA} {p pos : Pos} (hg : Gl X "zip") (hm : X.mg "zip" = none) (ha : PA X [a, b] ta) (hs : starEach [a, b] X.env = [(false, eval a X.env), (false, eval b X.env)] := by rfl) (hs2 : starEach [b] X.env = [(false, eval b X.env)] := by rfl) :
    PI X (.Tuple elts x1 tpos) (.Call (.Name "zip" p) [a, b] [] pos) (iZipL X.K ta) := by
  intro pins s σ H R I h
  refine Call_ (ld_blt I hg hm bt_zip (PyProof.Rows.callWith_type1 (thn (ha pos pins s σ H _ I h) fun us s1 ⟨vs, H1, I1, r1, q1⟩ => ?_) (by rw [hs, hs2]) (by rw [hs2]; rfl)))
  obtain ⟨l1, l2, xs, ys, e, hqa, hqb, q⟩ := q1
  subst e
  obtain ⟨u, v, rfl, rx, ry⟩ := vals2 r1
  cases rx
  cases ry
  obtain ⟨itsa, rva, pa, _⟩ := I1.list hqa
  obtain ⟨itsb, rvb, pb, _⟩ := I1.list hqb
  refine call_zip_2 pa.isList pb.isList fun h' hz hTI hTO h1 h2 hsz hk => ?_
  have I2 : Inv X pins σ H1 { s1 with heap := h' } := I1.kept (t' := s1.toks) hk
  refine wpAny_pyIter_zip (s := { s1 with heap := h' }) hz ?_
  have N : ∀ m n : Nat, m ≠ n → s1.heap.objs.size + m ≠ s1.heap.objs.size + n := fun m n h e => h (Nat.add_left_cancel e)
  refine ⟨s1.heap.objs.size + 4, [s1.heap.objs.size + 4, s1.heap.objs.size + 2, s1.heap.objs.size + 3, s1.heap.objs.size + 0, s1.heap.objs.size + 1], _, _, H1, rfl, I2, turn_zipL l1 l2 (s1.heap.objs.size + 4) (s1.heap.objs.size + 2) (s1.heap.objs.size + 3) (s1.heap.objs.size + 0) (s1.heap.objs.size + 1)
    (N _ _ (by decide)) (N _ _ (by decide)) (N _ _ (by decide)) (N _ _ (by decide)) (N _ _ (by decide)) (N _ _ (by decide)) (N _ _ (by decide)) (N _ _ (by decide)) (N _ _ (by decide)) (N _ _ (by decide)), ⟨hz, hTI, ⟨_, _, hTO⟩, h1, h2⟩, fun c hb => ?_, q⟩
  have hc : s1.heap.objs.size ≤ c := by
    simp only [List.mem_cons, List.not_mem_nil, or_false] at hb
    rcases hb with r | r | r | r | r <;> (rw [r]; exact Nat.le_add_right _ _)
  exact I1.fpOk hc (I1.hok.fresh hc)
/-! ### the greatest of a list of ints -/
theorem ints_of : ∀ {ns : List Int} {its : List Value}, Vals (ns.map V.int) its → IntsAre its ns
  | [], _, r => by cases r; exact .nil
  | y :: ys, _, r => by
    cases r with
    | cons r rr =>
      obtain ⟨t, rfl⟩ := r
      exact .cons y t (ints_of rr)
theorem call_maxL (hc : X.calm = true) : CallR X (.builtin "max") (fun xs H Q => ∃ (p : Addr) (ns : List Int), xs = [.ref p] ∧ SqL X.K H p (ns.map V.int) ∧ 0 < ns.length ∧ ∀ M, M ∈ ns → (∀ a, a ∈ ns → a ≤ M) → Q (.int M) H) := by
  intro pins s σ H xs us Q I r h
  obtain ⟨p, ns, rfl, hq, hne, q⟩ := h
  obtain ⟨u, rfl, rx⟩ := vals1 r
  cases rx
  obtain ⟨its, rv, pl, hz⟩ := I.list hq
  have hi := ints_of rv
  obtain ⟨ys, e⟩ := hi.allInts.items
  have hns : ns = ys.toList.map (·.1) := by
    rw [← hi.numsOf, ← nums_intItems, ← e]
  have hsz : 0 < ys.size := by
    have h3 := hne; rw [hns, List.length_map, Array.length_toList] at h3; exact h3
  have hl := pl.isList
  rw [e] at hl
  refine max_intList (by exact I.ok.hd hc) hl hsz fun v h' tk hv hk => ?_
  obtain ⟨t, rfl⟩ := intItems_at hv
  obtain ⟨h1, h2⟩ := argBest_gt (numAt ys) (ys.size - 1)
  refine ⟨.int _, H, I.kept hk, ⟨t, rfl⟩, q _ ?_ fun a ha => ?_⟩
  · rw [hns, numAt_eq]; exact PySem.getD_mem (by rw [List.length_map, Array.length_toList]; omega)
  · rw [hns] at ha
    obtain ⟨j, hj, rfl⟩ := PySem.mem_getD ha
    rw [List.length_map, Array.length_toList] at hj
    rw [← numAt_eq]; exact h2 j (by omega)
end

/-! ### comprehensions over what makes its items -/
section
variable {k : Nat} {cap : List Nat} {g : TG} {tt : TT} {te : TE} {σ : St} {H : Hp} {Q : VK} {l : Addr}
theorem comp_grow (J : It) (n : Nat) (p : Nat → Bool) (f : Nat → V) (Good : St → Prop) (h0 : Good (capSt k cap σ)) (hl : H l = none) (hlen : n < sizeLine)
    (hstop : ∀ H', Same H H' → J.stop n H') (hgo : ∀ i H', i < n → Same H H' → J.go i H')
    (ht : ∀ i v σ H1 H2 ys (N : St → Hp → Prop), i < n → Good σ → Same H H1 → H1 l = some (.lst ys) → ys.length < sizeLine → J.yld i H1 v H2 →
      (∀ σ' H3, Good σ' → But l H1 H3 → H3 l = some (.lst (if p i = true then ys ++ [f i] else ys)) → N σ' H3) → turnOf g tt te l v σ H2 N)
    (hd : ∀ H', Same H H' → H' l = some (.lst (((List.range n).filter p).map f)) → Q (.ref l) H') : GoalW J g tt te l (capSt k cap σ) (upd H l (.lst [])) Q := by
  refine comp_gen J n (fun i σ' H' => Good σ' ∧ Same H H' ∧ H' l = some (.lst ((((List.range n).take i).filter p).map f))) ⟨h0, Same.upd hl, by rw [List.take_zero]; exact upd_same⟩ (fun σ' H' ⟨_, s, _⟩ => hstop H' s) (fun i σ' H' hi ⟨_, s, _⟩ => hgo i H' hi s) (fun i σ' H' x H'' hi ⟨gd, s, e⟩ y => ?_) (fun σ' H' ⟨_, s, e⟩ => ?_)
  · have hi2 : (List.range n)[i]? = some i := by simp [hi]
    refine ht i x σ' H' H'' _ _ hi gd s e ?_ y fun σ2 H3 g2 b e3 => ⟨g2, fun c o h => b c o (s c o h) (ne_of_none h hl), ?_⟩
    · rw [List.length_map]
      have a1 := List.length_filter_le p ((List.range n).take i)
      exact Nat.lt_of_le_of_lt (Nat.le_trans a1 (by rw [List.length_take, List.length_range]; omega)) hlen
    · rw [e3, take_filter hi2, List.map_append]
      by_cases c : p i = true
      · rw [if_pos c, if_pos c]; rfl
      · rw [if_neg c, if_neg c, List.map_nil, List.append_nil]
  · rw [List.take_of_length_le (by simp)] at e
    exact hd H' s e
theorem comp_enum {K : PySem.W.Frag} {a : Addr} {xs : List V} (hS : SqT K H a xs) (p : Nat → Bool) (f : Nat → V) (Good : St → Prop) (h0 : Good (capSt k cap σ)) (hl : H l = none) (hlen : xs.length < sizeLine)
    (ht : ∀ (i : Nat) x t σ H1 ys (N : St → Hp → Prop), xs[i]? = some x → Good σ → Same H H1 → H1 t = none → (upd H1 t (.tup [.int i, x])) l = some (.lst ys) → ys.length < sizeLine → t ≠ l →
      (∀ σ' H3, Good σ' → But l (upd H1 t (.tup [.int i, x])) H3 → H3 l = some (.lst (if p i = true then ys ++ [f i] else ys)) → N σ' H3) → turnOf g tt te l (.ref t) σ (upd H1 t (.tup [.int i, x])) N)
    (hd : ∀ H', Same H H' → H' l = some (.lst (((List.range xs.length).filter p).map f)) → Q (.ref l) H') : GoalW (Ite K a) g tt te l (capSt k cap σ) (upd H l (.lst [])) Q := by
  refine comp_grow (Ite K a) xs.length p f Good h0 hl hlen (fun H' s => ⟨xs, hS.same s, rfl⟩) (fun i H' hi s => ⟨xs, xs[i], hS.same s, by simp [hi]⟩) (fun i v σ H1 H2 ys N hi gd s e hz y hN => ?_) hd
  obtain ⟨t, ht0, rfl, hy⟩ := y
  obtain ⟨x, hx, rfl⟩ := hy xs (hS.same s)
  have tl : t ≠ l := fun z => by rw [z, e] at ht0; cases ht0
  refine ht i x t σ H1 ys N hx gd s ht0 (by rw [upd_ne tl.symm]; exact e) hz tl fun σ' H3 g3 b e3 => hN σ' H3 g3 (fun c o h n => b c o (by rw [upd_ne (ne_of_none h ht0)]; exact h) n) e3
theorem comp_zip {K : PySem.W.Frag} {a b : Addr} {xs ys : List V} (hA : SqL K H a xs) (hB : SqL K H b ys) (hxy : ys.length ≤ xs.length) (p : Nat → Bool) (f : Nat → V) (Good : St → Prop) (h0 : Good (capSt k cap σ)) (hl : H l = none) (hlen : ys.length < sizeLine)
    (ht : ∀ (i : Nat) x y t σ H1 zs (N : St → Hp → Prop), xs[i]? = some x → ys[i]? = some y → Good σ → Same H H1 → H1 t = none → (upd H1 t (.tup [x, y])) l = some (.lst zs) → zs.length < sizeLine → t ≠ l →
      (∀ σ' H3, Good σ' → But l (upd H1 t (.tup [x, y])) H3 → H3 l = some (.lst (if p i = true then zs ++ [f i] else zs)) → N σ' H3) → turnOf g tt te l (.ref t) σ (upd H1 t (.tup [x, y])) N)
    (hd : ∀ H', Same H H' → H' l = some (.lst (((List.range ys.length).filter p).map f)) → Q (.ref l) H') : GoalW (Itz K a b) g tt te l (capSt k cap σ) (upd H l (.lst [])) Q := by
  refine comp_grow (Itz K a b) ys.length p f Good h0 hl hlen (fun H' s => ⟨xs, ys, hA.same s, hB.same s, .inr (Nat.le_refl _)⟩) (fun i H' hi s => ⟨xs, ys, xs[i], ys[i], hA.same s, hB.same s, by simp, by simp [hi]⟩) (fun i v σ H1 H2 zs N hi gd s e hz y hN => ?_) hd
  obtain ⟨t, ht0, rfl, hy⟩ := y
  obtain ⟨x, y, hx, hy', rfl⟩ := hy xs ys (hA.same s) (hB.same s)
  have tl : t ≠ l := fun z => by rw [z, e] at ht0; cases ht0
  refine ht i x y t σ H1 zs N hx hy' gd s ht0 (by rw [upd_ne tl.symm]; exact e) hz tl fun σ' H3 g3 b e3 => hN σ' H3 g3 (fun c o h n => b c o (by rw [upd_ne (ne_of_none h ht0)]; exact h) n) e3
end
/-! ### slices of tuples, membership of names -/
theorem cut_from {xs : List V} {i : Nat} : cutV xs (some ((i : Int) + 1)) none = xs.drop (i + 1) := by
  unfold cutV
  have e : HT.sIx xs.length 0 (some ((i : Int) + 1)) = min (i + 1) xs.length := by
    unfold HT.sIx
    simp
    omega
  have e2 : HT.sIx xs.length xs.length none = xs.length := rfl
  rw [e, e2]
  by_cases h : i + 1 ≤ xs.length
  · rw [Nat.min_eq_left h]
    rw [List.take_of_length_le (by rw [List.length_drop]; exact Nat.le_refl _)]
  · rw [Nat.min_eq_right (by omega), List.drop_of_length_le (Nat.le_refl _), List.drop_of_length_le (by omega), List.take_nil]
theorem inV_str {n : Str} {row : List Str} : inV (.str n) (row.map V.str) = row.contains n := by
  unfold inV
  induction row with
  | nil => rfl
  | cons x r ih =>
    rw [List.map_cons, List.any_cons, ih, List.contains_cons]
    congr 1
    show (x == n) = (n == x)
    by_cases e : x = n
    · subst e; simp
    · rw [beq_eq_false_iff_ne.mpr e, beq_eq_false_iff_ne.mpr (Ne.symm e)]
theorem flat_strs {row : List Str} : (row.map V.str).all flatV = true := by
  induction row with
  | nil => rfl
  | cons x r ih => rw [List.map_cons, List.all_cons, ih]; rfl
end L2

set_option Elab.async false
set_option linter.all false
set_option maxRecDepth 100000
set_option maxHeartbeats 4000000
namespace L2
open PySem PySem.Spec PyProof.Rows
/-! ### the rules that speak of the text's objects, with these named -/
section
variable {X : Cx} {k : Nat}
theorem ixL (K : PySem.W.Frag) (h : X.K = K := by rfl) : IxR X (rIxL K) := h ▸ ix_list
theorem ixT (K : PySem.W.Frag) (h : X.K = K := by rfl) : IxR X (rIxT K) := h ▸ ix_tup
theorem slL (K : PySem.W.Frag) (h : X.K = K := by rfl) : SlR X (rSlL K) := h ▸ sl_list
theorem slT (K : PySem.W.Frag) (h : X.K = K := by rfl) : SlR X (rSlT K) := h ▸ sl_tup
theorem inQ (K : PySem.W.Frag) (h : X.K = K := by rfl) : OpR X (compareOp .In) (rIn K false) := h ▸ op_in_seq
theorem notInQ (K : PySem.W.Frag) (h : X.K = K := by rfl) : OpR X (compareOp .NotIn) (rIn K true) := h ▸ op_notIn_seq
def rEqL (K : PySem.W.Frag) : R2 := fun x y H Q => ∃ a b xs ys, x = .ref a ∧ y = .ref b ∧ SqL K H a xs ∧ SqL K H b ys ∧ (xs.length = ys.length → xs.all flatV = true ∧ ys.all flatV = true) ∧ Q (.bl (eqLV xs ys)) H
theorem eqL (K : PySem.W.Frag) (hr : Room k X.A) (h : X.K = K := by rfl) : OpR X (compareOp .Eq) (rEqL K) := h ▸ op_eqL hr
def rLenL (K : PySem.W.Frag) : List V → Hp → VK → Prop := fun xs H Q => ∃ p ys, xs = [.ref p] ∧ SqL K H p ys ∧ Q (.int ys.length) H
def rLenT (K : PySem.W.Frag) : List V → Hp → VK → Prop := fun xs H Q => ∃ p ys, xs = [.ref p] ∧ SqT K H p ys ∧ Q (.int ys.length) H
theorem lenL (K : PySem.W.Frag) (h : X.K = K := by rfl) : CallR X (.builtin "len") (rLenL K) := h ▸ call_lenL
theorem lenT (K : PySem.W.Frag) (h : X.K = K := by rfl) : CallR X (.builtin "len") (rLenT K) := h ▸ call_lenT
def rAll (K : PySem.W.Frag) : List V → Hp → VK → Prop := fun xs H Q => ∃ p bs, xs = [.ref p] ∧ SqL K H p (isBl bs) ∧ Q (.bl (bs.all id)) H
def rAny (K : PySem.W.Frag) : List V → Hp → VK → Prop := fun xs H Q => ∃ p bs, xs = [.ref p] ∧ SqL K H p (isBl bs) ∧ Q (.bl (bs.any id)) H
theorem allL (K : PySem.W.Frag) (hc : X.calm = true) (h : X.K = K := by rfl) : CallR X (.builtin "all") (rAll K) := h ▸ call_all hc
theorem anyL (K : PySem.W.Frag) (hc : X.calm = true) (h : X.K = K := by rfl) : CallR X (.builtin "any") (rAny K) := h ▸ call_any hc
def rMaxL (K : PySem.W.Frag) : List V → Hp → VK → Prop := fun xs H Q => ∃ (p : Addr) (ns : List Int), xs = [.ref p] ∧ SqL K H p (ns.map V.int) ∧ 0 < ns.length ∧ ∀ M, M ∈ ns → (∀ a, a ∈ ns → a ≤ M) → Q (.int M) H
theorem maxL (K : PySem.W.Frag) (hc : X.calm = true) (h : X.K = K := by rfl) : CallR X (.builtin "max") (rMaxL K) := h ▸ call_maxL hc
def rIsi (K : PySem.W.Frag) : List V → Hp → VK → Prop := fun xs H Q => ∃ x T t b, xs = [x, .ty T] ∧ TyOf K H x t ∧ PySem.W.kitOne K t (.type T) = some b ∧ Q (.bl b) H
theorem isiK (K : PySem.W.Frag) (h : X.K = K := by rfl) : CallR X (.builtin "isinstance") (rIsi K) := h ▸ call_isi
/-- tuple(list), tuple(tuple), list(list or tuple) -/
def rTupL (K : PySem.W.Frag) : List V → Hp → VK → Prop := fun xs H Q => ∃ p ys, xs = [.ref p] ∧ SqL K H p ys ∧ ∀ l, H l = none → Q (.ref l) (upd H l (.tup ys))
theorem tupL (K : PySem.W.Frag) (h : X.K = K := by rfl) : CallR X (.type "tuple") (rTupL K) := by
  subst h
  intro pins s σ H xs us Q I r ⟨p, ys, e, hq, q⟩
  exact call_tuple_of pins s σ H xs us Q I r ⟨p, ys, e, .inl ⟨hq, q⟩⟩
def rListL (K : PySem.W.Frag) : List V → Hp → VK → Prop := fun xs H Q => ∃ p ys, xs = [.ref p] ∧ (SqL K H p ys ∨ SqT K H p ys) ∧ ∀ l, H l = none → Q (.ref l) (upd H l (.lst ys))
theorem listL (K : PySem.W.Frag) (h : X.K = K := by rfl) : CallR X (.type "list") (rListL K) := h ▸ call_list_of
theorem joinK (K : PySem.W.Frag) (h : X.K = K := by rfl) : MtR X "str.join" (rJoin K) := h ▸ mt_join
theorem pg_tupK (K : PySem.W.Frag) {es : List Expr} {j : Nat} {t : TGs} {n : Nat} {pos : Pos} (hc : X.calm = true) (h : PGs X es t) (hK : X.K = K := by rfl)
    (hn : (assignEach es X.env).length = n := by rfl) (hst : (assignEach es X.env).findIdx? (·.1) = none := by rfl) : PG X (.Tuple es j pos) (gTup K n t) := hK ▸ pg_tup hc h hn hst
theorem pi_lst (K : PySem.W.Frag) {tg l : Expr} {tl : TE} (hl : PE X l tl) (h : X.K = K := by rfl) : PI X tg l (iList K tl) := h ▸ pi_list hl
theorem pi_tpl (K : PySem.W.Frag) {tg l : Expr} {tl : TE} (hl : PE X l tl) (h : X.K = K := by rfl) : PI X tg l (iTup K tl) := h ▸ pi_tup hl
theorem pi_enm (K : PySem.W.Frag) {elts : List Expr} {x1 : Nat} {tpos : Pos} {a : Expr} {ta : TA} {p pos : Pos} (hg : Gl X "enumerate") (hm : X.mg "enumerate" = none) (ha : PA X [a] ta) (h : X.K = K := by rfl) (hs : starEach [a] X.env = [(false, eval a X.env)] := by rfl) :
    PI X (.Tuple elts x1 tpos) (.Call (.Name "enumerate" p) [a] [] pos) (iEnumT K ta) := h ▸ pi_enumT hg hm ha hs
theorem pi_zp (K : PySem.W.Frag) {elts : List Expr} {x1 : Nat} {tpos : Pos} {a b : Expr} {ta : TA} {p pos : Pos} (hg : Gl X "zip") (hm : X.mg "zip" = none) (ha : PA X [a, b] ta) (h : X.K = K := by rfl) (hs : starEach [a, b] X.env = [(false, eval a X.env), (false, eval b X.env)] := by rfl) (hs2 : starEach [b] X.env = [(false, eval b X.env)] := by rfl) :
    PI X (.Tuple elts x1 tpos) (.Call (.Name "zip" p) [a, b] [] pos) (iZipL K ta) := h ▸ pi_zipL hg hm ha hs hs2
theorem pe_bmK (K : PySem.W.Frag) {o e : Expr} {es : List Expr} {to : TE} {t : TA} {name : Str} {apos cpos : Pos} {T id : String} {r : V → List V → Hp → VK → Prop} (pa : PlainAttrs T) (slot : Slot T name id) (hty : typeOf (.builtin id) = pure (.type "method_descriptor")) (hm : MtR X id r) (ho : PE X o to) (ha : PA X (e :: es) t) (hK : X.K = K := by rfl)
    (hbase : attributeBase o name X.env (eval o X.env) = eval o X.env := by rfl)
    (hfew : ((backTo cpos (starEach (e :: es) X.env)).all (fun x => !x.1) && (backToKw cpos (keywordEach [] X.env)).all (fun x => x.1.isSome)
      && decide ((e :: es).length + ([] : List Keyword).length + (if ([] : List Keyword).isEmpty then 0 else 1) < 30)) = true := by rfl)
    (hline : (apos.endLine == cpos.line) = true := by rfl) (hs : starEach (e :: es) X.env = (false, eval e X.env) :: starEach es X.env := by rfl) (hplain : (backTo cpos (starEach es X.env)).any (·.1) = false := by rfl) :
    PE X (.Call (.Attribute o name apos) (e :: es) [] cpos) (tBM K T r to t) := hK ▸ pe_bm pa slot hty hm ho ha hbase hfew hline hs hplain
end
end L2

set_option Elab.async false
set_option linter.all false
set_option maxRecDepth 100000
set_option maxHeartbeats 4000000
namespace L2
open PySem PySem.Spec PyProof.Rows
/-! ### things of any kind -/
inductive Kd where
  | non | bl | int | str | lst | tup | dct
  deriving DecidableEq
def Kd.nm : Kd → String
  | .non => "NoneType" | .bl => "bool" | .int => "int" | .str => "str" | .lst => "list" | .tup => "tuple" | .dct => "dict"
def IsK (H : Hp) (v : V) : Kd → Prop
  | .non => v = .non
  | .bl => ∃ b, v = .bl b
  | .int => ∃ i, v = .int i
  | .str => ∃ x, v = .str x
  | .lst => ∃ a xs, v = .ref a ∧ H a = some (.lst xs)
  | .tup => ∃ a xs, v = .ref a ∧ H a = some (.tup xs)
  | .dct => ∃ a kvs, v = .ref a ∧ H a = some (.dK kvs)
theorem IsK.ty {K : PySem.W.Frag} {H : Hp} {v : V} {k : Kd} (h : IsK H v k) : TyOf K H v (.type k.nm) := by
  cases k with
  | non => cases (show v = .non from h); exact .non
  | bl => obtain ⟨b, rfl⟩ := h; exact .bl b
  | int => obtain ⟨b, rfl⟩ := h; exact .int b
  | str => obtain ⟨b, rfl⟩ := h; exact .str b
  | lst => obtain ⟨a, xs, rfl, e⟩ := h; exact .lst e
  | tup => obtain ⟨a, xs, rfl, e⟩ := h; exact .tup e
  | dct => obtain ⟨a, xs, rfl, e⟩ := h; exact .dK e
theorem kd_str {K : PySem.W.Frag} (k : Kd) : PySem.W.kitOne K (.type k.nm) (.type "str") = some (decide (k = .str)) := by cases k <;> kernel_rfl
theorem kd_tup {K : PySem.W.Frag} (k : Kd) : PySem.W.kitOne K (.type k.nm) (.type "tuple") = some (decide (k = .tup)) := by cases k <;> kernel_rfl
theorem kd_int {K : PySem.W.Frag} (k : Kd) : PySem.W.kitOne K (.type k.nm) (.type "int") = some (decide (k = .int) || decide (k = .bl)) := by cases k <;> kernel_rfl
theorem kd_bool {K : PySem.W.Frag} (k : Kd) : PySem.W.kitOne K (.type k.nm) (.type "bool") = some (decide (k = .bl)) := by cases k <;> kernel_rfl
theorem IsK.same {H H' : Hp} {v : V} {k : Kd} (h : IsK H v k) (s : Same H H') : IsK H' v k := by
  cases k with
  | non => exact h
  | bl => exact h
  | int => exact h
  | str => exact h
  | lst => obtain ⟨a, xs, rfl, e⟩ := h; exact ⟨a, xs, rfl, s _ _ e⟩
  | tup => obtain ⟨a, xs, rfl, e⟩ := h; exact ⟨a, xs, rfl, s _ _ e⟩
  | dct => obtain ⟨a, xs, rfl, e⟩ := h; exact ⟨a, xs, rfl, s _ _ e⟩
theorem IsK.not_str {H : Hp} {v : V} {k : Kd} (h : IsK H v k) (n : k ≠ .str) : ∀ x, v ≠ .str x := by
  intro x e
  subst e
  cases k with
  | non => cases h
  | bl => obtain ⟨_, z⟩ := h; cases z
  | int => obtain ⟨_, z⟩ := h; cases z
  | str => exact n rfl
  | lst => obtain ⟨_, _, z, _⟩ := h; cases z
  | tup => obtain ⟨_, _, z, _⟩ := h; cases z
  | dct => obtain ⟨_, _, z, _⟩ := h; cases z
section
variable {X : Cx}
theorem op_le_str : OpR X (compareOp .LtE) (fun x y H Q => ∃ i j, x = .str i ∧ y = .str j ∧ Q (.bl (!decide (j.cps.toList < i.cps.toList))) H) := by
  intro pins s σ H x y v u Q I rx ry h
  obtain ⟨i, j, rfl, rfl, q⟩ := h
  obtain ⟨t, rfl⟩ := rx
  obtain ⟨t', rfl⟩ := ry
  exact PySem.P.le_str (fin_bl I q rfl)
end

theorem range_getD {xs : List V} {f : V → V} : ((List.range xs.length).filter fun _ => true).map (fun i => f ((xs[i]?).getD .non)) = xs.map f := by
  rw [List.filter_eq_self.mpr (fun _ _ => rfl)]
  induction xs with
  | nil => rfl
  | cons x xs ih =>
    rw [List.length_cons, List.range_succ_eq_map, List.map_cons, List.map_map, List.map_cons, ← ih]
    rfl
section
variable {k : Nat} {cap : List Nat} {g : TG} {tt : TT} {te : TE} {σ : St} {H : Hp} {Q : VK} {l : Addr}
/-- over a tuple, where an item's reading may lay new things -/
theorem comp_tupG {K : PySem.W.Frag} {a : Addr} {xs : List V} (hS : SqT K H a xs) (f : V → V) (Good : St → Prop) (h0 : Good (capSt k cap σ)) (hl : H l = none) (hlen : xs.length < sizeLine)
    (ht : ∀ (i : Nat) x σ H1 ys (N : St → Hp → Prop), xs[i]? = some x → Good σ → Same H H1 → H1 l = some (.lst ys) → ys.length < sizeLine →
      (∀ σ' H3, Good σ' → But l H1 H3 → H3 l = some (.lst (ys ++ [f x])) → N σ' H3) → turnOf g tt te l x σ H1 N)
    (hd : ∀ H', Same H H' → H' l = some (.lst (xs.map f)) → Q (.ref l) H') : GoalW (Itt K a) g tt te l (capSt k cap σ) (upd H l (.lst [])) Q := by
  refine comp_grow (Itt K a) xs.length (fun _ => true) (fun i => f ((xs[i]?).getD .non)) Good h0 hl hlen (fun H' s => ⟨xs, hS.same s, Nat.le_refl _⟩) (fun i H' hi s => ⟨xs, xs[i], hS.same s, by simp [hi]⟩) (fun i v σ H1 H2 ys N hi gd s e hz y hN => ?_) (fun H' s e => hd H' s (by rw [e, range_getD]))
  obtain ⟨e1, hx⟩ := y
  subst e1
  have hx := hx xs (hS.same s)
  refine ht i v σ _ ys N hx gd s e hz fun σ' H3 g3 b e3 => hN σ' H3 g3 b ?_
  rw [e3, if_pos rfl, hx]; rfl
end
end L2

set_option Elab.async false
set_option linter.all false
set_option maxRecDepth 100000
set_option maxHeartbeats 4000000
namespace HT
open PySem PySem.Spec PyProof.Rows
section
variable {prog : Program} {w : World} {A : Around} {E : Value → Shared → Prop} {s : Shared}
/-- the whole of a tuple is the tuple itself -/
theorem getItem_tuple_all {t sl : Addr} {items : Array Value} {vl vu : Value} {lo hi : Option Int} {Q : Value → Shared → Prop} (ht : IsTup s.heap t items) (hs : s.heap.IsSliceOf sl vl vu .none) (pl : IsPart vl lo) (pu : IsPart vu hi)
    (hw : sIx items.size 0 lo = 0 ∧ sIx items.size items.size hi = items.size) (h : Q (.ref t) s) : wpAny (model prog w) A (getItem (.ref t) (.ref sl)) Q E s := by
  obtain ⟨os, hos, hcs, hds⟩ := id hs
  have hTs : s.TypeIs (.ref sl) "slice" := ⟨os, hos, hcs⟩
  unfold getItem
  try with_reducible refine wpAny_holding ?_
  first | refine wpAny_bind (wpAny_pure ?_) | skip
  refine wpAny_bind (wpAny_sequenceKey ht.typeIs (by decide) ?_)
  refine wpAny_bind (wpAny_callSpecial?_slot (name := Str.ofString "__getitem__") ht.typeIs PyProof.Rows.slot_tuple_getitem
    (wpAny_call_entry PyProof.Rows.slot_tuple_getitem ht.typeIs entry_tuple_getitem ?_ (args_tuple_getitem _ _)))
  show wpAny _ _ (Builtin.Tuple.tupleItemsOf (.ref t) >>= _) _ _ s
  refine wpAny_bind (tupleItemsOf_ ht ?_)
  refine wpAny_bind (wpAny_typeOf hTs ?_)
  rw [if_pos (by decide)]
  refine wpAny_bind (sliceApplied_gen hs pl pu ?_)
  have hyes : (((sIx items.size 0 lo : Nat) : Int) == 0 && (1 : Int) == 1 && (sIx items.size items.size hi - sIx items.size 0 lo) == items.size) = true := by
    rw [hw.1, hw.2]; simp
  show wpAny _ _ (if (((sIx items.size 0 lo : Nat) : Int) == 0 && (1 : Int) == 1 && (sIx items.size items.size hi - sIx items.size 0 lo) == items.size) = true then _ else _) _ _ s
  rw [if_pos hyes]
  refine wpAny_bind (wpAny_bind (wpAny_typeOf ht.typeIs (wpAny_pure ?_)))
  rw [if_pos (by decide)]
  refine wpAny_bind (wpAny_rule ?_)
  first
    | exact wpAny_pure ⟨_, rfl, wpAny_pure h⟩
    | exact wpAny_bind (wpAny_pure ⟨_, rfl, wpAny_pure h⟩)
/-- t + u, any -/
theorem cat_any {t b : Addr} {vs ws : List Value} {Q : Value → Shared → Prop} (ht : IsTup s.heap t vs.toArray) (hb : IsTup s.heap b ws.toArray)
    (h0 : vs = [] → Q (.ref b) s) (h1 : ws = [] → Q (.ref t) s) (h2 : vs ≠ [] → ws ≠ [] → Q (.ref s.heap.objs.size) { s with heap := s.heap.push { cls := .type "tuple", data := .seq (vs ++ ws).toArray } })
    (hsz : vs.length + ws.length ≤ sizeLine) : wpAny (model prog w) A (binaryOp .Add (.ref t) (.ref b)) Q E s := by
  by_cases hv : vs = []
  · obtain ⟨⟨cls, dd, data, sl⟩, ho, hc, n, hd⟩ := id ht
    obtain ⟨⟨cls2, dd2, data2, sl2⟩, ho2, hc2, n2, hd2⟩ := id hb
    simp only at hc hd hc2 hd2
    subst hc hd hc2 hd2
    exact concat_meets ⟨_, ho, rfl⟩ ⟨_, ho2, rfl⟩ noFill_tuple_add seq_tuple_add PySem.F.slot_tuple_add PySem.F.entry_tuple_add (PySem.F.args_tuple_add_2 _ _)
      (tuple_addW0 t b vs.toArray ws.toArray n n2 dd dd2 sl sl2 (by simp [hv])) ⟨ho, ho2, h0 hv⟩
  · exact cat_tup ht hb hv h1 (h2 hv) hsz
end
end HT

namespace L2
open PySem PySem.Spec PyProof.Rows
section
variable {X : Cx}
/-- t[lo:hi] of a tracked tuple, the whole of it too -/
def rSlW : V → Option Int → Option Int → Hp → VK → Prop := fun x lo hi H Q => ∃ a xs, x = .ref a ∧ H a = some (.tup xs) ∧ ∀ p H', Same H H' → H' p = some (.tup (cutV xs lo hi)) → Q (.ref p) H'
theorem sl_tupW : SlR X rSlW := by
  intro pins s σ H x v vl vu lo hi sl Q I rx hs pl pu h
  obtain ⟨a, xs, rfl, hx, q⟩ := h
  by_cases hw : HT.sIx xs.length 0 lo = 0 ∧ HT.sIx xs.length xs.length hi = xs.length
  · cases rx
    obtain ⟨its, r, ht, hz⟩ := I.tuple (SqT.of (K := X.K) hx)
    have hlen : its.toArray.size = xs.length := by rw [List.size_toArray]; exact r.length.symm
    refine ⟨"tuple", _, PyProof.Rows.slot_tuple_getitem.lookup, ht.typeIs, ?_⟩
    refine HT.getItem_tuple_all ht hs pl pu (by rw [hlen]; exact hw) ⟨.ref a, H, I, rfl, q a H (Same.refl _) ?_⟩
    have e : cutV xs lo hi = xs := by unfold cutV; rw [hw.1, hw.2, List.drop_zero, Nat.sub_zero, List.take_length]
    rw [e]; exact hx
  · exact sl_tup pins s σ H (.ref a) v vl vu lo hi sl Q I rx hs pl pu ⟨a, xs, rfl, SqT.of hx, hw, fun p hp => q p _ (Same.upd hp) upd_same⟩
/-- t + u of tracked tuples -/
def rCatW : R2 := fun x y H Q => ∃ a b xs ys, x = .ref a ∧ y = .ref b ∧ H a = some (.tup xs) ∧ H b = some (.tup ys) ∧ xs.length + ys.length ≤ sizeLine ∧ ∀ p H', Same H H' → H' p = some (.tup (xs ++ ys)) → Q (.ref p) H'
theorem op_catW : OpR X (binaryOp .Add) rCatW := by
  intro pins s σ H x y v u Q I rx ry h
  obtain ⟨a, b, xs, ys, rfl, rfl, ha, hb, hz, q⟩ := h
  cases rx
  cases ry
  obtain ⟨its, r1, p1, _⟩ := I.tuple (SqT.of (K := X.K) ha)
  obtain ⟨its2, r2, p2, _⟩ := I.tuple (SqT.of (K := X.K) hb)
  refine HT.cat_any p1 p2 (fun z => ⟨.ref b, H, I, rfl, q b H (Same.refl _) (by rw [r1.nil_iff.mp z]; exact hb)⟩) (fun z => ⟨.ref a, H, I, rfl, q a H (Same.refl _) (by rw [r2.nil_iff.mp z, List.append_nil]; exact ha)⟩) (fun _ _ => ?_) (by rw [← r1.length, ← r2.length]; exact hz)
  refine ⟨.ref s.heap.objs.size, _, I.laid (t' := s.toks) (o := .tup (xs ++ ys)) (fun b ob q => Heap.get?_push_of_some _ q) (Nat.le_refl _) ?_, rfl, q _ _ (Same.upd (I.hok.fresh (Nat.le_refl _))) upd_same⟩
  exact ⟨by rw [List.length_append]; exact hz, _, r1.append r2, IsTup.new _ _⟩
/-- // by a positive divisor of up to 200 bits -/
def CDivB (i j : Int) : Prop := 0 < j ∧ j < 2 ^ 200
theorem op_fdivB : OpR X (binaryOp .FloorDiv) (rI CDivB fun i j => .int (i / j)) := opI fun i j _ _ _ _ _ hc q => by
  have h1 : (0 : Int) < j := hc.1
  have h2 : j < 2 ^ 200 := hc.2
  refine floordiv_int (by omega) (by rw [Int.fdiv_eq_ediv_of_nonneg i (by omega)]; exact q) (.inl (PyProof.noPylong_of_log2 ?_))
  have h3 : j.natAbs < 2 ^ 200 := by omega
  have h4 : j.natAbs.log2 < 200 := (Nat.log2_lt (by omega)).mpr h3
  omega
/-- a text times a number -/
def rMulS : R2 := fun x y H Q => ∃ z n, x = .str z ∧ y = .int n ∧ 0 ≤ n ∧ n ≤ 1000000 ∧ z.length = 1 ∧ ∀ w : Str, (w.length : Int) = n → (∀ c ∈ w.cps.toList, c ∈ z.cps.toList) → Q (.str w) H
theorem rep_codes (z : Str) : ∀ m : Nat, (⟨(List.replicate m z.cps).foldl (· ++ ·) #[]⟩ : Str).cps.toList = (List.replicate m z.cps.toList).flatten := by
  have key : ∀ (m : Nat) (b : Array Nat), ((List.replicate m z.cps).foldl (· ++ ·) b).toList = b.toList ++ (List.replicate m z.cps.toList).flatten := by
    intro m
    induction m with
    | zero => intro b; simp
    | succ m ih => intro b; rw [List.replicate_succ, List.foldl_cons, ih, List.replicate_succ, List.flatten_cons, Array.toList_append, List.append_assoc]
  intro m
  rw [key]; simp
theorem op_mulS : OpR X (binaryOp .Mult) rMulS := by
  intro pins s σ H x y v u Q I rx ry h
  obtain ⟨z, n, rfl, rfl, h0, h1, hz, q⟩ := h
  obtain ⟨t, rfl⟩ := rx
  obtain ⟨t', rfl⟩ := ry
  have hlen : ∀ m : Nat, (⟨(List.replicate m z.cps).foldl (· ++ ·) #[]⟩ : Str).length = m := fun m => by
    have e := congrArg List.length (rep_codes z m)
    rw [len_cps, len_rep, len_cps, hz] at e
    rw [e]; omega
  refine PySem.P.mul_str ?_ (fun _ _ => ?_) (fun _ _ => ?_) ?_
  · have a1 : ¬ n < -(2 ^ 63 : Int) := by omega
    have a2 : ¬ n ≥ 2 ^ 63 := by omega
    rw [decide_eq_false a1, decide_eq_false a2]; rfl
  · have : 1 ≤ (2 ^ 63 - 1) / n := Int.le_ediv_of_mul_le (by omega) (by omega)
    rw [hz]; omega
  · rw [hz, Nat.one_mul]
    exact decide_eq_false (by have := szl (n := n.toNat) (by omega); omega)
  · split
    · rename_i g
      have e : n = 0 := by omega
      refine ⟨by decide, ?_⟩
      exact ⟨.str Str.empty, H, I.tok _, ⟨_, rfl⟩, q _ (by rw [e]; rfl) (fun c hc => by cases hc)⟩
    · split
      · rename_i g1 g2
        have e : n = 1 := by
          rw [hz] at g2
          simpa using g2
        exact ⟨.str z, H, I, ⟨_, rfl⟩, q _ (by rw [e, hz]; rfl) (fun c hc => hc)⟩
      · refine ⟨by rw [hlen]; exact szl (by omega), ⟨.str _, H, I.tok _, ⟨_, rfl⟩, q _ (by rw [hlen]; omega) (fun c hc => ?_)⟩⟩
        rw [rep_codes] at hc
        simp only [List.mem_flatten, List.mem_replicate] at hc
        obtain ⟨l, ⟨_, rfl⟩, h⟩ := hc
        exact h
/-- join of a tuple of texts -/
def rJoinT (K : PySem.W.Frag) : V → List V → Hp → VK → Prop := fun x vs H Q => ∃ z p ys, x = .str z ∧ vs = [.ref p] ∧ SqT K H p (ys.map V.str) ∧ (ys.map (·.length)).sum + ys.length * z.length ≤ 16777216 ∧ Q (.str (Txt.join z ys)) H
theorem joinT (K : PySem.W.Frag) (hK : X.K = K := by rfl) : MtR X "str.join" (rJoinT K) := by
  subst hK
  intro pins s σ H x vs v us Q I rx rv h
  obtain ⟨z, p, ys, rfl, rfl, hq, hz, q⟩ := h
  obtain ⟨t, rfl⟩ := rx
  obtain ⟨u, rfl, rp⟩ := vals1 rv
  cases rp
  obtain ⟨its, r, pl, _⟩ := I.tuple hq
  exact join_tuple pl (by simpa using strs_of r) hz fun t' k => ⟨.str (Txt.join z ys), H, I.tok k, ⟨t', rfl⟩, q⟩
end
theorem range_filt {xs : List V} {p : V → Bool} {f : V → V} : ((List.range xs.length).filter fun i => p ((xs[i]?).getD .non)).map (fun i => f ((xs[i]?).getD .non)) = (xs.filter p).map f := by
  induction xs with
  | nil => rfl
  | cons x xs ih =>
    rw [List.length_cons, List.range_succ_eq_map, List.filter_cons, List.filter_cons]
    have e : (((List.range xs.length).map Nat.succ).filter fun i => p (((x :: xs)[i]?).getD .non)).map (fun i => f (((x :: xs)[i]?).getD .non)) = (xs.filter p).map f := by
      rw [← ih, List.filter_map, List.map_map]; rfl
    have e0 : (((x :: xs)[0]?).getD .non) = x := rfl
    rw [e0]
    split
    · rw [List.map_cons, List.map_cons, e]; rfl
    · exact e
section
variable {k : Nat} {cap : List Nat} {g : TG} {tt : TT} {te : TE} {σ : St} {H : Hp} {Q : VK} {l : Addr}
/-- over a tuple, filtered, where an item's reading may lay new things -/
theorem comp_tupF {K : PySem.W.Frag} {a : Addr} {xs : List V} (hS : SqT K H a xs) (p : V → Bool) (f : V → V) (Good : St → Prop) (h0 : Good (capSt k cap σ)) (hl : H l = none) (hlen : xs.length < sizeLine)
    (ht : ∀ (i : Nat) x σ H1 ys (N : St → Hp → Prop), xs[i]? = some x → Good σ → Same H H1 → H1 l = some (.lst ys) → ys.length < sizeLine →
      (∀ σ' H3, Good σ' → But l H1 H3 → H3 l = some (.lst (if p x = true then ys ++ [f x] else ys)) → N σ' H3) → turnOf g tt te l x σ H1 N)
    (hd : ∀ H', Same H H' → H' l = some (.lst ((xs.filter p).map f)) → Q (.ref l) H') : GoalW (Itt K a) g tt te l (capSt k cap σ) (upd H l (.lst [])) Q := by
  refine comp_grow (Itt K a) xs.length (fun i => p ((xs[i]?).getD .non)) (fun i => f ((xs[i]?).getD .non)) Good h0 hl hlen (fun H' s => ⟨xs, hS.same s, Nat.le_refl _⟩) (fun i H' hi s => ⟨xs, xs[i], hS.same s, by simp [hi]⟩) (fun i v σ H1 H2 ys N hi gd s e hz y hN => ?_) (fun H' s e => hd H' s (by rw [e, range_filt]))
  obtain ⟨e1, hx⟩ := y
  subst e1
  have hx := hx xs (hS.same s)
  refine ht i v σ _ ys N hx gd s e hz fun σ' H3 g3 b e3 => hN σ' H3 g3 b ?_
  rw [e3, hx]; rfl
end
end L2

set_option Elab.async false
set_option linter.all false
set_option maxRecDepth 100000
set_option maxHeartbeats 4000000
namespace L2
open PySem PySem.Spec PyProof.Rows

/-! ### lists of pairs as tables -/
section
variable {κ : Type} [DecidableEq κ]
def valV (kvs : List (κ × V)) (k : κ) : Option V := (kvs.find? fun kv => decide (kv.1 = k)).map (·.2)
/-- in its place, or at the end -/
def putK (kvs : List (κ × V)) (k : κ) (v : V) : List (κ × V) :=
  if (kvs.any fun kv => decide (kv.1 = k)) = true then kvs.map (fun kv => if kv.1 = k then (kv.1, v) else kv) else kvs ++ [(k, v)]
def dropK (kvs : List (κ × V)) (k : κ) : List (κ × V) := kvs.filter fun kv => decide (kv.1 ≠ k)

theorem valV_nil {k : κ} : valV ([] : List (κ × V)) k = none := rfl
theorem valV_pos {p : κ × V} {r : List (κ × V)} {k : κ} (e : p.1 = k) : valV (p :: r) k = some p.2 := by simp [valV, List.find?_cons, e]
theorem valV_neg {p : κ × V} {r : List (κ × V)} {k : κ} (e : ¬ p.1 = k) : valV (p :: r) k = valV r k := by simp [valV, List.find?_cons, e]
theorem valV_any (k : κ) : ∀ kvs : List (κ × V), (kvs.any fun kv => decide (kv.1 = k)) = (valV kvs k).isSome
  | [] => rfl
  | p :: r => by
    rw [List.any_cons]
    by_cases e : p.1 = k
    · simp only [valV_pos e, decide_eq_true e, Bool.true_or, Option.isSome_some]
    · rw [valV_neg e, decide_eq_false e, Bool.false_or]; exact valV_any k r
theorem valV_map (k j : κ) (y : V) : ∀ kvs : List (κ × V), valV (kvs.map fun kv => if kv.1 = k then (kv.1, y) else kv) j = (valV kvs j).map fun x => if j = k then y else x
  | [] => rfl
  | p :: r => by
    have ih := valV_map k j y r
    rw [List.map_cons]
    by_cases h : p.1 = k
    · rw [if_pos h]
      by_cases e : p.1 = j
      · rw [valV_pos (p := (p.1, y)) e, valV_pos e, Option.map_some, if_pos (e.symm.trans h)]
      · rw [valV_neg (p := (p.1, y)) e, valV_neg e, ih]
    · rw [if_neg h]
      by_cases e : p.1 = j
      · rw [valV_pos (p := p) e, valV_pos e, Option.map_some, if_neg (fun z => h (e.trans z))]
      · rw [valV_neg (p := p) e, valV_neg e, ih]
theorem valV_snoc (k j : κ) (y : V) : ∀ kvs : List (κ × V), valV kvs k = none → valV (kvs ++ [(k, y)]) j = if j = k then some y else valV kvs j
  | [], _ => by
    by_cases e : k = j
    · rw [if_pos e.symm]; exact valV_pos (p := (k, y)) e
    · rw [if_neg (fun z => e z.symm)]; exact valV_neg (p := (k, y)) e
  | p :: r, hn => by
    rw [List.cons_append]
    have hk : ¬ p.1 = k := fun z => by rw [valV_pos z] at hn; cases hn
    rw [valV_neg hk] at hn
    have ih := valV_snoc k j y r hn
    by_cases e : p.1 = j
    · rw [valV_pos e, valV_pos e, if_neg (fun z => hk (e.trans z))]
    · rw [valV_neg e, valV_neg e, ih]
theorem valV_put (kvs : List (κ × V)) (k j : κ) (y : V) : valV (putK kvs k y) j = if j = k then some y else valV kvs j := by
  unfold putK
  by_cases a : (kvs.any fun kv => decide (kv.1 = k)) = true
  · rw [if_pos a, valV_map]
    rw [valV_any] at a
    by_cases e : j = k
    · obtain ⟨x, hx⟩ := Option.isSome_iff_exists.mp a
      rw [if_pos e, e, hx, Option.map_some, if_pos rfl]
    · rw [if_neg e]
      cases valV kvs j with
      | none => rfl
      | some x => rw [Option.map_some, if_neg e]
  · rw [if_neg a]
    refine valV_snoc k j y kvs ?_
    rw [valV_any] at a
    cases q : valV kvs k with
    | none => rfl
    | some x => rw [q] at a; exact (a rfl).elim
theorem length_putK (kvs : List (κ × V)) (k : κ) (v : V) : (putK kvs k v).length ≤ kvs.length + 1 := by
  unfold putK
  split
  · rw [List.length_map]; omega
  · rw [List.length_append, List.length_cons, List.length_nil]; omega
theorem putK_new {kvs : List (κ × V)} {k : κ} (v : V) (h : valV kvs k = none) : putK kvs k v = kvs ++ [(k, v)] := by
  unfold putK
  rw [valV_any, h]
  exact if_neg (by decide)

theorem RelO.isSome_eq {o : Option V} {u : Option Value} (r : RelO o u) : o.isSome = u.isSome := by
  cases o with
  | none => cases u with
    | none => rfl
    | some _ => exact (show False from r).elim
  | some _ => cases u with
    | none => exact (show False from r).elim
    | some _ => rfl
theorem RelO.getD {o : Option V} {u : Option Value} {d : V} {d' : Value} (r : RelO o u) (rd : RelV d d') : RelV (o.getD d) (u.getD d') := by
  cases o with
  | none => cases u with
    | none => exact rd
    | some _ => exact (show False from r).elim
  | some _ => cases u with
    | none => exact (show False from r).elim
    | some _ => exact r

/-- raw tables of the same keys -/
theorem KV.val {kvs : List (κ × V)} {vs : List (κ × Value)} (r : KV kvs vs) (k : κ) : RelO (valV kvs k) (valueAt vs k) := by
  unfold KV at r
  induction r with
  | nil => exact True.intro
  | @cons p q ps qs h t ih =>
    obtain ⟨h1, h2⟩ := h
    by_cases e : p.1 = k
    · have e' : q.1 = k := h1.symm.trans e
      have b : valueAt (q :: qs) k = some q.2 := by simp [valueAt, List.find?_cons, e']
      rw [valV_pos e, b]; exact h2
    · have e' : ¬ q.1 = k := fun z => e (h1.trans z)
      have b : valueAt (q :: qs) k = valueAt qs k := by simp [valueAt, List.find?_cons, e']
      rw [valV_neg e, b]; exact ih
theorem KV.any {kvs : List (κ × V)} {vs : List (κ × Value)} (r : KV kvs vs) (k : κ) : (kvs.any fun kv => decide (kv.1 = k)) = vs.any fun kv => decide (kv.1 = k) := by
  unfold KV at r
  induction r with
  | nil => rfl
  | cons h t ih => rw [List.any_cons, List.any_cons, ih, h.1]
theorem KV.repl {kvs : List (κ × V)} {vs : List (κ × Value)} (r : KV kvs vs) (k : κ) {y : V} {u : Value} (ry : RelV y u) :
    KV (kvs.map fun kv => if kv.1 = k then (kv.1, y) else kv) (vs.map fun kv => if kv.1 = k then (kv.1, u) else kv) := by
  unfold KV at r ⊢
  induction r with
  | nil => exact .nil
  | @cons p q ps qs h t ih =>
    rw [List.map_cons, List.map_cons]
    refine .cons ?_ ih
    obtain ⟨h1, h2⟩ := h
    by_cases e : p.1 = k
    · rw [if_pos e, if_pos (h1.symm.trans e)]; exact ⟨h1, ry⟩
    · rw [if_neg e, if_neg (fun z => e (h1.trans z))]; exact ⟨h1, h2⟩
theorem KV.put {kvs : List (κ × V)} {vs : List (κ × Value)} (r : KV kvs vs) (k : κ) {y : V} {u : Value} (ry : RelV y u) : KV (putK kvs k y) (stored vs k u) := by
  unfold putK stored
  rw [r.any k]
  by_cases e : (vs.any fun kv => decide (kv.1 = k)) = true
  · rw [if_pos e, if_pos e]; exact r.repl k ry
  · rw [if_neg e, if_neg e]; exact Paired.snoc r ⟨rfl, ry⟩
theorem KV.drop {kvs : List (κ × V)} {vs : List (κ × Value)} (r : KV kvs vs) (k : κ) : KV (dropK kvs k) (without vs k) := by
  unfold KV at r ⊢
  unfold dropK without
  induction r with
  | nil => exact .nil
  | @cons p q ps qs h t ih =>
    obtain ⟨h1, h2⟩ := h
    rw [List.filter_cons, List.filter_cons]
    by_cases e : p.1 = k
    · have a : ¬ decide (p.1 ≠ k) = true := by simp [e]
      have b : ¬ decide (q.1 ≠ k) = true := by simp [h1.symm.trans e]
      rw [if_neg a, if_neg b]; exact ih
    · have e' : ¬ q.1 = k := fun z => e (h1.trans z)
      have a : decide (p.1 ≠ k) = true := by simp [e]
      have b : decide (q.1 ≠ k) = true := by simp [e']
      rw [if_pos a, if_pos b]; exact .cons ⟨h1, h2⟩ ih
theorem KV.keys {kvs : List (κ × V)} {vs : List (κ × Value)} (r : KV kvs vs) : kvs.map (·.1) = vs.map (·.1) := by
  unfold KV at r
  induction r with
  | nil => rfl
  | cons h t ih => rw [List.map_cons, List.map_cons, ih, h.1]
theorem KV.length {kvs : List (κ × V)} {vs : List (κ × Value)} (r : KV kvs vs) : kvs.length = vs.length := Paired.length r
theorem dropK_le (kvs : List (κ × V)) (k : κ) : (dropK kvs k).length ≤ kvs.length := List.length_filter_le _ _
end


/-! ### a tracked dict, its keys ints and texts or tuples of these -/
theorem kV_is {P : Program} {w : World} {k : Key} {u : Value} (r : RelV (kV k) u) : (mixKind P w).is k u = true := by
  cases k with
  | inl i => obtain ⟨t, e⟩ := (show ∃ t, u = Value.int i t from r); subst e; exact mixKind_int P w i t
  | inr x => obtain ⟨t, e⟩ := (show ∃ t, u = Value.str x t from r); subst e; exact mixKind_str P w x t
theorem kV_inj {a b : Key} (e : kV a = kV b) : a = b := by
  cases a with
  | inl i => cases b with
    | inl j => have e' : V.int i = V.int j := e; injection e' with e'; rw [e']
    | inr y => exact nomatch (show V.int i = V.str y from e)
  | inr x => cases b with
    | inl j => exact nomatch (show V.str x = V.int j from e)
    | inr y => have e' : V.str x = V.str y := e; injection e' with e'; rw [e']
theorem kVs_inj : ∀ {a b : List Key}, a.map kV = b.map kV → a = b
  | [], [], _ => rfl
  | [], _ :: _, e => by simp at e
  | _ :: _, [], e => by simp at e
  | x :: xs, y :: ys, e => by
    rw [List.map_cons, List.map_cons] at e
    injection e with e1 e2
    rw [kV_inj e1, kVs_inj e2]
theorem items_are {P : Program} {w : World} : ∀ {ks : List Key} {us : List Value}, Vals (ks.map kV) us → ItemsAre (mixKind P w) ks us
  | [], _, r => by rw [List.map_nil] at r; cases r; exact .nil
  | k :: ks, _, r => by
    rw [List.map_cons] at r
    cases r with
    | cons h t => exact .cons (kV_is h) (items_are t)

/-- raw entries of a dict with tuple keys -/
abbrev KT (H : Hp) : List (List Key × V) → List (List Key × Addr × Value) → Prop := Paired fun p q => p.1 = q.1 ∧ H q.2.1 = some (.tup (p.1.map kV)) ∧ RelV p.2 q.2.2
theorem KT.val {H : Hp} {kvs : List (List Key × V)} {xs : List (List Key × Addr × Value)} (r : KT H kvs xs) (k : List Key) : RelO (valV kvs k) ((atKey xs k).map (·.2)) := by
  induction r with
  | nil => exact True.intro
  | @cons p q ps qs h t ih =>
    obtain ⟨h1, _, h2⟩ := h
    by_cases e : p.1 = k
    · have e' : q.1 = k := h1.symm.trans e
      have b : atKey (q :: qs) k = some q.2 := by simp [atKey, List.find?_cons, e']
      rw [valV_pos e, b]; exact h2
    · have e' : ¬ q.1 = k := fun z => e (h1.trans z)
      have b : atKey (q :: qs) k = atKey qs k := by simp [atKey, List.find?_cons, e']
      rw [valV_neg e, b]; exact ih
theorem KT.repl {H : Hp} {kvs : List (List Key × V)} {xs : List (List Key × Addr × Value)} (r : KT H kvs xs) (k : List Key) {y : V} {u : Value} (ry : RelV y u) :
    KT H (kvs.map fun kv => if kv.1 = k then (kv.1, y) else kv) (xs.map (putAt k u)) := by
  induction r with
  | nil => exact .nil
  | @cons p q ps qs h t ih =>
    rw [List.map_cons, List.map_cons]
    refine .cons ?_ ih
    obtain ⟨h1, h2, h3⟩ := h
    unfold putAt
    by_cases e : p.1 = k
    · rw [if_pos e, if_pos (h1.symm.trans e)]; exact ⟨h1, h2, ry⟩
    · rw [if_neg e, if_neg (fun z => e (h1.trans z))]; exact ⟨h1, h2, h3⟩
theorem KT.put {H : Hp} {kvs : List (List Key × V)} {xs : List (List Key × Addr × Value)} (r : KT H kvs xs) (k : List Key) {b : Addr} {y : V} {u : Value} (hb : H b = some (.tup (k.map kV))) (ry : RelV y u) :
    KT H (putK kvs k y) (storedH xs k b u) := by
  have e : (kvs.any fun kv => decide (kv.1 = k)) = (atKey xs k).isSome := by
    rw [valV_any, (r.val k).isSome_eq, Option.isSome_map]
  unfold putK storedH
  rw [e]
  by_cases q : (atKey xs k).isSome = true
  · rw [if_pos q, if_pos q]; exact r.repl k ry
  · rw [if_neg q, if_neg q]; exact Paired.snoc r ⟨rfl, hb, ry⟩
theorem KT.keeps {H H' : Hp} {kvs : List (List Key × V)} {xs : List (List Key × Addr × Value)} (r : KT H kvs xs) (ht : ∀ b ys, H b = some (.tup ys) → H' b = some (.tup ys)) : KT H' kvs xs :=
  Paired.mapP r fun _ _ z => ⟨z.1, ht _ _ z.2.1, z.2.2⟩

section
variable {P : Program} {w : World} {H : Hp} {h : Heap} {a : Addr}
theorem rd_of {u : HO} (ok : HOk P w H h) (e : Rd H a u) : ObjOk P w H h a u := e.ok ok
theorem dk_rd {kvs : List (Key × V)} (ok : HOk P w H h) (e : Rd H a (.dK kvs)) : kvs.length ≤ sizeLine ∧ (a == sysModules) = false ∧ ∃ vs, KV kvs vs ∧ h.DictOf (mixKind P w) a vs :=
  show ObjOk P w H h a (.dK kvs) from rd_of ok e
theorem dk_of {kvs : List (Key × V)} (ok : HOk P w H h) (e : H a = some (.dK kvs)) : kvs.length ≤ sizeLine ∧ (a == sysModules) = false ∧ ∃ vs, KV kvs vs ∧ h.DictOf (mixKind P w) a vs := dk_rd ok (.inl e)
/-- a tracked tuple of ints and texts is a key -/
theorem key_of {ks : List Key} (ok : HOk P w H h) (e : H a = some (.tup (ks.map kV))) : (tupleKind (mixKind P w)).is h ks a := by
  obtain ⟨_, its, r, o, h1, h2, n, h3⟩ := (show ObjOk P w H h a (.tup (ks.map kV)) from ok a _ e)
  exact ⟨o, its.toArray, n, h1, h2, h3, by simpa using items_are r⟩
theorem dt_rd {kvs : List (List Key × V)} (ok : HOk P w H h) (e : Rd H a (.dT kvs)) : kvs.length ≤ sizeLine ∧ (a == sysModules) = false ∧
    ∃ xs, KT H kvs xs ∧ h.DictOfH (tupleKind (mixKind P w)) a xs := by
  obtain ⟨z, y, xs, r, o, es, ep, h1, h2, h3, h4, h5⟩ := (show ObjOk P w H h a (.dT kvs) from rd_of ok e)
  refine ⟨z, y, xs, r, o, es, ep, h1, h2, h3, h4, fun x hx => ?_, h5⟩
  have all : ∀ {l : List (List Key × V)} {m : List (List Key × Addr × Value)}, KT H l m → ∀ x ∈ m, (tupleKind (mixKind P w)).is h x.1 x.2.1 := by
    intro l m q
    induction q with
    | nil => intro x hx; exact nomatch hx
    | @cons p q ps qs hq t ih =>
      intro x hx
      rcases List.mem_cons.mp hx with e | hx
      · subst e
        exact key_of ok (by rw [← hq.1]; exact hq.2.1)
      · exact ih x hx
  exact all r x hx
theorem dt_of {kvs : List (List Key × V)} (ok : HOk P w H h) (e : H a = some (.dT kvs)) : kvs.length ≤ sizeLine ∧ (a == sysModules) = false ∧
    ∃ xs, KT H kvs xs ∧ h.DictOfH (tupleKind (mixKind P w)) a xs := dt_rd ok (.inl e)
end

/-- what the dict at a holds at the key y -/
def DGet (H : Hp) (a : Addr) (y : V) (r : Option V) : Prop :=
  (∃ kvs k, Rd H a (.dK kvs) ∧ y = kV k ∧ r = valV kvs k) ∨ ∃ kvs k b, Rd H a (.dT kvs) ∧ y = .ref b ∧ H b = some (.tup (k.map kV)) ∧ r = valV kvs k
/-- the heap behind a[y] = v -/
def DPut (H : Hp) (a : Addr) (y v : V) (H' : Hp) : Prop :=
  (∃ kvs k, H a = some (.dK kvs) ∧ y = kV k ∧ kvs.length < sizeLine ∧ H' = upd H a (.dK (putK kvs k v))) ∨
  ∃ kvs k b, H a = some (.dT kvs) ∧ y = .ref b ∧ H b = some (.tup (k.map kV)) ∧ kvs.length < sizeLine ∧ H' = upd H a (.dT (putK kvs k v))
theorem DGet.k {H : Hp} {a : Addr} {kvs : List (Key × V)} {k : Key} (e : H a = some (.dK kvs)) : DGet H a (kV k) (valV kvs k) := .inl ⟨kvs, k, .inl e, rfl, rfl⟩
theorem DGet.t {H : Hp} {a b : Addr} {kvs : List (List Key × V)} {k : List Key} (e : H a = some (.dT kvs)) (eb : H b = some (.tup (k.map kV))) : DGet H a (.ref b) (valV kvs k) := .inr ⟨kvs, k, b, .inl e, rfl, eb, rfl⟩
theorem DPut.k {H : Hp} {a : Addr} {kvs : List (Key × V)} {k : Key} {v : V} (e : H a = some (.dK kvs)) (hl : kvs.length < sizeLine) : DPut H a (kV k) v (upd H a (.dK (putK kvs k v))) := .inl ⟨kvs, k, e, rfl, hl, rfl⟩
theorem DPut.t {H : Hp} {a b : Addr} {kvs : List (List Key × V)} {k : List Key} {v : V} (e : H a = some (.dT kvs)) (eb : H b = some (.tup (k.map kV))) (hl : kvs.length < sizeLine) :
    DPut H a (.ref b) v (upd H a (.dT (putK kvs k v))) := .inr ⟨kvs, k, b, e, rfl, eb, hl, rfl⟩


section
variable {X : Cx} {pins : List (Addr × Obj)} {σ : St} {H : Hp} {s : Shared} {a : Addr} {y v : V} {u r : Value} {o : Option V} {A : Around} {E : Value → Shared → Prop}

theorem Inv.big (I : Inv X pins σ H s) : sysModules < s.heap.objs.size := by
  have h : mainGlobals < s.heap.objs.size := (I.mod.glob.keeps I.bk).lt
  exact Nat.lt_trans (by decide) h

/-- d[y], there -/
theorem d_getItem {Q : Value → Shared → Prop} (hu : A.units + 1 < cLine) (I : Inv X pins σ H s) (g : DGet H a y (some v)) (ry : RelV y u) (h : ∀ w' s', Inv X pins σ H s' → RelV v w' → Q w' s') :
    wpAny (model X.prog X.w) A (getItem (.ref a) u) Q E s := by
  rcases g with ⟨kvs, k, e, ey, l⟩ | ⟨kvs, k, b, e, ey, eb, l⟩
  · subst ey
    obtain ⟨z, hd, vs, rel, dd⟩ := dk_rd I.hok e
    obtain ⟨w', hw, rw'⟩ := RelO.some_of (v := v) (o := valueAt vs k) (by rw [l]; exact rel.val k)
    exact wpAny_getItem_of (kV_is ry) dd.mapOf hw (h w' _ (I.tok _) rw')
  · subst ey
    cases (show u = Value.ref b from ry)
    obtain ⟨z, hd, xs, rel, dd⟩ := dt_rd I.hok e
    obtain ⟨w', hw, rw'⟩ := RelO.some_of (v := v) (o := (atKey xs k).map (·.2)) (by rw [l]; exact rel.val k)
    obtain ⟨p, hp, hp2⟩ := Option.map_eq_some_iff.mp hw
    refine wpAny_getItem_heap (tupleKind_room_in1 hu) (key_of I.hok eb) dd hp ?_
    rw [hp2]
    exact h w' _ (I.tok _) rw'
/-- y in d -/
theorem d_in {Q : Value → Shared → Prop} (hu : A.units + 1 < cLine) (I : Inv X pins σ H s) (g : DGet H a y o) (ry : RelV y u) (h : ∀ s', Inv X pins σ H s' → Q (.bool o.isSome) s') :
    wpAny (model X.prog X.w) A (compareOp .In u (.ref a)) Q E s := by
  rcases g with ⟨kvs, k, e, ey, l⟩ | ⟨kvs, k, b, e, ey, eb, l⟩
  · subst ey
    obtain ⟨z, hd, vs, rel, dd⟩ := dk_rd I.hok e
    refine wpAny_in_of (kV_is ry) hd dd.mapOf ?_
    rw [← (rel.val k).isSome_eq, ← l]
    exact h _ (I.tok _)
  · subst ey
    cases (show u = Value.ref b from ry)
    obtain ⟨z, hd, xs, rel, dd⟩ := dt_rd I.hok e
    refine wpAny_in_heap (tupleKind_room_in1 hu) (key_of I.hok eb) hd dd ?_
    have q := (rel.val k).isSome_eq
    rw [Option.isSome_map] at q
    rw [← q, ← l]
    exact h _ (I.tok _)
theorem d_notIn {Q : Value → Shared → Prop} (hu : A.units + 1 < cLine) (I : Inv X pins σ H s) (g : DGet H a y o) (ry : RelV y u) (h : ∀ s', Inv X pins σ H s' → Q (.bool (!o.isSome)) s') :
    wpAny (model X.prog X.w) A (compareOp .NotIn u (.ref a)) Q E s := by
  rcases g with ⟨kvs, k, e, ey, l⟩ | ⟨kvs, k, b, e, ey, eb, l⟩
  · subst ey
    obtain ⟨z, hd, vs, rel, dd⟩ := dk_rd I.hok e
    refine wpAny_notIn_of (kV_is ry) hd dd.mapOf ?_
    rw [← (rel.val k).isSome_eq, ← l]
    exact h _ (I.tok _)
  · subst ey
    cases (show u = Value.ref b from ry)
    obtain ⟨z, hd, xs, rel, dd⟩ := dt_rd I.hok e
    refine wpAny_notIn_heap (tupleKind_room_in1 hu) (key_of I.hok eb) hd dd ?_
    have q := (rel.val k).isSome_eq
    rw [Option.isSome_map] at q
    rw [← q, ← l]
    exact h _ (I.tok _)
/-- a dict's object is replaced -/
theorem d_write {h' : Heap} {t' : Nat} {ob : HO} (I : Inv X pins σ H s) (mu : Mut (H a)) (hs : Heap.SameBut a s.heap h') (he : ∃ q, h'.get? a = some q) (new : ObjOk X.prog X.w (upd H a ob) h' a ob) :
    Inv X pins σ (upd H a ob) { s with heap := h', toks := t' } :=
  I.write (x := a) (e := a) mu (.inl rfl) (fun b q hb z => (hs.2 b hb).trans z) he new
theorem dk_new {P : Program} {w : World} {H' : Hp} {h' : Heap} {kvs : List (Key × V)} {vs : List (Key × Value)} (z : kvs.length ≤ sizeLine) (hd : (a == sysModules) = false) (rel : KV kvs vs) (dd : h'.DictOf (mixKind P w) a vs) :
    ObjOk P w H' h' a (.dK kvs) := ⟨z, hd, vs, rel, dd⟩
/-- d[y] = v -/
theorem d_setItem {H' : Hp} {Q : Unit → Shared → Prop} (hu : A.units + 1 < cLine) (I : Inv X pins σ H s) (g : DPut H a y v H') (ry : RelV y u) (rv : RelV v r) (h : ∀ s', Inv X pins σ H' s' → Q () s') :
    wpAny (model X.prog X.w) A (setItem (.ref a) u r) Q E s := by
  rcases g with ⟨kvs, k, e, ey, l, eH⟩ | ⟨kvs, k, b, e, ey, eb, l, eH⟩
  · subst ey eH
    obtain ⟨z, hd, vs, rel, dd⟩ := dk_of I.hok e
    have hz : vs.length ≤ sizeLine := by rw [← rel.length]; exact z
    have hl : (putK kvs k v).length ≤ sizeLine := by have := length_putK kvs k v; omega
    refine wpAny_setItem_pairs (hsz := hz) (kV_is ry) dd fun h' dd' hs => h _ ?_
    have he : ∃ q, h'.get? a = some q := let ⟨q, _, _, hq, _⟩ := dd'; ⟨q, hq⟩
    exact d_write I (by rw [e]; exact True.intro) hs he (dk_new hl hd (rel.put k rv) dd')
  · subst ey eH
    cases (show u = Value.ref b from ry)
    obtain ⟨z, hd, xs, rel, dd⟩ := dt_of I.hok e
    have hz : xs.length ≤ sizeLine := by rw [← Paired.length rel]; exact z
    have hl : (putK kvs k v).length ≤ sizeLine := by have := length_putK kvs k v; omega
    refine wpAny_setItem_heap (hsz := hz) (tupleKind_room_in1 hu) (key_of I.hok eb) dd fun h' dd' hs => h _ ?_
    obtain ⟨q, es, ep, hq, h2, h3, h4, _, h5⟩ := dd'
    refine d_write I (by rw [e]; exact True.intro) hs ⟨q, hq⟩ ⟨hl, hd, _, (rel.put k eb rv).keeps fun c ys ec => ?_, q, es, ep, hq, h2, h3, h4, h5⟩
    rw [upd_ne (ne_of ec e (fun z => nomatch z))]
    exact ec
end

section
variable {X : Cx} {pins : List (Addr × Obj)} {σ : St} {H : Hp} {s : Shared} {a : Addr} {kvs : List (Key × V)} {k : Key} {u : Value} {A : Around} {E : Value → Shared → Prop}
/-- del d[k] -/
theorem d_delItem {Q : Unit → Shared → Prop} (I : Inv X pins σ H s) (e : H a = some (.dK kvs)) (ry : RelV (kV k) u) (l : (valV kvs k).isSome = true) (h : ∀ s', Inv X pins σ (upd H a (.dK (dropK kvs k))) s' → Q () s') :
    wpAny (model X.prog X.w) A (delItem (.ref a) u) Q E s := by
  obtain ⟨z, hd, vs, rel, dd⟩ := dk_of I.hok e
  refine wpAny_delItem_slot dd.typeIs (by decide) PySem.F.slot_dict_delitem
    (call_meetsIn PySem.F.slot_dict_delitem dd.typeIs PySem.F.entry_dict_delitem (PySem.F.args_dict_delitem_2 _ _) (meets_dict_delitem_pairs (mixKind X.prog X.w) a (kV_is ry)) ⟨vs, dd, by rw [← rel.length]; exact z, by rw [← (rel.val k).isSome_eq]; exact l, fun h' dd' hs => h _ ?_⟩)
  have he : ∃ q, h'.get? a = some q := let ⟨q, _, _, hq, _⟩ := dd'; ⟨q, hq⟩
  exact d_write I (by rw [e]; exact True.intro) hs he (dk_new (Nat.le_trans (dropK_le kvs k) z) hd (rel.drop k) dd')
/-- d.pop(k[, x]), there -/
theorem d_pop {v : V} {more : List Value} {Q : Value → Shared → Prop} (I : Inv X pins σ H s) (e : H a = some (.dK kvs)) (ry : RelV (kV k) u) (l : valV kvs k = some v) (hm : more = [] ∨ ∃ x, more = [x])
    (h : ∀ w' s', Inv X pins σ (upd H a (.dK (dropK kvs k))) s' → RelV v w' → Q w' s') : wpAny (model X.prog X.w) A (call (.builtin "dict.pop") (.ref a :: u :: more)) Q E s := by
  obtain ⟨z, hd, vs, rel, dd⟩ := dk_of I.hok e
  obtain ⟨w', hw, rw'⟩ := RelO.some_of (v := v) (o := valueAt vs k) (by rw [← l]; exact rel.val k)
  have hp : (keyPart u).isSome = true := by
    cases k with
    | inl i => obtain ⟨t, q⟩ := (show ∃ t, u = Value.int i t from ry); subst q; rfl
    | inr x => obtain ⟨t, q⟩ := (show ∃ t, u = Value.str x t from ry); subst q; rfl
  have ha : argsOk "dict.pop" ⟨.ref a :: u :: more, []⟩ := by
    rcases hm with q | ⟨x, q⟩
    · subst q; exact PySem.F.args_dict_pop_2 _ _
    · subst q; exact PySem.F.args_dict_pop_3 _ _ _
  refine call_meetsIn PySem.F.slot_dict_pop dd.typeIs PySem.F.entry_dict_pop ha (meets_dict_pop_there (mixKind X.prog X.w) a (kV_is ry) more hm hp)
    ⟨vs, w', dd, by rw [← rel.length]; exact z, hw, fun h' dd' hs => h w' _ ?_ rw'⟩
  have he : ∃ q, h'.get? a = some q := let ⟨q, _, _, hq, _⟩ := dd'; ⟨q, hq⟩
  exact d_write I (by rw [e]; exact True.intro) hs he (dk_new (Nat.le_trans (dropK_le kvs k) z) hd (rel.drop k) dd')
/-- d.pop(k, x), not there -/
theorem d_popD {r : Value} {Q : Value → Shared → Prop} (I : Inv X pins σ H s) (e : H a = some (.dK kvs)) (ry : RelV (kV k) u) (l : valV kvs k = none) (h : ∀ s', Inv X pins σ H s' → Q r s') :
    wpAny (model X.prog X.w) A (call (.builtin "dict.pop") [.ref a, u, r]) Q E s := by
  obtain ⟨z, hd, vs, rel, dd⟩ := dk_of I.hok e
  have hn : valueAt vs k = none := RelO.none_of (by rw [← l]; exact rel.val k)
  have hp : (keyPart u).isSome = true := by
    cases k with
    | inl i => obtain ⟨t, q⟩ := (show ∃ t, u = Value.int i t from ry); subst q; rfl
    | inr x => obtain ⟨t, q⟩ := (show ∃ t, u = Value.str x t from ry); subst q; rfl
  exact call_meetsIn PySem.F.slot_dict_pop dd.typeIs PySem.F.entry_dict_pop (PySem.F.args_dict_pop_3 _ _ _) (meets_dict_pop_default (mixKind X.prog X.w) a (kV_is ry) hd hp r) ⟨vs, dd, hn, h _ (I.tok _)⟩
/-- d.clear() -/
theorem d_clear {Q : Value → Shared → Prop} (I : Inv X pins σ H s) (e : H a = some (.dK kvs)) (h : ∀ s', Inv X pins σ (upd H a (.dK [])) s' → Q .none s') : wpAny (model X.prog X.w) A (call (.builtin "dict.clear") [.ref a]) Q E s := by
  obtain ⟨z, hd, vs, rel, dd⟩ := dk_of I.hok e
  refine call_meetsIn PySem.F.slot_dict_clear dd.typeIs PySem.F.entry_dict_clear (PySem.F.args_dict_clear_1 _) (meets_dict_clear (mixKind X.prog X.w) a) ⟨vs, dd, by rw [← rel.length]; exact z, fun h' dd' hs => h _ ?_⟩
  have he : ∃ q, h'.get? a = some q := let ⟨q, _, _, hq, _⟩ := dd'; ⟨q, hq⟩
  exact d_write (t' := s.toks) I (by rw [e]; exact True.intro) hs he (dk_new (Nat.zero_le _) hd .nil dd')
/-- len(d) -/
theorem d_len {Q : Value → Shared → Prop} (I : Inv X pins σ H s) (e : Rd H a (.dK kvs)) (h : ∀ t s', Inv X pins σ H s' → Q (.int kvs.length t) s') : wpAny (model X.prog X.w) A (call (.builtin "len") [.ref a]) Q E s := by
  obtain ⟨z, hd, vs, rel, dd⟩ := dk_rd I.hok e
  refine call_len_dict hd dd (by rw [← rel.length]; rw [sizeLine_eq] at z; omega) ?_
  rw [← rel.length]
  exact h _ _ (I.tok _)
/-- if d -/
theorem d_truth {Q : Bool → Shared → Prop} (I : Inv X pins σ H s) (e : Rd H a (.dK kvs)) (h : ∀ s', Inv X pins σ H s' → Q (!kvs.isEmpty) s') : wpAny (model X.prog X.w) A (truthy (.ref a)) Q E s := by
  obtain ⟨z, hd, vs, rel, dd⟩ := dk_rd I.hok e
  refine wpAny_truthy_dict hd dd (by rw [← rel.length]; rw [sizeLine_eq] at z; omega) ?_
  have q : kvs.isEmpty = vs.isEmpty := by cases rel <;> rfl
  rw [← q]
  exact h _ (I.tok _)
end


/-! ### readings and rules -/
/-- the element of a subscription, not a slice -/
def NoSl (i : Expr) : Prop := ∀ ov iv, subscripted i false ov iv = operate [ov, iv] (getItem ov iv)
theorem subD_of {prog : Program} {w : World} {A : Around} {E : Value → Shared → Prop} {s : Shared} {env : Env} {value slice : Expr} {pos : Pos} {T id : String} {Q : Value → Shared → Prop}
    (hl : typeLookup (.type T) "__getitem__" = pure (some (.builtin id))) (hs : NoSl slice)
    (h : wpAny (model prog w) A (eval value env) (fun o s₁ => wpAny (model prog w) A (eval slice env) (fun i s₂ => s₂.TypeIs o T ∧ wpAny (model prog w) A (getItem o i) Q E s₂) E s₁) E s) :
    wpAny (model prog w) A (eval (.Subscript value slice pos) env) Q E s := by
  refine Subscript_ (wpAny_mono h (fun o s₁ h₁ => wpAny_mono h₁ (fun i s₂ h₂ => ?_) fun _ _ x => x) fun _ _ x => x)
  obtain ⟨hT, h₂⟩ := h₂
  unfold subscriptTail
  refine wpAny_bind ?_
  rw [getitemInPython_of_ne hT.not_modules]
  refine wpAny_bind (wpAny_specialOf hT hl ?_)
  have fin : wpAny (model prog w) A (subscripted slice false o i) (fun r s₃ => wpAny (model prog w) A (letTemporaryGo value o r >>= fun _ => pure r) Q E s₃) E s₂ := by
    rw [hs o i]
    exact wpAny_operating (wpAny_mono h₂ (fun r s₃ h₃ => wpAny_bind (wpAny_letTemporaryGo (wpAny_pure h₃))) fun _ _ x => x)
  first
    | exact wpAny_pure (wpAny_bind fin)
    | exact wpAny_bind (wpAny_pure (wpAny_bind fin))
    | exact wpAny_bind fin

theorem dict_typeIs {X : Cx} {pins : List (Addr × Obj)} {σ : St} {H : Hp} {s : Shared} {a : Addr} {y : V} {o : Option V} (I : Inv X pins σ H s) (g : DGet H a y o) : s.TypeIs (.ref a) "dict" := by
  rcases g with ⟨kvs, k, e, _, _⟩ | ⟨kvs, k, b, e, _, _, _⟩
  · obtain ⟨_, _, vs, _, dd⟩ := dk_rd I.hok e
    exact dd.typeIs
  · obtain ⟨_, _, xs, _, dd⟩ := dt_rd I.hok e
    exact dd.typeIs
theorem dict_noDict {X : Cx} {pins : List (Addr × Obj)} {σ : St} {H : Hp} {s : Shared} {a : Addr} {y : V} {o : Option V} (I : Inv X pins σ H s) (g : DGet H a y o) :
    ∀ b, Value.ref a = .ref b → ∃ ob, s.heap.get? b = some ob ∧ ob.dict = none := fun b q => by
  cases q
  rcases g with ⟨kvs, k, e, _, _⟩ | ⟨kvs, k, b, e, _, _, _⟩
  · obtain ⟨_, _, vs, _, ob, _, _, h1, h2, _⟩ := dk_rd I.hok e
    exact ⟨ob, h1, h2.2.1⟩
  · obtain ⟨_, _, xs, _, ob, _, _, h1, h2, _⟩ := dt_rd I.hok e
    exact ⟨ob, h1, h2.2.1⟩

/-- d[y] -/
def tDGet (td ty : TE) : TE := fun σ H Q => td σ H fun x H1 => ty σ H1 fun y H2 => ∃ a v, x = .ref a ∧ DGet H2 a y (some v) ∧ Q v H2
/-- y in d, y not in d -/
def tDIn (ty td : TE) : TE := fun σ H Q => ty σ H fun y H1 => td σ H1 fun x H2 => ∃ a o, x = .ref a ∧ DGet H2 a y o ∧ Q (.bl o.isSome) H2
def tDNotIn (ty td : TE) : TE := fun σ H Q => ty σ H fun y H1 => td σ H1 fun x H2 => ∃ a o, x = .ref a ∧ DGet H2 a y o ∧ Q (.bl (!o.isSome)) H2
/-- d[y] = v -/
def sDPut (td ty tv : TE) : TS := fun D σ H => tv σ H fun v H1 => td σ H1 fun x H2 => ty σ H2 fun y H3 => ∃ a H4, x = .ref a ∧ DPut H3 a y v H4 ∧ D.nx σ H4
/-- d[y] op= v -/
def sDAug (td ty tv : TE) (rd : V → V → Hp → VK → Prop) : TS := fun D σ H => td σ H fun x H1 => ty σ H1 fun y H2 => ∃ a v, x = .ref a ∧ DGet H2 a y (some v) ∧
  tv σ H2 fun y2 H3 => rd v y2 H3 fun z H4 => ∃ H5, DPut H4 a y z H5 ∧ D.nx σ H5
/-- del d[y] -/
def sDDel (td ty : TE) : TS := fun D σ H => td σ H fun x H1 => ty σ H1 fun y H2 => ∃ a kvs k, x = .ref a ∧ H2 a = some (.dK kvs) ∧ y = kV k ∧ (valV kvs k).isSome = true ∧ D.nx σ (upd H2 a (.dK (dropK kvs k)))

section
variable {X : Cx} {o i e value : Expr} {pos pos' tpos : Pos} {td ty tv : TE}
theorem pe_dget (hu : X.A.units + 1 < cLine) (ho : PE X o td) (hi : PE X i ty) (hs : NoSl i) : PE X (.Subscript o i pos) (tDGet td ty) := by
  intro pins s σ H Q I h
  refine subD_of PySem.F.slot_dict_getitem.lookup hs (thn (ho pins s σ H _ I h) fun u s1 ⟨x, H1, I1, rx, q1⟩ => thn (hi pins s1 σ H1 _ I1 q1) fun iv s2 ⟨y, H2, I2, ry, a, v, ex, g, q2⟩ => ?_)
  subst ex
  obtain rfl : u = Value.ref a := rx
  exact ⟨dict_typeIs I2 g, d_getItem hu I2 g ry fun w' s3 I3 rw' => ⟨v, H2, I3, rw', q2⟩⟩
theorem pc_din (hu : X.A.units + 1 < cLine) (hi : PE X i ty) (ho : PE X o td) : PC X .In i o (tDIn ty td) := by
  intro pins s σ H Q I h
  refine thn (hi pins s σ H _ I h) fun iv s1 ⟨y, H1, I1, ry, q1⟩ => thn (ho pins s1 σ H1 _ I1 q1) fun u s2 ⟨x, H2, I2, rx, a, ov, ex, g, q2⟩ => ?_
  subst ex
  obtain rfl : u = Value.ref a := rx
  exact d_in hu I2 g ry fun s3 I3 => ⟨.bl ov.isSome, H2, I3, rfl, q2⟩
theorem pc_dnotin (hu : X.A.units + 1 < cLine) (hi : PE X i ty) (ho : PE X o td) : PC X .NotIn i o (tDNotIn ty td) := by
  intro pins s σ H Q I h
  refine thn (hi pins s σ H _ I h) fun iv s1 ⟨y, H1, I1, ry, q1⟩ => thn (ho pins s1 σ H1 _ I1 q1) fun u s2 ⟨x, H2, I2, rx, a, ov, ex, g, q2⟩ => ?_
  subst ex
  obtain rfl : u = Value.ref a := rx
  exact d_notIn hu I2 g ry fun s3 I3 => ⟨.bl (!ov.isSome), H2, I3, rfl, q2⟩
theorem ps_dput (hu : X.A.units + 1 < cLine) (ho : PE X o td) (hi : PE X i ty) (hv : PE X value tv) (hs : swapsWith value (some (.Subscript o i pos')) pos.line X.env = pure false) :
    PS X (.Assign [.Subscript o i pos'] value pos) (sDPut td ty tv) := by
  intro pins s σ H D I h
  refine wpAny_Assign_Subscript (thn (hv pins s σ H _ I h) fun r s1 ⟨v, H1, I1, rv, q1⟩ => thn (ho pins s1 σ H1 _ I1 q1) fun u s2 ⟨x, H2, I2, rx, q2⟩ => thn (hi pins s2 σ H2 _ I2 q2) fun iv s3 ⟨y, H3, I3, ry, a, H4, ex, g, q3⟩ => ?_) hs
  subst ex
  obtain rfl : u = Value.ref a := rx
  exact d_setItem hu I3 g ry rv fun s4 I4 => ⟨σ, H4, I4, q3⟩
theorem ps_daug {op : Operator} {rd : V → V → Hp → VK → Prop} (hu : X.A.units + 1 < cLine) (ho : PE X o td) (hi : PE X i ty) (hv : PE X value tv) (hop : InOp X op rd)
    (ha : ∀ ov iv new, augStore i ov iv new = (do holding [new, ov, iv] (setItem ov iv new); release [new, ov, iv] []; pure .next)) : PS X (.AugAssign (.Subscript o i tpos) op value pos) (sDAug td ty tv rd) := by
  intro pins s σ H D I h
  refine wpAny_AugAssign_SubscriptAny (thn (ho pins s σ H _ I h) fun u s1 ⟨x, H1, I1, rx, q1⟩ => thn (hi pins s1 σ H1 _ I1 q1) fun iv s2 ⟨y, H2, I2, ry, a, v, ex, g, q2⟩ => ?_) ha
  subst ex
  obtain rfl : u = Value.ref a := rx
  refine d_getItem hu I2 g ry fun w' s3 I3 rw' => thn (hv pins s3 σ H2 _ I3 q2) fun w2 s4 ⟨y2, H3, I4, ry2, q3⟩ => thn (hop pins s4 σ H3 v y2 w' w2 _ I4 rw' ry2 q3) fun w3 s5 ⟨z, H4, I5, rz, H5, g5, q4⟩ => ?_
  exact d_setItem hu I5 g5 ry rz fun s6 I6 => ⟨σ, H5, I6, q4⟩
theorem ps_ddel (ho : PE X o td) (hi : PE X i ty) : PS X (.Delete [.Subscript o i tpos] pos) (sDDel td ty) := by
  intro pins s σ H D I h
  refine wpAny_Delete (wpAny_deleteEach_cons (wpAny_delete_Subscript (thn (ho pins s σ H _ I h) fun u s1 ⟨x, H1, I1, rx, q1⟩ => thn (hi pins s1 σ H1 _ I1 q1) fun iv s2 ⟨y, H2, I2, ry, a, kvs, k, ex, e, ey, l, q2⟩ => ?_)))
  subst ex ey
  obtain rfl : u = Value.ref a := rx
  exact d_delItem I2 e ry l fun s3 I3 => wpAny_deleteEach_nil ⟨σ, _, I3, q2⟩
end


/-! ### displays -/
theorem dk_empty {P : Program} {w : World} {H : Hp} (h : Heap) (hb : sysModules < h.objs.size) : ObjOk P w H (h.push { cls := .type "dict", data := .dict #[] }) h.objs.size (.dK []) :=
  ⟨Nat.zero_le _, beq_eq_false_iff_ne.mpr (Ne.symm (Nat.ne_of_lt hb)), [], .nil, Heap.DictOf.new h⟩
theorem dt_empty {P : Program} {w : World} {H : Hp} (h : Heap) (hb : sysModules < h.objs.size) : ObjOk P w H (h.push { cls := .type "dict", data := .dict #[] }) h.objs.size (.dT []) :=
  ⟨Nat.zero_le _, beq_eq_false_iff_ne.mpr (Ne.symm (Nat.ne_of_lt hb)), [], .nil, _, #[], 0, Heap.get?_push_size _ rfl, ⟨rfl, rfl, rfl⟩, rfl, rfl, List.nodup_nil⟩
/-- {}, to be a dict of the kind that is wanted -/
def tDNewK : TE := fun _ H Q => ∀ p, H p = none → Q (.ref p) (upd H p (.dK []))
def tDNewT : TE := fun _ H Q => ∀ p, H p = none → Q (.ref p) (upd H p (.dT []))
section
variable {X : Cx} {pos : Pos}
theorem pe_dnewK : PE X (.Dict [] [] pos) tDNewK := fun pins s σ H Q I h =>
  wpAny_Dict_empty ⟨.ref s.heap.objs.size, _, I.laid (a := s.heap.objs.size) (o := .dK []) (t' := s.toks) (fun _ _ q => Heap.get?_push_of_some _ q) (Nat.le_refl _) (dk_empty s.heap I.big), rfl, h _ (I.hok.fresh (Nat.le_refl _))⟩
theorem pe_dnewT : PE X (.Dict [] [] pos) tDNewT := fun pins s σ H Q I h =>
  wpAny_Dict_empty ⟨.ref s.heap.objs.size, _, I.laid (a := s.heap.objs.size) (o := .dT []) (t' := s.toks) (fun _ _ q => Heap.get?_push_of_some _ q) (Nat.le_refl _) (dt_empty s.heap I.big), rfl, h _ (I.hok.fresh (Nat.le_refl _))⟩
end

/-- the pairs of a display, from the left -/
def tPairs : List (TE × TE) → St → Hp → (List (V × V) → Hp → Prop) → Prop
  | [], _, H, Q => Q [] H
  | (tk, tv) :: r, σ, H, Q => tk σ H fun x H1 => tv σ H1 fun y H2 => tPairs r σ H2 fun ps H3 => Q ((x, y) :: ps) H3
abbrev VV : List (V × V) → List (Value × Value) → Prop := Paired fun p q => RelV p.1 q.1 ∧ RelV p.2 q.2
def PPs (X : Cx) (pos : Pos) (keys : List (Option Expr)) (values : List Expr) (trs : List (TE × TE)) : Prop :=
  ∀ (pins : List (Addr × Obj)) (s : Shared) (σ : St) (H : Hp) (Q : List (V × V) → Hp → Prop), Inv X pins σ H s → tPairs trs σ H Q →
    wpAny (model X.prog X.w) X.A (evalPairs (pairTrees keys values X.env pos)) (fun vs s' => ∃ ps H', Inv X pins σ H' s' ∧ VV ps vs ∧ Q ps H') X.xe s
theorem pps_nil {X : Cx} {pos : Pos} : PPs X pos [] [] [] := fun pins s σ H Q I h => pairTrees_nil_walk ⟨[], H, I, .nil, h⟩
theorem pps_cons {X : Cx} {pos : Pos} {k v : Expr} {ks : List (Option Expr)} {vs : List Expr} {tk tv : TE} {trs : List (TE × TE)} (hk : PE X k tk) (hv : PE X v tv) (hr : PPs X pos ks vs trs) :
    PPs X pos (some k :: ks) (v :: vs) ((tk, tv) :: trs) := fun pins s σ H Q I h =>
  pairTrees_cons_walk (thn (hk pins s σ H _ I h) fun u s1 ⟨x, H1, I1, rx, q1⟩ => thn (hv pins s1 σ H1 _ I1 q1) fun w2 s2 ⟨y, H2, I2, ry, q2⟩ =>
    thn (hr pins s2 σ H2 _ I2 q2) fun ws s3 ⟨ps, H3, I3, rel, q3⟩ => ⟨(x, y) :: ps, H3, I3, .cons ⟨rx, ry⟩ rel, q3⟩)

def mergeK (kvs more : List (Key × V)) : List (Key × V) := more.foldl (fun acc kv => putK acc kv.1 kv.2) kvs
theorem KV.merge : ∀ {more : List (Key × V)} {rs : List (Key × Value)} {kvs : List (Key × V)} {vs : List (Key × Value)}, KV more rs → KV kvs vs → KV (mergeK kvs more) (merged vs rs) := by
  intro more rs kvs vs r
  unfold KV at r
  induction r generalizing kvs vs with
  | nil => intro q; exact q
  | @cons p q ps qs h t ih =>
    intro r0
    have e : KV (putK kvs p.1 p.2) (stored vs q.1 q.2) := by
      have := r0.put p.1 h.2
      rw [← h.1]; exact this
    exact ih e
theorem length_mergeK : ∀ (more kvs : List (Key × V)), (mergeK kvs more).length ≤ kvs.length + more.length
  | [], kvs => by show kvs.length ≤ kvs.length + 0; omega
  | p :: r, kvs => by
    have h1 := length_mergeK r (putK kvs p.1 p.2)
    have h2 := length_putK kvs p.1 p.2
    show (mergeK (putK kvs p.1 p.2) r).length ≤ _
    rw [List.length_cons]; omega
theorem carries_of {P : Program} {w : World} : ∀ {kvs : List (Key × V)} {ws : List (Value × Value)}, VV (kvs.map fun kv => (kV kv.1, kv.2)) ws → ∃ rs, Carries (mixKind P w) ws rs ∧ KV kvs rs
  | [], _, r => by rw [List.map_nil] at r; cases r; exact ⟨[], True.intro, .nil⟩
  | p :: kvs, _, r => by
    rw [List.map_cons] at r
    cases r with
    | @cons a b as bs h t =>
      obtain ⟨rs, c, q⟩ := carries_of (P := P) (w := w) t
      obtain ⟨b1, b2⟩ := b
      exact ⟨(p.1, b2) :: rs, ⟨kV_is h.1, rfl, c⟩, .cons ⟨rfl, h.2⟩ q⟩
/-- {k: v, ..} with keys ints and texts; the new dict stands empty while the pairs are made -/
def tDisp (trs : List (TE × TE)) : TE := fun σ H Q => ∀ p, H p = none → tPairs trs σ (upd H p (.dK [])) fun ps H2 => H2 p = some (.dK []) ∧ ∃ kvs : List (Key × V), ps = kvs.map (fun kv => (kV kv.1, kv.2)) ∧ kvs.length ≤ 15 ∧ Q (.ref p) (upd H2 p (.dK (mergeK [] kvs)))
theorem pe_disp {X : Cx} {pos : Pos} {keys : List (Option Expr)} {values : List Expr} {trs : List (TE × TE)} (h : PPs X pos keys values trs) (hall : keys.all (·.isSome) = true) (hl : keys.length = values.length) (h0 : keys ≠ [])
    (h15 : keys.length ≤ 15) : PE X (.Dict keys values pos) (tDisp trs) := by
  intro pins s σ H Q I q
  have hn := I.hok.fresh (Nat.le_refl s.heap.objs.size)
  have I1 := I.laid (a := s.heap.objs.size) (o := .dK []) (h' := s.heap.push { cls := .type "dict", data := .dict #[] }) (t' := s.toks) (fun _ _ q => Heap.get?_push_of_some _ q) (Nat.le_refl _) (dk_empty s.heap I.big)
  refine wpAny_Dict_walk (knd := mixKind X.prog X.w) hall hl h0 h15 (thn (h pins _ σ _ _ I1 (q _ hn)) fun ws s2 ⟨ps, H2, I2, rel, e, kvs, ep, lk, q2⟩ => ?_)
  subst ep
  obtain ⟨rs, c, rk⟩ := carries_of (P := X.prog) (w := X.w) rel
  obtain ⟨z, hd, vs0, r0, dd⟩ := dk_of I2.hok e
  cases r0
  refine ⟨rs, c, dd, fun h' dd' hs => ⟨.ref s.heap.objs.size, _, ?_, rfl, q2⟩⟩
  have hz : (mergeK [] kvs).length ≤ sizeLine := by
    have h1 := length_mergeK kvs []
    rw [List.length_nil] at h1
    rw [sizeLine_eq]; omega
  have he : ∃ q, h'.get? s.heap.objs.size = some q := let ⟨q, _, _, hq, _⟩ := dd'; ⟨q, hq⟩
  exact d_write I2 (by rw [e]; exact True.intro) hs he (dk_new hz hd (rk.merge .nil) dd')


/-! ### methods -/
/-- a method call o.m(e) of a built-in, with one argument: what must be seen of the text -/
structure M1 (X : Cx) (o : Expr) (m : Str) (apos : Pos) (e : Expr) (cpos : Pos) : Prop where
  base : attributeBase o m X.env (eval o X.env) = eval o X.env
  few : ((backTo cpos (starEach [e] X.env)).all (fun x => !x.1) && (backToKw cpos (keywordEach [] X.env)).all (fun x => x.1.isSome)
    && decide (([e] : List Expr).length + ([] : List Keyword).length + (if ([] : List Keyword).isEmpty then 0 else 1) < 30)) = true
  line : (apos.endLine == cpos.line) = true
  trees : backTo cpos (starEach [e] X.env) = [(false, eval e X.env)]
structure M2 (X : Cx) (o : Expr) (m : Str) (apos : Pos) (e f : Expr) (cpos : Pos) : Prop where
  base : attributeBase o m X.env (eval o X.env) = eval o X.env
  few : ((backTo cpos (starEach [e, f] X.env)).all (fun x => !x.1) && (backToKw cpos (keywordEach [] X.env)).all (fun x => x.1.isSome)
    && decide (([e, f] : List Expr).length + ([] : List Keyword).length + (if ([] : List Keyword).isEmpty then 0 else 1) < 30)) = true
  line : (apos.endLine == cpos.line) = true
  trees : backTo cpos (starEach [e, f] X.env) = [(false, eval e X.env), (false, eval f X.env)]

/-- a is a dict, whatever its keys -/
def IsD (H : Hp) (a : Addr) : Prop := (∃ kvs, Rd H a (.dK kvs)) ∨ ∃ kvs, Rd H a (.dT kvs)
theorem isD_at {X : Cx} {pins : List (Addr × Obj)} {σ : St} {H : Hp} {s : Shared} {a : Addr} (I : Inv X pins σ H s) (d : IsD H a) :
    s.TypeIs (.ref a) "dict" ∧ (∀ b, Value.ref a = .ref b → ∃ ob, s.heap.get? b = some ob ∧ ob.dict = none) ∧ (a == sysModules) = false := by
  rcases d with ⟨kvs, e⟩ | ⟨kvs, e⟩
  · obtain ⟨_, hd, vs, _, dd⟩ := dk_rd I.hok e
    refine ⟨dd.typeIs, fun b q => ?_, hd⟩
    cases q
    obtain ⟨ob, _, _, h1, h2, _⟩ := dd
    exact ⟨ob, h1, h2.2.1⟩
  · obtain ⟨_, hd, xs, _, dd⟩ := dt_rd I.hok e
    refine ⟨dd.typeIs, fun b q => ?_, hd⟩
    cases q
    obtain ⟨ob, _, _, h1, h2, _⟩ := dd
    exact ⟨ob, h1, h2.2.1⟩

section
variable {X : Cx} {pins : List (Addr × Obj)} {σ : St} {H : Hp} {s : Shared} {a : Addr} {y d : V} {u r : Value} {o : Option V} {A : Around} {E : Value → Shared → Prop}
/-- d.get(y) -/
theorem d_get1 {Q : Value → Shared → Prop} (hu : A.units + 1 < cLine) (I : Inv X pins σ H s) (g : DGet H a y o) (ry : RelV y u) (h : ∀ w' s', Inv X pins σ H s' → RelV (o.getD .non) w' → Q w' s') :
    wpAny (model X.prog X.w) A (call (.builtin "dict.get") [.ref a, u]) Q E s := by
  rcases g with ⟨kvs, k, e, ey, l⟩ | ⟨kvs, k, b, e, ey, eb, l⟩
  · subst ey
    obtain ⟨z, hd, vs, rel, dd⟩ := dk_rd I.hok e
    refine call_meetsIn PySem.F.slot_dict_get dd.typeIs PySem.F.entry_dict_get (PySem.F.args_dict_get_2 _ _) (meets_dict_get (mixKind X.prog X.w) a (kV_is ry) hd) ⟨_, dd.mapOf, h _ _ (I.tok _) ?_⟩
    rw [l]
    exact (rel.val k).getD rfl
  · subst ey
    cases (show u = Value.ref b from ry)
    obtain ⟨z, hd, xs, rel, dd⟩ := dt_rd I.hok e
    refine call_meetsIn PySem.F.slot_dict_get dd.typeIs PySem.F.entry_dict_get (PySem.F.args_dict_get_2 _ _) (meetsH_dict_get (tupleKind (mixKind X.prog X.w)) a b hd) ⟨tupleKind_room_in1 hu, k, xs, key_of I.hok eb, dd, h _ _ (I.tok _) ?_⟩
    rw [l]
    exact (rel.val k).getD rfl
/-- d.get(y, x) -/
theorem d_get2 {Q : Value → Shared → Prop} (hu : A.units + 1 < cLine) (I : Inv X pins σ H s) (g : DGet H a y o) (ry : RelV y u) (rd : RelV d r) (h : ∀ w' s', Inv X pins σ H s' → RelV (o.getD d) w' → Q w' s') :
    wpAny (model X.prog X.w) A (call (.builtin "dict.get") [.ref a, u, r]) Q E s := by
  rcases g with ⟨kvs, k, e, ey, l⟩ | ⟨kvs, k, b, e, ey, eb, l⟩
  · subst ey
    obtain ⟨z, hd, vs, rel, dd⟩ := dk_rd I.hok e
    refine call_meetsIn PySem.F.slot_dict_get dd.typeIs PySem.F.entry_dict_get (PySem.F.args_dict_get_3 _ _ _) (meets_dict_get_default (mixKind X.prog X.w) a (kV_is ry) hd r) ⟨_, dd.mapOf, h _ _ (I.tok _) ?_⟩
    rw [l]
    exact (rel.val k).getD rd
  · subst ey
    cases (show u = Value.ref b from ry)
    obtain ⟨z, hd, xs, rel, dd⟩ := dt_rd I.hok e
    refine call_meetsIn PySem.F.slot_dict_get dd.typeIs PySem.F.entry_dict_get (PySem.F.args_dict_get_3 _ _ _) (meetsH_dict_get_default (tupleKind (mixKind X.prog X.w)) a b hd r) ⟨tupleKind_room_in1 hu, k, xs, key_of I.hok eb, dd, h _ _ (I.tok _) ?_⟩
    rw [l]
    exact (rel.val k).getD rd
end

def tDGet1 (td ty : TE) : TE := fun σ H Q => td σ H fun x H1 => ∃ a, x = .ref a ∧ IsD H1 a ∧ ty σ H1 fun y H2 => ∃ o, DGet H2 a y o ∧ Q (o.getD .non) H2
def tDGet2 (td ty tx : TE) : TE := fun σ H Q => td σ H fun x H1 => ∃ a, x = .ref a ∧ IsD H1 a ∧ ty σ H1 fun y H2 => tx σ H2 fun z H3 => ∃ o, DGet H3 a y o ∧ Q (o.getD z) H3
/-- d.pop(k): there; d.pop(k, x): there or not -/
def tDPop1 (td ty : TE) : TE := fun σ H Q => td σ H fun x H1 => ∃ a, x = .ref a ∧ IsD H1 a ∧ ty σ H1 fun y H2 => ∃ kvs k v, H2 a = some (.dK kvs) ∧ y = kV k ∧ valV kvs k = some v ∧ Q v (upd H2 a (.dK (dropK kvs k)))
def tDPop2 (td ty tx : TE) : TE := fun σ H Q => td σ H fun x H1 => ∃ a, x = .ref a ∧ IsD H1 a ∧ ty σ H1 fun y H2 => tx σ H2 fun z H3 => ∃ kvs k, H3 a = some (.dK kvs) ∧ y = kV k ∧
  (∀ v, valV kvs k = some v → Q v (upd H3 a (.dK (dropK kvs k)))) ∧ (valV kvs k = none → Q z H3)
section
variable {X : Cx} {o e f : Expr} {apos cpos : Pos} {td ty tx : TE}
theorem pe_dget1 (hu : X.A.units + 1 < cLine) (ho : PE X o td) (he : PE X e ty) (m : M1 X o "get" apos e cpos) : PE X (.Call (.Attribute o "get" apos) [e] [] cpos) (tDGet1 td ty) := by
  intro pins s σ H Q I h
  refine wpAny_Call_method m.base m.few m.line PySem.F.plainAttrs_dict PySem.F.slot_dict_get PySem.F.type_dict_get (thn (ho pins s σ H _ I h) fun u s1 ⟨x, H1, I1, rx, a, ex, d, q1⟩ => ?_)
  subst ex
  obtain rfl : u = Value.ref a := rx
  obtain ⟨t1, t2, _⟩ := isD_at I1 d
  refine ⟨t1, t2, ?_⟩
  rw [m.trees]
  refine Calls.callWith_builtin rfl (Calls.evalArgs_plain (Calls.spliced_cons (thn (he pins s1 σ H1 _ I1 q1) fun iv s2 ⟨y, H2, I2, ry, ov, g, q2⟩ => Calls.spliced_nil ?_)))
  exact d_get1 hu I2 g ry fun w' s3 I3 rw' => ⟨_, H2, I3, rw', q2⟩
theorem pe_dget2 (hu : X.A.units + 1 < cLine) (ho : PE X o td) (he : PE X e ty) (hf : PE X f tx) (m : M2 X o "get" apos e f cpos) : PE X (.Call (.Attribute o "get" apos) [e, f] [] cpos) (tDGet2 td ty tx) := by
  intro pins s σ H Q I h
  refine wpAny_Call_method m.base m.few m.line PySem.F.plainAttrs_dict PySem.F.slot_dict_get PySem.F.type_dict_get (thn (ho pins s σ H _ I h) fun u s1 ⟨x, H1, I1, rx, a, ex, d, q1⟩ => ?_)
  subst ex
  obtain rfl : u = Value.ref a := rx
  obtain ⟨t1, t2, _⟩ := isD_at I1 d
  refine ⟨t1, t2, ?_⟩
  rw [m.trees]
  refine Calls.callWith_builtin rfl (Calls.evalArgs_plain (Calls.spliced_cons (thn (he pins s1 σ H1 _ I1 q1) fun iv s2 ⟨y, H2, I2, ry, q2⟩ =>
    Calls.spliced_cons (thn (hf pins s2 σ H2 _ I2 q2) fun fv s3 ⟨z, H3, I3, rz, ov, g, q3⟩ => Calls.spliced_nil ?_))))
  exact d_get2 hu I3 g ry rz fun w' s4 I4 rw' => ⟨_, H3, I4, rw', q3⟩
theorem pe_dpop1 (ho : PE X o td) (he : PE X e ty) (m : M1 X o "pop" apos e cpos) : PE X (.Call (.Attribute o "pop" apos) [e] [] cpos) (tDPop1 td ty) := by
  intro pins s σ H Q I h
  refine wpAny_Call_method m.base m.few m.line PySem.F.plainAttrs_dict PySem.F.slot_dict_pop PySem.F.type_dict_pop (thn (ho pins s σ H _ I h) fun u s1 ⟨x, H1, I1, rx, a, ex, d, q1⟩ => ?_)
  subst ex
  obtain rfl : u = Value.ref a := rx
  obtain ⟨t1, t2, _⟩ := isD_at I1 d
  refine ⟨t1, t2, ?_⟩
  rw [m.trees]
  refine Calls.callWith_builtin rfl (Calls.evalArgs_plain (Calls.spliced_cons (thn (he pins s1 σ H1 _ I1 q1) fun iv s2 ⟨y, H2, I2, ry, kvs, k, v, ea, ey, l, q2⟩ => Calls.spliced_nil ?_)))
  subst ey
  exact d_pop I2 ea ry l (.inl rfl) fun w' s3 I3 rw' => ⟨v, _, I3, rw', q2⟩
theorem pe_dpop2 (ho : PE X o td) (he : PE X e ty) (hf : PE X f tx) (m : M2 X o "pop" apos e f cpos) : PE X (.Call (.Attribute o "pop" apos) [e, f] [] cpos) (tDPop2 td ty tx) := by
  intro pins s σ H Q I h
  refine wpAny_Call_method m.base m.few m.line PySem.F.plainAttrs_dict PySem.F.slot_dict_pop PySem.F.type_dict_pop (thn (ho pins s σ H _ I h) fun u s1 ⟨x, H1, I1, rx, a, ex, d, q1⟩ => ?_)
  subst ex
  obtain rfl : u = Value.ref a := rx
  obtain ⟨t1, t2, _⟩ := isD_at I1 d
  refine ⟨t1, t2, ?_⟩
  rw [m.trees]
  refine Calls.callWith_builtin rfl (Calls.evalArgs_plain (Calls.spliced_cons (thn (he pins s1 σ H1 _ I1 q1) fun iv s2 ⟨y, H2, I2, ry, q2⟩ =>
    Calls.spliced_cons (thn (hf pins s2 σ H2 _ I2 q2) fun fv s3 ⟨z, H3, I3, rz, kvs, k, ea, ey, q3, q4⟩ => Calls.spliced_nil ?_))))
  subst ey
  cases l : valV kvs k with
  | some v => exact d_pop I3 ea ry l (.inr ⟨fv, rfl⟩) fun w' s4 I4 rw' => ⟨v, _, I4, rw', q3 v l⟩
  | none => exact d_popD I3 ea ry l fun s4 I4 => ⟨z, H3, I4, rz, q4 l⟩
end

/-! ### dict(d): a copy -/
section
variable {X : Cx} {pins : List (Addr × Obj)} {σ : St} {H : Hp} {s : Shared} {a : Addr} {kvs : List (Key × V)} {A : Around} {E : Value → Shared → Prop}
theorem d_copyOf {Q : Value → Shared → Prop} (I : Inv X pins σ H s) (e : Rd H a (.dK kvs)) (h : ∀ p s', H p = none → Inv X pins σ (upd H p (.dK kvs)) s' → Q (.ref p) s') : wpAny (model X.prog X.w) A (call (.type "dict") [.ref a]) Q E s := by
  obtain ⟨z, hd, vs, rel, dd⟩ := dk_rd I.hok e
  refine kt_call_dict hd dd (by rw [← rel.length]; exact z) fun h' dd' hs => ?_
  refine h _ _ (I.hok.fresh (Nat.le_refl _)) (I.laid (a := s.heap.objs.size) (o := .dK kvs) (t' := s.toks) (fun b q hq => ?_) (Nat.le_refl _) (dk_new z (beq_eq_false_iff_ne.mpr (Ne.symm (Nat.ne_of_lt I.big))) rel dd'))
  exact (hs.2 b (Nat.ne_of_lt (Heap.lt_size hq))).trans (Heap.get?_push_of_some _ hq)
end


section
variable {X : Cx} {pins : List (Addr × Obj)} {σ : St} {H : Hp} {s : Shared} {a : Addr} {y : V} {u : Value} {A : Around} {E : Value → Shared → Prop}
/-- d[y], not there: a KeyError -/
theorem d_missing {Q : Value → Shared → Prop} (hu : A.units + 1 < cLine) (hh : A.handled = none) (I : Inv X pins σ H s) (g : DGet H a y none) (ry : RelV y u)
    (h : ∀ h' e t', Heap.NewExc s.heap h' e "KeyError" → E (.ref e) { s with heap := h', toks := t' }) : wpAny (model X.prog X.w) A (getItem (.ref a) u) Q E s := by
  rcases g with ⟨kvs, k, e, ey, l⟩ | ⟨kvs, k, b, e, ey, eb, l⟩
  · subst ey
    obtain ⟨z, hd, vs, rel, dd⟩ := dk_rd I.hok e
    have hn : valueAt vs k = none := RelO.none_of (by rw [l]; exact rel.val k)
    exact wpAny_getItem_missing_of (kV_is ry) hd hh dd.mapOf hn fun h' ex ne => h h' ex _ ne
  · subst ey
    cases (show u = Value.ref b from ry)
    obtain ⟨z, hd, xs, rel, dd⟩ := dt_rd I.hok e
    have hn : (atKey xs k).map (·.2) = none := RelO.none_of (by rw [l]; exact rel.val k)
    exact wpAny_getItem_missing_heap (tupleKind_room_in1 hu) (key_of I.hok eb) hd hh dd (Option.map_eq_none_iff.mp hn) fun h' ex ne => h h' ex _ ne
end
end L2


set_option Elab.async false
set_option linter.all false
set_option maxRecDepth 100000
set_option maxHeartbeats 4000000
namespace HT
open PySem PySem.Spec PyProof.Rows
theorem int_rmul_tup (a : Int) (t : Tok) (l : Addr) (items : Array Value) (n : Nat) (dd : Option Addr) (sl : Array (Option Value)) :
    Meets (Builtin.«int.__rmul__» ⟨[.int a t, .ref l], []⟩) (fun _ R s => s.heap.get? l = some { cls := .type "tuple", dict := dd, data := .seq items n, slots := sl } ∧ R (.ok (.ret .notImplemented)) s) :=
  .of_wp fun prog w A R s h => by obtain ⟨hp, g, d, tk, os⟩ := s; obtain ⟨hl, h⟩ := h; wp_walk; exact ⟨_, rfl, h⟩
theorem tup_mul (l : Addr) (items : Array Value) (n : Nat) (dd : Option Addr) (sl : Array (Option Value)) (x : Int) (u : Tok) (h1 : 1 < x) (h2 : x ≤ 1000) (h3 : items.size = 1) :
    Meets (Builtin.«tuple.__mul__» ⟨[.ref l, .int x u], []⟩) (fun _ R s => s.heap.get? l = some { cls := .type "tuple", dict := dd, data := .seq items n, slots := sl } ∧ R (.ok (.ret (Value.ref s.heap.objs.size))) { s with heap := s.heap.push { cls := Value.type "tuple", data := Data.seq (List.foldl (fun x1 x2 => x1 ++ x2) #[] (List.replicate x.toNat items)) }, toks := s.toks }) :=
  .of_wp fun prog w A R s h => by
    obtain ⟨hp, g, d, tk, os⟩ := s; obtain ⟨hl, h⟩ := h
    wp_walk
    have a1 : (decide (x < -2 ^ 63) || decide (x ≥ 2 ^ 63)) = false := by rw [decide_eq_false (by omega), decide_eq_false (by omega)]; rfl
    refine wpAny_ite_false (decide_eq_false (by rw [a1]; exact Bool.false_ne_true)) ?_
    wp_walk
    have a2 : (items.isEmpty || x == 1) = false := by
      have e1 : items.isEmpty = false := by
        rw [Array.isEmpty_eq_false_iff_exists_mem] <;> exact ⟨items[0], by simp⟩
      rw [e1, beq_eq_false_iff_ne.mpr (by omega)]; rfl
    refine wpAny_ite_false (decide_eq_false (by rw [a2]; exact Bool.false_ne_true)) ?_
    wp_walk
    have e1 : items.isEmpty = false := by
      rw [Array.isEmpty_eq_false_iff_exists_mem]; exact ⟨items[0], by simp⟩
    have a3 : (decide (x ≤ 0) || items.isEmpty) = false := by rw [e1, decide_eq_false (by omega)]; rfl
    refine wpAny_ite_false (decide_eq_false (by rw [a3]; exact Bool.false_ne_true)) ?_
    have a4 : ¬ ((items.size : Int) * x > (2 ^ 63 - 1) / 8) := by rw [h3]; omega
    refine wpAny_ite_false (decide_eq_false a4) ?_
    have a5 : Builtin.Tuple.tupleTooMany ((items.size : Int) * x) = false := by
      rw [h3]
      refine decide_eq_false ?_
      have : (sizeLine : Int) = 16777216 := by rw [sizeLine_eq]; rfl
      omega
    refine wpAny_ite_false (decide_eq_false (by rw [a5]; exact Bool.false_ne_true)) ?_
    have hsz : (List.foldl (fun x1 x2 => x1 ++ x2) #[] (List.replicate x.toNat items)).size ≤ sizeLine := by
      have key : ∀ (m : Nat) (b : Array Value), ((List.replicate m items).foldl (fun x1 x2 => x1 ++ x2) b).size = b.size + m := by
        intro m
        induction m with
        | zero => intro b; rfl
        | succ m ih => intro b; rw [List.replicate_succ, List.foldl_cons, ih, Array.size_append, h3]; omega
      rw [key]
      exact L2.szl (by show 0 + _ ≤ _; omega)
    first
      | exact wpAny_bind (m := Builtin.Tuple.tupleExact _) (wpAny_newObj_type (wpAny_pure ⟨_, rfl, h⟩) hsz)
      | exact wpAny_bind (m := Builtin.Tuple.tupleExact _) (wpAny_newObj_type (wpAny_bind (wpAny_pure (wpAny_pure ⟨_, rfl, h⟩))) hsz)
theorem noFill_tup_mul : fillsNumberSlot (.type "tuple") "mul" = pure false :=
  PySem.fillsNumberSlot_seq (id := "tuple.__mul__") (r := some (.builtin "tuple.__rmul__")) F.slot_tuple_mul.lookup (by decide +kernel) F.slot_tuple_rmul.lookup (by decide +kernel)
theorem repeat_tup : seqRepeat? (.type "tuple") = pure (some (.builtin "tuple.__mul__")) := by
  unfold seqRepeat?
  rw [PySem.seqSlot_of (T := "tuple") (name := "__mul__") (id := "tuple.__mul__") F.slot_tuple_mul.lookup (by decide +kernel), PySem.seqSlot_of (T := "tuple") (name := "__rmul__") (id := "tuple.__rmul__") F.slot_tuple_rmul.lookup (by decide +kernel)]
  rfl
theorem tup_mul1 (l : Addr) (items : Array Value) (n : Nat) (dd : Option Addr) (sl : Array (Option Value)) (u : Tok) (h3 : items.size = 1) :
    Meets (Builtin.«tuple.__mul__» ⟨[.ref l, .int 1 u], []⟩) (fun _ R s => s.heap.get? l = some { cls := .type "tuple", dict := dd, data := .seq items n, slots := sl } ∧ R (.ok (.ret (Value.ref l))) s) :=
  .of_wp fun prog w A R s h => by
    obtain ⟨hp, g, d, tk, os⟩ := s; obtain ⟨hl, h⟩ := h
    wp_walk
    exact ⟨_, rfl, h⟩
end HT
namespace L2
open PySem PySem.Spec PyProof.Rows
section
variable {X : Cx}
/-- a tuple of one thing, times a number from 1 on -/
def rRep1 : R2 := fun x y H Q => ∃ a v n, x = .ref a ∧ y = .int n ∧ H a = some (.tup [v]) ∧ 1 ≤ n ∧ n ≤ 1000 ∧ ∀ p H', Same H H' → H' p = some (.tup (List.replicate n.toNat v)) → Q (.ref p) H'
theorem op_rep1 : OpR X (binaryOp .Mult) rRep1 := by
  intro pins s σ H x y v u Q I rx ry h
  obtain ⟨a, v1, n, rfl, rfl, ha, h1, h2, q⟩ := h
  cases rx
  obtain ⟨t, rfl⟩ := ry
  obtain ⟨its, r1, p1, hz⟩ := I.tuple (SqT.of (K := X.K) ha)
  obtain ⟨⟨cls, dd, data, sl⟩, ho, hc, m, hd⟩ := id p1
  simp only at hc hd
  subst hc hd
  have hlen : its.toArray.size = 1 := by rw [List.size_toArray, ← r1.length]; rfl
  refine wpAny_binaryOp_repeat_ref (T := "tuple") (U := "int") (by decide) ⟨_, ho, rfl⟩ (fun s' => typeIs_int s' n t) HT.noFill_tup_mul F.fills_int_mul F.slot_int_rmul HT.repeat_tup F.slot_int_index.lookup
    (call_meets F.slot_int_rmul (typeIs_int s n t) F.entry_int_rmul (F.args_int_rmul_2 _ _) (HT.int_rmul_tup n t a its.toArray m dd sl) ⟨ho, rfl, ⟨_, ho, rfl⟩, ?_⟩)
  by_cases e1 : n = 1
  · subst e1
    exact call_meets F.slot_tuple_mul ⟨_, ho, rfl⟩ F.entry_tuple_mul (F.args_tuple_mul_2 _ _) (HT.tup_mul1 a its.toArray m dd sl t hlen) ⟨ho, ⟨.ref a, H, I, rfl, q a H (Same.refl _) ha⟩⟩
  · refine call_meets F.slot_tuple_mul ⟨_, ho, rfl⟩ F.entry_tuple_mul (F.args_tuple_mul_2 _ _) (HT.tup_mul a its.toArray m dd sl n t (by omega) h2 hlen) ⟨ho, ?_⟩
    have hv : ∃ w, its = [w] ∧ RelV v1 w := by
      cases r1 with
      | cons r rr => cases rr; exact ⟨_, rfl, r⟩
    obtain ⟨w, rfl, rw1⟩ := hv
    have e : ∀ k : Nat, List.foldl (fun x1 x2 => x1 ++ x2) #[] (List.replicate k [w].toArray) = (List.replicate k w).toArray := by
      intro k
      have key : ∀ (k : Nat) (b : Array Value), (List.foldl (fun x1 x2 => x1 ++ x2) b (List.replicate k [w].toArray)) = b ++ (List.replicate k w).toArray := by
        intro k
        induction k with
        | zero => intro b; simp
        | succ k ih => intro b; rw [List.replicate_succ, List.foldl_cons, ih, List.replicate_succ]; apply Array.ext'; simp
      rw [key]; simp
    rw [e]
    refine ⟨.ref s.heap.objs.size, _, I.laid (t' := s.toks) (o := .tup (List.replicate n.toNat v1)) (fun b ob q => Heap.get?_push_of_some _ q) (Nat.le_refl _) ?_, rfl, q _ _ (Same.upd (I.hok.fresh (Nat.le_refl _))) upd_same⟩
    refine ⟨by rw [List.length_replicate]; exact szl (by omega), List.replicate n.toNat w, ?_, IsTup.new _ _⟩
    induction n.toNat with
    | zero => exact .nil
    | succ k ih => exact .cons rw1 ih
end
end L2
namespace L2
open PySem PySem.Spec PyProof.Rows
section
variable {k : Nat} {cap : List Nat} {g : TG} {tt : TT} {te : TE} {σ : St} {H : Hp} {Q : VK} {l : Addr}
/-- over a range, each item drawn; what is true of an item leans on the heap -/
theorem comp_drawH (lo : Int) (n : Nat) (PO : Option HO → Prop) (p : Addr) (R : Hp → V → Prop) (Good : St → Prop) (h0 : Good (capSt k cap σ)) (hn : ¬ PO none) (hp : PO (H p)) (hl : H l = none) (hlen : n ≤ 1000000)
    (m1 : ∀ H1 H2 y, PO (H1 p) → PO (H2 p) → But p H1 H2 → R H1 y → R H2 y) (m2 : ∀ H1 xs ys y, H1 l = some (.lst xs) → R H1 y → R (upd H1 l (.lst ys)) y)
    (ht : ∀ i σ H1 xs (N : St → Hp → Prop), i < n → Good σ → PO (H1 p) → H1 l = some (.lst xs) → xs.length = i → But p H H1 →
      (∀ σ' y H2, Good σ' → R H2 y → PO (H2 p) → But p H1 H2 → ∃ xs, H2 l = some (.lst xs) ∧ xs.length < sizeLine ∧ N σ' (upd H2 l (.lst (xs ++ [y])))) → turnOf g tt te l (.int (lo + i)) σ H1 N)
    (hd : ∀ ys H1, ys.length = n → (∀ y ∈ ys, R H1 y) → H1 l = some (.lst ys) → PO (H1 p) → But p H H1 → Q (.ref l) H1) : GoalW (Itr lo n) g tt te l (capSt k cap σ) (upd H l (.lst [])) Q := by
  have pl : p ≠ l := fun e => by rw [e, hl] at hp; exact hn hp
  refine comp_range lo n (fun i σ' H' => Good σ' ∧ ∃ ys : List V, H' l = some (.lst ys) ∧ ys.length = i ∧ (∀ y ∈ ys, R H' y) ∧ PO (H' p) ∧ But p H H') ⟨h0, [], upd_same, rfl, (fun _ h => nomatch h), by rw [upd_ne pl]; exact hp, But.of (Same.upd hl)⟩
    (fun i σ' H' hi ⟨gd, ys, e, hy, hR, hp', b⟩ => ?_) (fun σ' H' ⟨_, ys, e, hy, hR, hp', b⟩ => hd ys H' hy hR e hp' b)
  refine ht i σ' H' ys _ hi gd hp' e hy b fun σ2 y H2 g2 ry p2 b2 => ?_
  have e2 : H2 l = some (.lst ys) := b2 l _ e pl.symm
  refine ⟨ys, e2, szt (by omega), g2, ys ++ [y], upd_same, by simp [hy], fun z hz => ?_, by rw [upd_ne pl]; exact p2, fun c o h n => ?_⟩
  · rcases List.mem_append.mp hz with r | r
    · exact m2 _ _ _ _ e2 (m1 _ _ _ hp' p2 b2 (hR z r))
    · rw [List.mem_singleton.mp r]; exact m2 _ _ _ _ e2 ry
  · rw [upd_ne (ne_of_none h hl)]
    exact b2 c o (b c o h n) n
end
/-! ### what stays of things -/
/-- every object stays, but lists may have other items -/
def Kp (H H' : Hp) : Prop := ∀ a o, H a = some o → H' a = some o ∨ ∃ xs ys, o = .lst xs ∧ H' a = some (.lst ys)
theorem Kp.of {H H' : Hp} (s : Same H H') : Kp H H' := fun a o h => .inl (s a o h)
theorem Kp.trans {H H1 H2 : Hp} (a : Kp H H1) (b : Kp H1 H2) : Kp H H2 := fun c o h => by
  rcases a c o h with r | ⟨xs, ys, rfl, r⟩
  · exact b c o r
  · rcases b c _ r with q | ⟨us, ws, e, q⟩
    · exact .inr ⟨xs, ys, rfl, q⟩
    · exact .inr ⟨xs, ws, rfl, q⟩
theorem Kp.but {H H' : Hp} {p : Addr} (h : Pot H p) (h' : Pot H' p) (b : But p H H') : Kp H H' := fun a o e => by
  by_cases z : a = p
  · subst z
    obtain ⟨i, j, e1, _⟩ := h
    obtain ⟨i', j', e2, _⟩ := h'
    rw [e1] at e
    cases e
    exact .inr ⟨_, _, rfl, e2⟩
  · exact .inl (b a o e z)
theorem Kp.lst {H : Hp} {l : Addr} {xs ys : List V} (e : H l = some (.lst xs)) : Kp H (upd H l (.lst ys)) := fun a o h => by
  by_cases z : a = l
  · subst z; rw [e] at h; cases h; exact .inr ⟨_, _, rfl, upd_same⟩
  · exact .inl (by rw [upd_ne z]; exact h)
theorem Kp.tup {H H' : Hp} (k : Kp H H') {a : Addr} {xs : List V} (h : H a = some (.tup xs)) : H' a = some (.tup xs) := by
  rcases k a _ h with r | ⟨_, _, e, _⟩
  · exact r
  · cases e
/-- a thing, not too large -/
structure Tg (H : Hp) (v : V) (k : Kd) : Prop where
  is : IsK H v k
  few : ∀ x, v = .str x → x.length ≤ 1000000
theorem Tg.kp {H H' : Hp} {v : V} {k : Kd} (t : Tg H v k) (s : Kp H H') : Tg H' v k := by
  refine ⟨?_, t.few⟩
  have h := t.is
  cases k with
  | non => exact h
  | bl => exact h
  | int => exact h
  | str => exact h
  | lst =>
    obtain ⟨a, xs, rfl, e⟩ := h
    rcases s _ _ e with r | ⟨_, ys, _, r⟩
    · exact ⟨a, xs, rfl, r⟩
    · exact ⟨a, ys, rfl, r⟩
  | tup => obtain ⟨a, xs, rfl, e⟩ := h; exact ⟨a, xs, rfl, s.tup e⟩
  | dct =>
    obtain ⟨a, xs, rfl, e⟩ := h
    rcases s _ _ e with r | ⟨_, _, z, _⟩
    · exact ⟨a, xs, rfl, r⟩
    · cases z
theorem Tg.same {H H' : Hp} {v : V} {k : Kd} (t : Tg H v k) (s : Same H H') : Tg H' v k := t.kp (.of s)
def tupOf (H : Hp) : V → Option (List V)
  | .ref a => match H a with | some (.tup xs) => some xs | _ => none
  | _ => none
theorem tupOf_at {H : Hp} {a : Addr} {xs : List V} (h : H a = some (.tup xs)) : tupOf H (.ref a) = some xs := by unfold tupOf; simp only [h]
theorem Tg.tup {H : Hp} {v : V} {k : Kd} (t : Tg H v k) : (k = .tup ∧ ∃ a xs, v = .ref a ∧ H a = some (.tup xs) ∧ tupOf H v = some xs) ∨ (k ≠ .tup ∧ tupOf H v = none) := by
  have h := t.is
  cases k with
  | non => cases (show v = .non from h); exact .inr ⟨(fun z => nomatch z), rfl⟩
  | bl => obtain ⟨_, rfl⟩ := h; exact .inr ⟨(fun z => nomatch z), rfl⟩
  | int => obtain ⟨_, rfl⟩ := h; exact .inr ⟨(fun z => nomatch z), rfl⟩
  | str => obtain ⟨_, rfl⟩ := h; exact .inr ⟨(fun z => nomatch z), rfl⟩
  | lst => obtain ⟨a, xs, rfl, e⟩ := h; exact .inr ⟨(fun z => nomatch z), by unfold tupOf; simp only [e]⟩
  | tup => obtain ⟨a, xs, rfl, e⟩ := h; exact .inl ⟨rfl, a, xs, rfl, e, tupOf_at e⟩
  | dct => obtain ⟨a, xs, rfl, e⟩ := h; exact .inr ⟨(fun z => nomatch z), by unfold tupOf; simp only [e]⟩
theorem Tg.tup_kp {H H' : Hp} {v : V} {k : Kd} (t : Tg H v k) (s : Kp H H') : tupOf H' v = tupOf H v := by
  rcases t.tup with ⟨rfl, a, xs, rfl, e, e2⟩ | ⟨n, e⟩
  · rw [e2]; exact tupOf_at (s.tup e)
  · rw [e]
    rcases (t.kp s).tup with ⟨z, _⟩ | ⟨_, e'⟩
    · exact absurd z n
    · exact e'
/-- a thing of any kind, looked into so deep -/
def AnyD : Nat → Hp → V → Prop
  | 0, H, v => ∃ k, Tg H v k
  | n + 1, H, v => (∃ k, Tg H v k) ∧ ∀ xs, tupOf H v = some xs → xs.length ≤ 1000 ∧ ∀ x ∈ xs, AnyD n H x
theorem AnyD.tg : ∀ {n : Nat} {H : Hp} {v : V}, AnyD n H v → ∃ k, Tg H v k
  | 0, _, _, h => h
  | _ + 1, _, _, h => h.1
theorem AnyD.kp : ∀ {n : Nat} {H H' : Hp} {v : V}, AnyD n H v → Kp H H' → AnyD n H' v
  | 0, _, _, _, ⟨k, t⟩, s => ⟨k, t.kp s⟩
  | n + 1, _, _, _, ⟨⟨k, t⟩, h⟩, s => ⟨⟨k, t.kp s⟩, fun xs e => by
      rw [t.tup_kp s] at e
      exact ⟨(h xs e).1, fun x hx => AnyD.kp ((h xs e).2 x hx) s⟩⟩
def Any (H : Hp) (v : V) : Prop := ∀ n, AnyD n H v
theorem Any.kp {H H' : Hp} {v : V} (h : Any H v) (s : Kp H H') : Any H' v := fun n => (h n).kp s
theorem any_flat {H : Hp} {v : V} {k : Kd} (t : Tg H v k) (n : k ≠ .tup) : Any H v
  | 0 => ⟨k, t⟩
  | _ + 1 => ⟨⟨k, t⟩, fun xs e => by
      rcases t.tup with ⟨z, _⟩ | ⟨_, e'⟩
      · exact absurd z n
      · rw [e] at e'; cases e'⟩
theorem any_non {H : Hp} : Any H .non := any_flat (k := .non) ⟨rfl, fun _ e => nomatch e⟩ (fun z => nomatch z)
theorem any_bl {H : Hp} {b : Bool} : Any H (.bl b) := any_flat (k := .bl) ⟨⟨b, rfl⟩, fun _ e => nomatch e⟩ (fun z => nomatch z)
theorem any_int {H : Hp} {i : Int} : Any H (.int i) := any_flat (k := .int) ⟨⟨i, rfl⟩, fun _ e => nomatch e⟩ (fun z => nomatch z)
theorem any_str {H : Hp} {x : Str} (h : x.length ≤ 1000000) : Any H (.str x) := any_flat (k := .str) ⟨⟨x, rfl⟩, fun _ e => by cases e; exact h⟩ (fun z => nomatch z)
theorem any_lst {H : Hp} {a : Addr} {xs : List V} (h : H a = some (.lst xs)) : Any H (.ref a) := any_flat (k := .lst) ⟨⟨a, xs, rfl, h⟩, fun _ e => nomatch e⟩ (fun z => nomatch z)
theorem any_dct {H : Hp} {a : Addr} {xs : List (Key × V)} (h : H a = some (.dK xs)) : Any H (.ref a) := any_flat (k := .dct) ⟨⟨a, xs, rfl, h⟩, fun _ e => nomatch e⟩ (fun z => nomatch z)
theorem any_tup {H : Hp} {a : Addr} {xs : List V} (h : H a = some (.tup xs)) (hl : xs.length ≤ 1000) (hx : ∀ x ∈ xs, Any H x) : Any H (.ref a)
  | 0 => ⟨.tup, ⟨a, xs, rfl, h⟩, fun _ e => nomatch e⟩
  | n + 1 => ⟨⟨.tup, ⟨a, xs, rfl, h⟩, fun _ e => nomatch e⟩, fun ys e => by
      rw [tupOf_at h] at e
      cases e
      exact ⟨hl, fun x hm => hx x hm n⟩⟩
end L2

set_option Elab.async false
set_option linter.all false
set_option maxRecDepth 100000
set_option maxHeartbeats 4000000
namespace L2
open PySem PySem.Spec PyProof.Rows
section
variable {X : Cx} {es : List Expr} {te : TE} {t : TA}
/-! ### an argument ahead of others, by what it is: nothing is looked up in the scope -/
theorem pa_c {a b c} (ha : PE X (.Constant a b c) te) (hr : PA X es t) : PA X (.Constant a b c :: es) (tCons te t) := pa_cons ha hr rfl
theorem pa_n {a b} (ha : PE X (.Name a b) te) (hr : PA X es t) : PA X (.Name a b :: es) (tCons te t) := pa_cons ha hr rfl
theorem pa_t {a b c} (ha : PE X (.Tuple a b c) te) (hr : PA X es t) : PA X (.Tuple a b c :: es) (tCons te t) := pa_cons ha hr rfl
theorem pa_l {a b} (ha : PE X (.List a b) te) (hr : PA X es t) : PA X (.List a b :: es) (tCons te t) := pa_cons ha hr rfl
theorem pa_d {a b c} (ha : PE X (.Dict a b c) te) (hr : PA X es t) : PA X (.Dict a b c :: es) (tCons te t) := pa_cons ha hr rfl
theorem pa_k {a b c d} (ha : PE X (.Call a b c d) te) (hr : PA X es t) : PA X (.Call a b c d :: es) (tCons te t) := pa_cons ha hr rfl
theorem pa_b {a b c d} (ha : PE X (.BinOp a b c d) te) (hr : PA X es t) : PA X (.BinOp a b c d :: es) (tCons te t) := pa_cons ha hr rfl
theorem pa_u {a b c} (ha : PE X (.UnaryOp a b c) te) (hr : PA X es t) : PA X (.UnaryOp a b c :: es) (tCons te t) := pa_cons ha hr rfl
theorem pa_x {a b c} (ha : PE X (.Subscript a b c) te) (hr : PA X es t) : PA X (.Subscript a b c :: es) (tCons te t) := pa_cons ha hr rfl
end
section
variable {X : Cx} {elt tg iter : Expr} {ifs : List Expr} {scope : Scope} {pos : Pos} {wi : TI} {g : TG} {tt : TT} {te : TE} {N : List Str} {k : Nat} {cap : List Nat}
/-- x = [.. for ..], x a plain local name: the list is stored ahead of the block's end -/
theorem ps_comp {iy : Nat} {y : Str} {py spos : Pos} (hc : X.calm = true) (hNd : X.N.Nodup) (hiy : X.N[iy]? = some y) (hy : X.env.scope.names.lookup y = some .local)
    (S : CompScope X scope N k cap) (hi : PI X tg iter wi) (hg : ∀ c, PG (cxComp X scope N c) tg g) (ht : ∀ c, PTs (cxComp X scope N c) ifs tt) (he : ∀ c, PE (cxComp X scope N c) elt te)
    (hsw : swapsWith (.ListComp elt [⟨tg, iter, ifs, 0⟩] scope pos) (some (.Name y py)) spos.line X.env = pure true)
    (hs : ∀ x, foldedSetIterable iter X.env x = pure x := by intro _; rfl) : PS X (.Assign [.Name y py] (.ListComp elt [⟨tg, iter, ifs, 0⟩] scope pos) spos) (tAsg (tComp wi k cap g tt te) (gName iy)) := by
  intro pins s σ H D I h
  rw [exec_Assign_Name_used _ _ _ _ hsw]
  refine wpAny_bind (wpAny_standAt (wpAny_bind ?_))
  obtain ⟨cl, hclos, hcl1, hcl2⟩ := closureFor_ok (scope := scope) (env := X.env) (fun p hp hf => I.ok.has p.1 (S.free p hp hf))
  show wpAny _ X.A (do let _ ← comprehension (.ListComp elt [⟨tg, iter, ifs, 0⟩] scope pos) scope X.env _ (newList []) false (eval iter X.env) (some (assign (.Name y py) X.env))) _ _ s
  refine wpAny_bind (wpAny_mono (wpAny_comprehension_free (use := some (assign (.Name y py) X.env)) (Q := fun _ s' => SP X pins D .next s') rfl hs hclos S.kind S.names (thn (hi pins s σ H _ I h) fun v s1 h1 => thn h1 fun itv s2 h2 => ?_)) (fun _ s' hq => wpAny_pure (wpAny_pure hq)) fun _ _ e => e)
  obtain ⟨it, fp, tn, J, H2, e, I2, T, st2, f2, q2⟩ := h2
  subst e
  obtain ⟨W, ⟨m0, w0⟩, turn⟩ := q2 s2.heap.objs.size (I2.hok.fresh (Nat.le_refl _))
  have hob : ∀ b ∈ fp, b < s2.heap.objs.size := fun b hb => let ⟨o, e, _⟩ := T.obj _ _ st2 b hb; Heap.lt_size e
  refine wpAny_newObj_type (wpAny_newFunctionEnv S.cell (by intro y hy; simp at hy) (fun h₁ hns₁ hsb₁ => ?_) S.kind)
  dsimp only at hns₁ hsb₁ ⊢
  generalize hHH : s2.heap.push { cls := .type "list", dict := none, data := .seq ([] : List Value).toArray } = HH at hns₁ hsb₁ ⊢
  have hCC : HH.objs.size = s2.heap.objs.size + 1 := by rw [← hHH, Heap.size_push]
  have old : ∀ b o, s2.heap.get? b = some o → h₁.get? b = some o := fun b o e => hsb₁.extBut b o (Nat.ne_of_lt (hCC ▸ Nat.lt_succ_of_lt (Heap.lt_size e))) (Heap.get?_push_of_some _ (hHH ▸ Heap.get?_push_of_some _ e))
  have hD : h₁.get? s2.heap.objs.size = some { cls := .type "list", data := .seq #[] 0 } := hsb₁.extBut _ _ (Nat.ne_of_lt (hCC ▸ Nat.lt_succ_self _)) (Heap.get?_push_of_some _ (hHH ▸ Heap.get?_push_size _ rfl))
  have I4 := fun tk => compInv (tk := tk) S I2 hcl1 hcl2 hCC f2 hob old hD hns₁
  have X' := cxComp X scope N ⟨cl, HH.objs.size, s2, H2, fp⟩
  have stat : ∀ {H' : Hp}, (∀ b ∈ fp, H' b = none) → ∀ b ∈ fp, FpOk (cxComp X scope N ⟨cl, HH.objs.size, s2, H2, fp⟩) [] H' b := fun hn b hb =>
    ⟨hn b hb, Nat.ne_of_lt (hCC ▸ Nat.lt_succ_of_lt (hob b hb)), (compOk S I2 hcl1 hcl2 (hCC ▸ Nat.le_succ _) f2 hob).exfs b hb, .inl hb, fun x c e => (f2 b hb).2.2.2.2.1 x c (hcl1 x c e), fun p hp => absurd (show p ∈ ([] : List (Addr × Obj)) from hp) (by simp)⟩
  have loop : ∀ s₃ : Shared, s₃ = { s2 with heap := h₁, toks := s2.toks + ([] : List (Str × Value)).length } →
      codeAny (model X.prog X.w) X.A (.compLoop (.ListComp elt [⟨tg, iter, ifs, 0⟩] scope pos) 0 (.ref it) (.ref s2.heap.objs.size) (compEnvC scope cl HH.objs.size X.env))
        (compPost (model X.prog X.w) X.A X.xe (some (assign (.Name y py) X.env)) (fun _ s' => SP X pins D .next s') (.ref s2.heap.objs.size) HH.objs.size) s₃ := by
    rintro s₃ rfl
    refine compLoopT (fun n s' => ∃ i σ' H', Inv (cxComp X scope N ⟨cl, HH.objs.size, s2, H2, fp⟩) [] σ' H' s' ∧ tn i s'.heap ∧ (∀ b ∈ fp, H' b = none) ∧ W i n σ' H') ?_ m0
      ⟨0, capSt k cap σ, _, I4 _, T.keep _ _ _ st2 fun b _ o e => old b o e, fun b hb => by rw [upd_ne (Nat.ne_of_lt (hob b hb))]; exact (f2 b hb).1, w0⟩
    rintro n s3 ⟨i, σ3, H3, I3, st3, fr3, w3⟩
    rcases turn i n σ3 H3 w3 with ⟨stop, qn⟩ | ⟨go, NN, hN, step⟩
    · refine thn (T.done (cxComp X scope N ⟨cl, HH.objs.size, s2, H2, fp⟩) rfl rfl rfl hc i [] s3 σ3 H3 _ I3 (stat fr3) st3 stop) fun r s4 ⟨hr, J4⟩ => ?_
      subst hr
      obtain ⟨m, hn, _⟩ := J4.loc
      obtain ⟨oC, es, ep, hoC, hdC, rC⟩ := hn
      have ltC : ∀ b o, s2.heap.get? b = some o → b ≠ HH.objs.size := fun b o e => Nat.ne_of_lt (hCC ▸ Nat.lt_succ_of_lt (Heap.lt_size e))
      have szC : s2.heap.objs.size ≤ HH.objs.size := hCC ▸ Nat.le_succ _
      have u := J4.base
      have I4x : Inv X pins σ H3 s4 := I2.call' (ch := fp) J4.os u J4.hok J4.bare fun b hb => by
        obtain ⟨_, f1, _, f3, f4, f5⟩ := f2 b hb
        exact ⟨f3, f1, f4, f5⟩
      have lC : HH.objs.size ≠ X.env.locals := Nat.ne_of_gt (Nat.lt_of_lt_of_le I2.lt szC)
      have I4p : Inv X ((HH.objs.size, oC) :: pins) σ H3 s4 := I4x.pins_of fun p hp => by
        rcases List.mem_cons.mp hp with r | r
        · rw [r]
          exact ⟨hoC, J4.free, lC, I2.nofs szC, fun v z => by rw [hdC] at z; cases z⟩
        · exact I4x.pin p (List.mem_append_right _ r)
      show wpAny _ X.A (assign (.Name y py) X.env (.ref s2.heap.objs.size)) _ _ _
      refine wpAny_assign_Name (store_ok I4p hNd hiy (.inl hy) (v := .ref s2.heap.objs.size) rfl (fun s5 I5 => ?_) (.inr hy))
      have hC5 := I5.pin (HH.objs.size, oC) (List.mem_append_right _ List.mem_cons_self)
      refine ⟨m, ⟨oC, es, ep, hC5.1, hdC, rC⟩, fun h' hs' => ⟨_, H3, ?_, qn⟩⟩
      have I6 : Inv X pins (σ.set iy (some (.ref s2.heap.objs.size))) H3 s5 := I5.pins_of fun p hp => I5.pin p (List.mem_append_right _ (List.mem_cons_of_mem _ hp))
      refine I6.turned (it := HH.objs.size) (t' := s5.toks) (fun b o hb e => hs'.extBut b o hb e) J4.free lC (.inr (Nat.le_trans I2.sz szC)) (fun x c e => ?_) (fun p hp => ?_)
      · obtain ⟨v, q⟩ := I2.cell x c e
        exact Nat.ne_of_lt (Nat.lt_of_lt_of_le q.lt szC)
      · exact ltC p.1 p.2 (I2.pin p hp).1
    · refine thn (T.item (cxComp X scope N ⟨cl, HH.objs.size, s2, H2, fp⟩) rfl rfl rfl hc i [] s3 σ3 H3 _ I3 (stat fr3) st3 go) fun r s4 ⟨u, hr, h4⟩ => ?_
      subst hr
      refine thn h4 fun _ s5 ⟨x, H5, I5, r5, y5, st5, fr5⟩ => ?_
      have I5' := I5.pinned (stat fr5) (T.obj _ _ st5)
      have again : ∀ {s7 : Shared} {σ7 : St} {H7 : Hp}, Inv (cxComp X scope N ⟨cl, HH.objs.size, s2, H2, fp⟩) ([] ++ pinsAt fp s5.heap) σ7 H7 s7 → NN σ7 H7 →
          ∃ m, m < n ∧ ∃ i σ' H', Inv (cxComp X scope N ⟨cl, HH.objs.size, s2, H2, fp⟩) [] σ' H' s7 ∧ tn i s7.heap ∧ (∀ b ∈ fp, H' b = none) ∧ W i m σ' H' := fun {s7 σ7 H7} I7 n7 => by
        obtain ⟨m', hm, w7⟩ := hN σ7 H7 n7
        refine ⟨m', hm, i + 1, σ7, H7, I7.unpinned, T.keep _ _ _ st5 fun b hb o e => (I7.pin (b, o) (List.mem_append_right _ (List.mem_append_right _ (mem_pinsAt hb e)))).1, fun b hb => ?_, w7⟩
        obtain ⟨o, e, d⟩ := T.obj _ _ st5 b hb
        exact (I7.pin (b, o) (List.mem_append_right _ (List.mem_append_right _ (mem_pinsAt hb e)))).2.1
      refine thn (hg _ _ s5 σ3 H5 x u _ I5' r5 (step x H5 y5)) fun _ s6 ⟨σ6, H6, I6, q6⟩ => ?_
      refine thn (ht _ _ s6 σ6 H6 _ I6 q6) fun b s7 ⟨H7, I7, q7⟩ => ?_
      cases b with
      | false => exact again I7 q7
      | true =>
        refine thn (he _ _ s7 σ6 H7 _ I7 q7) fun y s8 ⟨yv, H8, I8, r8, xs, hl, hz, n8⟩ => ?_
        refine thn (mt_append _ s8 σ6 H8 (.ref s2.heap.objs.size) [yv] (.ref s2.heap.objs.size) [y] (fun _ H9 => NN σ6 H9) I8 rfl (.cons r8 .nil) ⟨_, xs, yv, rfl, rfl, hl, hz, n8⟩) fun _ s9 ⟨_, H9, I9, _, q9⟩ => ?_
        exact again I9 q9
  exact codeAny_compStart_list (loop _ rfl) (T.self X.A 0 _ _ _ (T.keep _ _ _ st2 fun b _ o e => old b o e) (loop _ rfl))
theorem ps_setLC {i : Nat} {y : Str} {py spos : Pos} (N : List Str) (k : Nat) (cap : List Nat) (XN : List Str) (xs : Scope) (hc : X.calm = true) (hN : X.N = XN) (hx : X.env.scope = xs) (hNd : X.N.Nodup) (hiy : X.N[i]? = some y) (hy : X.env.scope.names.lookup y = some .local)
    (hi : PI X tg iter wi) (chk : compChk XN xs scope N k cap = true) (hg : ∀ c, PG (cxComp X scope N c) tg g) (ht : ∀ c, PTs (cxComp X scope N c) ifs tt) (he : ∀ c, PE (cxComp X scope N c) elt te)
    (hsw : swapsWith (.ListComp elt [⟨tg, iter, ifs, 0⟩] scope pos) (some (.Name y py)) spos.line X.env = pure true := by rfl)
    (hs : ∀ x, foldedSetIterable iter X.env x = pure x := by intro _; rfl) : PS X (.Assign [.Name y py] (.ListComp elt [⟨tg, iter, ifs, 0⟩] scope pos) spos) (tAsg (tComp wi k cap g tt te) (gName i)) :=
  ps_comp hc hNd hiy hy (compScope_of hN hx chk) hi hg ht he hsw hs
end
section
variable {X : Cx} {es : List Expr} {e : Expr} {te tk tv : TE} {t : TA}
/-! ### within a box: a term over a large display is read so without its run being looked at -/
structure PEw (X : Cx) (e : Expr) (t : TE) : Prop where
  h : PE X e t
structure PAw (X : Cx) (es : List Expr) (t : TA) : Prop where
  h : PA X es t
theorem ew (h : PE X e te) : PEw X e te := ⟨h⟩
theorem ew_d0 {pos : Pos} : PEw X (.Dict [] [] pos) tDNewK := ⟨pe_dnewK⟩
theorem ew_d1 {k v : Expr} {pos : Pos} (hk : PE X k tk) (hv : PE X v tv) : PEw X (.Dict [some k] [v] pos) (tDisp [(tk, tv)]) := ⟨pe_disp (pps_cons hk hv pps_nil) rfl rfl (fun z => nomatch z) (by show 1 ≤ 15; decide)⟩
theorem pw_nil : PAw X [] tNil := ⟨pa_nil⟩
theorem pw_n {a b} (ha : PEw X (.Name a b) te) (hr : PAw X es t) : PAw X (.Name a b :: es) (tCons te t) := ⟨pa_n ha.h hr.h⟩
theorem pw_t {a b c} (ha : PEw X (.Tuple a b c) te) (hr : PAw X es t) : PAw X (.Tuple a b c :: es) (tCons te t) := ⟨pa_t ha.h hr.h⟩
theorem pw_l {a b} (ha : PEw X (.List a b) te) (hr : PAw X es t) : PAw X (.List a b :: es) (tCons te t) := ⟨pa_l ha.h hr.h⟩
theorem pw_d {a b c} (ha : PEw X (.Dict a b c) te) (hr : PAw X es t) : PAw X (.Dict a b c :: es) (tCons te t) := ⟨pa_d ha.h hr.h⟩
theorem pw_k {a b c d} (ha : PEw X (.Call a b c d) te) (hr : PAw X es t) : PAw X (.Call a b c d :: es) (tCons te t) := ⟨pa_k ha.h hr.h⟩
theorem pw_c {a b c} (ha : PEw X (.Constant a b c) te) (hr : PAw X es t) : PAw X (.Constant a b c :: es) (tCons te t) := ⟨pa_c ha.h hr.h⟩
theorem pw_b {a b c d} (ha : PEw X (.BinOp a b c d) te) (hr : PAw X es t) : PAw X (.BinOp a b c d :: es) (tCons te t) := ⟨pa_b ha.h hr.h⟩
theorem pw_u {a b c} (ha : PEw X (.UnaryOp a b c) te) (hr : PAw X es t) : PAw X (.UnaryOp a b c :: es) (tCons te t) := ⟨pa_u ha.h hr.h⟩
theorem pw_x {a b c} (ha : PEw X (.Subscript a b c) te) (hr : PAw X es t) : PAw X (.Subscript a b c :: es) (tCons te t) := ⟨pa_x ha.h hr.h⟩
theorem ew_t {k} {pos : Pos} (h : PAw X es t) : PEw X (.Tuple es k pos) (tTup t) := ⟨pe_tup h.h⟩
theorem ew_l {pos : Pos} (h : PAw X es t) : PEw X (.List es pos) (tLst t) := ⟨pe_lst h.h⟩
/-- x = [..] and x = (..), displays -/
theorem ps_setWl {i : Nat} {x : Str} {pos' pos p3 : Pos} (hN : X.N.Nodup) (hi : X.N[i]? = some x) (hx : X.env.scope.names.lookup x = some .local) (he : PEw X (.List es pos) te) : PS X (.Assign [.Name x pos'] (.List es pos) p3) (tAsg te (gName i)) := ps_set hN hi (.inl hx) he.h rfl (.inr hx)
theorem ps_setWt {i : Nat} {x : Str} {pos' pos p3 : Pos} {k} (hN : X.N.Nodup) (hi : X.N[i]? = some x) (hx : X.env.scope.names.lookup x = some .local) (he : PEw X (.Tuple es k pos) te) : PS X (.Assign [.Name x pos'] (.Tuple es k pos) p3) (tAsg te (gName i)) := ps_set hN hi (.inl hx) he.h rfl (.inr hx)
/-- x = x + [..] -/
theorem ps_addL {i : Nat} {x : Str} {pos' q pos p2 p3 : Pos} (hN : X.N.Nodup) (hi : X.N[i]? = some x) (hx : X.env.scope.names.lookup x = some .local) (hv : PE X (.Name x q) (tVar i)) (hl : PAw X es t) :
    PS X (.Assign [.Name x pos'] (.BinOp (.Name x q) .Add (.List es pos) p2) p3) (tAsg (tOp rCat (tVar i) (tLst t)) (gName i)) :=
  ps_set hN hi (.inl hx) (pe_op op_cat hv (pe_lst hl.h)) rfl (.inr hx)
end
section
variable {X : Cx} {es : List Expr} {te : TE} {t : TA} {st : Stmt} {rest : List Stmt} {ts us : TS}
structure PSw (X : Cx) (st : Stmt) (t : TS) : Prop where
  h : PS X st t
structure PSsw (X : Cx) (st : List Stmt) (t : TS) : Prop where
  h : PSs X st t
theorem sw (h : PS X st ts) : PSw X st ts := ⟨h⟩
theorem ssw_cons (h1 : PSw X st ts) (h2 : PSsw X rest us) : PSsw X (st :: rest) (tSeq ts us) := ⟨pss_cons h1.h h2.h⟩
theorem ssw_one (h1 : PSw X st ts) : PSsw X [st] ts := ⟨pss_one h1.h⟩
theorem sw_setWl {i : Nat} {x : Str} {pos' pos p3 : Pos} (hN : X.N.Nodup) (hi : X.N[i]? = some x) (hx : X.env.scope.names.lookup x = some .local) (he : PEw X (.List es pos) te) : PSw X (.Assign [.Name x pos'] (.List es pos) p3) (tAsg te (gName i)) := ⟨ps_setWl hN hi hx he⟩
theorem sw_setWt {i : Nat} {x : Str} {pos' pos p3 : Pos} {k} (hN : X.N.Nodup) (hi : X.N[i]? = some x) (hx : X.env.scope.names.lookup x = some .local) (he : PEw X (.Tuple es k pos) te) : PSw X (.Assign [.Name x pos'] (.Tuple es k pos) p3) (tAsg te (gName i)) := ⟨ps_setWt hN hi hx he⟩
theorem sw_addL {i : Nat} {x : Str} {pos' q pos p2 p3 : Pos} (hN : X.N.Nodup) (hi : X.N[i]? = some x) (hx : X.env.scope.names.lookup x = some .local) (hv : PE X (.Name x q) (tVar i)) (hl : PAw X es t) :
    PSw X (.Assign [.Name x pos'] (.BinOp (.Name x q) .Add (.List es pos) p2) p3) (tAsg (tOp rCat (tVar i) (tLst t)) (gName i)) := ⟨ps_addL hN hi hx hv hl⟩
theorem boxed {body : List Stmt} {D : Ends} {σ : St} {H : Hp} (h : ∃ t, PSsw X body t ∧ t D σ H) : ∃ t, PSs X body t ∧ t D σ H := let ⟨t, a, b⟩ := h; ⟨t, a.h, b⟩
end
end L2

set_option Elab.async false
set_option linter.all false
set_option maxRecDepth 100000
set_option maxHeartbeats 4000000
namespace L2
open PySem PySem.Spec PyProof.Rows
section
variable {X : Cx} {pos : Pos} {k : Nat} {a b e : Expr} {es rest : List Expr} {te ta tb : TE} {t : Str → TE}
/-- * of numbers of any size, by the model's own bound -/
theorem op_mulB : OpR X (binaryOp .Mult) (rI IntMulOk fun i j => .int (i * j)) := opI fun _ _ _ _ _ _ _ hc q => mul_int q hc
/-! ### f-strings -/
def PJ (X : Cx) (es : List Expr) (t : Str → TE) : Prop :=
  ∀ (acc : Str) (pins : List (Addr × Obj)) (s : Shared) (σ : St) (H : Hp) (Q : VK), Inv X pins σ H s → t acc σ H Q → wpAny (model X.prog X.w) X.A (joinParts acc (evalEach es X.env)) (EP X pins σ Q) X.xe s
def jNil : Str → TE := fun acc _ H Q => acc.length ≤ sizeLine ∧ Q (.str acc) H
def jCons (te : TE) (t : Str → TE) : Str → TE := fun acc σ H Q => te σ H fun v H1 => ∃ y, v = .str y ∧ (acc ++ y).length ≤ sizeLine ∧ t (acc ++ y) σ H1 Q
def tFS (t : Str → TE) : TE := t Str.empty
def tFmtS (te : TE) : TE := fun σ H Q => te σ H fun v H1 => ∃ y, v = .str y ∧ y.length ≤ sizeLine ∧ Q (.str y) H1
def tFmtI (te : TE) : TE := fun σ H Q => te σ H fun v H1 => ∃ i, v = .int i ∧ i.natAbs.log2 < 1920 ∧ Q (.str (toString i)) H1
theorem pj_nil : PJ X [] jNil := fun acc pins s σ H Q I ⟨h1, h2⟩ => joinParts_nilE (joinParts_nil ⟨.str acc, H, I.tok _, ⟨_, rfl⟩, h2⟩ h1)
theorem pj_cons (h : PE X e te) (hs : PJ X es t) : PJ X (e :: es) (jCons te t) := fun acc pins s σ H Q I hw => joinParts_consE (joinParts_cons (thn (h pins s σ H _ I hw) fun v s1 ⟨x, H1, I1, r1, q1⟩ => by
  obtain ⟨y, rfl, hz, q⟩ := q1
  obtain ⟨t, rfl⟩ := r1
  exact ⟨hz, hs _ _ _ _ _ _ I1 q⟩))
theorem pe_fstr (h : PJ X (a :: b :: es) t) : PE X (.JoinedStr (a :: b :: es) pos) (tFS t) := fun pins s σ H Q I hw => JoinedStr_many (h _ pins s σ H Q I hw)
theorem pe_fmtS (h : PE X e te) : PE X (.FormattedValue e (-1) none pos) (tFmtS te) := fun pins s σ H Q I hw => PyProof.Rows.FormattedValue_plain (thn (h pins s σ H _ I hw) fun v s1 ⟨x, H1, I1, r1, q1⟩ => by
  obtain ⟨y, rfl, hz, q⟩ := q1
  obtain ⟨t, rfl⟩ := r1
  exact PyProof.Rows.formatField_str (fun t' tk => ⟨.str y, H1, I1.tok _, ⟨_, rfl⟩, q⟩) hz)
theorem pe_fmtI (h : PE X e te) : PE X (.FormattedValue e (-1) none pos) (tFmtI te) := fun pins s σ H Q I hw => PyProof.Rows.FormattedValue_plain (thn (h pins s σ H _ I hw) fun v s1 ⟨x, H1, I1, r1, q1⟩ => by
  obtain ⟨i, rfl, hz, q⟩ := q1
  obtain ⟨t, rfl⟩ := r1
  exact PyProof.Rows.formatField_int_small hz ⟨.str _, H1, I1.tok _, ⟨_, rfl⟩, q⟩)
/-- a or b, a a text -/
def tOrS (ta tb : TE) : TE := fun σ H Q => ta σ H fun x H1 => ∃ y, x = .str y ∧ y.length ≤ sizeLine ∧ if ((y.length : Int) != 0) = true then Q (.str y) H1 else tb σ H1 Q
theorem pe_orS (ha : PE X a ta) (hb : PE X (.BoolOp .Or (b :: rest) pos) tb) : PE X (.BoolOp .Or (a :: b :: rest) pos) (tOrS ta tb) := by
  intro pins s σ H Q I h
  refine BoolOp_or (thn (ha pins s σ H _ I h) fun v s1 ⟨x, H1, I1, r1, q1⟩ => ?_)
  obtain ⟨y, rfl, hz, q1⟩ := q1
  obtain ⟨t, rfl⟩ := r1
  have hl := line63
  refine PySem.P.truthy_str (by omega) ?_
  cases hc : ((y.length : Int) != 0) with
  | false => rw [hc] at q1; exact hb pins _ σ H1 Q (I1.tok _) (by simpa using q1)
  | true => rw [hc] at q1; exact ⟨.str y, H1, I1.tok _, ⟨_, rfl⟩, by simpa using q1⟩
/-! ### two lists not alike -/
def rNeL (K : PySem.W.Frag) : R2 := fun x y H Q => ∃ a b xs ys, x = .ref a ∧ y = .ref b ∧ SqL K H a xs ∧ SqL K H b ys ∧ (xs.length = ys.length → xs.all flatV = true ∧ ys.all flatV = true) ∧ Q (.bl (!eqLV xs ys)) H
theorem neL (K : PySem.W.Frag) (hr : Room k X.A) (hK : X.K = K := by rfl) : OpR X (compareOp .NotEq) (rNeL K) := by
  subst hK
  intro pins s σ H x y v u Q I rx ry h
  obtain ⟨a, b, xs, ys, rfl, rfl, ha, hb, hf, q⟩ := h
  cases rx
  cases ry
  obtain ⟨its, r1, p1, _⟩ := I.list ha
  obtain ⟨its2, r2, p2, _⟩ := I.list hb
  have l1 := r1.length
  have l2 := r2.length
  by_cases e : xs.length = ys.length
  · obtain ⟨f1, f2⟩ := hf e
    refine SeqAt.RcNeAt.lists (e := fun j => eqV ((xs[j]?).getD .non) ((ys[j]?).getD .non)) p1.isList p2.isList (by simp; omega) hr.units0 (fun j h1 h2 => ?_) _ _ _ _ ?_
    · have g1 : its[j]? = some (its.toArray[j]) := by simp at h1 ⊢
      have g2 : its2[j]? = some (its2.toArray[j]) := by simp at h2 ⊢
      obtain ⟨x, ex, rx⟩ := r1.get' g1
      obtain ⟨y, ey, ry⟩ := r2.get' g2
      rw [ex, ey]
      exact eqAt_V rx ry (List.all_eq_true.mp f1 _ (List.mem_of_getElem? ex)) (List.all_eq_true.mp f2 _ (List.mem_of_getElem? ey))
    · have e1 : its.toArray.size = xs.length := by simp; omega
      rw [e1, eqLV_range e]
      exact ⟨.bl _, H, I, rfl, q⟩
  · refine SeqAt.RcNeAt.lists_lengths p1.isList p2.isList (by simp; omega) hr.units0 _ _ _ _ ?_
    rw [eqLV_len e] at q
    exact ⟨.bl true, H, I, rfl, q⟩
end
/-! ### the purses of the later laws: a list with a list of great numbers, a seed, a count -/
def Pur (H : Hp) (p g : Addr) : Prop := ∃ (xs : List Int) (s c : Int), H p = some (.lst [.ref g, .int s, .int c]) ∧ H g = some (.lst (xs.map V.int)) ∧ p ≠ g
def Fr (p g : Addr) (H H' : Hp) : Prop := ∀ b o, H b = some o → b ≠ p → b ≠ g → H' b = some o
theorem Fr.refl {p g : Addr} {H : Hp} : Fr p g H H := fun _ _ h _ _ => h
theorem Fr.trans {p g : Addr} {H H1 H2 : Hp} (a : Fr p g H H1) (b : Fr p g H1 H2) : Fr p g H H2 := fun c o h n m => b c o (a c o h n m) n m
theorem Fr.of {p g : Addr} {H H1 : Hp} (a : Same H H1) : Fr p g H H1 := fun c o h _ _ => a c o h
theorem Fr.new {p g l : Addr} {H H1 : Hp} {o : HO} (f : Fr p g H H1) (n : H1 l = none) : Fr p g H (upd H1 l o) := f.trans (.of (Same.upd n))
theorem Pur.same {H H' : Hp} {p g : Addr} (h : Pur H p g) (s : Same H H') : Pur H' p g := let ⟨xs, i, c, e1, e2, n⟩ := h; ⟨xs, i, c, s _ _ e1, s _ _ e2, n⟩
theorem Pur.upd {H : Hp} {p g l : Addr} {o : HO} (h : Pur H p g) (h1 : p ≠ l) (h2 : g ≠ l) : Pur (upd H l o) p g := let ⟨xs, i, c, e1, e2, n⟩ := h; ⟨xs, i, c, by rw [upd_ne h1]; exact e1, by rw [upd_ne h2]; exact e2, n⟩
theorem Pur.new {H : Hp} {p g l : Addr} {o : HO} (h : Pur H p g) (n : H l = none) : Pur (L2.upd H l o) p g := h.same (Same.upd n)
theorem Pur.nep {H : Hp} {p g l : Addr} (h : Pur H p g) (n : H l = none) : p ≠ l := let ⟨_, _, _, e, _, _⟩ := h; ne_of_none e n
theorem Pur.neg {H : Hp} {p g l : Addr} (h : Pur H p g) (n : H l = none) : g ≠ l := let ⟨_, _, _, _, e, _⟩ := h; ne_of_none e n
theorem Pur.netp {H : Hp} {p g l : Addr} {xs : List V} (h : Pur H p g) (n : H l = some (.tup xs)) : l ≠ p := let ⟨_, _, _, e, _, _⟩ := h; ne_of n e (by intro z; cases z)
theorem Pur.netg {H : Hp} {p g l : Addr} {xs : List V} (h : Pur H p g) (n : H l = some (.tup xs)) : l ≠ g := let ⟨_, _, _, _, e, _⟩ := h; ne_of n e (by intro z; cases z)
theorem Fr.kp {H H' : Hp} {p g : Addr} (h : Pur H p g) (h' : Pur H' p g) (f : Fr p g H H') : Kp H H' := fun a o e => by
  obtain ⟨xs, s, c, e1, e2, n⟩ := h
  obtain ⟨xs', s', c', e1', e2', n'⟩ := h'
  by_cases z : a = p
  · subst z
    rw [e1] at e; cases e
    exact .inr ⟨_, _, rfl, e1'⟩
  · by_cases z2 : a = g
    · subst z2
      rw [e2] at e; cases e
      exact .inr ⟨_, _, rfl, e2'⟩
    · exact .inl (f a o e z z2)
def spPurse (K : PySem.W.Frag) : Sp := fun vs H Q _ => ∃ (a : Addr) (ns : List Int), vs = [.ref a] ∧ SqL K H a (ns.map V.int) ∧ ns.length ≤ 63 ∧ ∀ p g H', H p = none → H g = none → Pur H' p g → Same H H' → Q (.ref p) H'
def spPick : Sp := fun vs H Q _ => ∃ (p g : Addr) (n : Int), vs = [.ref p, .int n] ∧ Pur H p g ∧ 0 < n ∧ n < 1073741824 ∧ ∀ d H', 0 ≤ d → d < n → Pur H' p g → Fr p g H H' → Q (.int d) H'
section
variable {k : Nat} {cap : List Nat} {gg : TG} {tt : TT} {te : TE} {σ : St} {H : Hp} {Q : VK} {l : Addr}
/-- over a range, each item drawn from a purse; what is true of an item leans on the heap -/
theorem comp_drawP (lo : Int) (n : Nat) (p g : Addr) (R : Hp → V → Prop) (Good : St → Prop) (h0 : Good (capSt k cap σ)) (hp : Pur H p g) (hl : H l = none) (hlen : n ≤ 1000000)
    (m : ∀ H1 H2 y, Kp H1 H2 → R H1 y → R H2 y)
    (ht : ∀ i σ H1 xs (N : St → Hp → Prop), i < n → Good σ → Pur H1 p g → H1 l = some (.lst xs) → xs.length = i → Fr p g H H1 →
      (∀ σ' y H2, Good σ' → R H2 y → Pur H2 p g → Fr p g H1 H2 → ∃ xs, H2 l = some (.lst xs) ∧ xs.length < sizeLine ∧ N σ' (upd H2 l (.lst (xs ++ [y])))) → turnOf gg tt te l (.int (lo + i)) σ H1 N)
    (hd : ∀ ys H1, ys.length = n → (∀ y ∈ ys, R H1 y) → H1 l = some (.lst ys) → Pur H1 p g → Fr p g H H1 → Q (.ref l) H1) : GoalW (Itr lo n) gg tt te l (capSt k cap σ) (upd H l (.lst [])) Q := by
  have pl : p ≠ l := hp.nep hl
  have gl : g ≠ l := hp.neg hl
  refine comp_range lo n (fun i σ' H' => Good σ' ∧ ∃ ys : List V, H' l = some (.lst ys) ∧ ys.length = i ∧ (∀ y ∈ ys, R H' y) ∧ Pur H' p g ∧ Fr p g H H') ⟨h0, [], upd_same, rfl, (fun _ h => nomatch h), hp.new hl, Fr.of (Same.upd hl)⟩
    (fun i σ' H' hi ⟨gd, ys, e, hy, hR, hp', b⟩ => ?_) (fun σ' H' ⟨_, ys, e, hy, hR, hp', b⟩ => hd ys H' hy hR e hp' b)
  refine ht i σ' H' ys _ hi gd hp' e hy b fun σ2 y H2 g2 ry p2 b2 => ?_
  have e2 : H2 l = some (.lst ys) := b2 l _ e pl.symm gl.symm
  refine ⟨ys, e2, szt (by omega), g2, ys ++ [y], upd_same, by simp [hy], fun z hz => ?_, p2.upd pl gl, fun c o h n1 n2 => ?_⟩
  · rcases List.mem_append.mp hz with r | r
    · exact m _ _ _ (Kp.lst e2) (m _ _ _ (b2.kp hp' p2) (hR z r))
    · rw [List.mem_singleton.mp r]; exact m _ _ _ (Kp.lst e2) ry
  · rw [upd_ne (ne_of_none h hl)]
    exact b2 c o (b c o h n1 n2) n1 n2
end
theorem range_all_getD {ys : List V} {n : Nat} (h : ys.length = n) : ((List.range n).filter fun _ => true).map (fun i => (ys[i]?).getD .non) = ys := by
  have e := range_getD (xs := ys) (f := id)
  rw [List.map_id, h] at e
  exact e
section
variable {k : Nat} {cap : List Nat} {g : TG} {tt : TT} {te : TE} {σ : St} {H : Hp} {Q : VK} {l : Addr}
/-- over a tuple, what comes told place by place -/
theorem comp_tupX {K : PySem.W.Frag} {a : Addr} {xs : List V} (hS : SqT K H a xs) (ys : List V) (hy : ys.length = xs.length) (Good : St → Prop) (h0 : Good (capSt k cap σ)) (hl : H l = none) (hlen : xs.length < sizeLine)
    (ht : ∀ (i : Nat) x y σ H1 zs (N : St → Hp → Prop), xs[i]? = some x → ys[i]? = some y → Good σ → Same H H1 → H1 l = some (.lst zs) → zs.length < sizeLine →
      (∀ σ' H3, Good σ' → But l H1 H3 → H3 l = some (.lst (zs ++ [y])) → N σ' H3) → turnOf g tt te l x σ H1 N)
    (hd : ∀ H', Same H H' → H' l = some (.lst ys) → Q (.ref l) H') : GoalW (Itt K a) g tt te l (capSt k cap σ) (upd H l (.lst [])) Q := by
  refine comp_grow (Itt K a) xs.length (fun _ => true) (fun i => (ys[i]?).getD .non) Good h0 hl hlen (fun H' s => ⟨xs, hS.same s, Nat.le_refl _⟩) (fun i H' hi s => ⟨xs, xs[i], hS.same s, by simp [hi]⟩) (fun i v σ H1 H2 zs N hi gd s e hz y hN => ?_) (fun H' s e => hd H' s (by rw [e, range_all_getD hy]))
  obtain ⟨e1, hx⟩ := y
  subst e1
  have hx := hx xs (hS.same s)
  have hyi : ys[i]? = some (ys[i]'(by omega)) := by simp
  refine ht i v _ σ _ zs N hx hyi gd s e hz fun σ' H3 g3 b e3 => hN σ' H3 g3 b ?_
  rw [e3, if_pos rfl, hyi]; rfl
/-- over a list, what comes told place by place -/
theorem comp_lstX {K : PySem.W.Frag} {a : Addr} {xs : List V} (hS : SqL K H a xs) (ys : List V) (hy : ys.length = xs.length) (Good : St → Prop) (h0 : Good (capSt k cap σ)) (hl : H l = none) (hlen : xs.length < sizeLine)
    (ht : ∀ (i : Nat) x y σ H1 zs (N : St → Hp → Prop), xs[i]? = some x → ys[i]? = some y → Good σ → Same H H1 → H1 l = some (.lst zs) → zs.length < sizeLine →
      (∀ σ' H3, Good σ' → But l H1 H3 → H3 l = some (.lst (zs ++ [y])) → N σ' H3) → turnOf g tt te l x σ H1 N)
    (hd : ∀ H', Same H H' → H' l = some (.lst ys) → Q (.ref l) H') : GoalW (Itl K a) g tt te l (capSt k cap σ) (upd H l (.lst [])) Q := by
  refine comp_grow (Itl K a) xs.length (fun _ => true) (fun i => (ys[i]?).getD .non) Good h0 hl hlen (fun H' s => ⟨xs, hS.same s, Nat.le_refl _⟩) (fun i H' hi s => ⟨xs, xs[i], hS.same s, by simp [hi]⟩) (fun i v σ H1 H2 zs N hi gd s e hz y hN => ?_) (fun H' s e => hd H' s (by rw [e, range_all_getD hy]))
  obtain ⟨e1, hx⟩ := y
  subst e1
  have hx := hx xs (hS.same s)
  have hyi : ys[i]? = some (ys[i]'(by omega)) := by simp
  refine ht i v _ σ _ zs N hx hyi gd s e hz fun σ' H3 g3 b e3 => hN σ' H3 g3 b ?_
  rw [e3, if_pos rfl, hyi]; rfl
end
end L2

set_option Elab.async false
set_option linter.all false
set_option maxRecDepth 100000
set_option maxHeartbeats 4000000
namespace L2
open PySem PySem.Spec PyProof.Rows
/-! ### tuples compared, whatever is in them -/
def LtAt (A : Around) (s : Shared) (x y : Value) (c : Bool) : Prop :=
  ∀ (prog : Program) (w : World) (E : Value → Shared → Prop) (Q : Value → Shared → Prop), Q (.bool c) s → wpAny (model prog w) A (richCompare .Lt x y) Q E s
inductive LexR (A : Around) (s : Shared) (fin : Bool) : List (Value × Value) → Bool → Prop
  | done : LexR A s fin [] fin
  | same {p q : Value} {r : List (Value × Value)} {c : Bool} : SeqAt.EqAt A s p q true → LexR A s fin r c → LexR A s fin ((p, q) :: r) c
  | less {p q : Value} {r : List (Value × Value)} {c : Bool} : SeqAt.EqAt A s p q false → LtAt A s p q c → LexR A s fin ((p, q) :: r) c
section
open PySem.SeqAt
open PySem.AutoSeq1 (wpAny_loadPart')
open PySem.MeetsSeq PySem.MeetsSeq2 PySem.MeetsSeq3
theorem lt_lex (l b : Addr) (us vs : Array Value) (n m : Nat) (d1 d2 : Option Addr) (k1 k2 : Array (Option Value)) (c : Bool) :
    Meets (Builtin.«tuple.__lt__» ⟨[.ref l, .ref b], []⟩) (fun A R s => s.heap.get? l = some ⟨.type "tuple", d1, .seq us n, k1⟩ ∧ s.heap.get? b = some ⟨.type "tuple", d2, .seq vs m, k2⟩ ∧
      LexR A.in1 s (decide (us.size < vs.size)) (us.toList.zip vs.toList) c ∧ R (.ok (.ret (.bool c))) s) :=
  .of_wp fun prog w A R s h => by
    obtain ⟨hp, gg, dd, tk, os⟩ := s
    obtain ⟨hl, hb, hx, hr⟩ := h
    have f2 := AutoSeq1.sub_tuple_tuple
    wp_walk using wpAny_loadPart' hl, wpAny_loadPart' hb, wpAny_forIn_list _ (fun rest acc s' => acc.1 = none ∧ s' = ⟨hp, gg, dd, tk, os⟩ ∧ LexR A.in1 ⟨hp, gg, dd, tk, os⟩ (decide (us.size < vs.size)) rest c) _
    case turn =>
      rintro ⟨y, x⟩ rest acc s' ⟨ha, rfl, hx'⟩
      cases hx' with
      | same he hrest =>
        refine wpAny_bind (he prog w _ _ ?_)
        wp_walk
        exact ⟨rfl, rfl, hrest⟩
      | less he hlt =>
        refine wpAny_bind (he prog w _ _ ?_)
        have hq := hlt prog w
        wp_walk using hq
        exact ⟨_, rfl, by simpa using hr⟩
    case fin =>
      rintro ⟨b1, b2⟩ s' ⟨ha, rfl, hx'⟩
      simp only at ha
      subst ha
      cases hx'
      wp_walk
      exact ⟨_, rfl, by simpa [Builtin.Tuple.tupleCompareSizes] using hr⟩
    case h => exact ⟨rfl, rfl, hx⟩
end
theorem lt_tup {A : Around} {s : Shared} {l b : Addr} {us vs : Array Value} {c : Bool} (hl : IsTup s.heap l us) (hb : IsTup s.heap b vs) (hu : A.units < cLine) (hx : LexR A.in1 s (decide (us.size < vs.size)) (us.toList.zip vs.toList) c) :
    LtAt A s (.ref l) (.ref b) c := by
  intro prog w E Q q
  obtain ⟨⟨c1, d1, t1, k1⟩, g1, e1, n, r1⟩ := id hl
  obtain ⟨⟨c2, d2, t2, k2⟩, g2, e2, m, r2⟩ := id hb
  simp only at e1 r1 e2 r2
  subst e1 r1 e2 r2
  exact richCompare_meets_room (op := .Lt) ⟨_, g1, rfl⟩ ⟨_, g2, rfl⟩ PySem.F.slot_tuple_lt PySem.F.entry_tuple_lt (PySem.F.args_tuple_lt_2 _ _) (lt_lex l b us vs n m d1 d2 k1 k2 c) ⟨g1, g2, hx, (fun x => nomatch x), q⟩ hu
/-! ### things that can be compared -/
def CmpD (K : PySem.W.Frag) (H : Hp) : Nat → V → V → Prop
  | 0, x, y => (∃ i j, x = .str i ∧ y = .str j) ∨ ∃ i j, x = .int i ∧ y = .int j
  | n + 1, x, y => CmpD K H n x y ∨ ∃ a b xs ys, x = .ref a ∧ y = .ref b ∧ SqT K H a xs ∧ SqT K H b ys ∧ ∀ (i : Nat) u v, xs[i]? = some u → ys[i]? = some v → CmpD K H n u v
def Asks (A : Around) (s : Shared) (v u : Value) : Prop := (∃ e, SeqAt.EqAt A s v u e) ∧ ∃ c, LtAt A s v u c
theorem lex_ex {A : Around} {s : Shared} {fin : Bool} : ∀ {ps : List (Value × Value)}, (∀ p ∈ ps, Asks A s p.1 p.2) → ∃ c, LexR A s fin ps c
  | [], _ => ⟨fin, .done⟩
  | (p, q) :: r, h => by
    obtain ⟨c, hc⟩ := lex_ex (fin := fin) (ps := r) fun z hz => h z (List.mem_cons_of_mem _ hz)
    obtain ⟨⟨e, he⟩, c', hc'⟩ := h (p, q) List.mem_cons_self
    cases e with
    | true => exact ⟨c, .same he hc⟩
    | false => exact ⟨c', .less he hc'⟩
section
variable {X : Cx} {pins : List (Addr × Obj)} {σ : St} {H : Hp} {s : Shared}
theorem CmpD.asks (I : Inv X pins σ H s) : ∀ (n : Nat) (A : Around) {x y : V} {v u : Value}, A.units + n < cLine → CmpD X.K H n x y → RelV x v → RelV y u → Asks A s v u
  | 0, A, x, y, v, u, hu, h, r1, r2 => by
    rcases h with ⟨i, j, rfl, rfl⟩ | ⟨i, j, rfl, rfl⟩
    · have e := eqAt_V (A := A) (s := s) r1 r2 rfl rfl
      obtain ⟨t, rfl⟩ := r1
      obtain ⟨t', rfl⟩ := r2
      exact ⟨⟨_, e⟩, _, fun prog w E Q q => PySem.P.lt_str q⟩
    · have e := eqAt_V (A := A) (s := s) r1 r2 rfl rfl
      obtain ⟨t, rfl⟩ := r1
      obtain ⟨t', rfl⟩ := r2
      exact ⟨⟨_, e⟩, _, fun prog w E Q q => PyProof.Rows.lt_int q⟩
  | n + 1, A, x, y, v, u, hu, h, r1, r2 => by
    rcases h with h | ⟨a, b, xs, ys, rfl, rfl, ha, hb, hxy⟩
    · exact CmpD.asks I n A (by omega) h r1 r2
    · cases r1
      cases r2
      obtain ⟨us, q1, p1, _⟩ := I.tuple ha
      obtain ⟨vs, q2, p2, _⟩ := I.tuple hb
      have hin : A.in1.units = A.units + 1 := rfl
      have key : ∀ (j : Nat) u v, us[j]? = some u → vs[j]? = some v → Asks A.in1 s u v := fun j u v hu' hv => by
        obtain ⟨x, ex, rx⟩ := q1.get' hu'
        obtain ⟨y, ey, ry⟩ := q2.get' hv
        exact CmpD.asks I n A.in1 (by omega) (hxy j x y ex ey) rx ry
      constructor
      · by_cases hab : a = b
        · subst hab; exact ⟨true, SeqAt.EqAt.same _⟩
        · have ex : ∀ j : Nat, ∃ e : Bool, ∀ (h1 : j < us.toArray.size) (h2 : j < vs.toArray.size), SeqAt.EqAt A.in1 s us.toArray[j] vs.toArray[j] e := fun j => by
            by_cases h : j < us.toArray.size ∧ j < vs.toArray.size
            · obtain ⟨⟨e, he⟩, _⟩ := key j us.toArray[j] vs.toArray[j] (by simp at h ⊢) (by simp at h ⊢)
              exact ⟨e, fun _ _ => he⟩
            · exact ⟨true, fun h1 h2 => absurd ⟨h1, h2⟩ h⟩
          exact ⟨_, SeqAt.EqAt.of_refs hab (SeqAt.RcAt.tuples (e := fun j => Classical.choose (ex j)) p1 p2 (by omega) fun j h1 h2 => Classical.choose_spec (ex j) h1 h2)⟩
      · obtain ⟨c, hc⟩ := lex_ex (A := A.in1) (s := s) (fin := decide (us.toArray.size < vs.toArray.size)) (ps := us.zip vs) (fun p hp => by
          obtain ⟨j, hj⟩ := List.mem_iff_getElem?.mp hp
          rw [List.getElem?_zip_eq_some] at hj
          exact key j p.1 p.2 hj.1 hj.2)
        exact ⟨c, lt_tup p1 p2 (by omega) (by simpa using hc)⟩
end
/-! ### the sort's questions: whatever is answered, a rearrangement comes -/
section
open PySem.W
/-- all ends of a tree of questions keep P; all questions are of numbers below n -/
def Al {α : Type} (n : Nat) (P : α → Prop) : KasT α → Prop
  | .ret a => P a
  | .ask i j k => i < n ∧ j < n ∧ ∀ b, Al n P (k b)
theorem Al.bind {α β : Type} {n : Nat} {P : α → Prop} {R : β → Prop} {f : α → KasT β} : ∀ {t : KasT α}, Al n P t → (∀ a, P a → Al n R (f a)) → Al n R (t.bind f)
  | .ret a, h, hf => hf a h
  | .ask _ _ _, h, hf => ⟨h.1, h.2.1, fun b => Al.bind (h.2.2 b) hf⟩
theorem Al.run {α : Type} {n : Nat} {P : α → Prop} {cmp : Nat → Nat → (Bool → Shared → Prop) → Shared → Prop} {G : α → Shared → Prop} {s : Shared}
    (hc : ∀ i j (C : Bool → Shared → Prop), i < n → j < n → (∀ b, C b s) → cmp i j C s) (hg : ∀ a, P a → G a s) : ∀ {t : KasT α}, Al n P t → t.kasWp cmp G s
  | .ret a, h => hg a h
  | .ask i j _, h => hc i j _ h.1 h.2.1 fun b => Al.run hc hg (h.2.2 b)
/-- a rearrangement of 0 .. n - 1 -/
def Rng (n : Nat) (p : Array Nat) : Prop := p.Perm (List.toArray (List.range n))
theorem Rng.lt {n : Nat} {p : Array Nat} (h0 : 0 < n) (h : Rng n p) (i : Nat) : p.getD i 0 < n := by
  by_cases hi : i < p.size
  · have e : p.getD i 0 = p[i] := by simp [Array.getD, hi]
    rw [e]
    have hm : p[i] ∈ p := Array.getElem_mem hi
    have := (h.mem_iff).mp hm
    simpa using this
  · have e : p.getD i 0 = 0 := by simp [Array.getD, hi]
    omega
theorem Rng.rev {n : Nat} {p : Array Nat} (h : Rng n p) (i j : Nat) : Rng n (kas_rev p i j) := (mirror_perm p i j ((j - i) / 2)).trans h
theorem Rng.bub {n : Nat} {p : Array Nat} (h : Rng n p) (i j : Nat) : Rng n (bubble p i j) := (bubble_perm p i j).trans h
theorem al_asc {n : Nat} {p : Array Nat} (h0 : 0 < n) (h : Rng n p) : ∀ f m, Al n (fun _ => True) (kas_asc p f m)
  | 0, m => trivial
  | f + 1, m => ⟨h.lt h0 _, h.lt h0 _, fun b => by
    cases b with
    | true => exact trivial
    | false => exact al_asc h0 h f (m + 1)⟩
theorem al_desc {n : Nat} (h0 : 0 < n) : ∀ f (p : Array Nat) m q, Rng n p → Al n (fun r : Array Nat × Nat × Nat => Rng n r.1) (kas_desc f p m q)
  | 0, p, m, q, h => h
  | f + 1, p, m, q, h => ⟨h.lt h0 _, h.lt h0 _, fun b => by
    cases b with
    | true =>
      show Al n _ (if q > 0 then _ else _)
      split
      · exact al_desc h0 f _ _ _ (h.rev _ _)
      · exact al_desc h0 f _ _ _ h
    | false =>
      refine ⟨h.lt h0 _, h.lt h0 _, fun d => ?_⟩
      cases d with
      | true => exact h
      | false => exact al_desc h0 f _ _ _ h⟩
theorem al_tail3 {n : Nat} (h0 : 0 < n) {p : Array Nat} (h : Rng n p) (m k : Nat) : Al n (fun r : Nat × Array Nat => Rng n r.2) (kas_tail3 m k p) :=
  (al_asc h0 (h.rev 0 m) _ _).bind fun _ _ => h.rev 0 m
theorem al_descPart {n : Nat} (h0 : 0 < n) {p : Array Nat} (h : Rng n p) (m k : Nat) : Al n (fun r : Nat × Array Nat => Rng n r.2) (kas_descPart m k p) := by
  refine (al_desc h0 _ _ _ _ h).bind fun r hr => ?_
  split
  · exact al_tail3 h0 (hr.rev _ _) _ _
  · exact al_tail3 h0 hr _ _
theorem al_count {n : Nat} (h0 : 0 < n) {p : Array Nat} (h : Rng n p) (k : Nat) : Al n (fun r : Nat × Array Nat => Rng n r.2) (kas_count k p) := by
  refine (al_asc h0 h _ _).bind fun m _ => ?_
  split
  · exact h
  · split
    · refine ⟨h.lt h0 _, h.lt h0 _, fun b => ?_⟩
      cases b with
      | true => exact h
      | false => exact al_descPart h0 (h.rev _ _) _ _
    · exact al_descPart h0 h _ _
theorem al_place {n : Nat} (h0 : 0 < n) {p : Array Nat} (h : Rng n p) (k : Nat) : ∀ f l r, Al n (fun _ => True) (kas_place p k f l r)
  | 0, _, _ => trivial
  | f + 1, l, r => by
    unfold kas_place
    split
    · exact trivial
    · refine ⟨h.lt h0 _, h.lt h0 _, fun b => ?_⟩
      cases b with
      | true => exact al_place h0 h k f _ _
      | false => exact al_place h0 h k f _ _
theorem al_bin {n : Nat} (h0 : 0 < n) : ∀ f (p : Array Nat) k, Rng n p → Al n (Rng n) (kas_bin f p k)
  | 0, _, _, h => h
  | f + 1, p, k, h => (al_place h0 h k _ _ _).bind fun l _ => al_bin h0 f _ _ (h.bub _ _)
theorem al_sort {n : Nat} (h0 : 0 < n) : Al n (Rng n) (kas_sort n) := by
  refine (al_count h0 (show Rng n _ from Array.Perm.refl _) n).bind fun r hr => ?_
  split
  · exact al_bin h0 _ _ _ hr
  · exact hr
/-- what comes out is a rearrangement of what went in -/
theorem Rng.perm {vs : List Value} {p : Array Nat} (h : Rng vs.length p) : (p.toList.map fun i => vs.getD i Value.none).Perm vs := by
  have h1 : p.toList.Perm (List.range vs.length) := by simpa using Array.perm_iff_toList_perm.mp h
  have h2 := h1.map fun i => vs.getD i Value.none
  have e : (List.range vs.length).map (fun i => vs.getD i Value.none) = vs := by
    apply List.ext_getElem
    · simp
    · intro i a1 a2
      simp [List.getElem?_eq_getElem a2]
  rw [e] at h2
  exact h2
end
section
open PySem.W
variable {prog : Program} {w : World} {A : Around} {E : Value → Shared → Prop} {s : Shared}
/-- what the items must do at a heap: their kind is found, any two are compared, nothing is changed -/
def Ranks (prog : Program) (w : World) (A : Around) (vs : List Value) (s : Shared) : Prop :=
  ∃ κ : SortKind, (∀ (Q : SortKind → Shared → Prop) (E : Value → Shared → Prop), Q κ s → wpAny (model prog w) A (keyKind' vs.toArray) Q E s) ∧
    ∀ i j (C : Bool → Shared → Prop), i < vs.length → j < vs.length → (∀ b, C b s) → kas_ask prog w A κ vs i j C s
theorem sort_ran {a : Addr} {vs : List Value} {n : Nat} {P : PySem.Fin → Shared → Prop} (ho : s.heap.get? a = some (seqObj "list" vs.toArray n)) (h64 : vs.length < 64)
    (hk : 2 ≤ vs.length → ∀ h' : Heap, (∀ b o, b ≠ a → s.heap.get? b = some o → h'.get? b = some o) → Ranks prog w A vs { s with heap := h' })
    (h : ∀ out : Array Value, out.toList.Perm vs → P (.done (.ret .none)) { s with heap := sortedHeap s.heap a vs out }) : wpAny (model prog w) A (Builtin.«list.sort» ⟨[.ref a], []⟩) P E s := by
  have la : a < s.heap.objs.size := Heap.lt_size ho
  have small : vs.length ≤ sizeLine := by rw [sizeLine_eq]; omega
  obtain ⟨e1, k1⟩ : ∃ e1, (s.heap.update a (Obj.mapSeq fun _ => (#[] : Array Value))).get? a = some (seqObj "list" #[] e1) := ⟨_, get?_update_seq ho fun _ => #[]⟩
  generalize hU : s.heap.update a (Obj.mapSeq fun _ => (#[] : Array Value)) = U at k1
  have zU : U.objs.size = s.heap.objs.size := by rw [← hU]; exact Heap.size_update ..
  have kp : ∀ b o, b ≠ a → s.heap.get? b = some o → ((U.push (seqObj "tuple" vs.toArray 0)).push (seqObj "list" #[] 0)).get? b = some o := fun b o nb gb => by
    refine Heap.get?_push_of_some _ (Heap.get?_push_of_some _ ?_)
    rw [← hU, Heap.get?_update_ne _ _ _ _ nb]; exact gb
  have k2 : ((U.push (seqObj "tuple" vs.toArray 0)).push (seqObj "list" #[] 0)).get? a = some (seqObj "list" #[] e1) := Heap.get?_push_of_some _ (Heap.get?_push_of_some _ k1)
  rw [list_sort_plain]
  refine wpAny_bind (listItems_at ho rfl (wpAny_bind (listUpdate_at ho rfl ?_ (by simpa using small) (Nat.zero_le _))))
  have k1' := k1
  rw [← hU] at k1'
  refine wpAny_bind (seqEpoch_at k1' rfl (wpAny_bind (wpAny_newTuple (wpAny_bind (wpAny_newList (wpAny_holding ?_) (Nat.zero_le _))) (by simpa using small))))
  rw [hU]
  show wpAny (model prog w) A _ P E { s with heap := (U.push (seqObj "tuple" vs.toArray 0)).push (seqObj "list" #[] 0) }
  have fin : ∀ out : Array Value, out.toList.Perm vs → P (.done (.ret .none)) { s with heap := ((U.push (seqObj "tuple" vs.toArray 0)).push (seqObj "list" #[] 0)).update a (Obj.mapSeq fun _ => out) } := fun out ho' => by
    have := h out ho'
    unfold sortedHeap at this
    rw [hU] at this
    exact this
  dsimp only
  by_cases h2 : vs.toArray.size < 2
  · rw [if_pos h2, if_pos h2]
    refine wpAny_bind (wpAny_pure ?_)
    rw [StateT.run_pure]
    refine wpAny_bind (wpAny_pure ?_)
    dsimp only
    have ev : ((vs.toArray.zip vs.toArray).map fun x => x.2).toList = vs := by simp [List.map_snd_zip]
    refine wpAny_bind (seqEpoch_at k2 rfl (wpAny_bind (listUpdate_at k2 rfl ?_ (Nat.zero_le _) ?_)))
    · simp only [bne_self_eq_false, Bool.false_eq_true, if_false]
      exact wpAny_pure (fin _ (by rw [show (arrOf (SortSt.mk' general' (vs.toArray.zip vs.toArray) #[] 7 none)) = vs.toArray.zip vs.toArray from rfl, ev]))
    · rw [← Array.length_toList, show (arrOf (SortSt.mk' general' (vs.toArray.zip vs.toArray) #[] 7 none)) = vs.toArray.zip vs.toArray from rfl, ev]; exact Nat.le_succ_of_le small
  · rw [if_neg h2, if_neg h2]
    have l2 : 2 ≤ vs.length := by rw [List.size_toArray] at h2; omega
    obtain ⟨κ, kd, ak⟩ := hk l2 _ kp
    refine wpAny_bind (kd _ _ ?_)
    refine wpAny_bind (wpAny_mono (kat_run (ks := vs) (vs := vs) (Q := fun st' s' => s' = { s with heap := (U.push (seqObj "tuple" vs.toArray 0)).push (seqObj "list" #[] 0) } ∧ ∃ p : Array Nat, Rng vs.length p ∧ arrOf st' = p.map (kas_item (vs.toArray.zip vs.toArray)) ∧ failedOf st' = none)
      (G := fun p s' => s' = { s with heap := (U.push (seqObj "tuple" vs.toArray 0)).push (seqObj "list" #[] 0) } ∧ Rng vs.length p) rfl l2 h64 (fun p st' s' _ ar fl g => ⟨g.1, p, g.2, ar, fl⟩) (Al.run (fun i j C hi hj hC => ak i j C hi hj hC) (fun p hp => ⟨rfl, hp⟩) (al_sort (by omega)))) ?_ fun _ _ e => e)
    rintro ⟨⟨⟩, st'⟩ s' ⟨rfl, p, hp, ar, fl⟩
    dsimp only
    have out := kat_snds rfl ar
    have pm := hp.perm
    rw [out]
    refine wpAny_bind (seqEpoch_at k2 rfl (wpAny_bind (listUpdate_at k2 rfl ?_ (Nat.zero_le _) ?_)))
    · rw [fl]
      simp only [bne_self_eq_false, Bool.false_eq_true, if_false]
      exact wpAny_pure (fin _ (by simpa using pm))
    · rw [List.size_toArray, pm.length_eq]; exact Nat.le_succ_of_le small
theorem sorted_ran {l : Addr} {vs : List Value} {Q : Value → Shared → Prop} (hl : s.heap.IsList l vs.toArray) (h64 : vs.length < 64)
    (hk : 2 ≤ vs.length → ∀ h' : Heap, (∀ b o, s.heap.get? b = some o → h'.get? b = some o) → Ranks prog w A.in1.in1 vs { s with heap := h' })
    (h : ∀ out : Array Value, out.toList.Perm vs → Q (.ref (s.heap.objs.size + 1)) { s with heap := sortedAll s.heap vs out }) : wpAny (model prog w) A (call (.builtin "sorted") [.ref l]) Q E s := by
  have small : vs.length ≤ sizeLine := by rw [sizeLine_eq]; omega
  refine Calls.call_function_entry kind_sorted plain_sorted entry_sorted (args_sorted1 _) ?_
  unfold Builtin.«sorted»
  refine wpAny_bind (m := checkCount "sorted" 1 1 _) (wpAny_pure (wpAny_bind (collect_list hl (wpAny_bind (wpAny_newList ?_ (by simpa using small))) (by simpa using small))))
  generalize hU : (s.heap.push (seqObj "list" #[] 0)).update s.heap.objs.size (Obj.mapSeq (· ++ vs.toArray)) = U
  have zU : U.objs.size = s.heap.objs.size + 1 := by rw [← hU, Heap.size_update]; exact size_push' ..
  have kU : ∀ b o, s.heap.get? b = some o → U.get? b = some o := fun b o gb => by
    rw [← hU, Heap.get?_update_ne _ _ _ _ (Nat.ne_of_lt (Heap.lt_size gb))]
    exact Heap.get?_push_of_some _ gb
  have at' : (U.push (seqObj "list" vs.toArray 0)).get? (s.heap.objs.size + 1) = some (seqObj "list" vs.toArray 0) := by rw [← zU]; exact Heap.get?_push_size _ rfl
  show wpAny _ _ _ _ _ { s with heap := U.push (seqObj "list" vs.toArray 0) }
  rw [zU]
  refine wpAny_bind (wpAny_holding (wpAny_call_entry slot_list_sort ⟨_, at', rfl⟩ entry_list_sort ?bd (args_list_sort _)))
  case bd =>
    refine sort_ran at' h64 (fun l2 h' kp => hk l2 h' fun b o gb => kp b o (Nat.ne_of_lt (Nat.lt_succ_of_lt (Heap.lt_size gb))) (Heap.get?_push_of_some _ (kU b o gb))) fun out po => ⟨_, rfl, wpAny_pure ⟨_, rfl, ?_⟩⟩
    have := h out po
    unfold sortedAll at this
    rw [hU] at this
    exact this
end
section
open PySem.W
variable {X : Cx} {pins : List (Addr × Obj)} {σ : St} {H : Hp} {s : Shared} {k : Nat}
theorem Vals.perm {ys : List V} {us ws : List Value} (p : us.Perm ws) : ∀ {ys : List V}, Vals ys ws → ∃ zs, zs.Perm ys ∧ Vals zs us := by
  induction p with
  | nil => intro ys r; exact ⟨ys, .refl _, r⟩
  | cons x p ih =>
    intro ys r
    cases r with
    | cons r1 rr =>
      obtain ⟨zs, h1, h2⟩ := ih rr
      exact ⟨_ :: zs, h1.cons _, .cons r1 h2⟩
  | swap x y l =>
    intro ys r
    cases r with
    | cons r1 rr =>
      cases rr with
      | cons r2 r3 => exact ⟨_ :: _ :: _, .swap .., .cons r2 (.cons r1 r3)⟩
  | trans p1 p2 i1 i2 =>
    intro ys r
    obtain ⟨zs, h1, h2⟩ := i2 r
    obtain ⟨ws, h3, h4⟩ := i1 h2
    exact ⟨ws, h3.trans h1, h4⟩
theorem kl_rest {prog : Program} {w : World} {A : Around} {fin : Bool} {C : Bool → Shared → Prop} (hC : ∀ b, C b s) : ∀ (ps : List (Value × Value)) (i : Nat), 1 ≤ i → (∀ p ∈ ps, Asks A s p.1 p.2) → KatLex prog w A true fin C ps i s
  | [], _, _, _ => kat_nil (hC _)
  | (p, q) :: r, i, hi, h => by
    obtain ⟨⟨e, he⟩, c, hc⟩ := h (p, q) List.mem_cons_self
    refine kat_cons (he prog w _ _ ?_)
    cases e with
    | true => exact kat_yes (kl_rest hC r (i + 1) (by omega) fun z hz => h z (List.mem_cons_of_mem _ hz))
    | false =>
      refine kat_no ?_
      have e0 : (true && i == 0) = false := by simp; omega
      rw [e0]
      exact kat_one p q (hc prog w _ _ (hC c))
/-- an item that the sort takes: a tuple, a text first -/
def Led (K : PySem.W.Frag) (H : Hp) (F : V → List V) (y : V) : Prop := ∃ a n us, y = .ref a ∧ F y = .str n :: us ∧ SqT K H a (.str n :: us)
theorem led_tups {F : V → List V} (I : Inv X pins σ H s) : ∀ {ys : List V} {vs : List Value}, Vals ys vs → (∀ y ∈ ys, Led X.K H F y) → ∃ fs, KatTups s.heap vs fs ∧ fs.length = vs.length ∧ ∀ v ∈ fs, ∃ x t, v = .str x t
  | [], _, .nil, _ => ⟨[], .nil, rfl, fun _ h => nomatch h⟩
  | y :: ys, _, .cons r rr, h => by
    obtain ⟨fs, h1, h2, h3⟩ := led_tups I rr fun z hz => h z (List.mem_cons_of_mem _ hz)
    obtain ⟨a, n, us, rfl, _, ha⟩ := h y List.mem_cons_self
    cases r
    obtain ⟨its, q, p, _⟩ := I.tuple ha
    cases q with
    | cons q1 q2 =>
      obtain ⟨t, rfl⟩ := q1
      obtain ⟨o, g1, g2, m, g3⟩ := p
      refine ⟨.str n t :: fs, .cons g1 g2 g3 (by simp) h1, by rw [List.length_cons, List.length_cons, h2], fun v hv => ?_⟩
      rcases List.mem_cons.mp hv with e | e
      · exact ⟨n, t, e⟩
      · exact h3 v e
theorem ranks_of {A : Around} {F : V → List V} (I : Inv X pins σ H s) {ys : List V} {vs : List Value} (r : Vals ys vs) (hu : A.units + 2 < cLine) (h2 : 2 ≤ vs.length) (hl : ∀ y ∈ ys, Led X.K H F y) (hc : ∀ x ∈ ys, ∀ y ∈ ys, ∀ (i : Nat) u v, (F x)[i]? = some u → (F y)[i]? = some v → CmpD X.K H 1 u v) :
    Ranks X.prog X.w A vs s := by
  obtain ⟨fs, k1, k2, k3⟩ := led_tups I r hl
  refine ⟨tuples' (Value.type "str" != Value.type "tuple"), fun Q E q => kat_kind k1 (by omega) (fun v hv => ?_) (by decide) q, fun i j C hi hj hC => ?_⟩
  · obtain ⟨x, t, rfl⟩ := k3 v hv
    exact Looks.of_pure rfl
  · have ei : vs[i]? = some vs[i] := by simp
    have ej : vs[j]? = some vs[j] := by simp
    obtain ⟨x, hx, rx⟩ := r.get' ei
    obtain ⟨y, hy, ry⟩ := r.get' ej
    have mx := List.mem_of_getElem? hx
    have my := List.mem_of_getElem? hy
    obtain ⟨a, n, us, rfl, fa, ha⟩ := hl x mx
    obtain ⟨b, m, ws, rfl, fb, hb⟩ := hl y my
    have key := hc _ mx _ my
    rw [fa, fb] at key
    obtain ⟨ia, qa, pa, _⟩ := I.tuple ha
    obtain ⟨ib, qb, pb, _⟩ := I.tuple hb
    have va : vs.getD i Value.none = .ref a := by
      rw [List.getD_eq_getElem?_getD, ei]; cases hvv : vs[i] <;> rw [hvv] at rx <;> cases rx <;> rfl
    have vb : vs.getD j Value.none = .ref b := by
      rw [List.getD_eq_getElem?_getD, ej]; cases hvv : vs[j] <;> rw [hvv] at ry <;> cases ry <;> rfl
    show wpAny _ _ (keyLt' _ (vs.getD i Value.none) (vs.getD j Value.none)) C _ s
    rw [va, vb]
    obtain ⟨oa, ga, _, na, da⟩ := pa
    obtain ⟨ob, gb, _, nb, db⟩ := pb
    refine kat_lt ga da gb db ?_
    cases qa with
    | cons a1 a2 =>
      cases qb with
      | cons b1 b2 =>
        obtain ⟨ta, rfl⟩ := a1
        obtain ⟨tb, rfl⟩ := b1
        have e0 := eqAt_V (A := A) (s := s) (y := .str n) (x := .str m) ⟨ta, rfl⟩ ⟨tb, rfl⟩ rfl rfl
        refine kat_cons (e0 X.prog X.w _ _ ?_)
        cases eqV (V.str n) (V.str m) with
        | true =>
          refine kat_yes (kl_rest hC _ 1 (Nat.le_refl _) fun p hp => ?_)
          obtain ⟨q, hq⟩ := List.mem_iff_getElem?.mp hp
          have hq := List.getElem?_zip_eq_some.mp (show (List.zip _ _)[q]? = some p from hq)
          obtain ⟨u, eu, ru⟩ := Vals.get' a2 hq.1
          obtain ⟨v, ev, rv⟩ := Vals.get' b2 hq.2
          exact CmpD.asks I 1 A (by omega) (key (q + 1) u v (by simpa using eu) (by simpa using ev)) ru rv
        | false => exact kat_no (oneLt_str (hC _))
def rSorted (K : PySem.W.Frag) : List V → Hp → VK → Prop := fun xs H Q => ∃ p ys, xs = [.ref p] ∧ SqL K H p ys ∧ ys.length < 64 ∧ ∃ F : V → List V, (∀ y ∈ ys, Led K H F y) ∧
  (∀ x ∈ ys, ∀ y ∈ ys, ∀ (i : Nat) u v, (F x)[i]? = some u → (F y)[i]? = some v → CmpD K H 1 u v) ∧ ∀ l out, out.Perm ys → H l = none → Q (.ref l) (upd H l (.lst out))
theorem sortedT (K : PySem.W.Frag) (hr : Room k X.A) (hK : X.K = K := by rfl) : CallR X (.builtin "sorted") (rSorted K) := by
  subst hK
  intro pins s σ H xs us Q I r ⟨p, ys, e, hq, h64, F, hl, hc, q⟩
  subst e
  obtain ⟨u, rfl, rx⟩ := vals1 r
  cases rx
  obtain ⟨vs, rv, pl, hz⟩ := I.list hq
  have hlen := rv.length
  refine sorted_ran pl.isList (by omega) (fun l2 h' kp => ?_) fun out po => ?_
  · exact ranks_of (I.kept (t' := s.toks) kp) rv (by have := hr.un; show X.A.units + 1 + 1 + 2 < _; omega) l2 hl hc
  · obtain ⟨zs, z1, z2⟩ := Vals.perm (ys := ys) po rv
    obtain ⟨c, hat⟩ := sortedAll_at s.heap vs out
    refine ⟨.ref (s.heap.objs.size + 1), _, I.laid (t' := s.toks) (o := .lst zs) (fun b o e => sortedAll_old e) (Nat.le_succ _) ⟨by rw [z1.length_eq]; exact hz, out.toList, c, z2, ?_⟩, rfl, q _ zs z1 (I.hok.fresh (Nat.le_succ _))⟩
    exact hat
/-- x in a list of things that can be compared: one of both is told -/
def rInC (K : PySem.W.Frag) : R2 := fun x y H Q => ∃ p ys, y = .ref p ∧ SqL K H p ys ∧ (∀ z ∈ ys, CmpD K H 2 z x) ∧ ∀ b, Q (.bl b) H
theorem notInC (K : PySem.W.Frag) (hr : Room k X.A) (hK : X.K = K := by rfl) : OpR X (compareOp .NotIn) (rInC K) := by
  subst hK
  intro pins s σ H x y v u Q I rx ry h
  obtain ⟨p, ys, rfl, hq, hc, q⟩ := h
  cases ry
  obtain ⟨its, r, pl, _⟩ := I.list hq
  have ex : ∀ z : Value, ∃ e : Bool, z ∈ its.toArray → SeqAt.EqAt X.A.in1 s z v e := fun z => by
    by_cases hz : z ∈ its.toArray
    · obtain ⟨j, hj⟩ := List.mem_iff_getElem?.mp (by simpa using hz : z ∈ its)
      obtain ⟨y, ey, ry⟩ := r.get' hj
      obtain ⟨⟨e, he⟩, _⟩ := CmpD.asks I 2 X.A.in1 (by have := hr.un; show X.A.units + 1 + 2 < _; omega) (hc y (List.mem_of_getElem? ey)) ry rx
      exact ⟨e, fun _ => he⟩
    · exact ⟨true, fun h => absurd h hz⟩
  refine SeqAt.notIn_listAt (fun z => Classical.choose (ex z)) pl.isList (fun z hz => Classical.choose_spec (ex z) hz) ⟨.bl _, H, I, rfl, q _⟩
end
end L2

set_option Elab.async false
set_option linter.all false
set_option maxRecDepth 100000
set_option maxHeartbeats 4000000
namespace HT
open PySem PySem.Spec PyProof.Rows
section
variable {prog : Program} {w : World} {A : Around} {E : Value → Shared → Prop} {s : Shared}
theorem adj_back (n : Nat) : Builtin.Slice.sliceAdjust none none (-1) (n : Int) = ((n : Int) - 1, -1) := by
  unfold Builtin.Slice.sliceAdjust
  simp
theorem places_back (n : Nat) : Builtin.Slice.slicePlaces ((n : Int) - 1) (-1) (-1) = n := by
  unfold Builtin.Slice.slicePlaces
  simp
  omega
/-- the parts of [::-1] -/
theorem applied_back {sl : Addr} {k : Int} {u : Tok} {n : Nat} {Q : Int × Int × Nat → Shared → Prop} (hk : k = -1) (hs : s.heap.IsSliceOf sl .none .none (.int k u)) (h : Q ((n : Int) - 1, k, n) s) :
    wpAny (model prog w) A (Builtin.Slice.sliceApplied (.ref sl) (pure (n : Int))) Q E s := by
  obtain ⟨o, g1, g2, g3⟩ := id hs
  unfold Builtin.Slice.sliceApplied Builtin.Slice.sliceFields
  refine wpAny_bind (wpAny_bind (wpAny_field g1 g3 (x := .none) rfl (wpAny_bind (wpAny_field g1 g3 (x := .none) rfl (wpAny_bind (wpAny_field g1 g3 (x := .int k u) rfl (wpAny_pure ?_)))))))
  refine wpAny_bind (slicePart_int ?_)
  have n0 : ¬ ((k == 0) = true) := by simp; omega
  show wpAny _ _ (if (k == 0) = true then _ else _) _ _ s
  rw [if_neg n0]
  refine wpAny_bind (slicePart_none (wpAny_bind (slicePart_none (wpAny_bind (wpAny_pure ?_)))))
  show wpAny _ _ (match Builtin.Slice.sliceAdjust none none k (n : Int) with | (lo, hi) => pure (lo, k, Builtin.Slice.slicePlaces lo hi k)) _ _ s
  subst hk
  rw [adj_back]
  show wpAny _ _ (pure ((n : Int) - 1, (-1 : Int), Builtin.Slice.slicePlaces ((n : Int) - 1) (-1) (-1))) _ _ s
  rw [places_back]
  exact wpAny_pure h
theorem item_back {t sl : Addr} {items : Array Value} {k : Int} {u : Tok} {Q : Value → Shared → Prop} (ht : IsTup s.heap t items) (hk : k = -1) (hs : s.heap.IsSliceOf sl .none .none (.int k u))
    (h : Q (.ref s.heap.objs.size) { s with heap := s.heap.push { cls := .type "tuple", data := .seq ((List.range items.size).filterMap fun (m : Nat) => items[((items.size : Int) - 1 + (m : Int) * k).toNat]?).toArray } })
    (hsz : items.size ≤ sizeLine) : wpAny (model prog w) A (getItem (.ref t) (.ref sl)) Q E s := by
  obtain ⟨o, g1, g2, g3⟩ := id hs
  have hTs : s.TypeIs (.ref sl) "slice" := ⟨o, g1, g2⟩
  unfold getItem
  try with_reducible refine wpAny_holding ?_
  first | refine wpAny_bind (wpAny_pure ?_) | skip
  refine wpAny_bind (wpAny_sequenceKey ht.typeIs (by decide) (wpAny_bind (wpAny_callSpecial?_slot (name := Str.ofString "__getitem__") ht.typeIs PyProof.Rows.slot_tuple_getitem (wpAny_call_entry PyProof.Rows.slot_tuple_getitem ht.typeIs entry_tuple_getitem ?_ (args_tuple_getitem _ _)))))
  show wpAny _ _ (Builtin.Tuple.tupleItemsOf (.ref t) >>= _) _ _ s
  refine wpAny_bind (tupleItemsOf_ ht (wpAny_bind (wpAny_typeOf hTs ?_)))
  rw [if_pos (by decide)]
  refine wpAny_bind (applied_back (n := items.size) hk hs ?_)
  have hno : ¬ (((items.size : Int) - 1 == 0 && k == 1 && items.size == items.size) = true) := by
    intro q
    rw [Bool.and_eq_true, Bool.and_eq_true] at q
    have := eq_of_beq q.1.2
    omega
  show wpAny _ _ (if ((items.size : Int) - 1 == 0 && k == 1 && items.size == items.size) = true then _ else _) _ _ s
  rw [if_neg hno]
  have hz : sizeOk (.seq ((List.range items.size).filterMap fun (m : Nat) => items[((items.size : Int) - 1 + (m : Int) * k).toNat]?).toArray) := by
    show ((List.range items.size).filterMap fun (m : Nat) => items[((items.size : Int) - 1 + (m : Int) * k).toNat]?).toArray.size ≤ sizeLine
    rw [List.size_toArray]
    exact Nat.le_trans (Nat.le_trans (List.length_filterMap_le _ _) (by simp)) hsz
  first
    | exact wpAny_bind (m := Builtin.Tuple.tupleExact _) (wpAny_newObj_type (wpAny_pure ⟨_, rfl, wpAny_pure h⟩) hz)
    | exact wpAny_bind (m := Builtin.Tuple.tupleExact _) (wpAny_newObj_type (wpAny_bind (wpAny_pure (wpAny_pure ⟨_, rfl, wpAny_pure h⟩))) hz)
    | exact wpAny_bind (wpAny_bind (m := Builtin.Tuple.tupleExact _) (wpAny_newObj_type (wpAny_pure (wpAny_pure ⟨_, rfl, wpAny_pure h⟩)) hz))
    | exact wpAny_bind (wpAny_bind (m := Builtin.Tuple.tupleExact _) (wpAny_newObj_type (wpAny_pure ⟨_, rfl, wpAny_pure h⟩) hz))
end
end HT

namespace L2
open PySem PySem.Spec PyProof.Rows
section
variable {X : Cx} {e st : Expr} {te ts : TE} {pos p2 : Pos}
theorem vals_pick {f : Nat → Nat} : ∀ (ms : List Nat) {ys : List V} {us : List Value}, Vals ys us → Vals (ms.filterMap fun m => ys[f m]?) (ms.filterMap fun m => us[f m]?)
  | [], _, _, _ => .nil
  | m :: ms, ys, us, r => by
    rw [List.filterMap_cons, List.filterMap_cons]
    cases ey : ys[f m]? with
    | none =>
      rw [Vals.none_of r ey]
      exact vals_pick ms r
    | some y =>
      obtain ⟨u, eu, ru⟩ := Vals.get r ey
      rw [eu]
      exact .cons ru (vals_pick ms r)
/-- t[::-1]: some of its things -/
def tBack (te ts : TE) : TE := fun σ H Q => te σ H fun x H1 => ∃ a xs, x = .ref a ∧ H1 a = some (.tup xs) ∧ ts σ H1 fun k H2 => k = .int (-1) ∧ H2 a = some (.tup xs) ∧ ∀ p zs, H2 p = none → zs.length ≤ xs.length → (∀ z ∈ zs, z ∈ xs) → Q (.ref p) (upd H2 p (.tup zs))
theorem pe_back (he : PE X e te) (hs : PE X st ts) : PE X (.Subscript e (.Slice none none (some st) p2) pos) (tBack te ts) := by
  intro pins s σ H Q I h
  refine Subscript_ (thn (he pins s σ H _ I h) fun v s1 ⟨x, H1, I1, r1, a, xs, ex, ha, q1⟩ => ?_)
  subst ex
  cases r1
  refine wpAny_Slice ?_
  rw [evalPart_none]
  refine wpAny_pure ?_
  rw [evalPart_some]
  refine wpAny_pure (thn (hs pins s1 σ H1 _ I1 q1) fun u s2 ⟨k, H2, I2, r2, ek, ha2, q2⟩ => ?_)
  subst ek
  obtain ⟨t, rfl⟩ := r2
  have I3 : Inv X pins σ H2 { s2 with heap := s2.heap.push { cls := .type "slice", data := .fields #[.none, .none, .int (-1) t] } } := I2.kept (t' := s2.toks) fun b ob q => Heap.get?_push_of_some _ q
  obtain ⟨its, rr, pt, hz⟩ := I3.tuple (SqT.of (K := X.K) ha2)
  have hlen := rr.length
  refine tail_any (ops := [.ref a, .ref s2.heap.objs.size]) pt.typeIs PyProof.Rows.slot_tuple_getitem.lookup (HT.item_back pt rfl (Heap.IsSliceOf.new ..) ?_ (by rw [List.size_toArray, ← hlen]; exact hz)) (by with_unfolding_all rfl)
  have rz := vals_pick (f := fun m => (((its.toArray.size : Nat) : Int) - 1 + (m : Int) * (-1)).toNat) (List.range its.toArray.size) rr
  have el : ∀ m : Nat, its.toArray[(((its.toArray.size : Nat) : Int) - 1 + (m : Int) * (-1)).toNat]? = its[(((its.toArray.size : Nat) : Int) - 1 + (m : Int) * (-1)).toNat]? := fun m => by simp
  simp only [el]
  refine ⟨.ref _, _, I3.laid (t' := s2.toks) (o := .tup _) (fun b ob q => Heap.get?_push_of_some _ q) (Nat.le_refl _) ⟨?_, _, rz, IsTup.new _ _⟩, rfl, q2 _ _ (I3.hok.fresh (Nat.le_refl _)) ?_ ?_⟩
  · refine Nat.le_trans (Nat.le_trans (List.length_filterMap_le _ _) ?_) hz
    rw [List.length_range, List.size_toArray, ← hlen]
    exact Nat.le_refl _
  · refine Nat.le_trans (List.length_filterMap_le _ _) ?_
    rw [List.length_range, List.size_toArray, ← hlen]
    exact Nat.le_refl _
  · intro z hz'
    obtain ⟨m, _, hm⟩ := List.mem_filterMap.mp hz'
    exact List.mem_of_getElem? hm
end
end L2

set_option Elab.async false
set_option linter.all false
set_option maxRecDepth 100000
set_option maxHeartbeats 4000000
namespace L2
open PySem PySem.Spec PyProof.Rows
/-! ### tuples compared: the answer as a function of what is in them -/
def ltV0 : V → V → Bool
  | .str a, .str b => decide (a.cps.toList < b.cps.toList)
  | .int a, .int b => decide (a < b)
  | _, _ => false
def eqD (H : Hp) : Nat → V → V → Bool
  | 0, x, y => eqV x y
  | n + 1, x, y => match tupOf H x, tupOf H y with
    | some xs, some ys => (List.range (min xs.length ys.length)).all (fun j => eqD H n (xs.getD j .non) (ys.getD j .non)) && xs.length == ys.length
    | _, _ => eqV x y
def lexW (fin : Bool) (eq lt : V → V → Bool) : List V → List V → Bool
  | x :: xs, y :: ys => if eq x y then lexW fin eq lt xs ys else lt x y
  | _, _ => fin
def ltD (H : Hp) : Nat → V → V → Bool
  | 0, x, y => ltV0 x y
  | n + 1, x, y => match tupOf H x, tupOf H y with
    | some xs, some ys => lexW (decide (xs.length < ys.length)) (eqD H n) (ltD H n) xs ys
    | _, _ => ltV0 x y
def CmpE (H : Hp) : Nat → V → V → Prop
  | 0, x, y => (∃ i j, x = .str i ∧ y = .str j) ∨ ∃ i j, x = .int i ∧ y = .int j
  | n + 1, x, y => ((∃ i j, x = .str i ∧ y = .str j) ∨ ∃ i j, x = .int i ∧ y = .int j) ∨ ∃ a b xs ys, x = .ref a ∧ y = .ref b ∧ H a = some (.tup xs) ∧ H b = some (.tup ys) ∧ ∀ (i : Nat) u v, xs[i]? = some u → ys[i]? = some v → CmpE H n u v
theorem eqV_self {x y : V} (h : (∃ i j, x = .str i ∧ y = .str j) ∨ ∃ i j, x = .int i ∧ y = .int j) : eqV x x = true := by
  rcases h with ⟨i, j, rfl, rfl⟩ | ⟨i, j, rfl, rfl⟩
  · exact beq_self_eq_true i
  · exact beq_self_eq_true i
theorem eqD_self {H : Hp} : ∀ {n : Nat} {x : V}, CmpE H n x x → eqD H n x x = true
  | 0, x, h => eqV_self h
  | n + 1, x, h => by
    rcases h with h | ⟨a, b, xs, ys, rfl, e, ha, hb, k⟩
    · have e : tupOf H x = none := by rcases h with ⟨i, j, rfl, _⟩ | ⟨i, j, rfl, _⟩ <;> rfl
      unfold eqD
      rw [e]
      exact eqV_self h
    · cases e
      rw [ha] at hb
      cases hb
      unfold eqD
      rw [tupOf_at ha]
      show ((List.range (min xs.length xs.length)).all _ && xs.length == xs.length) = true
      rw [beq_self_eq_true, Bool.and_true, Nat.min_self]
      refine List.all_eq_true.mpr fun j hj => ?_
      have hj := List.mem_range.mp hj
      have e := List.getElem?_eq_getElem hj
      rw [List.getD_eq_getElem?_getD, e]
      exact eqD_self (k j _ _ e e)
theorem eqD_flat {H : Hp} {n : Nat} {x y : V} (h : (∃ i j, x = .str i ∧ y = .str j) ∨ ∃ i j, x = .int i ∧ y = .int j) : eqD H n x y = eqV x y ∧ ltD H n x y = ltV0 x y := by
  cases n with
  | zero => exact ⟨rfl, rfl⟩
  | succ n =>
    rcases h with ⟨i, j, rfl, rfl⟩ | ⟨i, j, rfl, rfl⟩ <;> exact ⟨rfl, rfl⟩
theorem lex_of {A : Around} {s : Shared} {fin : Bool} {eq lt : V → V → Bool} : ∀ {xs ys : List V} {us vs : List Value}, Vals xs us → Vals ys vs → (∀ (j : Nat) x y u v, xs[j]? = some x → ys[j]? = some y → us[j]? = some u → vs[j]? = some v → SeqAt.EqAt A s u v (eq x y) ∧ LtAt A s u v (lt x y)) → LexR A s fin (us.zip vs) (lexW fin eq lt xs ys)
  | [], _, _, _, .nil, _, _ => by unfold lexW; exact .done
  | _ :: _, [], _, _, .cons _ _, .nil, _ => by unfold lexW; exact .done
  | x :: xs, y :: ys, _, _, .cons r1 rr1, .cons r2 rr2, h => by
    obtain ⟨he, hl⟩ := h 0 x y _ _ rfl rfl rfl rfl
    have ih := lex_of (fin := fin) rr1 rr2 fun j x y u v a b c d => h (j + 1) x y u v a b c d
    unfold lexW
    cases hb : eq x y with
    | true => rw [hb] at he; exact .same he ih
    | false => rw [hb] at he; exact .less he hl
section
variable {X : Cx} {pins : List (Addr × Obj)} {σ : St} {H : Hp} {s : Shared} {k : Nat}
theorem CmpE.flat {A : Around} {n : Nat} {x y : V} {v u : Value} (h : (∃ i j, x = .str i ∧ y = .str j) ∨ ∃ i j, x = .int i ∧ y = .int j) (r1 : RelV x v) (r2 : RelV y u) : SeqAt.EqAt A s v u (eqD H n x y) ∧ LtAt A s v u (ltD H n x y) := by
  rw [(eqD_flat h).1, (eqD_flat h).2]
  rcases h with ⟨i, j, rfl, rfl⟩ | ⟨i, j, rfl, rfl⟩
  · have e := eqAt_V (A := A) (s := s) r1 r2 rfl rfl
    obtain ⟨t, rfl⟩ := r1
    obtain ⟨t', rfl⟩ := r2
    exact ⟨e, fun prog w E Q q => PySem.P.lt_str q⟩
  · have e := eqAt_V (A := A) (s := s) r1 r2 rfl rfl
    obtain ⟨t, rfl⟩ := r1
    obtain ⟨t', rfl⟩ := r2
    exact ⟨e, fun prog w E Q q => PyProof.Rows.lt_int q⟩
theorem CmpE.asks (I : Inv X pins σ H s) : ∀ (n : Nat) (A : Around) {x y : V} {v u : Value}, A.units + n < cLine → CmpE H n x y → RelV x v → RelV y u → SeqAt.EqAt A s v u (eqD H n x y) ∧ LtAt A s v u (ltD H n x y)
  | 0, A, x, y, v, u, hu, h, r1, r2 => CmpE.flat h r1 r2
  | n + 1, A, x, y, v, u, hu, h, r1, r2 => by
    have h0 := h
    rcases h with h | ⟨a, b, xs, ys, rfl, rfl, ha, hb, hxy⟩
    · exact CmpE.flat h r1 r2
    · cases r1
      cases r2
      obtain ⟨us, q1, p1, _⟩ := I.tuple (SqT.of ha)
      obtain ⟨vs, q2, p2, _⟩ := I.tuple (SqT.of hb)
      have hin : A.in1.units = A.units + 1 := rfl
      have l1 := q1.length
      have l2 := q2.length
      have key : ∀ (j : Nat) x y u v, xs[j]? = some x → ys[j]? = some y → us[j]? = some u → vs[j]? = some v → SeqAt.EqAt A.in1 s u v (eqD H n x y) ∧ LtAt A.in1 s u v (ltD H n x y) := fun j x y u v hx hy hu' hv => by
        obtain ⟨x', ex, rx⟩ := q1.get' hu'
        obtain ⟨y', ey, ry⟩ := q2.get' hv
        rw [hx] at ex; cases ex
        rw [hy] at ey; cases ey
        exact CmpE.asks I n A.in1 (by omega) (hxy j x y hx hy) rx ry
      constructor
      · by_cases hab : a = b
        · subst hab
          rw [eqD_self h0]
          exact SeqAt.EqAt.same _
        · have e : eqD H (n + 1) (.ref a) (.ref b) = ((List.range (min us.toArray.size vs.toArray.size)).all (fun j => eqD H n (xs.getD j .non) (ys.getD j .non)) && us.toArray.size == vs.toArray.size) := by
            conv => lhs; unfold eqD
            rw [tupOf_at ha, tupOf_at hb]
            simp only [List.size_toArray, l1, l2]
          rw [e]
          refine SeqAt.EqAt.of_refs hab (SeqAt.RcAt.tuples (e := fun j => eqD H n (xs.getD j .non) (ys.getD j .non)) p1 p2 (by omega) fun j h1 h2 => ?_)
          have h1' : j < us.length := by simpa using h1
          have h2' : j < vs.length := by simpa using h2
          have h1x : j < xs.length := by omega
          have h2y : j < ys.length := by omega
          have e1 : xs.getD j .non = xs[j] := by rw [List.getD_eq_getElem?_getD, List.getElem?_eq_getElem h1x]; rfl
          have e2 : ys.getD j .non = ys[j] := by rw [List.getD_eq_getElem?_getD, List.getElem?_eq_getElem h2y]; rfl
          show SeqAt.EqAt A.in1 s _ _ (eqD H n (xs.getD j .non) (ys.getD j .non))
          rw [e1, e2]
          exact (key j _ _ _ _ (List.getElem?_eq_getElem h1x) (List.getElem?_eq_getElem h2y) (by simp) (by simp)).1
      · have e : ltD H (n + 1) (.ref a) (.ref b) = lexW (decide (us.toArray.size < vs.toArray.size)) (eqD H n) (ltD H n) xs ys := by
          conv => lhs; unfold ltD
          rw [tupOf_at ha, tupOf_at hb]
          simp only [List.size_toArray, l1, l2]
        rw [e]
        exact lt_tup p1 p2 (by omega) (by simpa using lex_of (fin := decide (us.length < vs.length)) q1 q2 key)
/-- x < y of things that can be compared, tuples within tuples -/
def rLtD : R2 := fun x y H Q => CmpE H 2 x y ∧ Q (.bl (ltD H 2 x y)) H
theorem op_ltD (hr : Room k X.A) : OpR X (compareOp .Lt) rLtD := by
  intro pins s σ H x y v u Q I rx ry h
  exact (CmpE.asks I 2 X.A (by have := hr.un; omega) h.1 rx ry).2 _ _ _ _ (fin_bl I h.2 rfl)
end
/-- t == () -/
def rEqNil (K : PySem.W.Frag) : R2 := fun x y H Q => ∃ a b xs, x = .ref a ∧ y = .ref b ∧ SqT K H a xs ∧ SqT K H b [] ∧ Q (.bl xs.isEmpty) H
theorem eqNilT {X : Cx} {k : Nat} (K : PySem.W.Frag) (hr : Room k X.A) (hK : X.K = K := by rfl) : OpR X (compareOp .Eq) (rEqNil K) := by
  subst hK
  intro pins s σ H x y v u Q I rx ry h
  obtain ⟨a, b, xs, rfl, rfl, ha, hb, q⟩ := h
  cases rx
  cases ry
  obtain ⟨us, q1, p1, _⟩ := I.tuple ha
  obtain ⟨vs, q2, p2, _⟩ := I.tuple hb
  cases q2
  refine SeqAt.eq_tupleAt (e := fun _ => true) p1 p2 (by have := hr.un; omega) (fun j h1 h2 => absurd h2 (by simp)) ?_
  have e : ((List.range (min us.toArray.size (List.toArray ([] : List Value)).size)).all (fun _ => true) && us.toArray.size == (List.toArray ([] : List Value)).size) = xs.isEmpty := by
    cases q1 <;> simp
  rw [e]
  exact fin_bl I q rfl
theorem CmpE.kp {H H' : Hp} (s : Kp H H') : ∀ {n : Nat} {x y : V}, CmpE H n x y → CmpE H' n x y
  | 0, _, _, h => h
  | n + 1, _, _, .inl h => .inl h
  | n + 1, _, _, .inr ⟨a, b, xs, ys, e1, e2, ha, hb, k⟩ => .inr ⟨a, b, xs, ys, e1, e2, s.tup ha, s.tup hb, fun i u v h1 h2 => CmpE.kp s (k i u v h1 h2)⟩
theorem all_on {α : Type} {f g : α → Bool} : ∀ {l : List α}, (∀ j ∈ l, f j = g j) → l.all f = l.all g
  | [], _ => rfl
  | a :: l, h => by rw [List.all_cons, List.all_cons, h a List.mem_cons_self, all_on fun j hj => h j (List.mem_cons_of_mem _ hj)]
theorem lexW_congr {fin : Bool} {eq lt eq' lt' : V → V → Bool} : ∀ {xs ys : List V}, (∀ (i : Nat) u v, xs[i]? = some u → ys[i]? = some v → eq' u v = eq u v ∧ lt' u v = lt u v) → lexW fin eq' lt' xs ys = lexW fin eq lt xs ys
  | [], _, _ => by unfold lexW; rfl
  | _ :: _, [], _ => by unfold lexW; rfl
  | x :: xs, y :: ys, h => by
    unfold lexW
    rw [(h 0 x y rfl rfl).1, (h 0 x y rfl rfl).2, lexW_congr fun i u v a b => h (i + 1) u v a b]
theorem CmpE.keeps {H H' : Hp} (s : Kp H H') : ∀ {n : Nat} {x y : V}, CmpE H n x y → eqD H' n x y = eqD H n x y ∧ ltD H' n x y = ltD H n x y
  | 0, _, _, _ => ⟨rfl, rfl⟩
  | n + 1, x, y, h => by
    rcases h with h | ⟨a, b, xs, ys, rfl, rfl, ha, hb, k⟩
    · rw [(eqD_flat h).1, (eqD_flat h).2, (eqD_flat h).1, (eqD_flat h).2]; exact ⟨rfl, rfl⟩
    · have ih : ∀ (i : Nat) u v, xs[i]? = some u → ys[i]? = some v → eqD H' n u v = eqD H n u v ∧ ltD H' n u v = ltD H n u v := fun i u v h1 h2 => CmpE.keeps s (k i u v h1 h2)
      constructor
      · unfold eqD
        rw [tupOf_at ha, tupOf_at hb, tupOf_at (s.tup ha), tupOf_at (s.tup hb)]
        show ((List.range (min xs.length ys.length)).all _ && xs.length == ys.length) = ((List.range (min xs.length ys.length)).all _ && xs.length == ys.length)
        congr 1
        refine all_on fun j hj => ?_
        have hj := List.mem_range.mp hj
        have h1 : j < xs.length := by omega
        have h2 : j < ys.length := by omega
        rw [List.getD_eq_getElem?_getD, List.getD_eq_getElem?_getD, List.getElem?_eq_getElem h1, List.getElem?_eq_getElem h2]
        exact (ih j _ _ (List.getElem?_eq_getElem h1) (List.getElem?_eq_getElem h2)).1
      · unfold ltD
        rw [tupOf_at ha, tupOf_at hb, tupOf_at (s.tup ha), tupOf_at (s.tup hb)]
        exact lexW_congr ih
end L2

set_option Elab.async false
set_option linter.all false
set_option maxRecDepth 100000
set_option maxHeartbeats 4000000
namespace L2
open PySem PySem.Spec PyProof.Rows
/-! ### the sort's questions answered by an order: what comes out is in order -/
section
open PySem.W
/-- the end of a tree of questions that are answered by ans keeps P -/
def AlB {α : Type} (ans : Nat → Nat → Bool) (P : α → Prop) : KasT α → Prop
  | .ret a => P a
  | .ask i j k => AlB ans P (k (ans i j))
theorem AlB.bind {α β : Type} {ans : Nat → Nat → Bool} {P : α → Prop} {R : β → Prop} {f : α → KasT β} : ∀ {t : KasT α}, AlB ans P t → (∀ a, P a → AlB ans R (f a)) → AlB ans R (t.bind f)
  | .ret a, h, hf => hf a h
  | .ask i j k, h, hf => AlB.bind (t := k (ans i j)) h hf
theorem AlB.mono {α : Type} {ans : Nat → Nat → Bool} {P R : α → Prop} (hf : ∀ a, P a → R a) : ∀ {t : KasT α}, AlB ans P t → AlB ans R t
  | .ret a, h => hf a h
  | .ask i j k, h => AlB.mono hf (t := k (ans i j)) h
theorem AlB.run {α : Type} {n : Nat} {ans : Nat → Nat → Bool} {P R : α → Prop} {cmp : Nat → Nat → (Bool → Shared → Prop) → Shared → Prop} {G : α → Shared → Prop} {s : Shared}
    (hc : ∀ i j (C : Bool → Shared → Prop), i < n → j < n → C (ans i j) s → cmp i j C s) (hg : ∀ a, P a → R a → G a s) : ∀ {t : KasT α}, Al n P t → AlB ans R t → t.kasWp cmp G s
  | .ret a, h, h' => hg a h h'
  | .ask i j _, h, h' => hc i j _ h.1 h.2.1 (AlB.run hc hg (h.2.2 _) h')
variable (O : KeyOrd) (key : Nat → O.α)
def Ky (p : Array Nat) (i : Nat) : O.α := key (p.getD i 0)
def Upto (p : Array Nat) (k : Nat) : Prop := ∀ i j, i ≤ j → j < k → O.kle (Ky O key p i) (Ky O key p j)
def Downto (p : Array Nat) (k : Nat) : Prop := ∀ i j, i ≤ j → j < k → O.kle (Ky O key p j) (Ky O key p i)
abbrev anB (i j : Nat) : Bool := O.blt (key i) (key j)
variable {O} {key}
theorem Ky_of {p q : Array Nat} {i j : Nat} (h : p[i]? = q[j]?) : Ky O key p i = Ky O key q j := by
  unfold Ky
  rw [Array.getD_eq_getD_getElem?, Array.getD_eq_getD_getElem?, h]
theorem Ky_rev {p : Array Nat} {i j : Nat} (hj : j ≤ p.size) (k : Nat) : Ky O key (kas_rev p i j) k = if i ≤ k ∧ k < j then Ky O key p (i + j - 1 - k) else Ky O key p k := by
  have e := getElem?_mirror_all (xs := p) (i := i) hj k
  split
  · rename_i h; rw [if_pos h] at e; exact Ky_of e
  · rename_i h; rw [if_neg h] at e; exact Ky_of e
theorem rev_size (p : Array Nat) (i j : Nat) : (kas_rev p i j).size = p.size := mirror_size ..
theorem Ky_revE {p : Array Nat} {i j : Nat} (hj : j ≤ p.size) (he : ∀ k, i ≤ k → k < j → Ky O key p k = Ky O key p (j - 1)) (k : Nat) : Ky O key (kas_rev p i j) k = Ky O key p k := by
  rw [Ky_rev hj]
  split
  · rename_i h; rw [he _ (by omega) (by omega), he k h.1 h.2]
  · rfl
theorem Upto.more {p : Array Nat} {x : Nat} (h : Upto O key p x) (hx : 1 ≤ x) (hl : O.kle (Ky O key p (x - 1)) (Ky O key p x)) : Upto O key p (x + 1) := by
  intro i j hij hj
  by_cases h1 : j < x
  · exact h i j hij h1
  · have e : j = x := by omega
    subst e
    by_cases h2 : i = j
    · subst h2; exact KeyOrd.kle_refl _
    · exact KeyOrd.kle_trans (h i (j - 1) (by omega) (by omega)) hl
theorem Downto.more {p : Array Nat} {x : Nat} (h : Downto O key p x) (hx : 1 ≤ x) (hl : O.kle (Ky O key p x) (Ky O key p (x - 1))) : Downto O key p (x + 1) := by
  intro i j hij hj
  by_cases h1 : j < x
  · exact h i j hij h1
  · have e : j = x := by omega
    subst e
    by_cases h2 : i = j
    · subst h2; exact KeyOrd.kle_refl _
    · exact KeyOrd.kle_trans hl (h i (j - 1) (by omega) (by omega))
theorem b_asc {p : Array Nat} : ∀ (f m : Nat), 1 ≤ m → Upto O key p m → AlB (anB O key) (fun r => m ≤ r ∧ r ≤ m + f ∧ Upto O key p r ∧ (r = m + f ∨ O.klt (Ky O key p r) (Ky O key p (r - 1)))) (kas_asc p f m)
  | 0, m, _, h => ⟨Nat.le_refl _, Nat.le_refl _, h, .inl rfl⟩
  | f + 1, m, h1, h => by
    show AlB (anB O key) _ (if O.blt (Ky O key p m) (Ky O key p (m - 1)) = true then _ else _)
    cases e : O.blt (Ky O key p m) (Ky O key p (m - 1)) with
    | true =>
      rw [if_pos rfl]
      exact ⟨Nat.le_refl _, by omega, h, .inr e⟩
    | false =>
      rw [if_neg Bool.false_ne_true]
      refine (b_asc f (m + 1) (by omega) (h.more h1 e)).mono fun r ⟨a, b, c, d⟩ => ⟨by omega, by omega, c, ?_⟩
      rcases d with d | d
      · exact .inl (by omega)
      · exact .inr d
/-- the equal ones at the end of a falling run -/
def Eqs (O : KeyOrd) (key : Nat → O.α) (p : Array Nat) (m q : Nat) : Prop := q + 1 ≤ m ∧ ∀ i, m - (q + 1) ≤ i → i < m → Ky O key p i = Ky O key p (m - 1)
theorem Eqs.none {p : Array Nat} {m : Nat} (h : 1 ≤ m) : Eqs O key p m 0 := ⟨by omega, fun i h1 h2 => by rw [show i = m - 1 by omega]⟩
theorem b_desc : ∀ (f : Nat) (p : Array Nat) (m q : Nat), 1 ≤ m → m + f ≤ p.size → Downto O key p m → Eqs O key p m q → AlB (anB O key) (fun r : Array Nat × Nat × Nat => r.1.size = p.size ∧ m ≤ r.2.1 ∧ r.2.1 ≤ m + f ∧ Downto O key r.1 r.2.1 ∧ Eqs O key r.1 r.2.1 r.2.2) (kas_desc f p m q)
  | 0, p, m, q, _, _, h, he => ⟨rfl, Nat.le_refl _, Nat.le_refl _, h, he⟩
  | f + 1, p, m, q, h1, hz, h, he => by
    show AlB (anB O key) _ (if O.blt (Ky O key p m) (Ky O key p (m - 1)) = true then (if q > 0 then kas_desc f (kas_rev p (m - (q + 1)) m) (m + 1) 0 else kas_desc f p (m + 1) 0) else _)
    cases e : O.blt (Ky O key p m) (Ky O key p (m - 1)) with
    | true =>
      rw [if_pos rfl]
      have hd := h.more h1 (KeyOrd.kle_of_klt e)
      split
      · have ev : ∀ k, Ky O key (kas_rev p (m - (q + 1)) m) k = Ky O key p k := Ky_revE (by omega) he.2
        have hd' : Downto O key (kas_rev p (m - (q + 1)) m) (m + 1) := fun i j a b => by rw [ev, ev]; exact hd i j a b
        refine (b_desc f _ (m + 1) 0 (by omega) (by rw [rev_size]; omega) hd' (Eqs.none (by omega))).mono fun r ⟨a, b, c, d, z⟩ => ⟨by rw [a, rev_size], by omega, by omega, d, z⟩
      · exact (b_desc f p (m + 1) 0 (by omega) (by omega) hd (Eqs.none (by omega))).mono fun r ⟨a, b, c, d, z⟩ => ⟨a, by omega, by omega, d, z⟩
    | false =>
      rw [if_neg Bool.false_ne_true]
      show AlB (anB O key) _ (if O.blt (Ky O key p (m - 1)) (Ky O key p m) = true then _ else _)
      cases e2 : O.blt (Ky O key p (m - 1)) (Ky O key p m) with
      | true =>
        rw [if_pos rfl]
        exact ⟨rfl, Nat.le_refl _, Nat.le_add_right m (f + 1), h, he⟩
      | false =>
        rw [if_neg Bool.false_ne_true]
        have eq : Ky O key p m = Ky O key p (m - 1) := KeyOrd.kle_antisymm e2 e
        refine (b_desc f p (m + 1) (q + 1) (by omega) (by omega) (h.more h1 (by rw [eq]; exact KeyOrd.kle_refl _)) ⟨by have := he.1; omega, fun i a b => ?_⟩).mono fun r ⟨a, b, c, d, z⟩ => ⟨a, by omega, by omega, d, z⟩
        rw [show m + 1 - 1 = m by omega]
        by_cases hi : i = m
        · rw [hi]
        · rw [eq]; exact he.2 i (by omega) (by omega)
theorem b_tail3 {p : Array Nat} {m k : Nat} (h1 : 1 ≤ m) (hk : m ≤ k) (hz : k ≤ p.size) (h : Downto O key p m) : AlB (anB O key) (fun r : Nat × Array Nat => 1 ≤ r.1 ∧ r.1 ≤ k ∧ r.2.size = p.size ∧ Upto O key r.2 r.1) (kas_tail3 m k p) := by
  have hu : Upto O key (kas_rev p 0 m) m := fun i j a b => by
    rw [Ky_rev (by omega), Ky_rev (by omega), if_pos (by omega), if_pos (by omega)]
    exact h _ _ (by omega) (by omega)
  exact (b_asc (k - m) m h1 hu).bind fun r ⟨a, b, c, _⟩ => ⟨by omega, by omega, rev_size .., c⟩
theorem b_descPart {p : Array Nat} {m k : Nat} (hk : m + 1 ≤ k) (hz : k ≤ p.size) (h : Downto O key p (m + 1)) : AlB (anB O key) (fun r : Nat × Array Nat => 1 ≤ r.1 ∧ r.1 ≤ k ∧ r.2.size = p.size ∧ Upto O key r.2 r.1) (kas_descPart m k p) := by
  refine (b_desc (k - (m + 1)) p (m + 1) 0 (by omega) (by omega) h (Eqs.none (by omega))).bind fun r ⟨a, b, c, d, z⟩ => ?_
  split
  · have ev : ∀ i, Ky O key (kas_rev r.1 (r.2.1 - (r.2.2 + 1)) r.2.1) i = Ky O key r.1 i := Ky_revE (by omega) z.2
    refine (b_tail3 (p := kas_rev r.1 (r.2.1 - (r.2.2 + 1)) r.2.1) (by omega) (by omega) (by rw [rev_size]; omega) fun i j x y => ?_).mono fun r' ⟨x, y, w, v⟩ => ⟨x, y, by rw [w, rev_size, a], v⟩
    rw [ev, ev]; exact d i j x y
  · exact (b_tail3 (by omega) (by omega) (by omega) d).mono fun r' ⟨x, y, w, v⟩ => ⟨x, y, by rw [w, a], v⟩
theorem b_count {p : Array Nat} {k : Nat} (h1 : 1 ≤ k) (hz : k ≤ p.size) : AlB (anB O key) (fun r : Nat × Array Nat => 1 ≤ r.1 ∧ r.1 ≤ k ∧ r.2.size = p.size ∧ Upto O key r.2 r.1) (kas_count k p) := by
  have u1 : Upto O key p 1 := fun i j a b => by rw [show i = j by omega]; exact KeyOrd.kle_refl _
  refine (b_asc (k - 1) 1 (Nat.le_refl _) u1).bind fun m ⟨a, b, c, d⟩ => ?_
  by_cases hm : m = k
  · rw [if_pos (by simpa using hm)]
    exact ⟨a, by omega, rfl, c⟩
  · rw [if_neg (by simpa using hm)]
    have lt : O.klt (Ky O key p m) (Ky O key p (m - 1)) := d.resolve_left (by omega)
    by_cases h2 : m > 1
    · rw [if_pos h2]
      show AlB (anB O key) _ (if O.blt (Ky O key p 0) (Ky O key p (m - 1)) = true then _ else _)
      cases e : O.blt (Ky O key p 0) (Ky O key p (m - 1)) with
      | true =>
        rw [if_pos rfl]
        exact ⟨a, by omega, rfl, c⟩
      | false =>
        rw [if_neg Bool.false_ne_true]
        have al : ∀ i, 0 ≤ i → i < m → Ky O key p i = Ky O key p (m - 1) := fun i _ hi =>
          KeyOrd.kle_antisymm (c i (m - 1) (by omega) (by omega)) (KeyOrd.kle_trans e (c 0 i (by omega) hi))
        have ev : ∀ i, Ky O key (kas_rev p 0 m) i = Ky O key p i := Ky_revE (by omega) al
        have dm : Downto O key p m := fun i j x y => by rw [al i (by omega) (by omega), al j (by omega) y]; exact KeyOrd.kle_refl _
        have dn := dm.more a (KeyOrd.kle_of_klt lt)
        refine (b_descPart (p := kas_rev p 0 m) (by omega) (by rw [rev_size]; omega) fun i j x y => ?_).mono fun r' ⟨x, y, w, v⟩ => ⟨x, y, by rw [w, rev_size], v⟩
        rw [ev, ev]; exact dn i j x y
    · rw [if_neg h2]
      have e1 : m = 1 := by omega
      subst e1
      have d1 : Downto O key p 1 := fun i j x y => by rw [show i = j by omega]; exact KeyOrd.kle_refl _
      exact b_descPart (by omega) hz (d1.more (Nat.le_refl _) (KeyOrd.kle_of_klt lt))
theorem b_place {p : Array Nat} {k : Nat} (h : Upto O key p k) : ∀ (f l r : Nat), l ≤ r → r ≤ k → r - l ≤ f → (∀ i, i < l → O.kle (Ky O key p i) (Ky O key p k)) → (∀ i, r ≤ i → i < k → O.klt (Ky O key p k) (Ky O key p i)) →
    AlB (anB O key) (fun l => l ≤ k ∧ (∀ i, i < l → O.kle (Ky O key p i) (Ky O key p k)) ∧ ∀ i, l ≤ i → i < k → O.klt (Ky O key p k) (Ky O key p i)) (kas_place p k f l r)
  | 0, l, r, h1, h2, h3, ha, hb => by
    have e : l = r := by omega
    subst e
    exact ⟨h2, ha, hb⟩
  | f + 1, l, r, h1, h2, h3, ha, hb => by
    unfold kas_place
    split
    · have e : l = r := by omega
      subst e
      exact ⟨h2, ha, hb⟩
    · show AlB (anB O key) _ (if O.blt (Ky O key p k) (Ky O key p ((l + r) / 2)) = true then _ else _)
      cases e : O.blt (Ky O key p k) (Ky O key p ((l + r) / 2)) with
      | true =>
        rw [if_pos rfl]
        exact b_place h f l ((l + r) / 2) (by omega) (by omega) (by omega) ha fun i a b => KeyOrd.klt_of_klt_of_kle e (h _ _ a b)
      | false =>
        rw [if_neg Bool.false_ne_true]
        exact b_place h f ((l + r) / 2 + 1) r (by omega) h2 (by omega) (fun i a => KeyOrd.kle_trans (h i ((l + r) / 2) (by omega) (by omega)) e) hb
theorem Ky_bub {p : Array Nat} {k d : Nat} (hk : k < p.size) (hd : d ≤ k) (i : Nat) : Ky O key (bubble p k d) i = if i = k - d then Ky O key p k else if k - d < i ∧ i ≤ k then Ky O key p (i - 1) else Ky O key p i := by
  have e := getElem?_bubble hk d hd i
  by_cases h1 : i = k - d
  · rw [if_pos h1] at e ⊢; exact Ky_of e
  · rw [if_neg h1] at e ⊢
    by_cases h2 : k - d < i ∧ i ≤ k
    · rw [if_pos h2] at e ⊢; exact Ky_of e
    · rw [if_neg h2] at e ⊢; exact Ky_of e
theorem b_bin : ∀ (f : Nat) (p : Array Nat) (k : Nat), k + f ≤ p.size → Upto O key p k → AlB (anB O key) (fun q => Upto O key q (k + f)) (kas_bin f p k)
  | 0, p, k, _, h => h
  | f + 1, p, k, hz, h => by
    refine (b_place h k 0 k (by omega) (Nat.le_refl _) (by omega) (fun i hi => by omega) (fun i a b => by omega)).bind fun l ⟨hl, ha, hb⟩ => ?_
    have hu : Upto O key (bubble p k (k - l)) (k + 1) := fun i j x y => by
      rw [Ky_bub (by omega) (by omega), Ky_bub (by omega) (by omega), show k - (k - l) = l by omega]
      by_cases j1 : j = l
      · rw [if_pos j1]
        by_cases i1 : i = l
        · rw [if_pos i1]; exact KeyOrd.kle_refl _
        · rw [if_neg i1, if_neg (show ¬ (l < i ∧ i ≤ k) by omega)]; exact ha i (by omega)
      · rw [if_neg j1]
        by_cases j2 : l < j
        · rw [if_pos (show l < j ∧ j ≤ k from ⟨j2, by omega⟩)]
          by_cases i1 : i = l
          · rw [if_pos i1]; exact KeyOrd.kle_of_klt (hb (j - 1) (by omega) (by omega))
          · rw [if_neg i1]
            by_cases i2 : l < i
            · rw [if_pos (show l < i ∧ i ≤ k from ⟨i2, by omega⟩)]; exact h _ _ (by omega) (by omega)
            · rw [if_neg (show ¬ (l < i ∧ i ≤ k) by omega)]; exact h _ _ (by omega) (by omega)
        · rw [if_neg (show ¬ (l < j ∧ j ≤ k) by omega), if_neg (show ¬ i = l by omega), if_neg (show ¬ (l < i ∧ i ≤ k) by omega)]; exact h _ _ x (by omega)
    have := b_bin f (bubble p k (k - l)) (k + 1) (by rw [bubble_size]; omega) hu
    rw [show k + 1 + f = k + (f + 1) by omega] at this
    exact this
theorem b_sort {n : Nat} (h1 : 1 ≤ n) : AlB (anB O key) (fun q => Upto O key q n) (kas_sort n) := by
  have hs : (List.toArray (List.range n)).size = n := by simp
  refine (b_count h1 (p := List.toArray (List.range n)) (by rw [hs]; exact Nat.le_refl _)).bind fun r ⟨a, b, c, d⟩ => ?_
  rw [hs] at c
  split
  · have := b_bin (n - max r.1 1) r.2 (max r.1 1) (by omega) (by rw [show max r.1 1 = r.1 by omega]; exact d)
    rw [show max r.1 1 + (n - max r.1 1) = n by omega] at this
    exact this
  · have e : r.1 = n := by omega
    rw [e] at d
    exact d
end
end L2

set_option Elab.async false
set_option linter.all false
set_option maxRecDepth 100000
set_option maxHeartbeats 4000000
namespace L2
open PySem PySem.Spec PyProof.Rows
/-! ### sorted, and the order of what comes out -/
section
open PySem.W
variable {prog : Program} {w : World} {A : Around} {E : Value → Shared → Prop} {s : Shared}
theorem range_get (vs : List Value) : (List.range vs.length).map (fun i => vs.getD i Value.none) = vs := by
  apply List.ext_getElem
  · simp
  · intro i a1 a2
    simp [List.getElem?_eq_getElem a2]
/-- what the items must do at a heap, and what is known of the rearrangement that comes -/
def RanksG (prog : Program) (w : World) (A : Around) (vs : List Value) (R : Array Nat → Prop) (s : Shared) : Prop :=
  ∃ κ : SortKind, (∀ (Q : SortKind → Shared → Prop) (E : Value → Shared → Prop), Q κ s → wpAny (model prog w) A (keyKind' vs.toArray) Q E s) ∧
    ∀ G : Array Nat → Shared → Prop, (∀ p, Rng vs.length p → R p → G p s) → (kas_sort vs.length).kasWp (kas_ask prog w A κ vs) G s
theorem sort_ranG {R : Array Nat → Prop} {a : Addr} {vs : List Value} {n : Nat} {P : PySem.Fin → Shared → Prop} (ho : s.heap.get? a = some (seqObj "list" vs.toArray n)) (h64 : vs.length < 64)
    (hk : 2 ≤ vs.length → ∀ h' : Heap, (∀ b o, b ≠ a → s.heap.get? b = some o → h'.get? b = some o) → RanksG prog w A vs R { s with heap := h' }) (hR : vs.length < 2 → R (List.range vs.length).toArray)
    (h : ∀ (out : Array Value) (p : Array Nat), Rng vs.length p → R p → out.toList = p.toList.map (fun i => vs.getD i Value.none) → P (.done (.ret .none)) { s with heap := sortedHeap s.heap a vs out }) : wpAny (model prog w) A (Builtin.«list.sort» ⟨[.ref a], []⟩) P E s := by
  have la : a < s.heap.objs.size := Heap.lt_size ho
  have small : vs.length ≤ sizeLine := by rw [sizeLine_eq]; omega
  obtain ⟨e1, k1⟩ : ∃ e1, (s.heap.update a (Obj.mapSeq fun _ => (#[] : Array Value))).get? a = some (seqObj "list" #[] e1) := ⟨_, get?_update_seq ho fun _ => #[]⟩
  generalize hU : s.heap.update a (Obj.mapSeq fun _ => (#[] : Array Value)) = U at k1
  have zU : U.objs.size = s.heap.objs.size := by rw [← hU]; exact Heap.size_update ..
  have kp : ∀ b o, b ≠ a → s.heap.get? b = some o → ((U.push (seqObj "tuple" vs.toArray 0)).push (seqObj "list" #[] 0)).get? b = some o := fun b o nb gb => by
    refine Heap.get?_push_of_some _ (Heap.get?_push_of_some _ ?_)
    rw [← hU, Heap.get?_update_ne _ _ _ _ nb]; exact gb
  have k2 : ((U.push (seqObj "tuple" vs.toArray 0)).push (seqObj "list" #[] 0)).get? a = some (seqObj "list" #[] e1) := Heap.get?_push_of_some _ (Heap.get?_push_of_some _ k1)
  rw [list_sort_plain]
  refine wpAny_bind (listItems_at ho rfl (wpAny_bind (listUpdate_at ho rfl ?_ (by simpa using small) (Nat.zero_le _))))
  have k1' := k1
  rw [← hU] at k1'
  refine wpAny_bind (seqEpoch_at k1' rfl (wpAny_bind (wpAny_newTuple (wpAny_bind (wpAny_newList (wpAny_holding ?_) (Nat.zero_le _))) (by simpa using small))))
  rw [hU]
  show wpAny (model prog w) A _ P E { s with heap := (U.push (seqObj "tuple" vs.toArray 0)).push (seqObj "list" #[] 0) }
  have fin : ∀ (out : Array Value) (p : Array Nat), Rng vs.length p → R p → out.toList = p.toList.map (fun i => vs.getD i Value.none) → P (.done (.ret .none)) { s with heap := ((U.push (seqObj "tuple" vs.toArray 0)).push (seqObj "list" #[] 0)).update a (Obj.mapSeq fun _ => out) } := fun out p h1 h2 h3 => by
    have := h out p h1 h2 h3
    unfold sortedHeap at this
    rw [hU] at this
    exact this
  dsimp only
  by_cases h2 : vs.toArray.size < 2
  · rw [if_pos h2, if_pos h2]
    refine wpAny_bind (wpAny_pure ?_)
    rw [StateT.run_pure]
    refine wpAny_bind (wpAny_pure ?_)
    dsimp only
    have ev : ((vs.toArray.zip vs.toArray).map fun x => x.2).toList = vs := by simp [List.map_snd_zip]
    refine wpAny_bind (seqEpoch_at k2 rfl (wpAny_bind (listUpdate_at k2 rfl ?_ (Nat.zero_le _) ?_)))
    · simp only [bne_self_eq_false, Bool.false_eq_true, if_false]
      exact wpAny_pure (fin _ (List.range vs.length).toArray (Array.Perm.refl _) (hR (by rw [List.size_toArray] at h2; exact h2)) (by rw [show (arrOf (SortSt.mk' general' (vs.toArray.zip vs.toArray) #[] 7 none)) = vs.toArray.zip vs.toArray from rfl, ev, List.toList_toArray, range_get]))
    · rw [← Array.length_toList, show (arrOf (SortSt.mk' general' (vs.toArray.zip vs.toArray) #[] 7 none)) = vs.toArray.zip vs.toArray from rfl, ev]; exact Nat.le_succ_of_le small
  · rw [if_neg h2, if_neg h2]
    have l2 : 2 ≤ vs.length := by rw [List.size_toArray] at h2; omega
    obtain ⟨κ, kd, ak⟩ := hk l2 _ kp
    refine wpAny_bind (kd _ _ ?_)
    refine wpAny_bind (wpAny_mono (kat_run (ks := vs) (vs := vs) (Q := fun st' s' => s' = { s with heap := (U.push (seqObj "tuple" vs.toArray 0)).push (seqObj "list" #[] 0) } ∧ ∃ p : Array Nat, (Rng vs.length p ∧ R p) ∧ arrOf st' = p.map (kas_item (vs.toArray.zip vs.toArray)) ∧ failedOf st' = none)
      (G := fun p s' => s' = { s with heap := (U.push (seqObj "tuple" vs.toArray 0)).push (seqObj "list" #[] 0) } ∧ Rng vs.length p ∧ R p) rfl l2 h64 (fun p st' s' _ ar fl g => ⟨g.1, p, g.2, ar, fl⟩) (ak _ fun p h1 h2 => ⟨rfl, h1, h2⟩)) ?_ fun _ _ e => e)
    rintro ⟨⟨⟩, st'⟩ s' ⟨rfl, p, ⟨hp, hr⟩, ar, fl⟩
    dsimp only
    have out := kat_snds rfl ar
    have pm := hp.perm
    rw [out]
    refine wpAny_bind (seqEpoch_at k2 rfl (wpAny_bind (listUpdate_at k2 rfl ?_ (Nat.zero_le _) ?_)))
    · rw [fl]
      simp only [bne_self_eq_false, Bool.false_eq_true, if_false]
      exact wpAny_pure (fin _ p hp hr (by simp))
    · rw [List.size_toArray, pm.length_eq]; exact Nat.le_succ_of_le small
theorem sorted_ranG {R : Array Nat → Prop} {l : Addr} {vs : List Value} {Q : Value → Shared → Prop} (hl : s.heap.IsList l vs.toArray) (h64 : vs.length < 64)
    (hk : 2 ≤ vs.length → ∀ h' : Heap, (∀ b o, s.heap.get? b = some o → h'.get? b = some o) → RanksG prog w A.in1.in1 vs R { s with heap := h' }) (hR : vs.length < 2 → R (List.range vs.length).toArray)
    (h : ∀ (out : Array Value) (p : Array Nat), Rng vs.length p → R p → out.toList = p.toList.map (fun i => vs.getD i Value.none) → Q (.ref (s.heap.objs.size + 1)) { s with heap := sortedAll s.heap vs out }) : wpAny (model prog w) A (call (.builtin "sorted") [.ref l]) Q E s := by
  have small : vs.length ≤ sizeLine := by rw [sizeLine_eq]; omega
  refine Calls.call_function_entry kind_sorted plain_sorted entry_sorted (args_sorted1 _) ?_
  unfold Builtin.«sorted»
  refine wpAny_bind (m := checkCount "sorted" 1 1 _) (wpAny_pure (wpAny_bind (collect_list hl (wpAny_bind (wpAny_newList ?_ (by simpa using small))) (by simpa using small))))
  generalize hU : (s.heap.push (seqObj "list" #[] 0)).update s.heap.objs.size (Obj.mapSeq (· ++ vs.toArray)) = U
  have zU : U.objs.size = s.heap.objs.size + 1 := by rw [← hU, Heap.size_update]; exact size_push' ..
  have kU : ∀ b o, s.heap.get? b = some o → U.get? b = some o := fun b o gb => by
    rw [← hU, Heap.get?_update_ne _ _ _ _ (Nat.ne_of_lt (Heap.lt_size gb))]
    exact Heap.get?_push_of_some _ gb
  have at' : (U.push (seqObj "list" vs.toArray 0)).get? (s.heap.objs.size + 1) = some (seqObj "list" vs.toArray 0) := by rw [← zU]; exact Heap.get?_push_size _ rfl
  show wpAny _ _ _ _ _ { s with heap := U.push (seqObj "list" vs.toArray 0) }
  rw [zU]
  refine wpAny_bind (wpAny_holding (wpAny_call_entry slot_list_sort ⟨_, at', rfl⟩ entry_list_sort ?bd (args_list_sort _)))
  case bd =>
    refine sort_ranG at' h64 (fun l2 h' kp => hk l2 h' fun b o gb => kp b o (Nat.ne_of_lt (Nat.lt_succ_of_lt (Heap.lt_size gb))) (Heap.get?_push_of_some _ (kU b o gb))) hR fun out p p1 p2 p3 => ⟨_, rfl, wpAny_pure ⟨_, rfl, ?_⟩⟩
    have := h out p p1 p2 p3
    unfold sortedAll at this
    rw [hU] at this
    exact this
end
end L2

set_option Elab.async false
set_option linter.all false
set_option maxRecDepth 100000
set_option maxHeartbeats 4000000
namespace L2
open PySem PySem.Spec PyProof.Rows
section
open PySem.W
variable {X : Cx} {pins : List (Addr × Obj)} {σ : St} {H : Hp} {s : Shared} {k : Nat}
theorem kl_restE {prog : Program} {w : World} {A : Around} {fin : Bool} {eq lt : V → V → Bool} {C : Bool → Shared → Prop} : ∀ {xs ys : List V} {us vs : List Value} (i : Nat), 1 ≤ i → Vals xs us → Vals ys vs →
    (∀ (j : Nat) x y u v, xs[j]? = some x → ys[j]? = some y → us[j]? = some u → vs[j]? = some v → SeqAt.EqAt A s u v (eq x y) ∧ LtAt A s u v (lt x y)) → C (lexW fin eq lt xs ys) s → KatLex prog w A true fin C (us.zip vs) i s
  | [], _, _, _, _, _, .nil, _, _, hC => by unfold lexW at hC; exact kat_nil hC
  | _ :: _, [], _, _, _, _, .cons _ _, .nil, _, hC => by unfold lexW at hC; exact kat_nil hC
  | x :: xs, y :: ys, _, _, i, hi, .cons r1 rr1, .cons r2 rr2, h, hC => by
    obtain ⟨he, hl⟩ := h 0 x y _ _ rfl rfl rfl rfl
    refine kat_cons (he prog w _ _ ?_)
    unfold lexW at hC
    cases e : eq x y with
    | true =>
      rw [e, if_pos rfl] at hC
      exact kat_yes (kl_restE (i + 1) (by omega) rr1 rr2 (fun j x y u v a b c d => h (j + 1) x y u v a b c d) hC)
    | false =>
      rw [e, if_neg Bool.false_ne_true] at hC
      refine kat_no ?_
      have e0 : (true && i == 0) = false := by simp; omega
      rw [e0]
      exact kat_one _ _ (hl prog w _ _ hC)
/-- an item that the sort takes: a tuple, a text first -/
def LedE (H : Hp) (y : V) : Prop := ∃ a n us, y = .ref a ∧ H a = some (.tup (.str n :: us))
theorem LedE.led {K : PySem.W.Frag} {y : V} (h : LedE H y) : Led K H (fun v => (tupOf H v).getD []) y := by
  obtain ⟨a, n, us, rfl, e⟩ := h
  exact ⟨a, n, us, rfl, by dsimp only; rw [tupOf_at e]; rfl, SqT.of e⟩
theorem askE {prog : Program} {w : World} {A : Around} (I : Inv X pins σ H s) {ys : List V} {vs : List Value} (r : Vals ys vs) (hu : A.units + 2 < cLine) (hl : ∀ y ∈ ys, LedE H y) (hc : ∀ x ∈ ys, ∀ y ∈ ys, CmpE H 2 x y)
    {i j : Nat} {C : Bool → Shared → Prop} (hi : i < vs.length) (hj : j < vs.length) (hC : C (ltD H 2 (ys.getD i .non) (ys.getD j .non)) s) : kas_ask prog w A (tuples' (Value.type "str" != Value.type "tuple")) vs i j C s := by
  have ei : vs[i]? = some vs[i] := by simp
  have ej : vs[j]? = some vs[j] := by simp
  obtain ⟨x, hx, rx⟩ := r.get' ei
  obtain ⟨y, hy, ry⟩ := r.get' ej
  rw [List.getD_eq_getElem?_getD, List.getD_eq_getElem?_getD, hx, hy] at hC
  have mx := List.mem_of_getElem? hx
  have my := List.mem_of_getElem? hy
  have key := hc _ mx _ my
  obtain ⟨a, n, us, rfl, ha⟩ := hl x mx
  obtain ⟨b, m, ws, rfl, hb⟩ := hl y my
  obtain ⟨ia, qa, pa, _⟩ := I.tuple (SqT.of ha)
  obtain ⟨ib, qb, pb, _⟩ := I.tuple (SqT.of hb)
  have va : vs.getD i Value.none = .ref a := by
    rw [List.getD_eq_getElem?_getD, ei]; cases hvv : vs[i] <;> rw [hvv] at rx <;> cases rx <;> rfl
  have vb : vs.getD j Value.none = .ref b := by
    rw [List.getD_eq_getElem?_getD, ej]; cases hvv : vs[j] <;> rw [hvv] at ry <;> cases ry <;> rfl
  have kk : ∀ (q : Nat) u v, (V.str n :: us)[q]? = some u → (V.str m :: ws)[q]? = some v → CmpE H 1 u v := by
    rcases key with key | ⟨a', b', xs', ys', e1, e2, h1, h2, h3⟩
    · rcases key with ⟨_, _, z, _⟩ | ⟨_, _, z, _⟩ <;> cases z
    · cases e1
      cases e2
      rw [ha] at h1; cases h1
      rw [hb] at h2; cases h2
      exact h3
  have e2 : ltD H 2 (.ref a) (.ref b) = lexW (decide ((V.str n :: us).length < (V.str m :: ws).length)) (eqD H 1) (ltD H 1) (V.str n :: us) (V.str m :: ws) := by
    conv => lhs; unfold ltD
    rw [tupOf_at ha, tupOf_at hb]
  have hC : C (ltD H 2 (.ref a) (.ref b)) s := hC
  rw [e2] at hC
  have l1 := qa.length
  have l2 := qb.length
  show wpAny _ _ (keyLt' _ (vs.getD i Value.none) (vs.getD j Value.none)) C _ s
  rw [va, vb]
  obtain ⟨oa, ga, _, na, da⟩ := pa
  obtain ⟨ob, gb, _, nb, db⟩ := pb
  refine kat_lt ga da gb db ?_
  cases qa with
  | cons a1 a2 =>
    cases qb with
    | cons b1 b2 =>
      obtain ⟨ta, rfl⟩ := a1
      obtain ⟨tb, rfl⟩ := b1
      have e0 := eqAt_V (A := A) (s := s) (y := .str n) (x := .str m) ⟨ta, rfl⟩ ⟨tb, rfl⟩ rfl rfl
      refine kat_cons (e0 prog w _ _ ?_)
      have hC : C (if eqV (V.str n) (V.str m) = true then lexW (decide ((V.str n :: us).length < (V.str m :: ws).length)) (eqD H 1) (ltD H 1) us ws else decide (n.cps.toList < m.cps.toList)) s := hC
      cases ee : eqV (V.str n) (V.str m) with
      | true =>
        rw [ee, if_pos rfl] at hC
        refine kat_yes (kl_restE (eq := eqD H 1) (lt := ltD H 1) (xs := us) (ys := ws) 1 (Nat.le_refl _) a2 b2 (fun q x y u v hx hy hu' hv => ?_) ?_)
        · obtain ⟨x', ex, rx⟩ := Vals.get' a2 hu'
          obtain ⟨y', ey, ry⟩ := Vals.get' b2 hv
          rw [hx] at ex; cases ex
          rw [hy] at ey; cases ey
          exact CmpE.asks I 1 A (by omega) (kk (q + 1) x y (by simpa using hx) (by simpa using hy)) rx ry
        · rw [List.size_toArray, List.size_toArray, ← l1, ← l2]
          exact hC
      | false =>
        rw [ee, if_neg Bool.false_ne_true] at hC
        exact kat_no (oneLt_str hC)
theorem ranksE {A : Around} {O : KeyOrd} {kv : V → O.α} (I : Inv X pins σ H s) {ys : List V} {vs : List Value} (r : Vals ys vs) (hu : A.units + 2 < cLine) (h2 : 2 ≤ vs.length) (hl : ∀ y ∈ ys, LedE H y)
    (hc : ∀ x ∈ ys, ∀ y ∈ ys, CmpE H 2 x y ∧ ltD H 2 x y = O.blt (kv x) (kv y)) : RanksG X.prog X.w A vs (fun p => Upto O (fun i => kv (ys.getD i .non)) p vs.length) s := by
  obtain ⟨fs, k1, k2, k3⟩ := led_tups (F := fun v => (tupOf H v).getD []) I r fun y hy => (hl y hy).led
  refine ⟨tuples' (Value.type "str" != Value.type "tuple"), fun Q E q => kat_kind k1 (by omega) (fun v hv => ?_) (by decide) q, fun G hG => AlB.run (n := vs.length) (ans := anB O (fun i => kv (ys.getD i .non))) (fun i j C hi hj hC => ?_) (fun p h1 h2 => hG p h1 h2) (al_sort (by omega)) (b_sort (by omega))⟩
  · obtain ⟨x, t, rfl⟩ := k3 v hv
    exact Looks.of_pure rfl
  · have hlen := r.length
    refine askE I r hu hl (fun x hx y hy => (hc x hx y hy).1) hi hj ?_
    have e1 : ys.getD i .non = ys[i]'(by omega) := by rw [List.getD_eq_getElem?_getD, List.getElem?_eq_getElem (show i < ys.length by omega)]; rfl
    have e2 : ys.getD j .non = ys[j]'(by omega) := by rw [List.getD_eq_getElem?_getD, List.getElem?_eq_getElem (show j < ys.length by omega)]; rfl
    have hC : C (O.blt (kv (ys.getD i .non)) (kv (ys.getD j .non))) s := hC
    rw [e1, e2] at hC ⊢
    rw [(hc _ (List.getElem_mem _) _ (List.getElem_mem _)).2]
    exact hC
/-- sorted of tuples, a text first in each: in order -/
def rSortE (K : PySem.W.Frag) : List V → Hp → VK → Prop := fun xs H Q => ∃ p ys, xs = [.ref p] ∧ SqL K H p ys ∧ ys.length < 64 ∧ ∃ (O : KeyOrd) (kv : V → O.α), (∀ y ∈ ys, LedE H y) ∧
  (∀ x ∈ ys, ∀ y ∈ ys, CmpE H 2 x y ∧ ltD H 2 x y = O.blt (kv x) (kv y)) ∧ ∀ l out, out.Perm ys → (∀ (i j : Nat) x y, i ≤ j → out[i]? = some x → out[j]? = some y → O.kle (kv x) (kv y)) → H l = none → Q (.ref l) (upd H l (.lst out))
theorem vals_pickE {ys : List V} {vs : List Value} (r : Vals ys vs) : ∀ ps : List Nat, (∀ i ∈ ps, i < vs.length) → Vals (ps.map fun i => ys.getD i .non) (ps.map fun i => vs.getD i Value.none)
  | [], _ => .nil
  | i :: ps, h => by
    have hlen := r.length
    have hi := h i List.mem_cons_self
    obtain ⟨x, hx, rx⟩ := r.get' (show vs[i]? = some vs[i] by simp)
    refine .cons ?_ (vals_pickE r ps fun j hj => h j (List.mem_cons_of_mem _ hj))
    dsimp only
    rw [List.getD_eq_getElem?_getD, hx, List.getD_eq_getElem?_getD, List.getElem?_eq_getElem hi]
    exact rx
theorem sortedE (K : PySem.W.Frag) (hr : Room k X.A) (hK : X.K = K := by rfl) : CallR X (.builtin "sorted") (rSortE K) := by
  subst hK
  intro pins s σ H xs us Q I r ⟨p, ys, e, hq, h64, O, kv, hl, hc, q⟩
  subst e
  obtain ⟨u, rfl, rx⟩ := vals1 r
  cases rx
  obtain ⟨vs, rv, pl, hz⟩ := I.list hq
  have hlen := rv.length
  refine sorted_ranG (R := fun p => Upto O (fun i => kv (ys.getD i .non)) p vs.length) pl.isList (by omega) (fun l2 h' kp => ?_) (fun h2 i j a b => ?_) fun out p h1 h2 h3 => ?_
  · exact ranksE (I.kept (t' := s.toks) kp) rv (by have := hr.un; show X.A.units + 1 + 1 + 2 < _; omega) l2 hl hc
  · rw [show i = j by omega]; exact KeyOrd.kle_refl _
  · have hp : p.toList.Perm (List.range vs.length) := by simpa using Array.perm_iff_toList_perm.mp h1
    have hlt : ∀ i ∈ p.toList, i < vs.length := fun i hi => List.mem_range.mp (hp.mem_iff.mp hi)
    have z2 := vals_pickE rv p.toList hlt
    rw [← h3] at z2
    have z1 : (p.toList.map fun i => ys.getD i .non).Perm ys := by
      have := hp.map fun i => ys.getD i V.non
      have e : (List.range vs.length).map (fun i => ys.getD i V.non) = ys := by
        rw [← hlen]
        apply List.ext_getElem
        · simp
        · intro i a1 a2
          simp [List.getElem?_eq_getElem a2]
      rw [e] at this
      exact this
    have hpl : p.toList.length = vs.length := by rw [hp.length_eq, List.length_range]
    obtain ⟨c, hat⟩ := sortedAll_at s.heap vs out
    refine ⟨.ref (s.heap.objs.size + 1), _, I.laid (t' := s.toks) (o := .lst (p.toList.map fun i => ys.getD i .non)) (fun b o e => sortedAll_old e) (Nat.le_succ _) ⟨by rw [z1.length_eq]; exact hz, out.toList, c, z2, ?_⟩, rfl, q _ _ z1 (fun i j x y hij hx hy => ?_) (I.hok.fresh (Nat.le_succ _))⟩
    · exact hat
    · rw [List.getElem?_map] at hx hy
      have hi : i < p.toList.length := by
        cases e : p.toList[i]? with
        | none => rw [e] at hx; cases hx
        | some z => exact (List.getElem?_eq_some_iff.mp e).1
      have hj : j < p.toList.length := by
        cases e : p.toList[j]? with
        | none => rw [e] at hy; cases hy
        | some z => exact (List.getElem?_eq_some_iff.mp e).1
      have h := h2 i j hij (by omega)
      have ki : Ky O (fun i => kv (ys.getD i .non)) p i = kv x := by
        unfold Ky
        rw [Array.getD_eq_getD_getElem?, ← Array.getElem?_toList]
        rw [List.getElem?_eq_getElem hi] at hx ⊢
        cases hx
        rfl
      have kj : Ky O (fun i => kv (ys.getD i .non)) p j = kv y := by
        unfold Ky
        rw [Array.getD_eq_getD_getElem?, ← Array.getElem?_toList]
        rw [List.getElem?_eq_getElem hj] at hy ⊢
        cases hy
        rfl
      rw [ki, kj] at h
      exact h
end
end L2

set_option Elab.async false
set_option linter.all false
set_option maxRecDepth 100000
set_option maxHeartbeats 4000000
namespace L2
open PySem PySem.Spec PyProof.Rows
/-! ### orders: whole numbers, pairs, lists -/
def intO : KeyOrd where
  α := Int
  blt a b := decide (a < b)
  irrefl a := decide_eq_false (by omega)
  trans a b c h1 h2 := decide_eq_true (by have := of_decide_eq_true h1; have := of_decide_eq_true h2; omega)
  negTrans a b c h := by
    have h := of_decide_eq_true h
    by_cases g : a < b
    · exact .inl (decide_eq_true g)
    · exact .inr (decide_eq_true (by omega))
  total a b h1 h2 := by have := of_decide_eq_false h1; have := of_decide_eq_false h2; omega
theorem ko_asym {A : KeyOrd} {a b : A.α} (h : A.blt a b = true) : A.blt b a = false := KeyOrd.klt_asymm (O := A) h
/-- three cases of two keys -/
theorem ko_cases {A : KeyOrd} (a b : A.α) : (A.blt a b = true ∧ A.blt b a = false) ∨ (A.blt b a = true ∧ A.blt a b = false) ∨ (a = b) := by
  cases h1 : A.blt a b with
  | true => exact .inl ⟨rfl, ko_asym h1⟩
  | false =>
    cases h2 : A.blt b a with
    | true => exact .inr (.inl ⟨rfl, rfl⟩)
    | false => exact .inr (.inr (A.total a b h1 h2))
def stepB (A : KeyOrd) (a b : A.α) (r : Bool) : Bool := A.blt a b || (!A.blt b a && r)
theorem stepB_lt {A : KeyOrd} {a b : A.α} {r : Bool} (h : A.blt a b = true) : stepB A a b r = true := by unfold stepB; rw [h]; rfl
theorem stepB_gt {A : KeyOrd} {a b : A.α} {r : Bool} (h : A.blt b a = true) : stepB A a b r = false := by unfold stepB; rw [h, ko_asym h]; rfl
theorem stepB_eq {A : KeyOrd} {a : A.α} {r : Bool} : stepB A a a r = r := by unfold stepB; rw [A.irrefl]; rfl
theorem stepB_trans {A : KeyOrd} {a b c : A.α} {r r' r'' : Bool} (hr : r = true → r' = true → r'' = true) (h1 : stepB A a b r = true) (h2 : stepB A b c r' = true) : stepB A a c r'' = true := by
  rcases ko_cases (A := A) a b with ⟨x, _⟩ | ⟨x, _⟩ | x
  · rcases ko_cases (A := A) b c with ⟨y, _⟩ | ⟨y, _⟩ | y
    · exact stepB_lt (A.trans _ _ _ x y)
    · rw [stepB_gt y] at h2; cases h2
    · rw [← y]; exact stepB_lt x
  · rw [stepB_gt x] at h1; cases h1
  · subst x
    rw [stepB_eq] at h1
    rcases ko_cases (A := A) a c with ⟨y, _⟩ | ⟨y, _⟩ | y
    · exact stepB_lt y
    · rw [stepB_gt y] at h2; cases h2
    · subst y
      rw [stepB_eq] at h2 ⊢
      exact hr h1 h2
theorem stepB_neg {A : KeyOrd} {a b c : A.α} {r r' r'' : Bool} (hr : r'' = true → r = true ∨ r' = true) (h : stepB A a c r'' = true) : stepB A a b r = true ∨ stepB A b c r' = true := by
  rcases ko_cases (A := A) a b with ⟨x, _⟩ | ⟨x, _⟩ | x
  · exact .inl (stepB_lt x)
  · right
    rcases ko_cases (A := A) a c with ⟨y, _⟩ | ⟨y, _⟩ | y
    · exact stepB_lt (A.trans _ _ _ x y)
    · rw [stepB_gt y] at h; cases h
    · rw [← y]; exact stepB_lt x
  · subst x
    rcases ko_cases (A := A) a c with ⟨y, _⟩ | ⟨y, _⟩ | y
    · exact .inr (stepB_lt y)
    · rw [stepB_gt y] at h; cases h
    · subst y
      rw [stepB_eq] at h ⊢
      rw [stepB_eq]
      exact hr h
theorem stepB_total {A : KeyOrd} {a b : A.α} {r r' : Bool} (h1 : stepB A a b r = false) (h2 : stepB A b a r' = false) : a = b ∧ r = false ∧ r' = false := by
  rcases ko_cases (A := A) a b with ⟨x, _⟩ | ⟨x, _⟩ | x
  · rw [stepB_lt x] at h1; cases h1
  · rw [stepB_lt x] at h2; cases h2
  · subst x
    rw [stepB_eq] at h1 h2
    exact ⟨rfl, h1, h2⟩
def prodO (A B : KeyOrd) : KeyOrd where
  α := A.α × B.α
  blt x y := stepB A x.1 y.1 (B.blt x.2 y.2)
  irrefl a := by rw [stepB_eq]; exact B.irrefl _
  trans a b c h1 h2 := stepB_trans (fun x y => B.trans _ _ _ x y) h1 h2
  negTrans a b c h := stepB_neg (fun x => B.negTrans _ b.2 _ x) h
  total a b h1 h2 := by
    obtain ⟨x, y, z⟩ := stepB_total h1 h2
    exact Prod.ext x (B.total _ _ y z)
def listB (A : KeyOrd) : List A.α → List A.α → Bool
  | [], [] => false
  | [], _ :: _ => true
  | _ :: _, [] => false
  | x :: xs, y :: ys => stepB A x y (listB A xs ys)
theorem listB_irr {A : KeyOrd} : ∀ xs : List A.α, listB A xs xs = false
  | [] => rfl
  | x :: xs => by unfold listB; rw [stepB_eq]; exact listB_irr xs
theorem listB_trans {A : KeyOrd} : ∀ xs ys zs : List A.α, listB A xs ys = true → listB A ys zs = true → listB A xs zs = true
  | [], [], _, h, _ => by cases h
  | [], _ :: _, [], _, h => by cases h
  | [], _ :: _, _ :: _, _, _ => rfl
  | _ :: _, [], _, h, _ => by cases h
  | _ :: _, _ :: _, [], _, h => by cases h
  | x :: xs, y :: ys, z :: zs, h1, h2 => stepB_trans (listB_trans xs ys zs) h1 h2
theorem listB_neg {A : KeyOrd} : ∀ xs ys zs : List A.α, listB A xs zs = true → listB A xs ys = true ∨ listB A ys zs = true
  | [], [], zs, h => .inr h
  | [], _ :: _, _, _ => .inl rfl
  | _ :: _, _, [], h => by cases h
  | _ :: _, [], _ :: _, _ => .inr rfl
  | x :: xs, y :: ys, z :: zs, h => stepB_neg (listB_neg xs ys zs) h
theorem listB_total {A : KeyOrd} : ∀ xs ys : List A.α, listB A xs ys = false → listB A ys xs = false → xs = ys
  | [], [], _, _ => rfl
  | [], _ :: _, h, _ => by cases h
  | _ :: _, [], _, h => by cases h
  | x :: xs, y :: ys, h1, h2 => by
    obtain ⟨a, b, c⟩ := stepB_total h1 h2
    rw [a, listB_total xs ys b c]
def listO (A : KeyOrd) : KeyOrd := ⟨List A.α, listB A, listB_irr, listB_trans, listB_neg, listB_total⟩
/-- a letter's key -/
def letO : KeyOrd := prodO strKind.toKeyOrd (prodO intO (prodO strKind.toKeyOrd (listO strKind.toKeyOrd)))
end L2

set_option Elab.async false
set_option linter.all false
set_option maxRecDepth 100000
set_option maxHeartbeats 4000000
namespace L2
open PySem PySem.Spec PyProof.Rows
/-! ### letters in their order -/
abbrev strO : KeyOrd := strKind.toKeyOrd
theorem str_cps {a b : Str} (h : a.cps.toList = b.cps.toList) : a = b := by
  cases a with
  | mk x =>
    cases b with
    | mk y => congr 1; exact Array.toList_inj.mp h
theorem step_str {n m : Str} {R : Bool} : (if eqV (.str n) (.str m) = true then R else ltV0 (.str n) (.str m)) = stepB strO n.cps.toList m.cps.toList R := by
  show (if (n == m) = true then R else decide (n.cps.toList < m.cps.toList)) = _
  by_cases e : n = m
  · subst e
    rw [if_pos (beq_self_eq_true n), stepB_eq]
  · rw [if_neg (by simpa using e)]
    rcases ko_cases (A := strO) n.cps.toList m.cps.toList with ⟨x, _⟩ | ⟨x, y⟩ | x
    · rw [stepB_lt x]; exact x
    · rw [stepB_gt x]; exact y
    · exact absurd (str_cps x) e
theorem step_int {n m : Int} {R : Bool} : (if eqV (.int n) (.int m) = true then R else ltV0 (.int n) (.int m)) = stepB intO n m R := by
  show (if (n == m) = true then R else decide (n < m)) = _
  by_cases e : n = m
  · subst e
    rw [if_pos (beq_self_eq_true n)]
    exact (stepB_eq (A := intO) (a := n)).symm
  · rw [if_neg (by simpa using e)]
    rcases ko_cases (A := intO) n m with ⟨x, _⟩ | ⟨x, y⟩ | x
    · rw [stepB_lt x]; exact x
    · rw [stepB_gt x]; exact y
    · exact absurd x e
theorem lex_strs {fin : Bool} : ∀ (rs qs : List Str), fin = decide (rs.length < qs.length) → lexW fin eqV ltV0 (rs.map V.str) (qs.map V.str) = listB strO (rs.map fun x => x.cps.toList) (qs.map fun x => x.cps.toList)
  | [], [], h => by rw [h]; rfl
  | [], _ :: _, h => by rw [h]; exact decide_eq_true (by simp)
  | _ :: _, [], h => by rw [h]; exact decide_eq_false (by simp)
  | r :: rs, q :: qs, h => by
    show (if eqV (.str r) (.str q) = true then lexW fin eqV ltV0 (rs.map V.str) (qs.map V.str) else ltV0 (.str r) (.str q)) = stepB strO r.cps.toList q.cps.toList (listB strO (rs.map fun x => x.cps.toList) (qs.map fun x => x.cps.toList))
    rw [step_str, lex_strs rs qs (by rw [h]; simp)]
theorem cps_inj : ∀ {rs qs : List Str}, rs.map (fun x => x.cps.toList) = qs.map (fun x => x.cps.toList) → rs = qs
  | [], [], _ => rfl
  | [], _ :: _, h => by cases h
  | _ :: _, [], h => by cases h
  | r :: rs, q :: qs, h => by
    rw [List.map_cons, List.map_cons] at h
    injection h with h1 h2
    rw [str_cps h1, cps_inj h2]
theorem eq_strs {H : Hp} {a b : Addr} {rs qs : List Str} (ha : H a = some (.tup (rs.map V.str))) (hb : H b = some (.tup (qs.map V.str))) : eqD H 1 (.ref a) (.ref b) = decide (rs = qs) := by
  unfold eqD
  rw [tupOf_at ha, tupOf_at hb]
  show ((List.range (min (rs.map V.str).length (qs.map V.str).length)).all (fun j => eqV ((rs.map V.str).getD j .non) ((qs.map V.str).getD j .non)) && (rs.map V.str).length == (qs.map V.str).length) = _
  rw [List.length_map, List.length_map]
  by_cases e : rs = qs
  · subst e
    rw [decide_eq_true rfl, beq_self_eq_true, Bool.and_true, Nat.min_self]
    refine List.all_eq_true.mpr fun j hj => ?_
    have hj := List.mem_range.mp hj
    have g : (rs.map V.str).getD j .non = .str rs[j] := by rw [List.getD_eq_getElem?_getD, List.getElem?_map, List.getElem?_eq_getElem hj]; rfl
    rw [g]
    exact beq_self_eq_true rs[j]
  · rw [decide_eq_false e]
    by_cases hl : rs.length = qs.length
    · rw [hl, beq_self_eq_true, Bool.and_true, Nat.min_self]
      cases hh : (List.range qs.length).all (fun j => eqV ((rs.map V.str).getD j .non) ((qs.map V.str).getD j .non)) with
      | false => rfl
      | true =>
        refine absurd (List.ext_getElem hl fun j h1 h2 => ?_) e
        have h := List.all_eq_true.mp hh j (List.mem_range.mpr h2)
        have g1 : (rs.map V.str).getD j .non = .str rs[j] := by rw [List.getD_eq_getElem?_getD, List.getElem?_map, List.getElem?_eq_getElem h1]; rfl
        have g2 : (qs.map V.str).getD j .non = .str qs[j] := by rw [List.getD_eq_getElem?_getD, List.getElem?_map, List.getElem?_eq_getElem h2]; rfl
        rw [g1, g2] at h
        exact eq_of_beq (show (rs[j] == qs[j]) = true from h)
    · rw [show (rs.length == qs.length) = false by simpa using hl, Bool.and_false]
/-- a letter's place in the order -/
def letK (n : Str) (d : Int) (h : Str) (rs : List Str) : letO.α := (n.cps.toList, d, h.cps.toList, rs.map fun x => x.cps.toList)
theorem letK_inj {n n' : Str} {d d' : Int} {h h' : Str} {rs rs' : List Str} (e : letK n d h rs = letK n' d' h' rs') : n = n' ∧ d = d' ∧ h = h' ∧ rs = rs' := by
  have e1 := congrArg Prod.fst e
  have e2 := congrArg (fun z => z.2.1) e
  have e3 := congrArg (fun z => z.2.2.1) e
  have e4 := congrArg (fun z => z.2.2.2) e
  exact ⟨str_cps e1, e2, str_cps e3, cps_inj e4⟩
structure LetAt (H : Hp) (v : V) (n : Str) (d : Int) (h : Str) (rs : List Str) : Prop where
  at' : ∃ a r, v = .ref a ∧ H a = some (.tup [.str n, .int d, .str h, .ref r]) ∧ H r = some (.tup (rs.map V.str))
theorem LetAt.lt {H : Hp} {v v' : V} {n n' : Str} {d d' : Int} {h h' : Str} {rs rs' : List Str} (x : LetAt H v n d h rs) (y : LetAt H v' n' d' h' rs') :
    ltD H 2 v v' = letO.blt (letK n d h rs) (letK n' d' h' rs') := by
  obtain ⟨a, r, rfl, ha, hr⟩ := x.at'
  obtain ⟨b, q, rfl, hb, hq⟩ := y.at'
  have e : ltD H 2 (.ref a) (.ref b) = lexW (decide (4 < 4)) (eqD H 1) (ltD H 1) [.str n, .int d, .str h, .ref r] [.str n', .int d', .str h', .ref q] := by
    conv => lhs; unfold ltD
    rw [tupOf_at ha, tupOf_at hb]
    rfl
  rw [e]
  have er : ltD H 1 (.ref r) (.ref q) = listB strO (rs.map fun x => x.cps.toList) (rs'.map fun x => x.cps.toList) := by
    unfold ltD
    rw [tupOf_at hr, tupOf_at hq]
    show lexW (decide ((rs.map V.str).length < (rs'.map V.str).length)) eqV ltV0 (rs.map V.str) (rs'.map V.str) = _
    exact lex_strs rs rs' (by rw [List.length_map, List.length_map])
  show (if eqV (.str n) (.str n') = true then (if eqV (.int d) (.int d') = true then (if eqV (.str h) (.str h') = true then (if eqD H 1 (.ref r) (.ref q) = true then decide (4 < 4) else ltD H 1 (.ref r) (.ref q)) else ltV0 (.str h) (.str h')) else ltV0 (.int d) (.int d')) else ltV0 (.str n) (.str n')) =
    stepB strO n.cps.toList n'.cps.toList (stepB intO d d' (stepB strO h.cps.toList h'.cps.toList (listB strO (rs.map fun x => x.cps.toList) (rs'.map fun x => x.cps.toList))))
  rw [step_str, step_int, step_str]
  congr 3
  rw [eq_strs hr hq, er]
  by_cases e : rs = rs'
  · subst e
    rw [decide_eq_true rfl, if_pos rfl, listB_irr]
    rfl
  · rw [decide_eq_false e, if_neg Bool.false_ne_true]
theorem LetAt.eq {H : Hp} {v v' : V} {n n' : Str} {d d' : Int} {h h' : Str} {rs rs' : List Str} (x : LetAt H v n d h rs) (y : LetAt H v' n' d' h' rs') (hk : eqD H 2 v v' = false) :
    letK n d h rs ≠ letK n' d' h' rs' := by
  intro e
  obtain ⟨rfl, rfl, rfl, rfl⟩ := letK_inj e
  obtain ⟨a, r, rfl, ha, hr⟩ := x.at'
  obtain ⟨b, q, rfl, hb, hq⟩ := y.at'
  unfold eqD at hk
  rw [tupOf_at ha, tupOf_at hb] at hk
  have h2 : ((eqD H 1 (.str n) (.str n) && (eqD H 1 (.int d) (.int d) && (eqD H 1 (.str h) (.str h) && (eqD H 1 (.ref r) (.ref q) && true)))) && (4 == 4)) = false := hk
  have e1 : eqD H 1 (.str n) (.str n) = true := beq_self_eq_true n
  have e2 : eqD H 1 (.int d) (.int d) = true := beq_self_eq_true d
  have e3 : eqD H 1 (.str h) (.str h) = true := beq_self_eq_true h
  rw [e1, e2, e3, eq_strs hr hq, decide_eq_true rfl] at h2
  cases h2
section
variable {X : Cx} {pins : List (Addr × Obj)} {σ : St} {H : Hp} {s : Shared} {k : Nat}
def vOf : Value → V
  | .str x _ => .str x
  | .int i _ => .int i
  | .ref a => .ref a
  | _ => .non
theorem vOf_eq {x y : V} {v : Value} (h : CmpE H 2 x y) (r : RelV x v) : vOf v = x := by
  rcases h with h | ⟨a, b, xs, ys, rfl, _⟩
  · rcases h with ⟨i, j, rfl, _⟩ | ⟨i, j, rfl, _⟩
    · obtain ⟨t, rfl⟩ := r; rfl
    · obtain ⟨t, rfl⟩ := r; rfl
  · cases r; rfl
theorem any_vOf {x : V} : ∀ {ys : List V} {vs : List Value}, Vals ys vs → (∀ z ∈ ys, CmpE H 2 z x) → vs.any (fun z => eqD H 2 (vOf z) x) = ys.any (fun z => eqD H 2 z x)
  | [], _, .nil, _ => rfl
  | y :: ys, _, .cons r rr, h => by
    rw [List.any_cons, List.any_cons, vOf_eq (h y List.mem_cons_self) r, any_vOf rr fun z hz => h z (List.mem_cons_of_mem _ hz)]
/-- x not in a list, exactly -/
def rInE (K : PySem.W.Frag) : R2 := fun x y H Q => ∃ p ys, y = .ref p ∧ SqL K H p ys ∧ (∀ z ∈ ys, CmpE H 2 z x) ∧ Q (.bl (!ys.any fun z => eqD H 2 z x)) H
theorem notInE (K : PySem.W.Frag) (hr : Room k X.A) (hK : X.K = K := by rfl) : OpR X (compareOp .NotIn) (rInE K) := by
  subst hK
  intro pins s σ H x y v u Q I rx ry h
  obtain ⟨p, ys, rfl, hq, hc, q⟩ := h
  cases ry
  obtain ⟨its, r, pl, _⟩ := I.list hq
  have ok : ∀ z ∈ its, ∃ y ∈ ys, RelV y z ∧ vOf z = y := fun z hz => by
    obtain ⟨j, hj⟩ := List.mem_iff_getElem?.mp hz
    obtain ⟨y, ey, ry⟩ := r.get' hj
    exact ⟨y, List.mem_of_getElem? ey, ry, vOf_eq (hc y (List.mem_of_getElem? ey)) ry⟩
  refine SeqAt.notIn_listAt (fun z => eqD H 2 (vOf z) x) pl.isList (fun z hz => ?_) ?_
  · obtain ⟨y, hy, ry, e⟩ := ok z (by simpa using hz)
    rw [e]
    exact (CmpE.asks I 2 X.A.in1 (by have := hr.un; show X.A.units + 1 + 2 < _; omega) (hc y hy) ry rx).1
  · rw [show its.toArray.any (fun z => eqD H 2 (vOf z) x) = ys.any (fun z => eqD H 2 z x) from by rw [List.any_toArray]; exact any_vOf r hc]
    exact ⟨.bl _, H, I, rfl, q⟩
/-- t != () -/
def rNeNil (K : PySem.W.Frag) : R2 := fun x y H Q => ∃ a b xs, x = .ref a ∧ y = .ref b ∧ SqT K H a xs ∧ SqT K H b [] ∧ Q (.bl (!xs.isEmpty)) H
theorem neNilT (K : PySem.W.Frag) (hr : Room k X.A) (hK : X.K = K := by rfl) : OpR X (compareOp .NotEq) (rNeNil K) := by
  subst hK
  intro pins s σ H x y v u Q I rx ry h
  obtain ⟨a, b, xs, rfl, rfl, ha, hb, q⟩ := h
  cases rx
  cases ry
  obtain ⟨us, q1, p1, _⟩ := I.tuple ha
  obtain ⟨vs, q2, p2, _⟩ := I.tuple hb
  cases q2
  refine SeqAt.RcNeAt.tuples (e := fun _ => true) p1 p2 (by have := hr.un; omega) (fun j h1 h2 => absurd h2 (by simp)) _ _ _ _ ?_
  have e : (!((List.range (min us.toArray.size (List.toArray ([] : List Value)).size)).all (fun _ => true) && us.toArray.size == (List.toArray ([] : List Value)).size)) = !xs.isEmpty := by
    cases q1 <;> simp
  rw [e]
  exact fin_bl I q rfl
end
/-- a letter's key, read off the heap -/
def kvL (H : Hp) (v : V) : letO.α := match tupOf H v with
  | some [.str n, .int d, .str h, .ref r] => (n.cps.toList, d, h.cps.toList, ((tupOf H (.ref r)).getD []).map fun z => match z with | .str x => x.cps.toList | _ => [])
  | _ => ([], (0 : Int), [], [])
theorem LetAt.key {H : Hp} {v : V} {n : Str} {d : Int} {h : Str} {rs : List Str} (x : LetAt H v n d h rs) : kvL H v = letK n d h rs := by
  obtain ⟨a, r, rfl, ha, hr⟩ := x.at'
  unfold kvL letK
  rw [tupOf_at ha]
  dsimp only
  rw [tupOf_at hr]
  show (_, _, _, ((rs.map V.str).map _)) = _
  rw [List.map_map]
  rfl
end L2

set_option Elab.async false
set_option linter.all false
set_option maxRecDepth 100000
namespace My
open PySem L2
set_option linter.all false
set_option maxHeartbeats 4000000
local macro_rules | `(tactic| walk_at "vc0") => `(tactic| simp only [tPar, tAsg, tOp, tUn, tC, tVar, rI, rI0, rU, tCB, tCons, tNil, tRet, tLst, tTup, gName, tIfS, tTest, tNext, tBreak, tCont, tDrop, tCall, tIf, tNot, tAnd, tOr, tB, tAndV, tOrV, tNotV, tChain, tSl, tPart, tNoPart, tBM, tBM0, rIxL, rIxT, rIxS, rSlT, rSlL, rIn, rCat, rEqL, rLenL, rLenT, rAll, rAny, rMaxL, rIsi, rTupL, rListL, rEq, rNe, rJoin, rJoinT, rSlW, rCatW, rMulS, rRep1, rNeL, rPopAt, tBack, tDNewK, tDisp, tPairs, tNever, rAppend, rSetL, gSub, gTup, gCons, gNil, tyV, L2.start, cxOf_K, cxComp_K, gt_iff_lt, ge_iff_le, List.map_cons, List.map_nil, List.cons_append, List.nil_append, List.length_cons, List.length_nil, List.replicate, List.getElem?_cons_zero, List.getElem?_cons_succ, List.set_cons_zero, List.set_cons_succ, Option.some.injEq, V.int.injEq, V.str.injEq, V.bl.injEq, V.ref.injEq, V.ty.injEq, List.cons.injEq, and_true, true_and, exists_eq_left, exists_eq_left', exists_eq_right, exists_and_left, exists_and_right, exists_eq_or_imp, exists_const, Nat.reduceAdd, Nat.reduceSub, ite_true, ite_false, Bool.false_eq_true, if_true, if_false, and_assoc, Bool.not_true, Bool.not_false, Bool.true_and, Bool.false_and, decide_true, decide_false, reduceCtorEq, false_and, exists_false, or_false, false_or, rLtD, rEqNil, rSortE, rInE, rNeNil, tTrue])
local macro_rules | `(tactic| walk_at "vc1") => `(tactic| simp only [tPar, tAsg, tOp, tUn, tC, tVar, rI, rI0, rU, tCB, tCons, tNil, tRet, tLst, tTup, gName, tIfS, tTest, tNext, tBreak, tCont, tDrop, tCall, tIf, tNot, tAnd, tOr, tB, tAndV, tOrV, tNotV, tChain, tSl, tPart, tNoPart, tBM, tBM0, rIxL, rIxT, rIxS, rSlT, rSlL, rIn, rCat, rEqL, rLenL, rLenT, rAll, rAny, rMaxL, rIsi, rTupL, rListL, rEq, rNe, rJoin, rJoinT, rSlW, rCatW, rMulS, rRep1, rNeL, rPopAt, tBack, tDNewK, tDisp, tPairs, tNever, rAppend, rSetL, gSub, gTup, gCons, gNil, tyV, L2.start, cxOf_K, cxComp_K, gt_iff_lt, ge_iff_le, List.map_cons, List.map_nil, List.cons_append, List.nil_append, List.length_cons, List.length_nil, List.replicate, List.getElem?_cons_zero, List.getElem?_cons_succ, List.set_cons_zero, List.set_cons_succ, Option.some.injEq, V.int.injEq, V.str.injEq, V.bl.injEq, V.ref.injEq, V.ty.injEq, List.cons.injEq, and_true, true_and, exists_eq_left, exists_eq_left', exists_eq_right, exists_and_left, exists_and_right, exists_eq_or_imp, exists_const, Nat.reduceAdd, Nat.reduceSub, ite_true, ite_false, Bool.false_eq_true, if_true, if_false, and_assoc, Bool.not_true, Bool.not_false, Bool.true_and, Bool.false_and, decide_true, decide_false, reduceCtorEq, false_and, exists_false, or_false, false_or, rLtD, rEqNil, rSortE, rInE, rNeNil])
local macro_rules | `(tactic| walk_at "vc2") => `(tactic| simp only [tPar, tAsg, tOp, tUn, tC, tVar, rI, rI0, rU, tCB, tCons, tNil, tRet, tLst, tTup, gName, tIfS, tTest, tNext, tBreak, tCont, tDrop, tCall, tIf, tNot, tAnd, tOr, tB, tAndV, tOrV, tNotV, tChain, tSl, tPart, tNoPart, tBM0, rIxL, rIxT, rIxS, rSlT, rSlL, rIn, rCat, rEqL, rLenL, rLenT, rAll, rAny, rMaxL, rIsi, rTupL, rListL, rEq, rNe, rJoin, rJoinT, rSlW, rCatW, rMulS, rRep1, rNeL, rPopAt, tBack, tDNewK, tDisp, tPairs, tNever, rAppend, rSetL, gSub, gTup, gCons, gNil, tyV, L2.start, cxOf_K, cxComp_K, gt_iff_lt, ge_iff_le, List.map_cons, List.map_nil, List.cons_append, List.nil_append, List.length_cons, List.length_nil, List.replicate, List.getElem?_cons_zero, List.getElem?_cons_succ, List.set_cons_zero, List.set_cons_succ, Option.some.injEq, V.int.injEq, V.str.injEq, V.bl.injEq, V.ref.injEq, V.ty.injEq, List.cons.injEq, and_true, true_and, exists_eq_left, exists_eq_left', exists_eq_right, exists_and_left, exists_and_right, exists_eq_or_imp, exists_const, Nat.reduceAdd, Nat.reduceSub, ite_true, ite_false, Bool.false_eq_true, if_true, if_false, and_assoc, Bool.not_true, Bool.not_false, Bool.true_and, Bool.false_and, decide_true, decide_false, reduceCtorEq, false_and, exists_false, or_false, false_or, rLtD, rEqNil, rSortE, rInE, rNeNil])
def top (i : Nat) : Stmt := PySem.Challenge.pw_answertrees_k04_packs.main.body.getD i (.Pass ⟨0, 0, 0, 0⟩)
abbrev s_is_name : Stmt := top 6
abbrev s_is_whole : Stmt := top 7
abbrev s_is_day : Stmt := top 8
abbrev s_is_head : Stmt := top 9
abbrev s_is_row : Stmt := top 10
abbrev s_is_letter : Stmt := top 11
abbrev s_rises : Stmt := top 12
abbrev s_is_pack : Stmt := top 13
abbrev s_law_pot : Stmt := top 15
abbrev s_law_take : Stmt := top 16
abbrev s_law_signs : Stmt := top 17
abbrev s_law_name : Stmt := top 18
abbrev s_law_day : Stmt := top 19
abbrev s_law_letter : Stmt := top 20
abbrev s_law_near : Stmt := top 21
abbrev s_law_pack : Stmt := top 22
abbrev s_law_is_name : Stmt := top 23
abbrev s_law_is_letter : Stmt := top 24
abbrev s_law_is_pack : Stmt := top 25
abbrev s_law_letter_spoilt : Stmt := top 26
abbrev s_law_spoilt : Stmt := top 27
abbrev s_law_alike : Stmt := top 28
abbrev s_law : Stmt := top 29
structure Txt (K : PySem.W.Frag) (mg : Str → Option Value) (fs : Nat → Addr) (fds : Nat → FuncData) (tc : Nat → Addr) (u : Nat → Value) : Prop where
  d_is_name : Def K mg "is_name" s_is_name ["thing"] (fs 0) (fds 0)
  d_is_whole : Def K mg "is_whole" s_is_whole ["thing"] (fs 1) (fds 1)
  d_is_day : Def K mg "is_day" s_is_day ["thing"] (fs 2) (fds 2)
  d_is_head : Def K mg "is_head" s_is_head ["thing"] (fs 3) (fds 3)
  d_is_row : Def K mg "is_row" s_is_row ["thing"] (fs 4) (fds 4)
  d_is_letter : Def K mg "is_letter" s_is_letter ["thing"] (fs 5) (fds 5)
  d_rises : Def K mg "rises" s_rises ["things"] (fs 6) (fds 6)
  d_is_pack : Def K mg "is_pack" s_is_pack ["thing"] (fs 7) (fds 7)
  d_law_pot : Def K mg "_law_pot" s_law_pot ["_law_script", "_law_k"] (fs 8) (fds 8)
  d_law_take : Def K mg "_law_take" s_law_take ["_law_pot_here", "_law_many"] (fs 9) (fds 9)
  d_law_signs : Def K mg "_law_signs" s_law_signs [] (fs 10) (fds 10)
  d_law_name : Def K mg "_law_name" s_law_name ["_law_pot_here"] (fs 11) (fds 11)
  d_law_day : Def K mg "_law_day" s_law_day ["_law_pot_here"] (fs 12) (fds 12)
  d_law_letter : Def K mg "_law_letter" s_law_letter ["_law_pot_here"] (fs 13) (fds 13)
  d_law_near : Def K mg "_law_near" s_law_near ["_law_pot_here", "_law_elder"] (fs 14) (fds 14)
  d_law_pack : Def K mg "_law_pack" s_law_pack ["_law_pot_here", "_law_most"] (fs 15) (fds 15)
  d_law_is_name : Def K mg "_law_is_name" s_law_is_name ["_law_thing"] (fs 16) (fds 16)
  d_law_is_letter : Def K mg "_law_is_letter" s_law_is_letter ["_law_thing"] (fs 17) (fds 17)
  d_law_is_pack : Def K mg "_law_is_pack" s_law_is_pack ["_law_thing"] (fs 18) (fds 18)
  d_law_letter_spoilt : Def K mg "_law_letter_spoilt" s_law_letter_spoilt ["_law_pot_here", "_law_letter_here"] (fs 19) (fds 19)
  d_law_spoilt : Def K mg "_law_spoilt" s_law_spoilt ["_law_pot_here", "_law_choice", "_law_pack_here"] (fs 20) (fds 20)
  d_law_alike : Def K mg "_law_alike" s_law_alike ["_law_found", "_law_due"] (fs 21) (fds 21)
  d_law : Def K mg "law" s_law ["_law_script"] (fs 22) (fds 22)
  z_len : mg "len" = none
  z_isinstance : mg "isinstance" = none
  z_str : mg "str" = none
  z_all : mg "all" = none
  z_bool : mg "bool" = none
  z_int : mg "int" = none
  z_range : mg "range" = none
  z_abs : mg "abs" = none
  z_tuple : mg "tuple" = none
  z_list : mg "list" = none
  z_sorted : mg "sorted" = none
  z_max : mg "max" = none
  z_min : mg "min" = none
  c_NAME_SIGNS : mg "NAME_SIGNS" = some (u 0)
  r_NAME_SIGNS : RelV (.str "abcdefghijklmnopqrstuvwxyz0123456789") (u 0)
  c_LONGEST_NAME : mg "LONGEST_NAME" = some (u 1)
  r_LONGEST_NAME : RelV (.int 12) (u 1)
  c_LAST_DAY : mg "LAST_DAY" = some (u 2)
  r_LAST_DAY : RelV (.int 99999999) (u 2)
  c_LONGEST_HEAD : mg "LONGEST_HEAD" = some (u 3)
  r_LONGEST_HEAD : RelV (.int 60) (u 3)
  c_LONGEST_ROW : mg "LONGEST_ROW" = some (u 4)
  r_LONGEST_ROW : RelV (.int 9) (u 4)
abbrev ABC : Str := Str.ofString "abcdefghijklmnopqrstuvwxyz0123456789"
def inS (c : Nat) : Bool := !(Builtin.Str.occurrences ABC ⟨#[c]⟩ 0 ABC.length 1).isEmpty
def nameB (x : Str) : Bool := decide (1 ≤ (x.length : Int)) && decide ((x.length : Int) ≤ 12) && x.cps.toList.all inS
def nameV : V → Bool
  | .str x => nameB x
  | _ => false
theorem nameV_no {v : V} (h : ∀ x, v ≠ .str x) : nameV v = false := by
  cases v <;> first | rfl | exact absurd rfl (h _)
def spNameV : Sp := fun vs H Q _ => ∃ v k, vs = [v] ∧ Tg H v k ∧ ∀ H', Same H H' → Q (.bl (nameV v)) H'
def dayV : V → Bool
  | .int i => decide (0 ≤ i) && decide (i ≤ 99999999)
  | _ => false
def spWhole : Sp := fun vs H Q _ => ∃ v k, vs = [v] ∧ Tg H v k ∧ Q (.bl (decide (k = .int))) H
def spDayV : Sp := fun vs H Q _ => ∃ v k, vs = [v] ∧ Tg H v k ∧ Q (.bl (dayV v)) H
theorem dayV_no {H : Hp} {v : V} {k : Kd} (h : IsK H v k) (n : k ≠ .int) : dayV v = false := by
  cases k with
  | non => cases (show v = .non from h); rfl
  | bl => obtain ⟨_, rfl⟩ := h; rfl
  | int => exact absurd rfl n
  | str => obtain ⟨_, rfl⟩ := h; rfl
  | lst => obtain ⟨_, _, rfl, _⟩ := h; rfl
  | tup => obtain ⟨_, _, rfl, _⟩ := h; rfl
  | dct => obtain ⟨_, _, rfl, _⟩ := h; rfl
def okC (c : Nat) : Bool := (!decide ((⟨#[c]⟩ : Str).cps.toList < (Str.ofString " ").cps.toList)) && (!decide ((Str.ofString "~").cps.toList < (⟨#[c]⟩ : Str).cps.toList))
def headV : V → Bool
  | .str x => !decide (60 < (x.length : Int)) && x.cps.toList.all okC
  | _ => false
theorem headV_no {v : V} (h : ∀ x, v ≠ .str x) : headV v = false := by
  cases v <;> first | rfl | exact absurd rfl (h _)
def spHeadV : Sp := fun vs H Q _ => ∃ v k, vs = [v] ∧ Tg H v k ∧ ∀ H', Same H H' → Q (.bl (headV v)) H'
theorem all_ok (z : Str) : List.all (List.map (fun c => okC c) z.cps.toList) id = z.cps.toList.all okC := by
  rw [List.all_map]; rfl
def spTakeB : Sp := fun vs H Q _ => ∃ (p : Addr) (n : Int), vs = [.ref p, .int n] ∧ Pot H p ∧ 0 < n ∧ n ≤ 10 ^ 30 ∧ ∀ d H', 0 ≤ d → d < n → Pot H' p → But p H H' → Q (.int d) H'
def HeadOk (v : V) : Prop := ∀ x, v = .str x → ∀ c ∈ x.cps.toList, c = 10 ∨ (32 ≤ c ∧ c ≤ 126)
def okL (c : Nat) : Bool := okC c == !(c == 10)
theorem okL_all : ∀ c, c < 127 → (c = 10 ∨ 32 ≤ c) → okL c = true := by decide +kernel
def nlIn (x : Str) : Bool := !(Builtin.Str.occurrences x (Str.ofString "\n") 0 x.length 1).isEmpty
theorem nlIn_eq (x : Str) : nlIn x = x.cps.toList.contains 10 := by
  unfold nlIn
  have e : Str.ofString "\n" = ⟨#[10]⟩ := Str.ext' (by decide +kernel)
  rw [e, StrLaws.found_one, List.contains_eq_mem]
theorem head_nl {x : Str} (hO : HeadOk (.str x)) (h60 : ¬ 60 < (x.length : Int)) : headV (.str x) = !nlIn x := by
  show (!decide (60 < (x.length : Int)) && x.cps.toList.all okC) = !nlIn x
  rw [decide_eq_false h60, Bool.not_false, Bool.true_and]
  have e1 : nlIn x = x.cps.toList.contains 10 := nlIn_eq x
  rw [e1]
  have hO := hO x rfl
  generalize x.cps.toList = l at hO
  induction l with
  | nil => rfl
  | cons c l ih =>
    rw [List.all_cons, ih (fun d hd => hO d (List.mem_cons_of_mem _ hd)), List.contains_cons]
    have hc := hO c List.mem_cons_self
    have hk : okL c = true := okL_all c (by omega) (by omega)
    unfold okL at hk
    rw [eq_of_beq hk, Bool.not_or]
    congr 1
    by_cases e : c = 10
    · subst e; rfl
    · rw [beq_eq_false_iff_ne.mpr e, beq_eq_false_iff_ne.mpr (Ne.symm e)]
theorem all_name (z : Str) : List.all (List.map (fun c => inS c) z.cps.toList) id = z.cps.toList.all inS := by
  rw [List.all_map]; rfl
theorem eqLV_nil (xs : List V) : eqLV xs [] = xs.isEmpty := by cases xs <;> rfl
theorem none_out (z : Str) (p : V → Bool) (hp : ∀ c, p (.str ⟨#[c]⟩) = !inS c) : (((z.cps.toList.map fun c => V.str ⟨#[c]⟩).filter p).map id).isEmpty = z.cps.toList.all inS := by
  induction z.cps.toList with
  | nil => rfl
  | cons c l ih =>
    rw [List.map_cons, List.filter_cons, hp, List.all_cons]
    cases e : inS c with
    | true => exact ih
    | false => rfl
theorem none_outV : ∀ rs : List V, ((rs.filter fun v => !nameV v).map id).isEmpty = rs.all nameV
  | [] => rfl
  | v :: rs => by
    rw [List.filter_cons, List.all_cons]
    cases e : nameV v with
    | true => exact none_outV rs
    | false => rfl
theorem notnot {A B : Prop} (h : A) : if (!false) = true then A else B := by rw [if_pos (show (!false) = true from rfl)]; exact h
theorem notyes {A B : Prop} (h : B) : if (!true) = true then A else B := by rw [if_neg (show ¬ (!true) = true from Bool.false_ne_true)]; exact h

theorem strs_backP {P : Str → Prop} : ∀ {ys : List V}, (∀ y ∈ ys, ∃ x : Str, y = .str x ∧ P x) → ∃ zs : List Str, ys = zs.map V.str ∧ (∀ z ∈ zs, P z)
  | [], _ => ⟨[], rfl, fun _ h => nomatch h⟩
  | y :: ys, h => by
    obtain ⟨zs, e, hz⟩ := strs_backP (ys := ys) fun z hz => h z (List.mem_cons_of_mem _ hz)
    obtain ⟨x, rfl, hx⟩ := h y List.mem_cons_self
    refine ⟨x :: zs, by rw [e]; rfl, fun z hm => ?_⟩
    rcases List.mem_cons.mp hm with r | r
    · rw [r]; exact hx
    · exact hz z r

def OkT (x : Str) : Prop := ∀ c ∈ x.cps.toList, c = 10 ∨ (32 ≤ c ∧ c ≤ 126)
theorem OkT.app {x y : Str} (hx : OkT x) (hy : OkT y) : OkT (x ++ y) := fun c hc => by
  rw [Str.cps_append, Array.toList_append] at hc
  rcases List.mem_append.mp hc with z | z
  · exact hx c z
  · exact hy c z
theorem slice_mem {x : Str} {lo hi : Option Int} {c : Nat} (hc : c ∈ (Txt.slice x lo hi).cps.toList) : c ∈ x.cps.toList := by
  unfold Txt.slice at hc
  split at hc
  · exact hc
  · simp only [List.mem_filterMap] at hc
    obtain ⟨i, _, hi⟩ := hc
    exact List.mem_of_getElem? (i := i) (by simpa using hi)
theorem OkT.slice {x : Str} {lo hi : Option Int} (h : OkT x) : OkT (Txt.slice x lo hi) := fun c hc => h c (slice_mem hc)
theorem OkT.one {c : Nat} (h : c = 10 ∨ (32 ≤ c ∧ c ≤ 126)) : OkT ⟨#[c]⟩ := fun d hd => by
  have : d = c := by simpa using hd
  rw [this]; exact h
theorem join0 (ys : List Str) : Txt.join (Str.ofString "") ys = Str.join (Str.ofString "") ys := StrLaws.glued_eq_join _ ys
theorem join0_codes : ∀ ys : List Str, (Str.join (Str.ofString "") ys).cps.toList = (ys.map fun y => y.cps.toList).flatten
  | [] => rfl
  | [x] => by show x.cps.toList = _; simp
  | x :: y :: r => by
    have ih := join0_codes (y :: r)
    show (x ++ Str.ofString "" ++ Str.join (Str.ofString "") (y :: r)).cps.toList = _
    have e : (Str.ofString "").cps.toList = [] := by decide +kernel
    rw [Str.cps_append, Str.cps_append, Array.toList_append, Array.toList_append, ih, e]
    simp
theorem join0_mem {ys : List Str} {c : Nat} (h : c ∈ (Txt.join (Str.ofString "") ys).cps.toList) : ∃ y ∈ ys, c ∈ y.cps.toList := by
  rw [join0, join0_codes] at h
  simp only [List.mem_flatten, List.mem_map] at h
  obtain ⟨l, ⟨y, hy, rfl⟩, hc⟩ := h
  exact ⟨y, hy, hc⟩
theorem join0_len {ys : List Str} (h : ∀ y ∈ ys, y.length = 1) : (Txt.join (Str.ofString "") ys).length = ys.length := by
  rw [← len_cps, join0, join0_codes]
  induction ys with
  | nil => rfl
  | cons y ys ih =>
    rw [List.map_cons, List.flatten_cons, List.length_append, ih fun z hz => h z (List.mem_cons_of_mem _ hz), len_cps, h y List.mem_cons_self, List.length_cons]
    omega
theorem cut_mem {xs : List V} {lo hi : Option Int} {x : V} (h : x ∈ cutV xs lo hi) : x ∈ xs := List.mem_of_mem_drop (List.mem_of_mem_take h)
theorem cut_strs {rs : List Str} {lo hi : Option Int} : ∃ qs : List Str, cutV (rs.map V.str) lo hi = qs.map V.str ∧ (∀ q ∈ qs, q ∈ rs) ∧ qs.length ≤ rs.length := by
  refine ⟨(rs.drop (HT.sIx rs.length 0 lo)).take (HT.sIx rs.length rs.length hi - HT.sIx rs.length 0 lo), ?_, fun q hq => List.mem_of_mem_drop (List.mem_of_mem_take hq), ?_⟩
  · unfold cutV; rw [List.length_map, List.map_take, List.map_drop]
  · rw [List.length_take, List.length_drop]; omega
structure Lt (H : Hp) (a r : Addr) (n : Str) (d : Int) (h : Str) (rs : List Str) : Prop where
  at' : H a = some (.tup [.str n, .int d, .str h, .ref r])
  row : H r = some (.tup (rs.map V.str))
  nm : nameB n = true
  d0 : 0 ≤ d
  d1 : d ≤ 99999999
  ok : OkT h
  hv : headV (.str h) = true
  hl : h.length ≤ 60
  rl : rs.length ≤ 9
  rn : ∀ x ∈ rs, nameB x = true
theorem Lt.but {H H' : Hp} {p a r : Addr} {n : Str} {d : Int} {h : Str} {rs : List Str} (L : Lt H a r n d h rs) (hp : Pot H p) (b : But p H H') : Lt H' a r n d h rs :=
  ⟨b _ _ L.at' (Pot.neT hp L.at'), b _ _ L.row (Pot.neT hp L.row), L.nm, L.d0, L.d1, L.ok, L.hv, L.hl, L.rl, L.rn⟩
theorem Lt.same {H H' : Hp} {a r : Addr} {n : Str} {d : Int} {h : Str} {rs : List Str} (L : Lt H a r n d h rs) (b : Same H H') : Lt H' a r n d h rs :=
  ⟨b _ _ L.at', b _ _ L.row, L.nm, L.d0, L.d1, L.ok, L.hv, L.hl, L.rl, L.rn⟩
theorem nameB_len {x : Str} (h : nameB x = true) : 1 ≤ x.length ∧ x.length ≤ 12 := by
  unfold nameB at h
  rw [Bool.and_eq_true, Bool.and_eq_true] at h
  have h1 := of_decide_eq_true h.1.1
  have h2 := of_decide_eq_true h.1.2
  omega
theorem inS_lt {c : Nat} (h : inS c = true) : c = 10 ∨ (32 ≤ c ∧ c ≤ 126) := by
  unfold inS at h
  rw [StrLaws.found_one] at h
  have hm : c ∈ ABC.cps.toList := by simpa using h
  have key : ABC.cps.toList.all (fun c => decide (c = 10 ∨ (32 ≤ c ∧ c ≤ 126))) = true := by decide +kernel
  exact of_decide_eq_true (List.all_eq_true.mp key c hm)
theorem abc_in {c : Nat} (h : c ∈ ABC.cps.toList) : inS c = true := by
  unfold inS
  rw [StrLaws.found_one]
  simpa using h
theorem nameB_ok {x : Str} (h : nameB x = true) : OkT x := by
  unfold nameB at h
  rw [Bool.and_eq_true] at h
  exact fun c hc => inS_lt (List.all_eq_true.mp h.2 c hc)
theorem nameB_of {x : Str} (h1 : 1 ≤ x.length) (h2 : x.length ≤ 12) (h : ∀ c ∈ x.cps.toList, c ∈ ABC.cps.toList) : nameB x = true := by
  unfold nameB
  rw [decide_eq_true (by omega), decide_eq_true (by omega)]
  exact List.all_eq_true.mpr fun c hc => abc_in (h c hc)
theorem okC_all : ∀ c, c < 127 → 32 ≤ c → okC c = true := by decide +kernel
theorem signs94 : ∀ (i : Nat) c, i < 94 → (Str.ofString " !\"#$&'()*+,-./0123456789:;<=>?@ABCDEFGHIJKLMNOPQRSTUVWXYZ[\\]^_`" ++ Str.ofString "abcdefghijklmnopqrstuvwxyz{|}~\n").cps.toList[i]? = some c → 32 ≤ c ∧ c ≤ 126 := by
  intro i c hi e
  have key : ((Str.ofString " !\"#$&'()*+,-./0123456789:;<=>?@ABCDEFGHIJKLMNOPQRSTUVWXYZ[\\]^_`" ++ Str.ofString "abcdefghijklmnopqrstuvwxyz{|}~\n").cps.toList.take 94).all (fun c => decide (32 ≤ c ∧ c ≤ 126)) = true := by decide +kernel
  exact of_decide_eq_true (List.all_eq_true.mp key c (List.mem_of_getElem? (i := i) (by rw [List.getElem?_take, if_pos hi]; exact e)))
theorem ixN_in {n : Nat} {k : Int} (h0 : 0 ≤ k) (h1 : k < n) : ixN n k = some k.toNat := by
  unfold ixN
  split <;> first | rfl | omega | skip
def spSigns2 : Sp := fun vs H Q _ => vs = [] ∧ ∀ z : Str, z.length = 95 → OkT z → (∀ (i : Nat) c, i < 94 → z.cps.toList[i]? = some c → 32 ≤ c ∧ c ≤ 126) → Q (.str z) H
def spNm : Sp := fun vs H Q _ => ∃ p : Addr, vs = [.ref p] ∧ Pot H p ∧ ∀ (x : Str) H', nameB x = true → Pot H' p → But p H H' → Q (.str x) H'
def spDayD : Sp := fun vs H Q _ => ∃ p : Addr, vs = [.ref p] ∧ Pot H p ∧ ∀ (d : Int) H', 0 ≤ d → d ≤ 99999999 → Pot H' p → But p H H' → Q (.int d) H'
def spDayB : Sp := fun vs H Q _ => ∃ p : Addr, vs = [.ref p] ∧ Pot H p ∧ ∀ (d : Int) H', Pot H' p → But p H H' → Q (.int d) H'
def spHeadD : Sp := fun vs H Q _ => ∃ p : Addr, vs = [.ref p] ∧ Pot H p ∧ ∀ (x : Str) H', OkT x → headV (.str x) = true → x.length ≤ 60 → Pot H' p → But p H H' → Q (.str x) H'
def spLetter : Sp := fun vs H Q _ => ∃ p : Addr, vs = [.ref p] ∧ Pot H p ∧ ∀ a r n d h rs H', Lt H' a r n d h rs → Pot H' p → But p H H' → Q (.ref a) H'
def spAlike : Sp := fun vs H Q _ => ∃ a b : Bool, vs = [.bl a, .bl b] ∧ Q (.bl (decide (a = b))) H
theorem draw_G {p : Addr} {H : Hp} {l : Addr} {Z : Str} {m : Int} {k : Nat} {cap : List Nat} {σ : St} {QQ : VK} {te : TE} (n : Nat) (hσ : capSt k cap σ = [none, some (.str Z), some (.ref p)]) (hp : Pot H p) (hl : H l = none) (hn : n ≤ 1000) (hm : 0 < m) (hmZ : m ≤ Z.length) (hZ : Z.length ≤ 1000)
    (hte : ∀ o (H4 : Hp) (N : VK), (tOp rIxS (tVar 1) (tCall spTakeB [] E0 (tCons (tVar 2) (tCons (tC (V.int m)) tNil)))) [o, some (V.str Z), some (.ref p)] H4 N → te [o, some (V.str Z), some (.ref p)] H4 N)
    (hQ : ∀ (zs : List Str) (H' : Hp), H' l = some (.lst (zs.map V.str)) → (∀ z ∈ zs, z.length = 1 ∧ ∀ c ∈ z.cps.toList, ∃ i : Nat, (i : Int) < m ∧ Z.cps.toList[i]? = some c) → zs.length = n → Pot H' p → But p H H' → QQ (.ref l) H') :
    GoalW (Itr 0 n) (gName 0) tTrue te l (capSt k cap σ) (upd H l (.lst [])) QQ := by
  refine comp_draw 0 n PotO p (fun v => ∃ x : Str, v = .str x ∧ (x.length = 1 ∧ ∀ c ∈ x.cps.toList, ∃ i : Nat, (i : Int) < m ∧ Z.cps.toList[i]? = some c)) (fun σ => ∃ o, σ = [o, some (V.str Z), some (.ref p)]) ⟨_, hσ⟩ potN hp hl (by omega) ?_ ?_
  · rintro i σ H4 xs N hi ⟨o, rfl⟩ hp4 hx hxl b4 hN
    unfold turnOf
    walk_at "vc0"
    refine hte _ _ _ ?_
    walk_at "vc0"
    refine ⟨p, m, rfl, hp4, hm, by omega, fun d H5 d0 d1 hp5 b5 => ?_⟩
    obtain ⟨j, rfl⟩ : ∃ j : Nat, d = (j : Int) := ⟨d.toNat, by omega⟩
    have hj : j < Z.cps.toList.length := by rw [len_cps]; omega
    have hc : atI Z.cps.toList (j : Int) = some (Z.cps.toList[j]) := atI_nat (by simp [hj])
    exact ⟨_, rfl, szl (by omega), _, hc, hN _ _ _ ⟨_, rfl⟩ ⟨_, rfl, rfl, fun c hcm => ⟨j, d1, by
      have e : c = Z.cps.toList[j] := by simpa using hcm
      rw [e]; simp [hj]⟩⟩ hp5 b5⟩
  · intro ys H4 hyl hR hy hp4 b4
    obtain ⟨zs, e, hz⟩ := strs_backP hR
    subst e
    rw [List.length_map] at hyl
    exact hQ zs H4 hy hz hyl hp4 b4
theorem draw_C {p : Addr} {H : Hp} {l : Addr} {Z : Str} {m : Int} {k : Nat} {cap : List Nat} {σ : St} {QQ : VK} (n : Nat) (hσ : capSt k cap σ = [none, some (.str Z), some (.ref p)]) (hp : Pot H p) (hl : H l = none) (hn : n ≤ 1000) (hm : 0 < m) (hmZ : m ≤ Z.length) (hZ : Z.length ≤ 1000)
    (hQ : ∀ (zs : List Str) (H' : Hp), H' l = some (.lst (zs.map V.str)) → (∀ z ∈ zs, z.length = 1 ∧ ∀ c ∈ z.cps.toList, ∃ i : Nat, (i : Int) < m ∧ Z.cps.toList[i]? = some c) → zs.length = n → Pot H' p → But p H H' → QQ (.ref l) H') :
    GoalW (Itr 0 n) (gName 0) tTrue (tOp rIxS (tVar 1) (tCall spTakeB [] E0 (tCons (tVar 2) (tCons (tC (V.int m)) tNil)))) l (capSt k cap σ) (upd H l (.lst [])) QQ := by
  refine comp_draw 0 n PotO p (fun v => ∃ x : Str, v = .str x ∧ (x.length = 1 ∧ ∀ c ∈ x.cps.toList, ∃ i : Nat, (i : Int) < m ∧ Z.cps.toList[i]? = some c)) (fun σ => ∃ o, σ = [o, some (V.str Z), some (.ref p)]) ⟨_, hσ⟩ potN hp hl (by omega) ?_ ?_
  · rintro i σ H4 xs N hi ⟨o, rfl⟩ hp4 hx hxl b4 hN
    unfold turnOf
    walk_at "vc0"
    refine ⟨p, m, rfl, hp4, hm, by omega, fun d H5 d0 d1 hp5 b5 => ?_⟩
    obtain ⟨j, rfl⟩ : ∃ j : Nat, d = (j : Int) := ⟨d.toNat, by omega⟩
    have hj : j < Z.cps.toList.length := by rw [len_cps]; omega
    have hc : atI Z.cps.toList (j : Int) = some (Z.cps.toList[j]) := atI_nat (by simp [hj])
    exact ⟨_, rfl, szl (by omega), _, hc, hN _ _ _ ⟨_, rfl⟩ ⟨_, rfl, rfl, fun c hcm => ⟨j, d1, by
      have e : c = Z.cps.toList[j] := by simpa using hcm
      rw [e]; simp [hj]⟩⟩ hp5 b5⟩
  · intro ys H4 hyl hR hy hp4 b4
    obtain ⟨zs, e, hz⟩ := strs_backP hR
    subst e
    rw [List.length_map] at hyl
    exact hQ zs H4 hy hz hyl hp4 b4
def rowV (H : Hp) (v : V) : Bool := match tupOf H v with
  | some xs => !decide (9 < (xs.length : Int)) && xs.all nameV
  | none => false
def letterL (H : Hp) : List V → Bool
  | [n, d, h, r] => nameV n && (dayV d && (headV h && rowV H r))
  | _ => false
def letterV (H : Hp) (v : V) : Bool := match tupOf H v with
  | some xs => letterL H xs
  | none => false
theorem letterL_no {H : Hp} {xs : List V} (h : xs.length ≠ 4) : letterL H xs = false := by
  match xs, h with
  | [], _ => rfl
  | [_], _ => rfl
  | [_, _], _ => rfl
  | [_, _, _], _ => rfl
  | [_, _, _, _], h => exact absurd rfl h
  | _ :: _ :: _ :: _ :: _ :: _, _ => rfl
theorem rowV_kp {H H' : Hp} {v : V} (t : AnyD 0 H v) (s : Kp H H') : rowV H' v = rowV H v := by obtain ⟨k, t⟩ := t; unfold rowV; rw [t.tup_kp s]
theorem letterV_kp {H H' : Hp} {v : V} (h : AnyD 1 H v) (s : Kp H H') : letterV H' v = letterV H v := by
  obtain ⟨⟨k, t⟩, h⟩ := h
  unfold letterV
  rw [t.tup_kp s]
  cases e : tupOf H v with
  | none => rfl
  | some xs =>
    have hx := (h xs e).2
    show letterL H' xs = letterL H xs
    by_cases h4 : xs.length = 4
    · match xs, h4 with
      | [n, d, x, r], _ =>
        show (_ && (_ && (_ && rowV H' r))) = (_ && (_ && (_ && rowV H r)))
        rw [rowV_kp (hx r (by simp)) s]
    · rw [letterL_no h4, letterL_no h4]
theorem at0 {c : V} {r : List V} : atI (c :: r) 0 = some c := atI_nat (j := 0) rfl
theorem nameV_str {v : V} (h : nameV v = true) : ∃ x, v = .str x := by
  cases v <;> first | exact ⟨_, rfl⟩ | cases h
theorem AnyD.less : ∀ {n : Nat} {H : Hp} {v : V}, AnyD (n + 1) H v → AnyD n H v
  | 0, _, _, h => h.1
  | n + 1, _, _, h => ⟨h.1, fun xs e => ⟨(h.2 xs e).1, fun x hx => AnyD.less ((h.2 xs e).2 x hx)⟩⟩
def spP (f : Hp → V → Bool) (n : Nat) : Sp := fun vs H Q _ => ∃ v, vs = [v] ∧ AnyD n H v ∧ ∀ H', Same H H' → Q (.bl (f H v)) H'

theorem tupOf_inv {H : Hp} {v : V} {xs : List V} (h : tupOf H v = some xs) : ∃ a, v = .ref a ∧ H a = some (.tup xs) := by
  cases v with
  | ref a =>
    refine ⟨a, rfl, ?_⟩
    unfold tupOf at h
    dsimp only at h
    split at h
    · cases h; assumption
    · cases h
  | _ => cases h
/-- texts within are of plain signs -/
def TmD : Nat → Hp → V → Prop
  | 0, _, v => HeadOk v
  | n + 1, H, v => HeadOk v ∧ ∀ xs, tupOf H v = some xs → ∀ x ∈ xs, TmD n H x
def Tm (H : Hp) (v : V) : Prop := Any H v ∧ ∀ n, TmD n H v
theorem TmD.ok : ∀ {n : Nat} {H : Hp} {v : V}, TmD n H v → HeadOk v
  | 0, _, _, h => h
  | _ + 1, _, _, h => h.1
theorem TmD.kp : ∀ {n : Nat} {H H' : Hp} {v : V}, AnyD n H v → TmD n H v → Kp H H' → TmD n H' v
  | 0, _, _, _, _, h, _ => h
  | n + 1, _, _, _, ⟨⟨k, t⟩, hA⟩, h, s => ⟨h.1, fun xs e x hx => by
      rw [t.tup_kp s] at e
      exact TmD.kp ((hA xs e).2 x hx) (h.2 xs e x hx) s⟩
theorem Tm.kp {H H' : Hp} {v : V} (h : Tm H v) (s : Kp H H') : Tm H' v := ⟨h.1.kp s, fun n => TmD.kp (h.1 n) (h.2 n) s⟩
theorem tmD_flat {H : Hp} {v : V} (e : tupOf H v = none) (o : HeadOk v) : ∀ n, TmD n H v
  | 0 => o
  | n + 1 => ⟨o, fun xs h => by rw [e] at h; cases h⟩
theorem no_str {v : V} (h : ∀ x, v ≠ .str x) : HeadOk v := fun x e => absurd e (h x)
theorem tm_non {H : Hp} : Tm H .non := ⟨any_non, tmD_flat rfl (no_str fun _ z => nomatch z)⟩
theorem tm_bl {H : Hp} {b : Bool} : Tm H (.bl b) := ⟨any_bl, tmD_flat rfl (no_str fun _ z => nomatch z)⟩
theorem tm_int {H : Hp} {i : Int} : Tm H (.int i) := ⟨any_int, tmD_flat rfl (no_str fun _ z => nomatch z)⟩
theorem tm_str {H : Hp} {x : Str} (h : x.length ≤ 1000000) (o : OkT x) : Tm H (.str x) := ⟨any_str h, tmD_flat rfl (fun y e => by cases e; exact o)⟩
theorem tm_lst {H : Hp} {a : Addr} {xs : List V} (h : H a = some (.lst xs)) : Tm H (.ref a) := ⟨any_lst h, tmD_flat (by unfold tupOf; simp only [h]) (no_str fun _ z => nomatch z)⟩
theorem tm_dct {H : Hp} {a : Addr} {xs : List (Key × V)} (h : H a = some (.dK xs)) : Tm H (.ref a) := ⟨any_dct h, tmD_flat (by unfold tupOf; simp only [h]) (no_str fun _ z => nomatch z)⟩
theorem tm_tup {H : Hp} {a : Addr} {xs : List V} (h : H a = some (.tup xs)) (hl : xs.length ≤ 1000) (hx : ∀ x ∈ xs, Tm H x) : Tm H (.ref a) :=
  ⟨any_tup h hl fun x m => (hx x m).1, fun n => by
    cases n with
    | zero => exact no_str (fun _ z => nomatch z)
    | succ n => exact ⟨no_str (fun _ z => nomatch z), fun ys e x m => by rw [tupOf_at h] at e; cases e; exact (hx x m).2 n⟩⟩
def ltAtX (H : Hp) (xs : List V) (j : Nat) : Bool := ltD H 2 (xs.getD j .non) (xs.getD (j + 1) .non)
def risesD (H : Hp) (xs : List V) : Bool := (List.range (xs.length - 1)).all (ltAtX H xs)
def packV (H : Hp) (v : V) : Bool := match tupOf H v with
  | some xs => xs.all (letterV H) && risesD H xs
  | none => false
theorem let_parts {H : Hp} {v : V} (h : letterV H v = true) : ∃ a n d x r rs, v = .ref a ∧ H a = some (.tup [.str n, .int d, .str x, .ref r]) ∧ H r = some (.tup rs) ∧ rs.all nameV = true := by
  unfold letterV at h
  cases e : tupOf H v with
  | none => rw [e] at h; cases h
  | some xs =>
    rw [e] at h
    obtain ⟨a, rfl, ha⟩ := tupOf_inv e
    have h : letterL H xs = true := h
    by_cases h4 : xs.length = 4
    · match xs, h4 with
      | [n, d, x, r], _ =>
        have h : (nameV n && (dayV d && (headV x && rowV H r))) = true := h
        rw [Bool.and_eq_true, Bool.and_eq_true, Bool.and_eq_true] at h
        obtain ⟨h1, h2, h3, h5⟩ := h
        obtain ⟨n, rfl⟩ := nameV_str h1
        obtain ⟨d, rfl⟩ : ∃ i, d = .int i := by cases d <;> first | exact ⟨_, rfl⟩ | cases h2
        obtain ⟨x, rfl⟩ : ∃ i, x = .str i := by cases x <;> first | exact ⟨_, rfl⟩ | cases h3
        unfold rowV at h5
        cases e5 : tupOf H r with
        | none => rw [e5] at h5; cases h5
        | some rs =>
          rw [e5] at h5
          obtain ⟨r, rfl, hr⟩ := tupOf_inv e5
          have h5 : (!decide (9 < (rs.length : Int)) && rs.all nameV) = true := h5
          rw [Bool.and_eq_true] at h5
          exact ⟨a, n, d, x, r, rs, rfl, ha, hr, h5.2⟩
    · rw [letterL_no h4] at h; cases h
theorem let_cmp {H : Hp} {x y : V} (hx : letterV H x = true) (hy : letterV H y = true) : CmpE H 2 x y := by
  obtain ⟨a, n, d, h, r, rs, rfl, ha, hr, hn⟩ := let_parts hx
  obtain ⟨b, n', d', h', r', rs', rfl, hb, hr', hn'⟩ := let_parts hy
  refine .inr ⟨a, b, _, _, rfl, rfl, ha, hb, fun i u v hu hv => ?_⟩
  match i, hu, hv with
  | 0, hu, hv => simp at hu hv; subst hu hv; exact .inl (.inl ⟨_, _, rfl, rfl⟩)
  | 1, hu, hv => simp at hu hv; subst hu hv; exact .inl (.inr ⟨_, _, rfl, rfl⟩)
  | 2, hu, hv => simp at hu hv; subst hu hv; exact .inl (.inl ⟨_, _, rfl, rfl⟩)
  | 3, hu, hv =>
    simp at hu hv
    subst hu hv
    refine .inr ⟨r, r', _, _, rfl, rfl, hr, hr', fun j u v hu hv => ?_⟩
    obtain ⟨x, rfl⟩ := nameV_str (List.all_eq_true.mp hn u (List.mem_of_getElem? hu))
    obtain ⟨y, rfl⟩ := nameV_str (List.all_eq_true.mp hn' v (List.mem_of_getElem? hv))
    exact .inl ⟨_, _, rfl, rfl⟩
  | i + 4, hu, hv => simp at hu
theorem getD_at {xs : List V} {j : Nat} (h : j < xs.length) : xs.getD j .non = xs[j] := by rw [List.getD_eq_getElem?_getD, List.getElem?_eq_getElem h]; rfl
theorem risesD_kp {H H' : Hp} {xs : List V} (hx : ∀ x ∈ xs, letterV H x = true) (s : Kp H H') : risesD H' xs = risesD H xs := by
  unfold risesD
  refine all_on fun j hj => ?_
  have hj := List.mem_range.mp hj
  unfold ltAtX
  rw [getD_at (show j < xs.length by omega), getD_at (show j + 1 < xs.length by omega)]
  exact ((let_cmp (hx _ (List.getElem_mem _)) (hx _ (List.getElem_mem _))).keeps s).2
theorem packV_kp {H H' : Hp} {v : V} (h : AnyD 2 H v) (s : Kp H H') : packV H' v = packV H v := by
  obtain ⟨⟨k, t⟩, h⟩ := h
  unfold packV
  rw [t.tup_kp s]
  cases e : tupOf H v with
  | none => rfl
  | some xs =>
    have hx := (h xs e).2
    show (xs.all (letterV H') && risesD H' xs) = (xs.all (letterV H) && risesD H xs)
    rw [all_on fun x m => letterV_kp (hx x m) s]
    cases ha : xs.all (letterV H) with
    | false => rfl
    | true => rw [risesD_kp (List.all_eq_true.mp ha) s]
theorem none_outL {f : V → Bool} : ∀ rs : List V, ((rs.filter fun v => !f v).map id).isEmpty = rs.all f
  | [] => rfl
  | v :: rs => by
    rw [List.filter_cons, List.all_cons]
    cases e : f v with
    | true => exact none_outL rs
    | false => rfl
def notLt (H : Hp) (xs : List V) : V → Bool
  | .int j => !ltAtX H xs (j - 1).toNat
  | _ => true
theorem notLt_int {H : Hp} {xs : List V} {i : Nat} : notLt H xs (.int (1 + i)) = !ltAtX H xs i := by
  show (!ltAtX H xs ((1 : Int) + (i : Int) - 1).toNat) = _
  rw [show ((1 : Int) + (i : Int) - 1).toNat = i by omega]
def spRises : Sp := fun vs H Q _ => ∃ a xs, vs = [.ref a] ∧ H a = some (.tup xs) ∧ xs.length ≤ 1000 ∧ (∀ x ∈ xs, letterV H x = true) ∧ ∀ H', Same H H' → Q (.bl (risesD H xs)) H'
def spLetL : Sp := fun vs H Q _ => ∃ v, vs = [v] ∧ AnyD 2 H v ∧ TmD 1 H v ∧ ∀ H', Same H H' → Q (.bl (letterV H v)) H'
def LtV (H : Hp) (v : V) : Prop := ∃ a r n d h rs, v = .ref a ∧ Lt H a r n d h rs
theorem Lt.kp {H H' : Hp} {a r : Addr} {n : Str} {d : Int} {h : Str} {rs : List Str} (L : Lt H a r n d h rs) (b : Kp H H') : Lt H' a r n d h rs :=
  ⟨b.tup L.at', b.tup L.row, L.nm, L.d0, L.d1, L.ok, L.hv, L.hl, L.rl, L.rn⟩
theorem LtV.kp {H H' : Hp} {v : V} (h : LtV H v) (b : Kp H H') : LtV H' v := let ⟨a, r, n, d, x, rs, e, L⟩ := h; ⟨a, r, n, d, x, rs, e, L.kp b⟩
theorem tm_name {H : Hp} {x : Str} (h : nameB x = true) : Tm H (.str x) := tm_str (by have := nameB_len h; omega) (nameB_ok h)
theorem Lt.tms {H : Hp} {a r : Addr} {n : Str} {d : Int} {h : Str} {rs : List Str} (L : Lt H a r n d h rs) : ∀ x ∈ [V.str n, .int d, .str h, .ref r], Tm H x := by
  have hh := L.hl
  have hr := L.rl
  intro x hx
  simp only [List.mem_cons, List.not_mem_nil, or_false] at hx
  rcases hx with rfl | rfl | rfl | rfl
  · exact tm_name L.nm
  · exact tm_int
  · exact tm_str (by omega) L.ok
  · exact tm_tup L.row (by rw [List.length_map]; omega) fun y hy => by
      obtain ⟨z, hz, rfl⟩ := List.mem_map.mp hy
      exact tm_name (L.rn z hz)
theorem Lt.tm {H : Hp} {a r : Addr} {n : Str} {d : Int} {h : Str} {rs : List Str} (L : Lt H a r n d h rs) : Tm H (.ref a) := tm_tup L.at' (by show 4 ≤ 1000; decide) L.tms
theorem LtV.tm {H : Hp} {v : V} (h : LtV H v) : Tm H v := by obtain ⟨a, r, n, d, x, rs, rfl, L⟩ := h; exact L.tm
theorem strAt {zs : List Str} {i : Nat} {v : V} (h : (zs.map V.str)[i]? = some v) : ∃ z, zs[i]? = some z ∧ v = .str z := by
  rw [List.getElem?_map] at h
  cases e : zs[i]? with
  | none => rw [e] at h; cases h
  | some z => rw [e] at h; cases h; exact ⟨z, rfl, rfl⟩
theorem lt_items {K : PySem.W.Frag} {H : Hp} {x y : V} (hx : LtV H x) (hy : LtV H y) : ∀ (i : Nat) u v, ((tupOf H x).getD [])[i]? = some u → ((tupOf H y).getD [])[i]? = some v → CmpD K H 1 u v := by
  obtain ⟨a, r, n, d, h, row, rfl, e⟩ := hx
  obtain ⟨a', r', n', d', h', row', rfl, e'⟩ := hy
  rw [tupOf_at e.at', tupOf_at e'.at']
  intro i u v hu hv
  match i, hu, hv with
  | 0, hu, hv => simp at hu hv; subst hu hv; exact .inl (.inl ⟨_, _, rfl, rfl⟩)
  | 1, hu, hv => simp at hu hv; subst hu hv; exact .inl (.inr ⟨_, _, rfl, rfl⟩)
  | 2, hu, hv => simp at hu hv; subst hu hv; exact .inl (.inl ⟨_, _, rfl, rfl⟩)
  | 3, hu, hv =>
    simp at hu hv
    subst hu hv
    refine .inr ⟨r, r', _, _, rfl, rfl, SqT.of e.row, SqT.of e'.row, fun j u v hu hv => ?_⟩
    obtain ⟨x, _, rfl⟩ := strAt hu
    obtain ⟨y, _, rfl⟩ := strAt hv
    exact .inl ⟨_, _, rfl, rfl⟩
  | i + 4, hu, hv => simp at hu
theorem lt_cmp {K : PySem.W.Frag} {H : Hp} {x y : V} (hx : LtV H x) (hy : LtV H y) : CmpD K H 2 x y := by
  have key := lt_items (K := K) hx hy
  obtain ⟨a, r, n, d, h, row, rfl, e⟩ := hx
  obtain ⟨a', r', n', d', h', row', rfl, e'⟩ := hy
  rw [tupOf_at e.at', tupOf_at e'.at'] at key
  exact .inr ⟨a, a', _, _, rfl, rfl, SqT.of e.at', SqT.of e'.at', key⟩
theorem lt_led {K : PySem.W.Frag} {H : Hp} {x : V} (hx : LtV H x) : Led K H (fun v => (tupOf H v).getD []) x := by
  obtain ⟨a, r, n, d, h, row, rfl, e⟩ := hx
  exact ⟨a, n, _, rfl, by dsimp only; rw [tupOf_at e.at']; rfl, SqT.of e.at'⟩
theorem inABC {x : Str} (h : nameB x = true) : ∀ c ∈ x.cps.toList, c ∈ ABC.cps.toList := fun c hc => by
  unfold nameB at h
  rw [Bool.and_eq_true] at h
  have h := List.all_eq_true.mp h.2 c hc
  unfold inS at h
  rw [StrLaws.found_one] at h
  simpa using h
open PySem.Builtin PySem.Builtin.Str in
theorem upto_beyond {n : Nat} {i : Int} (h : (n : Int) ≤ i) : strSliceIndices none (some i) 1 n = strSliceIndices none (some (n : Int)) 1 n := by
  have h0 : ¬ i < 0 := by omega
  have h1 : ¬ ((n : Int) < 0) := by omega
  have h2 : (1 : Int) > 0 := by decide
  simp only [strSliceIndices, h0, h1, h2, if_false, if_true, Int.min_eq_right h, Int.min_self]
theorem upto_len {x : Str} {j : Int} (h0 : 0 ≤ j) (h2 : j ≤ x.length) : (Txt.slice x none (some j)).length = j.toNat := by
  rw [beq_iff_eq.mp (PyProof.Rows.slice_closes_toL h0 h2)]
  have e := len_cps (z := x)
  show (List.toArray _).size = _
  rw [List.size_toArray, List.length_take, List.length_drop, e]
  simp
  omega
theorem slice12 {n : Str} (h : nameB n = true) : nameB (Txt.slice (n ++ Str.ofString "a") none (some 12)) = true := by
  have hn := nameB_len h
  have e1 : (Str.ofString "a").length = 1 := by decide +kernel
  have hl : (Txt.slice (n ++ Str.ofString "a") none (some 12)).length = min 12 (n.length + 1) := by
    have hla : (n ++ Str.ofString "a").length = n.length + 1 := by rw [Str.length_append, e1]
    by_cases h12 : (12 : Int) ≤ ((n ++ Str.ofString "a").length : Int)
    · rw [upto_len (by decide) h12]; show 12 = _; omega
    · have e : Txt.slice (n ++ Str.ofString "a") none (some 12) = Txt.slice (n ++ Str.ofString "a") none (some ((n ++ Str.ofString "a").length : Int)) := by
        unfold Txt.slice
        rw [upto_beyond (show (((n ++ Str.ofString "a").length : Nat) : Int) ≤ 12 by omega)]
      rw [e, upto_len (by omega) (Int.le_refl _)]
      omega
  refine nameB_of (by omega) (by omega) fun c hc => ?_
  have hc := slice_mem hc
  rw [Str.cps_append, Array.toList_append] at hc
  rcases List.mem_append.mp hc with z | z
  · exact inABC h c z
  · have key : (Str.ofString "a").cps.toList.all (fun c => ABC.cps.toList.contains c) = true := by decide +kernel
    simpa using List.all_eq_true.mp key c z
theorem atI_of {xs : List V} {j : Int} (h0 : 0 ≤ j) (h1 : j < (xs.length : Int)) : ∃ y ∈ xs, atI xs j = some y := by
  obtain ⟨n, rfl⟩ : ∃ n : Nat, j = (n : Int) := ⟨j.toNat, by omega⟩
  have hn : n < xs.length := by omega
  exact ⟨xs[n], List.getElem_mem _, atI_nat (by simp)⟩
theorem pick_tm {K : PySem.W.Frag} {H : Hp} {p l : Addr} {xs : List V} {Q : VK} {n : Int} (hp : Pot H p) (hl : H l = some (.lst xs)) (hn : n = (xs.length : Int)) (h0 : 0 < xs.length) (hs : xs.length ≤ 1000) (np : l ≠ p) (hx : ∀ x ∈ xs, Tm H x)
    (q : ∀ v' H', Tm H' v' → Pot H' p → But p H H' → Q v' H') : spTakeB [V.ref p, V.int n] H (fun y H2 => ∃ x x_1, y = V.int x_1 ∧ SqL K H2 l x ∧ ∃ x_2, atI x x_1 = some x_2 ∧ Q x_2 H2) E0 :=
  ⟨p, n, rfl, hp, by omega, by omega, fun d H' d0 d1 hp' b => by
    obtain ⟨y, hy, hya⟩ := atI_of (xs := xs) d0 (by omega)
    exact ⟨xs, d, rfl, SqL.of (b _ _ hl np), y, hya, q y H' ((hx y hy).kp (Kp.but hp hp' b)) hp' b⟩⟩
theorem day_le {d : Int} (d0 : 0 ≤ d) (d1 : d < 1000000000) : (Str.ofString (toString d)).length ≤ 9 := PyProof.Rows.toString_length_le d0 (by decide) (by simpa using d1)
theorem day_log {d : Int} (d0 : 0 ≤ d) (d1 : d < 1000000000) : d.natAbs.log2 < 1920 := by
  by_cases h : d.natAbs = 0
  · rw [h]; decide
  · refine Nat.lt_of_lt_of_le ((Nat.log2_lt h).mpr (show d.natAbs < 2 ^ 30 by omega)) (by decide)
theorem sum12 {rs : List Str} (hn : ∀ x ∈ rs, nameB x = true) : ∀ qs : List Str, (∀ x ∈ qs, x ∈ rs) → (qs.map (·.length)).sum ≤ 12 * qs.length := by
  intro qs hq
  induction qs with
  | nil => exact Nat.zero_le _
  | cons y ys ih =>
    rw [List.map_cons, List.sum_cons, List.length_cons]
    have h1 := (nameB_len (hn y (hq y List.mem_cons_self))).2
    have h2 := ih fun x hx => hq x (List.mem_cons_of_mem _ hx)
    omega
def spNear : Sp := fun vs H Q _ => ∃ (p : Addr) (v : V), vs = [.ref p, v] ∧ Pot H p ∧ LtV H v ∧ ∀ v' H', LtV H' v' → Pot H' p → But p H H' → Q v' H'
def spPackD : Sp := fun vs H Q _ => ∃ (p : Addr) (m : Int), vs = [.ref p, .int m] ∧ 0 ≤ m ∧ m ≤ 20 ∧ Pot H p ∧ ∀ t xs H', H' t = some (.tup xs) → xs.length ≤ 20 → (∀ x ∈ xs, LtV H' x) → Pot H' p → But p H H' → Q (.ref t) H'
def spNest : Sp := fun vs H Q _ => ∃ (p : Addr) (v : V), vs = [.ref p, v] ∧ Pot H p ∧ Tm H v ∧ ∀ v' H', Tm H' v' → Pot H' p → But p H H' → Q v' H'
/-- a tuple, a text, a whole number -/
def Old (H : Hp) (v : V) : Prop := Tm H v ∧ ((∃ a xs, v = .ref a ∧ H a = some (.tup xs) ∧ xs.length ≤ 1000) ∨ (∃ x, v = .str x ∧ x.length ≤ 1000) ∨ ∃ i : Int, v = .int i ∧ 0 ≤ i ∧ i ≤ 99999999)
theorem Old.kp {H H' : Hp} {v : V} (h : Old H v) (k : Kp H H') : Old H' v := ⟨h.1.kp k, by
  rcases h.2 with ⟨a, xs, e, ha, hl⟩ | z
  · exact .inl ⟨a, xs, e, k.tup ha, hl⟩
  · exact .inr z⟩
def spOdd : Sp := fun vs H Q _ => ∃ (p : Addr) (v : V), vs = [.ref p, v] ∧ Pot H p ∧ Old H v ∧ ∀ v' H', Tm H' v' → Pot H' p → But p H H' → Q v' H'
def spPut : Sp := fun vs H Q _ => ∃ (a : Addr) (xs : List V) (i : Int) (v : V), vs = [.ref a, .int i, v] ∧ H a = some (.tup xs) ∧ xs.length ≤ 100 ∧ 0 ≤ i ∧ i ≤ 100 ∧ ∀ t ys H', H' t = some (.tup ys) → ys.length ≤ 201 → (∀ y ∈ ys, y = v ∨ y ∈ xs) → Same H H' → Q (.ref t) H'
def spThings : Sp := fun vs H Q _ => ∃ p : Addr, vs = [.ref p] ∧ Pot H p ∧ ∀ l xs H', H' l = some (.lst xs) → l ≠ p → H l = none → xs.length ≤ 100 → (∀ x ∈ xs, Tm H' x) → Pot H' p → But p H H' → Q (.ref l) H'
def spPackL : Sp := fun vs H Q _ => ∃ v, vs = [v] ∧ AnyD 3 H v ∧ TmD 2 H v ∧ ∀ H', Same H H' → Q (.bl (packV H v)) H'

theorem LtV.at {H : Hp} {v : V} (h : LtV H v) : ∃ n d x rs, LetAt H v n d x rs := by
  obtain ⟨a, r, n, d, x, rs, rfl, L⟩ := h
  exact ⟨n, d, x, rs, ⟨a, r, rfl, L.at', L.row⟩⟩
theorem LtV.letter {H : Hp} {v : V} (h : LtV H v) : letterV H v = true := by
  obtain ⟨a, r, n, d, x, rs, rfl, L⟩ := h
  have hr : rowV H (.ref r) = true := by
    unfold rowV
    rw [tupOf_at L.row]
    show (!decide (9 < ((rs.map V.str).length : Int)) && (rs.map V.str).all nameV) = true
    have := L.rl
    rw [List.length_map, decide_eq_false (by omega), List.all_map]
    exact List.all_eq_true.mpr L.rn
  have hd : dayV (.int d) = true := by show (decide (0 ≤ d) && decide (d ≤ 99999999)) = true; rw [decide_eq_true L.d0, decide_eq_true L.d1]; rfl
  unfold letterV
  rw [tupOf_at L.at']
  show (nameV (.str n) && (dayV (.int d) && (headV (.str x) && rowV H (.ref r)))) = true
  rw [hr, hd, L.hv, show nameV (.str n) = true from L.nm]
  rfl
theorem ltv_lt {H : Hp} {x y : V} (hx : LtV H x) (hy : LtV H y) : ltD H 2 x y = letO.blt (kvL H x) (kvL H y) := by
  obtain ⟨n, d, h, rs, a⟩ := hx.at
  obtain ⟨n', d', h', rs', a'⟩ := hy.at
  rw [a.key, a'.key]
  exact a.lt a'
theorem ltv_ne {H : Hp} {x y : V} (hx : LtV H x) (hy : LtV H y) (e : eqD H 2 x y = false) : kvL H x ≠ kvL H y := by
  obtain ⟨n, d, h, rs, a⟩ := hx.at
  obtain ⟨n', d', h', rs', a'⟩ := hy.at
  rw [a.key, a'.key]
  exact a.eq a' e
theorem kvL_kp {H H' : Hp} {v : V} (h : LtV H v) (k : Kp H H') : kvL H' v = kvL H v := by
  obtain ⟨a, r, n, d, x, rs, rfl, L⟩ := h
  have a1 : LetAt H (.ref a) n d x rs := ⟨a, r, rfl, L.at', L.row⟩
  have a2 : LetAt H' (.ref a) n d x rs := ⟨a, r, rfl, k.tup L.at', k.tup L.row⟩
  rw [a1.key, a2.key]
theorem keys_kp {H H' : Hp} {vs : List V} (h : ∀ x ∈ vs, LtV H x) (k : Kp H H') : vs.map (kvL H') = vs.map (kvL H) := List.map_congr_left fun x m => kvL_kp (h x m) k
theorem pack_true {H : Hp} {t : Addr} {xs : List V} (ht : H t = some (.tup xs)) (hx : ∀ x ∈ xs, LtV H x) (nd : (xs.map (kvL H)).Nodup)
    (le : ∀ (i j : Nat) x y, i ≤ j → xs[i]? = some x → xs[j]? = some y → letO.kle (kvL H x) (kvL H y)) : packV H (.ref t) = true := by
  unfold packV
  rw [tupOf_at ht]
  show (xs.all (letterV H) && risesD H xs) = true
  rw [Bool.and_eq_true]
  refine ⟨List.all_eq_true.mpr fun x m => (hx x m).letter, List.all_eq_true.mpr fun i hi => ?_⟩
  have hi := List.mem_range.mp hi
  have h0 : i < xs.length := by omega
  have h1 : i + 1 < xs.length := by omega
  unfold ltAtX
  rw [getD_at h0, getD_at h1, ltv_lt (hx _ (List.getElem_mem _)) (hx _ (List.getElem_mem _))]
  have hle := le i (i + 1) _ _ (by omega) (List.getElem?_eq_getElem h0) (List.getElem?_eq_getElem h1)
  rcases ko_cases (A := letO) (kvL H xs[i]) (kvL H xs[i + 1]) with ⟨z, _⟩ | ⟨z, _⟩ | z
  · exact z
  · rw [show letO.blt (kvL H xs[i + 1]) (kvL H xs[i]) = false from hle] at z; cases z
  · have g0 : (xs.map (kvL H))[i]? = some (kvL H xs[i]) := by rw [List.getElem?_map, List.getElem?_eq_getElem h0]; rfl
    have g1 : (xs.map (kvL H))[i + 1]? = some (kvL H xs[i + 1]) := by rw [List.getElem?_map, List.getElem?_eq_getElem h1]; rfl
    rw [← z] at g1
    exact absurd ((List.getElem?_inj (by rw [List.length_map]; exact h0) nd).mp (g0.trans g1.symm)) (by omega)
theorem notyes' {A B : Prop} (h : B) : if (!true) = true then A else B := notyes h
theorem yes' {A B : Prop} (h : A) : if (!false) = true then A else B := notnot h
def spPackE : Sp := fun vs H Q _ => ∃ (p : Addr) (m : Int), vs = [.ref p, .int m] ∧ 0 ≤ m ∧ m ≤ 20 ∧ Pot H p ∧ ∀ t xs H', H' t = some (.tup xs) → xs.length ≤ 20 → (∀ x ∈ xs, LtV H' x) → packV H' (.ref t) = true → Pot H' p → But p H H' → Q (.ref t) H'
def spSpoil1 : Sp := fun vs H Q _ => ∃ (p : Addr) (v : V), vs = [.ref p, v] ∧ Pot H p ∧ LtV H v ∧ ∀ v' H', Tm H' v' → Pot H' p → But p H H' → Q v' H'
def spSpoil : Sp := fun vs H Q _ => ∃ (p t : Addr) (c : Int) (xs : List V), vs = [.ref p, .int c, .ref t] ∧ Pot H p ∧ H t = some (.tup xs) ∧ 0 < xs.length ∧ xs.length ≤ 20 ∧ (∀ x ∈ xs, LtV H x) ∧ ∀ v' H', Tm H' v' → Pot H' p → But p H H' → Q v' H'

section
variable {P : Program} {w : World} {K : PySem.W.Frag} {mg : Str → Option Value} {base : Heap} {fs : Nat → Addr} {fds : Nat → FuncData} {tc : Nat → Addr} {u : Nat → Value}
theorem sc_is_name : FnScope ["thing"] ["thing"] (defScope s_is_name) := ⟨rfl, rfl, rfl, by decide +kernel, rfl, by decide +kernel, by decide +kernel⟩
set_option maxHeartbeats 4000000 in
theorem ok_is_name (T : Txt K mg fs fds tc u)  : FnOk P w K mg base CX0 1 (fs 0) (fds 0) ["thing"] spNameV := by
  refine T.d_is_name.F.ok sc_is_name (fun vs H Q E h => ?_) (fun cdv A outer s H vs Q E hr h => ?_)
  · obtain ⟨v, k, rfl, hT, q⟩ := h
    rfl
  · obtain ⟨v, k, rfl, hT, q⟩ := h
    refine ⟨_, (pss_cons (ps_if (PW.pt (pw_or (pt_not (pt_val (pe_callB (isiK K) (by rfl) T.z_isinstance bt_isinstance (pa_cons (pv 0) (pa_cons (pe_bltn (v := .ty "str") rfl T.z_str bt_str rfl) pa_nil))))) (pw_or1 (pt_not (pt_chain op_le op_le pe_int (pe_callB call_len_str (by rfl) T.z_len bt_len (pa_cons (pv 0) pa_nil)) (pe_glob (v := .int 12) rfl T.c_LONGEST_NAME T.r_LONGEST_NAME)))))) (pss_one (ps_ret pe_bl)) pss_nil)
      (pss_one (ps_ret (pe_callB (allL K rfl) (by rfl) T.z_all bt_all (pa_cons (pe_lc ["sign"] 1 [] ["thing"] (defScope s_is_name) rfl rfl rfl (pi_str (pv 0)) (by decide +kernel) (fun _ => (pg_name (i := 0) (show (["sign"] : List Str).Nodup by decide +kernel) rfl (Or.inl rfl))) (fun _ => pts_nil) (fun _ => (pe_cmpR op_in_str (pv 0) (pe_glob (v := .str "abcdefghijklmnopqrstuvwxyz0123456789") rfl T.c_NAME_SIGNS T.r_NAME_SIGNS) (by rfl)))) pa_nil))))), ?_⟩
    refine tSeq_i ?_; walk_at "vc1"
    refine ⟨_, hT.is.ty, _, kd_str k, ?_⟩
    by_cases e : k = .str
    · subst e
      obtain ⟨x, rfl⟩ := hT.is
      have hx := hT.few x rfl
      rw [decide_eq_true rfl]
      refine notyes ?_
      walk_at "vc1"
      refine ⟨szl (by omega), ?_⟩
      refine iteD (fun g1 => ?_) (fun g1 => ?_)
      · refine ite2 (fun g2 => ?_) (fun g2 => ?_)
        · have e : nameV (.str x) = false := by show nameB x = false; unfold nameB; rw [(by simpa using g2 : decide ((x.length : Int) ≤ 12) = false), Bool.and_false]; rfl
          rw [← e]
          exact q _ (Same.refl _)
        · have g2 : decide ((x.length : Int) ≤ 12) = true := by simpa using g2
          refine ⟨_, rfl, x, rfl, fun l hl => comp_strP x (fun _ => true) (fun v => match v with | .str z => .bl (!(Builtin.Str.occurrences ABC z 0 ABC.length 1).isEmpty) | v => v) (fun σ => ∃ o, σ = [o]) ⟨_, rfl⟩ (szt (by omega)) ?_ ?_⟩
          · rintro c σ xs N hc hz ⟨o, rfl⟩ hN
            unfold turnOf
            walk_at "vc0"
            exact ⟨_, upd_same, hz, by rw [upd_upd]; exact hN _ ⟨_, rfl⟩⟩
          · refine ⟨l, rfl, x.cps.toList.map fun c => inS c, SqL.of ?_, ?_⟩
            · rw [upd_same]
              refine congrArg (fun z => some (HO.lst z)) ?_
              rw [List.filter_eq_self.mpr (fun _ _ => rfl), List.map_map]
              unfold isBl
              rw [List.map_map]
              rfl
            · rw [all_name]
              have e : nameV (.str x) = x.cps.toList.all inS := by show nameB x = _; unfold nameB; rw [decide_eq_true g1, g2]; rfl
              rw [← e]
              exact q _ (Same.upd hl)
      · have e : nameV (.str x) = false := by show nameB x = false; unfold nameB; rw [decide_eq_false g1]; rfl
        rw [← e]
        exact q _ (Same.refl _)
    · rw [decide_eq_false e]
      refine notnot ?_
      have en := nameV_no (hT.is.not_str e)
      rw [← en]
      exact q H (Same.refl _)
theorem sc_is_whole : FnScope ["thing"] ["thing"] (defScope s_is_whole) := ⟨rfl, rfl, rfl, by decide +kernel, rfl, by decide +kernel, by decide +kernel⟩
set_option maxHeartbeats 4000000 in
theorem ok_is_whole (T : Txt K mg fs fds tc u)  : FnOk P w K mg base CX0 1 (fs 1) (fds 1) ["thing"] spWhole := by
  refine T.d_is_whole.F.ok sc_is_whole (fun vs H Q E h => ?_) (fun cdv A outer s H vs Q E hr h => ?_)
  · obtain ⟨v, k, rfl, hT, q⟩ := h
    rfl
  · obtain ⟨v, k, rfl, hT, q⟩ := h
    refine ⟨_, (pss_one (ps_ret (pe_and (pe_callB (isiK K) (by rfl) T.z_isinstance bt_isinstance (pa_cons (pv 0) (pa_cons (pe_bltn (v := .ty "int") rfl T.z_int bt_int rfl) pa_nil))) (pe_one (pe_not (pe_callB (isiK K) (by rfl) T.z_isinstance bt_isinstance (pa_cons (pv 0) (pa_cons (pe_bltn (v := .ty "bool") rfl T.z_bool bt_bool rfl) pa_nil)))))))), ?_⟩
    walk_at "vc1"
    refine ⟨_, hT.is.ty, _, kd_int k, ?_⟩
    have hty := hT.is.ty (K := K)
    by_cases e : k = .int
    · subst e
      rw [decide_eq_true rfl, Bool.true_or]
      refine iteT ⟨_, hty, _, kd_bool .int, ?_⟩
      exact q
    · rw [decide_eq_false e] at q
      by_cases e2 : k = .bl
      · subst e2
        rw [decide_eq_true (show Kd.bl = Kd.bl from rfl), Bool.or_true]
        exact iteT ⟨_, hty, _, kd_bool .bl, q⟩
      · rw [decide_eq_false e, decide_eq_false e2]
        exact iteF q
theorem sc_is_head : FnScope ["thing"] ["thing"] (defScope s_is_head) := ⟨rfl, rfl, rfl, by decide +kernel, rfl, by decide +kernel, by decide +kernel⟩
set_option maxHeartbeats 4000000 in
theorem ok_is_head (T : Txt K mg fs fds tc u)  : FnOk P w K mg base CX0 1 (fs 3) (fds 3) ["thing"] spHeadV := by
  refine T.d_is_head.F.ok sc_is_head (fun vs H Q E h => ?_) (fun cdv A outer s H vs Q E hr h => ?_)
  · obtain ⟨v, k, rfl, hT, q⟩ := h
    rfl
  · obtain ⟨v, k, rfl, hT, q⟩ := h
    refine ⟨_, (pss_cons (ps_if (PW.pt (pw_or (pt_not (pt_val (pe_callB (isiK K) (by rfl) T.z_isinstance bt_isinstance (pa_cons (pv 0) (pa_cons (pe_bltn (v := .ty "str") rfl T.z_str bt_str rfl) pa_nil))))) (pw_or1 (pt_cmpR op_gt (pe_callB call_len_str (by rfl) T.z_len bt_len (pa_cons (pv 0) pa_nil)) (pe_glob (v := .int 60) rfl T.c_LONGEST_HEAD T.r_LONGEST_HEAD) (nomark _))))) (pss_one (ps_ret pe_bl)) pss_nil)
      (pss_one (ps_ret (pe_callB (allL K rfl) (by rfl) T.z_all bt_all (pa_cons (pe_lc ["sign"] 1 [] ["thing"] (defScope s_is_head) rfl rfl rfl (pi_str (pv 0)) (by decide +kernel) (fun _ => (pg_name (i := 0) (show (["sign"] : List Str).Nodup by decide +kernel) rfl (Or.inl rfl))) (fun _ => pts_nil) (fun _ => (pe_chain op_le_str op_le_str pe_str (pv 0) pe_str))) pa_nil))))), ?_⟩
    refine tSeq_i ?_; walk_at "vc1"
    refine ⟨_, hT.is.ty, _, kd_str k, ?_⟩
    by_cases e : k = .str
    · subst e
      obtain ⟨x, rfl⟩ := hT.is
      have hx := hT.few x rfl
      rw [decide_eq_true rfl]
      refine notyes ?_
      walk_at "vc1"
      refine ⟨szl (by omega), ?_⟩
      refine iteD (fun g1 => ?_) (fun g1 => ?_)
      · have e : headV (.str x) = false := by show (!decide (60 < (x.length : Int)) && _) = false; rw [decide_eq_true g1]; rfl
        rw [← e]
        exact q _ (Same.refl _)
      · refine ⟨_, rfl, x, rfl, fun l hl => comp_strP x (fun _ => true) (fun v => match v with | .str z => .bl ((!decide (z.cps.toList < (Str.ofString " ").cps.toList)) && (!decide ((Str.ofString "~").cps.toList < z.cps.toList))) | v => v) (fun σ => ∃ o, σ = [o]) ⟨_, rfl⟩ (szt (by omega)) ?_ ?_⟩
        · rintro c σ xs N hc hz ⟨o, rfl⟩ hN
          have h := hN [some (.str ⟨#[c]⟩)] ⟨_, rfl⟩
          dsimp only at h
          rw [if_pos rfl] at h
          unfold turnOf
          walk_at "vc0"
          refine ite2 (fun g => ⟨xs, upd_same, hz, ?_⟩) (fun g => ⟨xs, upd_same, hz, ?_⟩)
          · rw [upd_upd]; rw [g, Bool.true_and] at h; exact h
          · rw [upd_upd]; rw [Bool.not_eq_true] at g; rw [g, Bool.false_and] at h; exact h
        · refine ⟨l, rfl, x.cps.toList.map fun c => okC c, SqL.of ?_, ?_⟩
          · rw [upd_same]
            refine congrArg (fun z => some (HO.lst z)) ?_
            rw [List.filter_eq_self.mpr (fun _ _ => rfl), List.map_map]
            unfold isBl
            rw [List.map_map]
            rfl
          · rw [all_ok]
            have e : headV (.str x) = x.cps.toList.all okC := by show (!decide (60 < (x.length : Int)) && _) = _; rw [decide_eq_false g1]; rfl
            rw [← e]
            exact q _ (Same.upd hl)
    · rw [decide_eq_false e]
      refine notnot ?_
      have en := headV_no (hT.is.not_str e)
      rw [← en]
      exact q H (Same.refl _)
theorem sc_rises : FnScope ["things"] ["things"] (defScope s_rises) := ⟨rfl, rfl, rfl, by decide +kernel, rfl, by decide +kernel, by decide +kernel⟩
set_option maxHeartbeats 4000000 in
theorem ok_rises (T : Txt K mg fs fds tc u)  : FnOk P w K mg base CX0 1 (fs 6) (fds 6) ["things"] spRises := by
  refine T.d_rises.F.ok sc_rises (fun vs H Q E h => ?_) (fun cdv A outer s H vs Q E hr h => ?_)
  · obtain ⟨a, xs, rfl, ha, hl, hx, q⟩ := h
    rfl
  · obtain ⟨a, xs, rfl, ha, hl, hx, q⟩ := h
    refine ⟨_, (pss_one (ps_ret (pe_callB (allL K rfl) (by rfl) T.z_all bt_all (pa_cons (pe_lc ["at", "things"] 1 [0] ["things"] (defScope s_rises) rfl rfl rfl (pi_range1 rfl T.z_range (pa_cons (pe_op op_sub (pe_callB (lenT K) (by rfl) T.z_len bt_len (pa_cons (pv 0) pa_nil)) pe_int) pa_nil)) (by decide +kernel) (fun _ => (pg_name (i := 0) (show (["at", "things"] : List Str).Nodup by decide +kernel) rfl (Or.inl rfl))) (fun _ => pts_nil) (fun _ => (pe_cmpR (op_ltD hr) (pe_ix (ixT K) (pv 1) (pv 0) (fun _ _ => rfl)) (pe_ix (ixT K) (pv 1) (pe_op op_add (pv 0) pe_int) (fun _ _ => rfl)) (nomark _)))) pa_nil)))), ?_⟩
    walk_at "vc1"
    refine ⟨_, rfl, a, _, rfl, SqT.of ha, _, _, rfl, rfl, _, rfl, by omega, by omega, fun l hl0 => comp_rangeP 0 _ (fun _ => true) (fun v => match v with | .int j => .bl (ltAtX H xs j.toNat) | v => v) (fun σ => ∃ o, σ = [o, some (.ref a)]) ⟨_, rfl⟩ (szt (by omega)) ?_ ?_⟩
    · rintro i σ ys N hi hz ⟨o, rfl⟩ hN
      have hi0 : i < xs.length := by omega
      have hi1 : i + 1 < xs.length := by omega
      have g1 : xs[i]? = some xs[i] := by simp
      have g2 : xs[i + 1]? = some xs[i + 1] := by simp
      have ha' := (SqT.of (K := K) ha).upd' (o := .lst ys) hl0
      have h := hN [some (.int (0 + i)), some (.ref a)] ⟨_, rfl⟩
      dsimp only at h
      rw [if_pos rfl] at h
      have cc := let_cmp (hx _ (List.getElem_mem hi0)) (hx _ (List.getElem_mem hi1))
      have kk : Kp H (upd H l (.lst ys)) := .of (Same.upd hl0)
      unfold turnOf
      walk_at "vc0"
      refine ⟨_, ha', _, (by rw [Int.zero_add]; exact atI_nat g1), _, ha', _, (by rw [Int.zero_add]; exact atI_nat (j := i + 1) g2), cc.kp kk, ys, upd_same, hz, ?_⟩
      rw [upd_upd, (cc.keeps kk).2]
      have e : ltAtX H xs ((0 : Int) + (i : Int)).toNat = ltD H 2 xs[i] xs[i + 1] := by
        rw [Int.zero_add, Int.toNat_natCast]
        unfold ltAtX
        rw [getD_at hi0, getD_at hi1]
      rw [e] at h
      exact h
    · refine ⟨l, rfl, (List.range (xs.length - 1)).map (ltAtX H xs), SqL.of ?_, ?_⟩
      · rw [upd_same]
        refine congrArg (fun z => some (HO.lst z)) ?_
        rw [List.filter_eq_self.mpr (fun _ _ => rfl), List.map_map]
        unfold isBl
        rw [List.map_map]
        have e : ((xs.length : Int) - 1).toNat = xs.length - 1 := by omega
        rw [e]
        refine List.map_congr_left fun i _ => ?_
        show V.bl (ltAtX H xs ((0 : Int) + (i : Int)).toNat) = _
        rw [Int.zero_add, Int.toNat_natCast]
        rfl
      · have e : ((List.range (xs.length - 1)).map (ltAtX H xs)).all id = risesD H xs := by
          unfold risesD
          rw [List.all_map]
          rfl
        rw [e]
        exact q _ (Same.upd hl0)
theorem sc_law_pot : FnScope ["_law_script", "_law_k", "_law_cell", "_law_great", "_law_mixed"] ["_law_script", "_law_k"] (defScope s_law_pot) := ⟨rfl, rfl, rfl, by decide +kernel, rfl, by decide +kernel, by decide +kernel⟩
set_option maxHeartbeats 4000000 in
theorem ok_law_pot (T : Txt K mg fs fds tc u)  : FnOk P w K mg base CX0 1 (fs 8) (fds 8) ["_law_script", "_law_k"] (spPot K) := by
  refine T.d_law_pot.F.ok sc_law_pot (fun vs H Q E h => ?_) (fun cdv A outer s H vs Q E hr h => ?_)
  · obtain ⟨a, ns, k, rfl, hS, hlen, hk0, hk, q⟩ := h
    rfl
  · obtain ⟨a, ns, k, rfl, hS, hlen, hk0, hk, q⟩ := h
    refine ⟨_, (pss_cons (ps_set (i := 2) sc_law_pot.nd rfl (Or.inl rfl) (pe_op op_add (pe_op op_mul pe_int (pv 1)) (pe_callB (lenL K) (by rfl) T.z_len bt_len (pa_cons (pv 0) pa_nil))))
      (pss_cons (ps_if (pt_cmpR op_lt (pv 1) (pe_callB (lenL K) (by rfl) T.z_len bt_len (pa_cons (pv 0) pa_nil)) (nomark _)) (pss_one (ps_set (i := 2) sc_law_pot.nd rfl (Or.inl rfl) (pe_ix (ixL K) (pv 0) (pv 1) (fun _ _ => rfl)))) pss_nil)
      (pss_cons (ps_set (i := 3) sc_law_pot.nd rfl (Or.inl rfl) (pe_op op_mul (pe_op op_mod (pe_callB call_abs (by rfl) T.z_abs bt_abs (pa_cons (pv 2) pa_nil)) (pe_op op_powB (pe_op op_powB pe_int pe_int) pe_int)) (pe_callTy call_int1 (by rfl) T.z_int bt_int (pa_cons (pe_cmpR op_ge (pe_callB call_abs (by rfl) T.z_abs bt_abs (pa_cons (pv 2) pa_nil)) (pe_op op_powB pe_int pe_int) (nomark _)) pa_nil))))
      (pss_cons (ps_set (i := 4) sc_law_pot.nd rfl (Or.inl rfl) (pe_op op_add (pe_op op_add (pe_op op_mod (pe_callB call_abs (by rfl) T.z_abs bt_abs (pa_cons (pv 2) pa_nil)) pe_int) (pe_op op_mul (pe_op op_mul pe_int (pv 1)) (pv 1))) pe_int))
      (pss_one (ps_ret (pe_lst (pa_cons (pv 3) (pa_cons (pe_op op_mod (pe_op op_mul (pe_op op_mod (pe_op op_mul (pv 4) (pv 4)) pe_int) pe_int) pe_int) pa_nil))))))))), ?_⟩
    have k1 : 0 ≤ 7919 * k * k := Int.mul_nonneg (by omega) hk0
    have k2 : 7919 * k * k ≤ 7919 * 63 * 63 := Int.mul_le_mul (by omega) (by omega) hk0 (by omega)
    refine tSeq_i ?_; walk_at "vc1"
    refine ⟨.inl ⟨by decide, by decide⟩, _, hS, ?_⟩
    refine tSeq_i ?_; walk_at "vc1"
    refine ⟨_, hS, ?_⟩
    refine ite2 (fun hlt => ?_) (fun _ => ?_)
    · obtain ⟨c, hc⟩ := atI_ints hk0 (by simpa using hlt)
      refine ⟨_, hS, _, hc, ?_⟩
      refine tSeq_i ?_; walk_at "vc1"
      refine ⟨by decide, by decide, by decide, by decide +kernel, big_pos, by decide, by decide, cmul_ite, ?_⟩
      refine tSeq_i ?_; walk_at "vc1"
      generalize (if c < 0 then -c else c) = d
      have g0 : 0 ≤ d % (10 ^ Int.toNat 60) ^ Int.toNat 3 * if decide (10 ^ Int.toNat 18 ≤ d) = true then 1 else 0 := Int.mul_nonneg (Int.emod_nonneg _ (Int.ne_of_gt big_pos)) ite01
      have d0 : 0 ≤ d % 2147483629 := Int.emod_nonneg _ (by decide)
      have d1 : d % 2147483629 < 2147483629 := Int.emod_lt_of_pos _ (by decide)
      refine ⟨by decide, .inl ⟨by decide, by decide⟩, .inl ⟨by omega, by omega⟩, .inl ⟨by omega, by omega⟩, by decide, .inl ⟨by omega, by omega⟩, by decide, by decide, fun p hp => q p _ hp ⟨_, _, upd_same, g0, by omega, by omega⟩ (Same.upd hp)⟩
    · generalize (7 * k + ((ns.map V.int).length : Int)) = c
      refine tSeq_i ?_; walk_at "vc1"
      refine ⟨by decide, by decide, by decide, by decide +kernel, big_pos, by decide, by decide, cmul_ite, ?_⟩
      refine tSeq_i ?_; walk_at "vc1"
      generalize (if c < 0 then -c else c) = d
      have g0 : 0 ≤ d % (10 ^ Int.toNat 60) ^ Int.toNat 3 * if decide (10 ^ Int.toNat 18 ≤ d) = true then 1 else 0 := Int.mul_nonneg (Int.emod_nonneg _ (Int.ne_of_gt big_pos)) ite01
      have d0 : 0 ≤ d % 2147483629 := Int.emod_nonneg _ (by decide)
      have d1 : d % 2147483629 < 2147483629 := Int.emod_lt_of_pos _ (by decide)
      refine ⟨by decide, .inl ⟨by decide, by decide⟩, .inl ⟨by omega, by omega⟩, .inl ⟨by omega, by omega⟩, by decide, .inl ⟨by omega, by omega⟩, by decide, by decide, fun p hp => q p _ hp ⟨_, _, upd_same, g0, by omega, by omega⟩ (Same.upd hp)⟩
theorem sc_law_take : FnScope ["_law_pot_here", "_law_many", "_law_digit"] ["_law_pot_here", "_law_many"] (defScope s_law_take) := ⟨rfl, rfl, rfl, by decide +kernel, rfl, by decide +kernel, by decide +kernel⟩
set_option maxHeartbeats 4000000 in
theorem ok_law_take (T : Txt K mg fs fds tc u)  : FnOk P w K mg base CX0 1 (fs 9) (fds 9) ["_law_pot_here", "_law_many"] spTakeB := by
  refine T.d_law_take.F.ok sc_law_take (fun vs H Q E h => ?_) (fun cdv A outer s H vs Q E hr h => ?_)
  · obtain ⟨p, n, rfl, hp, hn0, hn, q⟩ := h
    rfl
  · obtain ⟨p, n, rfl, hp, hn0, hn, q⟩ := h
    refine ⟨_, (pss_cons (ps_if (pt_cmpR op_gt (pe_ix (ixL K) (pv 0) pe_int (fun _ _ => rfl)) pe_int (nomark _)) (pss_cons (ps_set (i := 2) sc_law_take.nd rfl (Or.inl rfl) (pe_op op_mod (pe_ix (ixL K) (pv 0) pe_int (fun _ _ => rfl)) (pv 1)))
      (pss_cons (ps_asg (pe_op op_fdivB (pe_ix (ixL K) (pv 0) pe_int (fun _ _ => rfl)) (pv 1)) (pg_sub (pv 0) pe_int set_list))
      (pss_one (ps_ret (pv 2))))) pss_nil)
      (pss_cons (ps_asg (pe_op op_mod (pe_op op_add (pe_op op_mul (pe_ix (ixL K) (pv 0) pe_int (fun _ _ => rfl)) pe_int) pe_int) pe_int) (pg_sub (pv 0) pe_int set_list))
      (pss_one (ps_ret (pe_op op_mod (pe_op op_fdivB (pe_op op_mod (pe_op op_mul (pe_op op_fdivB (pe_ix (ixL K) (pv 0) pe_int (fun _ _ => rfl)) pe_int) (pe_op op_add (pe_op op_mod (pe_ix (ixL K) (pv 0) pe_int (fun _ _ => rfl)) pe_int) pe_int)) pe_int) pe_int) (pv 1)))))), ?_⟩
    obtain ⟨a, b, he, ha, hb0, hb⟩ := hp
    refine tSeq_i ?_; walk_at "vc1"
    refine ⟨_, SqL.of he, _, rfl, _, rfl, ?_⟩
    refine ite2 (fun _ => ?_) (fun _ => ?_)
    · refine tSeq_i ?_; walk_at "vc1"
      refine ⟨_, SqL.of he, _, rfl, _, rfl, hn0, ?_⟩
      refine tSeq_i ?_; walk_at "vc1"
      refine ⟨_, SqL.of he, _, rfl, _, rfl, ⟨hn0, by omega⟩, _, he, _, rfl, ?_⟩
      exact q _ _ (Int.emod_nonneg _ (by omega)) (Int.emod_lt_of_pos _ hn0) ⟨_, _, upd_same, Int.ediv_nonneg ha (by omega), hb0, hb⟩ But.upd
    · refine tSeq_i ?_; walk_at "vc1"
      refine ⟨_, SqL.of he, _, rfl, _, rfl, .inl ⟨by omega, by omega⟩, by decide, _, he, _, rfl, ?_⟩
      have c0 : 0 ≤ (b * 48271 + 12345) % 2147483647 := Int.emod_nonneg _ (by decide)
      have c1 : (b * 48271 + 12345) % 2147483647 < 2147483647 := Int.emod_lt_of_pos _ (by decide)
      generalize (b * 48271 + 12345) % 2147483647 = c at c0 c1
      have hu : upd H p (.lst [.int a, .int c]) p = some (.lst [.int a, .int c]) := upd_same
      refine ⟨_, SqL.of hu, _, rfl, _, rfl, ⟨by decide, by decide⟩, _, SqL.of hu, _, rfl, _, rfl, by decide, .inl ⟨by omega, by omega⟩, by decide, ⟨by decide, by decide⟩, hn0, ?_⟩
      exact q _ _ (Int.emod_nonneg _ (by omega)) (Int.emod_lt_of_pos _ hn0) ⟨_, _, hu, ha, c0, c1⟩ But.upd
theorem sc_law_signs : FnScope [] [] (defScope s_law_signs) := ⟨rfl, rfl, rfl, by decide +kernel, rfl, by decide +kernel, by decide +kernel⟩
set_option maxHeartbeats 4000000 in
theorem ok_law_signs (T : Txt K mg fs fds tc u)  : FnOk P w K mg base CX0 1 (fs 10) (fds 10) [] spSigns2 := by
  refine T.d_law_signs.F.ok sc_law_signs (fun vs H Q E h => ?_) (fun cdv A outer s H vs Q E hr h => ?_)
  · obtain ⟨rfl, q⟩ := h
    rfl
  · obtain ⟨rfl, q⟩ := h
    refine ⟨_, (pss_one (ps_ret (pe_op op_add_str pe_str pe_str))), ?_⟩
    walk_at "vc1"
    exact ⟨by decide +kernel, q _ (by decide +kernel) (fun c hc => of_decide_eq_true (List.all_eq_true.mp (show List.all _ (fun c => decide (c = 10 ∨ (32 ≤ c ∧ c ≤ 126))) = true by decide +kernel) c hc)) signs94⟩
theorem sc_law_is_name : FnScope ["_law_thing", "_law_signs_here"] ["_law_thing"] (defScope s_law_is_name) := ⟨rfl, rfl, rfl, by decide +kernel, rfl, by decide +kernel, by decide +kernel⟩
set_option maxHeartbeats 4000000 in
theorem ok_law_is_name (T : Txt K mg fs fds tc u)  : FnOk P w K mg base CX0 1 (fs 16) (fds 16) ["_law_thing"] spNameV := by
  refine T.d_law_is_name.F.ok sc_law_is_name (fun vs H Q E h => ?_) (fun cdv A outer s H vs Q E hr h => ?_)
  · obtain ⟨v, k, rfl, hT, q⟩ := h
    rfl
  · obtain ⟨v, k, rfl, hT, q⟩ := h
    refine ⟨_, (pss_cons (ps_set (i := 1) sc_law_is_name.nd rfl (Or.inr rfl) pe_str)
      (pss_one (ps_ret (pe_and (pe_callB (isiK K) (by rfl) T.z_isinstance bt_isinstance (pa_cons (pv 0) (pa_cons (pe_bltn (v := .ty "str") rfl T.z_str bt_str rfl) pa_nil))) (pe_and (pe_chain op_lt op_lt pe_int (pe_callB call_len_str (by rfl) T.z_len bt_len (pa_cons (pv 0) pa_nil)) pe_int) (pe_one (pe_cmpR (eqL K hr) (pe_lc ["_law_sign", "_law_signs_here"] 1 [1] ["_law_thing", "_law_signs_here"] (defScope s_law_is_name) rfl rfl rfl (pi_str (pv 0)) (by decide +kernel) (fun _ => (pg_name (i := 0) (show (["_law_sign", "_law_signs_here"] : List Str).Nodup by decide +kernel) rfl (Or.inl rfl))) (fun _ => (pts_one (pt_cmpR op_notin_str (pv 0) (pv 1) (by rfl)))) (fun _ => (pv 0))) (pe_lst pa_nil) (nomark _)))))))), ?_⟩
    refine tSeq_i ?_; walk_at "vc1"
    refine ⟨_, hT.is.ty, _, kd_str k, ?_⟩
    by_cases e : k = .str
    · subst e
      obtain ⟨x, rfl⟩ := hT.is
      have hx := hT.few x rfl
      rw [decide_eq_true rfl]
      refine iteT ?_
      walk_at "vc1"
      refine ⟨szl (by omega), ?_⟩
      refine iteD (fun g1 => iteD (fun g2 => ?_) (fun g2 => ?_)) (fun g1 => ?_)
      · refine ⟨_, rfl, x, rfl, fun l hl => comp_strP x (fun v => match v with | .str z => !!(Builtin.Str.occurrences (Str.ofString "abcdefghijklmnopqrstuvwxyz0123456789") z 0 (Str.ofString "abcdefghijklmnopqrstuvwxyz0123456789").length 1).isEmpty | v => true) id (fun σ => ∃ o, σ = [o, some (V.str (Str.ofString "abcdefghijklmnopqrstuvwxyz0123456789"))]) ⟨_, rfl⟩ (szt (by omega)) ?_ ?_⟩
        · rintro c σ xs N hc hz ⟨o, rfl⟩ hN
          unfold turnOf
          walk_at "vc1"
          refine ite2 (fun g => ?_) (fun g => ?_)
          · refine ⟨_, upd_same, hz, ?_⟩
            rw [upd_upd]
            have h := hN [some (V.str ⟨#[c]⟩), some (V.str (Str.ofString "abcdefghijklmnopqrstuvwxyz0123456789"))] ⟨_, rfl⟩
            dsimp only at h
            rw [if_pos (show _ = true from g)] at h
            exact h
          · have h := hN [some (V.str ⟨#[c]⟩), some (V.str (Str.ofString "abcdefghijklmnopqrstuvwxyz0123456789"))] ⟨_, rfl⟩
            dsimp only at h
            rw [if_neg (show ¬ _ = true from g)] at h
            exact h
        · refine ⟨Nat.zero_le _, fun m hm => ⟨l, rfl, _, SqL.of (by rw [upd_ne (ne_of_none upd_same hm), upd_same]), _, SqL.of upd_same, fun e => ?_, ?_⟩⟩
          · rw [List.eq_nil_of_length_eq_zero e]; exact ⟨rfl, rfl⟩
          · rw [eqLV_nil, none_out x _ (fun c => rfl)]
            have e : nameV (.str x) = x.cps.toList.all inS := by show nameB x = _; unfold nameB; rw [decide_eq_true (show 1 ≤ (x.length : Int) by omega), decide_eq_true (show (x.length : Int) ≤ 12 by omega)]; rfl
            rw [← e]
            exact q _ ((Same.upd hl).trans (Same.upd hm))
      · have e : nameV (.str x) = false := by show nameB x = false; unfold nameB; rw [decide_eq_false (show ¬ (x.length : Int) ≤ 12 by omega), Bool.and_false]; rfl
        rw [← e]
        exact q _ (Same.refl _)
      · have e : nameV (.str x) = false := by show nameB x = false; unfold nameB; rw [decide_eq_false (show ¬ 1 ≤ (x.length : Int) by omega)]; rfl
        rw [← e]
        exact q _ (Same.refl _)
    · rw [decide_eq_false e]
      refine iteF ?_
      have en := nameV_no (hT.is.not_str e)
      rw [← en]
      exact q H (Same.refl _)
theorem sc_law_alike : FnScope ["_law_found", "_law_due"] ["_law_found", "_law_due"] (defScope s_law_alike) := ⟨rfl, rfl, rfl, by decide +kernel, rfl, by decide +kernel, by decide +kernel⟩
set_option maxHeartbeats 4000000 in
theorem ok_law_alike (T : Txt K mg fs fds tc u)  : FnOk P w K mg base CX0 1 (fs 21) (fds 21) ["_law_found", "_law_due"] spAlike := by
  refine T.d_law_alike.F.ok sc_law_alike (fun vs H Q E h => ?_) (fun cdv A outer s H vs Q E hr h => ?_)
  · obtain ⟨a, b, rfl, q⟩ := h
    rfl
  · obtain ⟨a, b, rfl, q⟩ := h
    refine ⟨_, (pss_one (ps_ret (pe_and (pe_callB (isiK K) (by rfl) T.z_isinstance bt_isinstance (pa_cons (pv 0) (pa_cons (pe_bltn (v := .ty "bool") rfl T.z_bool bt_bool rfl) pa_nil))) (pe_one (pe_cmpR op_eq (pv 0) (pv 1) (nomark _)))))), ?_⟩
    walk_at "vc1"
    exact ⟨_, .bl a, _, kit_bool_bool, iteT ⟨rfl, q⟩⟩
theorem sc_is_day : FnScope ["thing"] ["thing"] (defScope s_is_day) := ⟨rfl, rfl, rfl, by decide +kernel, rfl, by decide +kernel, by decide +kernel⟩
set_option maxHeartbeats 4000000 in
theorem ok_is_day (T : Txt K mg fs fds tc u) (G_is_whole : FnOk P w K mg base CX0 1 (fs 1) (fds 1) ["thing"] spWhole) : FnOk P w K mg base CX0 2 (fs 2) (fds 2) ["thing"] spDayV := by
  refine T.d_is_day.F.ok sc_is_day (fun vs H Q E h => ?_) (fun cdv A outer s H vs Q E hr h => ?_)
  · obtain ⟨v, k, rfl, hT, q⟩ := h
    rfl
  · obtain ⟨v, k, rfl, hT, q⟩ := h
    refine ⟨_, (pss_one (ps_ret (pe_and (pe_fn T.d_is_whole G_is_whole hr (by decide) rfl (pa_cons (pv 0) pa_nil)) (pe_one (pe_chain op_le op_le pe_int (pv 0) (pe_glob (v := .int 99999999) rfl T.c_LAST_DAY T.r_LAST_DAY)))))), ?_⟩
    walk_at "vc1"
    refine ⟨v, k, rfl, hT, _, rfl, ?_⟩
    by_cases e : k = .int
    · subst e
      obtain ⟨i, rfl⟩ := hT.is
      rw [decide_eq_true rfl]
      refine iteT ⟨_, rfl, iteD (fun g => ⟨_, rfl, ?_⟩) (fun g => ?_)⟩
      · have e : dayV (.int i) = decide (i ≤ 99999999) := by show (decide (0 ≤ i) && decide (i ≤ 99999999)) = _; rw [decide_eq_true g, Bool.true_and]
        rw [← e]; exact q
      · have e : dayV (.int i) = false := by show (decide (0 ≤ i) && decide (i ≤ 99999999)) = _; rw [decide_eq_false g, Bool.false_and]
        rw [← e]; exact q
    · rw [dayV_no hT.is e] at q
      rw [decide_eq_false e]
      exact iteF q
theorem sc_is_row : FnScope ["thing"] ["thing"] (defScope s_is_row) := ⟨rfl, rfl, rfl, by decide +kernel, rfl, by decide +kernel, by decide +kernel⟩
set_option maxHeartbeats 4000000 in
theorem ok_is_row (T : Txt K mg fs fds tc u) (G_is_name : FnOk P w K mg base CX0 1 (fs 0) (fds 0) ["thing"] spNameV) : FnOk P w K mg base CX0 2 (fs 4) (fds 4) ["thing"] (spP rowV 1) := by
  refine T.d_is_row.F.ok sc_is_row (fun vs H Q E h => ?_) (fun cdv A outer s H vs Q E hr h => ?_)
  · obtain ⟨v, rfl, hA, q⟩ := h
    rfl
  · obtain ⟨v, rfl, hA, q⟩ := h
    refine ⟨_, (pss_cons (ps_if (PW.pt (pw_or (pt_not (pt_val (pe_callB (isiK K) (by rfl) T.z_isinstance bt_isinstance (pa_cons (pv 0) (pa_cons (pe_bltn (v := .ty "tuple") rfl T.z_tuple bt_tuple rfl) pa_nil))))) (pw_or1 (pt_cmpR op_gt (pe_callB (lenT K) (by rfl) T.z_len bt_len (pa_cons (pv 0) pa_nil)) (pe_glob (v := .int 9) rfl T.c_LONGEST_ROW T.r_LONGEST_ROW) (nomark _))))) (pss_one (ps_ret pe_bl)) pss_nil)
      (pss_one (ps_ret (pe_callB (allL K rfl) (by rfl) T.z_all bt_all (pa_cons (pe_lc ["part"] 1 [] ["thing"] (defScope s_is_row) rfl rfl rfl (pi_tpl K (pv 0)) (by decide +kernel) (fun _ => (pg_name (i := 0) (show (["part"] : List Str).Nodup by decide +kernel) rfl (Or.inl rfl))) (fun _ => pts_nil) (fun _ => (pe_fn T.d_is_name G_is_name hr (by decide) rfl (pa_cons (pv 0) pa_nil)))) pa_nil))))), ?_⟩
    obtain ⟨⟨k, hT⟩, hx⟩ := hA
    refine tSeq_i ?_; walk_at "vc1"
    refine ⟨_, hT.is.ty, _, kd_tup k, ?_⟩
    rcases hT.tup with ⟨rfl, a, xs, rfl, ha, et⟩ | ⟨n, et⟩
    · rw [decide_eq_true rfl]
      refine notyes ?_
      have hx := hx xs et
      have hxl := hx.1
      have eq : rowV H (.ref a) = (!decide (9 < (xs.length : Int)) && xs.all nameV) := by unfold rowV; rw [et]
      rw [eq] at q
      walk_at "vc1"
      refine ⟨_, SqT.of ha, iteD (fun g1 => ?_) (fun g1 => ?_)⟩
      · rw [decide_eq_true g1] at q
        exact q _ (Same.refl _)
      · rw [decide_eq_false g1] at q
        refine ⟨_, rfl, a, rfl, ⟨_, SqT.of ha⟩, fun l hl0 => comp_tupG (SqT.of ha) (fun v => .bl (nameV v)) (fun σ => ∃ o, σ = [o]) ⟨_, rfl⟩ hl0 (szt (by omega)) ?_ ?_⟩
        · rintro i x σ H1 ys N hxi ⟨o, rfl⟩ s1 e1 hz hN
          obtain ⟨k', hk'⟩ := hx.2 x (List.mem_of_getElem? hxi)
          unfold turnOf
          walk_at "vc0"
          exact ⟨x, k', rfl, hk'.same s1, fun H2 s2 => ⟨ys, s2 _ _ e1, hz, hN _ _ ⟨_, rfl⟩ (fun b o h n => by rw [upd_ne n]; exact s2 b o h) upd_same⟩⟩
        · intro H1 s1 e1
          refine ⟨l, rfl, xs.map nameV, SqL.of (by rw [e1]; unfold isBl; rw [List.map_map]; rfl), ?_⟩
          rw [show (xs.map nameV).all id = (!false && xs.all nameV) from by rw [List.all_map]; rfl]
          exact q _ s1
    · have eq : rowV H v = false := by unfold rowV; rw [et]
      rw [eq] at q
      rw [decide_eq_false n]
      exact notnot (q H (Same.refl _))
theorem sc_law_name : FnScope ["_law_pot_here", "_law_signs_here", "_law_choice"] ["_law_pot_here"] (defScope s_law_name) := ⟨rfl, rfl, rfl, by decide +kernel, rfl, by decide +kernel, by decide +kernel⟩
set_option maxHeartbeats 4000000 in
theorem ok_law_name (T : Txt K mg fs fds tc u) (G_law_take : FnOk P w K mg base CX0 1 (fs 9) (fds 9) ["_law_pot_here", "_law_many"] spTakeB) : FnOk P w K mg base CX0 2 (fs 11) (fds 11) ["_law_pot_here"] spNm := by
  refine T.d_law_name.F.ok sc_law_name (fun vs H Q E h => ?_) (fun cdv A outer s H vs Q E hr h => ?_)
  · obtain ⟨p, rfl, hp, q⟩ := h
    rfl
  · obtain ⟨p, rfl, hp, q⟩ := h
    refine ⟨_, (pss_cons (ps_set (i := 1) sc_law_name.nd rfl (Or.inr rfl) pe_str)
      (pss_cons (ps_set (i := 2) sc_law_name.nd rfl (Or.inl rfl) (pe_fn T.d_law_take G_law_take hr (by decide) rfl (pa_cons (pv 0) (pa_cons pe_int pa_nil))))
      (pss_cons (ps_if (pt_cmpR op_eq (pv 2) pe_int (nomark _)) (pss_one (ps_ret (pe_bmK K PySem.F.plainAttrs_str PySem.F.slot_str_join PySem.F.type_str_join (joinK K) pe_str (pa_cons (pe_lc ["_law_k", "_law_signs_here", "_law_pot_here"] 1 [1, 0] ["_law_pot_here", "_law_signs_here", "_law_choice"] (defScope s_law_name) rfl rfl rfl (pi_range1 rfl T.z_range (pa_cons (pe_op op_add pe_int (pe_fn T.d_law_take G_law_take hr (by decide) rfl (pa_cons (pv 0) (pa_cons pe_int pa_nil)))) pa_nil)) (by decide +kernel) (fun _ => (pg_name (i := 0) (show (["_law_k", "_law_signs_here", "_law_pot_here"] : List Str).Nodup by decide +kernel) rfl (Or.inl rfl))) (fun _ => pts_nil) (fun _ => (pe_ix ix_str (pv 1) (pe_fn T.d_law_take G_law_take hr (by decide) rfl (pa_cons (pv 2) (pa_cons pe_int pa_nil))) (fun _ _ => rfl)))) pa_nil)))) pss_nil)
      (pss_cons (ps_if (pt_cmpR op_eq (pv 2) pe_int (nomark _)) (pss_one (ps_ret (pe_bmK K PySem.F.plainAttrs_str PySem.F.slot_str_join PySem.F.type_str_join (joinK K) pe_str (pa_cons (pe_lc ["_law_k", "_law_signs_here", "_law_pot_here"] 1 [1, 0] ["_law_pot_here", "_law_signs_here", "_law_choice"] (defScope s_law_name) rfl rfl rfl (pi_range1 rfl T.z_range (pa_cons pe_int pa_nil)) (by decide +kernel) (fun _ => (pg_name (i := 0) (show (["_law_k", "_law_signs_here", "_law_pot_here"] : List Str).Nodup by decide +kernel) rfl (Or.inl rfl))) (fun _ => pts_nil) (fun _ => (pe_ix ix_str (pv 1) (pe_fn T.d_law_take G_law_take hr (by decide) rfl (pa_cons (pv 2) (pa_cons pe_int pa_nil))) (fun _ _ => rfl)))) pa_nil)))) pss_nil)
      (pss_one (ps_ret (pe_bmK K PySem.F.plainAttrs_str PySem.F.slot_str_join PySem.F.type_str_join (joinK K) pe_str (pa_cons (pe_lc ["_law_k", "_law_signs_here", "_law_pot_here"] 1 [1, 0] ["_law_pot_here", "_law_signs_here", "_law_choice"] (defScope s_law_name) rfl rfl rfl (pi_range1 rfl T.z_range (pa_cons (pe_op op_add pe_int (pe_fn T.d_law_take G_law_take hr (by decide) rfl (pa_cons (pv 0) (pa_cons pe_int pa_nil)))) pa_nil)) (by decide +kernel) (fun _ => (pg_name (i := 0) (show (["_law_k", "_law_signs_here", "_law_pot_here"] : List Str).Nodup by decide +kernel) rfl (Or.inl rfl))) (fun _ => pts_nil) (fun _ => (pe_ix ix_str (pv 1) (pe_fn T.d_law_take G_law_take hr (by decide) rfl (pa_cons (pv 2) (pa_cons pe_int pa_nil))) (fun _ _ => rfl)))) pa_nil)))))))), ?_⟩
    refine tSeq_i ?_; walk_at "vc1"
    refine tSeq_i ?_; walk_at "vc1"
    refine ⟨p, 4, rfl, hp, by decide, by decide, fun ch H1 hc0 hc1 hp1 b1 => ?_⟩
    have e36 : ABC.length = 36 := by decide +kernel
    have e0 : (Str.ofString "").length = 0 := by decide +kernel
    have fin : ∀ (m : Int) (zs : List Str) (l : Addr) (H4 : Hp), H4 l = some (.lst (zs.map V.str)) → (∀ z ∈ zs, z.length = 1 ∧ ∀ c ∈ z.cps.toList, ∃ i : Nat, (i : Int) < m ∧ ABC.cps.toList[i]? = some c) → 1 ≤ zs.length → zs.length ≤ 12 → Pot H4 p → But p H H4 → rJoin K (.str (Str.ofString "")) [.ref l] H4 Q := fun m zs l H4 e hz hl1 hl hp4 b4 =>
      ⟨_, l, zs, rfl, rfl, SqL.of e, by rw [e0, join_len fun z hm => (hz z hm).1]; omega, q _ H4 (nameB_of (by rw [join0_len fun z hm => (hz z hm).1]; exact hl1) (by rw [join0_len fun z hm => (hz z hm).1]; exact hl) fun c hc => by
        obtain ⟨y, hy, hcy⟩ := join0_mem hc
        obtain ⟨i, _, hi⟩ := (hz y hy).2 c hcy
        exact List.mem_of_getElem? hi) hp4 b4⟩
    refine tSeq_i ?_; walk_at "vc2"
    refine ⟨rfl, iteD (fun g1 => ?_) (fun g1 => ?_)⟩
    · exact ⟨rfl, _, rfl, p, 12, rfl, hp1, by decide, by decide, fun m2 H3 h0 h1 hp3 b3 => ⟨_, _, rfl, rfl, _, rfl, by omega, by omega, fun l hl => draw_C (Z := ABC) _ rfl hp3 hl (by omega) (by decide) (by rw [e36]; decide) (by rw [e36]; decide) fun zs H4 e hz hn hp4 b4 => fin _ zs l H4 e hz (by omega) (by omega) hp4 ((b1.trans b3).trans b4)⟩⟩
    · refine tSeq_i ?_; walk_at "vc2"
      refine ⟨rfl, iteD (fun g2 => ?_) (fun g2 => ?_)⟩
      · exact ⟨rfl, _, rfl, by omega, by omega, fun l hl => draw_C (Z := ABC) _ rfl hp1 hl (by omega) (by decide) (by rw [e36]; decide) (by rw [e36]; decide) fun zs H4 e hz hn hp4 b4 => fin _ zs l H4 e hz (by omega) (by omega) hp4 (b1.trans b4)⟩
      · exact ⟨rfl, _, rfl, p, 2, rfl, hp1, by decide, by decide, fun m2 H3 h0 h1 hp3 b3 => ⟨_, _, rfl, rfl, _, rfl, by omega, by omega, fun l hl => draw_C (Z := ABC) _ rfl hp3 hl (by omega) (by decide) (by rw [e36]; decide) (by rw [e36]; decide) fun zs H4 e hz hn hp4 b4 => fin _ zs l H4 e hz (by omega) (by omega) hp4 ((b1.trans b3).trans b4)⟩⟩
theorem sc_law_day : FnScope ["_law_pot_here", "_law_choice"] ["_law_pot_here"] (defScope s_law_day) := ⟨rfl, rfl, rfl, by decide +kernel, rfl, by decide +kernel, by decide +kernel⟩
set_option maxHeartbeats 4000000 in
theorem ok_law_day (T : Txt K mg fs fds tc u) (G_law_take : FnOk P w K mg base CX0 1 (fs 9) (fds 9) ["_law_pot_here", "_law_many"] spTakeB) : FnOk P w K mg base CX0 2 (fs 12) (fds 12) ["_law_pot_here"] spDayD := by
  refine T.d_law_day.F.ok sc_law_day (fun vs H Q E h => ?_) (fun cdv A outer s H vs Q E hr h => ?_)
  · obtain ⟨p, rfl, hp, q⟩ := h
    rfl
  · obtain ⟨p, rfl, hp, q⟩ := h
    refine ⟨_, (pss_cons (ps_set (i := 1) sc_law_day.nd rfl (Or.inl rfl) (pe_fn T.d_law_take G_law_take hr (by decide) rfl (pa_cons (pv 0) (pa_cons pe_int pa_nil))))
      (pss_cons (ps_if (pt_cmpR op_eq (pv 1) pe_int (nomark _)) (pss_one (ps_ret (pe_op op_sub pe_int (pe_fn T.d_law_take G_law_take hr (by decide) rfl (pa_cons (pv 0) (pa_cons pe_int pa_nil)))))) pss_nil)
      (pss_cons (ps_if (pt_cmpR op_eq (pv 1) pe_int (nomark _)) (pss_one (ps_ret (pe_fn T.d_law_take G_law_take hr (by decide) rfl (pa_cons (pv 0) (pa_cons pe_int pa_nil))))) pss_nil)
      (pss_one (ps_ret (pe_op op_add pe_int (pe_fn T.d_law_take G_law_take hr (by decide) rfl (pa_cons (pv 0) (pa_cons pe_int pa_nil))))))))), ?_⟩
    refine tSeq_i ?_; walk_at "vc1"
    refine ⟨p, 4, rfl, hp, by decide, by decide, fun ch H1 hc0 hc1 hp1 b1 => ?_⟩
    refine tSeq_i ?_; walk_at "vc1"
    refine ⟨rfl, iteD (fun g1 => ?_) (fun g1 => ?_)⟩
    · exact ⟨p, 2, rfl, hp1, by decide, by decide, fun d H2 d0 d1 hp2 b2 => ⟨_, rfl, q _ H2 (by omega) (by omega) hp2 (b1.trans b2)⟩⟩
    · refine tSeq_i ?_; walk_at "vc1"
      refine ⟨rfl, iteD (fun g2 => ?_) (fun g2 => ?_)⟩
      · exact ⟨p, _, rfl, hp1, by decide, by decide, fun d H2 d0 d1 hp2 b2 => q d H2 d0 (by omega) hp2 (b1.trans b2)⟩
      · exact ⟨p, _, rfl, hp1, by decide, by decide, fun d H2 d0 d1 hp2 b2 => ⟨_, rfl, q _ H2 (by omega) (by omega) hp2 (b1.trans b2)⟩⟩
theorem sc_law_is_letter : FnScope ["_law_thing", "_law_name_here", "_law_day_here", "_law_head", "_law_row"] ["_law_thing"] (defScope s_law_is_letter) := ⟨rfl, rfl, rfl, by decide +kernel, rfl, by decide +kernel, by decide +kernel⟩
set_option maxHeartbeats 4000000 in
theorem ok_law_is_letter (T : Txt K mg fs fds tc u) (G_law_is_name : FnOk P w K mg base CX0 1 (fs 16) (fds 16) ["_law_thing"] spNameV) : FnOk P w K mg base CX0 2 (fs 17) (fds 17) ["_law_thing"] spLetL := by
  refine T.d_law_is_letter.F.ok sc_law_is_letter (fun vs H Q E h => ?_) (fun cdv A outer s H vs Q E hr h => ?_)
  · obtain ⟨v, rfl, hA, hM, q⟩ := h
    rfl
  · obtain ⟨v, rfl, hA, hM, q⟩ := h
    refine ⟨_, (pss_cons (ps_if (PW.pt (pw_or (pt_not (pt_val (pe_callB (isiK K) (by rfl) T.z_isinstance bt_isinstance (pa_cons (pv 0) (pa_cons (pe_bltn (v := .ty "tuple") rfl T.z_tuple bt_tuple rfl) pa_nil))))) (pw_or1 (pt_cmpR op_ne (pe_callB (lenT K) (by rfl) T.z_len bt_len (pa_cons (pv 0) pa_nil)) pe_int (nomark _))))) (pss_one (ps_ret pe_bl)) pss_nil)
      (pss_cons (ps_asg (pv 0) (pg_tupK (n := 4) K rfl (pgs_cons (pg_name (i := 1) sc_law_is_letter.nd rfl (Or.inl rfl)) (pgs_cons (pg_name (i := 2) sc_law_is_letter.nd rfl (Or.inl rfl)) (pgs_cons (pg_name (i := 3) sc_law_is_letter.nd rfl (Or.inl rfl)) (pgs_cons (pg_name (i := 4) sc_law_is_letter.nd rfl (Or.inl rfl)) pgs_nil))))))
      (pss_cons (ps_if (PW.pt (pw_or (pt_not (pt_val (pe_callB (isiK K) (by rfl) T.z_isinstance bt_isinstance (pa_cons (pv 3) (pa_cons (pe_bltn (v := .ty "str") rfl T.z_str bt_str rfl) pa_nil))))) (pw_or (pt_cmpR op_gt (pe_callB call_len_str (by rfl) T.z_len bt_len (pa_cons (pv 3) pa_nil)) pe_int (nomark _)) (pw_or1 (pt_cmpR op_in_str pe_str (pv 3) (by rfl)))))) (pss_one (ps_ret pe_bl)) pss_nil)
      (pss_cons (ps_if (PW.pt (pw_or (pt_not (pt_val (pe_callB (isiK K) (by rfl) T.z_isinstance bt_isinstance (pa_cons (pv 2) (pa_cons (pe_bltn (v := .ty "int") rfl T.z_int bt_int rfl) pa_nil))))) (pw_or (pt_val (pe_callB (isiK K) (by rfl) T.z_isinstance bt_isinstance (pa_cons (pv 2) (pa_cons (pe_bltn (v := .ty "bool") rfl T.z_bool bt_bool rfl) pa_nil)))) (pw_or1 (pt_not (pt_chain op_le op_lt pe_int (pv 2) (pe_op op_powB pe_int pe_int))))))) (pss_one (ps_ret pe_bl)) pss_nil)
      (pss_cons (ps_if (PW.pt (pw_or (pt_not (pt_val (pe_fn T.d_law_is_name G_law_is_name hr (by decide) rfl (pa_cons (pv 1) pa_nil)))) (pw_or (pt_not (pt_val (pe_callB (isiK K) (by rfl) T.z_isinstance bt_isinstance (pa_cons (pv 4) (pa_cons (pe_bltn (v := .ty "tuple") rfl T.z_tuple bt_tuple rfl) pa_nil))))) (pw_or1 (pt_cmpR op_gt (pe_callB (lenT K) (by rfl) T.z_len bt_len (pa_cons (pv 4) pa_nil)) pe_int (nomark _)))))) (pss_one (ps_ret pe_bl)) pss_nil)
      (pss_one (ps_ret (pe_cmpR (eqL K hr) (pe_lc ["_law_one"] 1 [] ["_law_thing", "_law_name_here", "_law_day_here", "_law_head", "_law_row"] (defScope s_law_is_letter) rfl rfl rfl (pi_tpl K (pv 4)) (by decide +kernel) (fun _ => (pg_name (i := 0) (show (["_law_one"] : List Str).Nodup by decide +kernel) rfl (Or.inl rfl))) (fun _ => (pts_one (pt_not (pt_val (pe_fn T.d_law_is_name G_law_is_name hr (by decide) rfl (pa_cons (pv 0) pa_nil)))))) (fun _ => (pv 0))) (pe_lst pa_nil) (nomark _))))))))), ?_⟩
    obtain ⟨⟨k, hT⟩, hx⟩ := hA
    refine tSeq_i ?_; walk_at "vc1"
    refine ⟨_, hT.is.ty, _, kd_tup k, ?_⟩
    rcases hT.tup with ⟨rfl, a, xs, rfl, ha, et⟩ | ⟨nn, et⟩
    rotate_left
    · have eq : letterV H v = false := by unfold letterV; rw [et]
      rw [eq] at q
      rw [decide_eq_false nn]
      exact notnot (q H (Same.refl _))
    · rw [decide_eq_true rfl]
      refine notyes ?_
      have hx := hx xs et
      have hO := hM.2 xs et
      walk_at "vc1"
      refine ⟨_, SqT.of ha, rfl, ?_⟩
      by_cases h4 : ¬ xs.length = 4
      · have eq : letterV H (.ref a) = false := by unfold letterV; rw [et]; exact letterL_no h4
        rw [eq] at q
        rw [decide_eq_false (show ¬ (xs.length : Int) = 4 by omega)]
        exact notnot (q H (Same.refl _))
      · obtain ⟨n, d, hh, r, rfl⟩ : ∃ n d hh r, xs = [n, d, hh, r] := by
          match xs, Classical.not_not.mp h4 with
          | [n, d, hh, r], _ => exact ⟨n, d, hh, r, rfl⟩
        rw [decide_eq_true (show (([n, d, hh, r] : List V).length : Int) = 4 from rfl)]
        refine notyes ?_
        have eq : letterV H (.ref a) = (nameV n && (dayV d && (headV hh && rowV H r))) := by unfold letterV; rw [et]; rfl
        rw [eq] at q
        have hO : HeadOk hh := hO hh (by simp)
        obtain ⟨kr, hTr⟩ := (hx.2 r (by simp)).tg
        have hRr := hx.2 r (by simp)
        have hx : ∀ x ∈ [n, d, hh, r], ∃ k', Tg H x k' := fun x m => (hx.2 x m).tg
        obtain ⟨kn, hn⟩ := hx n (by simp)
        obtain ⟨kd, hd⟩ := hx d (by simp)
        obtain ⟨kh, hhd⟩ := hx hh (by simp)
        refine tSeq_i ?_; walk_at "vc1"
        refine ⟨_, SqT.of ha, rfl, _, _, rfl, _, _, rfl, _, _, rfl, _, _, rfl, rfl, ?_⟩
        refine tSeq_i ?_; walk_at "vc1"
        refine ⟨_, hhd.is.ty, _, kd_str kh, ?_⟩
        by_cases e3 : kh = .str
        · subst e3
          obtain ⟨x, rfl⟩ := hhd.is
          have hxl := hhd.few x rfl
          rw [decide_eq_true rfl]
          refine notyes ?_
          walk_at "vc1"
          refine ⟨szl (by omega), iteD (fun g1 => ?_) (fun g1 => ite2 (fun g2 => ?_) (fun g2 => ?_))⟩
          · have e : headV (.str x) = false := by show (!decide (60 < (x.length : Int)) && _) = false; rw [decide_eq_true g1]; rfl
            rw [e, Bool.false_and, Bool.and_false, Bool.and_false] at q
            exact q H (Same.refl _)
          · have e : headV (.str x) = false := by rw [head_nl hO g1]; unfold nlIn; rw [g2]; rfl
            rw [e, Bool.false_and, Bool.and_false, Bool.and_false] at q
            exact q H (Same.refl _)
          · have e : headV (.str x) = true := by
              rw [head_nl hO g1]; unfold nlIn
              rw [Bool.not_eq_true] at g2; rw [g2]; rfl
            rw [e, Bool.true_and] at q
            refine tSeq_i ?_; walk_at "vc1"
            refine ⟨_, hd.is.ty, _, kd_int kd, ?_⟩
            by_cases ed : kd = .int
            · subst ed
              have hty := hd.is.ty (K := K)
              obtain ⟨i, rfl⟩ := hd.is
              rw [decide_eq_true rfl, Bool.true_or]
              refine notyes ⟨_, hty, _, kd_bool .int, ?_⟩
              rw [decide_eq_false (show ¬ Kd.int = Kd.bl by decide)]
              refine iteF ?_
              walk_at "vc1"
              refine iteD (fun g0 => ⟨by decide, by decide +kernel, ?_⟩) (fun g0 => ?_)
              · have e8 : (10:Int) ^ Int.toNat 8 = 100000000 := by decide +kernel
                rw [e8]
                by_cases gi : i < 100000000
                · rw [decide_eq_true gi]
                  refine notyes ?_
                  have ed : dayV (.int i) = true := by show (decide (0 ≤ i) && decide (i ≤ 99999999)) = true; rw [decide_eq_true g0, decide_eq_true (show i ≤ 99999999 by omega)]; rfl
                  rw [ed, Bool.true_and] at q
                  refine tSeq_i ?_; walk_at "vc1"
                  refine ⟨n, kn, rfl, hn, fun H1 s1 => ⟨_, rfl, ?_⟩⟩
                  cases en : nameV n with
                  | false =>
                    rw [en, Bool.false_and] at q
                    exact notnot (q H1 s1)
                  | true =>
                    rw [en, Bool.true_and] at q
                    refine notyes ⟨_, (hTr.same s1).is.ty, _, kd_tup kr, ?_⟩
                    rcases hTr.tup with ⟨rfl, ar, rs, rfl, har0, er⟩ | ⟨er, er2⟩
                    rotate_left
                    · have e : rowV H r = false := by unfold rowV; rw [er2]
                      rw [e] at q
                      rw [decide_eq_false er]
                      exact notnot (q H1 s1)
                    · have hrx := (hRr.2 rs er).2
                      have hrl := (hRr.2 rs er).1
                      have har := s1 _ _ har0
                      have er : rowV H (.ref ar) = (!decide (9 < (rs.length : Int)) && rs.all nameV) := by unfold rowV; rw [er]
                      rw [er] at q
                      rw [decide_eq_true rfl]
                      refine notyes ⟨ar, rfl, rs, SqT.of har, iteD (fun g9 => ?_) (fun g9 => ?_)⟩
                      · rw [decide_eq_true g9] at q
                        exact q H1 s1
                      · rw [decide_eq_false g9] at q
                        refine ⟨_, rfl, ar, rfl, ⟨_, SqT.of har⟩, fun l hl0 => comp_tupF (SqT.of har) (fun v => !nameV v) id (fun σ => ∃ o, σ = [o]) ⟨_, rfl⟩ hl0 (szt (by omega)) ?_ ?_⟩
                        · rintro j y σ H2 ys N hxi ⟨o, rfl⟩ s2 e1 hz hN
                          obtain ⟨k', hk'⟩ := hrx y (List.mem_of_getElem? hxi)
                          unfold turnOf
                          walk_at "vc1"
                          refine ⟨y, k', rfl, hk'.same (s1.trans s2), fun H3 s3 => ⟨_, rfl, ?_⟩⟩
                          cases ey : nameV y with
                          | true =>
                            refine notyes (hN _ _ ⟨_, rfl⟩ (fun b o h n => s3 b o h) ?_)
                            rw [ey]; exact s3 _ _ e1
                          | false =>
                            refine notnot ⟨ys, s3 _ _ e1, hz, hN _ _ ⟨_, rfl⟩ (fun b o h n => by rw [upd_ne n]; exact s3 b o h) ?_⟩
                            rw [ey]; exact upd_same
                        · intro H2 s2 e2
                          refine ⟨Nat.zero_le _, fun m hm => ⟨l, rfl, _, SqL.of (by rw [upd_ne (ne_of_none e2 hm), e2]), _, SqL.of upd_same, fun e => ?_, ?_⟩⟩
                          · rw [List.eq_nil_of_length_eq_zero e]; exact ⟨rfl, rfl⟩
                          · rw [eqLV_nil, none_outV]
                            exact q _ ((s1.trans s2).trans (Same.upd hm))
                · rw [decide_eq_false gi]
                  refine notnot ?_
                  have ed : dayV (.int i) = false := by show (decide (0 ≤ i) && decide (i ≤ 99999999)) = false; rw [decide_eq_true g0, decide_eq_false (show ¬ i ≤ 99999999 by omega)]; rfl
                  rw [ed, Bool.false_and, Bool.and_false] at q
                  exact q H (Same.refl _)
              · have ed : dayV (.int i) = false := by show (decide (0 ≤ i) && decide (i ≤ 99999999)) = false; rw [decide_eq_false g0]; rfl
                rw [ed, Bool.false_and, Bool.and_false] at q
                exact q H (Same.refl _)
            · rw [dayV_no hd.is ed, Bool.false_and, Bool.and_false] at q
              by_cases e2 : kd = .bl
              · subst e2
                rw [decide_eq_true (show Kd.bl = Kd.bl from rfl), Bool.or_true]
                refine notyes ⟨_, hd.is.ty, _, kd_bool .bl, ?_⟩
                rw [decide_eq_true rfl]
                exact iteT (q H (Same.refl _))
              · rw [decide_eq_false ed, decide_eq_false e2]
                exact notnot (q H (Same.refl _))
        · rw [headV_no (hhd.is.not_str e3), Bool.false_and, Bool.and_false, Bool.and_false] at q
          rw [decide_eq_false e3]
          exact notnot (q H (Same.refl _))
theorem sc_law_letter_spoilt : FnScope ["_law_pot_here", "_law_letter_here", "_law_name_here", "_law_day_here", "_law_head", "_law_row", "_law_choice", "_law_some"] ["_law_pot_here", "_law_letter_here"] (defScope s_law_letter_spoilt) := ⟨rfl, rfl, rfl, by decide +kernel, rfl, by decide +kernel, by decide +kernel⟩
set_option maxHeartbeats 4000000 in
theorem ok_law_letter_spoilt (T : Txt K mg fs fds tc u) (G_law_take : FnOk P w K mg base CX0 1 (fs 9) (fds 9) ["_law_pot_here", "_law_many"] spTakeB) : FnOk P w K mg base CX0 2 (fs 19) (fds 19) ["_law_pot_here", "_law_letter_here"] spSpoil1 := by
  refine T.d_law_letter_spoilt.F.ok sc_law_letter_spoilt (fun vs H Q E h => ?_) (fun cdv A outer s H vs Q E hr h => ?_)
  · obtain ⟨p, v, rfl, hp, hv, q⟩ := h
    rfl
  · obtain ⟨p, v, rfl, hp, hv, q⟩ := h
    refine ⟨_, (pss_cons (ps_asg (pv 1) (pg_tupK (n := 4) K rfl (pgs_cons (pg_name (i := 2) sc_law_letter_spoilt.nd rfl (Or.inl rfl)) (pgs_cons (pg_name (i := 3) sc_law_letter_spoilt.nd rfl (Or.inl rfl)) (pgs_cons (pg_name (i := 4) sc_law_letter_spoilt.nd rfl (Or.inl rfl)) (pgs_cons (pg_name (i := 5) sc_law_letter_spoilt.nd rfl (Or.inl rfl)) pgs_nil))))))
      (pss_cons (ps_set (i := 6) sc_law_letter_spoilt.nd rfl (Or.inl rfl) (pe_fn T.d_law_take G_law_take hr (by decide) rfl (pa_cons (pv 0) (pa_cons pe_int pa_nil))))
      (pss_cons (ps_set (i := 7) sc_law_letter_spoilt.nd rfl (Or.inl rfl) (pe_lst (pa_cons (pe_tup (pa_cons (pe_op op_add_str (pv 2) pe_str) (pa_cons (pv 3) (pa_cons (pv 4) (pa_cons (pv 5) pa_nil))))) (pa_cons (pe_tup (pa_cons (pv 2) (pa_cons (pe_un un_neg pe_int) (pa_cons (pv 4) (pa_cons (pv 5) pa_nil))))) (pa_cons (pe_tup (pa_cons (pv 2) (pa_cons (pv 3) (pa_cons (pe_op op_add_str (pv 4) pe_str) (pa_cons (pv 5) pa_nil))))) pa_nil)))))
      (pss_cons (ps_set (i := 7) sc_law_letter_spoilt.nd rfl (Or.inl rfl) (pe_op op_cat (pv 7) (pe_lst (pa_cons (pe_tup (pa_cons (pv 2) (pa_cons (pv 3) (pa_cons (pv 4) (pa_cons (pe_callTy (listL K) (by rfl) T.z_list bt_list (pa_cons (pv 5) pa_nil)) pa_nil))))) (pa_cons (pe_tup (pa_cons (pv 2) (pa_cons (pv 3) (pa_cons (pv 4) pa_nil)))) (pa_cons (pe_tup (pa_cons (pv 2) (pa_cons (pv 3) (pa_cons (pv 4) (pa_cons (pv 5) (pa_cons (pe_tup pa_nil) pa_nil)))))) pa_nil))))))
      (pss_cons (ps_set (i := 7) sc_law_letter_spoilt.nd rfl (Or.inl rfl) (pe_op op_cat (pv 7) (pe_lst (pa_cons (pe_tup (pa_cons (pv 2) (pa_cons (pv 3) (pa_cons (pv 4) (pa_cons (pe_op op_catW (pv 5) (pe_tup (pa_cons pe_str pa_nil))) pa_nil))))) pa_nil))))
      (pss_one (ps_ret (pe_ix (ixL K) (pv 7) (pv 6) (fun _ _ => rfl))))))))), ?_⟩
    obtain ⟨a, r, n, d, x, rs, rfl, L⟩ := hv
    refine tSeq_i ?_; walk_at "vc1"
    refine ⟨_, SqT.of L.at', rfl, _, _, rfl, _, _, rfl, _, _, rfl, _, _, rfl, rfl, ?_⟩
    refine tSeq_i ?_; walk_at "vc1"
    refine ⟨p, 7, rfl, hp, by decide, by decide, fun ch H1 hc0 hc1 hp1 b1 => ?_⟩
    have L1 := L.but hp b1
    have e1 : (Str.ofString "!").length = 1 := by decide +kernel
    have e2 : (Str.ofString "\n").length = 1 := by decide +kernel
    have o1 : OkT (Str.ofString "!") := fun c hc => of_decide_eq_true (List.all_eq_true.mp (show List.all _ (fun c => decide (c = 10 ∨ (32 ≤ c ∧ c ≤ 126))) = true by decide +kernel) c hc)
    have o2 : OkT (Str.ofString "\n") := fun c hc => of_decide_eq_true (List.all_eq_true.mp (show List.all _ (fun c => decide (c = 10 ∨ (32 ≤ c ∧ c ≤ 126))) = true by decide +kernel) c hc)
    have o3 : OkT (Str.ofString "") := fun c hc => of_decide_eq_true (List.all_eq_true.mp (show List.all _ (fun c => decide (c = 10 ∨ (32 ≤ c ∧ c ≤ 126))) = true by decide +kernel) c hc)
    have ln := nameB_len L1.nm
    have lh := L1.hl
    have four : 4 ≤ sizeLine := by decide
    have tt : ∀ (G : Hp) (t : Addr) (u1 u2 u3 u4 : V), G t = none → Tm G u1 → Tm G u2 → Tm G u3 → Tm G u4 → Tm (upd G t (.tup [u1, u2, u3, u4])) (.ref t) := fun G t u1 u2 u3 u4 nt h1 h2 h3 h4 => tm_tup upd_same (by show 4 ≤ 1000; decide) fun x hx => by
      simp only [List.mem_cons, List.not_mem_nil, or_false] at hx
      rcases hx with rfl | rfl | rfl | rfl
      · exact h1.kp (.of (Same.upd nt))
      · exact h2.kp (.of (Same.upd nt))
      · exact h3.kp (.of (Same.upd nt))
      · exact h4.kp (.of (Same.upd nt))
    have tn : ∀ G, Tm G (.str n) := fun G => tm_name L1.nm
    have th : ∀ G, Tm G (.str x) := fun G => tm_str (by omega) L1.ok
    have tr := L1.tms (.ref r) (by simp)
    refine tSeq_i ?_; walk_at "vc1"
    refine ⟨szl (by omega), four, fun p1 n1 => ?_⟩
    have s1 : Same H1 (upd H1 p1 (HO.tup [V.str (n ++ Str.ofString "!"), V.int d, V.str x, V.ref r])) := Same.upd n1
    have t1 := tt H1 p1 _ _ _ _ n1 (tm_str (x := n ++ Str.ofString "!") (by rw [Str.length_append]; omega) ((nameB_ok L1.nm).app o1)) (tm_int (i := d)) (th _) tr
    generalize upd H1 p1 (HO.tup [V.str (n ++ Str.ofString "!"), V.int d, V.str x, V.ref r]) = G1 at s1 t1 ⊢
    have tr := tr.kp (.of s1)
    refine ⟨four, fun p2 n2 => ?_⟩
    have s2 : Same G1 (upd G1 p2 (HO.tup [V.str n, V.int (-1), V.str x, V.ref r])) := Same.upd n2
    have t2 := tt G1 p2 _ _ _ _ n2 (tn _) (tm_int (i := -1)) (th _) tr
    have t1 := t1.kp (.of s2)
    have tr := tr.kp (.of s2)
    have s2 := s1.trans s2
    generalize upd G1 p2 (HO.tup [V.str n, V.int (-1), V.str x, V.ref r]) = G2 at s2 t1 t2 tr ⊢
    refine ⟨szl (by omega), four, fun p3 n3 => ?_⟩
    have s3 : Same G2 (upd G2 p3 (HO.tup [V.str n, V.int d, V.str (x ++ Str.ofString "\n"), V.ref r])) := Same.upd n3
    have t3 := tt G2 p3 _ _ _ _ n3 (tn _) (tm_int (i := d)) (tm_str (x := x ++ Str.ofString "\n") (by rw [Str.length_append]; omega) (L1.ok.app o2)) tr
    have t1 := t1.kp (.of s3)
    have t2 := t2.kp (.of s3)
    have tr := tr.kp (.of s3)
    have s3 := s2.trans s3
    generalize upd G2 p3 (HO.tup [V.str n, V.int d, V.str (x ++ Str.ofString "\n"), V.ref r]) = G3 at s3 t1 t2 t3 tr ⊢
    refine ⟨by decide, fun p4 n4 => ?_⟩
    have s4 : Same G3 (upd G3 p4 (HO.lst [V.ref p1, V.ref p2, V.ref p3])) := Same.upd n4
    have t1 := t1.kp (.of s4)
    have t2 := t2.kp (.of s4)
    have t3 := t3.kp (.of s4)
    have tr := tr.kp (.of s4)
    have s4 := s3.trans s4
    have h4 : upd G3 p4 (HO.lst [V.ref p1, V.ref p2, V.ref p3]) p4 = some (HO.lst [V.ref p1, V.ref p2, V.ref p3]) := upd_same
    generalize upd G3 p4 (HO.lst [V.ref p1, V.ref p2, V.ref p3]) = G4 at s4 h4 t1 t2 t3 tr ⊢
    refine tSeq_i ?_; walk_at "vc1"
    have hr4 := s4 _ _ L1.row
    have sZ : Same G4 G4 := Same.refl _
    refine ⟨_, .inr (SqT.of hr4), fun q1 nq1 => ?_⟩
    have s5 : Same G4 (upd G4 q1 (HO.lst (rs.map V.str))) := Same.upd nq1
    have u1 : Tm (upd G4 q1 (HO.lst (rs.map V.str))) (.ref q1) := tm_lst upd_same
    have t1 := t1.kp (.of s5)
    have t2 := t2.kp (.of s5)
    have t3 := t3.kp (.of s5)
    have tr := tr.kp (.of s5)
    have s5 := sZ.trans s5
    generalize upd G4 q1 (HO.lst (rs.map V.str)) = G5 at s5 u1 t1 t2 t3 tr ⊢
    refine ⟨four, fun q2 nq2 => ?_⟩
    have s6 : Same G5 (upd G5 q2 (HO.tup [V.str n, V.int d, V.str x, V.ref q1])) := Same.upd nq2
    have u2 : Tm (upd G5 q2 (HO.tup [V.str n, V.int d, V.str x, V.ref q1])) (.ref q2) := tt G5 q2 _ _ _ _ nq2 (tn _) tm_int (th _) u1
    have t1 := t1.kp (.of s6)
    have t2 := t2.kp (.of s6)
    have t3 := t3.kp (.of s6)
    have tr := tr.kp (.of s6)
    have s6 := s5.trans s6
    generalize upd G5 q2 (HO.tup [V.str n, V.int d, V.str x, V.ref q1]) = G6 at s6 u2 t1 t2 t3 tr ⊢
    refine ⟨by decide, fun q3 nq3 => ?_⟩
    have s7 : Same G6 (upd G6 q3 (HO.tup [V.str n, V.int d, V.str x])) := Same.upd nq3
    have u3 : Tm (upd G6 q3 (HO.tup [V.str n, V.int d, V.str x])) (.ref q3) := tm_tup upd_same (by show 3 ≤ 1000; decide) (fun y hy => by
      simp only [List.mem_cons, List.not_mem_nil, or_false] at hy
      rcases hy with rfl | rfl | rfl
      · exact tn _
      · exact tm_int
      · exact th _)
    have t1 := t1.kp (.of s7)
    have t2 := t2.kp (.of s7)
    have t3 := t3.kp (.of s7)
    have tr := tr.kp (.of s7)
    have u2 := u2.kp (.of s7)
    have s7 := s6.trans s7
    generalize upd G6 q3 (HO.tup [V.str n, V.int d, V.str x]) = G7 at s7 u3 t1 t2 t3 tr u2 ⊢
    refine ⟨Nat.zero_le _, fun q4 nq4 => ?_⟩
    have s8 : Same G7 (upd G7 q4 (HO.tup [])) := Same.upd nq4
    have u4 : Tm (upd G7 q4 (HO.tup [])) (.ref q4) := tm_tup upd_same (Nat.zero_le _) (fun _ h => nomatch h)
    have t1 := t1.kp (.of s8)
    have t2 := t2.kp (.of s8)
    have t3 := t3.kp (.of s8)
    have tr := tr.kp (.of s8)
    have u2 := u2.kp (.of s8)
    have u3 := u3.kp (.of s8)
    have s8 := s7.trans s8
    generalize upd G7 q4 (HO.tup []) = G8 at s8 u4 t1 t2 t3 tr u2 u3 ⊢
    refine ⟨by decide, fun q5 nq5 => ?_⟩
    have s9 : Same G8 (upd G8 q5 (HO.tup [V.str n, V.int d, V.str x, V.ref r, V.ref q4])) := Same.upd nq5
    have u5 : Tm (upd G8 q5 (HO.tup [V.str n, V.int d, V.str x, V.ref r, V.ref q4])) (.ref q5) := tm_tup upd_same (by show 5 ≤ 1000; decide) (fun y hy => by
      simp only [List.mem_cons, List.not_mem_nil, or_false] at hy
      rcases hy with rfl | rfl | rfl | rfl | rfl
      · exact tn _
      · exact tm_int
      · exact th _
      · exact tr.kp (.of s9)
      · exact u4.kp (.of s9))
    have t1 := t1.kp (.of s9)
    have t2 := t2.kp (.of s9)
    have t3 := t3.kp (.of s9)
    have tr := tr.kp (.of s9)
    have u2 := u2.kp (.of s9)
    have u3 := u3.kp (.of s9)
    have s9 := s8.trans s9
    generalize upd G8 q5 (HO.tup [V.str n, V.int d, V.str x, V.ref r, V.ref q4]) = G9 at s9 u5 t1 t2 t3 tr u2 u3 ⊢
    refine ⟨by decide, fun q6 nq6 => ?_⟩
    have s10 : Same G9 (upd G9 q6 (HO.lst [V.ref q2, V.ref q3, V.ref q5])) := Same.upd nq6
    have h10 : upd G9 q6 (HO.lst [V.ref q2, V.ref q3, V.ref q5]) q6 = some (HO.lst [V.ref q2, V.ref q3, V.ref q5]) := upd_same
    have t1 := t1.kp (.of s10)
    have t2 := t2.kp (.of s10)
    have t3 := t3.kp (.of s10)
    have tr := tr.kp (.of s10)
    have u2 := u2.kp (.of s10)
    have u3 := u3.kp (.of s10)
    have u5 := u5.kp (.of s10)
    have s10 := s9.trans s10
    generalize upd G9 q6 (HO.lst [V.ref q2, V.ref q3, V.ref q5]) = G10 at s10 h10 t1 t2 t3 tr u2 u3 u5 ⊢
    have h4' : G10 p4 = some (HO.lst [V.ref p1, V.ref p2, V.ref p3]) := s10 _ _ h4
    refine ⟨_, h4', _, h10, (by show 3 + 3 ≤ sizeLine; decide), fun q7 nq7 => ?_⟩
    have s11 : Same G10 (upd G10 q7 (HO.lst ([V.ref p1, V.ref p2, V.ref p3] ++ [V.ref q2, V.ref q3, V.ref q5]))) := Same.upd nq7
    have h11 : upd G10 q7 (HO.lst ([V.ref p1, V.ref p2, V.ref p3] ++ [V.ref q2, V.ref q3, V.ref q5])) q7 = some (HO.lst ([V.ref p1, V.ref p2, V.ref p3] ++ [V.ref q2, V.ref q3, V.ref q5])) := upd_same
    have t1 := t1.kp (.of s11)
    have t2 := t2.kp (.of s11)
    have t3 := t3.kp (.of s11)
    have tr := tr.kp (.of s11)
    have u2 := u2.kp (.of s11)
    have u3 := u3.kp (.of s11)
    have u5 := u5.kp (.of s11)
    have s11 := s10.trans s11
    generalize upd G10 q7 (HO.lst ([V.ref p1, V.ref p2, V.ref p3] ++ [V.ref q2, V.ref q3, V.ref q5])) = G11 at s11 h11 t1 t2 t3 tr u2 u3 u5 ⊢
    refine tSeq_i ?_; walk_at "vc1"
    have hr11 := s11 _ _ hr4
    have hrl := L1.rl
    refine ⟨by decide, fun w1 m1 => ⟨_, Same.upd m1 _ _ hr11, _, upd_same, szl (by rw [List.length_map]; show _ + 1 ≤ _; omega), fun w2 H' s' hw2 => ?_⟩⟩
    have sA : Same G11 H' := (Same.upd m1).trans s'
    have tw2 : Tm H' (.ref w2) := tm_tup hw2 (by rw [List.length_append, List.length_map]; show _ + 1 ≤ _; omega) (fun y hy => by
      rcases List.mem_append.mp hy with h | h
      · obtain ⟨z, hz, rfl⟩ := List.mem_map.mp h
        exact tm_name (L1.rn z hz)
      · rw [List.mem_singleton.mp h]; exact tm_str (by decide +kernel) o3)
    have h11 := sA _ _ h11
    have t1 := t1.kp (.of sA)
    have t2 := t2.kp (.of sA)
    have t3 := t3.kp (.of sA)
    have u2 := u2.kp (.of sA)
    have u3 := u3.kp (.of sA)
    have u5 := u5.kp (.of sA)
    have sB : Same H1 H' := s4.trans (s11.trans sA)
    refine ⟨four, fun w3 m3 => ⟨by decide, fun w4 m4 => ⟨_, Same.upd m4 _ _ (Same.upd m3 _ _ h11), _, upd_same, (by show 6 + 1 ≤ sizeLine; decide), fun w5 m5 => ⟨_, SqL.of upd_same, ?_⟩⟩⟩⟩
    have t13 := tt H' w3 _ _ _ _ m3 (tn _) (tm_int (i := d)) (th _) tw2
    have kC : Kp (upd H' w3 (.tup [V.str n, V.int d, V.str x, V.ref w2])) (upd (upd (upd H' w3 (.tup [V.str n, V.int d, V.str x, V.ref w2])) w4 (.lst [V.ref w3])) w5 (.lst ([V.ref p1, V.ref p2, V.ref p3] ++ [V.ref q2, V.ref q3, V.ref q5] ++ [V.ref w3]))) := .of ((Same.upd m4).trans (Same.upd m5))
    have sC := ((Same.upd (o := .tup [V.str n, V.int d, V.str x, V.ref w2]) m3).trans (Same.upd (o := .lst [V.ref w3]) m4)).trans (Same.upd (o := .lst ([V.ref p1, V.ref p2, V.ref p3] ++ [V.ref q2, V.ref q3, V.ref q5] ++ [V.ref w3])) m5)
    obtain ⟨y, hy, hya⟩ := atI_of (xs := [V.ref p1, V.ref p2, V.ref p3] ++ [V.ref q2, V.ref q3, V.ref q5] ++ [V.ref w3]) hc0 (by show ch < 7; omega)
    refine ⟨y, hya, q y _ ?_ (Pot.same (p := p) hp1 (sB.trans sC)) (b1.trans (But.of (sB.trans sC)))⟩
    simp only [List.cons_append, List.nil_append, List.mem_cons, List.not_mem_nil, or_false] at hy
    rcases hy with rfl | rfl | rfl | rfl | rfl | rfl | rfl
    · exact t1.kp (.of sC)
    · exact t2.kp (.of sC)
    · exact t3.kp (.of sC)
    · exact u2.kp (.of sC)
    · exact u3.kp (.of sC)
    · exact u5.kp (.of sC)
    · exact t13.kp kC
theorem sc_is_letter : FnScope ["thing"] ["thing"] (defScope s_is_letter) := ⟨rfl, rfl, rfl, by decide +kernel, rfl, by decide +kernel, by decide +kernel⟩
set_option maxHeartbeats 4000000 in
theorem ok_is_letter (T : Txt K mg fs fds tc u) (G_is_name : FnOk P w K mg base CX0 1 (fs 0) (fds 0) ["thing"] spNameV) (G_is_day : FnOk P w K mg base CX0 2 (fs 2) (fds 2) ["thing"] spDayV) (G_is_head : FnOk P w K mg base CX0 1 (fs 3) (fds 3) ["thing"] spHeadV) (G_is_row : FnOk P w K mg base CX0 2 (fs 4) (fds 4) ["thing"] (spP rowV 1)) : FnOk P w K mg base CX0 3 (fs 5) (fds 5) ["thing"] (spP letterV 2) := by
  refine T.d_is_letter.F.ok sc_is_letter (fun vs H Q E h => ?_) (fun cdv A outer s H vs Q E hr h => ?_)
  · obtain ⟨v, rfl, hA, q⟩ := h
    rfl
  · obtain ⟨v, rfl, hA, q⟩ := h
    refine ⟨_, (pss_cons (ps_if (PW.pt (pw_or (pt_not (pt_val (pe_callB (isiK K) (by rfl) T.z_isinstance bt_isinstance (pa_cons (pv 0) (pa_cons (pe_bltn (v := .ty "tuple") rfl T.z_tuple bt_tuple rfl) pa_nil))))) (pw_or1 (pt_cmpR op_ne (pe_callB (lenT K) (by rfl) T.z_len bt_len (pa_cons (pv 0) pa_nil)) pe_int (nomark _))))) (pss_one (ps_ret pe_bl)) pss_nil)
      (pss_one (ps_ret (pe_and (pe_fn T.d_is_name G_is_name hr (by decide) rfl (pa_cons (pe_ix (ixT K) (pv 0) pe_int (fun _ _ => rfl)) pa_nil)) (pe_and (pe_fn T.d_is_day G_is_day hr (by decide) rfl (pa_cons (pe_ix (ixT K) (pv 0) pe_int (fun _ _ => rfl)) pa_nil)) (pe_and (pe_fn T.d_is_head G_is_head hr (by decide) rfl (pa_cons (pe_ix (ixT K) (pv 0) pe_int (fun _ _ => rfl)) pa_nil)) (pe_one (pe_fn T.d_is_row G_is_row hr (by decide) rfl (pa_cons (pe_ix (ixT K) (pv 0) pe_int (fun _ _ => rfl)) pa_nil))))))))), ?_⟩
    obtain ⟨⟨k, hT⟩, hx⟩ := hA
    refine tSeq_i ?_; walk_at "vc1"
    refine ⟨_, hT.is.ty, _, kd_tup k, ?_⟩
    rcases hT.tup with ⟨rfl, a, xs, rfl, ha, et⟩ | ⟨n, et⟩
    · rw [decide_eq_true rfl]
      refine notyes ?_
      have hx := hx xs et
      walk_at "vc1"
      refine ⟨_, SqT.of ha, rfl, ?_⟩
      by_cases h4 : xs.length = 4
      · match xs, h4 with
        | [n, d, x, r], _ =>
          have eq : letterV H (.ref a) = (nameV n && (dayV d && (headV x && rowV H r))) := by unfold letterV; rw [et]; rfl
          rw [eq] at q
          obtain ⟨kn, tn⟩ := (hx.2 n (by simp)).tg
          obtain ⟨kd, td⟩ := (hx.2 d (by simp)).tg
          obtain ⟨kx, tx⟩ := (hx.2 x (by simp)).tg
          have tr := hx.2 r (by simp)
          rw [decide_eq_true (show (([n, d, x, r] : List V).length : Int) = 4 from rfl)]
          refine notyes ⟨_, SqT.of ha, _, rfl, n, kn, rfl, tn, fun H1 s1 => ⟨_, rfl, ?_⟩⟩
          cases e1 : nameV n with
          | false => rw [e1] at q; exact iteF (q H1 s1)
          | true =>
            rw [e1, Bool.true_and] at q
            refine iteT ⟨_, (SqT.of ha).same s1, _, rfl, d, kd, rfl, td.same s1, ⟨_, rfl, ?_⟩⟩
            cases e2 : dayV d with
            | false => rw [e2] at q; exact iteF (q H1 s1)
            | true =>
              rw [e2, Bool.true_and] at q
              refine iteT ⟨_, (SqT.of ha).same s1, _, rfl, x, kx, rfl, tx.same s1, fun H2 s2 => ⟨_, rfl, ?_⟩⟩
              cases e3 : headV x with
              | false => rw [e3] at q; exact iteF (q H2 (s1.trans s2))
              | true =>
                rw [e3, Bool.true_and] at q
                refine iteT ⟨_, (SqT.of ha).same (s1.trans s2), _, rfl, r, rfl, tr.kp (.of (s1.trans s2)), fun H3 s3 => ?_⟩
                rw [rowV_kp tr.tg (.of (s1.trans s2))]
                exact q H3 ((s1.trans s2).trans s3)
      · have eq : letterV H (.ref a) = false := by unfold letterV; rw [et]; exact letterL_no h4
        rw [eq] at q
        rw [decide_eq_false (show ¬ (xs.length : Int) = 4 by omega)]
        exact notnot (q H (Same.refl _))
    · have eq : letterV H v = false := by unfold letterV; rw [et]
      rw [eq] at q
      rw [decide_eq_false n]
      exact notnot (q H (Same.refl _))
theorem sc_law_letter : FnScope ["_law_pot_here", "_law_name_here", "_law_signs_here", "_law_head"] ["_law_pot_here"] (defScope s_law_letter) := ⟨rfl, rfl, rfl, by decide +kernel, rfl, by decide +kernel, by decide +kernel⟩
set_option maxHeartbeats 4000000 in
theorem ok_law_letter (T : Txt K mg fs fds tc u) (G_law_name : FnOk P w K mg base CX0 2 (fs 11) (fds 11) ["_law_pot_here"] spNm) (G_law_signs : FnOk P w K mg base CX0 1 (fs 10) (fds 10) [] spSigns2) (G_law_day : FnOk P w K mg base CX0 2 (fs 12) (fds 12) ["_law_pot_here"] spDayD) (G_law_take : FnOk P w K mg base CX0 1 (fs 9) (fds 9) ["_law_pot_here", "_law_many"] spTakeB) : FnOk P w K mg base CX0 3 (fs 13) (fds 13) ["_law_pot_here"] spLetter := by
  refine T.d_law_letter.F.ok sc_law_letter (fun vs H Q E h => ?_) (fun cdv A outer s H vs Q E hr h => ?_)
  · obtain ⟨p, rfl, hp, q⟩ := h
    rfl
  · obtain ⟨p, rfl, hp, q⟩ := h
    refine ⟨_, (pss_cons (ps_set (i := 1) sc_law_letter.nd rfl (Or.inl rfl) (pe_fn T.d_law_name G_law_name hr (by decide) rfl (pa_cons (pv 0) pa_nil)))
      (pss_cons (ps_set (i := 2) sc_law_letter.nd rfl (Or.inr rfl) (pe_fn0 T.d_law_signs G_law_signs hr (by decide) rfl))
      (pss_cons (ps_set (i := 3) sc_law_letter.nd rfl (Or.inl rfl) (pe_bmK K PySem.F.plainAttrs_str PySem.F.slot_str_join PySem.F.type_str_join (joinK K) pe_str (pa_cons (pe_lc ["_law_k", "_law_signs_here", "_law_pot_here"] 1 [2, 0] ["_law_pot_here", "_law_name_here", "_law_signs_here", "_law_head"] (defScope s_law_letter) rfl rfl rfl (pi_range1 rfl T.z_range (pa_cons (pe_fn T.d_law_take G_law_take hr (by decide) rfl (pa_cons (pv 0) (pa_cons pe_int pa_nil))) pa_nil)) (by decide +kernel) (fun _ => (pg_name (i := 0) (show (["_law_k", "_law_signs_here", "_law_pot_here"] : List Str).Nodup by decide +kernel) rfl (Or.inl rfl))) (fun _ => pts_nil) (fun _ => (pe_ix ix_str (pv 1) (pe_fn T.d_law_take G_law_take hr (by decide) rfl (pa_cons (pv 2) (pa_cons (pe_op op_sub (pe_callB call_len_str (by rfl) T.z_len bt_len (pa_cons (pv 1) pa_nil)) pe_int) pa_nil))) (fun _ _ => rfl)))) pa_nil)))
      (pss_one (ps_ret (pe_tup (pa_cons (pv 1) (pa_cons (pe_fn T.d_law_day G_law_day hr (by decide) rfl (pa_cons (pv 0) pa_nil)) (pa_cons (pv 3) (pa_cons (pe_callTy (tupL K) (by rfl) T.z_tuple bt_tuple (pa_cons (pe_lc ["_law_k", "_law_pot_here"] 1 [0] ["_law_pot_here", "_law_name_here", "_law_signs_here", "_law_head"] (defScope s_law_letter) rfl rfl rfl (pi_range1 rfl T.z_range (pa_cons (pe_fn T.d_law_take G_law_take hr (by decide) rfl (pa_cons (pv 0) (pa_cons pe_int pa_nil))) pa_nil)) (by decide +kernel) (fun _ => (pg_name (i := 0) (show (["_law_k", "_law_pot_here"] : List Str).Nodup by decide +kernel) rfl (Or.inl rfl))) (fun _ => pts_nil) (fun _ => (pe_fn T.d_law_name G_law_name hr (by decide) rfl (pa_cons (pv 1) pa_nil)))) pa_nil)) pa_nil)))))))))), ?_⟩
    refine tSeq_i ?_; walk_at "vc1"
    refine ⟨p, rfl, hp, fun n H1 hn hp1 b1 => ?_⟩
    refine tSeq_i ?_; walk_at "vc1"
    refine ⟨rfl, fun Z hZ hZo hZ94 => ?_⟩
    have e0 : (Str.ofString "").length = 0 := by decide +kernel
    refine tSeq_i ?_; walk_at "vc2"
    refine ⟨rfl, _, rfl, p, 4, rfl, hp1, by decide, by decide, fun m2 H2 h0 h1 hp2 b2 => ⟨_, rfl, by omega, by omega, fun l hl => draw_G (Z := Z) (m := (Z.length : Int) - 1) m2.toNat rfl hp2 hl (by omega) (by omega) (by omega) (by omega) (fun o H4 N h => ?_) (fun zs H4 e hz hn4 hp4 b4 => ?_)⟩⟩
    · simp only [tPar, tAsg, tOp, tUn, tC, tVar, rI, rI0, rU, tCB, tCons, tNil, tRet, tLst, tTup, gName, tIfS, tTest, tNext, tBreak, tCont, tDrop, tCall, tIf, tNot, tAnd, tOr, tB, tAndV, tOrV, tNotV, tChain, tSl, tPart, tNoPart, tBM, tBM0, rIxL, rIxT, rIxS, rSlT, rSlL, rIn, rCat, rEqL, rLenL, rLenT, rAll, rAny, rMaxL, rIsi, rTupL, rListL, rEq, rNe, rJoin, rJoinT, rSlW, rCatW, rMulS, rRep1, rNeL, rPopAt, tBack, tDNewK, tDisp, tPairs, tNever, rAppend, rSetL, gSub, gTup, gCons, gNil, tyV, L2.start, cxOf_K, cxComp_K, gt_iff_lt, ge_iff_le, List.map_cons, List.map_nil, List.cons_append, List.nil_append, List.length_cons, List.length_nil, List.replicate, List.getElem?_cons_zero, List.getElem?_cons_succ, List.set_cons_zero, List.set_cons_succ, Option.some.injEq, V.int.injEq, V.str.injEq, V.bl.injEq, V.ref.injEq, V.ty.injEq, List.cons.injEq, and_true, true_and, exists_eq_left, exists_eq_left', exists_eq_right, exists_and_left, exists_and_right, exists_eq_or_imp, exists_const, Nat.reduceAdd, Nat.reduceSub, ite_true, ite_false, Bool.false_eq_true, if_true, if_false, and_assoc, Bool.not_true, Bool.not_false, Bool.true_and, Bool.false_and, decide_true, decide_false, reduceCtorEq, false_and, exists_false, or_false, false_or, rLtD, rEqNil, rSortE, rInE, rNeNil] at h ⊢
      exact ⟨szl (by omega), h⟩
    have hj := join0_len fun z hm => (hz z hm).1
    have hall : ∀ c ∈ (Txt.join (Str.ofString "") zs).cps.toList, 32 ≤ c ∧ c ≤ 126 := fun c hc => by
      obtain ⟨y, hy, hcy⟩ := join0_mem hc
      obtain ⟨i, hi, hiz⟩ := (hz y hy).2 c hcy
      exact hZ94 i c (by omega) hiz
    refine ⟨_, l, zs, rfl, rfl, SqL.of e, by rw [e0, join_len fun z hm => (hz z hm).1]; omega, ?_⟩
    have xo : OkT (Txt.join (Str.ofString "") zs) := fun c hc => .inr (hall c hc)
    have xl : (Txt.join (Str.ofString "") zs).length ≤ 60 := by rw [hj]; omega
    have xv : headV (.str (Txt.join (Str.ofString "") zs)) = true := by
      show (!decide (60 < ((Txt.join (Str.ofString "") zs).length : Int)) && _) = true
      rw [decide_eq_false (by rw [hj]; omega)]
      exact List.all_eq_true.mpr fun c hc => okC_all c (by have := hall c hc; omega) (hall c hc).1
    generalize Txt.join (Str.ofString "") zs = x at xo xl xv
    have b0 := (b1.trans b2).trans b4
    refine ⟨p, rfl, hp4, fun d H5 d0 d1 hp5 b5 => ?_⟩
    walk_at "vc1"
    refine ⟨_, rfl, p, 3, rfl, hp5, by decide, by decide, fun m H6 m0 m1 hp6 b6 => ⟨_, rfl, by omega, by omega, fun l hl => comp_draw 0 _ PotO p (fun v => ∃ x : Str, v = .str x ∧ nameB x = true) (fun σ => ∃ o, σ = [o, some (.ref p)]) ⟨_, rfl⟩ potN hp6 hl (by omega) ?_ ?_⟩⟩
    · rintro i σ H6 xs N hi ⟨o, rfl⟩ hp6 hx hxl b6 hN
      unfold turnOf
      walk_at "vc0"
      exact ⟨p, rfl, hp6, fun z H7 hz hp7 b7 => hN _ _ _ ⟨_, rfl⟩ ⟨_, rfl, hz⟩ hp7 b7⟩
    · intro ys H7 hyl hR hy hp7 b7
      obtain ⟨zs, e, hz⟩ := strs_backP hR
      subst e
      rw [List.length_map] at hyl
      refine ⟨l, rfl, _, SqL.of hy, fun r hr0 => ⟨(by show 4 ≤ sizeLine; decide), fun a ha => ?_⟩⟩
      exact q a r n d x zs _ ⟨upd_same, Same.upd ha _ _ upd_same, hn, d0, d1, xo, xv, xl, by omega, hz⟩ (Pot.same (p := p) hp7 ((Same.upd hr0).trans (Same.upd ha))) ((((b0.trans b5).trans b6).trans b7).trans (But.of ((Same.upd hr0).trans (Same.upd ha))))
theorem sc_law_is_pack : FnScope ["_law_thing"] ["_law_thing"] (defScope s_law_is_pack) := ⟨rfl, rfl, rfl, by decide +kernel, rfl, by decide +kernel, by decide +kernel⟩
set_option maxHeartbeats 4000000 in
theorem ok_law_is_pack (T : Txt K mg fs fds tc u) (G_law_is_letter : FnOk P w K mg base CX0 2 (fs 17) (fds 17) ["_law_thing"] spLetL) : FnOk P w K mg base CX0 3 (fs 18) (fds 18) ["_law_thing"] spPackL := by
  refine T.d_law_is_pack.F.ok sc_law_is_pack (fun vs H Q E h => ?_) (fun cdv A outer s H vs Q E hr h => ?_)
  · obtain ⟨v, rfl, hA, hM, q⟩ := h
    rfl
  · obtain ⟨v, rfl, hA, hM, q⟩ := h
    refine ⟨_, (pss_cons (ps_if (PW.pt (pw_or (pt_not (pt_val (pe_callB (isiK K) (by rfl) T.z_isinstance bt_isinstance (pa_cons (pv 0) (pa_cons (pe_bltn (v := .ty "tuple") rfl T.z_tuple bt_tuple rfl) pa_nil))))) (pw_or1 (pt_cmpR (neL K hr) (pe_lc ["_law_one"] 1 [] ["_law_thing"] (defScope s_law_is_pack) rfl rfl rfl (pi_tpl K (pv 0)) (by decide +kernel) (fun _ => (pg_name (i := 0) (show (["_law_one"] : List Str).Nodup by decide +kernel) rfl (Or.inl rfl))) (fun _ => (pts_one (pt_not (pt_val (pe_fn T.d_law_is_letter G_law_is_letter hr (by decide) rfl (pa_cons (pv 0) pa_nil)))))) (fun _ => (pv 0))) (pe_lst pa_nil) (nomark _))))) (pss_one (ps_ret pe_bl)) pss_nil)
      (pss_one (ps_ret (pe_cmpR (eqL K hr) (pe_lc ["_law_at", "_law_thing"] 1 [0] ["_law_thing"] (defScope s_law_is_pack) rfl rfl rfl (pi_range2 rfl T.z_range (pa_cons pe_int (pa_cons (pe_callB (lenT K) (by rfl) T.z_len bt_len (pa_cons (pv 0) pa_nil)) pa_nil))) (by decide +kernel) (fun _ => (pg_name (i := 0) (show (["_law_at", "_law_thing"] : List Str).Nodup by decide +kernel) rfl (Or.inl rfl))) (fun _ => (pts_one (pt_not (pt_cmpR (op_ltD hr) (pe_ix (ixT K) (pv 1) (pe_op op_sub (pv 0) pe_int) (fun _ _ => rfl)) (pe_ix (ixT K) (pv 1) (pv 0) (fun _ _ => rfl)) (nomark _))))) (fun _ => (pv 0))) (pe_lst pa_nil) (nomark _))))), ?_⟩
    obtain ⟨⟨k, hT⟩, hx⟩ := hA
    refine tSeq_i ?_; walk_at "vc1"
    refine ⟨_, hT.is.ty, _, kd_tup k, ?_⟩
    rcases hT.tup with ⟨rfl, a, xs, rfl, ha, et⟩ | ⟨n, et⟩
    rotate_left
    · have eq : packV H v = false := by unfold packV; rw [et]
      rw [eq] at q
      rw [decide_eq_false n]
      exact notnot (q H (Same.refl _))
    · rw [decide_eq_true rfl]
      refine notyes ?_
      have hx := hx xs et
      have hM := hM.2 xs et
      have hxl := hx.1
      have eq : packV H (.ref a) = (xs.all (letterV H) && risesD H xs) := by unfold packV; rw [et]
      rw [eq] at q
      refine ⟨_, rfl, a, rfl, ⟨_, SqT.of ha⟩, fun l hl0 => comp_tupF (SqT.of ha) (fun v => !letterV H v) id (fun σ => ∃ o, σ = [o]) ⟨_, rfl⟩ hl0 (szt (by omega)) ?_ ?_⟩
      · rintro j y σ H2 ys N hxi ⟨o, rfl⟩ s2 e1 hz hN
        have hk := hx.2 y (List.mem_of_getElem? hxi)
        have hm := hM y (List.mem_of_getElem? hxi)
        unfold turnOf
        walk_at "vc1"
        refine ⟨y, rfl, hk.kp (.of s2), TmD.kp (AnyD.less hk) hm (.of s2), fun H3 s3 => ⟨_, rfl, ?_⟩⟩
        rw [letterV_kp (AnyD.less hk) (.of s2)]
        cases ey : letterV H y with
        | true =>
          refine notyes (hN _ _ ⟨_, rfl⟩ (fun b o h n => s3 b o h) ?_)
          rw [ey]; exact s3 _ _ e1
        | false =>
          refine notnot ⟨ys, s3 _ _ e1, hz, hN _ _ ⟨_, rfl⟩ (fun b o h n => by rw [upd_ne n]; exact s3 b o h) ?_⟩
          rw [ey]; exact upd_same
      · intro H2 s2 e2
        refine ⟨Nat.zero_le _, fun m hm => ⟨l, rfl, _, SqL.of (by rw [upd_ne (ne_of_none e2 hm), e2]), _, SqL.of upd_same, fun e => ?_, ?_⟩⟩
        · rw [List.eq_nil_of_length_eq_zero e]; exact ⟨rfl, rfl⟩
        rw [eqLV_nil, none_outL]
        have s3 : Same H (upd H2 m (.lst [])) := s2.trans (Same.upd hm)
        generalize upd H2 m (.lst []) = H3 at s3
        cases hall : xs.all (letterV H) with
        | false =>
          rw [hall, Bool.false_and] at q
          exact notnot (q _ s3)
        | true =>
          rw [hall, Bool.true_and] at q
          have hL := List.all_eq_true.mp hall
          refine notyes ?_
          have ha3 := s3 _ _ ha
          have hL3 : ∀ x ∈ xs, letterV H3 x = true := fun x m => by rw [letterV_kp (AnyD.less (hx.2 x m)) (.of s3)]; exact hL x m
          rw [← risesD_kp hL (.of s3)] at q
          have hn : (((xs.length : Nat) : Int) - 1).toNat = xs.length - 1 := by omega
          refine ⟨_, rfl, a, _, rfl, SqT.of ha3, _, _, rfl, ⟨by omega, by omega, by omega, by omega⟩, fun l2 hl2 => comp_rangeP 1 _ (notLt H3 xs) id (fun σ => ∃ o, σ = [o, some (.ref a)]) ⟨_, rfl⟩ (szt (by omega)) ?_ ?_⟩
          · rintro i σ ys N hi hz ⟨o, rfl⟩ hN
            have hi0 : i < xs.length := by omega
            have hi1 : i + 1 < xs.length := by omega
            have g1 : xs[i]? = some xs[i] := by simp
            have g2 : xs[i + 1]? = some xs[i + 1] := by simp
            have ha' := (SqT.of (K := K) ha3).upd' (o := .lst ys) hl2
            have h := hN [some (.int (1 + i)), some (.ref a)] ⟨_, rfl⟩
            rw [notLt_int] at h
            have cc := let_cmp (hL3 _ (List.getElem_mem hi0)) (hL3 _ (List.getElem_mem hi1))
            have kk : Kp H3 (upd H3 l2 (.lst ys)) := .of (Same.upd hl2)
            have e1 : ((1 : Int) + (i : Int) - 1) = (i : Int) := by omega
            have e2 : ((1 : Int) + (i : Int)) = ((i + 1 : Nat) : Int) := by omega
            have e : ltAtX H3 xs i = ltD H3 2 xs[i] xs[i + 1] := by
              unfold ltAtX
              rw [getD_at hi0, getD_at hi1]
            rw [e] at h
            unfold turnOf
            walk_at "vc1"
            refine ⟨_, ha', _, (by rw [e1]; exact atI_nat g1), _, ha', _, (by rw [e2]; exact atI_nat (j := i + 1) g2), cc.kp kk, ?_⟩
            rw [(cc.keeps kk).2]
            cases hb : ltD H3 2 xs[i] xs[i + 1] with
            | true =>
              rw [hb] at h
              exact notyes (by simpa using h)
            | false =>
              rw [hb] at h
              exact notnot ⟨ys, upd_same, hz, by rw [upd_upd]; simpa using h⟩
          · refine ⟨Nat.zero_le _, fun m hm => ⟨l2, rfl, _, SqL.of (by rw [upd_ne (ne_of_none upd_same hm), upd_same]), _, SqL.of upd_same, fun e => ?_, ?_⟩⟩
            · rw [List.eq_nil_of_length_eq_zero e]; exact ⟨rfl, rfl⟩
            · rw [eqLV_nil]
              have e : ((((List.range (((xs.length : Nat) : Int) - 1).toNat).map fun i : Nat => V.int (1 + i)).filter (notLt H3 xs)).map id).isEmpty = risesD H3 xs := by
                unfold risesD
                rw [hn]
                induction (List.range (xs.length - 1)) with
                | nil => rfl
                | cons j js ih =>
                  rw [List.map_cons, List.filter_cons, List.all_cons]
                  rw [notLt_int]
                  cases ltAtX H3 xs j with
                  | true => exact ih
                  | false => rfl
              rw [e]
              exact q _ (s3.trans ((Same.upd hl2).trans (Same.upd hm)))
theorem sc_law_spoilt : FnScope ["_law_pot_here", "_law_choice", "_law_pack_here", "_law_at", "_law_other", "_law_things"] ["_law_pot_here", "_law_choice", "_law_pack_here"] (defScope s_law_spoilt) := ⟨rfl, rfl, rfl, by decide +kernel, rfl, by decide +kernel, by decide +kernel⟩
set_option maxHeartbeats 4000000 in
theorem ok_law_spoilt (T : Txt K mg fs fds tc u) (G_law_take : FnOk P w K mg base CX0 1 (fs 9) (fds 9) ["_law_pot_here", "_law_many"] spTakeB) (G_law_letter_spoilt : FnOk P w K mg base CX0 2 (fs 19) (fds 19) ["_law_pot_here", "_law_letter_here"] spSpoil1) : FnOk P w K mg base CX0 3 (fs 20) (fds 20) ["_law_pot_here", "_law_choice", "_law_pack_here"] spSpoil := by
  refine T.d_law_spoilt.F.ok sc_law_spoilt (fun vs H Q E h => ?_) (fun cdv A outer s H vs Q E hr h => ?_)
  · obtain ⟨p, t, c, xs, rfl, hp, ht, hl0, hl1, hx, q⟩ := h
    rfl
  · obtain ⟨p, t, c, xs, rfl, hp, ht, hl0, hl1, hx, q⟩ := h
    refine ⟨_, (pss_cons (ps_set (i := 3) sc_law_spoilt.nd rfl (Or.inl rfl) (pe_fn T.d_law_take G_law_take hr (by decide) rfl (pa_cons (pv 0) (pa_cons (pe_callB (lenT K) (by rfl) T.z_len bt_len (pa_cons (pv 2) pa_nil)) pa_nil))))
      (pss_cons (ps_set (i := 4) sc_law_spoilt.nd rfl (Or.inl rfl) (pe_fn T.d_law_take G_law_take hr (by decide) rfl (pa_cons (pv 0) (pa_cons (pe_callB (lenT K) (by rfl) T.z_len bt_len (pa_cons (pv 2) pa_nil)) pa_nil))))
      (pss_cons (ps_if (pt_cmpR op_eq (pv 1) pe_int (nomark _)) (pss_cons (ps_set (i := 5) sc_law_spoilt.nd rfl (Or.inl rfl) (pe_callTy (listL K) (by rfl) T.z_list bt_list (pa_cons (pv 2) pa_nil)))
      (pss_cons (ps_asg (pe_ix (ixT K) (pv 2) (pv 4) (fun _ _ => rfl)) (pg_sub (pv 5) (pv 3) set_list))
      (pss_cons (ps_asg (pe_ix (ixT K) (pv 2) (pv 3) (fun _ _ => rfl)) (pg_sub (pv 5) (pv 4) set_list))
      (pss_one (ps_ret (pe_callTy (tupL K) (by rfl) T.z_tuple bt_tuple (pa_cons (pv 5) pa_nil))))))) pss_nil)
      (pss_cons (ps_if (pt_cmpR op_eq (pv 1) pe_int (nomark _)) (pss_one (ps_ret (pe_op op_catW (pe_op op_catW (pe_slice sl_tupW (pv 2) po_none (po_some (pv 3))) (pe_tup (pa_cons (pe_ix (ixT K) (pv 2) (pv 3) (fun _ _ => rfl)) pa_nil))) (pe_slice sl_tupW (pv 2) (po_some (pv 3)) po_none)))) pss_nil)
      (pss_cons (ps_if (pt_cmpR op_eq (pv 1) pe_int (nomark _)) (pss_one (ps_ret (pe_op op_catW (pe_op op_catW (pe_slice sl_tupW (pv 2) po_none (po_some (pv 3))) (pe_slice sl_tupW (pv 2) (po_some (pe_op op_add (pv 3) pe_int)) po_none)) (pe_tup (pa_cons (pe_ix (ixT K) (pv 2) (pv 3) (fun _ _ => rfl)) pa_nil))))) pss_nil)
      (pss_cons (ps_if (pt_cmpR op_eq (pv 1) pe_int (nomark _)) (pss_one (ps_ret (pe_back (pv 2) (pe_un un_neg pe_int)))) pss_nil)
      (pss_cons (ps_if (pt_cmpR op_eq (pv 1) pe_int (nomark _)) (pss_one (ps_ret (pe_op op_catW (pe_op op_catW (pe_slice sl_tupW (pv 2) po_none (po_some (pv 3))) (pe_tup (pa_cons (pe_fn T.d_law_letter_spoilt G_law_letter_spoilt hr (by decide) rfl (pa_cons (pv 0) (pa_cons (pe_ix (ixT K) (pv 2) (pv 3) (fun _ _ => rfl)) pa_nil))) pa_nil))) (pe_slice sl_tupW (pv 2) (po_some (pe_op op_add (pv 3) pe_int)) po_none)))) pss_nil)
      (pss_one (ps_ret (pe_callTy (listL K) (by rfl) T.z_list bt_list (pa_cons (pv 2) pa_nil))))))))))), ?_⟩
    refine tSeq_i ?_; walk_at "vc1"
    refine ⟨_, SqT.of ht, p, _, rfl, hp, by omega, by omega, fun i H1 i0 i1 hp1 b1 => ?_⟩
    have k1 := Kp.but hp hp1 b1
    refine tSeq_i ?_; walk_at "vc1"
    refine ⟨_, SqT.of (k1.tup ht), p, _, rfl, hp1, by omega, by omega, fun j H2 j0 j1 hp2 b2 => ?_⟩
    have k2 := k1.trans (Kp.but hp1 hp2 b2)
    have ht2 := k2.tup ht
    have b0 := b1.trans b2
    have hx2 : ∀ x ∈ xs, LtV H2 x := fun x m => (hx x m).kp k2
    have tx2 : ∀ x ∈ xs, Tm H2 x := fun x m => (hx2 x m).tm
    obtain ⟨y, hy, hya⟩ := atI_of i0 i1
    obtain ⟨z, hz, hza⟩ := atI_of j0 j1
    have z1 := fun lo hi => cutV_length xs lo hi
    refine tSeq_i ?_; walk_at "vc1"
    refine ⟨rfl, iteD (fun _ => ?_) (fun _ => ?_)⟩
    · refine tSeq_i ?_; walk_at "vc1"
      refine ⟨_, .inr (SqT.of ht2), fun l nl => ?_⟩
      refine tSeq_i ?_; walk_at "vc1"
      obtain ⟨i, rfl⟩ : ∃ n : Nat, i = (n : Int) := ⟨i.toNat, by omega⟩
      obtain ⟨j, rfl⟩ : ∃ n : Nat, j = (n : Int) := ⟨j.toNat, by omega⟩
      have ntl : t ≠ l := ne_of_none ht2 nl
      refine ⟨_, SqT.of (by rw [upd_ne ntl]; exact ht2), z, hza, xs, upd_same, i, ixN_in (by omega) i1, ?_⟩
      refine tSeq_i ?_; walk_at "vc1"
      refine ⟨_, SqT.of (by rw [upd_ne ntl, upd_ne ntl]; exact ht2), y, hya, _, upd_same, j, ixN_in (by omega) (by rw [List.length_set]; exact j1), _, SqL.of upd_same, fun w nw => ?_⟩
      have sF : Same H2 (upd (upd (upd H2 l (.lst xs)) l (.lst (xs.set i z))) l (.lst ((xs.set i z).set j y))) := by rw [upd_upd, upd_upd]; exact Same.upd nl
      have sG := sF.trans (Same.upd (o := .tup ((xs.set i z).set j y)) nw)
      refine q _ _ (tm_tup upd_same (by rw [List.length_set, List.length_set]; omega) fun x m => (tx2 x ?_).kp (.of sG)) (Pot.same (p := p) hp2 sG) (b0.trans (But.of sG))
      rcases List.mem_or_eq_of_mem_set m with h | h
      · rcases List.mem_or_eq_of_mem_set h with h | h
        · exact h
        · rw [h]; exact hz
      · rw [h]; exact hy
    refine tSeq_i ?_; walk_at "vc1"
    have fin : ∀ (G : Hp) (w : Addr) (ys : List V), G w = some (.tup ys) → ys.length ≤ 100 → (∀ y ∈ ys, y ∈ xs) → Same H2 G → Q (.ref w) G := fun G w ys hw hwl hys sg =>
      q _ _ (tm_tup hw (by omega) fun x m => (tx2 x (hys x m)).kp (.of sg)) (Pot.same (p := p) hp2 sg) (b0.trans (But.of sg))
    refine ⟨rfl, iteD (fun _ => ?_) (fun _ => ?_)⟩
    · have za := z1 none (some i)
      have zb := z1 (some i) none
      refine ⟨_, ht2, fun w1 G1 s1 h1 => ⟨_, SqT.of (s1 _ _ ht2), y, hya, by decide, fun w2 n2 => ⟨_, Same.upd n2 _ _ h1, _, upd_same, szl (by show _ + 1 ≤ _; omega), fun w3 G3 s3 h3 => ⟨_, s3 _ _ (Same.upd n2 _ _ (s1 _ _ ht2)), fun w4 G4 s4 h4 => ⟨_, s4 _ _ h3, _, h4, szl (by rw [List.length_append]; show _ + 1 + _ ≤ _; omega), fun w5 G5 s5 h5 => fin G5 w5 _ h5 (by rw [List.length_append, List.length_append]; show _ + 1 + _ ≤ _; omega) (fun u hu => ?_) ((((s1.trans (Same.upd n2)).trans s3).trans s4).trans s5)⟩⟩⟩⟩⟩
      rcases List.mem_append.mp hu with h | h
      · rcases List.mem_append.mp h with h | h
        · exact cut_mem h
        · rw [List.mem_singleton.mp h]; exact hy
      · exact cut_mem h
    refine tSeq_i ?_; walk_at "vc1"
    refine ⟨rfl, iteD (fun _ => ?_) (fun _ => ?_)⟩
    · have za := z1 none (some i)
      have zb := z1 (some (i + 1)) none
      refine ⟨_, ht2, fun w1 G1 s1 h1 => ⟨_, s1 _ _ ht2, fun w2 G2 s2 h2 => ⟨_, s2 _ _ h1, _, h2, szl (by omega), fun w3 G3 s3 h3 => ⟨_, SqT.of (s3 _ _ (s2 _ _ (s1 _ _ ht2))), y, hya, by decide, fun w4 n4 => ⟨_, Same.upd n4 _ _ h3, _, upd_same, szl (by rw [List.length_append]; show _ + 1 ≤ _; omega), fun w5 G5 s5 h5 => fin G5 w5 _ h5 (by rw [List.length_append, List.length_append]; show _ + 1 ≤ _; omega) (fun u hu => ?_) ((((s1.trans s2).trans s3).trans (Same.upd n4)).trans s5)⟩⟩⟩⟩⟩
      rcases List.mem_append.mp hu with h | h
      · rcases List.mem_append.mp h with h | h
        · exact cut_mem h
        · exact cut_mem h
      · rw [List.mem_singleton.mp h]; exact hy
    refine tSeq_i ?_; walk_at "vc1"
    refine ⟨rfl, iteD (fun _ => ?_) (fun _ => ?_)⟩
    · exact ⟨_, ht2, ht2, fun w zs nw hzl hzs => fin (upd H2 w (.tup zs)) w zs upd_same (by omega) hzs (Same.upd nw)⟩
    refine tSeq_i ?_; walk_at "vc1"
    refine ⟨rfl, iteD (fun _ => ?_) (fun _ => ?_)⟩
    · have za := z1 none (some i)
      have zb := z1 (some (i + 1)) none
      refine ⟨_, ht2, fun w1 G1 s1 h1 => ⟨_, SqT.of (s1 _ _ ht2), y, hya, p, y, rfl, Pot.same (p := p) hp2 s1, (hx2 y hy).kp (.of s1), fun v H4 hv hp4 b4 => ?_⟩⟩
      have kb := Kp.but (Pot.same (p := p) hp2 s1) hp4 b4
      refine ⟨by decide, fun w2 n2 => ⟨_, Same.upd n2 _ _ (kb.tup h1), _, upd_same, szl (by show _ + 1 ≤ _; omega), fun w3 G3 s3 h3 => ⟨_, s3 _ _ (Same.upd n2 _ _ (kb.tup (s1 _ _ ht2))), fun w4 G4 s4 h4 => ⟨_, s4 _ _ h3, _, h4, szl (by rw [List.length_append]; show _ + 1 + _ ≤ _; omega), fun w5 G5 s5 h5 => ?_⟩⟩⟩⟩
      have s45 : Same H4 G5 := (((Same.upd n2).trans s3).trans s4).trans s5
      refine q _ _ (tm_tup h5 (by rw [List.length_append, List.length_append]; show _ + 1 + _ ≤ _; omega) fun u hu => ?_) (Pot.same (p := p) hp4 s45) (((b0.trans (But.of s1)).trans b4).trans (But.of s45))
      have old : ∀ u ∈ xs, Tm G5 u := fun u m => (((tx2 u m).kp (.of s1)).kp kb).kp (.of s45)
      rcases List.mem_append.mp hu with h | h
      · rcases List.mem_append.mp h with h | h
        · exact old u (cut_mem h)
        · rw [List.mem_singleton.mp h]; exact hv.kp (.of s45)
      · exact old u (cut_mem h)
    exact ⟨_, .inr (SqT.of ht2), fun l nl => q _ _ (tm_lst upd_same) (Pot.same (p := p) hp2 (Same.upd nl)) (b0.trans (But.of (Same.upd nl)))⟩
theorem sc_is_pack : FnScope ["thing"] ["thing"] (defScope s_is_pack) := ⟨rfl, rfl, rfl, by decide +kernel, rfl, by decide +kernel, by decide +kernel⟩
set_option maxHeartbeats 4000000 in
theorem ok_is_pack (T : Txt K mg fs fds tc u) (G_rises : FnOk P w K mg base CX0 1 (fs 6) (fds 6) ["things"] spRises) (G_is_letter : FnOk P w K mg base CX0 3 (fs 5) (fds 5) ["thing"] (spP letterV 2)) : FnOk P w K mg base CX0 4 (fs 7) (fds 7) ["thing"] (spP packV 3) := by
  refine T.d_is_pack.F.ok sc_is_pack (fun vs H Q E h => ?_) (fun cdv A outer s H vs Q E hr h => ?_)
  · obtain ⟨v, rfl, hA, q⟩ := h
    rfl
  · obtain ⟨v, rfl, hA, q⟩ := h
    refine ⟨_, (pss_cons (ps_if (pt_not (pt_val (pe_callB (isiK K) (by rfl) T.z_isinstance bt_isinstance (pa_cons (pv 0) (pa_cons (pe_bltn (v := .ty "tuple") rfl T.z_tuple bt_tuple rfl) pa_nil))))) (pss_one (ps_ret pe_bl)) pss_nil)
      (pss_one (ps_ret (pe_and (pe_callB (allL K rfl) (by rfl) T.z_all bt_all (pa_cons (pe_lc ["part"] 1 [] ["thing"] (defScope s_is_pack) rfl rfl rfl (pi_tpl K (pv 0)) (by decide +kernel) (fun _ => (pg_name (i := 0) (show (["part"] : List Str).Nodup by decide +kernel) rfl (Or.inl rfl))) (fun _ => pts_nil) (fun _ => (pe_fn T.d_is_letter G_is_letter hr (by decide) rfl (pa_cons (pv 0) pa_nil)))) pa_nil)) (pe_one (pe_fn T.d_rises G_rises hr (by decide) rfl (pa_cons (pv 0) pa_nil))))))), ?_⟩
    obtain ⟨⟨k, hT⟩, hx⟩ := hA
    refine tSeq_i ?_; walk_at "vc1"
    refine ⟨_, hT.is.ty, _, kd_tup k, ?_⟩
    rcases hT.tup with ⟨rfl, a, xs, rfl, ha, et⟩ | ⟨n, et⟩
    · rw [decide_eq_true rfl]
      refine notyes ?_
      have hx := hx xs et
      have hxl := hx.1
      have eq : packV H (.ref a) = (xs.all (letterV H) && risesD H xs) := by unfold packV; rw [et]
      rw [eq] at q
      refine ⟨_, rfl, a, rfl, ⟨_, SqT.of ha⟩, fun l hl0 => comp_tupG (SqT.of ha) (fun v => .bl (letterV H v)) (fun σ => ∃ o, σ = [o]) ⟨_, rfl⟩ hl0 (szt (by omega)) ?_ ?_⟩
      · rintro i x σ H1 ys N hxi ⟨o, rfl⟩ s1 e1 hz hN
        have hk := hx.2 x (List.mem_of_getElem? hxi)
        unfold turnOf
        walk_at "vc0"
        refine ⟨x, rfl, hk.kp (.of s1), fun H2 s2 => ⟨ys, s2 _ _ e1, hz, ?_⟩⟩
        rw [letterV_kp (AnyD.less hk) (.of s1)]
        exact hN _ _ ⟨_, rfl⟩ (fun b o h n => by rw [upd_ne n]; exact s2 b o h) upd_same
      · intro H1 s1 e1
        refine ⟨l, rfl, xs.map (letterV H), SqL.of (by rw [e1]; unfold isBl; rw [List.map_map]; rfl), ?_⟩
        rw [show (xs.map (letterV H)).all id = xs.all (letterV H) from by rw [List.all_map]; rfl]
        cases hall : xs.all (letterV H) with
        | false =>
          rw [hall, Bool.false_and] at q
          exact iteF (q _ s1)
        | true =>
          rw [hall, Bool.true_and] at q
          have hL := List.all_eq_true.mp hall
          refine iteT ⟨a, xs, rfl, s1 _ _ ha, hxl, fun x m => ?_, fun H2 s2 => ?_⟩
          · rw [letterV_kp (AnyD.less (hx.2 x m)) (.of s1)]; exact hL x m
          · rw [risesD_kp hL (.of s1)]; exact q _ (s1.trans s2)
    · have eq : packV H v = false := by unfold packV; rw [et]
      rw [eq] at q
      rw [decide_eq_false n]
      exact notnot (q H (Same.refl _))
theorem sc_law_near : FnScope ["_law_pot_here", "_law_elder", "_law_choice", "_law_name_here", "_law_day_here", "_law_head", "_law_row", "_law_other"] ["_law_pot_here", "_law_elder"] (defScope s_law_near) := ⟨rfl, rfl, rfl, by decide +kernel, rfl, by decide +kernel, by decide +kernel⟩
set_option maxHeartbeats 4000000 in
theorem ok_law_near (T : Txt K mg fs fds tc u) (G_law_take : FnOk P w K mg base CX0 1 (fs 9) (fds 9) ["_law_pot_here", "_law_many"] spTakeB) (G_law_letter : FnOk P w K mg base CX0 3 (fs 13) (fds 13) ["_law_pot_here"] spLetter) : FnOk P w K mg base CX0 4 (fs 14) (fds 14) ["_law_pot_here", "_law_elder"] spNear := by
  refine T.d_law_near.F.ok sc_law_near (fun vs H Q E h => ?_) (fun cdv A outer s H vs Q E hr h => ?_)
  · obtain ⟨p, v, rfl, hp, hv, q⟩ := h
    rfl
  · obtain ⟨p, v, rfl, hp, hv, q⟩ := h
    refine ⟨_, (pss_cons (ps_set (i := 2) sc_law_near.nd rfl (Or.inl rfl) (pe_fn T.d_law_take G_law_take hr (by decide) rfl (pa_cons (pv 0) (pa_cons pe_int pa_nil))))
      (pss_cons (ps_asg (pv 1) (pg_tupK (n := 4) K rfl (pgs_cons (pg_name (i := 3) sc_law_near.nd rfl (Or.inl rfl)) (pgs_cons (pg_name (i := 4) sc_law_near.nd rfl (Or.inl rfl)) (pgs_cons (pg_name (i := 5) sc_law_near.nd rfl (Or.inl rfl)) (pgs_cons (pg_name (i := 6) sc_law_near.nd rfl (Or.inl rfl)) pgs_nil))))))
      (pss_cons (ps_set (i := 7) sc_law_near.nd rfl (Or.inl rfl) (pe_fn T.d_law_letter G_law_letter hr (by decide) rfl (pa_cons (pv 0) pa_nil)))
      (pss_cons (ps_if (pt_cmpR op_eq (pv 2) pe_int (nomark _)) (pss_one (ps_ret (pe_tup (pa_cons (pv 3) (pa_cons (pe_ix (ixT K) (pv 7) pe_int (fun _ _ => rfl)) (pa_cons (pv 5) (pa_cons (pv 6) pa_nil))))))) pss_nil)
      (pss_cons (ps_if (pt_cmpR op_eq (pv 2) pe_int (nomark _)) (pss_one (ps_ret (pe_tup (pa_cons (pv 3) (pa_cons (pv 4) (pa_cons (pe_ix (ixT K) (pv 7) pe_int (fun _ _ => rfl)) (pa_cons (pv 6) pa_nil))))))) pss_nil)
      (pss_cons (ps_if (pt_cmpR op_eq (pv 2) pe_int (nomark _)) (pss_one (ps_ret (pe_tup (pa_cons (pv 3) (pa_cons (pv 4) (pa_cons (pv 5) (pa_cons (pe_ix (ixT K) (pv 7) pe_int (fun _ _ => rfl)) pa_nil))))))) pss_nil)
      (pss_one (ps_ret (pe_tup (pa_cons (pe_slice sl_str (pe_op op_add_str (pv 3) pe_str) po_none (po_some pe_int)) (pa_cons (pv 4) (pa_cons (pv 5) (pa_cons (pv 6) pa_nil))))))))))))), ?_⟩
    refine tSeq_i ?_; walk_at "vc1"
    refine ⟨p, 4, rfl, hp, by decide, by decide, fun ch H1 hc0 hc1 hp1 b1 => ?_⟩
    obtain ⟨a, r, n, d, h, rs, rfl, L⟩ := hv
    have L1 := L.but hp b1
    refine tSeq_i ?_; walk_at "vc1"
    refine ⟨_, SqT.of L1.at', rfl, _, _, rfl, _, _, rfl, _, _, rfl, _, _, rfl, rfl, ?_⟩
    refine tSeq_i ?_; walk_at "vc1"
    refine ⟨p, rfl, hp1, fun a2 r2 n2 d2 h2 rs2 H2 M hp2 b2 => ?_⟩
    have L3 := L1.but hp1 b2
    have b0 := b1.trans b2
    have hn := nameB_len L.nm
    have e1 : (Str.ofString "a").length = 1 := by decide +kernel
    have four : 4 ≤ sizeLine := by decide
    have fin : ∀ (n : Str) (d : Int) (h : Str) (r : Addr) (rs : List Str) (t : Addr), H2 t = none → H2 r = some (.tup (rs.map V.str)) → nameB n = true → 0 ≤ d → d ≤ 99999999 → OkT h → headV (.str h) = true → h.length ≤ 60 → rs.length ≤ 9 → (∀ x ∈ rs, nameB x = true) → Q (.ref t) (upd H2 t (.tup [.str n, .int d, .str h, .ref r])) := fun n d h r rs t nt hr h1 h2 h3 h4 h5 h6 h7 h8 =>
      q _ _ ⟨t, r, n, d, h, rs, rfl, upd_same, Same.upd nt _ _ hr, h1, h2, h3, h4, h5, h6, h7, h8⟩ (Pot.same (p := p) hp2 (Same.upd nt)) (b0.trans (But.of (Same.upd nt)))
    refine tSeq_i ?_; walk_at "vc1"
    refine ⟨rfl, iteD (fun _ => ?_) (fun _ => ?_)⟩
    · exact ⟨_, SqT.of M.at', _, rfl, four, fun t nt => fin _ _ _ _ rs t nt L3.row L3.nm M.d0 M.d1 L3.ok L3.hv L3.hl L3.rl L3.rn⟩
    refine tSeq_i ?_; walk_at "vc1"
    refine ⟨rfl, iteD (fun _ => ?_) (fun _ => ?_)⟩
    · exact ⟨_, SqT.of M.at', _, rfl, four, fun t nt => fin _ _ _ _ rs t nt L3.row L3.nm L3.d0 L3.d1 M.ok M.hv M.hl L3.rl L3.rn⟩
    refine tSeq_i ?_; walk_at "vc1"
    refine ⟨rfl, iteD (fun _ => ?_) (fun _ => ?_)⟩
    · exact ⟨_, SqT.of M.at', _, rfl, four, fun t nt => fin _ _ _ _ rs2 t nt M.row L3.nm L3.d0 L3.d1 L3.ok L3.hv L3.hl M.rl M.rn⟩
    refine ⟨szl (by omega), szl (by rw [Str.length_append]; omega), four, fun t nt => fin _ _ _ _ rs t nt L3.row ?_ L3.d0 L3.d1 L3.ok L3.hv L3.hl L3.rl L3.rn⟩
    exact slice12 L3.nm
theorem sc_law_pack : FnScope ["_law_pot_here", "_law_most", "_law_found", "_law_k", "_law_letter_here"] ["_law_pot_here", "_law_most"] (defScope s_law_pack) := ⟨rfl, rfl, rfl, by decide +kernel, rfl, by decide +kernel, by decide +kernel⟩
set_option maxHeartbeats 4000000 in
theorem ok_law_pack (T : Txt K mg fs fds tc u) (G_law_take : FnOk P w K mg base CX0 1 (fs 9) (fds 9) ["_law_pot_here", "_law_many"] spTakeB) (G_law_near : FnOk P w K mg base CX0 4 (fs 14) (fds 14) ["_law_pot_here", "_law_elder"] spNear) (G_law_letter : FnOk P w K mg base CX0 3 (fs 13) (fds 13) ["_law_pot_here"] spLetter) : FnOk P w K mg base CX0 5 (fs 15) (fds 15) ["_law_pot_here", "_law_most"] spPackE := by
  refine T.d_law_pack.F.ok sc_law_pack (fun vs H Q E h => ?_) (fun cdv A outer s H vs Q E hr h => ?_)
  · obtain ⟨p, m, rfl, m0, m1, hp, q⟩ := h
    rfl
  · obtain ⟨p, m, rfl, m0, m1, hp, q⟩ := h
    refine ⟨_, (pss_cons (ps_set (i := 2) sc_law_pack.nd rfl (Or.inl rfl) (pe_lst pa_nil))
      (pss_cons (ps_for PassesOwn.never rfl (pi_range1 rfl T.z_range (pa_cons (pe_fn T.d_law_take G_law_take hr (by decide) rfl (pa_cons (pv 0) (pa_cons (pe_op op_add (pv 1) pe_int) pa_nil))) pa_nil)) (pg_name (i := 3) sc_law_pack.nd rfl (Or.inl rfl)) (pss_cons (ps_if (PW.pt (pw_and (pt_cmpR op_eq (pe_fn T.d_law_take G_law_take hr (by decide) rfl (pa_cons (pv 0) (pa_cons pe_int pa_nil))) pe_int (nomark _)) (pw_and1 (pt_cmpR op_gt (pe_callB (lenL K) (by rfl) T.z_len bt_len (pa_cons (pv 2) pa_nil)) pe_int (nomark _))))) (pss_one (ps_set (i := 4) sc_law_pack.nd rfl (Or.inl rfl) (pe_fn T.d_law_near G_law_near hr (by decide) rfl (pa_cons (pv 0) (pa_cons (pe_ix (ixL K) (pv 2) (pe_fn T.d_law_take G_law_take hr (by decide) rfl (pa_cons (pv 0) (pa_cons (pe_callB (lenL K) (by rfl) T.z_len bt_len (pa_cons (pv 2) pa_nil)) pa_nil))) (fun _ _ => rfl)) pa_nil))))) (pss_one (ps_set (i := 4) sc_law_pack.nd rfl (Or.inl rfl) (pe_fn T.d_law_letter G_law_letter hr (by decide) rfl (pa_cons (pv 0) pa_nil)))))
      (pss_one (ps_if (pt_cmpR (notInE K hr) (pv 4) (pv 2) (by rfl)) (pss_one (ps_expr (pe_bmK K PySem.F.plainAttrs_list PySem.F.slot_list_append PySem.F.type_list_append mt_append (pv 2) (pa_cons (pv 4) pa_nil)))) pss_nil))))
      (pss_one (ps_ret (pe_callTy (tupL K) (by rfl) T.z_tuple bt_tuple (pa_cons (pe_callB (sortedE K hr) (by rfl) T.z_sorted bt_sorted (pa_cons (pv 2) pa_nil)) pa_nil)))))), ?_⟩
    refine tSeq_i ?_; walk_at "vc1"
    refine ⟨Nat.zero_le _, fun l1 hl1 => ?_⟩
    have np : l1 ≠ p := fun e => by rw [e] at hl1; obtain ⟨_, _, he, _⟩ := hp; rw [hl1] at he; cases he
    refine tSeq_i ?_
    refine ⟨_, rfl, _, rfl, _, _, rfl, rfl, p, m + 1, rfl, Pot.same (p := p) hp (Same.upd hl1), by omega, by omega, fun k H2 k0 k1 hp2 b2 => ⟨_, rfl, by omega, by omega, for_range (fun i σ H' => Pot H' p ∧ But p H H' ∧ (∃ vs : List V, H' l1 = some (.lst vs) ∧ vs.length ≤ i ∧ (vs.map (kvL H')).Nodup ∧ ∀ x ∈ vs, LtV H' x) ∧ ∃ v3 v4, σ = [some (V.ref p), some (V.int m), some (V.ref l1), v3, v4]) ⟨hp2, (But.of (Same.upd hl1)).trans b2, ⟨[], b2 _ _ upd_same np, Nat.le_refl _, List.nodup_nil, fun _ h => nomatch h⟩, _, _, rfl⟩ ?_ ?_⟩⟩
    · rintro i σ H3 hi ⟨hp3, b3, ⟨vs, hv, hvl, hnd, hvr⟩, v3, v4, rfl⟩
      show tSeq _ _ _ _ _
      have fin : ∀ (H5 : Hp) (v : V), LtV H5 v → Pot H5 p → But p H3 H5 → tIfS (tTest (tOp (rInE K) (tVar 4) (tVar 2))) (tDrop (tBM K "list" rAppend (tVar 2) (tCons (tVar 4) tNil))) tNext
          { nx := fun σ H' => Pot H' p ∧ But p H H' ∧ (∃ vs : List V, H' l1 = some (.lst vs) ∧ vs.length ≤ i + 1 ∧ (vs.map (kvL H')).Nodup ∧ ∀ x ∈ vs, LtV H' x) ∧ ∃ v3 v4, σ = [some (V.ref p), some (V.int m), some (V.ref l1), v3, v4], rt := Q } [some (V.ref p), some (V.int m), some (V.ref l1), some (V.int (0 + i)), some v] H5 := by
        intro H5 v hvt hp5 b5
        have hv5 := b5 l1 _ hv np
        have k5 : Kp H3 H5 := Kp.but hp3 hp5 b5
        have hvr5 : ∀ x ∈ vs, LtV H5 x := fun x hx => (hvr x hx).kp k5
        walk_at "vc1"
        have hnd5 : (vs.map (kvL H5)).Nodup := by rw [keys_kp hvr k5]; exact hnd
        refine ⟨_, SqL.of hv5, fun x hx => let_cmp (hvr5 x hx).letter hvt.letter, ?_⟩
        cases hb : (!vs.any fun z => eqD H5 2 z v) with
        | false => exact iteF ⟨hp5, b3.trans b5, ⟨vs, hv5, by omega, hnd5, hvr5⟩, _, rfl⟩
        | true =>
          have hne : ∀ z ∈ vs, kvL H5 z ≠ kvL H5 v := fun z hz => ltv_ne (hvr5 z hz) hvt (by
            cases e : eqD H5 2 z v with
            | false => rfl
            | true =>
              have : vs.any (fun z => eqD H5 2 z v) = true := List.any_eq_true.mpr ⟨z, hz, e⟩
              rw [this] at hb; cases hb)
          have kL := Kp.lst (ys := vs ++ [v]) hv5
          refine iteT ⟨.inl ⟨_, SqL.of hv5⟩, _, hv5, szt (by omega), ?_, fun b o hb n1 => ?_, ⟨vs ++ [v], upd_same, ?_, ?nd, fun x hx => ?_⟩, ?_⟩
          case nd =>
            rw [List.map_append, keys_kp hvr5 kL]
            refine List.nodup_append.mpr ⟨hnd5, by simp, fun a ha b hb => ?_⟩
            obtain ⟨z, hz, rfl⟩ := List.mem_map.mp ha
            have hb : b = kvL (upd H5 l1 (.lst (vs ++ [v]))) v := by simpa using hb
            rw [hb, kvL_kp hvt kL]
            exact hne z hz
          · obtain ⟨x, y, e, z⟩ := hp5
            exact ⟨x, y, by rw [upd_ne np.symm]; exact e, z⟩
          · rw [upd_ne (ne_of_none hb hl1)]
            exact b5 b o (b3 b o hb n1) n1
          · rw [List.length_append]; show _ + 1 ≤ _; omega
          · rcases List.mem_append.mp hx with h | h
            · exact (hvr5 x h).kp (Kp.lst hv5)
            · rw [List.mem_singleton.mp h]
              exact hvt.kp (Kp.lst hv5)
          · exact ⟨_, rfl⟩
      simp only [tPar, tAsg, tOp, tUn, tC, tVar, rI, rI0, rU, tCB, tCons, tNil, tRet, tLst, tTup, gName, tIfS, tTest, tNext, tBreak, tCont, tDrop, tCall, tIf, tNot, tAnd, tOr, tB, tAndV, tOrV, tNotV, tChain, tSl, tPart, tNoPart, tBM, tBM0, rIxL, rIxT, rIxS, rSlT, rSlL, rIn, rCat, rEqL, rLenL, rLenT, rAll, rAny, rMaxL, rIsi, rTupL, rListL, rEq, rNe, rJoin, rJoinT, rSlW, rCatW, rMulS, rRep1, rNeL, rPopAt, tBack, tDNewK, tDisp, tPairs, tNever, rAppend, rSetL, gSub, gTup, gCons, gNil, tyV, L2.start, cxOf_K, cxComp_K, gt_iff_lt, ge_iff_le, List.map_cons, List.map_nil, List.cons_append, List.nil_append, List.length_cons, List.length_nil, List.replicate, List.getElem?_cons_zero, List.getElem?_cons_succ, List.set_cons_zero, List.set_cons_succ, Option.some.injEq, V.int.injEq, V.str.injEq, V.bl.injEq, V.ref.injEq, V.ty.injEq, List.cons.injEq, and_true, true_and, exists_eq_left, exists_eq_left', exists_eq_right, exists_and_left, exists_and_right, exists_eq_or_imp, exists_const, Nat.reduceAdd, Nat.reduceSub, ite_true, ite_false, Bool.false_eq_true, if_true, if_false, and_assoc, Bool.not_true, Bool.not_false, Bool.true_and, Bool.false_and, decide_true, decide_false, reduceCtorEq, false_and, exists_false, or_false, false_or, rLtD, rEqNil, rSortE, rInE, rNeNil] at fin
      refine tSeq_i ?_; walk_at "vc1"
      refine ⟨p, 2, rfl, hp3, by decide, by decide, fun c H4 c0 c1 hp4 b4 => ?_⟩
      have hv4 := b4 l1 _ hv np
      have k4 : Kp H3 H4 := Kp.but hp3 hp4 b4
      refine ⟨rfl, iteD (fun _ => ⟨_, SqL.of hv4, iteD (fun g => ?_) (fun g => ?_)⟩) (fun _ => ?_)⟩
      · refine ⟨_, SqL.of hv4, p, _, rfl, hp4, by omega, by omega, fun j H5 j0 j1 hp5 b5 => ?_⟩
        obtain ⟨y, hy, hya⟩ := atI_of j0 j1
        exact ⟨_, _, rfl, SqL.of (b5 l1 _ hv4 np), y, hya, p, y, rfl, hp5, ((hvr y hy).kp k4).kp (Kp.but hp4 hp5 b5), fun v' H6 hv' hp6 b6 => fin H6 v' hv' hp6 (b4.trans (b5.trans b6))⟩
      · exact ⟨p, rfl, hp4, fun a r n d h rs H5 L hp5 b5 => fin H5 (.ref a) ⟨a, r, n, d, h, rs, rfl, L⟩ hp5 (b4.trans b5)⟩
      · exact ⟨p, rfl, hp4, fun a r n d h rs H5 L hp5 b5 => fin H5 (.ref a) ⟨a, r, n, d, h, rs, rfl, L⟩ hp5 (b4.trans b5)⟩
    · rintro σ H3 ⟨hp3, b3, ⟨vs, hv, hvl, hnd, hvr⟩, v3, v4, rfl⟩
      walk_at "vc1"
      refine ⟨_, SqL.of hv, by omega, fun y hy => ?_, letO, kvL H3, fun x hx y hy => ⟨let_cmp (hvr x hx).letter (hvr y hy).letter, ltv_lt (hvr x hx) (hvr y hy)⟩, fun l4 out po hle hl4 => ⟨_, SqL.of upd_same, fun l5 hl5 => ?_⟩⟩
      · obtain ⟨a, r, n, d, x, rs, rfl, L⟩ := hvr y hy
        exact ⟨a, n, _, rfl, L.at'⟩
      have s6 := (Same.upd (o := .lst out) hl4).trans (Same.upd (o := .tup out) hl5)
      have hout : ∀ x ∈ out, LtV H3 x := fun x hx => hvr x (po.mem_iff.mp hx)
      refine q _ out _ upd_same (by rw [po.length_eq]; omega) (fun x hx => (hout x hx).kp (.of s6)) (pack_true upd_same (fun x hx => (hout x hx).kp (.of s6)) ?_ fun i j x y hij hx hy => ?_) (Pot.same (p := p) hp3 s6) (b3.trans (But.of s6))
      · rw [keys_kp hout (.of s6)]
        exact (po.map (kvL H3)).nodup_iff.mpr hnd
      · rw [kvL_kp (hout x (List.mem_of_getElem? hx)) (.of s6), kvL_kp (hout y (List.mem_of_getElem? hy)) (.of s6)]
        exact hle i j x y hij hx hy
theorem sc_law : FnScope ["_law_script", "_law_k", "_law_pot_here", "_law_choice", "_law_pack_here", "_law_thing"] ["_law_script"] (defScope s_law) := ⟨rfl, rfl, rfl, by decide +kernel, rfl, by decide +kernel, by decide +kernel⟩
set_option maxHeartbeats 4000000 in
theorem ok_law (T : Txt K mg fs fds tc u) (G_law_pot : FnOk P w K mg base CX0 1 (fs 8) (fds 8) ["_law_script", "_law_k"] (spPot K)) (G_law_take : FnOk P w K mg base CX0 1 (fs 9) (fds 9) ["_law_pot_here", "_law_many"] spTakeB) (G_law_pack : FnOk P w K mg base CX0 5 (fs 15) (fds 15) ["_law_pot_here", "_law_most"] spPackE) (G_law_alike : FnOk P w K mg base CX0 1 (fs 21) (fds 21) ["_law_found", "_law_due"] spAlike) (G_law_spoilt : FnOk P w K mg base CX0 3 (fs 20) (fds 20) ["_law_pot_here", "_law_choice", "_law_pack_here"] spSpoil) (G_is_pack : FnOk P w K mg base CX0 4 (fs 7) (fds 7) ["thing"] (spP packV 3)) (G_law_is_pack : FnOk P w K mg base CX0 3 (fs 18) (fds 18) ["_law_thing"] spPackL) : FnOk P w K mg base CX0 6 (fs 22) (fds 22) ["_law_script"] (spLaw K) := by
  refine T.d_law.F.ok sc_law (fun vs H Q E h => ?_) (fun cdv A outer s H vs Q E hr h => ?_)
  · obtain ⟨a, ns, rfl, hS, hlen, q⟩ := h
    rfl
  · obtain ⟨a, ns, rfl, hS, hlen, q⟩ := h
    refine ⟨_, (pss_cons (ps_for PassesOwn.never rfl (pi_range1 rfl T.z_range (pa_cons (pe_callB (call_max2 rfl) (by rfl) T.z_max bt_max (pa_cons pe_int (pa_cons (pe_callB (call_min2 rfl) (by rfl) T.z_min bt_min (pa_cons pe_int (pa_cons (pe_callB (lenL K) (by rfl) T.z_len bt_len (pa_cons (pv 0) pa_nil)) pa_nil))) pa_nil))) pa_nil)) (pg_name (i := 1) sc_law.nd rfl (Or.inl rfl)) (pss_cons (ps_set (i := 2) sc_law.nd rfl (Or.inl rfl) (pe_fn T.d_law_pot G_law_pot hr (by decide) rfl (pa_cons (pv 0) (pa_cons (pv 1) pa_nil))))
      (pss_cons (ps_set (i := 3) sc_law.nd rfl (Or.inl rfl) (pe_fn T.d_law_take G_law_take hr (by decide) rfl (pa_cons (pv 2) (pa_cons pe_int pa_nil))))
      (pss_cons (ps_set (i := 4) sc_law.nd rfl (Or.inl rfl) (pe_fn T.d_law_pack G_law_pack hr (by decide) rfl (pa_cons (pv 2) (pa_cons pe_int pa_nil))))
      (pss_cons (ps_if (pt_not (pt_val (pe_fn T.d_law_alike G_law_alike hr (by decide) rfl (pa_cons (pe_fn T.d_is_pack G_is_pack hr (by decide) rfl (pa_cons (pv 4) pa_nil)) (pa_cons pe_bl pa_nil))))) (pss_one (ps_ret pe_bl)) pss_nil)
      (pss_one (ps_if (pt_cmpR (neNilT K hr) (pv 4) (pe_tup pa_nil) (nomark _)) (pss_cons (ps_set (i := 5) sc_law.nd rfl (Or.inl rfl) (pe_fn T.d_law_spoilt G_law_spoilt hr (by decide) rfl (pa_cons (pv 2) (pa_cons (pv 3) (pa_cons (pv 4) pa_nil)))))
      (pss_one (ps_if (PW.pt (pw_or (pt_not (pt_val (pe_fn T.d_law_alike G_law_alike hr (by decide) rfl (pa_cons (pe_fn T.d_is_pack G_is_pack hr (by decide) rfl (pa_cons (pv 5) pa_nil)) (pa_cons (pe_fn T.d_law_is_pack G_law_is_pack hr (by decide) rfl (pa_cons (pv 5) pa_nil)) pa_nil))))) (pw_or1 (pt_not (pt_val (pe_fn T.d_law_alike G_law_alike hr (by decide) rfl (pa_cons (pe_fn T.d_is_pack G_is_pack hr (by decide) rfl (pa_cons (pv 4) pa_nil)) (pa_cons pe_bl pa_nil)))))))) (pss_one (ps_ret pe_bl)) pss_nil))) pss_nil)))))))
      (pss_one (ps_ret pe_bl))), ?_⟩
    have hm := turns (L := ((ns.map V.int).length : Int)) (c := 30) (by decide)
    refine tSeq_i ?_
    refine ⟨_, rfl, a, _, rfl, hS, _, _, rfl, _, _, rfl, _, rfl, by omega, by omega, for_range (fun i σ H' => Same H H' ∧ ∃ v1 v2 v3 v4 v5, σ = [some (V.ref a), v1, v2, v3, v4, v5]) ⟨Same.refl _, _, _, _, _, _, rfl⟩ ?_ ?_⟩
    · rintro i σ H2 hi ⟨s2, v1, v2, v3, v4, v5, rfl⟩
      show tSeq _ _ _ _ _
      refine tSeq_i ?_; walk_at "vc1"
      refine ⟨a, ns, _, rfl, hS.same s2, hlen, by omega, by omega, fun p H3 n3 hp3 s3 => ?_⟩
      refine tSeq_i ?_; walk_at "vc1"
      refine ⟨p, 6, rfl, hp3, by decide, by decide, fun c H4 c0 c1 hp4 b4 => ?_⟩
      refine tSeq_i ?_; walk_at "vc1"
      refine ⟨p, 9, rfl, by decide, by decide, hp4, fun t xs H5 ht hxl hx hpk hp5 b5 => ?_⟩
      have tP : Tm H5 (.ref t) := tm_tup ht (by omega) fun x m => (hx x m).tm
      have s5 : Same H H5 := fun b o hb => b5 b o (b4 b o (s3 b o (s2 b o hb)) (ne_of_none (s2 b o hb) n3)) (ne_of_none (s2 b o hb) n3)
      refine tSeq_i ?_; walk_at "vc1"
      refine ⟨.ref t, rfl, tP.1 3, fun H6 s6 => ⟨_, _, rfl, _, rfl, ?_⟩⟩
      rw [hpk, decide_eq_true rfl]
      refine notyes ⟨Nat.zero_le _, fun e ne => ⟨xs, SqT.of (Same.upd ne _ _ (s6 _ _ ht)), SqT.of upd_same, ?_⟩⟩
      have s7 : Same H5 (upd H6 e (HO.tup [])) := s6.trans (Same.upd ne)
      generalize upd H6 e (HO.tup []) = H7 at s7 ⊢
      cases hxs : xs.isEmpty with
      | true => exact notyes' ⟨s5.trans s7, _, rfl⟩
      | false =>
        refine yes' ?_
        have hl0 : 0 < xs.length := by cases xs with
          | nil => cases hxs
          | cons _ _ => rw [List.length_cons]; omega
        refine tSeq_i ?_; walk_at "vc1"
        refine ⟨p, t, c, xs, rfl, Pot.same (p := p) hp5 s7, s7 _ _ ht, hl0, hxl, fun x m => (hx x m).kp (.of s7), fun v H8 hv hp8 b8 => ?_⟩
        have k8 := (Kp.of s7).trans (Kp.but (Pot.same (p := p) hp5 s7) hp8 b8)
        refine ⟨v, rfl, hv.1 3, fun H9 s9 => ⟨v, rfl, (hv.kp (.of s9)).1 3, (hv.kp (.of s9)).2 2, fun H10 s10 => ⟨_, _, rfl, _, rfl, ?_⟩⟩⟩
        rw [packV_kp (hv.1 2) (.of s9), decide_eq_true rfl]
        have s810 := s9.trans s10
        have k10 := k8.trans (Kp.of s810)
        refine notyes ⟨.ref t, rfl, (tP.kp k10).1 3, fun H11 s11 => ⟨_, _, rfl, _, rfl, ?_⟩⟩
        rw [packV_kp (tP.1 2) k10, hpk, decide_eq_true rfl]
        exact notyes ⟨fun b o hb => s11 _ _ (s810 _ _ (b8 b o (s7 _ _ (s5 b o hb)) (ne_of_none (s2 b o hb) n3))), _, rfl⟩
    · rintro σ H2 ⟨s2, _⟩
      exact q H2
end
theorem all_mk {l : PySem.W.OpenLaw} {w : World} {K : PySem.W.Frag} {h : Heap} {mg : Str → Option Value} {fa f0 f1 f2 f3 f4 f5 f6 f7 f8 f9 f10 f11 f12 f13 f14 f15 f16 f17 f18 f19 f20 f21 f22 : Addr} (X : K.In h) (G : h.Ns mainGlobals mg) (hfa : mg "law" = some (.ref fa))
    {od0 an0 od1 an1 od2 an2 od3 an3 od4 an4 od5 an5 od6 an6 od7 an7 od8 an8 od9 an9 od10 an10 od11 an11 od12 an12 od13 an13 od14 an14 od15 an15 od16 an16 od17 an17 od18 an18 od19 an19 od20 an20 od21 an21 od22 an22 : Option Addr} {sl0 sl1 sl2 sl3 sl4 sl5 sl6 sl7 sl8 sl9 sl10 sl11 sl12 sl13 sl14 sl15 sl16 sl17 sl18 sl19 sl20 sl21 sl22 : Array (Option Value)} {oc0 kV0 dc0 pm0 cd0 ct0 oc1 kV1 dc1 pm1 cd1 ct1 oc2 kV2 dc2 pm2 cd2 ct2 oc3 kV3 dc3 pm3 cd3 ct3 oc4 kV4 dc4 pm4 cd4 ct4 oc5 kV5 dc5 pm5 cd5 ct5 oc6 kV6 dc6 pm6 cd6 ct6 oc7 kV7 dc7 pm7 cd7 ct7 oc8 kV8 dc8 pm8 cd8 ct8 oc9 kV9 dc9 pm9 cd9 ct9 oc10 kV10 dc10 pm10 cd10 ct10 oc11 kV11 dc11 pm11 cd11 ct11 oc12 kV12 dc12 pm12 cd12 ct12 oc13 kV13 dc13 pm13 cd13 ct13 oc14 kV14 dc14 pm14 cd14 ct14 oc15 kV15 dc15 pm15 cd15 ct15 oc16 kV16 dc16 pm16 cd16 ct16 oc17 kV17 dc17 pm17 cd17 ct17 oc18 kV18 dc18 pm18 cd18 ct18 oc19 kV19 dc19 pm19 cd19 ct19 oc20 kV20 dc20 pm20 cd20 ct20 oc21 kV21 dc21 pm21 cd21 ct21 oc22 kV22 dc22 pm22 cd22 ct22 : Value} {tk0 tk1 tk2 tk3 tk4 : Tok}
    (a0 : PySem.W.nsIn K mainGlobals "is_name" = some (some (.ref f0))) (l0 : K.lookup f0 = some ⟨oc0, od0, .func (PySem.W.fnOf "is_name" "is_name" (defArgs s_is_name) (defBody s_is_name) (defScope s_is_name) .none kV0 dc0 pm0 an0 cd0 ct0), sl0⟩) (c0 : PySem.W.codeIn K cd0 "is_name" = true) (k0 : PySem.W.keepIn K (.ref f0) = true)
    (a1 : PySem.W.nsIn K mainGlobals "is_whole" = some (some (.ref f1))) (l1 : K.lookup f1 = some ⟨oc1, od1, .func (PySem.W.fnOf "is_whole" "is_whole" (defArgs s_is_whole) (defBody s_is_whole) (defScope s_is_whole) .none kV1 dc1 pm1 an1 cd1 ct1), sl1⟩) (c1 : PySem.W.codeIn K cd1 "is_whole" = true) (k1 : PySem.W.keepIn K (.ref f1) = true)
    (a2 : PySem.W.nsIn K mainGlobals "is_day" = some (some (.ref f2))) (l2 : K.lookup f2 = some ⟨oc2, od2, .func (PySem.W.fnOf "is_day" "is_day" (defArgs s_is_day) (defBody s_is_day) (defScope s_is_day) .none kV2 dc2 pm2 an2 cd2 ct2), sl2⟩) (c2 : PySem.W.codeIn K cd2 "is_day" = true) (k2 : PySem.W.keepIn K (.ref f2) = true)
    (a3 : PySem.W.nsIn K mainGlobals "is_head" = some (some (.ref f3))) (l3 : K.lookup f3 = some ⟨oc3, od3, .func (PySem.W.fnOf "is_head" "is_head" (defArgs s_is_head) (defBody s_is_head) (defScope s_is_head) .none kV3 dc3 pm3 an3 cd3 ct3), sl3⟩) (c3 : PySem.W.codeIn K cd3 "is_head" = true) (k3 : PySem.W.keepIn K (.ref f3) = true)
    (a4 : PySem.W.nsIn K mainGlobals "is_row" = some (some (.ref f4))) (l4 : K.lookup f4 = some ⟨oc4, od4, .func (PySem.W.fnOf "is_row" "is_row" (defArgs s_is_row) (defBody s_is_row) (defScope s_is_row) .none kV4 dc4 pm4 an4 cd4 ct4), sl4⟩) (c4 : PySem.W.codeIn K cd4 "is_row" = true) (k4 : PySem.W.keepIn K (.ref f4) = true)
    (a5 : PySem.W.nsIn K mainGlobals "is_letter" = some (some (.ref f5))) (l5 : K.lookup f5 = some ⟨oc5, od5, .func (PySem.W.fnOf "is_letter" "is_letter" (defArgs s_is_letter) (defBody s_is_letter) (defScope s_is_letter) .none kV5 dc5 pm5 an5 cd5 ct5), sl5⟩) (c5 : PySem.W.codeIn K cd5 "is_letter" = true) (k5 : PySem.W.keepIn K (.ref f5) = true)
    (a6 : PySem.W.nsIn K mainGlobals "rises" = some (some (.ref f6))) (l6 : K.lookup f6 = some ⟨oc6, od6, .func (PySem.W.fnOf "rises" "rises" (defArgs s_rises) (defBody s_rises) (defScope s_rises) .none kV6 dc6 pm6 an6 cd6 ct6), sl6⟩) (c6 : PySem.W.codeIn K cd6 "rises" = true) (k6 : PySem.W.keepIn K (.ref f6) = true)
    (a7 : PySem.W.nsIn K mainGlobals "is_pack" = some (some (.ref f7))) (l7 : K.lookup f7 = some ⟨oc7, od7, .func (PySem.W.fnOf "is_pack" "is_pack" (defArgs s_is_pack) (defBody s_is_pack) (defScope s_is_pack) .none kV7 dc7 pm7 an7 cd7 ct7), sl7⟩) (c7 : PySem.W.codeIn K cd7 "is_pack" = true) (k7 : PySem.W.keepIn K (.ref f7) = true)
    (a8 : PySem.W.nsIn K mainGlobals "_law_pot" = some (some (.ref f8))) (l8 : K.lookup f8 = some ⟨oc8, od8, .func (PySem.W.fnOf "_law_pot" "_law_pot" (defArgs s_law_pot) (defBody s_law_pot) (defScope s_law_pot) .none kV8 dc8 pm8 an8 cd8 ct8), sl8⟩) (c8 : PySem.W.codeIn K cd8 "_law_pot" = true) (k8 : PySem.W.keepIn K (.ref f8) = true)
    (a9 : PySem.W.nsIn K mainGlobals "_law_take" = some (some (.ref f9))) (l9 : K.lookup f9 = some ⟨oc9, od9, .func (PySem.W.fnOf "_law_take" "_law_take" (defArgs s_law_take) (defBody s_law_take) (defScope s_law_take) .none kV9 dc9 pm9 an9 cd9 ct9), sl9⟩) (c9 : PySem.W.codeIn K cd9 "_law_take" = true) (k9 : PySem.W.keepIn K (.ref f9) = true)
    (a10 : PySem.W.nsIn K mainGlobals "_law_signs" = some (some (.ref f10))) (l10 : K.lookup f10 = some ⟨oc10, od10, .func (PySem.W.fnOf "_law_signs" "_law_signs" (defArgs s_law_signs) (defBody s_law_signs) (defScope s_law_signs) .none kV10 dc10 pm10 an10 cd10 ct10), sl10⟩) (c10 : PySem.W.codeIn K cd10 "_law_signs" = true) (k10 : PySem.W.keepIn K (.ref f10) = true)
    (a11 : PySem.W.nsIn K mainGlobals "_law_name" = some (some (.ref f11))) (l11 : K.lookup f11 = some ⟨oc11, od11, .func (PySem.W.fnOf "_law_name" "_law_name" (defArgs s_law_name) (defBody s_law_name) (defScope s_law_name) .none kV11 dc11 pm11 an11 cd11 ct11), sl11⟩) (c11 : PySem.W.codeIn K cd11 "_law_name" = true) (k11 : PySem.W.keepIn K (.ref f11) = true)
    (a12 : PySem.W.nsIn K mainGlobals "_law_day" = some (some (.ref f12))) (l12 : K.lookup f12 = some ⟨oc12, od12, .func (PySem.W.fnOf "_law_day" "_law_day" (defArgs s_law_day) (defBody s_law_day) (defScope s_law_day) .none kV12 dc12 pm12 an12 cd12 ct12), sl12⟩) (c12 : PySem.W.codeIn K cd12 "_law_day" = true) (k12 : PySem.W.keepIn K (.ref f12) = true)
    (a13 : PySem.W.nsIn K mainGlobals "_law_letter" = some (some (.ref f13))) (l13 : K.lookup f13 = some ⟨oc13, od13, .func (PySem.W.fnOf "_law_letter" "_law_letter" (defArgs s_law_letter) (defBody s_law_letter) (defScope s_law_letter) .none kV13 dc13 pm13 an13 cd13 ct13), sl13⟩) (c13 : PySem.W.codeIn K cd13 "_law_letter" = true) (k13 : PySem.W.keepIn K (.ref f13) = true)
    (a14 : PySem.W.nsIn K mainGlobals "_law_near" = some (some (.ref f14))) (l14 : K.lookup f14 = some ⟨oc14, od14, .func (PySem.W.fnOf "_law_near" "_law_near" (defArgs s_law_near) (defBody s_law_near) (defScope s_law_near) .none kV14 dc14 pm14 an14 cd14 ct14), sl14⟩) (c14 : PySem.W.codeIn K cd14 "_law_near" = true) (k14 : PySem.W.keepIn K (.ref f14) = true)
    (a15 : PySem.W.nsIn K mainGlobals "_law_pack" = some (some (.ref f15))) (l15 : K.lookup f15 = some ⟨oc15, od15, .func (PySem.W.fnOf "_law_pack" "_law_pack" (defArgs s_law_pack) (defBody s_law_pack) (defScope s_law_pack) .none kV15 dc15 pm15 an15 cd15 ct15), sl15⟩) (c15 : PySem.W.codeIn K cd15 "_law_pack" = true) (k15 : PySem.W.keepIn K (.ref f15) = true)
    (a16 : PySem.W.nsIn K mainGlobals "_law_is_name" = some (some (.ref f16))) (l16 : K.lookup f16 = some ⟨oc16, od16, .func (PySem.W.fnOf "_law_is_name" "_law_is_name" (defArgs s_law_is_name) (defBody s_law_is_name) (defScope s_law_is_name) .none kV16 dc16 pm16 an16 cd16 ct16), sl16⟩) (c16 : PySem.W.codeIn K cd16 "_law_is_name" = true) (k16 : PySem.W.keepIn K (.ref f16) = true)
    (a17 : PySem.W.nsIn K mainGlobals "_law_is_letter" = some (some (.ref f17))) (l17 : K.lookup f17 = some ⟨oc17, od17, .func (PySem.W.fnOf "_law_is_letter" "_law_is_letter" (defArgs s_law_is_letter) (defBody s_law_is_letter) (defScope s_law_is_letter) .none kV17 dc17 pm17 an17 cd17 ct17), sl17⟩) (c17 : PySem.W.codeIn K cd17 "_law_is_letter" = true) (k17 : PySem.W.keepIn K (.ref f17) = true)
    (a18 : PySem.W.nsIn K mainGlobals "_law_is_pack" = some (some (.ref f18))) (l18 : K.lookup f18 = some ⟨oc18, od18, .func (PySem.W.fnOf "_law_is_pack" "_law_is_pack" (defArgs s_law_is_pack) (defBody s_law_is_pack) (defScope s_law_is_pack) .none kV18 dc18 pm18 an18 cd18 ct18), sl18⟩) (c18 : PySem.W.codeIn K cd18 "_law_is_pack" = true) (k18 : PySem.W.keepIn K (.ref f18) = true)
    (a19 : PySem.W.nsIn K mainGlobals "_law_letter_spoilt" = some (some (.ref f19))) (l19 : K.lookup f19 = some ⟨oc19, od19, .func (PySem.W.fnOf "_law_letter_spoilt" "_law_letter_spoilt" (defArgs s_law_letter_spoilt) (defBody s_law_letter_spoilt) (defScope s_law_letter_spoilt) .none kV19 dc19 pm19 an19 cd19 ct19), sl19⟩) (c19 : PySem.W.codeIn K cd19 "_law_letter_spoilt" = true) (k19 : PySem.W.keepIn K (.ref f19) = true)
    (a20 : PySem.W.nsIn K mainGlobals "_law_spoilt" = some (some (.ref f20))) (l20 : K.lookup f20 = some ⟨oc20, od20, .func (PySem.W.fnOf "_law_spoilt" "_law_spoilt" (defArgs s_law_spoilt) (defBody s_law_spoilt) (defScope s_law_spoilt) .none kV20 dc20 pm20 an20 cd20 ct20), sl20⟩) (c20 : PySem.W.codeIn K cd20 "_law_spoilt" = true) (k20 : PySem.W.keepIn K (.ref f20) = true)
    (a21 : PySem.W.nsIn K mainGlobals "_law_alike" = some (some (.ref f21))) (l21 : K.lookup f21 = some ⟨oc21, od21, .func (PySem.W.fnOf "_law_alike" "_law_alike" (defArgs s_law_alike) (defBody s_law_alike) (defScope s_law_alike) .none kV21 dc21 pm21 an21 cd21 ct21), sl21⟩) (c21 : PySem.W.codeIn K cd21 "_law_alike" = true) (k21 : PySem.W.keepIn K (.ref f21) = true)
    (a22 : PySem.W.nsIn K mainGlobals "law" = some (some (.ref f22))) (l22 : K.lookup f22 = some ⟨oc22, od22, .func (PySem.W.fnOf "law" "law" (defArgs s_law) (defBody s_law) (defScope s_law) .none kV22 dc22 pm22 an22 cd22 ct22), sl22⟩) (c22 : PySem.W.codeIn K cd22 "law" = true) (k22 : PySem.W.keepIn K (.ref f22) = true)
    (z_len : PySem.W.nsIn K mainGlobals "len" = some none)
    (z_isinstance : PySem.W.nsIn K mainGlobals "isinstance" = some none)
    (z_str : PySem.W.nsIn K mainGlobals "str" = some none)
    (z_all : PySem.W.nsIn K mainGlobals "all" = some none)
    (z_bool : PySem.W.nsIn K mainGlobals "bool" = some none)
    (z_int : PySem.W.nsIn K mainGlobals "int" = some none)
    (z_range : PySem.W.nsIn K mainGlobals "range" = some none)
    (z_abs : PySem.W.nsIn K mainGlobals "abs" = some none)
    (z_tuple : PySem.W.nsIn K mainGlobals "tuple" = some none)
    (z_list : PySem.W.nsIn K mainGlobals "list" = some none)
    (z_sorted : PySem.W.nsIn K mainGlobals "sorted" = some none)
    (z_max : PySem.W.nsIn K mainGlobals "max" = some none)
    (z_min : PySem.W.nsIn K mainGlobals "min" = some none)
    (e_NAME_SIGNS : PySem.W.nsIn K mainGlobals "NAME_SIGNS" = some (some (.str (Str.ofString "abcdefghijklmnopqrstuvwxyz0123456789") tk0)))
    (e_LONGEST_NAME : PySem.W.nsIn K mainGlobals "LONGEST_NAME" = some (some (.int 12 tk1)))
    (e_LAST_DAY : PySem.W.nsIn K mainGlobals "LAST_DAY" = some (some (.int 99999999 tk2)))
    (e_LONGEST_HEAD : PySem.W.nsIn K mainGlobals "LONGEST_HEAD" = some (some (.int 60 tk3)))
    (e_LONGEST_ROW : PySem.W.nsIn K mainGlobals "LONGEST_ROW" = some (some (.int 9 tk4)))
    : ∃ fd : FuncData, (∀ (s : Shared) (v : Value), BindsTo s fd ⟨[v], []⟩ [("_law_script", v)]) ∧ ∀ base : Heap, K.In base → base.Ns mainGlobals mg → FnOk l.prog w K mg base CX0 6 fa fd ["_law_script"] (spLaw K) := by
  have e := hfa.symm.trans (PySem.W.mg_of X G a22)
  cases e
  have F0 := fun_mk (st := s_is_name) l0 c0 k0
  have b0 := F0.binds (ps := ["thing"]) fun _ _ _ _ _ _ us hl => match us, hl with | [_], _ => rfl
  have F1 := fun_mk (st := s_is_whole) l1 c1 k1
  have b1 := F1.binds (ps := ["thing"]) fun _ _ _ _ _ _ us hl => match us, hl with | [_], _ => rfl
  have F2 := fun_mk (st := s_is_day) l2 c2 k2
  have b2 := F2.binds (ps := ["thing"]) fun _ _ _ _ _ _ us hl => match us, hl with | [_], _ => rfl
  have F3 := fun_mk (st := s_is_head) l3 c3 k3
  have b3 := F3.binds (ps := ["thing"]) fun _ _ _ _ _ _ us hl => match us, hl with | [_], _ => rfl
  have F4 := fun_mk (st := s_is_row) l4 c4 k4
  have b4 := F4.binds (ps := ["thing"]) fun _ _ _ _ _ _ us hl => match us, hl with | [_], _ => rfl
  have F5 := fun_mk (st := s_is_letter) l5 c5 k5
  have b5 := F5.binds (ps := ["thing"]) fun _ _ _ _ _ _ us hl => match us, hl with | [_], _ => rfl
  have F6 := fun_mk (st := s_rises) l6 c6 k6
  have b6 := F6.binds (ps := ["things"]) fun _ _ _ _ _ _ us hl => match us, hl with | [_], _ => rfl
  have F7 := fun_mk (st := s_is_pack) l7 c7 k7
  have b7 := F7.binds (ps := ["thing"]) fun _ _ _ _ _ _ us hl => match us, hl with | [_], _ => rfl
  have F8 := fun_mk (st := s_law_pot) l8 c8 k8
  have b8 := F8.binds (ps := ["_law_script", "_law_k"]) fun _ _ _ _ _ _ us hl => match us, hl with | [_, _], _ => rfl
  have F9 := fun_mk (st := s_law_take) l9 c9 k9
  have b9 := F9.binds (ps := ["_law_pot_here", "_law_many"]) fun _ _ _ _ _ _ us hl => match us, hl with | [_, _], _ => rfl
  have F10 := fun_mk (st := s_law_signs) l10 c10 k10
  have b10 := F10.binds (ps := []) fun _ _ _ _ _ _ us hl => match us, hl with | [], _ => rfl
  have F11 := fun_mk (st := s_law_name) l11 c11 k11
  have b11 := F11.binds (ps := ["_law_pot_here"]) fun _ _ _ _ _ _ us hl => match us, hl with | [_], _ => rfl
  have F12 := fun_mk (st := s_law_day) l12 c12 k12
  have b12 := F12.binds (ps := ["_law_pot_here"]) fun _ _ _ _ _ _ us hl => match us, hl with | [_], _ => rfl
  have F13 := fun_mk (st := s_law_letter) l13 c13 k13
  have b13 := F13.binds (ps := ["_law_pot_here"]) fun _ _ _ _ _ _ us hl => match us, hl with | [_], _ => rfl
  have F14 := fun_mk (st := s_law_near) l14 c14 k14
  have b14 := F14.binds (ps := ["_law_pot_here", "_law_elder"]) fun _ _ _ _ _ _ us hl => match us, hl with | [_, _], _ => rfl
  have F15 := fun_mk (st := s_law_pack) l15 c15 k15
  have b15 := F15.binds (ps := ["_law_pot_here", "_law_most"]) fun _ _ _ _ _ _ us hl => match us, hl with | [_, _], _ => rfl
  have F16 := fun_mk (st := s_law_is_name) l16 c16 k16
  have b16 := F16.binds (ps := ["_law_thing"]) fun _ _ _ _ _ _ us hl => match us, hl with | [_], _ => rfl
  have F17 := fun_mk (st := s_law_is_letter) l17 c17 k17
  have b17 := F17.binds (ps := ["_law_thing"]) fun _ _ _ _ _ _ us hl => match us, hl with | [_], _ => rfl
  have F18 := fun_mk (st := s_law_is_pack) l18 c18 k18
  have b18 := F18.binds (ps := ["_law_thing"]) fun _ _ _ _ _ _ us hl => match us, hl with | [_], _ => rfl
  have F19 := fun_mk (st := s_law_letter_spoilt) l19 c19 k19
  have b19 := F19.binds (ps := ["_law_pot_here", "_law_letter_here"]) fun _ _ _ _ _ _ us hl => match us, hl with | [_, _], _ => rfl
  have F20 := fun_mk (st := s_law_spoilt) l20 c20 k20
  have b20 := F20.binds (ps := ["_law_pot_here", "_law_choice", "_law_pack_here"]) fun _ _ _ _ _ _ us hl => match us, hl with | [_, _, _], _ => rfl
  have F21 := fun_mk (st := s_law_alike) l21 c21 k21
  have b21 := F21.binds (ps := ["_law_found", "_law_due"]) fun _ _ _ _ _ _ us hl => match us, hl with | [_, _], _ => rfl
  have F22 := fun_mk (st := s_law) l22 c22 k22
  have b22 := F22.binds (ps := ["_law_script"]) fun _ _ _ _ _ _ us hl => match us, hl with | [_], _ => rfl
  have T : Txt K mg (fun i => ([f0, f1, f2, f3, f4, f5, f6, f7, f8, f9, f10, f11, f12, f13, f14, f15, f16, f17, f18, f19, f20, f21, fa] : List Addr).getD i 0) (fun i => ([PySem.W.fnOf "is_name" "is_name" (defArgs s_is_name) (defBody s_is_name) (defScope s_is_name) .none kV0 dc0 pm0 an0 cd0 ct0, PySem.W.fnOf "is_whole" "is_whole" (defArgs s_is_whole) (defBody s_is_whole) (defScope s_is_whole) .none kV1 dc1 pm1 an1 cd1 ct1, PySem.W.fnOf "is_day" "is_day" (defArgs s_is_day) (defBody s_is_day) (defScope s_is_day) .none kV2 dc2 pm2 an2 cd2 ct2, PySem.W.fnOf "is_head" "is_head" (defArgs s_is_head) (defBody s_is_head) (defScope s_is_head) .none kV3 dc3 pm3 an3 cd3 ct3, PySem.W.fnOf "is_row" "is_row" (defArgs s_is_row) (defBody s_is_row) (defScope s_is_row) .none kV4 dc4 pm4 an4 cd4 ct4, PySem.W.fnOf "is_letter" "is_letter" (defArgs s_is_letter) (defBody s_is_letter) (defScope s_is_letter) .none kV5 dc5 pm5 an5 cd5 ct5, PySem.W.fnOf "rises" "rises" (defArgs s_rises) (defBody s_rises) (defScope s_rises) .none kV6 dc6 pm6 an6 cd6 ct6, PySem.W.fnOf "is_pack" "is_pack" (defArgs s_is_pack) (defBody s_is_pack) (defScope s_is_pack) .none kV7 dc7 pm7 an7 cd7 ct7, PySem.W.fnOf "_law_pot" "_law_pot" (defArgs s_law_pot) (defBody s_law_pot) (defScope s_law_pot) .none kV8 dc8 pm8 an8 cd8 ct8, PySem.W.fnOf "_law_take" "_law_take" (defArgs s_law_take) (defBody s_law_take) (defScope s_law_take) .none kV9 dc9 pm9 an9 cd9 ct9, PySem.W.fnOf "_law_signs" "_law_signs" (defArgs s_law_signs) (defBody s_law_signs) (defScope s_law_signs) .none kV10 dc10 pm10 an10 cd10 ct10, PySem.W.fnOf "_law_name" "_law_name" (defArgs s_law_name) (defBody s_law_name) (defScope s_law_name) .none kV11 dc11 pm11 an11 cd11 ct11, PySem.W.fnOf "_law_day" "_law_day" (defArgs s_law_day) (defBody s_law_day) (defScope s_law_day) .none kV12 dc12 pm12 an12 cd12 ct12, PySem.W.fnOf "_law_letter" "_law_letter" (defArgs s_law_letter) (defBody s_law_letter) (defScope s_law_letter) .none kV13 dc13 pm13 an13 cd13 ct13, PySem.W.fnOf "_law_near" "_law_near" (defArgs s_law_near) (defBody s_law_near) (defScope s_law_near) .none kV14 dc14 pm14 an14 cd14 ct14, PySem.W.fnOf "_law_pack" "_law_pack" (defArgs s_law_pack) (defBody s_law_pack) (defScope s_law_pack) .none kV15 dc15 pm15 an15 cd15 ct15, PySem.W.fnOf "_law_is_name" "_law_is_name" (defArgs s_law_is_name) (defBody s_law_is_name) (defScope s_law_is_name) .none kV16 dc16 pm16 an16 cd16 ct16, PySem.W.fnOf "_law_is_letter" "_law_is_letter" (defArgs s_law_is_letter) (defBody s_law_is_letter) (defScope s_law_is_letter) .none kV17 dc17 pm17 an17 cd17 ct17, PySem.W.fnOf "_law_is_pack" "_law_is_pack" (defArgs s_law_is_pack) (defBody s_law_is_pack) (defScope s_law_is_pack) .none kV18 dc18 pm18 an18 cd18 ct18, PySem.W.fnOf "_law_letter_spoilt" "_law_letter_spoilt" (defArgs s_law_letter_spoilt) (defBody s_law_letter_spoilt) (defScope s_law_letter_spoilt) .none kV19 dc19 pm19 an19 cd19 ct19, PySem.W.fnOf "_law_spoilt" "_law_spoilt" (defArgs s_law_spoilt) (defBody s_law_spoilt) (defScope s_law_spoilt) .none kV20 dc20 pm20 an20 cd20 ct20, PySem.W.fnOf "_law_alike" "_law_alike" (defArgs s_law_alike) (defBody s_law_alike) (defScope s_law_alike) .none kV21 dc21 pm21 an21 cd21 ct21, PySem.W.fnOf "law" "law" (defArgs s_law) (defBody s_law) (defScope s_law) .none kV22 dc22 pm22 an22 cd22 ct22] : List FuncData).getD i (PySem.W.fnOf "law" "law" (defArgs s_law) (defBody s_law) (defScope s_law) .none kV22 dc22 pm22 an22 cd22 ct22)) (fun i => ([0, 0, 0, 0, 0] : List Addr).getD i 0) (fun i => ([.str (Str.ofString "abcdefghijklmnopqrstuvwxyz0123456789") tk0, .int 12 tk1, .int 99999999 tk2, .int 60 tk3, .int 9 tk4] : List Value).getD i .none) := ⟨⟨F0, PySem.W.mg_of X G a0, b0⟩, ⟨F1, PySem.W.mg_of X G a1, b1⟩, ⟨F2, PySem.W.mg_of X G a2, b2⟩, ⟨F3, PySem.W.mg_of X G a3, b3⟩, ⟨F4, PySem.W.mg_of X G a4, b4⟩, ⟨F5, PySem.W.mg_of X G a5, b5⟩, ⟨F6, PySem.W.mg_of X G a6, b6⟩, ⟨F7, PySem.W.mg_of X G a7, b7⟩, ⟨F8, PySem.W.mg_of X G a8, b8⟩, ⟨F9, PySem.W.mg_of X G a9, b9⟩, ⟨F10, PySem.W.mg_of X G a10, b10⟩, ⟨F11, PySem.W.mg_of X G a11, b11⟩, ⟨F12, PySem.W.mg_of X G a12, b12⟩, ⟨F13, PySem.W.mg_of X G a13, b13⟩, ⟨F14, PySem.W.mg_of X G a14, b14⟩, ⟨F15, PySem.W.mg_of X G a15, b15⟩, ⟨F16, PySem.W.mg_of X G a16, b16⟩, ⟨F17, PySem.W.mg_of X G a17, b17⟩, ⟨F18, PySem.W.mg_of X G a18, b18⟩, ⟨F19, PySem.W.mg_of X G a19, b19⟩, ⟨F20, PySem.W.mg_of X G a20, b20⟩, ⟨F21, PySem.W.mg_of X G a21, b21⟩, ⟨F22, PySem.W.mg_of X G a22, b22⟩, PySem.W.mg_none_of X G z_len, PySem.W.mg_none_of X G z_isinstance, PySem.W.mg_none_of X G z_str, PySem.W.mg_none_of X G z_all, PySem.W.mg_none_of X G z_bool, PySem.W.mg_none_of X G z_int, PySem.W.mg_none_of X G z_range, PySem.W.mg_none_of X G z_abs, PySem.W.mg_none_of X G z_tuple, PySem.W.mg_none_of X G z_list, PySem.W.mg_none_of X G z_sorted, PySem.W.mg_none_of X G z_max, PySem.W.mg_none_of X G z_min, PySem.W.mg_of X G e_NAME_SIGNS, ⟨_, rfl⟩, PySem.W.mg_of X G e_LONGEST_NAME, ⟨_, rfl⟩, PySem.W.mg_of X G e_LAST_DAY, ⟨_, rfl⟩, PySem.W.mg_of X G e_LONGEST_HEAD, ⟨_, rfl⟩, PySem.W.mg_of X G e_LONGEST_ROW, ⟨_, rfl⟩⟩
  refine ⟨PySem.W.fnOf "law" "law" (defArgs s_law) (defBody s_law) (defScope s_law) .none kV22 dc22 pm22 an22 cd22 ct22, fun s v => .of_eq rfl, fun base _ _ => ?_⟩
  have G_is_name := ok_is_name (P := l.prog) (w := w) (base := base) T 
  have G_is_whole := ok_is_whole (P := l.prog) (w := w) (base := base) T 
  have G_is_head := ok_is_head (P := l.prog) (w := w) (base := base) T 
  have G_rises := ok_rises (P := l.prog) (w := w) (base := base) T 
  have G_law_pot := ok_law_pot (P := l.prog) (w := w) (base := base) T 
  have G_law_take := ok_law_take (P := l.prog) (w := w) (base := base) T 
  have G_law_signs := ok_law_signs (P := l.prog) (w := w) (base := base) T 
  have G_law_is_name := ok_law_is_name (P := l.prog) (w := w) (base := base) T 
  have G_law_alike := ok_law_alike (P := l.prog) (w := w) (base := base) T 
  have G_is_day := ok_is_day (P := l.prog) (w := w) (base := base) T G_is_whole
  have G_is_row := ok_is_row (P := l.prog) (w := w) (base := base) T G_is_name
  have G_law_name := ok_law_name (P := l.prog) (w := w) (base := base) T G_law_take
  have G_law_day := ok_law_day (P := l.prog) (w := w) (base := base) T G_law_take
  have G_law_is_letter := ok_law_is_letter (P := l.prog) (w := w) (base := base) T G_law_is_name
  have G_law_letter_spoilt := ok_law_letter_spoilt (P := l.prog) (w := w) (base := base) T G_law_take
  have G_is_letter := ok_is_letter (P := l.prog) (w := w) (base := base) T G_is_name G_is_day G_is_head G_is_row
  have G_law_letter := ok_law_letter (P := l.prog) (w := w) (base := base) T G_law_name G_law_signs G_law_day G_law_take
  have G_law_is_pack := ok_law_is_pack (P := l.prog) (w := w) (base := base) T G_law_is_letter
  have G_law_spoilt := ok_law_spoilt (P := l.prog) (w := w) (base := base) T G_law_take G_law_letter_spoilt
  have G_is_pack := ok_is_pack (P := l.prog) (w := w) (base := base) T G_rises G_is_letter
  have G_law_near := ok_law_near (P := l.prog) (w := w) (base := base) T G_law_take G_law_letter
  have G_law_pack := ok_law_pack (P := l.prog) (w := w) (base := base) T G_law_take G_law_near G_law_letter
  exact ok_law T G_law_pot G_law_take G_law_pack G_law_alike G_law_spoilt G_is_pack G_law_is_pack
theorem walk {l : PySem.W.OpenLaw} {q : Program} {loose : List Str} {XP : (Str → Option Value) → Heap → Prop} {YP : World → Heap → Prop} {d : DefRec} {K : Params → PySem.W.Frag} (hn : l.most = some 63) (hdf : d.params.defaults = [])
    (hY : ∀ (w : World) (h : Heap), YP w h → (K w.params).In h)
    (F : ∀ (w : World) (mg : Str → Option Value) (fa : Addr) (h : Heap), (K w.params).In h → h.Ns mainGlobals mg → mg d.name = some (.ref fa) →
      ∃ fd : FuncData, (∀ (s : Shared) (u : Value), BindsTo s fd ⟨[u], []⟩ [("_law_script", u)]) ∧ ∀ base : Heap, (K w.params).In base → base.Ns mainGlobals mg → FnOk l.prog w (K w.params) mg base CX0 6 fa fd ["_law_script"] (spLaw (K w.params))) :
    PySem.W.WalkO q loose XP YP l.row.toRowW d [] (fun f vs => PySem.call f vs) :=
  L2.walk_of (n := 63) (k := 6) (x := "_law_script") (CX := fun _ => CX0) (sp := fun w => spLaw (K w.params)) hn (by decide) hdf ⟨rfl, by decide, by decide⟩ hY F (fun _ _ a ns hl _ hS => ⟨a, ns, rfl, hS, hl, fun _ => rfl⟩) fun _ _ _ _ _ z => z
end My
open PySem PySem.W PyProof.Rows
set_option maxRecDepth 100000 in
set_option maxHeartbeats 0 in
theorem PySem.Challenge.cw_answertrees_k04_packs_holds : PySem.Challenge.rw_answertrees_k04_packs.Holds := by
  w_on; o_law; k_head; (case hw => w_witness2)
  k_fill
  refine My.walk (l := PySem.Challenge.rw_answertrees_k04_packs) rfl rfl (fun w h Y => PySem.W.kIn_of Y) ?F
  case F =>
    intro w mg fa h KX G hmg
    refine' My.all_mk KX G hmg ?a0 ?l0 ?c0 ?k0 ?a1 ?l1 ?c1 ?k1 ?a2 ?l2 ?c2 ?k2 ?a3 ?l3 ?c3 ?k3 ?a4 ?l4 ?c4 ?k4 ?a5 ?l5 ?c5 ?k5 ?a6 ?l6 ?c6 ?k6 ?a7 ?l7 ?c7 ?k7 ?a8 ?l8 ?c8 ?k8 ?a9 ?l9 ?c9 ?k9 ?a10 ?l10 ?c10 ?k10 ?a11 ?l11 ?c11 ?k11 ?a12 ?l12 ?c12 ?k12 ?a13 ?l13 ?c13 ?k13 ?a14 ?l14 ?c14 ?k14 ?a15 ?l15 ?c15 ?k15 ?a16 ?l16 ?c16 ?k16 ?a17 ?l17 ?c17 ?k17 ?a18 ?l18 ?c18 ?k18 ?a19 ?l19 ?c19 ?k19 ?a20 ?l20 ?c20 ?k20 ?a21 ?l21 ?c21 ?k21 ?a22 ?l22 ?c22 ?k22 ?z_len ?z_isinstance ?z_str ?z_all ?z_bool ?z_int ?z_range ?z_abs ?z_tuple ?z_list ?z_sorted ?z_max ?z_min ?e_NAME_SIGNS ?e_LONGEST_NAME ?e_LAST_DAY ?e_LONGEST_HEAD ?e_LONGEST_ROW
    (case a0 => k_is)
    (case l0 => k_is)
    (case c0 => k_is)
    (case k0 => k_is)
    (case a1 => k_is)
    (case l1 => k_is)
    (case c1 => k_is)
    (case k1 => k_is)
    (case a2 => k_is)
    (case l2 => k_is)
    (case c2 => k_is)
    (case k2 => k_is)
    (case a3 => k_is)
    (case l3 => k_is)
    (case c3 => k_is)
    (case k3 => k_is)
    (case a4 => k_is)
    (case l4 => k_is)
    (case c4 => k_is)
    (case k4 => k_is)
    (case a5 => k_is)
    (case l5 => k_is)
    (case c5 => k_is)
    (case k5 => k_is)
    (case a6 => k_is)
    (case l6 => k_is)
    (case c6 => k_is)
    (case k6 => k_is)
    (case a7 => k_is)
    (case l7 => k_is)
    (case c7 => k_is)
    (case k7 => k_is)
    (case a8 => k_is)
    (case l8 => k_is)
    (case c8 => k_is)
    (case k8 => k_is)
    (case a9 => k_is)
    (case l9 => k_is)
    (case c9 => k_is)
    (case k9 => k_is)
    (case a10 => k_is)
    (case l10 => k_is)
    (case c10 => k_is)
    (case k10 => k_is)
    (case a11 => k_is)
    (case l11 => k_is)
    (case c11 => k_is)
    (case k11 => k_is)
    (case a12 => k_is)
    (case l12 => k_is)
    (case c12 => k_is)
    (case k12 => k_is)
    (case a13 => k_is)
    (case l13 => k_is)
    (case c13 => k_is)
    (case k13 => k_is)
    (case a14 => k_is)
    (case l14 => k_is)
    (case c14 => k_is)
    (case k14 => k_is)
    (case a15 => k_is)
    (case l15 => k_is)
    (case c15 => k_is)
    (case k15 => k_is)
    (case a16 => k_is)
    (case l16 => k_is)
    (case c16 => k_is)
    (case k16 => k_is)
    (case a17 => k_is)
    (case l17 => k_is)
    (case c17 => k_is)
    (case k17 => k_is)
    (case a18 => k_is)
    (case l18 => k_is)
    (case c18 => k_is)
    (case k18 => k_is)
    (case a19 => k_is)
    (case l19 => k_is)
    (case c19 => k_is)
    (case k19 => k_is)
    (case a20 => k_is)
    (case l20 => k_is)
    (case c20 => k_is)
    (case k20 => k_is)
    (case a21 => k_is)
    (case l21 => k_is)
    (case c21 => k_is)
    (case k21 => k_is)
    (case a22 => k_is)
    (case l22 => k_is)
    (case c22 => k_is)
    (case k22 => k_is)
    (case z_len => k_is)
    (case z_isinstance => k_is)
    (case z_str => k_is)
    (case z_all => k_is)
    (case z_bool => k_is)
    (case z_int => k_is)
    (case z_range => k_is)
    (case z_abs => k_is)
    (case z_tuple => k_is)
    (case z_list => k_is)
    (case z_sorted => k_is)
    (case z_max => k_is)
    (case z_min => k_is)
    (case e_NAME_SIGNS => k_is)
    (case e_LONGEST_NAME => k_is)
    (case e_LAST_DAY => k_is)
    (case e_LONGEST_HEAD => k_is)
    (case e_LONGEST_ROW => k_is)

