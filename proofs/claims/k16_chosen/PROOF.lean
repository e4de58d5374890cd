import PyProof.Rows.All
import Wide.All
import OpenK.AllK
import Wide.FinOn
import Lean
import PyProof.EqAt
import PyProof.EqKinds
import PyProof.TupleCall
import PySem.Challenge.RW_answertrees_k16_chosen
open List (mem_filter mem_range filterMap_cons mem_cons_self mem_cons_of_mem mem_cons mem_append getElem?_set_self getElem?_set_ne mem_filterMap mem_append_right size_toArray append_nil nodup_cons of_mem_zip length_take getElem?_append_right getElem?_append_left getElem?_map mem_of_getElem? length_append length_map length_replicate length_drop length_set map_nil map_cons lookup_cons length_cons any_cons any_map all_eq_true getElem_mem find?_cons length_nil nodup_nil ext_getElem getElem?_eq_getElem toList_toArray getD_eq_getElem?_getD map_append drop_zero drop_eq_getElem_cons drop_length any_eq_true contains_iff_mem append_assoc getElem?_of_mem all_cons take_length getElem?_eq_none length_zipIdx getElem?_zipIdx not_lt pairwise_cons mem_map foldl_append foldl_cons take_succ not_mem_nil length_range getElem_map map_map map_congr_left any_eq_false mem_singleton nodup_append idxOf_lt_length_iff getElem_idxOf all_nil filter_append take_of_length_le perm_cons_erase map_drop flatMap_cons find?_eq_none find?_some getElem?_drop getElem?_inj length_pos_iff filter_cons)
open Nat (lt_of_lt_of_le lt_irrefl ne_of_lt le_trans le_of_lt ne_of_gt le_refl le_succ lt_succ_self zero_le lt_succ_of_lt lt_trans le_succ_of_le zero_add)
open Bool (and_eq_true false_eq_true not_eq_true')
open Option (isSome_iff_exists getD_none isSome_map map_eq_some_iff toList_some bind_some none_or or_none)
open Array (length_toList getD_eq_getD_getElem? getElem?_toList)
open Int (toNat_natCast emod_nonneg emod_lt_of_pos)
open PySem.Heap (get?_push_size lt_size get?_push_of_some get?_update_self get?_update_other size_push)
open PySem.W (Frag methodObj keepIn fnOf codeIn kitOne kia_one nsIn mg_of mg_none_of)
open PySem.F (slot_tuple_add entry_tuple_add args_tuple_add_2 slot_dict_get plainAttrs_dict plainAttrs_list)
set_option compiler.extract_closed false
set_option Elab.async false
set_option linter.all false
set_option maxRecDepth 100000
namespace L2
open PySem PySem.Spec PyProof.Rows
variable {a b it : Addr} {A : Around} {g' : Array GenState} {op : CmpOp} {X : Cx} {d' : Drawn} {CX : EN} {c e tg : Expr} {fd : FuncData} {base h : Heap} {H : Hp} {g : Int -> Int -> Int} {pins : List (Addr × Obj)} {ch fp : List Addr} {es : List Expr} {body : List Stmt} {N ps : List Str} {xs : List V} {us : List Value} {M : Model} {i j k n t' : Nat} {o : Obj} {p pos : Pos} {P : Program} {K : Frag} {r : R2} {scope : Scope} {s : Shared} {sp : Sp} {σ : St} {qual x : Str} {kindOf : Str -> Option NameKind} {mg : Str -> Option Value} {ta : TA} {te : TE} {α κ : Type} {y : V} {u v : Value} {E Q : Value -> Shared -> Prop} {f : Value -> Value -> Sem Value} {w : World}
noncomputable abbrev Key := Sum Int Str
noncomputable def kH : Key -> Value -> Bool
 | .inl k, v => Value.isInt k v
 | .inr x, v => Value.isStrOf x v
noncomputable def XD (w : World) : Key -> Int
 | .inl k => hashInt k
 | .inr x => hashStr w x
theorem bY : ∀ {k : Key} {v : Value}, kH k v = true -> (∃ i t, k = Sum.inl i /\ v = Value.int i t) \/ (∃ x t, k = Sum.inr x /\ v = Value.str x t)
 | .inl i, v, h => by
  obtain ⟨t, e⟩ := Value.isInt_shape (k := i) (v := v) h
  exact .inl ⟨i, t, rfl, e⟩
 | .inr x, v, h => by
  obtain ⟨t, e⟩ := Value.isStrOf_shape (x := x) (v := v) h
  exact .inr ⟨x, t, rfl, e⟩
theorem C6 (i : Int) (t : Tok) : kH (.inl i) (.int i t) = true := by simp [kH, Value.isInt]
theorem DV (x : Str) (t : Tok) : kH (.inr x) (.str x t) = true := by simp [kH, Value.isStrOf]
theorem QH (a b : Int) : decide ((Sum.inl a : Key) = Sum.inl b) = (a == b) := by
 by_cases e : a = b
 ·subst e; simp
 ·have h : ¬ (Sum.inl a : Key) = Sum.inl b := fun q => e (Sum.inl.inj q)
  rw [decide_eq_false h]
  exact (beq_eq_false_iff_ne.mpr e).symm
theorem RW (a b : Str) : decide ((Sum.inr a : Key) = Sum.inr b) = decide (a = b) := by
 by_cases e : a = b
 ·subst e; simp
 ·have h : ¬ (Sum.inr a : Key) = Sum.inr b := fun q => e (Sum.inr.inj q)
  rw [decide_eq_false h, decide_eq_false e]
theorem PR (a : Int) (b : Str) : decide ((Sum.inl a : Key) = Sum.inr b) = false := decide_eq_false (fun q => nomatch q)
theorem Q4 (a : Str) (b : Int) : decide ((Sum.inr a : Key) = Sum.inl b) = false := decide_eq_false (fun q => nomatch q)
noncomputable def bM (prog : Program) (w : World) : PySem.KeyKind prog w Key where
 is := kH
 hash := XD w
 inj := fun v a b ha hb => by
  rcases bY ha with ⟨i, t, rfl, rfl⟩ | ⟨x, t, rfl, rfl⟩
  ·rcases bY hb with ⟨j, u, rfl, e⟩ | ⟨y, u, rfl, e⟩
   ·injection e with e1 _; rw [e1]
   ·exact nomatch e
  ·rcases bY hb with ⟨j, u, rfl, e⟩ | ⟨y, u, rfl, e⟩
   ·exact nomatch e
   ·injection e with e1 _; rw [e1]
 byValue := fun k v h => by
  rcases bY h with ⟨i, t, rfl, rfl⟩ | ⟨x, t, rfl, rfl⟩ <;> rfl
 pyHash := fun hv h => by
  rcases bY hv with ⟨i, t, rfl, rfl⟩ | ⟨x, t, rfl, rfl⟩
  ·exact wpAny_pyHash_int h
  ·exact wpAny_pyHash_str h
 eqBool := fun hu hv h => by
  rcases bY hu with ⟨i, t, rfl, rfl⟩ | ⟨x, t, rfl, rfl⟩
  ·rcases bY hv with ⟨j, u, rfl, rfl⟩ | ⟨y, u, rfl, rfl⟩
   ·rw [QH] at h; exact wpAny_eqBool_int h
   ·rw [PR] at h; exact SeqAt.EqAt.int_str i t y u _ _ _ _ h
  ·rcases bY hv with ⟨j, u, rfl, rfl⟩ | ⟨y, u, rfl, rfl⟩
   ·rw [Q4] at h; exact SeqAt.EqAt.str_int x t j u _ _ _ _ h
   ·rw [RW] at h; exact wpAny_eqBool_str h
 «strs» := fun k x t v h => by
  rcases bY h with ⟨i, u, rfl, e⟩ | ⟨y, u, rfl, e⟩
  ·exact nomatch e
  ·injection e with e1 _
   subst e1
   cases v <;> rfl
theorem xT (prog : Program) (w : World) (i : Int) (t : Tok) : (bM prog w).is (.inl i) (.int i t) = true := C6 i t
theorem xH (prog : Program) (w : World) (x : Str) (t : Tok) : (bM prog w).is (.inr x) (.str x t) = true := DV x t
inductive V where
 | bF | bl (b : Bool) | int (i : Int) | str (x : Str) | UG (b : Array UInt8) | XW (b : UInt64) | ref (a : Addr) | ty (n : String)
 deriving DecidableEq
noncomputable def RelV : V -> Value -> Prop
 | .bF, u => u = Value.none
 | .bl b, u => u = Value.bool b
 | .int i, u => ∃ t, u = Value.int i t
 | .str x, u => ∃ t, u = Value.str x t
 | .UG b, u => ∃ t, u = Value.bytes b t
 | .XW b, u => ∃ t, u = Value.float b t
 | .ref a, u => u = Value.ref a
 | .ty n, u => u = Value.type n
noncomputable abbrev Vals : List V -> List Value -> Prop := Paired RelV
theorem Vals.length (r : Vals xs us) : xs.length = us.length := Paired.length r
theorem Vals.get : ∀ {xs : List V} {us : List Value} {i : Nat} {x : V}, Vals xs us -> xs[i]? = some x -> ∃ u, us[i]? = some u /\ RelV x u
 | _, _, _, _, .nil, e => by simp at e
 | _, _, 0, _, .cons r _, e => by simp at e; subst e; exact ⟨_, rfl, r⟩
 | _, _, i + 1, x, .cons _ t, e => by
  obtain ⟨u, h1, h2⟩ := Vals.get (i := i) (x := x) t (by simpa using e)
  exact ⟨u, by simpa using h1, h2⟩
theorem Vals.set {x : V} (r : RelV x u) : ∀ {xs : List V} {us : List Value} (i : Nat), Vals xs us -> Vals (xs.set i x) (us.set i u)
 | _, _, _, .nil => .nil
 | _, _, 0, .cons _ t => .cons r t
 | _, _, i + 1, .cons q t => .cons q (Vals.set r i t)
theorem Vals.append : ∀ {xs ys : List V} {us ws : List Value}, Vals xs us -> Vals ys ws -> Vals (xs ++ ys) (us ++ ws)
 | _, _, _, _, .nil, s => s
 | _, _, _, _, .cons r t, s => .cons r (Vals.append t s)
theorem Vals.take : ∀ {xs : List V} {us : List Value} (n : Nat), Vals xs us -> Vals (xs.take n) (us.take n)
 | _, _, 0, _ => .nil
 | _, _, _ + 1, .nil => .nil
 | _, _, n + 1, .cons r t => .cons r (Vals.take n t)
theorem Vals.drop : ∀ {xs : List V} {us : List Value} (n : Nat), Vals xs us -> Vals (xs.drop n) (us.drop n)
 | _, _, 0, r => r
 | _, _, _ + 1, .nil => .nil
 | _, _, n + 1, .cons _ t => Vals.drop n t
noncomputable def oR : Option V -> Option Value -> Prop
 | some v, some u => RelV v u
 | none, none => True
 | _, _ => False
noncomputable def KV : List (κ × V) -> List (κ × Value) -> Prop := Paired fun (p : κ × V) (q : κ × Value) => p.1 = q.1 /\ RelV p.2 q.2
noncomputable def kV : Key -> V
 | .inl i => .int i
 | .inr x => .str x
inductive HO where
 | lst (xs : List V)
 | tup (xs : List V)
 | dK (kvs : List (Key × V)) (ep : Nat) | dT (kvs : List (List Key × V))
 | set (S : Int -> Bool) (n : Nat)
 | ins (C dx : Addr) (fs : List (Str × V))
 | own (x : Addr)
 | xd (fs : List (Str × V))
 | met (f x : Addr)
 | XT (lo hi : Int)
 | J2 (o : Obj) (u : HO)
 | O8 (ps : Array Value)
 | ext (φ : Heap -> Prop)
noncomputable abbrev Hp := Addr -> Option HO
noncomputable def upd (H : Hp) (a : Addr) (o : HO) : Hp := fun b => if b = a then some o else H b
theorem aQ {o : HO} : upd H a o a = some o := by unfold upd; rw [if_pos rfl]
theorem aP {o : HO} (h : b ≠ a) : upd H a o b = H b := by unfold upd; rw [if_neg h]
theorem FC {o u : HO} (h : H a = some o) (h' : H b = some u) (d : o ≠ u) : a ≠ b := by
 intro e; subst e; rw [h] at h'; exact d (Option.some.inj h')
theorem bT {o : HO} (h : H a = some o) (h' : H b = none) : a ≠ b := by
 intro e; subst e; rw [h] at h'; cases h'
noncomputable def mY (h : Heap) (a : Addr) (items : Array Value) : Prop := IsTup h a items /\ ∀ o, h.get? a = some o -> o.dict = none
theorem mY.new (h : Heap) (items : Array Value) : mY (h.push { cls := .type "tuple", data := .seq items }) h.objs.size items := ⟨IsTup.new _ _, fun o e => by rw [get?_push_size _ rfl] at e; cases e; rfl⟩
theorem mY.of {items : Array Value} {sl : Array (Option Value)} (e : h.get? a = some { cls := .type "tuple", dict := none, data := .seq items n, slots := sl }) : mY h a items := ⟨⟨_, e, rfl, _, rfl⟩, fun o q => by rw [e] at q; cases q; rfl⟩
section
variable (P : Program) (w : World)
noncomputable def c9 (H : Hp) (h : Heap) (a : Addr) : HO -> Prop
 | .lst xs => xs.length <= sizeLine /\ ∃ (its : List Value) (n : Nat), Vals xs its /\ h.get? a = some { cls := .type "list", data := .seq its.toArray n }
 | .tup xs => xs.length <= sizeLine /\ ∃ its : List Value, Vals xs its /\ mY h a its.toArray
 | .dK kvs ep => kvs.length <= sizeLine /\ (a == sysModules) = false /\ ∃ vs, KV kvs vs /\ h.DictAt (bM P w) a vs ep
 | .dT kvs => kvs.length <= sizeLine /\ (a == sysModules) = false /\ ∃ xs : List (List Key × Addr × Value),
   Paired (fun (p : List Key × V) (q : List Key × Addr × Value) => p.1 = q.1 /\ H q.2.1 = some (.tup (p.1.map kV)) /\ RelV p.2 q.2.2) kvs xs /\
   ∃ o es ep, h.get? a = some o /\ o.ExactDict /\ o.data = .dict es ep /\ es.toList = xs.map (entryOfKey (tupleKind (bM P w))) /\ (xs.map (·.1)).Nodup
 | .set S n => h.SetOf (intKind P w) a S n
 | .ins C dx fs => H dx = some (.own a) /\ fs.length <= 1000 /\ dx ≠ a /\ h.get? a = some (PySem.W.instObj C dx) /\
   ∃ mA, h.Ns1 dx mA /\ (∀ f, oR (fs.lookup f) (mA f)) /\ PySem.Within mA (fs.map (·.1))
 | .own _ => ∃ o, h.get? a = some o
 | .xd fs => ∃ mA, h.Ns1 a mA /\ ∀ f, oR (fs.lookup f) (mA f)
 | .XT lo hi => ∃ t u v, h.get? a = some { cls := .type "range", data := .fields #[.int lo t, .int hi u, .int 1 v] }
 | .J2 o u => h.get? a = some o /\ c9 H h a u
 | .O8 ps => h.get? a = some { cls := .none, data := .fields ps }
 | .met f x => h.get? a = some (methodObj (.ref f) (.ref x))
 | .ext φ => φ h /\ (∃ o, h.get? a = some o) /\ ∀ h1 h2 : Heap, φ h1 -> (∀ o, h1.get? a = some o -> h2.get? a = some o) -> φ h2
noncomputable def kC (H : Hp) (h : Heap) : Prop := ∀ a o, H a = some o -> c9 P w H h a o
end
section
variable {P : Program} {w : World} {H H' : Hp} {h h' : Heap} {a : Addr} {o : HO}
theorem c9.lt (x : c9 P w H h a o) : a < h.objs.size := by
 cases o with
 | lst xs => obtain ⟨_, _, _, _, e⟩ := x; exact lt_size e
 | tup xs => obtain ⟨_, _, _, p⟩ := x; exact p.1.lt
 | dK kvs ep => obtain ⟨_, _, _, _, o, _, e, _⟩ := x; exact lt_size e
 | dT kvs => obtain ⟨_, _, _, _, o, _, _, e, _⟩ := x; exact lt_size e
 | set S n => obtain ⟨o, _, _, _, e, _⟩ := x; exact lt_size e
 | ins C dx fs => obtain ⟨_, _, _, e, _⟩ := x; exact lt_size e
 | own y => obtain ⟨_, e⟩ := x; exact lt_size e
 | xd fs => obtain ⟨_, ⟨_, _, _, e, _⟩, _⟩ := x; exact lt_size e
 | XT lo hi => obtain ⟨_, _, _, e⟩ := x; exact lt_size e
 | J2 ob u => obtain ⟨e, _⟩ := x; exact lt_size e
 | O8 ps => exact lt_size (show h.get? a = some _ from x)
 | met f y => exact lt_size (show h.get? a = some _ from x)
 | ext φ => obtain ⟨_, ⟨_, e⟩, _⟩ := x; exact lt_size e
theorem Paired.PQ {β : Type} {F G : α -> β -> Prop} : ∀ {l₁ : List α} {l₂ : List β}, Paired F l₁ l₂ -> (∀ a b, F a b -> G a b) -> Paired G l₁ l₂
 | _, _, .nil, _ => .nil
 | _, _, .cons r t, f => .cons (f _ _ r) (Paired.PQ t f)
theorem c9.aH (x : c9 P w H h a o) (k : ∀ b u, (b = a \/ H b = some (.own a)) -> h.get? b = some u -> h'.get? b = some u)
  (ho : ∀ b, H b = some (.own a) -> H' b = some (.own a)) (ht : ∀ b xs, H b = some (.tup xs) -> H' b = some (.tup xs)) : c9 P w H' h' a o := by
 induction o with
 | lst xs => obtain ⟨z, its, n, r, e⟩ := x; exact ⟨z, its, n, r, k _ _ (.inl rfl) e⟩
 | tup xs => obtain ⟨z, its, r, ⟨ob, e, c⟩, nd⟩ := x; exact ⟨z, its, r, ⟨ob, k _ _ (.inl rfl) e, c⟩, fun o' e' => by rw [k _ _ (.inl rfl) e] at e'; cases e'; exact nd _ e⟩
 | dK kvs ep => obtain ⟨z, y, vs, r, ob, es, e, c⟩ := x; exact ⟨z, y, vs, r, ob, es, k _ _ (.inl rfl) e, c⟩
 | dT kvs =>
  obtain ⟨z, y, xs, r, ob, es, ep, e, c⟩ := x
  exact ⟨z, y, xs, Paired.PQ r fun p q z => ⟨z.1, ht _ _ z.2.1, z.2.2⟩, ob, es, ep, k _ _ (.inl rfl) e, c⟩
 | set S n => obtain ⟨ob, es, ep, t, e, c⟩ := x; exact ⟨ob, es, ep, t, k _ _ (.inl rfl) e, c⟩
 | ins C dx fs =>
  obtain ⟨d, z, ne, e, mA, ⟨od, es, ep, e2, c⟩, r⟩ := x
  exact ⟨ho _ d, z, ne, k _ _ (.inl rfl) e, mA, ⟨od, es, ep, k _ _ (.inr d) e2, c⟩, r⟩
 | own y => obtain ⟨ob, e⟩ := x; exact ⟨ob, k _ _ (.inl rfl) e⟩
 | xd fs => obtain ⟨mA, ⟨od, es, ep, e, c⟩, r⟩ := x; exact ⟨mA, ⟨od, es, ep, k _ _ (.inl rfl) e, c⟩, r⟩
 | XT lo hi => obtain ⟨t, u, v, e⟩ := x; exact ⟨t, u, v, k _ _ (.inl rfl) e⟩
 | J2 ob u ih => obtain ⟨e, q⟩ := x; exact ⟨k _ _ (.inl rfl) e, ih q⟩
 | O8 ps =>
  have e : h.get? a = some { cls := .none, data := .fields ps } := x
  show h'.get? a = some { cls := .none, data := .fields ps }
  exact k a _ (.inl rfl) e
 | met f y =>
  have e : h.get? a = some (methodObj (.ref f) (.ref y)) := x
  show h'.get? a = some (methodObj (.ref f) (.ref y))
  exact k a _ (.inl rfl) e
 | ext φ => obtain ⟨p, ⟨o, e⟩, st⟩ := x; exact ⟨st _ _ p fun o q => k _ _ (.inl rfl) q, ⟨o, k _ _ (.inl rfl) e⟩, st⟩
theorem kC.lt (x : kC P w H h) (e : H a = some o) : a < h.objs.size := (x a o e).lt
theorem kC.fresh (x : kC P w H h) (e : h.objs.size <= a) : H a = none := by
 cases q : H a with
 | none => rfl
 | some u => exact absurd (lt_of_lt_of_le (x.lt q) e) (lt_irrefl _)
theorem kC.kept (x : kC P w H h) (k : ∀ b u, h.get? b = some u -> h'.get? b = some u) : kC P w H h' := fun a o e =>
 (x a o e).aH (fun b u _ q => k b u q) (fun _ q => q) fun _ _ q => q
theorem kC.laid (x : kC P w H h) (k : ∀ b u, h.get? b = some u -> h'.get? b = some u) (hp : h.objs.size <= a) (new : c9 P w (upd H a o) h' a o) : kC P w (upd H a o) h' := fun b u e => by
 have hn := x.fresh hp
 by_cases hb : b = a
 ·subst hb; rw [aQ] at e; cases e; exact new
 ·rw [aP hb] at e
  exact (x b u e).aH (fun c v _ q => k c v q) (fun c q => by rw [aP (bT q hn)]; exact q) fun c xs q => by rw [aP (bT q hn)]; exact q
end
noncomputable def Rd (H : Hp) (a : Addr) (u : HO) : Prop := H a = some u \/ ∃ o, H a = some (.J2 o u)
theorem Rd.ok {a : Addr} {u : HO} (r : Rd H a u) (x : kC P w H h) : c9 P w H h a u := by
 rcases r with r | ⟨o, r⟩
 ·exact x a u r
 ·obtain ⟨_, q⟩ := x a _ r
  exact q
noncomputable def S5 : Option HO -> Prop
 | some (.lst _) => True
 | some (.dK _ _) => True
 | some (.dT _) => True
 | some (.set _ _) => True
 | some (.ins _ _ _) => True
 | some (.ext _) => True
 | _ => False
section
variable {P : Program} {w : World} {H : Hp} {h h' : Heap} {x e : Addr} {o' : HO}
theorem kC.write (ok : kC P w H h) (mu : S5 (H x)) (he : e = x \/ H e = some (.own x)) (k : ∀ b u, b ≠ e -> h.get? b = some u -> h'.get? b = some u) (heo : ∃ u, h'.get? e = some u)
  (new : c9 P w (upd H x o') h' x o') : kC P w (upd H x o') h' := fun b u q => by
 have nown : ∀ c y, H c = some (.own y) -> c ≠ x := fun c y r z => by subst z; rw [r] at mu; exact mu
 have ntup : ∀ c xs, H c = some (.tup xs) -> c ≠ x := fun c xs r z => by subst z; rw [r] at mu; exact mu
 by_cases hb : b = x
 ·subst hb; rw [aQ] at q; cases q; exact new
 ·rw [aP hb] at q
  by_cases hbe : b = e
  ·have q' : H b = some (.own x) := by
    rcases he with z | z
    ·exact absurd (hbe.trans z) hb
    ·rw [hbe]; exact z
   rw [q] at q'; cases q'
   obtain ⟨v, hv⟩ := heo
   exact ⟨v, by rw [hbe]; exact hv⟩
  ·refine (ok b u q).aH (fun c v hc r => k c v ?_ r) (fun c r => by rw [aP (nown c b r)]; exact r) fun c xs r => by rw [aP (ntup c xs r)]; exact r
   rcases hc with rfl | hc
   ·exact hbe
   ·rintro rfl
    rcases he with z | z
    ·exact nown c b hc z
    ·rw [hc] at z; cases z; exact hb rfl
end
structure Un (fs ex : List Addr) (H H' : Hp) (h h' : Heap) : Prop where
 keep : ∀ b o, h.get? b = some o -> H b = none -> b ∉ fs -> b ∉ ex -> h'.get? b = some o
 slot : ∀ b o, h.get? b = some o -> H b = none -> b ∈ fs -> b ∉ ex -> ∃ sl, h'.get? b = some { o with slots := sl }
 free : ∀ b o, h.get? b = some o -> H b = none -> b ∉ ex -> H' b = none
 there : ∀ b o, h.get? b = some o -> b ∉ ex -> ∃ o', h'.get? b = some o'
 rJ : ∀ b xs, H b = some (.tup xs) -> H' b = some (.tup xs)
 pT : ∀ b o u, H b = some (.J2 o u) -> H' b = some (.J2 o u)
 rN : ∀ b ps, H b = some (.O8 ps) -> ∃ more, H' b = some (.O8 (ps ++ more))
section
variable {fs fs' ex ex' : List Addr} {H H1 H2 : Hp} {h h1 h2 h' : Heap} {a x e : Addr} {o : HO}
theorem Un.any (u : Un fs ex H H1 h h1) {ob : Obj} (q : h.get? b = some ob) (n : H b = none) (hx : b ∉ ex) : ∃ sl, h1.get? b = some { ob with slots := sl } := by
 by_cases hb : b ∈ fs
 ·exact u.slot b ob q n hb hx
 ·exact ⟨ob.slots, u.keep b ob q n hb hx⟩
theorem Un.kept (k : ∀ b u, h.get? b = some u -> h'.get? b = some u) : Un fs ex H H h h' :=
 ⟨fun b ob q _ _ _ => k b ob q, fun b ob q _ _ _ => ⟨ob.slots, k b ob q⟩, fun _ _ _ n _ => n, fun b ob q _ => ⟨ob, k b ob q⟩, fun _ _ q => q, fun _ _ _ q => q, fun _ ps q => ⟨#[], by rw [q]; simp⟩⟩
theorem Un.refl : Un fs ex H H h h := Un.kept fun _ _ q => q
theorem Un.laid (k : ∀ b u, h.get? b = some u -> h'.get? b = some u) (hp : h.objs.size <= a) (hn : H a = none) : Un fs ex H (upd H a o) h h' where
 keep := fun b u q _ _ _ => k b u q
 slot := fun b u q _ _ _ => ⟨u.slots, k b u q⟩
 free := fun b u q n _ => by rw [aP (ne_of_lt (lt_of_lt_of_le (lt_size q) hp))]; exact n
 there := fun b u q _ => ⟨u, k b u q⟩
 rJ := fun b xs q => by rw [aP (bT q hn)]; exact q
 pT := fun b u xs q => by rw [aP (bT q hn)]; exact q
 rN := fun b ps q => ⟨#[], by rw [aP (bT q hn), q]; simp⟩
theorem Un.write (mu : S5 (H x)) (he : e = x \/ H e = some (.own x)) (k : ∀ b u, b ≠ e -> h.get? b = some u -> h'.get? b = some u) (heo : ∃ u, h'.get? e = some u) : Un fs ex H (upd H x o) h h' := by
 have hx : ∀ b, H b = none -> b ≠ x := fun b n z => by subst z; rw [n] at mu; exact mu
 have hb : ∀ b, H b = none -> b ≠ e := fun b n z => by
  subst z
  rcases he with r | r
  ·exact hx b n r
  ·rw [n] at r; cases r
 have hm : ∀ b u, H b = some u -> ¬ S5 (some u) -> b ≠ x := fun b u q nm z => by subst z; rw [q] at mu; exact nm mu
 refine ⟨fun b u q n _ _ => k b u (hb b n) q, fun b u q n _ _ => ⟨u.slots, k b u (hb b n) q⟩, fun b u q n _ => by rw [aP (hx b n)]; exact n, fun b u q _ => ?_,
  fun b xs q => by rw [aP (hm b _ q fun z => z)]; exact q, fun b u xs q => by rw [aP (hm b _ q fun z => z)]; exact q, fun b ps q => ⟨#[], by rw [aP (hm b _ q fun z => z), q]; simp⟩⟩
 by_cases hbe : b = e
 ·subst hbe; exact heo
 ·exact ⟨u, k b u hbe q⟩
end
noncomputable def VS (h : Heap) (H : Hp) : List Addr := (List.range h.objs.size).filter fun a => (H a).isSome
noncomputable def uR (h : Heap) (H : Hp) : Heap := PySem.W.hideAll h (VS h H)
theorem DH (h : Heap) (H : Hp) : (uR h H).objs.size = h.objs.size := PySem.W.hideAll_size _ _
theorem HE (e : h.get? b = some o) (n : H b = none) : (uR h H).get? b = some o :=
 PySem.W.hideAll_get _ e fun hm => by
  have q : (H b).isSome = true := (mem_filter.mp hm).2
  rw [n] at q; simp at q
theorem NC {H : Hp} {b : Addr} (e : (uR h H).get? b = some o) : h.get? b = some o /\ H b = none := by
 have e' : h.get? b = some o := PySem.W.of_hideAll (VS h H) e
 refine ⟨e', ?_⟩
 cases q : H b with
 | none => rfl
 | some x =>
  have hm : b ∈ VS h H := mem_filter.mpr ⟨mem_range.mpr (lt_size e'), by simp [q]⟩
  have z : (uR h H).get? b = none := PySem.W.hideAll_none (VS h H) hm
  rw [z] at e; cases e
structure Mod (K : Frag) (mg : Str -> Option Value) (base : Heap) : Prop where
 W8 : K.In base
 glob : base.Ns mainGlobals mg
 blt : ∃ mb, base.Ns builtinsNs mb /\ ∀ x : Str, x ≠ "__name__" -> mb x = bootBuiltins x
 nolimit : base.NoLimit
structure Cx where
 prog : Program
 w : World
 K : Frag
 mg : Str -> Option Value
 base : Heap
 A : Around
 N : List Str
 gA : Shared
 FW : Hp
 env : Env
 outer : List Env
 stack : List Env
 ex : List Addr
 fn : Str -> Bool
 calm : Bool
 pn : List (Addr × Obj)
 xe : Value -> Shared -> Prop
noncomputable def CG (l : List Env) : List Addr := l.filterMap (·.frame)
noncomputable abbrev Cx.fs (X : Cx) : List Addr := CG X.outer
noncomputable def XI (sc : Scope) (x : Str) : Prop := sc.names.lookup x = some .local \/ sc.names.lookup x = some .cell \/ sc.names.lookup x = some .free
noncomputable def Loc (sc : Scope) (x : Str) : Prop := sc.names.lookup x = some .local \/ sc.names.lookup x = some .cell
noncomputable def Look (env : Env) (h : Heap) (m : Str -> Option Value) (x : Str) (u : Value) : Prop :=
 (env.kindOf x = some .local /\ m x = some u) \/ ((env.kindOf x = some .cell \/ env.kindOf x = some .free) /\ ∃ c, env.cells.lookup x = some c /\ h.IsCell c (some u))
structure Cx.Ok (X : Cx) : Prop where
 mod : Mod X.K X.mg X.base
 kind : X.env.scope.kind = .function
 glob : X.env.globals = mainGlobals
 blt : X.env.builtins = builtinsNs
 above : X.gA.heap.objs.size <= X.env.locals
 inj : ∀ x y c, X.env.cells.lookup x = some c -> X.env.cells.lookup y = some c -> x = y
 has : ∀ x, (X.env.kindOf x = some .cell \/ X.env.kindOf x = some .free) -> ∃ c, X.env.cells.lookup x = some c
 TF : ∀ x c, X.fn x = true -> X.env.cells.lookup x = some c -> X.gA.heap.objs.size <= c
 hd : X.calm = true -> X.A.handled = none
 frames : X.A.frames = some X.stack
 T9 : X.stack = X.outer \/ (X.stack = X.env :: X.outer /\ X.env.frame = some X.env.locals)
 W0 : ∀ b ∈ X.ex, b ≠ X.env.locals /\ ∀ x c, X.env.cells.lookup x = some c -> c ≠ b
 bs : ∀ b o, X.base.get? b = some o -> X.gA.heap.get? b = some o /\ X.FW b = none
 MC : X.base.objs.size <= X.gA.heap.objs.size
 CJ : ∀ b o, X.base.get? b = some o -> b ∉ X.ex
 vP : ∀ b ∈ X.ex, b ∉ X.fs
 oK : X.gA.heap.FunFrames X.base X.outer
 Q7 : ∀ b ∈ X.fs, X.FW b = none
structure Inv (X : Cx) (pins : List (Addr × Obj)) (σ : List (Option V)) (H : Hp) (s : Shared) : Prop where
 ok : X.Ok
 os : s.os = X.gA.os
 bare : AllBare s.gens
 base : Un X.fs X.ex X.FW H X.gA.heap s.heap
 loc : ∃ m, s.heap.Ns X.env.locals m /\ ∀ (i : Nat) (x : Str) (v : V), X.N[i]? = some x -> σ[i]? = some (some v) -> XI X.env.scope x -> ∃ u, RelV v u /\ Look X.env s.heap m x u
 cell : ∀ x c, X.env.cells.lookup x = some c -> ∃ v, s.heap.IsCell c v
 free : H X.env.locals = none
 jL : ∀ x c, X.env.cells.lookup x = some c -> H c = none
 pin : ∀ p ∈ X.pn ++ pins, s.heap.get? p.1 = some p.2 /\ H p.1 = none /\ p.1 ≠ X.env.locals /\ p.1 ∉ X.fs /\ ∀ v, p.2.data ≠ .cell v
 bN : kC X.prog X.w H s.heap
 len : σ.length = X.N.length
section
variable {X : Cx} {pins : List (Addr × Obj)} {σ : List (Option V)} {H H' : Hp} {s : Shared} {h' : Heap}
theorem Cx.Ok.V4 (ok : X.Ok) (e : X.base.get? b = some o) : b ∉ X.fs := fun hb => by
 have := (ok.oK.mem hb).1
 rw [e] at this; cases this
theorem Inv.bs (I : Inv X pins σ H s) : ∀ b o, X.base.get? b = some o -> s.heap.get? b = some o /\ H b = none := fun b o e =>
 ⟨I.base.keep b o (I.ok.bs b o e).1 (I.ok.bs b o e).2 (I.ok.V4 e) (I.ok.CJ b o e), I.base.free b o (I.ok.bs b o e).1 (I.ok.bs b o e).2 (I.ok.CJ b o e)⟩
theorem Inv.bk (I : Inv X pins σ H s) : ∀ b o, X.base.get? b = some o -> s.heap.get? b = some o := fun b o e => (I.bs b o e).1
theorem Inv.mod (I : Inv X pins σ H s) : Mod X.K X.mg X.base := I.ok.mod
theorem Inv.A7 (I : Inv X pins σ H s) : X.K.In s.heap := I.ok.mod.W8.keeps I.bk
theorem Inv.lt (I : Inv X pins σ H s) : X.env.locals < s.heap.objs.size := let ⟨_, hn, _⟩ := I.loc; hn.lt
theorem Inv.sz (I : Inv X pins σ H s) : X.gA.heap.objs.size <= s.heap.objs.size := le_trans I.ok.above (le_of_lt I.lt)
theorem Inv.VC (I : Inv X pins σ H s) (h : s.heap.objs.size <= a) : a ∉ X.fs := fun hb => by
 obtain ⟨_, o, ho, _⟩ := I.ok.oK.mem hb
 exact absurd (lt_of_lt_of_le (lt_size ho) (le_trans I.sz h)) (lt_irrefl _)
theorem Inv.RD (I : Inv X pins σ H s) : ∀ x c, X.env.cells.lookup x = some c -> c ≠ X.env.locals := fun x c e z => by
 obtain ⟨v, o, ho, hd⟩ := I.cell x c e
 obtain ⟨m, ⟨o', es, ep, ho', hd', _⟩, _⟩ := I.loc
 rw [z, ho'] at ho; cases ho; rw [hd'] at hd; cases hd
theorem Inv.oK (I : Inv X pins σ H s) : s.heap.FunFrames X.base X.outer := by
 have all : ∀ (l : List Env), (∀ b ∈ CG l, b ∈ X.fs) -> X.gA.heap.FunFrames X.base l -> s.heap.FunFrames X.base l := by
  intro l
  induction l with
  | nil => intro _ _; trivial
  | cons env r ih =>
   intro hs hl
   obtain ⟨hk, ⟨L, o, hf, hn, ho, hd⟩, hr⟩ := hl
   have hL : L ∈ X.fs := hs L (by unfold CG; rw [filterMap_cons, hf]; exact mem_cons_self)
   obtain ⟨sl, e⟩ := I.base.slot L o ho (I.ok.Q7 L hL) hL fun z => I.ok.vP L z hL
   exact ⟨hk, ⟨L, _, hf, hn, e, hd⟩, ih (fun b hb => hs b (by unfold CG; rw [filterMap_cons, hf]; exact mem_cons_of_mem _ hb)) hr⟩
 exact all X.outer (fun _ hb => hb) I.ok.oK
theorem Inv.stack (I : Inv X pins σ H s) : s.heap.FunFrames X.base X.stack := by
 rcases I.ok.T9 with e | ⟨e, hf⟩
 ·rw [e]; exact I.oK
 ·rw [e]
  obtain ⟨m, hn, _⟩ := I.loc
  refine .cons (by rw [I.ok.kind]; decide) hf hn ?_ I.oK
  exact Heap.get?_none_of_le (le_trans I.ok.MC I.ok.above)
theorem Inv.yX (I : Inv X pins σ H s) : ∀ b ∈ CG X.stack, b ∈ X.env.locals :: X.fs := fun b hb => by
 rcases I.ok.T9 with e | ⟨e, hf⟩
 ·rw [e] at hb; exact mem_cons_of_mem _ hb
 ·rw [e] at hb
  unfold CG at hb
  rw [filterMap_cons, hf] at hb
  exact hb
theorem Inv.BW (I : Inv X pins σ H s) : ∀ b ∈ CG X.stack, H b = none := fun b hb => by
 rcases mem_cons.mp (I.yX b hb) with e | hb
 ·rw [e]; exact I.free
 ·obtain ⟨_, o, ho, _⟩ := I.ok.oK.mem hb
  exact I.base.free b o ho (I.ok.Q7 b hb) fun z => I.ok.vP b z hb
theorem Inv.step (I : Inv X pins σ H s)
  (hch : ∀ b ∈ ch, (b ∈ X.ex \/ X.gA.heap.objs.size <= b) /\ b ≠ X.env.locals /\ (∀ x c, X.env.cells.lookup x = some c -> c ≠ b) /\ ∀ p ∈ X.pn ++ pins, p.1 ≠ b)
  (keep : ∀ b o, b ≠ X.env.locals -> b ∉ X.fs -> b ∉ ch -> s.heap.get? b = some o -> H b = none -> h'.get? b = some o)
  (slot : ∀ b o, b ≠ X.env.locals -> b ∈ X.fs -> b ∉ ch -> s.heap.get? b = some o -> H b = none -> ∃ sl, h'.get? b = some { o with slots := sl }) (free : ∀ b o, b ∉ ch -> s.heap.get? b = some o -> H b = none -> H' b = none)
  (there : ∀ b o, b ∉ ch -> s.heap.get? b = some o -> ∃ o', h'.get? b = some o')
  (rJ : ∀ b xs, H b = some (.tup xs) -> H' b = some (.tup xs)) (pT : ∀ b o u, H b = some (.J2 o u) -> H' b = some (.J2 o u)) (rN : ∀ b ps, H b = some (.O8 ps) -> ∃ more, H' b = some (.O8 (ps ++ more)))
  (ns : ∀ m, s.heap.Ns X.env.locals m -> h'.Ns X.env.locals m) (bN : kC X.prog X.w H' h') (hg : AllBare g') :
  Inv X pins σ H' { s with heap := h', gens := g', drawn := d', toks := t' } := by
 have neL : ∀ b o, X.gA.heap.get? b = some o -> b ≠ X.env.locals := fun b o e => ne_of_lt (lt_of_lt_of_le (lt_size e) I.ok.above)
 have neC : ∀ b o, X.gA.heap.get? b = some o -> b ∉ X.ex -> b ∉ ch := fun b o e hx hb => by
  rcases (hch b hb).1 with z | z
  ·exact hx z
  ·exact absurd (lt_of_lt_of_le (lt_size e) z) (lt_irrefl _)
 have cellK : ∀ x c, X.env.cells.lookup x = some c -> ∀ v, s.heap.IsCell c v -> h'.IsCell c v := fun x c e v ⟨o, ho, hd⟩ => by
  have nch : c ∉ ch := fun z => (hch c z).2.2.1 x c e rfl
  by_cases hc : c ∈ X.fs
  ·obtain ⟨sl, q⟩ := slot c o (I.RD x c e) hc nch ho (I.jL x c e)
   exact ⟨_, q, hd⟩
  ·exact ⟨o, keep c o (I.RD x c e) hc nch ho (I.jL x c e), hd⟩
 refine ⟨I.ok, I.os, hg, ⟨fun b o e n hb hx => ?_, fun b o e n hb hx => ?_, fun b o e n hx => ?_, fun b o e hx => ?_, fun b xs e => rJ b xs (I.base.rJ b xs e), fun b o xs e => pT b o xs (I.base.pT b o xs e), fun b ps e => ?_⟩, ?_, fun x c e => ?_, ?_, fun x c e => ?_, fun p hp => ?_, bN, I.len⟩
 ·exact keep b o (neL b o e) hb (neC b o e hx) (I.base.keep b o e n hb hx) (I.base.free b o e n hx)
 ·obtain ⟨sl, e1⟩ := I.base.slot b o e n hb hx
  obtain ⟨sl', e2⟩ := slot b _ (neL b o e) hb (neC b o e hx) e1 (I.base.free b o e n hx)
  exact ⟨sl', e2⟩
 ·obtain ⟨o', e1⟩ := I.base.there b o e hx
  exact free b o' (neC b o e hx) e1 (I.base.free b o e n hx)
 ·obtain ⟨o', e1⟩ := I.base.there b o e hx
  exact there b o' (neC b o e hx) e1
 ·obtain ⟨m1, e1⟩ := I.base.rN b ps e
  obtain ⟨m2, e2⟩ := rN b _ e1
  exact ⟨m1 ++ m2, by rw [e2, Array.append_assoc]⟩
 ·obtain ⟨m, hn, hl⟩ := I.loc
  refine ⟨m, ns m hn, fun i x v e1 e2 e3 => ?_⟩
  obtain ⟨u, r, l⟩ := hl i x v e1 e2 e3
  refine ⟨u, r, ?_⟩
  rcases l with l | ⟨k, c, e, z⟩
  ·exact .inl l
  ·exact .inr ⟨k, c, e, cellK x c e _ z⟩
 ·obtain ⟨v, z⟩ := I.cell x c e
  exact ⟨v, cellK x c e v z⟩
 ·obtain ⟨m, ⟨o, _, _, ho, _⟩, _⟩ := I.loc
  exact free _ o (fun z => (hch _ z).2.1 rfl) ho I.free
 ·obtain ⟨v, o, ho, hd⟩ := I.cell x c e
  exact free c o (fun z => (hch c z).2.2.1 x c e rfl) ho (I.jL x c e)
 ·obtain ⟨e, n, ne, nf, d⟩ := I.pin p hp
  have nch : p.1 ∉ ch := fun z => (hch p.1 z).2.2.2 p hp rfl
  exact ⟨keep p.1 p.2 ne nf nch e n, free p.1 p.2 nch e n, ne, nf, d⟩
theorem Inv.un (I : Inv X pins σ H s) (u : Un X.fs [] H H' s.heap h') (bN : kC X.prog X.w H' h') : Inv X pins σ H' { s with heap := h', toks := t' } := by
 obtain ⟨m, ⟨o, es, ep, ho, r⟩, _⟩ := id I.loc
 obtain ⟨sl, hL⟩ := u.any ho I.free (by simp)
 exact I.step (g' := s.gens) (d' := s.drawn) (ch := []) (fun _ z => nomatch z) (fun b o _ hb _ e n => u.keep b o e n hb (by simp)) (fun b o _ hb _ e n => u.slot b o e n hb (by simp)) (fun b o _ e n => u.free b o e n (by simp)) (fun b o _ e => u.there b o e (by simp)) u.rJ u.pT u.rN (fun m' hm => by
  obtain ⟨o', es', ep', ho', r'⟩ := hm
  rw [ho] at ho'; cases ho'
  exact ⟨_, es', ep', hL, r'⟩) bN I.bare
theorem Inv.call (I : Inv X pins σ H s) (u : Un (CG X.stack) ch H H' s.heap h') (bN : kC X.prog X.w H' h') (hg : AllBare g')
  (hch : ∀ b ∈ ch, (b ∈ X.ex \/ X.gA.heap.objs.size <= b) /\ b ≠ X.env.locals /\ (∀ x c, X.env.cells.lookup x = some c -> c ≠ b) /\ ∀ p ∈ X.pn ++ pins, p.1 ≠ b) :
  Inv X pins σ H' { s with heap := h', gens := g', drawn := d', toks := t' } := by
 obtain ⟨m, ⟨o, es, ep, ho, r⟩, _⟩ := id I.loc
 obtain ⟨sl, hL⟩ := u.any ho I.free fun z => (hch _ z).2.1 rfl
 exact I.step (ch := ch) hch (fun b o hL hb hc e n => u.keep b o e n (fun z => (mem_cons.mp (I.yX b z)).elim hL hb) hc) (fun b o _ _ hc e n => u.any e n hc) (fun b o hc e n => u.free b o e n hc) (fun b o hc e => u.there b o e hc) u.rJ u.pT u.rN (fun m' hm => by
  obtain ⟨o', es', ep', ho', r'⟩ := hm
  rw [ho] at ho'; cases ho'
  exact ⟨_, es', ep', hL, r'⟩) bN hg
theorem Inv.turned (I : Inv X pins σ H s) (k : ∀ b o, b ≠ it -> s.heap.get? b = some o -> h'.get? b = some o) (hn : H it = none) (hL : it ≠ X.env.locals)
  (h1 : it ∈ X.ex \/ X.gA.heap.objs.size <= it) (h2 : ∀ x c, X.env.cells.lookup x = some c -> c ≠ it) (h3 : ∀ p ∈ X.pn ++ pins, p.1 ≠ it) : Inv X pins σ H { s with heap := h', toks := t' } := by
 have nit : ∀ b u, H b = some u -> b ≠ it := fun b u e z => by rw [z, hn] at e; cases e
 refine I.step (g' := s.gens) (d' := s.drawn) (ch := [it]) (fun b hb => ?_) (fun b o _ _ hc e _ => k b o (fun z => hc (by simp [z])) e) (fun b o _ _ hc e _ => ⟨o.slots, k b o (fun z => hc (by simp [z])) e⟩) (fun _ _ _ _ n => n)
  (fun b o hc e => ⟨o, k b o (fun z => hc (by simp [z])) e⟩) (fun _ _ e => e) (fun _ _ _ e => e) (fun b ps e => ⟨#[], by rw [e]; simp⟩) (fun m hm => ?_) (fun b u e => ?_) I.bare
 ·have e : b = it := by simpa using hb
  subst e
  exact ⟨h1, hL, h2, h3⟩
 ·obtain ⟨o, es, ep, ho, r⟩ := hm
  exact ⟨o, es, ep, k _ o (Ne.symm hL) ho, r⟩
 ·refine (I.bN b u e).aH (fun c v hc q => k c v ?_ q) (fun _ q => q) fun _ _ q => q
  rcases hc with z | z
  ·rw [z]; exact nit b u e
  ·exact nit c _ z
theorem Inv.tok (I : Inv X pins σ H s) (t : Nat) : Inv X pins σ H { s with toks := t } := I.un (h' := s.heap) (t' := t) Un.refl I.bN
theorem Inv.kept (I : Inv X pins σ H s) (k : ∀ b u, s.heap.get? b = some u -> h'.get? b = some u) : Inv X pins σ H { s with heap := h', toks := t' } := I.un (Un.kept k) (I.bN.kept k)
theorem Inv.laid {o : HO} (I : Inv X pins σ H s) (k : ∀ b u, s.heap.get? b = some u -> h'.get? b = some u) (hp : s.heap.objs.size <= a) (new : c9 X.prog X.w (upd H a o) h' a o) :
  Inv X pins σ (upd H a o) { s with heap := h', toks := t' } := I.un (Un.laid k hp (I.bN.fresh hp)) (I.bN.laid k hp new)
theorem Inv.write {x e : Addr} {o : HO} (I : Inv X pins σ H s) (mu : S5 (H x)) (he : e = x \/ H e = some (.own x)) (k : ∀ b u, b ≠ e -> s.heap.get? b = some u -> h'.get? b = some u) (heo : ∃ u, h'.get? e = some u)
  (new : c9 X.prog X.w (upd H x o) h' x o) : Inv X pins σ (upd H x o) { s with heap := h', toks := t' } := I.un (Un.write mu he k heo) (I.bN.write mu he k heo new)
theorem Inv.o8 {pins' : List (Addr × Obj)} (I : Inv X pins σ H s) (h : ∀ p ∈ pins', s.heap.get? p.1 = some p.2 /\ H p.1 = none /\ p.1 ≠ X.env.locals /\ p.1 ∉ X.fs /\ ∀ v, p.2.data ≠ .cell v) : Inv X pins' σ H s :=
 ⟨I.ok, I.os, I.bare, I.base, I.loc, I.cell, I.free, I.jL, fun p hp => (mem_append.mp hp).elim (fun z => I.pin p (List.mem_append_left _ z)) (h p), I.bN, I.len⟩
theorem wL (hN : N.Nodup) (a : N[i]? = some x) (b : N[j]? = some x) : i = j := by
 obtain ⟨h1, e1⟩ := List.getElem?_eq_some_iff.mp a
 obtain ⟨h2, e2⟩ := List.getElem?_eq_some_iff.mp b
 exact (List.getElem_inj hN).mp (e1.trans e2.symm)
theorem D6 {x : Str} {v : V} {Q : Unit -> Shared -> Prop} (I : Inv X pins σ H s) (hN : X.N.Nodup) (hi : X.N[i]? = some x) (hx : Loc X.env.scope x) (r : RelV v u)
  (h : ∀ s', Inv X pins (σ.set i (some v)) H s' -> (∃ a, Heap.SameBut a s.heap s'.heap /\ (a = X.env.locals \/ X.env.cells.lookup x = some a)) -> Q () s') (hf : X.fn x = true \/ X.env.scope.names.lookup x = some .local := by first | exact .inl rfl | exact .inr rfl | assumption) : wpAny M A (storeName X.env x u) Q E s := by
 obtain ⟨m, hn, hl⟩ := id I.loc
 have hcls : (X.env.scope.kind == .class || (X.env.scope.kind == .module && X.env.locals != X.env.globals)) = false := by rw [I.ok.kind]; rfl
 have hiσ : i < σ.length := by rw [I.len]; exact (List.getElem?_eq_some_iff.mp hi).1
 have RD := I.RD
 have tracked : ∀ {a : Addr} {h' : Heap}, (∃ o, s.heap.get? a = some o /\ H a = none) -> Heap.SameBut a s.heap h' -> kC X.prog X.w H h' := fun {a h'} ha hs b ob e => by
  obtain ⟨_, _, hfree⟩ := ha
  refine (I.bN b ob e).aH (fun c w' hc q => (hs.2 c ?_).trans q) (fun _ q => q) fun _ _ q => q
  rintro rfl
  rcases hc with rfl | hc
  ·rw [hfree] at e; cases e
  ·rw [hfree] at hc; cases hc
 rcases hx with hk | hk
 ·refine wpAny_storeName_local hk hn (fun h' hn' hs => ?_) hcls
  obtain ⟨oL, _, _, hoL, _⟩ := id hn
  refine h _ ⟨I.ok, I.os, I.bare, ⟨fun b o e n hb hx => ?_, fun b o e n hb hx => ?_, I.base.free, fun b o e hx => ?_, I.base.rJ, I.base.pT, I.base.rN⟩, ⟨_, hn', fun j y v' e1 e2 e3 => ?_⟩, fun y c e => ?_, I.free, I.jL, fun p hp => ?_, tracked ⟨oL, hoL, I.free⟩ hs, by simpa using I.len⟩ ⟨_, hs, .inl rfl⟩
  ·exact (hs.2 b (ne_of_lt (lt_of_lt_of_le (lt_size e) I.ok.above))).trans (I.base.keep b o e n hb hx)
  ·obtain ⟨sl, e1⟩ := I.base.slot b o e n hb hx
   exact ⟨sl, (hs.2 b (ne_of_lt (lt_of_lt_of_le (lt_size e) I.ok.above))).trans e1⟩
  ·obtain ⟨o', e1⟩ := I.base.there b o e hx
   exact ⟨o', (hs.2 b (ne_of_lt (lt_of_lt_of_le (lt_size e) I.ok.above))).trans e1⟩
  ·by_cases hj : j = i
   ·subst hj
    rw [hi] at e1; cases e1
    rw [getElem?_set_self hiσ] at e2
    cases e2
    exact ⟨u, r, .inl ⟨hk, by simp⟩⟩
   ·rw [getElem?_set_ne (Ne.symm hj)] at e2
    obtain ⟨u', r', q⟩ := hl j y v' e1 e2 e3
    refine ⟨u', r', ?_⟩
    rcases q with ⟨k, e⟩ | ⟨k, c, e, z⟩
    ·refine .inl ⟨k, ?_⟩
     have : y ≠ x := fun e => hj (wL hN e1 (e ▸ hi))
     simp [this, e]
    ·exact .inr ⟨k, c, e, z.sameBut hs (RD y c e)⟩
  ·obtain ⟨w', z⟩ := I.cell y c e
   exact ⟨w', z.sameBut hs (RD y c e)⟩
  ·obtain ⟨e, n, ne, nf, d⟩ := I.pin p hp
   exact ⟨(hs.2 p.1 ne).trans e, n, ne, nf, d⟩
 ·have hfn : X.fn x = true := by
   rcases hf with z | z
   ·exact z
   ·rw [z] at hk; cases hk
  obtain ⟨c, hc⟩ := I.ok.has x (.inl hk)
  obtain ⟨w', z⟩ := I.cell x c hc
  refine wpAny_storeName_cell I.ok.kind hk hc z (fun h' hc' hs => ?_)
  obtain ⟨oc, hoc, hocd⟩ := id z
  refine h { s with heap := h' } ⟨I.ok, I.os, I.bare, ⟨fun b o e n hb hx => ?_, fun b o e n hb hx => ?_, I.base.free, fun b o e hx => ?_, I.base.rJ, I.base.pT, I.base.rN⟩, ⟨m, hn.sameBut hs (Ne.symm (RD x c hc)), fun j y v' e1 e2 e3 => ?_⟩, fun y c' e => ?_, I.free, I.jL, fun p hp => ?_, tracked ⟨oc, hoc, I.jL x c hc⟩ hs, by simpa using I.len⟩ ⟨c, hs, .inr hc⟩
  ·exact (hs.2 b (ne_of_lt (lt_of_lt_of_le (lt_size e) (I.ok.TF x c hfn hc)))).trans (I.base.keep b o e n hb hx)
  ·obtain ⟨sl, e1⟩ := I.base.slot b o e n hb hx
   exact ⟨sl, (hs.2 b (ne_of_lt (lt_of_lt_of_le (lt_size e) (I.ok.TF x c hfn hc)))).trans e1⟩
  ·obtain ⟨o', e1⟩ := I.base.there b o e hx
   exact ⟨o', (hs.2 b (ne_of_lt (lt_of_lt_of_le (lt_size e) (I.ok.TF x c hfn hc)))).trans e1⟩
  ·by_cases hj : j = i
   ·subst hj
    rw [hi] at e1; cases e1
    rw [getElem?_set_self hiσ] at e2
    cases e2
    exact ⟨u, r, .inr ⟨.inl hk, c, hc, hc'⟩⟩
   ·rw [getElem?_set_ne (Ne.symm hj)] at e2
    obtain ⟨u', r', q⟩ := hl j y v' e1 e2 e3
    refine ⟨u', r', ?_⟩
    rcases q with q | ⟨k, c', e, z'⟩
    ·exact .inl q
    ·refine .inr ⟨k, c', e, z'.sameBut hs ?_⟩
     rintro rfl
     exact hj (wL hN e1 (I.ok.inj _ _ _ e hc ▸ hi))
  ·by_cases hcc : c' = c
   ·subst hcc; exact ⟨_, hc'⟩
   ·obtain ⟨w2, z2⟩ := I.cell y c' e
    exact ⟨w2, z2.sameBut hs hcc⟩
  ·obtain ⟨e, n, ne, nf, d⟩ := I.pin p hp
   refine ⟨(hs.2 p.1 ?_).trans e, n, ne, nf, d⟩
   intro q
   rw [q, hoc] at e
   have q' : oc = p.2 := Option.some.inj e
   exact d w' (by rw [<- q']; exact hocd)
theorem qL {v : V} {Q : Unit -> Shared -> Prop} (I : Inv X pins σ H s) (hN : X.N.Nodup) (hi : X.N[i]? = some x) (hx : Loc X.env.scope x) (r : RelV v u)
  (h : ∀ s', Inv X pins (σ.set i (some v)) H s' -> Q () s') (hf : X.fn x = true \/ X.env.scope.names.lookup x = some .local := by first | exact .inl rfl | exact .inr rfl | assumption) : wpAny M A (storeName X.env x u) Q E s :=
 D6 I hN hi hx r (fun s' I' _ => h s' I') hf
theorem Inv.EU {s' : Shared} (I : Inv X pins σ H s) (ho : s'.os = s.os) (u : Un (CG X.stack) ch H H' s.heap s'.heap) (bN : kC X.prog X.w H' s'.heap) (hg : AllBare s'.gens)
  (hch : ∀ b ∈ ch, (b ∈ X.ex \/ X.gA.heap.objs.size <= b) /\ b ≠ X.env.locals /\ (∀ x c, X.env.cells.lookup x = some c -> c ≠ b) /\ ∀ p ∈ X.pn ++ pins, p.1 ≠ b) : Inv X pins σ H' s' := by
 obtain ⟨h', g', d', t', o'⟩ := s'
 have e : o' = s.os := ho
 subst e
 exact I.call (g' := g') (t' := t') (d' := d') u bN hg hch
end
noncomputable abbrev XK := Value -> Option Addr -> Hp -> Prop
noncomputable abbrev St := List (Option V)
noncomputable abbrev VK := V -> Hp -> Prop
noncomputable abbrev TE := St -> Hp -> VK -> Prop
noncomputable abbrev TT := St -> Hp -> (Bool -> Hp -> Prop) -> Prop
noncomputable abbrev TA := St -> Hp -> (List V -> Hp -> Prop) -> Prop
structure Ends where
 nx : St -> Hp -> Prop
 rt : VK
 bk : St -> Hp -> Prop := fun _ _ => False
 ct : St -> Hp -> Prop := fun _ _ => False
noncomputable abbrev TS := Ends -> St -> Hp -> Prop
noncomputable def EP (X : Cx) (pins : List (Addr × Obj)) (σ : St) (Q : VK) (u : Value) (s' : Shared) : Prop := ∃ v H', Inv X pins σ H' s' /\ RelV v u /\ Q v H'
noncomputable def TP (X : Cx) (pins : List (Addr × Obj)) (σ : St) (Q : Bool -> Hp -> Prop) (b : Bool) (s' : Shared) : Prop := ∃ H', Inv X pins σ H' s' /\ Q b H'
noncomputable def AP (X : Cx) (pins : List (Addr × Obj)) (σ : St) (Q : List V -> Hp -> Prop) (us : List Value) (s' : Shared) : Prop := ∃ vs H', Inv X pins σ H' s' /\ Vals vs us /\ Q vs H'
noncomputable def SP (X : Cx) (pins : List (Addr × Obj)) (D : Ends) (f : Flow) (s' : Shared) : Prop :=
 match f with
 | .next => ∃ σ' H', Inv X pins σ' H' s' /\ D.nx σ' H'
 | .brk => ∃ σ' H', Inv X pins σ' H' s' /\ D.bk σ' H'
 | .cont => ∃ σ' H', Inv X pins σ' H' s' /\ D.ct σ' H'
 | .ret u => ∃ v σ' H', Inv X pins σ' H' s' /\ RelV v u /\ D.rt v H'
noncomputable def PE (X : Cx) (e : Expr) (t : TE) : Prop :=
 ∀ (pins : List (Addr × Obj)) (s : Shared) (σ : St) (H : Hp) (Q : VK), Inv X pins σ H s -> t σ H Q -> wpAny (model X.prog X.w) X.A (eval e X.env) (EP X pins σ Q) X.xe s
noncomputable def PT (X : Cx) (e : Expr) (t : TT) : Prop :=
 ∀ (pins : List (Addr × Obj)) (s : Shared) (σ : St) (H : Hp) (Q : Bool -> Hp -> Prop), Inv X pins σ H s -> t σ H Q -> wpAny (model X.prog X.w) X.A (isTrue e X.env (eval e X.env)) (TP X pins σ Q) X.xe s
noncomputable def PW (X : Cx) (e : Expr) (t : TT) : Prop :=
 ∀ (whole : Sem Value) (pins : List (Addr × Obj)) (s : Shared) (σ : St) (H : Hp) (Q : Bool -> Hp -> Prop), Inv X pins σ H s -> t σ H Q -> wpAny (model X.prog X.w) X.A (isTrue e X.env whole) (TP X pins σ Q) X.xe s
theorem PW.pt {t : TT} (h : PW X e t) : PT X e t := h _
noncomputable def PA (X : Cx) (es : List Expr) (t : TA) : Prop :=
 ∀ (pos : Pos) (pins : List (Addr × Obj)) (s : Shared) (σ : St) (H : Hp) (Q : List V -> Hp -> Prop), Inv X pins σ H s -> t σ H Q -> wpAny (model X.prog X.w) X.A (spliced (backTo pos (starEach es X.env))) (AP X pins σ Q) X.xe s
noncomputable def PS (X : Cx) (st : Stmt) (t : TS) : Prop :=
 ∀ (pins : List (Addr × Obj)) (s : Shared) (σ : St) (H : Hp) (D : Ends), Inv X pins σ H s -> t D σ H -> wpAny (model X.prog X.w) X.A (exec st X.env) (SP X pins D) X.xe s
noncomputable def D0 (X : Cx) (st : List Stmt) (t : TS) : Prop :=
 ∀ (pins : List (Addr × Obj)) (s : Shared) (σ : St) (H : Hp) (D : Ends), Inv X pins σ H s -> t D σ H -> wpAny (model X.prog X.w) X.A (execs st X.env) (SP X pins D) X.xe s
theorem cJ {t : Sem α} {Q Q' : α -> Shared -> Prop} (h : wpAny M A t Q E s) (hQ : ∀ a s, Q a s -> Q' a s) : wpAny M A t Q' E s := wpAny_mono h hQ fun _ _ x => x
section
variable {X : Cx}
noncomputable def vI (i : Nat) : TE := fun σ H Q => ∃ v, σ[i]? = some (some v) /\ Q v H
noncomputable def tC (v : V) : TE := fun _ H Q => Q v H
theorem RQ {i : Nat} {x : Str} (hN : X.N[i]? = some x) (hv : XI X.env.scope x) (hd : (x == ("__debug__" : Str)) = false := by decide) (hcd : (x == ("__classdict__" : Str)) = false := by decide) : PE X (.Name x pos) (vI i) := by
 intro pins s σ H Q I h
 obtain ⟨v, e, h⟩ := h
 obtain ⟨m, hn, hl⟩ := I.loc
 obtain ⟨u, r, l⟩ := hl i x v hN e hv
 have fin : EP X pins σ Q u s := ⟨v, H, I, r, h⟩
 rcases l with ⟨hk, hm⟩ | ⟨hk, c, hc, hcell⟩
 ·exact wpAny_Name (wpAny_loadName_local I.ok.kind hk hn hm fin) hd
 ·rcases hk with hk | hk
  ·exact wpAny_Name (wpAny_loadName_cell I.ok.kind hk hc hcell fin) hd
  ·exact wpAny_Name (wpAny_loadName_free I.ok.kind hk hc hcell fin hcd) hd
theorem aF {i j pos} : PE X (.Constant (.int i) j pos) (tC (.int i)) := fun _ _ _ H _ I h => wpAny_Constant_int ⟨.int i, H, I.tok _, ⟨_, rfl⟩, h⟩
theorem BG {b j pos} : PE X (.Constant (.bool b) j pos) (tC (.bl b)) := fun _ _ _ H _ I h => Constant_bool ⟨.bl b, H, I, rfl, h⟩
theorem nK {j pos} : PE X (.Constant .none j pos) (tC .bF) := fun _ _ _ H _ I h => Constant_none ⟨.bF, H, I, rfl, h⟩
theorem dP {x j pos} : PE X (.Constant (.str x) j pos) (tC (.str x)) := fun _ _ _ H _ I h => Calls.Constant_str ⟨.str x, H, I.tok _, ⟨_, rfl⟩, h⟩
noncomputable def Gl (X : Cx) (x : Str) : Prop := X.env.kindOf x = some .globalImplicit
theorem K3 (I : Inv X pins σ H s) (hg : Gl X x) (hm : X.mg x = some u) (h : Q u s)
  (hd : (x == ("__debug__" : Str)) = false := by decide) : wpAny (model X.prog X.w) X.A (eval (.Name x pos) X.env) Q E s :=
 Calls.Name_function_global I.ok.kind hg (Calls.loadGlobal_global (by rw [I.ok.glob]; exact I.mod.glob.keeps I.bk) hm h) hd
theorem m8 (I : Inv X pins σ H s) (hg : Gl X x) (hm : X.mg x = none) (hv : bootBuiltins x = some u) (h : Q u s)
  (hn : x ≠ "__name__" := by decide) (hd : (x == ("__debug__" : Str)) = false := by decide) : wpAny (model X.prog X.w) X.A (eval (.Name x pos) X.env) Q E s := by
 obtain ⟨mb, h1, h2⟩ := I.mod.blt
 exact Calls.Name_function_global I.ok.kind hg (Calls.loadGlobal_builtin (by rw [I.ok.glob]; exact I.mod.glob.keeps I.bk) hm (by rw [I.ok.blt]; exact h1.keeps I.bk) ((h2 x hn).trans hv) h) hd
theorem AV {v : V} (hg : Gl X x) (hm : X.mg x = none) (hv : bootBuiltins x = some u) (r : RelV v u) (hn : x ≠ "__name__" := by decide) (hd : (x == ("__debug__" : Str)) = false := by decide) : PE X (.Name x pos) (tC v) :=
 fun _ _ _ H _ I h => m8 I hg hm hv ⟨v, H, I, r, h⟩ hn hd
variable {a b : Expr} {ta tb : TE} {pos : Pos}
noncomputable def tB (t : TE) : TT := fun σ H Q => t σ H fun x H1 => ∃ c, x = .bl c /\ Q c H1
theorem pQ {t : TE} (h : PE X e t) (he : ∀ whole, isTrue e X.env whole = (do let v <- whole; standAt e.pos; holding [v] (truthy v)) := by intro _; rfl) : PT X e (tB t) := by
 intro pins s σ H Q I hw
 refine isTrue_plain (cJ (h pins s σ H _ I hw) fun v s1 ⟨x, H1, I1, r1, q1⟩ => ?_) (he _)
 obtain ⟨d, rfl, q⟩ := q1
 cases r1
 exact wpAny_truthy_bool ⟨H1, I1, q⟩
variable {tA tB' : TT} {rest : List Expr}
noncomputable def U4 (t u : TT) : TT := fun σ H Q => t σ H fun c H1 => if c = true then u σ H1 Q else Q false H1
noncomputable def XY (t u : TT) : TT := fun σ H Q => t σ H fun c H1 => if c = true then Q true H1 else u σ H1 Q
noncomputable def VG (t : TT) : TT := fun σ H Q => t σ H fun c H1 => Q (!c) H1
theorem tQ (ha : PT X a tA) : PW X (.BoolOp .And [a] pos) tA := by
 intro wh pins s σ H Q I h
 refine isTrue_and (cJ (ha pins s σ H Q I h) fun c s1 e => ?_)
 cases c with
 | true => exact isTrue_and_nil e
 | false => exact e
theorem zH (ha : PT X a tA) : PW X (.BoolOp .Or [a] pos) tA := by
 intro wh pins s σ H Q I h
 refine isTrue_or (cJ (ha pins s σ H Q I h) fun c s1 e => ?_)
 cases c with
 | false => exact isTrue_or_nil e
 | true => exact e
theorem yU (ha : PT X a tA) (hb : PW X (.BoolOp .And (b :: rest) pos) tB') : PW X (.BoolOp .And (a :: b :: rest) pos) (U4 tA tB') := by
 intro wh pins s σ H Q I h
 refine isTrue_and (cJ (ha pins s σ H _ I h) fun c s1 ⟨H1, I1, q1⟩ => ?_)
 cases c with
 | true => exact hb wh pins s1 σ H1 Q I1 q1
 | false => exact ⟨H1, I1, q1⟩
theorem BN (ha : PT X a tA) (hb : PW X (.BoolOp .Or (b :: rest) pos) tB') : PW X (.BoolOp .Or (a :: b :: rest) pos) (XY tA tB') := by
 intro wh pins s σ H Q I h
 refine isTrue_or (cJ (ha pins s σ H _ I h) fun c s1 ⟨H1, I1, q1⟩ => ?_)
 cases c with
 | true => exact ⟨H1, I1, q1⟩
 | false => exact hb wh pins s1 σ H1 Q I1 q1
theorem pW (ha : PT X a tA) : PT X (.UnaryOp .Not a pos) (VG tA) := by
 intro pins s σ H Q I h
 exact isTrue_not (ha pins s σ H (fun c H1 => Q (!c) H1) I h)
noncomputable def N3 (ta : TE) : TE := fun σ H Q => ta σ H fun x H1 => ∃ c, x = .bl c /\ Q (.bl (!c)) H1
theorem P1 (ha : PE X a ta) : PE X (.UnaryOp .Not a pos) (N3 ta) := by
 intro pins s σ H Q I h
 refine UnaryOp_ (cJ (ha pins s σ H _ I h) fun v s1 ⟨x, H1, I1, r1, q1⟩ => ?_)
 obtain ⟨c, rfl, q1⟩ := q1
 cases r1
 exact not_of (wpAny_truthy_bool ⟨.bl (!c), H1, I1, rfl, q1⟩)
noncomputable def XX (t : TT) (ta tb : TE) : TE := fun σ H Q => t σ H fun c H1 => if c = true then ta σ H1 Q else tb σ H1 Q
theorem lZ (hc : PT X c tA) (ha : PE X a ta) (hb : PE X b tb) : PE X (.IfExp c a b pos) (XX tA ta tb) := by
 intro pins s σ H Q I h
 refine wpAny_IfExp (cJ (hc pins s σ H _ I h) fun d s1 ⟨H1, I1, q1⟩ => ?_)
 cases d with
 | true => exact ha pins s1 σ H1 Q I1 q1
 | false => exact hb pins s1 σ H1 Q I1 q1
end
noncomputable def gK (K : Frag) (H : Hp) (a : Addr) (xs : List V) : Prop :=
 Rd H a (.lst xs) \/
  ∃ (o : Obj) (its : Array Value) (n : Nat), K.lookup a = some o /\ o.cls = .type "list" /\ o.dict = none /\ o.data = .seq its n /\ its.size <= sizeLine /\ Vals xs its.toList
noncomputable def lL (K : Frag) (H : Hp) (a : Addr) (xs : List V) : Prop :=
 Rd H a (.tup xs) \/
  ∃ (o : Obj) (its : Array Value) (n : Nat), K.lookup a = some o /\ o.cls = .type "tuple" /\ o.data = .seq its n /\ its.size <= sizeLine /\ Vals xs its.toList
noncomputable def WX : Value -> Option V
 | .none => some .bF
 | .bool b => some (.bl b)
 | .int i _ => some (.int i)
 | .str x _ => some (.str x)
 | .bytes b _ => some (.UG b)
 | .float b _ => some (.XW b)
 | .ref a => some (.ref a)
 | .type n => some (.ty n)
 | _ => none
theorem RelV.abs {x : V} (r : RelV x u) : WX u = some x := by
 cases x with
 | bF => cases r; rfl
 | bl _ => cases r; rfl
 | int _ => obtain ⟨t, rfl⟩ := r; rfl
 | str _ => obtain ⟨t, rfl⟩ := r; rfl
 | UG _ => obtain ⟨t, rfl⟩ := r; rfl
 | XW _ => obtain ⟨t, rfl⟩ := r; rfl
 | ref _ => cases r; rfl
 | ty _ => cases r; rfl
theorem RelV.inj {x : V} (r : RelV x u) (q : RelV y u) : x = y := Option.some.inj (r.abs.symm.trans q.abs)
theorem Vals.inj : ∀ {xs ys : List V} {us : List Value}, Vals xs us -> Vals ys us -> xs = ys
 | _, _, _, .nil, .nil => rfl
 | _, _, _, .cons r t, .cons r' t' => by rw [r.inj r', Vals.inj t t']
section
variable {X : Cx} {pins : List (Addr × Obj)} {σ : St} {H : Hp} {s : Shared} {a : Addr} {xs ys : List V}
theorem gK.of (h : H a = some (.lst xs)) : gK K H a xs := .inl (.inl h)
theorem lL.of (h : H a = some (.tup xs)) : lL K H a xs := .inl (.inl h)
theorem Inv.list (I : Inv X pins σ H s) (h : gK X.K H a xs) : ∃ its : List Value, Vals xs its /\ PlainL s.heap a its.toArray /\ xs.length <= sizeLine := by
 rcases h with h | ⟨o, its, n, hk, hc, hd, hs, hz, r⟩
 ·obtain ⟨z, its, n, r, e⟩ := h.ok I.bN
  exact ⟨its, r, ⟨_, n, e, rfl, rfl, rfl⟩, z⟩
 ·refine ⟨its.toList, r, ⟨o, n, I.A7 a o hk, hc, hd, by simpa using hs⟩, ?_⟩
  have e := r.length
  simp only [length_toList] at e
  omega
theorem Inv.tuple (I : Inv X pins σ H s) (h : lL X.K H a xs) : ∃ its : List Value, Vals xs its /\ IsTup s.heap a its.toArray /\ xs.length <= sizeLine := by
 rcases h with h | ⟨o, its, n, hk, hc, hs, hz, r⟩
 ·obtain ⟨z, its, r, p⟩ := h.ok I.bN
  exact ⟨its, r, p.1, z⟩
 ·refine ⟨its.toList, r, ⟨o, I.A7 a o hk, hc, n, by simpa using hs⟩, ?_⟩
  have e := r.length
  simp only [length_toList] at e
  omega
theorem Inv.yC (I : Inv X pins σ H s) (h : gK X.K H a xs) (h' : gK X.K H a ys) : xs = ys := by
 obtain ⟨its, r, ⟨o, n, e, _, _, d⟩, _⟩ := I.list h
 obtain ⟨its', r', ⟨o', n', e', _, _, d'⟩, _⟩ := I.list h'
 rw [e] at e'; cases e'
 rw [d] at d'
 injection d' with d1 _
 have : its = its' := by simpa using congrArg Array.toList d1
 subst this
 exact r.inj r'
theorem Inv.sH (I : Inv X pins σ H s) (h : lL X.K H a xs) (h' : lL X.K H a ys) : xs = ys := by
 obtain ⟨its, r, ⟨o, e, _, n, d⟩, _⟩ := I.tuple h
 obtain ⟨its', r', ⟨o', e', _, n', d'⟩, _⟩ := I.tuple h'
 rw [e] at e'; cases e'
 rw [d] at d'
 injection d' with d1 _
 have : its = its' := by simpa using congrArg Array.toList d1
 subst this
 exact r.inj r'
end
noncomputable abbrev Cx.rP (X : Cx) (E : Value -> Shared -> Prop) : Cx := { X with xe := E }
noncomputable abbrev Cx.TM (X : Cx) : Cx := X.rP fun _ _ => False
theorem Cx.Ok.rP (ok : X.Ok) (E : Value -> Shared -> Prop) : (X.rP E).Ok :=
 ⟨ok.mod, ok.kind, ok.glob, ok.blt, ok.above, ok.inj, ok.has, ok.TF, ok.hd, ok.frames, ok.T9, ok.W0, ok.bs, ok.MC, ok.CJ, ok.vP, ok.oK, ok.Q7⟩
theorem Cx.Ok.jN (ok : (X.rP E).Ok) : X.Ok :=
 ⟨ok.mod, ok.kind, ok.glob, ok.blt, ok.above, ok.inj, ok.has, ok.TF, ok.hd, ok.frames, ok.T9, ok.W0, ok.bs, ok.MC, ok.CJ, ok.vP, ok.oK, ok.Q7⟩
section
variable {X : Cx} {pins : List (Addr × Obj)} {σ : St} {H : Hp} {s : Shared} {E : Value -> Shared -> Prop}
theorem Inv.rP (I : Inv X pins σ H s) (E : Value -> Shared -> Prop) : Inv (X.rP E) pins σ H s := ⟨I.ok.rP E, I.os, I.bare, I.base, I.loc, I.cell, I.free, I.jL, I.pin, I.bN, I.len⟩
theorem Inv.jN (I : Inv (X.rP E) pins σ H s) : Inv X pins σ H s := ⟨I.ok.jN, I.os, I.bare, I.base, I.loc, I.cell, I.free, I.jL, I.pin, I.bN, I.len⟩
theorem SP.jN {D : Ends} {f : Flow} {s' : Shared} (h : SP (X.rP E) pins D f s') : SP X pins D f s' := by
 cases f with
 | next => obtain ⟨σ', H', I, q⟩ := h; exact ⟨σ', H', I.jN, q⟩
 | brk => obtain ⟨σ', H', I, q⟩ := h; exact ⟨σ', H', I.jN, q⟩
 | cont => obtain ⟨σ', H', I, q⟩ := h; exact ⟨σ', H', I.jN, q⟩
 | ret u => obtain ⟨v, σ', H', I, r, q⟩ := h; exact ⟨v, σ', H', I.jN, r, q⟩
theorem D0.TM {st : List Stmt} {t : TS} (h : D0 X.TM st t) : D0 X st t := fun pins s σ H D I hw =>
 wpAny_mono (h pins s σ H D (I.rP _) hw) (fun _ _ q => q.jN) fun _ _ z => False.elim z
end
section
variable {X : Cx} {st : Stmt} {rest : List Stmt} {t u : TS} {e : Expr} {te : TE} {pos : Pos}
noncomputable def G5 : TS := fun D σ H => D.nx σ H
noncomputable def MA (t u : TS) : TS := fun D σ H => t { D with nx := u D } σ H
theorem cE : D0 X [] G5 := fun _ _ σ H _ I h => wpAny_execs_nil ⟨σ, H, I, h⟩
theorem aG (h1 : PS X st t) (h2 : D0 X rest u) : D0 X (st :: rest) (MA t u) := by
 intro pins s σ H D I h
 refine wpAny_execs_cons (cJ (h1 pins s σ H { D with nx := u D } I h) fun f s1 q => ?_)
 cases f with
 | next =>
  obtain ⟨σ', H', I', q⟩ := q
  exact h2 pins s1 σ' H' D I' q
 | ret v => exact q
 | brk => exact q
 | cont => exact q
theorem aO (h1 : PS X st t) : D0 X [st] t := by
 intro pins s σ H D I h
 refine wpAny_execs_cons (cJ (h1 pins s σ H D I h) fun f s1 q => ?_)
 cases f with
 | next => exact wpAny_execs_nil q
 | ret v => exact q
 | brk => exact q
 | cont => exact q
theorem Inv.quiet (I : Inv X pins σ H s) : interactive X.env = false := by simp [interactive, I.ok.kind]
noncomputable def HL (te : TE) : TS := fun D σ H => te σ H fun _ H1 => D.nx σ H1
theorem mC (he : PE X e te) (hs : swapsWith e none pos.line X.env = pure false := by rfl) : PS X (.Expr e pos) (HL te) := by
 intro pins s σ H D I h
 exact wpAny_Expr_any (cJ (he pins s σ H _ I h) fun v s1 ⟨x, H1, I1, r1, q1⟩ => ⟨σ, H1, I1, q1⟩) I.quiet hs
noncomputable def QJ (te : TE) : TS := fun D σ H => te σ H D.rt
theorem bQ (he : PE X e te) : PS X (.Return (some e) pos) (QJ te) := by
 intro pins s σ H D I h
 exact wpAny_Return_some (cJ (he pins s σ H _ I h) fun v s1 ⟨x, H1, I1, r1, q1⟩ => ⟨x, σ, H1, I1, r1, q1⟩)
noncomputable def P0 (c : TT) (t u : TS) : TS := fun D σ H => c σ H fun b H1 => if b = true then t D σ H1 else u D σ H1
theorem eO {a b : List Stmt} {tc : TT} (hc : PT X c tc) (ha : D0 X a t) (hb : D0 X b u) : PS X (.If c a b pos) (P0 tc t u) := by
 intro pins s σ H D I h
 refine wpAny_If (cJ (hc pins s σ H _ I h) fun d s1 ⟨H1, I1, q1⟩ => ?_)
 cases d with
 | true => exact ha pins s1 σ H1 D I1 q1
 | false => exact hb pins s1 σ H1 D I1 q1
end
noncomputable abbrev TG := V -> St -> Hp -> (St -> Hp -> Prop) -> Prop
noncomputable abbrev B0 := List V -> St -> Hp -> (St -> Hp -> Prop) -> Prop
noncomputable def PG (X : Cx) (target : Expr) (t : TG) : Prop :=
 ∀ (pins : List (Addr × Obj)) (s : Shared) (σ : St) (H : Hp) (v : V) (u : Value) (Q : St -> Hp -> Prop), Inv X pins σ H s -> RelV v u -> t v σ H Q ->
  wpAny (model X.prog X.w) X.A (assign target X.env u) (fun _ s' => ∃ σ' H', Inv X pins σ' H' s' /\ Q σ' H') X.xe s
noncomputable def UN (X : Cx) (ts : List Expr) (t : B0) : Prop :=
 ∀ (pins : List (Addr × Obj)) (s : Shared) (σ : St) (H : Hp) (vs : List V) (us : List Value) (Q : St -> Hp -> Prop), Inv X pins σ H s -> Vals vs us -> t vs σ H Q ->
  wpAny (model X.prog X.w) X.A (assignInOrder ((assignEach ts X.env).map (·.2)) us) (fun _ s' => ∃ σ' H', Inv X pins σ' H' s' /\ Q σ' H') X.xe s
noncomputable abbrev S3 := V -> V -> V -> Hp -> (Hp -> Prop) -> Prop
noncomputable def UW (X : Cx) (t : S3) : Prop :=
 ∀ (pins : List (Addr × Obj)) (s : Shared) (σ : St) (H : Hp) (o i v : V) (ov iv u : Value) (Q : Hp -> Prop), Inv X pins σ H s -> RelV o ov -> RelV i iv -> RelV v u -> t o i v H Q ->
  wpAny (model X.prog X.w) X.A (setItem ov iv u) (fun _ s' => ∃ H', Inv X pins σ H' s' /\ Q H') X.xe s
section
variable {X : Cx} {pos : Pos}
noncomputable def lM (i : Nat) : TG := fun v σ H Q => Q (σ.set i (some v)) H
theorem aV (hN : X.N.Nodup) (hi : X.N[i]? = some x) (hx : Loc X.env.scope x) (hf : X.fn x = true \/ X.env.scope.names.lookup x = some .local := by first | exact .inl rfl | exact .inr rfl | assumption) : PG X (.Name x pos) (lM i) := by
 intro pins s σ H v u Q I r h
 exact wpAny_assign_Name (qL I hN hi hx r (fun s' I' => ⟨_, H, I', h⟩) hf)
noncomputable def SF : B0 := fun vs σ H Q => vs = [] /\ Q σ H
noncomputable def JW (t : TG) (u : B0) : B0 := fun vs σ H Q => ∃ v r, vs = v :: r /\ t v σ H fun σ' H' => u r σ' H' Q
theorem jW : UN X [] SF := by
 intro pins s σ H vs us Q I r h
 obtain ⟨e, h⟩ := h
 subst e
 cases r
 exact assignInOrder_nil ⟨σ, H, I, h⟩
theorem bX {t : TG} {u : B0} (h1 : PG X e t) (h2 : UN X es u)
  (hs : (assignEach (e :: es) X.env).map (·.2) = assign e X.env :: (assignEach es X.env).map (·.2) := by rfl) : UN X (e :: es) (JW t u) := by
 intro pins s σ H vs us Q I r h
 obtain ⟨v, vr, e1, h⟩ := h
 subst e1
 cases r with
 | cons r rr =>
  rw [hs]
  refine assignInOrder_cons (cJ (h1 pins s σ H _ _ _ I r h) fun _ s1 ⟨σ1, H1, I1, q1⟩ => ?_)
  exact h2 pins s1 σ1 H1 _ _ Q I1 rr q1
noncomputable def K4 (K : Frag) (n : Nat) (t : B0) : TG := fun v σ H Q => ∃ a xs, v = .ref a /\ lL K H a xs /\ xs.length = n /\ t xs σ H Q
theorem R9 {t : B0} (hc : X.calm = true) (h : UN X es t)
  (hn : (assignEach es X.env).length = n := by rfl) (hst : (assignEach es X.env).findIdx? (·.1) = none := by rfl) : PG X (.Tuple es k pos) (K4 X.K n t) := by
 intro pins s σ H v u Q I r hw
 obtain ⟨a, xs, e1, hq, hl, hw⟩ := hw
 subst e1
 cases r
 obtain ⟨its, rv, ht, hz⟩ := I.tuple hq
 refine assign_Tuple_tuple (I.ok.hd hc) ht (by simp [hn, <- hl, rv.length]) hst fun h' hx => ?_
 have I1 : Inv X pins σ H { s with heap := h' } := I.kept (t' := s.toks) fun b o e => hx b o (ne_of_lt (lt_size e)) e
 exact h pins _ σ H xs _ Q I1 (by simpa using rv) hw
noncomputable def qZ (to ti : TE) (t : S3) : TG := fun v σ H Q => to σ H fun o H1 => ti σ H1 fun i H2 => t o i v H2 fun H3 => Q σ H3
theorem JV {o i : Expr} {to ti : TE} {t : S3} (ho : PE X o to) (hi : PE X i ti) (hs : UW X t)
  (ha : ∀ v, assign (.Subscript o i pos) X.env v = (do
   let ov <- holding [v] (eval o X.env)
   let iv <- holding [v, ov] (eval i X.env)
   standAt pos
   holding [v, ov, iv] (setItem ov iv v)
   release [v, ov, iv] []) := by intro _; rfl) : PG X (.Subscript o i pos) (qZ to ti t) := by
 intro pins s σ H v u Q I r h
 rw [ha]
 refine wpAny_bind (wpAny_holding (cJ (ho pins s σ H _ I h) fun ov s1 ⟨x, H1, I1, r1, q1⟩ => ?_))
 refine wpAny_bind (wpAny_holding (cJ (hi pins s1 σ H1 _ I1 q1) fun iv s2 ⟨y, H2, I2, r2, q2⟩ => ?_))
 refine wpAny_bind (wpAny_standAt (wpAny_bind (wpAny_holding (cJ (hs pins s2 σ H2 x y v ov iv u _ I2 r1 r2 r q2) fun _ s3 ⟨H3, I3, q3⟩ => ?_))))
 exact wpAny_release ⟨σ, H3, I3, q3⟩
noncomputable def u6 (te : TE) (g : TG) : TS := fun D σ H => te σ H fun x H1 => g x σ H1 D.nx
theorem uX {g : TG} (he : PE X e te) (hg : PG X tg g) (hs : swapsWithSole [tg] e pos.line X.env = pure false := by rfl) (hw : swappedStores [tg] e X.env = pure none := by rfl)
  (h1 : (assignEach [tg] X.env).map (·.2) = [assign tg X.env] := by rfl) : PS X (.Assign [tg] e pos) (u6 te g) := by
 intro pins s σ H D I h
 refine wpAny_Assign_stores (cJ (he pins s σ H _ I h) fun v s1 ⟨x, H1, I1, r1, q1⟩ => ?_) hs hw
 rw [h1]
 exact cJ (hg pins s1 σ H1 x v _ I1 r1 q1) fun _ s2 q => q
theorem bC {pos' : Pos} (hN : X.N.Nodup) (hi : X.N[i]? = some x) (hx : Loc X.env.scope x) (he : PE X e te) (hs : swapsWith e (some (.Name x pos')) pos.line X.env = pure false := by rfl) (hf : X.fn x = true \/ X.env.scope.names.lookup x = some .local := by first | exact .inl rfl | exact .inr rfl | assumption) :
  PS X (.Assign [.Name x pos'] e pos) (u6 te (lM i)) := by
 intro pins s σ H D I h
 refine wpAny_Assign_Name (cJ (he pins s σ H _ I h) fun v s1 ⟨y, H1, I1, r1, q1⟩ => ?_) hs
 exact qL I1 hN hi hx r1 (fun s2 I2 => ⟨_, H1, I2, q1⟩) hf
end
structure It where
 go : Nat -> Hp -> Prop
 TC : Nat -> Hp -> V -> Hp -> Prop
 stop : Nat -> Hp -> Prop
noncomputable def mO (X : Cx) (pins : List (Addr × Obj)) (H : Hp) (b : Addr) : Prop :=
 H b = none /\ b ≠ X.env.locals /\ b ∉ X.fs /\ (b ∈ X.ex \/ X.gA.heap.objs.size <= b) /\ (∀ x c, X.env.cells.lookup x = some c -> c ≠ b) /\ ∀ p ∈ X.pn ++ pins, p.1 ≠ b
theorem Inv.rF {H' : Hp} (I : Inv X pins σ H s) (hb : s.heap.objs.size <= b) (hn : H' b = none) : mO X pins H' b := by
 refine ⟨hn, ne_of_gt (lt_of_lt_of_le I.lt hb), I.VC hb, .inr (le_trans I.sz hb), fun x c e z => ?_, fun p hp z => ?_⟩
 ·obtain ⟨v, q⟩ := I.cell x c e
  exact absurd (lt_of_lt_of_le q.lt (by rw [z]; exact hb)) (lt_irrefl _)
 ·exact absurd (lt_of_lt_of_le (lt_size (I.pin p hp).1) (by rw [z]; exact hb)) (lt_irrefl _)
structure Turn (P : Program) (w : World) (K : Frag) (tg : Expr) (J : It) (fp : List Addr) (it : Addr) (tn : Nat -> Heap -> Prop) : Prop where
 mem : it ∈ fp
 obj : ∀ i h, tn i h -> ∀ b ∈ fp, ∃ o, h.get? b = some o /\ ∀ v, o.data ≠ .cell v
 keep : ∀ i h h', tn i h -> (∀ b ∈ fp, ∀ o, h.get? b = some o -> h'.get? b = some o) -> tn i h'
 item : ∀ (X : Cx), X.prog = P -> X.w = w -> X.K = K -> X.calm = true -> ∀ (i : Nat) (pins : List (Addr × Obj)) (s : Shared) (σ : St) (H : Hp) (E : Value -> Shared -> Prop), Inv X pins σ H s -> (∀ b ∈ fp, mO X pins H b) -> tn i s.heap -> J.go i H ->
  wpAny (model P w) X.A (pyNext (.ref it)) (fun r s1 => ∃ u, r = some u /\
   wpAny (model P w) X.A (letOwnedTupleGo tg (.ref it) u) (fun _ s2 => ∃ x H', Inv X pins σ H' s2 /\ RelV x u /\ J.TC i H x H' /\ tn (i + 1) s2.heap /\ ∀ b ∈ fp, H' b = none) E s1) E s
 done : ∀ (X : Cx), X.prog = P -> X.w = w -> X.K = K -> X.calm = true -> ∀ (i : Nat) (pins : List (Addr × Obj)) (s : Shared) (σ : St) (H : Hp) (E : Value -> Shared -> Prop), Inv X pins σ H s -> (∀ b ∈ fp, mO X pins H b) -> tn i s.heap -> J.stop i H ->
  wpAny (model P w) X.A (pyNext (.ref it)) (fun r s1 => r = none /\ Inv X pins σ H s1) E s
 self : ∀ (A : Around) (i : Nat) (s : Shared) (Q : Value -> Shared -> Prop) (E : Value -> Shared -> Prop), tn i s.heap -> Q (.ref it) s -> wpAny (model P w) A (pyIter (.ref it)) Q E s
noncomputable abbrev TI := St -> Hp -> (It -> Hp -> Prop) -> Prop
noncomputable def X1 (X : Cx) (pins : List (Addr × Obj)) (σ : St) (tg : Expr) (R : It -> Hp -> Prop) (itv : Value) (s2 : Shared) : Prop :=
 ∃ (it : Addr) (fp : List Addr) (tn : Nat -> Heap -> Prop) (J : It) (H' : Hp), itv = .ref it /\ Inv X pins σ H' s2 /\ Turn X.prog X.w X.K tg J fp it tn /\ tn 0 s2.heap /\ (∀ b ∈ fp, mO X pins H' b) /\ R J H'
noncomputable def PI (X : Cx) (tg iter : Expr) (wi : TI) : Prop :=
 ∀ (pins : List (Addr × Obj)) (s : Shared) (σ : St) (H : Hp) (R : It -> Hp -> Prop), Inv X pins σ H s -> wi σ H R ->
  wpAny (model X.prog X.w) X.A (eval iter X.env) (fun v s1 => wpAny (model X.prog X.w) X.A (pyIter v) (X1 X pins σ tg R) X.xe s1) X.xe s
theorem wN {tg : Expr} {u : Value} {n : String} {vs : Array Value} {Q : Unit -> Shared -> Prop} (ho : s.heap.get? it = some o) (hc : o.cls = .type n) (hd : o.data = .fields vs)
    (hn : ["enumerate", "zip", "dict_itemiterator", "dict_reverseitemiterator", "odict_iterator", "itertools.zip_longest", "itertools.pairwise"].contains n = false) (hQ : Q () s) : wpAny M A (letOwnedTupleGo tg (.ref it) u) Q E s := by
  unfold letOwnedTupleGo
  cases tg <;> first
    | exact wpAny_pure hQ
    | (cases u <;> first
        | exact wpAny_pure hQ
        | (refine wpAny_bind (wpAny_load ho ?_)
           rw [hc, hd]
           show wpAny M A (if (["enumerate", "zip", "dict_itemiterator", "dict_reverseitemiterator", "odict_iterator", "itertools.zip_longest", "itertools.pairwise"].contains n && vs[0]? == some (rawInt _)) = true then _ else _) Q E s
           rw [if_neg (by intro h; rw [hn, Bool.false_and] at h; cases h)]
           exact wpAny_pure hQ))
noncomputable def VZ (K : Frag) (a : Addr) : It :=
 ⟨fun i H => ∃ xs x, gK K H a xs /\ xs[i]? = some x, fun i H x H' => H' = H /\ ∀ xs, gK K H a xs -> xs[i]? = some x, fun i H => ∃ xs, gK K H a xs /\ xs.length <= i⟩
noncomputable def V0 (K : Frag) (a : Addr) : It :=
 ⟨fun i H => ∃ xs x, lL K H a xs /\ xs[i]? = some x, fun i H x H' => H' = H /\ ∀ xs, lL K H a xs -> xs[i]? = some x, fun i H => ∃ xs, lL K H a xs /\ xs.length <= i⟩
noncomputable def S6 (lo : Int) (n : Nat) : It := ⟨fun i _ => i < n, fun i H x H' => H' = H /\ x = .int (lo + i), fun i _ => n <= i⟩
theorem DZ (a it : Addr) : Turn P w K tg (VZ K a) [it] it (fun i h => h.IsListIter it a i) where
 mem := by simp
 obj := fun i h st b hb => by
  have e : b = it := by simpa using hb
  subst e
  obtain ⟨o, e, c, d⟩ := st
  exact ⟨o, e, fun v z => by rw [d] at z; cases z⟩
 keep := fun i h h' st k => st.at fun o e => k it (by simp) o e
 item := by
  intro X hP hw hK hc i pins s σ H E I hf st hg
  subst hP hw hK
  obtain ⟨xs, x, hq, hx⟩ := hg
  obtain ⟨its, rv, p, hz⟩ := I.list hq
  obtain ⟨u, hu, ru⟩ := rv.get hx
  obtain ⟨f0, f1, f2, f3, f4, f5⟩ := hf it (by simp)
  refine wpAny_pyNext_list_item st p.isList (x := u) (by simpa using hu) fun h' st' sb => ?_
  have I1 : Inv X pins σ H { s with heap := h' } := I.turned (t' := s.toks) (fun b o hb e => (sb.2 b hb).trans e) f0 f1 f3 f4 f5
  obtain ⟨o, e, c, d⟩ := id st'
  exact ⟨u, rfl, wN (s := { s with heap := h' }) e c d (by decide) ⟨x, H, I1, ru, ⟨rfl, fun ys hy => by rw [I.yC hy hq]; exact hx⟩, st', fun b hb => (hf b hb).1⟩⟩
 done := by
  intro X hP hw hK hc i pins s σ H E I hf st hg
  subst hP hw hK
  obtain ⟨xs, hq, hx⟩ := hg
  obtain ⟨its, rv, p, hz⟩ := I.list hq
  obtain ⟨f0, f1, f2, f3, f4, f5⟩ := hf it (by simp)
  have hl := rv.length
  exact wpAny_pyNext_list_end (I.ok.hd hc) st p.isList (by simp; omega) fun h' eb => ⟨rfl, I.turned (t' := s.toks) (fun b o hb e => eb b o hb e) f0 f1 f3 f4 f5⟩
 self := fun _ _ _ _ _ st h => wpAny_pyIter_listiter st h
theorem zG (a it : Addr) : Turn P w K tg (V0 K a) [it] it (fun i h => h.IsTupleIter it a i) where
 mem := by simp
 obj := fun i h st b hb => by
  have e : b = it := by simpa using hb
  subst e
  obtain ⟨o, e, c, d⟩ := st
  exact ⟨o, e, fun v z => by rw [d] at z; cases z⟩
 keep := fun i h h' st k => st.at fun o e => k it (by simp) o e
 item := by
  intro X hP hw hK hc i pins s σ H E I hf st hg
  subst hP hw hK
  obtain ⟨xs, x, hq, hx⟩ := hg
  obtain ⟨its, rv, p, hz⟩ := I.tuple hq
  obtain ⟨u, hu, ru⟩ := rv.get hx
  obtain ⟨f0, f1, f2, f3, f4, f5⟩ := hf it (by simp)
  refine wpAny_pyNext_tuple_item st (show s.heap.IsTuple a its.toArray from p) (x := u) (by simpa using hu) fun h' st' sb => ?_
  have I1 : Inv X pins σ H { s with heap := h' } := I.turned (t' := s.toks) (fun b o hb e => (sb.2 b hb).trans e) f0 f1 f3 f4 f5
  obtain ⟨o, e, c, d⟩ := id st'
  exact ⟨u, rfl, wN (s := { s with heap := h' }) e c d (by decide) ⟨x, H, I1, ru, ⟨rfl, fun ys hy => by rw [I.sH hy hq]; exact hx⟩, st', fun b hb => (hf b hb).1⟩⟩
 done := by
  intro X hP hw hK hc i pins s σ H E I hf st hg
  subst hP hw hK
  obtain ⟨xs, hq, hx⟩ := hg
  obtain ⟨its, rv, p, hz⟩ := I.tuple hq
  obtain ⟨f0, f1, f2, f3, f4, f5⟩ := hf it (by simp)
  have hl := rv.length
  exact wpAny_pyNext_tuple_end (I.ok.hd hc) st (show s.heap.IsTuple a its.toArray from p) (by simp; omega) fun h' eb => ⟨rfl, I.turned (t' := s.toks) (fun b o hb e => eb b o hb e) f0 f1 f3 f4 f5⟩
 self := fun _ _ _ _ _ st h => wpAny_pyIter_tupleiter st h
theorem zY (it : Addr) (lo : Int) (n : Nat) : Turn P w K tg (S6 lo n) [it] it (fun i h => IsRangeIter h it (lo + (i : Nat) * 1) ((n : Int) - (i : Nat)) 1) where
 mem := by simp
 obj := fun i h st b hb => by
  have e : b = it := by simpa using hb
  subst e
  exact ⟨_, st, fun v z => by
   have z' : Data.fields _ = Data.cell v := z
   cases z'⟩
 keep := fun i h h' st k => k it (by simp) _ st
 item := by
  intro X hP hw hK hc i pins s σ H E I hf st hg
  subst hP hw hK
  obtain ⟨f0, f1, f2, f3, f4, f5⟩ := hf it (by simp)
  have W := Walks.range (prog := X.prog) (w := X.w) (I.ok.hd hc) it lo 1 n
  refine W.item i s _ _ hg st fun v h' tk hv st' kk => ?_
  obtain ⟨t, rfl⟩ := hv
  have I1 : Inv X pins σ H { s with heap := h', toks := tk } := I.turned (fun b o hb e => kk b o (by simpa using hb) e) f0 f1 f3 f4 f5
  refine ⟨_, rfl, wN (s := { s with heap := h', toks := tk }) (n := "range_iterator") st' rfl rfl (by decide) ⟨.int (lo + i), H, I1, ⟨t, ?_⟩, ⟨rfl, rfl⟩, st', fun b hb => (hf b hb).1⟩⟩
  rw [Int.mul_one]
 done := by
  intro X hP hw hK hc i pins s σ H E I hf st hg
  subst hP hw hK
  obtain ⟨f0, f1, f2, f3, f4, f5⟩ := hf it (by simp)
  exact wpAny_pyNext_range_end (I.ok.hd hc) st (by have : n <= i := hg; omega) fun h' eb => ⟨rfl, I.turned (t' := s.toks) (fun b o hb e => eb b o hb e) f0 f1 f3 f4 f5⟩
 self := fun _ _ _ _ _ st h => wpAny_pyIter_rangeiter st h
section
variable {X : Cx} {tg : Expr}
theorem xK {R : It -> Hp -> Prop} {lo hi : Int} {t u v : Tok} {tk : Nat} (I : Inv X pins σ H s) (h1 : -(2 ^ 62) <= lo) (h2 : lo < 2 ^ 62) (h3 : -(2 ^ 62) <= hi) (h4 : hi < 2 ^ 62)
  (q : R (S6 lo (hi - lo).toNat) H) : wpAny (model X.prog X.w) X.A (pyIter (.ref s.heap.objs.size)) (X1 X pins σ tg R) E { s with heap := s.heap.push { cls := .type "range", data := .fields #[.int lo t, .int hi u, .int 1 v] }, toks := tk } := by
 refine wpAny_pyIter_range (IsRange.new ..) (small_one h1 h2 h3 h4) ?_
 have I1 : Inv X pins σ H { s with heap := s.heap.push { cls := .type "range", data := .fields #[.int lo t, .int hi u, .int 1 v] }, toks := tk } := I.kept fun b o e => get?_push_of_some _ e
 refine ⟨(s.heap.push { cls := .type "range", data := .fields #[.int lo t, .int hi u, .int 1 v] }).objs.size, [(s.heap.push { cls := .type "range", data := .fields #[.int lo t, .int hi u, .int 1 v] }).objs.size], _, _, H, rfl,
  I1.kept (t' := tk) fun b o e => get?_push_of_some _ e, zY _ lo (hi - lo).toNat, ?_, fun b hb => ?_, q⟩
 ·have e1 : lo + ((0 : Nat) : Int) * 1 = lo := by simp
  have e2 : (((hi - lo).toNat : Nat) : Int) - ((0 : Nat) : Int) = Builtin.Range.rangeSize lo hi 1 := by rw [rangeSize_one]; split <;> omega
  show IsRangeIter _ _ (lo + ((0 : Nat) : Int) * 1) ((((hi - lo).toNat : Nat) : Int) - ((0 : Nat) : Int)) 1
  rw [e1, e2]
  exact get?_push_size _ rfl
 ·have e : b = (s.heap.push { cls := .type "range", data := .fields #[.int lo t, .int hi u, .int 1 v] }).objs.size := by simpa using hb
  subst e
  exact I1.rF (le_refl _) (I1.bN.fresh (le_refl _))
noncomputable def N9 (ta : TA) : TI := fun σ H R => ta σ H fun vs H1 => ∃ j : Int, vs = [.int j] /\ -(2 ^ 62) <= j /\ j < 2 ^ 62 /\ R (S6 0 j.toNat) H1
noncomputable def N6 (ta : TA) : TI := fun σ H R => ta σ H fun vs H1 => ∃ i j : Int, vs = [.int i, .int j] /\ (-(2 ^ 62) <= i /\ i < 2 ^ 62 /\ -(2 ^ 62) <= j /\ j < 2 ^ 62) /\ R (S6 i (j - i).toNat) H1
theorem dH {a : Expr} (hg : Gl X "range") (hm : X.mg "range" = none) (ha : PA X [a] ta) (hs : starEach [a] X.env = [(false, eval a X.env)] := by rfl) : PI X tg (.Call (.Name "range" p) [a] [] pos) (N9 ta) := by
 intro pins s σ H R I h
 refine Call_ (m8 I hg hm boot_range (PyProof.Rows.callWith_type1 (cJ (ha pos pins s σ H _ I h) fun us s1 ⟨vs, H1, I1, r1, q1⟩ => ?_) hs rfl))
 obtain ⟨j, e, q1, q2, q⟩ := q1
 subst e
 cases r1 with
 | cons r rr =>
  cases rr
  obtain ⟨t, rfl⟩ := r
  exact call_range_1 (xK I1 (by omega) (by omega) q1 q2 (by simpa using q))
theorem CS {a b : Expr} (hg : Gl X "range") (hm : X.mg "range" = none) (ha : PA X [a, b] ta) (hs : starEach [a, b] X.env = [(false, eval a X.env), (false, eval b X.env)] := by rfl) (hs2 : starEach [b] X.env = [(false, eval b X.env)] := by rfl) :
  PI X tg (.Call (.Name "range" p) [a, b] [] pos) (N6 ta) := by
 intro pins s σ H R I h
 refine Call_ (m8 I hg hm boot_range (PyProof.Rows.callWith_type1 (cJ (ha pos pins s σ H _ I h) fun us s1 ⟨vs, H1, I1, r1, q1⟩ => ?_) (by rw [hs, hs2]) (by rw [hs2]; rfl)))
 obtain ⟨i, j, e, ⟨q1, q2, q3, q4⟩, q⟩ := q1
 subst e
 cases r1 with
 | cons r rr =>
  cases rr with
  | cons r' rr =>
   cases rr
   obtain ⟨t, rfl⟩ := r
   obtain ⟨t', rfl⟩ := r'
   exact call_range_2 (xK I1 q1 q2 q3 q4 q)
noncomputable def PK (wi : TI) (g : TG) (tb : TS) : TS := fun D σ H => wi σ H fun J H1 => ∃ W : Nat -> Nat -> St -> Hp -> Prop, (∃ m, W 0 m σ H1) /\ ∀ i m σ H, W i m σ H ->
 (J.stop i H /\ D.nx σ H) \/ (J.go i H /\ ∃ N : St -> Hp -> Prop, (∀ σ' H', N σ' H' -> ∃ m', m' < m /\ W (i + 1) m' σ' H') /\ ∀ x H', J.TC i H x H' -> g x σ H' fun σ2 H2 => tb { D with nx := N, ct := N, bk := D.nx } σ2 H2)
noncomputable def k9 (fp : List Addr) (h : Heap) : List (Addr × Obj) := fp.filterMap fun b => (h.get? b).map fun o => (b, o)
theorem dA (hb : b ∈ fp) (e : h.get? b = some o) : (b, o) ∈ k9 fp h := mem_filterMap.mpr ⟨b, hb, by rw [e]; rfl⟩
theorem DS {h : Heap} {p : Addr × Obj} (hp : p ∈ k9 fp h) : p.1 ∈ fp /\ h.get? p.1 = some p.2 := by
 obtain ⟨b, hb, e⟩ := mem_filterMap.mp hp
 cases q : h.get? b with
 | none => rw [q] at e; cases e
 | some o =>
  rw [q] at e
  have e' : (b, o) = p := Option.some.inj e
  subst e'
  exact ⟨hb, q⟩
theorem Inv.pinned (I : Inv X pins σ H s) (hf : ∀ b ∈ fp, mO X pins H b) (ho : ∀ b ∈ fp, ∃ o, s.heap.get? b = some o /\ ∀ v, o.data ≠ .cell v) : Inv X (pins ++ k9 fp s.heap) σ H s :=
 I.o8 fun p hp => (mem_append.mp hp).elim (fun z => I.pin p (mem_append_right _ z)) fun z => by
  obtain ⟨hb, e⟩ := DS z
  obtain ⟨f0, f1, f2, _⟩ := hf p.1 hb
  obtain ⟨o, e', d⟩ := ho p.1 hb
  rw [e] at e'; cases e'
  exact ⟨e, f0, f1, f2, d⟩
theorem Inv.iF {pl : List (Addr × Obj)} (I : Inv X (pins ++ pl) σ H s) : Inv X pins σ H s := I.o8 fun p hp => I.pin p (mem_append_right _ (List.mem_append_left _ hp))
theorem gG {iter : Expr} {wi : TI} {g : TG} {tb : TS} (hp : PassesOwn (model X.prog X.w) X.A X.env X.xe) (hc : X.calm = true) (hi : PI X tg iter wi) (hg : PG X tg g) (hb : D0 X body tb)
  (hs : ∀ x, foldedSetIterable iter X.env x = pure x := by intro _; rfl) : PS X (.For tg iter body [] pos) (PK wi g tb) := by
 intro pins s σ H D I h
 refine wpAny_For (cJ (hi pins s σ H _ I h) fun v s1 h1 => cJ h1 fun itv s2 h2 => ?_) hs
 obtain ⟨it, fp, tn, J, H2, e, I2, T, st2, f2, W, ⟨m0, w0⟩, turn⟩ := h2
 subst e
 have stat : ∀ {H' : Hp}, (∀ b ∈ fp, H' b = none) -> ∀ b ∈ fp, mO X pins H' b := fun hn b hb => ⟨hn b hb, (f2 b hb).2⟩
 refine codeAny_forLoop_any (fun n s' => ∃ i σ' H', Inv X pins σ' H' s' /\ tn i s'.heap /\ (∀ b ∈ fp, H' b = none) /\ W i n σ' H') ?_ m0 ⟨0, σ, H2, I2, st2, fun b hb => (f2 b hb).1, w0⟩
 rintro n s3 ⟨i, σ3, H3, I3, st3, fr3, w3⟩
 rcases turn i n σ3 H3 w3 with ⟨stop, qn⟩ | ⟨go, N, hN, step⟩
 ·refine wpAny_passesOwn hp (cJ (T.done X rfl rfl rfl hc i pins s3 σ3 H3 X.xe I3 (stat fr3) st3 stop) fun r s4 ⟨hr, I4⟩ => ?_)
  subst hr
  exact wpAny_execs_nil ⟨σ3, H3, I4, qn⟩
 ·refine wpAny_passesOwn hp (cJ (T.item X rfl rfl rfl hc i pins s3 σ3 H3 X.xe I3 (stat fr3) st3 go) fun r s4 ⟨u, hr, h4⟩ => ?_)
  subst hr
  refine wpAny_passesOwn hp (cJ h4 fun _ s5 ⟨x, H5, I5, r5, y5, st5, fr5⟩ => ?_)
  have I5' := I5.pinned (stat fr5) (T.obj _ _ st5)
  refine wpAny_passesOwn hp (cJ (hg _ s5 σ3 H5 x u _ I5' r5 (step x H5 y5)) fun _ s6 ⟨σ6, H6, I6, q6⟩ => ?_)
  refine wpAny_passesOwn hp (cJ (hb _ s6 σ6 H6 _ I6 q6) fun f s7 q7 => ?_)
  have again : ∀ {σ7 : St} {H7 : Hp}, Inv X (pins ++ k9 fp s5.heap) σ7 H7 s7 -> N σ7 H7 -> ∃ m, m < n /\ ∃ i σ' H', Inv X pins σ' H' s7 /\ tn i s7.heap /\ (∀ b ∈ fp, H' b = none) /\ W i m σ' H' := fun {σ7 H7} I7 n7 => by
   obtain ⟨m', hm, w7⟩ := hN σ7 H7 n7
   refine ⟨m', hm, i + 1, σ7, H7, I7.iF, T.keep _ _ _ st5 fun b hb o e => (I7.pin (b, o) (mem_append_right _ (mem_append_right _ (dA hb e)))).1, fun b hb => ?_, w7⟩
   obtain ⟨o, e, d⟩ := T.obj _ _ st5 b hb
   exact (I7.pin (b, o) (mem_append_right _ (mem_append_right _ (dA hb e)))).2.1
  cases f with
  | next => obtain ⟨σ7, H7, I7, n7⟩ := q7; exact again I7 n7
  | cont => obtain ⟨σ7, H7, I7, n7⟩ := q7; exact again I7 n7
  | brk => obtain ⟨σ7, H7, I7, q7⟩ := q7; exact ⟨σ7, H7, I7.iF, q7⟩
  | ret v => obtain ⟨x7, σ7, H7, I7, r7, q7⟩ := q7; exact ⟨x7, σ7, H7, I7.iF, r7, q7⟩
end
noncomputable abbrev R2 := V -> V -> Hp -> VK -> Prop
noncomputable def gL (X : Cx) (f : Value -> Value -> Sem Value) (r : R2) : Prop :=
 ∀ (pins : List (Addr × Obj)) (s : Shared) (σ : St) (H : Hp) (x y : V) (v u : Value) (Q : VK), Inv X pins σ H s -> RelV x v -> RelV y u -> r x y H Q ->
  wpAny (model X.prog X.w) X.A (f v u) (EP X pins σ Q) X.xe s
noncomputable def WR (X : Cx) (f : Value -> Sem Value) (r : V -> Hp -> VK -> Prop) : Prop :=
 ∀ (pins : List (Addr × Obj)) (s : Shared) (σ : St) (H : Hp) (x : V) (v : Value) (Q : VK), Inv X pins σ H s -> RelV x v -> r x H Q ->
  wpAny (model X.prog X.w) X.A (f v) (EP X pins σ Q) X.xe s
noncomputable def b8 (X : Cx) (f : Value) (r : List V -> Hp -> VK -> Prop) : Prop :=
 ∀ (pins : List (Addr × Obj)) (s : Shared) (σ : St) (H : Hp) (xs : List V) (us : List Value) (Q : VK), Inv X pins σ H s -> Vals xs us -> r xs H Q ->
  wpAny (model X.prog X.w) X.A (call f us) (EP X pins σ Q) X.xe s
noncomputable def W2 (X : Cx) (r : V -> Hp -> (Bool -> Hp -> Prop) -> Prop) : Prop :=
 ∀ (pins : List (Addr × Obj)) (s : Shared) (σ : St) (H : Hp) (x : V) (v : Value) (Q : Bool -> Hp -> Prop), Inv X pins σ H s -> RelV x v -> r x H Q ->
  wpAny (model X.prog X.w) X.A (truthy v) (TP X pins σ Q) X.xe s
noncomputable def UE (r : R2) (ta tb : TE) : TE := fun σ H Q => ta σ H fun x H1 => tb σ H1 fun y H2 => r x y H2 Q
noncomputable def X6 (r : V -> Hp -> VK -> Prop) (ta : TE) : TE := fun σ H Q => ta σ H fun x H1 => r x H1 Q
noncomputable def rI (C : Int -> Int -> Prop) (g : Int -> Int -> V) : R2 := fun x y H Q => ∃ i j, x = .int i /\ y = .int j /\ C i j /\ Q (g i j) H
noncomputable def CW (g : Int -> Int -> V) : R2 := fun x y H Q => ∃ i j, x = .int i /\ y = .int j /\ Q (g i j) H
noncomputable def rU (g : Int -> V) : V -> Hp -> VK -> Prop := fun x H Q => ∃ i, x = .int i /\ Q (g i) H
section
variable {X : Cx} {a b c : Expr} {ta tb tc : TE} {pos : Pos}
theorem Q0 (ha : PE X a ta) (hb : PE X b tb) {R : V -> V -> Hp -> Prop} (I : Inv X pins σ H s)
  (h : ta σ H fun x H1 => tb σ H1 fun y H2 => R x y H2)
  (hf : ∀ v u s2 x y H2, Inv X pins σ H2 s2 -> RelV x v -> RelV y u -> R x y H2 -> wpAny (model X.prog X.w) X.A (f v u) Q X.xe s2) :
  wpAny (model X.prog X.w) X.A (eval a X.env) (fun v s₁ => wpAny (model X.prog X.w) X.A (eval b X.env) (fun u s₂ => wpAny (model X.prog X.w) X.A (f v u) Q X.xe s₂) X.xe s₁) X.xe s := by
 refine cJ (ha pins s σ H _ I h) fun v s1 ⟨x, H1, I1, r1, q1⟩ => ?_
 refine cJ (hb pins s1 σ H1 _ I1 q1) fun u s2 ⟨y, H2, I2, r2, q2⟩ => ?_
 exact hf v u s2 x y H2 I2 r1 r2 q2
theorem bJ {op : Operator} (ho : gL X (binaryOp op) r) (ha : PE X a ta) (hb : PE X b tb) : PE X (.BinOp a op b pos) (UE r ta tb) := by
 intro pins s σ H Q I h
 exact wpAny_BinOp (Q0 ha hb I h fun v u s2 x y H2 I2 rx ry q => ho pins s2 σ H2 x y v u Q I2 rx ry q)
theorem OY {op : UnaryOp} {r : V -> Hp -> VK -> Prop} (ho : WR X (unaryOp op) r) (ha : PE X a ta) : PE X (.UnaryOp op a pos) (X6 r ta) := by
 intro pins s σ H Q I h
 exact UnaryOp_ (cJ (ha pins s σ H _ I h) fun v s1 ⟨x, H1, I1, r1, q1⟩ => ho pins s1 σ H1 x v Q I1 r1 q1)
theorem UH {C : Int -> Int -> Prop}
  (rule : ∀ (i j : Int) (t u : Tok) (s : Shared) (Q : Value -> Shared -> Prop) (E : Value -> Shared -> Prop), C i j -> Q (.int (g i j) s.toks) { s with toks := s.toks + 1 } -> wpAny (model X.prog X.w) X.A (f (.int i t) (.int j u)) Q E s) :
  gL X f (rI C fun i j => .int (g i j)) := by
 intro pins s σ H x y v u Q I rx ry h
 obtain ⟨i, j, rfl, rfl, hc, q⟩ := h
 obtain ⟨t, rfl⟩ := rx
 obtain ⟨t', rfl⟩ := ry
 exact rule i j t t' s _ _ hc ⟨.int (g i j), H, I.tok _, ⟨_, rfl⟩, q⟩
theorem VF
  (rule : ∀ (i j : Int) (t u : Tok) (s : Shared) (Q : Value -> Shared -> Prop) (E : Value -> Shared -> Prop), Q (.int (g i j) s.toks) { s with toks := s.toks + 1 } -> wpAny (model X.prog X.w) X.A (f (.int i t) (.int j u)) Q E s) :
  gL X f (CW fun i j => .int (g i j)) := by
 intro pins s σ H x y v u Q I rx ry h
 obtain ⟨i, j, rfl, rfl, q⟩ := h
 obtain ⟨t, rfl⟩ := rx
 obtain ⟨t', rfl⟩ := ry
 exact rule i j t t' s _ _ ⟨.int (g i j), H, I.tok _, ⟨_, rfl⟩, q⟩
theorem Q5 {g : Int -> Int -> Bool}
  (rule : ∀ (i j : Int) (t u : Tok) (s : Shared) (Q : Value -> Shared -> Prop) (E : Value -> Shared -> Prop), Q (.bool (g i j)) s -> wpAny (model X.prog X.w) X.A (f (.int i t) (.int j u)) Q E s) :
  gL X f (CW fun i j => .bl (g i j)) := by
 intro pins s σ H x y v u Q I rx ry h
 obtain ⟨i, j, rfl, rfl, q⟩ := h
 obtain ⟨t, rfl⟩ := rx
 obtain ⟨t', rfl⟩ := ry
 exact rule i j t t' s _ _ ⟨.bl (g i j), H, I, rfl, q⟩
noncomputable def M0 (i j : Int) : Prop := (-(2 ^ 64) < i /\ i < 2 ^ 64) \/ (-(2 ^ 64) < j /\ j < 2 ^ 64)
theorem M0.ok {i j : Int} (h : M0 i j) : IntMulOk i j := by
 rcases h with ⟨h1, h2⟩ | ⟨h1, h2⟩
 ·exact .of_left (intBits_le_64 h1 h2)
 ·exact .of_right (intBits_le_64 h1 h2)
theorem R8 : gL X (binaryOp .Add) (CW fun i j => .int (i + j)) := VF fun _ _ _ _ _ _ _ q => add_int q
theorem yW : gL X (binaryOp .Sub) (CW fun i j => .int (i - j)) := VF fun _ _ _ _ _ _ _ q => sub_int q
theorem jM : gL X (binaryOp .Mult) (rI M0 fun i j => .int (i * j)) := UH fun _ _ _ _ _ _ _ hc q => mul_int q hc.ok
theorem g9 : gL X (binaryOp .Mod) (rI (fun _ j => 0 < j) fun i j => .int (i % j)) := UH fun i j _ _ _ _ _ hc q => by
 have h1 : (0 : Int) < j := hc
 exact mod_int' (by omega) (by rw [Int.fmod_eq_emod_of_nonneg i (by omega)]; exact q)
theorem YG {f : Value -> Sem Value} {g : Int -> Int}
  (rule : ∀ (i : Int) (t : Tok) (s : Shared) (Q : Value -> Shared -> Prop) (E : Value -> Shared -> Prop), Q (.int (g i) s.toks) { s with toks := s.toks + 1 } -> wpAny (model X.prog X.w) X.A (f (.int i t)) Q E s) :
  WR X f (rU fun i => .int (g i)) := by
 intro pins s σ H x v Q I rx h
 obtain ⟨i, rfl, q⟩ := h
 obtain ⟨t, rfl⟩ := rx
 exact rule i t s _ _ ⟨.int (g i), H, I.tok _, ⟨_, rfl⟩, q⟩
theorem II : WR X (unaryOp .USub) (rU fun i => .int (-i)) := YG fun _ _ _ _ _ q => neg_int q
end
section
variable {X : Cx} {a b c : Expr} {ta tb tc : TE} {pos : Pos}
theorem hJ {Q : VK} {k k' : Bool} (I : Inv X pins σ H s) (q : Q (.bl k) H) (e : k = k') : EP X pins σ Q (.bool k') s := by
 subst e
 exact ⟨.bl k, H, I, rfl, q⟩
theorem UA : gL X (compareOp .Lt) (CW fun i j => .bl (decide (i < j))) := Q5 fun _ _ _ _ _ _ _ q => lt_int q
theorem OG : gL X (compareOp .Gt) (CW fun i j => .bl (decide (j < i))) := Q5 fun _ _ _ _ _ _ _ q => gt_int q
theorem VQ : gL X (compareOp .GtE) (CW fun i j => .bl (decide (j <= i))) := Q5 fun _ _ _ _ _ _ _ q => ge_int q
theorem DY : gL X (compareOp .Lt) (fun x y H Q => ∃ i j, x = .str i /\ y = .str j /\ Q (.bl (decide (i.cps.toList < j.cps.toList))) H) := by
 intro pins s σ H x y v u Q I rx ry h
 obtain ⟨i, j, rfl, rfl, q⟩ := h
 obtain ⟨t, rfl⟩ := rx
 obtain ⟨t', rfl⟩ := ry
 exact lt_str (hJ I q rfl)
theorem DL : gL X (compareOp .In) (fun x y H Q => ∃ i j, x = .str i /\ y = .str j /\ Q (.bl (!(Builtin.Str.occurrences j i 0 j.length 1).isEmpty)) H) := by
 intro pins s σ H x y v u Q I rx ry h
 obtain ⟨i, j, rfl, rfl, q⟩ := h
 obtain ⟨t, rfl⟩ := rx
 obtain ⟨t', rfl⟩ := ry
 exact in_str (hJ I q rfl)
theorem SU : gL X (compareOp .Is) (fun x y H Q => y = .bF /\ Q (.bl (decide (x = .bF))) H) := by
 intro pins s σ H x y v u Q I rx ry h
 obtain ⟨rfl, q⟩ := h
 cases ry
 refine is_none_gen (hJ I q ?_)
 cases x <;> first
  | (cases rx; rfl)
  | (obtain ⟨t, rfl⟩ := rx; rfl)
theorem u5 : gL X (compareOp .NotIn) (fun x y H Q => ∃ i j, x = .str i /\ y = .str j /\ Q (.bl (!(!(Builtin.Str.occurrences j i 0 j.length 1).isEmpty))) H) := by
 intro pins s σ H x y v u Q I rx ry h
 obtain ⟨i, j, rfl, rfl, q⟩ := h
 obtain ⟨t, rfl⟩ := rx
 obtain ⟨t', rfl⟩ := ry
 exact notIn_str (hJ I q rfl)
theorem dB (b : Expr) {op : CmpOp} (h : op ≠ .In := by decide) (h2 : op ≠ .NotIn := by decide) : behindInMarks op b = false := by
 have e1 : (op == CmpOp.In) = false := by cases op <;> first | rfl | exact absurd rfl h
 have e2 : (op == CmpOp.NotIn) = false := by cases op <;> first | rfl | exact absurd rfl h2
 cases b <;> simp [behindInMarks, e1, e2]
theorem AU (ho : gL X (compareOp op) r) (ha : PE X a ta) (hb : PE X b tb) (hm : behindInMarks op b = false) : PE X (.Compare a [op] [b] pos) (UE r ta tb) := by
 intro pins s σ H Q I h
 exact wpAny_Compare1 (Q0 ha hb I h fun v u s2 x y H2 I2 rx ry q => ho pins s2 σ H2 x y v u Q I2 rx ry q) hm
noncomputable def N8 (t : TE) : TT := fun σ H Q => t σ H fun x H' => ∃ k, x = .bl k /\ Q k H'
theorem bK (ho : gL X (compareOp op) r) (ha : PE X a ta) (hb : PE X b tb) (hm : behindInMarks op b = false) : PT X (.Compare a [op] [b] pos) (N8 (UE r ta tb)) := by
 intro pins s σ H Q I h
 refine wpAny_isTrue_Compare1 (cJ (ha pins s σ H _ I h) fun v s1 ⟨x, H1, I1, r1, q1⟩ => cJ (hb pins s1 σ H1 _ I1 q1) fun u s2 ⟨y, H2, I2, r2, q2⟩ =>
  cJ (ho pins s2 σ H2 x y v u _ I2 r1 r2 q2) fun c s3 ⟨z, H3, I3, r3, k, e, q3⟩ => ?_) hm
 subst e
 cases r3
 exact wpAny_truthy_bool ⟨H3, I3, q3⟩
noncomputable def MJ (K : Frag) (x : V) (H : Hp) (k : Bool) : Prop :=
 match x with
 | .bF => k = false
 | .bl b => k = b
 | .int i => k = (i != 0)
 | .str y => y.length <= sizeLine /\ k = ((y.length : Int) != 0)
 | .UG y => y.size <= sizeLine /\ k = ((y.size : Int) != 0)
 | .ref p => (∃ xs, gK K H p xs /\ k = !xs.isEmpty) \/ (∃ xs, lL K H p xs /\ k = !xs.isEmpty) \/ ∃ kvs ep, H p = some (.dK kvs ep) /\ k = !kvs.isEmpty
 | _ => False
theorem yJ {kvs : List (κ × V)} {vs : List (κ × Value)} (r : KV kvs vs) : (!vs.isEmpty) = !kvs.isEmpty := by
 cases r <;> rfl
theorem pF {its : List Value} (r : Vals xs its) : (!its.toArray.isEmpty) = !xs.isEmpty := by
 cases r <;> simp
theorem kP : (sizeLine : Nat) < 2 ^ 63 := by rw [sizeLine_eq]; decide
theorem PF : W2 X (fun x H Q => ∃ k, MJ X.K x H k /\ Q k H) := by
 intro pins s σ H x v Q I rx h
 obtain ⟨k, e, q⟩ := h
 have hl := kP
 have hs : sizeLine = 16777216 := sizeLine_eq
 cases x with
 | bF =>
  cases rx
  have e' : k = false := e
  subst e'
  exact truthy_none ⟨H, I, q⟩
 | bl b =>
  cases rx
  have e' : k = b := e
  subst e'
  exact wpAny_truthy_bool ⟨H, I, q⟩
 | int i =>
  obtain ⟨t, rfl⟩ := rx
  have e' : k = (i != 0) := e
  subst e'
  exact PySem.P.truthy_int ⟨H, I, q⟩
 | str y =>
  obtain ⟨t, rfl⟩ := rx
  obtain ⟨hy, e'⟩ : y.length <= sizeLine /\ k = ((y.length : Int) != 0) := e
  subst e'
  exact PySem.P.truthy_str (by omega) ⟨H, I.tok _, q⟩
 | UG y =>
  obtain ⟨t, rfl⟩ := rx
  obtain ⟨hy, e'⟩ : y.size <= sizeLine /\ k = ((y.size : Int) != 0) := e
  subst e'
  exact PySem.W.truthy_bytes (by omega) ⟨H, I.tok _, q⟩
 | ref p =>
  cases rx
  have e' : (∃ xs, gK X.K H p xs /\ k = !xs.isEmpty) \/ (∃ xs, lL X.K H p xs /\ k = !xs.isEmpty) \/ ∃ kvs ep, H p = some (.dK kvs ep) /\ k = !kvs.isEmpty := e
  rcases e' with ⟨xs, hx, e'⟩ | ⟨xs, hx, e'⟩ | ⟨kvs, ep, hx, e'⟩
  ·subst e'
   obtain ⟨its, r, pl, hz⟩ := I.list hx
   have hlen := r.length
   exact wpAny_truthy_list pl.isList (by simp only [size_toArray]; omega) ⟨H, I.tok _, by rw [pF r]; exact q⟩
  ·subst e'
   obtain ⟨its, r, pl, hz⟩ := I.tuple hx
   have hlen := r.length
   exact truthy_tuple pl (by simp only [size_toArray]; omega) ⟨H, I.tok _, by rw [pF r]; exact q⟩
  ·subst e'
   obtain ⟨hz, hS, vs, r, m⟩ : kvs.length <= sizeLine /\ (p == sysModules) = false /\ ∃ vs, KV kvs vs /\ s.heap.DictAt (bM X.prog X.w) p vs ep := I.bN p _ hx
   have hlen : kvs.length = vs.length := Paired.length r
   exact wpAny_truthy_dict hS m.dictOf (by omega) ⟨H, I.tok _, by rw [yJ r]; exact q⟩
 | _ => exact (show False from e).elim
theorem IE (ha : PE X a ta) (he : ∀ whole, isTrue a X.env whole = (do let v <- whole; standAt a.pos; holding [v] (truthy v))) :
  PT X a (fun σ H Q => ta σ H fun x H' => ∃ k, MJ X.K x H' k /\ Q k H') := by
 intro pins s σ H Q I h
 exact isTrue_plain (cJ (ha pins s σ H _ I h) fun v s1 ⟨x, H1, I1, r1, q1⟩ => PF pins s1 σ H1 x v Q I1 r1 q1) (he _)
theorem zE : gL X (binaryOp .Add) (fun x y H Q => ∃ i j, x = .str i /\ y = .str j /\ i.length + j.length <= sizeLine /\ Q (.str (i ++ j)) H) := by
 intro pins s σ H x y v u Q I rx ry h
 obtain ⟨i, j, rfl, rfl, hz, q⟩ := h
 obtain ⟨t, rfl⟩ := rx
 obtain ⟨t', rfl⟩ := ry
 exact add_str (fun t' tk => ⟨.str (i ++ j), H, I.tok _, ⟨_, rfl⟩, q⟩) hz
theorem vals1 {x : V} (r : Vals [x] us) : ∃ u, us = [u] /\ RelV x u := by
 cases r with
 | cons r1 r2 => cases r2; exact ⟨_, rfl, r1⟩
theorem vals2 {x : V} (r : Vals [x, y] us) : ∃ u w', us = [u, w'] /\ RelV x u /\ RelV y w' := by
 cases r with
 | cons r1 r2 =>
  cases r2 with
  | cons r3 r4 => cases r4; exact ⟨_, _, rfl, r1, r3⟩
theorem CN (hc : X.calm = true) : b8 X (.builtin "min") (fun xs H Q => ∃ i j, xs = [.int i, .int j] /\ Q (.int (if j < i then j else i)) H) := by
 intro pins s σ H xs us Q I r h
 obtain ⟨i, j, rfl, q⟩ := h
 obtain ⟨u, w', rfl, ⟨t, rfl⟩, ⟨t', rfl⟩⟩ := vals2 r
 refine min_two_ints (I.ok.hd hc) fun h' tk k => ⟨_, H, I.kept k, ?_, q⟩
 by_cases hj : j < i
 ·rw [if_pos hj, if_pos hj]; exact ⟨_, rfl⟩
 ·rw [if_neg hj, if_neg hj]; exact ⟨_, rfl⟩
theorem DK : b8 X (.type "int") (fun xs H Q => (∃ i, xs = [.int i] /\ Q (.int i) H) \/ ∃ k, xs = [.bl k] /\ Q (.int (if k then 1 else 0)) H) := by
 intro pins s σ H xs us Q I r h
 rcases h with ⟨i, rfl, q⟩ | ⟨k, rfl, q⟩
 ·obtain ⟨u, rfl, t, rfl⟩ := vals1 r
  exact call_int_int ⟨.int i, H, I, ⟨_, rfl⟩, q⟩
 ·obtain ⟨u, rfl, r1⟩ := vals1 r
  cases r1
  exact call_int_bool ⟨.int (if k then 1 else 0), H, I.tok _, ⟨_, rfl⟩, q⟩
theorem l7 : b8 X (.type "str") (fun xs H Q => ∃ i, xs = [.int i] /\ i.natAbs.log2 < 1920 /\ Q (.str (toString i)) H) := by
 intro pins s σ H xs us Q I r h
 obtain ⟨i, rfl, hz, q⟩ := h
 obtain ⟨u, rfl, t, rfl⟩ := vals1 r
 exact PySem.P.str_of_int hz ⟨.str _, H, I.tok _, ⟨_, rfl⟩, q⟩
end
theorem oR.some_of {v : V} {o : Option Value} (r : oR (some v) o) : ∃ u, o = some u /\ RelV v u := by
 cases o with
 | none => exact (show False from r).elim
 | some u => exact ⟨u, rfl, r⟩
structure dD (k : Nat) (A : Around) : Prop where
 hd : A.handled = none
 dp : A.depth + 3 * k + 5 < recursionLimit
 un : A.units + 16 * k + 200 < cLine
theorem dD.mono (r : dD k A) (h : j <= k) : dD j A := ⟨r.hd, by have := r.dp; omega, by have := r.un; omega⟩
theorem dD.deeper (r : dD (k + 1) A) (env : Env) : dD k (A.deeper env) :=
 ⟨r.hd, by have := r.dp; show A.depth + 1 + 3 * k + 5 < _; omega, by have := r.un; show A.units + 3 + 16 * k + 200 < _; omega⟩
theorem dD.depth (r : dD k A) : A.depth < recursionLimit := by have := r.dp; omega
theorem dD.units (r : dD k A) : A.units + 64 < cLine := by have := r.un; omega
noncomputable def lW : TA := fun _ H Q => Q [] H
noncomputable def dU (ta : TE) (tr : TA) : TA := fun σ H Q => ta σ H fun x H1 => tr σ H1 fun xs H2 => Q (x :: xs) H2
section
variable {X : Cx} {e : Expr} {es : List Expr} {te : TE} {t : TA} {pos : Pos}
theorem aD : PA X [] lW := fun _ _ _ _ H Q I h => Calls.spliced_nil ⟨[], H, I, .nil, h⟩
theorem aA (ha : PE X e te) (hr : PA X es t) (hs : starEach (e :: es) X.env = (false, eval e X.env) :: starEach es X.env := by rfl) : PA X (e :: es) (dU te t) := by
 intro pos pins s σ H Q I h
 rw [hs]
 show wpAny _ _ (spliced ((false, eval e X.env) :: backTo pos (starEach es X.env))) _ _ s
 refine Calls.spliced_cons (cJ (ha pins s σ H _ I h) fun u s1 ⟨x, H1, I1, r1, q1⟩ => ?_)
 exact cJ (hr pos pins s1 σ H1 _ I1 q1) fun us s2 ⟨xs, H2, I2, r2, q2⟩ => ⟨x :: xs, H2, I2, .cons r1 r2, q2⟩
noncomputable def QA (t : TA) : TE := fun σ H Q => t σ H fun xs H1 => xs.length <= sizeLine /\ ∀ p, H1 p = none -> Q (.ref p) (upd H1 p (.tup xs))
noncomputable def J5 (t : TA) : TE := fun σ H Q => t σ H fun xs H1 => xs.length <= sizeLine /\ ∀ p, H1 p = none -> Q (.ref p) (upd H1 p (.lst xs))
theorem bW {x1} (h : PA X es t) : PE X (.Tuple es x1 pos) (QA t) := by
 intro pins s σ H Q I hq
 refine wpAny_Tuple_spliced (cJ (h pos pins s σ H _ I hq) fun us s1 ⟨xs, H1, I1, r, z, q⟩ => ⟨by rw [<- r.length]; exact z, ?_⟩)
 have hf : H1 s1.heap.objs.size = none := I1.bN.fresh (le_refl _)
 refine ⟨.ref s1.heap.objs.size, upd H1 s1.heap.objs.size (.tup xs), I1.laid (t' := s1.toks) (fun b u e => get?_push_of_some _ e) (le_refl _) ?_, rfl, q _ hf⟩
 exact ⟨z, us, r, mY.new _ _⟩
theorem dM (h : PA X es t) : PE X (.List es pos) (J5 t) := by
 intro pins s σ H Q I hq
 refine wpAny_List_spliced (cJ (h pos pins s σ H _ I hq) fun us s1 ⟨xs, H1, I1, r, z, q⟩ => ⟨by rw [<- r.length]; exact z, ?_⟩)
 have hf : H1 s1.heap.objs.size = none := I1.bN.fresh (le_refl _)
 refine ⟨.ref s1.heap.objs.size, upd H1 s1.heap.objs.size (.lst xs), I1.laid (t' := s1.toks) (fun b u e => get?_push_of_some _ e) (le_refl _) ?_, rfl, q _ hf⟩
 exact ⟨z, us, 0, r, get?_push_size _ rfl⟩
end
noncomputable abbrev Sp := List V -> Hp -> VK -> XK -> Prop
noncomputable abbrev EN := List Env -> Hp -> Shared -> XK -> Value -> Shared -> Prop
structure K5 (P : Program) (w : World) (K : Frag) (mg : Str -> Option Value) (base : Heap) (A : Around) (outer : List Env) (s : Shared) (H : Hp) : Prop where
 frames : A.frames = some outer
 mod : Mod K mg base
 bs : ∀ b o, base.get? b = some o -> s.heap.get? b = some o /\ H b = none
 MC : base.objs.size <= s.heap.objs.size
 oK : s.heap.FunFrames base outer
 Q7 : ∀ b ∈ CG outer, H b = none
 bN : kC P w H s.heap
 bare : AllBare s.gens
noncomputable def CE (outer : List Env) (P : Program) (w : World) (H : Hp) (s : Shared) (Q : VK) (u : Value) (s' : Shared) : Prop :=
 ∃ v H', s'.os = s.os /\ AllBare s'.gens /\ Un (CG outer) [] H H' s.heap s'.heap /\ kC P w H' s'.heap /\ RelV v u /\ Q v H'
noncomputable def CR (CX : EN) (outer : List Env) (P : Program) (w : World) (H : Hp) (s : Shared) (Q : VK) (E : XK) (r : Result) (s' : Shared) : Prop :=
 match r with
 | .ok (.ret u) => CE outer P w H s Q u s'
 | .ok _ => False
 | .error e => CX outer H s E e s'
structure lU (P : Program) (w : World) (K : Frag) (mg : Str -> Option Value) (base : Heap) (CX : EN) (k : Nat) (f : Addr) (fd : FuncData) (ps : List Str) (sp : Sp) : Prop where
 len : ∀ vs H Q E, sp vs H Q E -> vs.length = ps.length
 run : ∀ (A : Around) (outer : List Env) (s : Shared) (H : Hp) (args : Args) (us : List Value) (vs : List V) (Q : VK) (E : XK), dD k A -> K5 P w K mg base A outer s H -> BindsTo s fd args (ps.zip us) -> Vals vs us -> sp vs H Q E ->
  codeAny (model P w) A (.call (.ref f) args) (CR CX outer P w H s Q E) s
theorem lU.imp {f : Addr} {sp' : Sp} (F : lU P w K mg base CX k f fd ps sp)
  (h : ∀ vs H Q E, sp' vs H Q E -> sp vs H Q E) : lU P w K mg base CX k f fd ps sp' :=
 ⟨fun vs H Q E q => F.len vs H Q E (h _ _ _ _ q), fun A outer s H args us vs Q E hr he hb hv hs => F.run A outer s H args us vs Q E hr he hb hv (h _ _ _ _ hs)⟩
section
variable {X : Cx} {pins : List (Addr × Obj)} {σ : St} {H : Hp} {s s' : Shared}
theorem Inv.j8 (I : Inv X pins σ H s) : K5 X.prog X.w X.K X.mg X.base X.A X.stack s H :=
 ⟨I.ok.frames, I.ok.mod, I.bs, le_trans I.ok.MC I.sz, I.stack, I.BW, I.bN, I.bare⟩
theorem Inv.after {Q : VK} (I : Inv X pins σ H s) (h : CE X.stack X.prog X.w H s Q u s') : EP X pins σ Q u s' := by
 obtain ⟨v, H', os, bare, un, bN, r, q⟩ := h
 obtain ⟨hh, g, d, t, os'⟩ := s'
 obtain rfl : os' = s.os := os
 exact ⟨v, H', I.call (h' := hh) (g' := g) (d' := d) (t' := t) (ch := []) un bN bare (fun b z => absurd z (by simp)), r, q⟩
end
noncomputable def xX (sp : Sp) (dvs : List V) (E : XK) (t : TA) : TE := fun σ H Q => t σ H fun vs H1 => sp (vs ++ dvs) H1 Q E
noncomputable def Binds (K : Frag) (fd : FuncData) (ps : List Str) (ds : List Value) : Prop :=
 ∀ (s : Shared) (us : List Value), K.In s.heap -> (us ++ ds).length = ps.length -> BindsTo s fd ⟨us, []⟩ (ps.zip (us ++ ds))
theorem Binds.all (h : ∀ us : List Value, us.length = ps.length -> bindArgs fd ⟨us, []⟩ = pure (ps.zip us)) : Binds K fd ps [] := fun s us _ hl => by
 rw [append_nil] at hl ⊢
 exact .of_eq (h us hl)
noncomputable def Passes (CX : EN) (X : Cx) (E : XK) : Prop := ∀ (pins : List (Addr × Obj)) (σ : St) (H : Hp) (s : Shared) (e : Value) (s' : Shared), Inv X pins σ H s -> CX X.stack H s E e s' -> X.xe e s'
section
variable {X : Cx} {CX : EN} {k : Nat} {f C : Addr} {fd : FuncData} {ps : List Str} {sp : Sp} {dvs : List V} {ds : List Value} {E : XK} {x m : Str} {p pos apos : Pos} {e o : Expr} {es : List Expr} {ta : TE} {t : TA}
theorem S0 {Q : VK} {vs : List V} (F : lU X.prog X.w X.K X.mg X.base CX k f fd ps sp) (hr : dD k X.A) (hb : Binds X.K fd ps ds) (hd : Vals dvs ds) (hx : Passes CX X E)
  (I : Inv X pins σ H s) (r : Vals vs us) (h : sp (vs ++ dvs) H Q E) : wpAny (model X.prog X.w) X.A (call (.ref f) us) (EP X pins σ Q) X.xe s := by
 have r2 : Vals (vs ++ dvs) (us ++ ds) := r.append hd
 have hl : (us ++ ds).length = ps.length := by rw [<- r2.length]; exact F.len _ _ _ _ h
 refine wpAny_call (codeAny_mono (F.run X.A X.stack s H ⟨us, []⟩ (us ++ ds) (vs ++ dvs) Q E hr I.j8 (hb s us I.A7 hl) r2 h) fun r s' hq => ?_)
 cases r with
 | error e => exact hx pins σ H s e s' I hq
 | ok fl =>
  cases fl with
  | ret u => exact I.after hq
  | next => exact False.elim hq
  | brk => exact False.elim hq
  | cont => exact False.elim hq
theorem MR (F : lU X.prog X.w X.K X.mg X.base CX k f fd ps sp) (hr : dD k X.A) (hg : Gl X x) (hm : X.mg x = some (.ref f)) (hk : keepIn X.K (.ref f) = true) (hb : Binds X.K fd ps ds) (hd : Vals dvs ds) (hx : Passes CX X E)
  (ha : PA X (e :: es) t) (hdb : (x == ("__debug__" : Str)) = false := by decide) (he : starEach (e :: es) X.env = (false, eval e X.env) :: starEach es X.env := by rfl) (hpl : (backTo pos (starEach es X.env)).any (·.1) = false := by rfl) :
  PE X (.Call (.Name x p) (e :: es) [] pos) (xX sp dvs E t) := by
 intro pins s σ H Q I h
 refine wpAny_Call_Name_kw (K3 I hg hm ?_ hdb)
 refine PySem.W.callWith_K (h₀ := X.base) I.ok.mod.W8 hk (cJ (ha pos pins s σ H _ I h) fun us s1 ⟨vs, H1, I1, r, q⟩ => ⟨I1.A7, ?_⟩) he hpl
 exact S0 F hr hb hd hx I1 r q
end
structure l0 (N P : List Str) (sc : Scope) : Prop where
 kind : sc.kind = .function
 co : sc.isCoroutine = false
 gen : sc.isGenerator = false
 nd : N.Nodup
 pre : N.take P.length = P
 par : ∀ x ∈ P, sc.names.lookup x = some .local \/ sc.names.lookup x = some .cell
 SM : ∀ y ∈ sc.names, y.2 ≠ .free
theorem rV : ∀ {binds : List (Str × Value)} {m : Str -> Option Value}, (∀ v, (x, v) ∉ binds) -> bindL kindOf binds m x = m x
 | [], _, _ => rfl
 | (n, v) :: r, m, h => by
  unfold bindL
  rw [rV fun w hw => h w (mem_cons_of_mem _ hw)]
  split
  ·have : x ≠ n := by rintro rfl; exact h v mem_cons_self
   simp [this]
  ·rfl
theorem sE : ∀ {binds : List (Str × Value)} {m : Str -> Option Value}, (∀ v, (x, v) ∉ binds) -> bindC kindOf binds m x = m x
 | [], _, _ => rfl
 | (n, v) :: r, m, h => by
  unfold bindC
  rw [sE fun w hw => h w (mem_cons_of_mem _ hw)]
  split
  ·rfl
  ·have : x ≠ n := by rintro rfl; exact h v mem_cons_self
   simp [this]
theorem sQ : ∀ {P : List Str} {vs : List Value} {i : Nat} {m : Str -> Option Value}, P.Nodup -> P[i]? = some x -> vs[i]? = some v -> kindOf x = some .local ->
  bindL kindOf (P.zip vs) m x = some v
 | [], _, _, _, _, h, _, _ => by simp at h
 | _ :: _, [], _, _, _, _, h, _ => by simp at h
 | p :: P, w :: vs, 0, m, nd, h1, h2, hk => by
  simp at h1 h2; subst h1; subst h2
  show bindL kindOf ((p, w) :: P.zip vs) m p = _
  unfold bindL
  rw [rV fun v hv => (nodup_cons.mp nd).1 (of_mem_zip hv).1, if_pos hk]
  simp
 | p :: P, w :: vs, i + 1, m, nd, h1, h2, hk => by
  show bindL kindOf ((p, w) :: P.zip vs) m x = _
  unfold bindL
  exact sQ (i := i) (nodup_cons.mp nd).2 (by simpa using h1) (by simpa using h2) hk
theorem rY : ∀ {P : List Str} {vs : List Value} {i : Nat} {m : Str -> Option Value}, P.Nodup -> P[i]? = some x -> vs[i]? = some v -> kindOf x ≠ some .local ->
  bindC kindOf (P.zip vs) m x = some v
 | [], _, _, _, _, h, _, _ => by simp at h
 | _ :: _, [], _, _, _, _, h, _ => by simp at h
 | p :: P, w :: vs, 0, m, nd, h1, h2, hk => by
  simp at h1 h2; subst h1; subst h2
  show bindC kindOf ((p, w) :: P.zip vs) m p = _
  unfold bindC
  rw [sE fun v hv => (nodup_cons.mp nd).1 (of_mem_zip hv).1, if_neg hk]
  simp
 | p :: P, w :: vs, i + 1, m, nd, h1, h2, hk => by
  show bindC kindOf ((p, w) :: P.zip vs) m x = _
  unfold bindC
  exact rY (i := i) (nodup_cons.mp nd).2 (by simpa using h1) (by simpa using h2) hk
noncomputable def start (N : List Str) (vs : List V) : St := vs.map some ++ List.replicate (N.length - vs.length) none
noncomputable def yL (CX : EN) (P : Program) (w : World) (K : Frag) (mg : Str -> Option Value) (base : Heap) (N : List Str) (qual : Str) (scope : Scope) (f : Addr) (cd : Value) (A : Around) (outer : List Env) (s : Shared) (H : Hp) (E : XK) : Cx where
 prog := P
 w := w
 K := K
 mg := mg
 base := base
 A := A.deeper (envOfC qual scope s.heap.objs.size f cd)
 N := N
 gA := s
 FW := H
 env := envOfC qual scope s.heap.objs.size f cd
 outer := outer
 stack := envOfC qual scope s.heap.objs.size f cd :: outer
 ex := []
 calm := true
 fn := fun _ => true
 pn := []
 xe := fun e s' => wpAny (model P w) (A.deeper (envOfC qual scope s.heap.objs.size f cd)) (leaving (envOfC qual scope s.heap.objs.size f cd) e) (fun _ s'' => CX outer H s E e s'') (fun e' s'' => CX outer H s E e' s'') s'
theorem vV {sc : Scope} (h : sc.names.lookup x = some .cell) : ∃ c, (cellsFrom n sc.names []).lookup x = some c := by
 have q := PySem.W.cellsFrom_some sc.names n [] (.inl h)
 exact isSome_iff_exists.mp q
theorem DB {f : Addr} {cd : Value} {outer : List Env} {s s1 : Shared} {E : XK} {vs : List V}
  (S : l0 N ps scope) (hd : A.handled = none) (e0 : K5 P w K mg base A outer s H) (hl : vs.length = ps.length) (r : Vals vs us)
  (x : InCallC s s.heap.objs.size (bindL (envOfC qual scope s.heap.objs.size f cd).kindOf (ps.zip us) fun _ => none) (cellsFrom (s.heap.objs.size + 1) scope.names []) (bindC (envOfC qual scope s.heap.objs.size f cd).kindOf (ps.zip us) fun _ => none) s1) :
  Inv (yL CX P w K mg base N qual scope f cd A outer s H E) [] (start N vs) H s1 := by
 have hpl : ps.length <= N.length := by have := congrArg List.length S.pre; rw [length_take] at this; omega
 obtain ⟨h1, tk, rfl, hk⟩ := x.done
 have cK : ∀ b : Addr, b ∉ (yL CX P w K mg base N qual scope f cd A outer s H E).ex := fun b z => absurd (show b ∈ ([] : List Addr) from z) (by simp)
 refine ⟨⟨e0.mod, S.kind, rfl, rfl, le_refl _, fun y z c h1 h2 => ?_, fun y hy => ?_, fun y c _ h => ?_, fun _ => hd, Around.frames_deeper e0.frames, .inr ⟨rfl, rfl⟩, fun b z => absurd z (cK b), e0.bs, e0.MC, fun b _ _ => cK b, fun b z => absurd z (cK b), e0.oK, e0.Q7⟩,
  rfl, e0.bare, Un.kept hk, ⟨_, x.toInCall.ns, fun i y v h1 h2 h3 => ?_⟩, fun y c h => ⟨_, x.cell y c h⟩, e0.bN.fresh (le_refl _), fun y c h => ?_, fun p hp => absurd (show p ∈ ([] : List (Addr × Obj)) from hp) (by simp), e0.bN.kept hk, ?_⟩
 ·exact name_of_addr x.apart (PySem.mem_of_lookup h1) (PySem.mem_of_lookup h2)
 ·have hy : scope.names.lookup y = some .cell \/ scope.names.lookup y = some .free := hy
  rcases hy with hy | hy
  ·exact vV hy
  ·exact absurd rfl (S.SM _ (PySem.mem_of_lookup hy))
 ·exact le_of_lt (x.above y c (PySem.mem_of_lookup h))
 ·have hi : i < vs.length := by
   unfold start at h2
   by_cases hi : i < vs.length
   ·exact hi
   ·rw [getElem?_append_right (by simpa using hi)] at h2
    rw [List.getElem?_replicate] at h2
    split at h2 <;> cases h2
  have ha : vs[i]? = some v := by
   unfold start at h2
   rw [getElem?_append_left (by simpa using hi), getElem?_map] at h2
   cases e : vs[i]? with
   | none => rw [e] at h2; cases h2
   | some a => rw [e] at h2; cases h2; rfl
  obtain ⟨u, hu, rv⟩ := r.get ha
  have hp : ps[i]? = some y := by
   rw [<- S.pre, List.getElem?_take_of_lt (by omega)]; exact h1
  have ndP : ps.Nodup := by rw [<- S.pre]; exact S.nd.sublist (List.take_sublist _ _)
  refine ⟨u, rv, ?_⟩
  rcases S.par y (mem_of_getElem? hp) with k | k
  ·exact .inl ⟨k, sQ ndP hp hu k⟩
  ·obtain ⟨c, e⟩ := vV (n := s.heap.objs.size + 1) k
   refine .inr ⟨.inl k, c, e, ?_⟩
   have q := x.cell y c e
   rw [rY ndP hp hu (by show scope.names.lookup y ≠ _; rw [k]; decide)] at q
   exact q
 ·exact e0.bN.fresh (le_of_lt (x.above y c (PySem.mem_of_lookup h)))
 ·unfold start
  show _ = N.length
  rw [length_append, length_map, length_replicate]
  omega
theorem UK {f : Addr} {name : Str} {params : Arguments} {dV kV doc pm cdv ct oc : Value} {an od : Option Addr}
  {osl : Array (Option Value)} (lk : K.lookup f = some ⟨oc, od, .func (fnOf name qual params body scope dV kV doc pm an cdv ct), osl⟩) (hcd : codeIn K cdv qual = true) (S : l0 N ps scope)
  (len : ∀ vs H Q E, sp vs H Q E -> vs.length = ps.length)
  (hbody : ∀ (A : Around) (outer : List Env) (s : Shared) (H : Hp) (vs : List V) (Q : VK) (E : XK), dD k (A.deeper (envOfC qual scope s.heap.objs.size f cdv)) -> sp vs H Q E ->
   ∃ t, D0 (yL CX P w K mg base N qual scope f cdv A outer s H E) body t /\ t { nx := fun _ H' => Q .bF H', rt := Q } (start N vs) H) :
  lU P w K mg base CX (k + 1) f (fnOf name qual params body scope dV kV doc pm an cdv ct) ps sp := by
 refine ⟨len, fun A outer s H args us vs Q E hr e0 hb r hsp => ?_⟩
 have hl := len _ _ _ _ hsp
 have KX : K.In s.heap := e0.mod.W8.keeps fun b o e => (e0.bs b o e).1
 have lim : s.heap.NoLimit := e0.mod.nolimit.keeps fun b o e => (e0.bs b o e).1
 have hkind : ∀ y ∈ ps.zip us, scope.names.lookup y.1 = some .local \/ (scope.names.lookup y.1 = some .cell /\ ((cellsFrom (s.heap.objs.size + 1) scope.names []).lookup y.1).isSome = true) := fun ⟨n, v⟩ hy => by
  rcases S.par n (of_mem_zip hy).1 with q | q
  ·exact .inl q
  ·exact .inr ⟨q, PySem.W.cellsFrom_some _ _ _ (.inl q)⟩
 refine codeAny_call_function hr.depth (KX _ _ lk) rfl S.co S.gen rfl (PySem.W.codeRec_of KX hcd) (hb _ _ _ _ ?_)
 refine wpAny_newFunctionEnv_cells S.kind hkind fun env he s1 x => ?_
 subst he
 refine ⟨lim.keeps x.toInCall.keep, codeAny_func ?_⟩
 obtain ⟨t, ht, hq⟩ := hbody A outer s H vs Q E (hr.deeper _) hsp
 have I : Inv (yL CX P w K mg base N qual scope f cdv A outer s H E) [] (start N vs) H s1 := DB S hr.hd e0 hl r x
 refine wpAny_mono (ht [] s1 (start N vs) H _ I hq) (fun fl s' hs => ?_) fun e s' hs => hs
 have fin : ∀ {σ' : St} {H' : Hp} {v : V} {u : Value}, Inv (yL CX P w K mg base N qual scope f cdv A outer s H E) [] σ' H' s' -> RelV v u -> Q v H' -> CE outer P w H s Q u s' :=
  fun {σ' H' v u} J rv q => ⟨v, H', J.os, J.bare, J.base, J.bN, rv, q⟩
 cases fl with
 | ret u =>
  obtain ⟨v, σ', H', J, rv, q⟩ := hs
  exact fin J rv q
 | next =>
  obtain ⟨σ', H', J, q⟩ := hs
  exact fin (v := V.bF) (u := Value.none) J rfl q
 | brk =>
  obtain ⟨_, _, _, q⟩ := hs
  exact False.elim q
 | cont =>
  obtain ⟨_, _, _, q⟩ := hs
  exact False.elim q
section
variable {X : Cx} {x : Str} {p pos : Pos} {e : Expr} {es : List Expr} {t : TA} {id T : String} {r : List V -> Hp -> VK -> Prop}
noncomputable def OQ (r : List V -> Hp -> VK -> Prop) (t : TA) : TE := fun σ H Q => t σ H fun vs H1 => r vs H1 Q
theorem cB (hc : b8 X (.builtin id) r) (hg : Gl X x) (hm : X.mg x = none) (hv : bootBuiltins x = some (.builtin id)) (ha : PA X (e :: es) t) (hn : x ≠ "__name__" := by decide) (hdb : (x == ("__debug__" : Str)) = false := by decide)
  (he : starEach (e :: es) X.env = (false, eval e X.env) :: starEach es X.env := by rfl) (hpl : (backTo pos (starEach es X.env)).any (·.1) = false := by rfl) : PE X (.Call (.Name x p) (e :: es) [] pos) (OQ r t) := by
 intro pins s σ H Q I h
 refine wpAny_Call_Name_kw (m8 I hg hm hv ?_ hn hdb)
 exact PyProof.Rows.callWith_builtin1 (cJ (ha pos pins s σ H _ I h) fun us s1 ⟨vs, H1, I1, r1, q1⟩ => hc pins s1 σ H1 vs us Q I1 r1 q1) he hpl
theorem cH (hc : b8 X (.type T) r) (hg : Gl X x) (hm : X.mg x = none) (hv : bootBuiltins x = some (.type T)) (ha : PA X (e :: es) t) (hn : x ≠ "__name__" := by decide) (hdb : (x == ("__debug__" : Str)) = false := by decide)
  (he : starEach (e :: es) X.env = (false, eval e X.env) :: starEach es X.env := by rfl) (hpl : (backTo pos (starEach es X.env)).any (·.1) = false := by rfl) : PE X (.Call (.Name x p) (e :: es) [] pos) (OQ r t) := by
 intro pins s σ H Q I h
 refine wpAny_Call_Name_kw (m8 I hg hm hv ?_ hn hdb)
 exact PyProof.Rows.callWith_type1 (cJ (ha pos pins s σ H _ I h) fun us s1 ⟨vs, H1, I1, r1, q1⟩ => hc pins s1 σ H1 vs us Q I1 r1 q1) he hpl
end
end L2
namespace HT
open PySem PyProof.Rows
variable {sl t : Addr} {vl vu : Value} {Q : Value -> Shared -> Prop}
section
variable {prog : Program} {w : World} {A : Around} {E : Value -> Shared -> Prop} {s : Shared}
theorem NQ {b : Addr} {vs ws : List Value} (ht : IsTup s.heap t vs.toArray) (hb : IsTup s.heap b ws.toArray) (hv : vs ≠ [])
  (h1 : ws = [] -> Q (.ref t) s) (h2 : ws ≠ [] -> Q (.ref s.heap.objs.size) { s with heap := s.heap.push { cls := .type "tuple", data := .seq (vs ++ ws).toArray } })
  (hsz : vs.length + ws.length <= sizeLine) : wpAny (model prog w) A (binaryOp .Add (.ref t) (.ref b)) Q E s := by
 obtain ⟨⟨cls, dd, data, sl⟩, ho, hc, n, hd⟩ := id ht
 obtain ⟨⟨cls2, dd2, data2, sl2⟩, ho2, hc2, n2, hd2⟩ := id hb
 simp only at hc hd hc2 hd2
 subst hc hd hc2 hd2
 have e : vs.toArray ++ ws.toArray = (vs ++ ws).toArray := by simp
 by_cases hw : ws = []
 ·exact concat_meets ⟨_, ho, rfl⟩ ⟨_, ho2, rfl⟩ noFill_tuple_add seq_tuple_add slot_tuple_add entry_tuple_add (args_tuple_add_2 _ _)
   (tuple_addW1 t b vs.toArray ws.toArray n n2 dd dd2 sl sl2 (by simpa using hv) (by simp [hw])) ⟨ho, ho2, h1 hw⟩
 ·refine concat_meets ⟨_, ho, rfl⟩ ⟨_, ho2, rfl⟩ noFill_tuple_add seq_tuple_add slot_tuple_add entry_tuple_add (args_tuple_add_2 _ _)
   (tuple_addW2 t b vs.toArray ws.toArray n n2 dd dd2 sl sl2 (by simpa using hv) (by simpa using hw) (by rw [size_toArray, size_toArray]; exact hsz)) ⟨ho, ho2, ?_⟩
  rw [e]
  exact h2 hw
noncomputable def dQ (n d : Nat) : Option Int -> Nat
 | none => d
 | some v => if v < 0 then (v + (n : Int)).toNat else min v.toNat n
theorem xZ (n d : Nat) : dQ n d none = d := rfl
theorem CB (n d k : Nat) : dQ n d (some (k : Int)) = min k n := by
 show (if (k : Int) < 0 then ((k : Int) + (n : Int)).toNat else min (k : Int).toNat n) = min k n
 rw [if_neg (by omega), toNat_natCast]
theorem Q1 (n d : Nat) (hd : d <= n) (o : Option Int) : dQ n d o <= n := by
 cases o with
 | none => exact hd
 | some v =>
  show (if v < 0 then (v + (n : Int)).toNat else min v.toNat n) <= n
  by_cases hv : v < 0
  ·rw [if_pos hv]; omega
  ·rw [if_neg hv]; exact Nat.min_le_right _ _
theorem AY (v : Int) (n d : Nat) : (if v < 0 then max (v + (n : Int)) 0 else min v (n : Int)) = ((dQ n d (some v) : Nat) : Int) := by
 show (if v < 0 then max (v + (n : Int)) 0 else min v (n : Int)) = (((if v < 0 then (v + (n : Int)).toNat else min v.toNat n) : Nat) : Int)
 by_cases hv : v < 0
 ·simp only [if_pos hv]; omega
 ·simp only [if_neg hv]; omega
theorem yN (lo hi : Option Int) (n : Nat) : Builtin.Slice.sliceAdjust lo hi 1 (n : Int) = (((dQ n 0 lo : Nat) : Int), ((dQ n n hi : Nat) : Int)) := by
 have h1 : ¬ ((1 : Int) < 0) := by omega
 unfold Builtin.Slice.sliceAdjust
 simp only [h1, if_false]
 refine Prod.ext ?_ ?_
 ·cases lo with
  | none => rfl
  | some v => exact AY v n 0
 ·cases hi with
  | none => rfl
  | some v => exact AY v n n
theorem zZ (i j : Nat) : Builtin.Slice.slicePlaces (i : Int) (j : Int) 1 = j - i := by
 unfold Builtin.Slice.slicePlaces
 have h1 : (1 : Int) > 0 := by omega
 simp only [h1, if_true, Int.ediv_one]
 split <;> omega
theorem p4 {v : Value} {o : Option Int} {Q : Option Int -> Shared -> Prop} (p : IsPart v o) (h : Q o s) : wpAny (model prog w) A (Builtin.Slice.slicePartIndex v) Q E s := by
 cases p with
 | none => exact slicePart_none h
 | int i t => exact slicePart_int h
theorem iA {lo hi : Option Int} {n : Nat} {Q : Int × Int × Nat -> Shared -> Prop} (hs : s.heap.IsSliceOf sl vl vu .none) (pl : IsPart vl lo) (pu : IsPart vu hi)
  (h : Q (((dQ n 0 lo : Nat) : Int), 1, dQ n n hi - dQ n 0 lo) s) : wpAny (model prog w) A (Builtin.Slice.sliceApplied (.ref sl) (pure (n : Int))) Q E s := by
 obtain ⟨os, hos, hcs, hds⟩ := id hs
 unfold Builtin.Slice.sliceApplied Builtin.Slice.sliceFields
 refine wpAny_bind (wpAny_bind (wpAny_field hos hds (x := vl) rfl (wpAny_bind (wpAny_field hos hds (x := vu) rfl (wpAny_bind (wpAny_field hos hds (x := .none) rfl (wpAny_pure ?_)))))))
 refine wpAny_bind (slicePart_none ?_)
 show wpAny _ _ (if ((1 : Int) == 0) = true then _ else _) _ _ s
 rw [if_neg (by decide)]
 refine wpAny_bind (p4 pl (wpAny_bind (p4 pu (wpAny_bind (wpAny_pure ?_)))))
 show wpAny _ _ (match Builtin.Slice.sliceAdjust lo hi 1 (n : Int) with | (lo, hi) => pure (lo, (1 : Int), Builtin.Slice.slicePlaces lo hi 1)) _ _ s
 rw [yN lo hi n]
 show wpAny _ _ (pure (((dQ n 0 lo : Nat) : Int), (1 : Int), Builtin.Slice.slicePlaces ((dQ n 0 lo : Nat) : Int) ((dQ n n hi : Nat) : Int) 1)) _ _ s
 rw [zZ]
 exact wpAny_pure h
theorem GG (xs : Array Value) (i k : Nat) : ((List.range k).filterMap fun (m : Nat) => xs[((i : Int) + (m : Int) * 1).toNat]?).toArray = ((xs.toList.drop i).take k).toArray := by
 have e : (fun (m : Nat) => xs[((i : Int) + (m : Int) * 1).toNat]?) = fun m => xs[i + m]? := by
  funext m
  have : ((i : Int) + (m : Int) * 1).toNat = i + m := by omega
  rw [this]
 rw [e]
 have := pick_run xs i k
 rw [List.filterMap_map] at this
 have e2 : ((fun x => xs[x]?) ∘ fun x => i + x) = fun m => xs[i + m]? := rfl
 rw [e2] at this
 rw [this]
theorem mB {items : Array Value} {lo hi : Option Int} (ht : IsTup s.heap t items) (hs : s.heap.IsSliceOf sl vl vu .none) (pl : IsPart vl lo) (pu : IsPart vu hi)
  (hw : ¬ (dQ items.size 0 lo = 0 /\ dQ items.size items.size hi = items.size))
  (h : Q (.ref s.heap.objs.size) { s with heap := s.heap.push { cls := .type "tuple", data := .seq ((items.toList.drop (dQ items.size 0 lo)).take (dQ items.size items.size hi - dQ items.size 0 lo)).toArray } })
  (hsz : items.size <= sizeLine) : wpAny (model prog w) A (getItem (.ref t) (.ref sl)) Q E s := by
 have htake : sizeOk (.seq ((items.toList.drop (dQ items.size 0 lo)).take (dQ items.size items.size hi - dQ items.size 0 lo)).toArray) := by
  show ((items.toList.drop (dQ items.size 0 lo)).take (dQ items.size items.size hi - dQ items.size 0 lo)).toArray.size <= sizeLine
  rw [size_toArray, length_take, length_drop, length_toList]
  omega
 have hj : dQ items.size items.size hi <= items.size := Q1 _ _ (le_refl _) hi
 obtain ⟨os, hos, hcs, hds⟩ := id hs
 have hTs : s.TypeIs (.ref sl) "slice" := ⟨os, hos, hcs⟩
 unfold getItem
 try with_reducible refine wpAny_holding ?_
 first | refine wpAny_bind (wpAny_pure ?_) | skip
 refine wpAny_bind (wpAny_sequenceKey ht.typeIs (by decide) ?_)
 refine wpAny_bind (wpAny_callSpecial?_slot (name := Str.ofString "__getitem__") ht.typeIs PyProof.Rows.slot_tuple_getitem
  (wpAny_call_entry PyProof.Rows.slot_tuple_getitem ht.typeIs entry_tuple_getitem ?_ (args_tuple_getitem _ _)))
 show wpAny _ _ (Builtin.Tuple.tupleItemsOf (.ref t) >>= _) _ _ s
 refine wpAny_bind (tupleItemsOf_ ht ?_)
 refine wpAny_bind (wpAny_typeOf hTs ?_)
 rw [if_pos (by decide)]
 refine wpAny_bind (iA hs pl pu ?_)
 have hno : ¬ ((((dQ items.size 0 lo : Nat) : Int) == 0 && (1 : Int) == 1 && (dQ items.size items.size hi - dQ items.size 0 lo) == items.size) = true) := by
  intro q
  rw [and_eq_true, and_eq_true] at q
  have q1 : ((dQ items.size 0 lo : Nat) : Int) = 0 := eq_of_beq q.1.1
  have q2 : dQ items.size items.size hi - dQ items.size 0 lo = items.size := eq_of_beq q.2
  exact hw ⟨by omega, by omega⟩
 show wpAny _ _ (if (((dQ items.size 0 lo : Nat) : Int) == 0 && (1 : Int) == 1 && (dQ items.size items.size hi - dQ items.size 0 lo) == items.size) = true then _ else _) _ _ s
 rw [if_neg hno, GG]
 first
  | exact wpAny_bind (m := Builtin.Tuple.tupleExact _) (wpAny_newObj_type (wpAny_pure ⟨_, rfl, wpAny_pure h⟩) htake)
  | exact wpAny_bind (m := Builtin.Tuple.tupleExact _) (wpAny_newObj_type (wpAny_bind (wpAny_pure (wpAny_pure ⟨_, rfl, wpAny_pure h⟩))) htake)
  | exact wpAny_bind (wpAny_bind (m := Builtin.Tuple.tupleExact _) (wpAny_newObj_type (wpAny_pure (wpAny_pure ⟨_, rfl, wpAny_pure h⟩)) htake))
  | exact wpAny_bind (wpAny_bind (m := Builtin.Tuple.tupleExact _) (wpAny_newObj_type (wpAny_pure ⟨_, rfl, wpAny_pure h⟩) htake))
end
end HT
namespace L2
open PySem PySem.Spec PyProof.Rows
variable {H : Hp} {pins : List (Addr × Obj)} {xs : List V} {its its' : List Value} {j n : Nat} {s : Shared} {σ : St} {α : Type} {r : V -> Option Int -> Option Int -> Hp -> VK -> Prop}
noncomputable abbrev TO := St -> Hp -> (Option Int -> Hp -> Prop) -> Prop
noncomputable def PO (X : Cx) (e : Option Expr) (t : TO) : Prop :=
 ∀ (pins : List (Addr × Obj)) (s : Shared) (σ : St) (H : Hp) (Q : Option Int -> Hp -> Prop), Inv X pins σ H s -> t σ H Q ->
  wpAny (model X.prog X.w) X.A (evalPart e X.env) (fun u s' => ∃ o H', Inv X pins σ H' s' /\ IsPart u o /\ Q o H') X.xe s
noncomputable def BU : TO := fun _ H Q => Q none H
noncomputable def N2 (t : TE) : TO := fun σ H Q => t σ H fun x H1 => ∃ i, x = .int i /\ Q (some i) H1
section
variable {X : Cx} {e : Expr} {te : TE} {lo hi : Option Expr} {tl th : TO} {pos p2 : Pos}
theorem pB : PO X none BU := by
 intro pins s σ H Q I h
 rw [evalPart_none]
 exact wpAny_pure ⟨none, H, I, .none, h⟩
theorem oX (h : PE X e te) : PO X (some e) (N2 te) := by
 intro pins s σ H Q I hw
 rw [evalPart_some]
 refine cJ (h pins s σ H _ I hw) fun u s1 ⟨x, H1, I1, r1, q1⟩ => ?_
 obtain ⟨i, rfl, q⟩ := q1
 obtain ⟨t, rfl⟩ := r1
 exact ⟨some i, H1, I1, .int i t, q⟩
noncomputable def CY (X : Cx) (r : V -> Option Int -> Option Int -> Hp -> VK -> Prop) : Prop :=
 ∀ (pins : List (Addr × Obj)) (s : Shared) (σ : St) (H : Hp) (x : V) (v vl vu : Value) (lo hi : Option Int) (sl : Addr) (Q : VK), Inv X pins σ H s -> RelV x v -> s.heap.IsSliceOf sl vl vu .none -> IsPart vl lo -> IsPart vu hi -> r x lo hi H Q ->
  ∃ T id, typeLookup (.type T) "__getitem__" = pure (some (.builtin id)) /\ s.TypeIs v T /\ wpAny (model X.prog X.w) X.A (getItem v (.ref sl)) (EP X pins σ Q) X.xe s
theorem CY.or {r' : V -> Option Int -> Option Int -> Hp -> VK -> Prop} (h : CY X r) (h' : CY X r') : CY X (fun x lo hi H Q => r x lo hi H Q \/ r' x lo hi H Q) := by
 intro pins s σ H x v vl vu lo hi sl Q I rx hs pl pu q
 rcases q with q | q
 ·exact h pins s σ H x v vl vu lo hi sl Q I rx hs pl pu q
 ·exact h' pins s σ H x v vl vu lo hi sl Q I rx hs pl pu q
noncomputable def XZ (r : V -> Option Int -> Option Int -> Hp -> VK -> Prop) (te : TE) (tl th : TO) : TE := fun σ H Q => te σ H fun x H1 => tl σ H1 fun l H2 => th σ H2 fun u H3 => r x l u H3 Q
theorem mI (hr : CY X r) (he : PE X e te) (hl : PO X lo tl) (hu : PO X hi th) : PE X (.Subscript e (.Slice lo hi none p2) pos) (XZ r te tl th) := by
 intro pins s σ H Q I h
 refine Subscript_ (cJ (he pins s σ H _ I h) fun v s1 ⟨x, H1, I1, r1, q1⟩ => ?_)
 refine wpAny_Slice (cJ (hl pins s1 σ H1 _ I1 q1) fun vl s2 ⟨l, H2, I2, pl, q2⟩ => cJ (hu pins s2 σ H2 _ I2 q2) fun vu s3 ⟨u, H3, I3, pu, q3⟩ => ?_)
 rw [evalPart_none]
 refine wpAny_pure ?_
 have I4 : Inv X pins σ H3 { s3 with heap := s3.heap.push { cls := .type "slice", data := .fields #[vl, vu, .none] } } := I3.kept (t' := s3.toks) fun b ob q => get?_push_of_some _ q
 obtain ⟨T, id, hT, ht, hg⟩ := hr pins { s3 with heap := s3.heap.push { cls := .type "slice", data := .fields #[vl, vu, .none] } } σ H3 x v vl vu l u s3.heap.objs.size Q I4 r1 (Heap.IsSliceOf.new ..) pl pu q3
 show wpAny (model X.prog X.w) X.A (subscriptTail e (.Slice lo hi none p2) v (.ref s3.heap.objs.size)) (EP X pins σ Q) X.xe { s3 with heap := s3.heap.push { cls := .type "slice", data := .fields #[vl, vu, .none] } }
 exact tail_any (ops := [.ref s3.heap.objs.size, v]) ht hT hg (by with_unfolding_all rfl)
noncomputable def qO (xs : List V) (lo hi : Option Int) : List V := (xs.drop (HT.dQ xs.length 0 lo)).take (HT.dQ xs.length xs.length hi - HT.dQ xs.length 0 lo)
theorem n6 (xs : List V) (lo hi : Option Int) : (qO xs lo hi).length <= xs.length := by
 unfold qO
 rw [length_take, length_drop]
 omega
noncomputable def WO (K : Frag) : V -> Option Int -> Option Int -> Hp -> VK -> Prop := fun x lo hi H Q => ∃ a xs, x = .ref a /\ lL K H a xs /\
 ¬ (HT.dQ xs.length 0 lo = 0 /\ HT.dQ xs.length xs.length hi = xs.length) /\ ∀ p, H p = none -> Q (.ref p) (upd H p (.tup (qO xs lo hi)))
theorem QD : CY X (WO X.K) := by
 intro pins s σ H x v vl vu lo hi sl Q I rx hs pl pu h
 obtain ⟨a, xs, rfl, hx, hw, q⟩ := h
 cases rx
 obtain ⟨its, r, ht, hz⟩ := I.tuple hx
 have hlen : its.toArray.size = xs.length := by rw [size_toArray]; exact r.length.symm
 refine ⟨"tuple", _, PyProof.Rows.slot_tuple_getitem.lookup, ht.typeIs, ?_⟩
 refine HT.mB ht hs pl pu (by rw [hlen]; exact hw) ?_ (by rw [hlen]; exact hz)
 rw [hlen]
 refine ⟨.ref s.heap.objs.size, _, I.laid (t' := s.toks) (o := .tup (qO xs lo hi)) (fun b ob q => get?_push_of_some _ q) (le_refl _) ?_, rfl, q _ (I.bN.fresh (le_refl _))⟩
 exact ⟨le_trans (n6 xs lo hi) hz, _, (r.drop (HT.dQ xs.length 0 lo)).take (HT.dQ xs.length xs.length hi - HT.dQ xs.length 0 lo), mY.new _ _⟩
theorem Vals.B9 {us : List Value} (r : Vals xs us) : us = [] ↔ xs = [] := by
 cases r with
 | nil => simp
 | cons _ _ => simp
end
noncomputable def qV (n : Nat) (i : Int) : Option Nat := if 0 <= i then (if i < n then some i.toNat else none) else if -(n : Int) <= i then some (i + n).toNat else none
noncomputable def lK (xs : List α) (i : Int) : Option α := (qV xs.length i).bind fun j => xs[j]?
theorem BD {i : Int} (h : qV n i = some j) : seqIndex? i n = some j /\ j < n /\ -(n : Int) <= i /\ i < n := by
 unfold qV at h
 by_cases h0 : 0 <= i
 ·rw [if_pos h0] at h
  by_cases h1 : i < n
  ·rw [if_pos h1] at h
   have e : i.toNat = j := Option.some.inj h
   exact ⟨by rw [seqIndex_of h0 h1, e], by omega, by omega, h1⟩
  ·rw [if_neg h1] at h; cases h
 ·rw [if_neg h0] at h
  by_cases h1 : -(n : Int) <= i
  ·rw [if_pos h1] at h
   have e : (i + n).toNat = j := Option.some.inj h
   exact ⟨by rw [seqIndex_neg (by omega) h1, e], by omega, h1, by omega⟩
  ·rw [if_neg h1] at h; cases h
theorem tK {xs : List α} {i : Int} {v : α} (h : lK xs i = some v) : ∃ j, seqIndex? i xs.length = some j /\ xs[j]? = some v /\ j < xs.length /\ -(xs.length : Int) <= i /\ i < xs.length := by
 unfold lK at h
 cases e : qV xs.length i with
 | none => rw [e] at h; cases h
 | some j =>
  rw [e] at h
  obtain ⟨h1, h2, h3, h4⟩ := BD e
  exact ⟨j, h1, h, h2, h3, h4⟩
theorem fU {xs : List α} {v : α} (h : xs[j]? = some v) : lK xs (j : Int) = some v := by
 have hj : j < xs.length := (List.getElem?_eq_some_iff.mp h).1
 have e : qV xs.length (j : Int) = some j := by
  unfold qV
  rw [if_pos (by omega), if_pos (by omega)]; simp
 unfold lK; rw [e]; exact h
noncomputable def KA (b : Expr) : Prop := ∀ o i, subscripted b false o i = operate [o, i] (getItem o i)
noncomputable def zN (X : Cx) (r : R2) : Prop :=
 ∀ (value slice : Expr) (pins : List (Addr × Obj)) (s : Shared) (σ : St) (H : Hp) (x y : V) (v u : Value) (Q : VK), Inv X pins σ H s -> RelV x v -> RelV y u -> r x y H Q ->
  subscripted slice false v u = operate [v, u] (getItem v u) -> wpAny (model X.prog X.w) X.A (subscriptTail value slice v u) (EP X pins σ Q) X.xe s
noncomputable def T1 (X : Cx) (id : String) (r : V -> List V -> Hp -> VK -> Prop) : Prop :=
 ∀ (pins : List (Addr × Obj)) (s : Shared) (σ : St) (H : Hp) (x : V) (xs : List V) (v : Value) (us : List Value) (Q : VK), Inv X pins σ H s -> RelV x v -> Vals xs us -> r x xs H Q ->
  wpAny (model X.prog X.w) X.A (call (.builtin id) (v :: us)) (EP X pins σ Q) X.xe s
section
variable {X : Cx} {a b : Expr} {ta tb : TE} {pos : Pos}
theorem zN.or {r r' : R2} (h : zN X r) (h' : zN X r') : zN X (fun x y H Q => r x y H Q \/ r' x y H Q) := by
 intro value slice pins s σ H x y v u Q I rx ry q hs
 rcases q with q | q
 ·exact h value slice pins s σ H x y v u Q I rx ry q hs
 ·exact h' value slice pins s σ H x y v u Q I rx ry q hs
theorem bH {r : R2} (hr : zN X r) (ha : PE X a ta) (hb : PE X b tb) (hs : KA b) : PE X (.Subscript a b pos) (UE r ta tb) := by
 intro pins s σ H Q I h
 exact Subscript_ (Q0 ha hb I h fun v u s2 x y H2 I2 rx ry q => hr a b pins s2 σ H2 x y v u Q I2 rx ry q (hs _ _))
noncomputable def QU (K : Frag) : R2 := fun x y H Q => ∃ p xs i v, x = .ref p /\ y = .int i /\ gK K H p xs /\ lK xs i = some v /\ Q v H
noncomputable def SX (K : Frag) : R2 := fun x y H Q => ∃ p xs i v, x = .ref p /\ y = .int i /\ lL K H p xs /\ lK xs i = some v /\ Q v H
noncomputable def U7 : R2 := fun x y H Q => ∃ z i c, x = .str z /\ y = .int i /\ z.length <= sizeLine /\ lK z.cps.toList i = some c /\ Q (.str ⟨#[c]⟩) H
theorem K0 : zN X (QU X.K) := by
 intro value slice pins s σ H x y v u Q I rx ry h hs
 obtain ⟨p, xs, i, z, rfl, rfl, hq, he, q⟩ := h
 cases rx
 obtain ⟨t, rfl⟩ := ry
 obtain ⟨its, r, pl, hz⟩ := I.list hq
 obtain ⟨j, h1, h2, h3, h4, h5⟩ := tK he
 obtain ⟨w, ew, rw'⟩ := r.get h2
 have hl := r.length
 have hn := kP
 have fin : EP X pins σ Q w s := ⟨z, H, I, rw', q⟩
 by_cases h0 : 0 <= i
 ·have hj : i.toNat = j := by
   rw [seqIndex_of h0 h5] at h1
   exact Option.some.inj h1
  exact item_listR pl.isList h0 (by omega) (by rw [hj]; simpa using ew) fin hs
 ·have hj : (i + (its.toArray.size : Int)).toNat = j := by
   rw [seqIndex_neg (by omega) h4] at h1
   rw [size_toArray, <- hl]
   exact Option.some.inj h1
  exact subscriptTail_builtinR (x := w) pl.isList.typeIs slot_list_getitem.lookup
   (wpAny_getItem_list_neg (Q := fun r s' => r = w /\ EP X pins σ Q r s') pl.isList (by omega) (by rw [size_toArray] <;> omega) (by omega) (by rw [hj]; simpa using ew) ⟨rfl, fin⟩) hs
theorem R4 : zN X (SX X.K) := by
 intro value slice pins s σ H x y v u Q I rx ry h hs
 obtain ⟨p, xs, i, z, rfl, rfl, hq, he, q⟩ := h
 cases rx
 obtain ⟨t, rfl⟩ := ry
 obtain ⟨its, r, pl, hz⟩ := I.tuple hq
 obtain ⟨j, h1, h2, h3, h4, h5⟩ := tK he
 obtain ⟨w, ew, rw'⟩ := r.get h2
 have hl := r.length
 have hn := kP
 have fin : EP X pins σ Q w s := ⟨z, H, I, rw', q⟩
 exact subscriptTail_builtinR (x := w) pl.typeIs slot_tuple_getitem.lookup
  (getItem_tuple (j := j) (Q := fun r s' => r = w /\ EP X pins σ Q r s') pl (by omega) (by omega) (by rw [size_toArray, <- hl]; exact h1) (by simpa using ew) ⟨rfl, fin⟩) hs
theorem RP : zN X U7 := by
 intro value slice pins s σ H x y v u Q I rx ry h hs
 obtain ⟨z, i, c, rfl, rfl, hz, he, q⟩ := h
 obtain ⟨t, rfl⟩ := rx
 obtain ⟨t', rfl⟩ := ry
 obtain ⟨j, h1, h2, h3, h4, h5⟩ := tK he
 have hl : z.cps.toList.length = z.length := by simp [Str.length]
 rw [hl] at h1 h4 h5
 have hn := kP
 exact tail_any (typeIs_str s z t) slot_str_getitem.lookup (getItem_str (c := c) (by
  have e1 : decide (i < -(2 ^ 63 : Int)) = false := decide_eq_false (by omega)
  have e2 : decide (i ≥ 2 ^ 63) = false := decide_eq_false (by omega)
  rw [e1, e2, Bool.or_false]) (by rw [h1]; simpa using h2) ⟨.str ⟨#[c]⟩, H, I.tok _, ⟨_, rfl⟩, q⟩) hs
theorem AH (its : List Value) (n j : Nat) (u : Value) : Obj.mapSeq (·.setIfInBounds j u) { cls := .type "list", data := .seq its.toArray n } = { cls := .type "list", data := .seq (its.set j u).toArray n } := by
 simp [Obj.mapSeq]
theorem Inv.lst {p : Addr} (I : Inv X pins σ H s) (h : H p = some (.lst xs)) :
  ∃ (its : List Value) (n : Nat), Vals xs its /\ s.heap.get? p = some { cls := .type "list", data := .seq its.toArray n } /\ xs.length <= sizeLine := by
 obtain ⟨z, its, n, r, e⟩ := I.bN p _ h
 exact ⟨its, n, r, e, z⟩
theorem Inv.QR {p : Addr} {ys : List V} {n' : Nat} {f : Obj -> Obj} (I : Inv X pins σ H s) (h : H p = some (.lst xs))
  (ho : s.heap.get? p = some { cls := .type "list", data := .seq its.toArray n }) (hf : f { cls := .type "list", data := .seq its.toArray n } = { cls := .type "list", data := .seq its'.toArray n' }) (r : Vals ys its') (hz : ys.length <= sizeLine) (t : Nat) :
  Inv X pins σ (upd H p (.lst ys)) { s with heap := s.heap.update p f, toks := t } := by
 have e : (s.heap.update p f).get? p = some { cls := .type "list", data := .seq its'.toArray n' } := by
  rw [get?_update_self f ho (by rw [hf] <;> rfl), hf]
 refine I.write (x := p) (e := p) (by rw [h]; trivial) (.inl rfl) (fun b u hb q => (get?_update_other _ _ (Ne.symm hb)).trans q) ⟨_, e⟩ ?_
 exact ⟨hz, its', n', r, e⟩
noncomputable def N4 : V -> V -> V -> Hp -> (Hp -> Prop) -> Prop := fun o i v H Q => ∃ p xs k j, o = .ref p /\ i = .int k /\ H p = some (.lst xs) /\ qV xs.length k = some j /\ Q (upd H p (.lst (xs.set j v)))
theorem set_list : UW X N4 := by
 intro pins s σ H o i v ov iv u Q I ro ri rv h
 obtain ⟨p, xs, k, j, rfl, rfl, hp, hj, q⟩ := h
 cases ro
 obtain ⟨t, rfl⟩ := ri
 obtain ⟨its, n, r, ho, hz⟩ := I.lst hp
 obtain ⟨h1, h2, h3, h4⟩ := BD hj
 have hl := r.length
 have hn := kP
 have I' : Inv X pins σ (upd H p (.lst (xs.set j v))) { s with heap := s.heap.update p (Obj.mapSeq (·.setIfInBounds j u)) } :=
  I.QR hp ho (AH its n j u) (r.set rv j) (by rw [length_set]; exact hz) s.toks
 by_cases h0 : 0 <= k
 ·have hk : k.toNat = j := by
   rw [seqIndex_of h0 h4] at h1
   exact Option.some.inj h1
  exact PySem.W.ki_setAt ho h0 (by omega) (by rw [size_toArray, <- hl]; exact h4) (by rw [hk]; exact ⟨_, I', q⟩)
 ·have hk : (k + (its.toArray.size : Int)).toNat = j := by
   rw [seqIndex_neg (by omega) h3] at h1
   rw [size_toArray, <- hl]
   exact Option.some.inj h1
  exact PySem.W.ki_setBack ho (by omega) (by rw [size_toArray, <- hl]; exact h3) (by omega) (by rw [hk]; exact ⟨_, I', q⟩)
theorem uU (lo hi : Option Int) (n : Nat) : (sliceBounds lo hi none n).1 = ((HT.dQ n 0 lo : Nat) : Int) /\ (sliceBounds lo hi none n).2.1 = ((HT.dQ n n hi : Nat) : Int) /\ (sliceBounds lo hi none n).2.2 = 1 := by
 refine ⟨?_, ?_, rfl⟩
 ·cases lo with
  | none => simp [sliceBounds, HT.dQ]
  | some i =>
   simp only [sliceBounds, HT.dQ, getD_none, show (1 : Int) > 0 by decide, if_true]
   by_cases h : i < 0
   ·simp only [h, if_true] <;> omega
   ·simp only [h, if_false] <;> omega
 ·cases hi with
  | none => simp [sliceBounds, HT.dQ]
  | some i =>
   simp only [sliceBounds, HT.dQ, getD_none, show (1 : Int) > 0 by decide, if_true]
   by_cases h : i < 0
   ·simp only [h, if_true] <;> omega
   ·simp only [h, if_false] <;> omega
theorem qX (its : List Value) (lo hi : Option Int) : slicePick its.toArray lo hi none = ((its.drop (HT.dQ its.length 0 lo)).take (HT.dQ its.length its.length hi - HT.dQ its.length 0 lo)).toArray := by
 obtain ⟨h1, h2, h3⟩ := uU lo hi its.toArray.size
 unfold slicePick
 rw [h1, h2, h3]
 simp only [sliceRange_one, pick_run, size_toArray] <;> rfl
noncomputable def O7 (K : Frag) : V -> Option Int -> Option Int -> Hp -> VK -> Prop := fun x lo hi H Q => ∃ a xs, x = .ref a /\ gK K H a xs /\ ∀ p, H p = none -> Q (.ref p) (upd H p (.lst (qO xs lo hi)))
theorem MP : CY X (O7 X.K) := by
 intro pins s σ H x v vl vu lo hi sl Q I rx hs pl pu h
 obtain ⟨a, xs, rfl, hx, q⟩ := h
 cases rx
 obtain ⟨its, r, ht, hz⟩ := I.list hx
 have hlen := r.length
 refine ⟨"list", _, slot_list_getitem.lookup, ht.isList.typeIs, ?_⟩
 refine wpAny_getItem_list_slice ht.isList hs pl pu .none (by simp) ?_ (by rw [size_toArray] <;> omega)
 rw [qX, <- hlen]
 refine ⟨.ref s.heap.objs.size, _, I.laid (t' := s.toks) (o := .lst (qO xs lo hi)) (fun b ob q => get?_push_of_some _ q) (le_refl _) ?_, rfl, q _ (I.bN.fresh (le_refl _))⟩
 exact ⟨le_trans (n6 xs lo hi) hz, _, 0, (r.drop (HT.dQ xs.length 0 lo)).take (HT.dQ xs.length xs.length hi - HT.dQ xs.length 0 lo), get?_push_size _ rfl⟩
theorem vB : b8 X (.builtin "len") (fun xs H Q => ∃ p ys, xs = [.ref p] /\ (gK X.K H p ys \/ lL X.K H p ys) /\ Q (.int ys.length) H) := by
 intro pins s σ H xs us Q I r h
 obtain ⟨p, ys, rfl, hq, q⟩ := h
 obtain ⟨u, rfl, rx⟩ := vals1 r
 cases rx
 have hn := kP
 rcases hq with hq | hq
 ·obtain ⟨its, r', pl, hz⟩ := I.list hq
  have hlen := r'.length
  exact Calls.call_len_list pl.isList (by simp only [size_toArray] <;> omega) ⟨.int ys.length, H, I.tok _, ⟨s.toks + 1, by rw [size_toArray, hlen]⟩, q⟩
 ·obtain ⟨its, r', pl, hz⟩ := I.tuple hq
  have hlen := r'.length
  exact len_tuple pl (by simp only [size_toArray] <;> omega) ⟨.int ys.length, H, I.tok _, ⟨s.toks + 1, by rw [size_toArray, hlen]⟩, q⟩
theorem u9 : b8 X (.builtin "len") (fun xs H Q => ∃ z, xs = [.str z] /\ z.length <= sizeLine /\ Q (.int z.length) H) := by
 intro pins s σ H xs us Q I r h
 obtain ⟨z, rfl, hz, q⟩ := h
 obtain ⟨u, rfl, t, rfl⟩ := vals1 r
 have hn := kP
 exact len_str (by omega) ⟨.int z.length, H, I.tok _, ⟨_, rfl⟩, q⟩
theorem b8.or {f : Value} {r r' : List V -> Hp -> VK -> Prop} (h : b8 X f r) (h' : b8 X f r') : b8 X f (fun xs H Q => r xs H Q \/ r' xs H Q) := by
 intro pins s σ H xs us Q I rs q
 rcases q with q | q
 ·exact h pins s σ H xs us Q I rs q
 ·exact h' pins s σ H xs us Q I rs q
theorem rQ : b8 X (.type "tuple") (fun xs H Q => ∃ p ys, xs = [.ref p] /\ ((gK X.K H p ys /\ ∀ l, H l = none -> Q (.ref l) (upd H l (.tup ys))) \/ (lL X.K H p ys /\ Q (.ref p) H))) := by
 intro pins s σ H xs us Q I r h
 obtain ⟨p, ys, rfl, h⟩ := h
 obtain ⟨u, rfl, rx⟩ := vals1 r
 cases rx
 rcases h with ⟨hq, q⟩ | ⟨hq, q⟩
 ·obtain ⟨its, r', pl, hz⟩ := I.list hq
  have hlen := r'.length
  refine call_tuple_list pl.isList (fun h' kp => ?_) (by simp only [size_toArray] <;> omega)
  have I1 : Inv X pins σ H { s with heap := h' } := I.kept (t' := s.toks) kp
  have I2 : Inv X pins σ (upd H h'.objs.size (.tup ys)) { s with heap := h'.push { cls := .type "tuple", data := .seq its.toArray } } :=
   I1.laid (t' := s.toks) (fun b o e => get?_push_of_some _ e) (le_refl _) (show c9 X.prog X.w _ _ _ (.tup ys) from ⟨hz, its, r', mY.new _ _⟩)
  exact ⟨.ref h'.objs.size, _, I2, rfl, q _ (I1.bN.fresh (le_refl _))⟩
 ·obtain ⟨its, r', pl, hz⟩ := I.tuple hq
  exact call_tuple_same pl ⟨.ref p, H, I, rfl, q⟩
noncomputable def WB (K : Frag) (T : String) (x : V) (H : Hp) : Prop := match x with
 | .str _ => T = "str"
 | .int _ => T = "int"
 | .ref p => (T = "list" /\ ∃ xs, gK K H p xs) \/ (T = "tuple" /\ ∃ o, K.lookup p = some o /\ o.cls = .type "tuple" /\ o.dict = none) \/
   (T = "dict" /\ ((∃ kvs ep, H p = some (.dK kvs ep)) \/ ∃ kvs, H p = some (.dT kvs))) \/ (T = "set" /\ ∃ S n, H p = some (.set S n))
 | _ => False
theorem R6 {T : String} {x : V} {v : Value} (I : Inv X pins σ H s) (r : RelV x v) (ty : WB X.K T x H) :
  s.TypeIs v T /\ ∀ a, v = .ref a -> ∃ ob, s.heap.get? a = some ob /\ ob.dict = none := by
 cases x with
 | str z =>
  obtain ⟨t, rfl⟩ := r
  cases (show T = "str" from ty)
  exact ⟨typeIs_str s z t, fun _ e => nomatch e⟩
 | int i =>
  obtain ⟨t, rfl⟩ := r
  cases (show T = "int" from ty)
  exact ⟨typeIs_int s i t, fun _ e => nomatch e⟩
 | ref p =>
  cases r
  rcases ty with ⟨rfl, xs, hq⟩ | ⟨rfl, o, hk, hc, hd⟩ | ⟨rfl, hk⟩ | ⟨rfl, S, n, hk⟩
  ·obtain ⟨its, _, pl, _⟩ := I.list hq
   refine ⟨pl.isList.typeIs, fun a e => ?_⟩
   cases e
   obtain ⟨o, n, e, c, hd, _⟩ := pl
   exact ⟨o, e, hd⟩
  ·refine ⟨⟨o, I.A7 p o hk, hc⟩, fun a e => ?_⟩
   cases e
   exact ⟨o, I.A7 _ o hk, hd⟩
  ·have z : ∃ o, s.heap.get? p = some o /\ o.ExactDict := by
    rcases hk with ⟨kvs, ep, hk⟩ | ⟨kvs, hk⟩
    ·obtain ⟨_, _, _, _, o, _, e, ex, _⟩ := I.bN p _ hk
     exact ⟨o, e, ex⟩
    ·obtain ⟨_, _, _, _, o, _, _, e, ex, _⟩ := I.bN p _ hk
     exact ⟨o, e, ex⟩
   obtain ⟨o, e, ex⟩ := z
   refine ⟨⟨o, e, ex.1⟩, fun a e2 => ?_⟩
   cases e2
   exact ⟨o, e, ex.2.1⟩
  ·obtain ⟨o, _, _, _, e, ex, _⟩ := I.bN p _ hk
   refine ⟨⟨o, e, ex.1⟩, fun a e2 => ?_⟩
   cases e2
   exact ⟨o, e, ex.2.1⟩
 | _ => exact False.elim ty
noncomputable def S4 (K : Frag) (T : String) (r : V -> List V -> Hp -> VK -> Prop) (to : TE) (t : TA) : TE := fun σ H Q => to σ H fun x H1 => WB K T x H1 /\ t σ H1 fun xs H2 => r x xs H2 Q
variable {o e : Expr} {es : List Expr} {to : TE} {t : TA} {name : Str} {apos cpos : Pos} {T id : String} {r : V -> List V -> Hp -> VK -> Prop}
theorem UL (pa : PlainAttrs T) (slot : Slot T name id) (hty : typeOf (.builtin id) = pure (.type "method_descriptor")) (hm : T1 X id r) (ho : PE X o to) (ha : PA X (e :: es) t)
  (hbase : attributeBase o name X.env (eval o X.env) = eval o X.env := by rfl)
  (hfew : ((backTo cpos (starEach (e :: es) X.env)).all (fun x => !x.1) && (backToKw cpos (keywordEach [] X.env)).all (fun x => x.1.isSome)
   && decide ((e :: es).length + ([] : List Keyword).length + (if ([] : List Keyword).isEmpty then 0 else 1) < 30)) = true := by rfl)
  (hline : (apos.endLine == cpos.line) = true := by rfl) (hs : starEach (e :: es) X.env = (false, eval e X.env) :: starEach es X.env := by rfl) (hplain : (backTo cpos (starEach es X.env)).any (·.1) = false := by rfl) :
  PE X (.Call (.Attribute o name apos) (e :: es) [] cpos) (S4 X.K T r to t) := by
 intro pins s σ H Q I h
 refine wpAny_Call_method_late hbase hfew hline rfl (cJ (ho pins s σ H _ I h) fun v s1 ⟨x, H1, I1, r1, ty, q1⟩ => ?_)
 obtain ⟨h1, h2⟩ := R6 I1 r1 ty
 refine ⟨T, id, pa, slot, hty, h1, h2, ?_⟩
 have hA := ha cpos pins s1 σ H1 _ I1 q1
 rw [hs] at hA ⊢
 refine Calls.callWith_builtin (by show (false || (backTo cpos (starEach es X.env)).any (·.1)) = false; rw [hplain] <;> rfl) (Calls.evalArgs_plain ?_)
 exact cJ hA fun us s2 ⟨vs, H2, I2, r2, q2⟩ => hm pins s2 σ H2 x vs v us Q I2 r1 r2 q2
end
noncomputable def YA (X : Cx) (id : String) (r : V -> List V -> Hp -> VK -> Prop) : Prop :=
 ∀ (pins : List (Addr × Obj)) (s : Shared) (σ : St) (H : Hp) (x : V) (xs : List V) (v : Value) (us : List Value) (Q : VK), Inv X pins σ H s -> RelV x v -> Vals xs us -> r x xs H Q ->
  wpAny (model X.prog X.w) X.A (call (.builtin id) (v :: us)) (EP X pins σ Q) X.xe s
theorem Vals.one : ∀ {x : V} {us : List Value}, Vals [x] us -> ∃ u, us = [u] /\ RelV x u
 | _, _, .cons r .nil => ⟨_, rfl, r⟩
section
variable {X : Cx} {pins : List (Addr × Obj)} {σ : St} {H : Hp} {s : Shared} {l b : Addr} {xs ys zs : List V}
theorem Inv.V3 {f : Array Value -> Array Value} {t' : Nat} (I : Inv X pins σ H s) (hH : H l = some (.lst xs))
  (e : s.heap.get? l = some { cls := .type "list", data := .seq its.toArray n }) (hf : f its.toArray = its'.toArray) (hv : Vals ys its') (hz : ys.length <= sizeLine) :
  Inv X pins σ (upd H l (.lst ys)) { s with heap := s.heap.update l (Obj.mapSeq f), toks := t' } := by
 have q := PySem.IsL.update e f
 rw [hf] at q
 refine I.write (x := l) (e := l) (by rw [hH]; exact trivial) (.inl rfl) (fun b' u hb hu => (get?_update_other s.heap (Obj.mapSeq f) (Ne.symm hb)).trans hu) ⟨_, q⟩ ?_
 exact ⟨hz, its', _, hv, q⟩
theorem Inv.XE (I : Inv X pins σ H s) (hH : H l = some (.lst xs)) : xs.length <= sizeLine /\ ∃ (its : List Value) (n : Nat), Vals xs its /\ xs.length = its.length /\ s.heap.get? l = some { cls := .type "list", data := .seq its.toArray n } := by
 obtain ⟨z, its, n, r, e⟩ := I.bN l _ hH
 exact ⟨z, its, n, r, r.length, e⟩
end
section
variable {X : Cx}
noncomputable def o9 : V -> List V -> Hp -> VK -> Prop := fun x vs H Q => ∃ l xs y, x = .ref l /\ vs = [y] /\ H l = some (.lst xs) /\ xs.length < sizeLine /\ Q .bF (upd H l (.lst (xs ++ [y])))
theorem eR : YA X "list.append" o9 := by
 intro pins s σ H x vs v us Q I rx rv h
 obtain ⟨l, xs, y, rfl, rfl, hH, hz, q⟩ := h
 cases rx
 obtain ⟨u, rfl, ru⟩ := rv.one
 obtain ⟨z, its, n, r, hl, e⟩ := I.XE hH
 refine call_meets F.slot_list_append ⟨_, e, rfl⟩ F.entry_list_append (F.args_list_append_2 _ _) (PySem.list_append l its.toArray n u (by rw [size_toArray]; omega)) ⟨e, ?_⟩
 refine ⟨.bF, _, I.V3 (its' := its ++ [u]) hH e (by simp) (r.append (.cons ru .nil)) ?_, rfl, q⟩
 rw [length_append, List.length_singleton]
 omega
end
end L2
namespace X2
open PySem PySem.W PySem.Calls PyProof.Rows
variable {h : Heap} {n : Nat} {l : OpenLaw} {P : Params}
theorem oS : ∀ (ns : List Int) (vs : List Value), WellAll P h vs (ns.map WData.int) -> IntsAre vs ns := by
 intro ns
 induction ns with
 | nil =>
  intro vs w
  rw [map_nil] at w
  cases w
  exact .nil
 | cons n ns ih =>
  intro vs w
  rw [map_cons] at w
  cases w with
  | cons a b =>
   cases a
   exact .cons _ _ (ih _ b)
theorem D3 (hn : l.most = some n) {args : List WData} {vals : List Value}
  (hpre : l.row.toRowW.claim.pre args = true) (hwl : WellAll P h vals args) :
  ∃ a vs ns, vals = [Value.ref a] /\ args = [WData.list (ns.map WData.int)] /\ h.get? a = some { cls := .type "list", data := .seq vs.toArray } /\ IntsAre vs ns /\ ns.length <= n := by
 have hsh : WShape.hasAll [] args [.list .int] = true := (pre_splitW hpre).1
 have hc : l.pre.holds [] { args := args } = true := (pre_splitW hpre).2
 obtain ⟨d, r, rfl, h1, h2⟩ := hasAllW_cons hsh
 obtain rfl := hasAllW_nil h2
 obtain ⟨xs, rfl, h3⟩ := hasW_list h1
 obtain ⟨ns, rfl⟩ := items_int h3
 have hlen : ns.length <= n := by
  unfold OpenLaw.pre at hc
  have h4 : (WTm.not (.lt (.lit (.int (n : Int))) (.len (.arg 0)))).holds [] { args := [.list (ns.map .int)] } = true := by
   have h4 := (holds_andW hc).1
   rw [hn] at h4
   exact h4
  have h5 := condW_of h4 (w_not (w_lt w_lit (w_len_list (w_arg rfl))))
  rw [length_map] at h5
  refine Nat.le_of_not_lt fun q => ?_
  have q' : (n : Int) < ((ns.length : Nat) : Int) := by omega
  first
   | (rw [decide_eq_true q'] at h5; exact absurd h5 (by decide))
   | (simp at h5; omega)
 cases hwl with
 | cons w1 w2 =>
  cases w2
  cases w1 with
  | list ho hall => exact ⟨_, _, ns, rfl, rfl, ho, oS ns _ hall, hlen⟩
theorem D4 (l : OpenLaw) (args : List WData) : l.row.toRowW.claim.post args (.bool true) args = true :=
 postW_of (r := l.row.toRowW) (X := (true == true))
  (show WShape.has [] (.bool true) .bool = true by first | rfl | decide | simp [WShape.has, WShape.arms, WShape.armsAll])
  (show (WTm.eq .res (.lit (.bool true))).value [] { args := args, res := some (.bool true), after := args } = some (.bool (true == true)) from w_eq_bool (w_res rfl) w_lit) rfl
theorem xJ {q : Program} {loose : List Str} {XP : (Str -> Option Value) -> Heap -> Prop} {YP : World -> Heap -> Prop} {d : DefRec}
  (hn : l.most = some n) (hdf : d.params.defaults = [])
  (call : ∀ (w : World) (gA s₁ : Shared) (mg mb : Str -> Option Value) (fa : Addr) (o : Obj) (pm cd doc : Value) (a : Addr) (vs : List Value) (ns : List Int),
   Ground q loose [] XP w gA mg mb s₁.heap -> YP w s₁.heap ->
   s₁.heap.get? fa = some o -> o.data = .func (docDef d.name d.params d.body d.scope pm cd doc) -> s₁.heap.CodeRec cd d.name -> mg d.name = some (.ref fa) ->
   s₁.heap.get? a = some { cls := .type "list", data := .seq vs.toArray } -> IntsAre vs ns -> ns.length <= n -> s₁.gens = #[] ->
   codeAny (model l.prog w) callerA (.call (.ref fa) ⟨[.ref a], []⟩) (fun r s' => r = .ok (.ret (.bool true)) /\ OldK s₁.heap s'.heap /\ s'.os = s₁.os /\ AllBare s'.gens) s₁) :
  WalkO q loose XP YP l.row.toRowW d [] (fun f vs => PySem.call f vs) := by
 intro w gA s₁ mg mb G Y fa o pm cd doc dV kV ho hd hcd hD hmg hg args vals as hpre hlay hrd hwl hlo
 obtain rfl : dV = .none := Dflts.none hD hdf
 obtain rfl : kV = .none := Dflts.noKw hD
 obtain ⟨a, vs, ns, rfl, rfl, hobj, hints, hlen⟩ := D3 hn hpre hwl
 refine enter_call (codeAny_mono (call w gA s₁ mg mb fa o pm cd doc a vs ns G Y ho (fd_plain hd) hcd hmg hobj hints hlen hg) fun r s' hq => ?_)
 obtain ⟨rfl, h2, h3, h4⟩ := hq
 exact ⟨.inl ⟨.bool true, .bool true, [], rfl, fun _ => rfl, .bool true, D4 l _, fun _ => ⟨List.Pairwise.nil, fun _ hm => (nomatch hm)⟩⟩, h2, h3, h4⟩
end X2
namespace L2
open PySem PySem.Spec PyProof.Rows
variable {f : Addr} {fd : FuncData} {ps : List Str} {k : Nat} {sp : Sp} {qual x : Str}
theorem tI : ∀ {vs : List Value} {ns : List Int}, IntsAre vs ns -> Vals (ns.map V.int) vs
 | _, _, .nil => .nil
 | _, _, .cons n t h => .cons ⟨t, rfl⟩ (tI h)
noncomputable def P8 (H : Hp) : Prop := ∀ b, H b = none \/ ∃ o xs, H b = some (.J2 o (.lst xs))
theorem IF {P : Program} {w : World} {K : Frag} {mg mb : Str -> Option Value} {CX : EN} {fa a : Addr} {s₁ : Shared} {vs : List Value} {ns : List Int}
  (KX : K.In s₁.heap) (hns : s₁.heap.Ns mainGlobals mg) (hb : s₁.heap.Ns builtinsNs mb) (hbb : ∀ x : Str, x ≠ "__name__" -> mb x = bootBuiltins x) (hlim : s₁.heap.NoLimit) (hg : s₁.gens = #[])
  (ha : s₁.heap.get? a = some { cls := .type "list", data := .seq vs.toArray }) (hi : IntsAre vs ns) (hl : ns.length <= sizeLine) (hr : dD k callerA)
  (F : ∀ base : Heap, K.In base -> base.Ns mainGlobals mg -> lU P w K mg base CX k fa fd [x] sp) (hbind : ∀ (s : Shared) (u : Value), BindsTo s fd ⟨[u], []⟩ [(x, u)])
  (hsp : ∀ H : Hp, P8 H -> gK K H a (ns.map V.int) -> sp [.ref a] H (fun v _ => v = .bl true) fun _ _ _ => False)
  (hCX : ∀ H e s', CX [] H s₁ (fun _ _ _ => False) e s' -> False) :
  codeAny (model P w) callerA (.call (.ref fa) ⟨[.ref a], []⟩) (fun r s' => r = .ok (.ret (.bool true)) /\ OldK s₁.heap s'.heap /\ s'.os = s₁.os /\ AllBare s'.gens) s₁ := by
 have rv := tI hi
 have lenV := hi.length
 have core : ∀ H : Hp, P8 H -> gK K H a (ns.map V.int) -> kC P w H s₁.heap -> (∀ b, H b ≠ none -> b = a) -> (H a ≠ none -> K.lookup a = none) ->
   codeAny (model P w) callerA (.call (.ref fa) ⟨[.ref a], []⟩) (fun r s' => r = .ok (.ret (.bool true)) /\ OldK s₁.heap s'.heap /\ s'.os = s₁.os /\ AllBare s'.gens) s₁ := by
  intro H hO hS bN hA hK
  have base_of : ∀ {b : Addr} {o : Obj}, s₁.heap.get? b = some o -> H b = none -> (uR s₁.heap H).get? b = some o := fun e n => HE e n
  have cK : ∀ {b : Addr} {o : Obj} {es : Array DictEntry} {ep : Nat}, s₁.heap.get? b = some o -> o.data = .dict es ep -> H b = none := fun {b o es ep} e d => by
   cases q : H b with
   | none => rfl
   | some u =>
    have e' : b = a := hA b (by rw [q]; simp)
    subst e'
    rw [ha] at e; cases e
    have d' : Data.seq vs.toArray _ = Data.dict es ep := d
    cases d'
  have nsK : ∀ {b : Addr} {m : Str -> Option Value}, s₁.heap.Ns b m -> (uR s₁.heap H).Ns b m := fun {b m} ⟨o, es, ep, e, d, r⟩ => ⟨o, es, ep, base_of e (cK e d), d, r⟩
  have hKb : K.In (uR s₁.heap H) := fun b o e => base_of (KX b o e) (by
   cases q : H b with
   | none => rfl
   | some u =>
    have e' : b = a := hA b (by rw [q]; simp)
    subst e'
    rw [hK (by rw [q]; simp)] at e; cases e)
  have hM : Mod K mg (uR s₁.heap H) := ⟨hKb, nsK hns, ⟨mb, nsK hb, hbb⟩, let ⟨mc, h1, h2⟩ := hlim; ⟨mc, nsK h1, h2⟩⟩
  have e0 : K5 P w K mg (uR s₁.heap H) callerA [] s₁ H := ⟨rfl, hM, fun b o e => NC e, Nat.le_of_eq (DH _ _), trivial, fun b hb => absurd (show b ∈ ([] : List Addr) from hb) (by simp), bN, .of_eq hg⟩
  refine codeAny_mono ((F _ hKb (nsK hns)).run callerA [] s₁ H ⟨[.ref a], []⟩ [.ref a] [.ref a] _ _ hr e0 (hbind s₁ (.ref a)) (.cons rfl .nil) (hsp H hO hS)) fun r s' h => ?_
  cases r with
  | error e => exact (hCX H e s' h).elim
  | ok fl =>
   cases fl with
   | next => exact False.elim h
   | brk => exact False.elim h
   | cont => exact False.elim h
   | ret u =>
    obtain ⟨v, H', os, bare, un, hok', r', q⟩ := h
    have q' : v = .bl true := q
    subst q'
    obtain rfl : u = Value.bool true := r'
    refine ⟨rfl, OldK.of_keep fun b o e => ?_, os, bare⟩
    cases q : H b with
    | none => exact un.keep b o e q (by intro z; exact absurd (show b ∈ ([] : List Addr) from z) (by simp)) (by simp)
    | some u =>
     rcases hO b with z | ⟨ob, xs, z⟩
     ·rw [q] at z; cases z
     ·have z2 := un.pT b ob _ z
      obtain ⟨e1, _⟩ := bN b _ z
      obtain ⟨e2, _⟩ := hok' b _ z2
      rw [e] at e1; cases e1
      exact e2
 cases hk : K.lookup a with
 | some o =>
  have e := KX a o hk
  rw [ha] at e
  cases e
  refine core (fun _ => none) (fun _ => .inl rfl) (.inr ⟨_, vs.toArray, _, hk, rfl, rfl, rfl, by rw [size_toArray, lenV]; exact hl, by simpa using rv⟩) (fun b u z => by have z' : (none : Option HO) = some u := z; cases z') (fun b z => absurd rfl z) fun z => absurd rfl z
 | none =>
  refine core (fun b => if b = a then some (.J2 { cls := .type "list", data := .seq vs.toArray } (.lst (ns.map V.int))) else none) (fun b => ?_) (.inl (.inr ⟨{ cls := .type "list", data := .seq vs.toArray }, if_pos rfl⟩)) (fun b u z => ?_) (fun b z => ?_) fun _ => hk
  ·by_cases hb : b = a
   ·exact .inr ⟨_, _, if_pos hb⟩
   ·exact .inl (if_neg hb)
  ·by_cases hb : b = a
   ·have z' := (if_pos hb).symm.trans z
    cases z'
    subst hb
    exact ⟨ha, by rw [length_map]; exact hl, vs, _, rv, ha⟩
   ·have z' := (if_neg hb).symm.trans z
    cases z'
  ·by_cases hb : b = a
   ·exact hb
   ·exact absurd (if_neg hb) z
theorem NW {l : PySem.W.OpenLaw} {n : Nat} {q : Program} {loose : List Str} {XP : (Str -> Option Value) -> Heap -> Prop} {YP : World -> Heap -> Prop} {d : DefRec} {K : Params -> Frag} {CX : World -> EN} {sp : World -> Sp}
  (hn : l.most = some n) (hn2 : n <= sizeLine) (hdf : d.params.defaults = []) (hr : dD k callerA)
  (hY : ∀ (w : World) (h : Heap), YP w h -> (K w.params).In h)
  (F : ∀ (w : World) (mg : Str -> Option Value) (fa : Addr) (h : Heap), (K w.params).In h -> h.Ns mainGlobals mg -> mg d.name = some (.ref fa) ->
   ∃ fd : FuncData, (∀ (s : Shared) (u : Value), BindsTo s fd ⟨[u], []⟩ [(x, u)]) /\
    ∀ base : Heap, (K w.params).In base -> base.Ns mainGlobals mg -> lU l.prog w (K w.params) mg base (CX w) k fa fd [x] (sp w))
  (hsp : ∀ (w : World) (H : Hp) (a : Addr) (ns : List Int), ns.length <= n -> P8 H -> gK (K w.params) H a (ns.map V.int) -> sp w [.ref a] H (fun v _ => v = .bl true) fun _ _ _ => False)
  (hCX : ∀ (w : World) (H : Hp) (s : Shared) (e : Value) (s' : Shared), CX w [] H s (fun _ _ _ => False) e s' -> False) :
  PySem.W.WalkO q loose XP YP l.row.toRowW d [] (fun f vs => PySem.call f vs) := by
 refine X2.xJ hn hdf fun w gA s₁ mg mb fa o pm cd doc a vs ns G Y ho hd hcd hmg hobj hints hlen hg => ?_
 have KX := hY w _ Y
 obtain ⟨fd, hb, hF⟩ := F w mg fa _ KX G.T.g hmg
 exact IF KX G.T.g G.T.b G.T.builtins G.T.nolimit hg hobj hints (le_trans hlen hn2) hr hF hb (fun H hO hS => hsp w H a ns hlen hO hS) fun H e s' => hCX w H s₁ e s'
noncomputable def fD (s : Stmt) : Arguments := match s with
 | .FunctionDef _ a _ _ _ _ _ _ _ _ => a
 | _ => { posonlyargs := [], args := [], vararg := none, kwonlyargs := [], kw_defaults := [], kwarg := none, defaults := [] }
noncomputable def eA (s : Stmt) : List Stmt := match s with
 | .FunctionDef _ _ b _ _ _ _ _ _ _ => b
 | _ => []
noncomputable def aW (s : Stmt) : Scope := match s with
 | .FunctionDef _ _ _ _ _ _ sc _ _ _ => sc
 | _ => { kind := .function, names := [], isGenerator := false, isCoroutine := false }
noncomputable abbrev J3 : EN := fun _ _ _ _ _ _ => False
noncomputable abbrev E0 : XK := fun _ _ _ => False
theorem T8 {X : Cx} : Passes J3 X E0 := fun _ _ _ _ _ _ _ h => h.elim
structure O4 (K : Frag) (x qual : Str) (st : Stmt) (f : Addr) (fd : FuncData) : Prop where
 ex : ∃ (oc : Value) (od : Option Addr) (kV doc pm : Value) (an : Option Addr) (cdv ct : Value) (osl : Array (Option Value)),
  fd = fnOf x qual (fD st) (eA st) (aW st) .none kV doc pm an cdv ct /\ K.lookup f = some ⟨oc, od, .func fd, osl⟩ /\ codeIn K cdv qual = true
 kp : keepIn K (.ref f) = true
section
variable {P : Program} {w : World} {K : Frag} {mg : Str -> Option Value} {base : Heap}
theorem O4.ok {st : Stmt} {N : List Str} (F : O4 K x qual st f fd) (S : l0 N ps (aW st)) (len : ∀ vs H Q E, sp vs H Q E -> vs.length = ps.length)
  (hbody : ∀ (cdv : Value) (A : Around) (outer : List Env) (s : Shared) (H : Hp) (vs : List V) (Q : VK) (E : XK), dD k (A.deeper (envOfC qual (aW st) s.heap.objs.size f cdv)) -> sp vs H Q E ->
   ∃ t, D0 (yL J3 P w K mg base N qual (aW st) f cdv A outer s H E).TM (eA st) t /\ t { nx := fun _ H' => Q .bF H', rt := Q } (start N vs) H) : lU P w K mg base J3 (k + 1) f fd ps sp := by
 obtain ⟨oc, od, kV, doc, pm, an, cdv, ct, osl, rfl, lk, hcd⟩ := F.ex
 refine UK lk hcd S len fun A outer s H vs Q E hr hsp => ?_
 obtain ⟨t, h, q⟩ := hbody cdv A outer s H vs Q E hr hsp
 exact ⟨t, h.TM, q⟩
theorem O4.binds {st : Stmt} (F : O4 K x qual st f fd)
  (h : ∀ (kV doc pm : Value) (an : Option Addr) (cdv ct : Value) (us : List Value), us.length = ps.length -> bindArgs (fnOf x qual (fD st) (eA st) (aW st) .none kV doc pm an cdv ct) ⟨us, []⟩ = pure (ps.zip us)) : Binds K fd ps [] := by
 obtain ⟨oc, od, kV, doc, pm, an, cdv, ct, osl, rfl, lk, hcd⟩ := F.ex
 exact .all (h kV doc pm an cdv ct)
theorem RE {st : Stmt} {oc : Value} {od an : Option Addr} {osl : Array (Option Value)} {kV doc pm cdv ct : Value} (l : K.lookup f = some ⟨oc, od, .func (fnOf x qual (fD st) (eA st) (aW st) .none kV doc pm an cdv ct), osl⟩)
  (c : codeIn K cdv qual = true) (k : keepIn K (.ref f) = true) : O4 K x qual st f (fnOf x qual (fD st) (eA st) (aW st) .none kV doc pm an cdv ct) := ⟨⟨oc, od, kV, doc, pm, an, cdv, ct, osl, rfl, l, c⟩, k⟩
end
theorem BJ {A : Around} (hr : dD k A) : A.units + 1 < cLine := Nat.lt_of_le_of_lt (Nat.add_le_add_left (by decide : 1 <= 64) _) hr.units
section
variable {X : Cx}
theorem pv (i : Nat) {pos : Pos} (hN : X.N[i]? = some x := by rfl) (hv : XI X.env.scope x := by first | exact Or.inl rfl | exact Or.inr (Or.inl rfl) | exact Or.inr (Or.inr rfl)) (hd : (x == ("__debug__" : Str)) = false := by decide)
  (hcd : (x == ("__classdict__" : Str)) = false := by decide) : PE X (.Name x pos) (vI i) := RQ hN hv hd hcd
end
noncomputable def aT (H H' : Hp) : Prop := ∀ b o, H b = some o -> H' b = some o
theorem aT.refl (H : Hp) : aT H H := fun _ _ h => h
end L2
set_option maxHeartbeats 4000000
namespace L2
open PySem PySem.Spec PyProof.Rows
variable {C : Addr} {X : Cx} {env : Env} {tg : Expr} {H H2 : Hp} {pins : List (Addr × Obj)} {cl : List (Str × Addr)} {fp : List Addr} {P : Program} {K : Frag} {scope : Scope} {s2 : Shared} {σ : St} {w : World}
theorem lA : ∀ (names : List (Str × NameKind)) (acc : List (Str × Addr)), (∀ p ∈ names, p.2 = .free -> ∃ c, env.cells.lookup p.1 = some c) ->
  (∀ y c, acc.lookup y = some c -> env.cells.lookup y = some c) ->
  ∃ cl, (forIn names acc (fun (p : Str × NameKind) (cs : List (Str × Addr)) => if (p.2 == NameKind.free) = true then (do let a <- cellOf env p.1; pure (ForInStep.yield ((p.1, a) :: cs))) else (pure (ForInStep.yield cs) : Sem _)) : Sem _) = pure cl /\
   (∀ y c, cl.lookup y = some c -> env.cells.lookup y = some c) /\ (∀ y, (acc.lookup y).isSome = true -> (cl.lookup y).isSome = true) /\ ∀ y, (y, NameKind.free) ∈ names -> (cl.lookup y).isSome = true
 | [], acc, _, h => ⟨acc, rfl, h, fun _ z => z, fun _ z => nomatch z⟩
 | (n, k) :: r, acc, hf, h => by
  by_cases hk : k = .free
  ·subst hk
   obtain ⟨c, hc⟩ := hf (n, .free) mem_cons_self rfl
   obtain ⟨cl, e, h1, h2, h3⟩ := lA r ((n, c) :: acc) (fun p hp => hf p (mem_cons_of_mem _ hp)) (fun y d hd => by
    rw [lookup_cons] at hd
    cases q : y == n with
    | true => rw [q] at hd; cases hd; rw [eq_of_beq q]; exact hc
    | false => rw [q] at hd; exact h y d hd)
   refine ⟨cl, ?_, h1, fun y hy => h2 y ?_, fun y hy => ?_⟩
   ·rw [List.forIn_cons]
    have e0 : cellOf env n = pure c := by unfold cellOf; rw [hc]
    simp only [beq_self_eq_true, if_true, e0, pure_bind]
    exact e
   ·rw [lookup_cons]
    cases q : y == n with
    | true => rfl
    | false => exact hy
   ·rcases mem_cons.mp hy with q | q
    ·cases q
     refine h2 n ?_
     rw [lookup_cons, beq_self_eq_true]
     rfl
    ·exact h3 y q
  ·obtain ⟨cl, e, h1, h2, h3⟩ := lA r acc (fun p hp => hf p (mem_cons_of_mem _ hp)) h
   refine ⟨cl, ?_, h1, h2, fun y hy => ?_⟩
   ·rw [List.forIn_cons]
    have e0 : (k == NameKind.free) = false := by simpa using hk
    simp only [e0, false_eq_true, if_false, pure_bind]
    exact e
   ·rcases mem_cons.mp hy with q | q
    ·cases q; exact absurd rfl hk
    ·exact h3 y q
theorem hB {env : Env} {scope : Scope} (hf : ∀ p ∈ scope.names, p.2 = .free -> ∃ c, env.cells.lookup p.1 = some c) :
  ∃ cl, closureFor scope env = pure cl /\ (∀ y c, cl.lookup y = some c -> env.cells.lookup y = some c) /\ ∀ y, (y, NameKind.free) ∈ scope.names -> (cl.lookup y).isSome = true := by
 obtain ⟨cl, e, h1, _, h3⟩ := lA (env := env) scope.names [] hf (fun y c h => by simp at h)
 refine ⟨cl, ?_, h1, h3⟩
 unfold closureFor
 have e' := congrArg (fun m : Sem (List (Str × Addr)) => m >>= fun cs => pure cs) e
 simp only [pure_bind] at e'
 rw [<- e']
structure S2 where
 cl : List (Str × Addr)
 C : Addr
 s : Shared
 H : Hp
 ex : List Addr
noncomputable def aY (X : Cx) (scope : Scope) (N : List Str) (c : S2) : Cx :=
 { X with N := N, gA := c.s, FW := c.H, env := compEnvC scope c.cl c.C X.env, outer := X.stack, stack := X.stack, ex := c.ex, fn := fun _ => false, pn := [], xe := fun _ _ => False }
noncomputable def dX (k : Nat) (bV : List Nat) (σ : St) : St := List.replicate k none ++ bV.map fun i => (σ[i]?).getD none
noncomputable def OJ : TT := fun _ H Q => Q true H
section
variable {prog : Program} {w : World} {A : Around} {R : Result -> Shared -> Prop} {s : Shared}
theorem tH {elt target iter : Expr} {ifs : List Expr} {pos : Pos} {it acc : Value} (I : Nat -> Shared -> Prop)
  (turn : ∀ n s, I n s -> wpAny (model prog w) A (pyNext it) (fun r s₁ => match r with
   | none => R (.ok .next) s₁
   | some v => wpAny (model prog w) A (letOwnedTupleGo target it v) (fun _ s₁' => wpAny (model prog w) A (assign target env v) (fun _ s₂ =>
     wpAny (model prog w) A (forIn ifs true fun c r => if r = true then do let ok <- isTrue c env (eval c env); pure (ForInStep.yield ok) else pure (ForInStep.yield r)) (fun ok s₃ =>
      if ok = true then wpAny (model prog w) A (eval elt env) (fun x s₄ =>
       wpAny (model prog w) A (call (.builtin "list.append") [acc, x]) (fun _ s₅ => ∃ m, m < n /\ I m s₅) (fun _ _ => False) s₄) (fun _ _ => False) s₃
      else ∃ m, m < n /\ I m s₃) (fun _ _ => False) s₂) (fun _ _ => False) s₁') (fun _ _ => False) s₁) (fun _ _ => False) s)
  (n : Nat) (h : I n s) :
  codeAny (model prog w) A (.compLoop (.ListComp elt [⟨target, iter, ifs, 0⟩] scope pos) 0 it acc env) R s := by
 refine codeAny_loop rfl I (fun n s hI => ?_) n h
 show wpAny _ A ((compTurn (.ListComp elt [⟨target, iter, ifs, 0⟩] scope pos) 0 it acc env).onRaise (fun x => do noteFrame x env; theTreesLotGoes x)) _ _ s
 refine wpAny_noted ?_
 refine wpAny_mono (E := fun _ _ => False) ?_ (fun _ _ q => q) (fun _ _ z => z.elim)
 rw [compTurn_list]
 refine wpAny_bind (wpAny_standAt (wpAny_bind (wpAny_mono (turn n s hI) (fun r s₁ h₁ => ?_) fun _ _ h' => h')))
 cases r with
 | none => exact wpAny_pure h₁
 | some v =>
  refine wpAny_bind (wpAny_mono h₁ (fun _ s₁' h₁' => ?_) fun _ _ h' => h')
  refine wpAny_bind (wpAny_mono h₁' (fun _ s₂ h₂ => wpAny_bind (wpAny_mono h₂ (fun ok s₃ h₃ => ?_) fun _ _ h' => h')) fun _ _ h' => h')
  cases ok with
  | false => exact wpAny_pure ⟨rfl, h₃⟩
  | true =>
   exact wpAny_bind (wpAny_bind (wpAny_mono h₃ (fun x s₄ h₄ => wpAny_bind (wpAny_mono h₄ (fun _ s₅ h₅ => wpAny_pure (wpAny_pure ⟨rfl, h₅⟩)) fun _ _ h' => h')) fun _ _ h' => h'))
end
noncomputable def OM (X : Cx) (ifs : List Expr) (t : TT) : Prop :=
 ∀ (pins : List (Addr × Obj)) (s : Shared) (σ : St) (H : Hp) (Q : Bool -> Hp -> Prop), Inv X pins σ H s -> t σ H Q ->
  wpAny (model X.prog X.w) X.A (forIn ifs true fun c r => if r = true then do let ok <- isTrue c X.env (eval c X.env); pure (ForInStep.yield ok) else pure (ForInStep.yield r)) (TP X pins σ Q) X.xe s
theorem e8 : OM X [] OJ := fun pins s σ H Q I h => wpAny_tests_nil ⟨H, I, h⟩
theorem oZ {c : Expr} {t : TT} (h : PT X c t) : OM X [c] t := fun pins s σ H Q I hq => wpAny_tests_one (h pins s σ H Q I hq)
theorem dO {env : Env} : ∀ {names : List (Str × NameKind)} {x : Str}, names.lookup x = some .free ->
  (names.map fun (n, k) => if (k == NameKind.free && env.scope.kind == .function && env.kindOf n == some .cell) then (n, NameKind.cell) else (n, k)).lookup x = some .cell \/
  (names.map fun (n, k) => if (k == NameKind.free && env.scope.kind == .function && env.kindOf n == some .cell) then (n, NameKind.cell) else (n, k)).lookup x = some .free
 | [], _, h => by simp at h
 | (n, k) :: r, x, h => by
  have ih := @dO env r x
  show List.lookup x ((if (k == NameKind.free && env.scope.kind == .function && env.kindOf n == some .cell) = true then (n, NameKind.cell) else (n, k)) :: _) = _ \/ List.lookup x ((if (k == NameKind.free && env.scope.kind == .function && env.kindOf n == some .cell) = true then (n, NameKind.cell) else (n, k)) :: _) = _
  cases hx : x == n with
  | true =>
   simp only [lookup_cons, hx] at h
   cases h
   by_cases hc : (NameKind.free == NameKind.free && env.scope.kind == .function && env.kindOf n == some .cell) = true
   ·rw [if_pos hc]; left; simp only [lookup_cons, hx]
   ·rw [if_neg hc]; right; simp only [lookup_cons, hx]
  | false =>
   simp only [lookup_cons, hx] at h
   by_cases hc : (k == NameKind.free && env.scope.kind == .function && env.kindOf n == some .cell) = true
   ·rw [if_pos hc]; simp only [lookup_cons, hx]; exact ih h
   ·rw [if_neg hc]; simp only [lookup_cons, hx]; exact ih h
theorem gW {env : Env} : ∀ {names : List (Str × NameKind)} {x : Str}, (∀ y ∈ names, y.2 ≠ .cell) ->
  ((names.map fun (n, k) => if (k == NameKind.free && env.scope.kind == .function && env.kindOf n == some .cell) then (n, NameKind.cell) else (n, k)).lookup x = some .cell \/
  (names.map fun (n, k) => if (k == NameKind.free && env.scope.kind == .function && env.kindOf n == some .cell) then (n, NameKind.cell) else (n, k)).lookup x = some .free) -> (x, NameKind.free) ∈ names
 | [], _, _, h => by simp at h
 | (n, k) :: r, x, hn, h => by
  have ih := @gW env r x (fun y hy => hn y (mem_cons_of_mem _ hy))
  have h' : List.lookup x ((if (k == NameKind.free && env.scope.kind == .function && env.kindOf n == some .cell) = true then (n, NameKind.cell) else (n, k)) :: (r.map fun (n, k) => if (k == NameKind.free && env.scope.kind == .function && env.kindOf n == some .cell) then (n, NameKind.cell) else (n, k))) = some .cell \/ List.lookup x ((if (k == NameKind.free && env.scope.kind == .function && env.kindOf n == some .cell) = true then (n, NameKind.cell) else (n, k)) :: (r.map fun (n, k) => if (k == NameKind.free && env.scope.kind == .function && env.kindOf n == some .cell) then (n, NameKind.cell) else (n, k))) = some .free := h
  cases hx : x == n with
  | true =>
   have e := eq_of_beq hx
   subst e
   by_cases hc : (k == NameKind.free && env.scope.kind == .function && env.kindOf x == some .cell) = true
   ·have hk : k = .free := by
     have := (and_eq_true _ _ |>.mp ((and_eq_true _ _ |>.mp hc).1)).1
     exact eq_of_beq this
    subst hk
    exact mem_cons_self
   ·rw [if_neg hc] at h'
    simp only [lookup_cons, hx] at h'
    have hk := hn (x, k) mem_cons_self
    rcases h' with z | z
    ·exact absurd (Option.some.inj z) hk
    ·rw [Option.some.inj z]; exact mem_cons_self
  | false =>
   refine mem_cons_of_mem _ (ih ?_)
   by_cases hc : (k == NameKind.free && env.scope.kind == .function && env.kindOf n == some .cell) = true
   ·rw [if_pos hc] at h'; simp only [lookup_cons, hx] at h'; exact h'
   ·rw [if_neg hc] at h'; simp only [lookup_cons, hx] at h'; exact h'
noncomputable def TV (J : It) (g : TG) (tt : TT) (te : TE) (l : Addr) (σ0 : St) (H0 : Hp) (Q : VK) : Prop :=
 ∃ W : Nat -> Nat -> St -> Hp -> Prop, (∃ m, W 0 m σ0 H0) /\
   ∀ i m σ' H2, W i m σ' H2 -> (J.stop i H2 /\ Q (.ref l) H2) \/ (J.go i H2 /\ ∃ N : St -> Hp -> Prop, (∀ σ3 H3, N σ3 H3 -> ∃ m', m' < m /\ W (i + 1) m' σ3 H3) /\
    ∀ x H3, J.TC i H2 x H3 -> g x σ' H3 fun σ4 H4 => tt σ4 H4 fun b H5 => if b = true then te σ4 H5 fun y H6 => ∃ xs, H6 l = some (.lst xs) /\ xs.length < sizeLine /\ N σ4 (upd H6 l (.lst (xs ++ [y]))) else N σ4 H5)
noncomputable def sG (wi : TI) (k : Nat) (bV : List Nat) (g : TG) (tt : TT) (te : TE) : TE := fun σ H Q => wi σ H fun J H1 => ∀ l, H1 l = none -> TV J g tt te l (dX k bV σ) (upd H1 l (.lst [])) Q
structure eS (X : Cx) (scope : Scope) (N : List Str) (k : Nat) (bV : List Nat) : Prop where
 kind : scope.kind = .function
 names : ∀ y ∈ scope.names, y.2 = .local -> scope.names.lookup y.1 = some .local
 cell : ∀ y ∈ scope.names, y.2 ≠ .cell
 free : ∀ y ∈ scope.names, y.2 = .free -> X.env.kindOf y.1 = some .cell \/ X.env.kindOf y.1 = some .free
 len : N.length = k + bV.length
 bV : ∀ j i, bV[j]? = some i -> ∃ y, N[k + j]? = some y /\ X.N[i]? = some y /\ scope.names.lookup y = some .free
theorem sT {k : Nat} {bV : List Nat} {σ : St} {j : Nat} {v : V} (h : (dX k bV σ)[j]? = some (some v)) : ∃ q i, j = k + q /\ bV[q]? = some i /\ σ[i]? = some (some v) := by
 unfold dX at h
 by_cases hj : j < k
 ·rw [getElem?_append_left (by simpa using hj), List.getElem?_replicate] at h
  split at h <;> cases h
 ·rw [getElem?_append_right (by simpa using hj), length_replicate, getElem?_map] at h
  cases q : bV[j - k]? with
  | none => rw [q] at h; cases h
  | some i =>
   rw [q] at h
   have h' : (σ[i]?).getD none = some v := Option.some.inj h
   refine ⟨j - k, i, by omega, q, ?_⟩
   cases r : σ[i]? with
   | none => rw [r] at h'; cases h'
   | some o => rw [r] at h'; have : o = some v := h'; rw [this]
theorem kC.but {h h' : Heap} (x : kC P w H h) (hC : H C = none) (k : ∀ b o, b ≠ C -> h.get? b = some o -> h'.get? b = some o) : kC P w H h' := fun b u e => by
 have nit : ∀ b u, H b = some u -> b ≠ C := fun b u e z => by rw [z, hC] at e; cases e
 refine (x b u e).aH (fun c v hc q => k c v ?_ q) (fun _ q => q) fun _ _ q => q
 rcases hc with z | z
 ·rw [z]; exact nit b u e
 ·exact nit c _ z
section
variable {X : Cx} {elt tg iter : Expr} {ifs : List Expr} {scope : Scope} {pos : Pos} {wi : TI} {g : TG} {tt : TT} {te : TE} {N : List Str} {k : Nat} {bV : List Nat}
theorem qQ (S : eS X scope N k bV) (I2 : Inv X pins σ H2 s2)
  (hcl1 : ∀ y c, cl.lookup y = some c -> X.env.cells.lookup y = some c) (hcl2 : ∀ y, (y, NameKind.free) ∈ scope.names -> (cl.lookup y).isSome = true) (hC : s2.heap.objs.size <= C)
  (hf : ∀ b ∈ fp, mO X pins H2 b) (ho : ∀ b ∈ fp, b < s2.heap.objs.size) : (aY X scope N ⟨cl, C, s2, H2, fp⟩).Ok where
 mod := I2.ok.mod
 kind := S.kind
 glob := I2.ok.glob
 blt := I2.ok.blt
 above := hC
 inj := fun x y c h1 h2 => I2.ok.inj x y c (hcl1 x c h1) (hcl1 y c h2)
 has := fun x h => by
  have h' : (x, NameKind.free) ∈ scope.names := gW (env := X.env) S.cell h
  exact isSome_iff_exists.mp (hcl2 x h')
 TF := fun _ _ z => by cases z
 hd := I2.ok.hd
 frames := I2.ok.frames
 T9 := .inl rfl
 W0 := fun b hb => ⟨ne_of_lt (lt_of_lt_of_le (ho b hb) hC), fun x c e => (hf b hb).2.2.2.2.1 x c (hcl1 x c e)⟩
 bs := I2.bs
 MC := le_trans I2.ok.MC I2.sz
 CJ := fun b o e hb => by
  rcases (hf b hb).2.2.2.1 with z | z
  ·exact I2.ok.CJ b o e z
  ·exact absurd (lt_of_lt_of_le (lt_size e) (le_trans I2.ok.MC z)) (lt_irrefl _)
 vP := fun b hb hb' => by
  rcases mem_cons.mp (I2.yX b hb') with z | z
  ·exact (hf b hb).2.1 z
  ·exact (hf b hb).2.2.1 z
 oK := I2.stack
 Q7 := I2.BW
theorem BR {h1 : Heap} {tk : Nat} {m0 : Str -> Option Value} (S : eS X scope N k bV) (I2 : Inv X pins σ H2 s2)
  (hcl1 : ∀ y c, cl.lookup y = some c -> X.env.cells.lookup y = some c) (hcl2 : ∀ y, (y, NameKind.free) ∈ scope.names -> (cl.lookup y).isSome = true) (hC : C = s2.heap.objs.size + 1)
  (hf : ∀ b ∈ fp, mO X pins H2 b) (ho : ∀ b ∈ fp, b < s2.heap.objs.size) (hk : ∀ b o, s2.heap.get? b = some o -> h1.get? b = some o) (hD : h1.get? s2.heap.objs.size = some { cls := .type "list", data := .seq #[] 0 }) (hns : h1.Ns C m0) :
  Inv (aY X scope N ⟨cl, C, s2, H2, fp⟩) [] (dX k bV σ) (upd H2 s2.heap.objs.size (.lst [])) { s2 with heap := h1, toks := tk } := by
 have fr : H2 s2.heap.objs.size = none := I2.bN.fresh (le_refl _)
 have hCf : H2 C = none := I2.bN.fresh (hC ▸ le_succ _)
 refine ⟨qQ S I2 hcl1 hcl2 (hC ▸ le_succ _) hf ho, rfl, I2.bare, Un.laid hk (le_refl _) fr, ⟨m0, hns, fun i y v e1 e2 e3 => ?_⟩, fun x c e => ?_, ?_, fun x c e => ?_, fun p hp => absurd (show p ∈ ([] : List (Addr × Obj)) from hp) (by simp), I2.bN.laid hk (le_refl _) ?_, ?_⟩
 ·obtain ⟨q, j, rfl, hj, hv⟩ := sT e2
  obtain ⟨z, hz1, hz2, hz3⟩ := S.bV q j hj
  have e1' : N[k + q]? = some y := e1
  rw [hz1] at e1'
  cases e1'
  obtain ⟨m, hn, hl⟩ := I2.loc
  have hfr := S.free (y, .free) (PySem.mem_of_lookup hz3) rfl
  obtain ⟨u, r, l⟩ := hl j y v hz2 hv (by rcases hfr with z | z; exact .inr (.inl z); exact .inr (.inr z))
  refine ⟨u, r, .inr ⟨dO (env := X.env) hz3, ?_⟩⟩
  obtain ⟨c, hc⟩ := isSome_iff_exists.mp (hcl2 y (PySem.mem_of_lookup hz3))
  rcases l with ⟨hk', _⟩ | ⟨_, c', hc', hcell⟩
  ·rcases hfr with z | z <;> (rw [hk'] at z; cases z)
  ·have e := hcl1 y c hc
   rw [hc'] at e
   cases e
   obtain ⟨o, ho', hd⟩ := hcell
   exact ⟨_, hc, o, hk _ _ ho', hd⟩
 ·obtain ⟨v, o, ho', hd⟩ := I2.cell x c (hcl1 x c e)
  exact ⟨v, o, hk _ _ ho', hd⟩
 ·show upd H2 s2.heap.objs.size (.lst []) C = none
  rw [aP (ne_of_gt (hC ▸ lt_succ_self _))]
  exact hCf
 ·have e' := hcl1 x c e
  obtain ⟨v, q⟩ := I2.cell x c e'
  rw [aP (ne_of_lt q.lt)]
  exact I2.jL x c e'
 ·exact ⟨zero_le _, [], 0, .nil, hD⟩
 ·show (dX k bV σ).length = N.length
  unfold dX
  rw [length_append, length_replicate, length_map, S.len]
theorem LX (hc : X.calm = true) (S : eS X scope N k bV) (hi : PI X tg iter wi) (hg : ∀ c, PG (aY X scope N c) tg g) (ht : ∀ c, OM (aY X scope N c) ifs tt) (he : ∀ c, PE (aY X scope N c) elt te)
  (hs : ∀ x, foldedSetIterable iter X.env x = pure x := by intro _; rfl) : PE X (.ListComp elt [⟨tg, iter, ifs, 0⟩] scope pos) (sG wi k bV g tt te) := by
 intro pins s σ H Q I h
 rw [eval_ListComp]
 obtain ⟨cl, hclos, hcl1, hcl2⟩ := hB (scope := scope) (env := X.env) (fun p hp hf => I.ok.has p.1 (S.free p hp hf))
 refine wpAny_comprehension_free (use := none) rfl hs hclos S.kind S.names (cJ (hi pins s σ H _ I h) fun v s1 h1 => cJ h1 fun itv s2 h2 => ?_)
 obtain ⟨it, fp, tn, J, H2, e, I2, T, st2, f2, q2⟩ := h2
 subst e
 obtain ⟨W, ⟨m0, w0⟩, turn⟩ := q2 s2.heap.objs.size (I2.bN.fresh (le_refl _))
 have hob : ∀ b ∈ fp, b < s2.heap.objs.size := fun b hb => let ⟨o, e, _⟩ := T.obj _ _ st2 b hb; lt_size e
 refine wpAny_newObj_type (wpAny_newFunctionEnv S.cell (by intro y hy; simp at hy) (fun h₁ hns₁ hsb₁ => ?_) S.kind)
 dsimp only at hns₁ hsb₁ ⊢
 generalize hHH : s2.heap.push { cls := .type "list", dict := none, data := .seq ([] : List Value).toArray } = HH at hns₁ hsb₁ ⊢
 have hCC : HH.objs.size = s2.heap.objs.size + 1 := by rw [<- hHH, size_push]
 have old : ∀ b o, s2.heap.get? b = some o -> h₁.get? b = some o := fun b o e => hsb₁.extBut b o (ne_of_lt (hCC ▸ lt_succ_of_lt (lt_size e))) (get?_push_of_some _ (hHH ▸ get?_push_of_some _ e))
 have hD : h₁.get? s2.heap.objs.size = some { cls := .type "list", data := .seq #[] 0 } := hsb₁.extBut _ _ (ne_of_lt (hCC ▸ lt_succ_self _)) (get?_push_of_some _ (hHH ▸ get?_push_size _ rfl))
 have I4 := fun tk => BR (tk := tk) S I2 hcl1 hcl2 hCC f2 hob old hD hns₁
 have X' := aY X scope N ⟨cl, HH.objs.size, s2, H2, fp⟩
 have stat : ∀ {H' : Hp}, (∀ b ∈ fp, H' b = none) -> ∀ b ∈ fp, mO (aY X scope N ⟨cl, HH.objs.size, s2, H2, fp⟩) [] H' b := fun hn b hb =>
  ⟨hn b hb, ne_of_lt (hCC ▸ lt_succ_of_lt (hob b hb)), (qQ S I2 hcl1 hcl2 (hCC ▸ le_succ _) f2 hob).vP b hb, .inl hb, fun x c e => (f2 b hb).2.2.2.2.1 x c (hcl1 x c e), fun p hp => absurd (show p ∈ ([] : List (Addr × Obj)) from hp) (by simp)⟩
 have loop : ∀ s₃ : Shared, s₃ = { s2 with heap := h₁, toks := s2.toks + ([] : List (Str × Value)).length } ->
   codeAny (model X.prog X.w) X.A (.compLoop (.ListComp elt [⟨tg, iter, ifs, 0⟩] scope pos) 0 (.ref it) (.ref s2.heap.objs.size) (compEnvC scope cl HH.objs.size X.env))
    (compPost (model X.prog X.w) X.A X.xe none (EP X pins σ Q) (.ref s2.heap.objs.size) HH.objs.size) s₃ := by
  rintro s₃ rfl
  refine tH (fun n s' => ∃ i σ' H', Inv (aY X scope N ⟨cl, HH.objs.size, s2, H2, fp⟩) [] σ' H' s' /\ tn i s'.heap /\ (∀ b ∈ fp, H' b = none) /\ W i n σ' H') ?_ m0
   ⟨0, dX k bV σ, _, I4 _, T.keep _ _ _ st2 fun b _ o e => old b o e, fun b hb => by rw [aP (ne_of_lt (hob b hb))]; exact (f2 b hb).1, w0⟩
  rintro n s3 ⟨i, σ3, H3, I3, st3, fr3, w3⟩
  rcases turn i n σ3 H3 w3 with ⟨stop, qn⟩ | ⟨go, NN, hN, step⟩
  ·refine cJ (T.done (aY X scope N ⟨cl, HH.objs.size, s2, H2, fp⟩) rfl rfl rfl hc i [] s3 σ3 H3 _ I3 (stat fr3) st3 stop) fun r s4 ⟨hr, J4⟩ => ?_
   subst hr
   obtain ⟨m, hn, _⟩ := J4.loc
   refine ⟨m, hn, fun h' hs' => ?_⟩
   have keepC : ∀ b o, b ≠ HH.objs.size -> s4.heap.get? b = some o -> h'.get? b = some o := fun b o hb e => hs'.extBut b o hb e
   have gJ : ∀ b o, s2.heap.get? b = some o -> b ≠ HH.objs.size := fun b o e => ne_of_lt (hCC ▸ lt_succ_of_lt (lt_size e))
   have u := J4.base
   have u' : Un (CG X.stack) fp H2 H3 s2.heap h' := ⟨fun b o q n hb hx => keepC b o (gJ b o q) (u.keep b o q n hb hx), fun b o q n hb hx => by
     obtain ⟨sl, e⟩ := u.slot b o q n hb hx
     exact ⟨sl, keepC b _ (gJ b o q) e⟩, u.free, fun b o q hx => by
     obtain ⟨o', e⟩ := u.there b o q hx
     exact ⟨o', keepC b _ (gJ b o q) e⟩, u.rJ, u.pT, u.rN⟩
   refine ⟨.ref s2.heap.objs.size, H3, I2.EU (ch := fp) J4.os u' (J4.bN.but J4.free keepC) J4.bare fun b hb => ?_, rfl, qn⟩
   obtain ⟨_, f1, _, f3, f4, f5⟩ := f2 b hb
   exact ⟨f3, f1, f4, f5⟩
  ·refine cJ (T.item (aY X scope N ⟨cl, HH.objs.size, s2, H2, fp⟩) rfl rfl rfl hc i [] s3 σ3 H3 _ I3 (stat fr3) st3 go) fun r s4 ⟨u, hr, h4⟩ => ?_
   subst hr
   refine cJ h4 fun _ s5 ⟨x, H5, I5, r5, y5, st5, fr5⟩ => ?_
   have I5' := I5.pinned (stat fr5) (T.obj _ _ st5)
   have again : ∀ {s7 : Shared} {σ7 : St} {H7 : Hp}, Inv (aY X scope N ⟨cl, HH.objs.size, s2, H2, fp⟩) ([] ++ k9 fp s5.heap) σ7 H7 s7 -> NN σ7 H7 ->
     ∃ m, m < n /\ ∃ i σ' H', Inv (aY X scope N ⟨cl, HH.objs.size, s2, H2, fp⟩) [] σ' H' s7 /\ tn i s7.heap /\ (∀ b ∈ fp, H' b = none) /\ W i m σ' H' := fun {s7 σ7 H7} I7 n7 => by
    obtain ⟨m', hm, w7⟩ := hN σ7 H7 n7
    refine ⟨m', hm, i + 1, σ7, H7, I7.iF, T.keep _ _ _ st5 fun b hb o e => (I7.pin (b, o) (mem_append_right _ (mem_append_right _ (dA hb e)))).1, fun b hb => ?_, w7⟩
    obtain ⟨o, e, d⟩ := T.obj _ _ st5 b hb
    exact (I7.pin (b, o) (mem_append_right _ (mem_append_right _ (dA hb e)))).2.1
   refine cJ (hg _ _ s5 σ3 H5 x u _ I5' r5 (step x H5 y5)) fun _ s6 ⟨σ6, H6, I6, q6⟩ => ?_
   refine cJ (ht _ _ s6 σ6 H6 _ I6 q6) fun b s7 ⟨H7, I7, q7⟩ => ?_
   cases b with
   | false => exact again I7 q7
   | true =>
    refine cJ (he _ _ s7 σ6 H7 _ I7 q7) fun y s8 ⟨yv, H8, I8, r8, xs, hl, hz, n8⟩ => ?_
    refine cJ (eR _ s8 σ6 H8 (.ref s2.heap.objs.size) [yv] (.ref s2.heap.objs.size) [y] (fun _ H9 => NN σ6 H9) I8 rfl (.cons r8 .nil) ⟨_, xs, yv, rfl, rfl, hl, hz, n8⟩) fun _ s9 ⟨_, H9, I9, _, q9⟩ => ?_
    exact again I9 q9
 exact codeAny_compStart_list (loop _ rfl) (T.self X.A 0 _ _ _ (T.keep _ _ _ st2 fun b _ o e => old b o e) (loop _ rfl))
end
noncomputable def TH (z : Str) : It := ⟨fun i _ => i < z.cps.size, fun i H x H' => H' = H /\ ∃ c, z.cps[i]? = some c /\ x = .str ⟨#[c]⟩, fun i _ => z.cps.size <= i⟩
theorem DM (z : Str) (t : Tok) (it : Addr) : Turn P w K tg (TH z) [it] it (fun i h => h.IsStrIter it "str_ascii_iterator" z t i) where
 mem := by simp
 obj := fun i h st b hb => by
  have e : b = it := by simpa using hb
  subst e
  obtain ⟨o, e, c, d⟩ := st
  exact ⟨o, e, fun v z => by rw [d] at z; cases z⟩
 keep := fun i h h' st k => let ⟨o, e, r⟩ := st; ⟨o, k it (by simp) o e, r⟩
 item := by
  intro X hP hw hK hc i pins s σ H E I hf st hg
  subst hP hw hK
  obtain ⟨f0, f1, f2, f3, f4, f5⟩ := hf it (by simp)
  have hg' : i < z.cps.size := hg
  refine wpAny_pyNext_ascii_item st (c := z.cps[i]) (by simp [hg']) fun h' st' sb => ?_
  have I1 : Inv X pins σ H { s with heap := h', toks := s.toks + 1 } := I.turned (fun b o hb e => (sb.2 b hb).trans e) f0 f1 f3 f4 f5
  obtain ⟨o, e, c, d⟩ := id st'
  exact ⟨_, rfl, wN (s := { s with heap := h', toks := s.toks + 1 }) e c d (by decide) ⟨.str ⟨#[z.cps[i]]⟩, H, I1, ⟨_, rfl⟩, ⟨rfl, _, by simp [hg'], rfl⟩, st', fun b hb => (hf b hb).1⟩⟩
 done := by
  intro X hP hw hK hc i pins s σ H E I hf st hg
  subst hP hw hK
  obtain ⟨f0, f1, f2, f3, f4, f5⟩ := hf it (by simp)
  exact wpAny_pyNext_ascii_end (I.ok.hd hc) st (Array.getElem?_eq_none hg) fun h' eb => ⟨rfl, I.turned (t' := s.toks) (fun b o hb e => eb b o hb e) f0 f1 f3 f4 f5⟩
 self := fun A i s Q E st h => by
  refine wpAny_pyIter_slot st.typeIs F.slot_str_ascii_iterator_iter (wpAny_call_entry F.slot_str_ascii_iterator_iter st.typeIs F.entry_str_ascii_iterator_iter ?_ (F.args_str_ascii_iterator_iter_1 _))
  show wpAny _ _ (ret (.ref it)) _ _ s
  exact wpAny_pure ⟨_, rfl, "str_ascii_iterator", _, st.typeIs, F.slot_str_ascii_iterator_next.lookup, h⟩
theorem D2 (z : Str) (t : Tok) (it : Addr) : Turn P w K tg (TH z) [it] it (fun i h => h.IsStrIter it "str_iterator" z t i) where
 mem := by simp
 obj := fun i h st b hb => by
  have e : b = it := by simpa using hb
  subst e
  obtain ⟨o, e, c, d⟩ := st
  exact ⟨o, e, fun v z => by rw [d] at z; cases z⟩
 keep := fun i h h' st k => let ⟨o, e, r⟩ := st; ⟨o, k it (by simp) o e, r⟩
 item := by
  intro X hP hw hK hc i pins s σ H E I hf st hg
  subst hP hw hK
  obtain ⟨f0, f1, f2, f3, f4, f5⟩ := hf it (by simp)
  have hg' : i < z.cps.size := hg
  refine wpAny_pyNext_wide_item st (c := z.cps[i]) (by simp [hg']) fun h' st' sb => ?_
  have I1 : Inv X pins σ H { s with heap := h', toks := s.toks + 1 } := I.turned (fun b o hb e => (sb.2 b hb).trans e) f0 f1 f3 f4 f5
  obtain ⟨o, e, c, d⟩ := id st'
  exact ⟨_, rfl, wN (s := { s with heap := h', toks := s.toks + 1 }) e c d (by decide) ⟨.str ⟨#[z.cps[i]]⟩, H, I1, ⟨_, rfl⟩, ⟨rfl, _, by simp [hg'], rfl⟩, st', fun b hb => (hf b hb).1⟩⟩
 done := by
  intro X hP hw hK hc i pins s σ H E I hf st hg
  subst hP hw hK
  obtain ⟨f0, f1, f2, f3, f4, f5⟩ := hf it (by simp)
  exact wpAny_pyNext_wide_end (I.ok.hd hc) st (Array.getElem?_eq_none hg) fun h' eb => ⟨rfl, I.turned (t' := s.toks) (fun b o hb e => eb b o hb e) f0 f1 f3 f4 f5⟩
 self := fun A i s Q E st h => by
  refine wpAny_pyIter_slot st.typeIs F.slot_str_iterator_iter (wpAny_call_entry F.slot_str_iterator_iter st.typeIs F.entry_str_iterator_iter ?_ (F.args_str_iterator_iter_1 _))
  show wpAny _ _ (ret (.ref it)) _ _ s
  exact wpAny_pure ⟨_, rfl, "str_iterator", _, st.typeIs, F.slot_str_iterator_next.lookup, h⟩
noncomputable def JK (bs : List Bool) : List V := bs.map V.bl
theorem UO {bs : List Bool} {its : List Value} (r : Vals (JK bs) its) : ∀ i : Nat, its[i]? = (bs[i]?).map Value.bool := by
 induction bs generalizing its with
 | nil => cases r; intro i; simp
 | cons b bs ih =>
  cases r with
  | cons r rr =>
   cases r
   intro i
   cases i with
   | zero => rfl
   | succ i => exact ih rr i
theorem range_any {n : Nat} {f : Nat -> Bool} {l : List Bool} (hn : l.length = n) (h : ∀ i b, l[i]? = some b -> f i = b) : (List.range n).any f = l.any id := by
 induction l generalizing n f with
 | nil => subst hn; rfl
 | cons b l ih =>
  subst hn
  rw [length_cons, List.range_succ_eq_map, any_cons, any_map, any_cons, h 0 b rfl, ih (n := l.length) (f := f ∘ Nat.succ) rfl fun i b e => h (i + 1) b e]
  rfl
section
variable {X : Cx}
theorem IL (hc : X.calm = true) : b8 X (.builtin "any") (fun xs H Q => ∃ p bs, xs = [.ref p] /\ gK X.K H p (JK bs) /\ Q (.bl (bs.any id)) H) := by
 intro pins s σ H xs us Q I r h
 obtain ⟨p, bs, rfl, hq, q⟩ := h
 obtain ⟨u, rfl, rx⟩ := vals1 r
 cases rx
 obtain ⟨its, rv, pl, hz⟩ := I.list hq
 have hg := UO rv
 have hlen : bs.length = its.length := by have := rv.length; simpa [JK] using this
 refine call_any_walk (wpAny_pyIter_list pl.isList ?_)
 have hlt : p < s.heap.objs.size := let ⟨o, _, e, _⟩ := pl; lt_size e
 refine ⟨s.heap.objs.size, _, _, _, _, _, fun i => (bs[i]?).getD false, rfl, Walks.list (by exact I.ok.hd hc) s.heap.objs.size p (ne_of_lt hlt) its.toArray, ⟨⟨_, get?_push_size _ rfl, rfl, rfl⟩, pl.isList.at fun o e => get?_push_of_some _ e⟩, ?_, ?_⟩
 ·intro i v s' Q' E' hv hq'
  have hv' : its[i]? = some v := by simpa using hv
  rw [hg i] at hv'
  cases e : bs[i]? with
  | none => rw [e] at hv'; cases hv'
  | some b =>
   dsimp only at hq'
   rw [e] at hv' hq'
   cases hv'
   exact wpAny_truthy_bool hq'
 ·intro h' tk hk
  have e1 : (List.range its.toArray.size).any (fun i => (bs[i]?).getD false) = bs.any id := range_any (by simpa using hlen) (fun i b e => by rw [e]; rfl)
  rw [e1]
  have I1 : Inv X pins σ H { s with heap := s.heap.push { cls := .type "list_iterator", data := .fields #[.ref p, .int 0 0] }, toks := s.toks } := I.kept fun b o e => get?_push_of_some _ e
  have f1 := I.rF (H' := H) (le_refl _) (I.bN.fresh (le_refl _))
  obtain ⟨f0, f1, f2, f3, f4, f5⟩ := f1
  exact ⟨.bl _, H, I1.turned (it := s.heap.objs.size) (fun b o hb e => hk b o (by simpa using hb) e) f0 f1 f3 f4 f5, rfl, q⟩
theorem QK : CY X (fun x lo hi H Q => ∃ z, x = .str z /\ z.length <= sizeLine /\ Q (.str (Txt.slice z lo hi)) H) := by
 intro pins s σ H x v vl vu lo hi sl Q I rx hs pl pu h
 obtain ⟨z, rfl, hz, q⟩ := h
 obtain ⟨t, rfl⟩ := rx
 refine ⟨"str", _, F.slot_str_getitem.lookup, typeIs_str _ _ _, ?_⟩
 obtain ⟨o, ho, hc, hd⟩ := hs
 have fin : ∀ (t' : Tok) (k : Nat), EP X pins σ Q (.str (Txt.slice z lo hi) t') { s with toks := k } := fun t' k => ⟨.str (Txt.slice z lo hi), H, I.tok k, ⟨t', rfl⟩, q⟩
 have hle := le_trans (Txt.slice_le z lo hi) hz
 cases pl with
 | none => cases pu with
  | none => exact wpAny_getItem_str_slice (l := none) (u := none) (st := none) ⟨o, ho, hc, hd⟩ rfl (post_val_or_str ⟨hle, fun t' k => fin t' k⟩)
  | int j uj => exact wpAny_getItem_str_slice (l := none) (u := some (j, uj)) (st := none) ⟨o, ho, hc, hd⟩ rfl (post_val_or_str ⟨hle, fun t' k => fin t' k⟩)
 | int i ui => cases pu with
  | none => exact wpAny_getItem_str_slice (l := some (i, ui)) (u := none) (st := none) ⟨o, ho, hc, hd⟩ rfl (post_val_or_str ⟨hle, fun t' k => fin t' k⟩)
  | int j uj => exact wpAny_getItem_str_slice (l := some (i, ui)) (u := some (j, uj)) (st := none) ⟨o, ho, hc, hd⟩ rfl (post_val_or_str ⟨hle, fun t' k => fin t' k⟩)
theorem mD : ∀ {ys : List Str} {its : List Value}, Vals (ys.map V.str) its -> StrsAre its ys
 | [], _, r => by cases r; exact .nil
 | y :: ys, _, r => by
  cases r with
  | cons r rr =>
   obtain ⟨t, rfl⟩ := r
   exact .cons y t (mD rr)
noncomputable def rJoin (K : Frag) : V -> List V -> Hp -> VK -> Prop := fun x vs H Q => ∃ z p ys, x = .str z /\ vs = [.ref p] /\ gK K H p (ys.map V.str) /\ (ys.map (·.length)).sum + ys.length * z.length <= 16777216 /\ Q (.str (Txt.join z ys)) H
theorem KY : T1 X "str.join" (rJoin X.K) := by
 intro pins s σ H x vs v us Q I rx rv h
 obtain ⟨z, p, ys, rfl, rfl, hq, hz, q⟩ := h
 obtain ⟨t, rfl⟩ := rx
 obtain ⟨u, rfl, rp⟩ := vals1 rv
 cases rp
 obtain ⟨its, r, pl, _⟩ := I.list hq
 exact join_list pl.isList (by simpa using mD r) hz fun t' k => ⟨.str (Txt.join z ys), H, I.tok k, ⟨t', rfl⟩, q⟩
theorem mH : gL X (binaryOp .Pow) (rI (fun i j => 0 <= j /\ (Builtin.Int.intBits i : Int) * j <= 2 ^ 27) fun i j => .int (i ^ j.toNat)) := UH fun _ _ _ _ _ _ _ hc q => pow_int hc.1 hc.2 q
end
noncomputable def mM (XN : List Str) (xs scope : Scope) (N : List Str) (k : Nat) (bV : List Nat) : Bool :=
 scope.kind == .function && (scope.names.all fun y => y.2 != .local || scope.names.lookup y.1 == some .local) && (scope.names.all fun y => y.2 != .cell) &&
 (scope.names.all fun y => y.2 != .free || xs.names.lookup y.1 == some .cell || xs.names.lookup y.1 == some .free) && N.length == k + bV.length &&
 (List.range bV.length).all fun j => match bV[j]?, N[k + j]? with
  | some i, some y => XN[i]? == some y && scope.names.lookup y == some .free
  | _, _ => false
theorem iR {XN : List Str} {xs : Scope} {N : List Str} {k : Nat} {bV : List Nat} (hN : X.N = XN) (hs : X.env.scope = xs) (h : mM XN xs scope N k bV = true) : eS X scope N k bV := by
 subst hN hs
 unfold mM at h
 simp only [and_eq_true, all_eq_true, Bool.or_eq_true, bne_iff_ne, ne_eq, beq_iff_eq] at h
 obtain ⟨⟨⟨⟨⟨h1, h2⟩, h3⟩, h4⟩, h5⟩, h6⟩ := h
 refine ⟨h1, fun y hy e => (h2 y hy).resolve_left (fun z => z e), h3, fun y hy e => ?_, h5, fun j i e => ?_⟩
 ·rcases h4 y hy with (z | z) | z
  ·exact absurd e z
  ·exact .inl z
  ·exact .inr z
 ·have hj : j < bV.length := (List.getElem?_eq_some_iff.mp e).1
  have q := h6 j (mem_range.mpr hj)
  rw [e] at q
  cases r : N[k + j]? with
  | none => rw [r] at q; cases q
  | some y =>
   rw [r] at q
   simp only [and_eq_true, beq_iff_eq] at q
   exact ⟨y, rfl, q.1, q.2⟩
section
variable {X : Cx} {elt tg iter : Expr} {ifs : List Expr} {scope : Scope} {pos : Pos} {wi : TI} {g : TG} {tt : TT} {te : TE} {N : List Str} {k : Nat} {bV : List Nat} {XN : List Str} {xs : Scope}
theorem qN (N : List Str) (k : Nat) (bV : List Nat) (XN : List Str) (xs : Scope) (hc : X.calm = true) (hN : X.N = XN) (hx : X.env.scope = xs) (hi : PI X tg iter wi) (chk : mM XN xs scope N k bV = true)
  (hg : ∀ c, PG (aY X scope N c) tg g) (ht : ∀ c, OM (aY X scope N c) ifs tt) (he : ∀ c, PE (aY X scope N c) elt te)
  (hs : ∀ x, foldedSetIterable iter X.env x = pure x := by intro _; rfl) : PE X (.ListComp elt [⟨tg, iter, ifs, 0⟩] scope pos) (sG wi k bV g tt te) := LX hc (iR hN hx chk) hi hg ht he hs
end
structure Def (K : Frag) (mg : Str -> Option Value) (x : Str) (st : Stmt) (ps : List Str) (f : Addr) (fd : FuncData) : Prop where
 F : O4 K x x st f fd
 m : mg x = some (.ref f)
 b : Binds K fd ps []
section
variable {X : Cx} {x : Str} {st : Stmt} {ps : List Str} {f : Addr} {fd : FuncData} {j k : Nat} {sp : Sp} {e : Expr} {es : List Expr} {t : TA} {p pos : Pos}
theorem U6 (D : Def X.K X.mg x st ps f fd) (G : lU X.prog X.w X.K X.mg X.base J3 j f fd ps sp) (hr : dD k X.A) (hjk : j <= k) (hg : Gl X x) (ha : PA X (e :: es) t) (hdb : (x == ("__debug__" : Str)) = false := by decide)
  (he : starEach (e :: es) X.env = (false, eval e X.env) :: starEach es X.env := by rfl) (hpl : (backTo pos (starEach es X.env)).any (·.1) = false := by rfl) :
  PE X (.Call (.Name x p) (e :: es) [] pos) (xX sp [] E0 t) := MR G (hr.mono hjk) hg D.m D.F.kp D.b .nil T8 ha hdb he hpl
end
theorem Vals.get' : ∀ {xs : List V} {us : List Value} {i : Nat} {u : Value}, Vals xs us -> us[i]? = some u -> ∃ x, xs[i]? = some x /\ RelV x u
 | _, _, _, _, .nil, h => by simp at h
 | _, _, 0, _, .cons r _, h => by simp at h; subst h; exact ⟨_, rfl, r⟩
 | _, _, i + 1, _, .cons _ t, h => Vals.get' (i := i) t (by simpa using h)
theorem RX : bootBuiltins "any" = some (.builtin "any") := by decide +kernel
theorem kJ : bootBuiltins "isinstance" = some (.builtin "isinstance") := by decide +kernel
theorem lI : bootBuiltins "len" = some (.builtin "len") := by decide +kernel
theorem y6 : bootBuiltins "min" = some (.builtin "min") := by decide +kernel
theorem nC : bootBuiltins "sorted" = some (.builtin "sorted") := by decide +kernel
theorem Q8 : bootBuiltins "int" = some (.type "int") := by decide +kernel
theorem KO : bootBuiltins "bool" = some (.type "bool") := by decide +kernel
theorem HK : bootBuiltins "str" = some (.type "str") := by decide +kernel
theorem J8 : bootBuiltins "list" = some (.type "list") := by decide +kernel
theorem iG : bootBuiltins "tuple" = some (.type "tuple") := by decide +kernel
theorem P5 : bootBuiltins "set" = some (.type "set") := by decide +kernel
theorem AR : bootBuiltins "dict" = some (.type "dict") := by decide +kernel
theorem t9 : bootBuiltins "enumerate" = some (.type "enumerate") := by decide +kernel
theorem aT.upd {l : Addr} {o : HO} (h : H l = none) : aT H (upd H l o) := fun b u e => by rw [aP (bT e h)]; exact e
theorem X5 {n : Nat} (h : n < 16777216) : n < sizeLine := by rw [PySem.sizeLine_eq]; exact h
theorem MO (z : Str) : z.cps.toList.length = z.length := by simp [Str.length]
theorem ID {z : Str} {d : Int} (h0 : 0 <= d) (h : d < (z.length : Int)) : ∃ c, c ∈ z.cps.toList /\ lK z.cps.toList d = some c := by
 obtain ⟨j, rfl⟩ : ∃ j : Nat, d = (j : Int) := ⟨d.toNat, by omega⟩
 have hj : j < z.cps.toList.length := by have e := MO z; omega
 exact ⟨z.cps.toList[j], getElem_mem hj, fU (by simp [hj])⟩
theorem MV {α : Type} {xs : List α} {d : Int} (h0 : 0 <= d) (h : d < (xs.length : Int)) : ∃ c, c ∈ xs /\ lK xs d = some c := by
 obtain ⟨j, rfl⟩ : ∃ j : Nat, d = (j : Int) := ⟨d.toNat, by omega⟩
 have hj : j < xs.length := by omega
 exact ⟨xs[j], getElem_mem hj, fU (by simp [hj])⟩
theorem joined {ys : List Str} : (Txt.join (Str.ofString "") ys).length <= (ys.map (·.length)).sum := by
 show (Builtin.Str.glued _ ys).length <= _
 rw [StrLaws.glued_eq_join]
 have h := StrLaws.join_length_le (Str.ofString "") ys
 have e : (Str.ofString "").length = 0 := by decide +kernel
 rw [e] at h
 omega
noncomputable def xY (K : Frag) : Sp := fun vs H Q _ => ∃ (a : Addr) (ns : List Int), vs = [.ref a] /\ gK K H a (ns.map V.int) /\ ns.length <= 63 /\ ∀ H', Q (.bl true) H'
end L2
namespace PySem
open Sem (wp)
open AutoSeq1 (wpAny_loadPart')
variable {it l : Addr} {i : Nat} {Q : Value -> Shared -> Prop}
section
variable {prog : Program} {w : World} {A : Around} {E : Value -> Shared -> Prop} {s : Shared}
theorem i9 {t : Addr} {items} {x : Value} (hit : s.heap.IsTupleIter it t i)
  (ht : s.heap.IsTuple t items) (hx : items[i]? = some x)
  (hQ : ∀ h', h'.IsTupleIter it t (i + 1) -> Heap.SameBut it s.heap h' -> Q x { s with heap := h' }) :
  wpAny (model prog w) A (Builtin.SmallTypes.nextOf (.ref it)) Q E s := by
 obtain ⟨o, ho, hc, hd⟩ := id hit
 obtain ⟨ol, hol, _, nl, hdl⟩ := ht
 unfold Builtin.SmallTypes.nextOf
 refine wpAny_bind (wpAny_callSpecial?_slot (name := Str.ofString "__next__") hit.typeIs F.slot_tuple_iterator_next
  (wpAny_call_entry F.slot_tuple_iterator_next hit.typeIs F.entry_tuple_iterator_next ?_ (F.args_tuple_iterator_next_1 _)))
 show wpAny _ _ (field (.ref it) 0 >>= _) _ _ s
 refine wpAny_bind (wpAny_field ho hd (x := .ref t) rfl ?_)
 show wpAny _ _ (if (Value.ref t == Value.none) = true then _ else _) _ _ s
 rw [if_neg (show ¬ ((Value.ref t == Value.none) = true) from Bool.false_ne_true)]
 show wpAny _ _ (field (.ref it) 1 >>= _) _ _ s
 refine wpAny_bind (wpAny_field ho hd (x := .int i 0) rfl ?_)
 show wpAny _ _ (seqItems? (.ref t) >>= _) _ _ s
 refine wpAny_bind (wpAny_seqItems hol hdl ?_)
 simp only [toNat_natCast, hx]
 refine wpAny_bind (wpAny_setField ho hd (by simp) (wpAny_pure ⟨x, rfl, wpAny_pure (hQ _ ?_ (Heap.SameBut.update ..))⟩))
 exact ⟨_, get?_update_self _ ho (Obj.isFreed_of_fields (Obj.data_mapFields hd _)), (Obj.cls_mapFields ..).trans hc, by
  rw [Obj.data_mapFields hd]; simp [rawInt]⟩
theorem jE {items} (hh : A.handled = none)
  (hit : s.heap.IsTupleIter it l i) (hl : s.heap.IsTuple l items) (hx : items[i]? = none)
  (hE : ∀ h' e, Heap.ExtBut it s.heap h' -> (∃ o, h'.get? e = some o /\ o.cls = .type "StopIteration") -> E (.ref e) { s with heap := h' }) :
  wpAny (model prog w) A (Builtin.SmallTypes.nextOf (.ref it)) Q E s := by
 obtain ⟨o, ho, hc, hd⟩ := id hit
 obtain ⟨ol, hol, _, nl, hdl⟩ := hl
 unfold Builtin.SmallTypes.nextOf
 refine wpAny_bind (wpAny_callSpecial?_slot (name := Str.ofString "__next__") hit.typeIs F.slot_tuple_iterator_next
  (wpAny_call_entry F.slot_tuple_iterator_next hit.typeIs F.entry_tuple_iterator_next ?_ (F.args_tuple_iterator_next_1 _)))
 show wpAny _ _ (field (.ref it) 0 >>= _) _ _ s
 refine wpAny_bind (wpAny_field ho hd (x := .ref l) rfl ?_)
 show wpAny _ _ (if (Value.ref l == Value.none) = true then _ else _) _ _ s
 rw [if_neg (show ¬ ((Value.ref l == Value.none) = true) from Bool.false_ne_true)]
 show wpAny _ _ (field (.ref it) 1 >>= _) _ _ s
 refine wpAny_bind (wpAny_field ho hd (x := .int i 0) rfl ?_)
 show wpAny _ _ (seqItems? (.ref l) >>= _) _ _ s
 refine wpAny_bind (wpAny_seqItems hol hdl ?_)
 simp only [toNat_natCast, hx]
 refine wpAny_bind (wpAny_rule (wpAny_bind (wpAny_setField ho hd (by simp) ?_)))
 show wpAny _ _ (newExc (.type "StopIteration") [] >>= _) _ _ _
 refine wpAny_bind ?_
 simp only [newExc, newTuple]
 refine wpAny_bind (wpAny_newObj_type ?_ (by size_fits))
 refine wpAny_bind (m := firstArgMember _ _) (wpAny_of_eq (a := Value.none) (by first | rfl | (simp only [firstArgMember]; rfl)) ?_)
 refine wpAny_newObj_type ?_ (by size_fits)
 simp only [raiseNew]
 refine wpAny_bind (wpAny_handled ?_)
 first | rw [show A.in1.handled = none from hh] | rw [hh]
 refine wpAny_bind (wpAny_pure (wpAny_throw ?_))
 exact hE _ _ (((Heap.SameBut.update ..).extBut.push _).push _) ⟨_, get?_push_size _ rfl, rfl⟩
end
theorem iC {prog : Program} {w : World} {A : Around} (hh : A.handled = none) (it l : Addr) (hne : l ≠ it) (items : Array Value) :
  Draws prog w A it [it, l] items.size (fun i v => items[i]? = some v) (fun i h => h.IsTupleIter it l i /\ h.IsTuple l items) where
 live := fun _ _ st => let ⟨o, ho, _⟩ := st.1; ⟨o, ho⟩
 frame := fun _ _ _ st hk => ⟨st.1.at fun o e => hk it (by simp) o e, let ⟨o, e, r⟩ := st.2; ⟨o, hk l (by simp) o e, r⟩⟩
 item := fun i s Q E hi st hQ => by
  refine i9 st.1 st.2 (x := items[i]) (by simp [hi]) fun h' hit' hs' => ?_
  exact hQ _ h' s.toks (by simp [hi]) ⟨hit', st.2.extBut hs'.extBut hne⟩ hs'
 done := fun s Q E st hE => jE hh st.1 st.2 (by simp) hE
theorem gO (l : Addr) (items : Array Value) (n : Nat) (bG : Option Addr) (sl : Array (Option Value)) :
  Meets (Builtin.«enumerate.__new__» ⟨[.type "enumerate", .ref l], []⟩) (fun _ R s => s.heap.get? l = some { cls := .type "tuple", dict := bG, data := .seq items n, slots := sl } /\
   R (.ok (.ret (.ref (s.heap.push { cls := .type "tuple_iterator", data := .fields #[.ref l, .int 0 0] }).objs.size)))
    { s with heap := (s.heap.push { cls := .type "tuple_iterator", data := .fields #[.ref l, .int 0 0] }).push { cls := .type "enumerate", data := .fields #[.none, .bool false, .ref s.heap.objs.size, rawInt 0, .none, .none] } }) :=
 .of_wp fun prog w A R s h => by
  obtain ⟨hp, g, d, tk, os⟩ := s; obtain ⟨hl, h⟩ := h
  have hsub := sub_enumerate
  have hL : Heap.IsTuple (Shared.heap ⟨hp, g, d, tk, os⟩) l items := ⟨_, hl, rfl, n, rfl⟩
  wp_walk using wpAny_loadPart' hl
  refine wpAny_stack_any fun st => wpAny_pure ?_
  split
  ·rename_i c _ _ _ _ _
   cases (c == Value.type "enumerate")
   ·wp_walk using wpAny_loadPart' hl, wpAny_pyIter_tuple hL
    exact ⟨_, rfl, h⟩
   ·wp_walk using wpAny_loadPart' hl, wpAny_pyIter_tuple hL
    exact ⟨_, rfl, h⟩
  ·wp_walk using wpAny_loadPart' hl, wpAny_pyIter_tuple hL
   exact ⟨_, rfl, h⟩
section
variable {prog : Program} {w : World} {A : Around} {E : Value -> Shared -> Prop} {s : Shared}
theorem gN {items : Array Value} (hL : s.heap.IsTuple l items)
  (h : ∀ h', IsEnum h' (s.heap.objs.size + 1) s.heap.objs.size 0 .none -> h'.IsTupleIter s.heap.objs.size l 0 -> h'.objs.size = s.heap.objs.size + 2 ->
   (∀ b o, s.heap.get? b = some o -> h'.get? b = some o) -> Q (.ref (s.heap.objs.size + 1)) { s with heap := h' }) :
  wpAny (model prog w) A (call (.type "enumerate") [.ref l]) Q E s := by
 obtain ⟨⟨c, bG, dt, sl⟩, hl, hc, n, hd⟩ := hL
 replace hc : c = .type "tuple" := hc
 replace hd : dt = .seq items n := hd
 subst hc hd
 refine callType_new F.called_enumerate (by decide) (F.typeCall_enumerate_1 _) (F.newCall_enumerate_1 _) (fun obj => F.args_object_init_2 obj _) F.entry_enumerate_new
  (gO l items n bG sl) ⟨hl, ?_⟩
 have hz : (s.heap.push { cls := .type "tuple_iterator", data := .fields #[.ref l, .int 0 0] }).objs.size = s.heap.objs.size + 1 := size_push ..
 show _ /\ _
 rw [hz]
 have he : IsEnum ((s.heap.push { cls := .type "tuple_iterator", data := .fields #[.ref l, .int 0 0] }).push
   { cls := .type "enumerate", data := .fields #[.none, .bool false, .ref s.heap.objs.size, rawInt 0, .none, .none] }) (s.heap.objs.size + 1) s.heap.objs.size 0 .none := by
  have := get?_push_size (s.heap.push { cls := .type "tuple_iterator", data := .fields #[.ref l, .int 0 0] })
   (o := { cls := .type "enumerate", data := .fields #[.none, .bool false, .ref s.heap.objs.size, rawInt 0, .none, .none] }) rfl
  rw [hz] at this; exact this
 refine ⟨⟨_, he, rfl⟩, h _ he ⟨_, get?_push_of_some _ (get?_push_size _ rfl), rfl, rfl⟩ (by rw [size_push, hz]) fun b o x => get?_push_of_some _ (get?_push_of_some _ x)⟩
end
end PySem
namespace L2
open PySem PySem.Spec PyProof.Rows
variable {X : Cx} {h' : Heap} {H : Hp} {pins : List (Addr × Obj)} {fp : List Addr} {es : List Expr} {t' : Nat} {pos : Pos} {K : Frag} {s : Shared} {σ : St}
theorem Inv.BQ (I : Inv X pins σ H s) (k : ∀ b o, b ∉ fp -> s.heap.get? b = some o -> h'.get? b = some o) (hf : ∀ b ∈ fp, mO X pins H b) :
  Inv X pins σ H { s with heap := h', toks := t' } := by
 have nit : ∀ b u, H b = some u -> b ∉ fp := fun b u e z => by rw [(hf b z).1] at e; cases e
 refine I.step (g' := s.gens) (d' := s.drawn) (ch := fp) (fun b hb => ?_) (fun b o _ _ hc e _ => k b o hc e) (fun b o _ _ hc e _ => ⟨o.slots, k b o hc e⟩) (fun _ _ _ _ n => n)
  (fun b o hc e => ⟨o, k b o hc e⟩) (fun _ _ e => e) (fun _ _ _ e => e) (fun b ps e => ⟨#[], by rw [e]; simp⟩) (fun m hm => ?_) (fun b u e => ?_) I.bare
 ·obtain ⟨_, f1, _, f3, f4, f5⟩ := hf b hb
  exact ⟨f3, f1, f4, f5⟩
 ·obtain ⟨o, es, ep, ho, r⟩ := hm
  exact ⟨o, es, ep, k _ o (fun z => (hf _ z).2.1 rfl) ho, r⟩
 ·refine (I.bN b u e).aH (fun c v hc q => k c v ?_ q) (fun _ q => q) fun _ _ q => q
  rcases hc with z | z
  ·rw [z]; exact nit b u e
  ·exact nit c _ z
theorem Inv.X3 {xs : List V} (I : Inv X pins σ H s) (k : ∀ b o, b ∉ fp -> s.heap.get? b = some o -> h'.get? b = some o) (hf : ∀ b ∈ fp, mO X pins H b)
  (hfr : H s.heap.objs.size = none) (hno : s.heap.objs.size ∉ fp) (new : c9 X.prog X.w (upd H s.heap.objs.size (.tup xs)) h' s.heap.objs.size (.tup xs)) (ht : ∀ b ∈ fp, ∀ o, s.heap.get? b = some o -> ∃ o', h'.get? b = some o') :
  Inv X pins σ (upd H s.heap.objs.size (.tup xs)) { s with heap := h', toks := t' } := by
 have nit : ∀ b u, H b = some u -> b ∉ fp := fun b u e z => by rw [(hf b z).1] at e; cases e
 have nT : ∀ b o, s.heap.get? b = some o -> b ≠ s.heap.objs.size := fun b o e => ne_of_lt (lt_size e)
 refine I.step (g' := s.gens) (d' := s.drawn) (ch := fp) (fun b hb => ?_) (fun b o _ _ hc e _ => k b o hc e) (fun b o _ _ hc e _ => ⟨o.slots, k b o hc e⟩) (fun b o _ e n => by rw [aP (nT b o e)]; exact n)
  (fun b o hc e => ⟨o, k b o hc e⟩) (fun b ys e => by rw [aP (bT e hfr)]; exact e) (fun b o u e => by rw [aP (bT e hfr)]; exact e) (fun b ps e => ⟨#[], by rw [aP (bT e hfr), e]; simp⟩) (fun m hm => ?_) (fun b u e => ?_) I.bare
 ·obtain ⟨_, f1, _, f3, f4, f5⟩ := hf b hb
  exact ⟨f3, f1, f4, f5⟩
 ·obtain ⟨o, es, ep, ho, r⟩ := hm
  exact ⟨o, es, ep, k _ o (fun z => (hf _ z).2.1 rfl) ho, r⟩
 ·by_cases hb : b = s.heap.objs.size
  ·subst hb; rw [aQ] at e; cases e; exact new
  ·rw [aP hb] at e
   refine (I.bN b u e).aH (fun c v hc q => k c v ?_ q) (fun c q => by rw [aP (bT q hfr)]; exact q) fun c ys q => by rw [aP (bT q hfr)]; exact q
   rcases hc with z | z
   ·rw [z]; exact nit b u e
   ·exact nit c _ z
noncomputable def X4 (K : Frag) (a : Addr) : It :=
 ⟨fun i H => ∃ xs x, lL K H a xs /\ xs[i]? = some x, fun i H v H' => ∃ t, H t = none /\ v = .ref t /\ ∀ xs, lL K H a xs -> ∃ x, xs[i]? = some x /\ H' = upd H t (.tup [.int i, x]), fun i H => ∃ xs, lL K H a xs /\ xs.length = i⟩
theorem z8 {P : Program} {w : World} {elts : List Expr} {x1} (a it e : Addr) (hei : e ≠ it) : Turn P w K (.Tuple elts x1 pos) (X4 K a) [e, it] e (fun i h => (∃ old, IsEnum h e it i old) /\ h.IsTupleIter it a i) where
 mem := by simp
 obj := fun i h st b hb => by
  obtain ⟨⟨old, he⟩, o, ho, c, d⟩ := st
  rcases mem_cons.mp hb with z | z
  ·subst z; exact ⟨_, he, fun v z => by cases z⟩
  ·have z : b = it := by simpa using z
   subst z; exact ⟨o, ho, fun v z => by rw [d] at z; cases z⟩
 keep := fun i h h' st k => ⟨let ⟨old, he⟩ := st.1; ⟨old, k e (by simp) _ he⟩, st.2.at fun o q => k it (by simp) o q⟩
 item := by
  intro X hP hw hK hc i pins s σ H E I hf st hg
  subst hP hw hK
  obtain ⟨xs, x, hq, hx⟩ := hg
  obtain ⟨its, rv, p, hz⟩ := I.tuple hq
  obtain ⟨u, hu, ru⟩ := rv.get hx
  obtain ⟨⟨old, he⟩, ht⟩ := st
  have hne : a ≠ it := fun z => by
   obtain ⟨o, ho, c, _⟩ := ht
   obtain ⟨o', ho', c', _⟩ := p
   subst z
   rw [ho] at ho'; cases ho'
   rw [c] at c'
   exact absurd (Value.type.inj c') (by decide)
  have hae : a ≠ e := fun z => by
   obtain ⟨o', ho', c', _⟩ := p
   subst z
   rw [he] at ho'; cases ho'
   exact absurd (Value.type.inj c') (by decide)
  have hlt : i < its.toArray.size := by have := (List.getElem?_eq_some_iff.mp hu).1; simpa using this
  refine wpAny_pyNext_enum_itemD (iC (A := X.A.in1) (by exact I.ok.hd hc) it a hne its.toArray) he ⟨ht, p⟩ hlt hei (by simp [hei, Ne.symm hae]) fun v h' tk hPv ho' st' htup hsz hk => ?_
  have ev : v = u := by
   have h1 : its[i]? = some v := by simpa using hPv
   rw [hu] at h1; exact (Option.some.inj h1).symm
  subst ev
  refine ⟨_, rfl, wpAny_letOwnedTupleGo_enum (s := { s with heap := h', toks := tk + 1 }) ho' fun h2 he2 sb => ?_⟩
  have hTe : s.heap.objs.size ≠ e := fun z => by
   have := lt_size he; rw [<- z] at this; exact lt_irrefl _ this
  have hTi : s.heap.objs.size ≠ it := fun z => by
   obtain ⟨o, ho, _⟩ := ht
   have := lt_size ho; rw [<- z] at this; exact lt_irrefl _ this
  have hk2 : ∀ b o, b ∉ [e, it] -> s.heap.get? b = some o -> h2.get? b = some o := fun b o hb q =>
   sb.extBut b o (fun z => hb (by simp [z])) (hk b o (fun z => hb (by simp [z])) (fun z => hb (by simp [z])) q)
  have I1 : Inv X pins σ H { s with heap := h2, toks := tk + 1 } := I.BQ hk2 hf
  have hfr : H s.heap.objs.size = none := I.bN.fresh (le_refl _)
  have htup2 : h2.get? s.heap.objs.size = some { cls := .type "tuple", data := .seq #[.int i tk, v] } := sb.extBut _ _ hTe htup
  have I2 : Inv X pins σ (upd H s.heap.objs.size (.tup [.int i, x])) { s with heap := h2, toks := tk + 1 } := by
   refine I.X3 hk2 hf hfr (by simp [hTe, hTi]) ⟨by show 2 <= sizeLine; decide, [.int i tk, v], .cons ⟨_, rfl⟩ (.cons ru .nil), mY.of htup2⟩ (fun b hb o q => ?_)
   rcases mem_cons.mp hb with r | r
   ·subst r; exact ⟨_, he2⟩
   ·have r : b = it := by simpa using r
    subst r
    obtain ⟨o', ho', _⟩ := st'.1.extBut sb.extBut (Ne.symm hei)
    exact ⟨o', ho'⟩
  refine ⟨.ref s.heap.objs.size, _, I2, rfl, ⟨s.heap.objs.size, hfr, rfl, fun ys hy => ⟨x, by rw [I.sH hy hq]; exact hx, rfl⟩⟩, ⟨⟨_, he2⟩, st'.1.extBut sb.extBut (Ne.symm hei)⟩, fun b hb => ?_⟩
  have hbT : b ≠ s.heap.objs.size := fun z => by
   rcases mem_cons.mp hb with r | r
   ·exact hTe (z ▸ r)
   ·have r : b = it := by simpa using r
    exact hTi (z ▸ r)
  rw [aP hbT]
  exact (hf b hb).1
 done := by
  intro X hP hw hK hc i pins s σ H E I hf st hg
  subst hP hw hK
  obtain ⟨xs, hq, hx⟩ := hg
  obtain ⟨its, rv, p, hz⟩ := I.tuple hq
  obtain ⟨⟨old, he⟩, ht⟩ := st
  have hl := rv.length
  have hne : a ≠ it := fun z => by
   obtain ⟨o, ho, c, _⟩ := ht
   obtain ⟨o', ho', c', _⟩ := p
   subst z
   rw [ho] at ho'; cases ho'
   rw [c] at c'
   exact absurd (Value.type.inj c') (by decide)
  have ei : (i : Nat) = its.toArray.size := by simp; omega
  subst ei
  obtain ⟨f0, f1, f2, f3, f4, f5⟩ := hf it (by simp)
  exact wpAny_pyNext_enum_endD (iC (A := X.A.in1) (by exact I.ok.hd hc) it a hne its.toArray) he ⟨ht, p⟩ fun h' eb => ⟨rfl, I.turned (t' := s.toks) (fun b o hb e => eb b o hb e) f0 f1 f3 f4 f5⟩
 self := fun _ _ _ _ _ st h => let ⟨_, he⟩ := st.1; wpAny_pyIter_enum he h
section
variable {X : Cx} {k : Nat}
theorem YC (K : Frag) (h : X.K = K := by rfl) : zN X (QU K) := h ▸ K0
theorem X7 (K : Frag) (h : X.K = K := by rfl) : zN X (SX K) := h ▸ R4
theorem YF (K : Frag) (h : X.K = K := by rfl) : CY X (O7 K) := h ▸ MP
noncomputable def TJ (K : Frag) : List V -> Hp -> VK -> Prop := fun xs H Q => ∃ p bs, xs = [.ref p] /\ gK K H p (JK bs) /\ Q (.bl (bs.any id)) H
theorem V6 (K : Frag) (hc : X.calm = true) (h : X.K = K := by rfl) : b8 X (.builtin "any") (TJ K) := h ▸ IL hc
theorem UJ (K : Frag) (h : X.K = K := by rfl) : T1 X "str.join" (rJoin K) := h ▸ KY
theorem jX (K : Frag) {j : Nat} {t : B0} {n : Nat} (hc : X.calm = true) (h : UN X es t) (hK : X.K = K := by rfl)
  (hn : (assignEach es X.env).length = n := by rfl) (hst : (assignEach es X.env).findIdx? (·.1) = none := by rfl) : PG X (.Tuple es j pos) (K4 K n t) := hK ▸ R9 hc h hn hst
theorem lH (K : Frag) {o e : Expr} {to : TE} {t : TA} {name : Str} {apos cpos : Pos} {T id : String} {r : V -> List V -> Hp -> VK -> Prop} (pa : PlainAttrs T) (slot : Slot T name id) (hty : typeOf (.builtin id) = pure (.type "method_descriptor")) (hm : T1 X id r) (ho : PE X o to) (ha : PA X (e :: es) t) (hK : X.K = K := by rfl)
  (hbase : attributeBase o name X.env (eval o X.env) = eval o X.env := by rfl)
  (hfew : ((backTo cpos (starEach (e :: es) X.env)).all (fun x => !x.1) && (backToKw cpos (keywordEach [] X.env)).all (fun x => x.1.isSome)
   && decide ((e :: es).length + ([] : List Keyword).length + (if ([] : List Keyword).isEmpty then 0 else 1) < 30)) = true := by rfl)
  (hline : (apos.endLine == cpos.line) = true := by rfl) (hs : starEach (e :: es) X.env = (false, eval e X.env) :: starEach es X.env := by rfl) (hplain : (backTo cpos (starEach es X.env)).any (·.1) = false := by rfl) :
  PE X (.Call (.Attribute o name apos) (e :: es) [] cpos) (S4 K T r to t) := hK ▸ UL pa slot hty hm ho ha hbase hfew hline hs hplain
end
inductive Kd where
 | bF | bl | int | str | lst | tup | bG
 deriving DecidableEq
noncomputable def Kd.nm : Kd -> String
 | .bF => "NoneType" | .bl => "bool" | .int => "int" | .str => "str" | .lst => "list" | .tup => "tuple" | .bG => "dict"
theorem QG (k : Kd) : kitOne K (.type k.nm) (.type "str") = some (decide (k = .str)) := by cases k <;> kernel_rfl
theorem PL (k : Kd) : kitOne K (.type k.nm) (.type "tuple") = some (decide (k = .tup)) := by cases k <;> kernel_rfl
theorem PD (k : Kd) : kitOne K (.type k.nm) (.type "int") = some (decide (k = .int) || decide (k = .bl)) := by cases k <;> kernel_rfl
theorem LV (k : Kd) : kitOne K (.type k.nm) (.type "bool") = some (decide (k = .bl)) := by cases k <;> kernel_rfl
end L2
namespace HT
open PySem PySem.Spec PyProof.Rows
variable {t : Addr} {Q : Value -> Shared -> Prop}
section
variable {prog : Program} {w : World} {A : Around} {E : Value -> Shared -> Prop} {s : Shared}
theorem mE {sl : Addr} {items : Array Value} {vl vu : Value} {lo hi : Option Int} (ht : IsTup s.heap t items) (hs : s.heap.IsSliceOf sl vl vu .none) (pl : IsPart vl lo) (pu : IsPart vu hi)
  (hw : dQ items.size 0 lo = 0 /\ dQ items.size items.size hi = items.size) (h : Q (.ref t) s) : wpAny (model prog w) A (getItem (.ref t) (.ref sl)) Q E s := by
 obtain ⟨os, hos, hcs, hds⟩ := id hs
 have hTs : s.TypeIs (.ref sl) "slice" := ⟨os, hos, hcs⟩
 unfold getItem
 try with_reducible refine wpAny_holding ?_
 first | refine wpAny_bind (wpAny_pure ?_) | skip
 refine wpAny_bind (wpAny_sequenceKey ht.typeIs (by decide) ?_)
 refine wpAny_bind (wpAny_callSpecial?_slot (name := Str.ofString "__getitem__") ht.typeIs PyProof.Rows.slot_tuple_getitem
  (wpAny_call_entry PyProof.Rows.slot_tuple_getitem ht.typeIs entry_tuple_getitem ?_ (args_tuple_getitem _ _)))
 show wpAny _ _ (Builtin.Tuple.tupleItemsOf (.ref t) >>= _) _ _ s
 refine wpAny_bind (tupleItemsOf_ ht ?_)
 refine wpAny_bind (wpAny_typeOf hTs ?_)
 rw [if_pos (by decide)]
 refine wpAny_bind (iA hs pl pu ?_)
 have hyes : (((dQ items.size 0 lo : Nat) : Int) == 0 && (1 : Int) == 1 && (dQ items.size items.size hi - dQ items.size 0 lo) == items.size) = true := by
  rw [hw.1, hw.2]; simp
 show wpAny _ _ (if (((dQ items.size 0 lo : Nat) : Int) == 0 && (1 : Int) == 1 && (dQ items.size items.size hi - dQ items.size 0 lo) == items.size) = true then _ else _) _ _ s
 rw [if_pos hyes]
 refine wpAny_bind (wpAny_bind (wpAny_typeOf ht.typeIs (wpAny_pure ?_)))
 rw [if_pos (by decide)]
 refine wpAny_bind (wpAny_rule ?_)
 first
  | exact wpAny_pure ⟨_, rfl, wpAny_pure h⟩
  | exact wpAny_bind (wpAny_pure ⟨_, rfl, wpAny_pure h⟩)
theorem KQ {b : Addr} {vs ws : List Value} (ht : IsTup s.heap t vs.toArray) (hb : IsTup s.heap b ws.toArray)
  (h0 : vs = [] -> Q (.ref b) s) (h1 : ws = [] -> Q (.ref t) s) (h2 : vs ≠ [] -> ws ≠ [] -> Q (.ref s.heap.objs.size) { s with heap := s.heap.push { cls := .type "tuple", data := .seq (vs ++ ws).toArray } })
  (hsz : vs.length + ws.length <= sizeLine) : wpAny (model prog w) A (binaryOp .Add (.ref t) (.ref b)) Q E s := by
 by_cases hv : vs = []
 ·obtain ⟨⟨cls, dd, data, sl⟩, ho, hc, n, hd⟩ := id ht
  obtain ⟨⟨cls2, dd2, data2, sl2⟩, ho2, hc2, n2, hd2⟩ := id hb
  simp only at hc hd hc2 hd2
  subst hc hd hc2 hd2
  exact concat_meets ⟨_, ho, rfl⟩ ⟨_, ho2, rfl⟩ noFill_tuple_add seq_tuple_add slot_tuple_add entry_tuple_add (args_tuple_add_2 _ _)
   (tuple_addW0 t b vs.toArray ws.toArray n n2 dd dd2 sl sl2 (by simp [hv])) ⟨ho, ho2, h0 hv⟩
 ·exact NQ ht hb hv h1 (h2 hv) hsz
end
end HT
namespace L2
open PySem PySem.Spec PyProof.Rows
variable {a b l : Addr} {p : Array Nat} {R : Array Nat -> Prop} {r r' r'' : Bool} {X : Cx} {h' : Heap} {H H' : Hp} {A : KeyOrd} {pins : List (Addr × Obj)} {xs : List (List Key × Addr × Value)} {kvs : List (List Key × V)} {vs : List Value} {ep i j k m n x : Nat} {ans : Nat -> Nat -> Bool} {pos py spos : Pos} {P : Program} {s : Shared} {σ : St} {y : Str} {α β : Type} {u : Value} {Q : Value -> Shared -> Prop} {w : World}
section
variable {X : Cx}
noncomputable def OD (i j : Int) : Prop := 0 < j /\ j < 2 ^ 200
theorem qG : gL X (binaryOp .FloorDiv) (rI OD fun i j => .int (i / j)) := UH fun i j _ _ _ _ _ hc q => by
 have h1 : (0 : Int) < j := hc.1
 have h2 : j < 2 ^ 200 := hc.2
 refine floordiv_int (by omega) (by rw [Int.fdiv_eq_ediv_of_nonneg i (by omega)]; exact q) (.inl (PyProof.noPylong_of_log2 ?_))
 have h3 : j.natAbs < 2 ^ 200 := by omega
 have h4 : j.natAbs.log2 < 200 := (Nat.log2_lt (by omega)).mpr h3
 omega
end
section
variable {κ : Type} [DecidableEq κ]
noncomputable def dN (kvs : List (κ × V)) (k : κ) : Option V := (kvs.find? fun kv => decide (kv.1 = k)).map (·.2)
noncomputable def putK (kvs : List (κ × V)) (k : κ) (v : V) : List (κ × V) :=
 if (kvs.any fun kv => decide (kv.1 = k)) = true then kvs.map (fun kv => if kv.1 = k then (kv.1, v) else kv) else kvs ++ [(k, v)]
theorem pU {p : κ × V} {r : List (κ × V)} {k : κ} (e : p.1 = k) : dN (p :: r) k = some p.2 := by simp [dN, find?_cons, e]
theorem pH {p : κ × V} {r : List (κ × V)} {k : κ} (e : ¬ p.1 = k) : dN (p :: r) k = dN r k := by simp [dN, find?_cons, e]
theorem x9 (k : κ) : ∀ kvs : List (κ × V), (kvs.any fun kv => decide (kv.1 = k)) = (dN kvs k).isSome
 | [] => rfl
 | p :: r => by
  rw [any_cons]
  by_cases e : p.1 = k
  ·simp only [pU e, decide_eq_true e, Bool.true_or, Option.isSome_some]
  ·rw [pH e, decide_eq_false e, Bool.false_or]; exact x9 k r
theorem gR (kvs : List (κ × V)) (k : κ) (v : V) : (putK kvs k v).length <= kvs.length + 1 := by
 unfold putK
 split
 ·rw [length_map]; omega
 ·rw [length_append, length_cons, length_nil]; omega
theorem oR.iH {o : Option V} {u : Option Value} (r : oR o u) : o.isSome = u.isSome := by
 cases o with
 | none => cases u with
  | none => rfl
  | some _ => exact (show False from r).elim
 | some _ => cases u with
  | none => exact (show False from r).elim
  | some _ => rfl
theorem oR.getD {o : Option V} {u : Option Value} {d : V} {d' : Value} (r : oR o u) (rd : RelV d d') : RelV (o.getD d) (u.getD d') := by
 cases o with
 | none => cases u with
  | none => exact rd
  | some _ => exact (show False from r).elim
 | some _ => cases u with
  | none => exact (show False from r).elim
  | some _ => exact r
theorem KV.val {kvs : List (κ × V)} {vs : List (κ × Value)} (r : KV kvs vs) (k : κ) : oR (dN kvs k) (valueAt vs k) := by
 unfold KV at r
 induction r with
 | nil => exact True.intro
 | @cons p q ps qs h t ih =>
  obtain ⟨h1, h2⟩ := h
  by_cases e : p.1 = k
  ·have e' : q.1 = k := h1.symm.trans e
   have b : valueAt (q :: qs) k = some q.2 := by simp [valueAt, find?_cons, e']
   rw [pU e, b]; exact h2
  ·have e' : ¬ q.1 = k := fun z => e (h1.trans z)
   have b : valueAt (q :: qs) k = valueAt qs k := by simp [valueAt, find?_cons, e']
   rw [pH e, b]; exact ih
theorem KV.any {kvs : List (κ × V)} {vs : List (κ × Value)} (r : KV kvs vs) (k : κ) : (kvs.any fun kv => decide (kv.1 = k)) = vs.any fun kv => decide (kv.1 = k) := by
 unfold KV at r
 induction r with
 | nil => rfl
 | cons h t ih => rw [any_cons, any_cons, ih, h.1]
theorem KV.zB {kvs : List (κ × V)} {vs : List (κ × Value)} (r : KV kvs vs) (k : κ) {y : V} (ry : RelV y u) :
  KV (kvs.map fun kv => if kv.1 = k then (kv.1, y) else kv) (vs.map fun kv => if kv.1 = k then (kv.1, u) else kv) := by
 unfold KV at r ⊢
 induction r with
 | nil => exact .nil
 | @cons p q ps qs h t ih =>
  rw [map_cons, map_cons]
  refine .cons ?_ ih
  obtain ⟨h1, h2⟩ := h
  by_cases e : p.1 = k
  ·rw [if_pos e, if_pos (h1.symm.trans e)]; exact ⟨h1, ry⟩
  ·rw [if_neg e, if_neg (fun z => e (h1.trans z))]; exact ⟨h1, h2⟩
theorem KV.put {kvs : List (κ × V)} {vs : List (κ × Value)} (r : KV kvs vs) (k : κ) {y : V} (ry : RelV y u) : KV (putK kvs k y) (stored vs k u) := by
 unfold putK stored
 rw [r.any k]
 by_cases e : (vs.any fun kv => decide (kv.1 = k)) = true
 ·rw [if_pos e, if_pos e]; exact r.zB k ry
 ·rw [if_neg e, if_neg e]; exact Paired.snoc r ⟨rfl, ry⟩
theorem KV.keys {kvs : List (κ × V)} {vs : List (κ × Value)} (r : KV kvs vs) : kvs.map (·.1) = vs.map (·.1) := by
 unfold KV at r
 induction r with
 | nil => rfl
 | cons h t ih => rw [map_cons, map_cons, ih, h.1]
theorem KV.length {kvs : List (κ × V)} {vs : List (κ × Value)} (r : KV kvs vs) : kvs.length = vs.length := Paired.length r
end
theorem lO {k : Key} {u : Value} (r : RelV (kV k) u) : (bM P w).is k u = true := by
 cases k with
 | inl i => obtain ⟨t, e⟩ := (show ∃ t, u = Value.int i t from r); subst e; exact xT P w i t
 | inr x => obtain ⟨t, e⟩ := (show ∃ t, u = Value.str x t from r); subst e; exact xH P w x t
theorem sC : ∀ {ks : List Key} {us : List Value}, Vals (ks.map kV) us -> ItemsAre (bM P w) ks us
 | [], _, r => by rw [map_nil] at r; cases r; exact .nil
 | k :: ks, _, r => by
  rw [map_cons] at r
  cases r with
  | cons h t => exact .cons (lO h) (sC t)
noncomputable abbrev KT (H : Hp) : List (List Key × V) -> List (List Key × Addr × Value) -> Prop := Paired fun p q => p.1 = q.1 /\ H q.2.1 = some (.tup (p.1.map kV)) /\ RelV p.2 q.2.2
theorem KT.val (r : KT H kvs xs) (k : List Key) : oR (dN kvs k) ((atKey xs k).map (·.2)) := by
 induction r with
 | nil => exact True.intro
 | @cons p q ps qs h t ih =>
  obtain ⟨h1, _, h2⟩ := h
  by_cases e : p.1 = k
  ·have e' : q.1 = k := h1.symm.trans e
   have b : atKey (q :: qs) k = some q.2 := by simp [atKey, find?_cons, e']
   rw [pU e, b]; exact h2
  ·have e' : ¬ q.1 = k := fun z => e (h1.trans z)
   have b : atKey (q :: qs) k = atKey qs k := by simp [atKey, find?_cons, e']
   rw [pH e, b]; exact ih
theorem KT.zB (r : KT H kvs xs) (k : List Key) {y : V} (ry : RelV y u) :
  KT H (kvs.map fun kv => if kv.1 = k then (kv.1, y) else kv) (xs.map (putAt k u)) := by
 induction r with
 | nil => exact .nil
 | @cons p q ps qs h t ih =>
  rw [map_cons, map_cons]
  refine .cons ?_ ih
  obtain ⟨h1, h2, h3⟩ := h
  unfold putAt
  by_cases e : p.1 = k
  ·rw [if_pos e, if_pos (h1.symm.trans e)]; exact ⟨h1, h2, ry⟩
  ·rw [if_neg e, if_neg (fun z => e (h1.trans z))]; exact ⟨h1, h2, h3⟩
theorem KT.put (r : KT H kvs xs) (k : List Key) {y : V} (hb : H b = some (.tup (k.map kV))) (ry : RelV y u) :
  KT H (putK kvs k y) (storedH xs k b u) := by
 have e : (kvs.any fun kv => decide (kv.1 = k)) = (atKey xs k).isSome := by
  rw [x9, (r.val k).iH, isSome_map]
 unfold putK storedH
 rw [e]
 by_cases q : (atKey xs k).isSome = true
 ·rw [if_pos q, if_pos q]; exact r.zB k ry
 ·rw [if_neg q, if_neg q]; exact Paired.snoc r ⟨rfl, hb, ry⟩
theorem KT.keeps (r : KT H kvs xs) (ht : ∀ b ys, H b = some (.tup ys) -> H' b = some (.tup ys)) : KT H' kvs xs :=
 Paired.PQ r fun _ _ z => ⟨z.1, ht _ _ z.2.1, z.2.2⟩
noncomputable def u3 (H : Hp) (a : Addr) (kvs : List (Key × V)) : Prop := ∃ ep, Rd H a (.dK kvs ep)
noncomputable def qP (H : Hp) (a : Addr) (kvs : List (Key × V)) : Prop := ∃ ep, H a = some (.dK kvs ep)
theorem qP.rd {kvs : List (Key × V)} (h : qP H a kvs) : u3 H a kvs := let ⟨ep, e⟩ := h; ⟨ep, .inl e⟩
theorem qP.WJ {kvs : List (Key × V)} (h : qP H a kvs) : S5 (H a) := by obtain ⟨_, e⟩ := h; rw [e]; exact True.intro
section
variable {P : Program} {w : World} {H : Hp} {h : Heap} {a : Addr}
theorem OE {u : HO} (ok : kC P w H h) (e : Rd H a u) : c9 P w H h a u := e.ok ok
theorem VN {kvs : List (Key × V)} (ok : kC P w H h) (e : Rd H a (.dK kvs ep)) : kvs.length <= sizeLine /\ (a == sysModules) = false /\ ∃ vs, KV kvs vs /\ h.DictAt (bM P w) a vs ep :=
 show c9 P w H h a (.dK kvs ep) from OE ok e
theorem gH {kvs : List (Key × V)} (ok : kC P w H h) (e : u3 H a kvs) : kvs.length <= sizeLine /\ (a == sysModules) = false /\ ∃ vs, KV kvs vs /\ h.DictOf (bM P w) a vs :=
 let ⟨_, e⟩ := e; let ⟨z, y, vs, r, d⟩ := VN ok e; ⟨z, y, vs, r, d.dictOf⟩
theorem FV {kvs : List (Key × V)} (ok : kC P w H h) (e : qP H a kvs) : kvs.length <= sizeLine /\ (a == sysModules) = false /\ ∃ vs, KV kvs vs /\ h.DictOf (bM P w) a vs := gH ok e.rd
theorem nF {ks : List Key} (ok : kC P w H h) (e : H a = some (.tup (ks.map kV))) : (tupleKind (bM P w)).is h ks a := by
 obtain ⟨_, its, r, ⟨o, h1, h2, n, h3⟩, _⟩ := (show c9 P w H h a (.tup (ks.map kV)) from ok a _ e)
 exact ⟨o, its.toArray, n, h1, h2, h3, by simpa using sC r⟩
theorem pN {kvs : List (List Key × V)} (ok : kC P w H h) (e : Rd H a (.dT kvs)) : kvs.length <= sizeLine /\ (a == sysModules) = false /\
  ∃ xs, KT H kvs xs /\ h.DictOfH (tupleKind (bM P w)) a xs := by
 obtain ⟨z, y, xs, r, o, es, ep, h1, h2, h3, h4, h5⟩ := (show c9 P w H h a (.dT kvs) from OE ok e)
 refine ⟨z, y, xs, r, o, es, ep, h1, h2, h3, h4, fun x hx => ?_, h5⟩
 have all : ∀ {l : List (List Key × V)} {m : List (List Key × Addr × Value)}, KT H l m -> ∀ x ∈ m, (tupleKind (bM P w)).is h x.1 x.2.1 := by
  intro l m q
  induction q with
  | nil => intro x hx; exact nomatch hx
  | @cons p q ps qs hq t ih =>
   intro x hx
   rcases mem_cons.mp hx with e | hx
   ·subst e
    exact nF ok (by rw [<- hq.1]; exact hq.2.1)
   ·exact ih x hx
 exact all r x hx
theorem UQ (ok : kC P w H h) (e : H a = some (.dT kvs)) : kvs.length <= sizeLine /\ (a == sysModules) = false /\
  ∃ xs, KT H kvs xs /\ h.DictOfH (tupleKind (bM P w)) a xs := pN ok (.inl e)
end
noncomputable def AI (H : Hp) (a : Addr) (y : V) (r : Option V) : Prop :=
 (∃ kvs k, u3 H a kvs /\ y = kV k /\ r = dN kvs k) \/ ∃ kvs k b, Rd H a (.dT kvs) /\ y = .ref b /\ H b = some (.tup (k.map kV)) /\ r = dN kvs k
noncomputable def TN (H : Hp) (a : Addr) (y v : V) (Q : Hp -> Prop) : Prop :=
 (∃ kvs k, qP H a kvs /\ y = kV k /\ kvs.length < sizeLine /\ ∀ ep, Q (upd H a (.dK (putK kvs k v) ep))) \/
 ∃ kvs k b, H a = some (.dT kvs) /\ y = .ref b /\ H b = some (.tup (k.map kV)) /\ kvs.length < sizeLine /\ Q (upd H a (.dT (putK kvs k v)))
section
variable {X : Cx} {pins : List (Addr × Obj)} {σ : St} {H : Hp} {s : Shared} {a : Addr} {y v : V} {u r : Value} {o : Option V} {A : Around} {E : Value -> Shared -> Prop}
theorem Inv.big (I : Inv X pins σ H s) : sysModules < s.heap.objs.size := by
 have h : mainGlobals < s.heap.objs.size := (I.mod.glob.keeps I.bk).lt
 exact lt_trans (by decide) h
theorem CL (hu : A.units + 1 < cLine) (I : Inv X pins σ H s) (g : AI H a y (some v)) (ry : RelV y u) (h : ∀ w' s', Inv X pins σ H s' -> RelV v w' -> Q w' s') :
  wpAny (model X.prog X.w) A (getItem (.ref a) u) Q E s := by
 rcases g with ⟨kvs, k, e, ey, l⟩ | ⟨kvs, k, b, e, ey, eb, l⟩
 ·subst ey
  obtain ⟨z, hd, vs, rel, dd⟩ := gH I.bN e
  obtain ⟨w', hw, rw'⟩ := oR.some_of (v := v) (o := valueAt vs k) (by rw [l]; exact rel.val k)
  exact wpAny_getItem_of (lO ry) dd.mapOf hw (h w' _ (I.tok _) rw')
 ·subst ey
  cases (show u = Value.ref b from ry)
  obtain ⟨z, hd, xs, rel, dd⟩ := pN I.bN e
  obtain ⟨w', hw, rw'⟩ := oR.some_of (v := v) (o := (atKey xs k).map (·.2)) (by rw [l]; exact rel.val k)
  obtain ⟨p, hp, hp2⟩ := map_eq_some_iff.mp hw
  refine wpAny_getItem_heap (tupleKind_room_in1 hu) (nF I.bN eb) dd hp ?_
  rw [hp2]
  exact h w' _ (I.tok _) rw'
theorem XJ (hu : A.units + 1 < cLine) (I : Inv X pins σ H s) (g : AI H a y o) (ry : RelV y u) (h : ∀ s', Inv X pins σ H s' -> Q (.bool o.isSome) s') :
  wpAny (model X.prog X.w) A (compareOp .In u (.ref a)) Q E s := by
 rcases g with ⟨kvs, k, e, ey, l⟩ | ⟨kvs, k, b, e, ey, eb, l⟩
 ·subst ey
  obtain ⟨z, hd, vs, rel, dd⟩ := gH I.bN e
  refine wpAny_in_of (lO ry) hd dd.mapOf ?_
  rw [<- (rel.val k).iH, <- l]
  exact h _ (I.tok _)
 ·subst ey
  cases (show u = Value.ref b from ry)
  obtain ⟨z, hd, xs, rel, dd⟩ := pN I.bN e
  refine wpAny_in_heap (tupleKind_room_in1 hu) (nF I.bN eb) hd dd ?_
  have q := (rel.val k).iH
  rw [isSome_map] at q
  rw [<- q, <- l]
  exact h _ (I.tok _)
theorem MW (hu : A.units + 1 < cLine) (I : Inv X pins σ H s) (g : AI H a y o) (ry : RelV y u) (h : ∀ s', Inv X pins σ H s' -> Q (.bool (!o.isSome)) s') :
  wpAny (model X.prog X.w) A (compareOp .NotIn u (.ref a)) Q E s := by
 rcases g with ⟨kvs, k, e, ey, l⟩ | ⟨kvs, k, b, e, ey, eb, l⟩
 ·subst ey
  obtain ⟨z, hd, vs, rel, dd⟩ := gH I.bN e
  refine wpAny_notIn_of (lO ry) hd dd.mapOf ?_
  rw [<- (rel.val k).iH, <- l]
  exact h _ (I.tok _)
 ·subst ey
  cases (show u = Value.ref b from ry)
  obtain ⟨z, hd, xs, rel, dd⟩ := pN I.bN e
  refine wpAny_notIn_heap (tupleKind_room_in1 hu) (nF I.bN eb) hd dd ?_
  have q := (rel.val k).iH
  rw [isSome_map] at q
  rw [<- q, <- l]
  exact h _ (I.tok _)
theorem oY {t' : Nat} {ob : HO} (I : Inv X pins σ H s) (mu : S5 (H a)) (hs : Heap.SameBut a s.heap h') (he : ∃ q, h'.get? a = some q) (new : c9 X.prog X.w (upd H a ob) h' a ob) :
  Inv X pins σ (upd H a ob) { s with heap := h', toks := t' } :=
 I.write (x := a) (e := a) mu (.inl rfl) (fun b q hb z => (hs.2 b hb).trans z) he new
theorem AE {kvs : List (Key × V)} {vs : List (Key × Value)} (z : kvs.length <= sizeLine) (hd : (a == sysModules) = false) (rel : KV kvs vs) (dd : h'.DictAt (bM P w) a vs ep) :
  c9 P w H' h' a (.dK kvs ep) := ⟨z, hd, vs, rel, dd⟩
theorem CK {Z : Hp -> Prop} {Q : Unit -> Shared -> Prop} (hu : A.units + 1 < cLine) (I : Inv X pins σ H s) (g : TN H a y v Z) (ry : RelV y u) (rv : RelV v r) (h : ∀ H' s', Inv X pins σ H' s' -> Z H' -> Q () s') :
  wpAny (model X.prog X.w) A (setItem (.ref a) u r) Q E s := by
 rcases g with ⟨kvs, k, e, ey, l, eH⟩ | ⟨kvs, k, b, e, ey, eb, l, eH⟩
 ·subst ey
  obtain ⟨z, hd, vs, rel, dd⟩ := FV I.bN e
  have hz : vs.length <= sizeLine := by rw [<- rel.length]; exact z
  have hl : (putK kvs k v).length <= sizeLine := by have := gR kvs k v; omega
  refine wpAny_setItem_pairs (hsz := hz) (lO ry) dd fun h' dd' hs => ?_
  obtain ⟨ep, da⟩ := dd'.dictAt
  refine h _ _ ?_ (eH ep)
  have he : ∃ q, h'.get? a = some q := let ⟨q, _, _, hq, _⟩ := dd'; ⟨q, hq⟩
  exact oY I e.WJ hs he (AE hl hd (rel.put k rv) da)
 ·subst ey
  cases (show u = Value.ref b from ry)
  obtain ⟨z, hd, xs, rel, dd⟩ := UQ I.bN e
  have hz : xs.length <= sizeLine := by rw [<- Paired.length rel]; exact z
  have hl : (putK kvs k v).length <= sizeLine := by have := gR kvs k v; omega
  refine wpAny_setItem_heap (hsz := hz) (tupleKind_room_in1 hu) (nF I.bN eb) dd fun h' dd' hs => h _ _ ?_ eH
  obtain ⟨q, es, ep, hq, h2, h3, h4, _, h5⟩ := dd'
  refine oY I (by rw [e]; exact True.intro) hs ⟨q, hq⟩ ⟨hl, hd, _, (rel.put k eb rv).keeps fun c ys ec => ?_, q, es, ep, hq, h2, h3, h4, h5⟩
  rw [aP (FC ec e (fun z => nomatch z))]
  exact ec
end
theorem w9 {y : V} {o : Option V} (I : Inv X pins σ H s) (g : AI H a y o) : s.TypeIs (.ref a) "dict" := by
 rcases g with ⟨kvs, k, e, _, _⟩ | ⟨kvs, k, b, e, _, _, _⟩
 ·obtain ⟨_, _, vs, _, dd⟩ := gH I.bN e
  exact dd.typeIs
 ·obtain ⟨_, _, xs, _, dd⟩ := pN I.bN e
  exact dd.typeIs
noncomputable def oG (td ty tv : TE) : TS := fun D σ H => tv σ H fun v H1 => td σ H1 fun x H2 => ty σ H2 fun y H3 => ∃ a, x = .ref a /\ TN H3 a y v (D.nx σ)
section
variable {X : Cx} {o i e value : Expr} {pos pos' tpos : Pos} {td ty tv : TE}
theorem tU (hu : X.A.units + 1 < cLine) (ho : PE X o td) (hi : PE X i ty) (hv : PE X value tv) (hs : swapsWith value (some (.Subscript o i pos')) pos.line X.env = pure false) :
  PS X (.Assign [.Subscript o i pos'] value pos) (oG td ty tv) := by
 intro pins s σ H D I h
 refine wpAny_Assign_Subscript (cJ (hv pins s σ H _ I h) fun r s1 ⟨v, H1, I1, rv, q1⟩ => cJ (ho pins s1 σ H1 _ I1 q1) fun u s2 ⟨x, H2, I2, rx, q2⟩ => cJ (hi pins s2 σ H2 _ I2 q2) fun iv s3 ⟨y, H3, I3, ry, a, ex, g⟩ => ?_) hs
 subst ex
 obtain rfl : u = Value.ref a := rx
 exact CK hu I3 g ry rv fun H4 s4 I4 q3 => ⟨σ, H4, I4, q3⟩
end
theorem J0 (h : Heap) (hb : sysModules < h.objs.size) : c9 P w H (h.push { cls := .type "dict", data := .dict #[] }) h.objs.size (.dK [] 0) :=
 ⟨zero_le _, beq_eq_false_iff_ne.mpr (Ne.symm (ne_of_lt hb)), [], .nil, _, #[], get?_push_size _ rfl, ⟨rfl, rfl, rfl⟩, rfl, (fun _ he => by simp at he), PySem.Pairs.nil, nodup_nil⟩
noncomputable def yV : TE := fun _ H Q => ∀ p, H p = none -> Q (.ref p) (upd H p (.dK [] 0))
section
variable {X : Cx} {pos : Pos}
theorem l6 : PE X (.Dict [] [] pos) yV := fun pins s σ H Q I h =>
 wpAny_Dict_empty ⟨.ref s.heap.objs.size, _, I.laid (a := s.heap.objs.size) (o := .dK [] 0) (t' := s.toks) (fun _ _ q => get?_push_of_some _ q) (le_refl _) (J0 s.heap I.big), rfl, h _ (I.bN.fresh (le_refl _))⟩
end
structure M1 (X : Cx) (o : Expr) (m : Str) (apos : Pos) (e : Expr) (cpos : Pos) : Prop where
 base : attributeBase o m X.env (eval o X.env) = eval o X.env
 WG : ((backTo cpos (starEach [e] X.env)).all (fun x => !x.1) && (backToKw cpos (keywordEach [] X.env)).all (fun x => x.1.isSome)
  && decide (([e] : List Expr).length + ([] : List Keyword).length + (if ([] : List Keyword).isEmpty then 0 else 1) < 30)) = true
 line : (apos.endLine == cpos.line) = true
 trees : backTo cpos (starEach [e] X.env) = [(false, eval e X.env)]
structure M2 (X : Cx) (o : Expr) (m : Str) (apos : Pos) (e f : Expr) (cpos : Pos) : Prop where
 base : attributeBase o m X.env (eval o X.env) = eval o X.env
 WG : ((backTo cpos (starEach [e, f] X.env)).all (fun x => !x.1) && (backToKw cpos (keywordEach [] X.env)).all (fun x => x.1.isSome)
  && decide (([e, f] : List Expr).length + ([] : List Keyword).length + (if ([] : List Keyword).isEmpty then 0 else 1) < 30)) = true
 line : (apos.endLine == cpos.line) = true
 trees : backTo cpos (starEach [e, f] X.env) = [(false, eval e X.env), (false, eval f X.env)]
noncomputable def XH (H : Hp) (a : Addr) : Prop := (∃ kvs, u3 H a kvs) \/ ∃ kvs, Rd H a (.dT kvs)
theorem GI (I : Inv X pins σ H s) (d : XH H a) :
  s.TypeIs (.ref a) "dict" /\ (∀ b, Value.ref a = .ref b -> ∃ ob, s.heap.get? b = some ob /\ ob.dict = none) /\ (a == sysModules) = false := by
 rcases d with ⟨kvs, e⟩ | ⟨kvs, e⟩
 ·obtain ⟨_, hd, vs, _, dd⟩ := gH I.bN e
  refine ⟨dd.typeIs, fun b q => ?_, hd⟩
  cases q
  obtain ⟨ob, _, _, h1, h2, _⟩ := dd
  exact ⟨ob, h1, h2.2.1⟩
 ·obtain ⟨_, hd, xs, _, dd⟩ := pN I.bN e
  refine ⟨dd.typeIs, fun b q => ?_, hd⟩
  cases q
  obtain ⟨ob, _, _, h1, h2, _⟩ := dd
  exact ⟨ob, h1, h2.2.1⟩
section
variable {X : Cx} {pins : List (Addr × Obj)} {σ : St} {H : Hp} {s : Shared} {a : Addr} {y d : V} {u r : Value} {o : Option V} {A : Around} {E : Value -> Shared -> Prop}
theorem Q6 (hu : A.units + 1 < cLine) (I : Inv X pins σ H s) (g : AI H a y o) (ry : RelV y u) (h : ∀ w' s', Inv X pins σ H s' -> RelV (o.getD .bF) w' -> Q w' s') :
  wpAny (model X.prog X.w) A (call (.builtin "dict.get") [.ref a, u]) Q E s := by
 rcases g with ⟨kvs, k, e, ey, l⟩ | ⟨kvs, k, b, e, ey, eb, l⟩
 ·subst ey
  obtain ⟨z, hd, vs, rel, dd⟩ := gH I.bN e
  refine call_meetsIn slot_dict_get dd.typeIs PySem.F.entry_dict_get (PySem.F.args_dict_get_2 _ _) (meets_dict_get (bM X.prog X.w) a (lO ry) hd) ⟨_, dd.mapOf, h _ _ (I.tok _) ?_⟩
  rw [l]
  exact (rel.val k).getD rfl
 ·subst ey
  cases (show u = Value.ref b from ry)
  obtain ⟨z, hd, xs, rel, dd⟩ := pN I.bN e
  refine call_meetsIn slot_dict_get dd.typeIs PySem.F.entry_dict_get (PySem.F.args_dict_get_2 _ _) (meetsH_dict_get (tupleKind (bM X.prog X.w)) a b hd) ⟨tupleKind_room_in1 hu, k, xs, nF I.bN eb, dd, h _ _ (I.tok _) ?_⟩
  rw [l]
  exact (rel.val k).getD rfl
end
noncomputable def HD (td ty : TE) : TE := fun σ H Q => td σ H fun x H1 => ∃ a, x = .ref a /\ XH H1 a /\ ty σ H1 fun y H2 => ∃ o, AI H2 a y o /\ Q (o.getD .bF) H2
section
variable {X : Cx} {o e f : Expr} {apos cpos : Pos} {td ty tx : TE}
theorem F6 (hu : X.A.units + 1 < cLine) (ho : PE X o td) (he : PE X e ty) (m : M1 X o "get" apos e cpos) : PE X (.Call (.Attribute o "get" apos) [e] [] cpos) (HD td ty) := by
 intro pins s σ H Q I h
 refine wpAny_Call_method m.base m.WG m.line plainAttrs_dict slot_dict_get PySem.F.type_dict_get (cJ (ho pins s σ H _ I h) fun u s1 ⟨x, H1, I1, rx, a, ex, d, q1⟩ => ?_)
 subst ex
 obtain rfl : u = Value.ref a := rx
 obtain ⟨t1, t2, _⟩ := GI I1 d
 refine ⟨t1, t2, ?_⟩
 rw [m.trees]
 refine Calls.callWith_builtin rfl (Calls.evalArgs_plain (Calls.spliced_cons (cJ (he pins s1 σ H1 _ I1 q1) fun iv s2 ⟨y, H2, I2, ry, ov, g, q2⟩ => Calls.spliced_nil ?_)))
 exact Q6 hu I2 g ry fun w' s3 I3 rw' => ⟨_, H2, I3, rw', q2⟩
end
section
variable {X : Cx} {es : List Expr} {te : TE} {t : TA}
theorem WD {a b c} (ha : PE X (.Constant a b c) te) (hr : PA X es t) : PA X (.Constant a b c :: es) (dU te t) := aA ha hr rfl
theorem XS {a b} (ha : PE X (.Name a b) te) (hr : PA X es t) : PA X (.Name a b :: es) (dU te t) := aA ha hr rfl
theorem XR {a b c d} (ha : PE X (.BinOp a b c d) te) (hr : PA X es t) : PA X (.BinOp a b c d :: es) (dU te t) := aA ha hr rfl
theorem W4 {a b c} (ha : PE X (.Subscript a b c) te) (hr : PA X es t) : PA X (.Subscript a b c :: es) (dU te t) := aA ha hr rfl
end
section
variable {X : Cx} {elt tg iter : Expr} {ifs : List Expr} {scope : Scope} {pos : Pos} {wi : TI} {g : TG} {tt : TT} {te : TE} {N : List Str} {k : Nat} {bV : List Nat}
theorem LO {iy : Nat} (hc : X.calm = true) (hNd : X.N.Nodup) (hiy : X.N[iy]? = some y) (hy : X.env.scope.names.lookup y = some .local)
  (S : eS X scope N k bV) (hi : PI X tg iter wi) (hg : ∀ c, PG (aY X scope N c) tg g) (ht : ∀ c, OM (aY X scope N c) ifs tt) (he : ∀ c, PE (aY X scope N c) elt te)
  (hsw : swapsWith (.ListComp elt [⟨tg, iter, ifs, 0⟩] scope pos) (some (.Name y py)) spos.line X.env = pure true)
  (hs : ∀ x, foldedSetIterable iter X.env x = pure x := by intro _; rfl) : PS X (.Assign [.Name y py] (.ListComp elt [⟨tg, iter, ifs, 0⟩] scope pos) spos) (u6 (sG wi k bV g tt te) (lM iy)) := by
 intro pins s σ H D I h
 rw [exec_Assign_Name_used _ _ _ _ hsw]
 refine wpAny_bind (wpAny_standAt (wpAny_bind ?_))
 obtain ⟨cl, hclos, hcl1, hcl2⟩ := hB (scope := scope) (env := X.env) (fun p hp hf => I.ok.has p.1 (S.free p hp hf))
 show wpAny _ X.A (do let _ <- comprehension (.ListComp elt [⟨tg, iter, ifs, 0⟩] scope pos) scope X.env _ (newList []) false (eval iter X.env) (some (assign (.Name y py) X.env))) _ _ s
 refine wpAny_bind (wpAny_mono (wpAny_comprehension_free (use := some (assign (.Name y py) X.env)) (Q := fun _ s' => SP X pins D .next s') rfl hs hclos S.kind S.names (cJ (hi pins s σ H _ I h) fun v s1 h1 => cJ h1 fun itv s2 h2 => ?_)) (fun _ s' hq => wpAny_pure (wpAny_pure hq)) fun _ _ e => e)
 obtain ⟨it, fp, tn, J, H2, e, I2, T, st2, f2, q2⟩ := h2
 subst e
 obtain ⟨W, ⟨m0, w0⟩, turn⟩ := q2 s2.heap.objs.size (I2.bN.fresh (le_refl _))
 have hob : ∀ b ∈ fp, b < s2.heap.objs.size := fun b hb => let ⟨o, e, _⟩ := T.obj _ _ st2 b hb; lt_size e
 refine wpAny_newObj_type (wpAny_newFunctionEnv S.cell (by intro y hy; simp at hy) (fun h₁ hns₁ hsb₁ => ?_) S.kind)
 dsimp only at hns₁ hsb₁ ⊢
 generalize hHH : s2.heap.push { cls := .type "list", dict := none, data := .seq ([] : List Value).toArray } = HH at hns₁ hsb₁ ⊢
 have hCC : HH.objs.size = s2.heap.objs.size + 1 := by rw [<- hHH, size_push]
 have old : ∀ b o, s2.heap.get? b = some o -> h₁.get? b = some o := fun b o e => hsb₁.extBut b o (ne_of_lt (hCC ▸ lt_succ_of_lt (lt_size e))) (get?_push_of_some _ (hHH ▸ get?_push_of_some _ e))
 have hD : h₁.get? s2.heap.objs.size = some { cls := .type "list", data := .seq #[] 0 } := hsb₁.extBut _ _ (ne_of_lt (hCC ▸ lt_succ_self _)) (get?_push_of_some _ (hHH ▸ get?_push_size _ rfl))
 have I4 := fun tk => BR (tk := tk) S I2 hcl1 hcl2 hCC f2 hob old hD hns₁
 have X' := aY X scope N ⟨cl, HH.objs.size, s2, H2, fp⟩
 have stat : ∀ {H' : Hp}, (∀ b ∈ fp, H' b = none) -> ∀ b ∈ fp, mO (aY X scope N ⟨cl, HH.objs.size, s2, H2, fp⟩) [] H' b := fun hn b hb =>
  ⟨hn b hb, ne_of_lt (hCC ▸ lt_succ_of_lt (hob b hb)), (qQ S I2 hcl1 hcl2 (hCC ▸ le_succ _) f2 hob).vP b hb, .inl hb, fun x c e => (f2 b hb).2.2.2.2.1 x c (hcl1 x c e), fun p hp => absurd (show p ∈ ([] : List (Addr × Obj)) from hp) (by simp)⟩
 have loop : ∀ s₃ : Shared, s₃ = { s2 with heap := h₁, toks := s2.toks + ([] : List (Str × Value)).length } ->
   codeAny (model X.prog X.w) X.A (.compLoop (.ListComp elt [⟨tg, iter, ifs, 0⟩] scope pos) 0 (.ref it) (.ref s2.heap.objs.size) (compEnvC scope cl HH.objs.size X.env))
    (compPost (model X.prog X.w) X.A X.xe (some (assign (.Name y py) X.env)) (fun _ s' => SP X pins D .next s') (.ref s2.heap.objs.size) HH.objs.size) s₃ := by
  rintro s₃ rfl
  refine tH (fun n s' => ∃ i σ' H', Inv (aY X scope N ⟨cl, HH.objs.size, s2, H2, fp⟩) [] σ' H' s' /\ tn i s'.heap /\ (∀ b ∈ fp, H' b = none) /\ W i n σ' H') ?_ m0
   ⟨0, dX k bV σ, _, I4 _, T.keep _ _ _ st2 fun b _ o e => old b o e, fun b hb => by rw [aP (ne_of_lt (hob b hb))]; exact (f2 b hb).1, w0⟩
  rintro n s3 ⟨i, σ3, H3, I3, st3, fr3, w3⟩
  rcases turn i n σ3 H3 w3 with ⟨stop, qn⟩ | ⟨go, NN, hN, step⟩
  ·refine cJ (T.done (aY X scope N ⟨cl, HH.objs.size, s2, H2, fp⟩) rfl rfl rfl hc i [] s3 σ3 H3 _ I3 (stat fr3) st3 stop) fun r s4 ⟨hr, J4⟩ => ?_
   subst hr
   obtain ⟨m, hn, _⟩ := J4.loc
   obtain ⟨oC, es, ep, hoC, hdC, rC⟩ := hn
   have gJ : ∀ b o, s2.heap.get? b = some o -> b ≠ HH.objs.size := fun b o e => ne_of_lt (hCC ▸ lt_succ_of_lt (lt_size e))
   have szC : s2.heap.objs.size <= HH.objs.size := hCC ▸ le_succ _
   have u := J4.base
   have I4x : Inv X pins σ H3 s4 := I2.EU (ch := fp) J4.os u J4.bN J4.bare fun b hb => by
    obtain ⟨_, f1, _, f3, f4, f5⟩ := f2 b hb
    exact ⟨f3, f1, f4, f5⟩
   have lC : HH.objs.size ≠ X.env.locals := ne_of_gt (lt_of_lt_of_le I2.lt szC)
   have I4p : Inv X ((HH.objs.size, oC) :: pins) σ H3 s4 := I4x.o8 fun p hp => by
    rcases mem_cons.mp hp with r | r
    ·rw [r]
     exact ⟨hoC, J4.free, lC, I2.VC szC, fun v z => by rw [hdC] at z; cases z⟩
    ·exact I4x.pin p (mem_append_right _ r)
   show wpAny _ X.A (assign (.Name y py) X.env (.ref s2.heap.objs.size)) _ _ _
   refine wpAny_assign_Name (qL I4p hNd hiy (.inl hy) (v := .ref s2.heap.objs.size) rfl (fun s5 I5 => ?_) (.inr hy))
   have hC5 := I5.pin (HH.objs.size, oC) (mem_append_right _ mem_cons_self)
   refine ⟨m, ⟨oC, es, ep, hC5.1, hdC, rC⟩, fun h' hs' => ⟨_, H3, ?_, qn⟩⟩
   have I6 : Inv X pins (σ.set iy (some (.ref s2.heap.objs.size))) H3 s5 := I5.o8 fun p hp => I5.pin p (mem_append_right _ (mem_cons_of_mem _ hp))
   refine I6.turned (it := HH.objs.size) (t' := s5.toks) (fun b o hb e => hs'.extBut b o hb e) J4.free lC (.inr (le_trans I2.sz szC)) (fun x c e => ?_) (fun p hp => ?_)
   ·obtain ⟨v, q⟩ := I2.cell x c e
    exact ne_of_lt (lt_of_lt_of_le q.lt szC)
   ·exact gJ p.1 p.2 (I2.pin p hp).1
  ·refine cJ (T.item (aY X scope N ⟨cl, HH.objs.size, s2, H2, fp⟩) rfl rfl rfl hc i [] s3 σ3 H3 _ I3 (stat fr3) st3 go) fun r s4 ⟨u, hr, h4⟩ => ?_
   subst hr
   refine cJ h4 fun _ s5 ⟨x, H5, I5, r5, y5, st5, fr5⟩ => ?_
   have I5' := I5.pinned (stat fr5) (T.obj _ _ st5)
   have again : ∀ {s7 : Shared} {σ7 : St} {H7 : Hp}, Inv (aY X scope N ⟨cl, HH.objs.size, s2, H2, fp⟩) ([] ++ k9 fp s5.heap) σ7 H7 s7 -> NN σ7 H7 ->
     ∃ m, m < n /\ ∃ i σ' H', Inv (aY X scope N ⟨cl, HH.objs.size, s2, H2, fp⟩) [] σ' H' s7 /\ tn i s7.heap /\ (∀ b ∈ fp, H' b = none) /\ W i m σ' H' := fun {s7 σ7 H7} I7 n7 => by
    obtain ⟨m', hm, w7⟩ := hN σ7 H7 n7
    refine ⟨m', hm, i + 1, σ7, H7, I7.iF, T.keep _ _ _ st5 fun b hb o e => (I7.pin (b, o) (mem_append_right _ (mem_append_right _ (dA hb e)))).1, fun b hb => ?_, w7⟩
    obtain ⟨o, e, d⟩ := T.obj _ _ st5 b hb
    exact (I7.pin (b, o) (mem_append_right _ (mem_append_right _ (dA hb e)))).2.1
   refine cJ (hg _ _ s5 σ3 H5 x u _ I5' r5 (step x H5 y5)) fun _ s6 ⟨σ6, H6, I6, q6⟩ => ?_
   refine cJ (ht _ _ s6 σ6 H6 _ I6 q6) fun b s7 ⟨H7, I7, q7⟩ => ?_
   cases b with
   | false => exact again I7 q7
   | true =>
    refine cJ (he _ _ s7 σ6 H7 _ I7 q7) fun y s8 ⟨yv, H8, I8, r8, xs, hl, hz, n8⟩ => ?_
    refine cJ (eR _ s8 σ6 H8 (.ref s2.heap.objs.size) [yv] (.ref s2.heap.objs.size) [y] (fun _ H9 => NN σ6 H9) I8 rfl (.cons r8 .nil) ⟨_, xs, yv, rfl, rfl, hl, hz, n8⟩) fun _ s9 ⟨_, H9, I9, _, q9⟩ => ?_
    exact again I9 q9
 exact codeAny_compStart_list (loop _ rfl) (T.self X.A 0 _ _ _ (T.keep _ _ _ st2 fun b _ o e => old b o e) (loop _ rfl))
theorem lN (N : List Str) (k : Nat) (bV : List Nat) (XN : List Str) (xs : Scope) (hc : X.calm = true) (hN : X.N = XN) (hx : X.env.scope = xs) (hNd : X.N.Nodup) (hiy : X.N[i]? = some y) (hy : X.env.scope.names.lookup y = some .local)
  (hi : PI X tg iter wi) (chk : mM XN xs scope N k bV = true) (hg : ∀ c, PG (aY X scope N c) tg g) (ht : ∀ c, OM (aY X scope N c) ifs tt) (he : ∀ c, PE (aY X scope N c) elt te)
  (hsw : swapsWith (.ListComp elt [⟨tg, iter, ifs, 0⟩] scope pos) (some (.Name y py)) spos.line X.env = pure true := by rfl)
  (hs : ∀ x, foldedSetIterable iter X.env x = pure x := by intro _; rfl) : PS X (.Assign [.Name y py] (.ListComp elt [⟨tg, iter, ifs, 0⟩] scope pos) spos) (u6 (sG wi k bV g tt te) (lM i)) :=
 LO hc hNd hiy hy (iR hN hx chk) hi hg ht he hsw hs
end
section
variable {X : Cx} {es : List Expr} {e : Expr} {te tk tv : TE} {t : TA}
structure LJ (X : Cx) (e : Expr) (t : TE) : Prop where
 h : PE X e t
structure ER (X : Cx) (es : List Expr) (t : TA) : Prop where
 h : PA X es t
theorem ew (h : PE X e te) : LJ X e te := ⟨h⟩
theorem IT : ER X [] lW := ⟨aD⟩
theorem RY {a b} (ha : LJ X (.Name a b) te) (hr : ER X es t) : ER X (.Name a b :: es) (dU te t) := ⟨XS ha.h hr.h⟩
theorem V7 {a b c} (ha : LJ X (.Constant a b c) te) (hr : ER X es t) : ER X (.Constant a b c :: es) (dU te t) := ⟨WD ha.h hr.h⟩
theorem WU {a b c d} (ha : LJ X (.BinOp a b c d) te) (hr : ER X es t) : ER X (.BinOp a b c d :: es) (dU te t) := ⟨XR ha.h hr.h⟩
theorem TU {a b c} (ha : LJ X (.Subscript a b c) te) (hr : ER X es t) : ER X (.Subscript a b c :: es) (dU te t) := ⟨W4 ha.h hr.h⟩
theorem WC {k} (h : ER X es t) : LJ X (.Tuple es k pos) (QA t) := ⟨bW h.h⟩
theorem V9 (h : ER X es t) : LJ X (.List es pos) (J5 t) := ⟨dM h.h⟩
end
noncomputable def CI (A : Around) (s : Shared) (x y : Value) (c : Bool) : Prop :=
 ∀ (prog : Program) (w : World) (E : Value -> Shared -> Prop) (Q : Value -> Shared -> Prop), Q (.bool c) s -> wpAny (model prog w) A (richCompare .Lt x y) Q E s
inductive xB (A : Around) (s : Shared) (fin : Bool) : List (Value × Value) -> Bool -> Prop
 | done : xB A s fin [] fin
 | same {p q : Value} {r : List (Value × Value)} {c : Bool} : SeqAt.EqAt A s p q true -> xB A s fin r c -> xB A s fin ((p, q) :: r) c
 | less {p q : Value} {r : List (Value × Value)} {c : Bool} : SeqAt.EqAt A s p q false -> CI A s p q c -> xB A s fin ((p, q) :: r) c
section
open PySem.SeqAt
open PySem.AutoSeq1 (wpAny_loadPart')
open PySem.MeetsSeq PySem.MeetsSeq2 PySem.MeetsSeq3
theorem RK (l b : Addr) (us vs : Array Value) (n m : Nat) (d1 d2 : Option Addr) (k1 k2 : Array (Option Value)) (c : Bool) :
  Meets (Builtin.«tuple.__lt__» ⟨[.ref l, .ref b], []⟩) (fun A R s => s.heap.get? l = some ⟨.type "tuple", d1, .seq us n, k1⟩ /\ s.heap.get? b = some ⟨.type "tuple", d2, .seq vs m, k2⟩ /\
   xB A.in1 s (decide (us.size < vs.size)) (us.toList.zip vs.toList) c /\ R (.ok (.ret (.bool c))) s) :=
 .of_wp fun prog w A R s h => by
  obtain ⟨hp, gg, dd, tk, os⟩ := s
  obtain ⟨hl, hb, hx, hr⟩ := h
  have f2 := AutoSeq1.sub_tuple_tuple
  wp_walk using wpAny_loadPart' hl, wpAny_loadPart' hb, wpAny_forIn_list _ (fun rest acc s' => acc.1 = none /\ s' = ⟨hp, gg, dd, tk, os⟩ /\ xB A.in1 ⟨hp, gg, dd, tk, os⟩ (decide (us.size < vs.size)) rest c) _
  case turn =>
   rintro ⟨y, x⟩ rest acc s' ⟨ha, rfl, hx'⟩
   cases hx' with
   | same he hrest =>
    refine wpAny_bind (he prog w _ _ ?_)
    wp_walk
    exact ⟨rfl, rfl, hrest⟩
   | less he hlt =>
    refine wpAny_bind (he prog w _ _ ?_)
    have hq := hlt prog w
    wp_walk using hq
    exact ⟨_, rfl, by simpa using hr⟩
  case fin =>
   rintro ⟨b1, b2⟩ s' ⟨ha, rfl, hx'⟩
   simp only at ha
   subst ha
   cases hx'
   wp_walk
   exact ⟨_, rfl, by simpa [Builtin.Tuple.tupleCompareSizes] using hr⟩
  case h => exact ⟨rfl, rfl, hx⟩
end
theorem RO {A : Around} {us vs : Array Value} {c : Bool} (hl : IsTup s.heap l us) (hb : IsTup s.heap b vs) (hu : A.units < cLine) (hx : xB A.in1 s (decide (us.size < vs.size)) (us.toList.zip vs.toList) c) :
  CI A s (.ref l) (.ref b) c := by
 intro prog w E Q q
 obtain ⟨⟨c1, d1, t1, k1⟩, g1, e1, n, r1⟩ := id hl
 obtain ⟨⟨c2, d2, t2, k2⟩, g2, e2, m, r2⟩ := id hb
 simp only at e1 r1 e2 r2
 subst e1 r1 e2 r2
 exact richCompare_meets_room (op := .Lt) ⟨_, g1, rfl⟩ ⟨_, g2, rfl⟩ PySem.F.slot_tuple_lt PySem.F.entry_tuple_lt (PySem.F.args_tuple_lt_2 _ _) (RK l b us vs n m d1 d2 k1 k2 c) ⟨g1, g2, hx, (fun x => nomatch x), q⟩ hu
section
open PySem.W
noncomputable def Al (n : Nat) (P : α -> Prop) : KasT α -> Prop
 | .ret a => P a
 | .ask i j k => i < n /\ j < n /\ ∀ b, Al n P (k b)
theorem Al.bind {P : α -> Prop} {R : β -> Prop} {f : α -> KasT β} : ∀ {t : KasT α}, Al n P t -> (∀ a, P a -> Al n R (f a)) -> Al n R (t.bind f)
 | .ret a, h, hf => hf a h
 | .ask _ _ _, h, hf => ⟨h.1, h.2.1, fun b => Al.bind (h.2.2 b) hf⟩
noncomputable def kY (n : Nat) (p : Array Nat) : Prop := p.Perm (List.toArray (List.range n))
theorem kY.lt (h0 : 0 < n) (h : kY n p) (i : Nat) : p.getD i 0 < n := by
 by_cases hi : i < p.size
 ·have e : p.getD i 0 = p[i] := by simp [Array.getD, hi]
  rw [e]
  have hm : p[i] ∈ p := Array.getElem_mem hi
  have := (h.mem_iff).mp hm
  simpa using this
 ·have e : p.getD i 0 = 0 := by simp [Array.getD, hi]
  omega
theorem kY.rev (h : kY n p) (i j : Nat) : kY n (kas_rev p i j) := (mirror_perm p i j ((j - i) / 2)).trans h
theorem kY.YB (h : kY n p) (i j : Nat) : kY n (bubble p i j) := (bubble_perm p i j).trans h
theorem y7 (h0 : 0 < n) (h : kY n p) : ∀ f m, Al n (fun _ => True) (kas_asc p f m)
 | 0, m => trivial
 | f + 1, m => ⟨h.lt h0 _, h.lt h0 _, fun b => by
  cases b with
  | true => exact trivial
  | false => exact y7 h0 h f (m + 1)⟩
theorem o7 (h0 : 0 < n) : ∀ f (p : Array Nat) m q, kY n p -> Al n (fun r : Array Nat × Nat × Nat => kY n r.1) (kas_desc f p m q)
 | 0, p, m, q, h => h
 | f + 1, p, m, q, h => ⟨h.lt h0 _, h.lt h0 _, fun b => by
  cases b with
  | true =>
   show Al n _ (if q > 0 then _ else _)
   split
   ·exact o7 h0 f _ _ _ (h.rev _ _)
   ·exact o7 h0 f _ _ _ h
  | false =>
   refine ⟨h.lt h0 _, h.lt h0 _, fun d => ?_⟩
   cases d with
   | true => exact h
   | false => exact o7 h0 f _ _ _ h⟩
theorem vN (h0 : 0 < n) (h : kY n p) (m k : Nat) : Al n (fun r : Nat × Array Nat => kY n r.2) (kas_tail3 m k p) :=
 (y7 h0 (h.rev 0 m) _ _).bind fun _ _ => h.rev 0 m
theorem nQ (h0 : 0 < n) (h : kY n p) (m k : Nat) : Al n (fun r : Nat × Array Nat => kY n r.2) (kas_descPart m k p) := by
 refine (o7 h0 _ _ _ _ h).bind fun r hr => ?_
 split
 ·exact vN h0 (hr.rev _ _) _ _
 ·exact vN h0 hr _ _
theorem JQ (h0 : 0 < n) (h : kY n p) (k : Nat) : Al n (fun r : Nat × Array Nat => kY n r.2) (kas_count k p) := by
 refine (y7 h0 h _ _).bind fun m _ => ?_
 split
 ·exact h
 ·split
  ·refine ⟨h.lt h0 _, h.lt h0 _, fun b => ?_⟩
   cases b with
   | true => exact h
   | false => exact nQ h0 (h.rev _ _) _ _
  ·exact nQ h0 h _ _
theorem qA (h0 : 0 < n) (h : kY n p) (k : Nat) : ∀ f l r, Al n (fun _ => True) (kas_place p k f l r)
 | 0, _, _ => trivial
 | f + 1, l, r => by
  unfold kas_place
  split
  ·exact trivial
  ·refine ⟨h.lt h0 _, h.lt h0 _, fun b => ?_⟩
   cases b with
   | true => exact qA h0 h k f _ _
   | false => exact qA h0 h k f _ _
theorem F9 (h0 : 0 < n) : ∀ f (p : Array Nat) k, kY n p -> Al n (kY n) (kas_bin f p k)
 | 0, _, _, h => h
 | f + 1, p, k, h => (qA h0 h k _ _ _).bind fun l _ => F9 h0 f _ _ (h.YB _ _)
theorem B7 (h0 : 0 < n) : Al n (kY n) (kas_sort n) := by
 refine (JQ h0 (show kY n _ from Array.Perm.refl _) n).bind fun r hr => ?_
 split
 ·exact F9 h0 _ _ _ hr
 ·exact hr
theorem kY.perm (h : kY vs.length p) : (p.toList.map fun i => vs.getD i Value.none).Perm vs := by
 have h1 : p.toList.Perm (List.range vs.length) := by simpa using Array.perm_iff_toList_perm.mp h
 have h2 := h1.map fun i => vs.getD i Value.none
 have e : (List.range vs.length).map (fun i => vs.getD i Value.none) = vs := by
  apply ext_getElem
  ·simp
  ·intro i a1 a2
   simp [getElem?_eq_getElem a2]
 rw [e] at h2
 exact h2
end
section
variable {X : Cx}
theorem fN : ∀ {us : List Value} {ss : List Str}, StrsAre us ss -> Vals (ss.map V.str) us
 | [], _, .nil => .nil
 | _ :: _, _, .cons x t r => .cons ⟨t, rfl⟩ (fN r)
noncomputable def y9 (K : Frag) : List V -> Hp -> VK -> Prop := fun xs H Q => ∃ p ss, xs = [.ref p] /\ gK K H p (ss.map V.str) /\ ss.length < 64 /\ ∀ l out, out.Perm ss -> sortedS out = true -> H l = none -> Q (.ref l) (upd H l (.lst (out.map V.str)))
theorem DR (K : Frag) (hK : X.K = K := by rfl) : b8 X (.builtin "sorted") (y9 K) := by
 subst hK
 intro pins s σ H xs us Q I r ⟨p, ss, e, hq, h64, q⟩
 subst e
 obtain ⟨u, rfl, rx⟩ := vals1 r
 cases rx
 obtain ⟨vs, rv, pl, hz⟩ := I.list hq
 have hlen := rv.length
 rw [length_map] at hlen hz
 refine sorted_strs pl.isList (mD rv) (by omega) fun out ss' h1 h2 h3 => ?_
 obtain ⟨c, hat⟩ := sortedAll_at s.heap vs out
 exact ⟨.ref (s.heap.objs.size + 1), _, I.laid (t' := s.toks) (o := .lst (ss'.map V.str)) (fun b o e => sortedAll_old e) (le_succ _) ⟨by rw [length_map, h2.length_eq]; exact hz, out.toList, c, fN h1, hat⟩, rfl, q _ ss' h2 h3 (I.bN.fresh (le_succ _))⟩
end
section
open PySem.W
noncomputable def mU (ans : Nat -> Nat -> Bool) (P : α -> Prop) : KasT α -> Prop
 | .ret a => P a
 | .ask i j k => mU ans P (k (ans i j))
theorem mU.bind {P : α -> Prop} {R : β -> Prop} {f : α -> KasT β} : ∀ {t : KasT α}, mU ans P t -> (∀ a, P a -> mU ans R (f a)) -> mU ans R (t.bind f)
 | .ret a, h, hf => hf a h
 | .ask i j k, h, hf => mU.bind (t := k (ans i j)) h hf
theorem mU.mono {P R : α -> Prop} (hf : ∀ a, P a -> R a) : ∀ {t : KasT α}, mU ans P t -> mU ans R t
 | .ret a, h => hf a h
 | .ask i j k, h => mU.mono hf (t := k (ans i j)) h
theorem mU.run {P R : α -> Prop} {cmp : Nat -> Nat -> (Bool -> Shared -> Prop) -> Shared -> Prop} {G : α -> Shared -> Prop}
  (hc : ∀ i j (C : Bool -> Shared -> Prop), i < n -> j < n -> C (ans i j) s -> cmp i j C s) (hg : ∀ a, P a -> R a -> G a s) : ∀ {t : KasT α}, Al n P t -> mU ans R t -> t.kasWp cmp G s
 | .ret a, h, h' => hg a h h'
 | .ask i j _, h, h' => hc i j _ h.1 h.2.1 (mU.run hc hg (h.2.2 _) h')
variable (O : KeyOrd) (key : Nat -> O.α)
noncomputable def Ky (p : Array Nat) (i : Nat) : O.α := key (p.getD i 0)
noncomputable def jP (p : Array Nat) (k : Nat) : Prop := ∀ i j, i <= j -> j < k -> O.kle (Ky O key p i) (Ky O key p j)
noncomputable def gZ (p : Array Nat) (k : Nat) : Prop := ∀ i j, i <= j -> j < k -> O.kle (Ky O key p j) (Ky O key p i)
noncomputable abbrev yI (i j : Nat) : Bool := O.blt (key i) (key j)
variable {O} {key}
theorem xP {q : Array Nat} (h : p[i]? = q[j]?) : Ky O key p i = Ky O key q j := by
 unfold Ky
 rw [getD_eq_getD_getElem?, getD_eq_getD_getElem?, h]
theorem y8 (hj : j <= p.size) (k : Nat) : Ky O key (kas_rev p i j) k = if i <= k /\ k < j then Ky O key p (i + j - 1 - k) else Ky O key p k := by
 have e := getElem?_mirror_all (xs := p) (i := i) hj k
 split
 ·rename_i h; rw [if_pos h] at e; exact xP e
 ·rename_i h; rw [if_neg h] at e; exact xP e
theorem gB (p : Array Nat) (i j : Nat) : (kas_rev p i j).size = p.size := mirror_size ..
theorem uJ (hj : j <= p.size) (he : ∀ k, i <= k -> k < j -> Ky O key p k = Ky O key p (j - 1)) (k : Nat) : Ky O key (kas_rev p i j) k = Ky O key p k := by
 rw [y8 hj]
 split
 ·rename_i h; rw [he _ (by omega) (by omega), he k h.1 h.2]
 ·rfl
theorem jP.more (h : jP O key p x) (hx : 1 <= x) (hl : O.kle (Ky O key p (x - 1)) (Ky O key p x)) : jP O key p (x + 1) := by
 intro i j hij hj
 by_cases h1 : j < x
 ·exact h i j hij h1
 ·have e : j = x := by omega
  subst e
  by_cases h2 : i = j
  ·subst h2; exact KeyOrd.kle_refl _
  ·exact KeyOrd.kle_trans (h i (j - 1) (by omega) (by omega)) hl
theorem gZ.more (h : gZ O key p x) (hx : 1 <= x) (hl : O.kle (Ky O key p x) (Ky O key p (x - 1))) : gZ O key p (x + 1) := by
 intro i j hij hj
 by_cases h1 : j < x
 ·exact h i j hij h1
 ·have e : j = x := by omega
  subst e
  by_cases h2 : i = j
  ·subst h2; exact KeyOrd.kle_refl _
  ·exact KeyOrd.kle_trans hl (h i (j - 1) (by omega) (by omega))
theorem EV {p : Array Nat} : ∀ (f m : Nat), 1 <= m -> jP O key p m -> mU (yI O key) (fun r => m <= r /\ r <= m + f /\ jP O key p r /\ (r = m + f \/ O.klt (Ky O key p r) (Ky O key p (r - 1)))) (kas_asc p f m)
 | 0, m, _, h => ⟨le_refl _, le_refl _, h, .inl rfl⟩
 | f + 1, m, h1, h => by
  show mU (yI O key) _ (if O.blt (Ky O key p m) (Ky O key p (m - 1)) = true then _ else _)
  cases e : O.blt (Ky O key p m) (Ky O key p (m - 1)) with
  | true =>
   rw [if_pos rfl]
   exact ⟨le_refl _, by omega, h, .inr e⟩
  | false =>
   rw [if_neg Bool.false_ne_true]
   refine (EV f (m + 1) (by omega) (h.more h1 e)).mono fun r ⟨a, b, c, d⟩ => ⟨by omega, by omega, c, ?_⟩
   rcases d with d | d
   ·exact .inl (by omega)
   ·exact .inr d
noncomputable def QV (O : KeyOrd) (key : Nat -> O.α) (p : Array Nat) (m q : Nat) : Prop := q + 1 <= m /\ ∀ i, m - (q + 1) <= i -> i < m -> Ky O key p i = Ky O key p (m - 1)
theorem QV.none (h : 1 <= m) : QV O key p m 0 := ⟨by omega, fun i h1 h2 => by rw [show i = m - 1 by omega]⟩
theorem tZ : ∀ (f : Nat) (p : Array Nat) (m q : Nat), 1 <= m -> m + f <= p.size -> gZ O key p m -> QV O key p m q -> mU (yI O key) (fun r : Array Nat × Nat × Nat => r.1.size = p.size /\ m <= r.2.1 /\ r.2.1 <= m + f /\ gZ O key r.1 r.2.1 /\ QV O key r.1 r.2.1 r.2.2) (kas_desc f p m q)
 | 0, p, m, q, _, _, h, he => ⟨rfl, le_refl _, le_refl _, h, he⟩
 | f + 1, p, m, q, h1, hz, h, he => by
  show mU (yI O key) _ (if O.blt (Ky O key p m) (Ky O key p (m - 1)) = true then (if q > 0 then kas_desc f (kas_rev p (m - (q + 1)) m) (m + 1) 0 else kas_desc f p (m + 1) 0) else _)
  cases e : O.blt (Ky O key p m) (Ky O key p (m - 1)) with
  | true =>
   rw [if_pos rfl]
   have hd := h.more h1 (KeyOrd.kle_of_klt e)
   split
   ·have ev : ∀ k, Ky O key (kas_rev p (m - (q + 1)) m) k = Ky O key p k := uJ (by omega) he.2
    have hd' : gZ O key (kas_rev p (m - (q + 1)) m) (m + 1) := fun i j a b => by rw [ev, ev]; exact hd i j a b
    refine (tZ f _ (m + 1) 0 (by omega) (by rw [gB]; omega) hd' (QV.none (by omega))).mono fun r ⟨a, b, c, d, z⟩ => ⟨by rw [a, gB], by omega, by omega, d, z⟩
   ·exact (tZ f p (m + 1) 0 (by omega) (by omega) hd (QV.none (by omega))).mono fun r ⟨a, b, c, d, z⟩ => ⟨a, by omega, by omega, d, z⟩
  | false =>
   rw [if_neg Bool.false_ne_true]
   show mU (yI O key) _ (if O.blt (Ky O key p (m - 1)) (Ky O key p m) = true then _ else _)
   cases e2 : O.blt (Ky O key p (m - 1)) (Ky O key p m) with
   | true =>
    rw [if_pos rfl]
    exact ⟨rfl, le_refl _, Nat.le_add_right m (f + 1), h, he⟩
   | false =>
    rw [if_neg Bool.false_ne_true]
    have eq : Ky O key p m = Ky O key p (m - 1) := KeyOrd.kle_antisymm e2 e
    refine (tZ f p (m + 1) (q + 1) (by omega) (by omega) (h.more h1 (by rw [eq]; exact KeyOrd.kle_refl _)) ⟨by have := he.1; omega, fun i a b => ?_⟩).mono fun r ⟨a, b, c, d, z⟩ => ⟨a, by omega, by omega, d, z⟩
    rw [show m + 1 - 1 = m by omega]
    by_cases hi : i = m
    ·rw [hi]
    ·rw [eq]; exact he.2 i (by omega) (by omega)
theorem B6 (h1 : 1 <= m) (hk : m <= k) (hz : k <= p.size) (h : gZ O key p m) : mU (yI O key) (fun r : Nat × Array Nat => 1 <= r.1 /\ r.1 <= k /\ r.2.size = p.size /\ jP O key r.2 r.1) (kas_tail3 m k p) := by
 have hu : jP O key (kas_rev p 0 m) m := fun i j a b => by
  rw [y8 (by omega), y8 (by omega), if_pos (by omega), if_pos (by omega)]
  exact h _ _ (by omega) (by omega)
 exact (EV (k - m) m h1 hu).bind fun r ⟨a, b, c, _⟩ => ⟨by omega, by omega, gB .., c⟩
theorem pS (hk : m + 1 <= k) (hz : k <= p.size) (h : gZ O key p (m + 1)) : mU (yI O key) (fun r : Nat × Array Nat => 1 <= r.1 /\ r.1 <= k /\ r.2.size = p.size /\ jP O key r.2 r.1) (kas_descPart m k p) := by
 refine (tZ (k - (m + 1)) p (m + 1) 0 (by omega) (by omega) h (QV.none (by omega))).bind fun r ⟨a, b, c, d, z⟩ => ?_
 split
 ·have ev : ∀ i, Ky O key (kas_rev r.1 (r.2.1 - (r.2.2 + 1)) r.2.1) i = Ky O key r.1 i := uJ (by omega) z.2
  refine (B6 (p := kas_rev r.1 (r.2.1 - (r.2.2 + 1)) r.2.1) (by omega) (by omega) (by rw [gB]; omega) fun i j x y => ?_).mono fun r' ⟨x, y, w, v⟩ => ⟨x, y, by rw [w, gB, a], v⟩
  rw [ev, ev]; exact d i j x y
 ·exact (B6 (by omega) (by omega) (by omega) d).mono fun r' ⟨x, y, w, v⟩ => ⟨x, y, by rw [w, a], v⟩
theorem LS {p : Array Nat} (h1 : 1 <= k) (hz : k <= p.size) : mU (yI O key) (fun r : Nat × Array Nat => 1 <= r.1 /\ r.1 <= k /\ r.2.size = p.size /\ jP O key r.2 r.1) (kas_count k p) := by
 have u1 : jP O key p 1 := fun i j a b => by rw [show i = j by omega]; exact KeyOrd.kle_refl _
 refine (EV (k - 1) 1 (le_refl _) u1).bind fun m ⟨a, b, c, d⟩ => ?_
 by_cases hm : m = k
 ·rw [if_pos (by simpa using hm)]
  exact ⟨a, by omega, rfl, c⟩
 ·rw [if_neg (by simpa using hm)]
  have lt : O.klt (Ky O key p m) (Ky O key p (m - 1)) := d.resolve_left (by omega)
  by_cases h2 : m > 1
  ·rw [if_pos h2]
   show mU (yI O key) _ (if O.blt (Ky O key p 0) (Ky O key p (m - 1)) = true then _ else _)
   cases e : O.blt (Ky O key p 0) (Ky O key p (m - 1)) with
   | true =>
    rw [if_pos rfl]
    exact ⟨a, by omega, rfl, c⟩
   | false =>
    rw [if_neg Bool.false_ne_true]
    have al : ∀ i, 0 <= i -> i < m -> Ky O key p i = Ky O key p (m - 1) := fun i _ hi =>
     KeyOrd.kle_antisymm (c i (m - 1) (by omega) (by omega)) (KeyOrd.kle_trans e (c 0 i (by omega) hi))
    have ev : ∀ i, Ky O key (kas_rev p 0 m) i = Ky O key p i := uJ (by omega) al
    have dm : gZ O key p m := fun i j x y => by rw [al i (by omega) (by omega), al j (by omega) y]; exact KeyOrd.kle_refl _
    have dn := dm.more a (KeyOrd.kle_of_klt lt)
    refine (pS (p := kas_rev p 0 m) (by omega) (by rw [gB]; omega) fun i j x y => ?_).mono fun r' ⟨x, y, w, v⟩ => ⟨x, y, by rw [w, gB], v⟩
    rw [ev, ev]; exact dn i j x y
  ·rw [if_neg h2]
   have e1 : m = 1 := by omega
   subst e1
   have d1 : gZ O key p 1 := fun i j x y => by rw [show i = j by omega]; exact KeyOrd.kle_refl _
   exact pS (by omega) hz (d1.more (le_refl _) (KeyOrd.kle_of_klt lt))
theorem vA {p : Array Nat} {k : Nat} (h : jP O key p k) : ∀ (f l r : Nat), l <= r -> r <= k -> r - l <= f -> (∀ i, i < l -> O.kle (Ky O key p i) (Ky O key p k)) -> (∀ i, r <= i -> i < k -> O.klt (Ky O key p k) (Ky O key p i)) ->
  mU (yI O key) (fun l => l <= k /\ (∀ i, i < l -> O.kle (Ky O key p i) (Ky O key p k)) /\ ∀ i, l <= i -> i < k -> O.klt (Ky O key p k) (Ky O key p i)) (kas_place p k f l r)
 | 0, l, r, h1, h2, h3, ha, hb => by
  have e : l = r := by omega
  subst e
  exact ⟨h2, ha, hb⟩
 | f + 1, l, r, h1, h2, h3, ha, hb => by
  unfold kas_place
  split
  ·have e : l = r := by omega
   subst e
   exact ⟨h2, ha, hb⟩
  ·show mU (yI O key) _ (if O.blt (Ky O key p k) (Ky O key p ((l + r) / 2)) = true then _ else _)
   cases e : O.blt (Ky O key p k) (Ky O key p ((l + r) / 2)) with
   | true =>
    rw [if_pos rfl]
    exact vA h f l ((l + r) / 2) (by omega) (by omega) (by omega) ha fun i a b => KeyOrd.klt_of_klt_of_kle e (h _ _ a b)
   | false =>
    rw [if_neg Bool.false_ne_true]
    exact vA h f ((l + r) / 2 + 1) r (by omega) h2 (by omega) (fun i a => KeyOrd.kle_trans (h i ((l + r) / 2) (by omega) (by omega)) e) hb
theorem IU {d : Nat} (hk : k < p.size) (hd : d <= k) (i : Nat) : Ky O key (bubble p k d) i = if i = k - d then Ky O key p k else if k - d < i /\ i <= k then Ky O key p (i - 1) else Ky O key p i := by
 have e := getElem?_bubble hk d hd i
 by_cases h1 : i = k - d
 ·rw [if_pos h1] at e ⊢; exact xP e
 ·rw [if_neg h1] at e ⊢
  by_cases h2 : k - d < i /\ i <= k
  ·rw [if_pos h2] at e ⊢; exact xP e
  ·rw [if_neg h2] at e ⊢; exact xP e
theorem N1 : ∀ (f : Nat) (p : Array Nat) (k : Nat), k + f <= p.size -> jP O key p k -> mU (yI O key) (fun q => jP O key q (k + f)) (kas_bin f p k)
 | 0, p, k, _, h => h
 | f + 1, p, k, hz, h => by
  refine (vA h k 0 k (by omega) (le_refl _) (by omega) (fun i hi => by omega) (fun i a b => by omega)).bind fun l ⟨hl, ha, hb⟩ => ?_
  have hu : jP O key (bubble p k (k - l)) (k + 1) := fun i j x y => by
   rw [IU (by omega) (by omega), IU (by omega) (by omega), show k - (k - l) = l by omega]
   by_cases j1 : j = l
   ·rw [if_pos j1]
    by_cases i1 : i = l
    ·rw [if_pos i1]; exact KeyOrd.kle_refl _
    ·rw [if_neg i1, if_neg (show ¬ (l < i /\ i <= k) by omega)]; exact ha i (by omega)
   ·rw [if_neg j1]
    by_cases j2 : l < j
    ·rw [if_pos (show l < j /\ j <= k from ⟨j2, by omega⟩)]
     by_cases i1 : i = l
     ·rw [if_pos i1]; exact KeyOrd.kle_of_klt (hb (j - 1) (by omega) (by omega))
     ·rw [if_neg i1]
      by_cases i2 : l < i
      ·rw [if_pos (show l < i /\ i <= k from ⟨i2, by omega⟩)]; exact h _ _ (by omega) (by omega)
      ·rw [if_neg (show ¬ (l < i /\ i <= k) by omega)]; exact h _ _ (by omega) (by omega)
    ·rw [if_neg (show ¬ (l < j /\ j <= k) by omega), if_neg (show ¬ i = l by omega), if_neg (show ¬ (l < i /\ i <= k) by omega)]; exact h _ _ x (by omega)
  have := N1 f (bubble p k (k - l)) (k + 1) (by rw [bubble_size]; omega) hu
  rw [show k + 1 + f = k + (f + 1) by omega] at this
  exact this
theorem IA (h1 : 1 <= n) : mU (yI O key) (fun q => jP O key q n) (kas_sort n) := by
 have hs : (List.toArray (List.range n)).size = n := by simp
 refine (LS h1 (p := List.toArray (List.range n)) (by rw [hs]; exact le_refl _)).bind fun r ⟨a, b, c, d⟩ => ?_
 rw [hs] at c
 split
 ·have := N1 (n - max r.1 1) r.2 (max r.1 1) (by omega) (by rw [show max r.1 1 = r.1 by omega]; exact d)
  rw [show max r.1 1 + (n - max r.1 1) = n by omega] at this
  exact this
 ·have e : r.1 = n := by omega
  rw [e] at d
  exact d
end
section
open PySem.W
variable {prog : Program} {w : World} {A : Around} {E : Value -> Shared -> Prop} {s : Shared}
theorem D8 (vs : List Value) : (List.range vs.length).map (fun i => vs.getD i Value.none) = vs := by
 apply ext_getElem
 ·simp
 ·intro i a1 a2
  simp [getElem?_eq_getElem a2]
noncomputable def AD (prog : Program) (w : World) (A : Around) (vs : List Value) (R : Array Nat -> Prop) (s : Shared) : Prop :=
 ∃ κ : SortKind, (∀ (Q : SortKind -> Shared -> Prop) (E : Value -> Shared -> Prop), Q κ s -> wpAny (model prog w) A (keyKind' vs.toArray) Q E s) /\
  ∀ G : Array Nat -> Shared -> Prop, (∀ p, kY vs.length p -> R p -> G p s) -> (kas_sort vs.length).kasWp (kas_ask prog w A κ vs) G s
theorem sY {a : Addr} {P : PySem.Fin -> Shared -> Prop} (ho : s.heap.get? a = some (seqObj "list" vs.toArray n)) (h64 : vs.length < 64)
  (hk : 2 <= vs.length -> ∀ h' : Heap, (∀ b o, b ≠ a -> s.heap.get? b = some o -> h'.get? b = some o) -> AD prog w A vs R { s with heap := h' }) (hR : vs.length < 2 -> R (List.range vs.length).toArray)
  (h : ∀ (out : Array Value) (p : Array Nat), kY vs.length p -> R p -> out.toList = p.toList.map (fun i => vs.getD i Value.none) -> P (.done (.ret .none)) { s with heap := sortedHeap s.heap a vs out }) : wpAny (model prog w) A (Builtin.«list.sort» ⟨[.ref a], []⟩) P E s := by
 have la : a < s.heap.objs.size := lt_size ho
 have small : vs.length <= sizeLine := by rw [sizeLine_eq]; omega
 obtain ⟨e1, k1⟩ : ∃ e1, (s.heap.update a (Obj.mapSeq fun _ => (#[] : Array Value))).get? a = some (seqObj "list" #[] e1) := ⟨_, get?_update_seq ho fun _ => #[]⟩
 generalize hU : s.heap.update a (Obj.mapSeq fun _ => (#[] : Array Value)) = U at k1
 have zU : U.objs.size = s.heap.objs.size := by rw [<- hU]; exact Heap.size_update ..
 have kp : ∀ b o, b ≠ a -> s.heap.get? b = some o -> ((U.push (seqObj "tuple" vs.toArray 0)).push (seqObj "list" #[] 0)).get? b = some o := fun b o nb gb => by
  refine get?_push_of_some _ (get?_push_of_some _ ?_)
  rw [<- hU, Heap.get?_update_ne _ _ _ _ nb]; exact gb
 have k2 : ((U.push (seqObj "tuple" vs.toArray 0)).push (seqObj "list" #[] 0)).get? a = some (seqObj "list" #[] e1) := get?_push_of_some _ (get?_push_of_some _ k1)
 rw [list_sort_plain]
 refine wpAny_bind (listItems_at ho rfl (wpAny_bind (listUpdate_at ho rfl ?_ (by simpa using small) (zero_le _))))
 have k1' := k1
 rw [<- hU] at k1'
 refine wpAny_bind (seqEpoch_at k1' rfl (wpAny_bind (wpAny_newTuple (wpAny_bind (wpAny_newList (wpAny_holding ?_) (zero_le _))) (by simpa using small))))
 rw [hU]
 show wpAny (model prog w) A _ P E { s with heap := (U.push (seqObj "tuple" vs.toArray 0)).push (seqObj "list" #[] 0) }
 have fin : ∀ (out : Array Value) (p : Array Nat), kY vs.length p -> R p -> out.toList = p.toList.map (fun i => vs.getD i Value.none) -> P (.done (.ret .none)) { s with heap := ((U.push (seqObj "tuple" vs.toArray 0)).push (seqObj "list" #[] 0)).update a (Obj.mapSeq fun _ => out) } := fun out p h1 h2 h3 => by
  have := h out p h1 h2 h3
  unfold sortedHeap at this
  rw [hU] at this
  exact this
 dsimp only
 by_cases h2 : vs.toArray.size < 2
 ·rw [if_pos h2, if_pos h2]
  refine wpAny_bind (wpAny_pure ?_)
  rw [StateT.run_pure]
  refine wpAny_bind (wpAny_pure ?_)
  dsimp only
  have ev : ((vs.toArray.zip vs.toArray).map fun x => x.2).toList = vs := by simp [List.map_snd_zip]
  refine wpAny_bind (seqEpoch_at k2 rfl (wpAny_bind (listUpdate_at k2 rfl ?_ (zero_le _) ?_)))
  ·simp only [bne_self_eq_false, false_eq_true, if_false]
   exact wpAny_pure (fin _ (List.range vs.length).toArray (Array.Perm.refl _) (hR (by rw [size_toArray] at h2; exact h2)) (by rw [show (arrOf (SortSt.mk' general' (vs.toArray.zip vs.toArray) #[] 7 none)) = vs.toArray.zip vs.toArray from rfl, ev, toList_toArray, D8]))
  ·rw [<- length_toList, show (arrOf (SortSt.mk' general' (vs.toArray.zip vs.toArray) #[] 7 none)) = vs.toArray.zip vs.toArray from rfl, ev]; exact le_succ_of_le small
 ·rw [if_neg h2, if_neg h2]
  have l2 : 2 <= vs.length := by rw [size_toArray] at h2; omega
  obtain ⟨κ, kd, ak⟩ := hk l2 _ kp
  refine wpAny_bind (kd _ _ ?_)
  refine wpAny_bind (wpAny_mono (kat_run (ks := vs) (vs := vs) (Q := fun st' s' => s' = { s with heap := (U.push (seqObj "tuple" vs.toArray 0)).push (seqObj "list" #[] 0) } /\ ∃ p : Array Nat, (kY vs.length p /\ R p) /\ arrOf st' = p.map (kas_item (vs.toArray.zip vs.toArray)) /\ failedOf st' = none)
   (G := fun p s' => s' = { s with heap := (U.push (seqObj "tuple" vs.toArray 0)).push (seqObj "list" #[] 0) } /\ kY vs.length p /\ R p) rfl l2 h64 (fun p st' s' _ ar fl g => ⟨g.1, p, g.2, ar, fl⟩) (ak _ fun p h1 h2 => ⟨rfl, h1, h2⟩)) ?_ fun _ _ e => e)
  rintro ⟨⟨⟩, st'⟩ s' ⟨rfl, p, ⟨hp, hr⟩, ar, fl⟩
  dsimp only
  have out := kat_snds rfl ar
  have pm := hp.perm
  rw [out]
  refine wpAny_bind (seqEpoch_at k2 rfl (wpAny_bind (listUpdate_at k2 rfl ?_ (zero_le _) ?_)))
  ·rw [fl]
   simp only [bne_self_eq_false, false_eq_true, if_false]
   exact wpAny_pure (fin _ p hp hr (by simp))
  ·rw [size_toArray, pm.length_eq]; exact le_succ_of_le small
theorem xD (hl : s.heap.IsList l vs.toArray) (h64 : vs.length < 64)
  (hk : 2 <= vs.length -> ∀ h' : Heap, (∀ b o, s.heap.get? b = some o -> h'.get? b = some o) -> AD prog w A.in1.in1 vs R { s with heap := h' }) (hR : vs.length < 2 -> R (List.range vs.length).toArray)
  (h : ∀ (out : Array Value) (p : Array Nat), kY vs.length p -> R p -> out.toList = p.toList.map (fun i => vs.getD i Value.none) -> Q (.ref (s.heap.objs.size + 1)) { s with heap := sortedAll s.heap vs out }) : wpAny (model prog w) A (call (.builtin "sorted") [.ref l]) Q E s := by
 have small : vs.length <= sizeLine := by rw [sizeLine_eq]; omega
 refine Calls.call_function_entry kind_sorted plain_sorted entry_sorted (args_sorted1 _) ?_
 unfold Builtin.«sorted»
 refine wpAny_bind (m := checkCount "sorted" 1 1 _) (wpAny_pure (wpAny_bind (collect_list hl (wpAny_bind (wpAny_newList ?_ (by simpa using small))) (by simpa using small))))
 generalize hU : (s.heap.push (seqObj "list" #[] 0)).update s.heap.objs.size (Obj.mapSeq (· ++ vs.toArray)) = U
 have zU : U.objs.size = s.heap.objs.size + 1 := by rw [<- hU, Heap.size_update]; exact size_push' ..
 have kU : ∀ b o, s.heap.get? b = some o -> U.get? b = some o := fun b o gb => by
  rw [<- hU, Heap.get?_update_ne _ _ _ _ (ne_of_lt (lt_size gb))]
  exact get?_push_of_some _ gb
 have at' : (U.push (seqObj "list" vs.toArray 0)).get? (s.heap.objs.size + 1) = some (seqObj "list" vs.toArray 0) := by rw [<- zU]; exact get?_push_size _ rfl
 show wpAny _ _ _ _ _ { s with heap := U.push (seqObj "list" vs.toArray 0) }
 rw [zU]
 refine wpAny_bind (wpAny_holding (wpAny_call_entry slot_list_sort ⟨_, at', rfl⟩ entry_list_sort ?bd (args_list_sort _)))
 case bd =>
  refine sY at' h64 (fun l2 h' kp => hk l2 h' fun b o gb => kp b o (ne_of_lt (lt_succ_of_lt (lt_size gb))) (get?_push_of_some _ (kU b o gb))) hR fun out p p1 p2 p3 => ⟨_, rfl, wpAny_pure ⟨_, rfl, ?_⟩⟩
  have := h out p p1 p2 p3
  unfold sortedAll at this
  rw [hU] at this
  exact this
end
section
open PySem.W
variable {X : Cx} {pins : List (Addr × Obj)} {σ : St} {H : Hp} {s : Shared} {k : Nat}
theorem pD {ys : List V} {vs : List Value} (r : Vals ys vs) : ∀ ps : List Nat, (∀ i ∈ ps, i < vs.length) -> Vals (ps.map fun i => ys.getD i .bF) (ps.map fun i => vs.getD i Value.none)
 | [], _ => .nil
 | i :: ps, h => by
  have hlen := r.length
  have hi := h i mem_cons_self
  obtain ⟨x, hx, rx⟩ := r.get' (show vs[i]? = some vs[i] by simp)
  refine .cons ?_ (pD r ps fun j hj => h j (mem_cons_of_mem _ hj))
  dsimp only
  rw [getD_eq_getElem?_getD, hx, getD_eq_getElem?_getD, getElem?_eq_getElem hi]
  exact rx
end
noncomputable def zR : KeyOrd where
 α := Int
 blt a b := decide (a < b)
 irrefl a := decide_eq_false (by omega)
 trans a b c h1 h2 := decide_eq_true (by have := of_decide_eq_true h1; have := of_decide_eq_true h2; omega)
 negTrans a b c h := by
  have h := of_decide_eq_true h
  by_cases g : a < b
  ·exact .inl (decide_eq_true g)
  ·exact .inr (decide_eq_true (by omega))
 total a b h1 h2 := by have := of_decide_eq_false h1; have := of_decide_eq_false h2; omega
theorem BZ {a b : A.α} (h : A.blt a b = true) : A.blt b a = false := KeyOrd.klt_asymm (O := A) h
theorem eL {A : KeyOrd} (a b : A.α) : (A.blt a b = true /\ A.blt b a = false) \/ (A.blt b a = true /\ A.blt a b = false) \/ (a = b) := by
 cases h1 : A.blt a b with
 | true => exact .inl ⟨rfl, BZ h1⟩
 | false =>
  cases h2 : A.blt b a with
  | true => exact .inr (.inl ⟨rfl, rfl⟩)
  | false => exact .inr (.inr (A.total a b h1 h2))
noncomputable def fJ (A : KeyOrd) (a b : A.α) (r : Bool) : Bool := A.blt a b || (!A.blt b a && r)
theorem dR {a b : A.α} (h : A.blt a b = true) : fJ A a b r = true := by unfold fJ; rw [h]; rfl
theorem hZ {a b : A.α} (h : A.blt b a = true) : fJ A a b r = false := by unfold fJ; rw [h, BZ h]; rfl
theorem fI {a : A.α} : fJ A a a r = r := by unfold fJ; rw [A.irrefl]; rfl
theorem wI {A : KeyOrd} {a b c : A.α} (hr : r = true -> r' = true -> r'' = true) (h1 : fJ A a b r = true) (h2 : fJ A b c r' = true) : fJ A a c r'' = true := by
 rcases eL (A := A) a b with ⟨x, _⟩ | ⟨x, _⟩ | x
 ·rcases eL (A := A) b c with ⟨y, _⟩ | ⟨y, _⟩ | y
  ·exact dR (A.trans _ _ _ x y)
  ·rw [hZ y] at h2; cases h2
  ·rw [<- y]; exact dR x
 ·rw [hZ x] at h1; cases h1
 ·subst x
  rw [fI] at h1
  rcases eL (A := A) a c with ⟨y, _⟩ | ⟨y, _⟩ | y
  ·exact dR y
  ·rw [hZ y] at h2; cases h2
  ·subst y
   rw [fI] at h2 ⊢
   exact hr h1 h2
theorem CU {A : KeyOrd} {a b c : A.α} (hr : r'' = true -> r = true \/ r' = true) (h : fJ A a c r'' = true) : fJ A a b r = true \/ fJ A b c r' = true := by
 rcases eL (A := A) a b with ⟨x, _⟩ | ⟨x, _⟩ | x
 ·exact .inl (dR x)
 ·right
  rcases eL (A := A) a c with ⟨y, _⟩ | ⟨y, _⟩ | y
  ·exact dR (A.trans _ _ _ x y)
  ·rw [hZ y] at h; cases h
  ·rw [<- y]; exact dR x
 ·subst x
  rcases eL (A := A) a c with ⟨y, _⟩ | ⟨y, _⟩ | y
  ·exact .inr (dR y)
  ·rw [hZ y] at h; cases h
  ·subst y
   rw [fI] at h ⊢
   rw [fI]
   exact hr h
theorem wR {A : KeyOrd} {a b : A.α} (h1 : fJ A a b r = false) (h2 : fJ A b a r' = false) : a = b /\ r = false /\ r' = false := by
 rcases eL (A := A) a b with ⟨x, _⟩ | ⟨x, _⟩ | x
 ·rw [dR x] at h1; cases h1
 ·rw [dR x] at h2; cases h2
 ·subst x
  rw [fI] at h1 h2
  exact ⟨rfl, h1, h2⟩
noncomputable def iO (A : KeyOrd) : List A.α -> List A.α -> Bool
 | [], [] => false
 | [], _ :: _ => true
 | _ :: _, [] => false
 | x :: xs, y :: ys => fJ A x y (iO A xs ys)
theorem tJ : ∀ xs : List A.α, iO A xs xs = false
 | [] => rfl
 | x :: xs => by unfold iO; rw [fI]; exact tJ xs
theorem oB : ∀ xs ys zs : List A.α, iO A xs ys = true -> iO A ys zs = true -> iO A xs zs = true
 | [], [], _, h, _ => by cases h
 | [], _ :: _, [], _, h => by cases h
 | [], _ :: _, _ :: _, _, _ => rfl
 | _ :: _, [], _, h, _ => by cases h
 | _ :: _, _ :: _, [], _, h => by cases h
 | x :: xs, y :: ys, z :: zs, h1, h2 => wI (oB xs ys zs) h1 h2
theorem rW : ∀ xs ys zs : List A.α, iO A xs zs = true -> iO A xs ys = true \/ iO A ys zs = true
 | [], [], zs, h => .inr h
 | [], _ :: _, _, _ => .inl rfl
 | _ :: _, _, [], h => by cases h
 | _ :: _, [], _ :: _, _ => .inr rfl
 | x :: xs, y :: ys, z :: zs, h => CU (rW xs ys zs) h
theorem nZ : ∀ xs ys : List A.α, iO A xs ys = false -> iO A ys xs = false -> xs = ys
 | [], [], _, _ => rfl
 | [], _ :: _, h, _ => by cases h
 | _ :: _, [], _, h => by cases h
 | x :: xs, y :: ys, h1, h2 => by
  obtain ⟨a, b, c⟩ := wR h1 h2
  rw [a, nZ xs ys b c]
noncomputable def VM (A : KeyOrd) : KeyOrd := ⟨List A.α, iO A, tJ, oB, rW, nZ⟩
theorem BO {a b : Str} (h : a.cps.toList = b.cps.toList) : a = b := by
 cases a with
 | mk x =>
  cases b with
  | mk y => congr 1; exact Array.toList_inj.mp h
end L2
namespace Mr
open PySem L2
variable {a l : Addr} {e ei : En} {f fa fb fv : FE} {fg : FG} {fi : FI} {g : FS} {fc : FT} {o ob : HO} {H H' H1 H2 : Hp} {k : Key} {kvs : List (Key × PV)} {ys : List (Key × V)} {ms : List (Nat × Nat)} {ks : List Kd} {bV : List Nat} {ps : List PV} {xs : List V} {i n : Nat} {p : PV} {s : Sl} {σ : St} {t ta tb tv : TE} {wi : TI} {u : TT} {α β : Type} {v : V} {W : WS} {E : XK} {L L1 M O Z Z' : aI}
inductive PV where
 | bF | bl (b : Bool) | int (i : Int) | str (x : Str) | ty (n : String)
 | tup (xs : List PV) | lst (xs : List PV) | bG (kvs : List (Key × PV))
noncomputable abbrev aI := Addr -> Prop
noncomputable def aR (A B : aI) : aI := fun a => A a \/ B a
noncomputable def one (l : Addr) : aI := fun a => a = l
noncomputable def cK : aI := fun _ => False
structure WS where
 w : Nat -> aI
 old : aI
instance : CoeFun WS (fun _ => Nat -> aI) := ⟨WS.w⟩
noncomputable def aw (W : WS) : aI := fun a => ∃ i, W i a
noncomputable def TupAt (K : Frag) (H : Hp) (a : Addr) (xs : List V) : Prop := H a = some (.tup xs) \/
  ∃ (o : Obj) (its : Array Value) (n : Nat), K.lookup a = some o /\ o.cls = .type "tuple" /\ o.dict = none /\ o.data = .seq its n /\ its.size <= sizeLine /\ Vals xs its.toList
noncomputable def RJ (K : Frag) (a : Addr) (xs : List V) : Prop :=
  ∃ (o : Obj) (its : Array Value) (n : Nat), K.lookup a = some o /\ o.cls = .type "list" /\ o.dict = none /\ o.data = .seq its n /\ its.size <= sizeLine /\ Vals xs its.toList
theorem TupAt.sq {K : Frag} (h : TupAt K H a xs) : lL K H a xs := h.elim lL.of fun ⟨o, its, n, a, b, _, c⟩ => .inr ⟨o, its, n, a, b, c⟩
mutual
inductive Rep (K : Frag) (Z : aI) (H : Hp) : PV -> V -> Prop
 | bF : Rep K Z H .bF .bF
 | bl (b : Bool) : Rep K Z H (.bl b) (.bl b)
 | int (i : Int) : Rep K Z H (.int i) (.int i)
 | str (x : Str) : Rep K Z H (.str x) (.str x)
 | ty (n : String) : Rep K Z H (.ty n) (.ty n)
 | tup {a : Addr} {xs : List V} {ps : List PV} : TupAt K H a xs -> aX K Z H ps xs -> Rep K Z H (.tup ps) (.ref a)
 | lst {a : Addr} {xs : List V} {ps : List PV} : Rd H a (.lst xs) -> ¬ Z a -> aX K Z H ps xs -> Rep K Z H (.lst ps) (.ref a)
 | bG {a : Addr} {ep : Nat} {ys : List (Key × V)} {kvs : List (Key × PV)} : Rd H a (.dK ys ep) -> ¬ Z a -> ys.map (·.1) = kvs.map (·.1) -> aX K Z H (kvs.map (·.2)) (ys.map (·.2)) -> Rep K Z H (.bG kvs) (.ref a)
inductive aX (K : Frag) (Z : aI) (H : Hp) : List PV -> List V -> Prop
 | nil : aX K Z H [] []
 | cons {p : PV} {v : V} {ps : List PV} {vs : List V} : Rep K Z H p v -> aX K Z H ps vs -> aX K Z H (p :: ps) (v :: vs)
end
structure cL (Z Z' : aI) (H H' : Hp) : Prop where
 tup : ∀ a xs, H a = some (.tup xs) -> H' a = some (.tup xs)
 obj : ∀ a o, H a = some o -> ¬ Z a -> H' a = some o /\ ¬ Z' a
theorem cL.rd (k : cL Z Z' H H') (h : Rd H a o) (n : ¬ Z a) : Rd H' a o /\ ¬ Z' a := by
 rcases h with h | ⟨u, h⟩
 ·exact ⟨.inl (k.obj _ _ h n).1, (k.obj _ _ h n).2⟩
 ·exact ⟨.inr ⟨u, (k.obj _ _ h n).1⟩, (k.obj _ _ h n).2⟩
mutual
theorem Rep.aH {K : Frag} {Z Z' : aI} {H H' : Hp} (k : cL Z Z' H H') : ∀ {p : PV} {v : V}, Rep K Z H p v -> Rep K Z' H' p v
 | _, _, .bF => .bF
 | _, _, .bl b => .bl b
 | _, _, .int b => .int b
 | _, _, .str b => .str b
 | _, _, .ty b => .ty b
 | _, _, .tup h r => .tup (h.elim (fun h => .inl (k.tup _ _ h)) .inr) (aX.aH k r)
 | _, _, .lst h n r => .lst (k.rd h n).1 (k.rd h n).2 (aX.aH k r)
 | _, _, .bG h n e r => .bG (k.rd h n).1 (k.rd h n).2 e (aX.aH k r)
theorem aX.aH {K : Frag} {Z Z' : aI} {H H' : Hp} (k : cL Z Z' H H') : ∀ {p : List PV} {v : List V}, aX K Z H p v -> aX K Z' H' p v
 | _, _, .nil => .nil
 | _, _, .cons h r => .cons (Rep.aH k h) (aX.aH k r)
end
theorem cL.same (s : aT H H') : cL Z Z H H' := ⟨fun _ _ h => s _ _ h, fun _ _ h n => ⟨s _ _ h, n⟩⟩
theorem cL.less (h : ∀ a, Z' a -> Z a) : cL Z Z' H H := ⟨fun _ _ h => h, fun _ _ e n => ⟨e, fun z => n (h _ z)⟩⟩
theorem cL.new (s : aT H H') (hl : H l = none) : cL Z (aR Z (one l)) H H' :=
 ⟨fun _ _ h => s _ _ h, fun a o h n => ⟨s _ _ h, fun z => z.elim n fun e => by rw [show a = l from e, hl] at h; cases h⟩⟩
theorem aX.length {K : Frag} : ∀ {ps : List PV} {vs : List V}, aX K Z H ps vs -> ps.length = vs.length
 | _, _, .nil => rfl
 | _, _, .cons _ r => by rw [length_cons, length_cons, aX.length r]
theorem aX.get {K : Frag} : ∀ {ps : List PV} {vs : List V} {i : Nat} {p : PV}, aX K Z H ps vs -> ps[i]? = some p -> ∃ v, vs[i]? = some v /\ Rep K Z H p v
 | _, _, _, _, .nil, h => by simp at h
 | _, _, 0, _, .cons h _, e => by simp at e; subst e; exact ⟨_, rfl, h⟩
 | _, _, i + 1, _, .cons _ r, e => by
  obtain ⟨v, h1, h2⟩ := aX.get (i := i) r (by simpa using e)
  exact ⟨v, by simpa using h1, h2⟩
theorem aX.app {K : Frag} : ∀ {ps qs : List PV} {vs ws : List V}, aX K Z H ps vs -> aX K Z H qs ws -> aX K Z H (ps ++ qs) (vs ++ ws)
 | _, _, _, _, .nil, s => s
 | _, _, _, _, .cons h r, s => .cons h (aX.app r s)
theorem aX.drop {K : Frag} : ∀ {ps : List PV} {vs : List V} (n : Nat), aX K Z H ps vs -> aX K Z H (ps.drop n) (vs.drop n)
 | _, _, 0, h => h
 | _, _, _ + 1, .nil => .nil
 | _, _, n + 1, .cons _ r => aX.drop n r
theorem aX.take {K : Frag} : ∀ {ps : List PV} {vs : List V} (n : Nat), aX K Z H ps vs -> aX K Z H (ps.take n) (vs.take n)
 | _, _, 0, _ => .nil
 | _, _, _ + 1, .nil => .nil
 | _, _, n + 1, .cons h r => .cons h (aX.take n r)
theorem aX.set {K : Frag} (h : Rep K Z H p v) : ∀ {ps : List PV} {vs : List V} (n : Nat), aX K Z H ps vs -> aX K Z H (ps.set n p) (vs.set n v)
 | _, _, _, .nil => .nil
 | _, _, 0, .cons _ r => .cons h r
 | _, _, n + 1, .cons q r => .cons q (aX.set h n r)
noncomputable def LstAt (K : Frag) (H : Hp) (a : Addr) (xs : List V) : Prop := Rd H a (.lst xs) \/ RJ K a xs
theorem LstAt.sq {K : Frag} (h : LstAt K H a xs) : gK K H a xs := h
inductive Red (K : Frag) (Z : aI) (H : Hp) : PV -> V -> Prop
 | rep {p : PV} {v : V} : Rep K Z H p v -> Red K Z H p v
 | lst {a : Addr} {xs : List V} {ps : List PV} : LstAt K H a xs -> aX K Z H ps xs -> Red K Z H (.lst ps) (.ref a)
 | bG {a : Addr} {ep : Nat} {ys : List (Key × V)} {kvs : List (Key × PV)} : Rd H a (.dK ys ep) -> ys.map (·.1) = kvs.map (·.1) -> aX K Z H (kvs.map (·.2)) (ys.map (·.2)) -> Red K Z H (.bG kvs) (.ref a)
section
variable {K : Frag} {Z : aI} {H : Hp} {v : V}
theorem Red.int {i : Int} (h : Red K Z H (.int i) v) : v = .int i := by cases h with | rep h => cases h; rfl
theorem Red.str {i : Str} (h : Red K Z H (.str i) v) : v = .str i := by cases h with | rep h => cases h; rfl
theorem Red.bl {i : Bool} (h : Red K Z H (.bl i) v) : v = .bl i := by cases h with | rep h => cases h; rfl
theorem Red.bF (h : Red K Z H .bF v) : v = .bF := by cases h with | rep h => cases h; rfl
theorem Red.ty {n : String} (h : Red K Z H (.ty n) v) : v = .ty n := by cases h with | rep h => cases h; rfl
theorem Red.tup (h : Red K Z H (.tup ps) v) : ∃ a xs, v = .ref a /\ TupAt K H a xs /\ aX K Z H ps xs := by
 cases h with | rep h => cases h with | tup h r => exact ⟨_, _, rfl, h, r⟩
theorem Red.j9 (h : Red K Z H (.lst ps) v) : ∃ a xs, v = .ref a /\ LstAt K H a xs /\ aX K Z H ps xs := by
 cases h with
 | rep h => cases h with | lst h _ r => exact ⟨_, _, rfl, .inl h, r⟩
 | lst h r => exact ⟨_, _, rfl, h, r⟩
theorem Red.rK (h : Red K Z H (.bG kvs) v) : ∃ a ys, v = .ref a /\ u3 H a ys /\ ys.map (·.1) = kvs.map (·.1) /\ aX K Z H (kvs.map (·.2)) (ys.map (·.2)) := by
 cases h with
 | rep h => cases h with | bG h _ e r => exact ⟨_, _, rfl, ⟨_, h⟩, e, r⟩
 | bG h e r => exact ⟨_, _, rfl, ⟨_, h⟩, e, r⟩
end
inductive Sl where
 | val (p : PV) | own (p : PV) | loc (p : PV) | bor (p : PV)
noncomputable def Sl.pv : Sl -> PV
 | .val p => p | .own p => p | .loc p => p | .bor p => p
noncomputable def Sl.cQ : Sl -> Bool
 | .own _ => true | .loc _ => true | _ => false
noncomputable abbrev En := List (Option Sl)
inductive fS (K : Frag) (Z : aI) (H : Hp) (a : Addr) : PV -> Prop
 | lst {xs : List V} {ps : List PV} : H a = some (.lst xs) -> aX K Z H ps xs -> fS K Z H a (.lst ps)
 | bG {ep : Nat} {ys : List (Key × V)} {kvs : List (Key × PV)} : H a = some (.dK ys ep) -> ys.map (·.1) = kvs.map (·.1) -> aX K Z H (kvs.map (·.2)) (ys.map (·.2)) -> fS K Z H a (.bG kvs)
theorem fS.red {K : Frag} (h : fS K Z H a p) : Red K Z H p (.ref a) := by
 cases h with
 | lst e r => exact .lst (.inl (.inl e)) r
 | bG e k r => exact .bG (.inl e) k r
theorem fS.rep {K : Frag} (h : fS K Z H a p) (n : ¬ Z a) : Rep K Z H p (.ref a) := by
 cases h with
 | lst e r => exact .lst (.inl e) n r
 | bG e k r => exact .bG (.inl e) n k r
theorem fS.there {K : Frag} (h : fS K Z H a p) : ∃ o, H a = some o /\ ∀ xs, o ≠ .tup xs := by
 cases h with
 | lst e r => exact ⟨_, e, fun _ z => nomatch z⟩
 | bG e k r => exact ⟨_, e, fun _ z => nomatch z⟩
theorem fS.aH {K : Frag} (k : cL Z Z' H H') (e : ∀ o, H a = some o -> H' a = some o) (h : fS K Z H a p) : fS K Z' H' a p := by
 cases h with
 | lst h r => exact .lst (e _ h) (r.aH k)
 | bG h q r => exact .bG (e _ h) q (r.aH k)
inductive oI (K : Frag) (Z : aI) (W : WS) (L : aI) (H : Hp) (a : Addr) : PV -> Prop
 | lst {xs : List V} {ps : List PV} : Rd H a (.lst xs) -> W.old a -> ¬ aw W a -> ¬ L a -> aX K Z H ps xs -> oI K Z W L H a (.lst ps)
 | cY {xs : List V} {ps : List PV} : RJ K a xs -> aX K Z H ps xs -> oI K Z W L H a (.lst ps)
 | bG {ep : Nat} {ys : List (Key × V)} {kvs : List (Key × PV)} : Rd H a (.dK ys ep) -> W.old a -> ¬ aw W a -> ¬ L a -> ys.map (·.1) = kvs.map (·.1) -> aX K Z H (kvs.map (·.2)) (ys.map (·.2)) -> oI K Z W L H a (.bG kvs)
theorem oI.red {K : Frag} (h : oI K Z W L H a p) : Red K Z H p (.ref a) := by
 cases h with
 | lst e _ _ _ r => exact .lst (.inl e) r
 | cY e r => exact .lst (.inr e) r
 | bG e _ _ _ k r => exact .bG e k r
noncomputable def gY (K : Frag) (Z : aI) (W : WS) (L : aI) (H : Hp) (i : Nat) (v : V) : Sl -> Prop
 | .val p => Rep K Z H p v
 | .own p => ∃ a, v = .ref a /\ W i a /\ fS K Z H a p
 | .loc p => ∃ a, v = .ref a /\ L a /\ fS K Z H a p
 | .bor p => ∃ a, v = .ref a /\ oI K Z W L H a p
theorem gY.red {K : Frag} {s : Sl} (h : gY K Z W L H i v s) : Red K Z H s.pv v := by
 cases s with
 | val p => exact .rep h
 | own p => obtain ⟨a, rfl, _, c⟩ := h; exact c.red
 | loc p => obtain ⟨a, rfl, _, c⟩ := h; exact c.red
 | bor p => obtain ⟨a, rfl, c⟩ := h; exact c.red
structure aN (K : Frag) (Z : aI) (W : WS) (L : aI) (H : Hp) (σ : St) (e : En) : Prop where
 len : e.length = σ.length
 at' : ∀ (i : Nat) s, e[i]? = some (some s) -> ∃ v, σ[i]? = some (some v) /\ gY K Z W L H i v s
 kX : ∀ (i j : Nat) s t, i ≠ j -> e[i]? = some (some s) -> e[j]? = some (some t) -> s.cQ = true -> t.cQ = true -> σ[i]? ≠ σ[j]?
structure iY (O M : aI) (W : WS) (L : aI) (H : Hp) : Prop where
 old : ∀ a, O a -> H a ≠ none
 mo : ∀ a, M a -> O a
 wm : ∀ i a, W i a -> M a
 loc : ∀ a, L a -> H a ≠ none /\ ¬ O a
structure bR (W : WS) (L : aI) (H H' : Hp) : Prop where
 obj : ∀ a o, H a = some o -> ¬ aw W a -> ¬ L a -> H' a = some o
 tup : ∀ a xs, H a = some (.tup xs) -> H' a = some (.tup xs)
 bU : ∀ a, H a ≠ none -> H' a ≠ none
theorem bR.refl : bR W L H H := ⟨fun _ _ h _ _ => h, fun _ _ h => h, fun _ h => h⟩
theorem bR.trans (a : bR W L H H1) (b : bR W L H1 H2) : bR W L H H2 := ⟨fun c o h n m => b.obj c o (a.obj c o h n m) n m, fun c o h => b.tup c o (a.tup c o h), fun c h => b.bU c (a.bU c h)⟩
theorem bR.same {H : Hp} (s : aT H H') : bR W L H H' := ⟨fun _ _ h _ _ => s _ _ h, fun _ _ h => s _ _ h, fun a h => by
 cases e : H a with
 | none => exact absurd e h
 | some o => rw [s _ _ e]; exact fun z => nomatch z⟩
theorem iY.keep (o : iY O M W L H) (d : ∀ a, H a ≠ none -> H' a ≠ none) : iY O M W L H' := ⟨fun a h => d a (o.old a h), o.mo, o.wm, fun a h => ⟨d a (o.loc a h).1, (o.loc a h).2⟩⟩
theorem bR.aH (o : iY O M W L H) (k : bR W L H H') : cL (aR M L) (aR M L) H H' :=
 ⟨k.tup, fun a u h n => ⟨k.obj a u h (fun ⟨i, z⟩ => n (.inl (o.wm i a z))) fun z => n (.inr z), n⟩⟩
theorem aN.aH {K : Frag} {e : En} (h : aN K Z W L H σ e) (k : cL Z Z' H H') (ow : ∀ a o, aw W a \/ L a -> H a = some o -> H' a = some o) (bo : ∀ a o, H a = some o -> ¬ aw W a -> ¬ L a -> H' a = some o) : aN K Z' W L H' σ e :=
 ⟨h.len, fun i s q => by
  obtain ⟨v, h1, h2⟩ := h.at' i s q
  refine ⟨v, h1, ?_⟩
  cases s with
  | val p => exact Rep.aH k h2
  | own p => obtain ⟨a, e, w, c⟩ := h2; exact ⟨a, e, w, c.aH k fun o q => ow a o (.inl ⟨_, w⟩) q⟩
  | loc p => obtain ⟨a, e, w, c⟩ := h2; exact ⟨a, e, w, c.aH k fun o q => ow a o (.inr w) q⟩
  | bor p =>
   obtain ⟨a, e, c⟩ := h2
   refine ⟨a, e, ?_⟩
   cases c with
   | lst e od n m r => exact .lst (e.elim (fun e => .inl (bo _ _ e n m)) fun ⟨u, e⟩ => .inr ⟨u, bo _ _ e n m⟩) od n m (r.aH k)
   | cY e r => exact .cY e (r.aH k)
   | bG e od n m kk r => exact .bG (e.elim (fun e => .inl (bo _ _ e n m)) fun ⟨u, e⟩ => .inr ⟨u, bo _ _ e n m⟩) od n m kk (r.aH k), h.kX⟩
theorem aN.same {K : Frag} (h : aN K Z W L H σ e) (s : aT H H') : aN K Z W L H' σ e := h.aH (.same s) (fun a o _ q => s a o q) fun a o q _ _ => s a o q
noncomputable def JO (σ : St) (e : En) (a : Addr) : Prop := ∀ (i : Nat) s, e[i]? = some (some s) -> s.cQ = true -> σ[i]? ≠ some (some (.ref a))
theorem Rd.ne (h : Rd H a o) (hl : H l = none) : a ≠ l := by
 rintro rfl
 rcases h with h | ⟨_, h⟩ <;> (rw [hl] at h; cases h)
theorem aN.new {K : Frag} {e : En} (h : aN K (aR M L) W L H σ e) (s : aT H H') (hl : H l = none) : aN K (aR M (aR L (one l))) W (aR L (one l)) H' σ e /\ JO σ e l := by
 have k : cL (aR M L) (aR M (aR L (one l))) H H' := ⟨fun _ _ h => s _ _ h, fun a o h n => ⟨s _ _ h, fun z => by
  rcases z with z | z | z
  ·exact n (.inl z)
  ·exact n (.inr z)
  ·rw [show a = l from z, hl] at h; cases h⟩⟩
 refine ⟨⟨h.len, fun i sl q => ?_, h.kX⟩, fun i sl q hm e => ?_⟩
 ·obtain ⟨v, h1, h2⟩ := h.at' i sl q
  refine ⟨v, h1, ?_⟩
  cases sl with
  | val p => exact Rep.aH k h2
  | own p => obtain ⟨a, e, w, c⟩ := h2; exact ⟨a, e, w, c.aH k fun o q => s _ _ q⟩
  | loc p => obtain ⟨a, e, w, c⟩ := h2; exact ⟨a, e, .inl w, c.aH k fun o q => s _ _ q⟩
  | bor p =>
   obtain ⟨a, e, c⟩ := h2
   refine ⟨a, e, ?_⟩
   cases c with
   | lst e od n m r => exact .lst (e.elim (fun e => .inl (s _ _ e)) fun ⟨u, e⟩ => .inr ⟨u, s _ _ e⟩) od n (fun z => z.elim m (Rd.ne e hl)) (r.aH k)
   | cY e r => exact .cY e (r.aH k)
   | bG e od n m kk r => exact .bG (e.elim (fun e => .inl (s _ _ e)) fun ⟨u, e⟩ => .inr ⟨u, s _ _ e⟩) od n (fun z => z.elim m (Rd.ne e hl)) kk (r.aH k)
 ·obtain ⟨v, h1, h2⟩ := h.at' i sl q
  rw [h1] at e
  cases e
  cases sl with
  | val p => cases hm
  | bor p => cases hm
  | own p => obtain ⟨a, e, w, c⟩ := h2; cases e; obtain ⟨o, e, _⟩ := c.there; rw [hl] at e; cases e
  | loc p => obtain ⟨a, e, w, c⟩ := h2; cases e; obtain ⟨o, e, _⟩ := c.there; rw [hl] at e; cases e
theorem aN.OO {K : Frag} {e : En} (h : aN K (aR M (aR L (one l))) W (aR L (one l)) H σ e) (f : JO σ e l) : aN K (aR M L) W L H σ e := by
 have k : cL (aR M (aR L (one l))) (aR M L) H H := .less fun a z => z.elim .inl fun z => .inr (.inl z)
 refine ⟨h.len, fun i sl q => ?_, h.kX⟩
 obtain ⟨v, h1, h2⟩ := h.at' i sl q
 refine ⟨v, h1, ?_⟩
 cases sl with
 | val p => exact Rep.aH k h2
 | own p => obtain ⟨a, e, w, c⟩ := h2; exact ⟨a, e, w, c.aH k fun o q => q⟩
 | loc p =>
  obtain ⟨a, e, w, c⟩ := h2
  refine ⟨a, e, w.elim id fun z => ?_, c.aH k fun o q => q⟩
  exfalso
  have z : a = l := z
  subst z e
  exact f i _ q rfl h1
 | bor p =>
  obtain ⟨a, e, c⟩ := h2
  refine ⟨a, e, ?_⟩
  cases c with
  | lst e od n m r => exact .lst e od n (fun z => m (.inl z)) (r.aH k)
  | cY e r => exact .cY e (r.aH k)
  | bG e od n m kk r => exact .bG e od n (fun z => m (.inl z)) kk (r.aH k)
inductive Bv where
 | val (p : PV) | slot (i : Nat) | new (p : PV)
noncomputable def rd (e : En) (i : Nat) : Option PV := match e[i]? with
 | some (some s) => some s.pv
 | _ => none
noncomputable def Bv.get (e : En) : Bv -> Option PV
 | .val p => some p
 | .new p => some p
 | .slot i => rd e i
noncomputable def Bv.weak : Bv -> Bv
 | .new p => .val p
 | b => b
noncomputable def Bv.put : Bv -> Option PV
 | .val p => some p
 | .new p => some p
 | .slot _ => none
noncomputable def RB (K : Frag) (O M : aI) (W : WS) (L : aI) (H : Hp) (σ : St) (e : En) (v : V) : Bv -> Prop
 | .val p => aN K (aR M L) W L H σ e /\ Rep K (aR M L) H p v
 | .slot i => aN K (aR M L) W L H σ e /\ σ[i]? = some (some v)
 | .new p => ∃ a, v = .ref a /\ ¬ O a /\ ¬ L a /\ aN K (aR M (aR L (one a))) W (aR L (one a)) H σ e /\ JO σ e a /\ fS K (aR M (aR L (one a))) H a p
theorem RB.weak {K : Frag} {b : Bv} (o : iY O M W L H) (h : RB K O M W L H σ e v b) : RB K O M W L H σ e v b.weak := by
 cases b with
 | val p => exact h
 | slot i => exact h
 | new p =>
  obtain ⟨a, rfl, n1, n2, h1, hf, h2⟩ := h
  exact ⟨h1.OO hf, (h2.aH (.less fun _ z => z.elim .inl fun z => .inr (.inl z)) fun _ q => q).rep fun z => z.elim (fun z => n1 (o.mo _ z)) n2⟩
theorem RB.en {K : Frag} {b : Bv} (o : iY O M W L H) (h : RB K O M W L H σ e v b) : aN K (aR M L) W L H σ e := by
 cases b with
 | val p => exact h.1
 | slot i => exact h.1
 | new p => exact (RB.weak (b := .new p) o h).1
noncomputable def RV (K : Frag) (Z : aI) (H : Hp) (σ : St) (v : V) : Bv -> Prop
 | .val p => Rep K Z H p v
 | .slot i => σ[i]? = some (some v)
 | .new _ => False
theorem RB.rv {K : Frag} {b : Bv} (o : iY O M W L H) (h : RB K O M W L H σ e v b) : RV K (aR M L) H σ v b.weak := by
 have h := h.weak o
 cases b with
 | val p => exact h.2
 | slot i => exact h.2
 | new p => exact h.2
theorem RV.keep {K : Frag} {b : Bv} (o : iY O M W L H) (k : bR W L H H') (h : RV K (aR M L) H σ v b) : RV K (aR M L) H' σ v b := by
 cases b with
 | val p => exact Rep.aH (k.aH o) h
 | slot i => exact h
 | new p => exact h
theorem aN.rd {K : Frag} {e : En} {i : Nat} (h : aN K Z W L H σ e) (g : rd e i = some p) (hv : σ[i]? = some (some v)) : Red K Z H p v := by
 unfold Mr.rd at g
 cases q : e[i]? with
 | none => rw [q] at g; cases g
 | some s =>
  cases s with
  | none => rw [q] at g; cases g
  | some s =>
   rw [q] at g
   cases g
   obtain ⟨w, h1, h2⟩ := h.at' i s q
   rw [hv] at h1
   cases h1
   exact h2.red
theorem RV.red {K : Frag} {b : Bv} (h : RV K Z H σ v b) (he : aN K Z W L H σ e) (g : b.get e = some p) : Red K Z H p v := by
 cases b with
 | val q => cases g; exact .rep h
 | slot i => exact he.rd g h
 | new q => exact h.elim
noncomputable abbrev FE := En -> Option (Bv × En)
noncomputable abbrev FT := En -> Option (Bool × En)
noncomputable abbrev FA := En -> Option (List Bv × En)
noncomputable def Fr (H : Hp) (v : V) : Bv -> Prop
 | .new _ => ∀ a, v = .ref a -> H a = none
 | _ => True
theorem Fr.back {H : Hp} {b : Bv} (d : ∀ a, H a ≠ none -> H1 a ≠ none) (h : Fr H1 v b) : Fr H v b := by
 cases b with
 | val p => trivial
 | slot i => trivial
 | new p =>
  intro a e
  cases z : H a with
  | none => rfl
  | some o => exact absurd (h a e) (d a (by rw [z]; exact fun z => nomatch z))
noncomputable def Ref (K : Frag) (t : TE) (f : FE) : Prop := ∀ (O M : aI) (W : WS) (L : aI) (σ : St) (H : Hp) (e e' : En) (b : Bv) (Q : VK), iY O M W L H -> aN K (aR M L) W L H σ e -> f e = some (b, e') ->
 (∀ v H', bR W L H H' -> RB K O M W L H' σ e' v b -> Fr H v b -> Q v H') -> t σ H Q
noncomputable def iV (K : Frag) (t : TT) (f : FT) : Prop := ∀ (O M : aI) (W : WS) (L : aI) (σ : St) (H : Hp) (e e' : En) (b : Bool) (Q : Bool -> Hp -> Prop), iY O M W L H -> aN K (aR M L) W L H σ e -> f e = some (b, e') ->
 (∀ H', bR W L H H' -> aN K (aR M L) W L H' σ e' -> Q b H') -> t σ H Q
inductive yA (K : Frag) (Z : aI) (H : Hp) (σ : St) : List Bv -> List V -> Prop
 | nil : yA K Z H σ [] []
 | cons {b : Bv} {v : V} {bs : List Bv} {vs : List V} : RV K Z H σ v b -> yA K Z H σ bs vs -> yA K Z H σ (b :: bs) (v :: vs)
noncomputable def oJ (K : Frag) (t : TA) (f : FA) : Prop := ∀ (O M : aI) (W : WS) (L : aI) (σ : St) (H : Hp) (e e' : En) (bs : List Bv) (Q : List V -> Hp -> Prop), iY O M W L H -> aN K (aR M L) W L H σ e -> f e = some (bs, e') ->
 (∀ vs H', bR W L H H' -> aN K (aR M L) W L H' σ e' -> yA K (aR M L) H' σ bs vs -> Q vs H') -> t σ H Q
noncomputable def bE (r : Option (α × En)) (k : α -> En -> Option β) : Option β := match r with
 | some (a, e) => k a e
 | none => none
noncomputable def bO (r : Option α) (k : α -> Option β) : Option β := match r with
 | some a => k a
 | none => none
theorem aL {r : Option (α × En)} {k : α -> En -> Option β} {b : β} (h : bE r k = some b) : ∃ a e, r = some (a, e) /\ k a e = some b := by
 cases r with
 | none => cases h
 | some x => exact ⟨x.1, x.2, rfl, h⟩
theorem aE {r : Option α} {k : α -> Option β} {b : β} (h : bO r k = some b) : ∃ a, r = some a /\ k a = some b := by
 cases r with
 | none => cases h
 | some x => exact ⟨x, rfl, h⟩
theorem AG {a : α} {k : α -> En -> Option β} : bE (some (a, e)) k = k a e := rfl
theorem qU {a : α} {k : α -> Option β} : bO (some a) k = k a := rfl
noncomputable def bB (c : Bool) (x y : β) : β := match c with | true => x | false => y
noncomputable def aU (c : Bool) (k : Option β) : Option β := match c with | true => k | false => none
theorem aJ {c : Bool} {k : Option β} {b : β} (h : aU c k = some b) : c = true /\ k = some b := by
 cases c with
 | false => cases h
 | true => exact ⟨rfl, h⟩
noncomputable def RN (K : Frag) (Z : aI) (H H' : Hp) (v : V) : Bv -> Prop
 | .val p => Rep K Z H' p v
 | .new p => ∃ a, v = .ref a /\ H a = none /\ fS K (aR Z (one a)) H' a p
 | .slot _ => False
theorem RN.rb {K : Frag} {b : Bv} (o : iY O M W L H) (he : aN K (aR M L) W L H σ e) (s : aT H H') (h : RN K (aR M L) H H' v b) : RB K O M W L H' σ e v b := by
 cases b with
 | val p => exact ⟨he.same s, h⟩
 | slot i => exact h.elim
 | new p =>
  obtain ⟨a, rfl, n, c⟩ := h
  have w := he.new s n
  exact ⟨a, rfl, fun z => o.old a z n, fun z => (o.loc a z).1 n, w.1, w.2, c.aH (.less fun _ z => by rcases z with z | z | z; exact .inl (.inl z); exact .inl (.inr z); exact .inr z) fun _ q => q⟩
theorem RN.fr {K : Frag} {H0 : Hp} {b : Bv} (d : ∀ a, H0 a ≠ none -> H a ≠ none) (h : RN K Z H H' v b) : Fr H0 v b := by
 refine Fr.back d ?_
 cases b with
 | val p => trivial
 | slot i => trivial
 | new p =>
  obtain ⟨a, rfl, n, c⟩ := h
  intro a' e
  cases e
  exact n
noncomputable def c8 (K : Frag) (r : R2) (g : PV -> PV -> Option Bv) : Prop := ∀ (Z : aI) (H : Hp) (x y : V) (p q : PV) (b : Bv) (Q : VK), Red K Z H p x -> Red K Z H q y -> g p q = some b -> (∀ v H', aT H H' -> RN K Z H H' v b -> Q v H') -> r x y H Q
noncomputable def VD (K : Frag) (r : V -> Hp -> VK -> Prop) (g : PV -> Option Bv) : Prop := ∀ (Z : aI) (H : Hp) (x : V) (p : PV) (b : Bv) (Q : VK), Red K Z H p x -> g p = some b -> (∀ v H', aT H H' -> RN K Z H H' v b -> Q v H') -> r x H Q
inductive rH (K : Frag) (Z : aI) (H : Hp) : List PV -> List V -> Prop
 | nil : rH K Z H [] []
 | cons {p : PV} {v : V} {ps : List PV} {vs : List V} : Red K Z H p v -> rH K Z H ps vs -> rH K Z H (p :: ps) (v :: vs)
noncomputable def fZ (K : Frag) (r : List V -> Hp -> VK -> Prop) (g : List PV -> Option Bv) : Prop := ∀ (Z : aI) (H : Hp) (vs : List V) (ps : List PV) (b : Bv) (Q : VK), rH K Z H ps vs -> g ps = some b -> (∀ v H', aT H H' -> RN K Z H H' v b -> Q v H') -> r vs H Q
noncomputable def Q9 (K : Frag) (r : V -> List V -> Hp -> VK -> Prop) (g : PV -> List PV -> Option Bv) : Prop := ∀ (Z : aI) (H : Hp) (x : V) (vs : List V) (p : PV) (ps : List PV) (b : Bv) (Q : VK), Red K Z H p x -> rH K Z H ps vs -> g p ps = some b -> (∀ v H', aT H H' -> RN K Z H H' v b -> Q v H') -> r x vs H Q
noncomputable def getL (e : En) : List Bv -> Option (List PV)
 | [] => some []
 | b :: bs => bO (b.get e) fun p => bO (getL e bs) fun ps => some (p :: ps)
theorem yA.red {K : Frag} (he : aN K Z W L H σ e) : ∀ {bs : List Bv} {vs : List V} {ps : List PV}, yA K Z H σ bs vs -> getL e bs = some ps -> rH K Z H ps vs
 | _, _, _, .nil, g => by cases g; exact .nil
 | _, _, _, .cons h r, g => by
  obtain ⟨p, g1, g⟩ := aE g
  obtain ⟨ps, g2, g⟩ := aE g
  cases g
  exact .cons (h.red he g1) (yA.red he r g2)
section
variable {K : Frag}
noncomputable def aC (i : Nat) : FE := fun e => match e[i]? with
 | some (some (.val p)) => some (.val p, e)
 | some (some _) => some (.slot i, e)
 | _ => none
theorem KD (i : Nat) : Ref K (vI i) (aC i) := by
 intro O M W L σ H e e' b Q o he hf q
 unfold aC at hf
 cases g : e[i]? with
 | none => rw [g] at hf; cases hf
 | some s =>
  cases s with
  | none => rw [g] at hf; cases hf
  | some s =>
   rw [g] at hf
   obtain ⟨v, h1, h2⟩ := he.at' i s g
   cases s with
   | val p => cases hf; exact ⟨v, h1, q v H .refl ⟨he, h2⟩ trivial⟩
   | own p => cases hf; exact ⟨v, h1, q v H .refl ⟨he, h1⟩ trivial⟩
   | loc p => cases hf; exact ⟨v, h1, q v H .refl ⟨he, h1⟩ trivial⟩
   | bor p => cases hf; exact ⟨v, h1, q v H .refl ⟨he, h1⟩ trivial⟩
noncomputable def fC (p : PV) : FE := fun e => some (.val p, e)
theorem vS (h : ∀ Z H, Rep K Z H p v) : Ref K (tC v) (fC p) := by
 intro O M W L σ H e e' b Q o he hf q
 cases hf
 exact q v H .refl ⟨he, h _ _⟩ trivial
theorem KN (i : Int) : Ref K (tC (.int i)) (fC (.int i)) := vS fun _ _ => .int i
theorem KI (i : Str) : Ref K (tC (.str i)) (fC (.str i)) := vS fun _ _ => .str i
theorem PJ (i : Bool) : Ref K (tC (.bl i)) (fC (.bl i)) := vS fun _ _ => .bl i
theorem NX : Ref K (tC .bF) (fC .bF) := vS fun _ _ => .bF
theorem SS (n : String) : Ref K (tC (.ty n)) (fC (.ty n)) := vS fun _ _ => .ty n
noncomputable def aZ (g : PV -> PV -> Option Bv) (fa fb : FE) : FE := fun e => bE (fa e) fun x e1 => bE (fb e1) fun y e2 => bO (x.weak.get e2) fun p => bO (y.weak.get e2) fun q => bO (g p q) fun b => some (b, e2)
theorem SG {r : R2} {g : PV -> PV -> Option Bv} (hg : c8 K r g) (ha : Ref K ta fa) (hb : Ref K tb fb) : Ref K (UE r ta tb) (aZ g fa fb) := by
 intro O M W L σ H e e' b Q o he hf q
 obtain ⟨x, e1, f1, hf⟩ := aL hf
 obtain ⟨y, e2, f2, hf⟩ := aL hf
 obtain ⟨p, g1, hf⟩ := aE hf
 obtain ⟨p', g2, hf⟩ := aE hf
 obtain ⟨c, g3, hf⟩ := aE hf
 cases hf
 refine ha O M W L σ H e e1 x _ o he f1 fun v1 H1 k1 r1 fr => ?_
 have o1 := o.keep k1.bU
 refine hb O M W L σ H1 e1 _ y _ o1 (r1.en o1) f2 fun v2 H2 k2 r2 fr => ?_
 have o2 := o1.keep k2.bU
 have en := r2.en o2
 refine hg _ H2 v1 v2 p p' _ Q (((r1.rv o1).keep o1 k2).red en g1) ((r2.rv o2).red en g2) g3 fun v H' s rn => ?_
 exact q v H' ((k1.trans k2).trans (.same s)) (rn.rb o2 en s) (rn.fr (k1.trans k2).bU)
noncomputable def T6 (g : PV -> Option Bv) (fa : FE) : FE := fun e => bE (fa e) fun x e1 => bO (x.weak.get e1) fun p => bO (g p) fun b => some (b, e1)
theorem P7 {r : V -> Hp -> VK -> Prop} {g : PV -> Option Bv} (hg : VD K r g) (ha : Ref K ta fa) : Ref K (X6 r ta) (T6 g fa) := by
 intro O M W L σ H e e' b Q o he hf q
 obtain ⟨x, e1, f1, hf⟩ := aL hf
 obtain ⟨p, g1, hf⟩ := aE hf
 obtain ⟨c, g3, hf⟩ := aE hf
 cases hf
 refine ha O M W L σ H e _ x _ o he f1 fun v1 H1 k1 r1 fr => ?_
 have o1 := o.keep k1.bU
 have en := r1.en o1
 refine hg _ H1 v1 p _ Q ((r1.rv o1).red en g1) g3 fun v H' s rn => ?_
 exact q v H' (k1.trans (.same s)) (rn.rb o1 en s) (rn.fr k1.bU)
noncomputable def aK : FA := fun e => some ([], e)
noncomputable def aB (fa : FE) (fr : FA) : FA := fun e => bE (fa e) fun x e1 => bE (fr e1) fun xs e2 => some (x.weak :: xs, e2)
theorem L6 : oJ K lW aK := by
 intro O M W L σ H e e' b Q o he hf q
 cases hf
 exact q [] H .refl he .nil
theorem G4 {tr : TA} {fr : FA} (ha : Ref K ta fa) (hr : oJ K tr fr) : oJ K (dU ta tr) (aB fa fr) := by
 intro O M W L σ H e e' b Q o he hf q
 obtain ⟨x, e1, f1, hf⟩ := aL hf
 obtain ⟨xs, e2, f2, hf⟩ := aL hf
 cases hf
 refine ha O M W L σ H e e1 x _ o he f1 fun v1 H1 k1 r1 fr => ?_
 have o1 := o.keep k1.bU
 refine hr O M W L σ H1 e1 _ xs _ o1 (r1.en o1) f2 fun vs H2 k2 en2 r2 => ?_
 exact q (v1 :: vs) H2 (k1.trans k2) en2 (.cons ((r1.rv o1).keep o1 k2) r2)
noncomputable def lJ (g : List PV -> Option Bv) (fa : FA) : FE := fun e => bE (fa e) fun xs e1 => bO (getL e1 xs) fun ps => bO (g ps) fun b => some (b, e1)
theorem SR {r : List V -> Hp -> VK -> Prop} {g : List PV -> Option Bv} {ta : TA} {fa : FA} (hg : fZ K r g) (ha : oJ K ta fa) : Ref K (OQ r ta) (lJ g fa) := by
 intro O M W L σ H e e' b Q o he hf q
 obtain ⟨x, e1, f1, hf⟩ := aL hf
 obtain ⟨p, g1, hf⟩ := aE hf
 obtain ⟨c, g3, hf⟩ := aE hf
 cases hf
 refine ha O M W L σ H e _ x _ o he f1 fun v1 H1 k1 en r1 => ?_
 have o1 := o.keep k1.bU
 refine hg _ H1 v1 p _ Q (r1.red en g1) g3 fun v H' s rn => ?_
 exact q v H' (k1.trans (.same s)) (rn.rb o1 en s) (rn.fr k1.bU)
noncomputable def V8 (g : PV -> List PV -> Option Bv) (fo : FE) (fa : FA) : FE := fun e => bE (fo e) fun x e0 => match x with
 | .val (.str z) => bE (fa e0) fun xs e1 => bO (getL e1 xs) fun ps => bO (g (.str z) ps) fun b => some (b, e1)
 | _ => none
theorem PH {r : V -> List V -> Hp -> VK -> Prop} {g : PV -> List PV -> Option Bv} {to : TE} {ta : TA} {fo : FE} {fa : FA} (hg : Q9 K r g) (ho : Ref K to fo) (ha : oJ K ta fa) : Ref K (S4 K "str" r to ta) (V8 g fo fa) := by
 intro O M W L σ H e e' b Q o he hf q
 obtain ⟨x, e0, f0, hf⟩ := aL hf
 cases x with
 | slot i => cases hf
 | new p => cases hf
 | val p =>
  cases p with
  | str z =>
   obtain ⟨xs, e1, f1, hf⟩ := aL hf
   obtain ⟨p, g1, hf⟩ := aE hf
   obtain ⟨c, g3, hf⟩ := aE hf
   cases hf
   refine ho O M W L σ H e e0 _ _ o he f0 fun v0 H0 k0 r0 fr => ?_
   have o0 := o.keep k0.bU
   obtain ⟨en0, r0⟩ := r0
   cases r0
   refine ⟨rfl, ha O M W L σ H0 e0 _ xs _ o0 en0 f1 fun v1 H1 k1 en r1 => ?_⟩
   have o1 := o0.keep k1.bU
   refine hg _ H1 (.str z) v1 (.str z) p _ Q (.rep (.str z)) (r1.red en g1) g3 fun v H' s rn => ?_
   exact q v H' ((k0.trans k1).trans (.same s)) (rn.rb o1 en s) (rn.fr (k0.trans k1).bU)
  | _ => cases hf
noncomputable def putL : List Bv -> Option (List PV)
 | [] => some []
 | b :: bs => bO b.put fun p => bO (putL bs) fun ps => some (p :: ps)
theorem yA.put : ∀ {bs : List Bv} {vs : List V} {ps : List PV}, yA K Z H σ bs vs -> putL bs = some ps -> aX K Z H ps vs
 | _, _, _, .nil, g => by cases g; exact .nil
 | b :: _, _, _, .cons h r, g => by
  obtain ⟨p, g1, g⟩ := aE g
  obtain ⟨ps, g2, g⟩ := aE g
  cases g
  cases b with
  | val p => cases g1; exact .cons h (yA.put r g2)
  | slot i => cases g1
  | new p => exact h.elim
theorem fL (h : decide (n < 1000000) = true) : n < sizeLine := X5 (by have := of_decide_eq_true h; omega)
noncomputable def cR (fa : FA) : FE := fun e => bE (fa e) fun xs e1 => bO (putL xs) fun ps => aU (decide (ps.length < 1000000)) (some (.val (.tup ps), e1))
theorem K8 {ta : TA} {fa : FA} (ha : oJ K ta fa) : Ref K (QA ta) (cR fa) := by
 intro O M W L σ H e e' b Q o he hf q
 obtain ⟨x, e1, f1, hf⟩ := aL hf
 obtain ⟨ps, g1, hf⟩ := aE hf
 obtain ⟨g2, hf⟩ := aJ hf
 cases hf
 refine ha O M W L σ H e _ x _ o he f1 fun vs H1 k1 en r1 => ?_
 have rl := r1.put g1
 refine ⟨by rw [<- rl.length]; exact le_of_lt (fL g2), fun p hp => ?_⟩
 have s : aT H1 (upd H1 p (.tup vs)) := aT.upd hp
 exact q _ _ (k1.trans (.same s)) ⟨en.same s, .tup (.inl aQ) (rl.aH (.same s))⟩ trivial
noncomputable def eQ (fa : FA) : FE := fun e => bE (fa e) fun xs e1 => bO (putL xs) fun ps => aU (decide (ps.length < 1000000)) (some (.new (.lst ps), e1))
theorem KR {ta : TA} {fa : FA} (ha : oJ K ta fa) : Ref K (J5 ta) (eQ fa) := by
 intro O M W L σ H e e' b Q o he hf q
 obtain ⟨x, e1, f1, hf⟩ := aL hf
 obtain ⟨ps, g1, hf⟩ := aE hf
 obtain ⟨g2, hf⟩ := aJ hf
 cases hf
 refine ha O M W L σ H e _ x _ o he f1 fun vs H1 k1 en r1 => ?_
 have o1 := o.keep k1.bU
 have rl := r1.put g1
 refine ⟨by rw [<- rl.length]; exact le_of_lt (fL g2), fun p hp => ?_⟩
 have s : aT H1 (upd H1 p (.lst vs)) := aT.upd hp
 exact q _ _ (k1.trans (.same s)) ⟨p, rfl, fun z => o1.old p z hp, fun z => (o1.loc p z).1 hp, (en.new s hp).1, (en.new s hp).2, .lst aQ (rl.aH ⟨fun _ _ h => s _ _ h, fun a o h n => ⟨s _ _ h, fun z => by
  rcases z with z | z | z
  ·exact n (.inl z)
  ·exact n (.inr z)
  ·rw [show a = p from z, hp] at h; cases h⟩⟩)⟩ (Fr.back (b := .new (.lst ps)) k1.bU fun a e => by cases e; exact hp)
noncomputable def xG : FE := fun e => some (.new (.bG []), e)
theorem IX : Ref K yV xG := by
 intro O M W L σ H e e' b Q o he hf q
 cases hf
 intro p hp
 have s : aT H (upd H p (.dK [] 0)) := aT.upd hp
 exact q _ _ (.same s) ⟨p, rfl, fun z => o.old p z hp, fun z => (o.loc p z).1 hp, (he.new s hp).1, (he.new s hp).2, .bG aQ rfl .nil⟩ fun a e => by cases e; exact hp
noncomputable def bP (f : FE) : FT := fun e => bE (f e) fun b e1 => match b with
 | .val (.bl c) => some (c, e1)
 | _ => none
theorem xN (h : Ref K t f) : iV K (N8 t) (bP f) := by
 intro O M W L σ H e e' b Q o he hf q
 obtain ⟨x, e1, f1, hf⟩ := aL hf
 cases x with
 | slot i => cases hf
 | new p => cases hf
 | val p =>
  cases p with
  | bl c =>
   cases hf
   refine h O M W L σ H e _ _ _ o he f1 fun v1 H1 k1 r1 fr => ?_
   obtain ⟨en, r⟩ := r1
   cases r
   exact ⟨b, rfl, q H1 k1 en⟩
  | _ => cases hf
theorem O9 (h : Ref K t f) : iV K (tB t) (bP f) := xN h
noncomputable def GQ (f g : FT) : FT := fun e => bE (f e) fun b e1 => bB b (g e1) (some (false, e1))
noncomputable def S9 (f g : FT) : FT := fun e => bE (f e) fun b e1 => bB b (some (true, e1)) (g e1)
noncomputable def zJ (f : FT) : FT := fun e => bE (f e) fun b e1 => some (!b, e1)
theorem KW {t : TT} {f g : FT} (h : iV K t f) (h2 : iV K u g) : iV K (U4 t u) (GQ f g) := by
 intro O M W L σ H e e' b Q o he hf q
 obtain ⟨x, e1, f1, hf⟩ := aL hf
 refine h O M W L σ H e _ _ _ o he f1 fun H1 k1 en => ?_
 cases x with
 | true => rw [if_pos rfl]; exact h2 O M W L σ H1 e1 _ _ _ (o.keep k1.bU) en hf fun H2 k2 en2 => q H2 (k1.trans k2) en2
 | false => cases hf; rw [if_neg Bool.false_ne_true]; exact q H1 k1 en
theorem SE {t : TT} {f g : FT} (h : iV K t f) (h2 : iV K u g) : iV K (XY t u) (S9 f g) := by
 intro O M W L σ H e e' b Q o he hf q
 obtain ⟨x, e1, f1, hf⟩ := aL hf
 refine h O M W L σ H e _ _ _ o he f1 fun H1 k1 en => ?_
 cases x with
 | true => cases hf; rw [if_pos rfl]; exact q H1 k1 en
 | false => rw [if_neg Bool.false_ne_true]; exact h2 O M W L σ H1 e1 _ _ _ (o.keep k1.bU) en hf fun H2 k2 en2 => q H2 (k1.trans k2) en2
theorem NB {t : TT} {f : FT} (h : iV K t f) : iV K (VG t) (zJ f) := by
 intro O M W L σ H e e' b Q o he hf q
 obtain ⟨x, e1, f1, hf⟩ := aL hf
 cases hf
 exact h O M W L σ H e _ _ _ o he f1 fun H1 k1 en => q H1 k1 en
noncomputable def eP : FT := fun e => some (true, e)
theorem F8 : iV K OJ eP := by
 intro O M W L σ H e e' b Q o he hf q
 cases hf
 exact q H .refl he
noncomputable def IV : Bv -> Option Bool
 | .val (.bl c) => some c
 | _ => none
theorem C8 {x : Bv} {c : Bool} (h : IV x = some c) : x = .val (.bl c) := by
 unfold IV at h
 split at h
 ·cases h; rfl
 ·cases h
noncomputable def GB (fa : FE) : FE := fun e => bE (fa e) fun b e1 => bO (IV b) fun c => some (.val (.bl (!c)), e1)
theorem GL (ha : Ref K ta fa) : Ref K (N3 ta) (GB fa) := by
 intro O M W L σ H e e' b Q o he hf q
 obtain ⟨x, e1, f1, hf⟩ := aL hf
 obtain ⟨c, gc, hf⟩ := aE hf
 have ec := C8 gc
 subst ec
 refine ha O M W L σ H e _ _ _ o he f1 fun v1 H1 k1 r1 fr => ?_
 obtain ⟨en, r⟩ := r1
 cases r
 cases hf
 exact ⟨c, rfl, q _ H1 k1 ⟨en, .bl _⟩ trivial⟩
noncomputable def LU (fc : FT) (fa fb : FE) : FE := fun e => bE (fc e) fun b e1 => bB b (fa e1) (fb e1)
theorem QS {tc : TT} (hc : iV K tc fc) (ha : Ref K ta fa) (hb : Ref K tb fb) : Ref K (XX tc ta tb) (LU fc fa fb) := by
 intro O M W L σ H e e' b Q o he hf q
 obtain ⟨x, e1, f1, hf⟩ := aL hf
 refine hc O M W L σ H e _ _ _ o he f1 fun H1 k1 en => ?_
 cases x with
 | true => rw [if_pos rfl]; exact ha O M W L σ H1 e1 _ _ _ (o.keep k1.bU) en hf fun v2 H2 k2 r2 fr => q v2 H2 (k1.trans k2) r2 (fr.back k1.bU)
 | false => rw [if_neg Bool.false_ne_true]; exact hb O M W L σ H1 e1 _ _ _ (o.keep k1.bU) en hf fun v2 H2 k2 r2 fr => q v2 H2 (k1.trans k2) r2 (fr.back k1.bU)
noncomputable abbrev FO := En -> Option (Option Int × En)
noncomputable def NJ (K : Frag) (t : TO) (f : FO) : Prop := ∀ (O M : aI) (W : WS) (L : aI) (σ : St) (H : Hp) (e e' : En) (b : Option Int) (Q : Option Int -> Hp -> Prop), iY O M W L H -> aN K (aR M L) W L H σ e -> f e = some (b, e') ->
 (∀ H', bR W L H H' -> aN K (aR M L) W L H' σ e' -> Q b H') -> t σ H Q
noncomputable def gQ : FO := fun e => some (none, e)
noncomputable def nP (f : FE) : FO := fun e => bE (f e) fun b e1 => match b with
 | .val (.int i) => some (some i, e1)
 | _ => none
theorem z6 : NJ K BU gQ := by
 intro O M W L σ H e e' b Q o he hf q
 cases hf
 exact q H .refl he
theorem GD (h : Ref K t f) : NJ K (N2 t) (nP f) := by
 intro O M W L σ H e e' b Q o he hf q
 obtain ⟨x, e1, f1, hf⟩ := aL hf
 cases x with
 | slot i => cases hf
 | new p => cases hf
 | val p =>
  cases p with
  | int c =>
   cases hf
   refine h O M W L σ H e _ _ _ o he f1 fun v1 H1 k1 r1 fr => ?_
   obtain ⟨en, r⟩ := r1
   cases r
   exact ⟨c, rfl, q H1 k1 en⟩
  | _ => cases hf
noncomputable def VI (K : Frag) (r : V -> Option Int -> Option Int -> Hp -> VK -> Prop) (g : PV -> Option Int -> Option Int -> Option Bv) : Prop := ∀ (Z : aI) (H : Hp) (x : V) (p : PV) (lo hi : Option Int) (b : Bv) (Q : VK), Red K Z H p x -> g p lo hi = some b -> (∀ v H', aT H H' -> RN K Z H H' v b -> Q v H') -> r x lo hi H Q
noncomputable def O1 (g : PV -> Option Int -> Option Int -> Option Bv) (fa : FE) (fl fh : FO) : FE := fun e => bE (fa e) fun x e1 => bE (fl e1) fun lo e2 => bE (fh e2) fun hi e3 => bO (x.weak.get e3) fun p => bO (g p lo hi) fun b => some (b, e3)
theorem RM {r : V -> Option Int -> Option Int -> Hp -> VK -> Prop} {g : PV -> Option Int -> Option Int -> Option Bv} {tl th : TO} {fl fh : FO} (hg : VI K r g) (ha : Ref K ta fa) (hl : NJ K tl fl) (hh : NJ K th fh) : Ref K (XZ r ta tl th) (O1 g fa fl fh) := by
 intro O M W L σ H e e' b Q o he hf q
 obtain ⟨x, e1, f1, hf⟩ := aL hf
 obtain ⟨lo, e2, f2, hf⟩ := aL hf
 obtain ⟨hi, e3, f3, hf⟩ := aL hf
 obtain ⟨p, g1, hf⟩ := aE hf
 obtain ⟨c, g3, hf⟩ := aE hf
 cases hf
 refine ha O M W L σ H e e1 x _ o he f1 fun v1 H1 k1 r1 fr => ?_
 have o1 := o.keep k1.bU
 refine hl O M W L σ H1 e1 e2 lo _ o1 (r1.en o1) f2 fun H2 k2 en2 => ?_
 have o2 := o1.keep k2.bU
 refine hh O M W L σ H2 e2 _ hi _ o2 en2 f3 fun H3 k3 en3 => ?_
 have o3 := o2.keep k3.bU
 refine hg _ H3 v1 p lo hi _ Q ((((r1.rv o1).keep o1 k2).keep o2 k3).red en3 g1) g3 fun v H' s rn => ?_
 exact q v H' (((k1.trans k2).trans k3).trans (.same s)) (rn.rb o3 en3 s) (rn.fr ((k1.trans k2).trans k3).bU)
end
inductive Out where
 | nx (e : En) | rt (b : Bv) (e : En) | bk (e : En) | ct (e : En)
noncomputable abbrev FS := En -> Option Out
structure kD (W : WS) (L L' : aI) (H H' : Hp) : Prop where
 obj : ∀ a o, H a = some o -> ¬ aw W a -> ¬ L a -> H' a = some o
 tup : ∀ a xs, H a = some (.tup xs) -> H' a = some (.tup xs)
 bU : ∀ a, H a ≠ none -> H' a ≠ none
 new : ∀ a, L' a -> L a \/ H a = none
theorem kD.refl : kD W L L H H := ⟨fun _ _ h _ _ => h, fun _ _ h => h, fun _ h => h, fun _ h => .inl h⟩
theorem kD.keep (k : bR W L H H') : kD W L L H H' := ⟨k.obj, k.tup, k.bU, fun _ h => .inl h⟩
theorem kD.trans {L2 : aI} {H : Hp} (a : kD W L L1 H H1) (b : kD W L1 L2 H1 H2) : kD W L L2 H H2 :=
 ⟨fun c o h n m => b.obj c o (a.obj c o h n m) n fun z => (a.new c z).elim m fun z => (by rw [h] at z; cases z), fun c xs h => b.tup c xs (a.tup c xs h), fun c h => b.bU c (a.bU c h), fun c h => by
  rcases b.new c h with z | z
  ·exact a.new c z
  ·refine .inr ?_
   cases e : H c with
   | none => rfl
   | some o => exact absurd z (a.bU c (by rw [e]; exact fun z => nomatch z))⟩
noncomputable def NI (K : Frag) (O M : aI) (W : WS) (L : aI) (H : Hp) (D : Ends) : Out -> Prop
 | .nx e' => ∀ L' σ' H', kD W L L' H H' -> iY O M W L' H' -> aN K (aR M L') W L' H' σ' e' -> D.nx σ' H'
 | .bk e' => ∀ L' σ' H', kD W L L' H H' -> iY O M W L' H' -> aN K (aR M L') W L' H' σ' e' -> D.bk σ' H'
 | .ct e' => ∀ L' σ' H', kD W L L' H H' -> iY O M W L' H' -> aN K (aR M L') W L' H' σ' e' -> D.ct σ' H'
 | .rt b e' => ∀ L' σ' H' v, kD W L L' H H' -> iY O M W L' H' -> RB K O M W L' H' σ' e' v b -> D.rt v H'
theorem NI.later {K : Frag} {D : Ends} {r : Out} (g : kD W L L1 H H1) (h : NI K O M W L H D r) : NI K O M W L1 H1 D r := by
 cases r with
 | nx e => exact fun L' σ' H' g' => h L' σ' H' (g.trans g')
 | bk e => exact fun L' σ' H' g' => h L' σ' H' (g.trans g')
 | ct e => exact fun L' σ' H' g' => h L' σ' H' (g.trans g')
 | rt b e => exact fun L' σ' H' v g' => h L' σ' H' v (g.trans g')
noncomputable def jB (K : Frag) (t : TS) (f : FS) : Prop := ∀ (O M : aI) (W : WS) (L : aI) (σ : St) (H : Hp) (e : En) (r : Out) (D : Ends), iY O M W L H -> aN K (aR M L) W L H σ e -> f e = some r -> NI K O M W L H D r -> t D σ H
section
variable {K : Frag}
noncomputable def cU : FS := fun e => some (.nx e)
theorem E8 : jB K G5 cU := by
 intro O M W L σ H e r D o he hf q
 cases hf
 exact q L σ H .refl o he
noncomputable def a8 (f g : FS) : FS := fun e => match f e with
 | some (.nx e1) => g e1
 | r => r
theorem MU {t u : TS} {f : FS} (h1 : jB K t f) (h2 : jB K u g) : jB K (MA t u) (a8 f g) := by
 intro O M W L σ H e r D o he hf q
 unfold a8 at hf
 cases c : f e with
 | none => rw [c] at hf; cases hf
 | some r1 =>
  rw [c] at hf
  cases r1 with
  | nx e1 => exact h1 O M W L σ H e _ _ o he c fun L' σ' H' g' o' he' => h2 O M W L' σ' H' e1 r D o' he' hf (q.later g')
  | rt b e1 => cases hf; exact h1 O M W L σ H e _ _ o he c q
  | bk e1 => cases hf; exact h1 O M W L σ H e _ _ o he c q
  | ct e1 => cases hf; exact h1 O M W L σ H e _ _ o he c q
noncomputable def cW (f : FE) : FS := fun e => bE (f e) fun b e1 => some (.rt b e1)
theorem L0 (h : Ref K t f) : jB K (QJ t) (cW f) := by
 intro O M W L σ H e r D o he hf q
 obtain ⟨x, e1, f1, hf⟩ := aL hf
 cases hf
 exact h O M W L σ H e _ _ _ o he f1 fun v H' k rb fr => q L σ H' v (.keep k) (o.keep k.bU) rb
noncomputable def oQ (fc : FT) (f g : FS) : FS := fun e => bE (fc e) fun b e1 => bB b (f e1) (g e1)
theorem MD {c : TT} {t u : TS} {f : FS} (hc : iV K c fc) (h1 : jB K t f) (h2 : jB K u g) : jB K (P0 c t u) (oQ fc f g) := by
 intro O M W L σ H e r D o he hf q
 obtain ⟨x, e1, f1, hf⟩ := aL hf
 refine hc O M W L σ H e _ _ _ o he f1 fun H1 k1 en => ?_
 cases x with
 | true => rw [if_pos rfl]; exact h1 O M W L σ H1 e1 r D (o.keep k1.bU) en hf (q.later (.keep k1))
 | false => rw [if_neg Bool.false_ne_true]; exact h2 O M W L σ H1 e1 r D (o.keep k1.bU) en hf (q.later (.keep k1))
theorem eZ {l : List α} {j : Nat} {x y : α} (h : (l.set i x)[j]? = some y) : (i = j /\ i < l.length /\ x = y) \/ (i ≠ j /\ l[j]? = some y) := by
 by_cases e : i = j
 ·subst e
  have hl : i < l.length := by
   have := (List.getElem?_eq_some_iff.mp h).1
   simpa using this
  rw [getElem?_set_self hl] at h
  exact .inl ⟨rfl, hl, Option.some.inj h⟩
 ·rw [getElem?_set_ne e] at h
  exact .inr ⟨e, h⟩
theorem aN.put {e : En} (h : aN K Z W L H σ e) (hm : s.cQ = false) (hs : gY K Z W L H i v s) : aN K Z W L H (σ.set i (some v)) (e.set i (some s)) := by
 refine ⟨by rw [length_set, length_set]; exact h.len, fun j t q => ?_, fun j k s1 s2 hjk q1 q2 m1 m2 => ?_⟩
 ·rcases eZ q with ⟨rfl, hl, e⟩ | ⟨hn, q⟩
  ·cases e
   exact ⟨v, by rw [getElem?_set_self (by rw [<- h.len]; exact hl)], hs⟩
  ·rw [getElem?_set_ne hn]
   exact h.at' j t q
 ·rcases eZ q1 with ⟨rfl, hl, e⟩ | ⟨hn1, q1⟩
  ·cases e; rw [hm] at m1; cases m1
  ·rcases eZ q2 with ⟨rfl, hl, e⟩ | ⟨hn2, q2⟩
   ·cases e; rw [hm] at m2; cases m2
   ·rw [getElem?_set_ne hn1, getElem?_set_ne hn2]
    exact h.kX j k s1 s2 hjk q1 q2 m1 m2
theorem aN.putL {e : En} (h : aN K (aR M (aR L (one a))) W (aR L (one a)) H σ e) (hf : JO σ e a) (hc : fS K (aR M (aR L (one a))) H a p) :
  aN K (aR M (aR L (one a))) W (aR L (one a)) H (σ.set i (some (.ref a))) (e.set i (some (.loc p))) := by
 refine ⟨by rw [length_set, length_set]; exact h.len, fun j t q => ?_, fun j k s1 s2 hjk q1 q2 m1 m2 => ?_⟩
 ·rcases eZ q with ⟨rfl, hl, e⟩ | ⟨hn, q⟩
  ·cases e
   exact ⟨_, by rw [getElem?_set_self (by rw [<- h.len]; exact hl)], a, rfl, .inr rfl, hc⟩
  ·rw [getElem?_set_ne hn]
   exact h.at' j t q
 ·rcases eZ q1 with ⟨rfl, hl, e⟩ | ⟨hn1, q1⟩
  ·rcases eZ q2 with ⟨rfl, hl, e⟩ | ⟨hn2, q2⟩
   ·exact absurd rfl hjk
   ·rw [getElem?_set_ne hn2, getElem?_set_self (by rw [<- h.len]; exact hl)]
    exact fun z => hf k s2 q2 m2 z.symm
  ·rcases eZ q2 with ⟨rfl, hl, e⟩ | ⟨hn2, q2⟩
   ·rw [getElem?_set_ne hn1, getElem?_set_self (by rw [<- h.len]; exact hl)]
    exact fun z => hf j s1 q1 m1 z
   ·rw [getElem?_set_ne hn1, getElem?_set_ne hn2]
    exact h.kX j k s1 s2 hjk q1 q2 m1 m2
noncomputable def cD (i : Nat) (f : FE) : FS := fun e => bE (f e) fun b e1 => match b with
 | .val p => some (.nx (e1.set i (some (.val p))))
 | .new p => some (.nx (e1.set i (some (.val p))))
 | .slot j => match e1[j]? with
  | some (some (.bor p)) => some (.nx (e1.set i (some (.bor p))))
  | _ => none
theorem J9 (h : Ref K t f) : jB K (u6 t (lM i)) (cD i f) := by
 intro O M W L σ H e r D o he hf q
 obtain ⟨x, e1, f1, hf⟩ := aL hf
 refine h O M W L σ H e _ _ _ o he f1 fun v H' k rb fr => ?_
 have o1 := o.keep k.bU
 cases x with
 | val p => cases hf; exact q L _ H' (.keep k) o1 (aN.put rb.1 rfl rb.2)
 | new p => cases hf; have rb := rb.weak o1; exact q L _ H' (.keep k) o1 (aN.put (s := .val p) rb.1 rfl rb.2)
 | slot j =>
  dsimp only at hf
  cases c : e1[j]? with
  | none => rw [c] at hf; cases hf
  | some s =>
   cases s with
   | none => rw [c] at hf; cases hf
   | some s =>
    rw [c] at hf
    cases s with
    | bor p =>
     cases hf
     obtain ⟨u, h1, h2⟩ := rb.1.at' j _ c
     rw [rb.2] at h1
     cases h1
     exact q L _ H' (.keep k) o1 (aN.put (s := .bor p) rb.1 rfl h2)
    | _ => cases hf
noncomputable def jQ (i : Nat) (f : FE) : FS := fun e => bE (f e) fun b e1 => match b with
 | .new p => some (.nx (e1.set i (some (.loc p))))
 | _ => none
theorem G9 (h : Ref K t f) : jB K (u6 t (lM i)) (jQ i f) := by
 intro O M W L σ H e r D o he hf q
 obtain ⟨x, e1, f1, hf⟩ := aL hf
 cases x with
 | val p => cases hf
 | slot j => cases hf
 | new p =>
  cases hf
  refine h O M W L σ H e _ _ _ o he f1 fun v H' k rb fr => ?_
  obtain ⟨a, rfl, nO, nL, en, fe, c⟩ := rb
  obtain ⟨ob, hob, _⟩ := c.there
  have o1 := o.keep k.bU
  have new : H a = none := fr a rfl
  exact q (aR L (one a)) _ H' ⟨k.obj, k.tup, k.bU, fun b z => z.elim .inl fun z => .inr (by rw [show b = a from z]; exact new)⟩ ⟨o1.old, o1.mo, o1.wm, fun b z => z.elim (o1.loc b) fun z => (by rw [show b = a from z]; exact ⟨(by rw [hob]; exact fun z => nomatch z), nO⟩)⟩ (aN.putL en fe c)
noncomputable def rel (i : Nat) (e : En) : Option En := match e[i]? with
 | some (some (.loc p)) => some (e.set i (some (.val p)))
 | some (some (.val p)) => some e
 | _ => none
noncomputable def cA (e : En) (i : Nat) (p : PV) : En := match e[i]? with
 | some (some (.own _)) => e.set i (some (.own p))
 | _ => e.set i (some (.loc p))
noncomputable def ownAt (e : En) (i : Nat) : Option PV := match e[i]? with
 | some (some (.own p)) => some p
 | some (some (.loc p)) => some p
 | _ => none
theorem bI (h : ownAt e i = some p) : (e[i]? = some (some (.own p)) \/ e[i]? = some (some (.loc p))) := by
 unfold ownAt at h
 split at h
 ·cases h; exact .inl (by assumption)
 ·cases h; exact .inr (by assumption)
 ·cases h
theorem aN.own {i : Nat} (h : aN K Z W L H σ e) (g : ownAt e i = some p) : ∃ a, σ[i]? = some (some (.ref a)) /\ (aw W a \/ L a) /\ fS K Z H a p := by
 rcases bI g with g | g
 ·obtain ⟨v, h1, a, rfl, w, c⟩ := h.at' i _ g
  exact ⟨a, h1, .inl ⟨i, w⟩, c⟩
 ·obtain ⟨v, h1, a, rfl, w, c⟩ := h.at' i _ g
  exact ⟨a, h1, .inr w, c⟩
theorem cL.write (z : Z a) (h : H a = some ob) (nt : ∀ xs, ob ≠ .tup xs) : cL Z Z H (upd H a o) :=
 ⟨fun b xs e => by rw [aP (FC e h fun z => nt _ z.symm)]; exact e, fun b u e n => ⟨by rw [aP (fun q : b = a => n (by rw [q]; exact z))]; exact e, n⟩⟩
theorem aN.write {i : Nat} {q : PV} (wm : ∀ i a, W i a -> M a) (h : aN K (aR M L) W L H σ e) (g : ownAt e i = some p) (ha : σ[i]? = some (some (.ref a))) (c : fS K (aR M L) (upd H a ob) a q) :
  aN K (aR M L) W L (upd H a ob) σ (cA e i q) := by
 obtain ⟨a', h1, hz, c0⟩ := h.own g
 rw [ha] at h1
 cases h1
 have za : aR M L a := hz.elim (fun ⟨i, w⟩ => .inl (wm i a w)) .inr
 obtain ⟨o0, e0, nt⟩ := c0.there
 have k : cL (aR M L) (aR M L) H (upd H a ob) := .write za e0 nt
 have hl : i < e.length := by
  rcases bI g with g | g <;> exact (List.getElem?_eq_some_iff.mp g).1
 have hm : ∃ s, e[i]? = some (some s) /\ s.cQ = true := by
  rcases bI g with g | g <;> exact ⟨_, g, rfl⟩
 obtain ⟨s0, hs0, hm0⟩ := hm
 have key : ∀ s', (cA e i q)[i]? = some (some s') -> ∃ v, σ[i]? = some (some v) /\ gY K (aR M L) W L (upd H a ob) i v s' := fun s' z => by
  unfold cA at z
  rcases bI g with g | g
  ·rw [g] at z
   rw [getElem?_set_self hl] at z
   cases z
   obtain ⟨v, h1, a', rfl, w, _⟩ := h.at' i _ g
   rw [ha] at h1; cases h1
   exact ⟨_, ha, a, rfl, w, c⟩
  ·rw [g] at z
   rw [getElem?_set_self hl] at z
   cases z
   obtain ⟨v, h1, a', rfl, w, _⟩ := h.at' i _ g
   rw [ha] at h1; cases h1
   exact ⟨_, ha, a, rfl, w, c⟩
 have oth : ∀ j, i ≠ j -> (cA e i q)[j]? = e[j]? := fun j hj => by
  unfold cA
  rcases bI g with g | g <;> (rw [g]; exact getElem?_set_ne hj)
 refine ⟨?_, fun j t z => ?_, fun j l s1 s2 hjk q1 q2 m1 m2 => ?_⟩
 ·rw [<- h.len]; unfold cA; rcases bI g with g | g <;> (rw [g]; exact length_set)
 ·by_cases hj : i = j
  ·subst hj; exact key t z
  ·rw [oth j hj] at z
   obtain ⟨v, g1, g2⟩ := h.at' j t z
   refine ⟨v, g1, ?_⟩
   cases t with
   | val p => exact Rep.aH k g2
   | own p =>
    obtain ⟨b, e', w, c⟩ := g2
    subst e'
    have hb : b ≠ a := fun z' => h.kX i j s0 _ hj hs0 z hm0 rfl (by rw [ha, g1, z'])
    exact ⟨b, rfl, w, c.aH k fun o q => by rw [aP hb]; exact q⟩
   | loc p =>
    obtain ⟨b, e', w, c⟩ := g2
    subst e'
    have hb : b ≠ a := fun z' => h.kX i j s0 _ hj hs0 z hm0 rfl (by rw [ha, g1, z'])
    exact ⟨b, rfl, w, c.aH k fun o q => by rw [aP hb]; exact q⟩
   | bor p =>
    obtain ⟨b, e', c⟩ := g2
    refine ⟨b, e', ?_⟩
    cases c with
    | lst e od n m r =>
     have hb : b ≠ a := fun z' => hz.elim (fun w => n (z' ▸ w)) fun w => m (z' ▸ w)
     exact .lst (e.elim (fun e => .inl (by rw [aP hb]; exact e)) fun ⟨u, e⟩ => .inr ⟨u, by rw [aP hb]; exact e⟩) od n m (r.aH k)
    | cY e r => exact .cY e (r.aH k)
    | bG e od n m kk r =>
     have hb : b ≠ a := fun z' => hz.elim (fun w => n (z' ▸ w)) fun w => m (z' ▸ w)
     exact .bG (e.elim (fun e => .inl (by rw [aP hb]; exact e)) fun ⟨u, e⟩ => .inr ⟨u, by rw [aP hb]; exact e⟩) od n m kk (r.aH k)
 ·have cQ : ∀ (j : Nat) (s : Sl), (cA e i q)[j]? = some (some s) -> s.cQ = true -> ∃ s' : Sl, e[j]? = some (some s') /\ s'.cQ = true := fun j s z m => by
   by_cases hj : i = j
   ·subst hj; exact ⟨s0, hs0, hm0⟩
   ·rw [oth j hj] at z; exact ⟨s, z, m⟩
  obtain ⟨t1, w1, n1⟩ := cQ j s1 q1 m1
  obtain ⟨t2, w2, n2⟩ := cQ l s2 q2 m2
  exact h.kX j l t1 t2 hjk w1 w2 n1 n2
theorem bR.write (hz : aw W a \/ L a) (h : H a = some ob) (nt : ∀ xs, ob ≠ .tup xs) : bR W L H (upd H a o) :=
 ⟨fun b u e n m => by rw [aP (fun q : b = a => hz.elim (fun z => n (by rw [q]; exact z)) fun z => m (by rw [q]; exact z))]; exact e, fun b xs e => by rw [aP (FC e h fun z => nt _ z.symm)]; exact e, fun b e => by
  by_cases hb : b = a
  ·subst hb; rw [aQ]; exact fun z => nomatch z
  ·rw [aP hb]; exact e⟩
noncomputable def yP (i : Nat) (f : FE) : FS := fun e => bO (ownAt e i) fun p0 => match p0 with
 | .lst _ => bE (f e) fun b e1 => bO b.put fun p => match ownAt e1 i with
  | some (.lst ps) => aU (decide (ps.length < 1000000)) (some (.nx (cA e1 i (.lst (ps ++ [p])))))
  | _ => none
 | _ => none
theorem RB.put {b : Bv} (o : iY O M W L H) (h : RB K O M W L H σ e v b) (g : b.put = some p) : aN K (aR M L) W L H σ e /\ Rep K (aR M L) H p v := by
 have h := h.weak o
 cases b with
 | val q => cases g; exact h
 | new q => cases g; exact h
 | slot i => cases g
theorem MF {i : Nat} (h : Ref K t f) : jB K (HL (S4 K "list" o9 (vI i) (dU t lW))) (yP i f) := by
 intro O M W L σ H e r D o he hf q
 obtain ⟨p0, g0, hf⟩ := aE hf
 cases p0 with
 | lst ps0 =>
  obtain ⟨x, e1, f1, hf⟩ := aL hf
  obtain ⟨p, g1, hf⟩ := aE hf
  cases c : ownAt e1 i with
  | none => rw [c] at hf; cases hf
  | some q1 =>
   rw [c] at hf
   cases q1 with
   | lst ps =>
    obtain ⟨g2, hf⟩ := aJ hf
    cases hf
    obtain ⟨a, ha, hz, ct⟩ := he.own g0
    refine ⟨_, ha, .inl ⟨rfl, ?_⟩, ?_⟩
    ·cases ct with | lst e r => exact ⟨_, gK.of e⟩
    refine h O M W L σ H e _ _ _ o he f1 fun v H' k rb fr => ?_
    have o1 := o.keep k.bU
    obtain ⟨en, rp⟩ := rb.put o1 g1
    obtain ⟨a', ha', hz', ct'⟩ := en.own c
    rw [ha] at ha'
    cases ha'
    cases ct' with
    | lst e2 r2 =>
     rename_i xs
     refine ⟨a, xs, v, rfl, rfl, e2, by rw [<- r2.length]; exact fL g2, ?_⟩
     have kw : bR W L H' (upd H' a (.lst (xs ++ [v]))) := .write hz e2 fun _ z => nomatch z
     have st : cL (aR M L) (aR M L) H' (upd H' a (.lst (xs ++ [v]))) := .write (hz.elim (fun ⟨i, w⟩ => .inl (o.wm i a w)) .inr) e2 fun _ z => nomatch z
     exact q L σ _ (.keep (k.trans kw)) (o1.keep kw.bU) (aN.write o.wm en c ha (.lst aQ ((r2.aH st).app (.cons (rp.aH st) .nil))))
   | _ => cases hf
 | _ => cases hf
noncomputable def uB (i : Nat) (fi fv : FE) : FS := fun e => bE (fv e) fun b e1 => bO b.put fun p => bO (ownAt e1 i) fun _ => bE (fi e1) fun k e2 => match k with
 | .val (.int k) => match ownAt e2 i with
  | some (.lst ps) => bO (qV ps.length k) fun j => some (.nx (cA e2 i (.lst (ps.set j p))))
  | _ => none
 | _ => none
theorem D1 {i : Nat} {ti : TE} {fi : FE} (hv : Ref K tv fv) (hi : Ref K ti fi) : jB K (u6 tv (qZ (vI i) ti N4)) (uB i fi fv) := by
 intro O M W L σ H e r D o he hf q
 obtain ⟨x, e1, f1, hf⟩ := aL hf
 obtain ⟨p, g1, hf⟩ := aE hf
 obtain ⟨p0, g0, hf⟩ := aE hf
 obtain ⟨y, e2, f2, hf⟩ := aL hf
 cases y with
 | slot i => cases hf
 | new p => cases hf
 | val y =>
  cases y with
  | int k =>
   dsimp only at hf
   cases c : ownAt e2 i with
   | none => rw [c] at hf; cases hf
   | some q1 =>
    rw [c] at hf
    cases q1 with
    | lst ps =>
     obtain ⟨j, g2, hf⟩ := aE hf
     cases hf
     refine hv O M W L σ H e _ _ _ o he f1 fun v H1 k1 rb fr => ?_
     have o1 := o.keep k1.bU
     obtain ⟨en, rp⟩ := rb.put o1 g1
     obtain ⟨a, ha, _, _⟩ := en.own g0
     refine ⟨_, ha, hi O M W L σ H1 e1 _ _ _ o1 en f2 fun v2 H2 k2 rb2 fr2 => ?_⟩
     obtain ⟨en2, r2⟩ := rb2
     cases r2
     have o2 := o1.keep k2.bU
     obtain ⟨a', ha', hz, ct⟩ := en2.own c
     rw [ha] at ha'
     cases ha'
     cases ct with
     | lst e3 r3 =>
      rename_i xs
      refine ⟨a, xs, k, j, rfl, rfl, e3, by rw [<- r3.length]; exact g2, ?_⟩
      have kw : bR W L H2 (upd H2 a (.lst (xs.set j v))) := .write hz e3 fun _ z => nomatch z
      have st : cL (aR M L) (aR M L) H2 (upd H2 a (.lst (xs.set j v))) := .write (hz.elim (fun ⟨i, w⟩ => .inl (o.wm i a w)) .inr) e3 fun _ z => nomatch z
      exact q L σ _ (.keep ((k1.trans k2).trans kw)) (o2.keep kw.bU) (aN.write o.wm en2 c ha (.lst aQ ((r3.aH st).set ((rp.aH (k2.aH o1)).aH st) j)))
    | _ => cases hf
  | _ => cases hf
end
noncomputable def cC (kvs : List (Key × PV)) (k : Key) : Option PV := (kvs.find? fun kv => decide (kv.1 = k)).map (·.2)
noncomputable def eU (kvs : List (Key × PV)) (k : Key) (v : PV) : List (Key × PV) :=
 if (kvs.any fun kv => decide (kv.1 = k)) = true then kvs.map (fun kv => if kv.1 = k then (kv.1, v) else kv) else kvs ++ [(k, v)]
section
variable {K : Frag} {Z : aI} {H : Hp}
noncomputable def dF (K : Frag) (Z : aI) (H : Hp) (kvs : List (Key × PV)) (ys : List (Key × V)) : Prop := ys.map (·.1) = kvs.map (·.1) /\ aX K Z H (kvs.map (·.2)) (ys.map (·.2))
theorem dF.cases {kvs : List (Key × PV)} {ys : List (Key × V)} (h : dF K Z H kvs ys) : (kvs = [] /\ ys = []) \/ ∃ k p v r s, kvs = (k, p) :: r /\ ys = (k, v) :: s /\ Rep K Z H p v /\ dF K Z H r s := by
 obtain ⟨h1, h2⟩ := h
 cases kvs with
 | nil =>
  cases ys with
  | nil => exact .inl ⟨rfl, rfl⟩
  | cons y ys => cases h1
 | cons x kvs =>
  cases ys with
  | nil => cases h1
  | cons y ys =>
   obtain ⟨a, p⟩ := x
   obtain ⟨b, v⟩ := y
   rw [map_cons, map_cons] at h1
   have h1' := List.cons.inj h1
   have e : b = a := h1'.1
   subst e
   cases h2 with
   | cons h2 r2 => exact .inr ⟨b, p, v, kvs, ys, rfl, rfl, h2, h1'.2, r2⟩
theorem dF.cons {r : List (Key × PV)} {s : List (Key × V)} (h : Rep K Z H p v) (hr : dF K Z H r s) : dF K Z H ((k, p) :: r) ((k, v) :: s) :=
 ⟨by rw [map_cons, map_cons, hr.1], .cons h hr.2⟩
theorem dF.val : ∀ {kvs : List (Key × PV)} {ys : List (Key × V)} (k : Key), dF K Z H kvs ys -> (cC kvs k = none /\ dN ys k = none) \/ ∃ p v, cC kvs k = some p /\ dN ys k = some v /\ Rep K Z H p v
 | [], ys, k, h => by
  rcases h.cases with ⟨_, rfl⟩ | ⟨_, _, _, _, _, e, _⟩
  ·exact .inl ⟨rfl, rfl⟩
  ·cases e
 | x :: kvs, ys, k, h => by
  rcases h.cases with ⟨e, _⟩ | ⟨j, p, v, r, s, e, e', hp, hr⟩
  ·cases e
  ·cases e
   subst e'
   by_cases hj : j = k
   ·exact .inr ⟨p, v, by simp [cC, find?_cons, hj], by simp [dN, find?_cons, hj], hp⟩
   ·have a : cC ((j, p) :: kvs) k = cC kvs k := by simp [cC, find?_cons, hj]
    have b : dN ((j, v) :: s) k = dN s k := by simp [dN, find?_cons, hj]
    rw [a, b]
    exact dF.val k hr
theorem dF.any (k : Key) (h : dF K Z H kvs ys) : (kvs.any fun kv => decide (kv.1 = k)) = ys.any fun kv => decide (kv.1 = k) := by
 have e1 : (kvs.any fun kv => decide (kv.1 = k)) = (kvs.map (·.1)).any fun j => decide (j = k) := by rw [any_map]; rfl
 have e2 : (ys.any fun kv => decide (kv.1 = k)) = (ys.map (·.1)).any fun j => decide (j = k) := by rw [any_map]; rfl
 rw [e1, e2, h.1]
theorem dF.zB (hp : Rep K Z H p v) (k : Key) : ∀ {kvs : List (Key × PV)} {ys : List (Key × V)}, dF K Z H kvs ys -> dF K Z H (kvs.map fun kv => if kv.1 = k then (kv.1, p) else kv) (ys.map fun kv => if kv.1 = k then (kv.1, v) else kv)
 | [], ys, h => by
  rcases h.cases with ⟨_, rfl⟩ | ⟨_, _, _, _, _, e, _⟩
  ·exact h
  ·cases e
 | x :: kvs, ys, h => by
  rcases h.cases with ⟨e, _⟩ | ⟨j, q, u, r, s, e, e', hq, hr⟩
  ·cases e
  ·cases e
   subst e'
   rw [map_cons, map_cons]
   by_cases hj : j = k
   ·rw [if_pos hj, if_pos hj]; exact .cons hp (dF.zB hp k hr)
   ·rw [if_neg hj, if_neg hj]; exact .cons hq (dF.zB hp k hr)
theorem dF.put (k : Key) (h : dF K Z H kvs ys) (hp : Rep K Z H p v) : dF K Z H (eU kvs k p) (putK ys k v) := by
 unfold eU putK
 rw [h.any k]
 split
 ·exact h.zB hp k
 ·exact ⟨by rw [map_append, map_append, h.1]; rfl, by rw [map_append, map_append]; exact h.2.app (.cons hp .nil)⟩
end
noncomputable def keyOf : PV -> Option Key
 | .int i => some (.inl i)
 | .str x => some (.inr x)
 | _ => none
section
variable {K : Frag}
theorem Red.key {p : PV} (h : Red K Z H p v) (g : keyOf p = some k) : v = kV k := by
 cases p with
 | int i => cases g; exact h.int
 | str i => cases g; exact h.str
 | _ => cases g
noncomputable def oG (i : Nat) (fk fv : FE) : FS := fun e => bE (fv e) fun b e1 => bO b.put fun p => bO (ownAt e1 i) fun _ => bE (fk e1) fun k e2 => bO (k.weak.get e2) fun kp => bO (keyOf kp) fun key => match ownAt e2 i with
  | some (.bG kvs) => aU (decide (kvs.length < 1000000)) (some (.nx (cA e2 i (.bG (eU kvs key p)))))
  | _ => none
theorem EW {i : Nat} {tk : TE} {fk : FE} (hv : Ref K tv fv) (hk : Ref K tk fk) : jB K (L2.oG (vI i) tk tv) (oG i fk fv) := by
 intro O M W L σ H e r D o he hf q
 obtain ⟨x, e1, f1, hf⟩ := aL hf
 obtain ⟨p, g1, hf⟩ := aE hf
 obtain ⟨p0, g0, hf⟩ := aE hf
 obtain ⟨y, e2, f2, hf⟩ := aL hf
 obtain ⟨kp, g3, hf⟩ := aE hf
 obtain ⟨key, g4, hf⟩ := aE hf
 cases c : ownAt e2 i with
 | none => rw [c] at hf; cases hf
 | some q1 =>
  rw [c] at hf
  cases q1 with
  | bG kvs =>
   obtain ⟨g2, hf⟩ := aJ hf
   cases hf
   refine hv O M W L σ H e _ _ _ o he f1 fun v H1 k1 rb fr => ?_
   have o1 := o.keep k1.bU
   obtain ⟨en, rp⟩ := rb.put o1 g1
   obtain ⟨a, ha, _, _⟩ := en.own g0
   refine ⟨_, ha, hk O M W L σ H1 e1 _ _ _ o1 en f2 fun v2 H2 k2 rb2 fr2 => ?_⟩
   have o2 := o1.keep k2.bU
   have en2 := rb2.en o2
   have ek := ((rb2.rv o2).red en2 g3).key g4
   subst ek
   obtain ⟨a', ha', hz, ct⟩ := en2.own c
   rw [ha] at ha'
   cases ha'
   cases ct with
   | bG e3 kk r3 =>
    rename_i ys
    have hl : ys.length = kvs.length := by have := congrArg List.length kk; simpa using this
    refine ⟨a, rfl, .inl ⟨_, _, ⟨_, e3⟩, rfl, by rw [hl]; exact fL g2, fun ep => ?_⟩⟩
    have kw : bR W L H2 (upd H2 a (.dK (putK ys key v) ep)) := .write hz e3 fun _ z => nomatch z
    have st : cL (aR M L) (aR M L) H2 (upd H2 a (.dK (putK ys key v) ep)) := .write (hz.elim (fun ⟨i, w⟩ => .inl (o.wm i a w)) .inr) e3 fun _ z => nomatch z
    have rd : dF K (aR M L) (upd H2 a (.dK (putK ys key v) ep)) (eU kvs key p) (putK ys key v) := dF.put key ⟨kk, r3.aH st⟩ ((rp.aH (k2.aH o1)).aH st)
    exact q L σ _ (.keep ((k1.trans k2).trans kw)) (o2.keep kw.bU) (aN.write o.wm en2 c ha (.bG aQ rd.1 rd.2))
  | _ => cases hf
noncomputable abbrev FG := PV -> En -> Option En
noncomputable abbrev EL := List PV -> En -> Option En
noncomputable def tM (K : Frag) (g : TG) (f : FG) : Prop := ∀ (O M : aI) (W : WS) (L : aI) (σ : St) (H : Hp) (e e' : En) (p : PV) (v : V) (Q : St -> Hp -> Prop), iY O M W L H -> aN K (aR M L) W L H σ e -> Rep K (aR M L) H p v -> f p e = some e' -> (∀ σ', aN K (aR M L) W L H σ' e' -> Q σ' H) -> g v σ H Q
noncomputable def BM (K : Frag) (g : B0) (f : EL) : Prop := ∀ (O M : aI) (W : WS) (L : aI) (σ : St) (H : Hp) (e e' : En) (p : List PV) (v : List V) (Q : St -> Hp -> Prop), iY O M W L H -> aN K (aR M L) W L H σ e -> aX K (aR M L) H p v -> f p e = some e' -> (∀ σ', aN K (aR M L) W L H σ' e' -> Q σ' H) -> g v σ H Q
noncomputable def aS (i : Nat) : FG := fun p e => some (e.set i (some (.val p)))
theorem CQ (i : Nat) : tM K (lM i) (aS i) := by
 intro O M W L σ H e e' p v Q o he hp hf q
 cases hf
 exact q _ (aN.put he rfl hp)
noncomputable def kO : EL := fun ps e => match ps with | [] => some e | _ => none
noncomputable def cF (f : FG) (g : EL) : EL := fun ps e => match ps with | p :: ps => bO (f p e) (g ps) | [] => none
theorem HW : BM K SF kO := by
 intro O M W L σ H e e' p v Q o he hp hf q
 cases p with
 | nil => cases hf; cases hp; exact ⟨rfl, q σ he⟩
 | cons p ps => cases hf
theorem C4 {g : TG} {gs : B0} {f : FG} {fs : EL} (h1 : tM K g f) (h2 : BM K gs fs) : BM K (JW g gs) (cF f fs) := by
 intro O M W L σ H e e' p v Q o he hp hf q
 cases p with
 | nil => cases hf
 | cons p ps =>
  obtain ⟨e1, f1, hf⟩ := aE hf
  cases hp with
  | cons hp hr => exact ⟨_, _, rfl, h1 O M W L σ H e e1 p _ _ o he hp f1 fun σ' he' => h2 O M W L σ' H e1 e' ps _ _ o he' hr hf q⟩
noncomputable def kE (n : Nat) (f : EL) : FG := fun p e => match p with
 | .tup ps => aU (decide (ps.length = n)) (f ps e)
 | _ => none
theorem GK {g : B0} {f : EL} (h : BM K g f) : tM K (K4 K n g) (kE n f) := by
 intro O M W L σ H e e' p v Q o he hp hf q
 cases p with
 | tup ps =>
  obtain ⟨g1, hf⟩ := aJ hf
  cases hp with
  | tup ha hr => exact ⟨_, _, rfl, ha.sq, by rw [<- hr.length]; exact of_decide_eq_true g1, h O M W L σ H e e' ps _ Q o he hr hf q⟩
 | _ => cases hf
noncomputable def FY (f : FE) (fg : FG) : FS := fun e => bE (f e) fun b e1 => bO b.put fun p => bO (fg p e1) fun e2 => some (.nx e2)
theorem KJ {g : TG} (h : Ref K t f) (hg : tM K g fg) : jB K (u6 t g) (FY f fg) := by
 intro O M W L σ H e r D o he hf q
 obtain ⟨x, e1, f1, hf⟩ := aL hf
 obtain ⟨p, g1, hf⟩ := aE hf
 obtain ⟨e2, f2, hf⟩ := aE hf
 cases hf
 refine h O M W L σ H e _ _ _ o he f1 fun v H1 k1 rb fr => ?_
 have o1 := o.keep k1.bU
 obtain ⟨en, rp⟩ := rb.put o1 g1
 exact hg O M W L σ H1 e1 e2 p v _ o1 en rp f2 fun σ' he' => q L σ' H1 (.keep k1) o1 he'
noncomputable def JH (K : Frag) (M L Wr : aI) (H : Hp) (J : It) (items : List PV) : Prop := ∀ L' H', (∀ a o, H a = some o -> ¬ Wr a -> H' a = some o) -> (∀ a xs, H a = some (.tup xs) -> H' a = some (.tup xs)) -> (∀ a, L' a -> L a \/ H a = none) ->
 (∀ k p, items[k]? = some p -> J.go k H' /\ ∀ x H3, J.TC k H' x H3 -> aT H' H3 /\ Rep K (aR M L') H3 p x) /\ J.stop items.length H'
noncomputable abbrev FI := (Nat -> Bool) -> En -> Option (List PV × En)
noncomputable def vF (K : Frag) (wi : TI) (f : FI) : Prop := ∀ (st : Nat -> Bool) (O M : aI) (W : WS) (L : aI) (σ : St) (H : Hp) (e e' : En) (ps : List PV) (R : It -> Hp -> Prop), iY O M W L H -> aN K (aR M L) W L H σ e -> f st e = some (ps, e') ->
 (∀ J H', bR W L H H' -> aN K (aR M L) W L H' σ e' ->
  (∀ Wr : aI, (∀ a, Wr a -> aw W a \/ L a) -> (∀ (i : Nat) a s, st i = true -> e'[i]? = some (some s) -> s.cQ = true -> σ[i]? = some (some (.ref a)) -> ¬ Wr a) -> JH K M L Wr H' J ps) -> R J H') -> wi σ H R
noncomputable def kN (body : PV -> En -> Option Out) : List PV -> En -> Option Out
 | [], e => some (.nx e)
 | x :: xs, e => match body x e with
  | some (.nx e1) => kN body xs e1
  | some (.ct e1) => kN body xs e1
  | some (.bk e1) => some (.nx e1)
  | some (.rt b e1) => some (.rt b e1)
  | none => none
noncomputable def m4 (fi : FI) (fg : FG) (fb : FS) : FS := fun e => bE (fi (fun _ => false) e) fun ps e1 => kN (fun x e => bO (fg x e) fb) ps e1
theorem LM {g : TG} {tb : TS} {fg : FG} {fb : FS} (hi : vF K wi fi) (hg : tM K g fg) (hb : jB K tb fb) : jB K (PK wi g tb) (m4 fi fg fb) := by
 intro O M W L σ H e r D o he hf q
 obtain ⟨ps, e1, f1, hf⟩ := aL hf
 refine hi (fun _ => false) O M W L σ H e e1 ps _ o he f1 fun J H1 k1 en it => ?_
 have it := it (aR (aw W) L) (fun a z => z) fun i a s z => nomatch z
 have o1 := o.keep k1.bU
 have q1 := q.later (.keep k1)
 let N : Nat -> St -> Hp -> Prop := fun i σ' H' => ∃ L' e', kD W L L' H1 H' /\ iY O M W L' H' /\ aN K (aR M L') W L' H' σ' e' /\ kN (fun x e => bO (fg x e) fb) (ps.drop i) e' = some r
 refine ⟨fun i m σ' H' => m = ps.length - i /\ i <= ps.length /\ N i σ' H', ⟨ps.length, by simp, zero_le _, L, e1, .refl, o1, en, by rw [drop_zero]; exact hf⟩, ?_⟩
 rintro i m σ2 H2 ⟨rfl, hil, L2, e2, g2, o2, en2, f2⟩
 obtain ⟨itm, its⟩ := it L2 H2 (fun a ob h n => g2.obj a ob h (fun z => n (.inl z)) fun z => n (.inr z)) g2.tup g2.new
 by_cases hlt : i < ps.length
 ·refine .inr ?_
  obtain ⟨go, yl⟩ := itm i ps[i] (by simp [hlt])
  refine ⟨go, N (i + 1), fun σ' H' n => ⟨ps.length - (i + 1), by omega, rfl, hlt, n⟩, fun x H3 y => ?_⟩
  obtain ⟨s3, rp⟩ := yl x H3 y
  rw [drop_eq_getElem_cons hlt] at f2
  unfold kN at f2
  have k3 : bR W L2 H2 H3 := .same s3
  have o3 := o2.keep k3.bU
  have g3 : kD W L L2 H1 H3 := g2.trans (.keep k3)
  cases c1 : fg ps[i] e2 with
  | none => rw [c1] at f2; cases f2
  | some e3 =>
   rw [c1] at f2
   refine hg O M W L2 σ2 H3 e2 e3 _ x _ o3 (en2.same s3) rp c1 fun σ3 en3 => ?_
   cases c2 : fb e3 with
   | none => rw [qU, c2] at f2; cases f2
   | some r1 =>
    rw [qU, c2] at f2
    refine hb O M W L2 σ3 H3 e3 r1 _ o3 en3 c2 ?_
    cases r1 with
    | nx e4 => exact fun L' σ' H' g' o' en' => ⟨L', e4, g3.trans g', o', en', f2⟩
    | ct e4 => exact fun L' σ' H' g' o' en' => ⟨L', e4, g3.trans g', o', en', f2⟩
    | bk e4 => cases f2; exact fun L' σ' H' g' o' en' => q1 L' σ' H' (g3.trans g') o' en'
    | rt b e4 => cases f2; exact fun L' σ' H' v g' o' en' => q1 L' σ' H' v (g3.trans g') o' en'
 ·have e : i = ps.length := by omega
  subst e
  rw [drop_length] at f2
  cases f2
  exact .inl ⟨its, q1 L2 σ2 H2 g2 o2 en2⟩
end
noncomputable def uI (e : En) (ms : List (Nat × Nat)) (i j : Nat) : Option Sl := match e[i]? with
 | some (some (.val p)) => some (.val p)
 | some (some (.bor p)) => some (.bor p)
 | some (some (.own p)) => if ms.contains (i, j) then some (.own p) else if ms.any (fun z => z.1 == i) then none else some (.bor p)
 | some (some (.loc p)) => if ms.contains (i, j) then some (.own p) else if ms.any (fun z => z.1 == i) then none else some (.bor p)
 | _ => none
noncomputable def tX (e : En) (ms : List (Nat × Nat)) : Nat -> List Nat -> En
 | _, [] => []
 | j, i :: r => uI e ms i j :: tX e ms (j + 1) r
noncomputable def kT (k : Nat) (bV : List Nat) (ms : List (Nat × Nat)) (e : En) : En := List.replicate k none ++ tX e ms k bV
theorem xW : ∀ {bV : List Nat} {j q : Nat}, (tX e ms j bV)[q]? = (bV[q]?).map fun i => uI e ms i (j + q)
 | [], j, q => by simp [tX]
 | i :: r, j, 0 => by simp [tX]
 | i :: r, j, q + 1 => by
  rw [tX, List.getElem?_cons_succ, xW, List.getElem?_cons_succ]
  congr 1
  funext i
  rw [show j + 1 + q = j + (q + 1) by omega]
theorem pJ : ∀ {bV : List Nat} {j : Nat}, (tX e ms j bV).length = bV.length
 | [], j => rfl
 | i :: r, j => by rw [tX, length_cons, length_cons, pJ]
theorem iN {k : Nat} {bV : List Nat} {j : Nat} (h : (kT k bV ms e)[j]? = some (some s)) : ∃ q i, j = k + q /\ bV[q]? = some i /\ uI e ms i j = some s := by
 unfold kT at h
 by_cases hj : j < k
 ·rw [getElem?_append_left (by simpa using hj), List.getElem?_replicate] at h
  split at h <;> cases h
 ·rw [getElem?_append_right (by simpa using hj), length_replicate, xW] at h
  cases q : bV[j - k]? with
  | none => rw [q] at h; cases h
  | some i =>
   rw [q] at h
   have h' : uI e ms i (k + (j - k)) = some s := Option.some.inj h
   rw [show k + (j - k) = j by omega] at h'
   exact ⟨j - k, i, by omega, q, h'⟩
theorem iE {k : Nat} {q : Nat} (h : bV[q]? = some i) (hv : σ[i]? = some (some v)) : (dX k bV σ)[k + q]? = some (some v) := by
 unfold dX
 rw [getElem?_append_right (by simp), length_replicate, getElem?_map, show k + q - k = q by omega, h]
 show some ((σ[i]?).getD none) = _
 rw [hv]; rfl
noncomputable def iM (fg : FG) (ft : FT) (fe : FE) : List PV -> En -> Option (List PV × En)
 | [], e => some ([], e)
 | x :: xs, e => bO (fg x e) fun e1 => bE (ft e1) fun b e2 => match b with
  | false => iM fg ft fe xs e2
  | true => bE (fe e2) fun r e3 => bO r.put fun p => bE (iM fg ft fe xs e3) fun ys e4 => some (p :: ys, e4)
noncomputable def kK (ei : En) : List (Nat × Nat) -> En -> Option En
 | [], e => some e
 | (i, j) :: r, e => bO (ownAt ei j) fun p => bO (ownAt e i) fun _ => kK ei r (cA e i p)
noncomputable def fE (fi : FI) (k : Nat) (bV : List Nat) (ms : List (Nat × Nat)) (fg : FG) (ft : FT) (fe : FE) : FE := fun e =>
 bE (fi (fun i => !(ms.any fun z => z.1 == i)) e) fun items e1 => aU (decide (items.length < 1000000)) (bE (iM fg ft fe items (kT k bV ms e1)) fun ys ei => bO (kK ei ms e1) fun e2 => some (.new (.lst ys), e2))
structure uY (K : Frag) (Z : aI) (W : WS) (L : aI) (H : Hp) (σ : St) (T : Nat -> Prop) (e : En) : Prop where
 len : e.length = σ.length
 at' : ∀ (i : Nat) s, e[i]? = some (some s) -> ∃ v, σ[i]? = some (some v) /\ ((¬ T i \/ s.cQ = false) -> gY K Z W L H i v s) /\ (s.cQ = true -> ∃ a, v = .ref a /\ ((∃ p, s = .own p /\ W i a) \/ ∃ p, s = .loc p /\ L a))
 kX : ∀ (i j : Nat) s t, i ≠ j -> e[i]? = some (some s) -> e[j]? = some (some t) -> s.cQ = true -> t.cQ = true -> σ[i]? ≠ σ[j]?
theorem jU {K : Frag} : ∀ {ms : List (Nat × Nat)} {e e' : En}, uY K Z W L H σ (fun i => ∃ j, (i, j) ∈ ms) e -> (∀ i j p a, (i, j) ∈ ms -> ownAt ei j = some p -> σ[i]? = some (some (.ref a)) -> fS K Z H a p) -> kK ei ms e = some e' -> aN K Z W L H σ e'
 | [], e, e', h, hc, g => by
  cases g
  exact ⟨h.len, fun i s q => let ⟨v, h1, h2, _⟩ := h.at' i s q; ⟨v, h1, h2 (.inl fun ⟨j, z⟩ => nomatch z)⟩, h.kX⟩
 | (i, j) :: r, e, e', h, hc, g => by
  obtain ⟨p, g1, g⟩ := aE g
  obtain ⟨p0, g2, g⟩ := aE g
  refine jU (e := cA e i p) ?_ (fun i' j' p' a' hm => hc i' j' p' a' (mem_cons_of_mem _ hm)) g
  have hl : i < e.length := by
   rcases bI g2 with g | g <;> exact (List.getElem?_eq_some_iff.mp g).1
  have oth : ∀ l, i ≠ l -> (cA e i p)[l]? = e[l]? := fun l hj => by
   unfold cA
   rcases bI g2 with g | g <;> (rw [g]; exact getElem?_set_ne hj)
  have own : ∃ s0 s1 a, e[i]? = some (some s0) /\ s0.cQ = true /\ (cA e i p)[i]? = some (some s1) /\ σ[i]? = some (some (.ref a)) /\ gY K Z W L H i (.ref a) s1 /\ ((∃ p, s1 = .own p /\ W i a) \/ ∃ p, s1 = .loc p /\ L a) := by
   rcases bI g2 with g | g
   ·obtain ⟨v, h1, _, h3⟩ := h.at' i _ g
    obtain ⟨a, rfl, h4⟩ := h3 rfl
    have c := hc i j p a mem_cons_self g1 h1
    rcases h4 with ⟨q, e1, w⟩ | ⟨q, e1, w⟩
    ·exact ⟨_, .own p, a, g, rfl, by unfold cA; rw [g]; exact getElem?_set_self hl, h1, ⟨a, rfl, w, c⟩, .inl ⟨p, rfl, w⟩⟩
    ·cases e1
   ·obtain ⟨v, h1, _, h3⟩ := h.at' i _ g
    obtain ⟨a, rfl, h4⟩ := h3 rfl
    have c := hc i j p a mem_cons_self g1 h1
    rcases h4 with ⟨q, e1, w⟩ | ⟨q, e1, w⟩
    ·cases e1
    ·exact ⟨_, .loc p, a, g, rfl, by unfold cA; rw [g]; exact getElem?_set_self hl, h1, ⟨a, rfl, w, c⟩, .inr ⟨p, rfl, w⟩⟩
  obtain ⟨s0, s1, a, hs0, hm0, hs1, ha, hrep, hwl⟩ := own
  refine ⟨?_, fun l s q => ?_, fun l1 l2 t1 t2 hn q1 q2 m1 m2 => ?_⟩
  ·rw [<- h.len]; unfold cA; rcases bI g2 with g | g <;> (rw [g]; exact length_set)
  ·by_cases hil : i = l
   ·subst hil
    rw [hs1] at q
    cases q
    exact ⟨_, ha, fun _ => hrep, fun _ => ⟨a, rfl, hwl⟩⟩
   ·rw [oth l hil] at q
    obtain ⟨v, h1, h2, h3⟩ := h.at' l s q
    refine ⟨v, h1, fun z => h2 (z.elim (fun z => .inl fun ⟨j', hm⟩ => ?_) .inr), h3⟩
    rcases mem_cons.mp hm with hm | hm
    ·cases hm; exact hil rfl
    ·exact z ⟨j', hm⟩
  ·have cQ : ∀ (l : Nat) (s : Sl), (cA e i p)[l]? = some (some s) -> s.cQ = true -> ∃ s' : Sl, e[l]? = some (some s') /\ s'.cQ = true := fun l s z m => by
    by_cases hj : i = l
    ·subst hj; exact ⟨s0, hs0, hm0⟩
    ·rw [oth l hj] at z; exact ⟨s, z, m⟩
   obtain ⟨u1, w1, n1⟩ := cQ l1 t1 q1 m1
   obtain ⟨u2, w2, n2⟩ := cQ l2 t2 q2 m2
   exact h.kX l1 l2 u1 u2 hn w1 w2 n1 n2
theorem iZ : ∀ {ms : List (Nat × Nat)} {e e' : En}, kK ei ms e = some e' -> ∀ (i : Nat) (s : Sl), e'[i]? = some (some s) -> s.cQ = true -> ∃ s' : Sl, e[i]? = some (some s') /\ s'.cQ = true
 | [], e, e', g => by cases g; exact fun i s h m => ⟨s, h, m⟩
 | (i, j) :: r, e, e', g => by
  obtain ⟨p, g1, g⟩ := aE g
  obtain ⟨p0, g2, g⟩ := aE g
  intro l s h m
  obtain ⟨s', h', m'⟩ := iZ g l s h m
  by_cases hj : i = l
  ·subst hj
   rcases bI g2 with g | g <;> exact ⟨_, g, rfl⟩
  ·have oth : (cA e i p)[l]? = e[l]? := by
    unfold cA
    rcases bI g2 with g | g <;> (rw [g]; exact getElem?_set_ne hj)
   rw [oth] at h'
   exact ⟨s', h', m'⟩
section
variable {K : Frag}
theorem HN {g : TG} {tt : TT} {te : TE} {k : Nat} (ms : List (Nat × Nat)) {ft : FT} {fe : FE} (hms : ∀ i j1 j2, (i, j1) ∈ ms -> (i, j2) ∈ ms -> j1 = j2) (hms2 : ∀ i1 i2 j, (i1, j) ∈ ms -> (i2, j) ∈ ms -> i1 = i2) (hi : vF K wi fi) (hg : tM K g fg) (ht : iV K tt ft) (he : Ref K te fe) : Ref K (sG wi k bV g tt te) (fE fi k bV ms fg ft fe) := by
 intro O M W L σ H e e' b Q o hen hf q
 obtain ⟨items, e1, f1, hf⟩ := aL hf
 obtain ⟨hsz, hf⟩ := aJ hf
 obtain ⟨ys, ei, f2, hf⟩ := aL hf
 obtain ⟨e2, f3, hf⟩ := aE hf
 cases hf
 have hsz := of_decide_eq_true hsz
 refine hi (fun i => !(ms.any fun z => z.1 == i)) O M W L σ H e e1 items _ o hen f1 fun J H1 k1 en it => ?_
 have o1 := o.keep k1.bU
 let W' : WS := ⟨fun j a => ∃ i s, (i, j) ∈ ms /\ e1[i]? = some (some s) /\ s.cQ = true /\ σ[i]? = some (some (.ref a)), fun a => H1 a ≠ none⟩
 have whose : ∀ (i : Nat) s a, e1[i]? = some (some s) -> s.cQ = true -> σ[i]? = some (some (.ref a)) -> (aw W a \/ L a) /\ ∃ ob, H1 a = some ob /\ ∀ xs, ob ≠ .tup xs := fun i s a hs hm ha => by
  obtain ⟨v, h1, h2⟩ := en.at' i s hs
  rw [ha] at h1
  cases h1
  cases s with
  | val p => cases hm
  | bor p => cases hm
  | own p => obtain ⟨b, e, w, c⟩ := h2; cases e; exact ⟨.inl ⟨i, w⟩, c.there⟩
  | loc p => obtain ⟨b, e, w, c⟩ := h2; cases e; exact ⟨.inr w, c.there⟩
 have wsub : ∀ a, aw W' a -> (aw W a \/ L a) /\ ∃ ob, H1 a = some ob /\ ∀ xs, ob ≠ .tup xs := fun a ⟨j, i, s, hm, hs, hmine, ha⟩ => whose i s a hs hmine ha
 have it := it (aw W') (fun a z => (wsub a z).1) fun i a s hst hs hm ha ⟨j, i', s', hm', hs', hmine', ha'⟩ => by
  have ne : i' ≠ i := fun z => by
   subst z
   have : (ms.any fun z => z.1 == i') = true := any_eq_true.mpr ⟨(i', j), hm', by simp⟩
   rw [this] at hst
   cases hst
  exact en.kX i' i s' s ne hs' hs hmine' hm (by rw [ha', ha])
 intro l hl
 have zl : ∀ a ob, H1 a = some ob -> a ≠ l := fun a ob h => bT h hl
 let M' : aI := aR M (aR L (one l))
 let O' : aI := fun a => H1 a ≠ none \/ a = l
 have s0 : aT H1 (upd H1 l (.lst [])) := aT.upd hl
 have ML : ∀ a, (aw W a \/ L a) -> aR M L a := fun a z => z.elim (fun ⟨i, w⟩ => .inl (o.wm i a w)) .inr
 have k0 : cL (aR M L) (aR M' cK) H1 (upd H1 l (.lst [])) := ⟨fun a xs h => s0 _ _ h, fun a ob h n => ⟨s0 _ _ h, fun z => by
  rcases z with (z | z | z) | z
  ·exact n (.inl z)
  ·exact n (.inr z)
  ·exact zl a ob h z
  ·exact z⟩⟩
 have okc0 : ∀ H2, (∀ a, H1 a ≠ none \/ a = l -> H2 a ≠ none) -> iY O' M' W' cK H2 := fun H2 d => ⟨d, fun a z => by
   rcases z with z | z | z
   ·exact .inl (o1.old a (o1.mo a z))
   ·exact .inl (o1.loc a z).1
   ·exact .inr z, fun j a z => by
   rcases ML a (wsub a ⟨j, z⟩).1 with z | z
   ·exact .inl z
   ·exact .inr (.inl z), fun a z => z.elim⟩
 have lenS : (kT k bV ms e1).length = (dX k bV σ).length := by
  unfold kT dX
  rw [length_append, length_append, pJ, length_map, length_replicate, length_replicate]
 have en0 : aN K (aR M' cK) W' cK (upd H1 l (.lst [])) (dX k bV σ) (kT k bV ms e1) := by
  have lend : ∀ (i : Nat) s p a, e1[i]? = some (some s) -> (s = .own p \/ s = .loc p) -> σ[i]? = some (some (.ref a)) -> fS K (aR M L) H1 a p -> ¬ (∃ j, (i, j) ∈ ms) -> oI K (aR M' cK) W' cK (upd H1 l (.lst [])) a p := fun i s p a hs hp ha c nm => by
   have hm : s.cQ = true := by rcases hp with rfl | rfl <;> rfl
   have nw : ¬ aw W' a := fun ⟨j, i', s', hm', hs', hmine', ha'⟩ => by
    have ne : i' ≠ i := fun z => nm ⟨j, z ▸ hm'⟩
    exact en.kX i' i s' s ne hs' hs hmine' hm (by rw [ha', ha])
   have c' := c.aH k0 fun ob h => s0 _ _ h
   cases c' with
   | lst h r => exact .lst (.inl h) (by obtain ⟨ob, h1, _⟩ := c.there; show H1 a ≠ none; rw [h1]; exact fun z => nomatch z) nw (fun z => z) r
   | bG h kk r => exact .bG (.inl h) (by obtain ⟨ob, h1, _⟩ := c.there; show H1 a ≠ none; rw [h1]; exact fun z => nomatch z) nw (fun z => z) kk r
  have bors : ∀ p a, oI K (aR M L) W L H1 a p -> oI K (aR M' cK) W' cK (upd H1 l (.lst [])) a p := fun p a c => by
   cases c with
   | lst h od n m r => exact .lst (h.elim (fun h => .inl (s0 _ _ h)) fun ⟨u, h⟩ => .inr ⟨u, s0 _ _ h⟩) (fun z => Rd.ne h z rfl) (fun z => (wsub a z).1.elim n m) (fun z => z) (r.aH k0)
   | cY h r => exact .cY h (r.aH k0)
   | bG h od n m kk r => exact .bG (h.elim (fun h => .inl (s0 _ _ h)) fun ⟨u, h⟩ => .inr ⟨u, s0 _ _ h⟩) (fun z => Rd.ne h z rfl) (fun z => (wsub a z).1.elim n m) (fun z => z) kk (r.aH k0)
  have row : ∀ (i j : Nat) s, uI e1 ms i j = some s -> ∃ v, σ[i]? = some (some v) /\ gY K (aR M' cK) W' cK (upd H1 l (.lst [])) j v s /\ (s.cQ = true -> (i, j) ∈ ms /\ ∃ s', e1[i]? = some (some s') /\ s'.cQ = true) := fun i j s h => by
   unfold uI at h
   have nc : ∀ {p : PV}, ms.contains (i, j) = true -> (i, j) ∈ ms := fun z => contains_iff_mem.mp z
   cases c : e1[i]? with
   | none => rw [c] at h; cases h
   | some s' =>
    cases s' with
    | none => rw [c] at h; cases h
    | some s' =>
     rw [c] at h
     obtain ⟨v, h1, h2⟩ := en.at' i s' c
     refine ⟨v, h1, ?_⟩
     cases s' with
     | val p => cases h; exact ⟨Rep.aH k0 h2, fun z => nomatch z⟩
     | bor p => cases h; obtain ⟨a, e, c⟩ := h2; exact ⟨⟨a, e, bors p a c⟩, fun z => nomatch z⟩
     | own p =>
      obtain ⟨a, e, w, ct⟩ := h2
      subst e
      dsimp only at h
      cases d : ms.contains (i, j) with
      | true =>
       rw [d, if_pos rfl] at h
       cases h
       have hm := contains_iff_mem.mp d
       exact ⟨⟨a, rfl, ⟨i, _, hm, c, rfl, h1⟩, ct.aH k0 fun ob h => s0 _ _ h⟩, fun _ => ⟨hm, _, rfl, rfl⟩⟩
      | false =>
       rw [d, if_neg Bool.false_ne_true] at h
       cases d2 : ms.any (fun z => z.1 == i) with
       | true => rw [d2, if_pos rfl] at h; cases h
       | false =>
        rw [d2, if_neg Bool.false_ne_true] at h
        cases h
        refine ⟨⟨a, rfl, lend i _ p a c (.inl rfl) h1 ct fun ⟨j', hm'⟩ => ?_⟩, fun z => nomatch z⟩
        have : (ms.any fun z => z.1 == i) = true := any_eq_true.mpr ⟨(i, j'), hm', by simp⟩
        rw [d2] at this
        cases this
     | loc p =>
      obtain ⟨a, e, w, ct⟩ := h2
      subst e
      dsimp only at h
      cases d : ms.contains (i, j) with
      | true =>
       rw [d, if_pos rfl] at h
       cases h
       have hm := contains_iff_mem.mp d
       exact ⟨⟨a, rfl, ⟨i, _, hm, c, rfl, h1⟩, ct.aH k0 fun ob h => s0 _ _ h⟩, fun _ => ⟨hm, _, rfl, rfl⟩⟩
      | false =>
       rw [d, if_neg Bool.false_ne_true] at h
       cases d2 : ms.any (fun z => z.1 == i) with
       | true => rw [d2, if_pos rfl] at h; cases h
       | false =>
        rw [d2, if_neg Bool.false_ne_true] at h
        cases h
        refine ⟨⟨a, rfl, lend i _ p a c (.inr rfl) h1 ct fun ⟨j', hm'⟩ => ?_⟩, fun z => nomatch z⟩
        have : (ms.any fun z => z.1 == i) = true := any_eq_true.mpr ⟨(i, j'), hm', by simp⟩
        rw [d2] at this
        cases this
  refine ⟨lenS, fun j s hj => ?_, fun j1 j2 s t hn h1 h2 m1 m2 => ?_⟩
  ·obtain ⟨q, i, rfl, hc, hs⟩ := iN hj
   obtain ⟨v, h1, h2, _⟩ := row i _ s hs
   exact ⟨v, iE hc h1, h2⟩
  ·obtain ⟨q1, i1, rfl, c1, hs1⟩ := iN h1
   obtain ⟨q2, i2, rfl, c2, hs2⟩ := iN h2
   obtain ⟨v1, a1, _, b1⟩ := row i1 _ s hs1
   obtain ⟨v2, a2, _, b2⟩ := row i2 _ t hs2
   obtain ⟨w1, s1, d1, n1⟩ := b1 m1
   obtain ⟨w2, s2, d2, n2⟩ := b2 m2
   rw [iE c1 a1, iE c2 a2]
   have ne : i1 ≠ i2 := fun z => by subst z; exact hn (hms _ _ _ w1 w2)
   have := en.kX i1 i2 s1 s2 ne d1 d2 n1 n2
   rw [a1, a2] at this
   exact this
 have dl : ∀ a xs, H1 a = some (.tup xs) -> a ≠ l := fun a xs h => zl a _ h
 let N : Nat -> St -> Hp -> Prop := fun i σ' H' => ∃ ei' acc rest vs, bR W' (one l) (upd H1 l (.lst [])) H' /\ H' l = some (.lst vs) /\ aX K (aR M' cK) H' acc vs /\ aN K (aR M' cK) W' cK H' σ' ei' /\ acc.length <= i /\
  iM fg ft fe (items.drop i) ei' = some (rest, ei) /\ ys = acc ++ rest
 have k0' : ∀ H', bR W' (one l) (upd H1 l (.lst [])) H' -> ∀ a, H1 a ≠ none \/ a = l -> H' a ≠ none := fun H' kk a z => kk.bU a (by
  rcases z with z | z
  ·cases e : H1 a with
   | none => exact absurd e z
   | some u => rw [s0 _ _ e]; exact fun z => nomatch z
  ·rw [z, aQ]; exact fun z => nomatch z)
 refine ⟨fun i m σ' H' => m = items.length - i /\ i <= items.length /\ N i σ' H', ⟨items.length, by simp, zero_le _, kT k bV ms e1, [], ys, [], .refl, aQ, .nil, en0, le_refl _, by rw [drop_zero]; exact f2, rfl⟩, ?_⟩
 rintro i m σ2 H2 ⟨rfl, hil, ei2, acc, rest, vs, kk, hl2, ra, en2, hacc, f4, hys⟩
 have oki := okc0 H2 (k0' H2 kk)
 obtain ⟨itm, its⟩ := it (aR L (one l)) H2 (fun a ob h n => kk.obj a ob (s0 _ _ h) n (zl a ob h)) (fun a xs h => kk.tup a xs (s0 _ _ h)) (fun a z => z.elim .inl fun z => .inr (by rw [show a = l from z]; exact hl))
 by_cases hlt : i < items.length
 ·refine .inr ?_
  obtain ⟨go, yl⟩ := itm i items[i] (by simp [hlt])
  refine ⟨go, N (i + 1), fun σ' H' n => ⟨items.length - (i + 1), by omega, rfl, hlt, n⟩, fun x H3 y => ?_⟩
  obtain ⟨s3, rp⟩ := yl x H3 y
  rw [drop_eq_getElem_cons hlt] at f4
  obtain ⟨e4, c1, f4⟩ := aE f4
  have oki3 := oki.keep (H' := H3) (bR.same (W := W') (L := cK) s3).bU
  have rp' : Rep K (aR M' cK) H3 items[i] x := rp.aH (.less fun a z => z.elim id fun z => z.elim)
  refine hg O' M' W' cK σ2 H3 ei2 e4 _ x _ oki3 (en2.same s3) rp' c1 fun σ3 en3 => ?_
  obtain ⟨b, e5, c2, f4⟩ := aL f4
  refine ht O' M' W' cK σ3 H3 e4 e5 b _ oki3 en3 c2 fun H4 k4 en4 => ?_
  have oki4 := oki3.keep k4.bU
  have nlw : ¬ aw W' l := fun z => by obtain ⟨_, ob, h, _⟩ := wsub l z; rw [hl] at h; cases h
  have kL : ∀ {A B : Hp}, bR W' cK A B -> bR W' (one l) A B := fun k => ⟨fun a ob h n m => k.obj a ob h n fun z => z, k.tup, k.bU⟩
  have st : ∀ {A B : Hp}, bR W' cK A B -> iY O' M' W' cK A -> cL (aR M' cK) (aR M' cK) A B := fun k ok => k.aH ok
  have k34 : bR W' cK H2 H4 := (bR.same s3).trans k4
  cases b with
  | false =>
   rw [if_neg Bool.false_ne_true]
   exact ⟨e5, acc, rest, vs, kk.trans (kL k34), k34.obj l _ hl2 nlw (fun z => z), ra.aH (st k34 oki), en4, le_succ_of_le hacc, f4, hys⟩
  | true =>
   rw [if_pos rfl]
   obtain ⟨rv, e6, c3, f4⟩ := aL f4
   obtain ⟨p, c4, f4⟩ := aE f4
   obtain ⟨rest', e7, c5, f4⟩ := aL f4
   cases f4
   refine he O' M' W' cK σ3 H4 e5 e6 rv _ oki4 en4 c3 fun v H5 k5 rb fr => ?_
   have oki5 := oki4.keep k5.bU
   obtain ⟨en5, rp5⟩ := rb.put oki5 c4
   have k35 : bR W' cK H2 H5 := k34.trans k5
   have hl5 := k35.obj l _ hl2 nlw (fun z => z)
   have ra5 := ra.aH (st k35 oki)
   refine ⟨vs, hl5, X5 (by have := ra.length; omega), ?_⟩
   have stw : cL (aR M' cK) (aR M' cK) H5 (upd H5 l (.lst (vs ++ [v]))) := .write (.inl (.inr (.inr rfl))) hl5 fun _ z => nomatch z
   have kw : bR W' (one l) H5 (upd H5 l (.lst (vs ++ [v]))) := .write (.inr rfl) hl5 fun _ z => nomatch z
   refine ⟨e6, acc ++ [p], rest', vs ++ [v], (kk.trans (kL k35)).trans kw, aQ, (ra5.aH stw).app (.cons (rp5.aH stw) .nil), ?_, by rw [length_append]; exact Nat.succ_le_succ hacc, c5, by rw [hys, append_assoc]; rfl⟩
   refine ⟨en5.len, fun j s hj => ?_, en5.kX⟩
   obtain ⟨u, g1, g2⟩ := en5.at' j s hj
   refine ⟨u, g1, ?_⟩
   cases s with
   | val p => exact Rep.aH stw g2
   | own p =>
    obtain ⟨a, e, w, c⟩ := g2
    exact ⟨a, e, w, c.aH stw fun ob h => by rw [aP (fun z : a = l => nlw (by rw [<- z]; exact ⟨j, w⟩))]; exact h⟩
   | loc p => obtain ⟨a, e, w, c⟩ := g2; exact w.elim
   | bor p =>
    obtain ⟨a, e, c⟩ := g2
    refine ⟨a, e, ?_⟩
    have ne : W'.old a -> a ≠ l := fun od z => od (by rw [z]; exact hl)
    cases c with
    | lst h od n m r => exact .lst (h.elim (fun h => .inl (by rw [aP (ne od)]; exact h)) fun ⟨u, h⟩ => .inr ⟨u, by rw [aP (ne od)]; exact h⟩) od n m (r.aH stw)
    | cY h r => exact .cY h (r.aH stw)
    | bG h od n m kk r => exact .bG (h.elim (fun h => .inl (by rw [aP (ne od)]; exact h)) fun ⟨u, h⟩ => .inr ⟨u, by rw [aP (ne od)]; exact h⟩) od n m kk (r.aH stw)
 ·have e : i = items.length := by omega
  subst e
  rw [drop_length] at f4
  cases f4
  rw [append_nil] at hys
  subst hys
  have kout : bR W L H1 H2 := ⟨fun a ob h n m => kk.obj a ob (s0 _ _ h) (fun z => (wsub a z).1.elim n m) (zl a ob h), fun a xs h => kk.tup a xs (s0 _ _ h), fun a h => k0' H2 kk a (.inl h)⟩
  have kf : cL (aR M L) (aR M (aR L (one l))) H1 H2 := ⟨kout.tup, fun a ob h n => ⟨kk.obj a ob (s0 _ _ h) (fun z => n (ML a (wsub a z).1)) (zl a ob h), fun z => by
   rcases z with z | z | z
   ·exact n (.inl z)
   ·exact n (.inr z)
   ·exact zl a ob h z⟩⟩
  have pend : uY K (aR M (aR L (one l))) W (aR L (one l)) H2 σ (fun i => ∃ j, (i, j) ∈ ms) e1 := by
   refine ⟨en.len, fun i s hs => ?_, en.kX⟩
   obtain ⟨v, h1, h2⟩ := en.at' i s hs
   have keepM : ∀ a, s.cQ = true -> ¬ (∃ j, (i, j) ∈ ms) -> v = .ref a -> ∀ ob, H1 a = some ob -> H2 a = some ob := fun a hm nt ev ob h => by
    subst ev
    refine kk.obj a ob (s0 _ _ h) (fun ⟨j, i', s', hm', hs', hmine', ha'⟩ => ?_) (zl a ob h)
    have ne : i' ≠ i := fun z => nt ⟨j, z ▸ hm'⟩
    exact en.kX i' i s' s ne hs' hs hmine' hm (by rw [ha', h1])
   refine ⟨v, h1, fun z => ?_, fun hm => ?_⟩
   ·cases s with
    | val p => exact Rep.aH kf h2
    | own p =>
     obtain ⟨a, e, w, c⟩ := h2
     exact ⟨a, e, w, c.aH kf fun ob h => keepM a rfl (z.elim id fun z => nomatch z) e ob h⟩
    | loc p =>
     obtain ⟨a, e, w, c⟩ := h2
     exact ⟨a, e, .inl w, c.aH kf fun ob h => keepM a rfl (z.elim id fun z => nomatch z) e ob h⟩
    | bor p =>
     obtain ⟨a, e, c⟩ := h2
     refine ⟨a, e, ?_⟩
     cases c with
     | lst h od n m r => exact .lst (h.elim (fun h => .inl (kout.obj _ _ h n m)) fun ⟨u, h⟩ => .inr ⟨u, kout.obj _ _ h n m⟩) od n (fun z => z.elim m (Rd.ne h hl)) (r.aH kf)
     | cY h r => exact .cY h (r.aH kf)
     | bG h od n m kk r => exact .bG (h.elim (fun h => .inl (kout.obj _ _ h n m)) fun ⟨u, h⟩ => .inr ⟨u, kout.obj _ _ h n m⟩) od n (fun z => z.elim m (Rd.ne h hl)) kk (r.aH kf)
   ·cases s with
    | val p => cases hm
    | bor p => cases hm
    | own p => obtain ⟨a, e, w, c⟩ := h2; exact ⟨a, e, .inl ⟨p, rfl, w⟩⟩
    | loc p => obtain ⟨a, e, w, c⟩ := h2; exact ⟨a, e, .inr ⟨p, rfl, .inl w⟩⟩
  have enf : aN K (aR M (aR L (one l))) W (aR L (one l)) H2 σ e' := jU pend (fun i j p a hm hp ha => by
   rcases bI hp with g | g
   ·obtain ⟨v, h1, a', rfl, ⟨i', s', hm', _, _, ha'⟩, c⟩ := en2.at' j _ g
    have ei := hms2 i i' j hm hm'
    subst ei
    rw [ha] at ha'
    cases ha'
    exact c.aH (.less fun a z => .inl z) fun _ h => h
   ·obtain ⟨v, h1, a', rfl, w, c⟩ := en2.at' j _ g
    exact w.elim) f3
  refine .inl ⟨its, q _ _ (k1.trans kout) ⟨l, rfl, fun z => o1.old l z hl, fun z => (o1.loc l z).1 hl, enf, fun i s hs hm e => ?_, .lst hl2 (ra.aH (.less fun a z => .inl z))⟩ (Fr.back (b := .new (.lst _)) k1.bU fun a e => by cases e; exact hl)⟩
  obtain ⟨s', hs', hm'⟩ := iZ f3 i s hs hm
  obtain ⟨_, ob, h, _⟩ := whose i s' l hs' hm' e
  rw [hl] at h
  cases h
end
inductive Kd where
 | v | b | m
 deriving DecidableEq
noncomputable def AB : Kd -> PV -> Sl
 | .v, p => .val p
 | .m, p => .own p
 | .b, .lst ps => .bor (.lst ps)
 | .b, .bG ps => .bor (.bG ps)
 | .b, p => .val p
noncomputable def j8 : List Kd -> List PV -> En
 | k :: ks, p :: ps => some (AB k p) :: j8 ks ps
 | _, _ => []
noncomputable def k6 (ks : List Kd) (vs : List V) (H : Hp) : WS := ⟨fun i a => ks[i]? = some .m /\ vs[i]? = some (.ref a), fun a => H a ≠ none⟩
noncomputable def HU : List Kd -> List V -> List V
 | .m :: ks, v :: vs => v :: HU ks vs
 | _ :: ks, _ :: vs => HU ks vs
 | _, _ => []
noncomputable def wY (K : Frag) (Z : aI) (H : Hp) (ks : List Kd) (vs : List V) (qs : List PV) : Prop := ∀ (n : Nat) v q, (HU ks vs)[n]? = some v -> qs[n]? = some q -> ∃ a, v = .ref a /\ fS K Z H a q
noncomputable def T3 (K : Frag) (M : aI) (H H' : Hp) (ks : List Kd) (vs : List V) (r : PV) (qs : List PV) (v : V) : Bool -> Prop
 | false => Rep K M H' r v /\ wY K M H' ks vs qs
 | true => ∃ a, v = .ref a /\ H a = none /\ fS K (aR M (one a)) H' a r /\ wY K (aR M (one a)) H' ks vs qs
noncomputable abbrev FN := List PV -> Option (PV × List PV)
noncomputable def OC (K : Frag) (ks : List Kd) (fr : Bool) (f : FN) : Sp := fun vs H Q _ => ∃ (M : aI) (ps : List PV) (r : PV) (qs : List PV), (∀ a, M a -> H a ≠ none) /\ vs.length = ks.length /\ ps.length = ks.length /\
 (∀ (i : Nat) k p v, ks[i]? = some k -> ps[i]? = some p -> vs[i]? = some v -> gY K M (k6 ks vs H) cK H i v (AB k p)) /\
 (∀ (i j : Nat), i ≠ j -> ks[i]? = some .m -> ks[j]? = some .m -> vs[i]? ≠ vs[j]?) /\ (∀ i a, k6 ks vs H i a -> M a) /\
 f ps = some (r, qs) /\ ∀ v H', bR (k6 ks vs H) cK H H' -> T3 K M H H' ks vs r qs v fr -> Q v H'
noncomputable def VJ (e : En) : Bool -> Bv -> Option PV
 | false, .val p => some p
 | _, .new p => some p
 | _, .slot i => match e[i]? with
  | some (some (.loc p)) => some p
  | _ => none
 | true, .val _ => none
noncomputable def nM (e : En) : Nat -> List Kd -> Option (List PV)
 | _, [] => some []
 | j, .m :: ks => match e[j]? with
  | some (some (.own q)) => bO (nM e (j + 1) ks) fun qs => some (q :: qs)
  | _ => none
 | j, _ :: ks => nM e (j + 1) ks
noncomputable def SY (ks : List Kd) (fr : Bool) : Out -> Option (PV × List PV)
 | .rt b e => bO (VJ e fr b) fun r => bO (nM e 0 ks) fun qs => some (r, qs)
 | .nx e => match fr with
  | false => bO (nM e 0 ks) fun qs => some (.bF, qs)
  | true => none
 | _ => none
noncomputable def oW (ks : List Kd) (nl : Nat) (fr : Bool) (g : FS) : FN := fun ps => bO (g (j8 ks ps ++ List.replicate nl none)) (SY ks fr)
theorem wA : ∀ {ks : List Kd} {ps : List PV} {i : Nat} {s : Sl}, (j8 ks ps)[i]? = some (some s) -> ∃ k p, ks[i]? = some k /\ ps[i]? = some p /\ s = AB k p
 | [], ps, i, s, h => by simp [j8] at h
 | k :: ks, [], i, s, h => by simp [j8] at h
 | k :: ks, p :: ps, 0, s, h => by simp [j8] at h; exact ⟨k, p, rfl, rfl, h.symm⟩
 | k :: ks, p :: ps, i + 1, s, h => by
  rw [j8, List.getElem?_cons_succ] at h
  obtain ⟨k', p', h1, h2, h3⟩ := wA h
  exact ⟨k', p', by simpa using h1, by simpa using h2, h3⟩
theorem wM : ∀ {ks : List Kd} {ps : List PV}, ps.length = ks.length -> (j8 ks ps).length = ks.length
 | [], ps, h => rfl
 | k :: ks, [], h => by simp at h
 | k :: ks, p :: ps, h => by rw [j8, length_cons, length_cons, wM (by simpa using h)]
theorem j6 : ∀ {ks : List Kd} {vs : List V} {j : Nat} {qs : List PV} {n : Nat} {v : V} {q : PV}, nM e j ks = some qs -> (HU ks vs)[n]? = some v -> qs[n]? = some q -> ∃ i, ks[i]? = some .m /\ vs[i]? = some v /\ e[j + i]? = some (some (.own q))
 | [], vs, j, qs, n, v, q, h, h1, h2 => by cases h; simp at h2
 | .m :: ks, [], j, qs, n, v, q, h, h1, h2 => by simp [HU] at h1
 | .v :: ks, [], j, qs, n, v, q, h, h1, h2 => by simp [HU] at h1
 | .b :: ks, [], j, qs, n, v, q, h, h1, h2 => by simp [HU] at h1
 | .v :: ks, x :: vs, j, qs, n, v, q, h, h1, h2 => by
  obtain ⟨i, a, b, c⟩ := j6 (ks := ks) (vs := vs) (j := j + 1) h h1 h2
  exact ⟨i + 1, by simpa using a, by simpa using b, by rw [show j + (i + 1) = j + 1 + i by omega]; exact c⟩
 | .b :: ks, x :: vs, j, qs, n, v, q, h, h1, h2 => by
  obtain ⟨i, a, b, c⟩ := j6 (ks := ks) (vs := vs) (j := j + 1) h h1 h2
  exact ⟨i + 1, by simpa using a, by simpa using b, by rw [show j + (i + 1) = j + 1 + i by omega]; exact c⟩
 | .m :: ks, x :: vs, j, qs, n, v, q, h, h1, h2 => by
  unfold nM at h
  split at h
  ·rename_i q0 he
   obtain ⟨qs', g, h⟩ := aE h
   cases h
   cases n with
   | zero =>
    simp [HU] at h1 h2
    subst h1 h2
    exact ⟨0, rfl, rfl, he⟩
   | succ n =>
    obtain ⟨i, a, b, c⟩ := j6 (ks := ks) (vs := vs) (j := j + 1) g (by simpa [HU] using h1) (by simpa using h2)
    exact ⟨i + 1, by simpa using a, by simpa using b, by rw [show j + (i + 1) = j + 1 + i by omega]; exact c⟩
  ·cases h
section
variable {K : Frag}
theorem gY.cK {s : Sl} (h : gY K M W L H i v s) : gY K (aR M cK) W L H i v s := by
 have k : cL M (aR M Mr.cK) H H := .less fun a z => z.elim id fun z => z.elim
 cases s with
 | val p => exact Rep.aH k h
 | own p => obtain ⟨a, e, w, c⟩ := h; exact ⟨a, e, w, c.aH k fun _ h => h⟩
 | loc p => obtain ⟨a, e, w, c⟩ := h; exact ⟨a, e, w, c.aH k fun _ h => h⟩
 | bor p =>
  obtain ⟨a, e, c⟩ := h
  refine ⟨a, e, ?_⟩
  cases c with
  | lst e od n m r => exact .lst e od n m (r.aH k)
  | cY e r => exact .cY e (r.aH k)
  | bG e od n m kk r => exact .bG e od n m kk (r.aH k)
theorem SN {nl : Nat} {fr : Bool} {t : TS} {N : List Str} (h : jB K t g) (hN : N.length = ks.length + nl) {vs : List V} {Q : VK} (hs : OC K ks fr (oW ks nl fr g) vs H Q E) : t { nx := fun _ H' => Q .bF H', rt := Q } (L2.start N vs) H := by
 obtain ⟨M, ps, r, qs, hM, hvl, hpl, har, hdis, hwm, hf, q⟩ := hs
 obtain ⟨out, g1, hf⟩ := aE hf
 let O : aI := fun a => H a ≠ none
 have o : iY O M (k6 ks vs H) cK H := ⟨fun a h => h, hM, hwm, fun a z => z.elim⟩
 have hvN : N.length - vs.length = nl := by omega
 have st : ∀ (i : Nat) v, vs[i]? = some v -> (L2.start N vs)[i]? = some (some v) := fun i v hv => by
  unfold L2.start
  have hi := (List.getElem?_eq_some_iff.mp hv).1
  rw [getElem?_append_left (by simpa using hi), getElem?_map, hv]
  rfl
 have sl : ∀ (i : Nat) s, (j8 ks ps ++ List.replicate nl none)[i]? = some (some s) -> ∃ k p v, ks[i]? = some k /\ ps[i]? = some p /\ vs[i]? = some v /\ s = AB k p := fun i s hi => by
  by_cases hl : i < (j8 ks ps).length
  ·rw [getElem?_append_left hl] at hi
   obtain ⟨k, p, h1, h2, h3⟩ := wA hi
   have : i < vs.length := by have := (List.getElem?_eq_some_iff.mp h1).1; omega
   exact ⟨k, p, vs[i], h1, h2, by simp, h3⟩
  ·rw [getElem?_append_right (by omega), List.getElem?_replicate] at hi
   split at hi <;> cases hi
 have mk : ∀ k p, (AB k p).cQ = true -> k = .m := fun k p hm => by
  cases k with
  | v => cases hm
  | m => rfl
  | b => cases p <;> cases hm
 have en : aN K (aR M cK) (k6 ks vs H) cK H (L2.start N vs) (j8 ks ps ++ List.replicate nl none) := by
  refine ⟨?_, fun i s hi => ?_, fun i j s s' hij h1 h2 m1 m2 => ?_⟩
  ·unfold L2.start
   rw [length_append, length_append, length_replicate, length_replicate, wM hpl, length_map, hvN, hvl]
  ·obtain ⟨k, p, v, h1, h2, h3, rfl⟩ := sl i s hi
   exact ⟨v, st i v h3, (har i k p v h1 h2 h3).cK⟩
  ·obtain ⟨k, p, v, a1, a2, a3, rfl⟩ := sl i s h1
   obtain ⟨k', p', v', b1, b2, b3, rfl⟩ := sl j s' h2
   rw [st i v a3, st j v' b3]
   have e1 := mk _ _ m1
   have e2 := mk _ _ m2
   subst e1 e2
   have := hdis i j hij a1 b1
   rw [a3, b3] at this
   exact fun z => this (by cases z; rfl)
 have gk : ∀ {L' : aI} {H' : Hp}, kD (k6 ks vs H) cK L' H H' -> bR (k6 ks vs H) cK H H' := fun gr => ⟨gr.obj, gr.tup, gr.bU⟩
 have mu : ∀ {Z Zf : aI} {L' : aI} {H' : Hp} {σ' : St} {e' : En} {qs : List PV}, aN K Z (k6 ks vs H) L' H' σ' e' -> (∀ a, Zf a -> Z a) -> nM e' 0 ks = some qs -> wY K Zf H' ks vs qs := fun en' hz hm n v q' h1 h2 => by
  obtain ⟨i, a1, a2, a3⟩ := j6 hm h1 h2
  rw [zero_add] at a3
  obtain ⟨u, h3, a, rfl, ⟨_, w⟩, c⟩ := en'.at' i _ a3
  rw [a2] at w
  cases w
  exact ⟨a, rfl, c.aH (.less hz) fun _ h => h⟩
 refine h O M (k6 ks vs H) cK (L2.start N vs) H _ out _ o en g1 ?_
 cases out with
 | bk e' => cases hf
 | ct e' => cases hf
 | nx e' =>
  cases fr with
  | true => cases hf
  | false =>
   obtain ⟨qs', g2, hf⟩ := aE hf
   cases hf
   exact fun L' σ' H' gr o' en' => q .bF H' (gk gr) ⟨.bF, mu en' (fun a z => .inl z) g2⟩
 | rt b e' =>
  obtain ⟨r', g2, hf⟩ := aE hf
  obtain ⟨qs', g3, hf⟩ := aE hf
  cases hf
  intro L' σ' H' v gr o' rb
  refine q v H' (gk gr) ?_
  cases b with
  | val p =>
   cases fr with
   | true => cases g2
   | false =>
    cases g2
    exact ⟨rb.2.aH (.less fun a z => .inl z), mu rb.1 (fun a z => .inl z) g3⟩
  | new p =>
   cases fr with
   | false =>
    cases g2
    have rb := rb.weak o'
    exact ⟨Rep.aH (.less fun a z => .inl z) rb.2, mu rb.1 (fun a z => .inl z) g3⟩
   | true =>
    cases g2
    obtain ⟨a, rfl, n1, n2, en', fe, c⟩ := rb
    exact ⟨a, rfl, Classical.byContradiction n1, c.aH (.less fun a z => z.elim .inl fun z => .inr (.inr z)) fun _ h => h, mu en' (fun a z => z.elim .inl fun z => .inr (.inr z)) g3⟩
  | slot i =>
   have g2' : (match e'[i]? with | some (some (.loc p)) => some p | _ => none) = some r := by
    cases fr <;> exact g2
   cases c : e'[i]? with
   | none => rw [c] at g2'; cases g2'
   | some s =>
    cases s with
    | none => rw [c] at g2'; cases g2'
    | some s =>
     rw [c] at g2'
     cases s with
     | loc p =>
      cases g2'
      obtain ⟨u, h1, a, rfl, la, ct⟩ := rb.1.at' i _ c
      have := rb.2
      rw [h1] at this
      cases this
      have nO : H a = none := Classical.byContradiction (o'.loc a la).2
      cases fr with
      | false => exact ⟨(ct.aH (.less fun a z => .inl z) fun _ h => h).rep fun z => absurd nO (hM a z), mu rb.1 (fun a z => .inl z) g3⟩
      | true => exact ⟨a, rfl, nO, ct.aH (.less fun b z => z.elim .inl fun z => .inr (by rw [show b = a from z]; exact la)) fun _ h => h, mu rb.1 (fun b z => z.elim .inl fun z => .inr (by rw [show b = a from z]; exact la)) g3⟩
     | _ => cases g2'
noncomputable def yT (e : En) : Kd -> Bv -> Option PV
 | .v, b => b.put
 | .b, b => b.get e
 | .m, .slot i => ownAt e i
 | .m, _ => none
noncomputable def DT (e : En) : List Kd -> List Bv -> Option (List PV)
 | [], [] => some []
 | k :: ks, b :: bs => bO (yT e k b) fun p => bO (DT e ks bs) fun ps => some (p :: ps)
 | _, _ => none
noncomputable def bS : List Kd -> List Bv -> List Nat
 | .m :: ks, .slot i :: bs => i :: bS ks bs
 | _ :: ks, _ :: bs => bS ks bs
 | _, _ => []
noncomputable def lG : List Kd -> List Bv -> List Nat
 | .b :: ks, .slot i :: bs => i :: lG ks bs
 | _ :: ks, _ :: bs => lG ks bs
 | _, _ => []
noncomputable def resB (r : PV) : Bool -> Bv
 | true => .new r
 | false => .val r
noncomputable def a9 (ks : List Kd) (fr : Bool) (f : FN) (fa : FA) : FE := fun e => bE (fa e) fun bs e1 => bO (DT e1 ks bs) fun ps =>
 aU (decide ((bS ks bs).Nodup) && (lG ks bs).all fun i => !(bS ks bs).contains i) (bO (f ps) fun rq => bO (kK (rq.2.map fun q => some (.own q)) (bS ks bs).zipIdx e1) fun e2 => some (resB rq.1 fr, e2))
theorem w6 : ∀ {ks : List Kd} {bs : List Bv} {ps : List PV}, DT e ks bs = some ps -> ps.length = ks.length /\ bs.length = ks.length /\ ∀ (i : Nat) k b p, ks[i]? = some k -> bs[i]? = some b -> ps[i]? = some p -> yT e k b = some p
 | [], [], ps, h => by cases h; exact ⟨rfl, rfl, fun i k b p h => by simp at h⟩
 | [], _ :: _, ps, h => by cases h
 | _ :: _, [], ps, h => by cases h
 | k :: ks, b :: bs, ps, h => by
  obtain ⟨p, g1, h⟩ := aE h
  obtain ⟨ps', g2, h⟩ := aE h
  cases h
  obtain ⟨a1, a2, a3⟩ := w6 g2
  refine ⟨by rw [length_cons, length_cons, a1], by rw [length_cons, length_cons, a2], fun i k' b' p' h1 h2 h3 => ?_⟩
  cases i with
  | zero => simp at h1 h2 h3; subst h1 h2 h3; exact g1
  | succ i => exact a3 i k' b' p' (by simpa using h1) (by simpa using h2) (by simpa using h3)
theorem yA.get : ∀ {bs : List Bv} {vs : List V} {i : Nat} {v : V}, yA K Z H σ bs vs -> vs[i]? = some v -> ∃ b, bs[i]? = some b /\ RV K Z H σ v b
 | _, _, _, _, .nil, h => by simp at h
 | _, _, 0, _, .cons h _, e => by simp at e; subst e; exact ⟨_, rfl, h⟩
 | _, _, i + 1, _, .cons _ r, e => by
  obtain ⟨b, h1, h2⟩ := yA.get (i := i) r (by simpa using e)
  exact ⟨b, by simpa using h1, h2⟩
theorem yA.length : ∀ {bs : List Bv} {vs : List V}, yA K Z H σ bs vs -> bs.length = vs.length
 | _, _, .nil => rfl
 | _, _, .cons _ r => by rw [length_cons, length_cons, yA.length r]
theorem jY : ∀ {ks : List Kd} {bs : List Bv} {i j : Nat}, ks[i]? = some .m -> bs[i]? = some (.slot j) -> ∃ n : Nat, (bS ks bs)[n]? = some j
 | [], bs, i, j, h, _ => by simp at h
 | k :: ks, [], i, j, _, h => by simp at h
 | k :: ks, b :: bs, 0, j, h1, h2 => by simp at h1 h2; subst h1 h2; exact ⟨0, rfl⟩
 | k :: ks, b :: bs, i + 1, j, h1, h2 => by
  obtain ⟨n, h⟩ := jY (ks := ks) (bs := bs) (i := i) (by simpa using h1) (by simpa using h2)
  cases k with
  | v => exact ⟨n, h⟩
  | b => exact ⟨n, h⟩
  | m =>
   cases b with
   | val p => exact ⟨n, h⟩
   | new p => exact ⟨n, h⟩
   | slot l => exact ⟨n + 1, by simpa [bS] using h⟩
theorem sZ : ∀ {ks : List Kd} {bs : List Bv} {i j : Nat}, ks[i]? = some .b -> bs[i]? = some (.slot j) -> j ∈ lG ks bs
 | [], bs, i, j, h, _ => by simp at h
 | k :: ks, [], i, j, _, h => by simp at h
 | k :: ks, b :: bs, 0, j, h1, h2 => by simp at h1 h2; subst h1 h2; exact mem_cons_self
 | k :: ks, b :: bs, i + 1, j, h1, h2 => by
  have h := sZ (ks := ks) (bs := bs) (i := i) (j := j) (by simpa using h1) (by simpa using h2)
  cases k with
  | v => exact h
  | m => exact h
  | b =>
   cases b with
   | val p => exact h
   | new p => exact h
   | slot l => exact mem_cons_of_mem _ h
theorem pL : ∀ {ks : List Kd} {bs : List Bv} {i1 i2 j : Nat}, (bS ks bs).Nodup -> i1 ≠ i2 -> ks[i1]? = some .m -> ks[i2]? = some .m -> bs[i1]? = some (.slot j) -> bs[i2]? = some (.slot j) -> False
 | [], bs, i1, i2, j, _, _, h, _, _, _ => by simp at h
 | k :: ks, [], i1, i2, j, _, _, _, _, h, _ => by simp at h
 | k :: ks, b :: bs, 0, 0, j, _, n, _, _, _, _ => n rfl
 | k :: ks, b :: bs, 0, i2 + 1, j, nd, n, h1, h2, h3, h4 => by
  simp at h1 h3
  subst h1 h3
  obtain ⟨q, h⟩ := jY (ks := ks) (bs := bs) (i := i2) (j := j) (by simpa using h2) (by simpa using h4)
  rw [bS, nodup_cons] at nd
  exact nd.1 (mem_of_getElem? h)
 | k :: ks, b :: bs, i1 + 1, 0, j, nd, n, h1, h2, h3, h4 => by
  simp at h2 h4
  subst h2 h4
  obtain ⟨q, h⟩ := jY (ks := ks) (bs := bs) (i := i1) (j := j) (by simpa using h1) (by simpa using h3)
  rw [bS, nodup_cons] at nd
  exact nd.1 (mem_of_getElem? h)
 | k :: ks, b :: bs, i1 + 1, i2 + 1, j, nd, n, h1, h2, h3, h4 => by
  refine pL (ks := ks) (bs := bs) (i1 := i1) (i2 := i2) (j := j) ?_ (fun z => n (by rw [z])) (by simpa using h1) (by simpa using h2) (by simpa using h3) (by simpa using h4)
  cases k with
  | v => exact nd
  | b => exact nd
  | m =>
   cases b with
   | val p => exact nd
   | new p => exact nd
   | slot l => rw [bS, nodup_cons] at nd; exact nd.2
theorem lQ : ∀ {ks : List Kd} {bs : List Bv} {vs : List V} {ps : List PV} {n j : Nat}, yA K Z H σ bs vs -> DT e ks bs = some ps -> (bS ks bs)[n]? = some j -> ∃ v, (HU ks vs)[n]? = some v /\ σ[j]? = some (some v)
 | [], bs, vs, ps, n, j, r, g, h => by cases bs <;> simp [bS] at h
 | k :: ks, [], vs, ps, n, j, r, g, h => by simp [bS] at h
 | k :: ks, b :: bs, vs, ps, n, j, r, g, h => by
  obtain ⟨p, g1, g⟩ := aE g
  obtain ⟨ps', g2, g⟩ := aE g
  cases r with
  | cons h0 r =>
   cases k with
   | v => exact lQ (ks := ks) r g2 (by simpa [bS] using h)
   | b => exact lQ (ks := ks) r g2 (by simpa [bS] using h)
   | m =>
    cases b with
    | val p => cases g1
    | new p => cases g1
    | slot l =>
     cases n with
     | zero => simp [bS] at h; subst h; exact ⟨_, rfl, h0⟩
     | succ n =>
      obtain ⟨v, a, b⟩ := lQ (n := n) r g2 (by simpa [bS] using h)
      exact ⟨v, by simpa [HU] using a, b⟩
theorem FR {fr : Bool} {f : FN} {ta : TA} {fa : FA} (ha : oJ K ta fa) : Ref K (xX (OC K ks fr f) [] E ta) (a9 ks fr f fa) := by
 intro O M W L σ H e e' b Q o he hf q
 obtain ⟨bs, e1, f1, hf⟩ := aL hf
 obtain ⟨ps, g1, hf⟩ := aE hf
 obtain ⟨g2, hf⟩ := aJ hf
 obtain ⟨⟨r, qs⟩, g3, hf⟩ := aE hf
 obtain ⟨e2, g4, hf⟩ := aE hf
 cases hf
 rw [and_eq_true] at g2
 have nd := of_decide_eq_true g2.1
 have nb : ∀ i ∈ lG ks bs, i ∉ bS ks bs := fun i hi hm => by
  have := all_eq_true.mp g2.2 i hi
  rw [contains_iff_mem.mpr hm] at this
  cases this
 refine ha O M W L σ H e e1 bs _ o he f1 fun vs H1 k1 en rv => ?_
 have o1 := o.keep k1.bU
 obtain ⟨pl, bl, ap⟩ := w6 g1
 have vl := rv.length
 show OC K ks fr f (vs ++ []) H1 Q E
 rw [append_nil]
 have wr : ∀ i a, k6 ks vs H1 i a -> ∃ j, bs[i]? = some (.slot j) /\ σ[j]? = some (some (.ref a)) /\ j ∈ bS ks bs /\ ∃ p, ownAt e1 j = some p := fun i a ⟨h1, h2⟩ => by
  obtain ⟨b, hb, rb⟩ := rv.get h2
  have hi : i < ks.length := (List.getElem?_eq_some_iff.mp h1).1
  have hp : ps[i]? = some (ps[i]'(by omega)) := getElem?_eq_getElem (by omega)
  have := ap i _ b _ h1 hb hp
  cases b with
  | val p => cases this
  | new p => cases this
  | slot j =>
   obtain ⟨n, hn⟩ := jY h1 hb
   exact ⟨j, hb, rb, mem_of_getElem? hn, _, this⟩
 have wml : ∀ i a, k6 ks vs H1 i a -> (aw W a \/ L a) /\ ∃ j s, e1[j]? = some (some s) /\ s.cQ = true /\ σ[j]? = some (some (.ref a)) /\ j ∈ bS ks bs := fun i a h => by
  obtain ⟨j, _, hs, hm, p, hp⟩ := wr i a h
  obtain ⟨a', ha', hz, _⟩ := en.own hp
  rw [hs] at ha'
  cases ha'
  refine ⟨hz, j, ?_⟩
  rcases bI hp with g | g
  ·exact ⟨_, g, rfl, hs, hm⟩
  ·exact ⟨_, g, rfl, hs, hm⟩
 have ML : ∀ a, (aw W a \/ L a) -> aR M L a := fun a z => z.elim (fun ⟨i, w⟩ => .inl (o.wm i a w)) .inr
 have nn : ∀ {a : Addr} {o : HO}, Rd H1 a o -> H1 a ≠ none := fun h => h.elim (fun h => by rw [h]; exact fun z => nomatch z) fun ⟨u, h⟩ => by rw [h]; exact fun z => nomatch z
 refine ⟨aR M L, ps, r, qs, fun a z => z.elim (fun z => o1.old a (o1.mo a z)) fun z => (o1.loc a z).1, by omega, by omega, fun i k p v h1 h2 h3 => ?_, fun i j hij h1 h2 z => ?_, fun i a z => ML a (wml i a z).1, g3, fun v H' kc res => ?_⟩
 ·obtain ⟨b, hb, rb⟩ := rv.get h3
  have hone := ap i k b p h1 hb h2
  cases k with
  | v =>
   cases b with
   | val p' => cases hone; exact rb
   | new p' => exact rb.elim
   | slot j => cases hone
  | m =>
   cases b with
   | val p' => cases hone
   | new p' => cases hone
   | slot j =>
    obtain ⟨a, hs, hz, c⟩ := en.own hone
    have rb' : σ[j]? = some (some v) := rb
    rw [hs] at rb'
    cases rb'
    exact ⟨a, rfl, ⟨h1, h3⟩, c⟩
  | b =>
   have lendR : ∀ p, Rep K (aR M L) H1 p v -> gY K (aR M L) (k6 ks vs H1) cK H1 i v (AB .b p) := fun p hr => by
    cases hr with
    | lst h n r => exact ⟨_, rfl, .lst h (nn h) (fun ⟨i', w⟩ => n (ML _ (wml i' _ w).1)) (fun z => z) r⟩
    | bG h n kk r => exact ⟨_, rfl, .bG h (nn h) (fun ⟨i', w⟩ => n (ML _ (wml i' _ w).1)) (fun z => z) kk r⟩
    | bF => exact Rep.bF
    | bl b => exact Rep.bl b
    | int b => exact Rep.int b
    | str b => exact Rep.str b
    | ty b => exact Rep.ty b
    | tup h r => exact Rep.tup h r
   cases b with
   | val p' => cases hone; exact lendR _ rb
   | new p' => exact rb.elim
   | slot j =>
    have hone : rd e1 j = some p := hone
    unfold Mr.rd at hone
    cases c : e1[j]? with
    | none => rw [c] at hone; cases hone
    | some s =>
     cases s with
     | none => rw [c] at hone; cases hone
     | some s =>
      rw [c] at hone
      cases hone
      obtain ⟨u, hs, sr⟩ := en.at' j s c
      have rb' : σ[j]? = some (some v) := rb
      rw [hs] at rb'
      cases rb'
      have nm : j ∉ bS ks bs := nb j (sZ h1 hb)
      have nw : ∀ a, s.cQ = true -> σ[j]? = some (some (.ref a)) -> ¬ aw (k6 ks vs H1) a := fun a hm ha ⟨i', w⟩ => by
       obtain ⟨_, j', s', hs', hm', ha', hj'⟩ := wml i' a w
       have ne : j ≠ j' := fun z => nm (z ▸ hj')
       exact en.kX j j' s s' ne c hs' hm hm' (by rw [ha, ha'])
      cases s with
      | val p => exact lendR p sr
      | own p =>
       obtain ⟨a, e, w, ct⟩ := sr
       subst e
       cases ct with
       | lst h r => exact ⟨a, rfl, .lst (.inl h) (nn (.inl h)) (nw a rfl hs) (fun z => z) r⟩
       | bG h kk r => exact ⟨a, rfl, .bG (.inl h) (nn (.inl h)) (nw a rfl hs) (fun z => z) kk r⟩
      | loc p =>
       obtain ⟨a, e, w, ct⟩ := sr
       subst e
       cases ct with
       | lst h r => exact ⟨a, rfl, .lst (.inl h) (nn (.inl h)) (nw a rfl hs) (fun z => z) r⟩
       | bG h kk r => exact ⟨a, rfl, .bG (.inl h) (nn (.inl h)) (nw a rfl hs) (fun z => z) kk r⟩
      | bor p =>
       obtain ⟨a, e, ct⟩ := sr
       subst e
       cases ct with
       | lst h od n m r => exact ⟨a, rfl, .lst h (nn h) (fun ⟨i', w⟩ => (wml i' a w).1.elim n m) (fun z => z) r⟩
       | cY h r => exact ⟨a, rfl, .cY h r⟩
       | bG h od n m kk r => exact ⟨a, rfl, .bG h (nn h) (fun ⟨i', w⟩ => (wml i' a w).1.elim n m) (fun z => z) kk r⟩
 ·
  have hi : i < ks.length := (List.getElem?_eq_some_iff.mp h1).1
  have hj : j < ks.length := (List.getElem?_eq_some_iff.mp h2).1
  have vi : vs[i]? = some (vs[i]'(by omega)) := getElem?_eq_getElem (by omega)
  have vj : vs[j]? = some (vs[j]'(by omega)) := getElem?_eq_getElem (by omega)
  have key : ∀ (i : Nat) (v : V), ks[i]? = some Kd.m -> vs[i]? = some v -> ∃ (j : Nat) (a : Addr), v = .ref a /\ bs[i]? = some (Bv.slot j) /\ σ[j]? = some (some v) /\ ∃ p, ownAt e1 j = some p := fun i v h1 h3 => by
   obtain ⟨b, hb, rb⟩ := rv.get h3
   have hi : i < ks.length := (List.getElem?_eq_some_iff.mp h1).1
   have := ap i _ b _ h1 hb (getElem?_eq_getElem (show i < ps.length by omega))
   cases b with
   | val p => cases this
   | new p => cases this
   | slot l =>
    obtain ⟨a, ha, _, _⟩ := en.own this
    have rb' : σ[l]? = some (some v) := rb
    rw [ha] at rb'
    cases rb'
    exact ⟨l, a, rfl, hb, ha, _, this⟩
  obtain ⟨l1, a1, x1, y1, z1, p1, w1⟩ := key i _ h1 vi
  obtain ⟨l2, a2, x2, y2, z2, p2, w2⟩ := key j _ h2 vj
  by_cases hl : l1 = l2
  ·subst hl; exact pL nd hij h1 h2 y1 y2
  ·have m1 : ∃ s, e1[l1]? = some (some s) /\ s.cQ = true := by rcases bI w1 with g | g <;> exact ⟨_, g, rfl⟩
   have m2 : ∃ s, e1[l2]? = some (some s) /\ s.cQ = true := by rcases bI w2 with g | g <;> exact ⟨_, g, rfl⟩
   obtain ⟨s1, b1, c1⟩ := m1
   obtain ⟨s2, b2, c2⟩ := m2
   refine en.kX l1 l2 s1 s2 hl b1 b2 c1 c2 ?_
   rw [z1, z2, <- Option.some.inj (vi.symm.trans (z.trans vj))]
 ·
  have kout : bR W L H1 H' := ⟨fun a ob h n m => kc.obj a ob h (fun ⟨i, w⟩ => (wml i a w).1.elim n m) (fun z => z), kc.tup, kc.bU⟩
  have pend : ∀ (Zf Lf : aI), (∀ a ob, H1 a = some ob -> ¬ aR M L a -> ¬ Zf a) -> (∀ a, L a -> Lf a) -> (∀ a ob, H1 a = some ob -> ¬ L a -> ¬ Lf a) -> uY K Zf W Lf H' σ (fun i => ∃ j, (i, j) ∈ (bS ks bs).zipIdx) e1 := fun Zf Lf hz hL hL2 => by
   have kf : cL (aR M L) Zf H1 H' := ⟨kc.tup, fun a ob h n => ⟨kc.obj a ob h (fun ⟨i, w⟩ => n (ML a (wml i a w).1)) (fun z => z), hz a ob h n⟩⟩
   refine ⟨en.len, fun i s hs => ?_, en.kX⟩
   obtain ⟨u, h1, h2⟩ := en.at' i s hs
   have keepM : ∀ a, s.cQ = true -> ¬ (∃ j, (i, j) ∈ (bS ks bs).zipIdx) -> u = .ref a -> ∀ ob, H1 a = some ob -> H' a = some ob := fun a hm nt ev ob h => by
    subst ev
    refine kc.obj a ob h (fun ⟨i', w⟩ => ?_) (fun z => z)
    obtain ⟨_, j', s', hs', hm', ha', hj'⟩ := wml i' a w
    obtain ⟨n, hn⟩ := getElem?_of_mem hj'
    have ne : j' ≠ i := fun z => nt ⟨n, by rw [<- z]; exact List.mem_zipIdx_iff_getElem?.mpr hn⟩
    exact en.kX j' i s' s ne hs' hs hm' hm (by rw [ha', h1])
   have rk : ∀ {a : Addr} {o : HO}, Rd H1 a o -> ¬ L a -> ¬ Lf a := fun h n => h.elim (fun h => hL2 _ _ h n) fun ⟨u, h⟩ => hL2 _ _ h n
   refine ⟨u, h1, fun z => ?_, fun hm => ?_⟩
   ·cases s with
    | val p => exact Rep.aH kf h2
    | own p => obtain ⟨a, e, w, c⟩ := h2; exact ⟨a, e, w, c.aH kf fun ob h => keepM a rfl (z.elim id fun z => nomatch z) e ob h⟩
    | loc p => obtain ⟨a, e, w, c⟩ := h2; exact ⟨a, e, hL a w, c.aH kf fun ob h => keepM a rfl (z.elim id fun z => nomatch z) e ob h⟩
    | bor p =>
     obtain ⟨a, e, c⟩ := h2
     refine ⟨a, e, ?_⟩
     cases c with
     | lst h od n m r => exact .lst (h.elim (fun h => .inl (kout.obj _ _ h n m)) fun ⟨u, h⟩ => .inr ⟨u, kout.obj _ _ h n m⟩) od n (rk h m) (r.aH kf)
     | cY h r => exact .cY h (r.aH kf)
     | bG h od n m kk r => exact .bG (h.elim (fun h => .inl (kout.obj _ _ h n m)) fun ⟨u, h⟩ => .inr ⟨u, kout.obj _ _ h n m⟩) od n (rk h m) kk (r.aH kf)
   ·cases s with
    | val p => cases hm
    | bor p => cases hm
    | own p => obtain ⟨a, e, w, c⟩ := h2; exact ⟨a, e, .inl ⟨p, rfl, w⟩⟩
    | loc p => obtain ⟨a, e, w, c⟩ := h2; exact ⟨a, e, .inr ⟨p, rfl, hL a w⟩⟩
  have back : ∀ (Zf : aI), wY K Zf H' ks vs qs -> ∀ i j p a, (i, j) ∈ (bS ks bs).zipIdx -> ownAt (qs.map fun q => some (.own q)) j = some p -> σ[i]? = some (some (.ref a)) -> fS K Zf H' a p := fun Zf mu i j p a hm hp ha => by
   have hm' := List.mem_zipIdx_iff_getElem?.mp hm
   obtain ⟨v', a1, a2⟩ := lQ rv g1 hm'
   dsimp only at a2
   rw [ha] at a2
   cases a2
   have hq : qs[j]? = some p := by
    rcases bI hp with g | g
    ·rw [getElem?_map] at g
     cases c : qs[j]? with
     | none => rw [c] at g; cases g
     | some q' => rw [c] at g; cases g; rfl
    ·rw [getElem?_map] at g
     cases c : qs[j]? with
     | none => rw [c] at g; cases g
     | some q' => rw [c] at g; cases g
   obtain ⟨a', e, c⟩ := mu j _ p a1 hq
   cases e
   exact c
  cases fr with
  | false =>
   obtain ⟨rr, mu⟩ := res
   exact q v H' (k1.trans kout) ⟨jU (pend (aR M L) L (fun _ _ _ n => n) (fun _ z => z) fun _ _ _ n => n) (back _ mu) g4, rr⟩ trivial
  | true =>
   obtain ⟨a, rfl, na, c, mu⟩ := res
   have sub : ∀ b, aR M (aR L (one a)) b -> aR (aR M L) (one a) b := fun b z => by
    rcases z with z | z | z
    ·exact .inl (.inl z)
    ·exact .inl (.inr z)
    ·exact .inr z
   have ne : ∀ b ob, H1 b = some ob -> b ≠ a := fun b ob h => bT h na
   have mu' : wY K (aR M (aR L (one a))) H' ks vs qs := fun n v q' h1 h2 => by
    obtain ⟨a', e, c⟩ := mu n v q' h1 h2
    exact ⟨a', e, c.aH (.less sub) fun _ h => h⟩
   refine q _ H' (k1.trans kout) ⟨a, rfl, fun z => o1.old a z na, fun z => (o1.loc a z).1 na, jU (pend (aR M (aR L (one a))) (aR L (one a)) (fun b ob h n z => ?_) (fun _ z => .inl z) fun b ob h n z => z.elim n (ne b ob h)) (back _ mu') g4, fun i s hs hm e => ?_, c.aH (.less sub) fun _ h => h⟩ (Fr.back (b := .new r) k1.bU fun b e => by cases e; exact na)
   ·rcases z with z | z | z
    ·exact n (.inl z)
    ·exact n (.inr z)
    ·exact ne b ob h z
   ·obtain ⟨s', hs', hm'⟩ := iZ g4 i s hs hm
    obtain ⟨u, h1, h2⟩ := en.at' i s' hs'
    rw [e] at h1
    cases h1
    cases s' with
    | val p => cases hm'
    | bor p => cases hm'
    | own p => obtain ⟨b, e, w, c⟩ := h2; cases e; obtain ⟨ob, h, _⟩ := c.there; rw [na] at h; cases h
    | loc p => obtain ⟨b, e, w, c⟩ := h2; cases e; obtain ⟨ob, h, _⟩ := c.there; rw [na] at h; cases h
end
end Mr
namespace Mr
open PySem PySem.Spec L2 PyProof.Rows
variable {a : Addr} {ys : Array Value} {X : Cx} {f : FE} {h : Heap} {H : Hp} {g' : Int -> Int -> PV} {g : Int -> Int -> V} {ps : List PV} {vs xs : List V} {k n : Nat} {p q : PV} {r r' : R2} {t : TE} {u v : Value} {W : WS} {L M O Wr Z : aI}
mutual
inductive Lies (h : Heap) : PV -> Value -> Prop
 | bF : Lies h .bF .none
 | bl (b : Bool) : Lies h (.bl b) (.bool b)
 | int (i : Int) (t : Tok) : Lies h (.int i) (.int i t)
 | str (x : Str) (t : Tok) : Lies h (.str x) (.str x t)
 | tup {a : Addr} {its : List Value} {ps : List PV} : IsTup h a its.toArray -> bL h ps its -> Lies h (.tup ps) (.ref a)
 | lst {a : Addr} {its : List Value} {ps : List PV} : h.IsList a its.toArray -> bL h ps its -> Lies h (.lst ps) (.ref a)
inductive bL (h : Heap) : List PV -> List Value -> Prop
 | nil : bL h [] []
 | cons {p : PV} {v : Value} {ps : List PV} {vs : List Value} : Lies h p v -> bL h ps vs -> bL h (p :: ps) (v :: vs)
end
noncomputable def fW : Nat -> PV -> Bool
 | _, .bF => true
 | _, .bl _ => true
 | _, .int _ => true
 | _, .str _ => true
 | n + 1, .tup ps => ps.all (fW n)
 | n + 1, .lst ps => ps.all (fW n)
 | _, _ => false
section
variable {X : Cx} {pins : List (Addr × Obj)} {σ : L2.St} {H : Hp} {s : Shared}
theorem Rep.lies (I : Inv X pins σ H s) : ∀ {n : Nat} {p : PV} {x : V} {v : Value}, fW n p = true -> Rep X.K Z H p x -> RelV x v -> Lies s.heap p v
 | n, .bF, x, v, ok, h, r => by cases h; cases r; exact .bF
 | n, .bl b, x, v, ok, h, r => by cases h; cases r; exact .bl b
 | n, .int b, x, v, ok, h, r => by cases h; obtain ⟨t, rfl⟩ := r; exact .int b t
 | n, .str b, x, v, ok, h, r => by cases h; obtain ⟨t, rfl⟩ := r; exact .str b t
 | n, .ty b, x, v, ok, h, r => by cases n <;> cases ok
 | n, .bG b, x, v, ok, h, r => by cases n <;> cases ok
 | 0, .tup ps, x, v, ok, h, r => by cases ok
 | 0, .lst ps, x, v, ok, h, r => by cases ok
 | n + 1, .tup ps, x, v, ok, h, r => by
  cases h with
  | tup h rl =>
   cases r
   obtain ⟨its, rv, pl, _⟩ := I.tuple h.sq
   have key : ∀ (ps : List PV) (xs : List V) (its : List Value), ps.all (fW n) = true -> aX X.K Z H ps xs -> Vals xs its -> bL s.heap ps its := fun ps => by
    induction ps with
    | nil => intro xs its _ h1 h2; cases h1; cases h2; exact .nil
    | cons p ps ih =>
     intro xs its ha h1 h2
     rw [all_cons, and_eq_true] at ha
     cases h1 with
     | cons h1 r1 =>
      cases h2 with
      | cons h2 r2 => exact .cons (Rep.lies I (n := n) ha.1 h1 h2) (ih _ _ ha.2 r1 r2)
   exact .tup pl (key ps _ its ok rl rv)
 | n + 1, .lst ps, x, v, ok, h, r => by
  cases h with
  | lst h nz rl =>
   cases r
   obtain ⟨its, rv, pl, _⟩ := I.list (show gK X.K H _ _ from .inl h)
   have key : ∀ (ps : List PV) (xs : List V) (its : List Value), ps.all (fW n) = true -> aX X.K Z H ps xs -> Vals xs its -> bL s.heap ps its := fun ps => by
    induction ps with
    | nil => intro xs its _ h1 h2; cases h1; cases h2; exact .nil
    | cons p ps ih =>
     intro xs its ha h1 h2
     rw [all_cons, and_eq_true] at ha
     cases h1 with
     | cons h1 r1 =>
      cases h2 with
      | cons h2 r2 => exact .cons (Rep.lies I (n := n) ha.1 h1 h2) (ih _ _ ha.2 r1 r2)
   exact .lst pl.isList (key ps _ its ok rl rv)
theorem aX.lies (I : Inv X pins σ H s) : ∀ {ps : List PV} {xs : List V} {its : List Value}, ps.all (fW n) = true -> aX X.K Z H ps xs -> Vals xs its -> bL s.heap ps its
 | [], _, _, _, h1, h2 => by cases h1; cases h2; exact .nil
 | p :: ps, _, _, ha, h1, h2 => by
  rw [all_cons, and_eq_true] at ha
  cases h1 with
  | cons h1 r1 =>
   cases h2 with
   | cons h2 r2 => exact .cons (Rep.lies I (n := n) ha.1 h1 h2) (aX.lies I ha.2 r1 r2)
theorem Red.lies (I : Inv X pins σ H s) {n : Nat} {x : V} (ok : fW n p = true) (h : Red X.K Z H p x) (r : RelV x v) : Lies s.heap p v := by
 cases h with
 | rep h => exact h.lies I ok r
 | lst h rl =>
  cases r
  cases n with
  | zero => cases ok
  | succ n =>
   obtain ⟨its, rv, pl, _⟩ := I.list h.sq
   exact .lst pl.isList (aX.lies I (n := n) ok rl rv)
 | bG h e r => cases n <;> cases ok
end
mutual
noncomputable def bZ : PV -> PV -> Bool
 | .bF, .bF => true
 | .bl a, .bl b => a == b
 | .bl a, .int b => (if a then 1 else 0) == b
 | .int a, .bl b => a == (if b then 1 else 0)
 | .int a, .int b => a == b
 | .str a, .str b => a == b
 | .tup xs, .tup ys => cG xs ys
 | .lst xs, .lst ys => cG xs ys
 | _, _ => false
noncomputable def cG : List PV -> List PV -> Bool
 | [], [] => true
 | x :: xs, y :: ys => bZ x y && cG xs ys
 | _, _ => false
end
theorem j5 {xs ys : List PV} : bZ (.tup xs) (.tup ys) = cG xs ys := by rw [bZ]
theorem pC {xs ys : List PV} : bZ (.lst xs) (.lst ys) = cG xs ys := by rw [bZ]
theorem bL.length : ∀ {ps : List PV} {vs : List Value}, bL h ps vs -> ps.length = vs.length
 | _, _, .nil => rfl
 | _, _, .cons _ r => by rw [length_cons, length_cons, bL.length r]
theorem bL.get : ∀ {ps : List PV} {vs : List Value} {i : Nat} {v : Value}, bL h ps vs -> vs[i]? = some v -> ∃ p, ps[i]? = some p /\ Lies h p v
 | _, _, _, _, .nil, e => by simp at e
 | _, _, 0, _, .cons q _, e => by simp at e; subst e; exact ⟨_, rfl, q⟩
 | _, _, i + 1, _, .cons _ r, e => by
  obtain ⟨v, h1, h2⟩ := bL.get (i := i) r (by simpa using e)
  exact ⟨v, by simpa using h1, h2⟩
theorem B3 {xs : Array Value} (h1 : IsTup h a xs) (h2 : IsTup h a ys) : xs = ys := by
 obtain ⟨o, g, _, n, d⟩ := h1
 obtain ⟨o', g', _, n', d'⟩ := h2
 rw [g] at g'
 cases g'
 rw [d] at d'
 injection d'
theorem BF {xs : Array Value} (h1 : h.IsList a xs) (h2 : h.IsList a ys) : xs = ys := by
 obtain ⟨o, g, _, n, d⟩ := h1
 obtain ⟨o', g', _, n', d'⟩ := h2
 rw [g] at g'
 cases g'
 rw [d] at d'
 injection d'
theorem o6 {xs : Array Value} (h1 : IsTup h a xs) (h2 : h.IsList a ys) : False := by
 obtain ⟨o, g, c, n, d⟩ := h1
 obtain ⟨o', g', c', n', d'⟩ := h2
 rw [g] at g'
 cases g'
 rw [c] at c'
 exact absurd c' (by decide)
mutual
theorem Lies.same {h : Heap} : ∀ {p : PV} {v : Value}, Lies h p v -> ∀ {q : PV}, Lies h q v -> bZ p q = true
 | _, _, .bF, q, k => by cases k; rfl
 | _, _, .bl b, q, k => by cases k; exact beq_self_eq_true b
 | _, _, .int i t, q, k => by cases k; exact beq_self_eq_true i
 | _, _, .str i t, q, k => by cases k; exact beq_self_eq_true i
 | _, _, .tup ht r, q, k => by
  cases k with
  | tup ht' r' =>
   have e : _ = _ := B3 ht ht'
   have e := congrArg Array.toList e
   simp only [toList_toArray] at e
   subst e
   unfold bZ
   exact bL.same r r'
  | lst hl r' => exact (o6 ht hl).elim
 | _, _, .lst ht r, q, k => by
  cases k with
  | tup ht' r' => exact (o6 ht' ht).elim
  | lst hl r' =>
   have e := congrArg Array.toList (BF ht hl)
   simp only [toList_toArray] at e
   subst e
   unfold bZ
   exact bL.same r r'
theorem bL.same {h : Heap} : ∀ {p : List PV} {v : List Value}, bL h p v -> ∀ {q : List PV}, bL h q v -> cG p q = true
 | _, _, .nil, q, k => by cases k; rfl
 | _, _, .cons h1 r1, q, k => by
  cases k with
  | cons h2 r2 => unfold cG; rw [Lies.same h1 h2, bL.same r1 r2]; rfl
end
mutual
theorem Lies.fn {h : Heap} : ∀ {p : PV} {v : Value}, Lies h p v -> ∀ {q : PV}, Lies h q v -> p = q
 | _, _, .bF, q, k => by cases k; rfl
 | _, _, .bl b, q, k => by cases k; rfl
 | _, _, .int i t, q, k => by cases k; rfl
 | _, _, .str i t, q, k => by cases k; rfl
 | _, _, .tup ht r, q, k => by
  cases k with
  | tup ht' r' =>
   have e := congrArg Array.toList (B3 ht ht')
   simp only [toList_toArray] at e
   subst e
   rw [bL.fn r r']
  | lst hl r' => exact (o6 ht hl).elim
 | _, _, .lst ht r, q, k => by
  cases k with
  | tup ht' r' => exact (o6 ht' ht).elim
  | lst hl r' =>
   have e := congrArg Array.toList (BF ht hl)
   simp only [toList_toArray] at e
   subst e
   rw [bL.fn r r']
theorem bL.fn {h : Heap} : ∀ {p : List PV} {v : List Value}, bL h p v -> ∀ {q : List PV}, bL h q v -> p = q
 | _, _, .nil, q, k => by cases k; rfl
 | _, _, .cons h1 r1, q, k => by
  cases k with
  | cons h2 r2 => rw [Lies.fn h1 h2, bL.fn r1 r2]
end
theorem eD : ∀ {ps qs : List PV}, ((List.range (min ps.length qs.length)).all (fun j => bZ (ps.getD j .bF) (qs.getD j .bF)) && ps.length == qs.length) = cG ps qs
 | [], [] => rfl
 | [], _ :: _ => by unfold cG; simp
 | _ :: _, [] => by unfold cG; simp
 | p :: ps, q :: qs => by
  have ih := eD (ps := ps) (qs := qs)
  unfold cG
  rw [<- ih]
  have e : min (p :: ps).length (q :: qs).length = min ps.length qs.length + 1 := by simp only [length_cons]; omega
  rw [e, List.range_succ_eq_map, all_cons, List.all_map]
  have e2 : ((p :: ps).length == (q :: qs).length) = (ps.length == qs.length) := by
   rw [Bool.eq_iff_iff]; simp
  rw [e2, Bool.and_assoc]
  rfl
section
variable {A : Around} {s : Shared}
theorem toArr {vs : List Value} {j : Nat} (h : j < vs.toArray.size) : vs[j]? = some (vs.toArray[j]) := by simp at h ⊢
theorem uZ : ∀ (n : Nat) (A : Around) {p q : PV} {v u : Value}, A.units + n < cLine -> fW n p = true -> fW n q = true -> Lies s.heap p v -> Lies s.heap q u -> SeqAt.EqAt A s v u (bZ p q) := by
 intro n
 induction n with
 | zero =>
  intro A p q v u hu o1 o2 h1 h2
  cases h1 with
  | tup _ _ => cases o1
  | lst _ _ => cases o1
  | bF =>
   cases h2 with
   | tup _ _ => cases o2
   | lst _ _ => cases o2
   | bF => exact .same _
   | bl b => exact .none_bool b
   | int b t => exact .none_int b t
   | str b t => exact .none_str b t
  | bl a =>
   cases h2 with
   | tup _ _ => cases o2
   | lst _ _ => cases o2
   | bF => exact .bool_none a
   | bl b => exact .bool_bool a b
   | int b t => exact .bool_int a b t
   | str b t => exact .bool_str a b t
  | int a t' =>
   cases h2 with
   | tup _ _ => cases o2
   | lst _ _ => cases o2
   | bF => exact .int_none a t'
   | bl b => exact .int_bool a t' b
   | int b t => exact .int_int a t' b t
   | str b t => exact .int_str a t' b t
  | str a t' =>
   cases h2 with
   | tup _ _ => cases o2
   | lst _ _ => cases o2
   | bF => exact .str_none a t'
   | bl b => exact .str_bool a t' b
   | int b t => exact .str_int a t' b t
   | str b t => exact .str_str a t' b t
 | succ n ih =>
  intro A p q v u hu o1 o2 h1 h2
  have hu0 : A.units < cLine := by omega
  have hin : A.in1.units = A.units + 1 := rfl
  have els : ∀ {ps qs : List PV} {vs us : List Value}, ps.all (fW n) = true -> qs.all (fW n) = true -> bL s.heap ps vs -> bL s.heap qs us -> ∀ (j : Nat) (g1 : j < vs.toArray.size) (g2 : j < us.toArray.size), SeqAt.EqAt A.in1 s vs.toArray[j] us.toArray[j] (bZ (ps.getD j .bF) (qs.getD j .bF)) := fun {ps qs vs us} a1 a2 l1 l2 j g1 g2 => by
   obtain ⟨x, ex, rx⟩ := l1.get (toArr g1)
   obtain ⟨y, ey, ry⟩ := l2.get (toArr g2)
   rw [getD_eq_getElem?_getD, getD_eq_getElem?_getD, ex, ey]
   exact ih A.in1 (by omega) (all_eq_true.mp a1 _ (mem_of_getElem? ex)) (all_eq_true.mp a2 _ (mem_of_getElem? ey)) rx ry
  cases h1 with
  | tup ht r =>
   cases h2 with
   | tup ht' r' =>
    rename_i a its ps a' its' ps'
    by_cases hab : a = a'
    ·subst hab
     rw [Lies.same (.tup ht r) (.tup ht' r')]
     exact .same _
    ·refine .of_refs hab ?_
     have e : bZ (.tup ps) (.tup ps') = ((List.range (min its.toArray.size its'.toArray.size)).all (fun j => bZ (ps.getD j .bF) (ps'.getD j .bF)) && its.toArray.size == its'.toArray.size) := by
      rw [j5, <- eD, r.length, r'.length, size_toArray, size_toArray]
     rw [e]
     exact SeqAt.RcAt.tuples (e := fun j => bZ (ps.getD j .bF) (ps'.getD j .bF)) ht ht' hu0 (els o1 o2 r r')
   | lst hl r' => exact .tuple_list ht hl hu0
   | bF => exact .tuple_none ht hu0
   | bl b => exact .tuple_bool b ht hu0
   | int b t => exact .tuple_int b t ht hu0
   | str b t => exact .tuple_str b t ht hu0
  | lst ht r =>
   cases h2 with
   | tup ht' r' => exact .list_tuple ht ht' hu0
   | lst ht' r' =>
    rename_i a its ps a' its' ps'
    by_cases hab : a = a'
    ·subst hab
     rw [Lies.same (.lst ht r) (.lst ht' r')]
     exact .same _
    ·refine .of_refs hab ?_
     by_cases hsz : its.length = its'.length
     ·have e : bZ (.lst ps) (.lst ps') = (List.range its.toArray.size).all (fun j => bZ (ps.getD j .bF) (ps'.getD j .bF)) := by
       rw [pC, <- eD, r.length, r'.length, size_toArray, <- hsz, Nat.min_self, beq_self_eq_true, Bool.and_true]
      rw [e]
      exact SeqAt.RcAt.lists (e := fun j => bZ (ps.getD j .bF) (ps'.getD j .bF)) ht ht' (by simp [hsz]) hu0 (els o1 o2 r r')
     ·have e : bZ (.lst ps) (.lst ps') = false := by
       rw [pC, <- eD, r.length, r'.length, show (its.length == its'.length) = false by simp [hsz], Bool.and_false]
      rw [e]
      exact SeqAt.RcAt.lists_lengths ht ht' (by simp [hsz]) hu0
   | bF => exact .list_none ht hu0
   | bl b => exact .list_bool b ht hu0
   | int b t => exact .list_int b t ht hu0
   | str b t => exact .list_str b t ht hu0
  | bF =>
   cases h2 with
   | tup ht' r' => exact .none_tuple ht' hu0
   | lst hl r' => exact .none_list hl hu0
   | bF => exact .same _
   | bl b => exact .none_bool b
   | int b t => exact .none_int b t
   | str b t => exact .none_str b t
  | bl a =>
   cases h2 with
   | tup ht' r' => exact .bool_tuple a ht' hu0
   | lst hl r' => exact .bool_list a hl hu0
   | bF => exact .bool_none a
   | bl b => exact .bool_bool a b
   | int b t => exact .bool_int a b t
   | str b t => exact .bool_str a b t
  | int a t' =>
   cases h2 with
   | tup ht' r' => exact .int_tuple a t' ht' hu0
   | lst hl r' => exact .int_list a t' hl hu0
   | bF => exact .int_none a t'
   | bl b => exact .int_bool a t' b
   | int b t => exact .int_int a t' b t
   | str b t => exact .int_str a t' b t
  | str a t' =>
   cases h2 with
   | tup ht' r' => exact .str_tuple a t' ht' hu0
   | lst hl r' => exact .str_list a t' hl hu0
   | bF => exact .str_none a t'
   | bl b => exact .str_bool a t' b
   | int b t => exact .str_int a t' b t
   | str b t => exact .str_str a t' b t
theorem IC {A : Around} (hu : A.units + (n + 1) < cLine) (o1 : fW (n + 1) p = true) (o2 : fW (n + 1) q = true) (h1 : Lies s.heap p v) (h2 : Lies s.heap q u) : SeqAt.RcAt A s v u (bZ p q) /\ SeqAt.RcNeAt A s v u (!bZ p q) := by
 have hu0 : A.units < cLine := by omega
 have hin : A.in1.units = A.units + 1 := rfl
 have els : ∀ {ps qs : List PV} {vs us : List Value}, ps.all (fW n) = true -> qs.all (fW n) = true -> bL s.heap ps vs -> bL s.heap qs us -> ∀ (j : Nat) (g1 : j < vs.toArray.size) (g2 : j < us.toArray.size), SeqAt.EqAt A.in1 s vs.toArray[j] us.toArray[j] (bZ (ps.getD j .bF) (qs.getD j .bF)) := fun {ps qs vs us} a1 a2 l1 l2 j g1 g2 => by
  obtain ⟨x, ex, rx⟩ := l1.get (toArr g1)
  obtain ⟨y, ey, ry⟩ := l2.get (toArr g2)
  rw [getD_eq_getElem?_getD, getD_eq_getElem?_getD, ex, ey]
  exact uZ n A.in1 (by omega) (all_eq_true.mp a1 _ (mem_of_getElem? ex)) (all_eq_true.mp a2 _ (mem_of_getElem? ey)) rx ry
 cases h1 with
 | tup ht r =>
  cases h2 with
  | tup ht' r' =>
   rename_i a its ps a' its' ps'
   have e : bZ (.tup ps) (.tup ps') = ((List.range (min its.toArray.size its'.toArray.size)).all (fun j => bZ (ps.getD j .bF) (ps'.getD j .bF)) && its.toArray.size == its'.toArray.size) := by
    rw [j5, <- eD, r.length, r'.length, size_toArray, size_toArray]
   rw [e]
   exact ⟨SeqAt.RcAt.tuples (e := fun j => bZ (ps.getD j .bF) (ps'.getD j .bF)) ht ht' hu0 (els o1 o2 r r'), SeqAt.RcNeAt.tuples (e := fun j => bZ (ps.getD j .bF) (ps'.getD j .bF)) ht ht' hu0 (els o1 o2 r r')⟩
  | lst hl r' => exact ⟨.tuple_list ht hl hu0, .tuple_list ht hl hu0⟩
  | bF => exact ⟨.tuple_none ht hu0, .tuple_none ht hu0⟩
  | bl b => exact ⟨.tuple_bool b ht hu0, .tuple_bool b ht hu0⟩
  | int b t => exact ⟨.tuple_int b t ht hu0, .tuple_int b t ht hu0⟩
  | str b t => exact ⟨.tuple_str b t ht hu0, .tuple_str b t ht hu0⟩
 | lst ht r =>
  cases h2 with
  | tup ht' r' => exact ⟨.list_tuple ht ht' hu0, .list_tuple ht ht' hu0⟩
  | lst ht' r' =>
   rename_i a its ps a' its' ps'
   by_cases hsz : its.length = its'.length
   ·have e : bZ (.lst ps) (.lst ps') = (List.range its.toArray.size).all (fun j => bZ (ps.getD j .bF) (ps'.getD j .bF)) := by
     rw [pC, <- eD, r.length, r'.length, size_toArray, <- hsz, Nat.min_self, beq_self_eq_true, Bool.and_true]
    rw [e]
    exact ⟨SeqAt.RcAt.lists (e := fun j => bZ (ps.getD j .bF) (ps'.getD j .bF)) ht ht' (by simp [hsz]) hu0 (els o1 o2 r r'), SeqAt.RcNeAt.lists (e := fun j => bZ (ps.getD j .bF) (ps'.getD j .bF)) ht ht' (by simp [hsz]) hu0 (els o1 o2 r r')⟩
   ·have e : bZ (.lst ps) (.lst ps') = false := by
     rw [pC, <- eD, r.length, r'.length, show (its.length == its'.length) = false by simp [hsz], Bool.and_false]
    rw [e]
    exact ⟨SeqAt.RcAt.lists_lengths ht ht' (by simp [hsz]) hu0, SeqAt.RcNeAt.lists_lengths ht ht' (by simp [hsz]) hu0⟩
  | bF => exact ⟨.list_none ht hu0, .list_none ht hu0⟩
  | bl b => exact ⟨.list_bool b ht hu0, .list_bool b ht hu0⟩
  | int b t => exact ⟨.list_int b t ht hu0, .list_int b t ht hu0⟩
  | str b t => exact ⟨.list_str b t ht hu0, .list_str b t ht hu0⟩
 | bF =>
  cases h2 with
  | tup ht' r' => exact ⟨.none_tuple ht' hu0, .none_tuple ht' hu0⟩
  | lst hl r' => exact ⟨.none_list hl hu0, .none_list hl hu0⟩
  | bF => exact ⟨.none_none, .none_none⟩
  | bl b => exact ⟨.none_bool b, .none_bool b⟩
  | int b t => exact ⟨.none_int b t, .none_int b t⟩
  | str b t => exact ⟨.none_str b t, .none_str b t⟩
 | bl a =>
  cases h2 with
  | tup ht' r' => exact ⟨.bool_tuple a ht' hu0, .bool_tuple a ht' hu0⟩
  | lst hl r' => exact ⟨.bool_list a hl hu0, .bool_list a hl hu0⟩
  | bF => exact ⟨.bool_none a, .bool_none a⟩
  | bl b => exact ⟨.bool_bool a b, .bool_bool a b⟩
  | int b t => exact ⟨.bool_int a b t, .bool_int a b t⟩
  | str b t => exact ⟨.bool_str a b t, .bool_str a b t⟩
 | int a t' =>
  cases h2 with
  | tup ht' r' => exact ⟨.int_tuple a t' ht' hu0, .int_tuple a t' ht' hu0⟩
  | lst hl r' => exact ⟨.int_list a t' hl hu0, .int_list a t' hl hu0⟩
  | bF => exact ⟨.int_none a t', .int_none a t'⟩
  | bl b => exact ⟨.int_bool a t' b, .int_bool a t' b⟩
  | int b t => exact ⟨.int_int a t' b t, .int_int a t' b t⟩
  | str b t => exact ⟨.int_str a t' b t, .int_str a t' b t⟩
 | str a t' =>
  cases h2 with
  | tup ht' r' => exact ⟨.str_tuple a t' ht' hu0, .str_tuple a t' ht' hu0⟩
  | lst hl r' => exact ⟨.str_list a t' hl hu0, .str_list a t' hl hu0⟩
  | bF => exact ⟨.str_none a t', .str_none a t'⟩
  | bl b => exact ⟨.str_bool a t' b, .str_bool a t' b⟩
  | int b t => exact ⟨.str_int a t' b t, .str_int a t' b t⟩
  | str b t => exact ⟨.str_str a t' b t, .str_str a t' b t⟩
end
noncomputable def K7 (K : Frag) (neg : Bool) : R2 := fun x y H Q => ∃ p q, Red K cK H p x /\ Red K cK H q y /\ fW 9 p = true /\ fW 9 q = true /\ Q (.bl (if neg then !bZ p q else bZ p q)) H
noncomputable def zW : PV -> Option (List PV)
 | .lst ps => some ps
 | .tup ps => some ps
 | _ => none
noncomputable def NS (K : Frag) (neg : Bool) : R2 := fun x y H Q => ∃ p q ps, Red K cK H p x /\ Red K cK H q y /\ zW q = some ps /\ fW 8 p = true /\ ps.all (fW 8) = true /\ Q (.bl (if neg then !ps.any (fun z => bZ z p) else ps.any fun z => bZ z p)) H
section
variable {X : Cx} {k : Nat}
theorem zA (K : Frag) (hr : dD k X.A) (hK : X.K = K := by rfl) : gL X (compareOp .Eq) (K7 K false) := by
 subst hK
 intro pins s σ H x y v u Q I rx ry h
 obtain ⟨p, q, h1, h2, o1, o2, hQ⟩ := h
 exact (IC (n := 8) (by have := hr.un; omega) o1 o2 (h1.lies I o1 rx) (h2.lies I o2 ry)).1 _ _ _ _ (hJ I hQ rfl)
theorem JJ (K : Frag) (hr : dD k X.A) (hK : X.K = K := by rfl) : gL X (compareOp .NotEq) (K7 K true) := by
 subst hK
 intro pins s σ H x y v u Q I rx ry h
 obtain ⟨p, q, h1, h2, o1, o2, hQ⟩ := h
 exact (IC (n := 8) (by have := hr.un; omega) o1 o2 (h1.lies I o1 rx) (h2.lies I o2 ry)).2 _ _ _ _ (hJ I hQ rfl)
theorem bL.any {e : Value -> Bool} {f : PV -> Bool} (he : ∀ {q : PV} {y : Value}, Lies h q y -> e y = f q) : ∀ {ps : List PV} {its : List Value}, bL h ps its -> its.any e = ps.any f
 | _, _, .nil => rfl
 | _, _, .cons h r => by rw [any_cons, any_cons, he h, bL.any he r]
theorem tN {s : Shared} {A : Around} (hu : A.units + 8 < cLine) (op : fW 8 p = true) (hp : Lies s.heap p u) {its : List Value} (ops : ps.all (fW 8) = true) (hl : bL s.heap ps its) :
  ∃ e : Value -> Bool, (∀ y, y ∈ its.toArray -> SeqAt.EqAt A s y u (e y)) /\ its.toArray.any e = ps.any fun z => bZ z p := by
 classical
 let e : Value -> Bool := fun y => if c : ∃ q, Lies s.heap q y then bZ c.choose p else false
 have he : ∀ {q : PV} {y : Value}, Lies s.heap q y -> e y = bZ q p := fun {q y} h => by
  have c : ∃ q, Lies s.heap q y := ⟨q, h⟩
  show (if c : ∃ q, Lies s.heap q y then bZ c.choose p else false) = _
  rw [dif_pos c, Lies.fn c.choose_spec h]
 refine ⟨e, fun y hy => ?_, ?_⟩
 ·obtain ⟨j, hj⟩ := getElem?_of_mem (show y ∈ its by simpa using hy)
  obtain ⟨q, h1, h2⟩ := hl.get hj
  rw [he h2]
  exact uZ 8 A hu (all_eq_true.mp ops _ (mem_of_getElem? h1)) op h2 hp
 ·rw [List.any_toArray]
  exact bL.any (fun h => he h) hl
theorem XA (K : Frag) (hr : dD k X.A) (hK : X.K = K := by rfl) : gL X (compareOp .In) (NS K false) := by
 subst hK
 intro pins s σ H x y v u Q I rx ry h
 obtain ⟨p, q, ps, h1, h2, hi, o1, o2, hQ⟩ := h
 have hu : X.A.in1.units + 8 < cLine := by have := hr.un; show X.A.units + 1 + 8 < _; omega
 have lp := h1.lies I o1 rx
 cases q with
 | lst qs =>
  cases hi
  cases h2.lies I (n := 9) (p := .lst _) o2 ry with
  | lst hl r =>
   obtain ⟨e, e1, e2⟩ := tN hu o1 lp o2 r
   exact SeqAt.in_listAt e hl e1 (by rw [e2]; exact hJ I hQ rfl)
 | tup qs =>
  cases hi
  cases h2.lies I (n := 9) (p := .tup _) o2 ry with
  | tup hl r =>
   obtain ⟨e, e1, e2⟩ := tN hu o1 lp o2 r
   exact SeqAt.in_tupleAt e hl e1 (by rw [e2]; exact hJ I hQ rfl)
 | _ => cases hi
theorem J7 (K : Frag) (hr : dD k X.A) (hK : X.K = K := by rfl) : gL X (compareOp .NotIn) (NS K true) := by
 subst hK
 intro pins s σ H x y v u Q I rx ry h
 obtain ⟨p, q, ps, h1, h2, hi, o1, o2, hQ⟩ := h
 have hu : X.A.in1.units + 8 < cLine := by have := hr.un; show X.A.units + 1 + 8 < _; omega
 have lp := h1.lies I o1 rx
 cases q with
 | lst qs =>
  cases hi
  cases h2.lies I (n := 9) (p := .lst _) o2 ry with
  | lst hl r =>
   obtain ⟨e, e1, e2⟩ := tN hu o1 lp o2 r
   exact SeqAt.notIn_listAt e hl e1 (by rw [e2]; exact hJ I hQ rfl)
 | tup qs =>
  cases hi
  cases h2.lies I (n := 9) (p := .tup _) o2 ry with
  | tup hl r =>
   obtain ⟨e, e1, e2⟩ := tN hu o1 lp o2 r
   exact SeqAt.notIn_tupleAt e hl e1 (by rw [e2]; exact hJ I hQ rfl)
 | _ => cases hi
end
section
variable {K : Frag}
theorem c8.or {g g' : PV -> PV -> Option Bv} (h : c8 K r g) (h' : c8 K r' g') : c8 K (fun x y H Q => r x y H Q \/ r' x y H Q) (fun p q => (g p q).or (g' p q)) := by
 intro Z H x y p q b Q hp hq hg k
 have hg : (g p q).or (g' p q) = some b := hg
 cases c : g p q with
 | some b' => rw [c] at hg; cases hg; exact .inl (h Z H x y p q _ Q hp hq c k)
 | none => rw [c] at hg; exact .inr (h' Z H x y p q b Q hp hq hg k)
theorem fZ.or {r r' : List V -> Hp -> VK -> Prop} {g g' : List PV -> Option Bv} (h : fZ K r g) (h' : fZ K r' g') : fZ K (fun x H Q => r x H Q \/ r' x H Q) (fun p => (g p).or (g' p)) := by
 intro Z H x p b Q hp hg k
 have hg : (g p).or (g' p) = some b := hg
 cases c : g p with
 | some b' => rw [c] at hg; cases hg; exact .inl (h Z H x p _ Q hp c k)
 | none => rw [c] at hg; exact .inr (h' Z H x p b Q hp hg k)
noncomputable def gI (C : Int -> Int -> Bool) (g : Int -> Int -> PV) : PV -> PV -> Option Bv
 | .int i, .int j => aU (C i j) (some (.val (g i j)))
 | _, _ => none
theorem GW {C : Int -> Int -> Prop} {D : Int -> Int -> Bool} (hD : ∀ i j, D i j = true -> C i j) (hg : ∀ i j Z H, Rep K Z H (g' i j) (g i j)) : c8 K (rI C g) (gI D g') := by
 intro Z H x y p q b Q hp hq h k
 cases p with
 | int i =>
  cases q with
  | int j =>
   obtain ⟨c, h⟩ := aJ h
   cases h
   exact ⟨i, j, hp.int, hq.int, hD i j c, k _ H (aT.refl _) (hg i j Z H)⟩
  | _ => cases h
 | _ => cases h
noncomputable def QW (g : Int -> Int -> PV) : PV -> PV -> Option Bv
 | .int i, .int j => some (.val (g i j))
 | _, _ => none
theorem xO (hg : ∀ i j Z H, Rep K Z H (g' i j) (g i j)) : c8 K (CW g) (QW g') := by
 intro Z H x y p q b Q hp hq h k
 cases p with
 | int i =>
  cases q with
  | int j => cases h; exact ⟨i, j, hp.int, hq.int, k _ H (aT.refl _) (hg i j Z H)⟩
  | _ => cases h
 | _ => cases h
noncomputable def qZ : PV -> PV -> Option Bv := QW fun i j => .int (i - j)
theorem FK : c8 K (CW fun i j => .int (i - j)) qZ := xO fun _ _ _ _ => .int _
noncomputable def tF (i j : Int) : Bool := decide ((-18446744073709551616 < i /\ i < 18446744073709551616) \/ (-18446744073709551616 < j /\ j < 18446744073709551616))
noncomputable def nD : PV -> PV -> Option Bv := gI tF fun i j => .int (i * j)
theorem G6 : c8 K (rI M0 fun i j => .int (i * j)) nD := GW (fun i j h => by have := of_decide_eq_true h; show (-(2 ^ 64) < i /\ i < 2 ^ 64) \/ (-(2 ^ 64) < j /\ j < 2 ^ 64); omega) fun _ _ _ _ => .int _
noncomputable def GY : PV -> PV -> Option Bv := gI (fun _ j => decide (0 < j /\ j < 1000000000000000000000000)) fun i j => .int (i / j)
theorem HR : c8 K (rI OD fun i j => .int (i / j)) GY := GW (fun i j h => by have := of_decide_eq_true h; show 0 < j /\ j < 2 ^ 200; omega) fun _ _ _ _ => .int _
noncomputable def kB : PV -> PV -> Option Bv := gI (fun _ j => decide (0 < j)) fun i j => .int (i % j)
theorem HX : c8 K (rI (fun _ j => 0 < j) fun i j => .int (i % j)) kB := GW (fun _ _ h => of_decide_eq_true h) fun _ _ _ _ => .int _
noncomputable def oO : PV -> PV -> Option Bv := gI (fun i j => decide (0 <= j /\ (Builtin.Int.intBits i : Int) * j <= 2 ^ 27)) fun i j => .int (i ^ j.toNat)
theorem E4 : c8 K (rI (fun i j => 0 <= j /\ (Builtin.Int.intBits i : Int) * j <= 2 ^ 27) fun i j => .int (i ^ j.toNat)) oO := GW (fun _ _ h => of_decide_eq_true h) fun _ _ _ _ => .int _
noncomputable def JN : PV -> Option Bv
 | .int i => some (.val (.int (-i)))
 | _ => none
theorem F4 : VD K (rU fun i => .int (-i)) JN := by
 intro Z H x p b Q hp h k
 cases p with
 | int i => cases h; exact ⟨i, hp.int, k _ H (aT.refl _) (Rep.int (-i))⟩
 | _ => cases h
noncomputable def FH : PV -> PV -> Option Bv
 | .str i, .str j => aU (decide (i.length + j.length < 1000000)) (some (.val (.str (i ++ j))))
 | _, _ => none
theorem NR : c8 K (fun x y H Q => ∃ i j, x = .str i /\ y = .str j /\ i.length + j.length <= sizeLine /\ Q (.str (i ++ j)) H) FH := by
 intro Z H x y p q b Q hp hq h k
 cases p with
 | str i =>
  cases q with
  | str j =>
   obtain ⟨c, h⟩ := aJ h
   cases h
   exact ⟨i, j, hp.str, hq.str, le_of_lt (fL c), k _ H (aT.refl _) (Rep.str (i ++ j))⟩
  | _ => cases h
 | _ => cases h
noncomputable def F1 (K : Frag) : R2 := fun x y H Q => ∃ a b xs ys, x = .ref a /\ y = .ref b /\ gK K H a xs /\ gK K H b ys /\ xs.length + ys.length <= sizeLine /\ ∀ p, H p = none -> Q (.ref p) (upd H p (.lst (xs ++ ys)))
theorem W5 (K : Frag) (hK : X.K = K := by rfl) : gL X (binaryOp .Add) (F1 K) := by
 subst hK
 intro pins s σ H x y v u Q I rx ry h
 obtain ⟨a, b, xs, ys, rfl, rfl, ha, hb, hz, q⟩ := h
 cases rx
 cases ry
 obtain ⟨its, r1, p1, _⟩ := I.list ha
 obtain ⟨its2, r2, p2, _⟩ := I.list hb
 obtain ⟨⟨cls, dd, data, sl⟩, ho, hc, n, hd⟩ := id p1.isList
 obtain ⟨⟨cls2, dd2, data2, sl2⟩, ho2, hc2, n2, hd2⟩ := id p2.isList
 simp only at hc hd hc2 hd2
 subst hc hd hc2 hd2
 have l1 := r1.length
 have l2 := r2.length
 have e : its.toArray ++ its2.toArray = (its ++ its2).toArray := by simp
 refine concat_meets ⟨_, ho, rfl⟩ ⟨_, ho2, rfl⟩ noFill_list_add seq_list_add PySem.F.slot_list_add PySem.F.entry_list_add (PySem.F.args_list_add_2 _ _) (list_addW a b its.toArray its2.toArray n n2 dd dd2 sl sl2 (by simp only [size_toArray]; omega)) ⟨ho, ho2, ?_⟩
 rw [e]
 exact ⟨.ref s.heap.objs.size, _, I.laid (t' := s.toks) (o := .lst (xs ++ ys)) (fun b ob q => get?_push_of_some _ q) (le_refl _) ⟨by rw [length_append]; exact hz, its ++ its2, 0, r1.append r2, get?_push_size _ rfl⟩, rfl, q _ (I.bN.fresh (le_refl _))⟩
noncomputable def GH : PV -> PV -> Option Bv
 | .lst i, .lst j => aU (decide (i.length + j.length < 1000000)) (some (.new (.lst (i ++ j))))
 | _, _ => none
theorem yQ (hl : H a = none) (r : aX K Z H ps xs) : RN K Z H (upd H a (.lst xs)) (.ref a) (.new (.lst ps)) :=
 ⟨a, rfl, hl, .lst aQ (r.aH (.new (aT.upd hl) hl))⟩
theorem MZ : c8 K (F1 K) GH := by
 intro Z H x y p q b Q hp hq h k
 cases p with
 | lst i =>
  cases q with
  | lst j =>
   obtain ⟨c, h⟩ := aJ h
   cases h
   obtain ⟨a, xs, rfl, ha, ra⟩ := hp.j9
   obtain ⟨a', ys, rfl, ha', ra'⟩ := hq.j9
   exact ⟨a, a', xs, ys, rfl, rfl, ha.sq, ha'.sq, by rw [<- ra.length, <- ra'.length]; exact le_of_lt (fL c), fun l hl => k _ _ (aT.upd hl) (yQ hl (ra.app ra'))⟩
  | _ => cases h
 | _ => cases h
noncomputable def EY (K : Frag) : R2 := fun x y H Q => ∃ a b xs ys, x = .ref a /\ y = .ref b /\ TupAt K H a xs /\ TupAt K H b ys /\ xs.length + ys.length <= sizeLine /\ ∀ p H', aT H H' -> TupAt K H' p (xs ++ ys) -> Q (.ref p) H'
theorem WM (K : Frag) (hK : X.K = K := by rfl) : gL X (binaryOp .Add) (EY K) := by
 subst hK
 intro pins s σ H x y v u Q I rx ry h
 obtain ⟨a, b, xs, ys, rfl, rfl, ha, hb, hz, q⟩ := h
 cases rx
 cases ry
 obtain ⟨its, r1, p1, _⟩ := I.tuple ha.sq
 obtain ⟨its2, r2, p2, _⟩ := I.tuple hb.sq
 refine HT.KQ p1 p2 (fun z => ⟨.ref b, H, I, rfl, q b H (aT.refl _) (by rw [r1.B9.mp z]; exact hb)⟩) (fun z => ⟨.ref a, H, I, rfl, q a H (aT.refl _) (by rw [r2.B9.mp z, append_nil]; exact ha)⟩) (fun _ _ => ?_) (by rw [<- r1.length, <- r2.length]; exact hz)
 refine ⟨.ref s.heap.objs.size, _, I.laid (t' := s.toks) (o := .tup (xs ++ ys)) (fun b ob q => get?_push_of_some _ q) (le_refl _) ?_, rfl, q _ _ (aT.upd (I.bN.fresh (le_refl _))) (.inl aQ)⟩
 exact ⟨by rw [length_append]; exact hz, _, r1.append r2, mY.new _ _⟩
noncomputable def F0 : PV -> PV -> Option Bv
 | .tup i, .tup j => aU (decide (i.length + j.length < 1000000)) (some (.val (.tup (i ++ j))))
 | _, _ => none
theorem KZ : c8 K (EY K) F0 := by
 intro Z H x y p q b Q hp hq h k
 cases p with
 | tup i =>
  cases q with
  | tup j =>
   obtain ⟨c, h⟩ := aJ h
   cases h
   obtain ⟨a, xs, rfl, ha, ra⟩ := hp.tup
   obtain ⟨a', ys, rfl, ha', ra'⟩ := hq.tup
   exact ⟨a, a', xs, ys, rfl, rfl, ha, ha', by rw [<- ra.length, <- ra'.length]; exact le_of_lt (fL c), fun l H' s t => k _ _ s (Rep.tup t ((ra.app ra').aH (.same s)))⟩
  | _ => cases h
 | _ => cases h
theorem gL.or {f : Value -> Value -> Sem Value} (h : gL X f r) (h' : gL X f r') : gL X f (fun x y H Q => r x y H Q \/ r' x y H Q) := by
 intro pins s σ H x y v u Q I rx ry q
 rcases q with q | q
 ·exact h pins s σ H x y v u Q I rx ry q
 ·exact h' pins s σ H x y v u Q I rx ry q
noncomputable def OU (K : Frag) : R2 := fun x y H Q => CW (fun i j => .int (i + j)) x y H Q \/ ((∃ i j, x = .str i /\ y = .str j /\ i.length + j.length <= sizeLine /\ Q (.str (i ++ j)) H) \/ (F1 K x y H Q \/ EY K x y H Q))
theorem kA (K : Frag) (hK : X.K = K := by rfl) : gL X (binaryOp .Add) (OU K) := gL.or R8 (gL.or zE (gL.or (W5 K hK) (WM K hK)))
noncomputable def gM : PV -> PV -> Option Bv := fun p q => (QW (fun i j => .int (i + j)) p q).or ((FH p q).or ((GH p q).or (F0 p q)))
theorem GR : c8 K (OU K) gM := c8.or (xO fun _ _ _ _ => .int _) (c8.or NR (c8.or MZ KZ))
noncomputable def DE : PV -> PV -> Option Bv := fun p q => aU (fW 9 p && fW 9 q) (some (.val (.bl (bZ p q))))
theorem Red.any {v : V} (h : Red K Z H p v) : Red K cK H p v := by
 have k : cL Z cK H H := .less fun a z => z.elim
 cases h with
 | rep h => exact .rep (h.aH k)
 | lst h r => exact .lst h (r.aH k)
 | bG h e r => exact .bG h e (r.aH k)
theorem OB : c8 K (K7 K false) DE := by
 intro Z H x y p q b Q hp hq h k
 obtain ⟨c, h⟩ := aJ h
 rw [and_eq_true] at c
 cases h
 exact ⟨p, q, hp.any, hq.any, c.1, c.2, k _ H (aT.refl _) (Rep.bl _)⟩
noncomputable def MS : PV -> PV -> Option Bv := fun p q => aU (fW 9 p && fW 9 q) (some (.val (.bl (!bZ p q))))
theorem OA : c8 K (K7 K true) MS := by
 intro Z H x y p q b Q hp hq h k
 obtain ⟨c, h⟩ := aJ h
 rw [and_eq_true] at c
 cases h
 exact ⟨p, q, hp.any, hq.any, c.1, c.2, k _ H (aT.refl _) (Rep.bl _)⟩
noncomputable def RU (neg : Bool) : PV -> PV -> Option Bv := fun p q => bO (zW q) fun ps => aU (fW 8 p && ps.all (fW 8)) (some (.val (.bl (if neg then !ps.any (fun z => bZ z p) else ps.any fun z => bZ z p))))
theorem QI (neg : Bool) : c8 K (NS K neg) (RU neg) := by
 intro Z H x y p q b Q hp hq h k
 obtain ⟨ps, g, h⟩ := aE h
 obtain ⟨c, h⟩ := aJ h
 rw [and_eq_true] at c
 cases h
 exact ⟨p, q, ps, hp.any, hq.any, g, c.1, c.2, k _ H (aT.refl _) (Rep.bl _)⟩
noncomputable def RC (neg : Bool) : PV -> PV -> Option Bv
 | .str i, .str j => some (.val (.bl (if neg then !(!(Builtin.Str.occurrences j i 0 j.length 1).isEmpty) else !(Builtin.Str.occurrences j i 0 j.length 1).isEmpty)))
 | _, _ => none
noncomputable def U1 (neg : Bool) : R2 := fun x y H Q => ∃ i j, x = .str i /\ y = .str j /\ Q (.bl (if neg then !(!(Builtin.Str.occurrences j i 0 j.length 1).isEmpty) else !(Builtin.Str.occurrences j i 0 j.length 1).isEmpty)) H
theorem O5 (neg : Bool) : c8 K (U1 neg) (RC neg) := by
 intro Z H x y p q b Q hp hq h k
 cases p with
 | str i =>
  cases q with
  | str j => cases h; exact ⟨i, j, hp.str, hq.str, k _ H (aT.refl _) (Rep.bl _)⟩
  | _ => cases h
 | _ => cases h
noncomputable def P2 (neg : Bool) : PV -> PV -> Option Bv
 | p, .bG kvs => bO (keyOf p) fun k => some (.val (.bl (if neg then !(cC kvs k).isSome else (cC kvs k).isSome)))
 | _, _ => none
noncomputable def K9 (neg : Bool) : R2 := fun x y H Q => ∃ a kvs k, y = .ref a /\ u3 H a kvs /\ x = kV k /\ Q (.bl (if neg then !(dN kvs k).isSome else (dN kvs k).isSome)) H
theorem inD (hr : dD k X.A) : gL X (compareOp .In) (K9 false) := by
 intro pins s σ H x y v u Q I rx ry h
 obtain ⟨a, kvs, key, rfl, ha, rfl, q⟩ := h
 cases ry
 exact XJ (by have := hr.un; omega) I (.inl ⟨kvs, key, ha, rfl, rfl⟩) rx fun s' I' => ⟨.bl _, H, I', rfl, q⟩
theorem SJ (hr : dD k X.A) : gL X (compareOp .NotIn) (K9 true) := by
 intro pins s σ H x y v u Q I rx ry h
 obtain ⟨a, kvs, key, rfl, ha, rfl, q⟩ := h
 cases ry
 exact MW (by have := hr.un; omega) I (.inl ⟨kvs, key, ha, rfl, rfl⟩) rx fun s' I' => ⟨.bl _, H, I', rfl, q⟩
theorem QP (neg : Bool) : c8 K (K9 neg) (P2 neg) := by
 intro Z H x y p q b Q hp hq h k
 cases q with
 | bG kvs =>
  obtain ⟨key, g, h⟩ := aE h
  cases h
  obtain ⟨a, ys, rfl, ha, e, r⟩ := hq.rK
  refine ⟨a, ys, key, rfl, ha, hp.key g, ?_⟩
  have es : (dN ys key).isSome = (cC kvs key).isSome := by
   rcases dF.val key ⟨e, r⟩ with ⟨h1, h2⟩ | ⟨p', v', h1, h2, _⟩
   ·rw [h1, h2]
    rfl
   ·rw [h1, h2]
    rfl
  rw [es]
  exact k _ H (aT.refl _) (Rep.bl _)
 | _ => cases h
noncomputable def P9 (K : Frag) (neg : Bool) : R2 := fun x y H Q => U1 neg x y H Q \/ (NS K neg x y H Q \/ K9 neg x y H Q)
theorem S8 (K : Frag) (hr : dD k X.A) (hK : X.K = K := by rfl) : gL X (compareOp .In) (P9 K false) := gL.or DL (gL.or (XA K hr hK) (inD hr))
theorem lE (K : Frag) (hr : dD k X.A) (hK : X.K = K := by rfl) : gL X (compareOp .NotIn) (P9 K true) := gL.or u5 (gL.or (J7 K hr hK) (SJ hr))
noncomputable def xV (neg : Bool) : PV -> PV -> Option Bv := fun p q => (RC neg p q).or ((RU neg p q).or (P2 neg p q))
theorem OV (neg : Bool) : c8 K (P9 K neg) (xV neg) := c8.or (O5 neg) (c8.or (QI neg) (QP neg))
noncomputable def IW (f : Str -> Str -> Bool) : PV -> PV -> Option Bv
 | .str i, .str j => some (.val (.bl (f i j)))
 | _, _ => none
theorem MX {f : Str -> Str -> Bool} : c8 K (fun x y H Q => ∃ i j, x = .str i /\ y = .str j /\ Q (.bl (f i j)) H) (IW f) := by
 intro Z H x y p q b Q hp hq h k
 cases p with
 | str i =>
  cases q with
  | str j => cases h; exact ⟨i, j, hp.str, hq.str, k _ H (aT.refl _) (Rep.bl _)⟩
  | _ => cases h
 | _ => cases h
noncomputable def TY : R2 := fun x y H Q => CW (fun i j => .bl (decide (i < j))) x y H Q \/ ∃ i j, x = .str i /\ y = .str j /\ Q (.bl (decide (i.cps.toList < j.cps.toList))) H
theorem X8 : gL X (compareOp .Lt) TY := gL.or UA DY
noncomputable def VY : PV -> PV -> Option Bv := fun p q => (QW (fun i j => .bl (decide (i < j))) p q).or (IW (fun i j => decide (i.cps.toList < j.cps.toList)) p q)
theorem N5 : c8 K TY VY := c8.or (xO fun _ _ _ _ => .bl _) MX
noncomputable def VR : PV -> PV -> Option Bv := QW fun i j => .bl (decide (j < i))
theorem O0 : c8 K (CW fun i j => .bl (decide (j < i))) VR := xO fun _ _ _ _ => .bl _
noncomputable def VX : PV -> PV -> Option Bv := QW fun i j => .bl (decide (j <= i))
theorem OS : c8 K (CW fun i j => .bl (decide (j <= i))) VX := xO fun _ _ _ _ => .bl _
noncomputable def isNone : PV -> Bool
 | .bF => true
 | _ => false
theorem Red.isNone {v : V} (h : Red K Z H p v) : decide (v = .bF) = Mr.isNone p := by
 cases h with
 | rep h => cases h <;> rfl
 | lst h r => rfl
 | bG h e r => rfl
noncomputable def XQ (neg : Bool) : PV -> PV -> Option Bv
 | p, .bF => some (.val (.bl (if neg then !isNone p else isNone p)))
 | _, _ => none
theorem OF : c8 K (fun x y H Q => y = .bF /\ Q (.bl (decide (x = .bF))) H) (XQ false) := by
 intro Z H x y p q b Q hp hq h k
 cases q with
 | bF => cases h; exact ⟨hq.bF, by rw [hp.isNone]; exact k _ H (aT.refl _) (Rep.bl _)⟩
 | _ => cases h
noncomputable def dE : PV -> PV -> Option Bv
 | .lst ps, .int i => bO (lK ps i) fun p => some (.val p)
 | .tup ps, .int i => bO (lK ps i) fun p => some (.val p)
 | .str z, .int i => aU (decide (z.length < 1000000)) (bO (lK z.cps.toList i) fun c => some (.val (.str ⟨#[c]⟩)))
 | .bG kvs, p => bO (keyOf p) fun k => bO (cC kvs k) fun q => some (.val q)
 | _, _ => none
theorem aX.lK {ps : List PV} {i : Int} (r : aX K Z H ps xs) (h : L2.lK ps i = some p) : ∃ v, L2.lK xs i = some v /\ Rep K Z H p v := by
 unfold L2.lK at h ⊢
 rw [<- r.length]
 cases c : qV ps.length i with
 | none => rw [c] at h; cases h
 | some j => rw [c] at h; exact r.get h
noncomputable def TX : R2 := fun x y H Q => ∃ a kvs k v, x = .ref a /\ u3 H a kvs /\ y = kV k /\ dN kvs k = some v /\ Q v H
theorem YD (hr : dD k X.A) : zN X TX := by
 intro value slice pins s σ H x y v u Q I rx ry h hs
 obtain ⟨a, kvs, key, w, rfl, ha, rfl, hv, q⟩ := h
 cases rx
 have g : AI H a (kV key) (some w) := .inl ⟨kvs, key, ha, rfl, hv.symm⟩
 have hT := w9 I g
 unfold subscriptTail
 refine wpAny_bind ?_
 rw [getitemInPython_of_ne hT.not_modules]
 refine wpAny_bind (wpAny_specialOf hT PySem.F.slot_dict_getitem.lookup ?_)
 have fin : wpAny (model X.prog X.w) X.A (subscripted slice false (.ref a) u) (fun r s₃ => wpAny (model X.prog X.w) X.A (letTemporaryGo value (.ref a) r >>= fun _ => pure r) (EP X pins σ Q) X.xe s₃) X.xe s := by
  rw [hs]
  exact wpAny_operating (wpAny_mono (CL (by have := hr.un; omega) I g ry fun w' s3 I3 rw' => (⟨w, H, I3, rw', q⟩ : EP X pins σ Q w' s3)) (fun r s₃ h₃ => wpAny_bind (wpAny_letTemporaryGo (wpAny_pure h₃))) fun _ _ x => x)
 first
  | exact wpAny_pure (wpAny_bind fin)
  | exact wpAny_bind (wpAny_pure (wpAny_bind fin))
  | exact wpAny_bind fin
noncomputable def U5 (K : Frag) : R2 := fun x y H Q => QU K x y H Q \/ (SX K x y H Q \/ (U7 x y H Q \/ TX x y H Q))
theorem fK (K : Frag) (hr : dD k X.A) (hK : X.K = K := by rfl) : zN X (U5 K) := zN.or (YC K hK) (zN.or (X7 K hK) (zN.or RP (YD hr)))
theorem OK : c8 K (U5 K) dE := by
 intro Z H x y p q b Q hp hq h k
 cases p with
 | lst ps =>
  cases q with
  | int i =>
   obtain ⟨p, g, h⟩ := aE h
   cases h
   obtain ⟨a, xs, rfl, ha, ra⟩ := hp.j9
   obtain ⟨v, hv, rv⟩ := ra.lK g
   exact .inl ⟨a, xs, i, v, rfl, hq.int, ha.sq, hv, k _ H (aT.refl _) rv⟩
  | _ => cases h
 | tup ps =>
  cases q with
  | int i =>
   obtain ⟨p, g, h⟩ := aE h
   cases h
   obtain ⟨a, xs, rfl, ha, ra⟩ := hp.tup
   obtain ⟨v, hv, rv⟩ := ra.lK g
   exact .inr (.inl ⟨a, xs, i, v, rfl, hq.int, ha.sq, hv, k _ H (aT.refl _) rv⟩)
  | _ => cases h
 | str z =>
  cases q with
  | int i =>
   obtain ⟨c, h⟩ := aJ h
   obtain ⟨p, g, h⟩ := aE h
   cases h
   exact .inr (.inr (.inl ⟨z, i, p, hp.str, hq.int, le_of_lt (fL c), g, k _ H (aT.refl _) (Rep.str _)⟩))
  | _ => cases h
 | bG kvs =>
  have h : (bO (keyOf q) fun k => bO (cC kvs k) fun q => some (Bv.val q)) = some b := by cases q <;> exact h
  obtain ⟨key, g, h⟩ := aE h
  obtain ⟨p, g2, h⟩ := aE h
  cases h
  obtain ⟨a, ys, rfl, ha, e, r⟩ := hp.rK
  rcases dF.val key ⟨e, r⟩ with ⟨h1, h2⟩ | ⟨p', v', h1, h2, h3⟩
  ·rw [h1] at g2; cases g2
  ·rw [h1] at g2
   cases g2
   exact .inr (.inr (.inr ⟨a, ys, key, v', rfl, ha, hq.key g, h2, k _ H (aT.refl _) h3⟩))
 | _ => cases q <;> cases h
noncomputable def rE (xs : List PV) (lo hi : Option Int) : List PV := (xs.drop (HT.dQ xs.length 0 lo)).take (HT.dQ xs.length xs.length hi - HT.dQ xs.length 0 lo)
theorem aX.cut (r : aX K Z H ps xs) (lo hi : Option Int) : aX K Z H (rE ps lo hi) (qO xs lo hi) := by
 unfold rE qO
 rw [<- r.length]
 exact (r.drop _).take _
noncomputable def TQ (K : Frag) : V -> Option Int -> Option Int -> Hp -> VK -> Prop := fun x lo hi H Q => ∃ a xs, x = .ref a /\ TupAt K H a xs /\ ∀ p H', aT H H' -> TupAt K H' p (qO xs lo hi) -> Q (.ref p) H'
theorem XM (K : Frag) (hK : X.K = K := by rfl) : CY X (TQ K) := by
 subst hK
 intro pins s σ H x v vl vu lo hi sl Q I rx hs pl pu h
 obtain ⟨a, xs, rfl, hx, q⟩ := h
 by_cases hw : HT.dQ xs.length 0 lo = 0 /\ HT.dQ xs.length xs.length hi = xs.length
 ·cases rx
  obtain ⟨its, r, ht, hz⟩ := I.tuple hx.sq
  have hlen : its.toArray.size = xs.length := by rw [size_toArray]; exact r.length.symm
  refine ⟨"tuple", _, PyProof.Rows.slot_tuple_getitem.lookup, ht.typeIs, ?_⟩
  refine HT.mE ht hs pl pu (by rw [hlen]; exact hw) ⟨.ref a, H, I, rfl, q a H (aT.refl _) ?_⟩
  have e : qO xs lo hi = xs := by unfold qO; rw [hw.1, hw.2, drop_zero, Nat.sub_zero, take_length]
  rw [e]; exact hx
 ·exact QD pins s σ H (.ref a) v vl vu lo hi sl Q I rx hs pl pu ⟨a, xs, rfl, hx.sq, hw, fun p hp => q p _ (aT.upd hp) (.inl aQ)⟩
noncomputable def G3 (K : Frag) : V -> Option Int -> Option Int -> Hp -> VK -> Prop := fun x lo hi H Q => O7 K x lo hi H Q \/ (TQ K x lo hi H Q \/ (∃ z, x = .str z /\ z.length <= sizeLine /\ Q (.str (Txt.slice z lo hi)) H))
theorem VW (K : Frag) (hK : X.K = K := by rfl) : CY X (G3 K) := CY.or (YF K hK) (CY.or (XM K hK) QK)
noncomputable def N7 : PV -> Option Int -> Option Int -> Option Bv
 | .lst ps, lo, hi => some (.new (.lst (rE ps lo hi)))
 | .tup ps, lo, hi => some (.val (.tup (rE ps lo hi)))
 | .str z, lo, hi => aU (decide (z.length < 1000000)) (some (.val (.str (Txt.slice z lo hi))))
 | _, _, _ => none
theorem OT : VI K (G3 K) N7 := by
 intro Z H x p lo hi b Q hp h k
 cases p with
 | lst ps =>
  cases h
  obtain ⟨a, xs, rfl, ha, ra⟩ := hp.j9
  exact .inl ⟨a, xs, rfl, ha.sq, fun l hl => k _ _ (aT.upd hl) (yQ hl (ra.cut lo hi))⟩
 | tup ps =>
  cases h
  obtain ⟨a, xs, rfl, ha, ra⟩ := hp.tup
  exact .inr (.inl ⟨a, xs, rfl, ha, fun l H' s t => k _ _ s (Rep.tup t ((ra.cut lo hi).aH (.same s)))⟩)
 | str z =>
  obtain ⟨c, h⟩ := aJ h
  cases h
  exact .inr (.inr ⟨z, hp.str, le_of_lt (fL c), k _ H (aT.refl _) (Rep.str _)⟩)
 | _ => cases h
theorem rH.one (h : rH K Z H [p] vs) : ∃ v, vs = [v] /\ Red K Z H p v := by
 cases h with | cons h r => cases r; exact ⟨_, rfl, h⟩
theorem rH.two (h : rH K Z H [p, q] vs) : ∃ v u, vs = [v, u] /\ Red K Z H p v /\ Red K Z H q u := by
 cases h with | cons h r => cases r with | cons h' r => cases r; exact ⟨_, _, rfl, h, h'⟩
noncomputable def qC : List PV -> Option Bv
 | [.lst ps] => some (.val (.int ps.length))
 | [.tup ps] => some (.val (.int ps.length))
 | [.str z] => aU (decide (z.length < 1000000)) (some (.val (.int z.length)))
 | _ => none
noncomputable def JU (K : Frag) : List V -> Hp -> VK -> Prop := fun xs H Q => (∃ p ys, xs = [.ref p] /\ (gK K H p ys \/ lL K H p ys) /\ Q (.int ys.length) H) \/ ∃ z, xs = [.str z] /\ z.length <= sizeLine /\ Q (.int z.length) H
theorem yG (K : Frag) (hK : X.K = K := by rfl) : b8 X (.builtin "len") (JU K) := by subst hK; exact b8.or vB u9
theorem yR : fZ K (JU K) qC := by
 intro Z H vs ps b Q hp h k
 unfold qC at h
 split at h
 ·cases h
  obtain ⟨v, rfl, hv⟩ := hp.one
  obtain ⟨a, xs, rfl, ha, ra⟩ := hv.j9
  exact .inl ⟨a, xs, rfl, .inl ha.sq, k _ H (aT.refl _) (by rw [ra.length]; exact Rep.int _)⟩
 ·cases h
  obtain ⟨v, rfl, hv⟩ := hp.one
  obtain ⟨a, xs, rfl, ha, ra⟩ := hv.tup
  exact .inl ⟨a, xs, rfl, .inr ha.sq, k _ H (aT.refl _) (by rw [ra.length]; exact Rep.int _)⟩
 ·obtain ⟨c, h⟩ := aJ h
  cases h
  obtain ⟨v, rfl, hv⟩ := hp.one
  exact .inr ⟨_, by rw [hv.str], le_of_lt (fL c), k _ H (aT.refl _) (Rep.int _)⟩
 ·cases h
noncomputable def qS : List PV -> Option Bv
 | [.lst ps] => some (.val (.tup ps))
 | [.tup ps] => some (.val (.tup ps))
 | _ => none
noncomputable def NZ (K : Frag) : List V -> Hp -> VK -> Prop := fun xs H Q => ∃ p ys, xs = [.ref p] /\ ((gK K H p ys /\ ∀ l, H l = none -> Q (.ref l) (upd H l (.tup ys))) \/ (lL K H p ys /\ Q (.ref p) H))
theorem L8 (K : Frag) (hK : X.K = K := by rfl) : b8 X (.type "tuple") (NZ K) := by subst hK; exact rQ
theorem AL : fZ K (NZ K) qS := by
 intro Z H vs ps b Q hp h k
 unfold qS at h
 split at h
 ·cases h
  obtain ⟨v, rfl, hv⟩ := hp.one
  obtain ⟨a, xs, rfl, ha, ra⟩ := hv.j9
  exact ⟨a, xs, rfl, .inl ⟨ha.sq, fun l hl => k _ _ (aT.upd hl) (Rep.tup (.inl aQ) (ra.aH (.same (aT.upd hl))))⟩⟩
 ·cases h
  obtain ⟨v, rfl, hv⟩ := hp.one
  obtain ⟨a, xs, rfl, ha, ra⟩ := hv.tup
  exact ⟨a, xs, rfl, .inr ⟨ha.sq, k _ H (aT.refl _) (Rep.tup ha ra)⟩⟩
 ·cases h
noncomputable def A2 : List PV -> Option Bv
 | [.int i, .int j] => some (.val (.int (if j < i then j else i)))
 | _ => none
theorem AK : fZ K (fun xs H Q => ∃ i j, xs = [.int i, .int j] /\ Q (.int (if j < i then j else i)) H) A2 := by
 intro Z H vs ps b Q hp h k
 unfold A2 at h
 split at h
 ·cases h
  obtain ⟨v, u, rfl, hv, hu⟩ := hp.two
  exact ⟨_, _, by rw [hv.int, hu.int], k _ H (aT.refl _) (Rep.int _)⟩
 ·cases h
noncomputable def wX : List PV -> Option Bv
 | [.int i] => some (.val (.int i))
 | [.bl k] => some (.val (.int (if k then 1 else 0)))
 | _ => none
theorem A8 : fZ K (fun xs H Q => (∃ i, xs = [.int i] /\ Q (.int i) H) \/ ∃ k, xs = [.bl k] /\ Q (.int (if k then 1 else 0)) H) wX := by
 intro Z H vs ps b Q hp h k
 unfold wX at h
 split at h
 ·cases h
  obtain ⟨v, rfl, hv⟩ := hp.one
  exact .inl ⟨_, by rw [hv.int], k _ H (aT.refl _) (Rep.int _)⟩
 ·cases h
  obtain ⟨v, rfl, hv⟩ := hp.one
  exact .inr ⟨_, by rw [hv.bl], k _ H (aT.refl _) (Rep.int _)⟩
 ·cases h
noncomputable def x8 : List PV -> Option Bv
 | [.int i] => aU (decide (i.natAbs.log2 < 1920)) (some (.val (.str (toString i))))
 | _ => none
theorem AZ : fZ K (fun xs H Q => ∃ i, xs = [.int i] /\ i.natAbs.log2 < 1920 /\ Q (.str (toString i)) H) x8 := by
 intro Z H vs ps b Q hp h k
 unfold x8 at h
 split at h
 ·obtain ⟨c, h⟩ := aJ h
  cases h
  obtain ⟨v, rfl, hv⟩ := hp.one
  exact ⟨_, by rw [hv.int], of_decide_eq_true c, k _ H (aT.refl _) (Rep.str _)⟩
 ·cases h
noncomputable def mJ : List PV -> Option (List Str)
 | [] => some []
 | .str x :: ps => bO (mJ ps) fun xs => some (x :: xs)
 | _ => none
theorem jT : ∀ {ps : List PV} {xs : List Str}, mJ ps = some xs -> ps = xs.map PV.str
 | [], xs, h => by cases h; rfl
 | p :: ps, xs, h => by
  cases p with
  | str x =>
   obtain ⟨ys, g, h⟩ := aE h
   cases h
   rw [jT g]; rfl
  | _ => cases h
theorem mZ (xs : List Str) : mJ (xs.map PV.str) = some xs := by
 induction xs with
 | nil => rfl
 | cons x xs ih => rw [map_cons, mJ, ih]; rfl
theorem aX.strs : ∀ {xs : List Str} {vs : List V}, aX K Z H (xs.map PV.str) vs -> vs = xs.map V.str
 | [], vs, h => by cases h; rfl
 | x :: xs, vs, h => by cases h with | cons h r => cases h; rw [aX.strs r]; rfl
noncomputable def wD : PV -> List PV -> Option Bv
 | .str z, [.lst ps] => bO (mJ ps) fun xs => aU (decide ((xs.map (·.length)).sum + xs.length * z.length < 1000000)) (some (.val (.str (Txt.join z xs))))
 | _, _ => none
theorem A5 : Q9 K (rJoin K) wD := by
 intro Z H x vs p ps b Q hp hps h k
 unfold wD at h
 split at h
 ·obtain ⟨xs, g, h⟩ := aE h
  obtain ⟨c, h⟩ := aJ h
  cases h
  obtain ⟨v, rfl, hv⟩ := hps.one
  obtain ⟨a, ys, rfl, ha, ra⟩ := hv.j9
  rw [jT g] at ra
  rw [ra.strs] at ha
  refine ⟨_, a, xs, hp.str, rfl, ha.sq, ?_, k _ H (aT.refl _) (Rep.str _)⟩
  have := of_decide_eq_true c
  omega
 ·cases h
noncomputable def fM : PV -> Option (List PV)
 | .lst ps => some ps
 | .tup ps => some ps
 | .str z => some (z.cps.toList.map fun c => .str ⟨#[c]⟩)
 | _ => none
noncomputable def yF (f : FE) : FI := fun st e => bE (f e) fun b e1 => match b with
 | .slot i => match e1[i]? with
  | some (some (.bor p)) => bO (fM p) fun ps => some (ps, e1)
  | some (some (.own p)) => aU (st i) (bO (fM p) fun ps => some (ps, e1))
  | some (some (.loc p)) => aU (st i) (bO (fM p) fun ps => some (ps, e1))
  | _ => none
 | .val p => bO (fM p) fun ps => some (ps, e1)
 | .new p => bO (fM p) fun ps => some (ps, e1)
noncomputable def PU (K : Frag) (tl : TE) : TI := fun σ H R => tl σ H fun x H1 => (∃ a, x = .ref a /\ (∃ xs, gK K H1 a xs) /\ R (VZ K a) H1) \/ ((∃ a, x = .ref a /\ (∃ xs, lL K H1 a xs) /\ R (V0 K a) H1) \/ ∃ z, x = .str z /\ R (TH z) H1)
theorem eW (K : Frag) {tg l : Expr} {tl : TE} (hl : PE X l tl) (hK : X.K = K := by rfl) : PI X tg l (PU K tl) := by
 subst hK
 intro pins s σ H R I h
 refine cJ (hl pins s σ H _ I h) fun v s1 ⟨x, H1, I1, r1, q1⟩ => ?_
 rcases q1 with ⟨a, e, ⟨xs, hq⟩, q⟩ | ⟨a, e, ⟨xs, hq⟩, q⟩ | ⟨z, e, q⟩
 ·subst e
  cases r1
  obtain ⟨its, rv, p, hz⟩ := I1.list hq
  refine wpAny_pyIter_list p.isList ?_
  refine ⟨s1.heap.objs.size, [s1.heap.objs.size], _, _, H1, rfl, I1.kept (t' := s1.toks) fun b o e => get?_push_of_some _ e, DZ a _, ⟨_, get?_push_size _ rfl, rfl, rfl⟩, fun b hb => ?_, q⟩
  have e : b = s1.heap.objs.size := by simpa using hb
  subst e
  exact I1.rF (le_refl _) (I1.bN.fresh (le_refl _))
 ·subst e
  cases r1
  obtain ⟨its, rv, p, hz⟩ := I1.tuple hq
  refine wpAny_pyIter_tuple (show s1.heap.IsTuple a its.toArray from p) ?_
  refine ⟨s1.heap.objs.size, [s1.heap.objs.size], _, _, H1, rfl, I1.kept (t' := s1.toks) fun b o e => get?_push_of_some _ e, zG a _, ⟨_, get?_push_size _ rfl, rfl, rfl⟩, fun b hb => ?_, q⟩
  have e : b = s1.heap.objs.size := by simpa using hb
  subst e
  exact I1.rF (le_refl _) (I1.bN.fresh (le_refl _))
 ·subst e
  obtain ⟨t, rfl⟩ := r1
  cases ha : z.cps.all (· < 128) with
  | true =>
   refine wpAny_pyIter_ascii ha ?_
   refine ⟨s1.heap.objs.size, [s1.heap.objs.size], _, _, H1, rfl, I1.kept (t' := s1.toks) fun b o e => get?_push_of_some _ e, DM z t _, ⟨_, get?_push_size _ rfl, rfl, rfl⟩, fun b hb => ?_, q⟩
   have e : b = s1.heap.objs.size := by simpa using hb
   subst e
   exact I1.rF (le_refl _) (I1.bN.fresh (le_refl _))
  | false =>
   refine wpAny_pyIter_wide ha ?_
   refine ⟨s1.heap.objs.size, [s1.heap.objs.size], _, _, H1, rfl, I1.kept (t' := s1.toks) fun b o e => get?_push_of_some _ e, D2 z t _, ⟨_, get?_push_size _ rfl, rfl, rfl⟩, fun b hb => ?_, q⟩
   have e : b = s1.heap.objs.size := by simpa using hb
   subst e
   exact I1.rF (le_refl _) (I1.bN.fresh (le_refl _))
theorem uQ {L' : aI} {H' : Hp} (o : iY O M W L H) (hw : ∀ a, Wr a -> aw W a \/ L a) (k1 : ∀ a ob, H a = some ob -> ¬ Wr a -> H' a = some ob) (k2 : ∀ a xs, H a = some (.tup xs) -> H' a = some (.tup xs)) (k3 : ∀ a, L' a -> L a \/ H a = none) : cL (aR M L) (aR M L') H H' :=
 ⟨k2, fun a ob h n => ⟨k1 a ob h fun z => n ((hw a z).elim (fun ⟨i, w⟩ => .inl (o.wm i a w)) .inr), fun z => z.elim (fun z => n (.inl z)) fun z => (k3 a z).elim (fun z => n (.inr z)) fun z => by rw [h] at z; cases z⟩⟩
theorem l5 (o : iY O M W L H) (hw : ∀ a, Wr a -> aw W a \/ L a) (ha : (Rd H a (.lst xs) /\ ¬ Wr a) \/ RJ K a xs) (r : aX K (aR M L) H ps xs) : JH K M L Wr H (VZ K a) ps := by
 intro L' H' k1 k2 k3
 have st := uQ o hw k1 k2 k3
 have sq : gK K H' a xs := by
  rcases ha with ⟨h | ⟨u, h⟩, n⟩ | h
  ·exact .inl (.inl (k1 _ _ h n))
  ·exact .inl (.inr ⟨u, k1 _ _ h n⟩)
  ·exact .inr h
 refine ⟨fun k p hp => ?_, xs, sq, by rw [r.length]; exact le_refl _⟩
 obtain ⟨v, hv, rv⟩ := r.get hp
 refine ⟨⟨xs, v, sq, hv⟩, fun x H3 y => ?_⟩
 obtain ⟨e, y⟩ := y
 subst e
 have := y xs sq
 rw [hv] at this
 cases this
 exact ⟨aT.refl _, rv.aH st⟩
theorem QT (o : iY O M W L H) (hw : ∀ a, Wr a -> aw W a \/ L a) (ha : TupAt K H a xs) (r : aX K (aR M L) H ps xs) : JH K M L Wr H (V0 K a) ps := by
 intro L' H' k1 k2 k3
 have st := uQ o hw k1 k2 k3
 have sq : lL K H' a xs := TupAt.sq (ha.elim (fun h => .inl (k2 _ _ h)) .inr)
 refine ⟨fun k p hp => ?_, xs, sq, by rw [r.length]; exact le_refl _⟩
 obtain ⟨v, hv, rv⟩ := r.get hp
 refine ⟨⟨xs, v, sq, hv⟩, fun x H3 y => ?_⟩
 obtain ⟨e, y⟩ := y
 subst e
 have := y xs sq
 rw [hv] at this
 cases this
 exact ⟨aT.refl _, rv.aH st⟩
theorem QC {z : Str} : JH K M L Wr H (TH z) (z.cps.toList.map fun c => .str ⟨#[c]⟩) := by
 intro L' H' k1 k2 k3
 refine ⟨fun k p hp => ?_, by simp [TH]⟩
 rw [getElem?_map] at hp
 cases c : z.cps.toList[k]? with
 | none => rw [c] at hp; cases hp
 | some d =>
  rw [c] at hp
  cases hp
  have hk : k < z.cps.size := by simpa using (List.getElem?_eq_some_iff.mp c).1
  refine ⟨hk, fun x H3 y => ?_⟩
  obtain ⟨e, d', h1, h2⟩ := y
  subst e h2
  rw [<- getElem?_toList, c] at h1
  cases h1
  exact ⟨aT.refl _, .str _⟩
theorem SV (h : Ref K t f) : vF K (PU K t) (yF f) := by
 intro st O M W L σ H e e' ps R o he hf q
 obtain ⟨x, e1, f1, hf⟩ := aL hf
 refine h O M W L σ H e e1 x _ o he f1 fun v H1 k1 rb fr => ?_
 have o1 := o.keep k1.bU
 have en := rb.en o1
 have vals : ∀ p, Rep K (aR M L) H1 p v -> fM p = some ps -> e1 = e' -> (∃ a, v = .ref a /\ (∃ xs, gK K H1 a xs) /\ R (VZ K a) H1) \/ ((∃ a, v = .ref a /\ (∃ xs, lL K H1 a xs) /\ R (V0 K a) H1) \/ ∃ z, v = .str z /\ R (TH z) H1) := fun p hp hi ee => by
  subst ee
  cases hp with
  | lst ha n r =>
   cases hi
   exact .inl ⟨_, rfl, ⟨_, .inl ha⟩, q _ H1 k1 en fun Wr hw _ => l5 o1 hw (.inl ⟨ha, fun z => n ((hw _ z).elim (fun ⟨i, w⟩ => .inl (o.wm i _ w)) .inr)⟩) r⟩
  | tup ha r =>
   cases hi
   exact .inr (.inl ⟨_, rfl, ⟨_, ha.sq⟩, q _ H1 k1 en fun Wr hw _ => QT o1 hw ha r⟩)
  | str z =>
   cases hi
   exact .inr (.inr ⟨z, rfl, q _ H1 k1 en fun Wr hw _ => QC⟩)
  | _ => cases hi
 cases x with
 | val p =>
  obtain ⟨ps', g, hf⟩ := aE hf
  cases hf
  exact vals p rb.2 g rfl
 | new p =>
  obtain ⟨ps', g, hf⟩ := aE hf
  cases hf
  exact vals p (rb.weak o1).2 g rfl
 | slot i =>
  dsimp only at hf
  cases c : e1[i]? with
  | none => rw [c] at hf; cases hf
  | some s =>
   cases s with
   | none => rw [c] at hf; cases hf
   | some s =>
    rw [c] at hf
    obtain ⟨u, hu, sr⟩ := rb.1.at' i s c
    have := rb.2
    rw [hu] at this
    cases this
    cases s with
    | val p => cases hf
    | bor p =>
     obtain ⟨ps', g, hf⟩ := aE hf
     cases hf
     obtain ⟨a, rfl, lt⟩ := sr
     cases lt with
     | lst ha od n m r => cases g; exact .inl ⟨a, rfl, ⟨_, .inl ha⟩, q _ H1 k1 en fun Wr hw _ => l5 o1 hw (.inl ⟨ha, fun z => (hw _ z).elim n m⟩) r⟩
     | cY ha r => cases g; exact .inl ⟨a, rfl, ⟨_, .inr ha⟩, q _ H1 k1 en fun Wr hw _ => l5 o1 hw (.inr ha) r⟩
     | bG ha od n m kk r => cases g
    | own p =>
     obtain ⟨hst, hf⟩ := aJ hf
     obtain ⟨ps', g, hf⟩ := aE hf
     cases hf
     obtain ⟨a, rfl, w, ct⟩ := sr
     cases ct with
     | lst ha r => cases g; exact .inl ⟨a, rfl, ⟨_, gK.of ha⟩, q _ H1 k1 en fun Wr hw hs => l5 o1 hw (.inl ⟨.inl ha, hs i a _ hst c rfl hu⟩) r⟩
     | bG ha kk r => cases g
    | loc p =>
     obtain ⟨hst, hf⟩ := aJ hf
     obtain ⟨ps', g, hf⟩ := aE hf
     cases hf
     obtain ⟨a, rfl, w, ct⟩ := sr
     cases ct with
     | lst ha r => cases g; exact .inl ⟨a, rfl, ⟨_, gK.of ha⟩, q _ H1 k1 en fun Wr hw hs => l5 o1 hw (.inl ⟨.inl ha, hs i a _ hst c rfl hu⟩) r⟩
     | bG ha kk r => cases g
theorem GJ {lo : Int} : JH K M L Wr H (S6 lo n) ((List.range n).map fun k : Nat => .int (lo + (k : Int))) := by
 intro L' H' k1 k2 k3
 refine ⟨fun k p hp => ?_, by simp [S6]⟩
 rw [getElem?_map] at hp
 by_cases hk : k < n
 ·rw [List.getElem?_range hk] at hp
  cases hp
  refine ⟨hk, fun x H3 y => ?_⟩
  obtain ⟨e, y⟩ := y
  subst e y
  exact ⟨aT.refl _, .int _⟩
 ·rw [getElem?_eq_none (by simpa using hk)] at hp
  cases hp
end
section
variable {K : Frag}
theorem MY {f : FN} {Q : VK} {E : XK} (hf : ∀ ns : List Int, ns.length <= 63 -> f [.lst (ns.map PV.int)] = some (.bl true, [])) (h : xY K vs H Q E) : OC K [.b] false f vs H Q E := by
 obtain ⟨a, ns, rfl, hS, hl, q⟩ := h
 have rl : ∀ (Z : aI) (ms : List Int), aX K Z H (ms.map PV.int) (ms.map V.int) := fun Z ms => by
  induction ms with
  | nil => exact .nil
  | cons m ms ih => exact .cons (.int m) ih
 refine ⟨cK, [.lst (ns.map PV.int)], .bl true, [], fun a z => z.elim, rfl, rfl, fun i k p v h1 h2 h3 => ?_, fun i j hij h1 h2 => ?_, fun i a ⟨h1, _⟩ => ?_, hf ns hl, fun v H' k r => ?_⟩
 ·cases i with
  | zero =>
   cases h1
   cases h2
   cases h3
   have nw : ¬ aw (k6 [.b] [.ref a] H) a := fun ⟨i, h, _⟩ => by
    cases i with
    | zero => cases h
    | succ i => simp at h
   rcases hS with h | h
   ·refine ⟨a, rfl, .lst h ?_ nw (fun z => z) (rl _ ns)⟩
    rcases h with h | ⟨u, h⟩
    ·show H a ≠ none
     rw [h]; exact fun z => nomatch z
    ·show H a ≠ none
     rw [h]; exact fun z => nomatch z
   ·exact ⟨a, rfl, .cY h (rl _ ns)⟩
  | succ i => simp at h1
 ·cases i with
  | zero => cases h1
  | succ i => simp at h1
 ·cases i with
  | zero => cases h1
  | succ i => simp at h1
 ·obtain ⟨r, _⟩ := r
  cases r
  exact q H'
noncomputable def kdOf : PV -> Option L2.Kd
 | .bF => some .bF
 | .bl _ => some .bl
 | .int _ => some .int
 | .str _ => some .str
 | .lst _ => some .lst
 | .tup _ => some .tup
 | .bG _ => some .bG
 | .ty _ => none
noncomputable def EZ (k : L2.Kd) : String -> Option Bool
 | "str" => some (decide (k = .str))
 | "tuple" => some (decide (k = .tup))
 | "int" => some (decide (k = .int) || decide (k = .bl))
 | "bool" => some (decide (k = .bl))
 | _ => none
theorem FD {k : L2.Kd} {T : String} {b : Bool} (h : EZ k T = some b) : kitOne K (.type k.nm) (.type T) = some b := by
 unfold EZ at h
 split at h
 ·cases h; exact QG k
 ·cases h; exact PL k
 ·cases h; exact PD k
 ·cases h; exact LV k
 ·cases h
noncomputable def OH (K : Frag) : List V -> Hp -> VK -> Prop := fun xs H Q => ∃ p x T k b, xs = [x, .ty T] /\ Red K cK H p x /\ kdOf p = some k /\ EZ k T = some b /\ Q (.bl b) H
theorem UX (K : Frag) (hK : X.K = K := by rfl) : b8 X (.builtin "isinstance") (OH K) := by
 subst hK
 intro pins s σ H xs us Q I r h
 obtain ⟨p, x, T, k, b, rfl, hp, hk, hT, q⟩ := h
 obtain ⟨u, u', rfl, rx, ry⟩ := vals2 r
 cases ry
 have e := FD (K := X.K) hT
 have fin : ∀ tk, EP X pins σ Q (.bool b) { s with toks := tk } := fun tk => ⟨.bl b, H, I.tok tk, rfl, q⟩
 cases p with
 | bF => cases hk; have := hp.bF; subst this; cases (show u = Value.none from rx); exact kia_one PySem.W.kitx_none I.A7 True.intro e (fun z => nomatch z) fin
 | bl y => cases hk; have := hp.bl; subst this; cases (show u = Value.bool y from rx); exact kia_one PySem.W.kitx_bool I.A7 True.intro e (fun z => nomatch z) fin
 | int i => cases hk; have := hp.int; subst this; obtain ⟨t, q⟩ := (show ∃ t, u = Value.int i t from rx); cases q; exact kia_one PySem.W.kitx_int I.A7 True.intro e (fun z => nomatch z) fin
 | str y => cases hk; have := hp.str; subst this; obtain ⟨t, q⟩ := (show ∃ t, u = Value.str y t from rx); cases q; exact kia_one PySem.W.kitx_str I.A7 True.intro e (fun z => nomatch z) fin
 | ty y => cases hk
 | tup ps =>
  cases hk
  obtain ⟨a, xs, rfl, ha, _⟩ := hp.tup
  cases (show u = Value.ref a from rx)
  obtain ⟨its, _, ⟨o, h1, h2, _⟩, _⟩ := I.tuple ha.sq
  exact kia_one PySem.W.kitx_tuple I.A7 ⟨o, h1, h2⟩ e (fun z => nomatch z) fin
 | lst ps =>
  cases hk
  obtain ⟨a, xs, rfl, ha, _⟩ := hp.j9
  cases (show u = Value.ref a from rx)
  obtain ⟨its, _, pl, _⟩ := I.list ha.sq
  obtain ⟨o, h1, h2, _⟩ := pl.isList
  exact kia_one PySem.W.kitx_list I.A7 ⟨o, h1, h2⟩ e (fun z => nomatch z) fin
 | bG kvs =>
  cases hk
  obtain ⟨a, ys, rfl, ha, _, _⟩ := hp.rK
  cases (show u = Value.ref a from rx)
  obtain ⟨_, _, vs, _, pd⟩ := gH I.bN ha
  obtain ⟨o, es, ep, h1, h2, _⟩ := pd
  exact kia_one PySem.W.kitx_dict I.A7 ⟨o, h1, h2.1⟩ e (fun z => nomatch z) fin
noncomputable def yD : List PV -> Option Bv
 | [p, .ty n] => bO (kdOf p) fun k => bO (EZ k n) fun b => some (.val (.bl b))
 | _ => none
theorem E6 : fZ K (OH K) yD := by
 intro Z H vs ps b Q hp h k
 unfold yD at h
 split at h
 ·rename_i p n
  obtain ⟨c, g, h⟩ := aE h
  obtain ⟨d, g2, h⟩ := aE h
  cases h
  obtain ⟨v, u, rfl, hv, hu⟩ := hp.two
  have eu := hu.ty
  subst eu
  exact ⟨p, v, n, c, d, rfl, hv.any, g, g2, k _ H (aT.refl _) (Rep.bl _)⟩
 ·cases h
noncomputable def HI : List PV -> Option (List Bool)
 | [] => some []
 | .bl x :: ps => bO (HI ps) fun xs => some (x :: xs)
 | _ => none
theorem HV (xs : List Bool) : HI (xs.map PV.bl) = some xs := by
 induction xs with
 | nil => rfl
 | cons x xs ih => rw [map_cons, HI, ih]; rfl
theorem aX.X0 : ∀ {ps : List PV} {xs : List Bool} {vs : List V}, HI ps = some xs -> aX K Z H ps vs -> vs = JK xs
 | [], xs, vs, g, h => by cases g; cases h; rfl
 | p :: ps, xs, vs, g, h => by
  cases p with
  | bl x =>
   obtain ⟨ys, g1, g⟩ := aE g
   cases g
   cases h with | cons h r => cases h; rw [aX.X0 g1 r]; rfl
  | _ => cases g
noncomputable def KG : List PV -> Option Bv
 | [.lst ps] => bO (HI ps) fun bs => some (.val (.bl (bs.any id)))
 | _ => none
theorem F2 : fZ K (TJ K) KG := by
 intro Z H vs ps b Q hp h k
 unfold KG at h
 split at h
 ·obtain ⟨bs, g, h⟩ := aE h
  cases h
  obtain ⟨v, rfl, hv⟩ := hp.one
  obtain ⟨a, xs, rfl, ha, ra⟩ := hv.j9
  have e := ra.X0 g
  subst e
  exact ⟨a, bs, rfl, ha.sq, k _ H (aT.refl _) (Rep.bl _)⟩
 ·cases h
noncomputable def QE : PV -> Option Bool
 | .bF => some false
 | .bl b => some b
 | .int i => some (i != 0)
 | .str y => aU (decide (y.length < 1000000)) (some ((y.length : Int) != 0))
 | .lst ps => some (!ps.isEmpty)
 | .tup ps => some (!ps.isEmpty)
 | _ => none
noncomputable def PN (f : FE) : FT := fun e => bE (f e) fun b e1 => bO (b.weak.get e1) fun p => bO (QE p) fun c => some (c, e1)
theorem aX.empty (r : aX K Z H ps xs) : ps.isEmpty = xs.isEmpty := by cases r <;> rfl
theorem MM (h : Ref K t f) : iV K (fun σ H Q => t σ H fun x H' => ∃ k, MJ K x H' k /\ Q k H') (PN f) := by
 intro O M W L σ H e e' b Q o he hf q
 obtain ⟨x, e1, f1, hf⟩ := aL hf
 obtain ⟨p, g1, hf⟩ := aE hf
 obtain ⟨c, g2, hf⟩ := aE hf
 cases hf
 refine h O M W L σ H e _ _ _ o he f1 fun v1 H1 k1 r1 fr => ?_
 have o1 := o.keep k1.bU
 have en := r1.en o1
 have rd := (r1.rv o1).red en g1
 refine ⟨b, ?_, q H1 k1 en⟩
 cases p with
 | bF => cases g2; rw [rd.bF]; rfl
 | bl y => cases g2; rw [rd.bl]; rfl
 | int y => cases g2; rw [rd.int]; rfl
 | str y => obtain ⟨c, g2⟩ := aJ g2; cases g2; rw [rd.str]; exact ⟨le_of_lt (fL c), rfl⟩
 | lst ps => cases g2; obtain ⟨a, xs, rfl, ha, ra⟩ := rd.j9; exact .inl ⟨xs, ha.sq, by rw [ra.empty]⟩
 | tup ps => cases g2; obtain ⟨a, xs, rfl, ha, ra⟩ := rd.tup; exact .inr (.inl ⟨xs, ha.sq, by rw [ra.empty]⟩)
 | ty y => cases g2
 | bG y => cases g2
end
theorem DW (K : Frag) {a : Expr} {ta : TE} (ha : PE X a ta) (he : ∀ whole, isTrue a X.env whole = (do let v <- whole; standAt a.pos; holding [v] (truthy v))) (hK : X.K = K := by rfl) :
  PT X a (fun σ H Q => ta σ H fun x H' => ∃ k, MJ K x H' k /\ Q k H') := by subst hK; exact IE ha he
theorem D9 {K : Frag} {wi : TI} {g : TG} {tt : TT} {te : TE} {fi : FI} {bV : List Nat} (ms : List (Nat × Nat)) {fg : FG} {ft : FT} {fe : FE} (hms : (ms.all fun z => ms.all fun z' => (z.1 == z'.1) == (z.2 == z'.2)) = true) (hi : vF K wi fi) (hg : tM K g fg) (ht : iV K tt ft) (he : Ref K te fe) : Ref K (sG wi k bV g tt te) (fE fi k bV ms fg ft fe) := by
 have key : ∀ z ∈ ms, ∀ z' ∈ ms, (z.1 == z'.1) = (z.2 == z'.2) := fun z hz z' hz' => by
  have := all_eq_true.mp (all_eq_true.mp hms z hz) z' hz'
  simpa using this
 refine HN ms (fun i j1 j2 h1 h2 => ?_) (fun i1 i2 j h1 h2 => ?_) hi hg ht he
 ·have := key _ h1 _ h2
  simpa using this
 ·have := key _ h1 _ h2
  simpa using this
theorem QY (i : Nat) (e : En) : aC i e = (match e[i]? with
 | some (some (.val p)) => some (.val p, e)
 | some (some _) => some (.slot i, e)
 | _ => none) := rfl
theorem XC (p : PV) (e : En) : fC p e = some (.val p, e) := rfl
theorem UZ (g : PV -> PV -> Option Bv) (fa fb : FE) (e : En) : aZ g fa fb e = bE (fa e) fun x e1 => bE (fb e1) fun y e2 => bO (x.weak.get e2) fun p => bO (y.weak.get e2) fun q => bO (g p q) fun b => some (b, e2) := rfl
theorem T7 (g : PV -> Option Bv) (fa : FE) (e : En) : T6 g fa e = bE (fa e) fun x e1 => bO (x.weak.get e1) fun p => bO (g p) fun b => some (b, e1) := rfl
theorem R1 (e : En) : aK e = some ([], e) := rfl
theorem L4 (fa : FE) (fr : FA) (e : En) : aB fa fr e = bE (fa e) fun x e1 => bE (fr e1) fun xs e2 => some (x.weak :: xs, e2) := rfl
theorem UU (g : List PV -> Option Bv) (fa : FA) (e : En) : lJ g fa e = bE (fa e) fun xs e1 => bO (getL e1 xs) fun ps => bO (g ps) fun b => some (b, e1) := rfl
theorem T2 (g : PV -> List PV -> Option Bv) (fo : FE) (fa : FA) (e : En) : V8 g fo fa e = (bE (fo e) fun x e0 => match x with
 | .val (.str z) => bE (fa e0) fun xs e1 => bO (getL e1 xs) fun ps => bO (g (.str z) ps) fun b => some (b, e1)
 | _ => none) := rfl
theorem QF (fa : FA) (e : En) : cR fa e = bE (fa e) fun xs e1 => bO (putL xs) fun ps => aU (decide (ps.length < 1000000)) (some (.val (.tup ps), e1)) := rfl
theorem P6 (fa : FA) (e : En) : eQ fa e = bE (fa e) fun xs e1 => bO (putL xs) fun ps => aU (decide (ps.length < 1000000)) (some (.new (.lst ps), e1)) := rfl
theorem NU (f : FE) (e : En) : bP f e = (bE (f e) fun b e1 => match b with
 | .val (.bl c) => some (c, e1)
 | _ => none) := rfl
theorem RH (f g : FT) (e : En) : GQ f g e = bE (f e) fun b e1 => bB b (g e1) (some (false, e1)) := rfl
theorem VB (f g : FT) (e : En) : S9 f g e = bE (f e) fun b e1 => bB b (some (true, e1)) (g e1) := rfl
theorem PB (f : FT) (e : En) : zJ f e = bE (f e) fun b e1 => some (!b, e1) := rfl
theorem MT (e : En) : eP e = some (true, e) := rfl
theorem LI (fa : FE) (e : En) : GB fa e = bE (fa e) fun b e1 => bO (IV b) fun c => some (.val (.bl (!c)), e1) := rfl
theorem UC (fc : FT) (fa fb : FE) (e : En) : LU fc fa fb e = bE (fc e) fun b e1 => bB b (fa e1) (fb e1) := rfl
theorem EE (e : En) : gQ e = some (none, e) := rfl
theorem KS (f : FE) (e : En) : nP f e = (bE (f e) fun b e1 => match b with
 | .val (.int i) => some (some i, e1)
 | _ => none) := rfl
theorem UT (g : PV -> Option Int -> Option Int -> Option Bv) (fa : FE) (fl fh : FO) (e : En) : O1 g fa fl fh e = bE (fa e) fun x e1 => bE (fl e1) fun lo e2 => bE (fh e2) fun hi e3 => bO (x.weak.get e3) fun p => bO (g p lo hi) fun b => some (b, e3) := rfl
theorem LW (e : En) : cU e = some (.nx e) := rfl
theorem R3 (f : FE) (e : En) : cW f e = bE (f e) fun b e1 => some (.rt b e1) := rfl
theorem UM (fc : FT) (f g : FS) (e : En) : oQ fc f g e = bE (fc e) fun b e1 => bB b (f e1) (g e1) := rfl
theorem QX (i : Nat) (f : FE) (e : En) : cD i f e = (bE (f e) fun b e1 => match b with
 | .val p => some (.nx (e1.set i (some (.val p))))
 | .new p => some (.nx (e1.set i (some (.val p))))
 | .slot j => match e1[j]? with
  | some (some (.bor p)) => some (.nx (e1.set i (some (.bor p))))
  | _ => none) := rfl
theorem KP (i : Nat) (f : FE) (e : En) : jQ i f e = (bE (f e) fun b e1 => match b with
 | .new p => some (.nx (e1.set i (some (.loc p))))
 | _ => none) := rfl
theorem QO (i : Nat) (f : FE) (e : En) : yP i f e = (bO (ownAt e i) fun p0 => match p0 with
 | .lst _ => bE (f e) fun b e1 => bO b.put fun p => match ownAt e1 i with
  | some (.lst ps) => aU (decide (ps.length < 1000000)) (some (.nx (cA e1 i (.lst (ps ++ [p])))))
  | _ => none
 | _ => none) := rfl
theorem IY (i : Nat) (fi fv : FE) (e : En) : uB i fi fv e = (bE (fv e) fun b e1 => bO b.put fun p => bO (ownAt e1 i) fun _ => bE (fi e1) fun k e2 => match k with
 | .val (.int k) => match ownAt e2 i with
  | some (.lst ps) => bO (qV ps.length k) fun j => some (.nx (cA e2 i (.lst (ps.set j p))))
  | _ => none
 | _ => none) := rfl
theorem ND (i : Nat) (fk fv : FE) (e : En) : oG i fk fv e = (bE (fv e) fun b e1 => bO b.put fun p => bO (ownAt e1 i) fun _ => bE (fk e1) fun k e2 => bO (k.weak.get e2) fun kp => bO (keyOf kp) fun key => match ownAt e2 i with
  | some (.bG kvs) => aU (decide (kvs.length < 1000000)) (some (.nx (cA e2 i (.bG (eU kvs key p)))))
  | _ => none) := rfl
theorem IM (i : Nat) (p : PV) (e : En) : aS i p e = some (e.set i (some (.val p))) := rfl
theorem LQ (ps : List PV) (e : En) : kO ps e = match ps with | [] => some e | _ => none := rfl
theorem JM (f : FG) (g : EL) (ps : List PV) (e : En) : cF f g ps e = match ps with | p :: ps => bO (f p e) (g ps) | [] => none := rfl
theorem LN (n : Nat) (f : EL) (p : PV) (e : En) : kE n f p e = (match p with
 | .tup ps => aU (decide (ps.length = n)) (f ps e)
 | _ => none) := rfl
theorem RR (f : FE) (fg : FG) (e : En) : FY f fg e = bE (f e) fun b e1 => bO b.put fun p => bO (fg p e1) fun e2 => some (.nx e2) := rfl
theorem U8 (f : FE) (st : Nat -> Bool) (e : En) : yF f st e = (bE (f e) fun b e1 => match b with
 | .slot i => match e1[i]? with
  | some (some (.bor p)) => bO (fM p) fun ps => some (ps, e1)
  | some (some (.own p)) => aU (st i) (bO (fM p) fun ps => some (ps, e1))
  | some (some (.loc p)) => aU (st i) (bO (fM p) fun ps => some (ps, e1))
  | _ => none
 | .val p => bO (fM p) fun ps => some (ps, e1)
 | .new p => bO (fM p) fun ps => some (ps, e1)) := rfl
theorem RS (f : FE) (e : En) : PN f e = bE (f e) fun b e1 => bO (b.weak.get e1) fun p => bO (QE p) fun c => some (c, e1) := rfl
theorem M9 (e : En) : xG e = some (.new (.bG []), e) := rfl
end Mr
namespace L2
open PySem PySem.Spec PyProof.Rows
variable {a : Expr} {p pos : Pos} {ta : TA}
noncomputable def UP (K : Frag) (a : Addr) : It :=
 ⟨fun i H => ∃ xs x, gK K H a xs /\ xs[i]? = some x, fun i H v H' => ∃ t, H t = none /\ v = .ref t /\ ∀ xs, gK K H a xs -> ∃ x, xs[i]? = some x /\ H' = upd H t (.tup [.int i, x]), fun i H => ∃ xs, gK K H a xs /\ xs.length = i⟩
theorem zQ {P : Program} {w : World} {K : Frag} {elts : List Expr} {x1} (a it e : Addr) (hei : e ≠ it) : Turn P w K (.Tuple elts x1 pos) (UP K a) [e, it] e (fun i h => (∃ old, IsEnum h e it i old) /\ h.IsListIter it a i) where
 mem := by simp
 obj := fun i h st b hb => by
  obtain ⟨⟨old, he⟩, o, ho, c, d⟩ := st
  rcases mem_cons.mp hb with z | z
  ·subst z; exact ⟨_, he, fun v z => by cases z⟩
  ·have z : b = it := by simpa using z
   subst z; exact ⟨o, ho, fun v z => by rw [d] at z; cases z⟩
 keep := fun i h h' st k => ⟨let ⟨old, he⟩ := st.1; ⟨old, k e (by simp) _ he⟩, st.2.at fun o q => k it (by simp) o q⟩
 item := by
  intro X hP hw hK hc i pins s σ H E I hf st hg
  subst hP hw hK
  obtain ⟨xs, x, hq, hx⟩ := hg
  obtain ⟨its, rv, p, hz⟩ := I.list hq
  obtain ⟨u, hu, ru⟩ := rv.get hx
  obtain ⟨⟨old, he⟩, ht⟩ := st
  have hne : a ≠ it := fun z => by
   obtain ⟨o, ho, c, _⟩ := ht
   obtain ⟨o', _, ho', c', _, _⟩ := p
   subst z
   rw [ho] at ho'; cases ho'
   rw [c] at c'
   exact absurd (Value.type.inj c') (by decide)
  have hae : a ≠ e := fun z => by
   obtain ⟨o', _, ho', c', _, _⟩ := p
   subst z
   rw [he] at ho'; cases ho'
   exact absurd (Value.type.inj c') (by decide)
  have hlt : i < its.toArray.size := by have := (List.getElem?_eq_some_iff.mp hu).1; simpa using this
  refine wpAny_pyNext_enum_itemD (Draws.list (A := X.A.in1) (by exact I.ok.hd hc) it a hne its.toArray) he ⟨ht, p.isList⟩ hlt hei (by simp [hei, Ne.symm hae]) fun v h' tk hPv ho' st' htup hsz hk => ?_
  have ev : v = u := by
   have h1 : its[i]? = some v := by simpa using hPv
   rw [hu] at h1; exact (Option.some.inj h1).symm
  subst ev
  refine ⟨_, rfl, wpAny_letOwnedTupleGo_enum (s := { s with heap := h', toks := tk + 1 }) ho' fun h2 he2 sb => ?_⟩
  have hTe : s.heap.objs.size ≠ e := fun z => by
   have := lt_size he; rw [<- z] at this; exact lt_irrefl _ this
  have hTi : s.heap.objs.size ≠ it := fun z => by
   obtain ⟨o, ho, _⟩ := ht
   have := lt_size ho; rw [<- z] at this; exact lt_irrefl _ this
  have hk2 : ∀ b o, b ∉ [e, it] -> s.heap.get? b = some o -> h2.get? b = some o := fun b o hb q =>
   sb.extBut b o (fun z => hb (by simp [z])) (hk b o (fun z => hb (by simp [z])) (fun z => hb (by simp [z])) q)
  have I1 : Inv X pins σ H { s with heap := h2, toks := tk + 1 } := I.BQ hk2 hf
  have hfr : H s.heap.objs.size = none := I.bN.fresh (le_refl _)
  have htup2 : h2.get? s.heap.objs.size = some { cls := .type "tuple", data := .seq #[.int i tk, v] } := sb.extBut _ _ hTe htup
  have I2 : Inv X pins σ (upd H s.heap.objs.size (.tup [.int i, x])) { s with heap := h2, toks := tk + 1 } := by
   refine I.X3 hk2 hf hfr (by simp [hTe, hTi]) ⟨by show 2 <= sizeLine; decide, [.int i tk, v], .cons ⟨_, rfl⟩ (.cons ru .nil), mY.of htup2⟩ (fun b hb o q => ?_)
   rcases mem_cons.mp hb with r | r
   ·subst r; exact ⟨_, he2⟩
   ·have r : b = it := by simpa using r
    subst r
    obtain ⟨o', ho', _⟩ := st'.1.extBut sb.extBut (Ne.symm hei)
    exact ⟨o', ho'⟩
  refine ⟨.ref s.heap.objs.size, _, I2, rfl, ⟨s.heap.objs.size, hfr, rfl, fun ys hy => ⟨x, by rw [I.yC hy hq]; exact hx, rfl⟩⟩, ⟨⟨_, he2⟩, st'.1.extBut sb.extBut (Ne.symm hei)⟩, fun b hb => ?_⟩
  have hbT : b ≠ s.heap.objs.size := fun z => by
   rcases mem_cons.mp hb with r | r
   ·exact hTe (z ▸ r)
   ·have r : b = it := by simpa using r
    exact hTi (z ▸ r)
  rw [aP hbT]
  exact (hf b hb).1
 done := by
  intro X hP hw hK hc i pins s σ H E I hf st hg
  subst hP hw hK
  obtain ⟨xs, hq, hx⟩ := hg
  obtain ⟨its, rv, p, hz⟩ := I.list hq
  obtain ⟨⟨old, he⟩, ht⟩ := st
  have hl := rv.length
  have hne : a ≠ it := fun z => by
   obtain ⟨o, ho, c, _⟩ := ht
   obtain ⟨o', _, ho', c', _, _⟩ := p
   subst z
   rw [ho] at ho'; cases ho'
   rw [c] at c'
   exact absurd (Value.type.inj c') (by decide)
  have ei : (i : Nat) = its.toArray.size := by simp; omega
  subst ei
  obtain ⟨f0, f1, f2, f3, f4, f5⟩ := hf it (by simp)
  exact wpAny_pyNext_enum_endD (Draws.list (A := X.A.in1) (by exact I.ok.hd hc) it a hne its.toArray) he ⟨ht, p.isList⟩ fun h' eb => ⟨rfl, I.turned (t' := s.toks) (fun b o hb e => eb b o hb e) f0 f1 f3 f4 f5⟩
 self := fun _ _ _ _ _ st h => let ⟨_, he⟩ := st.1; wpAny_pyIter_enum he h
section
variable {X : Cx} {elts : List Expr} {x1 : Nat} {tpos : Pos}
noncomputable def t7 (K : Frag) (ta : TA) : TI := fun σ H R => ta σ H fun vs H1 => (∃ a xs, vs = [.ref a] /\ lL K H1 a xs /\ R (X4 K a) H1) \/ ∃ a xs, vs = [.ref a] /\ gK K H1 a xs /\ R (UP K a) H1
theorem IJ (hg : Gl X "enumerate") (hm : X.mg "enumerate" = none) (ha : PA X [a] ta) (hs : starEach [a] X.env = [(false, eval a X.env)] := by rfl) : PI X (.Tuple elts x1 tpos) (.Call (.Name "enumerate" p) [a] [] pos) (t7 X.K ta) := by
 intro pins s σ H R I h
 refine Call_ (m8 I hg hm t9 (PyProof.Rows.callWith_type1 (cJ (ha pos pins s σ H _ I h) fun us s1 ⟨vs, H1, I1, r1, q1⟩ => ?_) hs rfl))
 rcases q1 with ⟨t, xs, e, hq, q⟩ | ⟨t, xs, e, hq, q⟩
 ·subst e
  obtain ⟨u, rfl, rx⟩ := vals1 r1
  cases rx
  obtain ⟨its, rv, pt, hz⟩ := I1.tuple hq
  refine gN (show s1.heap.IsTuple t its.toArray from pt) fun h' he ht hsz hk => ?_
  have I2 : Inv X pins σ H1 { s1 with heap := h' } := I1.kept (t' := s1.toks) hk
  refine wpAny_pyIter_enum (s := { s1 with heap := h' }) he ?_
  refine ⟨s1.heap.objs.size + 1, [s1.heap.objs.size + 1, s1.heap.objs.size], _, _, H1, rfl, I2, z8 t s1.heap.objs.size (s1.heap.objs.size + 1) (Nat.succ_ne_self _), ⟨⟨_, he⟩, ht⟩, fun b hb => ?_, q⟩
  rcases mem_cons.mp hb with r | r
  ·subst r; exact I1.rF (le_succ _) (I1.bN.fresh (le_succ _))
  ·have r : b = s1.heap.objs.size := by simpa using r
   subst r; exact I1.rF (le_refl _) (I1.bN.fresh (le_refl _))
 ·subst e
  obtain ⟨u, rfl, rx⟩ := vals1 r1
  cases rx
  obtain ⟨its, rv, pt, hz⟩ := I1.list hq
  refine call_enumerate_list pt.isList fun h' he ht hsz hk => ?_
  have I2 : Inv X pins σ H1 { s1 with heap := h' } := I1.kept (t' := s1.toks) hk
  refine wpAny_pyIter_enum (s := { s1 with heap := h' }) he ?_
  refine ⟨s1.heap.objs.size + 1, [s1.heap.objs.size + 1, s1.heap.objs.size], _, _, H1, rfl, I2, zQ t s1.heap.objs.size (s1.heap.objs.size + 1) (Nat.succ_ne_self _), ⟨⟨_, he⟩, ht⟩, fun b hb => ?_, q⟩
  rcases mem_cons.mp hb with r | r
  ·subst r; exact I1.rF (le_succ _) (I1.bN.fresh (le_succ _))
  ·have r : b = s1.heap.objs.size := by simpa using r
   subst r; exact I1.rF (le_refl _) (I1.bN.fresh (le_refl _))
theorem AW (K : Frag) (hg : Gl X "enumerate") (hm : X.mg "enumerate" = none) (ha : PA X [a] ta) (h : X.K = K := by rfl) (hs : starEach [a] X.env = [(false, eval a X.env)] := by rfl) :
  PI X (.Tuple elts x1 tpos) (.Call (.Name "enumerate" p) [a] [] pos) (t7 K ta) := h ▸ IJ hg hm ha hs
end
end L2
namespace Mr
open PySem PySem.Spec L2 PyProof.Rows
variable {fa : FA} {a b : Str}
section
variable {K : Frag}
noncomputable def GZ (fa : FA) : FI := fun _ e => bE (fa e) fun bs e1 => match bs with
 | [.val (.tup ps)] => some (ps.zipIdx.map fun z => .tup [.int (z.2 : Int), z.1], e1)
 | [.val (.lst ps)] => some (ps.zipIdx.map fun z => .tup [.int (z.2 : Int), z.1], e1)
 | _ => none
theorem IG {ta : TA} (h : oJ K ta fa) : vF K (t7 K ta) (GZ fa) := by
 intro st O M W L σ H e e' ps R o he hf q
 obtain ⟨x, e1, f1, hf⟩ := aL hf
 refine h O M W L σ H e e1 x _ o he f1 fun vs H1 k1 en rv => ?_
 have o1 := o.keep k1.bU
 split at hf
 ·rename_i ps0
  cases hf
  cases rv with
  | cons h r =>
   cases r
   cases h with
   | tup ha ra =>
    rename_i a xs
    refine .inl ⟨a, xs, rfl, ha.sq, q _ H1 k1 en fun Wr hw _ => ?_⟩
    intro L' H' j1 j2 j3
    have st := uQ o1 hw j1 j2 j3
    have sq : lL K H' a xs := TupAt.sq (ha.elim (fun h => .inl (j2 _ _ h)) .inr)
    refine ⟨fun k p hp => ?_, xs, sq, by rw [length_map, length_zipIdx, ra.length]⟩
    rw [getElem?_map, getElem?_zipIdx] at hp
    cases c : ps0[k]? with
    | none => rw [c] at hp; cases hp
    | some p0 =>
     rw [c] at hp
     cases hp
     obtain ⟨v, hv, rv⟩ := ra.get c
     refine ⟨⟨xs, v, sq, hv⟩, fun x H3 y => ?_⟩
     obtain ⟨t, ht, rfl, y⟩ := y
     obtain ⟨x', hx', rfl⟩ := y xs sq
     rw [hv] at hx'
     cases hx'
     refine ⟨aT.upd ht, .tup (.inl aQ) (.cons ?_ (.cons ((rv.aH st).aH (.same (aT.upd ht))) .nil))⟩
     rw [zero_add]
     exact .int _
 ·rename_i ps0
  cases hf
  cases rv with
  | cons h r =>
   cases r
   cases h with
   | lst ha n ra =>
    rename_i a xs
    refine .inr ⟨a, xs, rfl, .inl ha, q _ H1 k1 en fun Wr hw _ => ?_⟩
    intro L' H' j1 j2 j3
    have st := uQ o1 hw j1 j2 j3
    have nw : ¬ Wr a := fun z => n ((hw _ z).elim (fun ⟨i, w⟩ => .inl (o.wm i _ w)) .inr)
    have sq : gK K H' a xs := by
     rcases ha with h | ⟨u, h⟩
     ·exact .inl (.inl (j1 _ _ h nw))
     ·exact .inl (.inr ⟨u, j1 _ _ h nw⟩)
    refine ⟨fun k p hp => ?_, xs, sq, by rw [length_map, length_zipIdx, ra.length]⟩
    rw [getElem?_map, getElem?_zipIdx] at hp
    cases c : ps0[k]? with
    | none => rw [c] at hp; cases hp
    | some p0 =>
     rw [c] at hp
     cases hp
     obtain ⟨v, hv, rv⟩ := ra.get c
     refine ⟨⟨xs, v, sq, hv⟩, fun x H3 y => ?_⟩
     obtain ⟨t, ht, rfl, y⟩ := y
     obtain ⟨x', hx', rfl⟩ := y xs sq
     rw [hv] at hx'
     cases hx'
     refine ⟨aT.upd ht, .tup (.inl aQ) (.cons ?_ (.cons ((rv.aH st).aH (.same (aT.upd ht))) .nil))⟩
     rw [zero_add]
     exact .int _
 ·cases hf
theorem K1 {st : Nat -> Bool} {e : En} : GZ fa st e = bE (fa e) fun bs e1 => match bs with
 | [.val (.tup ps)] => some (ps.zipIdx.map fun z => .tup [.int (z.2 : Int), z.1], e1)
 | [.val (.lst ps)] => some (ps.zipIdx.map fun z => .tup [.int (z.2 : Int), z.1], e1)
 | _ => none := rfl
end
section
variable {K : Frag}
noncomputable def yE (a b : Str) : Prop := ¬ b.cps.toList < a.cps.toList
theorem sJ {c : Str} (h : yE a b) (h' : yE b c) : yE a c := not_lt.mpr (List.le_trans (not_lt.mp h) (not_lt.mp h'))
theorem JR {a b : Str} (h : yE a b) (h' : yE b a) : a = b := by
 have := List.le_antisymm (not_lt.mp h) (not_lt.mp h')
 exact Str.ext' (by cases a; cases b; simp at this; exact this)
theorem nR : ∀ {x : Str} {r : List Str}, risingS x r = true -> (x :: r).Pairwise yE
 | x, [], _ => List.pairwise_singleton _ _
 | x, y :: r, h => by
  have h : (!ltCps y.cps.toList x.cps.toList && risingS y r) = true := h
  rw [and_eq_true] at h
  have ih := nR h.2
  have hxy : yE x y := by
   have := h.1
   rw [ltCps_eq] at this
   simpa [yE] using this
  refine pairwise_cons.mpr ⟨fun z hz => ?_, ih⟩
  rcases mem_cons.mp hz with e | e
  ·rw [e]; exact hxy
  ·exact sJ hxy ((pairwise_cons.mp ih).1 z e)
theorem vZ {l : List Str} (h : sortedS l = true) : l.Pairwise yE := by
 cases l with
 | nil => exact .nil
 | cons x r => exact nR h
theorem oF : ∀ {a b : List Str}, a.Pairwise yE -> b.Pairwise yE -> a.Perm b -> a = b
 | [], b, _, _, p => (List.Perm.nil_eq p)
 | x :: a, [], _, _, p => absurd p.symm.nil_eq (by simp)
 | x :: a, y :: b, ha, hb, p => by
  have hx := (pairwise_cons.mp ha).1
  have hy := (pairwise_cons.mp hb).1
  have e : x = y := by
   rcases mem_cons.mp (p.mem_iff.mp mem_cons_self) with z | z
   ·exact z
   ·rcases mem_cons.mp (p.mem_iff.mpr mem_cons_self) with w | w
    ·exact w.symm
    ·exact JR (hx y w) (hy x z)
  subst e
  rw [oF (pairwise_cons.mp ha).2 (pairwise_cons.mp hb).2 p.cons_inv]
noncomputable def U9 (a b : Str) : Bool := !ltCps b.cps.toList a.cps.toList
theorem j0 : U9 a b = true ↔ yE a b := by
 unfold U9 yE
 rw [ltCps_eq]
 simp
noncomputable def mS (ss : List Str) : List Str := ss.mergeSort U9
theorem vJ (ss : List Str) : (mS ss).Pairwise yE := by
 have := List.pairwise_mergeSort (le := U9) (fun a b c h1 h2 => j0.mpr (sJ (j0.mp h1) (j0.mp h2))) (fun a b => by
  rw [Bool.or_eq_true, j0, j0]
  by_cases h : yE a b
  ·exact .inl h
  ·right
   unfold yE at h ⊢
   have h := Classical.not_not.mp h
   exact not_lt.mpr (List.le_of_lt h)) ss
 exact this.imp fun h => j0.mp h
theorem G8 (ss : List Str) : (mS ss).Perm ss := List.mergeSort_perm ss U9
theorem p7 {ss out : List Str} (hp : out.Perm ss) (hs : sortedS out = true) : mS ss = out := oF (vJ ss) (vZ hs) ((G8 ss).trans hp.symm)
noncomputable def t8 : List PV -> Option Bv
 | [.lst ps] => bO (mJ ps) fun ss => aU (decide (ss.length < 64)) (some (.new (.lst ((mS ss).map PV.str))))
 | _ => none
theorem aX.ofStrs {Z : aI} {H : Hp} : ∀ (ss : List Str), aX K Z H (ss.map PV.str) (ss.map V.str)
 | [] => .nil
 | s :: ss => .cons (.str s) (aX.ofStrs ss)
theorem FJ : fZ K (y9 K) t8 := by
 intro Z H vs ps b Q hp h k
 unfold t8 at h
 split at h
 ·obtain ⟨ss, g, h⟩ := aE h
  obtain ⟨c, h⟩ := aJ h
  cases h
  obtain ⟨v, rfl, hv⟩ := hp.one
  obtain ⟨a, ys, rfl, ha, ra⟩ := hv.j9
  rw [jT g] at ra
  rw [ra.strs] at ha
  refine ⟨a, ss, rfl, ha.sq, of_decide_eq_true c, fun l out h1 h2 hl => ?_⟩
  rw [p7 h1 h2] at k
  exact k _ _ (aT.upd hl) (yQ hl (aX.ofStrs out))
 ·cases h
end
end Mr
namespace Mr
open PySem L2
variable {Q : Bv × En -> Prop} {e : En} {fg : FG} {fi : FI} {ft : FT} {ks : List Kd} {x xs y : List PV}
structure Mark {α : Type} (Q : α -> Prop) : Type where
noncomputable def Wp {α : Type} (r : Option α) (Q : α -> Prop) (u : Mark Q := ⟨⟩) : Prop := ∃ a, r = some a /\ Q a
section
variable {α β : Type} {Q : β -> Prop}
theorem V5 : qV 1 0 = some 0 := by decide
theorem W7 : qV 2 0 = some 0 := by decide
theorem W9 : qV 2 1 = some 1 := by decide
theorem XO : qV 3 0 = some 0 := by decide
theorem WH : qV 3 1 = some 1 := by decide
theorem W6 : qV 3 2 = some 2 := by decide
theorem XB : qV 4 0 = some 0 := by decide
theorem WL : qV 4 1 = some 1 := by decide
theorem WK : qV 4 2 = some 2 := by decide
theorem WA : qV 4 3 = some 3 := by decide
theorem VV {x : α} {xs : List α} : lK (x :: xs) 0 = some x := fU (j := 0) rfl
theorem V2 {x y : α} {xs : List α} : lK (x :: y :: xs) 1 = some y := fU (j := 1) rfl
theorem at2 {x y z : α} {xs : List α} : lK (x :: y :: z :: xs) 2 = some z := fU (j := 2) rfl
theorem X9 {x y z w : α} {xs : List α} : lK (x :: y :: z :: w :: xs) 3 = some w := fU (j := 3) rfl
theorem iI {r : Option (α × En)} {k : α -> En -> Option β} : Wp (bE r k) Q ↔ Wp r fun z => Wp (k z.1 z.2) Q := by
 constructor
 ·rintro ⟨b, h, q⟩
  obtain ⟨a, e, h1, h2⟩ := aL h
  exact ⟨(a, e), h1, b, h2, q⟩
 ·rintro ⟨⟨a, e⟩, rfl, b, h2, q⟩
  exact ⟨b, h2, q⟩
theorem iJ {r : Option α} {k : α -> Option β} : Wp (bO r k) Q ↔ Wp r fun z => Wp (k z) Q := by
 constructor
 ·rintro ⟨b, h, q⟩
  obtain ⟨a, h1, h2⟩ := aE h
  exact ⟨a, h1, b, h2, q⟩
 ·rintro ⟨a, rfl, b, h2, q⟩
  exact ⟨b, h2, q⟩
theorem b9 {b : β} : Wp (some b) Q ↔ Q b := ⟨fun ⟨_, h, q⟩ => by cases h; exact q, fun q => ⟨b, rfl, q⟩⟩
theorem l4 : Wp (none : Option β) Q ↔ False := by
 constructor
 ·rintro ⟨_, h, _⟩; cases h
 ·exact False.elim
theorem dW {c : Bool} {k : Option β} : Wp (aU c k) Q ↔ c = true /\ Wp k Q := by
 constructor
 ·rintro ⟨b, h, q⟩
  obtain ⟨h1, h2⟩ := aJ h
  exact ⟨h1, b, h2, q⟩
 ·rintro ⟨rfl, b, h, q⟩
  exact ⟨b, h, q⟩
theorem wp_seq {f g : FS} {e : En} {Q : Out -> Prop} : Wp (a8 f g e) Q ↔ Wp (f e) fun o => match o with | .nx e1 => Wp (g e1) Q | o => Q o := by
 unfold a8
 cases f e with
 | none => simp [l4]
 | some o =>
  rw [b9]
  cases o <;> simp [b9]
theorem LY {c : Bool} {x y : Option β} : Wp (bB c x y) Q ↔ ((c = true -> Wp x Q) /\ (c = false -> Wp y Q)) := by
 cases c <;> simp [bB]
theorem WY {x y : β} : bB true x y = x := rfl
theorem XG {x y : β} : bB false x y = y := rfl
theorem Wp.mono {r : Option β} {Q Q' : β -> Prop} (h : Wp r Q) (k : ∀ b, Q b -> Q' b) : Wp r Q' := let ⟨b, e, q⟩ := h; ⟨b, e, k b q⟩
theorem Wp.eq {r : Option β} {b : β} (h : Wp r fun x => x = b) : r = some b := let ⟨_, e, q⟩ := h; q ▸ e
end
theorem SW {nl : Nat} {fr : Bool} {g : FS} {ps : List PV} {Q : PV × List PV -> Prop} : Wp (oW ks nl fr g ps) Q ↔ Wp (g (j8 ks ps ++ List.replicate nl none)) fun o => Wp (SY ks fr o) Q := by
 unfold oW; exact iJ
theorem wp_call {fr : Bool} {f : FN} {fa : FA} : Wp (a9 ks fr f fa e) Q ↔ Wp (fa e) fun z => Wp (DT z.2 ks z.1) fun ps =>
  (decide ((bS ks z.1).Nodup) && (lG ks z.1).all fun i => !(bS ks z.1).contains i) = true /\ Wp (f ps) fun rq => Wp (kK (rq.2.map fun q => some (.own q)) (bS ks z.1).zipIdx z.2) fun e2 => Q (resB rq.1 fr, e2) := by
 unfold a9
 constructor
 ·intro h
  obtain ⟨z, h1, h⟩ := iI.mp h
  obtain ⟨ps, h2, h⟩ := iJ.mp h
  obtain ⟨g, h⟩ := dW.mp h
  obtain ⟨rq, h3, h⟩ := iJ.mp h
  obtain ⟨e2, h4, h⟩ := iJ.mp h
  exact ⟨z, h1, ps, h2, g, rq, h3, e2, h4, b9.mp h⟩
 ·rintro ⟨z, h1, ps, h2, g, rq, h3, e2, h4, q⟩
  exact iI.mpr ⟨z, h1, iJ.mpr ⟨ps, h2, dW.mpr ⟨g, iJ.mpr ⟨rq, h3, iJ.mpr ⟨e2, h4, b9.mpr q⟩⟩⟩⟩⟩
theorem fQ {body : PV -> En -> Option Out} (I : Nat -> En -> Prop) {Q : Out -> Prop} (hs : ∀ (i : Nat) x e, xs[i]? = some x -> I i e -> Wp (body x e) fun o => match o with | .nx e1 => I (i + 1) e1 | .ct e1 => I (i + 1) e1 | .bk e1 => Q (.nx e1) | .rt b e1 => Q (.rt b e1))
  (hd : ∀ e, I xs.length e -> Q (.nx e)) {e : En} (h0 : I 0 e) : Wp (kN body xs e) Q := by
 have key : ∀ (ys : List PV) (i : Nat) (e : En), i <= xs.length -> xs.drop i = ys -> I i e -> Wp (kN body ys e) Q := by
  intro ys
  induction ys with
  | nil =>
   intro i e hil hy hi
   unfold kN
   rw [b9]
   have hl : xs.length <= i := by
    have := congrArg List.length hy
    rw [length_drop] at this
    simp at this
    omega
   have h : i = xs.length := by omega
   subst h
   exact hd e hi
  | cons x ys ih =>
   intro i e hil hy hi
   have hlt : i < xs.length := by
    have := congrArg List.length hy
    rw [length_drop, length_cons] at this
    omega
   rw [drop_eq_getElem_cons hlt] at hy
   have hx : xs[i]? = some x := by rw [getElem?_eq_getElem hlt, (List.cons.inj hy).1]
   obtain ⟨o, h1, h2⟩ := hs i x e hx hi
   unfold kN
   rw [h1]
   cases o with
   | nx e1 => exact ih (i + 1) e1 hlt (List.cons.inj hy).2 h2
   | ct e1 => exact ih (i + 1) e1 hlt (List.cons.inj hy).2 h2
   | bk e1 => exact b9.mpr h2
   | rt b e1 => exact b9.mpr h2
 exact key xs 0 e (zero_le _) rfl h0
theorem eY {fe : FE} (I : Nat -> List PV -> En -> Prop) {Q : List PV × En -> Prop} {xs : List PV} (hs : ∀ (i : Nat) x e acc, xs[i]? = some x -> I i acc e -> Wp (fg x e) fun e1 => Wp (ft e1) fun z => match z.1 with | false => I (i + 1) acc z.2 | true => Wp (fe z.2) fun w => Wp w.1.put fun p => I (i + 1) (acc ++ [p]) w.2)
  (hd : ∀ acc e, I xs.length acc e -> Q (acc, e)) {e : En} (h0 : I 0 [] e) : Wp (iM fg ft fe xs e) Q := by
 have key : ∀ (ys : List PV) (i : Nat) (acc : List PV) (e : En), i <= xs.length -> xs.drop i = ys -> I i acc e -> ∃ rest e', iM fg ft fe ys e = some (rest, e') /\ I xs.length (acc ++ rest) e' := by
  intro ys
  induction ys with
  | nil =>
   intro i acc e hil hy hi
   have hl : xs.length <= i := by
    have := congrArg List.length hy
    rw [length_drop] at this
    simp at this
    omega
   have h : i = xs.length := by omega
   subst h
   exact ⟨[], e, rfl, by rw [append_nil]; exact hi⟩
  | cons x ys ih =>
   intro i acc e hil hy hi
   have hlt : i < xs.length := by
    have := congrArg List.length hy
    rw [length_drop, length_cons] at this
    omega
   rw [drop_eq_getElem_cons hlt] at hy
   have hx : xs[i]? = some x := by rw [getElem?_eq_getElem hlt, (List.cons.inj hy).1]
   obtain ⟨e1, h1, z, h2, h3⟩ := hs i x e acc hx hi
   obtain ⟨b, e2⟩ := z
   unfold iM
   rw [h1, qU, h2, AG]
   cases b with
   | false => exact ih (i + 1) acc e2 hlt (List.cons.inj hy).2 h3
   | true =>
    obtain ⟨⟨r, e3⟩, h4, p, h5, h6⟩ := h3
    dsimp only at h4 h5 h6 ⊢
    obtain ⟨rest, e', h7, h8⟩ := ih (i + 1) (acc ++ [p]) e3 hlt (List.cons.inj hy).2 h6
    rw [h4, AG, h5, qU, h7, AG]
    exact ⟨p :: rest, e', rfl, by rw [append_assoc] at h8; exact h8⟩
 obtain ⟨rest, e', h1, h2⟩ := key xs 0 [] e (zero_le _) rfl h0
 exact ⟨_, h1, hd _ _ h2⟩
theorem HS {k : Nat} {bV : List Nat} {ms : List (Nat × Nat)} {fe : FE} : Wp (fE fi k bV ms fg ft fe e) Q ↔ Wp (fi (fun i => !(ms.any fun z => z.1 == i)) e) fun z => z.1.length < 1000000 /\ Wp (iM fg ft fe z.1 (kT k bV ms z.2)) fun w => Wp (kK w.2 ms z.2) fun e2 => Q (.new (.lst w.1), e2) := by
 unfold fE
 constructor
 ·intro h
  obtain ⟨z, h1, h⟩ := iI.mp h
  obtain ⟨g, h⟩ := dW.mp h
  obtain ⟨w, h2, h⟩ := iI.mp h
  obtain ⟨e2, h3, h⟩ := iJ.mp h
  exact ⟨z, h1, of_decide_eq_true g, w, h2, e2, h3, b9.mp h⟩
 ·rintro ⟨z, h1, g, w, h2, e2, h3, q⟩
  exact iI.mpr ⟨z, h1, dW.mpr ⟨decide_eq_true g, iI.mpr ⟨w, h2, iJ.mpr ⟨e2, h3, b9.mpr q⟩⟩⟩⟩
theorem M3 {fb : FS} {Q : Out -> Prop} : Wp (m4 fi fg fb e) Q ↔ Wp (fi (fun _ => false) e) fun z => Wp (kN (fun x e => bO (fg x e) fb) z.1 z.2) Q := by
 unfold m4
 rw [iI]
theorem IK : bZ PV.bF PV.bF = true := by simp [bZ]
theorem P4 {y : Str} : bZ PV.bF (PV.str y) = false := by simp [bZ]
theorem QM {x : Int} {y : Int} : bZ (PV.int x) (PV.int y) = (x == y) := by simp [bZ]
theorem uK {x : Str} {y : Str} : bZ (PV.str x) (PV.str y) = (x == y) := by simp [bZ]
theorem Q3 : bZ (PV.tup x) (PV.tup y) = cG x y := by simp [bZ]
theorem PZ : bZ (PV.lst x) (PV.lst y) = cG x y := by simp [bZ]
theorem LF : cG [] [] = true := by simp [cG]
theorem NF {x y : PV} {ys : List PV} : cG (x :: xs) (y :: ys) = (bZ x y && cG xs ys) := by simp [cG]
end Mr
namespace Mr
open PySem PySem.Spec L2 PyProof.Rows
variable {fa fb : FE}
section
variable {K : Frag}
noncomputable def EX : PV -> PV -> Option Bv
 | .bG kvs, p => bO (keyOf p) fun k => some (.val ((cC kvs k).getD .bF))
 | _, _ => none
noncomputable def E7 (fa fb : FE) : FE := fun e => bE (fa e) fun x e1 => bO (x.weak.get e1) fun p1 => match p1 with
 | .bG _ => bE (fb e1) fun y e2 => bO (x.weak.get e2) fun p => bO (y.weak.get e2) fun q => bO (EX p q) fun b => some (b, e2)
 | _ => none
theorem JD {ta tb : TE} (ha : Ref K ta fa) (hb : Ref K tb fb) : Ref K (HD ta tb) (E7 fa fb) := by
 intro O M W L σ H e e' b Q o he hf q
 obtain ⟨x, e1, f1, hf⟩ := aL hf
 obtain ⟨p1, g0, hf⟩ := aE hf
 cases p1 with
 | bG kvs1 =>
  obtain ⟨y, e2, f2, hf⟩ := aL hf
  obtain ⟨p, g1, hf⟩ := aE hf
  obtain ⟨p', g2, hf⟩ := aE hf
  obtain ⟨c, g3, hf⟩ := aE hf
  cases hf
  refine ha O M W L σ H e e1 x _ o he f1 fun v1 H1 k1 r1 fr => ?_
  have o1 := o.keep k1.bU
  obtain ⟨a1, ys1, e11, ha1, _, _⟩ := ((r1.rv o1).red (r1.en o1) g0).rK
  refine ⟨a1, e11, .inl ⟨ys1, ha1⟩, ?_⟩
  refine hb O M W L σ H1 e1 _ y _ o1 (r1.en o1) f2 fun v2 H2 k2 r2 fr => ?_
  have o2 := o1.keep k2.bU
  have en := r2.en o2
  have rp := ((r1.rv o1).keep o1 k2).red en g1
  have rq := (r2.rv o2).red en g2
  cases p with
  | bG kvs =>
   obtain ⟨key, g4, g3⟩ := aE g3
   cases g3
   obtain ⟨a, ys, e3, ha', ek, r⟩ := rp.rK
   rw [e11] at e3
   cases e3
   refine ⟨dN ys key, .inl ⟨ys, key, ha', rq.key g4, rfl⟩, ?_⟩
   refine q _ H2 (k1.trans k2) ?_ ?_
   ·refine ⟨en, ?_⟩
    rcases dF.val key ⟨ek, r⟩ with ⟨h1, h2⟩ | ⟨p'', v', h1, h2, h3⟩
    ·rw [h1, h2]; exact .bF
    ·rw [h1, h2]; exact h3
   ·trivial
  | _ => cases g3
 | _ => cases hf
theorem NP {e : En} : E7 fa fb e = bE (fa e) fun x e1 => bO (x.weak.get e1) fun p1 => match p1 with
 | .bG _ => bE (fb e1) fun y e2 => bO (x.weak.get e2) fun p => bO (y.weak.get e2) fun q => bO (EX p q) fun b => some (b, e2)
 | _ => none := rfl
end
end Mr
namespace L2
open PySem PySem.Spec PyProof.Rows PySem.W
variable {I T a l : Addr} {es : Array (Int × Value)} {o u : HO} {h h' : Heap} {H : Hp} {kvs : List (Key × V)} {vs : List (Key × Value)} {ks ss : List Str} {ord : List Value} {ep i n : Nat} {t : SetTable} {s' : Shared} {α : Type} {f : Value} {Q : Value -> Shared -> Prop}
section
variable {prog : Program} {w : World} {A : Around} {E : Value -> Shared -> Prop} {s : Shared} {T : String} {r d : Addr} {n : Nat} {Pz : Nat -> Value -> Prop} {OKh : Heap -> Prop}
noncomputable def i6 (s s' : Shared) : Prop := ∃ h' tk dr, s' = { s with heap := h', toks := tk, drawn := dr } /\ s.heap.objs.size <= h'.objs.size /\ ∀ b o, s.heap.get? b = some o -> h'.get? b = some o
theorem i6.size {s : Shared} (g : i6 s s') : s.heap.objs.size <= s'.heap.objs.size := by
 obtain ⟨h', tk, dr, rfl, k, _⟩ := g
 exact k
theorem oA {Q : List Value -> Shared -> Prop} (K : KdlSrc prog w T r d n Pz OKh) (hh : A.handled = none) (bN : OKh s.heap) (hn : n <= sizeLine)
  (hq : ∀ vs s', i6 s s' -> vs.length = n -> (∀ j v, vs[j]? = some v -> Pz j v) -> Q vs s') : wpAny (model prog w) A (collect (.ref r)) Q E s := by
 have ha := K.there _ bN
 have fin : ∀ (h' : Heap) (tk : Nat) (acc : Array Value) (c : Nat), (∀ b o, s.heap.get? b = some o -> h'.get? b = some o) ->
   h'.get? s.heap.objs.size = some { cls := .type "list", dict := none, data := .seq acc c, slots := #[] } -> ItemsOf Pz acc n ->
   wpAny (model prog w) A (match Value.ref s.heap.objs.size with
    | Value.ref a => do
     match (<- load a).data with
      | Data.seq xs _ => pure xs.toList
      | _ => unsupported "internal:collect"
    | _ => unsupported "internal:collect") Q E { s with heap := h', toks := tk } := fun h' tk acc c kp hS hacc => by
  show wpAny _ A (load s.heap.objs.size >>= _) _ _ _
  exact wpAny_bind (wpAny_load hS (wpAny_pure (hq _ _ ⟨h', tk, s.drawn, rfl, le_of_lt (lt_size hS), kp⟩ (by rw [length_toList]; exact hacc.1) fun j v e => hacc.2 j v (by rw [<- getElem?_toList]; exact e))))
 unfold collect
 refine wpAny_bind (wpAny_runValue (codeAny_builtin F.entry_proto_collect ?_))
 rw [Around.under_plainId F.plain_proto_collect _]
 refine wpAny_bind (m := newList []) (wpAny_newObj_type ?_)
 refine wpAny_pure ⟨plainId_quiet F.plain_list_iadd _, codeAny_builtin F.entry_list_iadd ?_⟩
 rw [Around.under_plainId F.plain_list_iadd _]
 have e0 : (s.heap.push { cls := .type "list", data := .seq ([] : List Value).toArray }).get? s.heap.objs.size = some { cls := .type "list", data := .seq #[] 0 } := get?_push_size _ rfl
 have key := kdl_extend (A := A) (s := { s with heap := s.heap.push { cls := .type "list", data := .seq ([] : List Value).toArray } }) (R := fun rs s' => ∃ h' tk acc c, rs = .ok (.ret (.ref s.heap.objs.size)) /\ s' = { s with heap := h', toks := tk } /\ (∀ b o, s.heap.get? b = some o -> h'.get? b = some o) /\ h'.get? s.heap.objs.size = some { cls := .type "list", dict := none, data := .seq acc c, slots := #[] } /\ ItemsOf Pz acc n) K hh (K.keep _ _ bN fun b _ o e => get?_push_of_some _ e) s.heap.objs.size (ne_of_gt ha.1) (ne_of_gt ha.2) (.ref s.heap.objs.size) 0 e0
  (fun h' tk acc c kp hS hacc => ⟨h', tk, acc, c, rfl, rfl, fun b o e => kp b o (ne_of_lt (lt_size e)) (get?_push_of_some _ e), hS, hacc⟩) hn
 refine wpAny_mono key (fun f s' h => ?_) fun e s' h => ?_
 ·cases f with
  | done f =>
   obtain ⟨h', tk, acc, c, e1, rfl, kp, hS, hacc⟩ := h
   cases e1
   exact fin h' tk acc c kp hS hacc
  | again c' =>
   refine ⟨h.1, codeAny_mono h.2 fun rs s2 hr => ?_⟩
   obtain ⟨h', tk, acc, c, rfl, rfl, kp, hS, hacc⟩ := hr
   exact fin h' tk acc c kp hS hacc
 ·obtain ⟨h', tk, acc, c, e1, _⟩ := h
  cases e1
theorem DQ (K : KdlSrc prog w T r d n Pz OKh) (hnt : T ≠ "tuple") (hh : A.handled = none) (bN : OKh s.heap) (hn : n <= sizeLine)
  (hq : ∀ (vs : List Value) s1, i6 s s1 -> vs.length = n -> (∀ j v, vs[j]? = some v -> Pz j v) -> Q (.ref s1.heap.objs.size) { s1 with heap := s1.heap.push { cls := .type "tuple", data := .seq vs.toArray } }) :
  wpAny (model prog w) A (call (.type "tuple") [.ref r]) Q E s := by
 have hT := K.type s bN
 refine callType_codes (Q₁ := fun obj s₁ => s₁.TypeIs obj "tuple" /\ Q obj s₁) F.called_tuple (F.typeCall_tuple_1 _) F.entry_object_init ?_ fun obj s₁ h₁ =>
  ⟨h₁.1, F.args_object_init_2 obj _, object_init_meets F.called_tuple.init.lookup F.called_tuple.made (by decide) prog w A.in1 _ s₁ ⟨h₁.1, rfl, h₁.2⟩⟩
 refine codeAny_of_tree ?_
 refine wpAny_bind (m := checkBuiltinCall "tuple.__new__" ⟨[.type "tuple", .ref r], []⟩) (wpAny_of_eq (F.newCall_tuple_1 _) (wpAny_pure ⟨plainId_quiet F.plain_tuple_new _, codeAny_builtin F.entry_tuple_new ?_⟩))
 rw [Around.under_plainId F.plain_tuple_new _]
 have a1 := sub_tuple_self
 have a2 := init_tuple_lookup
 have a3 := madeHere_tuple
 have a4 : (Value.type T == Value.type "tuple") = false := K.notTuple
 unfold Builtin.«tuple.__new__»
 generalize hC : collect = C
 wp_walk using wpAny_typeOf hT
 subst hC
 refine oA K hh bN hn fun vs s1 g hl hv => ?_
 refine wpAny_bind (wpAny_pure ?_)
 unfold Builtin.Tuple.tupleExact
 refine wpAny_bind (m := newObj (.type "tuple") (.seq vs.toArray)) (wpAny_newObj_type ?_ (by show vs.toArray.size <= sizeLine; rw [size_toArray, hl]; exact hn))
 exact wpAny_pure ⟨⟨_, get?_push_size _ rfl, rfl⟩, hq vs s1 g hl hv⟩
theorem iQ {v : Value} {R : List Str -> Prop}
  (hcol : ∀ (E' : Value -> Shared -> Prop) (Q' : List Value -> Shared -> Prop), (∀ vs s1 ss, i6 s s1 -> StrsAre vs ss -> R ss -> Q' vs s1) -> wpAny (model prog w) A.in1 (collect v) Q' E' s) (h64 : ∀ ss, R ss -> ss.length < 64)
  (hq : ∀ (a : Addr) s2 (out : List Value) c ss ss', i6 s s2 -> s.heap.objs.size <= a -> s2.heap.get? a = some (seqObj "list" out.toArray c) -> StrsAre out ss' -> R ss -> ss'.Perm ss -> sortedS ss' = true -> Q (.ref a) s2) :
  wpAny (model prog w) A (call (.builtin "sorted") [v]) Q E s := by
 refine Calls.call_function_entry kind_sorted plain_sorted entry_sorted (args_sorted1 _) ?_
 unfold Builtin.«sorted»
 refine wpAny_bind (m := checkCount "sorted" 1 1 _) (wpAny_pure (wpAny_bind (hcol _ _ fun vs s1 ss g hS hR => ?_)))
 have hl : vs.length < 64 := by rw [hS.length]; exact h64 ss hR
 refine wpAny_bind (wpAny_newList ?_ (by simp only [sizeLine_eq]; omega))
 have e1 : (s1.heap.push (seqObj "list" vs.toArray 0)).get? s1.heap.objs.size = some (seqObj "list" vs.toArray 0) := get?_push_size _ rfl
 refine wpAny_bind (wpAny_holding (wpAny_call_entry slot_list_sort ⟨_, e1, rfl⟩ entry_list_sort (list_sort_treeK strKind_oneLt e1 hS.keysOf (fun v₁ v₂ rest e => keyKind_strs (by rw [<- e]; exact hS)) hl fun st' a1 a2 => ⟨_, rfl, ?_⟩) (args_list_sort _)))
 obtain ⟨ss', b1, b2, b3⟩ := sorted_out_str hS a1 a2
 refine wpAny_pure ⟨_, rfl, ?_⟩
 obtain ⟨c, hc⟩ := sortedHeap_at (out := (arrOf st').map (·.2)) e1
 refine hq s1.heap.objs.size _ ((arrOf st').map (·.2)).toList c ss ss' ?_ g.size (by rw [Array.toArray_toList]; exact hc) b1 hR b2 b3
 obtain ⟨h', tk, dr, rfl, gz, k⟩ := g
 refine ⟨_, tk, dr, rfl, le_trans gz (le_of_lt (lt_size hc)), fun b o e => ?_⟩
 have hb := lt_size (k b o e)
 rw [sortedHeap_old (ne_of_lt hb) (by rw [size_push']; exact lt_succ_of_lt hb)]
 exact get?_push_of_some _ (k b o e)
end
section
variable {X : Cx} {pins : List (Addr × Obj)} {σ : St} {H : Hp} {s s' : Shared}
theorem Inv.UR (I : Inv X pins σ H s) (g : i6 s s') : Inv X pins σ H s' := by
 obtain ⟨h', tk, dr, rfl, _, k⟩ := g
 exact I.call (g' := s.gens) (d' := dr) (t' := tk) (ch := []) (Un.kept k) (I.bN.kept k) I.bare fun _ z => nomatch z
end
noncomputable def CT (v d : Addr) : HO := .ext fun h => h.IsValuesView v d
theorem Rd.upd (h : Rd H a o) (hl : H l = none) : Rd (upd H l u) a o := by
 have ne : a ≠ l := by
  rintro rfl
  rcases h with h | ⟨_, h⟩ <;> (rw [hl] at h; cases h)
 rcases h with h | ⟨x, h⟩
 ·exact .inl (by rw [aP ne]; exact h)
 ·exact .inr ⟨x, by rw [aP ne]; exact h⟩
theorem KV.vals (r : KV kvs vs) : Vals (kvs.map (·.2)) (vs.map (·.2)) := by
 unfold KV at r
 induction r with
 | nil => exact .nil
 | cons h t ih => exact .cons h.2 ih
theorem KV.len (r : KV kvs vs) : kvs.length = vs.length := by
 have := congrArg List.length r.keys
 simpa using this
theorem u3.upd (h : u3 H a kvs) (hl : H l = none) : u3 (upd H l u) a kvs := let ⟨ep, e⟩ := h; ⟨ep, Rd.upd e hl⟩
theorem Inv.OW {X : Cx} {pins : List (Addr × Obj)} {σ : St} {s : Shared} (I : Inv X pins σ H s) (g : i6 s s') (hp : s.heap.objs.size <= a) (new : c9 X.prog X.w (L2.upd H a o) s'.heap a o) : Inv X pins σ (L2.upd H a o) s' := by
 obtain ⟨h', tk, dr, rfl, _, k⟩ := g
 exact I.call (g' := s.gens) (d' := dr) (t' := tk) (ch := []) (Un.laid k hp (I.bN.fresh hp)) (I.bN.laid k hp new) I.bare fun _ z => nomatch z
section
variable {X : Cx}
noncomputable def E5 (to : TE) : TE := fun σ H Q => to σ H fun x H1 => ∃ a kvs, x = .ref a /\ u3 H1 a kvs /\ ∀ v, H1 v = none -> Q (.ref v) (upd H1 v (CT v a))
theorem A3 {o : Expr} {to : TE} {apos cpos : Pos} (ho : PE X o to) (hbase : attributeBase o "values" X.env (eval o X.env) = eval o X.env := by rfl) (hline : (apos.endLine == cpos.line) = true := by rfl) :
  PE X (.Call (.Attribute o "values" apos) [] [] cpos) (E5 to) := by
 intro pins s σ H Q I h
 refine wpAny_Call_method0_late hbase hline (cJ (ho pins s σ H _ I h) fun v s1 ⟨x, H1, I1, r1, a, kvs, ex, ha, q1⟩ => ?_)
 subst ex
 obtain rfl : v = Value.ref a := r1
 obtain ⟨hz, hd, vs, rel, dd⟩ := gH I1.bN ha
 refine ⟨"dict", "dict.values", plainAttrs_dict, PySem.F.slot_dict_values, PySem.F.type_dict_values, dd.typeIs, dd.mapOf.noDict, Calls.callWith_builtin rfl (PySem.evalArgs_none ?_)⟩
 refine call_meetsIn PySem.F.slot_dict_values dd.typeIs PySem.F.entry_dict_values (PySem.F.args_dict_values_1 _) (meets_dict_values (bM X.prog X.w) a hd) ⟨⟨vs, dd⟩, ?_⟩
 have e0 : (s1.heap.push { cls := .type "dict_values", data := .fields #[.ref a] }).get? s1.heap.objs.size = some { cls := .type "dict_values", data := .fields #[.ref a] } := get?_push_size _ rfl
 refine ⟨.ref s1.heap.objs.size, _, I1.laid (t' := s1.toks) (o := CT s1.heap.objs.size a) (fun b u e => get?_push_of_some _ e) (le_refl _) ⟨⟨_, e0, rfl, rfl⟩, ⟨_, e0⟩, fun h1 h2 ⟨u, e, c⟩ k => ⟨u, k u e, c⟩⟩, rfl, q1 _ (I1.bN.fresh (le_refl _))⟩
noncomputable def OR : List V -> Hp -> VK -> Prop := fun xs H Q => ∃ v a kvs, xs = [.ref v] /\ H v = some (CT v a) /\ u3 H a kvs /\ ∀ l, H l = none -> Q (.ref l) (upd H l (.tup (kvs.map (·.2))))
theorem XU (hc : X.calm = true := by rfl) : b8 X (.type "tuple") OR := by
 intro pins s σ H xs us Q I r ⟨v, a, kvs, e, hv, ha, q⟩
 subst e
 obtain ⟨u, rfl, rx⟩ := vals1 r
 cases rx
 obtain ⟨hz, hd, vs, rel, dd⟩ := gH I.bN ha
 obtain ⟨ep, dd⟩ := dd.dictAt
 refine DQ (kdl_values (knd := bM X.prog X.w) (r := v) (d := a) (kvs := vs) (ep := ep)) (by decide) (by exact I.ok.hd hc) ⟨(I.bN v _ hv).1, dd⟩ (by rw [<- rel.len]; exact hz) fun ws s1 g hl hw => ?_
 have ew := kdl_vals_eq ws hl hw
 subst ew
 have I1 := I.UR g
 exact ⟨.ref s1.heap.objs.size, _, I1.laid (t' := s1.toks) (o := .tup (kvs.map (·.2))) (fun b o e => get?_push_of_some _ e) (le_refl _) ⟨by rw [length_map]; exact hz, _, rel.vals, mY.new _ _⟩, rfl, q _ (I1.bN.fresh (le_refl _))⟩
noncomputable def OL : List V -> Hp -> VK -> Prop := fun xs H Q => ∃ v a kvs, xs = [.ref v] /\ H v = some (CT v a) /\ u3 H a kvs /\ ∀ l, H l = none -> Q (.ref l) (upd H l (.lst (kvs.map (·.2))))
theorem WW (hc : X.calm = true := by rfl) : b8 X (.type "list") OL := by
 intro pins s σ H xs us Q I r ⟨v, a, kvs, e, hv, ha, q⟩
 subst e
 obtain ⟨u, rfl, rx⟩ := vals1 r
 cases rx
 obtain ⟨hz, hd, vs, rel, dd⟩ := gH I.bN ha
 obtain ⟨ep, dd⟩ := dd.dictAt
 refine kdl_call (kdl_values (knd := bM X.prog X.w) (r := v) (d := a) (kvs := vs) (ep := ep)) (by exact I.ok.hd hc) ⟨(I.bN v _ hv).1, dd⟩ (by rw [<- rel.len]; exact hz) fun h' tk acc c kp hS hacc => ?_
 have ew := kdl_vals_eq acc.toList (by rw [length_toList]; exact hacc.1) fun j x e => hacc.2 j x (by rw [<- getElem?_toList]; exact e)
 refine ⟨.ref s.heap.objs.size, _, I.laid (t' := tk) (o := .lst (kvs.map (·.2))) kp (le_refl _) ⟨by rw [length_map]; exact hz, _, c, rel.vals, ?_⟩, rfl, q _ (I.bN.fresh (le_refl _))⟩
 rw [hS, <- ew, Array.toArray_toList]
noncomputable def zL : List V -> Hp -> VK -> Prop := fun xs H Q => ∃ a kvs ss, xs = [.ref a] /\ u3 H a kvs /\ kvs.map (·.1) = ss.map Sum.inr /\ ss.length < 64 /\ ∀ l out, out.Perm ss -> sortedS out = true -> H l = none -> Q (.ref l) (upd H l (.lst (out.map V.str)))
theorem rT {prog : Program} {w : World} : ∀ {ss : List Str} {vs : List (Key × Value)} {us : List Value}, vs.map (·.1) = ss.map Sum.inr -> us.length = vs.length -> (∀ (j : Nat) v, us[j]? = some v -> ∃ k x, vs[j]? = some (k, x) /\ (bM prog w).is k v = true) -> StrsAre us ss
 | [], [], [], _, _, _ => .nil
 | [], [], _ :: _, _, h, _ => by cases h
 | [], _ :: _, _, h, _, _ => by cases h
 | _ :: _, [], _, h, _, _ => by cases h
 | _ :: _, _ :: _, [], _, h, _ => by cases h
 | t :: ss, (k, x) :: vs, u :: us, h, hl, hu => by
  rw [map_cons, map_cons] at h
  have h := List.cons.inj h
  have e : k = Sum.inr t := h.1
  subst e
  obtain ⟨k', x', e', hk⟩ := hu 0 u rfl
  cases e'
  rcases bY (show kH (Sum.inr t) u = true from hk) with ⟨i, tk, z, _⟩ | ⟨y, tk, z, rfl⟩
  ·cases z
  ·cases z
   exact .cons _ tk (rT h.2 (by simpa using hl) fun j v e => hu (j + 1) v (by simpa using e))
theorem TZ (hc : X.calm = true := by rfl) : b8 X (.builtin "sorted") zL := by
 intro pins s σ H xs us Q I r ⟨a, kvs, ss, e, ha, hk, h64, q⟩
 subst e
 obtain ⟨u, rfl, rx⟩ := vals1 r
 cases rx
 obtain ⟨hz, hd, vs, rel, dd⟩ := gH I.bN ha
 obtain ⟨ep, dd⟩ := dd.dictAt
 rw [rel.keys] at hk
 refine iQ (R := fun tt => tt = ss) (fun E' Q' k => ?_) (fun tt e => by rw [e]; exact h64) fun l s2 out c tt tt' g hl hat h1 h2 h3 h4 => ?_
 ·exact oA (kdl_dict (knd := bM X.prog X.w) (d := a) (kvs := vs) (ep := ep) hd) (by exact I.ok.hd hc) dd (by rw [<- rel.len]; exact hz) fun ws s1 g hl hw => k ws s1 ss g (rT hk hl hw) rfl
 ·subst h2
  exact ⟨.ref l, _, I.OW (o := .lst (tt'.map V.str)) g hl ⟨by rw [length_map, h3.length_eq]; rw [sizeLine_eq]; omega, out, c, fN h1, hat⟩, rfl, q _ tt' h3 h4 (I.bN.fresh hl)⟩
end
section
theorem KC (t : SetTable) (es : Array (Int × Value)) (h : Int) (x : Value) : (layNew t es h x).2.1.led = t.led := by
 unfold layNew
 split
 ·dsimp only
  generalize hp : SetTable.put t _ = z
  have hz : z.1.led = t.led := by rw [<- hp]; rfl
  unfold SetTable.orStandIn
  split
  ·exact hz
  ·exact hz
 ·rfl
theorem ET (t : SetTable) (es : Array (Int × Value)) (n : Nat) : (relayAll t es n).2.1.led = t.led /\ (t.plain = false -> (relayAll t es n).2.1.plain = false) := by
 unfold relayAll
 split
 ·rename_i t' order e
  have k : t'.led = t.led /\ t'.plain = t.plain := by
   unfold SetTable.relaid SetTable.laid at e
   cases c : SetTable.layClean (SetTable.sizeAbove n - 1) (es.map (·.1)) with
   | none => rw [c] at e; cases e
   | some o => rw [c] at e; cases e; exact ⟨rfl, rfl⟩
  dsimp only
  split
  ·exact ⟨k.1, fun z => k.2.trans z⟩
  ·exact ⟨rfl, fun _ => rfl⟩
 ·exact ⟨rfl, fun _ => rfl⟩
variable (prog : Program) (w : World)
noncomputable abbrev EK : Bool := w.params.followText "set-order"
noncomputable def hW (h : Heap) (a : Addr) (ks : List Str) (es : Array (Int × Value)) (ep : Nat) (t : SetTable) : Prop :=
 ∃ o, h.get? a = some o /\ o.ExactSet /\ o.data = .set es ep t /\ ElemsOf (PySem.strKind prog w) es.toList /\ (∃ us, StrsAre (es.toList.map (·.2)) us /\ us.Perm ks) /\ es.size < scanBound /\ t.fits es.size = true /\ t.led = !EK w /\ (es.size = 0 \/ t.plain = false)
noncomputable def eB (h : Heap) (a : Addr) (ks : List Str) : Prop := ∃ es ep t, hW prog w h a ks es ep t
variable {prog w}
theorem hW.at' (x : hW prog w h a ks es ep t) (k : ∀ o, h.get? a = some o -> h'.get? a = some o) : hW prog w h' a ks es ep t := let ⟨o, e, r⟩ := x; ⟨o, k o e, r⟩
theorem eB.at' (x : eB prog w h a ks) (k : ∀ o, h.get? a = some o -> h'.get? a = some o) : eB prog w h' a ks := let ⟨es, ep, t, r⟩ := x; ⟨es, ep, t, r.at' k⟩
noncomputable def lY (ks : List Str) (x : Str) : List Str := if x ∈ ks then ks else ks ++ [x]
theorem G1 {k x : Str} {t : Tok} : (PySem.strKind prog w).is k (.str x t) = decide (k = x) := KeyKind.is_eq_decide (strKind_is _ _ _ _) k
theorem xR : ∀ {vs : List Value} {us : List Str}, StrsAre vs us -> ∀ k, (∃ v ∈ vs, (PySem.strKind prog w).is k v = true) ↔ k ∈ us
 | _, _, .nil, k => by simp
 | _, _, .cons x t r, k => by
  have ih := xR r k
  rw [mem_cons, <- ih]
  constructor
  ·rintro ⟨v, hv, h⟩
   rcases mem_cons.mp hv with rfl | hv
   ·rw [G1] at h; exact .inl (of_decide_eq_true h)
   ·exact .inr ⟨v, hv, h⟩
  ·rintro (rfl | ⟨v, hv, h⟩)
   ·exact ⟨_, mem_cons_self, by rw [G1]; exact decide_eq_true rfl⟩
   ·exact ⟨v, mem_cons_of_mem _ hv, h⟩
theorem sP : ∀ {vs vs' : List Value} {us : List Str}, vs'.Perm vs -> StrsAre vs us -> ∃ us', StrsAre vs' us' /\ us'.Perm us := by
 intro vs vs' us p h
 have e : ∀ {l : List Value} {m : List Str}, StrsAre l m -> m = l.map strOf /\ ∀ v ∈ l, ∃ x t, v = .str x t := fun q => ⟨q.strs.symm, q.all⟩
 obtain ⟨e1, e2⟩ := e h
 refine ⟨vs'.map strOf, strsAre_map _ fun v hv => e2 v (p.mem_iff.mp hv), ?_⟩
 rw [e1]
 exact p.map strOf
variable {A : Around} {E : Value -> Shared -> Prop} {s : Shared}
theorem hW.put {o : Obj} {es' : Array (Int × Value)} {t' : SetTable} {ks' : List Str} (ho : h.get? a = some o) (hex : o.ExactSet) (hd : o.data = .set es ep t)
  (hel : ElemsOf (PySem.strKind prog w) es'.toList) (hu : ∃ us, StrsAre (es'.toList.map (·.2)) us /\ us.Perm ks') (hb : es'.size < scanBound) (hf : t'.fits es'.size = true) (hl : t'.led = !EK w) (hp : t'.plain = false) :
  ∃ o', (h.update a (Obj.putSet es' t')).get? a = some o' /\ o'.ExactSet /\ o'.data = .set es' (ep + 1) t' /\ hW prog w (h.update a (Obj.putSet es' t')) a ks' es' (ep + 1) t' := by
 have g : (h.update a (Obj.putSet es' t')).get? a = some { o with data := .set es' (ep + 1) t' } := by
  have := get?_update_self (Obj.putSet es' t') ho (by rw [putSet_of es' t' hd]; rfl)
  rw [putSet_of es' t' hd] at this
  exact this
 exact ⟨_, g, hex, rfl, _, g, hex, rfl, hel, hu, hb, hf, hl, .inr hp⟩
theorem qJ {l l' : List (Int × Value)} {us : List Str} (p : l'.Perm l) (h : StrsAre (l.map (·.2)) us) : ∃ us', StrsAre (l'.map (·.2)) us' /\ us'.Perm us := sP (p.map _) h
theorem add_str {a : Addr} {x : Str} {tk : Tok} {Q : Bool -> Shared -> Prop} (hS : eB prog w s.heap a ks) (hroom : ks.length + 1 < scanBound)
  (h : ∀ h' b, Heap.SameBut a s.heap h' -> eB prog w h' a (lY ks x) -> Q b { s with heap := h' }) : wpAny (model prog w) A (setAddHashed a (.str x tk) ((PySem.strKind prog w).hash x)) Q E s := by
 obtain ⟨es, ep, t, o, ho, hex, hd, hel, ⟨us, hus, hpm⟩, hb, hf, hled, hpl⟩ := hS
 have hn : es.size = ks.length := by
  have := hus.length
  rw [length_map, length_toList, hpm.length_eq] at this
  exact this
 have hkey : (PySem.strKind prog w).is x (.str x tk) = true := strKind_is _ _ _ _
 have hmem : (∃ e ∈ es.toList, (PySem.strKind prog w).is x e.2 = true) ↔ x ∈ ks := by
  rw [<- hpm.mem_iff, <- xR (prog := prog) (w := w) hus x]
  constructor
  ·rintro ⟨e, he, q⟩; exact ⟨e.2, mem_map.mpr ⟨e, he, rfl⟩, q⟩
  ·rintro ⟨v, hv, q⟩
   obtain ⟨e, he, rfl⟩ := mem_map.mp hv
   exact ⟨e, he, q⟩
 unfold setAddHashed setAddHashedIn
 refine wpAny_holding (wpAny_bind (wpAny_setState_of ho hd hf ?_))
 dsimp only
 rw [byScan_of (x := .str x tk) rfl hb hel]
 simp only [↓reduceIte]
 unfold setAddByScan
 refine wpAny_bind (wpAny_bind (wpAny_rule (wpAny_bind (wpAny_setScan_of hkey ho hd hf hel ?_))))
 cases hr : List.findIdx? (fun e => (PySem.strKind prog w).is x e.2) es.toList with
 | some j =>
  dsimp only
  obtain ⟨hj, hpj, _⟩ := List.findIdx?_eq_some_iff_getElem.mp hr
  have hx : x ∈ ks := hmem.mp ⟨_, getElem_mem hj, hpj⟩
  refine wpAny_pure (wpAny_pure ?_)
  have := h s.heap false (Heap.SameBut.refl a s.heap) (by unfold lY; rw [if_pos hx]; exact ⟨es, ep, t, o, ho, hex, hd, hel, ⟨us, hus, hpm⟩, hb, hf, hled, hpl⟩)
  exact this
 | none =>
  dsimp only
  have hx : x ∉ ks := fun z => by
   obtain ⟨e, he, q⟩ := hmem.mpr z
   have := List.findIdx?_eq_none_iff.mp hr e he
   rw [q] at this
   cases this
  have gw : ∀ (b : Bool) {s₁ : Shared} {Q' : Unit -> Shared -> Prop}, Q' () s₁ -> wpAny (model prog w) A (match b with | true => rule "set.scan.the-table-gave-way" | false => pure ()) Q' E s₁ :=
   fun b s₁ Q' hq => by
    cases b
    ·exact wpAny_pure hq
    ·exact wpAny_rule hq
  have p1 := layNew_perm t es ((PySem.strKind prog w).hash x) (.str x tk)
  have f1 := layNew_fits t es ((PySem.strKind prog w).hash x) (.str x tk)
  have l1 := KC t es ((PySem.strKind prog w).hash x) (.str x tk)
  generalize layNew t es ((PySem.strKind prog w).hash x) (.str x tk) = Z at p1 f1 l1 ⊢
  obtain ⟨es1, t1, dum, gave⟩ := Z
  dsimp only at p1 f1 l1 ⊢
  rw [Array.toList_push] at p1
  have el1 : ElemsOf (PySem.strKind prog w) es1.toList := (hel.push hkey rfl).perm p1
  have z1 : es1.size = ks.length + 1 := by rw [<- length_toList, p1.length_eq, length_append, length_toList, hn]; rfl
  have b1 : es1.size < scanBound := by rw [z1]; exact hroom
  have u1 : ∃ us', StrsAre (es1.toList.map (·.2)) us' /\ us'.Perm (lY ks x) := by
   have q : StrsAre ((es.toList ++ [((PySem.strKind prog w).hash x, Value.str x tk)]).map (·.2)) (us ++ [x]) := by
    rw [map_append]
    have app : ∀ {l : List Value} {m : List Str}, StrsAre l m -> StrsAre (l ++ [.str x tk]) (m ++ [x]) := by
     intro l m hl
     induction hl with
     | nil => exact .cons x tk .nil
     | cons y t r ih => exact .cons y t ih
    exact app hus
   obtain ⟨us', a1, a2⟩ := qJ p1 q
   exact ⟨us', a1, by unfold lY; rw [if_neg hx]; exact a2.trans (hpm.append_right [x])⟩
  refine wpAny_bind (gw _ ?_)
  have tail : ∀ t2 : SetTable, t2.fits es1.size = true -> t2.led = !EK w -> t2.plain = false -> wpAny (model prog w) A (do
    storeSet a es1 t2
    if (!dum && t2.tooFull) = true then do
      let (es, t, gave) := relayAll t2 es1 (SetTable.grown es1.size)
      (match gave with | true => rule "set.scan.the-table-gave-way" | false => pure ())
      storeSet a es t
      return some true
     else return some true) (fun r s' => wpAny (model prog w) A (match r with | some added => pure added | none => setAddHashedIn a (.str x tk) ((PySem.strKind prog w).hash x) 99999) Q E s') E s := fun t2 f2 l2 pl2 => by
   refine wpAny_bind (wpAny_storeSet_of ho hd ?_ (fits_of_scanBound b1))
   obtain ⟨o2, ho2, hex2, hd2, hS2⟩ := hW.put ho hex hd el1 u1 b1 f2 l2 pl2
   have sb := Heap.SameBut.update s.heap a (Obj.putSet es1 t2)
   split
   ·have p3 := relayAll_perm t2 es1 (SetTable.grown es1.size)
    have f3 := relayAll_fits t2 es1 (SetTable.grown es1.size)
    obtain ⟨l3, pl3⟩ := ET t2 es1 (SetTable.grown es1.size)
    generalize relayAll t2 es1 (SetTable.grown es1.size) = Y at p3 f3 l3 pl3 ⊢
    obtain ⟨es3, t3, g3⟩ := Y
    dsimp only at p3 f3 l3 pl3 ⊢
    have z3 : es3.size = es1.size := by rw [<- length_toList, p3.length_eq, length_toList]
    have b3 : es3.size < scanBound := by rw [z3]; exact b1
    refine wpAny_bind (gw _ (wpAny_bind (wpAny_storeSet_of ho2 hd2 ?_ (fits_of_scanBound b3))))
    obtain ⟨us1, c1, c2⟩ := u1
    obtain ⟨us3, c3, c4⟩ := qJ p3 c1
    obtain ⟨_, _, _, _, hS3⟩ := hW.put ho2 hex2 hd2 (el1.perm p3) ⟨us3, c3, c4.trans c2⟩ b3 f3 (l3.trans l2) (pl3 pl2)
    exact wpAny_pure (wpAny_pure (h _ true (sb.trans (Heap.SameBut.update _ a _)) ⟨_, _, _, hS3⟩))
   ·exact wpAny_pure (wpAny_pure (h _ true sb ⟨_, _, _, hS2⟩))
  cases hp1 : t1.plain with
  | true =>
   simp only [if_true]
   refine wpAny_bind ?_
   rw [hashByValue_scannable 8 (x := .str x tk) rfl]
   refine wpAny_pure ?_
   exact tail { t1 with plain := false } (SetTable.fits_plain_off f1) (l1.trans hled) rfl
  | false =>
   simp only [false_eq_true, if_false]
   refine wpAny_bind (wpAny_pure ?_)
   simp only [if_true]
   exact tail t1 f1 (l1.trans hled) hp1
end
noncomputable def cO (ss : List Str) : List Str := ss.foldl lY []
theorem wG (ss : List Str) (x : Str) : cO (ss ++ [x]) = lY (cO ss) x := by unfold cO; rw [foldl_append]; rfl
theorem GO (ks : List Str) (x : Str) : (lY ks x).length <= ks.length + 1 := by
 unfold lY
 split
 ·omega
 ·rw [length_append]; exact le_refl _
theorem p5 (ss : List Str) : (cO ss).length <= ss.length := by
 have key : ∀ (l : List Str) (k : List Str), (l.foldl lY k).length <= k.length + l.length := by
  intro l
  induction l with
  | nil => intro k; exact le_refl _
  | cons x l ih =>
   intro k
   have := ih (lY k x)
   have := GO k x
   rw [foldl_cons, length_cons]
   omega
 have := key ss []
 simpa [cO] using this
section
variable {prog : Program} {w : World} {A : Around} {E : Value -> Shared -> Prop} {s : Shared}
theorem wC {R : Result -> Shared -> Prop} {fp wr : List Addr} {G : Array GenState -> Array GenState -> Prop} {Pz : Nat -> Value -> Prop} {St : Nat -> Shared -> Prop}
  (W : WalksS prog w A.in1 I fp wr G ss.length Pz St) (S : Addr) (hSf : S ∉ fp) (hval : ∀ i v, Pz i v -> ∃ x t, ss[i]? = some x /\ v = .str x t) (hb : ss.length + 1 < scanBound) :
  ∀ (k i : Nat) (s : Shared), ss.length - i = k -> i <= ss.length -> St i s -> eB prog w s.heap S (cO (ss.take i)) ->
   (∀ s', Moved (S :: wr) G s s' -> eB prog w s'.heap S (cO ss) -> R (.ok (.ret .none)) s') ->
   codeAny (model prog w) A (.builtin "set.update.loop" ⟨[.ref S, .ref I], []⟩) R s := by
 have nw : S ∉ wr := fun h => hSf (W.sub _ h)
 have sub : ∀ b ∈ wr, b ∈ S :: wr := fun b hb => mem_cons_of_mem _ hb
 intro k
 induction k with
 | zero =>
  intro i s hk hi st hS hR
  have e : i = ss.length := by omega
  subst e
  refine codeAny_builtin F.entry_set_update_loop ?_
  rw [Around.under_plainId F.plain_set_update_loop _]
  refine wpAny_bind (m := pyNext (.ref I)) (W.done s _ _ st fun s' hm => ?_)
  refine wpAny_pure (hR s' (hm.mono sub) ?_)
  rw [take_length] at hS
  exact hS.at' fun o e => hm.heap S _ nw e
 | succ k ih =>
  intro i s hk hi st hS hR
  have hlt : i < ss.length := by omega
  refine codeAny_builtin F.entry_set_update_loop ?_
  rw [Around.under_plainId F.plain_set_update_loop _]
  refine wpAny_bind (m := pyNext (.ref I)) (W.item i s _ _ hlt st fun v s' hP st' hm => ?_)
  obtain ⟨x, t, hx, rfl⟩ := hval i v hP
  have hS' := hS.at' (h' := s'.heap) fun o e => hm.heap S _ nw e
  refine wpAny_bind (m := holding [Value.str x t] (setAdd S (.str x t))) (wpAny_holding ?_)
  unfold setAdd
  refine wpAny_holding (wpAny_bind ((PySem.strKind prog w).pyHash (k := x) (strKind_is _ _ _ _) ?_))
  have hl : (cO (ss.take i)).length + 1 < scanBound := by
   have := p5 (ss.take i)
   rw [length_take] at this
   omega
  refine add_str (s := { s' with toks := s'.toks + 1 }) hS' hl fun h' b sb hS2 => ?_
  have hS3 : eB prog w h' S (cO (ss.take (i + 1))) := by
   rw [take_succ, hx, toList_some, wG]
   exact hS2
  refine wpAny_pure ⟨plainId_quiet F.plain_set_update_loop _, ih (i + 1) _ (by omega) hlt (W.frame _ s' _ _ st' (le_succ _) fun b hb o e => ?_) hS3 fun s'' hm'' hS'' => ?_⟩
  ·rw [sb.2 b (fun z => hSf (by rw [<- z]; exact hb))]; exact e
  ·refine hR s'' (Moved.trans W.gtrans ((hm.mono sub).then_heap (le_succ _) fun b o hb e => ?_) hm'') hS''
   rw [sb.2 b (fun z => hb (by rw [z]; exact mem_cons_self))]; exact e
theorem EA (ho : s.heap.get? a = some { cls := .type "set", dict := none, data := .set #[] 0 (.fresh 0 0 (!EK w)) }) : eB prog w s.heap a [] :=
 ⟨#[], 0, _, _, ho, ⟨rfl, rfl, rfl⟩, rfl, fun e he => by simp at he, ⟨[], .nil, .refl _⟩, by decide, by rfl, rfl, .inl rfl⟩
theorem LR (v : Value) {Q₁ : Value -> Shared -> Prop} (h : Q₁ (.ref s.heap.objs.size) { s with heap := s.heap.push { cls := .type "set", dict := none, data := .set #[] 0 (.fresh 0 0 (!EK w)) } }) :
  codeAny (model prog w) A (.call (.builtin "set.__new__") ⟨[.type "set", v], []⟩) (wants Q₁ E) s := by
 refine codeAny_of_tree ?_
 refine wpAny_bind (m := checkBuiltinCall "set.__new__" ⟨[.type "set", v], []⟩) (wpAny_of_eq (F.newCall_set_1 v) (wpAny_pure ⟨plainId_quiet F.plain_set_new _, codeAny_builtin F.entry_set_new ?_⟩))
 rw [Around.under_plainId F.plain_set_new _]
 unfold Builtin.«set.__new__» Builtin.Frozenset.newClass
 have q1 := sub_set_self
 obtain ⟨hp, gn, dr, tk, os⟩ := s
 dsimp only
 wp_walk
 refine wpAny_askSetting (wpAny_pure ?_)
 dsimp only
 simp only [newObj]
 exact wpAny_bind (wpAny_alloc (wpAny_pure (wpAny_pure h)))
end
section
variable {prog : Program} {w : World} {A : Around} {E : Value -> Shared -> Prop} {s : Shared}
noncomputable abbrev fA (w : World) : Obj := { cls := .type "set", dict := none, data := .set #[] 0 (.fresh 0 0 (!EK w)) }
theorem JE : ∀ {vs : List Value} {ss : List Str}, StrsAre vs ss -> ∀ (i : Nat) v, vs[i]? = some v -> ∃ x t, ss[i]? = some x /\ v = .str x t
 | _, _, .nil, i, v, h => by simp at h
 | _, _, .cons x t r, 0, v, h => ⟨x, t, rfl, by simpa using h.symm⟩
 | _, _, .cons x t r, i + 1, v, h => by
  obtain ⟨y, u, h1, h2⟩ := JE r i v (by simpa using h)
  exact ⟨y, u, by simpa using h1, h2⟩
theorem wK {vs : List Value} (hh : A.handled = none) (hl : s.heap.IsList l vs.toArray) (hs : StrsAre vs ss) (hb : ss.length + 1 < scanBound)
  (h : ∀ (h' : Heap) (tk : Nat), eB prog w h' s.heap.objs.size (cO ss) -> (∀ b o, s.heap.get? b = some o -> h'.get? b = some o) -> Q (.ref s.heap.objs.size) { s with heap := h', toks := tk }) :
  wpAny (model prog w) A (call (.type "set") [.ref l]) Q E s := by
 obtain ⟨c, tl, q0⟩ := F.called_set.mro
 have q1 := F.called_set.made
 have q2 := F.called_set.sub
 refine wpAny_call (codeAny_of_tree ?_)
 show wpAny _ _ (callAny (.type "set") _) _ _ _
 refine wpAny_pure ⟨Code.quiet_builtin _ (by decide +kernel), codeAny_builtin F.entry_type_call ?_⟩
 rw [Around.under_plain (weight_type_call_type "set" [.ref l] []) rfl]
 have q3 := F.called_set.notType
 have q4 := F.called_set.canCreate
 have q5 := F.typeCall_set_1 (.ref l)
 repeat (any_goals (first | assumption | wp_step))
 refine codeAny_mono (LR (.ref l) (E := E) (Q₁ := fun obj s₁ => obj = .ref s.heap.objs.size /\ s₁ = { s with heap := s.heap.push (fA w) }) ⟨rfl, rfl⟩) fun r s₁ hr => ?_
 cases r with
 | error e => exact hr
 | ok fl =>
  cases fl with
  | ret obj =>
   obtain ⟨rfl, rfl⟩ := hr
   have gS : (s.heap.push (fA w)).get? s.heap.objs.size = some (fA w) := get?_push_size _ rfl
   have tS : Shared.TypeIs { s with heap := s.heap.push (fA w) } (.ref s.heap.objs.size) "set" := ⟨_, gS, rfl⟩
   have q6 := F.called_set.init.lookup
   have q7 := F.called_set.init.bind (.ref s.heap.objs.size)
   repeat (any_goals (first | assumption | wp_step))
   refine codeAny_mono (codeAny_call_builtin (R := wants (fun r s₂ => r = .none /\ ∃ h' tk, s₂ = { s with heap := h', toks := tk } /\ eB prog w h' s.heap.objs.size (cO ss) /\ ∀ b o, s.heap.get? b = some o -> h'.get? b = some o) E)
    F.called_set.init.plain F.entry_set_init (check_set_init_1 tS ?_)) fun r₂ s₂ hr₂ => ?_
   ·have lS : l < s.heap.objs.size := let ⟨_, e, _⟩ := hl; lt_size e
    have hl1 : (s.heap.push (fA w)).IsList l vs.toArray := hl.push _
    obtain ⟨ol, gl, cl, nl, dl⟩ := id hl1
    have q8 := F.sub_list_set
    have q9 := F.sub_list_frozenset
    have tL : Shared.TypeIs { s with heap := s.heap.push (fA w) } (.ref l) "list" := ⟨ol, gl, cl⟩
    have q10 : (Value.type "list" == Value.type "dict") = false := by decide
    unfold Builtin.«set.__init__» noKeywords Builtin.Frozenset.updateFrom
    generalize hPI : pyIter = PI
    wp_walk using wpAny_typeOf tL
    subst hPI
    refine wpAny_pyIter_list hl1 (wpAny_bind (wpAny_runValue ?_))
    have zP : (s.heap.push (fA w)).objs.size = s.heap.objs.size + 1 := size_push ..
    have nI : l ≠ (s.heap.push (fA w)).objs.size := by rw [zP]; exact ne_of_lt (lt_succ_of_lt lS)
    have nS : s.heap.objs.size ∉ [(s.heap.push (fA w)).objs.size, l] := by
     rw [zP]
     simp only [mem_cons, not_mem_nil, or_false, not_or]
     exact ⟨ne_of_lt (lt_succ_self _), ne_of_gt lS⟩
    have zs : vs.toArray.size = ss.length := by rw [size_toArray]; exact hs.length
    have W := (Walks.list (A := A.in1.in1.in1) (prog := prog) (w := w) (by exact hh) _ l nI vs.toArray).toS
    rw [zs] at W
    refine wC W s.heap.objs.size nS (fun i v hv => JE hs i v (by simpa using hv)) hb (ss.length - 0) 0 _ (by omega) (zero_le _) ⟨⟨_, get?_push_size _ rfl, rfl, rfl⟩, hl1.push _⟩ ?_ ?_
    ·exact EA (s := { s with heap := (s.heap.push (fA w)).push _ }) (get?_push_of_some _ gS)
    ·intro s' hm hS'
     obtain ⟨h', gn, dr, tk, os⟩ := s'
     have e1 : gn = s.gens := hm.gens
     have e2 : dr = s.drawn := hm.drawn
     have e3 : os = s.os := hm.os
     subst e1 e2 e3
     refine wpAny_pure (wpAny_pure ⟨rfl, h', tk, rfl, hS', fun b o e => ?_⟩)
     have hb := lt_size e
     refine hm.heap b o ?_ (get?_push_of_some _ (get?_push_of_some _ e))
     rw [zP]
     simp only [mem_cons, not_mem_nil, or_false, not_or]
     exact ⟨ne_of_lt hb, ne_of_lt (lt_succ_of_lt hb)⟩
   ·cases r₂ with
    | error e => exact hr₂
    | ok fl₂ =>
     cases fl₂ with
     | ret r =>
      obtain ⟨rfl, h', tk, rfl, hS', hk'⟩ := hr₂
      repeat (any_goals (first | assumption | wp_step))
      exact h _ _ hS' hk'
     | _ => exact hr₂.elim
  | _ => exact hr.elim
end
section
theorem fR : Slot "set_iterator" "__next__" "set_iterator.__next__" := Slot.of (owner := "set_iterator") (n := "__next__") (by rw [typeLookup_type, builtinLookup_eq_fast]; kernel_rfl) (by decide +kernel) (by decide +kernel) (by decide +kernel) (by first | exact .inl (by decide +kernel) | exact .inr (by decide +kernel)) (by rw [isSubtype_type]; kernel_rfl)
theorem lX : Slot "set_iterator" "__iter__" "set_iterator.__iter__" := Slot.of (owner := "set_iterator") (n := "__iter__") (by rw [typeLookup_type, builtinLookup_eq_fast]; kernel_rfl) (by decide +kernel) (by decide +kernel) (by decide +kernel) (by first | exact .inl (by decide +kernel) | exact .inr (by decide +kernel)) (by rw [isSubtype_type]; kernel_rfl)
theorem qW : entryFor table "set_iterator.__next__" = some Builtin.«set_iterator.__next__» := entryFor_of_tree (by kernel_rfl)
theorem uO : entryFor table "set.__iter__" = some Builtin.«frozenset.__iter__» := entryFor_alias (id' := "frozenset.__iter__") (by kernel_rfl) rfl (by decide +kernel) (by kernel_rfl)
theorem tO (a : Value) : argsOk "set_iterator.__next__" ⟨[a], []⟩ := by
 unfold argsOk
 kernel_rfl
variable {prog : Program} {w : World} {A : Around} {E : Value -> Shared -> Prop} {s : Shared}
theorem wp_choose {Q : Nat -> Shared -> Prop} (hn : n ≠ 0) (h : ∀ i dr, i < n -> Q i { s with drawn := dr }) : wpAny (model prog w) A (choose .order n) Q E s := by
 intro Γ p hΓ
 exact ⟨hn, h _ _ (Nat.mod_lt _ (Nat.pos_of_ne_zero hn))⟩
theorem AO : ∀ (n : Nat) (xs : List α) {s : Shared} {Q : List α -> Shared -> Prop}, xs.length <= n -> (∀ ys dr, ys.Perm xs -> Q ys { s with drawn := dr }) -> wpAny (model prog w) A (drawOrder n xs) Q E s
 | 0, xs, s, Q, hl, h => by
  have e : xs = [] := List.eq_nil_of_length_eq_zero (by omega)
  subst e
  unfold drawOrder
  exact wpAny_pure (h [] s.drawn (.refl _))
 | n + 1, [], s, Q, hl, h => by
  unfold drawOrder
  exact wpAny_pure (h [] s.drawn (.refl _))
 | n + 1, x :: xs, s, Q, hl, h => by
  unfold drawOrder
  refine wpAny_bind (wp_choose (by simp) fun i dr hi => ?_)
  rw [getElem?_eq_getElem hi]
  dsimp only
  refine wpAny_bind (AO n _ (by rw [List.length_eraseIdx_of_lt hi]; rw [length_cons] at hl ⊢; omega) fun ys dr2 hp => wpAny_pure (h _ dr2 ((hp.cons _).trans ?_)))
  have er : ∀ {l : List α} {i : Nat} (h : i < l.length), (l[i] :: l.eraseIdx i).Perm l := by
   intro l
   induction l with
   | nil => intro i h; exact absurd h (Nat.not_lt_zero _)
   | cons x l ih =>
    intro i h
    cases i with
    | zero => exact .refl _
    | succ i => exact (List.Perm.swap _ _ _).trans ((ih (i := i) (by simpa using h)).cons x)
  exact er hi
theorem ED (f : Nat -> Nat) (xs : Array α) : (pickOrder f xs).toList.Perm xs.toList := by
 have key : ∀ (n k : Nat) (l : List α) (o : Array α), l.length <= n -> (pickOrder.go f n k l o).toList.Perm (o.toList ++ l) := by
  intro n
  induction n with
  | zero =>
   intro k l o hl
   have e : l = [] := List.eq_nil_of_length_eq_zero (by omega)
   subst e
   unfold pickOrder.go
   rw [append_nil]
  | succ n ih =>
   intro k l o hl
   unfold pickOrder.go
   cases l with
   | nil => simp
   | cons x l =>
    have hi : f k % (x :: l).length < (x :: l).length := Nat.mod_lt _ (by simp)
    rw [getElem?_eq_getElem hi]
    dsimp only
    refine (ih _ _ _ (by rw [List.length_eraseIdx_of_lt hi]; rw [length_cons] at hl ⊢; omega)).trans ?_
    rw [Array.toList_push, append_assoc]
    refine List.Perm.append_left _ ?_
    have er : ∀ {l : List α} {i : Nat} (h : i < l.length), (l[i] :: l.eraseIdx i).Perm l := by
     intro l
     induction l with
     | nil => intro i h; exact absurd h (Nat.not_lt_zero _)
     | cons x l ih =>
      intro i h
      cases i with
      | zero => exact .refl _
      | succ i => exact (List.Perm.swap _ _ _).trans ((ih (i := i) (by simpa using h)).cons x)
    exact er hi
 have := key xs.size 0 xs.toList #[] (by simp)
 simpa [pickOrder] using this
end
section
variable {prog : Program} {w : World} {A : Around} {E : Value -> Shared -> Prop} {s : Shared}
noncomputable def mL (h : Heap) (I a : Addr) (first : Value) (i n ep : Nat) : Prop := ∃ o, h.get? I = some o /\ o.cls = .type "set_iterator" /\ o.data = .fields #[first, rawInt (i : Int), .ref a, rawInt (n : Int), rawInt (ep : Int)]
theorem mL.typeIs {first : Value} (x : mL s.heap I a first i n ep) : s.TypeIs (.ref I) "set_iterator" := let ⟨o, ho, hc, _⟩ := x; ⟨o, ho, hc⟩
inductive mQ (w : World) (h : Heap) (es : Array (Int × Value)) (t : SetTable) (a : Addr) (ep : Nat) (ord : List Value) (T : Addr) : Value -> Nat -> Prop
 | drawn {ps : List Nat} {o : Obj} (i : Nat) (ho : h.get? T = some o) (hd : o.data = .seq (ps.map fun i : Nat => rawInt i).toArray 0) (hc : o.cls = .type "tuple") (he : ∀ j : Nat, (ps[j]?.bind fun p => (es[p]?).map (·.2)) = ord[j]?) (hl : ∀ (j : Nat) p, ps[j]? = some p -> p < es.size) (hn : ps.length = es.size) : mQ w h es t a ep ord T (.ref T) i
 | text (k i : Nat) (hb : EK w = true) (he : ord = (pickOrder (w.params.setOrder a ep) es).toList.map (·.2)) : mQ w h es t a ep ord T (rawInt (k : Int)) i
 | none (k : Nat) (hb : EK w = false) (hn : es.size = 0) (he : ord = []) : mQ w h es t a ep ord T (rawInt (k : Int)) 0
 | MI {x : Int × Value} {p : Nat} (hb : EK w = false) (hn : es = #[x]) (hp : t.place = #[p]) (he : ord = [x.2]) : mQ w h es t a ep ord T (rawInt 0) 0
 | NT {x : Int × Value} {p : Nat} (hb : EK w = false) (hn : es = #[x]) (hp : t.place = #[p]) (he : ord = [x.2]) : mQ w h es t a ep ord T (rawInt ((p + 1 : Nat) : Int)) 1
theorem mQ.at' (x : mQ w h es t a ep ord T f i) (k : ∀ o, h.get? T = some o -> h'.get? T = some o) : mQ w h' es t a ep ord T f i := by
 cases x with
 | drawn i ho hd hc he hl hn => exact .drawn i (k _ ho) hd hc he hl hn
 | text k i hb he => exact .text k i hb he
 | none k hb hn he => exact .none k hb hn he
 | MI hb hn hp he => exact .MI hb hn hp he
 | NT hb hn hp he => exact .NT hb hn hp he
theorem A4 {xs : Array α} (h : xs.size = 1) : ∃ x, xs = #[x] := by
 obtain ⟨l⟩ := xs
 match l, h with
 | [x], _ => exact ⟨x, rfl⟩
theorem m7 (h : es.size <= 1) : (!t.plain && decide (es.size > 1)) = false := by
 have : decide (es.size > 1) = false := decide_eq_false (by omega)
 rw [this, Bool.and_false]
theorem JT (hS : hW prog w s.heap a ks es ep t)
  (h : ∀ (h' : Heap) dr I T first (ord : List Value), (∀ b o, s.heap.get? b = some o -> h'.get? b = some o) -> s.heap.objs.size <= I -> s.heap.objs.size <= T -> T ≠ I -> mL h' I a first 0 es.size ep -> mQ w h' es t a ep ord T first 0 -> ord.Perm (es.toList.map (·.2)) -> Q (.ref I) { s with heap := h', drawn := dr }) :
  wpAny (model prog w) A (pyIter (.ref a)) Q E s := by
 obtain ⟨o, ho, hex, hd, hel, hus, hb, hf, hled, hpl⟩ := id hS
 have tS : s.TypeIs (.ref a) "set" := ⟨o, ho, hex.1⟩
 refine wpAny_pyIter_slot tS F.slot_set_iter (wpAny_call_entry F.slot_set_iter tS uO ?_ (F.args_set_iter_1 _))
 unfold Builtin.«frozenset.__iter__» Builtin.Frozenset.slot0 slotArgs
 simp only [List.isEmpty_nil, Bool.not_true, false_eq_true, ↓reduceIte, bind_assoc, length_nil, bne_self_eq_false]
 unfold Builtin.Frozenset.addrOf Builtin.Frozenset.sizeOf
 refine wpAny_bind (wpAny_pure ?_)
 try dsimp only
 refine wpAny_bind (wpAny_pure ?_)
 refine wpAny_bind (wpAny_bind (wpAny_setEntries_of ho hd hf (wpAny_pure ?_)))
 refine wpAny_bind ?_
 unfold setDrawn
 refine wpAny_bind (wpAny_setState_of ho hd hf ?_)
 unfold setsByText
 refine wpAny_bind (wpAny_bind (wpAny_askSetting (wpAny_pure ?_)))
 refine wpAny_pure ?_
 have hT : t.place.size = es.size := by
  have := hf
  simp only [SetTable.fits, and_eq_true, beq_iff_eq] at this
  exact this.1
 have nx := fR.lookup
 split
 ·refine wpAny_bind (AO es.size (List.range es.size) (by simp) fun ps dr hp => ?_)
  refine wpAny_bind (wpAny_newTuple ?_ (by rw [length_map, hp.length_eq, length_range]; exact fits_of_scanBound hb))
  have ho2 : (s.heap.push { cls := .type "tuple", data := .seq (ps.map fun i : Nat => rawInt i).toArray }).get? a = some o := get?_push_of_some _ ho
  refine wpAny_bind (wpAny_setEpoch_of ho2 hd hf ?_)
  refine wpAny_bind (m := newFields "set_iterator" _) (wpAny_newObj_type (wpAny_pure ⟨_, rfl, "set_iterator", _, ⟨_, get?_push_size _ rfl, rfl⟩, nx, ?_⟩))
  have hps : ∀ p ∈ ps, p < es.size := fun p hp' => by simpa using hp.mem_iff.mp hp'
  have eT : (s.heap.push { cls := .type "tuple", data := .seq (ps.map fun i : Nat => rawInt i).toArray }).objs.size = s.heap.objs.size + 1 := size_push ..
  refine h _ dr _ s.heap.objs.size _ (ps.filterMap fun p => (es[p]?).map (·.2)) (fun b u e => get?_push_of_some _ (get?_push_of_some _ e)) (by rw [eT]; exact le_succ _) (le_refl _) (by rw [eT]; exact ne_of_lt (lt_succ_self _)) ⟨_, get?_push_size _ rfl, rfl, rfl⟩
   (.drawn (ps := ps) 0 (get?_push_of_some _ (get?_push_size _ rfl)) rfl rfl (fun j => ?_) (fun j p e => hps p (mem_of_getElem? e)) (by rw [hp.length_eq, length_range])) ?_
  ·have key : ∀ (l : List Nat), (∀ p ∈ l, p < es.size) -> ∀ j : Nat, (l[j]?.bind fun p => (es[p]?).map (·.2)) = (l.filterMap fun p => (es[p]?).map (·.2))[j]? := by
    intro l
    induction l with
    | nil => intro _ j; simp
    | cons q l ih =>
     intro hq j
     have e : (es[q]?).map (·.2) = some es[q]!.2 := by
      have := hq q mem_cons_self
      rw [Array.getElem?_eq_getElem this]; simp [this]
     rw [filterMap_cons, e]
     cases j with
     | zero => simpa using e
     | succ j => simpa using ih (fun p hp => hq p (mem_cons_of_mem _ hp)) j
   exact key ps hps j
  ·refine (hp.filterMap _).trans ?_
   have e : (List.range es.size).filterMap (fun p => (es[p]?).map (·.2)) = es.toList.map (·.2) := by
    have e1 := filterMap_getElem?_range (es.map (·.2))
    rw [Array.size_map, Array.toList_map] at e1
    rw [<- e1]
    congr 1
    funext p
    simp
   rw [e]
 ·rename_i c
  have c : ¬ (!EK w && (!t.plain && decide (es.size > 1))) = true := c
  refine wpAny_bind (wpAny_pure (wpAny_bind (wpAny_setEpoch_of ho hd hf ?_)))
  refine wpAny_bind (m := newFields "set_iterator" _) (wpAny_newObj_type (wpAny_pure ⟨_, rfl, "set_iterator", _, ⟨_, get?_push_size _ rfl, rfl⟩, nx, ?_⟩))
  have go : ∀ ord, (∀ h', mQ w h' es t a ep ord (s.heap.objs.size + 1) (rawInt 0) 0) -> ord.Perm (es.toList.map (·.2)) -> Q (.ref s.heap.objs.size) { s with heap := s.heap.push { cls := .type "set_iterator", data := .fields [rawInt 0, rawInt 0, Value.ref a, rawInt (es.size : Int), rawInt (ep : Int)].toArray } } := fun ord h1 h2 =>
   h _ s.drawn _ (s.heap.objs.size + 1) _ ord (fun b u e => get?_push_of_some _ e) (le_refl _) (le_succ _) (ne_of_gt (lt_succ_self _)) ⟨_, get?_push_size _ rfl, rfl, rfl⟩ (h1 _) h2
  cases hbt : EK w with
  | true => exact go _ (fun h' => .text 0 0 hbt rfl) ((ED _ es).map _)
  | false =>
   by_cases z0 : es.size = 0
   ·refine go [] (fun h' => .none 0 hbt z0 rfl) ?_
    have e0 : es = #[] := Array.eq_empty_of_size_eq_zero z0
    rw [e0]
    exact .refl _
   ·have z1 : es.size = 1 := by
     have hp := hpl.resolve_left z0
     rw [hbt, hp] at c
     simp at c
     omega
    obtain ⟨x, ex⟩ := A4 z1
    obtain ⟨p, pp⟩ := A4 (hT.trans z1)
    exact go [x.2] (fun h' => .MI hbt ex pp rfl) (by rw [ex]; exact .refl _)
end
section
variable {prog : Program} {w : World} {A : Around} {E : Value -> Shared -> Prop} {s : Shared}
theorem mL.put {k : Nat} {x : Value} (hit : mL h I a f i n ep) (hk : k < 5) :
  ∃ o, (h.update I (Obj.mapFields (·.setIfInBounds k x))).get? I = some o /\ o.cls = .type "set_iterator" /\ o.data = .fields (#[f, rawInt (i : Int), .ref a, rawInt (n : Int), rawInt (ep : Int)].setIfInBounds k x) := by
 obtain ⟨o, ho, hc, hd⟩ := hit
 exact ⟨_, get?_update_self _ ho (Obj.isFreed_of_fields (Obj.data_mapFields hd _)), (Obj.cls_mapFields ..).trans hc, Obj.data_mapFields hd _⟩
theorem vR {a : Addr} {es : Array (Int × Value)} {ep i : Nat} {Q : Option Value -> Shared -> Prop} (hh : A.handled = none)
  (hS : hW prog w s.heap a ks es ep t) (hit : mL s.heap I a f i es.size ep) (ho : mQ w s.heap es t a ep ord T f i) (hn : ord.length = es.size) (nI : a ≠ I) (nT : T ≠ I)
  (hi : ∀ v f' h', ord[i]? = some v -> mL h' I a f' (i + 1) es.size ep -> mQ w h' es t a ep ord T f' (i + 1) -> (∀ b o, b ≠ I -> s.heap.get? b = some o -> h'.get? b = some o) -> Q (some v) { s with heap := h' })
  (he : ∀ h', ord[i]? = none -> (∀ b o, b ≠ I -> s.heap.get? b = some o -> h'.get? b = some o) -> Q none { s with heap := h' }) : wpAny (model prog w) A (pyNext (.ref I)) Q E s := by
 obtain ⟨o, go, hex, hd, hel, hus, hb, hf, hled, hpl⟩ := id hS
 obtain ⟨oi, gi, ci, di⟩ := id hit
 unfold pyNext
 refine wpAny_bind (wpAny_attempt (wpAny_callSpecial?_slot (name := Str.ofString "__next__") hit.typeIs fR (wpAny_call_entry fR hit.typeIs qW ?_ (tO _))))
 unfold Builtin.«set_iterator.__next__» slotArgs
 simp only [List.isEmpty_nil, Bool.not_true, false_eq_true, ↓reduceIte, bind_assoc, length_nil, bne_self_eq_false]
 refine wpAny_bind (wpAny_pure ?_)
 dsimp only
 refine wpAny_bind (wpAny_fieldsOf gi di ?_)
 dsimp only [rawInt]
 refine wpAny_bind (wpAny_setEntries_of go hd hf ?_)
 rw [if_neg (by simp)]
 have stop : ∀ (h1 : Heap), (∀ b o, b ≠ I -> s.heap.get? b = some o -> h1.get? b = some o) -> ord[i]? = none -> wpAny (model prog w) A.in1 (do let e <- newExc (.type "StopIteration") []; raiseNew e) (fun (fin : PySem.Fin) s' => ∃ r, fin = .done (.ret r) /\ wpAny (model prog w) A (pure (some r)) Q E s')
   (fun e s' => wpAny (model prog w) A (do if (<- isInstance e (.type "StopIteration")) = true then pure none else throw e) Q E s') { s with heap := h1 } := fun h1 k1 ei => by
  refine wpAny_bind ?_
  simp only [newExc, newTuple]
  refine wpAny_bind (wpAny_newObj_type ?_ (by size_fits))
  refine wpAny_bind (m := firstArgMember _ _) (wpAny_of_eq (a := Value.none) (by first | rfl | (simp only [firstArgMember]; rfl)) ?_)
  refine wpAny_newObj_type ?_ (by size_fits)
  simp only [raiseNew]
  refine wpAny_bind (wpAny_handled ?_)
  rw [show A.in1.handled = none from hh]
  refine wpAny_bind (wpAny_pure (wpAny_throw ?_))
  refine wpAny_bind (wpAny_isInstance (T := "StopIteration") (b := true) ⟨_, get?_push_size _ rfl, rfl⟩ isSubtype_stop ?_)
  exact wpAny_pure (he _ ei fun b o nb e => get?_push_of_some _ (get?_push_of_some _ (k1 b o nb e)))
 have upd1 : ∀ {h1 : Heap} {k : Nat} {x : Value} {b : Addr} {o : Obj}, b ≠ I -> h1.get? b = some o -> (h1.update I (Obj.mapFields (·.setIfInBounds k x))).get? b = some o := fun nb e => (get?_update_other _ _ (Ne.symm nb)).trans e
 have fin : ∀ (h1 : Heap) (oj : Obj) (vs : Array Value), h1.get? I = some oj -> oj.data = .fields vs -> vs.size = 5 -> (∀ b o, b ≠ I -> s.heap.get? b = some o -> h1.get? b = some o) -> ord[i]? = none -> wpAny (model prog w) A.in1 (do
   setField (Value.ref I) 2 Value.none
   let e <- newExc (.type "StopIteration") []
   raiseNew e) (fun (fin : PySem.Fin) s' => ∃ r, fin = .done (.ret r) /\ wpAny (model prog w) A (pure (some r)) Q E s')
   (fun e s' => wpAny (model prog w) A (do if (<- isInstance e (.type "StopIteration")) = true then pure none else throw e) Q E s') { s with heap := h1 } := fun h1 oj vs g1 d1 z1 k1 ei => by
  refine wpAny_bind (wpAny_setField g1 d1 (by omega) ?_)
  exact stop _ (fun b o nb e => upd1 nb (k1 b o nb e)) ei
 have item : ∀ (k' : Nat) (v : Value), ord[i]? = some v -> (∀ h', mQ w h' es t a ep ord T (rawInt (k' : Int)) (i + 1)) -> wpAny (model prog w) A.in1 (do
   setField (Value.ref I) 0 (Value.int (k' : Int) 0)
   setField (Value.ref I) 1 (Value.int ((i : Int) + 1) 0)
   ret v) (fun (fin : PySem.Fin) s' => ∃ r, fin = .done (.ret r) /\ wpAny (model prog w) A (pure (some r)) Q E s')
   (fun e s' => wpAny (model prog w) A (do if (<- isInstance e (.type "StopIteration")) = true then pure none else throw e) Q E s') s := fun k' v ev h' => by
  refine wpAny_bind (wpAny_setField gi di (by simp) ?_)
  obtain ⟨o1, g1, c1, d1⟩ := hit.put (k := 0) (x := Value.int (k' : Int) 0) (by omega)
  refine wpAny_bind (wpAny_setField (s := { s with heap := _ }) g1 d1 (by simp) ?_)
  have g2 := get?_update_self (Obj.mapFields (·.setIfInBounds 1 (Value.int ((i : Int) + 1) 0))) g1 (Obj.isFreed_of_fields (Obj.data_mapFields d1 _))
  refine wpAny_pure ⟨v, rfl, wpAny_pure (hi v (rawInt (k' : Int)) _ ev ⟨_, g2, (Obj.cls_mapFields ..).trans c1, ?_⟩ (h' _) fun b o nb e => upd1 nb (upd1 nb e))⟩
  rw [Obj.data_mapFields d1]
  simp [rawInt]
 cases ho with
 | drawn _ gT dT cT eT lT nT' =>
  rename_i ps oT
  dsimp only
  unfold seqItems?
  refine wpAny_bind (wpAny_bind (m := load T) (wpAny_load gT ?_))
  rw [dT]
  refine wpAny_pure ?_
  dsimp only
  have ei := eT i
  rw [toNat_natCast, toNat_natCast]
  cases c : ps[i]? with
  | none =>
   rw [c] at ei
   have e1 : (ps.map fun i : Nat => rawInt i).toArray[i]? = none := by simp [c]
   rw [e1]
   dsimp only
   refine wpAny_bind (wpAny_setField gi di (by simp) ?_)
   obtain ⟨o1, g1, c1, d1⟩ := hit.put (k := 0) (x := Value.int 0 0) (by omega)
   exact fin _ o1 _ g1 d1 (by simp) (fun b o nb e => upd1 nb e) ei.symm
  | some p =>
   rw [c, bind_some] at ei
   have hp := lT i p c
   rw [Array.getElem?_eq_getElem hp, Option.map_some] at ei
   have e1 : (ps.map fun i : Nat => rawInt i).toArray[i]? = some (Value.int (p : Int) 0) := by simp [c, rawInt]
   rw [e1]
   dsimp only
   unfold setNextDrawn
   refine wpAny_bind (wpAny_bind (wpAny_setState_of go hd hf ?_))
   dsimp only
   rw [if_neg (by simp), toNat_natCast, Array.getElem?_eq_getElem hp]
   dsimp only
   refine wpAny_pure ?_
   refine wpAny_bind (wpAny_setField gi di (by simp) ?_)
   obtain ⟨o1, g1, c1, d1⟩ := hit.put (k := 1) (x := Value.int ((i : Int) + 1) 0) (by omega)
   refine wpAny_pure ⟨_, rfl, wpAny_pure (hi _ (.ref T) _ ei.symm ⟨o1, g1, c1, ?_⟩ (.drawn _ (upd1 nT gT) dT cT eT lT nT') fun b o nb e => upd1 nb e)⟩
   rw [d1]
   simp [rawInt]
 | text k _ hbt eo =>
  dsimp only [rawInt]
  unfold setNext
  refine wpAny_bind (wpAny_bind (wpAny_setState_of go hd hf ?_))
  unfold setsByText
  refine wpAny_bind (wpAny_bind (wpAny_askSetting (wpAny_pure ?_)))
  dsimp only
  rw [if_pos (show (model prog w).w.params.followText "set-order" = true from hbt), if_neg (by simp)]
  unfold setWalk
  refine wpAny_bind (wpAny_bind (wpAny_setState_of go hd hf ?_))
  unfold setsByText
  refine wpAny_bind (wpAny_bind (wpAny_askSetting (wpAny_pure ?_)))
  dsimp only
  rw [if_pos (show (model prog w).w.params.followText "set-order" = true from hbt)]
  refine wpAny_bind (wpAny_askSetting (wpAny_pure (wpAny_pure ?_)))
  rw [toNat_natCast, toNat_natCast]
  have eo' : ord[i]? = ((pickOrder (w.params.setOrder a ep) es)[i]?).map (·.2) := by rw [eo, getElem?_map, getElem?_toList]
  show wpAny _ _ (match ((pickOrder (w.params.setOrder a ep) es)[i]?).map (fun e => (e.2, k)) with | some (x, next) => _ | none => _) _ _ _
  cases c : (pickOrder (w.params.setOrder a ep) es)[i]? with
  | none =>
   rw [c] at eo'
   exact fin s.heap oi _ gi di (by simp) (fun b o nb e => e) eo'
  | some x =>
   rw [c] at eo'
   exact item k x.2 eo' fun h' => .text k _ hbt eo
 | none k hbt z0 eo =>
  dsimp only [rawInt]
  unfold setNext
  refine wpAny_bind (wpAny_bind (wpAny_setState_of go hd hf ?_))
  unfold setsByText
  refine wpAny_bind (wpAny_bind (wpAny_askSetting (wpAny_pure ?_)))
  dsimp only
  rw [if_neg (show ¬ (model prog w).w.params.followText "set-order" = true from fun z => by rw [show (model prog w).w.params.followText "set-order" = false from hbt] at z; cases z)]
  refine wpAny_ite_split (fun c => absurd (show (!t.plain && decide (es.size > 1)) = true from c) (by rw [m7 (by omega)]; exact Bool.false_ne_true)) fun _ => ?_
  refine wpAny_bind ?_
  show wpAny _ _ (if (!t.led && !es.isEmpty) = true then _ else _) _ _ _
  rw [if_neg (by rw [hled, hbt]; simp)]
  refine wpAny_pure (wpAny_pure ?_)
  have e0 : es = #[] := Array.eq_empty_of_size_eq_zero z0
  subst e0
  rw [show (#[] : Array (Int × Value))[SetTable.below t.place (k : Int).toNat]? = none by simp]
  exact fin s.heap oi _ gi di (by simp) (fun b o nb e => e) (by rw [eo]; rfl)
 | MI hbt ex pp eo =>
  rename_i x p
  dsimp only [rawInt]
  unfold setNext
  refine wpAny_bind (wpAny_bind (wpAny_setState_of go hd hf ?_))
  unfold setsByText
  refine wpAny_bind (wpAny_bind (wpAny_askSetting (wpAny_pure ?_)))
  dsimp only
  rw [if_neg (show ¬ (model prog w).w.params.followText "set-order" = true from fun z => by rw [show (model prog w).w.params.followText "set-order" = false from hbt] at z; cases z)]
  refine wpAny_ite_split (fun c => absurd (show (!t.plain && decide (es.size > 1)) = true from c) (by rw [m7 (by rw [ex]; exact le_refl _)]; exact Bool.false_ne_true)) fun _ => ?_
  refine wpAny_bind ?_
  show wpAny _ _ (if (!t.led && !es.isEmpty) = true then _ else _) _ _ _
  rw [if_neg (by rw [hled, hbt]; simp)]
  refine wpAny_pure (wpAny_pure ?_)
  have b0 : SetTable.below t.place (0 : Int).toNat = 0 := by rw [pp]; rfl
  rw [b0, ex, pp]
  exact item (p + 1) x.2 (by rw [eo]; rfl) fun h' => .NT hbt ex pp eo
 | NT hbt ex pp eo =>
  rename_i x p
  dsimp only [rawInt]
  unfold setNext
  refine wpAny_bind (wpAny_bind (wpAny_setState_of go hd hf ?_))
  unfold setsByText
  refine wpAny_bind (wpAny_bind (wpAny_askSetting (wpAny_pure ?_)))
  dsimp only
  rw [if_neg (show ¬ (model prog w).w.params.followText "set-order" = true from fun z => by rw [show (model prog w).w.params.followText "set-order" = false from hbt] at z; cases z)]
  refine wpAny_ite_split (fun c => absurd (show (!t.plain && decide (es.size > 1)) = true from c) (by rw [m7 (by rw [ex]; exact le_refl _)]; exact Bool.false_ne_true)) fun _ => ?_
  refine wpAny_bind ?_
  show wpAny _ _ (if (!t.led && !es.isEmpty) = true then _ else _) _ _ _
  rw [if_neg (by rw [hled, hbt]; simp)]
  refine wpAny_pure (wpAny_pure ?_)
  have b1 : SetTable.below t.place ((p + 1 : Nat) : Int).toNat = 1 := by
   rw [pp, toNat_natCast]
   simp [SetTable.below, SetTable.below.go]
  rw [b1, ex, pp]
  exact fin s.heap oi _ gi di (by simp) (fun b o nb e => e) (by rw [eo]; rfl)
end
section
theorem qY : entryFor table "set_iterator.__iter__" = entryFor table "dict_valueiterator.__iter__" := by
 kernel_rfl
theorem vK (a : Value) : argsOk "set_iterator.__iter__" ⟨[a], []⟩ := by
 unfold argsOk
 kernel_rfl
variable {prog : Program} {w : World} {A : Around} {E : Value -> Shared -> Prop} {s : Shared}
theorem DP (hh : A.handled = none) (hn : ord.length = es.size) (nI : a ≠ I) (nT : T ≠ I) :
  Walks prog w A I [I, a, T] [I] ord.length (fun j v => ord[j]? = some v) (fun i h => hW prog w h a ks es ep t /\ ∃ f, mL h I a f i es.size ep /\ mQ w h es t a ep ord T f i) where
 sub := fun b hb => by simp at hb; simp [hb]
 frame := fun i h h' st k => ⟨st.1.at' fun o e => k a (by simp) o e, let ⟨f, ⟨o, e, r⟩, q⟩ := st.2; ⟨f, ⟨o, k I (by simp) o e, r⟩, q.at' fun o e => k T (by simp) o e⟩⟩
 item := fun i s Q E hi st hQ => by
  obtain ⟨hS, f, hit, ho⟩ := st
  refine vR hh hS hit ho hn nI nT (fun v f' h' ev it' ho' kp => ?_) fun h' ev _ => ?_
  ·exact hQ v h' s.toks ev ⟨hS.at' fun o e => kp a o nI e, f', it', ho'⟩ fun b o hb e => kp b o (fun z => hb (by simp [z])) e
  ·rw [getElem?_eq_getElem hi] at ev; cases ev
 done := fun s Q E st hQ => by
  obtain ⟨hS, f, hit, ho⟩ := st
  refine vR hh hS hit ho hn nI nT (fun v f' h' ev _ _ _ => ?_) fun h' _ kp => ?_
  ·rw [getElem?_eq_none (le_refl _)] at ev; cases ev
  ·exact hQ h' s.toks fun b o hb e => kp b o (fun z => hb (by simp [z])) e
 self := fun i s Q E st hQ => by
  obtain ⟨hS, f, hit, ho⟩ := st
  refine wpAny_pyIter_slot hit.typeIs lX (wpAny_call_entry lX hit.typeIs (qY.trans entry_dict_valueiterator_iter) ?_ (vK _))
  exact wpAny_pure ⟨_, rfl, "set_iterator", _, hit.typeIs, fR.lookup, hQ⟩
theorem JB {r : Addr} {Q : Bool -> Shared -> Prop} (hT : s.TypeIs (.ref r) "set") (h : Q false s) : wpAny (model prog w) A (Builtin.List.listLengthHint (.ref r)) Q E s := by
 unfold Builtin.List.listLengthHint
 refine wpAny_bind (wpAny_specialOf hT PySem.F.slot_set_len.lookup ?_)
 generalize hid : ("set.__len__" : String) = id1
 wp_delta
 rw [show splitId id1 = some ("set", "__len__") from by subst hid; decide +kernel]
 subst hid
 refine wpAny_bind (wpAny_isInstance (T := "set") (b := true) hT (by rw [isSubtype_type]; kernel_rfl) ?_)
 refine wpAny_ite_split (fun c => absurd c (by decide)) fun _ => ?_
 refine wpAny_ite_split (fun _ => ?_) fun c => absurd (by decide +kernel) c
 exact wpAny_bind (wpAny_typeOf hT (wpAny_pure h))
theorem xQ {a : Addr} {Q : List Value -> Shared -> Prop} (hh : A.handled = none) (hS : eB prog w s.heap a ks)
  (hq : ∀ vs s' us, i6 s s' -> StrsAre vs us -> us.Perm ks -> Q vs s') : wpAny (model prog w) A (collect (.ref a)) Q E s := by
 obtain ⟨es, ep, t, hS⟩ := hS
 obtain ⟨o, ho, hex, hd, hel, ⟨us, hus, hpm⟩, hb, hf, hled, hpl⟩ := id hS
 have fin : ∀ (h' : Heap) (tk : Nat) (dr : Drawn) (acc : Array Value) (c : Nat) (ord : List Value), (∀ b o, s.heap.get? b = some o -> h'.get? b = some o) ->
   h'.get? s.heap.objs.size = some { cls := .type "list", dict := none, data := .seq acc c, slots := #[] } -> ItemsOf (fun j v => ord[j]? = some v) acc ord.length -> ord.Perm (es.toList.map (·.2)) ->
   wpAny (model prog w) A (match Value.ref s.heap.objs.size with
    | Value.ref a => do
     match (<- load a).data with
      | Data.seq xs _ => pure xs.toList
      | _ => unsupported "internal:collect"
    | _ => unsupported "internal:collect") Q E { s with heap := h', toks := tk, drawn := dr } := fun h' tk dr acc c ord kp g hacc hp => by
  show wpAny _ A (load s.heap.objs.size >>= _) _ _ _
  have ea : acc.toList = ord := by
   refine List.ext_getElem? fun j => ?_
   by_cases hj : j < acc.toList.length
   ·have := hacc.2 j acc.toList[j] (by rw [<- getElem?_toList]; exact getElem?_eq_getElem hj)
    rw [getElem?_eq_getElem hj, this]
   ·have := hacc.1
    rw [getElem?_eq_none (by omega), getElem?_eq_none (by rw [length_toList] at hj; omega)]
  obtain ⟨us', a1, a2⟩ := sP (us := us) hp hus
  refine wpAny_bind (wpAny_load g (wpAny_pure (hq _ _ us' ⟨h', tk, dr, rfl, le_of_lt (lt_size g), kp⟩ ?_ (a2.trans hpm))))
  rw [ea]
  exact a1
 unfold collect
 refine wpAny_bind (wpAny_runValue (codeAny_builtin F.entry_proto_collect ?_))
 rw [Around.under_plainId F.plain_proto_collect _]
 refine wpAny_bind (m := newList []) (wpAny_newObj_type ?_)
 refine wpAny_pure ⟨plainId_quiet F.plain_list_iadd _, codeAny_builtin F.entry_list_iadd ?_⟩
 rw [Around.under_plainId F.plain_list_iadd _]
 have e0 : (s.heap.push { cls := .type "list", data := .seq ([] : List Value).toArray }).get? s.heap.objs.size = some { cls := .type "list", data := .seq #[] 0 } := get?_push_size _ rfl
 have lt := lt_size ho
 have hS1 : hW prog w (s.heap.push { cls := .type "list", data := .seq ([] : List Value).toArray }) a ks es ep t := hS.at' fun o e => get?_push_of_some _ e
 show wpAny _ A.in1 (Builtin.List.listExtendWith (.ref s.heap.objs.size) (.ref a) (.ref s.heap.objs.size)) _ _ _
 unfold Builtin.List.listExtendWith
 have tS : Shared.TypeIs { s with heap := s.heap.push { cls := .type "list", data := .seq ([] : List Value).toArray } } (.ref a) "set" := ⟨o, get?_push_of_some _ ho, hex.1⟩
 refine wpAny_bind (wpAny_typeOf (T := "set") tS ?_)
 have n1 : Builtin.List.listSameRef (.ref s.heap.objs.size) (.ref a) = false := by simp [Builtin.List.listSameRef, ne_of_gt lt]
 have n2 : (Value.type "set" == Value.type "list") = false := by decide
 have n3 : (Value.type "set" == Value.type "tuple") = false := by decide
 simp only [n1, n2, n3, Bool.or_false, false_eq_true, if_false]
 refine wpAny_bind (JT hS1 fun h' dr I T first ord kp zI zT nTI hit hord hp => ?_)
 rw [size_push] at zI zT
 refine wpAny_bind (wpAny_holding (JB ⟨o, kp _ _ (get?_push_of_some _ ho), hex.1⟩ ?_))
 have e1 := kp _ _ e0
 have hlen : ord.length = es.size := by rw [hp.length_eq, length_map, length_toList]
 have nIa : a ≠ I := ne_of_lt (lt_of_lt_of_le lt (le_trans (le_succ _) zI))
 have go : ∀ (R : Result -> Shared -> Prop), (∀ (h2 : Heap) (tk : Nat) (acc : Array Value) (c : Nat), (∀ b o, s.heap.get? b = some o -> h2.get? b = some o) -> h2.get? s.heap.objs.size = some { cls := .type "list", dict := none, data := .seq acc c, slots := #[] } -> ItemsOf (fun j v => ord[j]? = some v) acc ord.length -> R (.ok (.ret (.ref s.heap.objs.size))) { s with heap := h2, toks := tk, drawn := dr }) ->
   ∀ (h1 : Heap) (c : Nat), (∀ b o, b ≠ s.heap.objs.size -> h'.get? b = some o -> h1.get? b = some o) -> h1.get? s.heap.objs.size = some { cls := .type "list", dict := none, data := .seq #[] c, slots := #[] } ->
   codeAny (model prog w) A (.builtin "list.extend.loop" ⟨[.ref s.heap.objs.size, .ref I, .ref s.heap.objs.size], []⟩) R { s with heap := h1, drawn := dr } := fun R hR h1 c k1 g1 => by
  have ne1 : I ≠ s.heap.objs.size := ne_of_gt (lt_of_lt_of_le (lt_succ_self _) zI)
  have ne2 : T ≠ s.heap.objs.size := ne_of_gt (lt_of_lt_of_le (lt_succ_self _) zT)
  have ne3 : a ≠ s.heap.objs.size := ne_of_lt lt
  have W := (DP (prog := prog) (w := w) (A := A.in1) (ks := ks) (ep := ep) (t := t) (T := T) (by exact hh) hlen nIa nTI).toS
  have hS2 : hW prog w h1 a ks es ep t := (hS1.at' fun o e => kp _ _ e).at' fun o e => k1 a o ne3 e
  have hit2 : mL h1 I a first 0 es.size ep := let ⟨o, e, r⟩ := hit; ⟨o, k1 I o ne1 e, r⟩
  refine codeAny_extend_loopS W (by rw [hlen]; exact fits_of_scanBound hb) s.heap.objs.size (by simp; exact ⟨Ne.symm ne1, Ne.symm ne3, Ne.symm ne2⟩) (.ref s.heap.objs.size) ord.length 0 _ #[] c rfl (zero_le _) ⟨hS2, first, hit2, hord.at' fun o e => k1 T o ne2 e⟩ g1 (ItemsOf.nil _) fun s' acc' c' hm g hacc => ?_
  obtain ⟨h2, gn, d2, tk, os⟩ := s'
  have q1 : gn = s.gens := hm.gens
  have q2 : d2 = dr := hm.drawn
  have q3 : os = s.os := hm.os
  subst q1 q2 q3
  refine hR h2 tk acc' c' (fun b o e => ?_) g hacc
  have hb := lt_size e
  refine hm.heap b o ?_ (k1 b o (ne_of_lt hb) (kp b o (get?_push_of_some _ e)))
  simp only [mem_cons, not_mem_nil, or_false, not_or]
  exact ⟨ne_of_lt hb, ne_of_lt (lt_of_lt_of_le hb (le_trans (le_succ _) zI))⟩
 refine wpAny_ite_split (fun _ => ?_) fun _ => wpAny_pure ⟨plainId_quiet PySem.F.plain_extend_loop _, go _ (fun h2 tk acc c kp2 g2 hacc => fin h2 tk dr acc c ord kp2 g2 hacc hp) h' 0 (fun b o _ e => e) e1⟩
 refine wpAny_bind (wpAny_rule ?_)
 refine wpAny_bind ?_
 show wpAny _ _ (updateSeq s.heap.objs.size (·.push .none) >>= fun _ => updateSeq s.heap.objs.size (·.pop)) _ _ _
 refine wpAny_bind (wpAny_updateSeq e1 rfl ?_)
 have e2 := get?_update_self (Obj.mapSeq (·.push Value.none)) e1 rfl
 refine wpAny_updateSeq (hz := by seq_fits) e2 rfl ?_
 have e3 := get?_update_self (Obj.mapSeq (·.pop)) e2 rfl
 exact wpAny_pure ⟨plainId_quiet PySem.F.plain_extend_loop _, go _ (fun h2 tk acc c kp2 g2 hacc => fin h2 tk dr acc c ord kp2 g2 hacc hp) _ _ (fun b o nb e => (get?_update_other _ _ (Ne.symm nb)).trans ((get?_update_other _ _ (Ne.symm nb)).trans e)) e3⟩
end
section
variable {X : Cx}
noncomputable def RL (P : Program) (w : World) (v : Addr) (ks : List Str) : HO := .ext fun h => eB P w h v ks
noncomputable def O2 (K : Frag) (SO : Addr -> List Str -> HO) : List V -> Hp -> VK -> Prop := fun xs H Q => ∃ p ss, xs = [.ref p] /\ gK K H p (ss.map V.str) /\ ss.length < 4000 /\ ∀ v, H v = none -> Q (.ref v) (upd H v (SO v (cO ss)))
theorem WV (K : Frag) (P : Program) (w : World) (hK : X.K = K := by rfl) (hP : X.prog = P := by rfl) (hw : X.w = w := by rfl) (hc : X.calm = true := by rfl) : b8 X (.type "set") (O2 K (RL P w)) := by
 subst hK hP hw
 intro pins s σ H xs us Q I r ⟨p, ss, e, hq, h64, q⟩
 subst e
 obtain ⟨u, rfl, rx⟩ := vals1 r
 cases rx
 obtain ⟨vs, rv, pl, hz⟩ := I.list hq
 refine wK (by exact I.ok.hd hc) pl.isList (mD rv) (by unfold scanBound; omega) fun h' tk hS kp => ?_
 have g : ∃ o, h'.get? s.heap.objs.size = some o := let ⟨_, _, _, o, e, _⟩ := hS; ⟨o, e⟩
 exact ⟨.ref s.heap.objs.size, _, I.laid (t' := tk) (o := RL X.prog X.w s.heap.objs.size (cO ss)) kp (le_refl _) ⟨hS, g, fun h1 h2 a k => eB.at' a k⟩, rfl, q _ (I.bN.fresh (le_refl _))⟩
noncomputable def yB (SO : Addr -> List Str -> HO) : List V -> Hp -> VK -> Prop := fun xs H Q => ∃ v ks, xs = [.ref v] /\ H v = some (SO v ks) /\ ks.length < 64 /\ ∀ l out, out.Perm ks -> sortedS out = true -> H l = none -> Q (.ref l) (upd H l (.lst (out.map V.str)))
theorem L7 (P : Program) (w : World) (hP : X.prog = P := by rfl) (hw : X.w = w := by rfl) (hc : X.calm = true := by rfl) : b8 X (.builtin "sorted") (yB (RL P w)) := by
 subst hP hw
 intro pins s σ H xs us Q I r ⟨v, ks, e, hv, h64, q⟩
 subst e
 obtain ⟨u, rfl, rx⟩ := vals1 r
 cases rx
 have hS : eB X.prog X.w s.heap v ks := (I.bN v _ hv).1
 refine iQ (R := fun us => us.Perm ks) (fun E' Q' k => xQ (by exact I.ok.hd hc) hS fun vs s' us g a b => k vs s' us g a b) (fun us p => by rw [p.length_eq]; exact h64) fun l s2 out c us us' g hl hat h1 h2 h3 h4 => ?_
 exact ⟨.ref l, _, I.OW (o := .lst (us'.map V.str)) g hl ⟨by rw [length_map, h3.length_eq, h2.length_eq, sizeLine_eq]; omega, out, c, fN h1, hat⟩, rfl, q _ us' (h3.trans h2) h4 (I.bN.fresh hl)⟩
end
end L2
namespace Mr
open PySem PySem.Spec L2 PyProof.Rows
variable {e : En} {fa : FE} {ta : TE}
section
variable {K : Frag}
noncomputable def zD (fa : FE) : FE := fun e => bE (fa e) fun x e1 => bO (x.weak.get e1) fun p => match p with
 | .bG kvs => some (.val (.tup (kvs.map (·.2))), e1)
 | _ => none
noncomputable def zX (fa : FE) : FE := fun e => bE (fa e) fun x e1 => bO (x.weak.get e1) fun p => match p with
 | .bG kvs => some (.new (.lst (kvs.map (·.2))), e1)
 | _ => none
theorem DI (ha : Ref K ta fa) : Ref K (OQ OR (dU (E5 ta) lW)) (zD fa) := by
 intro O M W L σ H e e' b Q o he hf q
 obtain ⟨x, e1, f1, hf⟩ := aL hf
 obtain ⟨p, g0, hf⟩ := aE hf
 cases p with
 | bG kvs =>
  cases hf
  refine ha O M W L σ H e _ x _ o he f1 fun v1 H1 k1 r1 fr => ?_
  have o1 := o.keep k1.bU
  have en := r1.en o1
  obtain ⟨a, ys, rfl, hd, ek, rl⟩ := ((r1.rv o1).red en g0).rK
  refine ⟨a, ys, rfl, hd, fun v hv => ⟨v, a, ys, rfl, aQ, u3.upd hd hv, fun l hl => ?_⟩⟩
  have s1 : aT H1 (upd H1 v (CT v a)) := aT.upd hv
  have s2 := aT.upd (o := .tup (ys.map (·.2))) hl
  refine q _ _ ((k1.trans (.same s1)).trans (.same s2)) ⟨(en.same s1).same s2, .tup (.inl aQ) ((rl.aH (.same s1)).aH (.same s2))⟩ trivial
 | _ => cases hf
theorem DU (ha : Ref K ta fa) : Ref K (OQ OL (dU (E5 ta) lW)) (zX fa) := by
 intro O M W L σ H e e' b Q o he hf q
 obtain ⟨x, e1, f1, hf⟩ := aL hf
 obtain ⟨p, g0, hf⟩ := aE hf
 cases p with
 | bG kvs =>
  cases hf
  refine ha O M W L σ H e _ x _ o he f1 fun v1 H1 k1 r1 fr => ?_
  have o1 := o.keep k1.bU
  have en := r1.en o1
  obtain ⟨a, ys, rfl, hd, ek, rl⟩ := ((r1.rv o1).red en g0).rK
  refine ⟨a, ys, rfl, hd, fun v hv => ⟨v, a, ys, rfl, aQ, u3.upd hd hv, fun l hl => ?_⟩⟩
  have s1 : aT H1 (upd H1 v (CT v a)) := aT.upd hv
  have k2 := k1.trans (.same s1)
  have s2 := aT.upd (o := .lst (ys.map (·.2))) hl
  have rn : RN K (aR M L) _ _ (.ref l) (.new (.lst (kvs.map (·.2)))) := yQ hl (rl.aH (.same s1))
  exact q _ _ (k2.trans (.same s2)) (rn.rb (o.keep k2.bU) (en.same s1) s2) (rn.fr k2.bU)
 | _ => cases hf
noncomputable def GS : List (Key × PV) -> Option (List Str)
 | [] => some []
 | (.inr x, _) :: r => bO (GS r) fun ss => some (x :: ss)
 | _ => none
theorem w5 : ∀ {kvs : List (Key × PV)} {ss : List Str}, GS kvs = some ss -> kvs.map (·.1) = ss.map Sum.inr
 | [], ss, h => by cases h; rfl
 | (.inr x, p) :: r, ss, h => by
  obtain ⟨ss', h1, h⟩ := aE h
  cases h
  rw [map_cons, map_cons, w5 h1]
 | (.inl x, p) :: r, ss, h => by cases h
noncomputable def uS : List PV -> Option Bv
 | [.bG kvs] => bO (GS kvs) fun ss => aU (decide (ss.length < 64)) (some (.new (.lst ((mS ss).map PV.str))))
 | _ => none
theorem G7 : fZ K zL uS := by
 intro Z H vs ps b Q hp h k
 unfold uS at h
 split at h
 ·obtain ⟨ss, g, h⟩ := aE h
  obtain ⟨c, h⟩ := aJ h
  cases h
  obtain ⟨v, rfl, hv⟩ := hp.one
  obtain ⟨a, ys, rfl, ha, ek, ra⟩ := hv.rK
  refine ⟨a, ys, ss, rfl, ha, ek.trans (w5 g), of_decide_eq_true c, fun l out h1 h2 hl => ?_⟩
  rw [p7 h1 h2] at k
  exact k _ _ (aT.upd hl) (yQ hl (aX.ofStrs out))
 ·cases h
theorem IZ : zD fa e = bE (fa e) fun x e1 => bO (x.weak.get e1) fun p => match p with
 | .bG kvs => some (.val (.tup (kvs.map (·.2))), e1)
 | _ => none := rfl
theorem FL : zX fa e = bE (fa e) fun x e1 => bO (x.weak.get e1) fun p => match p with
 | .bG kvs => some (.new (.lst (kvs.map (·.2))), e1)
 | _ => none := rfl
end
end Mr
namespace Mr
open PySem PySem.Spec L2 PyProof.Rows PySem.W
variable {A : Around} {C : Bool -> Shared -> Prop} {ps : List PV} {n : Nat} {prog : Program} {w : World}
noncomputable def dG (lt : PV -> PV -> Option Bool) : List PV -> List PV -> Option Bool
 | [], [] => some false
 | [], _ :: _ => some true
 | _ :: _, [] => some false
 | x :: xs, y :: ys => if bZ x y = true then dG lt xs ys else lt x y
noncomputable def mF : Nat -> PV -> PV -> Option Bool
 | _, .str a, .str b => some (decide (a.cps.toList < b.cps.toList))
 | _, .int a, .int b => some (decide (a < b))
 | n + 1, .tup xs, .tup ys => dG (mF n) xs ys
 | _, _, _ => none
section
variable {s : Shared}
theorem O3 {lt : PV -> PV -> Option Bool} : ∀ {xs ys : List PV} {us vs : List Value} {c : Bool} {fin : Bool}, bL s.heap xs us -> bL s.heap ys vs -> (∀ x ∈ xs, ∀ y ∈ ys, ∀ u v, Lies s.heap x u -> Lies s.heap y v -> SeqAt.EqAt A s u v (bZ x y) /\ ∀ b, lt x y = some b -> CI A s u v b) ->
  fin = decide (us.length < vs.length) -> dG lt xs ys = some c -> xB A s fin (us.zip vs) c := by
 intro xs
 induction xs with
 | nil =>
  intro ys us vs c fin h1 h2 hk hf h
  cases h1
  cases h2 <;> (cases h; rw [hf]; exact .done)
 | cons x xs ih =>
  intro ys us vs c fin h1 h2 hk hf h
  cases h1 with
  | cons r1 rr1 =>
   cases h2 with
   | nil => cases h; rw [hf]; exact .done
   | @cons y _ ys _ r2 rr2 =>
    obtain ⟨he, hl⟩ := hk x mem_cons_self y mem_cons_self _ _ r1 r2
    unfold dG at h
    cases e : bZ x y with
    | true =>
     rw [e] at he
     rw [if_pos e] at h
     exact .same he (ih rr1 rr2 (fun a ha b hb => hk a (mem_cons_of_mem _ ha) b (mem_cons_of_mem _ hb)) (by rw [hf]; simp) h)
    | false =>
     rw [e] at he
     rw [if_neg (by rw [e]; exact Bool.false_ne_true)] at h
     exact .less he (hl c h)
theorem G2 : ∀ (n : Nat) (A : Around) {p q : PV} {v u : Value} {b : Bool}, A.units + n < cLine -> fW n p = true -> fW n q = true -> Lies s.heap p v -> Lies s.heap q u -> mF n p q = some b -> CI A s v u b := by
 intro n
 induction n with
 | zero =>
  intro A p q v u b hu o1 o2 h1 h2 h
  cases p with
  | str x =>
   cases q with
   | str y => cases h; cases h1; cases h2; exact fun prog w E Q q => PySem.P.lt_str q
   | _ => cases h
  | int x =>
   cases q with
   | int y => cases h; cases h1; cases h2; exact fun prog w E Q q => PyProof.Rows.lt_int q
   | _ => cases h
  | _ => cases q <;> cases h
 | succ n ih =>
  intro A p q v u b hu o1 o2 h1 h2 h
  cases p with
  | str x =>
   cases q with
   | str y => cases h; cases h1; cases h2; exact fun prog w E Q q => PySem.P.lt_str q
   | _ => cases h
  | int x =>
   cases q with
   | int y => cases h; cases h1; cases h2; exact fun prog w E Q q => PyProof.Rows.lt_int q
   | _ => cases h
  | tup xs =>
   cases q with
   | tup ys =>
    cases h1 with
    | tup t1 l1 =>
     cases h2 with
     | tup t2 l2 =>
      have hin : A.in1.units = A.units + 1 := rfl
      have o1 : xs.all (fW n) = true := o1
      have o2 : ys.all (fW n) = true := o2
      refine RO t1 t2 (by omega) ?_
      simpa using O3 (A := A.in1) (s := s) l1 l2 (fun x hx y hy u v a b => ⟨uZ n A.in1 (by omega) (all_eq_true.mp o1 x hx) (all_eq_true.mp o2 y hy) a b, fun c hc => ih A.in1 (by omega) (all_eq_true.mp o1 x hx) (all_eq_true.mp o2 y hy) a b hc⟩) rfl h
   | _ => cases h
  | _ => cases q <;> cases h
theorem HQ {fin : Bool} {lt : PV -> PV -> Option Bool} : ∀ {xs ys : List PV} {us vs : List Value} {c : Bool} (i : Nat), 1 <= i -> bL s.heap xs us -> bL s.heap ys vs ->
  (∀ x ∈ xs, ∀ y ∈ ys, ∀ u v, Lies s.heap x u -> Lies s.heap y v -> SeqAt.EqAt A s u v (bZ x y) /\ ∀ b, lt x y = some b -> CI A s u v b) -> fin = decide (us.length < vs.length) -> dG lt xs ys = some c -> C c s -> KatLex prog w A true fin C (us.zip vs) i s := by
 intro xs
 induction xs with
 | nil =>
  intro ys us vs c i hi h1 h2 hk hf h hC
  cases h1
  cases h2 <;> (cases h; exact kat_nil (by rw [hf]; exact hC))
 | cons x xs ih =>
  intro ys us vs c i hi h1 h2 hk hf h hC
  cases h1 with
  | cons r1 rr1 =>
   cases h2 with
   | nil => cases h; exact kat_nil (by rw [hf]; exact hC)
   | @cons y _ ys _ r2 rr2 =>
    obtain ⟨he, hl⟩ := hk x mem_cons_self y mem_cons_self _ _ r1 r2
    refine kat_cons (he prog w _ _ ?_)
    unfold dG at h
    cases e : bZ x y with
    | true =>
     rw [if_pos e] at h
     exact kat_yes (ih (i + 1) (by omega) rr1 rr2 (fun a ha b hb => hk a (mem_cons_of_mem _ ha) b (mem_cons_of_mem _ hb)) (by rw [hf]; simp) h hC)
    | false =>
     rw [if_neg (by rw [e]; exact Bool.false_ne_true)] at h
     refine kat_no ?_
     have e0 : (true && i == 0) = false := by simp; omega
     rw [e0]
     exact kat_one _ _ (hl c h prog w _ _ hC)
noncomputable def kW (b : Bool) : PV -> Bool
 | .tup (.str _ :: _) => b
 | .tup (.int _ :: _) => !b
 | _ => false
noncomputable def LG (b : Bool) : String := if b then "str" else "int"
theorem T4 {b : Bool} {n : Nat} {vs : List Value} (hl : bL s.heap ps vs) (hu : A.units + n < cLine) (led : ∀ p ∈ ps, kW b p = true) (ok : ∀ p ∈ ps, fW (n + 1) p = true)
  {i j : Nat} {c : Bool} {p q : PV} (hp : ps[i]? = some p) (hq : ps[j]? = some q) (hc : mF (n + 1) p q = some c) (hC : C c s) : kas_ask prog w A (tuples' (Value.type (LG b) != Value.type "tuple")) vs i j C s := by
 have kt : (Value.type (LG b) != Value.type "tuple") = true := by cases b <;> decide
 obtain ⟨u, hu1, lu⟩ : ∃ u, vs[i]? = some u /\ Lies s.heap p u := by
  have hlt : i < vs.length := by rw [<- hl.length]; exact (List.getElem?_eq_some_iff.mp hp).1
  obtain ⟨p', e, l⟩ := hl.get (getElem?_eq_getElem hlt)
  rw [hp] at e; cases e
  exact ⟨_, getElem?_eq_getElem hlt, l⟩
 obtain ⟨v, hv1, lv⟩ : ∃ v, vs[j]? = some v /\ Lies s.heap q v := by
  have hlt : j < vs.length := by rw [<- hl.length]; exact (List.getElem?_eq_some_iff.mp hq).1
  obtain ⟨p', e, l⟩ := hl.get (getElem?_eq_getElem hlt)
  rw [hq] at e; cases e
  exact ⟨_, getElem?_eq_getElem hlt, l⟩
 have l1 := led p (mem_of_getElem? hp)
 have l2 := led q (mem_of_getElem? hq)
 have o1 := ok p (mem_of_getElem? hp)
 have o2 := ok q (mem_of_getElem? hq)
 show wpAny _ _ (keyLt' _ (vs.getD i Value.none) (vs.getD j Value.none)) C _ s
 rw [getD_eq_getElem?_getD, hu1, getD_eq_getElem?_getD, hv1, kt]
 cases lu with
 | @tup _ us xs t1 r1 =>
  cases lv with
  | @tup _ vs' ys t2 r2 =>
   obtain ⟨oa, ga, _, na, da⟩ := t1
   obtain ⟨ob, gb, _, nb, db⟩ := t2
   refine kat_lt ga da gb db ?_
   have o1 : xs.all (fW n) = true := o1
   have o2 : ys.all (fW n) = true := o2
   have key : ∀ x ∈ xs, ∀ y ∈ ys, ∀ u v, Lies s.heap x u -> Lies s.heap y v -> SeqAt.EqAt A s u v (bZ x y) /\ ∀ b, mF n x y = some b -> CI A s u v b := fun x hx y hy u v a b =>
    ⟨uZ n A hu (all_eq_true.mp o1 x hx) (all_eq_true.mp o2 y hy) a b, fun c hc => G2 n A hu (all_eq_true.mp o1 x hx) (all_eq_true.mp o2 y hy) a b hc⟩
   have hc : dG (mF n) xs ys = some c := hc
   cases r1 with
   | nil => cases l1
   | @cons x u0 xs us a1 a2 =>
    cases r2 with
    | nil => cases l2
    | @cons y v0 ys vs' b1 b2 =>
     obtain ⟨he, _⟩ := key x mem_cons_self y mem_cons_self _ _ a1 b1
     refine kat_cons (he prog w _ _ ?_)
     unfold dG at hc
     cases e : bZ x y with
     | true =>
      rw [if_pos e] at hc
      exact kat_yes (HQ 1 (le_refl _) a2 b2 (fun a ha b hb => key a (mem_cons_of_mem _ ha) b (mem_cons_of_mem _ hb)) (by simp) hc hC)
     | false =>
      rw [if_neg (by rw [e]; exact Bool.false_ne_true)] at hc
      refine kat_no ?_
      cases x with
      | str x =>
       cases y with
       | str y =>
        have hc : some (decide (x.cps.toList < y.cps.toList)) = some c := by cases n <;> exact hc
        cases hc
        cases a1
        cases b1
        exact oneLt_str hC
       | int y => cases b <;> cases l1 <;> cases l2
       | _ => cases l2
      | int x =>
       cases y with
       | int y =>
        have hc : some (decide (x < y)) = some c := by cases n <;> exact hc
        cases hc
        cases a1
        cases b1
        exact oneLt_int hC
       | str y => cases b <;> cases l1 <;> cases l2
       | _ => cases l2
      | _ => cases l1
  | _ => cases l2
 | _ => cases l1
end
noncomputable def mR : Nat -> PV -> Bool
 | _, .bF => true
 | _, .int _ => true
 | _, .str _ => true
 | n + 1, .tup ps => ps.all (mR n)
 | _, _ => false
theorem zF : ∀ {n : Nat} {p : PV}, mR n p = true -> fW n p = true := by
 intro n
 induction n with
 | zero => intro p h; cases p <;> first | rfl | cases h
 | succ n ih =>
  intro p h
  cases p with
  | tup ps => exact all_eq_true.mpr fun x hx => ih (all_eq_true.mp h x hx)
  | lst ps => cases h
  | bG ps => cases h
  | ty x => cases h
  | bl x => cases h
  | _ => rfl
theorem B5 (ih : ∀ {p q : PV}, mR n p = true -> mR n q = true -> bZ p q = true -> p = q) : ∀ {xs ys : List PV}, xs.all (mR n) = true -> ys.all (mR n) = true -> cG xs ys = true -> xs = ys
 | [], [], _, _, _ => rfl
 | [], _ :: _, _, _, h => by simp [cG] at h
 | _ :: _, [], _, _, h => by simp [cG] at h
 | x :: xs, y :: ys, h1, h2, h => by
  simp only [cG, and_eq_true] at h
  rw [all_cons, and_eq_true] at h1 h2
  rw [ih h1.1 h2.1 h.1, B5 ih h1.2 h2.2 h.2]
theorem yY : ∀ {n : Nat} {p q : PV}, mR n p = true -> mR n q = true -> bZ p q = true -> p = q := by
 intro n
 induction n with
 | zero =>
  intro p q h1 h2 h
  cases p <;> cases q <;> first | rfl | (cases h1; done) | (cases h2; done) | (simp [bZ] at h; try subst h; try rfl)
 | succ n ih =>
  intro p q h1 h2 h
  cases p with
  | tup xs =>
   cases q with
   | tup ys => rw [j5] at h; rw [B5 ih h1 h2 h]
   | _ => simp [bZ] at h
  | lst xs => cases h1
  | bG xs => cases h1
  | ty xs => cases h1
  | bl xs => cases h1
  | bF => cases q <;> first | rfl | (simp [bZ] at h)
  | int i => cases q <;> first | (cases h2; done) | (simp [bZ] at h; try subst h; try rfl)
  | str i => cases q <;> first | (cases h2; done) | (simp [bZ] at h; try subst h; try rfl)
theorem m5 (ih : ∀ {p : PV}, mR n p = true -> bZ p p = true) : ∀ {xs : List PV}, xs.all (mR n) = true -> cG xs xs = true
 | [], _ => by simp [cG]
 | x :: xs, h => by
  rw [all_cons, and_eq_true] at h
  simp only [cG, and_eq_true]
  exact ⟨ih h.1, m5 ih h.2⟩
theorem lR : ∀ {n : Nat} {p : PV}, mR n p = true -> bZ p p = true := by
 intro n
 induction n with
 | zero => intro p h; cases p <;> first | (simp [bZ]; done) | cases h
 | succ n ih =>
  intro p h
  cases p with
  | tup xs => rw [j5]; exact m5 ih h
  | lst xs => cases h
  | bG xs => cases h
  | ty xs => cases h
  | bl xs => cases h
  | _ => simp [bZ]
noncomputable def code : Nat -> PV -> List Int
 | _, .str x => x.cps.toList.map (fun c : Nat => (c : Int) + 1) ++ [0]
 | _, .int i => [i]
 | n + 1, .tup xs => xs.flatMap (fun x => 1 :: code n x) ++ [0]
 | _, _ => [0]
noncomputable abbrev gJ : List Int -> List Int -> Bool := iO zR
theorem uF (a r r' : List Int) : gJ (a ++ r) (a ++ r') = gJ r r' := by
 induction a with
 | nil => rfl
 | cons x a ih =>
  show fJ zR x x (gJ (a ++ r) (a ++ r')) = _
  exact (fI (A := zR) (a := x)).trans ih
theorem dY {x y : Int} {r r' : List Int} : gJ (x :: r) (y :: r') = if x = y then gJ r r' else decide (x < y) := by
 show fJ zR x y (gJ r r') = _
 rcases eL (A := zR) x y with ⟨a, b⟩ | ⟨a, b⟩ | a
 ·rw [dR a]
  have a := of_decide_eq_true a
  rw [if_neg (by omega), decide_eq_true a]
 ·rw [hZ a]
  have a := of_decide_eq_true a
  rw [if_neg (by omega), decide_eq_false (by omega)]
 ·subst a
  rw [if_pos rfl]
  exact fI (A := zR) (a := x)
theorem vL : ∀ (a b : List Nat) (r r' : List Int), gJ ((a.map fun c : Nat => (c : Int) + 1) ++ [0] ++ r) ((b.map fun c : Nat => (c : Int) + 1) ++ [0] ++ r') = if a = b then gJ r r' else decide (a < b)
 | [], [], r, r' => by
  rw [if_pos rfl]
  exact uF [0] r r'
 | [], y :: b, r, r' => by
  rw [if_neg (by simp)]
  show gJ (0 :: r) (((y : Int) + 1) :: _) = _
  rw [dY, if_neg (by omega), decide_eq_true (by omega)]
  exact (decide_eq_true (by simp)).symm
 | x :: a, [], r, r' => by
  rw [if_neg (by simp)]
  show gJ (((x : Int) + 1) :: _) (0 :: r') = _
  rw [dY, if_neg (by omega), decide_eq_false (by omega)]
  exact (decide_eq_false (by simp)).symm
 | x :: a, y :: b, r, r' => by
  show gJ (((x : Int) + 1) :: ((a.map fun c : Nat => (c : Int) + 1) ++ [0] ++ r)) (((y : Int) + 1) :: ((b.map fun c : Nat => (c : Int) + 1) ++ [0] ++ r')) = _
  rw [dY, vL a b r r']
  by_cases e : x = y
  ·subst e
   rw [if_pos rfl]
   by_cases e2 : a = b
   ·subst e2; rw [if_pos rfl, if_pos rfl]
   ·rw [if_neg e2, if_neg (by simpa using e2)]
    congr 1
    simp [List.cons_lt_cons_iff]
  ·rw [if_neg (by omega), if_neg (by intro z; exact e (List.cons.inj z).1)]
   by_cases h : x < y
   ·rw [decide_eq_true (show (x : Int) + 1 < y + 1 by omega)]
    exact (decide_eq_true (List.cons_lt_cons_iff.mpr (.inl h))).symm
   ·rw [decide_eq_false (show ¬ (x : Int) + 1 < y + 1 by omega)]
    refine (decide_eq_false fun z => ?_).symm
    rcases List.cons_lt_cons_iff.mp z with z | z
    ·exact h z
    ·exact e z.1
theorem wQ (ih : ∀ {p q : PV} {b : Bool} (r r' : List Int), mR n p = true -> mR n q = true -> mF n p q = some b -> gJ (code n p ++ r) (code n q ++ r') = if bZ p q = true then gJ r r' else b) :
  ∀ {xs ys : List PV} {b : Bool} (r r' : List Int), xs.all (mR n) = true -> ys.all (mR n) = true -> dG (mF n) xs ys = some b ->
   gJ (xs.flatMap (fun x => 1 :: code n x) ++ [0] ++ r) (ys.flatMap (fun x => 1 :: code n x) ++ [0] ++ r') = if cG xs ys = true then gJ r r' else b
 | [], [], b, r, r', _, _, h => by
  rw [if_pos (by simp [cG])]
  exact uF [0] r r'
 | [], y :: ys, b, r, r', _, _, h => by
  cases h
  rw [if_neg (by simp [cG])]
  show gJ (0 :: r) (1 :: _) = _
  rw [dY]; rfl
 | x :: xs, [], b, r, r', _, _, h => by
  cases h
  rw [if_neg (by simp [cG])]
  show gJ (1 :: _) (0 :: r') = _
  rw [dY]; rfl
 | x :: xs, y :: ys, b, r, r', h1, h2, h => by
  rw [all_cons, and_eq_true] at h1 h2
  have e1 : ∀ (z : PV) (zs : List PV) (w : List Int), (z :: zs).flatMap (fun x => 1 :: code n x) ++ [0] ++ w = 1 :: (code n z ++ (zs.flatMap (fun x => 1 :: code n x) ++ [0] ++ w)) := fun z zs w => by simp
  rw [e1, e1, dY, if_pos rfl]
  unfold dG at h
  cases e : bZ x y with
  | true =>
   rw [if_pos e] at h
   have exy := yY h1.1 h2.1 e
   subst exy
   rw [uF, wQ ih r r' h1.2 h2.2 h]
   simp only [cG, e, Bool.true_and]
  | false =>
   rw [if_neg (by rw [e]; exact Bool.false_ne_true)] at h
   rw [ih _ _ h1.1 h2.1 h, if_neg (by rw [e]; exact Bool.false_ne_true), if_neg (by simp [cG, e])]
theorem MB : ∀ {n : Nat} {p q : PV} {b : Bool} (r r' : List Int), mR n p = true -> mR n q = true -> mF n p q = some b -> gJ (code n p ++ r) (code n q ++ r') = if bZ p q = true then gJ r r' else b := by
 have str : ∀ {n : Nat} {x y : Str} {b : Bool} (r r' : List Int), mF n (.str x) (.str y) = some b -> gJ (code n (.str x) ++ r) (code n (.str y) ++ r') = if bZ (.str x) (.str y) = true then gJ r r' else b := fun {n x y b} r r' h => by
  have h : some (decide (x.cps.toList < y.cps.toList)) = some b := by cases n <;> exact h
  cases h
  have e1 : ∀ z : Str, code n (.str z) = z.cps.toList.map (fun c : Nat => (c : Int) + 1) ++ [0] := fun z => by cases n <;> rfl
  rw [e1, e1, vL]
  by_cases e : x = y
  ·subst e; rw [if_pos rfl, if_pos (by simp [bZ])]
  ·rw [if_neg (fun z => e (BO z)), if_neg (by simpa [bZ] using e)]
 have int : ∀ {n : Nat} {x y : Int} {b : Bool} (r r' : List Int), mF n (.int x) (.int y) = some b -> gJ (code n (.int x) ++ r) (code n (.int y) ++ r') = if bZ (.int x) (.int y) = true then gJ r r' else b := fun {n x y b} r r' h => by
  have h : some (decide (x < y)) = some b := by cases n <;> exact h
  cases h
  have e1 : ∀ z : Int, code n (.int z) = [z] := fun z => by cases n <;> rfl
  rw [e1, e1]
  show gJ (x :: r) (y :: r') = _
  rw [dY]
  by_cases e : x = y
  ·subst e; rw [if_pos rfl, if_pos (by simp [bZ])]
  ·rw [if_neg e, if_neg (by simpa [bZ] using e)]
 intro n
 induction n with
 | zero =>
  intro p q b r r' h1 h2 h
  cases p with
  | str x => cases q with
   | str y => exact str r r' h
   | _ => cases h
  | int x => cases q with
   | int y => exact int r r' h
   | _ => cases h
  | _ => cases q <;> cases h
 | succ n ih =>
  intro p q b r r' h1 h2 h
  cases p with
  | str x => cases q with
   | str y => exact str r r' h
   | _ => cases h
  | int x => cases q with
   | int y => exact int r r' h
   | _ => cases h
  | tup xs => cases q with
   | tup ys =>
    rw [j5]
    exact wQ ih r r' h1 h2 h
   | _ => cases h
  | _ => cases q <;> cases h
theorem AM (ih : ∀ {p q : PV}, mF n p q = some false -> mF n q p = some false -> bZ p q = true) (sym : ∀ p q : PV, bZ p q = bZ q p) : ∀ {xs ys : List PV}, dG (mF n) xs ys = some false -> dG (mF n) ys xs = some false -> cG xs ys = true
 | [], [], _, _ => by simp [cG]
 | [], _ :: _, h, _ => by cases h
 | _ :: _, [], _, h => by cases h
 | x :: xs, y :: ys, h, h' => by
  unfold dG at h h'
  rw [sym y x] at h'
  cases e : bZ x y with
  | true =>
   rw [if_pos e] at h h'
   simp only [cG, e, Bool.true_and]
   exact AM ih sym h h'
  | false =>
   rw [if_neg (by rw [e]; exact Bool.false_ne_true)] at h h'
   rw [ih h h'] at e
   cases e
mutual
theorem A6 : ∀ p q : PV, bZ p q = bZ q p
 | .bF, q => by cases q <;> simp [bZ]
 | .bl a, q => by cases q <;> simp only [bZ] <;> (rw [Bool.eq_iff_iff, beq_iff_eq, beq_iff_eq]; exact eq_comm)
 | .int a, q => by cases q <;> simp only [bZ] <;> (rw [Bool.eq_iff_iff, beq_iff_eq, beq_iff_eq]; exact eq_comm)
 | .str a, q => by cases q <;> simp only [bZ] <;> (rw [Bool.eq_iff_iff, beq_iff_eq, beq_iff_eq]; exact eq_comm)
 | .ty a, q => by cases q <;> simp [bZ]
 | .bG a, q => by cases q <;> simp [bZ]
 | .tup xs, q => by
  cases q with
  | tup ys => simp only [bZ]; exact pY xs ys
  | _ => simp [bZ]
 | .lst xs, q => by
  cases q with
  | lst ys => simp only [bZ]; exact pY xs ys
  | _ => simp [bZ]
theorem pY : ∀ xs ys : List PV, cG xs ys = cG ys xs
 | [], ys => by cases ys <;> simp [cG]
 | x :: xs, [] => by simp [cG]
 | x :: xs, y :: ys => by simp only [cG]; rw [A6 x y, pY xs ys]
end
theorem YE : ∀ {n : Nat} {p q : PV}, mF n p q = some false -> mF n q p = some false -> bZ p q = true := by
 have str : ∀ {x y : Str}, ¬ x.cps.toList < y.cps.toList -> ¬ y.cps.toList < x.cps.toList -> bZ (.str x) (.str y) = true := fun h h' => by
  have e := List.le_antisymm (not_lt.mp h') (not_lt.mp h)
  rw [BO e]
  simp [bZ]
 have int : ∀ {x y : Int}, ¬ x < y -> ¬ y < x -> bZ (.int x) (.int y) = true := fun h h' => by
  have e : _ = _ := Int.le_antisymm (Int.not_lt.mp h') (Int.not_lt.mp h)
  rw [e]
  simp [bZ]
 intro n
 induction n with
 | zero =>
  intro p q h h'
  cases p with
  | str x => cases q with
   | str y => exact str (of_decide_eq_false (Option.some.inj h)) (of_decide_eq_false (Option.some.inj h'))
   | _ => cases h
  | int x => cases q with
   | int y => exact int (of_decide_eq_false (Option.some.inj h)) (of_decide_eq_false (Option.some.inj h'))
   | _ => cases h
  | _ => cases q <;> cases h
 | succ n ih =>
  intro p q h h'
  cases p with
  | str x => cases q with
   | str y => exact str (of_decide_eq_false (Option.some.inj h)) (of_decide_eq_false (Option.some.inj h'))
   | _ => cases h
  | int x => cases q with
   | int y => exact int (of_decide_eq_false (Option.some.inj h)) (of_decide_eq_false (Option.some.inj h'))
   | _ => cases h
  | tup xs => cases q with
   | tup ys => rw [j5]; exact AM ih A6 h h'
   | _ => cases h
  | _ => cases q <;> cases h
noncomputable def dC (n : Nat) (ps : List PV) : Bool := ps.all fun p => mR n p && ps.all fun q => (mF n p q).isSome
noncomputable abbrev pX : KeyOrd := VM zR
noncomputable def rO (n : Nat) (a b : PV) : Bool := !gJ (code n b) (code n a)
noncomputable def pG (n : Nat) (ps : List PV) : List PV := ps.mergeSort (rO n)
theorem CF (a b c : PV) (h1 : rO n a b = true) (h2 : rO n b c = true) : rO n a c = true := by
 unfold rO at *
 rw [not_eq_true'] at *
 exact KeyOrd.kle_trans (O := pX) h1 h2
theorem EG {n : Nat} (a b : PV) : (rO n a b || rO n b a) = true := by
 unfold rO
 rcases eL (A := pX) (code n a) (code n b) with ⟨x, y⟩ | ⟨x, y⟩ | x
 ·rw [show gJ (code n b) (code n a) = false from y]; rfl
 ·rw [show gJ (code n a) (code n b) = false from y]; simp
 ·rw [x, show gJ (code n b) (code n b) = false from pX.irrefl _]; rfl
theorem cZ (n : Nat) (ps : List PV) : (pG n ps).Perm ps := List.mergeSort_perm ps (rO n)
theorem iS (n : Nat) (ps : List PV) : (pG n ps).Pairwise fun a b => rO n a b = true := List.pairwise_mergeSort CF EG ps
theorem jR : ∀ {a b : List PV}, a.Pairwise (fun x y => rO n x y = true) -> b.Pairwise (fun x y => rO n x y = true) -> a.Perm b -> (∀ x ∈ a, ∀ y ∈ a, rO n x y = true -> rO n y x = true -> x = y) -> a = b
 | [], b, _, _, p, _ => List.Perm.nil_eq p
 | x :: a, [], _, _, p, _ => absurd p.symm.nil_eq (by simp)
 | x :: a, y :: b, ha, hb, p, an => by
  have hx := (pairwise_cons.mp ha).1
  have hy := (pairwise_cons.mp hb).1
  have e : x = y := by
   rcases mem_cons.mp (p.mem_iff.mp mem_cons_self) with z | z
   ·exact z
   ·rcases mem_cons.mp (p.mem_iff.mpr mem_cons_self) with w | w
    ·exact w.symm
    ·exact an x mem_cons_self y (mem_cons_of_mem _ w) (hx y w) (hy x z)
  subst e
  rw [jR (pairwise_cons.mp ha).2 (pairwise_cons.mp hb).2 p.cons_inv fun u hu v hv => an u (mem_cons_of_mem _ hu) v (mem_cons_of_mem _ hv)]
theorem mN (h : dC n ps = true) {p q : PV} (hp : p ∈ ps) (hq : q ∈ ps) : mF n p q = some (gJ (code n p) (code n q)) := by
 have a := all_eq_true.mp h p hp
 have b := all_eq_true.mp h q hq
 rw [and_eq_true] at a b
 have c := all_eq_true.mp a.2 q hq
 obtain ⟨v, e⟩ := isSome_iff_exists.mp c
 have c' := all_eq_true.mp b.2 p hp
 obtain ⟨v', e'⟩ := isSome_iff_exists.mp c'
 have k := MB [] [] a.1 b.1 e
 rw [append_nil, append_nil] at k
 rw [e, k]
 cases z : bZ p q with
 | false => rw [if_neg Bool.false_ne_true]
 | true =>
  rw [if_pos rfl]
  have epq := yY a.1 b.1 z
  subst epq
  rw [e] at e'
  cases e'
  show some v = some false
  have irr : ∀ {m : Nat} {p : PV} {v : Bool}, mR m p = true -> mF m p p = some v -> v = false := by
   intro m p v hp h
   cases v with
   | false => rfl
   | true =>
    exfalso
    cases m with
    | zero =>
     cases p with
     | str x => exact absurd (of_decide_eq_true (Option.some.inj h)) (List.lt_irrefl _)
     | int x => exact absurd (of_decide_eq_true (Option.some.inj h)) (by omega)
     | _ => cases h
    | succ m =>
     cases p with
     | str x => exact absurd (of_decide_eq_true (Option.some.inj h)) (List.lt_irrefl _)
     | int x => exact absurd (of_decide_eq_true (Option.some.inj h)) (by omega)
     | tup xs =>
      have key : ∀ {l : List PV}, l.all (mR m) = true -> dG (mF m) l l = some false := by
       intro l
       induction l with
       | nil => intro _; rfl
       | cons x l ih =>
        intro hl
        rw [all_cons, and_eq_true] at hl
        unfold dG
        rw [if_pos (lR hl.1)]
        exact ih hl.2
      have := key (show xs.all (mR m) = true from hp)
      rw [show dG (mF m) xs xs = some true from h] at this
      cases this
     | _ => cases h
  rw [irr a.1 e]
theorem x5 (h : dC n ps = true) {p q : PV} (hp : p ∈ ps) (hq : q ∈ ps) (h1 : rO n p q = true) (h2 : rO n q p = true) : p = q := by
 have a := all_eq_true.mp h p hp
 have b := all_eq_true.mp h q hq
 rw [and_eq_true] at a b
 unfold rO at h1 h2
 rw [not_eq_true'] at h1 h2
 refine yY a.1 b.1 (YE (n := n) ?_ ?_)
 ·rw [mN h hp hq, h2]
 ·rw [mN h hq hp, h1]
section
variable {X : Cx} {k : Nat}
noncomputable def yM (K : Frag) : List V -> Hp -> VK -> Prop := fun xs H Q => ∃ p ys ps b, xs = [.ref p] /\ gK K H p ys /\ aX K cK H ps ys /\ ys.length < 64 /\ (∀ x ∈ ps, kW b x = true) /\ dC 3 ps = true /\
 ∀ l (ix : List Nat), ix.Perm (List.range ps.length) -> (ix.map fun i => ps.getD i .bF).Pairwise (fun a b => rO 3 a b = true) -> H l = none -> Q (.ref l) (upd H l (.lst (ix.map fun i => ys.getD i .bF)))
theorem mV {s : Shared} {b : Bool} : ∀ {ps : List PV} {vs : List Value}, bL s.heap ps vs -> (∀ x ∈ ps, kW b x = true) -> ∃ fs, KatTups s.heap vs fs /\ fs.length = vs.length /\ ∀ v ∈ fs, (∃ x t, b = true /\ v = .str x t) \/ ∃ x t, b = false /\ v = .int x t
 | [], _, .nil, _ => ⟨[], .nil, rfl, fun _ h => nomatch h⟩
 | p :: ps, _, .cons l r, h => by
  obtain ⟨fs, h1, h2, h3⟩ := mV r fun z hz => h z (mem_cons_of_mem _ hz)
  have hp := h p mem_cons_self
  cases l with
  | tup t1 r1 =>
   obtain ⟨o, g1, g2, m, g3⟩ := t1
   cases r1 with
   | nil => cases hp
   | cons a1 a2 =>
    cases a1 with
    | str x t =>
     refine ⟨.str x t :: fs, .cons g1 g2 g3 (by simp) h1, by rw [length_cons, length_cons, h2], fun v hv => ?_⟩
     rcases mem_cons.mp hv with e | e
     ·exact .inl ⟨x, t, hp, e⟩
     ·exact h3 v e
    | int x t =>
     refine ⟨.int x t :: fs, .cons g1 g2 g3 (by simp) h1, by rw [length_cons, length_cons, h2], fun v hv => ?_⟩
     rcases mem_cons.mp hv with e | e
     ·exact .inr ⟨x, t, by simpa [kW] using hp, e⟩
     ·exact h3 v e
    | _ => cases hp
  | _ => cases hp
theorem RA (K : Frag) (hr : dD k X.A) (hK : X.K = K := by rfl) : b8 X (.builtin "sorted") (yM K) := by
 subst hK
 intro pins s σ H xs us Q I r ⟨p, ys, ps, b, e, hq, rp, h64, led, cmp, q⟩
 subst e
 obtain ⟨u, rfl, rx⟩ := vals1 r
 cases rx
 obtain ⟨vs, rv, pl, hz⟩ := I.list hq
 have hlen := rv.length
 have hpl := rp.length
 have ok : ∀ x ∈ ps, fW 3 x = true := fun x hx => by
  have := all_eq_true.mp cmp x hx
  rw [and_eq_true] at this
  exact zF this.1
 refine xD (R := fun p => jP pX (fun i => code 3 (ps.getD i .bF)) p vs.length) pl.isList (by omega) (fun l2 h' kp => ?_) (fun h2 i j a b => ?_) fun out p h1 h2 h3 => ?_
 ·have I' := I.kept (t' := s.toks) kp
  have hL : bL h' ps vs := aX.lies I' (n := 3) (all_eq_true.mpr ok) rp rv
  obtain ⟨fs, k1, k2, k3⟩ := mV (s := { s with heap := h' }) hL led
  refine ⟨tuples' (Value.type (LG b) != Value.type "tuple"), fun Q E q => kat_kind k1 (by omega) (fun v hv => ?_) (by cases b <;> decide) q, fun G hG => mU.run (n := vs.length) (ans := yI pX (fun i => code 3 (ps.getD i .bF))) (fun i j C hi hj hC => ?_) (fun p h1 h2 => hG p h1 h2) (B7 (by omega)) (IA (by omega))⟩
  ·rcases k3 v hv with ⟨x, t, rfl, rfl⟩ | ⟨x, t, rfl, rfl⟩
   ·exact Looks.of_pure rfl
   ·exact Looks.of_pure rfl
  ·have e1 : ps[i]? = some ps[i] := getElem?_eq_getElem (by omega)
   have e2 : ps[j]? = some ps[j] := getElem?_eq_getElem (by omega)
   refine T4 (s := { s with heap := h' }) (n := 2) hL (by have := hr.un; show X.A.units + 1 + 1 + 2 < _; omega) led ok e1 e2 (mN cmp (getElem_mem _) (getElem_mem _)) ?_
   have hC : C (pX.blt (code 3 (ps.getD i .bF)) (code 3 (ps.getD j .bF))) _ := hC
   rw [getD_eq_getElem?_getD, e1, getD_eq_getElem?_getD, e2] at hC
   exact hC
 ·rw [show i = j by omega]; exact KeyOrd.kle_refl _
 ·have hp : p.toList.Perm (List.range vs.length) := by simpa using Array.perm_iff_toList_perm.mp h1
  have hlt : ∀ i ∈ p.toList, i < vs.length := fun i hi => mem_range.mp (hp.mem_iff.mp hi)
  have z2 := pD rv p.toList hlt
  rw [<- h3] at z2
  have hpz : p.toList.length = vs.length := by rw [hp.length_eq, length_range]
  obtain ⟨c, hat⟩ := sortedAll_at s.heap vs out
  refine ⟨.ref (s.heap.objs.size + 1), _, I.laid (t' := s.toks) (o := .lst (p.toList.map fun i => ys.getD i .bF)) (fun b o e => sortedAll_old e) (le_succ _) ⟨by rw [length_map, hpz, <- hlen]; exact hz, out.toList, c, z2, hat⟩, rfl, q _ _ (by rw [hpl, hlen]; exact hp) ?_ (I.bN.fresh (le_succ _))⟩
  rw [List.pairwise_iff_getElem]
  intro i j hi hj hij
  rw [length_map] at hi hj
  have h := h2 i j (by omega) (by omega)
  rw [getElem_map, getElem_map]
  have ky : ∀ (i : Nat) (hi : i < p.toList.length), Ky pX (fun i => code 3 (ps.getD i .bF)) p i = code 3 (ps.getD p.toList[i] .bF) := fun i hi => by
   unfold Ky
   rw [getD_eq_getD_getElem?, <- getElem?_toList, getElem?_eq_getElem hi]
   rfl
  rw [ky i hi, ky j hj] at h
  show (!gJ _ _) = true
  rw [not_eq_true']
  exact h
end
section
variable {K : Frag}
noncomputable def uA : List PV -> Option Bv
 | [.lst ps] => aU (decide (ps.length < 64) && ((ps.all (kW true) || ps.all (kW false)) && dC 3 ps)) (some (.new (.lst (pG 3 ps))))
 | _ => none
theorem sL {Z : aI} {H : Hp} {ys : List V} (r : aX K Z H ps ys) : ∀ {ix : List Nat}, (∀ i ∈ ix, i < ps.length) -> aX K Z H (ix.map fun i => ps.getD i .bF) (ix.map fun i => ys.getD i .bF)
 | [], _ => .nil
 | i :: ix, h => by
  have hi := h i mem_cons_self
  have e := getElem?_eq_getElem hi
  obtain ⟨v, ev, rv⟩ := r.get e
  refine .cons ?_ (sL r fun j hj => h j (mem_cons_of_mem _ hj))
  dsimp only
  rw [getD_eq_getElem?_getD, getD_eq_getElem?_getD, e, ev]
  exact rv
theorem E9 : fZ K (yM K) uA := by
 intro Z H vs qs b Q hp h kk
 unfold uA at h
 split at h
 ·rename_i ps
  obtain ⟨c, h⟩ := aJ h
  cases h
  rw [and_eq_true, and_eq_true] at c
  obtain ⟨c1, c2, c3⟩ := c
  obtain ⟨v, rfl, hv⟩ := hp.one
  obtain ⟨a, ys, rfl, ha, ra⟩ := hv.j9
  have led : ∃ b, ∀ x ∈ ps, kW b x = true := by
   rcases Bool.or_eq_true_iff.mp c2 with z | z
   ·exact ⟨true, fun x hx => all_eq_true.mp z x hx⟩
   ·exact ⟨false, fun x hx => all_eq_true.mp z x hx⟩
  obtain ⟨b, led⟩ := led
  refine ⟨a, ys, ps, b, rfl, ha.sq, ra.aH (.less fun _ z => z.elim), by rw [<- ra.length]; exact of_decide_eq_true c1, led, c3, fun l ix h1 h2 hl => ?_⟩
  have hix : ∀ i ∈ ix, i < ps.length := fun i hi => mem_range.mp (h1.mem_iff.mp hi)
  have pm : (ix.map fun i => ps.getD i .bF).Perm ps := by
   have := h1.map fun i => ps.getD i PV.bF
   have e : (List.range ps.length).map (fun i => ps.getD i PV.bF) = ps := by
    apply ext_getElem
    ·simp
    ·intro i a1 a2
     simp [getElem?_eq_getElem a2]
   rw [e] at this
   exact this
  have es : pG 3 ps = ix.map fun i => ps.getD i .bF :=
   jR (iS 3 ps) h2 ((cZ 3 ps).trans pm.symm) fun x hx y hy => x5 c3 ((cZ 3 ps).mem_iff.mp hx) ((cZ 3 ps).mem_iff.mp hy)
  rw [es] at kk
  exact kk _ _ (aT.upd hl) (yQ hl (sL ra hix))
 ·cases h
end
end Mr
namespace Mr
open PySem PySem.Spec L2 PyProof.Rows
variable {X : Cx} {e : En} {fa : FA} {ta : TA}
section
variable {K : Frag}
noncomputable def HM (K : Frag) : List V -> Hp -> VK -> Prop := fun xs H Q => y9 K xs H Q \/ (zL xs H Q \/ yM K xs H Q)
theorem TL {k : Nat} (K : Frag) (hr : dD k X.A) (hK : X.K = K := by rfl) (hc : X.calm = true := by rfl) : b8 X (.builtin "sorted") (HM K) := b8.or (DR K hK) (b8.or (TZ hc) (RA K hr hK))
noncomputable def u7 : List PV -> Option Bv := fun p => (t8 p).or ((uS p).or (uA p))
theorem wU : fZ K (HM K) u7 := fZ.or FJ (fZ.or G7 E9)
end
section
variable {K : Frag}
noncomputable def mulC (i j : Int) : Bool := decide (Builtin.Int.intTooBig (Builtin.Int.intBits i + Builtin.Int.intBits j) = false)
theorem uH : gL X (binaryOp .Mult) (rI IntMulOk fun i j => .int (i * j)) := UH fun _ _ _ _ _ _ _ hc q => mul_int q hc
noncomputable def nU : PV -> PV -> Option Bv := gI mulC fun i j => .int (i * j)
theorem AN : c8 K (rI IntMulOk fun i j => .int (i * j)) nU := GW (fun i j h => by
 have h := of_decide_eq_true h
 unfold IntMulOk
 rw [h, Bool.and_false]
 exact Bool.false_ne_true) fun _ _ _ _ => .int _
end
section
variable {K : Frag}
noncomputable def inR (k : Int) : Bool := @decide (-1000000000 <= k /\ k < 1000000000) (Classical.propDecidable _)
theorem gC {k : Int} (h0 : -1000000000 <= k) (h1 : k < 1000000000) : inR k = true := @decide_eq_true _ (Classical.propDecidable _) ⟨h0, h1⟩
noncomputable def oH (fa : FA) : FI := fun _ e => bE (fa e) fun bs e1 => match bs with
 | [.val (.int j)] => aU (inR j) (some ((List.range j.toNat).map (fun k : Nat => .int (0 + (k : Int))), e1))
 | _ => none
theorem KH (h : oJ K ta fa) : vF K (N9 ta) (oH fa) := by
 intro st O M W L σ H e e' ps R o he hf q
 obtain ⟨x, e1, f1, hf⟩ := aL hf
 refine h O M W L σ H e e1 x _ o he f1 fun vs H1 k1 en rv => ?_
 split at hf
 ·rename_i j
  obtain ⟨c, hf⟩ := aJ hf
  have c := @of_decide_eq_true _ (Classical.propDecidable _) c
  cases hf
  cases rv with
  | cons h r =>
   cases r
   cases h
   exact ⟨j, rfl, by omega, by omega, q _ H1 k1 en fun Wr hw _ => GJ⟩
 ·cases hf
noncomputable def O6 (fa : FA) : FI := fun _ e => bE (fa e) fun bs e1 => match bs with
 | [.val (.int i), .val (.int j)] => aU (inR i && inR j) (some ((List.range (j - i).toNat).map (fun k : Nat => .int (i + (k : Int))), e1))
 | _ => none
theorem NM (h : oJ K ta fa) : vF K (N6 ta) (O6 fa) := by
 intro st O M W L σ H e e' ps R o he hf q
 obtain ⟨x, e1, f1, hf⟩ := aL hf
 refine h O M W L σ H e e1 x _ o he f1 fun vs H1 k1 en rv => ?_
 split at hf
 ·rename_i i j
  obtain ⟨c, hf⟩ := aJ hf
  rw [and_eq_true] at c
  have c1 := @of_decide_eq_true _ (Classical.propDecidable _) c.1
  have c2 := @of_decide_eq_true _ (Classical.propDecidable _) c.2
  cases hf
  cases rv with
  | cons h r =>
   cases r with
   | cons h' r =>
    cases r
    cases h
    cases h'
    exact ⟨i, j, rfl, ⟨by omega, by omega, by omega, by omega⟩, q _ H1 k1 en fun Wr hw _ => GJ⟩
 ·cases hf
theorem QQ {st : Nat -> Bool} : oH fa st e = bE (fa e) fun bs e1 => match bs with
 | [.val (.int j)] => aU (inR j) (some ((List.range j.toNat).map (fun k : Nat => .int (0 + (k : Int))), e1))
 | _ => none := rfl
theorem QN {st : Nat -> Bool} : O6 fa st e = bE (fa e) fun bs e1 => match bs with
 | [.val (.int i), .val (.int j)] => aU (inR i && inR j) (some ((List.range (j - i).toNat).map (fun k : Nat => .int (i + (k : Int))), e1))
 | _ => none := rfl
end
end Mr
namespace Mr
open PySem L2
variable {fa : FE} {f : FN} {α β : Type}
section
variable {K : Frag}
theorem aN.given {M L : aI} {W : WS} {H H' : Hp} {σ : St} {e : En} {l : Addr} (h : aN K (aR M (aR L (one l))) W (aR L (one l)) H σ e) (f : JO σ e l) (nL : ¬ L l) (nW : ∀ i, ¬ W i l) (kp : ∀ a o, a ≠ l -> H a = some o -> H' a = some o) (kt : ∀ a xs, H a = some (.tup xs) -> H' a = some (.tup xs)) : aN K (aR M L) W L H' σ e := by
 have k : cL (aR M (aR L (one l))) (aR M L) H H' := ⟨kt, fun a o q n => ⟨kp a o (fun z => n (.inr (.inr z))) q, fun z => n (z.elim .inl fun z => .inr (.inl z))⟩⟩
 refine ⟨h.len, fun i sl q => ?_, h.kX⟩
 obtain ⟨v, h1, h2⟩ := h.at' i sl q
 refine ⟨v, h1, ?_⟩
 cases sl with
 | val p => exact Rep.aH k h2
 | own p => obtain ⟨a, e, w, c⟩ := h2; exact ⟨a, e, w, c.aH k fun o q => kp a o (fun z => nW i (z ▸ w)) q⟩
 | loc p =>
  obtain ⟨a, e, w, c⟩ := h2
  have na : a ≠ l := fun z => by
   subst z e
   exact f i _ q rfl h1
  exact ⟨a, e, w.elim id fun z => absurd z na, c.aH k fun o q => kp a o na q⟩
 | bor p =>
  obtain ⟨a, e, c⟩ := h2
  refine ⟨a, e, ?_⟩
  cases c with
  | lst e od n m r => exact .lst (e.elim (fun e => .inl (kp _ _ (fun z => m (.inr z)) e)) fun ⟨u, e⟩ => .inr ⟨u, kp _ _ (fun z => m (.inr z)) e⟩) od n (fun z => m (.inl z)) (r.aH k)
  | cY e r => exact .cY e (r.aH k)
  | bG e od n m kk r => exact .bG (e.elim (fun e => .inl (kp _ _ (fun z => m (.inr z)) e)) fun ⟨u, e⟩ => .inr ⟨u, kp _ _ (fun z => m (.inr z)) e⟩) od n (fun z => m (.inl z)) kk (r.aH k)
noncomputable def z7 (f : FN) (fa : FE) (i : Nat) : FE := fun e => bE (fa e) fun x e1 => match x with
 | .new p => bO (rd e1 i) fun q => match q with
  | .int k => bO (f [p, .int k]) fun rq => some (.val rq.1, e1)
  | _ => none
 | _ => none
theorem CM {ta : TE} {E : XK} (i : Nat) (ha : Ref K ta fa) : Ref K (xX (OC K [.m, .b] false f) [] E (dU ta (dU (vI i) lW))) (z7 f fa i) := by
 intro O M W L σ H e e' b Q o he hf q
 obtain ⟨x, e1, f1, hf⟩ := aL hf
 cases x with
 | new p =>
  obtain ⟨qv, g1, hf⟩ := aE hf
  cases qv with
  | int k =>
   obtain ⟨⟨r, qs⟩, g2, hf⟩ := aE hf
   cases hf
   refine ha O M W L σ H e _ _ _ o he f1 fun v1 H1 k1 r1 fr => ?_
   have o1 := o.keep k1.bU
   obtain ⟨a, rfl, nO, nL, en, hfree, ct⟩ := r1
   have hfr : H a = none := fr a rfl
   have en0 := en.OO hfree
   have g1' := g1
   unfold Mr.rd at g1'
   cases c : e'[i]? with
   | none => rw [c] at g1'; cases g1'
   | some s =>
    cases s with
    | none => rw [c] at g1'; cases g1'
    | some s =>
     obtain ⟨u, hs, _⟩ := en0.at' i s c
     have hu := (en0.rd g1 hs).int
     subst hu
     refine ⟨.int k, hs, ?_⟩
     show OC K [.m, .b] false f ([.ref a, .int k] ++ []) H1 Q E
     rw [append_nil]
     obtain ⟨ob, hob, nt⟩ := ct.there
     have ws : ∀ j b, k6 [.m, .b] [.ref a, .int k] H1 j b -> b = a := fun j b ⟨h1, h2⟩ => by
      match j, h1, h2 with
      | 0, h1, h2 => cases h2; rfl
      | 1, h1, h2 => cases h1
     refine ⟨aR M (aR L (one a)), [p, .int k], r, qs, fun b z => ?_, rfl, rfl, fun j kk p' v h1 h2 h3 => ?_, fun j1 j2 hne h1 h2 => ?_, fun j b h => ?_, g2, fun v H' kc res => ?_⟩
     ·rcases z with z | z | z
      ·exact o1.old b (o1.mo b z)
      ·exact (o1.loc b z).1
      ·rw [show b = a from z, hob]; exact fun z => nomatch z
     ·match j, h1, h2, h3 with
      | 0, h1, h2, h3 => cases h1; cases h2; cases h3; exact ⟨a, rfl, ⟨rfl, rfl⟩, ct⟩
      | 1, h1, h2, h3 => cases h1; cases h2; cases h3; exact Rep.int k
     ·match j1, j2, h1, h2 with
      | 0, 0, _, _ => exact absurd rfl hne
      | 0, 1, _, h2 => cases h2
      | 1, _, h1, _ => cases h1
     ·exact .inr (.inr (ws j b h))
     ·have kp : ∀ b u, b ≠ a -> H1 b = some u -> H' b = some u := fun b u nb e => kc.obj b u e (fun ⟨j, w⟩ => nb (ws j b w)) fun z => z
      have kout : bR W L H H' := ⟨fun b u e n m => kp b u (fun z => by rw [z, hfr] at e; cases e) (k1.obj b u e n m), fun b xs e => kc.tup b xs (k1.tup b xs e), fun b h => kc.bU b (k1.bU b h)⟩
      exact q v H' kout ⟨en.given hfree nL (fun j w => nO (o1.mo a (o1.wm j a w))) kp kc.tup, res.1.aH (.less fun b z => z.elim .inl fun z => .inr (.inl z))⟩ trivial
  | _ => cases hf
 | _ => cases hf
theorem HB {i : Nat} {e : En} : z7 f fa i e = bE (fa e) fun x e1 => match x with
 | .new p => bO (rd e1 i) fun q => match q with
  | .int k => bO (f [p, .int k]) fun rq => some (.val rq.1, e1)
  | _ => none
 | _ => none := rfl
end
theorem LP {k : α -> Option β} : bO (none : Option α) k = none := rfl
theorem NA {k : α -> En -> Option β} : bE (none : Option (α × En)) k = none := rfl
end Mr
namespace L2
open PySem PySem.Spec PyProof.Rows PySem.W
section
variable {prog : Program} {w : World} {A : Around} {E : Value -> Shared -> Prop} {s : Shared}
theorem i6.trans {s s1 s2 : Shared} (a : i6 s s1) (b : i6 s1 s2) : i6 s s2 := by
 obtain ⟨h1, t1, d1, rfl, z1, k1⟩ := a
 obtain ⟨h2, t2, d2, rfl, z2, k2⟩ := b
 exact ⟨h2, t2, d2, rfl, le_trans z1 z2, fun x o e => k2 x o (k1 x o e)⟩
theorem oM {v : Value} {Ok : List Value -> Shared -> Prop} {R : List Value -> Array Nat -> Prop} {Q : Value -> Shared -> Prop}
  (hcol : ∀ (E' : Value -> Shared -> Prop) (Q' : List Value -> Shared -> Prop), (∀ vs s1, i6 s s1 -> Ok vs s1 -> Q' vs s1) -> wpAny (model prog w) A.in1 (collect v) Q' E' s) (h64 : ∀ vs s1, Ok vs s1 -> vs.length < 64)
  (hk : ∀ vs s1, i6 s s1 -> Ok vs s1 -> 2 <= vs.length -> ∀ h' : Heap, (∀ b o, s1.heap.get? b = some o -> h'.get? b = some o) -> AD prog w A.in1.in1 vs (R vs) { s1 with heap := h' }) (hR : ∀ vs s1, Ok vs s1 -> vs.length < 2 -> R vs (List.range vs.length).toArray)
  (hq : ∀ (a : Addr) s1 s2 (out : Array Value) c vs (p : Array Nat), i6 s s1 -> Ok vs s1 -> i6 s1 s2 -> s1.heap.objs.size <= a -> s2.heap.get? a = some (seqObj "list" out c) -> kY vs.length p -> R vs p -> out.toList = p.toList.map (fun i => vs.getD i Value.none) -> Q (.ref a) s2) :
  wpAny (model prog w) A (call (.builtin "sorted") [v]) Q E s := by
 refine Calls.call_function_entry kind_sorted plain_sorted entry_sorted (args_sorted1 _) ?_
 unfold Builtin.«sorted»
 refine wpAny_bind (m := checkCount "sorted" 1 1 _) (wpAny_pure (wpAny_bind (hcol _ _ fun vs s1 g ok => ?_)))
 have hl := h64 vs s1 ok
 refine wpAny_bind (wpAny_newList ?_ (by simp only [sizeLine_eq]; omega))
 have e1 : (s1.heap.push (seqObj "list" vs.toArray 0)).get? s1.heap.objs.size = some (seqObj "list" vs.toArray 0) := get?_push_size _ rfl
 refine wpAny_bind (wpAny_holding (wpAny_call_entry slot_list_sort ⟨_, e1, rfl⟩ entry_list_sort ?bd (args_list_sort _)))
 case bd =>
  refine sY e1 hl (fun l2 h' kp => hk vs s1 g ok l2 h' fun b o gb => kp b o (ne_of_lt (lt_size gb)) (get?_push_of_some _ gb)) (hR vs s1 ok) fun out p p1 p2 p3 => ⟨_, rfl, wpAny_pure ⟨_, rfl, ?_⟩⟩
  obtain ⟨c, hc⟩ := sortedHeap_at (out := out) e1
  refine hq s1.heap.objs.size s1 _ out c vs p g ok ?_ (le_refl _) hc p1 p2 p3
  refine ⟨_, s1.toks, s1.drawn, rfl, le_of_lt (lt_size hc), fun b o e => ?_⟩
  have hb := lt_size e
  rw [sortedHeap_old (ne_of_lt hb) (by rw [size_push']; exact lt_succ_of_lt hb)]
  exact get?_push_of_some _ e
theorem rM {K : Type} [DecidableEq K] {knd : KeyKind prog w K} {r d : Addr} {kvs : List (K × Value)} {ep : Nat} {Q : List Value -> Shared -> Prop} (hh : A.handled = none) (hv : s.heap.IsItemsView r d) (hm : s.heap.DictAt knd d kvs ep) (hn : kvs.length <= sizeLine)
  (hq : ∀ s1 (as : List Addr), i6 s s1 -> as.length = kvs.length -> KdxG knd kvs s.heap.objs.size s1.heap as -> Q (as.map Value.ref) s1) : wpAny (model prog w) A (collect (.ref r)) Q E s := by
 have hr : r < s.heap.objs.size := let ⟨_, ho, _⟩ := hv; lt_size ho
 have hd : d < s.heap.objs.size := hm.lt_size
 have fin : ∀ (h' : Heap) (tk : Nat) (acc : Array Value) (c : Nat) (as : List Addr), (∀ b o, s.heap.get? b = some o -> h'.get? b = some o) ->
   h'.get? s.heap.objs.size = some { cls := .type "list", dict := none, data := .seq acc c, slots := #[] } -> as.length = kvs.length -> KdxG knd kvs s.heap.objs.size h' as -> acc.toList = as.map Value.ref ->
   wpAny (model prog w) A (match Value.ref s.heap.objs.size with
    | Value.ref a => do
     match (<- load a).data with
      | Data.seq xs _ => pure xs.toList
      | _ => unsupported "internal:collect"
    | _ => unsupported "internal:collect") Q E { s with heap := h', toks := tk } := fun h' tk acc c as kp hS hl hG ea => by
  show wpAny _ A (load s.heap.objs.size >>= _) _ _ _
  refine wpAny_bind (wpAny_load hS (wpAny_pure ?_))
  show Q acc.toList _
  rw [ea]
  exact hq _ as ⟨h', tk, s.drawn, rfl, le_of_lt (lt_size hS), kp⟩ hl hG
 unfold collect
 refine wpAny_bind (wpAny_runValue (codeAny_builtin F.entry_proto_collect ?_))
 rw [Around.under_plainId F.plain_proto_collect _]
 refine wpAny_bind (m := newList []) (wpAny_newObj_type ?_)
 refine wpAny_pure ⟨plainId_quiet F.plain_list_iadd _, codeAny_builtin F.entry_list_iadd ?_⟩
 rw [Around.under_plainId F.plain_list_iadd _]
 have e0 : (s.heap.push { cls := .type "list", data := .seq ([] : List Value).toArray }).get? s.heap.objs.size = some { cls := .type "list", data := .seq #[] 0 } := get?_push_size _ rfl
 have key := kdx_extend (A := A) (knd := knd) (kvs := kvs) (ep := ep) (s := { s with heap := s.heap.push { cls := .type "list", data := .seq ([] : List Value).toArray } }) (R := fun rs s' => ∃ h' tk acc c as, rs = .ok (.ret (.ref s.heap.objs.size)) /\ s' = { s with heap := h', toks := tk } /\ (∀ b o, s.heap.get? b = some o -> h'.get? b = some o) /\ h'.get? s.heap.objs.size = some { cls := .type "list", dict := none, data := .seq acc c, slots := #[] } /\ as.length = kvs.length /\ KdxG knd kvs s.heap.objs.size h' as /\ acc.toList = as.map Value.ref)
  hh (let ⟨o, ho, x⟩ := hv; ⟨o, get?_push_of_some _ ho, x⟩) (hm.push _) s.heap.objs.size (ne_of_gt hr) (ne_of_lt hd) (.ref s.heap.objs.size) 0 e0
  (fun h' tk acc c as kp hS hl hG ea => ⟨h', tk, acc, c, as, rfl, rfl, fun b o e => kp b o (ne_of_lt (lt_size e)) (get?_push_of_some _ e), hS, hl, hG.low (by rw [size_push]; exact le_succ _), ea⟩) hn
 refine wpAny_mono key (fun f s' h => ?_) fun e s' h => ?_
 ·cases f with
  | done f =>
   obtain ⟨h', tk, acc, c, as, e1, rfl, kp, hS, hl, hG, ea⟩ := h
   cases e1
   exact fin h' tk acc c as kp hS hl hG ea
  | again c' =>
   refine ⟨h.1, codeAny_mono h.2 fun rs s2 hr => ?_⟩
   obtain ⟨h', tk, acc, c, as, rfl, rfl, kp, hS, hl, hG, ea⟩ := hr
   exact fin h' tk acc c as kp hS hl hG ea
 ·obtain ⟨h', tk, acc, c, as, e1, _⟩ := h
  cases e1
theorem Inv.U3 {X : Cx} {pins : List (Addr × Obj)} {σ : L2.St} {H H' : Hp} {s s' : Shared} (I : Inv X pins σ H s) (g : i6 s s') (he : ∀ b, b < s.heap.objs.size -> H' b = H b) (new : ∀ a o, s.heap.objs.size <= a -> H' a = some o -> c9 X.prog X.w H' s'.heap a o) : Inv X pins σ H' s' := by
 obtain ⟨h', tk, dr, rfl, _, k⟩ := g
 have old : ∀ a o, H a = some o -> H' a = some o := fun a o e => by rw [he a (I.bN.lt e)]; exact e
 refine I.call (g' := s.gens) (d' := dr) (t' := tk) (ch := []) ⟨fun b u q _ _ _ => k b u q, fun b u q _ _ _ => ⟨u.slots, k b u q⟩, fun b u q n _ => by rw [he b (lt_size q)]; exact n, fun b u q _ => ⟨u, k b u q⟩, fun b xs q => old b _ q, fun b u xs q => old b _ q, fun b ps q => ⟨#[], by rw [old b _ q]; simp⟩⟩ (fun a o e => ?_) I.bare fun _ z => nomatch z
 by_cases ha : a < s.heap.objs.size
 ·rw [he a ha] at e
  exact (I.bN a o e).aH (fun c v _ q => k c v q) (fun c q => old c _ q) fun c xs q => old c _ q
 ·exact new a o (Nat.le_of_not_lt ha) e
end
section
variable {X : Cx}
noncomputable def PX (v d : Addr) : HO := .ext fun h => h.IsItemsView v d
noncomputable def GA (to : TE) : TE := fun σ H Q => to σ H fun x H1 => ∃ a kvs, x = .ref a /\ u3 H1 a kvs /\ ∀ v, H1 v = none -> Q (.ref v) (upd H1 v (PX v a))
theorem GV {o : Expr} {to : TE} {apos cpos : Pos} (ho : PE X o to) (hbase : attributeBase o "items" X.env (eval o X.env) = eval o X.env := by rfl) (hline : (apos.endLine == cpos.line) = true := by rfl) :
  PE X (.Call (.Attribute o "items" apos) [] [] cpos) (GA to) := by
 intro pins s σ H Q I h
 refine wpAny_Call_method0_late hbase hline (cJ (ho pins s σ H _ I h) fun v s1 ⟨x, H1, I1, r1, a, kvs, ex, ha, q1⟩ => ?_)
 subst ex
 obtain rfl : v = Value.ref a := r1
 obtain ⟨hz, hd, vs, rel, dd⟩ := gH I1.bN ha
 refine ⟨"dict", "dict.items", plainAttrs_dict, PySem.F.slot_dict_items, PySem.F.type_dict_items, dd.typeIs, dd.mapOf.noDict, Calls.callWith_builtin rfl (PySem.evalArgs_none ?_)⟩
 refine call_meetsIn PySem.F.slot_dict_items dd.typeIs PySem.F.entry_dict_items (PySem.F.args_dict_items_1 _) (meets_dict_items (bM X.prog X.w) a hd) ⟨⟨vs, dd⟩, ?_⟩
 have e0 : (s1.heap.push { cls := .type "dict_items", data := .fields #[.ref a] }).get? s1.heap.objs.size = some { cls := .type "dict_items", data := .fields #[.ref a] } := get?_push_size _ rfl
 exact ⟨.ref s1.heap.objs.size, _, I1.laid (t' := s1.toks) (o := PX s1.heap.objs.size a) (fun b u e => get?_push_of_some _ e) (le_refl _) ⟨⟨_, e0, rfl, rfl⟩, ⟨_, e0⟩, fun h1 h2 ⟨u, e, c⟩ k => ⟨u, k u e, c⟩⟩, rfl, q1 _ (I1.bN.fresh (le_refl _))⟩
end
end L2
namespace Mr
open PySem PySem.Spec L2 PyProof.Rows PySem.W
variable {e : En} {fa : FE} {H : Hp} {ta : TE} {Z : aI}
noncomputable def CH : Key -> PV
 | .inl i => .int i
 | .inr x => .str x
theorem sO {h : Heap} {k : Key} {v : Value} (e : kH k v = true) : Lies h (CH k) v /\ RelV (kV k) v := by
 rcases bY e with ⟨i, t, rfl, rfl⟩ | ⟨x, t, rfl, rfl⟩
 ·exact ⟨.int i t, t, rfl⟩
 ·exact ⟨.str x t, t, rfl⟩
noncomputable def bD (kvs : List (Key × PV)) : List PV := kvs.map fun z => .tup [CH z.1, z.2]
section
variable {X : Cx} {k : Nat}
noncomputable def JI (K : Frag) : List V -> Hp -> VK -> Prop := fun xs H Q => ∃ v a ys kvs b, xs = [.ref v] /\ H v = some (PX v a) /\ u3 H a ys /\ dF K cK H kvs ys /\ kvs.length < 64 /\ (∀ x ∈ bD kvs, kW b x = true) /\ dC 3 (bD kvs) = true /\
 ∀ l H' (as : List Addr) (ix : List Nat), aT H H' -> (∀ (j : Nat) t q, as[j]? = some t -> ys[j]? = some q -> H' t = some (.tup [kV q.1, q.2])) -> as.length = ys.length -> ix.Perm (List.range kvs.length) -> (ix.map fun i => (bD kvs).getD i .bF).Pairwise (fun a b => rO 3 a b = true) -> H l = none -> H' l = some (.lst (ix.map fun i => .ref (as.getD i 0))) -> Q (.ref l) H'
theorem wZ {h : Heap} : ∀ {ps : List PV} {vs : List Value}, ps.length = vs.length -> (∀ (j : Nat) p v, ps[j]? = some p -> vs[j]? = some v -> Lies h p v) -> bL h ps vs
 | [], [], _, _ => .nil
 | [], _ :: _, h, _ => by cases h
 | _ :: _, [], h, _ => by cases h
 | p :: ps, v :: vs, h, k => .cons (k 0 p v rfl rfl) (wZ (by simpa using h) fun j p v a b => k (j + 1) p v (by simpa using a) (by simpa using b))
theorem sortI (K : Frag) (hr : dD k X.A) (hK : X.K = K := by rfl) (hc : X.calm = true := by rfl) : b8 X (.builtin "sorted") (JI K) := by
 subst hK
 intro pins s σ H xs us Q I r ⟨v, a, ys, kvs, b, e, hv, ha, rd, h64, led, cmp, q⟩
 subst e
 obtain ⟨u, rfl, rx⟩ := vals1 r
 cases rx
 obtain ⟨hz, hd, vs, rel, dd⟩ := gH I.bN ha
 obtain ⟨ep, dd⟩ := dd.dictAt
 have hlen : kvs.length = ys.length := by have := congrArg List.length rd.1; simpa using this.symm
 have hlen2 := rel.len
 have ok : ∀ x ∈ bD kvs, fW 3 x = true := fun x hx => by
  have := all_eq_true.mp cmp x hx
  rw [and_eq_true] at this
  exact zF this.1
 refine oM (s := s) (Ok := fun ws s1 => ∃ as : List Addr, ws = as.map Value.ref /\ as.length = vs.length /\ KdxG (bM X.prog X.w) vs s.heap.objs.size s1.heap as) (R := fun ws p => jP pX (fun i => code 3 ((bD kvs).getD i .bF)) p ws.length) (fun E' Q' kk => ?_) ?_ ?_ ?_ ?_
 ·exact rM (by exact I.ok.hd hc) (I.bN v _ hv).1 dd (by rw [<- hlen2]; exact hz) fun s1 as gr hl g => kk _ s1 gr ⟨as, rfl, hl, g⟩
 ·rintro ws s1 ⟨as, rfl, hl, g⟩
  rw [length_map]; omega
 ·rintro ws s1 gr ⟨as, rfl, hl, g⟩ l2 h' kp
  have I' : Inv X pins σ H { s1 with heap := h' } := (I.UR gr).kept (t' := s1.toks) kp
  have okv : (kvs.map (·.2)).all (fW 2) = true := all_eq_true.mpr fun p hp => by
   obtain ⟨z, hz, rfl⟩ := mem_map.mp hp
   have := ok (.tup [CH z.1, z.2]) (mem_map.mpr ⟨z, hz, rfl⟩)
   have this : ([CH z.1, z.2].all (fW 2)) = true := this
   rw [all_cons, all_cons, and_eq_true, and_eq_true] at this
   exact this.2.1
  have lv : bL h' (kvs.map (·.2)) (vs.map (·.2)) := aX.lies I' (n := 2) okv rd.2 rel.vals
  have hL : bL h' (bD kvs) (as.map Value.ref) := by
   refine wZ (by unfold bD; rw [length_map, length_map]; omega) fun j p v hp hv => ?_
   rw [getElem?_map] at hv
   obtain ⟨t, ht, rfl⟩ := map_eq_some_iff.mp hv
   unfold bD at hp
   rw [getElem?_map] at hp
   obtain ⟨z, hz', rfl⟩ := map_eq_some_iff.mp hp
   obtain ⟨key, kk, x, e1, e2, e3⟩ := g.pairs j t ht
   have ek : kk = z.1 := by
    have a1 : (vs.map (·.1))[j]? = some kk := by rw [getElem?_map, e1]; rfl
    have a2 : (kvs.map (·.1))[j]? = some z.1 := by rw [getElem?_map, hz']; rfl
    rw [<- rel.keys, rd.1, a2] at a1
    exact (Option.some.inj a1).symm
   subst ek
   obtain ⟨p', h1, h2⟩ := lv.get (show (vs.map (·.2))[j]? = some x by rw [getElem?_map, e1]; rfl)
   rw [getElem?_map, hz'] at h1
   cases h1
   exact .tup ⟨_, kp _ _ e3, rfl, 0, rfl⟩ (.cons (sO (show kH z.1 key = true from e2)).1 (.cons h2 .nil))
  obtain ⟨fs, k1, k2, k3⟩ := mV (s := { s1 with heap := h' }) hL led
  have hpl : (bD kvs).length = (as.map Value.ref).length := hL.length
  have h64' : (as.map Value.ref).length < 64 := by rw [length_map]; omega
  refine ⟨tuples' (Value.type (LG b) != Value.type "tuple"), fun Q E q => kat_kind k1 (by omega) (fun v hv => ?_) (by cases b <;> decide) q, fun G hG => mU.run (n := (as.map Value.ref).length) (ans := yI pX (fun i => code 3 ((bD kvs).getD i .bF))) (fun i j C hi hj hC => ?_) (fun p h1 h2 => hG p h1 h2) (B7 (by omega)) (IA (by omega))⟩
  ·rcases k3 v hv with ⟨x, t, rfl, rfl⟩ | ⟨x, t, rfl, rfl⟩
   ·exact Looks.of_pure rfl
   ·exact Looks.of_pure rfl
  ·have e1 : (bD kvs)[i]? = some (bD kvs)[i] := getElem?_eq_getElem (by omega)
   have e2 : (bD kvs)[j]? = some (bD kvs)[j] := getElem?_eq_getElem (by omega)
   refine T4 (s := { s1 with heap := h' }) (n := 2) hL (by have := hr.un; show X.A.units + 1 + 1 + 2 < _; omega) led ok e1 e2 (mN cmp (getElem_mem _) (getElem_mem _)) ?_
   have hC : C (pX.blt (code 3 ((bD kvs).getD i .bF)) (code 3 ((bD kvs).getD j .bF))) _ := hC
   rw [getD_eq_getElem?_getD, e1, getD_eq_getElem?_getD, e2] at hC
   exact hC
 ·rintro ws s1 ⟨as, rfl, hl, g⟩ h2 i j a b
  rw [show i = j by omega]; exact KeyOrd.kle_refl _
 ·rintro l s1 s2 out c ws p gr ⟨as, rfl, hl, g⟩ g2 hla hat h1 h2 h3
  have hp : p.toList.Perm (List.range as.length) := by
   have := Array.perm_iff_toList_perm.mp h1
   rw [length_map] at this
   simpa using this
  have hlt : ∀ i ∈ p.toList, i < as.length := fun i hi => mem_range.mp (hp.mem_iff.mp hi)
  have above : ∀ t ∈ as, s.heap.objs.size <= t := fun t ht => le_of_lt (g.above t ht)
  have nl : l ∉ as := fun z => absurd (g.there z) (Nat.not_lt.mpr hla)
  have hls : s.heap.objs.size <= l := le_trans gr.size hla
  let H' : Hp := fun x => if x = l then some (.lst (p.toList.map fun i => V.ref (as.getD i 0))) else match as.findIdx? (fun t => t == x) with
   | some j => (ys[j]?).map fun q => HO.tup [kV q.1, q.2]
   | none => H x
  have hl' : H' l = some (.lst (p.toList.map fun i => V.ref (as.getD i 0))) := if_pos rfl
  have hno : ∀ x, x ≠ l -> x ∉ as -> H' x = H x := fun x h1 h2 => by
   show (if x = l then _ else _) = _
   rw [if_neg h1]
   have : as.findIdx? (fun t => t == x) = none := List.findIdx?_eq_none_iff.mpr fun t ht => by
    cases c : t == x with
    | false => rfl
    | true => exact absurd (by rw [<- eq_of_beq c]; exact ht) h2
   rw [this]
  have hat' : ∀ (j : Nat) t q, as[j]? = some t -> ys[j]? = some q -> H' t = some (.tup [kV q.1, q.2]) := fun j t q hj hq => by
   have hm := mem_of_getElem? hj
   show (if t = l then _ else _) = _
   rw [if_neg (fun z : t = l => nl (by rw [<- z]; exact hm))]
   have : as.findIdx? (fun u => u == t) = some j := by
    rw [List.findIdx?_eq_some_iff_getElem]
    obtain ⟨hjl, ej⟩ := List.getElem?_eq_some_iff.mp hj
    refine ⟨hjl, by simp [ej], fun i hi => ?_⟩
    have := List.pairwise_iff_getElem.mp g.rise i j (by omega) hjl hi
    rw [ej] at this
    simpa using ne_of_lt this
   rw [this]
   show (ys[j]?).map _ = _
   rw [hq]; rfl
  have same : aT H H' := fun x o e => by
   have hx := I.bN.lt e
   rw [hno x (fun z : x = l => absurd (by rw [<- z]; exact hx) (Nat.not_lt.mpr hls)) (fun z => absurd hx (Nat.not_lt.mpr (above x z)))]
   exact e
  have I2 : Inv X pins σ H' s2 := by
   refine I.U3 (gr.trans g2) (fun x hx => hno x (fun z : x = l => absurd (by rw [<- z]; exact hx) (Nat.not_lt.mpr hls)) (fun z => absurd hx (Nat.not_lt.mpr (above x z)))) fun x o hx e => ?_
   by_cases hxl : x = l
   ·subst hxl
    rw [hl'] at e
    cases e
    refine ⟨by rw [length_map, hp.length_eq, length_range, hl, <- hlen2]; exact hz, out.toList, c, ?_, hat⟩
    rw [h3]
    have : ∀ (ix : List Nat), (∀ i ∈ ix, i < as.length) -> Vals (ix.map fun i => V.ref (as.getD i 0)) (ix.map fun i => (as.map Value.ref).getD i Value.none) := by
     intro ix
     induction ix with
     | nil => intro _; exact .nil
     | cons i ix ih =>
      intro hi
      refine .cons ?_ (ih fun j hj => hi j (mem_cons_of_mem _ hj))
      have := hi i mem_cons_self
      dsimp only
      rw [getD_eq_getElem?_getD, getD_eq_getElem?_getD, getElem?_map, getElem?_eq_getElem this]
      rfl
    exact this _ hlt
   ·by_cases hxa : x ∈ as
    ·obtain ⟨j, hj⟩ := List.mem_iff_getElem?.mp hxa
     have hjl := (List.getElem?_eq_some_iff.mp hj).1
     have hy : ys[j]? = some (ys[j]'(by omega)) := getElem?_eq_getElem (by omega)
     rw [hat' j x _ hj hy] at e
     cases e
     obtain ⟨key, kk, y, e1, e2, e3⟩ := g.pairs j x hj
     have rl := rel
     obtain ⟨t1, t2, t3, t4, t5, t6⟩ := g2
     subst t4
     have rj : ∀ {l1 : List (Key × V)} {l2 : List (Key × Value)} {j : Nat} {a b}, KV l1 l2 -> l1[j]? = some a -> l2[j]? = some b -> a.1 = b.1 /\ RelV a.2 b.2 := by
      intro l1 l2 j a b r
      unfold KV at r
      induction r generalizing j with
      | nil => intro h; simp at h
      | cons h t ih =>
       intro h1 h2
       cases j with
       | zero => simp at h1 h2; subst h1 h2; exact h
       | succ j => exact ih (by simpa using h1) (by simpa using h2)
     obtain ⟨q1, q2⟩ := rj rel hy e1
     refine ⟨by show 2 <= sizeLine; decide, [key, y], .cons ?_ (.cons q2 .nil), mY.of (t6 _ _ e3)⟩
     have q1 : (ys[j]'(by omega)).1 = kk := q1
     rw [q1]
     exact (sO (h := s1.heap) (show kH kk key = true from e2)).2
    ·rw [hno x hxl hxa] at e
     exact absurd (I.bN.lt e) (Nat.not_lt.mpr hx)
  have hk : as.length = kvs.length := by omega
  refine ⟨.ref l, H', I2, rfl, q l H' as p.toList same hat' (by omega) (by rw [<- hk]; exact hp) ?_ (I.bN.fresh hls) hl'⟩
  rw [List.pairwise_iff_getElem]
  intro i j hi hj hij
  rw [length_map] at hi hj
  have hpz : p.toList.length = as.length := by rw [hp.length_eq, length_range]
  have h := h2 i j (by omega) (by rw [length_map]; omega)
  rw [getElem_map, getElem_map]
  have ky : ∀ (i : Nat) (hi : i < p.toList.length), Ky pX (fun i => code 3 ((bD kvs).getD i .bF)) p i = code 3 ((bD kvs).getD p.toList[i] .bF) := fun i hi => by
   unfold Ky
   rw [getD_eq_getD_getElem?, <- getElem?_toList, getElem?_eq_getElem hi]
   rfl
  rw [ky i hi, ky j hj] at h
  show (!gJ _ _) = true
  rw [not_eq_true']
  exact h
end
section
variable {K : Frag}
theorem HC (k : Key) : Rep K Z H (CH k) (kV k) := by
 cases k with
 | inl i => exact .int i
 | inr x => exact .str x
noncomputable def AA (fa : FE) : FE := fun e => bE (fa e) fun x e1 => bO (x.weak.get e1) fun p => match p with
 | .bG kvs => aU (decide (kvs.length < 64) && (((bD kvs).all (kW true) || (bD kvs).all (kW false)) && dC 3 (bD kvs))) (some (.new (.lst (pG 3 (bD kvs))), e1))
 | _ => none
theorem xU : ∀ {kvs : List (Key × PV)} {ys : List (Key × V)} {i : Nat} {z : Key × PV}, dF K Z H kvs ys -> kvs[i]? = some z -> ∃ y, ys[i]? = some y /\ y.1 = z.1 /\ Rep K Z H z.2 y.2
 | [], ys, i, z, h, e => by simp at e
 | x :: kvs, ys, i, z, h, e => by
  rcases h.cases with ⟨q, _⟩ | ⟨j, p, v, r, t, q, q', hp, hr⟩
  ·cases q
  ·cases q
   subst q'
   cases i with
   | zero => simp at e; subst e; exact ⟨(j, v), rfl, rfl, hp⟩
   | succ i => exact xU (i := i) hr (by simpa using e)
theorem DG (ha : Ref K ta fa) : Ref K (OQ (JI K) (dU (GA ta) lW)) (AA fa) := by
 intro O M W L σ H e e' b Q o he hf q
 obtain ⟨x, e1, f1, hf⟩ := aL hf
 obtain ⟨p, g0, hf⟩ := aE hf
 cases p with
 | bG kvs =>
  obtain ⟨c, hf⟩ := aJ hf
  cases hf
  rw [and_eq_true, and_eq_true] at c
  obtain ⟨c1, c2, c3⟩ := c
  refine ha O M W L σ H e _ x _ o he f1 fun v1 H1 k1 r1 fr => ?_
  have o1 := o.keep k1.bU
  have en := r1.en o1
  obtain ⟨a, ys, rfl, hd, ek, rl⟩ := ((r1.rv o1).red en g0).rK
  have led : ∃ b, ∀ x ∈ bD kvs, kW b x = true := by
   rcases Bool.or_eq_true_iff.mp c2 with z | z
   ·exact ⟨true, fun x hx => all_eq_true.mp z x hx⟩
   ·exact ⟨false, fun x hx => all_eq_true.mp z x hx⟩
  obtain ⟨bb, led⟩ := led
  refine ⟨a, ys, rfl, hd, fun v hv => ?_⟩
  have s1 : aT H1 (upd H1 v (PX v a)) := aT.upd hv
  have k2 := k1.trans (.same s1)
  have rd : dF K (aR M L) (upd H1 v (PX v a)) kvs ys := ⟨ek, rl.aH (.same s1)⟩
  refine ⟨v, a, ys, kvs, bb, rfl, aQ, hd.upd hv, ⟨ek, (rl.aH (.same s1)).aH (.less fun _ z => z.elim)⟩, of_decide_eq_true c1, led, c3, fun l H' as ix sm hat al h1 h2 hl hl' => ?_⟩
  have hix : ∀ i ∈ ix, i < kvs.length := fun i hi => mem_range.mp (h1.mem_iff.mp hi)
  have pl : (bD kvs).length = kvs.length := by unfold bD; rw [length_map]
  have pm : (ix.map fun i => (bD kvs).getD i .bF).Perm (bD kvs) := by
   have := h1.map fun i => (bD kvs).getD i PV.bF
   have e : (List.range kvs.length).map (fun i => (bD kvs).getD i PV.bF) = bD kvs := by
    rw [<- pl]
    apply ext_getElem
    ·simp
    ·intro i a1 a2
     simp [getElem?_eq_getElem a2]
   rw [e] at this
   exact this
  have es : pG 3 (bD kvs) = ix.map fun i => (bD kvs).getD i .bF :=
   jR (iS 3 _) h2 ((cZ 3 _).trans pm.symm) fun x hx y hy => x5 c3 ((cZ 3 _).mem_iff.mp hx) ((cZ 3 _).mem_iff.mp hy)
  rw [es] at q
  have st : cL (aR M L) (aR (aR M L) (one l)) (upd H1 v (PX v a)) H' := cL.new sm hl
  have reps : ∀ (js : List Nat), (∀ i ∈ js, i < kvs.length) -> aX K (aR (aR M L) (one l)) H' (js.map fun i => (bD kvs).getD i .bF) (js.map fun i => V.ref (as.getD i 0)) := by
   intro js
   induction js with
   | nil => intro _; exact .nil
   | cons i js ih =>
    intro hj
    have hi := hj i mem_cons_self
    refine .cons ?_ (ih fun j h => hj j (mem_cons_of_mem _ h))
    have hlen : ys.length = kvs.length := by have := congrArg List.length ek; simpa using this
    obtain ⟨y, hy, e1, e2⟩ := xU rd (getElem?_eq_getElem hi)
    have ht : as[i]? = some (as[i]'(by omega)) := getElem?_eq_getElem (by omega)
    dsimp only
    rw [getD_eq_getElem?_getD, getD_eq_getElem?_getD, ht]
    unfold bD
    rw [getElem?_map, getElem?_eq_getElem hi]
    show Rep K _ H' (.tup [CH kvs[i].1, kvs[i].2]) (.ref as[i])
    refine .tup (.inl (hat i _ _ ht hy)) (.cons (by rw [e1]; exact HC _) (.cons (e2.aH st) .nil))
  have rn : RN K (aR M L) (upd H1 v (PX v a)) H' (.ref l) (.new (.lst (ix.map fun i => (bD kvs).getD i .bF))) := ⟨l, rfl, hl, .lst hl' (reps ix hix)⟩
  exact q _ _ (k2.trans (.same sm)) (rn.rb (o.keep k2.bU) (en.same s1) sm) (rn.fr k2.bU)
 | _ => cases hf
theorem E1 : AA fa e = bE (fa e) fun x e1 => bO (x.weak.get e1) fun p => match p with
 | .bG kvs => aU (decide (kvs.length < 64) && (((bD kvs).all (kW true) || (bD kvs).all (kW false)) && dC 3 (bD kvs))) (some (.new (.lst (pG 3 (bD kvs))), e1))
 | _ => none := rfl
noncomputable def nA (fa : FE) : FE := fun e => bE (fa e) fun x e1 => bO (x.weak.get e1) fun p => match p with
 | .lst ps => bO (mJ ps) fun ss => aU (decide (ss.length < 4000) && decide ((cO ss).length < 64)) (some (.new (.lst ((mS (cO ss)).map PV.str)), e1))
 | _ => none
theorem uP {SO : Addr -> List Str -> HO} (ha : Ref K ta fa) : Ref K (OQ (yB SO) (dU (OQ (O2 K SO) (dU ta lW)) lW)) (nA fa) := by
 intro O M W L σ H e e' b Q o he hf q
 obtain ⟨x, e1, f1, hf⟩ := aL hf
 obtain ⟨p, g0, hf⟩ := aE hf
 cases p with
 | lst ps =>
  obtain ⟨ss, g1, hf⟩ := aE hf
  obtain ⟨c, hf⟩ := aJ hf
  rw [and_eq_true] at c
  have c1 := of_decide_eq_true c.1
  have c2 := of_decide_eq_true c.2
  cases hf
  refine ha O M W L σ H e _ x _ o he f1 fun v1 H1 k1 r1 fr => ?_
  have o1 := o.keep k1.bU
  have en := r1.en o1
  obtain ⟨a, ys, rfl, hd, rl⟩ := ((r1.rv o1).red en g0).j9
  rw [jT g1] at rl
  rw [rl.strs] at hd
  refine ⟨a, ss, rfl, hd.sq, c1, fun v hv => ⟨v, _, rfl, aQ, c2, fun l out h1 h2 hl => ?_⟩⟩
  have s1 : aT H1 (upd H1 v (SO v (cO ss))) := aT.upd hv
  have k2 := k1.trans (.same s1)
  have s2 := aT.upd (o := .lst (out.map V.str)) hl
  rw [p7 h1 h2] at q
  have rn : RN K (aR M L) _ _ (.ref l) (.new (.lst (out.map PV.str))) := yQ hl (aX.ofStrs out)
  exact q _ _ (k2.trans (.same s2)) (rn.rb (o.keep k2.bU) (en.same s1) s2) (rn.fr k2.bU)
 | _ => cases hf
theorem xF : nA fa e = bE (fa e) fun x e1 => bO (x.weak.get e1) fun p => match p with
 | .lst ps => bO (mJ ps) fun ss => aU (decide (ss.length < 4000) && decide ((cO ss).length < 64)) (some (.new (.lst ((mS (cO ss)).map PV.str)), e1))
 | _ => none := rfl
end
end Mr
namespace L2
open PySem PySem.Spec PyProof.Rows PySem.W
section
variable {X : Cx}
noncomputable def JZ : List V -> Hp -> VK -> Prop := fun xs H Q => ∃ a kvs, xs = [.ref a] /\ u3 H a kvs /\ Q (.int kvs.length) H
theorem WT : b8 X (.builtin "len") JZ := by
 intro pins s σ H xs us Q I r ⟨a, kvs, e, ha, q⟩
 subst e
 obtain ⟨u, rfl, rx⟩ := vals1 r
 cases rx
 obtain ⟨hz, hd, vs, rel, dd⟩ := gH I.bN ha
 refine call_len_dict hd dd (by have := rel.len; rw [sizeLine_eq] at hz; omega) ?_
 exact ⟨.int kvs.length, H, I.tok _, ⟨s.toks + 1, by rw [rel.len]⟩, q⟩
end
end L2
namespace Mr
open PySem L2
section
variable {K : Frag}
noncomputable def A0 : List PV -> Option Bv
 | [.bG kvs] => some (.val (.int kvs.length))
 | _ => none
theorem M7 : fZ K JZ A0 := by
 intro Z H vs ps b Q hp h k
 unfold A0 at h
 split at h
 ·cases h
  obtain ⟨v, rfl, hv⟩ := hp.one
  obtain ⟨a, ys, rfl, ha, ek, ra⟩ := hv.rK
  refine ⟨a, ys, rfl, ha, k _ H (aT.refl _) ?_⟩
  have := congrArg List.length ek
  rw [length_map, length_map] at this
  rw [this]
  exact Rep.int _
 ·cases h
noncomputable def N0 (K : Frag) : List V -> Hp -> VK -> Prop := fun xs H Q => JU K xs H Q \/ JZ xs H Q
theorem XF {X : Cx} (K : Frag) (hK : X.K = K := by rfl) : b8 X (.builtin "len") (N0 K) := b8.or (yG K hK) WT
noncomputable def E3 : List PV -> Option Bv := fun p => (qC p).or (A0 p)
theorem BH : fZ K (N0 K) E3 := fZ.or yR M7
end
end Mr
namespace L2
open PySem PySem.Spec PyProof.Rows PySem.W
section
variable {prog : Program} {w : World} {A : Around} {R : Result -> Shared -> Prop} {I : Addr} {fp wr : List Addr} {n : Nat} {Pz : Nat -> Value -> Prop} {Sz : Nat -> Heap -> Prop}
noncomputable def OX (prog : Program) (w : World) (A : Around) (ok : Heap -> Prop) (Pz : Nat -> Value -> Prop) (bt : Nat -> Nat -> Bool) : Prop :=
 ∀ i j vi vj (s : Shared) (Q : Value -> Shared -> Prop) (E : Value -> Shared -> Prop), ok s.heap -> Pz i vi -> Pz j vj -> Q (.bool (bt i j)) s -> wpAny (model prog w) A (richCompare .Lt vi vj) Q E s
theorem tW : (toString "min" ++ toString ".loop" : String) = "min.loop" := by decide
theorem JA {ok : Heap -> Prop} (W : Walks prog w A.in1 I fp wr n Pz Sz) (bt : Nat -> Nat -> Bool) (hcmp : OX prog w A.in1 ok Pz bt) (S : Addr) (nf : S ∉ fp) (okk : ∀ h h', ok h -> (∀ b o, b ∉ wr -> b ≠ S -> h.get? b = some o -> h'.get? b = some o) -> ok h') :
  ∀ (k j : Nat) (s : Shared) (vb : Value) (c : Nat), n - (j + 1) = k -> j + 1 <= n -> ok s.heap -> Sz (j + 1) s.heap -> Pz (argBest bt j) vb -> s.heap.get? S = some { cls := .type "list", dict := none, data := .seq #[vb, vb] c, slots := #[] } ->
  (∀ v h' tk, Pz (argBest bt (n - 1)) v -> (∀ b o, b ∉ wr -> b ≠ S -> s.heap.get? b = some o -> h'.get? b = some o) -> R (.ok (.ret v)) { s with heap := h', toks := tk }) -> codeAny (model prog w) A (.builtin "min.loop" ⟨[.ref I, .none, .ref S], []⟩) R s := by
 have nw : S ∉ wr := fun h => nf (W.sub _ h)
 intro k
 induction k with
 | zero =>
  intro j s vb c hk hj bN st hb gS hR
  have e : j + 1 = n := by omega
  refine codeAny_builtin F.entry_min_loop ?_
  rw [Around.under_plainId F.plain_min_loop _]
  refine wpAny_bind (m := seqItems? (.ref S)) (wpAny_seqItems gS rfl ?_)
  refine wpAny_bind (m := tryCatch (pyNext (.ref I)) _) (wpAny_tryCatch (W.done s _ _ (e ▸ st) fun h' tk kp => ?_))
  have gS' := kp S _ nw gS
  refine wpAny_bind (m := updateSeq S (fun _ => #[])) (wpAny_updateSeq gS' rfl (wpAny_bind (wpAny_letGo (wpAny_pure ?_))))
  exact hR vb _ tk (by rw [<- e]; exact hb) fun b o h1 h2 q => (get?_update_other _ _ (Ne.symm h2)).trans (kp b o h1 q)
 | succ k ih =>
  intro j s vb c hk hj bN st hb gS hR
  have hlt : j + 1 < n := by omega
  refine codeAny_builtin F.entry_min_loop ?_
  rw [Around.under_plainId F.plain_min_loop _]
  refine wpAny_bind (m := seqItems? (.ref S)) (wpAny_seqItems gS rfl ?_)
  refine wpAny_bind (m := tryCatch (pyNext (.ref I)) _) (wpAny_tryCatch (W.item (j + 1) s _ _ hlt st fun v h' tk hP st' kp => ?_))
  have gS' := kp S _ nw gS
  have ok' : ok h' := okk _ _ bN fun b o h1 _ q => kp b o h1 q
  refine wpAny_bind (m := tryCatch (holding [v, v] (richCompare .Lt v vb >>= _)) _) (wpAny_tryCatch (wpAny_holding (wpAny_bind (hcmp (j + 1) (argBest bt j) v vb { s with heap := h', toks := tk } _ _ ok' hP hb ?_))))
  refine wpAny_bind (wpAny_holding (wpAny_truthy_bool (wpAny_bind (wpAny_letGo (wpAny_pure ?_)))))
  cases hbt : bt (j + 1) (argBest bt j) with
  | true =>
   simp only [if_true]
   refine wpAny_bind (wpAny_updateSeq gS' rfl (wpAny_bind (wpAny_letGo ?_)))
   rw [tW]
   have ne : ∀ {b : Addr} {o : Obj}, b ≠ S -> h'.get? b = some o -> (h'.update S (Obj.mapSeq fun _ => #[v, v])).get? b = some o := fun h q => (get?_update_other _ _ (Ne.symm h)).trans q
   refine wpAny_pure ⟨plainId_quiet F.plain_min_loop _, ih (j + 1) _ v _ (by omega) hlt (okk _ _ ok' fun b o _ h2 q => ne h2 q) (W.frame _ _ _ st' fun b hbf o q => ne (fun z => nf (by rw [<- z]; exact hbf)) q) (by simp only [argBest, hbt, if_true]; exact hP) (get?_update_self _ gS' rfl) fun v' h2 tk2 hP' kp2 => ?_⟩
   exact hR v' h2 tk2 hP' fun b o h1 h3 q => kp2 b o h1 h3 (ne h3 (kp b o h1 q))
  | false =>
   simp only [false_eq_true, if_false]
   refine wpAny_bind (wpAny_letGo ?_)
   rw [tW]
   refine wpAny_pure ⟨plainId_quiet F.plain_min_loop _, ih (j + 1) _ vb c (by omega) hlt ok' st' (by simp only [argBest, hbt, false_eq_true, if_false]; exact hb) gS' fun v' h2 tk2 hP' kp2 => ?_⟩
   exact hR v' h2 tk2 hP' fun b o h1 h3 q => kp2 b o h1 h3 (kp b o h1 q)
theorem min_list {E : Value -> Shared -> Prop} {s : Shared} {l : Addr} {vs : List Value} {Q : Value -> Shared -> Prop} {ok : Heap -> Prop} (bt : Nat -> Nat -> Bool) (hh : A.handled = none) (hl : s.heap.IsList l vs.toArray) (hn : 0 < vs.length)
  (bN : ∀ h', (∀ b o, s.heap.get? b = some o -> h'.get? b = some o) -> ok h') (okk : ∀ h h' : Heap, ok h -> (∀ b o, b < s.heap.objs.size -> h.get? b = some o -> h'.get? b = some o) -> ok h') (hcmp : OX prog w A.in1 ok (fun i v => vs[i]? = some v) bt)
  (hq : ∀ v h' tk, vs[argBest bt (vs.length - 1)]? = some v -> (∀ b o, s.heap.get? b = some o -> h'.get? b = some o) -> Q v { s with heap := h', toks := tk }) : wpAny (model prog w) A (call (.builtin "min") [.ref l]) Q E s := by
 have lS : l < s.heap.objs.size := let ⟨_, e, _⟩ := hl; lt_size e
 refine call_function_tree F.kind_min F.plain_min F.entry_min (F.args_min1 _) ?_
 refine wpAny_bind (m := Builtin.Builtins.bindParams "min" ["key", "default"] 0 ⟨[], []⟩) (wpAny_of_eq (show Builtin.Builtins.bindParams "min" ["key", "default"] 0 ⟨[], []⟩ = pure [none, none] from rfl) (wpAny_bind (wpAny_pure ?_)))
 refine wpAny_bind (wpAny_pyIter_list hl ?_)
 refine wpAny_bind (wpAny_newObj_type ?_)
 rw [tW]
 generalize hX : (s.heap.push { cls := .type "list_iterator", data := .fields #[.ref l, .int 0 0] }) = h1
 have z1 : h1.objs.size = s.heap.objs.size + 1 := by rw [<- hX]; exact size_push ..
 have k1 : ∀ b o, s.heap.get? b = some o -> h1.get? b = some o := fun b o e => by rw [<- hX]; exact get?_push_of_some _ e
 have e1 : h1.get? s.heap.objs.size = some { cls := .type "list_iterator", data := .fields #[.ref l, .int 0 0] } := by rw [<- hX]; exact get?_push_size _ rfl
 have nI : l ≠ s.heap.objs.size := ne_of_lt lS
 have W := Walks.list (prog := prog) (w := w) (A := A.in1) (by exact hh) s.heap.objs.size l nI vs.toArray
 have gS : (h1.push { cls := .type "list", data := .seq ([] : List Value).toArray }).get? h1.objs.size = some { cls := .type "list", dict := none, data := .seq #[] 0, slots := #[] } := get?_push_size _ rfl
 have nf : h1.objs.size ∉ [s.heap.objs.size, l] := by
  rw [z1]
  simp only [mem_cons, not_mem_nil, or_false, not_or]
  exact ⟨ne_of_gt (lt_succ_self _), ne_of_gt (lt_succ_of_lt lS)⟩
 have nw : h1.objs.size ∉ [s.heap.objs.size] := fun z => nf (by simp at z ⊢; exact .inl z)
 have st0 : (h1.push { cls := .type "list", data := .seq ([] : List Value).toArray }).IsListIter s.heap.objs.size l 0 /\ (h1.push { cls := .type "list", data := .seq ([] : List Value).toArray }).IsList l vs.toArray := by
  refine ⟨⟨_, get?_push_of_some _ e1, rfl, rfl⟩, ?_⟩
  obtain ⟨o, e, r⟩ := hl
  exact ⟨o, get?_push_of_some _ (k1 _ _ e), r⟩
 refine wpAny_pure ⟨plainId_quiet F.plain_min_loop _, ?_⟩
 refine codeAny_builtin F.entry_min_loop ?_
 rw [Around.under_plainId F.plain_min_loop _]
 refine wpAny_bind (m := seqItems? (.ref h1.objs.size)) (wpAny_seqItems gS rfl ?_)
 refine wpAny_bind (m := tryCatch (pyNext (.ref s.heap.objs.size)) _) (wpAny_tryCatch (W.item 0 { s with heap := h1.push { cls := .type "list", data := .seq ([] : List Value).toArray } } _ _ (by simpa using hn) st0 fun v h' tk hP st' kp => ?_))
 have gS' := kp h1.objs.size _ nw gS
 refine wpAny_bind (m := updateSeq h1.objs.size (fun _ => #[v, v])) (wpAny_updateSeq gS' rfl ?_)
 rw [tW]
 have ne : ∀ {b : Addr} {o : Obj}, b ≠ h1.objs.size -> h'.get? b = some o -> (h'.update h1.objs.size (Obj.mapSeq fun _ => #[v, v])).get? b = some o := fun h q => (get?_update_other _ _ (Ne.symm h)).trans q
 have ltS : ∀ {b : Addr} {o : Obj}, s.heap.get? b = some o -> b ∉ [s.heap.objs.size] /\ b ≠ h1.objs.size := fun e => by
  have := lt_size e
  rw [z1]
  exact ⟨by simp; exact ne_of_lt this, ne_of_lt (lt_succ_of_lt this)⟩
 have kq : ∀ b o, s.heap.get? b = some o -> (h'.update h1.objs.size (Obj.mapSeq fun _ => #[v, v])).get? b = some o := fun b o e => ne (ltS e).2 (kp b o (ltS e).1 (get?_push_of_some _ (k1 b o e)))
 refine wpAny_pure ⟨plainId_quiet F.plain_min_loop _, JA (ok := ok) W bt (fun i j vi vj s Q E h1 h2 h3 h4 => hcmp i j vi vj s Q E h1 (by simpa using h2) (by simpa using h3) h4) h1.objs.size nf (fun h h2 o k => okk h h2 o fun b u hb q => k b u (by simp; exact ne_of_lt hb) (by rw [z1]; exact ne_of_lt (lt_succ_of_lt hb)) q) _ 0 _ v _ rfl (by simp; omega) (bN _ kq) (W.frame _ _ _ st' fun b hbf o q => ne (fun z => nf (by rw [<- z]; exact hbf)) q) (by simpa [argBest] using hP) (get?_update_self _ gS' rfl) fun v' h2 tk2 hP' kp2 => ?_⟩
 exact hq v' h2 tk2 (by simpa using hP') fun b o e => kp2 b o (ltS e).1 (ltS e).2 (kq b o e)
end
end L2
namespace Mr
open PySem PySem.Spec L2 PyProof.Rows PySem.W
noncomputable def EJ (ps : List PV) (i j : Nat) : Bool := gJ (code 3 (ps.getD i .bF)) (code 3 (ps.getD j .bF))
noncomputable def xC (ps : List PV) : PV := ps.getD (argBest (EJ ps) (ps.length - 1)) .bF
theorem iU (bt : Nat -> Nat -> Bool) : ∀ k, argBest bt k <= k
 | 0 => le_refl _
 | k + 1 => by
  have := iU bt k
  unfold argBest
  split <;> omega
section
variable {X : Cx} {k : Nat}
noncomputable def ON (K : Frag) : List V -> Hp -> VK -> Prop := fun xs H Q => ∃ p ys ps, xs = [.ref p] /\ gK K H p ys /\ aX K cK H ps ys /\ 0 < ps.length /\ dC 3 ps = true /\ Q (ys.getD (argBest (EJ ps) (ps.length - 1)) .bF) H
theorem VE (K : Frag) (hr : dD k X.A) (hK : X.K = K := by rfl) (hc : X.calm = true := by rfl) : b8 X (.builtin "min") (ON K) := by
 subst hK
 intro pins s σ H xs us Q I r ⟨p, ys, ps, e, hq, rp, h0, cmp, q⟩
 subst e
 obtain ⟨u, rfl, rx⟩ := vals1 r
 cases rx
 obtain ⟨vs, rv, pl, hz⟩ := I.list hq
 have hlen := rv.length
 have hpl := rp.length
 have ok : ∀ x ∈ ps, fW 3 x = true := fun x hx => by
  have := all_eq_true.mp cmp x hx
  rw [and_eq_true] at this
  exact zF this.1
 refine min_list (ok := fun h => ∀ b o, s.heap.get? b = some o -> h.get? b = some o) (EJ ps) (by exact I.ok.hd hc) pl.isList (by omega) (fun h' kp => kp) (fun h h' o kk b u e => kk b u (lt_size e) (o b u e)) (fun i j vi vj s' Q E bN h1 h2 hQ => ?_) fun v h' tk hv kp => ?_
 ·have hL : bL s'.heap ps vs := aX.lies (I.kept (t' := s.toks) bN) (n := 3) (all_eq_true.mpr ok) rp rv
  obtain ⟨p1, e1, l1⟩ := hL.get h1
  obtain ⟨p2, e2, l2⟩ := hL.get h2
  have m1 := mem_of_getElem? e1
  have m2 := mem_of_getElem? e2
  refine G2 (s := s') 3 X.A.in1 (by have := hr.un; show X.A.units + 1 + 3 < _; omega) (ok p1 m1) (ok p2 m2) l1 l2 (mN cmp m1 m2) _ _ _ _ ?_
  have hQ : Q (.bool (gJ (code 3 (ps.getD i .bF)) (code 3 (ps.getD j .bF)))) s' := hQ
  rw [getD_eq_getElem?_getD, e1, getD_eq_getElem?_getD, e2] at hQ
  exact hQ
 ·obtain ⟨y, hy, ry⟩ := rv.get' hv
  refine ⟨y, H, I.kept (t' := tk) kp, ry, ?_⟩
  rw [getD_eq_getElem?_getD, show ps.length = vs.length by omega, hy] at q
  exact q
end
section
variable {K : Frag}
noncomputable def rS : List PV -> Option Bv
 | [.lst ps] => aU (decide (0 < ps.length) && dC 3 ps) (some (.val (xC ps)))
 | _ => none
theorem AQ : fZ K (ON K) rS := by
 intro Z H vs qs b Q hp h kk
 unfold rS at h
 split at h
 ·rename_i ps
  obtain ⟨c, h⟩ := aJ h
  cases h
  rw [and_eq_true] at c
  have c1 := of_decide_eq_true c.1
  obtain ⟨v, rfl, hv⟩ := hp.one
  obtain ⟨a, ys, rfl, ha, ra⟩ := hv.j9
  refine ⟨a, ys, ps, rfl, ha.sq, ra.aH (.less fun _ z => z.elim), c1, c.2, kk _ H (aT.refl _) ?_⟩
  have hlt : argBest (EJ ps) (ps.length - 1) < ps.length := by have := iU (EJ ps) (ps.length - 1); omega
  obtain ⟨y, hy, ry⟩ := ra.get (getElem?_eq_getElem hlt)
  show Rep K Z H (xC ps) _
  unfold xC
  rw [getD_eq_getElem?_getD, getD_eq_getElem?_getD, hy, getElem?_eq_getElem hlt]
  exact ry
 ·cases h
end
end Mr
namespace L2
open PySem
section
variable {X : Cx} {pins : List (Addr × Obj)} {σ : St} {H : Hp} {s : Shared} {a : Addr} {y d : V} {u r : Value} {A : Around} {E : Value -> Shared -> Prop}
theorem HY {kvs : List (Key × V)} {k : Key} {Q : Value -> Shared -> Prop} (I : Inv X pins σ H s) (e : qP H a kvs) (ry : RelV (kV k) u) (rd : RelV d r) (hz : kvs.length < sizeLine)
  (h1 : ∀ v w' s', dN kvs k = some v -> Inv X pins σ H s' -> RelV v w' -> Q w' s') (h2 : ∀ ep s', dN kvs k = none -> Inv X pins σ (upd H a (.dK (putK kvs k d) ep)) s' -> Q r s') :
  wpAny (model X.prog X.w) A (call (.builtin "dict.setdefault") [.ref a, u, r]) Q E s := by
 obtain ⟨z, hd, vs, rel, dd⟩ := FV I.bN e
 have hz' : vs.length <= sizeLine := by rw [<- rel.length]; exact z
 have rv := rel.val k
 refine call_meetsIn PySem.F.slot_dict_setdefault dd.typeIs PySem.F.entry_dict_setdefault (PySem.F.args_dict_setdefault_3 _ _ _) (kt_meets_setdefault (bM X.prog X.w) a (lO ry) hd r) ⟨vs, dd, hz', fun v hv => ?_, fun hn h' dd' hs => ?_⟩
 ·rw [hv] at rv
  cases c : dN kvs k with
  | none => rw [c] at rv; exact rv.elim
  | some v' => rw [c] at rv; exact h1 v' v _ c (I.tok _) rv
 ·rw [hn] at rv
  cases c : dN kvs k with
  | some v' => rw [c] at rv; exact rv.elim
  | none =>
   have hl : (putK kvs k d).length <= sizeLine := by have := gR kvs k d; omega
   have he : ∃ q, h'.get? a = some q := let ⟨q, _, _, hq, _⟩ := dd'; ⟨q, hq⟩
   obtain ⟨ep, da⟩ := dd'.dictAt
   exact h2 ep _ c (oY I e.WJ hs he (AE hl hd (rel.put k rd) da))
end
noncomputable def JY (td ty tx : TE) : TE := fun σ H Q => td σ H fun x H1 => ∃ a, x = .ref a /\ XH H1 a /\ ty σ H1 fun y H2 => tx σ H2 fun z H3 => ∃ kvs k, qP H3 a kvs /\ y = kV k /\ kvs.length < sizeLine /\
 (∀ v, dN kvs k = some v -> Q v H3) /\ (∀ ep, dN kvs k = none -> Q z (upd H3 a (.dK (putK kvs k z) ep)))
section
variable {X : Cx} {o e f : Expr} {apos cpos : Pos} {td ty tx : TE}
theorem yS (ho : PE X o td) (he : PE X e ty) (hf : PE X f tx) (m : M2 X o "setdefault" apos e f cpos) : PE X (.Call (.Attribute o "setdefault" apos) [e, f] [] cpos) (JY td ty tx) := by
 intro pins s σ H Q I h
 refine wpAny_Call_method m.base m.WG m.line plainAttrs_dict PySem.F.slot_dict_setdefault PySem.F.type_dict_setdefault (cJ (ho pins s σ H _ I h) fun u s1 ⟨x, H1, I1, rx, a, ex, d, q1⟩ => ?_)
 subst ex
 obtain rfl : u = Value.ref a := rx
 obtain ⟨t1, t2, _⟩ := GI I1 d
 refine ⟨t1, t2, ?_⟩
 rw [m.trees]
 refine Calls.callWith_builtin rfl (Calls.evalArgs_plain (Calls.spliced_cons (cJ (he pins s1 σ H1 _ I1 q1) fun iv s2 ⟨y, H2, I2, ry, q2⟩ =>
  Calls.spliced_cons (cJ (hf pins s2 σ H2 _ I2 q2) fun fv s3 ⟨z, H3, I3, rz, kvs, k, ea, ey, hz, g1, g2⟩ => Calls.spliced_nil ?_))))
 subst ey
 exact HY I3 ea ry rz hz (fun v w' s' c I' r' => ⟨v, H3, I', r', g1 v c⟩) fun ep s' c I' => ⟨z, _, I', rz, g2 ep c⟩
end
end L2
namespace Mr
open PySem L2
variable {a : Addr} {d : DD} {e : En} {D : Ends} {fa : FA} {fk fv : FE} {fc : FT} {f g : FX} {H H' H1 : Hp} {i : Nat} {σ : St} {fi : TB} {tv : TE} {t : Tr} {W : WS} {B L L1 M O Z : aI} {Q : rD -> Prop}
noncomputable abbrev DD := List (Key × List PV)
noncomputable abbrev Tr := List (Key × Addr × List PV)
noncomputable def ofT (t : Tr) : DD := t.map fun z => (z.1, z.2.2)
noncomputable def BX (a : Addr) (t : Tr) : aI := fun b => b = a \/ b ∈ t.map (·.2.1)
noncomputable def wB (W : WS) (B : aI) : WS := ⟨W.w, fun c => W.old c /\ ¬ B c⟩
structure VU (K : Frag) (Z : aI) (H : Hp) (a : Addr) (t : Tr) : Prop where
 OZ : qP H a (t.map fun z => (z.1, V.ref z.2.1))
 lst : ∀ z ∈ t, ∃ xs, H z.2.1 = some (.lst xs) /\ aX K Z H z.2.2 xs
 nd : (a :: t.map (·.2.1)).Nodup
 kd : (t.map (·.1)).Nodup
noncomputable def VT (O L : aI) (H : Hp) (B : aI) : Prop := ∀ b, B b -> H b ≠ none /\ ¬ O b /\ ¬ L b
theorem VT.OP (o : iY O M W L H) (b : VT O L H B) : iY (aR O B) (aR M B) (wB W B) L H :=
 ⟨fun a h => h.elim (o.old a) fun h => (b a h).1, fun a h => h.elim (fun h => .inl (o.mo a h)) .inr, fun i a h => .inl (o.wm i a h), fun a h => ⟨(o.loc a h).1, fun z => z.elim (o.loc a h).2 fun z => (b a z).2.2 h⟩⟩
structure eF (W : WS) (L L' B B' : aI) (H H' : Hp) : Prop where
 obj : ∀ a o, H a = some o -> ¬ aw W a -> ¬ L a -> ¬ B a -> H' a = some o
 tup : ∀ a xs, H a = some (.tup xs) -> H' a = some (.tup xs)
 bU : ∀ a, H a ≠ none -> H' a ≠ none
 new : ∀ a, L' a -> L a \/ H a = none
 ME : ∀ a, B' a -> B a \/ H a = none
theorem none_of {H : Hp} (d : ∀ a, H a ≠ none -> H1 a ≠ none) {a : Addr} (h : H1 a = none) : H a = none := by
 cases e : H a with
 | none => rfl
 | some o => exact absurd h (d a (by rw [e]; exact fun z => nomatch z))
theorem eF.keep (k : bR W L H H') : eF W L L B B H H' := ⟨fun a o h n m _ => k.obj a o h n m, k.tup, k.bU, fun _ h => .inl h, fun _ h => .inl h⟩
theorem eF.refl : eF W L L B B H H := .keep .refl
theorem eF.trans {L2 B1 B2 : aI} {H2 : Hp} (a : eF W L L1 B B1 H H1) (b : eF W L1 L2 B1 B2 H1 H2) : eF W L L2 B B2 H H2 :=
  ⟨fun c o h n m l => b.obj c o (a.obj c o h n m l) n (fun z => (a.new c z).elim m fun z => (by rw [h] at z; cases z)) fun z => (a.ME c z).elim l fun z => (by rw [h] at z; cases z),
   fun c xs h => b.tup c xs (a.tup c xs h), fun c h => b.bU c (a.bU c h), fun c h => (b.new c h).elim (a.new c) fun z => .inr (none_of a.bU z), fun c h => (b.ME c h).elim (a.ME c) fun z => .inr (none_of a.bU z)⟩
inductive rD where
 | nx (e : En) (d : DD) | ct (e : En) (d : DD)
noncomputable abbrev FX := En -> DD -> Option rD
structure DN (K : Frag) (O M : aI) (W : WS) (x : Nat) (a : Addr) (L : aI) (σ : St) (H : Hp) (e : En) (t : Tr) : Prop where
 ok : iY O M W L H
 uD : VT O L H (BX a t)
 en : aN K (aR (aR M (BX a t)) L) (wB W (BX a t)) L H σ e
 at' : σ[x]? = some (some (.ref a))
 sec : VU K (aR (aR M (BX a t)) L) H a t
noncomputable def A1 (K : Frag) (O M : aI) (W : WS) (x : Nat) (a : Addr) (L : aI) (H : Hp) (t : Tr) (D : Ends) : rD -> Prop
 | .nx e' d' => ∀ L' σ' H' t', eF W L L' (BX a t) (BX a t') H H' -> DN K O M W x a L' σ' H' e' t' -> ofT t' = d' -> D.nx σ' H'
 | .ct e' d' => ∀ L' σ' H' t', eF W L L' (BX a t) (BX a t') H H' -> DN K O M W x a L' σ' H' e' t' -> ofT t' = d' -> D.ct σ' H'
theorem A1.later {K : Frag} {x : Nat} {t1 : Tr} {r : rD} (g : eF W L L1 (BX a t) (BX a t1) H H1) (h : A1 K O M W x a L H t D r) : A1 K O M W x a L1 H1 t1 D r := by
 cases r with
 | nx e d => exact fun L' σ' H' t' g' => h L' σ' H' t' (g.trans g')
 | ct e d => exact fun L' σ' H' t' g' => h L' σ' H' t' (g.trans g')
noncomputable def wH (K : Frag) (x : Nat) (ts : TS) (f : FX) : Prop := ∀ (O M : aI) (W : WS) (a : Addr) (L : aI) (σ : St) (H : Hp) (e : En) (t : Tr) (r : rD) (D : Ends), DN K O M W x a L σ H e t -> f e (ofT t) = some r -> A1 K O M W x a L H t D r -> ts D σ H
section
variable {K : Frag} {x : Nat}
theorem VU.keep (o : iY O M W L H) (b : VT O L H (BX a t)) (k : bR (wB W (BX a t)) L H H') (s : VU K (aR (aR M (BX a t)) L) H a t) : VU K (aR (aR M (BX a t)) L) H' a t := by
 have st := k.aH (b.OP o)
 have nb : ∀ c ob, BX a t c -> H c = some ob -> H' c = some ob := fun c ob hc h => k.obj c ob h (fun ⟨i, w⟩ => (b c hc).2.1 (o.mo _ (o.wm i c w))) (b c hc).2.2
 exact ⟨let ⟨ep, e⟩ := s.OZ; ⟨ep, nb a _ (.inl rfl) e⟩, fun z hz => let ⟨xs, h1, h2⟩ := s.lst z hz; ⟨xs, nb _ _ (.inr (mem_map.mpr ⟨z, hz, rfl⟩)) h1, h2.aH st⟩, s.nd, s.kd⟩
theorem DN.keep {e' : En} (n : DN K O M W x a L σ H e t) (k : bR (wB W (BX a t)) L H H') (en : aN K (aR (aR M (BX a t)) L) (wB W (BX a t)) L H' σ e') : DN K O M W x a L σ H' e' t :=
 ⟨n.ok.keep k.bU, fun b h => ⟨k.bU b (n.uD b h).1, (n.uD b h).2⟩, en, n.at', n.sec.keep n.ok n.uD k⟩
theorem kw (k : bR (wB W B) L H H') : bR W L H H' := ⟨k.obj, k.tup, k.bU⟩
noncomputable def IS : FX := fun e d => some (.nx e d)
theorem CO : wH K x G5 IS := by
 intro O M W a L σ H e t r D n hf q
 cases hf
 exact q L σ H t .refl n rfl
noncomputable def UD (f g : FX) : FX := fun e d => match f e d with
 | some (.nx e1 d1) => g e1 d1
 | r => r
noncomputable def WQ (fc : FT) (f g : FX) : FX := fun e d => bE (fc e) fun b e1 => bB b (f e1 d) (g e1 d)
theorem GC {c : TT} {t u : TS} (hc : iV K c fc) (h1 : wH K x t f) (h2 : wH K x u g) : wH K x (P0 c t u) (WQ fc f g) := by
 intro O M W a L σ H e tr r D n hf q
 obtain ⟨b, e1, f1, hf⟩ := aL hf
 refine hc _ _ _ L σ H e _ _ _ (n.uD.OP n.ok) n.en f1 fun H1 k1 en => ?_
 have n1 := n.keep k1 en
 cases b with
 | true => rw [if_pos rfl]; exact h1 O M W a L σ H1 e1 tr r D n1 hf (q.later (.keep (kw k1)))
 | false => rw [if_neg Bool.false_ne_true]; exact h2 O M W a L σ H1 e1 tr r D n1 hf (q.later (.keep (kw k1)))
noncomputable def BP (K : Frag) (x : Nat) (g : TG) (f : FG) : Prop := ∀ (O M : aI) (W : WS) (L : aI) (σ : St) (H : Hp) (e e' : En) (p : PV) (v : V) (Q : St -> Hp -> Prop), iY O M W L H -> aN K (aR M L) W L H σ e -> Rep K (aR M L) H p v -> f p e = some e' -> (∀ σ', σ'[x]? = σ[x]? -> aN K (aR M L) W L H σ' e' -> Q σ' H) -> g v σ H Q
noncomputable def tT (K : Frag) (x : Nat) (g : B0) (f : EL) : Prop := ∀ (O M : aI) (W : WS) (L : aI) (σ : St) (H : Hp) (e e' : En) (p : List PV) (v : List V) (Q : St -> Hp -> Prop), iY O M W L H -> aN K (aR M L) W L H σ e -> aX K (aR M L) H p v -> f p e = some e' -> (∀ σ', σ'[x]? = σ[x]? -> aN K (aR M L) W L H σ' e' -> Q σ' H) -> g v σ H Q
theorem z4 (h : i ≠ x) : BP K x (lM i) (aS i) := by
 intro O M W L σ H e e' p v Q o he hp hf q
 cases hf
 exact q _ (getElem?_set_ne h) (aN.put he rfl hp)
theorem C5 : tT K x SF kO := by
 intro O M W L σ H e e' p v Q o he hp hf q
 cases p with
 | nil => cases hf; cases hp; exact ⟨rfl, q σ rfl he⟩
 | cons p ps => cases hf
theorem y4 {g : TG} {gs : B0} {f : FG} {fs : EL} (h1 : BP K x g f) (h2 : tT K x gs fs) : tT K x (JW g gs) (cF f fs) := by
 intro O M W L σ H e e' p v Q o he hp hf q
 cases p with
 | nil => cases hf
 | cons p ps =>
  obtain ⟨e1, f1, hf⟩ := aE hf
  cases hp with
  | cons hp hr => exact ⟨_, _, rfl, h1 O M W L σ H e e1 p _ _ o he hp f1 fun σ' ex he' => h2 O M W L σ' H e1 e' ps _ _ o he' hr hf fun σ2 ex2 => q σ2 (ex2.trans ex)⟩
theorem D7 {n : Nat} {g : B0} {f : EL} (h : tT K x g f) : BP K x (K4 K n g) (kE n f) := by
 intro O M W L σ H e e' p v Q o he hp hf q
 cases p with
 | tup ps =>
  obtain ⟨g1, hf⟩ := aJ hf
  cases hp with
  | tup ha hr => exact ⟨_, _, rfl, ha.sq, by rw [<- hr.length]; exact of_decide_eq_true g1, h O M W L σ H e e' ps _ Q o he hr hf q⟩
 | _ => cases hf
noncomputable def U0 (K : Frag) (Z : aI) (H : Hp) (J : It) (items : List PV) : Prop := ∀ Z' H', cL Z Z' H H' -> (∀ k p, items[k]? = some p -> J.go k H' /\ ∀ x H3, J.TC k H' x H3 -> aT H' H3 /\ Rep K Z' H3 p x) /\ J.stop items.length H'
noncomputable abbrev TB := En -> Option (List PV × En)
noncomputable def JL (K : Frag) (wi : TI) (f : TB) : Prop := ∀ (O M : aI) (W : WS) (L : aI) (σ : St) (H : Hp) (e e' : En) (ps : List PV) (R : It -> Hp -> Prop), iY O M W L H -> aN K (aR M L) W L H σ e -> f e = some (ps, e') ->
 (∀ J H', bR W L H H' -> aN K (aR M L) W L H' σ e' -> U0 K (aR M L) H' J ps -> R J H') -> wi σ H R
noncomputable def WN (f : FE) : TB := fun e => bE (f e) fun b e1 => match b with
 | .val (.tup ps) => some (ps, e1)
 | _ => none
theorem MQ {t : TE} {f : FE} (h : Ref K t f) : JL K (PU K t) (WN f) := by
 intro O M W L σ H e e' ps R o he hf q
 obtain ⟨b, e1, f1, hf⟩ := aL hf
 refine h O M W L σ H e e1 b _ o he f1 fun v H1 k1 rb fr => ?_
 split at hf
 ·cases hf
  obtain ⟨en, rp⟩ := rb
  cases rp with
  | tup ha r =>
   rename_i aa xs
   refine .inr (.inl ⟨_, rfl, ⟨_, ha.sq⟩, q _ H1 k1 en fun Z' H' st => ?_⟩)
   have sq : lL K H' aa xs := TupAt.sq (ha.elim (fun h => .inl (st.tup _ _ h)) .inr)
   refine ⟨fun k p hp => ?_, xs, sq, by rw [r.length]; exact le_refl _⟩
   obtain ⟨v, hv, rv⟩ := r.get hp
   refine ⟨⟨xs, v, sq, hv⟩, fun x H3 y => ?_⟩
   obtain ⟨e, y⟩ := y
   subst e
   have := y xs sq
   rw [hv] at this
   cases this
   exact ⟨aT.refl _, rv.aH st⟩
 ·cases hf
noncomputable def SH (fa : FA) : TB := fun e => bE (fa e) fun bs e1 => match bs with
 | [.val (.tup ps)] => some (ps.zipIdx.map fun z => .tup [.int (z.2 : Int), z.1], e1)
 | _ => none
theorem IH {ta : TA} (h : oJ K ta fa) : JL K (t7 K ta) (SH fa) := by
 intro O M W L σ H e e' ps R o he hf q
 obtain ⟨b, e1, f1, hf⟩ := aL hf
 refine h O M W L σ H e e1 b _ o he f1 fun vs H1 k1 en rv => ?_
 split at hf
 ·rename_i ps0
  cases hf
  cases rv with
  | cons h r =>
   cases r
   cases h with
   | tup ha ra =>
    rename_i aa xs
    refine .inl ⟨aa, xs, rfl, ha.sq, q _ H1 k1 en fun Z' H' st => ?_⟩
    have sq : lL K H' aa xs := TupAt.sq (ha.elim (fun h => .inl (st.tup _ _ h)) .inr)
    refine ⟨fun k p hp => ?_, xs, sq, by rw [length_map, length_zipIdx, ra.length]⟩
    rw [getElem?_map, getElem?_zipIdx] at hp
    cases c : ps0[k]? with
    | none => rw [c] at hp; cases hp
    | some p0 =>
     rw [c] at hp
     cases hp
     obtain ⟨v, hv, rv⟩ := ra.get c
     refine ⟨⟨xs, v, sq, hv⟩, fun x H3 y => ?_⟩
     obtain ⟨t, ht, rfl, y⟩ := y
     obtain ⟨x', hx', rfl⟩ := y xs sq
     rw [hv] at hx'
     cases hx'
     refine ⟨aT.upd ht, .tup (.inl aQ) (.cons ?_ (.cons ((rv.aH st).aH (.same (aT.upd ht))) .nil))⟩
     rw [zero_add]
     exact .int _
 ·cases hf
noncomputable def kF (body : PV -> En -> DD -> Option rD) : List PV -> En -> DD -> Option rD
 | [], e, d => some (.nx e d)
 | p :: ps, e, d => match body p e d with
  | some (.nx e1 d1) => kF body ps e1 d1
  | some (.ct e1 d1) => kF body ps e1 d1
  | none => none
noncomputable def JF (fi : TB) (fg : FG) (fb : FX) : FX := fun e d => bE (fi e) fun ps e1 => kF (fun x e d => bO (fg x e) fun e2 => fb e2 d) ps e1 d
theorem eF.aH {L' : aI} {t' : Tr} (o : iY O M W L H) (g : eF W L L' (BX a t) (BX a t') H H') : cL (aR (aR M (BX a t)) L) (aR (aR M (BX a t')) L') H H' :=
 ⟨g.tup, fun c ob h n => ⟨g.obj c ob h (fun ⟨i, w⟩ => n (.inl (.inl (o.wm i c w)))) (fun z => n (.inr z)) fun z => n (.inl (.inr z)), fun z => by
  rcases z with (z | z) | z
  ·exact n (.inl (.inl z))
  ·exact (g.ME c z).elim (fun z => n (.inl (.inr z))) fun z => by rw [h] at z; cases z
  ·exact (g.new c z).elim (fun z => n (.inr z)) fun z => by rw [h] at z; cases z⟩⟩
theorem GU {wi : TI} {g : TG} {tb : TS} {fg : FG} {fb : FX} (hi : JL K wi fi) (hg : BP K x g fg) (hb : wH K x tb fb) : wH K x (PK wi g tb) (JF fi fg fb) := by
 intro O M W a L σ H e tr r D n hf q
 obtain ⟨ps, e1, f1, hf⟩ := aL hf
 refine hi _ _ _ L σ H e e1 ps _ (n.uD.OP n.ok) n.en f1 fun J H1 k1 en it => ?_
 have n1 := n.keep k1 en
 have q1 := q.later (.keep (kw k1))
 let N : Nat -> St -> Hp -> Prop := fun i σ' H' => ∃ L' e' t', eF W L L' (BX a tr) (BX a t') H1 H' /\ DN K O M W x a L' σ' H' e' t' /\ kF (fun x e d => bO (fg x e) fun e2 => fb e2 d) (ps.drop i) e' (ofT t') = some r
 refine ⟨fun i m σ' H' => m = ps.length - i /\ i <= ps.length /\ N i σ' H', ⟨ps.length, by simp, zero_le _, L, e1, tr, .refl, n1, by rw [drop_zero]; exact hf⟩, ?_⟩
 rintro i m σ2 H2 ⟨rfl, hil, L2, e2, t2, g2, n2, f2⟩
 obtain ⟨itm, its⟩ := it _ H2 (g2.aH n1.ok)
 by_cases hlt : i < ps.length
 ·refine .inr ?_
  obtain ⟨go, yl⟩ := itm i ps[i] (by simp [hlt])
  refine ⟨go, N (i + 1), fun σ' H' n => ⟨ps.length - (i + 1), by omega, rfl, hlt, n⟩, fun v H3 y => ?_⟩
  obtain ⟨s3, rp⟩ := yl v H3 y
  rw [drop_eq_getElem_cons hlt] at f2
  unfold kF at f2
  have k3 : bR (wB W (BX a t2)) L2 H2 H3 := .same s3
  have n3 := n2.keep k3 (n2.en.same s3)
  have g3 : eF W L L2 (BX a tr) (BX a t2) H1 H3 := g2.trans (.keep (kw k3))
  cases c1 : fg ps[i] e2 with
  | none => rw [c1] at f2; cases f2
  | some e3 =>
   rw [c1, qU] at f2
   refine hg _ _ _ L2 σ2 H3 e2 e3 _ v _ (n3.uD.OP n3.ok) n3.en rp c1 fun σ3 ex en3 => ?_
   have n4 : DN K O M W x a L2 σ3 H3 e3 t2 := ⟨n3.ok, n3.uD, en3, by rw [ex]; exact n3.at', n3.sec⟩
   cases c2 : fb e3 (ofT t2) with
   | none => rw [c2] at f2; cases f2
   | some r1 =>
    rw [c2] at f2
    refine hb O M W a L2 σ3 H3 e3 t2 r1 _ n4 c2 ?_
    cases r1 with
    | nx e4 d4 => exact fun L' σ' H' t' g' n' ed => ⟨L', e4, t', g3.trans g', n', by rw [ed]; exact f2⟩
    | ct e4 d4 => exact fun L' σ' H' t' g' n' ed => ⟨L', e4, t', g3.trans g', n', by rw [ed]; exact f2⟩
 ·have e : i = ps.length := by omega
  subst e
  rw [drop_length] at f2
  cases f2
  exact .inl ⟨its, q1 L2 σ2 H2 t2 g2 n2 rfl⟩
end
theorem zS {α β : Type} {f : α -> β} : ∀ {l : List α}, (l.map f).Nodup -> ∀ y ∈ l, ∀ z ∈ l, f y = f z -> y = z
 | [], _, _, h, _, _, _ => nomatch h
 | w :: l, nd, y, hy, z, hz, e => by
  rw [map_cons, nodup_cons] at nd
  rcases mem_cons.mp hy with e1 | h1
  ·rcases mem_cons.mp hz with e2 | h2
   ·rw [e1, e2]
   ·exact absurd (mem_map.mpr ⟨z, h2, by rw [<- e, e1]⟩) nd.1
  ·rcases mem_cons.mp hz with e2 | h2
   ·exact absurd (mem_map.mpr ⟨y, h1, by rw [e, e2]⟩) nd.1
   ·exact zS nd.2 y h1 z h2 e
noncomputable def j7 (d : DD) (k : Key) (p : PV) : DD := if (d.any fun kp => decide (kp.1 = k)) = true then d.map (fun kp => if kp.1 = k then (kp.1, kp.2 ++ [p]) else kp) else d ++ [(k, [p])]
noncomputable def pM (t : Tr) (k : Key) (p : PV) : Tr := t.map fun z => if z.1 = k then (z.1, z.2.1, z.2.2 ++ [p]) else z
theorem sR (t : Tr) (k : Key) (p : PV) : (pM t k p).map (·.2.1) = t.map (·.2.1) := by
 unfold pM
 rw [map_map]
 refine map_congr_left fun z _ => ?_
 simp only [Function.comp_apply]
 split <;> rfl
theorem GP (t : Tr) (k : Key) (p : PV) : (pM t k p).map (·.1) = t.map (·.1) := by
 unfold pM
 rw [map_map]
 refine map_congr_left fun z _ => ?_
 simp only [Function.comp_apply]
 split <;> rfl
theorem JX (t : Tr) (k : Key) (p : PV) : (pM t k p).map (fun z => (z.1, V.ref z.2.1)) = t.map fun z => (z.1, V.ref z.2.1) := by
 unfold pM
 rw [map_map]
 refine map_congr_left fun z _ => ?_
 simp only [Function.comp_apply]
 split <;> rfl
theorem BV (t : Tr) (k : Key) (p : PV) : ofT (pM t k p) = (ofT t).map fun kp => if kp.1 = k then (kp.1, kp.2 ++ [p]) else kp := by
 unfold pM ofT
 rw [map_map, map_map]
 refine map_congr_left fun z _ => ?_
 simp only [Function.comp_apply]
 split <;> rfl
theorem uM (a : Addr) (t : Tr) (k : Key) (p : PV) : BX a (pM t k p) = BX a t := by
 unfold BX
 rw [sR]
section
variable {K : Frag} {x : Nat}
theorem aN.grow {Z' : aI} {W' : WS} {e : En} (h : aN K Z W L H σ e) (k : cL Z Z' H H') (ew : W'.w = W.w) (od : ∀ a, W.old a -> H a ≠ none -> W'.old a)
  (ow : ∀ a o, aw W a \/ L a -> H a = some o -> H' a = some o) (bo : ∀ a o, H a = some o -> W.old a -> ¬ aw W a -> ¬ L a -> H' a = some o) : aN K Z' W' L H' σ e := by
 have aw' : ∀ a, aw W' a -> aw W a := fun a ⟨i, w⟩ => ⟨i, by rw [<- ew]; exact w⟩
 refine ⟨h.len, fun i s q => ?_, h.kX⟩
 obtain ⟨v, h1, h2⟩ := h.at' i s q
 refine ⟨v, h1, ?_⟩
 have rn : ∀ {a : Addr} {ob : HO}, Rd H a ob -> H a ≠ none := fun r => by rcases r with r | ⟨u, r⟩ <;> (rw [r]; exact fun z => nomatch z)
 cases s with
 | val p => exact Rep.aH k h2
 | own p => obtain ⟨a, e, w, c⟩ := h2; exact ⟨a, e, by rw [ew]; exact w, c.aH k fun o q => ow a o (.inl ⟨_, w⟩) q⟩
 | loc p => obtain ⟨a, e, w, c⟩ := h2; exact ⟨a, e, w, c.aH k fun o q => ow a o (.inr w) q⟩
 | bor p =>
  obtain ⟨a, e, c⟩ := h2
  refine ⟨a, e, ?_⟩
  cases c with
  | lst e o n m r => exact .lst (e.elim (fun e => .inl (bo _ _ e o n m)) fun ⟨u, e⟩ => .inr ⟨u, bo _ _ e o n m⟩) (od _ o (rn e)) (fun z => n (aw' _ z)) m (r.aH k)
  | cY e r => exact .cY e (r.aH k)
  | bG e o n m kk r => exact .bG (e.elim (fun e => .inl (bo _ _ e o n m)) fun ⟨u, e⟩ => .inr ⟨u, bo _ _ e o n m⟩) (od _ o (rn e)) (fun z => n (aw' _ z)) m kk (r.aH k)
theorem aN.unset {e : En} {v : Option V} (h : aN K Z W L H σ e) : aN K Z W L H (σ.set i v) (e.set i none) := by
 refine ⟨by rw [length_set, length_set]; exact h.len, fun j t q => ?_, fun j k s1 s2 hjk q1 q2 m1 m2 => ?_⟩
 ·rcases eZ q with ⟨rfl, hl, e⟩ | ⟨hn, q⟩
  ·cases e
  ·rw [getElem?_set_ne hn]
   exact h.at' j t q
 ·rcases eZ q1 with ⟨rfl, hl, e⟩ | ⟨hn1, q1⟩
  ·cases e
  ·rcases eZ q2 with ⟨rfl, hl, e⟩ | ⟨hn2, q2⟩
   ·cases e
   ·rw [getElem?_set_ne hn1, getElem?_set_ne hn2]
    exact h.kX j k s1 s2 hjk q1 q2 m1 m2
theorem vO {l : Addr} {k : Key} {ps : List PV} {e2 : En} {b : Bv} {p : PV} (hv : Ref K tv fv) (n : DN K O M W x a L σ H e t) (hz : (k, l, ps) ∈ t)
  (f2 : fv e = some (b, e2)) (g : b.put = some p) (hl : ps.length < 1000000) (q : ∀ H', eF W L L (BX a t) (BX a (pM t k p)) H H' -> DN K O M W x a L σ H' e2 (pM t k p) -> D.nx σ H') :
  WB K "list" (.ref l) H /\ (dU tv lW) σ H fun xs H5 => o9 (.ref l) xs H5 fun _ H6 => D.nx σ H6 := by
 obtain ⟨xs0, e0, _⟩ := n.sec.lst _ hz
 refine ⟨.inl ⟨rfl, xs0, gK.of e0⟩, ?_⟩
 refine hv _ _ _ L σ H e _ _ _ (n.uD.OP n.ok) n.en f2 fun v H5 k5 rb fr => ?_
 have o5 := (n.uD.OP n.ok).keep k5.bU
 obtain ⟨en, rp⟩ := rb.put o5 g
 have n5 := n.keep k5 en
 obtain ⟨xs, e5, r5⟩ := n5.sec.lst _ hz
 have bl : BX a t l := .inr (mem_map.mpr ⟨_, hz, rfl⟩)
 have nl := (n5.uD l bl).2
 have st : cL (aR (aR M (BX a t)) L) (aR (aR M (BX a t)) L) H5 (upd H5 l (.lst (xs ++ [v]))) := .write (.inl (.inr bl)) e5 fun _ z => nomatch z
 have bU : ∀ c, H5 c ≠ none -> upd H5 l (.lst (xs ++ [v])) c ≠ none := fun c h => by
  by_cases hc : c = l
  ·rw [hc, aQ]; exact fun z => nomatch z
  ·rw [aP hc]; exact h
 have off : ∀ c ob, c ≠ l -> H5 c = some ob -> upd H5 l (.lst (xs ++ [v])) c = some ob := fun c ob hc h => by rw [aP hc]; exact h
 refine ⟨l, xs, v, rfl, rfl, e5, by rw [<- r5.length, sizeLine_eq]; show ps.length < _; omega, q _ ?_ ?_⟩
 ·rw [uM]
  exact ⟨fun c ob h nw nL nB => off c ob (fun z => nB (by rw [z]; exact bl)) (k5.obj c ob h nw nL), fun c ys h => st.tup c ys (k5.tup c ys h), fun c h => bU c (k5.bU c h), fun _ h => .inl h, fun _ h => .inl h⟩
 ·have al : a ≠ l := fun z => by
   have := n5.sec.nd
   rw [nodup_cons] at this
   exact this.1 (by rw [z]; exact mem_map.mpr ⟨_, hz, rfl⟩)
  refine ⟨n5.ok.keep bU, ?_, ?_, n5.at', ?_⟩
  ·rw [uM]; exact fun c h => ⟨bU c (n5.uD c h).1, (n5.uD c h).2⟩
  ·rw [uM]
   refine n5.en.grow st rfl (fun _ h _ => h) (fun c ob h he => off c ob (fun z => ?_) he) fun c ob he h _ _ => off c ob (fun z => h.2 (by rw [z]; exact bl)) he
   rw [z] at h
   exact h.elim (fun ⟨i, w⟩ => nl.1 (n.ok.mo _ (n.ok.wm i l w))) nl.2
  ·rw [uM]
   refine ⟨?_, fun z hz' => ?_, ?_, ?_⟩
   ·rw [JX]; exact let ⟨ep, e⟩ := n5.sec.OZ; ⟨ep, off a _ al e⟩
   ·obtain ⟨z0, h0, rfl⟩ := mem_map.mp hz'
    by_cases hk : z0.1 = k
    ·have : z0 = (k, l, ps) := zS n5.sec.kd z0 h0 _ hz hk
     subst this
     rw [if_pos rfl]
     exact ⟨_, aQ, (r5.aH st).app (.cons (rp.aH st) .nil)⟩
    ·rw [if_neg hk]
     obtain ⟨ys, h1, h2⟩ := n5.sec.lst z0 h0
     have hne : z0.2.1 ≠ l := fun z => by
      have := zS (nodup_cons.mp n5.sec.nd).2 z0 h0 _ hz z
      exact hk (by rw [this])
     exact ⟨ys, off _ _ hne h1, h2.aH st⟩
   ·rw [sR]; exact n5.sec.nd
   ·rw [GP]; exact n5.sec.kd
noncomputable def QZ (fk fv : FE) : FX := fun e d => bE (fk e) fun kb e1 => bO (kb.weak.get e1) fun kp => bO (keyOf kp) fun k => bE (fv e1) fun b e2 => bO b.put fun p =>
 aU (decide (d.length < 1000000) && d.all fun kp => decide (kp.2.length < 1000000)) (some (.nx e2 (j7 d k p)))
theorem QL : ∀ (t : Tr) (k : Key), (dN (t.map fun z => (z.1, V.ref z.2.1)) k = none /\ ∀ z ∈ t, z.1 ≠ k) \/ ∃ z ∈ t, z.1 = k /\ dN (t.map fun z => (z.1, V.ref z.2.1)) k = some (.ref z.2.1)
 | [], k => .inl ⟨rfl, fun _ h => nomatch h⟩
 | z :: t, k => by
  by_cases h : z.1 = k
  ·refine .inr ⟨z, mem_cons_self, h, ?_⟩
   unfold dN
   rw [map_cons, find?_cons, decide_eq_true h]
   rfl
  ·have e : dN ((z :: t).map fun z => (z.1, V.ref z.2.1)) k = dN (t.map fun z => (z.1, V.ref z.2.1)) k := by
    unfold dN
    rw [map_cons, find?_cons, decide_eq_false h]
   rw [e]
   rcases QL t k with ⟨h1, h2⟩ | ⟨y, hy, h1, h2⟩
   ·exact .inl ⟨h1, fun w hw => (mem_cons.mp hw).elim (fun e => by rw [e]; exact h) (h2 w)⟩
   ·exact .inr ⟨y, mem_cons_of_mem _ hy, h1, h2⟩
theorem F5 {tk : TE} (hk : Ref K tk fk) (hv : Ref K tv fv) : wH K x (HL (S4 K "list" o9 (JY (vI x) tk (J5 lW)) (dU tv lW))) (QZ fk fv) := by
 intro O M W a L σ H e tr r D n hf q
 obtain ⟨kb, e1, f1, hf⟩ := aL hf
 obtain ⟨kp, g1, hf⟩ := aE hf
 obtain ⟨k, gk, hf⟩ := aE hf
 obtain ⟨b, e2, f2, hf⟩ := aL hf
 obtain ⟨p, g2, hf⟩ := aE hf
 obtain ⟨gz, hf⟩ := aJ hf
 cases hf
 rw [and_eq_true] at gz
 have z1 := of_decide_eq_true gz.1
 have z2 := all_eq_true.mp gz.2
 have lenT : tr.length = (ofT tr).length := by unfold ofT; rw [length_map]
 refine ⟨.ref a, n.at', a, rfl, .inl ⟨_, n.sec.OZ.rd⟩, ?_⟩
 refine hk _ _ _ L σ H e _ _ _ (n.uD.OP n.ok) n.en f1 fun y H2 k1 rb fr => ?_
 have o2 := (n.uD.OP n.ok).keep k1.bU
 have n2 := n.keep k1 (rb.en o2)
 have ky : y = kV k := ((rb.rv o2).red (rb.en o2) g1).key gk
 refine ⟨zero_le _, fun l hl => ?_⟩
 have al : a ≠ l := fun z => (n2.uD a (.inl rfl)).1 (by rw [z]; exact hl)
 have sm : aT H2 (upd H2 l (.lst [])) := aT.upd hl
 have n3 : DN K O M W x a L σ (upd H2 l (.lst [])) e1 tr := n2.keep (.same sm) (n2.en.same sm)
 refine ⟨_, k, n3.sec.OZ, ky, by rw [length_map, lenT, sizeLine_eq]; omega, ?_, ?_⟩
 ·intro v hv'
  rcases QL tr k with ⟨h1, _⟩ | ⟨z, hz, h1, h2⟩
  ·rw [h1] at hv'; cases hv'
  ·rw [h2] at hv'
   cases hv'
   have hz' : (k, z.2.1, z.2.2) ∈ tr := by rw [<- h1]; exact hz
   have zl := of_decide_eq_true (z2 (z.1, z.2.2) (mem_map.mpr ⟨z, hz, rfl⟩))
   refine vO hv n3 hz' f2 g2 zl fun H' g' n' => q L σ H' _ ((eF.keep (kw k1)).trans ((eF.keep (.same sm)).trans g')) n' ?_
   rw [BV]
   have anyT : ((ofT tr).any fun kp => decide (kp.1 = k)) = true := any_eq_true.mpr ⟨(z.1, z.2.2), mem_map.mpr ⟨z, hz, rfl⟩, decide_eq_true h1⟩
   unfold j7
   rw [if_pos anyT]
 ·intro ep hv'
  rcases QL tr k with ⟨_, h2⟩ | ⟨z, hz, h1, h2⟩
  ·have anyF : ((tr.map fun z => (z.1, V.ref z.2.1)).any fun kv => decide (kv.1 = k)) = false := by
    rw [any_map, any_eq_false]
    intro z hz
    simpa using h2 z hz
   have eput : putK (tr.map fun z => (z.1, V.ref z.2.1)) k (.ref l) = (tr ++ [(k, l, [])] : Tr).map fun z : Key × Addr × List PV => (z.1, V.ref z.2.1) := by
    unfold putK
    rw [anyF, if_neg Bool.false_ne_true, map_append]; rfl
   rw [eput]
   have bU : ∀ c, H2 c ≠ none -> upd (upd H2 l (.lst [])) a (.dK ((tr ++ [(k, l, [])] : Tr).map fun z : Key × Addr × List PV => (z.1, V.ref z.2.1)) ep) c ≠ none := fun c h => by
    by_cases hc : c = a
    ·rw [hc, aQ]; exact fun z => nomatch z
    ·rw [aP hc]
     by_cases hc : c = l
     ·rw [hc, aQ]; exact fun z => nomatch z
     ·rw [aP hc]; exact h
   have off : ∀ c ob, c ≠ a -> H2 c = some ob -> upd (upd H2 l (.lst [])) a (.dK ((tr ++ [(k, l, [])] : Tr).map fun z : Key × Addr × List PV => (z.1, V.ref z.2.1)) ep) c = some ob := fun c ob hc h => by
    rw [aP hc, aP (fun z => by rw [z, hl] at h; cases h)]; exact h
   have ll : upd (upd H2 l (.lst [])) a (.dK ((tr ++ [(k, l, [])] : Tr).map fun z : Key × Addr × List PV => (z.1, V.ref z.2.1)) ep) l = some (.lst []) := by rw [aP (Ne.symm al), aQ]
   have bx : ∀ c, BX a (tr ++ [(k, l, [])]) c -> BX a tr c \/ c = l := fun c h => by
    rcases h with h | h
    ·exact .inl (.inl h)
    ·rw [map_append] at h
     rcases mem_append.mp h with h | h
     ·exact .inl (.inr h)
     ·exact .inr (by simpa using h)
   have st : cL (aR (aR M (BX a tr)) L) (aR (aR M (BX a (tr ++ [(k, l, [])]))) L) H2 (upd (upd H2 l (.lst [])) a (.dK ((tr ++ [(k, l, [])] : Tr).map fun z : Key × Addr × List PV => (z.1, V.ref z.2.1)) ep)) :=
    ⟨fun c ys h => off c _ (fun z => by obtain ⟨_, e⟩ := n2.sec.OZ; rw [z, e] at h; cases h) h, fun c ob h nz => ⟨off c ob (fun z => nz (.inl (.inr (.inl z)))) h, fun z => by
     rcases z with (z | z) | z
     ·exact nz (.inl (.inl z))
     ·rcases bx c z with z | z
      ·exact nz (.inl (.inr z))
      ·rw [z, hl] at h; cases h
     ·exact nz (.inr z)⟩⟩
   have na := n2.uD a (.inl rfl)
   have n4 : DN K O M W x a L σ (upd (upd H2 l (.lst [])) a (.dK ((tr ++ [(k, l, [])] : Tr).map fun z : Key × Addr × List PV => (z.1, V.ref z.2.1)) ep)) e1 (tr ++ [(k, l, [])]) := by
    refine ⟨n2.ok.keep bU, fun c h => ?_, ?_, n2.at', ?_⟩
    ·rcases bx c h with h | h
     ·exact ⟨bU c (n2.uD c h).1, (n2.uD c h).2⟩
     ·rw [h]
      exact ⟨by rw [ll]; exact (fun z => nomatch z), fun z => n2.ok.old l z hl, fun z => (n2.ok.loc l z).1 hl⟩
    ·refine n2.en.grow st rfl (fun c h hc => ⟨h.1, fun z => (bx c z).elim h.2 fun z => hc (by rw [z]; exact hl)⟩) (fun c ob h he => off c ob (fun z => ?_) he) fun c ob he h _ _ => off c ob (fun z => h.2 (.inl z)) he
     rw [z] at h
     exact h.elim (fun ⟨i, w⟩ => na.2.1 (n2.ok.mo _ (n2.ok.wm i a w))) na.2.2
    ·refine ⟨⟨ep, aQ⟩, fun z hz => ?_, ?_, ?_⟩
     ·rcases mem_append.mp hz with hz | hz
      ·obtain ⟨xs, h1, h3⟩ := n2.sec.lst z hz
       have hne : z.2.1 ≠ a := fun w => (nodup_cons.mp n2.sec.nd).1 (by rw [<- w]; exact mem_map.mpr ⟨z, hz, rfl⟩)
       exact ⟨xs, off _ _ hne h1, h3.aH st⟩
      ·rw [mem_singleton.mp hz]
       exact ⟨[], ll, .nil⟩
     ·rw [map_append, <- List.cons_append]
      refine nodup_append.mpr ⟨n2.sec.nd, by simp, fun u hu w hw e => ?_⟩
      have hw' : w = l := by simpa using hw
      rw [e, hw'] at hu
      rcases mem_cons.mp hu with hu | hu
      ·exact al hu.symm
      ·obtain ⟨z, hz, ez⟩ := mem_map.mp hu
       obtain ⟨xs, h1, _⟩ := n2.sec.lst z hz
       rw [show z.2.1 = l from ez, hl] at h1
       cases h1
     ·rw [map_append]
      refine nodup_append.mpr ⟨n2.sec.kd, by simp, fun u hu w hw e => ?_⟩
      have hw' : w = k := by simpa using hw
      obtain ⟨z, hz, ez⟩ := mem_map.mp hu
      exact h2 z hz (by rw [ez, e, hw'])
   have g4 : eF W L L (BX a tr) (BX a (tr ++ [(k, l, [])])) H2 (upd (upd H2 l (.lst [])) a (.dK ((tr ++ [(k, l, [])] : Tr).map fun z : Key × Addr × List PV => (z.1, V.ref z.2.1)) ep)) :=
    ⟨fun c ob h _ _ nb => off c ob (fun z => nb (.inl z)) h, st.tup, bU, fun _ h => .inl h, fun c h => (bx c h).elim .inl fun z => .inr (by rw [z]; exact hl)⟩
   have hz : (k, l, []) ∈ tr ++ [(k, l, ([] : List PV))] := mem_append.mpr (.inr mem_cons_self)
   refine vO hv n4 hz f2 g2 (by decide) fun H' g' n' => q L σ H' _ ((eF.keep (kw k1)).trans (g4.trans g')) n' ?_
   have anyD : ((ofT tr).any fun kp => decide (kp.1 = k)) = false := by
    unfold ofT
    rw [any_map, any_eq_false]
    intro z hz
    simpa using h2 z hz
   unfold j7
   rw [anyD, if_neg Bool.false_ne_true, BV]
   have eo : ofT (tr ++ [(k, l, [])]) = ofT tr ++ [(k, [])] := by unfold ofT; rw [map_append]; rfl
   rw [eo, map_append]
   congr 1
   ·have : ∀ kp ∈ ofT tr, (if kp.1 = k then (kp.1, kp.2 ++ [p]) else kp) = kp := fun kp hkp => by
     obtain ⟨z, hz, rfl⟩ := mem_map.mp hkp
     exact if_neg (h2 z hz)
    rw [map_congr_left this, List.map_id']
   ·simp
  ·rw [h2] at hv'; cases hv'
noncomputable def sX (x : Nat) (f : FX) : FS := fun e => aU (decide (x < e.length)) (match f (e.set x none) [] with
 | some (.nx e' d) => some (.rt (.new (.bG (d.map fun kp => (kp.1, .lst kp.2)))) e')
 | _ => none)
theorem qE : ∀ {t : Tr}, (∀ z ∈ t, ∃ xs, H z.2.1 = some (.lst xs) /\ aX K Z H z.2.2 xs /\ ¬ Z z.2.1) -> aX K Z H (((ofT t).map fun kp => (kp.1, PV.lst kp.2)).map (·.2)) ((t.map fun z => (z.1, V.ref z.2.1)).map (·.2))
 | [], _ => .nil
 | z :: t, h => by
  obtain ⟨xs, h1, h2, h3⟩ := h z mem_cons_self
  exact .cons (.lst (.inl h1) h3 h2) (qE fun w hw => h w (mem_cons_of_mem _ hw))
theorem AJ {ts : TS} (h : wH K x ts f) : jB K (MA (u6 yV (lM x)) (MA ts (QJ (vI x)))) (sX x f) := by
 intro O M W L σ H e r D o he hf q
 obtain ⟨hx, hf⟩ := aJ hf
 have hx := of_decide_eq_true hx
 split at hf
 ·rename_i e' d c
  cases hf
  intro a ha
  have sm : aT H (upd H a (.dK [] 0)) := aT.upd ha
  have na : ¬ O a /\ ¬ L a := ⟨fun z => o.old a z ha, fun z => (o.loc a z).1 ha⟩
  have b0 : ∀ c, BX a [] c -> c = a := fun c h => h.elim id fun h => nomatch h
  have n0 : DN K O M W x a L (σ.set x (some (.ref a))) (upd H a (.dK [] 0)) (e.set x none) [] := by
   refine ⟨o.keep (bR.same (W := W) (L := L) sm).bU, fun c h => ?_, ?_, ?_, ?_⟩
   ·rw [b0 c h, aQ]; exact ⟨(fun z => nomatch z), na⟩
   ·refine (he.grow (Z' := aR (aR M (BX a [])) L) (W' := wB W (BX a [])) (H' := upd H a (.dK [] 0)) ⟨fun _ _ h => sm _ _ h, fun c ob h nz => ⟨sm _ _ h, fun z => ?_⟩⟩ rfl (fun c h hc => ⟨h, fun z => hc (by rw [b0 c z]; exact ha)⟩) (fun c ob _ h => sm _ _ h) fun c ob h _ _ _ => sm _ _ h).unset
    rcases z with (z | z) | z
    ·exact nz (.inl z)
    ·rw [b0 c z, ha] at h; cases h
    ·exact nz (.inr z)
   ·rw [getElem?_set_self (by rw [<- he.len]; exact hx)]
   ·exact ⟨⟨0, aQ⟩, (fun _ h => nomatch h), by simp, by simp⟩
  refine h O M W a L _ _ _ [] _ _ n0 c fun L' σ' H' t' g n ed => ⟨.ref a, n.at', q L' σ' H' (.ref a) ?_ n.ok ?_⟩
  ·refine ⟨fun c ob h nw nl => g.obj c ob (sm _ _ h) nw nl fun z => ?_, fun c ys h => g.tup c ys (sm _ _ h), fun c h => g.bU c ((bR.same (W := W) (L := L) sm).bU c h), fun c h => (g.new c h).elim .inl fun z => .inr (none_of (bR.same (W := W) (L := L) sm).bU z)⟩
   rw [b0 c z, ha] at h; cases h
  ·subst ed
   have nb := fun c h => n.uD c h
   have na' := nb a (.inl rfl)
   have less : ∀ c, aR M (aR L' (one a)) c -> aR (aR M (BX a t')) L' c := fun c z => by
    rcases z with z | z | z
    ·exact .inl (.inl z)
    ·exact .inr z
    ·exact .inl (.inr (.inl z))
   have k : cL (aR (aR M (BX a t')) L') (aR M (aR L' (one a))) H' H' := .less less
   refine ⟨a, rfl, na'.2.1, na'.2.2, ⟨n.en.len, fun i s hs => ?_, n.en.kX⟩, fun i s hs hm es => ?_, ?_⟩
   ·obtain ⟨v, h1, h2⟩ := n.en.at' i s hs
    refine ⟨v, h1, ?_⟩
    cases s with
    | val p => exact Rep.aH k h2
    | own p => obtain ⟨a, e, w, c⟩ := h2; exact ⟨a, e, w, c.aH k fun o q => q⟩
    | loc p => obtain ⟨a, e, w, c⟩ := h2; exact ⟨a, e, .inl w, c.aH k fun o q => q⟩
    | bor p =>
     obtain ⟨a', e, c⟩ := h2
     refine ⟨a', e, ?_⟩
     cases c with
     | lst e od n m r => exact .lst e od.1 n (fun z => z.elim m fun z => od.2 (.inl z)) (r.aH k)
     | cY e r => exact .cY e (r.aH k)
     | bG e od n m kk r => exact .bG e od.1 n (fun z => z.elim m fun z => od.2 (.inl z)) kk (r.aH k)
   ·obtain ⟨v, h1, h2⟩ := n.en.at' i s hs
    rw [h1] at es
    cases es
    cases s with
    | val p => cases hm
    | bor p => cases hm
    | own p => obtain ⟨a', e, w, c⟩ := h2; cases e; exact na'.2.1 (n.ok.mo _ (n.ok.wm i a w))
    | loc p => obtain ⟨a', e, w, c⟩ := h2; cases e; exact na'.2.2 w
   ·obtain ⟨_, OZ⟩ := n.sec.OZ
    refine .bG OZ ?_ (qE fun z hz => ?_)
    ·unfold ofT
     rw [map_map, map_map, map_map]
     rfl
    ·obtain ⟨xs, h1, h2⟩ := n.sec.lst z hz
     have hb : BX a t' z.2.1 := .inr (mem_map.mpr ⟨z, hz, rfl⟩)
     have nz := nb _ hb
     refine ⟨xs, h1, h2.aH k, fun w => ?_⟩
     rcases w with w | w | w
     ·exact nz.2.1 (n.ok.mo _ w)
     ·exact nz.2.2 w
     ·exact (nodup_cons.mp n.sec.nd).1 (by rw [<- show z.2.1 = a from w]; exact mem_map.mpr ⟨z, hz, rfl⟩)
 ·cases hf
end
section
variable {K : Frag}
theorem M6 {f g : FX} {e : En} {d : DD} {Q : rD -> Prop} : Wp (UD f g e d) Q ↔ Wp (f e d) fun o => match o with | .nx e1 d1 => Wp (g e1 d1) Q | o => Q o := by
 unfold UD
 cases f e d with
 | none => simp [l4]
 | some o =>
  rw [b9]
  cases o <;> simp [b9]
theorem NH {fg : FG} {fb : FX} : Wp (JF fi fg fb e d) Q ↔ Wp (fi e) fun z => Wp (kF (fun x e d => bO (fg x e) fun e2 => fb e2 d) z.1 z.2 d) Q := by
 unfold JF
 rw [iI]
theorem VP {x : Nat} {f : FX} {e : En} {Q : Out -> Prop} : Wp (sX x f e) Q ↔ x < e.length /\ Wp (f (e.set x none) []) fun o => match o with | .nx e' d => Q (.rt (.new (.bG (d.map fun kp => (kp.1, .lst kp.2)))) e') | .ct _ _ => False := by
 unfold sX
 rw [dW, decide_eq_true_eq]
 refine and_congr_right fun _ => ?_
 cases f (e.set x none) [] with
 | none => simp [l4]
 | some o =>
  rw [b9]
  cases o <;> simp [b9, l4]
theorem NV : IS e d = some (.nx e d) := rfl
theorem T5 : WQ fc f g e d = bE (fc e) fun b e1 => bB b (f e1 d) (g e1 d) := rfl
theorem UY {f : FE} : WN f e = bE (f e) fun b e1 => match b with
 | .val (.tup ps) => some (ps, e1)
 | _ => none := rfl
theorem SQ : SH fa e = bE (fa e) fun bs e1 => match bs with
 | [.val (.tup ps)] => some (ps.zipIdx.map fun z => .tup [.int (z.2 : Int), z.1], e1)
 | _ => none := rfl
theorem S1 : QZ fk fv e d = bE (fk e) fun kb e1 => bO (kb.weak.get e1) fun kp => bO (keyOf kp) fun k => bE (fv e1) fun b e2 => bO b.put fun p =>
 aU (decide (d.length < 1000000) && d.all fun kp => decide (kp.2.length < 1000000)) (some (.nx e2 (j7 d k p))) := rfl
theorem x4 {body : PV -> En -> DD -> Option rD} (I : Nat -> En -> DD -> Prop) {xs : List PV} (hs : ∀ (i : Nat) x e d, xs[i]? = some x -> I i e d -> Wp (body x e d) fun o => match o with | .nx e1 d1 => I (i + 1) e1 d1 | .ct e1 d1 => I (i + 1) e1 d1)
  (hd : ∀ e d, I xs.length e d -> Q (.nx e d)) {e : En} {d : DD} (h0 : I 0 e d) : Wp (kF body xs e d) Q := by
 have key : ∀ (ys : List PV) (i : Nat) (e : En) (d : DD), i <= xs.length -> xs.drop i = ys -> I i e d -> Wp (kF body ys e d) Q := by
  intro ys
  induction ys with
  | nil =>
   intro i e d hil hy hi
   unfold kF
   rw [b9]
   have hl : xs.length <= i := by
    have := congrArg List.length hy
    rw [length_drop] at this
    simp at this
    omega
   have h : i = xs.length := by omega
   subst h
   exact hd e d hi
  | cons x ys ih =>
   intro i e d hil hy hi
   have hlt : i < xs.length := by
    have := congrArg List.length hy
    rw [length_drop, length_cons] at this
    omega
   rw [drop_eq_getElem_cons hlt] at hy
   have hx : xs[i]? = some x := by rw [getElem?_eq_getElem hlt, (List.cons.inj hy).1]
   obtain ⟨o, h1, h2⟩ := hs i x e d hx hi
   unfold kF
   rw [h1]
   cases o with
   | nx e1 d1 => exact ih (i + 1) e1 d1 hlt (List.cons.inj hy).2 h2
   | ct e1 d1 => exact ih (i + 1) e1 d1 hlt (List.cons.inj hy).2 h2
 exact key xs 0 e d (zero_le _) rfl h0
end
end Mr
namespace L2
open PySem
section
variable {prog : Program} {w : World} {A : Around} {R : Result -> Shared -> Prop} {s : Shared}
theorem EH {kx vx target iter : Expr} {ifs : List Expr} {scope : Scope} {pos : Pos} {it : Value} {D : Addr} {env : Env} (I : Nat -> Shared -> Prop)
  (turn : ∀ n s, I n s -> wpAny (model prog w) A (pyNext it) (fun r s₁ => match r with
   | none => R (.ok .next) s₁
   | some v => wpAny (model prog w) A (letOwnedTupleGo target it v) (fun _ s₁' => wpAny (model prog w) A (assign target env v) (fun _ s₂ =>
     wpAny (model prog w) A (forIn ifs true fun c r => if r = true then do let ok <- isTrue c env (eval c env); pure (ForInStep.yield ok) else pure (ForInStep.yield r)) (fun ok s₃ =>
      if ok = true then wpAny (model prog w) A (eval kx env) (fun kv s₄ => wpAny (model prog w) A (eval vx env) (fun vv s₅ =>
       wpAny (model prog w) A (dictSet D kv vv) (fun _ s₆ => ∃ m, m < n /\ I m s₆) (fun _ _ => False) s₅) (fun _ _ => False) s₄) (fun _ _ => False) s₃
      else ∃ m, m < n /\ I m s₃) (fun _ _ => False) s₂) (fun _ _ => False) s₁') (fun _ _ => False) s₁) (fun _ _ => False) s)
  (n : Nat) (h : I n s) :
  codeAny (model prog w) A (.compLoop (.DictComp kx vx [⟨target, iter, ifs, 0⟩] scope pos) 0 it (.ref D) env) R s := by
 refine codeAny_loop rfl I (fun n s hI => ?_) n h
 show wpAny _ A ((compTurn (.DictComp kx vx [⟨target, iter, ifs, 0⟩] scope pos) 0 it (.ref D) env).onRaise (fun x => do noteFrame x env; theTreesLotGoes x)) _ _ s
 refine wpAny_noted ?_
 refine wpAny_mono (E := fun _ _ => False) ?_ (fun _ _ q => q) (fun _ _ z => z.elim)
 rw [compTurn_dict]
 refine wpAny_bind (wpAny_standAt (wpAny_bind (wpAny_mono (turn n s hI) (fun r s₁ h₁ => ?_) fun _ _ h' => h')))
 cases r with
 | none => exact wpAny_pure h₁
 | some v =>
  refine wpAny_bind (wpAny_mono h₁ (fun _ s₁' h₁' => ?_) fun _ _ h' => h')
  refine wpAny_bind (wpAny_mono h₁' (fun _ s₂ h₂ => wpAny_bind (wpAny_mono h₂ (fun ok s₃ h₃ => ?_) fun _ _ h' => h')) fun _ _ h' => h')
  cases ok with
  | false => exact wpAny_pure ⟨rfl, h₃⟩
  | true =>
   exact wpAny_bind (wpAny_bind (wpAny_mono h₃ (fun kv s₄ h₄ => wpAny_bind (wpAny_holding (wpAny_mono h₄ (fun vv s₅ h₅ => wpAny_bind (wpAny_standAt (wpAny_holding (wpAny_mono h₅ (fun _ s₆ h₆ => wpAny_pure ⟨rfl, h₆⟩) fun _ _ h' => h')))) fun _ _ h' => h'))) fun _ _ h' => h'))
end
noncomputable def UI (J : It) (g : TG) (tt : TT) (tk te : TE) (l : Addr) (σ0 : St) (H0 : Hp) (Q : VK) : Prop :=
 ∃ W : Nat -> Nat -> St -> Hp -> Prop, (∃ m, W 0 m σ0 H0) /\
   ∀ i m σ' H2, W i m σ' H2 -> (J.stop i H2 /\ Q (.ref l) H2) \/ (J.go i H2 /\ ∃ N : St -> Hp -> Prop, (∀ σ3 H3, N σ3 H3 -> ∃ m', m' < m /\ W (i + 1) m' σ3 H3) /\
    ∀ x H3, J.TC i H2 x H3 -> g x σ' H3 fun σ4 H4 => tt σ4 H4 fun b H5 => if b = true then tk σ4 H5 fun kv H6 => te σ4 H6 fun y H7 => ∃ kvs key, qP H7 l kvs /\ kv = kV key /\ kvs.length < sizeLine /\ ∀ ep, N σ4 (upd H7 l (.dK (putK kvs key y) ep)) else N σ4 H5)
noncomputable def vG (wi : TI) (k : Nat) (bV : List Nat) (g : TG) (tt : TT) (tk te : TE) : TE := fun σ H Q => wi σ H fun J H1 => ∀ l, H1 l = none -> UI J g tt tk te l (dX k bV σ) (upd H1 l (.dK [] 0)) Q
section
variable {X : Cx} {kx vx tg iter : Expr} {ifs : List Expr} {scope : Scope} {pos : Pos} {wi : TI} {g : TG} {tt : TT} {tk te : TE} {N : List Str} {k : Nat} {bV : List Nat}
theorem GF {pins : List (Addr × Obj)} {σ : St} {H2 : Hp} {s2 : Shared} {cl : List (Str × Addr)} {C : Addr} {fp : List Addr} {h1 : Heap} {tk : Nat} {m0 : Str -> Option Value} (S : eS X scope N k bV) (I2 : Inv X pins σ H2 s2)
  (hcl1 : ∀ y c, cl.lookup y = some c -> X.env.cells.lookup y = some c) (hcl2 : ∀ y, (y, NameKind.free) ∈ scope.names -> (cl.lookup y).isSome = true) (hC : C = s2.heap.objs.size + 1)
  (hf : ∀ b ∈ fp, mO X pins H2 b) (ho : ∀ b ∈ fp, b < s2.heap.objs.size) (hk : ∀ b o, s2.heap.get? b = some o -> h1.get? b = some o) (hD : h1.get? s2.heap.objs.size = some { cls := .type "dict", data := .dict #[] }) (hns : h1.Ns C m0) :
  Inv (aY X scope N ⟨cl, C, s2, H2, fp⟩) [] (dX k bV σ) (upd H2 s2.heap.objs.size (.dK [] 0)) { s2 with heap := h1, toks := tk } := by
 have fr : H2 s2.heap.objs.size = none := I2.bN.fresh (le_refl _)
 have hCf : H2 C = none := I2.bN.fresh (hC ▸ le_succ _)
 refine ⟨qQ S I2 hcl1 hcl2 (hC ▸ le_succ _) hf ho, rfl, I2.bare, Un.laid hk (le_refl _) fr, ⟨m0, hns, fun i y v e1 e2 e3 => ?_⟩, fun x c e => ?_, ?_, fun x c e => ?_, fun p hp => absurd (show p ∈ ([] : List (Addr × Obj)) from hp) (by simp), I2.bN.laid hk (le_refl _) ?_, ?_⟩
 ·obtain ⟨q, j, rfl, hj, hv⟩ := sT e2
  obtain ⟨z, hz1, hz2, hz3⟩ := S.bV q j hj
  have e1' : N[k + q]? = some y := e1
  rw [hz1] at e1'
  cases e1'
  obtain ⟨m, hn, hl⟩ := I2.loc
  have hfr := S.free (y, .free) (PySem.mem_of_lookup hz3) rfl
  obtain ⟨u, r, l⟩ := hl j y v hz2 hv (by rcases hfr with z | z; exact .inr (.inl z); exact .inr (.inr z))
  refine ⟨u, r, .inr ⟨dO (env := X.env) hz3, ?_⟩⟩
  obtain ⟨c, hc⟩ := isSome_iff_exists.mp (hcl2 y (PySem.mem_of_lookup hz3))
  rcases l with ⟨hk', _⟩ | ⟨_, c', hc', hcell⟩
  ·rcases hfr with z | z <;> (rw [hk'] at z; cases z)
  ·have e := hcl1 y c hc
   rw [hc'] at e
   cases e
   obtain ⟨o, ho', hd⟩ := hcell
   exact ⟨_, hc, o, hk _ _ ho', hd⟩
 ·obtain ⟨v, o, ho', hd⟩ := I2.cell x c (hcl1 x c e)
  exact ⟨v, o, hk _ _ ho', hd⟩
 ·show upd H2 s2.heap.objs.size (.dK [] 0) C = none
  rw [aP (ne_of_gt (hC ▸ lt_succ_self _))]
  exact hCf
 ·have e' := hcl1 x c e
  obtain ⟨v, q⟩ := I2.cell x c e'
  rw [aP (ne_of_lt q.lt)]
  exact I2.jL x c e'
 ·exact ⟨zero_le _, beq_eq_false_iff_ne.mpr (Ne.symm (ne_of_lt I2.big)), [], .nil, ⟨_, #[], hD, ⟨rfl, rfl, rfl⟩, rfl, (fun _ h => absurd h (by simp)), .nil, nodup_nil⟩⟩
 ·show (dX k bV σ).length = N.length
  unfold dX
  rw [length_append, length_replicate, length_map, S.len]
theorem E2 (hc : X.calm = true) (S : eS X scope N k bV) (hi : PI X tg iter wi) (hg : ∀ c, PG (aY X scope N c) tg g) (ht : ∀ c, OM (aY X scope N c) ifs tt) (hk : ∀ c, PE (aY X scope N c) kx tk) (he : ∀ c, PE (aY X scope N c) vx te)
  (hs : ∀ x, foldedSetIterable iter X.env x = pure x := by intro _; rfl) : PE X (.DictComp kx vx [⟨tg, iter, ifs, 0⟩] scope pos) (vG wi k bV g tt tk te) := by
 intro pins s σ H Q I h
 rw [arm_eval_DictComp]
 obtain ⟨cl, hclos, hcl1, hcl2⟩ := hB (scope := scope) (env := X.env) (fun p hp hf => I.ok.has p.1 (S.free p hp hf))
 refine wpAny_comprehension_free (use := none) rfl hs hclos S.kind S.names (cJ (hi pins s σ H _ I h) fun v s1 h1 => cJ h1 fun itv s2 h2 => ?_)
 obtain ⟨it, fp, tn, J, H2, e, I2, T, st2, f2, q2⟩ := h2
 subst e
 obtain ⟨W, ⟨m0, w0⟩, turn⟩ := q2 s2.heap.objs.size (I2.bN.fresh (le_refl _))
 have hob : ∀ b ∈ fp, b < s2.heap.objs.size := fun b hb => let ⟨o, e, _⟩ := T.obj _ _ st2 b hb; lt_size e
 refine wpAny_newObj_type (wpAny_newFunctionEnv S.cell (by intro y hy; simp at hy) (fun h₁ hns₁ hsb₁ => ?_) S.kind)
 dsimp only at hns₁ hsb₁ ⊢
 generalize hHH : s2.heap.push { cls := .type "dict", dict := none, data := .dict #[] } = HH at hns₁ hsb₁ ⊢
 have hCC : HH.objs.size = s2.heap.objs.size + 1 := by rw [<- hHH, size_push]
 have old : ∀ b o, s2.heap.get? b = some o -> h₁.get? b = some o := fun b o e => hsb₁.extBut b o (ne_of_lt (hCC ▸ lt_succ_of_lt (lt_size e))) (get?_push_of_some _ (hHH ▸ get?_push_of_some _ e))
 have hD : h₁.get? s2.heap.objs.size = some { cls := .type "dict", data := .dict #[] } := hsb₁.extBut _ _ (ne_of_lt (hCC ▸ lt_succ_self _)) (get?_push_of_some _ (hHH ▸ get?_push_size _ rfl))
 have I4 := fun tk => GF (tk := tk) S I2 hcl1 hcl2 hCC f2 hob old hD hns₁
 have X' := aY X scope N ⟨cl, HH.objs.size, s2, H2, fp⟩
 have stat : ∀ {H' : Hp}, (∀ b ∈ fp, H' b = none) -> ∀ b ∈ fp, mO (aY X scope N ⟨cl, HH.objs.size, s2, H2, fp⟩) [] H' b := fun hn b hb =>
  ⟨hn b hb, ne_of_lt (hCC ▸ lt_succ_of_lt (hob b hb)), (qQ S I2 hcl1 hcl2 (hCC ▸ le_succ _) f2 hob).vP b hb, .inl hb, fun x c e => (f2 b hb).2.2.2.2.1 x c (hcl1 x c e), fun p hp => absurd (show p ∈ ([] : List (Addr × Obj)) from hp) (by simp)⟩
 have loop : ∀ s₃ : Shared, s₃ = { s2 with heap := h₁, toks := s2.toks + ([] : List (Str × Value)).length } ->
   codeAny (model X.prog X.w) X.A (.compLoop (.DictComp kx vx [⟨tg, iter, ifs, 0⟩] scope pos) 0 (.ref it) (.ref s2.heap.objs.size) (compEnvC scope cl HH.objs.size X.env))
    (compPost (model X.prog X.w) X.A X.xe none (EP X pins σ Q) (.ref s2.heap.objs.size) HH.objs.size) s₃ := by
  rintro s₃ rfl
  refine EH (fun n s' => ∃ i σ' H', Inv (aY X scope N ⟨cl, HH.objs.size, s2, H2, fp⟩) [] σ' H' s' /\ tn i s'.heap /\ (∀ b ∈ fp, H' b = none) /\ W i n σ' H') ?_ m0
   ⟨0, dX k bV σ, _, I4 _, T.keep _ _ _ st2 fun b _ o e => old b o e, fun b hb => by rw [aP (ne_of_lt (hob b hb))]; exact (f2 b hb).1, w0⟩
  rintro n s3 ⟨i, σ3, H3, I3, st3, fr3, w3⟩
  rcases turn i n σ3 H3 w3 with ⟨stop, qn⟩ | ⟨go, NN, hN, step⟩
  ·refine cJ (T.done (aY X scope N ⟨cl, HH.objs.size, s2, H2, fp⟩) rfl rfl rfl hc i [] s3 σ3 H3 _ I3 (stat fr3) st3 stop) fun r s4 ⟨hr, J4⟩ => ?_
   subst hr
   obtain ⟨m, hn, _⟩ := J4.loc
   refine ⟨m, hn, fun h' hs' => ?_⟩
   have keepC : ∀ b o, b ≠ HH.objs.size -> s4.heap.get? b = some o -> h'.get? b = some o := fun b o hb e => hs'.extBut b o hb e
   have gJ : ∀ b o, s2.heap.get? b = some o -> b ≠ HH.objs.size := fun b o e => ne_of_lt (hCC ▸ lt_succ_of_lt (lt_size e))
   have u := J4.base
   have u' : Un (CG X.stack) fp H2 H3 s2.heap h' := ⟨fun b o q n hb hx => keepC b o (gJ b o q) (u.keep b o q n hb hx), fun b o q n hb hx => by
     obtain ⟨sl, e⟩ := u.slot b o q n hb hx
     exact ⟨sl, keepC b _ (gJ b o q) e⟩, u.free, fun b o q hx => by
     obtain ⟨o', e⟩ := u.there b o q hx
     exact ⟨o', keepC b _ (gJ b o q) e⟩, u.rJ, u.pT, u.rN⟩
   refine ⟨.ref s2.heap.objs.size, H3, I2.EU (ch := fp) J4.os u' (J4.bN.but J4.free keepC) J4.bare fun b hb => ?_, rfl, qn⟩
   obtain ⟨_, f1, _, f3, f4, f5⟩ := f2 b hb
   exact ⟨f3, f1, f4, f5⟩
  ·refine cJ (T.item (aY X scope N ⟨cl, HH.objs.size, s2, H2, fp⟩) rfl rfl rfl hc i [] s3 σ3 H3 _ I3 (stat fr3) st3 go) fun r s4 ⟨u, hr, h4⟩ => ?_
   subst hr
   refine cJ h4 fun _ s5 ⟨x, H5, I5, r5, y5, st5, fr5⟩ => ?_
   have I5' := I5.pinned (stat fr5) (T.obj _ _ st5)
   have again : ∀ {s7 : Shared} {σ7 : St} {H7 : Hp}, Inv (aY X scope N ⟨cl, HH.objs.size, s2, H2, fp⟩) ([] ++ k9 fp s5.heap) σ7 H7 s7 -> NN σ7 H7 ->
     ∃ m, m < n /\ ∃ i σ' H', Inv (aY X scope N ⟨cl, HH.objs.size, s2, H2, fp⟩) [] σ' H' s7 /\ tn i s7.heap /\ (∀ b ∈ fp, H' b = none) /\ W i m σ' H' := fun {s7 σ7 H7} I7 n7 => by
    obtain ⟨m', hm, w7⟩ := hN σ7 H7 n7
    refine ⟨m', hm, i + 1, σ7, H7, I7.iF, T.keep _ _ _ st5 fun b hb o e => (I7.pin (b, o) (mem_append_right _ (mem_append_right _ (dA hb e)))).1, fun b hb => ?_, w7⟩
    obtain ⟨o, e, d⟩ := T.obj _ _ st5 b hb
    exact (I7.pin (b, o) (mem_append_right _ (mem_append_right _ (dA hb e)))).2.1
   refine cJ (hg _ _ s5 σ3 H5 x u _ I5' r5 (step x H5 y5)) fun _ s6 ⟨σ6, H6, I6, q6⟩ => ?_
   refine cJ (ht _ _ s6 σ6 H6 _ I6 q6) fun b s7 ⟨H7, I7, q7⟩ => ?_
   cases b with
   | false => exact again I7 q7
   | true =>
    refine cJ (hk _ _ s7 σ6 H7 _ I7 q7) fun kv s8 ⟨kx', H8, I8, r8, q8⟩ => ?_
    refine cJ (he _ _ s8 σ6 H8 _ I8 q8) fun y s9 ⟨yv, H9, I9, r9, kvs, key, hl, ek, hz, n9⟩ => ?_
    subst ek
    obtain ⟨z, hd, vs, rel, dd⟩ := FV I9.bN hl
    have hz' : vs.length <= sizeLine := by rw [<- rel.length]; exact z
    have hl' : (putK kvs key yv).length <= sizeLine := by have := gR kvs key yv; omega
    refine wpAny_dictSet_pairs (hsz := hz') (lO r8) dd fun h' dd' hs' => ?_
    have hx' : ∃ q, h'.get? s2.heap.objs.size = some q := let ⟨q, _, _, hq, _⟩ := dd'; ⟨q, hq⟩
    obtain ⟨ep, da⟩ := dd'.dictAt
    exact again (oY I9 hl.WJ hs' hx' (AE hl' hd (rel.put key r9) da)) (n9 ep)
 exact codeAny_compStart_dict (loop _ rfl) (T.self X.A 0 _ _ _ (T.keep _ _ _ st2 fun b _ o e => old b o e) (loop _ rfl))
theorem ES (N : List Str) (k : Nat) (bV : List Nat) (XN : List Str) (xs : Scope) (hc : X.calm = true) (hN : X.N = XN) (hx : X.env.scope = xs) (hi : PI X tg iter wi) (chk : mM XN xs scope N k bV = true)
  (hg : ∀ c, PG (aY X scope N c) tg g) (ht : ∀ c, OM (aY X scope N c) ifs tt) (hk : ∀ c, PE (aY X scope N c) kx tk) (he : ∀ c, PE (aY X scope N c) vx te)
  (hs : ∀ x, foldedSetIterable iter X.env x = pure x := by intro _; rfl) : PE X (.DictComp kx vx [⟨tg, iter, ifs, 0⟩] scope pos) (vG wi k bV g tt tk te) := E2 hc (iR hN hx chk) hi hg ht hk he hs
end
end L2
namespace Mr
open PySem L2
variable {fe fk : FE} {fg : FG} {fi : FI} {ft : FT} {bV : List Nat} {k : Nat} {te tk : TE} {wi : TI} {tt : TT}
noncomputable def iW (fg : FG) (ft : FT) (fk fe : FE) : List PV -> En -> List (Key × PV) -> Option (List (Key × PV) × En)
 | [], e, d => some (d, e)
 | x :: xs, e, d => bO (fg x e) fun e1 => bE (ft e1) fun b e2 => match b with
  | false => iW fg ft fk fe xs e2 d
  | true => bE (fk e2) fun kb e3 => bE (fe e3) fun r e4 => bO (kb.weak.get e4) fun kp => bO (keyOf kp) fun k => bO r.put fun p => iW fg ft fk fe xs e4 (eU d k p)
noncomputable def kS (fi : FI) (k : Nat) (bV : List Nat) (ms : List (Nat × Nat)) (fg : FG) (ft : FT) (fk fe : FE) : FE := fun e =>
 bE (fi (fun i => !(ms.any fun z => z.1 == i)) e) fun items e1 => aU (decide (items.length < 1000000)) (bE (iW fg ft fk fe items (kT k bV ms e1) []) fun ys ei => bO (kK ei ms e1) fun e2 => some (.new (.bG ys), e2))
section
variable {K : Frag}
theorem DA {g : TG} (ms : List (Nat × Nat)) (hms : ∀ i j1 j2, (i, j1) ∈ ms -> (i, j2) ∈ ms -> j1 = j2) (hms2 : ∀ i1 i2 j, (i1, j) ∈ ms -> (i2, j) ∈ ms -> i1 = i2) (hi : vF K wi fi) (hg : tM K g fg) (ht : iV K tt ft) (hk : Ref K tk fk) (he : Ref K te fe) : Ref K (vG wi k bV g tt tk te) (kS fi k bV ms fg ft fk fe) := by
 intro O M W L σ H e e' b Q o hen hf q
 obtain ⟨items, e1, f1, hf⟩ := aL hf
 obtain ⟨hsz, hf⟩ := aJ hf
 obtain ⟨ys, ei, f2, hf⟩ := aL hf
 obtain ⟨e2, f3, hf⟩ := aE hf
 cases hf
 have hsz := of_decide_eq_true hsz
 refine hi (fun i => !(ms.any fun z => z.1 == i)) O M W L σ H e e1 items _ o hen f1 fun J H1 k1 en it => ?_
 have o1 := o.keep k1.bU
 let W' : WS := ⟨fun j a => ∃ i s, (i, j) ∈ ms /\ e1[i]? = some (some s) /\ s.cQ = true /\ σ[i]? = some (some (.ref a)), fun a => H1 a ≠ none⟩
 have whose : ∀ (i : Nat) s a, e1[i]? = some (some s) -> s.cQ = true -> σ[i]? = some (some (.ref a)) -> (aw W a \/ L a) /\ ∃ ob, H1 a = some ob /\ ∀ xs, ob ≠ .tup xs := fun i s a hs hm ha => by
  obtain ⟨v, h1, h2⟩ := en.at' i s hs
  rw [ha] at h1
  cases h1
  cases s with
  | val p => cases hm
  | bor p => cases hm
  | own p => obtain ⟨b, e, w, c⟩ := h2; cases e; exact ⟨.inl ⟨i, w⟩, c.there⟩
  | loc p => obtain ⟨b, e, w, c⟩ := h2; cases e; exact ⟨.inr w, c.there⟩
 have wsub : ∀ a, aw W' a -> (aw W a \/ L a) /\ ∃ ob, H1 a = some ob /\ ∀ xs, ob ≠ .tup xs := fun a ⟨j, i, s, hm, hs, hmine, ha⟩ => whose i s a hs hmine ha
 have it := it (aw W') (fun a z => (wsub a z).1) fun i a s hst hs hm ha ⟨j, i', s', hm', hs', hmine', ha'⟩ => by
  have ne : i' ≠ i := fun z => by
   subst z
   have : (ms.any fun z => z.1 == i') = true := any_eq_true.mpr ⟨(i', j), hm', by simp⟩
   rw [this] at hst
   cases hst
  exact en.kX i' i s' s ne hs' hs hmine' hm (by rw [ha', ha])
 intro l hl
 have zl : ∀ a ob, H1 a = some ob -> a ≠ l := fun a ob h => bT h hl
 let M' : aI := aR M (aR L (one l))
 let O' : aI := fun a => H1 a ≠ none \/ a = l
 have s0 : aT H1 (upd H1 l (.dK [] 0)) := aT.upd hl
 have ML : ∀ a, (aw W a \/ L a) -> aR M L a := fun a z => z.elim (fun ⟨i, w⟩ => .inl (o.wm i a w)) .inr
 have k0 : cL (aR M L) (aR M' cK) H1 (upd H1 l (.dK [] 0)) := ⟨fun a xs h => s0 _ _ h, fun a ob h n => ⟨s0 _ _ h, fun z => by
  rcases z with (z | z | z) | z
  ·exact n (.inl z)
  ·exact n (.inr z)
  ·exact zl a ob h z
  ·exact z⟩⟩
 have okc0 : ∀ H2, (∀ a, H1 a ≠ none \/ a = l -> H2 a ≠ none) -> iY O' M' W' cK H2 := fun H2 d => ⟨d, fun a z => by
   rcases z with z | z | z
   ·exact .inl (o1.old a (o1.mo a z))
   ·exact .inl (o1.loc a z).1
   ·exact .inr z, fun j a z => by
   rcases ML a (wsub a ⟨j, z⟩).1 with z | z
   ·exact .inl z
   ·exact .inr (.inl z), fun a z => z.elim⟩
 have lenS : (kT k bV ms e1).length = (dX k bV σ).length := by
  unfold kT dX
  rw [length_append, length_append, pJ, length_map, length_replicate, length_replicate]
 have en0 : aN K (aR M' cK) W' cK (upd H1 l (.dK [] 0)) (dX k bV σ) (kT k bV ms e1) := by
  have lend : ∀ (i : Nat) s p a, e1[i]? = some (some s) -> (s = .own p \/ s = .loc p) -> σ[i]? = some (some (.ref a)) -> fS K (aR M L) H1 a p -> ¬ (∃ j, (i, j) ∈ ms) -> oI K (aR M' cK) W' cK (upd H1 l (.dK [] 0)) a p := fun i s p a hs hp ha c nm => by
   have hm : s.cQ = true := by rcases hp with rfl | rfl <;> rfl
   have nw : ¬ aw W' a := fun ⟨j, i', s', hm', hs', hmine', ha'⟩ => by
    have ne : i' ≠ i := fun z => nm ⟨j, z ▸ hm'⟩
    exact en.kX i' i s' s ne hs' hs hmine' hm (by rw [ha', ha])
   have c' := c.aH k0 fun ob h => s0 _ _ h
   cases c' with
   | lst h r => exact .lst (.inl h) (by obtain ⟨ob, h1, _⟩ := c.there; show H1 a ≠ none; rw [h1]; exact fun z => nomatch z) nw (fun z => z) r
   | bG h kk r => exact .bG (.inl h) (by obtain ⟨ob, h1, _⟩ := c.there; show H1 a ≠ none; rw [h1]; exact fun z => nomatch z) nw (fun z => z) kk r
  have bors : ∀ p a, oI K (aR M L) W L H1 a p -> oI K (aR M' cK) W' cK (upd H1 l (.dK [] 0)) a p := fun p a c => by
   cases c with
   | lst h od n m r => exact .lst (h.elim (fun h => .inl (s0 _ _ h)) fun ⟨u, h⟩ => .inr ⟨u, s0 _ _ h⟩) (fun z => Rd.ne h z rfl) (fun z => (wsub a z).1.elim n m) (fun z => z) (r.aH k0)
   | cY h r => exact .cY h (r.aH k0)
   | bG h od n m kk r => exact .bG (h.elim (fun h => .inl (s0 _ _ h)) fun ⟨u, h⟩ => .inr ⟨u, s0 _ _ h⟩) (fun z => Rd.ne h z rfl) (fun z => (wsub a z).1.elim n m) (fun z => z) kk (r.aH k0)
  have row : ∀ (i j : Nat) s, uI e1 ms i j = some s -> ∃ v, σ[i]? = some (some v) /\ gY K (aR M' cK) W' cK (upd H1 l (.dK [] 0)) j v s /\ (s.cQ = true -> (i, j) ∈ ms /\ ∃ s', e1[i]? = some (some s') /\ s'.cQ = true) := fun i j s h => by
   unfold uI at h
   have nc : ∀ {p : PV}, ms.contains (i, j) = true -> (i, j) ∈ ms := fun z => contains_iff_mem.mp z
   cases c : e1[i]? with
   | none => rw [c] at h; cases h
   | some s' =>
    cases s' with
    | none => rw [c] at h; cases h
    | some s' =>
     rw [c] at h
     obtain ⟨v, h1, h2⟩ := en.at' i s' c
     refine ⟨v, h1, ?_⟩
     cases s' with
     | val p => cases h; exact ⟨Rep.aH k0 h2, fun z => nomatch z⟩
     | bor p => cases h; obtain ⟨a, e, c⟩ := h2; exact ⟨⟨a, e, bors p a c⟩, fun z => nomatch z⟩
     | own p =>
      obtain ⟨a, e, w, ct⟩ := h2
      subst e
      dsimp only at h
      cases d : ms.contains (i, j) with
      | true =>
       rw [d, if_pos rfl] at h
       cases h
       have hm := contains_iff_mem.mp d
       exact ⟨⟨a, rfl, ⟨i, _, hm, c, rfl, h1⟩, ct.aH k0 fun ob h => s0 _ _ h⟩, fun _ => ⟨hm, _, rfl, rfl⟩⟩
      | false =>
       rw [d, if_neg Bool.false_ne_true] at h
       cases d2 : ms.any (fun z => z.1 == i) with
       | true => rw [d2, if_pos rfl] at h; cases h
       | false =>
        rw [d2, if_neg Bool.false_ne_true] at h
        cases h
        refine ⟨⟨a, rfl, lend i _ p a c (.inl rfl) h1 ct fun ⟨j', hm'⟩ => ?_⟩, fun z => nomatch z⟩
        have : (ms.any fun z => z.1 == i) = true := any_eq_true.mpr ⟨(i, j'), hm', by simp⟩
        rw [d2] at this
        cases this
     | loc p =>
      obtain ⟨a, e, w, ct⟩ := h2
      subst e
      dsimp only at h
      cases d : ms.contains (i, j) with
      | true =>
       rw [d, if_pos rfl] at h
       cases h
       have hm := contains_iff_mem.mp d
       exact ⟨⟨a, rfl, ⟨i, _, hm, c, rfl, h1⟩, ct.aH k0 fun ob h => s0 _ _ h⟩, fun _ => ⟨hm, _, rfl, rfl⟩⟩
      | false =>
       rw [d, if_neg Bool.false_ne_true] at h
       cases d2 : ms.any (fun z => z.1 == i) with
       | true => rw [d2, if_pos rfl] at h; cases h
       | false =>
        rw [d2, if_neg Bool.false_ne_true] at h
        cases h
        refine ⟨⟨a, rfl, lend i _ p a c (.inr rfl) h1 ct fun ⟨j', hm'⟩ => ?_⟩, fun z => nomatch z⟩
        have : (ms.any fun z => z.1 == i) = true := any_eq_true.mpr ⟨(i, j'), hm', by simp⟩
        rw [d2] at this
        cases this
  refine ⟨lenS, fun j s hj => ?_, fun j1 j2 s t hn h1 h2 m1 m2 => ?_⟩
  ·obtain ⟨q, i, rfl, hc, hs⟩ := iN hj
   obtain ⟨v, h1, h2, _⟩ := row i _ s hs
   exact ⟨v, iE hc h1, h2⟩
  ·obtain ⟨q1, i1, rfl, c1, hs1⟩ := iN h1
   obtain ⟨q2, i2, rfl, c2, hs2⟩ := iN h2
   obtain ⟨v1, a1, _, b1⟩ := row i1 _ s hs1
   obtain ⟨v2, a2, _, b2⟩ := row i2 _ t hs2
   obtain ⟨w1, s1, d1, n1⟩ := b1 m1
   obtain ⟨w2, s2, d2, n2⟩ := b2 m2
   rw [iE c1 a1, iE c2 a2]
   have ne : i1 ≠ i2 := fun z => by subst z; exact hn (hms _ _ _ w1 w2)
   have := en.kX i1 i2 s1 s2 ne d1 d2 n1 n2
   rw [a1, a2] at this
   exact this
 have dl : ∀ a xs, H1 a = some (.tup xs) -> a ≠ l := fun a xs h => zl a _ h
 let N : Nat -> St -> Hp -> Prop := fun i σ' H' => ∃ ei' acc vs, bR W' (one l) (upd H1 l (.dK [] 0)) H' /\ qP H' l vs /\ dF K (aR M' cK) H' acc vs /\ aN K (aR M' cK) W' cK H' σ' ei' /\ acc.length <= i /\
  iW fg ft fk fe (items.drop i) ei' acc = some (ys, ei)
 have k0' : ∀ H', bR W' (one l) (upd H1 l (.dK [] 0)) H' -> ∀ a, H1 a ≠ none \/ a = l -> H' a ≠ none := fun H' kk a z => kk.bU a (by
  rcases z with z | z
  ·cases e : H1 a with
   | none => exact absurd e z
   | some u => rw [s0 _ _ e]; exact fun z => nomatch z
  ·rw [z, aQ]; exact fun z => nomatch z)
 refine ⟨fun i m σ' H' => m = items.length - i /\ i <= items.length /\ N i σ' H', ⟨items.length, by simp, zero_le _, kT k bV ms e1, [], [], .refl, ⟨0, aQ⟩, ⟨rfl, .nil⟩, en0, le_refl _, by rw [drop_zero]; exact f2⟩, ?_⟩
 rintro i m σ2 H2 ⟨rfl, hil, ei2, acc, vs, kk, hl2, ra, en2, hacc, f4⟩
 have oki := okc0 H2 (k0' H2 kk)
 obtain ⟨itm, its⟩ := it (aR L (one l)) H2 (fun a ob h n => kk.obj a ob (s0 _ _ h) n (zl a ob h)) (fun a xs h => kk.tup a xs (s0 _ _ h)) (fun a z => z.elim .inl fun z => .inr (by rw [show a = l from z]; exact hl))
 by_cases hlt : i < items.length
 ·refine .inr ?_
  obtain ⟨go, yl⟩ := itm i items[i] (by simp [hlt])
  refine ⟨go, N (i + 1), fun σ' H' n => ⟨items.length - (i + 1), by omega, rfl, hlt, n⟩, fun x H3 y => ?_⟩
  obtain ⟨s3, rp⟩ := yl x H3 y
  rw [drop_eq_getElem_cons hlt] at f4
  obtain ⟨e4, c1, f4⟩ := aE f4
  have oki3 := oki.keep (H' := H3) (bR.same (W := W') (L := cK) s3).bU
  have rp' : Rep K (aR M' cK) H3 items[i] x := rp.aH (.less fun a z => z.elim id fun z => z.elim)
  refine hg O' M' W' cK σ2 H3 ei2 e4 _ x _ oki3 (en2.same s3) rp' c1 fun σ3 en3 => ?_
  obtain ⟨b, e5, c2, f4⟩ := aL f4
  refine ht O' M' W' cK σ3 H3 e4 e5 b _ oki3 en3 c2 fun H4 k4 en4 => ?_
  have oki4 := oki3.keep k4.bU
  have nlw : ¬ aw W' l := fun z => by obtain ⟨_, ob, h, _⟩ := wsub l z; rw [hl] at h; cases h
  have kL : ∀ {A B : Hp}, bR W' cK A B -> bR W' (one l) A B := fun k => ⟨fun a ob h n m => k.obj a ob h n fun z => z, k.tup, k.bU⟩
  have st : ∀ {A B : Hp}, bR W' cK A B -> iY O' M' W' cK A -> cL (aR M' cK) (aR M' cK) A B := fun k ok => k.aH ok
  have k34 : bR W' cK H2 H4 := (bR.same s3).trans k4
  cases b with
  | false =>
   rw [if_neg Bool.false_ne_true]
   exact ⟨e5, acc, vs, kk.trans (kL k34), (let ⟨ep, e⟩ := hl2; ⟨ep, k34.obj l _ e nlw (fun z => z)⟩), ⟨ra.1, ra.2.aH (st k34 oki)⟩, en4, le_succ_of_le hacc, f4⟩
  | true =>
   rw [if_pos rfl]
   obtain ⟨kb, e6, ck, f4⟩ := aL f4
   obtain ⟨rv, e7, c3, f4⟩ := aL f4
   obtain ⟨kp, cg, f4⟩ := aE f4
   obtain ⟨key, cy, f4⟩ := aE f4
   obtain ⟨p, c4, f4⟩ := aE f4
   refine hk O' M' W' cK σ3 H4 e5 e6 kb _ oki4 en4 ck fun kv H4' k4' rk frk => ?_
   have oki4' := oki4.keep k4'.bU
   refine he O' M' W' cK σ3 H4' e6 e7 rv _ oki4' (rk.en oki4') c3 fun v H5 k5 rb fr => ?_
   have oki5 := oki4'.keep k5.bU
   obtain ⟨en5, rp5⟩ := rb.put oki5 c4
   have ek : kv = kV key := (((rk.rv oki4').keep oki4' k5).red en5 cg).key cy
   have k35 : bR W' cK H2 H5 := (k34.trans k4').trans k5
   obtain ⟨ep0, hl20⟩ := hl2
   have hl5 := k35.obj l _ hl20 nlw (fun z => z)
   have ra5 : dF K (aR M' cK) H5 acc vs := ⟨ra.1, ra.2.aH (st k35 oki)⟩
   have lv : vs.length = acc.length := by have := congrArg List.length ra.1; rw [length_map, length_map] at this; exact this
   refine ⟨vs, key, ⟨_, hl5⟩, ek, by rw [sizeLine_eq]; omega, fun ep => ?_⟩
   have stw : cL (aR M' cK) (aR M' cK) H5 (upd H5 l (.dK (putK vs key v) ep)) := .write (.inl (.inr (.inr rfl))) hl5 fun _ z => nomatch z
   have kw : bR W' (one l) H5 (upd H5 l (.dK (putK vs key v) ep)) := .write (.inr rfl) hl5 fun _ z => nomatch z
   have lp : (eU acc key p).length <= acc.length + 1 := by
    unfold eU
    split
    ·rw [length_map]; omega
    ·rw [length_append]; exact le_refl _
   refine ⟨e7, eU acc key p, putK vs key v, (kk.trans (kL k35)).trans kw, ⟨ep, aQ⟩, dF.put key ⟨ra5.1, ra5.2.aH stw⟩ (rp5.aH stw), ?_, by omega, f4⟩
   refine ⟨en5.len, fun j s hj => ?_, en5.kX⟩
   obtain ⟨u, g1, g2⟩ := en5.at' j s hj
   refine ⟨u, g1, ?_⟩
   cases s with
   | val p => exact Rep.aH stw g2
   | own p =>
    obtain ⟨a, e, w, c⟩ := g2
    exact ⟨a, e, w, c.aH stw fun ob h => by rw [aP (fun z : a = l => nlw (by rw [<- z]; exact ⟨j, w⟩))]; exact h⟩
   | loc p => obtain ⟨a, e, w, c⟩ := g2; exact w.elim
   | bor p =>
    obtain ⟨a, e, c⟩ := g2
    refine ⟨a, e, ?_⟩
    have ne : W'.old a -> a ≠ l := fun od z => od (by rw [z]; exact hl)
    cases c with
    | lst h od n m r => exact .lst (h.elim (fun h => .inl (by rw [aP (ne od)]; exact h)) fun ⟨u, h⟩ => .inr ⟨u, by rw [aP (ne od)]; exact h⟩) od n m (r.aH stw)
    | cY h r => exact .cY h (r.aH stw)
    | bG h od n m kk r => exact .bG (h.elim (fun h => .inl (by rw [aP (ne od)]; exact h)) fun ⟨u, h⟩ => .inr ⟨u, by rw [aP (ne od)]; exact h⟩) od n m kk (r.aH stw)
 ·have e : i = items.length := by omega
  subst e
  rw [drop_length] at f4
  cases f4
  have kout : bR W L H1 H2 := ⟨fun a ob h n m => kk.obj a ob (s0 _ _ h) (fun z => (wsub a z).1.elim n m) (zl a ob h), fun a xs h => kk.tup a xs (s0 _ _ h), fun a h => k0' H2 kk a (.inl h)⟩
  have kf : cL (aR M L) (aR M (aR L (one l))) H1 H2 := ⟨kout.tup, fun a ob h n => ⟨kk.obj a ob (s0 _ _ h) (fun z => n (ML a (wsub a z).1)) (zl a ob h), fun z => by
   rcases z with z | z | z
   ·exact n (.inl z)
   ·exact n (.inr z)
   ·exact zl a ob h z⟩⟩
  have pend : uY K (aR M (aR L (one l))) W (aR L (one l)) H2 σ (fun i => ∃ j, (i, j) ∈ ms) e1 := by
   refine ⟨en.len, fun i s hs => ?_, en.kX⟩
   obtain ⟨v, h1, h2⟩ := en.at' i s hs
   have keepM : ∀ a, s.cQ = true -> ¬ (∃ j, (i, j) ∈ ms) -> v = .ref a -> ∀ ob, H1 a = some ob -> H2 a = some ob := fun a hm nt ev ob h => by
    subst ev
    refine kk.obj a ob (s0 _ _ h) (fun ⟨j, i', s', hm', hs', hmine', ha'⟩ => ?_) (zl a ob h)
    have ne : i' ≠ i := fun z => nt ⟨j, z ▸ hm'⟩
    exact en.kX i' i s' s ne hs' hs hmine' hm (by rw [ha', h1])
   refine ⟨v, h1, fun z => ?_, fun hm => ?_⟩
   ·cases s with
    | val p => exact Rep.aH kf h2
    | own p =>
     obtain ⟨a, e, w, c⟩ := h2
     exact ⟨a, e, w, c.aH kf fun ob h => keepM a rfl (z.elim id fun z => nomatch z) e ob h⟩
    | loc p =>
     obtain ⟨a, e, w, c⟩ := h2
     exact ⟨a, e, .inl w, c.aH kf fun ob h => keepM a rfl (z.elim id fun z => nomatch z) e ob h⟩
    | bor p =>
     obtain ⟨a, e, c⟩ := h2
     refine ⟨a, e, ?_⟩
     cases c with
     | lst h od n m r => exact .lst (h.elim (fun h => .inl (kout.obj _ _ h n m)) fun ⟨u, h⟩ => .inr ⟨u, kout.obj _ _ h n m⟩) od n (fun z => z.elim m (Rd.ne h hl)) (r.aH kf)
     | cY h r => exact .cY h (r.aH kf)
     | bG h od n m kk r => exact .bG (h.elim (fun h => .inl (kout.obj _ _ h n m)) fun ⟨u, h⟩ => .inr ⟨u, kout.obj _ _ h n m⟩) od n (fun z => z.elim m (Rd.ne h hl)) kk (r.aH kf)
   ·cases s with
    | val p => cases hm
    | bor p => cases hm
    | own p => obtain ⟨a, e, w, c⟩ := h2; exact ⟨a, e, .inl ⟨p, rfl, w⟩⟩
    | loc p => obtain ⟨a, e, w, c⟩ := h2; exact ⟨a, e, .inr ⟨p, rfl, .inl w⟩⟩
  have enf : aN K (aR M (aR L (one l))) W (aR L (one l)) H2 σ e' := jU pend (fun i j p a hm hp ha => by
   rcases bI hp with g | g
   ·obtain ⟨v, h1, a', rfl, ⟨i', s', hm', _, _, ha'⟩, c⟩ := en2.at' j _ g
    have ei := hms2 i i' j hm hm'
    subst ei
    rw [ha] at ha'
    cases ha'
    exact c.aH (.less fun a z => .inl z) fun _ h => h
   ·obtain ⟨v, h1, a', rfl, w, c⟩ := en2.at' j _ g
    exact w.elim) f3
  refine .inl ⟨its, q _ _ (k1.trans kout) ⟨l, rfl, fun z => o1.old l z hl, fun z => (o1.loc l z).1 hl, enf, fun i s hs hm e => ?_, .bG hl2.choose_spec ra.1 (ra.2.aH (.less fun a z => .inl z))⟩ (Fr.back (b := .new (.bG _)) k1.bU fun a e => by cases e; exact hl)⟩
  obtain ⟨s', hs', hm'⟩ := iZ f3 i s hs hm
  obtain ⟨_, ob, h, _⟩ := whose i s' l hs' hm' e
  rw [hl] at h
  cases h
theorem yO {g : TG} (ms : List (Nat × Nat)) (hms : (ms.all fun z => ms.all fun z' => (z.1 == z'.1) == (z.2 == z'.2)) = true) (hi : vF K wi fi) (hg : tM K g fg) (ht : iV K tt ft) (hk : Ref K tk fk) (he : Ref K te fe) : Ref K (vG wi k bV g tt tk te) (kS fi k bV ms fg ft fk fe) := by
 have key : ∀ z ∈ ms, ∀ z' ∈ ms, (z.1 == z'.1) = (z.2 == z'.2) := fun z hz z' hz' => by
  have := all_eq_true.mp (all_eq_true.mp hms z hz) z' hz'
  simpa using this
 refine DA ms (fun i j1 j2 h1 h2 => ?_) (fun i1 i2 j h1 h2 => ?_) hi hg ht hk he
 ·have := key _ h1 _ h2
  simpa using this
 ·have := key _ h1 _ h2
  simpa using this
end
theorem pK {fk fe : FE} (I : Nat -> List (Key × PV) -> En -> Prop) {Q : List (Key × PV) × En -> Prop} {xs : List PV}
  (hs : ∀ (i : Nat) x e d, xs[i]? = some x -> I i d e -> Wp (fg x e) fun e1 => Wp (ft e1) fun z => match z.1 with | false => I (i + 1) d z.2 | true => Wp (fk z.2) fun kb => Wp (fe kb.2) fun w => Wp (kb.1.weak.get w.2) fun kp => Wp (keyOf kp) fun k => Wp w.1.put fun p => I (i + 1) (eU d k p) w.2)
  (hd : ∀ d e, I xs.length d e -> Q (d, e)) {e : En} {d : List (Key × PV)} (h0 : I 0 d e) : Wp (iW fg ft fk fe xs e d) Q := by
 have key : ∀ (ys : List PV) (i : Nat) (e : En) (d : List (Key × PV)), i <= xs.length -> xs.drop i = ys -> I i d e -> Wp (iW fg ft fk fe ys e d) Q := by
  intro ys
  induction ys with
  | nil =>
   intro i e d hil hy hi
   unfold iW
   rw [b9]
   have hl : xs.length <= i := by
    have := congrArg List.length hy
    rw [length_drop] at this
    simp at this
    omega
   have h : i = xs.length := by omega
   subst h
   exact hd d e hi
  | cons x ys ih =>
   intro i e d hil hy hi
   have hlt : i < xs.length := by
    have := congrArg List.length hy
    rw [length_drop, length_cons] at this
    omega
   rw [drop_eq_getElem_cons hlt] at hy
   have hx : xs[i]? = some x := by rw [getElem?_eq_getElem hlt, (List.cons.inj hy).1]
   obtain ⟨e1, g1, ⟨b, e2⟩, g2, h⟩ := hs i x e d hx hi
   unfold iW
   rw [g1, qU, g2, AG]
   cases b with
   | false => exact ih (i + 1) e2 d hlt (List.cons.inj hy).2 h
   | true =>
    obtain ⟨⟨kb, e3⟩, g3, ⟨r, e4⟩, g4, kp, g5, k, g6, p, g7, h⟩ := h
    dsimp only at g3 g4 g5 g6 g7 h ⊢
    rw [g3, AG, g4, AG, g5, qU, g6, qU, g7, qU]
    exact ih (i + 1) e4 _ hlt (List.cons.inj hy).2 h
 exact key xs 0 e d (zero_le _) rfl h0
theorem C2 {ms : List (Nat × Nat)} {e : En} {Q : Bv × En -> Prop} :
  Wp (kS fi k bV ms fg ft fk fe e) Q ↔ Wp (fi (fun i => !(ms.any fun z => z.1 == i)) e) fun z => z.1.length < 1000000 /\ Wp (iW fg ft fk fe z.1 (kT k bV ms z.2) []) fun w => Wp (kK w.2 ms z.2) fun e2 => Q (.new (.bG w.1), e2) := by
 unfold kS
 constructor
 ·intro h
  obtain ⟨z, h1, h⟩ := iI.mp h
  obtain ⟨g, h⟩ := dW.mp h
  obtain ⟨w, h2, h⟩ := iI.mp h
  obtain ⟨e2, h3, h⟩ := iJ.mp h
  exact ⟨z, h1, of_decide_eq_true g, w, h2, e2, h3, b9.mp h⟩
 ·rintro ⟨z, h1, g, w, h2, e2, h3, q⟩
  exact iI.mpr ⟨z, h1, dW.mpr ⟨decide_eq_true g, iI.mpr ⟨w, h2, iJ.mpr ⟨e2, h3, b9.mpr q⟩⟩⟩⟩
end Mr
namespace L2
open PySem PyProof.Rows
section
variable {X : Cx}
noncomputable def uV (K : Frag) : V -> List V -> Hp -> VK -> Prop := fun x vs H Q => ∃ (l : Addr) (zs : List Str) (y : Str), x = .ref l /\ vs = [.str y] /\ gK K H l (zs.map V.str) /\ y ∈ zs /\ zs.length < 1000000 /\ Q (.int (zs.idxOf y : Nat)) H
theorem kQ (k : Str) : ∀ {vs : List Value} {ys : List Str}, StrsAre vs ys -> ∀ (j : Nat) (h1 : j < vs.length) (h2 : j < ys.length), isStrOf k vs[j] = (ys[j] == k)
 | _, _, .cons n t h, 0, _, _ => rfl
 | _, _, .cons n t h, j + 1, h1, h2 => kQ k h j (by simpa using h1) (by simpa using h2)
theorem wF : ∀ {vs : List Value} {ys : List Str}, StrsAre vs ys -> vs.length = ys.length
 | _, _, .nil => rfl
 | _, _, .cons n t h => by rw [length_cons, length_cons, wF h]
theorem DC (K : Frag) (hK : X.K = K := by rfl) : T1 X "list.index" (uV K) := by
 subst hK
 intro pins s σ H x vs v us Q I rx rv h
 obtain ⟨l, zs, y, rfl, rfl, hq, hy, hz, q⟩ := h
 cases rx
 obtain ⟨u, rfl, t, rfl⟩ := vals1 rv
 obtain ⟨its, r, pl, _⟩ := I.list hq
 have hi : StrsAre its zs := mD r
 have hl := pl.isList
 obtain ⟨⟨cls, dd, data, sl⟩, ho, hc, n, hd⟩ := id hl
 simp only at hc hd
 subst hc hd
 have hlen := wF hi
 have hj : zs.idxOf y < zs.length := idxOf_lt_length_iff.mpr hy
 refine call_meets PySem.F.slot_list_index ⟨_, ho, rfl⟩ PySem.F.entry_list_index (PySem.F.args_list_index_2 _ _)
  (SeqAt.list_indexAt l its.toArray n dd sl (.str y t) (isStrOf y) (zs.idxOf y) (by simpa [hlen] using hj) (by omega) ?_ ?_) ⟨ho, fun w hw => (eq_isStrOf y t hi w (by simpa using hw)).at _ _, ⟨.int (zs.idxOf y : Nat), H, I.tok _, ⟨_, rfl⟩, q⟩⟩
 ·show isStrOf y its[zs.idxOf y] = true
  rw [kQ y hi _ (by omega) hj]
  simpa using getElem_idxOf hj
 ·intro j hjs hlt
  show isStrOf y its[j] = false
  rw [kQ y hi j (by simpa using hjs) (by omega)]
  have := List.not_of_lt_findIdx (p := (· == y)) (xs := zs) (i := j) hlt
  simpa using this
end
end L2
namespace Mr
open PySem L2
section
variable {K : Frag}
noncomputable def mK : PV -> List PV -> Option Bv
 | .lst ps, [.str y] => bO (mJ ps) fun zs => aU (decide (y ∈ zs) && decide (zs.length < 1000000)) (some (.val (.int (zs.idxOf y : Nat))))
 | _, _ => none
theorem DO : Q9 K (uV K) mK := by
 intro Z H x vs p ps b Q hp hps h k
 unfold mK at h
 split at h
 ·obtain ⟨zs, g, h⟩ := aE h
  obtain ⟨c, h⟩ := aJ h
  cases h
  rw [and_eq_true] at c
  obtain ⟨v, rfl, hv⟩ := hps.one
  obtain ⟨a, ys, rfl, ha, ra⟩ := hp.j9
  rw [jT g] at ra
  rw [ra.strs] at ha
  exact ⟨a, zs, _, rfl, by rw [hv.str], ha.sq, of_decide_eq_true c.1, of_decide_eq_true c.2, k _ H (aT.refl _) (Rep.int _)⟩
 ·cases h
end
section
variable {K : Frag}
noncomputable def o4 (fa fb : FE) : FE := fun e => bE (fa e) fun x e1 => bO (x.weak.get e1) fun p1 => match p1 with
 | .lst _ => bE (fb e1) fun y e2 => bO (x.weak.get e2) fun p => bO (y.weak.get e2) fun q => bO (mK p [q]) fun b => some (b, e2)
 | _ => none
theorem zO {ta tb : TE} {fa fb : FE} (ha : Ref K ta fa) (hb : Ref K tb fb) : Ref K (S4 K "list" (uV K) ta (dU tb lW)) (o4 fa fb) := by
 intro O M W L σ H e e' b Q o he hf q
 obtain ⟨x, e1, f1, hf⟩ := aL hf
 obtain ⟨p1, g0, hf⟩ := aE hf
 cases p1 with
 | lst ps1 =>
  obtain ⟨y, e2, f2, hf⟩ := aL hf
  obtain ⟨p, g1, hf⟩ := aE hf
  obtain ⟨p', g2, hf⟩ := aE hf
  obtain ⟨c, g3, hf⟩ := aE hf
  cases hf
  refine ha O M W L σ H e e1 x _ o he f1 fun v1 H1 k1 r1 fr => ?_
  have o1 := o.keep k1.bU
  obtain ⟨a1, ys1, e11, ha1, _⟩ := ((r1.rv o1).red (r1.en o1) g0).j9
  refine ⟨by rw [e11]; exact .inl ⟨rfl, ys1, ha1.sq⟩, ?_⟩
  refine hb O M W L σ H1 e1 _ y _ o1 (r1.en o1) f2 fun v2 H2 k2 r2 fr => ?_
  have o2 := o1.keep k2.bU
  have en := r2.en o2
  have rp := ((r1.rv o1).keep o1 k2).red en g1
  have rq := (r2.rv o2).red en g2
  refine DO _ H2 v1 [v2] p [p'] _ Q rp (.cons rq .nil) g3 fun v H' s rn => ?_
  exact q v H' ((k1.trans k2).trans (.same s)) (rn.rb o2 en s) (rn.fr (k1.trans k2).bU)
 | _ => cases hf
end
end Mr
namespace Mr
open PySem PySem.Spec L2 PyProof.Rows
variable {f : Addr} {K : Frag} {a b c : Str}
structure qF (K : Frag) (x : Str) (st : Stmt) (f : Addr) : Prop where
 a : nsIn K mainGlobals x = some (some (.ref f))
 F : ∃ fd, O4 K x x st f fd
theorem cP {x : Str} {st : Stmt} {oc : Value} {od an : Option Addr} {osl : Array (Option Value)} {kV doc pm cdv ct : Value} (a : nsIn K mainGlobals x = some (some (.ref f)))
  (l : K.lookup f = some ⟨oc, od, .func (fnOf x x (fD st) (eA st) (aW st) .none kV doc pm an cdv ct), osl⟩) (c : codeIn K cdv x = true) (k : keepIn K (.ref f) = true) : qF K x st f := ⟨a, _, RE l c k⟩
section
variable {P : Program} {w : World} {K : Frag} {mg : Str -> Option Value} {base h : Heap} {x : Str} {st : Stmt} {ps N : List Str} {k nl : Nat} {ks : List Kd} {fr : Bool} {g : FS}
noncomputable def S7 (x : Str) (st : Stmt) (ps : List Str) : Prop := ∀ (kV doc pm : Value) (an : Option Addr) (cdv ct : Value) (us : List Value), us.length = ps.length -> bindArgs (fnOf x x (fD st) (eA st) (aW st) .none kV doc pm an cdv ct) ⟨us, []⟩ = pure (ps.zip us)
noncomputable def Dx (K : Frag) (mg : Str -> Option Value) (x : Str) (st : Stmt) (ps : List Str) : Prop := ∃ f fd, Def K mg x st ps f fd
theorem qF.dx (H : qF K x st f) (X : K.In h) (G : h.Ns mainGlobals mg) (b : S7 x st ps) : Dx K mg x st ps := let ⟨fd, F⟩ := H.F; ⟨f, fd, F, mg_of X G H.a, F.binds b⟩
structure Cn (P : Program) (w : World) (K : Frag) (mg : Str -> Option Value) (base : Heap) (x : Str) (st : Stmt) (ps : List Str) (k : Nat) (ks : List Kd) (fr : Bool) (fn : FN) : Prop where
 e : ∃ f fd, Def K mg x st ps f fd /\ lU P w K mg base J3 k f fd ps (OC K ks fr fn)
theorem eI (D : Dx K mg x st ps) (S : l0 N ps (aW st)) (hN : N.length = ks.length + nl) (hp : ks.length = ps.length)
  (hb : l0 N ps (aW st) -> ∀ (f : Addr) (cdv : Value) (A : Around) (outer : List Env) (s : Shared) (H : Hp) (E : XK), dD k (A.deeper (envOfC x (aW st) s.heap.objs.size f cdv)) -> ∃ t, D0 (yL J3 P w K mg base N x (aW st) f cdv A outer s H E).TM (eA st) t /\ jB K t g) : Cn P w K mg base x st ps (k + 1) ks fr (oW ks nl fr g) := by
 obtain ⟨f, fd, D⟩ := D
 refine ⟨f, fd, D, D.F.ok S (fun vs H Q E h => ?_) (fun cdv A outer s H vs Q E hr h => ?_)⟩
 ·obtain ⟨_, _, _, _, _, hl, _⟩ := h
  exact hl.trans hp
 ·obtain ⟨t, h1, h2⟩ := hb S f cdv A outer s H E hr
  exact ⟨t, h1, SN h2 hN h⟩
theorem xM {x : Str} {st : Stmt} (h : ∀ (kV doc pm : Value) (an : Option Addr) (cdv ct v : Value), bindArgs (fnOf x x (fD st) (eA st) (aW st) .none kV doc pm an cdv ct) ⟨[v], []⟩ = pure [(a, v)]) : S7 x st [a] := fun _ _ _ _ _ _ us hl => match us, hl with | [_], _ => h _ _ _ _ _ _ _
theorem FP {x : Str} {st : Stmt} (h : ∀ (kV doc pm : Value) (an : Option Addr) (cdv ct v1 v2 : Value), bindArgs (fnOf x x (fD st) (eA st) (aW st) .none kV doc pm an cdv ct) ⟨[v1, v2], []⟩ = pure [(a, v1), (b, v2)]) : S7 x st [a, b] := fun _ _ _ _ _ _ us hl => match us, hl with | [_, _], _ => h _ _ _ _ _ _ _ _
theorem z5 {x : Str} {st : Stmt} (h : ∀ (kV doc pm : Value) (an : Option Addr) (cdv ct v1 v2 v3 : Value), bindArgs (fnOf x x (fD st) (eA st) (aW st) .none kV doc pm an cdv ct) ⟨[v1, v2, v3], []⟩ = pure [(a, v1), (b, v2), (c, v3)]) : S7 x st [a, b, c] := fun _ _ _ _ _ _ us hl => match us, hl with | [_, _, _], _ => h _ _ _ _ _ _ _ _ _
theorem W3 {d : Str} {x : Str} {st : Stmt} (h : ∀ (kV doc pm : Value) (an : Option Addr) (cdv ct v1 v2 v3 v4 : Value), bindArgs (fnOf x x (fD st) (eA st) (aW st) .none kV doc pm an cdv ct) ⟨[v1, v2, v3, v4], []⟩ = pure [(a, v1), (b, v2), (c, v3), (d, v4)]) : S7 x st [a, b, c, d] := fun _ _ _ _ _ _ us hl => match us, hl with | [_, _, _, _], _ => h _ _ _ _ _ _ _ _ _ _
end
section
variable {X : Cx} {x : Str} {st : Stmt} {ps : List Str} {j k : Nat} {ks : List Kd} {fr : Bool} {fn : FN} {e : Expr} {es : List Expr} {t : TA} {p pos : Pos}
theorem bA (C : Cn X.prog X.w K X.mg X.base x st ps j ks fr fn) (hr : dD k X.A) (hjk : j <= k) (hg : Gl X x) (ha : PA X (e :: es) t) (hK : X.K = K := by rfl) (hdb : (x == ("__debug__" : Str)) = false := by decide)
  (he : starEach (e :: es) X.env = (false, eval e X.env) :: starEach es X.env := by rfl) (hpl : (backTo pos (starEach es X.env)).any (·.1) = false := by rfl) : PE X (.Call (.Name x p) (e :: es) [] pos) (xX (OC K ks fr fn) [] E0 t) := by
 subst hK
 obtain ⟨f, fd, D, G⟩ := C.e
 exact U6 D G hr hjk hg ha hdb he hpl
end
theorem R0 {P : Program} {w : World} {mg : Str -> Option Value} {st : Stmt} {k : Nat} {fn : FN} {fa : Addr} (hm : mg "law" = some (.ref fa)) (D : Dx K mg "law" st [a]) (hb : S7 "law" st [a])
  (C : ∀ base, Cn P w K mg base "law" st [a] k [.b] false fn) (hl : ∀ ns : List Int, ns.length <= 63 -> fn [.lst (ns.map PV.int)] = some (.bl true, [])) :
  ∃ fd : FuncData, (∀ (s : Shared) (v : Value), BindsTo s fd ⟨[v], []⟩ [(a, v)]) /\ ∀ base : Heap, K.In base -> base.Ns mainGlobals mg -> lU P w K mg base J3 k fa fd [a] (xY K) := by
 obtain ⟨f, fd, D⟩ := D
 have e1 := D.m
 rw [hm] at e1
 cases e1
 refine ⟨fd, fun s v => ?_, fun base _ _ => ?_⟩
 ·obtain ⟨oc, od, kV, doc, pm, an, cdv, ct, osl, rfl, lk, hcd⟩ := D.F.ex
  exact .of_eq (hb kV doc pm an cdv ct [v] rfl)
 ·obtain ⟨f', fd', D', ok⟩ := (C base).e
  have e2 := D'.m
  rw [hm] at e2
  cases e2
  obtain ⟨oc, od, kV, doc, pm, an, cdv, ct, osl, h1, lk, hcd⟩ := D.F.ex
  obtain ⟨oc', od', kV', doc', pm', an', cdv', ct', osl', h1', lk', hcd'⟩ := D'.F.ex
  rw [lk] at lk'
  have e3 : fd = fd' := by
   have := congrArg Obj.data (Option.some.inj lk')
   exact Data.func.inj this
  subst e3
  exact ok.imp fun vs H Q E h => MY hl h
end Mr
namespace L2
open PySem PySem.Spec PyProof.Rows
variable {E : Value -> Shared -> Prop}
theorem EC : typeLookup (.type "tuple") "keys" = pure none := by rw [typeLookup_type, builtinLookup_eq_fast]; kernel_rfl
theorem CZ {prog : Program} {w : World} {A : Around} {s : Shared} {a : Addr} {o : Obj} {xs : Array Value} {k : Nat} {Q : Option Value -> Shared -> Prop}
  (hx : s.heap.get? a = some o) (hc : o.cls = .type "tuple") (hdat : o.data = .seq xs k) (hd : o.dict = none) (hA : A.handled = none)
  (h : ∀ h' tk, (∀ b u, s.heap.get? b = some u -> h'.get? b = some u) -> Q none { s with heap := h', toks := tk }) : wpAny (model prog w) A (getAttr? (.ref a) "keys") Q E s := by
 obtain ⟨c, bG, dat, sl⟩ := o
 simp only at hc hdat hd
 subst hc hdat hd
 obtain ⟨hp, g, d, tk, os⟩ := s
 have hT : ∀ tk', (⟨hp, g, d, tk', os⟩ : Shared).TypeIs (.ref a) "tuple" := fun _ => ⟨_, hx, rfl⟩
 have f1 := sub_AttributeError
 have f3 := F.slot_tuple_getattribute.lookup
 have f4 := F.slot_tuple_getattribute.bind (.ref a)
 have f5 := am_tuple_getattr_none
 unfold getAttr? getAttrBy? getAttrBy
 repeat (any_goals (first | assumption | exact hT _ | ((with_reducible show wpAny _ _ (call (Value.builtin "tuple.__getattribute__") _ _) _ _ _); refine call_meets F.slot_tuple_getattribute (hT _) am_entry_tuple_getattribute (F.args_tuple_getattribute_2 _ _) (meets_getattribute_miss_tuple a xs k sl "keys" _ EC (by decide +kernel) (by decide)) ⟨hx, hA, fun h' tk' e hx' => ?_⟩) | wp_step))
 obtain ⟨t', u', he⟩ := hx'.there
 show wpAny _ _ (getattributeRaised _ _ _ _ _ _ _) _ _ _
 unfold getattributeRaised
 repeat (any_goals (first | assumption | wp_step))
 exact h h' tk' hx'.keeps
theorem BB : entryFor table "dict.update.loop" = some Builtin.«dict.update.loop» := entryFor_of_tree (by kernel_rfl)
theorem jZ : plainId "dict.update.loop" = true := by decide +kernel
section
variable {prog : Program} {w : World} {A : Around} {R : Result -> Shared -> Prop} {I : Addr} {fp wr : List Addr} {n : Nat} {Pz : Nat -> Value -> Prop} {Sz : Nat -> Heap -> Prop} {K : Type} [DecidableEq K] {knd : KeyKind prog w K}
noncomputable def z9 (knd : KeyKind prog w K) (h : Heap) (v : Value) (z : K × Value) : Prop := ∃ r key c dd sl, v = .ref r /\ h.get? r = some { cls := .type "tuple", dict := dd, data := .seq #[key, z.2] c, slots := sl } /\ knd.is z.1 key = true
theorem FZ {ok : Heap -> Prop} {ps : List (K × Value)} (W : Walks prog w A.in1 I fp wr n Pz Sz) (D : Addr) (nf : D ∉ fp) (hn : ps.length = n) (okk : ∀ h h', ok h -> (∀ b o, b ∉ wr -> b ≠ D -> h.get? b = some o -> h'.get? b = some o) -> ok h')
  (hpair : ∀ (h : Heap) (j : Nat) (v : Value), ok h -> Pz j v -> ∃ z, ps[j]? = some z /\ z9 knd h v z) :
  ∀ (m i : Nat) (s : Shared) (kvs : List (K × Value)) (tk : Tok), n - i = m -> i <= n -> ok s.heap -> Sz i s.heap -> s.heap.DictOf knd D kvs -> kvs.length + m <= sizeLine ->
  (∀ h' tk', h'.DictOf knd D ((ps.drop i).foldl (fun d z => stored d z.1 z.2) kvs) -> (∀ b o, b ∉ wr -> b ≠ D -> s.heap.get? b = some o -> h'.get? b = some o) -> R (.ok (.ret .none)) { s with heap := h', toks := tk' }) ->
  codeAny (model prog w) A (.builtin "dict.update.loop" ⟨[.ref D, .ref I, .int (i : Int) tk, .none], []⟩) R s := by
 have nw : D ∉ wr := fun h => nf (W.sub _ h)
 intro m
 induction m with
 | zero =>
  intro i s kvs tk hm hi bN st hd hz hR
  have e : i = n := by omega
  refine codeAny_builtin BB ?_
  rw [Around.under_plainId jZ _]
  refine wpAny_bind (m := pyNext (.ref I)) (W.done s _ _ (e ▸ st) fun h' tk kp => ?_)
  refine wpAny_bind (m := Builtin.Dict.addKeywords D []) (wpAny_pure (wpAny_pure ?_))
  refine hR h' tk ?_ fun b o h1 _ q => kp b o h1 q
  rw [List.drop_of_length_le (by omega)]
  obtain ⟨o, es, ep, ho, rest⟩ := hd
  exact ⟨o, es, ep, kp D o nw ho, rest⟩
 | succ m ih =>
  intro i s kvs tk hm hi bN st hd hz hR
  have hlt : i < n := by omega
  refine codeAny_builtin BB ?_
  rw [Around.under_plainId jZ _]
  refine wpAny_bind (m := pyNext (.ref I)) (W.item i s _ _ hlt st fun v h' tk' hP st' kp => ?_)
  have ok' : ok h' := okk _ _ bN fun b o h1 _ q => kp b o h1 q
  obtain ⟨z, hz1, r, key, c, dd, sl, rfl, hr, hk⟩ := hpair h' i v ok' hP
  have hd' : h'.DictOf knd D kvs := by
   obtain ⟨o, es, ep, ho, rest⟩ := hd
   exact ⟨o, es, ep, kp D o nw ho, rest⟩
  refine wpAny_bind (wpAny_holding ?_)
  refine wpAny_bind (wpAny_tryCatch ?_)
  unfold Builtin.Dict.pairItems
  refine wpAny_bind (wpAny_typeOf (s := { s with heap := h', toks := tk' }) (T := "tuple") ⟨_, hr, rfl⟩ ?_)
  rw [if_pos (by decide)]
  refine wpAny_bind (wpAny_seqItems hr rfl (wpAny_pure ?_))
  refine wpAny_holding (wpAny_dictSet_pairs (hsz := by omega) hk hd' fun h2 hd2 hs2 => ?_)
  have ne : ∀ {b : Addr} {o : Obj}, b ≠ D -> h'.get? b = some o -> h2.get? b = some o := fun hb q => hs2.extBut _ _ hb q
  have hl := stored_length_le kvs z.1 z.2
  refine wpAny_pure ⟨plainId_quiet jZ _, ?_⟩
  have := ih (i + 1) { s with heap := h2, toks := tk' + 1 } (stored kvs z.1 z.2) 0 (by omega) (by omega) (okk _ _ ok' fun b o _ hb q => ne hb q) (W.frame _ _ _ st' fun b hbf o q => ne (fun e => nf (by rw [<- e]; exact hbf)) q) hd2 (by omega) fun h3 tk3 hd3 kp3 => ?_
  ·rw [show ((i + 1 : Nat) : Int) = (i : Int) + 1 by omega] at this
   exact this
  ·refine hR h3 tk3 ?_ fun b o h1 h4 q => kp3 b o h1 h4 (ne h4 (kp b o h1 q))
   rw [drop_eq_getElem_cons (by omega), foldl_cons]
   have : ps[i]'(by omega) = z := by
    have e := getElem?_eq_getElem (l := ps) (i := i) (by omega)
    rw [hz1] at e
    exact (Option.some.inj e).symm
   rw [this]
   exact hd3
theorem oN {s : Shared} {t : Addr} {vs : List Value} {ps : List (K × Value)} {Q : Value -> Shared -> Prop} (hh : A.handled = none) (ht : IsTup s.heap t vs.toArray) (nd : ∀ o, s.heap.get? t = some o -> o.dict = none) (hz : ps.length <= sizeLine)
  (hp : ∀ (j : Nat) (v : Value), vs[j]? = some v -> ∃ z, ps[j]? = some z /\ z9 knd s.heap v z) (hl : ps.length = vs.length)
  (hq : ∀ h' tk, h'.DictOf knd s.heap.objs.size (ps.foldl (fun d z => stored d z.1 z.2) []) -> (∀ b o, s.heap.get? b = some o -> h'.get? b = some o) -> Q (.ref s.heap.objs.size) { s with heap := h', toks := tk }) :
  wpAny (model prog w) A (call (.type "dict") [.ref t]) Q E s := by
 refine callType_codes (Q₁ := fun obj s₁ => obj = .ref s.heap.objs.size /\ s₁ = { s with heap := s.heap.push { cls := .type "dict", data := .dict #[] } }) F.kt_called_dict (F.kt_typeCall_dict_1 _) F.entry_dict_init (kt_code_dict_new _ ⟨rfl, rfl⟩) ?_
 rintro obj s₁ ⟨rfl, rfl⟩
 have hnew : (s.heap.push { cls := .type "dict", data := .dict #[] }).DictOf knd s.heap.objs.size [] := Heap.DictOf.new s.heap
 refine ⟨hnew.typeIs, F.args_dict_init_2 _ _, ?_⟩
 unfold Builtin.«dict.__init__»
 refine wpAny_bind ?_
 unfold Builtin.Dict.selfAndRest
 refine wpAny_bind (wpAny_notOrdered_dict hnew.typeIs ?_)
 show wpAny _ _ (pure (s.heap.objs.size, [Value.ref t])) _ _ _
 refine wpAny_pure ?_
 show wpAny _ _ (Builtin.Dict.updateFrom "dict.__init__" s.heap.objs.size (.ref t) [] .none) _ _ _
 unfold Builtin.Dict.updateFrom
 obtain ⟨ot, eo, hc, c, hd⟩ := id ht
 have lt : t < s.heap.objs.size := lt_size eo
 have ht1 : (s.heap.push { cls := .type "dict", data := .dict #[] }).get? t = some ot := get?_push_of_some _ eo
 refine wpAny_bind (wpAny_typeOf (s := { s with heap := s.heap.push { cls := .type "dict", data := .dict #[] } }) (T := "tuple") ⟨_, ht1, hc⟩ ?_)
 rw [if_pos (by decide)]
 refine wpAny_bind (CZ ht1 hc hd (nd _ eo) (by exact hh) fun h1 tk1 k1 => ?_)
 simp only [Option.isNone_none, if_true]
 refine wpAny_bind (wpAny_rule ?_)
 have ht2 : h1.IsTuple t vs.toArray := ⟨ot, k1 _ _ ht1, hc, c, hd⟩
 refine wpAny_bind (wpAny_pyIter_tuple (s := { s with heap := h1, toks := tk1 }) ht2 ?_)
 refine wpAny_pure ⟨plainId_quiet jZ _, ?_⟩
 obtain ⟨od, es, ep, hod, rest⟩ := hnew
 have hD1 := k1 _ _ hod
 have ltD : s.heap.objs.size < h1.objs.size := lt_size hD1
 have old : ∀ b o, s.heap.get? b = some o -> b < s.heap.objs.size := fun b o e => lt_size e
 have keep : ∀ b o, s.heap.get? b = some o -> (h1.push { cls := .type "tuple_iterator", data := .fields #[.ref t, .int 0 0] }).get? b = some o := fun b o e => get?_push_of_some _ (k1 _ _ (get?_push_of_some _ e))
 have W := Walks.tuple (prog := prog) (w := w) (A := A.in1.in1) (by exact hh) h1.objs.size t (ne_of_lt (lt_trans lt ltD)) vs.toArray
 refine FZ (A := A.in1) (knd := knd) (ps := ps) (ok := fun h => ∀ b o, s.heap.get? b = some o -> h.get? b = some o) W s.heap.objs.size ?_ (by rw [size_toArray]; exact hl) (fun h h' o kk b u e => kk b u ?_ ?_ (o b u e)) (fun h j v o hv => ?_) _ 0 _ [] 0 rfl (zero_le _) keep ?_ ⟨od, es, ep, get?_push_of_some _ hD1, rest⟩ ?_ fun h' tk' hd' kp => ?_
 ·simp only [mem_cons, not_mem_nil, or_false, not_or]
  exact ⟨ne_of_lt ltD, ne_of_gt lt⟩
 ·simp only [mem_cons, not_mem_nil, or_false]
  exact ne_of_lt (lt_trans (old b u e) ltD)
 ·exact ne_of_lt (old b u e)
 ·obtain ⟨z, h1, r, key, c, dd, sl, e, g, k⟩ := hp j v (by simpa using hv)
  exact ⟨z, h1, r, key, c, dd, sl, e, o _ _ g, k⟩
 ·exact ⟨⟨_, get?_push_size _ rfl, rfl, rfl⟩, ⟨ot, get?_push_of_some _ (k1 _ _ ht1), hc, c, hd⟩⟩
 ·rw [size_toArray, <- hl]
  simp
  exact hz
 ·refine ⟨rfl, hq h' tk' hd' fun b o e => kp b o ?_ (ne_of_lt (old b o e)) (keep b o e)⟩
  simp only [mem_cons, not_mem_nil, or_false]
  exact ne_of_lt (lt_trans (old b o e) ltD)
end
end L2
namespace Mr
open PySem PySem.Spec L2
variable {H : Hp} {pins : List (Addr × Obj)} {K : Frag} {s : Shared} {σ : St} {Z : aI}
inductive sF (K : Frag) (H : Hp) : List V -> List (Key × V) -> Prop
 | nil : sF K H [] []
 | cons {r : Addr} {k : Key} {x : V} {vs : List V} {kvs : List (Key × V)} : lL K H r [kV k, x] -> sF K H vs kvs -> sF K H (.ref r :: vs) ((k, x) :: kvs)
noncomputable def F7 (K : Frag) : List V -> Hp -> VK -> Prop := fun xs H Q => ∃ (t : Addr) (ys : List V) (kvs : List (Key × V)), xs = [.ref t] /\ TupAt K H t ys /\ sF K H ys kvs /\ kvs.length <= sizeLine /\ ∀ p ep, H p = none -> Q (.ref p) (upd H p (.dK (kvs.foldl (fun d z => putK d z.1 z.2) []) ep))
section
variable {X : Cx}
theorem pairs_at (hK : X.K = K) (I : Inv X pins σ H s) : ∀ {ys : List V} {kvs : List (Key × V)} {us : List Value}, sF K H ys kvs -> Vals ys us -> ∃ ps : List (Key × Value), KV kvs ps /\ ps.length = us.length /\ ∀ (j : Nat) (v : Value), us[j]? = some v -> ∃ z, ps[j]? = some z /\ z9 (bM X.prog X.w) s.heap v z
 | _, _, _, .nil, .nil => ⟨[], .nil, rfl, fun _ _ h => by simp at h⟩
 | _, _, _, .cons (k := k) (x := x) h r, .cons rv rr => by
  obtain ⟨ps, h1, h2, h3⟩ := pairs_at hK I r rr
  subst hK
  obtain ⟨its, v2, ⟨o, eo, hc, n, hd⟩, _⟩ := I.tuple h
  obtain ⟨u1, u2, e, r1, r2⟩ := vals2 v2
  subst e
  cases rv
  refine ⟨(k, u2) :: ps, .cons ⟨rfl, r2⟩ h1, by simp [h2], fun j v hj => ?_⟩
  cases j with
  | zero =>
   simp at hj
   subst hj
   obtain ⟨c, dd, dt, sl⟩ := o
   simp only at hc hd
   subst hc hd
   exact ⟨_, rfl, _, u1, n, dd, sl, rfl, eo, lO r1⟩
  | succ j =>
   obtain ⟨z, e1, e2⟩ := h3 j v (by simpa using hj)
   exact ⟨z, by simpa using e1, e2⟩
theorem BK : ∀ {kvs : List (Key × V)} {ps : List (Key × Value)} {d : List (Key × V)} {d' : List (Key × Value)}, KV kvs ps -> KV d d' -> KV (kvs.foldl (fun d z => putK d z.1 z.2) d) (ps.foldl (fun d z => stored d z.1 z.2) d')
 | _, _, _, _, .nil, h => h
 | _, _, _, _, .cons (a := x) (b := y) h r, h' => by
  obtain ⟨k, v⟩ := x
  obtain ⟨k', v'⟩ := y
  obtain ⟨e, hv⟩ := h
  have e : k = k' := e
  subst e
  rw [foldl_cons, foldl_cons]
  exact BK r (KV.put h' k hv)
theorem vM : ∀ (kvs d : List (Key × V)), (kvs.foldl (fun d z => putK d z.1 z.2) d).length <= d.length + kvs.length
 | [], d => le_refl _
 | z :: kvs, d => by
  have h := vM kvs (putK d z.1 z.2)
  have l : (putK d z.1 z.2).length <= d.length + 1 := by unfold putK; split <;> simp
  rw [foldl_cons, length_cons]
  omega
theorem PY {a : Addr} {xs : List V} (I : Inv X pins σ H s) (h : TupAt X.K H a xs) : ∀ o, s.heap.get? a = some o -> o.dict = none := by
 rcases h with h | ⟨o, its, n, h1, _, h2, _⟩
 ·obtain ⟨_, _, _, _, h⟩ := I.bN a _ h
  exact h
 ·intro o' e
  rw [I.A7 a o h1] at e
  cases e
  exact h2
theorem IB (K : Frag) (hK : X.K = K := by rfl) (hc : X.calm = true := by rfl) : b8 X (.type "dict") (F7 K) := by
 intro pins s σ H xs us Q I r ⟨t, ys, kvs, e, ht, hp, hz, q⟩
 subst e
 obtain ⟨u, rfl, rx⟩ := vals1 r
 cases rx
 obtain ⟨its, v2, tt, _⟩ := I.tuple (hK ▸ ht.sq)
 obtain ⟨ps, h1, h2, h3⟩ := pairs_at hK I hp v2
 refine oN (knd := bM X.prog X.w) (ps := ps) (by exact I.ok.hd hc) tt (PY I (hK ▸ ht)) (by rw [<- h1.length]; exact hz) h3 h2 fun h' tk dd kp => ?_
 obtain ⟨ep, da⟩ := dd.dictAt
 have hb := I.big
 refine ⟨.ref s.heap.objs.size, _, I.laid (t' := tk) (o := .dK (kvs.foldl (fun d z => putK d z.1 z.2) []) ep) kp (le_refl _) ⟨?_, ?_, _, BK h1 .nil, da⟩, rfl, q _ ep (I.bN.fresh (le_refl _))⟩
 ·have := vM kvs []
  rw [length_nil] at this
  omega
 ·exact beq_eq_false_iff_ne.mpr (ne_of_gt hb)
noncomputable def m9 : List PV -> Option (List (Key × PV))
 | [] => some []
 | .tup [k, v] :: ps => bO (keyOf k) fun k => bO (m9 ps) fun r => some ((k, v) :: r)
 | _ => none
noncomputable def lB : List PV -> Option Bv
 | [.tup ps] => bO (m9 ps) fun kvs => aU (decide (kvs.length < 1000000)) (some (.new (.bG (kvs.foldl (fun d z => eU d z.1 z.2) []))))
 | _ => none
theorem p9 : ∀ {ps : List PV} {kps : List (Key × PV)} {vs : List V}, m9 ps = some kps -> aX K Z H ps vs -> ∃ kvs, sF K H vs kvs /\ dF K Z H kps kvs
 | [], _, _, h, .nil => by cases h; exact ⟨[], .nil, rfl, .nil⟩
 | p :: ps, kps, _, h, .cons hv hr => by
  unfold m9 at h
  split at h
  ·rename_i e; cases e
  ·rename_i k v qs e
   cases e
   obtain ⟨key, hk, h⟩ := aE h
   obtain ⟨r, hr', h⟩ := aE h
   cases h
   obtain ⟨kvs, h1, h2⟩ := p9 hr' hr
   cases hv with
   | tup ht hl =>
    cases hl with
    | cons a1 hl =>
     cases hl with
     | cons a2 hl =>
      cases hl
      have e1 := Red.key (.rep a1) hk
      subst e1
      exact ⟨_, .cons ht.sq h1, h2.cons a2⟩
  ·cases h
theorem vT : ∀ {kps d : List (Key × PV)} {kvs d' : List (Key × V)}, dF K Z H kps kvs -> dF K Z H d d' -> dF K Z H (kps.foldl (fun d z => eU d z.1 z.2) d) (kvs.foldl (fun d z => putK d z.1 z.2) d')
 | [], _, _, _, h, hd => by
  rcases h.cases with ⟨_, rfl⟩ | ⟨_, _, _, _, _, e, _⟩
  ·exact hd
  ·cases e
 | x :: kps, _, _, _, h, hd => by
  rcases h.cases with ⟨e, _⟩ | ⟨k, p, v, r, s, e, rfl, hp, hr⟩
  ·cases e
  ·cases e
   rw [foldl_cons, foldl_cons]
   exact vT hr (hd.put k hp)
theorem xE : fZ K (F7 K) lB := by
 intro Z H vs ps b Q hp h k
 unfold lB at h
 split at h
 ·obtain ⟨kps, g, h⟩ := aE h
  obtain ⟨c, h⟩ := aJ h
  cases h
  obtain ⟨v, rfl, hv⟩ := hp.one
  obtain ⟨a, ys, rfl, ha, ra⟩ := hv.tup
  obtain ⟨kvs, h1, h2⟩ := p9 g ra
  have hl : kps.length = kvs.length := by have := congrArg List.length h2.1; simpa using this.symm
  refine ⟨a, ys, kvs, rfl, ha, h1, ?_, fun p ep hl' => ?_⟩
  ·rw [<- hl]; exact le_of_lt (fL c)
  ·have hf := vT h2 (d := []) (d' := []) ⟨rfl, .nil⟩
   exact k _ _ (aT.upd hl') ⟨p, rfl, hl', .bG aQ hf.1 (hf.2.aH (.new (aT.upd hl') hl'))⟩
 ·cases h
end
end Mr
namespace My
open PySem L2 Mr
variable {hs ks : Hl} {a b c d j k m : Int} {claimed held rows : List (Key × PV)} {ns rs : List Int} {ls qs : List Let} {xs : List PV} {ss : List Str} {i n : Nat} {o : Option Str} {Q : PV × List PV -> Prop} {l : PySem.W.OpenLaw} {x : Str} {f : Str -> PV} {α β : Type} {t : jF}
noncomputable def qT : FS := (a8 (cD 1 (aZ dE (aC 0) (fC (.int 0))))
  (a8 (cD 2 (aZ dE (aC 0) (fC (.int 3))))
  (cW (lJ qS (aB (fE (GZ (aB (aC 2) aK)) 2 [1, 2] [] (kE 2 (cF (aS 0) (cF (aS 1) kO))) (GQ (bP (aZ MS (aC 1) (aC 2))) (bP (aZ (xV true) (aC 1) (O1 N7 (aC 3) (nP (aZ gM (aC 0) (fC (.int 1)))) gQ)))) (aC 1)) aK)))))
noncomputable def iK : FN := oW [.b] 2 false qT
noncomputable def k8 : FS := (a8 (jQ 1 xG)
  (a8 (m4 (yF (aC 0)) (aS 2) (oQ (bP (aZ (xV true) (aZ dE (aC 2) (fC (.int 0))) (aC 1))) (oG 1 (aZ dE (aC 2) (fC (.int 0))) (aC 2)) cU))
  (cW (zD (aC 1)))))
noncomputable def fH : FN := oW [.b] 2 false k8
noncomputable def iP : FS := (a8 (oQ (bP (aZ (xV false) (aC 3) (aC 0))) (cW (cR (aB (aZ dE (aC 0) (aC 3)) (aB (cR (aB (fC (.str "hand")) aK)) aK)))) cU)
  (a8 (oQ (bP (aZ (xV false) (aC 3) (aC 1))) (a8 (cD 4 (aZ dE (aC 1) (aC 3)))
  (cW (LU (PN (aC 4)) (cR (aB (aZ dE (aC 4) (T6 JN (fC (.int 1)))) (aB (cR (aB (fC (.str "own")) aK)) aK))) (cR (aB (fC .bF) (aB (cR (aB (fC (.str "first")) aK)) aK)))))) cU)
  (a8 (oQ (bP (aZ (xV false) (aC 3) (aC 2))) (a8 (FY (lJ rS (aB (aZ dE (aC 2) (aC 3)) aK)) (kE 3 (cF (aS 5) (cF (aS 6) (cF (aS 7) kO)))))
  (cW (cR (aB (aZ dE (aZ dE (aC 1) (aC 6)) (aZ Mr.qZ (aC 7) (fC (.int 1)))) (aB (cR (aB (fC (.str "told")) (aB (aC 6) (aB (aC 7) aK)))) aK))))) cU)
  (cW (cR (aB (fC .bF) (aB (cR (aB (fC (.str "first")) aK)) aK)))))))
noncomputable def cI : FN := oW [.b, .b, .b, .b] 4 false iP
noncomputable def lF : FS := (a8 (cD 2 (LU (bP (aZ VY (aC 1) (lJ qC (aB (aC 0) aK)))) (aZ dE (aC 0) (aC 1)) (fC (.int 0))))
  (a8 (cD 3 (LU (bP (aZ VX (aC 2) (aZ oO (fC (.int 10)) (fC (.int 18))))) (aZ kB (aC 2) (aZ nU (aZ nU (aZ nU (aZ oO (fC (.int 10)) (fC (.int 60))) (aZ oO (fC (.int 10)) (fC (.int 60)))) (aZ oO (fC (.int 10)) (fC (.int 60)))) (aZ oO (fC (.int 10)) (fC (.int 60))))) (fC (.int 0))))
  (cW (eQ (aB (aC 3) (aB (aZ kB (aZ nD (aZ gM (aZ gM (aZ kB (aC 2) (fC (.int 2305843009213693951))) (aZ nD (aZ nD (fC (.int 7919)) (aC 1)) (aC 1))) (fC (.int 3))) (fC (.int 48271))) (fC (.int 2305843009213693921))) (aB (fC (.int 0)) aK)))))))
noncomputable def fG : FN := oW [.b, .b] 2 true lF
noncomputable def k7 : FS := (a8 (oQ (bP (aZ VR (aZ dE (aC 0) (fC (.int 0))) (fC (.int 0)))) (a8 (cD 2 (aZ kB (aZ dE (aC 0) (fC (.int 0))) (aC 1)))
  (a8 (uB 0 (fC (.int 0)) (aZ GY (aZ dE (aC 0) (fC (.int 0))) (aC 1)))
  (cW (aC 2)))) cU)
  (a8 (uB 0 (fC (.int 2)) (aZ gM (aZ dE (aC 0) (fC (.int 2))) (fC (.int 1))))
  (a8 (cD 3 (aZ kB (aZ nD (aZ gM (aZ gM (aZ dE (aC 0) (fC (.int 1))) (aZ nD (aZ nD (fC (.int 65537)) (aZ dE (aC 0) (fC (.int 2)))) (aZ dE (aC 0) (fC (.int 2))))) (fC (.int 11))) (fC (.int 48271))) (fC (.int 2305843009213693921))))
  (a8 (cD 3 (aZ kB (aZ nD (aC 3) (aZ gM (aZ kB (aC 3) (fC (.int 1000003))) (aZ nD (fC (.int 99991)) (aZ dE (aC 0) (fC (.int 2)))))) (fC (.int 2305843009213693907))))
  (cW (aZ kB (aZ gM (aZ GY (aC 3) (fC (.int 97))) (aZ GY (aC 3) (fC (.int 1000033)))) (aC 1)))))))
noncomputable def aM : FN := oW [.m, .b] 2 false k7
noncomputable def kZ : FS := (a8 (jQ 2 (eQ aK))
  (a8 (m4 (yF (aC 0)) (kE 4 (cF (aS 3) (cF (aS 4) (cF (aS 5) (cF (aS 6) kO))))) (a8 (cD 7 (cR (aB (aZ dE (aC 1) (aC 3)) (aB (aC 4) (aB (aC 5) (aB (lJ qS (aB (fE (yF (aC 6)) 1 [1] [] (aS 0) eP (aZ dE (aC 1) (aC 0))) aK)) aK))))))
  (oQ (bP (aZ (xV true) (aC 7) (aC 2))) (yP 2 (aC 7)) cU)))
  (cW (lJ qS (aB (lJ u7 (aB (aC 2) aK)) aK)))))
noncomputable def gP : FN := oW [.b, .b] 6 false kZ
noncomputable def i7 : FS := (a8 (m4 (oH (aB (aZ gM (lJ E3 (aB (aC 0) aK)) (fC (.int 1))) aK)) (aS 3) (a8 (oQ (S9 (bP (aZ (XQ false) (aC 1) (fC .bF))) (bP (aZ DE (aC 1) (aC 2)))) (cW (aZ DE (aC 1) (aC 2))) cU)
  (cD 1 (E7 (aC 0) (aC 1)))))
  (cW (fC (.bl false))))
noncomputable def fB : FN := oW [.b, .b, .b] 1 false i7
noncomputable def mW : FS := (a8 (cD 1 (aZ dE (aC 0) (fC (.int 3))))
  (cW (fE (oH (aB (lJ qC (aB (aC 1) aK)) aK)) 1 [1, 0] [] (aS 0) (GQ (bP (aZ MS (aZ dE (aC 1) (aC 0)) (aZ dE (aC 2) (fC (.int 0))))) (bP (aZ (xV true) (aZ dE (aC 1) (aC 0)) (O1 N7 (aC 1) (nP (aZ gM (aC 0) (fC (.int 1)))) gQ)))) (aZ dE (aC 1) (aC 0)))))
noncomputable def eC : FN := oW [.b] 1 false mW
noncomputable def gF : FS := (a8 (jQ 1 xG)
  (a8 (m4 (yF (aC 0)) (aS 2) (oQ (bP (aZ (xV true) (aZ dE (aC 2) (fC (.int 0))) (aC 1))) (oG 1 (aZ dE (aC 2) (fC (.int 0))) (aC 2)) cU))
  (cW (zX (aC 1)))))
noncomputable def cS : FN := oW [.b] 2 false gF
noncomputable def mX : FS := (cW (kS (yF (a9 [.b] false fH (aB (aC 0) aK))) 1 [] [] (aS 0) eP (aZ dE (aC 0) (fC (.int 0))) (a9 [.b] false iK (aB (aC 0) aK))))
noncomputable def iT : FN := oW [.b] 0 false mX
noncomputable def jK : FS := (sX 1 (JF (WN (a9 [.b] false fH (aB (aC 0) aK))) (aS 2) (JF (SH (aB (a9 [.b] false iK (aB (aC 2) aK)) aK)) (kE 2 (cF (aS 3) (cF (aS 4) kO))) (WQ (bP (aZ VR (aC 3) (fC (.int 0)))) (QZ (aC 4) (cR (aB (aZ dE (aC 2) (fC (.int 1))) (aB (aZ dE (aC 2) (fC (.int 0))) (aB (aC 3) aK))))) IS))))
noncomputable def fV : FN := oW [.b] 4 false jK
noncomputable def jG : FS := (a8 (jQ 2 (eQ aK))
  (a8 (m4 (oH (aB (aC 1) aK)) (aS 3) (a8 (cD 4 (aZ dE (eQ (aB (fC (.int 1)) (aB (fC (.int 1)) (aB (fC (.int 2)) (aB (fC (.int 3)) (aB (fC (.int 12)) (aB (aZ gM (fC (.int 1)) (aZ kB (aC 3) (fC (.int 12)))) aK))))))) (a9 [.m, .b] false aM (aB (aC 0) (aB (fC (.int 6)) aK)))))
  (a8 (cD 5 (V8 wD (fC (.str "")) (aB (fE (oH (aB (aC 4) aK)) 1 [0] [(0, 1)] (aS 0) eP (aZ dE (fC (.str "abcdefghijklmnopqrstuvwxyz0123456789")) (a9 [.m, .b] false aM (aB (aC 1) (aB (fC (.int 36)) aK))))) aK)))
  (a8 (oQ (bP (aZ (xV false) (aC 5) (aC 2))) (cD 5 (aZ dE (fE (oH (aB (aZ gM (lJ qC (aB (aC 2) aK)) (fC (.int 1))) aK)) 1 [2] [] (aS 0) (bP (aZ (xV true) (lJ x8 (aB (aC 0) aK)) (aC 1))) (lJ x8 (aB (aC 0) aK))) (fC (.int 0)))) cU)
  (yP 2 (aC 5))))))
  (cW (aC 2))))
noncomputable def fT : FN := oW [.m, .b] 4 false jG
noncomputable def jC : FS := (a8 (cD 2 (a9 [.m, .b] false aM (aB (aC 0) (aB (aC 1) aK))))
  (a8 (cD 3 (a9 [.m, .b] false aM (aB (aC 0) (aB (fC (.int 4)) aK))))
  (a8 (cD 4 (a9 [.m, .b] false aM (aB (aC 0) (aB (aZ dE (eQ (aB (fC (.int 1)) (aB (fC (.int 3)) (aB (fC (.int 2)) (aB (fC (.int 100000000)) aK))))) (aC 3)) aK))))
  (a8 (cD 5 (fE (oH (aB (aZ dE (eQ (aB (fC (.int 0)) (aB (fC (.int 1)) (aB (fC (.int 1)) (aB (fC (.int 2)) (aB (fC (.int 3)) (aB (fC (.int 9)) aK))))))) (a9 [.m, .b] false aM (aB (aC 0) (aB (fC (.int 6)) aK)))) aK)) 1 [0, 1] [(0, 1)] (aS 0) eP (a9 [.m, .b] false aM (aB (aC 1) (aB (aC 2) aK)))))
  (a8 (oQ (bP (aZ DE (a9 [.m, .b] false aM (aB (aC 0) (aB (fC (.int 4)) aK))) (fC (.int 0)))) (cD 5 (aZ gM (O1 N7 (aC 5) gQ (nP (fC (.int 8)))) (eQ (aB (aZ kB (aZ gM (aC 2) (fC (.int 1))) (aC 1)) aK)))) cU)
  (cW (cR (aB (aC 2) (aB (aZ dE (eQ (aB (aC 4) (aB (aZ Mr.qZ (fC (.int 99999999)) (aC 4)) aK))) (lJ wX (aB (aZ DE (aC 3) (fC (.int 2))) aK))) (aB (aZ dE (eQ (aB (fC (.str "")) (aB (fC (.str "walls")) (aB (fC (.str "Re: walls")) aK)))) (a9 [.m, .b] false aM (aB (aC 0) (aB (fC (.int 3)) aK)))) (aB (aC 5) aK)))))))))))
noncomputable def cV : FN := oW [.m, .b] 4 false jC
noncomputable def jI : FS := (a8 (jQ 3 xG)
  (a8 (m4 (oH (aB (aC 2) aK)) (aS 4) (a8 (cD 5 (aZ dE (aC 1) (a9 [.m, .b] false aM (aB (aC 0) (aB (lJ qC (aB (aC 1) aK)) aK)))))
  (a8 (cD 6 (aZ dE (aC 1) (a9 [.m, .b] false aM (aB (aC 0) (aB (lJ qC (aB (aC 1) aK)) aK)))))
  (a8 (oQ (bP (aZ DE (a9 [.m, .b] false aM (aB (aC 0) (aB (fC (.int 3)) aK))) (fC (.int 0)))) (cD 6 (fC .bF)) cU)
  (oQ (GQ (bP (aZ (xV true) (aC 5) (aC 3))) (zJ (bP (a9 [.b, .b, .b] false fB (aB (aC 3) (aB (aC 6) (aB (aC 5) aK))))))) (oG 3 (aC 5) (aC 6)) cU)))))
  (cW (lJ qS (aB (AA (aC 3)) aK)))))
noncomputable def fP : FN := oW [.m, .b, .b] 4 false jI
noncomputable def nG : FS := (a8 (oQ (bP (aZ (xV false) (aC 2) (lJ lB (aB (aC 1) aK)))) (cW (cR (aB (aZ dE (lJ lB (aB (aC 1) aK)) (aC 2)) (aB (cR (aB (fC (.str "hand")) aK)) aK)))) cU)
  (a8 (cD 3 (a9 [.b] false cS (aB (aC 0) aK)))
  (a8 (cD 4 (fE (yF (aC 3)) 1 [2] [] (aS 0) (bP (aZ DE (aZ dE (aC 0) (fC (.int 0))) (aC 1))) (a9 [.b] false eC (aB (aC 0) aK))))
  (a8 (oQ (bP (aZ MS (aC 4) (eQ aK))) (cW (LU (bP (aZ MS (aZ dE (aC 4) (fC (.int 0))) (eQ aK))) (cR (aB (aZ dE (aZ dE (aC 4) (fC (.int 0))) (T6 JN (fC (.int 1)))) (aB (cR (aB (fC (.str "own")) aK)) aK))) (cR (aB (fC .bF) (aB (cR (aB (fC (.str "first")) aK)) aK))))) cU)
  (a8 (jQ 5 (eQ aK))
  (a8 (m4 (yF (aC 3)) (aS 6) (a8 (cD 7 (a9 [.b] false eC (aB (aC 6) aK)))
  (oQ (bP (aZ (xV false) (aC 2) (O1 N7 (aC 7) (nP (fC (.int 1))) gQ))) (a8 (cD 8 (o4 (aC 7) (aC 2)))
  (yP 5 (cR (aB (aZ dE (aC 6) (fC (.int 1))) (aB (aZ dE (aC 6) (fC (.int 0))) (aB (aC 8) (aB (aZ dE (aC 7) (aZ Mr.qZ (aC 8) (fC (.int 1)))) aK))))))) cU)))
  (a8 (oQ (bP (aZ DE (aC 5) (eQ aK))) (cW (cR (aB (fC .bF) (aB (cR (aB (fC (.str "first")) aK)) aK)))) cU)
  (a8 (FY (lJ rS (aB (aC 5) aK)) (kE 4 (cF (aS 9) (cF (aS 10) (cF (aS 8) (cF (aS 11) kO))))))
  (cW (cR (aB (aC 11) (aB (cR (aB (fC (.str "told")) (aB (aC 10) (aB (aC 8) aK)))) aK))))))))))))
noncomputable def jA : FN := oW [.b, .b, .b] 9 false nG
noncomputable def m6 : FS := (a8 (cD 3 (kS (yF (aC 1)) 2 [] [] (kE 2 (cF (aS 0) (cF (aS 1) kO))) eP (aC 0) (aC 1)))
  (a8 (cD 4 (a9 [.b] false iT (aB (aC 0) aK)))
  (a8 (cD 5 (a9 [.b] false fV (aB (aC 0) aK)))
  (cW (kS (yF (aC 2)) 1 [3, 4, 5] [] (aS 0) eP (aC 0) (a9 [.b, .b, .b, .b] false cI (aB (aC 1) (aB (aC 2) (aB (aC 3) (aB (aC 0) aK))))))))))
noncomputable def i8 : FN := oW [.b, .b, .b] 3 false m6
noncomputable def g8 : FS := (a8 (jQ 3 (fE (oH (aB (a9 [.m, .b] false aM (aB (aC 1) (aB (fC (.int 13)) aK))) aK)) 1 [1, 2] [(1, 1)] (aS 0) eP (a9 [.m, .b] false cV (aB (aC 1) (aB (aC 2) aK)))))
  (a8 (m4 (O6 (aB (fC (.int 1)) (aB (lJ A2 (aB (lJ qC (aB (aC 0) aK)) (aB (fC (.int 40)) aK))) aK))) (aS 4) (yP 3 (z7 cV (a9 [.b, .b] true fG (aB (aC 0) (aB (aC 4) aK))) 2)))
  (cW (aC 3))))
noncomputable def eK : FN := oW [.b, .m, .b] 2 false g8
noncomputable def pP : FS := (cW (aZ dE (a9 [.b, .b, .b] false i8 (aB (aC 0) (aB (aC 1) (aB (cR (aB (aC 2) aK)) aK)))) (aC 2)))
noncomputable def jV : FN := oW [.b, .b, .v] 0 false pP
noncomputable def jS : FS := (a8 (cD 3 (a9 [.b, .b, .v] false jV (aB (aC 0) (aB (aC 1) (aB (aC 2) aK)))))
  (a8 (oQ (S9 (zJ (bP (lJ yD (aB (aC 3) (aB (fC (.ty "tuple")) aK))))) (bP (aZ MS (aC 3) (a9 [.b, .b, .b] false jA (aB (aC 0) (aB (aC 1) (aB (aC 2) aK))))))) (cW (fC (.bl false))) cU)
  (cW (GB (lJ KG (aB (fE (yF (aZ dE (aC 3) (fC (.int 1)))) 1 [] [] (aS 0) eP (lJ yD (aB (aC 0) (aB (fC (.ty "bool")) aK)))) aK))))))
noncomputable def dI : FN := oW [.b, .b, .v] 1 false jS
noncomputable def GX : FS := (a8 (jQ 1 (a9 [.b, .b] true fG (aB (aC 0) (aB (fC (.int 0)) aK))))
  (a8 (cD 2 (aZ gM (fC (.int 1)) (a9 [.m, .b] false aM (aB (aC 1) (aB (aZ dE (eQ (aB (fC (.int 4)) (aB (fC (.int 12)) (aB (fC (.int 40)) aK)))) (a9 [.m, .b] false aM (aB (aC 1) (aB (fC (.int 3)) aK)))) aK)))))
  (a8 (cD 3 (fE (oH (aB (fC (.int 4)) aK)) 1 [1, 2] [(1, 1)] (aS 0) eP (a9 [.m, .b] false aM (aB (aC 1) (aB (aC 2) aK)))))
  (a8 (cD 4 (a9 [.m, .b] false aM (aB (aC 1) (aB (fC (.int 9)) aK))))
  (a8 (cD 5 (a9 [.b, .m, .b] false eK (aB (aC 0) (aB (aC 1) (aB (aC 2) aK)))))
  (a8 (cD 6 (a9 [.m, .b] false fT (aB (aC 1) (aB (aC 2) aK))))
  (a8 (cD 7 (a9 [.b, .b] false gP (aB (aC 5) (aB (aC 6) aK))))
  (a8 (cD 8 (a9 [.m, .b, .b] false fP (aB (aC 1) (aB (aC 6) (aB (aC 4) aK)))))
  (a8 (m4 (yF (nA (aZ gM (fE (yF (aC 3)) 1 [6] [] (aS 0) eP (aZ dE (aC 1) (aC 0))) (eQ (aB (fC (.str "nobody")) aK))))) (aS 9) (oQ (S9 (zJ (bP (a9 [.b, .b, .v] false dI (aB (aC 7) (aB (aC 8) (aB (aC 9) aK)))))) (S9 (zJ (bP (a9 [.b, .b, .v] false dI (aB (aC 7) (aB (cR aK) (aB (aC 9) aK)))))) (zJ (bP (a9 [.b, .b, .v] false dI (aB (aC 7) (aB (aC 8) (aB (aC 9) aK)))))))) (cW (fC (.bl false))) cU))
  (cW (fC (.bl true))))))))))))
noncomputable def uL : FN := oW [.b] 9 false GX
noncomputable def top (i : Nat) : Stmt := PySem.Challenge.pw_answertrees_k16_chosen.main.body.getD i (.Pass ⟨0, 0, 0, 0⟩)
noncomputable abbrev jH : Stmt := top 1
noncomputable abbrev i4 : Stmt := top 2
noncomputable abbrev iD : Stmt := top 4
noncomputable abbrev gX : Stmt := top 5
noncomputable abbrev l9 : Stmt := top 6
noncomputable abbrev fX : Stmt := top 7
noncomputable abbrev mT : Stmt := top 8
noncomputable abbrev i5 : Stmt := top 10
noncomputable abbrev i0 : Stmt := top 11
noncomputable abbrev eE : Stmt := top 12
noncomputable abbrev eN : Stmt := top 13
noncomputable abbrev dS : Stmt := top 14
noncomputable abbrev gE : Stmt := top 15
noncomputable abbrev fO : Stmt := top 16
noncomputable abbrev gU : Stmt := top 17
noncomputable abbrev iL : Stmt := top 18
noncomputable abbrev eM : Stmt := top 19
noncomputable abbrev iB : Stmt := top 20
noncomputable abbrev fF : Stmt := top 21
noncomputable abbrev sW : Stmt := top 22
structure Txt (K : Frag) (mg : Str -> Option Value) : Prop where
 eG : mg "enumerate" = none
 eX : mg "tuple" = none
 qH : mg "min" = none
 jJ : mg "len" = none
 gD : mg "sorted" = none
 cX : mg "range" = none
 qK : mg "list" = none
 sM : mg "str" = none
 w8 : mg "int" = none
 nE : mg "dict" = none
 dJ : mg "isinstance" = none
 pZ : mg "bool" = none
 wW : mg "any" = none
 vX : mg "set" = none
section
variable (P : Program) (w : World) (K : Frag) (mg : Str -> Option Value) (base : Heap)
noncomputable abbrev p8 : Prop := Cn P w K mg base "elders" jH ["letter"] 1 [.b] false iK
noncomputable abbrev kR : Prop := Cn P w K mg base "standing" i4 ["pack"] 1 [.b] false fH
noncomputable abbrev vU : Prop := Cn P w K mg base "choice" l9 ["held", "rows", "claimed", "name"] 1 [.b, .b, .b, .b] false cI
noncomputable abbrev lD : Prop := Cn P w K mg base "_law_hand" i5 ["_law_script", "_law_k"] 1 [.b, .b] true fG
noncomputable abbrev eV : Prop := Cn P w K mg base "_law_take" i0 ["_law_hand_here", "_law_many"] 1 [.m, .b] false aM
noncomputable abbrev qM : Prop := Cn P w K mg base "_law_pack" gE ["_law_letters_here", "_law_names_here"] 1 [.b, .b] false gP
noncomputable abbrev mG : Prop := Cn P w K mg base "_law_climbs" fO ["_law_held", "_law_here", "_law_name"] 1 [.b, .b, .b] false fB
noncomputable abbrev sU : Prop := Cn P w K mg base "_law_row" iL ["_law_letter_here"] 1 [.b] false eC
noncomputable abbrev jO : Prop := Cn P w K mg base "_law_standing" eM ["_law_pack_here"] 1 [.b] false cS
noncomputable abbrev tD : Prop := Cn P w K mg base "rows_of" iD ["pack"] 2 [.b] false iT
noncomputable abbrev nX : Prop := Cn P w K mg base "claims_of" gX ["pack"] 2 [.b] false fV
noncomputable abbrev nV : Prop := Cn P w K mg base "_law_names" eE ["_law_hand_here", "_law_many"] 2 [.m, .b] false fT
noncomputable abbrev lV : Prop := Cn P w K mg base "_law_letter" eN ["_law_hand_here", "_law_m"] 2 [.m, .b] false cV
noncomputable abbrev oD : Prop := Cn P w K mg base "_law_marks" gU ["_law_hand_here", "_law_names_here", "_law_many"] 2 [.m, .b, .b] false fP
noncomputable abbrev rR : Prop := Cn P w K mg base "_law_due" iB ["_law_pack_here", "_law_marks_here", "_law_name"] 2 [.b, .b, .b] false jA
noncomputable abbrev sS : Prop := Cn P w K mg base "choices" fX ["pack", "marks", "names"] 3 [.b, .b, .b] false i8
noncomputable abbrev kM : Prop := Cn P w K mg base "_law_letters" dS ["_law_script", "_law_hand_here", "_law_m"] 3 [.b, .m, .b] false eK
noncomputable abbrev xI : Prop := Cn P w K mg base "chosen" mT ["pack", "marks", "name"] 4 [.b, .b, .v] false jV
noncomputable abbrev nY : Prop := Cn P w K mg base "_law_right" fF ["_law_pack_here", "_law_marks_here", "_law_name"] 5 [.b, .b, .v] false dI
noncomputable abbrev TR : Prop := Cn P w K mg base "law" sW ["_law_script"] 6 [.b] false uL
end
section
variable {P : Program} {w : World} {K : Frag} {mg : Str -> Option Value} {base : Heap}
local macro_rules | `(tactic| walk_at "rf") => `(tactic| repeat' (first | with_reducible first | apply MU | apply J9 | apply SG | apply KD | apply KN | apply L0 | apply SR | apply G4 | apply D9 | apply IG | apply L6 | apply GK | apply C4 | apply CQ | apply HW | apply KW | apply xN | apply RM | apply GD | apply z6 | apply G9 | apply IX | apply LM | apply SV | apply MD | apply EW | apply E8 | apply DI | apply K8 | apply KI | apply QS | apply MM | apply P7 | apply NX | apply KJ | apply KR | apply D1 | apply F8 | apply MF | apply KH | apply SE | apply JD | apply PJ | apply DU | apply yO | apply FR | apply AJ | apply GU | apply MQ | apply z4 | apply IH | apply D7 | apply y4 | apply C5 | apply GC | apply F5 | apply CO | apply PH | apply NB | apply O9 | apply DG | apply zO | apply NM | apply CM | apply SS | apply GL | apply uP | apply OK | apply AL | apply OA | apply OV | apply OT | apply GR | apply F4 | apply AQ | apply FK | apply N5 | apply yR | apply OS | apply E4 | apply HX | apply AN | apply G6 | apply O0 | apply HR | apply wU | apply BH | apply OF | apply OB | apply A5 | apply AZ | apply A8 | apply xE | apply AK | apply E6 | apply F2 | first | exact OK | exact AL | exact OA | exact OV | exact OT | exact GR | exact F4 | exact AQ | exact FK | exact N5 | exact yR | exact OS | exact E4 | exact HX | exact AN | exact G6 | exact O0 | exact HR | exact wU | exact BH | exact OF | exact OB | exact A5 | exact AZ | exact A8 | exact xE | exact AK | exact E6 | exact F2 | rfl | decide))
theorem DF (T : Txt K mg) (D : Dx K mg "elders" jH ["letter"])  : p8 P w K mg base := eI D (N := ["letter", "own", "row"]) ⟨rfl, rfl, rfl, by decide +kernel, rfl, by decide +kernel, by decide +kernel⟩ rfl rfl fun S f cdv A outer s H E hr =>
 ⟨_, (aG (bC (i := 1) S.nd rfl (Or.inr rfl) (bH (fK K hr) (pv 0) aF (fun _ _ => rfl)))
   (aG (bC (i := 2) S.nd rfl (Or.inr rfl) (bH (fK K hr) (pv 0) aF (fun _ _ => rfl)))
   (aO (bQ (cH (L8 K) (by rfl) T.eX iG (aA (qN ["at", "name", "own", "row"] 2 [1, 2] ["letter", "own", "row"] (aW jH) rfl rfl rfl (AW K rfl T.eG (aA (pv 2) aD)) (by decide +kernel) (fun _ => (jX (n := 2) K rfl (bX (aV (i := 0) (show (["at", "name", "own", "row"] : List Str).Nodup by decide +kernel) rfl (Or.inl rfl)) (bX (aV (i := 1) (show (["at", "name", "own", "row"] : List Str).Nodup by decide +kernel) rfl (Or.inl rfl)) jW)))) (fun _ => (oZ (PW.pt (yU (bK (JJ K hr) (pv 1) (pv 2) (dB _)) (tQ (bK (lE K hr) (pv 1) (mI (VW K) (pv 3) (oX (bJ (kA K) (pv 0) aF)) pB) (by rfl))))))) (fun _ => (pv 1))) aD)))))), by unfold qT; walk_at "rf"⟩
theorem x6 (T : Txt K mg) (D : Dx K mg "standing" i4 ["pack"])  : kR P w K mg base := eI D (N := ["pack", "first", "letter"]) ⟨rfl, rfl, rfl, by decide +kernel, rfl, by decide +kernel, by decide +kernel⟩ rfl rfl fun S f cdv A outer s H E hr =>
 ⟨_, (aG (bC (i := 1) S.nd rfl (Or.inl rfl) l6)
   (aG (gG PassesOwn.never rfl (eW K (pv 0)) (aV (i := 2) S.nd rfl (Or.inl rfl)) (aO (eO (bK (lE K hr) (bH (fK K hr) (pv 2) aF (fun _ _ => rfl)) (pv 1) (by rfl)) (aO (tU (BJ hr) (pv 1) (bH (fK K hr) (pv 2) aF (fun _ _ => rfl)) (pv 2) rfl)) cE)))
   (aO (bQ (cH XU (by rfl) T.eX iG (aA (A3 (pv 1)) aD)))))), by unfold k8; walk_at "rf"⟩
theorem CP (T : Txt K mg) (D : Dx K mg "choice" l9 ["held", "rows", "claimed", "name"])  : vU P w K mg base := eI D (N := ["held", "rows", "claimed", "name", "row", "day", "one", "at"]) ⟨rfl, rfl, rfl, by decide +kernel, rfl, by decide +kernel, by decide +kernel⟩ rfl rfl fun S f cdv A outer s H E hr =>
 ⟨_, (aG (eO (bK (S8 K hr) (pv 3) (pv 0) (by rfl)) (aO (bQ (bW (aA (bH (fK K hr) (pv 0) (pv 3) (fun _ _ => rfl)) (aA (bW (aA dP aD)) aD))))) cE)
   (aG (eO (bK (S8 K hr) (pv 3) (pv 1) (by rfl)) (aG (bC (i := 4) S.nd rfl (Or.inl rfl) (bH (fK K hr) (pv 1) (pv 3) (fun _ _ => rfl)))
   (aO (bQ (lZ (DW K (pv 4) (fun _ => rfl)) (bW (aA (bH (fK K hr) (pv 4) (OY II aF) (fun _ _ => rfl)) (aA (bW (aA dP aD)) aD))) (bW (aA nK (aA (bW (aA dP aD)) aD))))))) cE)
   (aG (eO (bK (S8 K hr) (pv 3) (pv 2) (by rfl)) (aG (uX (cB (VE K hr) (by rfl) T.qH y6 (aA (bH (fK K hr) (pv 2) (pv 3) (fun _ _ => rfl)) aD)) (jX (n := 3) K rfl (bX (aV (i := 5) S.nd rfl (Or.inl rfl)) (bX (aV (i := 6) S.nd rfl (Or.inl rfl)) (bX (aV (i := 7) S.nd rfl (Or.inl rfl)) jW)))))
   (aO (bQ (bW (aA (bH (fK K hr) (bH (fK K hr) (pv 1) (pv 6) (fun _ _ => rfl)) (bJ yW (pv 7) aF) (fun _ _ => rfl)) (aA (bW (aA dP (aA (pv 6) (aA (pv 7) aD)))) aD)))))) cE)
   (aO (bQ (bW (aA nK (aA (bW (aA dP aD)) aD)))))))), by unfold iP; walk_at "rf"⟩
theorem vQ (T : Txt K mg) (D : Dx K mg "_law_hand" i5 ["_law_script", "_law_k"])  : lD P w K mg base := eI D (N := ["_law_script", "_law_k", "_law_cell", "_law_great"]) ⟨rfl, rfl, rfl, by decide +kernel, rfl, by decide +kernel, by decide +kernel⟩ rfl rfl fun S f cdv A outer s H E hr =>
 ⟨_, (aG (bC (i := 2) S.nd rfl (Or.inl rfl) (lZ (bK X8 (pv 1) (cB (yG K) (by rfl) T.jJ lI (aA (pv 0) aD)) (dB _)) (bH (fK K hr) (pv 0) (pv 1) (fun _ _ => rfl)) aF))
   (aG (bC (i := 3) S.nd rfl (Or.inl rfl) (lZ (bK VQ (pv 2) (bJ mH aF aF) (dB _)) (bJ g9 (pv 2) (bJ uH (bJ uH (bJ uH (bJ mH aF aF) (bJ mH aF aF)) (bJ mH aF aF)) (bJ mH aF aF))) aF))
   (aO (bQ (LJ.h (V9 (RY (ew (pv 3)) (WU (ew (bJ g9 (bJ jM (bJ (kA K) (bJ (kA K) (bJ g9 (pv 2) aF) (bJ jM (bJ jM aF (pv 1)) (pv 1))) aF) aF) aF)) (V7 (ew aF) IT))))))))), by unfold lF; walk_at "rf"⟩
theorem wJ (T : Txt K mg) (D : Dx K mg "_law_take" i0 ["_law_hand_here", "_law_many"])  : eV P w K mg base := eI D (N := ["_law_hand_here", "_law_many", "_law_digit", "_law_blent"]) ⟨rfl, rfl, rfl, by decide +kernel, rfl, by decide +kernel, by decide +kernel⟩ rfl rfl fun S f cdv A outer s H E hr =>
 ⟨_, (aG (eO (bK OG (bH (fK K hr) (pv 0) aF (fun _ _ => rfl)) aF (dB _)) (aG (bC (i := 2) S.nd rfl (Or.inl rfl) (bJ g9 (bH (fK K hr) (pv 0) aF (fun _ _ => rfl)) (pv 1)))
   (aG (uX (bJ qG (bH (fK K hr) (pv 0) aF (fun _ _ => rfl)) (pv 1)) (JV (pv 0) aF set_list))
   (aO (bQ (pv 2))))) cE)
   (aG (uX (bJ (kA K) (bH (fK K hr) (pv 0) aF (fun _ _ => rfl)) aF) (JV (pv 0) aF set_list))
   (aG (bC (i := 3) S.nd rfl (Or.inl rfl) (bJ g9 (bJ jM (bJ (kA K) (bJ (kA K) (bH (fK K hr) (pv 0) aF (fun _ _ => rfl)) (bJ jM (bJ jM aF (bH (fK K hr) (pv 0) aF (fun _ _ => rfl))) (bH (fK K hr) (pv 0) aF (fun _ _ => rfl)))) aF) aF) aF))
   (aG (bC (i := 3) S.nd rfl (Or.inl rfl) (bJ g9 (bJ jM (pv 3) (bJ (kA K) (bJ g9 (pv 3) aF) (bJ jM aF (bH (fK K hr) (pv 0) aF (fun _ _ => rfl))))) aF))
   (aO (bQ (bJ g9 (bJ (kA K) (bJ qG (pv 3) aF) (bJ qG (pv 3) aF)) (pv 1)))))))), by unfold k7; walk_at "rf"⟩
theorem wV (T : Txt K mg) (D : Dx K mg "_law_pack" gE ["_law_letters_here", "_law_names_here"])  : qM P w K mg base := eI D (N := ["_law_letters_here", "_law_names_here", "_law_pack_here", "_law_at", "_law_day", "_law_head", "_law_row_here", "_law_letter_here"]) ⟨rfl, rfl, rfl, by decide +kernel, rfl, by decide +kernel, by decide +kernel⟩ rfl rfl fun S f cdv A outer s H E hr =>
 ⟨_, (aG (bC (i := 2) S.nd rfl (Or.inl rfl) (dM aD))
   (aG (gG PassesOwn.never rfl (eW K (pv 0)) (jX (n := 4) K rfl (bX (aV (i := 3) S.nd rfl (Or.inl rfl)) (bX (aV (i := 4) S.nd rfl (Or.inl rfl)) (bX (aV (i := 5) S.nd rfl (Or.inl rfl)) (bX (aV (i := 6) S.nd rfl (Or.inl rfl)) jW))))) (aG (bC (i := 7) S.nd rfl (Or.inl rfl) (bW (aA (bH (fK K hr) (pv 1) (pv 3) (fun _ _ => rfl)) (aA (pv 4) (aA (pv 5) (aA (cH (L8 K) (by rfl) T.eX iG (aA (qN ["_law_n", "_law_names_here"] 1 [1] ["_law_letters_here", "_law_names_here", "_law_pack_here", "_law_at", "_law_day", "_law_head", "_law_row_here", "_law_letter_here"] (aW gE) rfl rfl rfl (eW K (pv 6)) (by decide +kernel) (fun _ => (aV (i := 0) (show (["_law_n", "_law_names_here"] : List Str).Nodup by decide +kernel) rfl (Or.inl rfl))) (fun _ => e8) (fun _ => (bH (fK K hr) (pv 1) (pv 0) (fun _ _ => rfl)))) aD)) aD))))))
   (aO (eO (bK (lE K hr) (pv 7) (pv 2) (by rfl)) (aO (mC (lH K plainAttrs_list PySem.F.slot_list_append PySem.F.type_list_append eR (pv 2) (aA (pv 7) aD)))) cE))))
   (aO (bQ (cH (L8 K) (by rfl) T.eX iG (aA (cB (TL K hr) (by rfl) T.gD nC (aA (pv 2) aD)) aD)))))), by unfold kZ; walk_at "rf"⟩
theorem rA (T : Txt K mg) (D : Dx K mg "_law_climbs" fO ["_law_held", "_law_here", "_law_name"])  : mG P w K mg base := eI D (N := ["_law_held", "_law_here", "_law_name", "_law_n"]) ⟨rfl, rfl, rfl, by decide +kernel, rfl, by decide +kernel, by decide +kernel⟩ rfl rfl fun S f cdv A outer s H E hr =>
 ⟨_, (aG (gG PassesOwn.never rfl (dH rfl T.cX (aA (bJ (kA K) (cB (XF K) (by rfl) T.jJ lI (aA (pv 0) aD)) aF) aD)) (aV (i := 3) S.nd rfl (Or.inl rfl)) (aG (eO (PW.pt (BN (bK SU (pv 1) nK (dB _)) (zH (bK (zA K hr) (pv 1) (pv 2) (dB _))))) (aO (bQ (AU (zA K hr) (pv 1) (pv 2) (dB _)))) cE)
   (aO (bC (i := 1) S.nd rfl (Or.inl rfl) (F6 (BJ hr) (pv 0) (pv 1) ⟨rfl, by rfl, rfl, rfl⟩)))))
   (aO (bQ BG))), by unfold i7; walk_at "rf"⟩
theorem y3 (T : Txt K mg) (D : Dx K mg "_law_row" iL ["_law_letter_here"])  : sU P w K mg base := eI D (N := ["_law_letter_here", "_law_row_here"]) ⟨rfl, rfl, rfl, by decide +kernel, rfl, by decide +kernel, by decide +kernel⟩ rfl rfl fun S f cdv A outer s H E hr =>
 ⟨_, (aG (bC (i := 1) S.nd rfl (Or.inr rfl) (bH (fK K hr) (pv 0) aF (fun _ _ => rfl)))
   (aO (bQ (qN ["_law_n", "_law_row_here", "_law_letter_here"] 1 [1, 0] ["_law_letter_here", "_law_row_here"] (aW iL) rfl rfl rfl (dH rfl T.cX (aA (cB (yG K) (by rfl) T.jJ lI (aA (pv 1) aD)) aD)) (by decide +kernel) (fun _ => (aV (i := 0) (show (["_law_n", "_law_row_here", "_law_letter_here"] : List Str).Nodup by decide +kernel) rfl (Or.inl rfl))) (fun _ => (oZ (PW.pt (yU (bK (JJ K hr) (bH (fK K hr) (pv 1) (pv 0) (fun _ _ => rfl)) (bH (fK K hr) (pv 2) aF (fun _ _ => rfl)) (dB _)) (tQ (bK (lE K hr) (bH (fK K hr) (pv 1) (pv 0) (fun _ _ => rfl)) (mI (VW K) (pv 1) (oX (bJ (kA K) (pv 0) aF)) pB) (by rfl))))))) (fun _ => (bH (fK K hr) (pv 1) (pv 0) (fun _ _ => rfl))))))), by unfold mW; walk_at "rf"⟩
theorem oU (T : Txt K mg) (D : Dx K mg "_law_standing" eM ["_law_pack_here"])  : jO P w K mg base := eI D (N := ["_law_pack_here", "_law_found", "_law_letter_here"]) ⟨rfl, rfl, rfl, by decide +kernel, rfl, by decide +kernel, by decide +kernel⟩ rfl rfl fun S f cdv A outer s H E hr =>
 ⟨_, (aG (bC (i := 1) S.nd rfl (Or.inl rfl) l6)
   (aG (gG PassesOwn.never rfl (eW K (pv 0)) (aV (i := 2) S.nd rfl (Or.inl rfl)) (aO (eO (bK (lE K hr) (bH (fK K hr) (pv 2) aF (fun _ _ => rfl)) (pv 1) (by rfl)) (aO (tU (BJ hr) (pv 1) (bH (fK K hr) (pv 2) aF (fun _ _ => rfl)) (pv 2) rfl)) cE)))
   (aO (bQ (cH WW (by rfl) T.qK J8 (aA (A3 (pv 1)) aD)))))), by unfold gF; walk_at "rf"⟩
theorem zC (T : Txt K mg) (D : Dx K mg "rows_of" iD ["pack"]) (G_elders : p8 P w K mg base) (G_standing : kR P w K mg base) : tD P w K mg base := eI D (N := ["pack"]) ⟨rfl, rfl, rfl, by decide +kernel, rfl, by decide +kernel, by decide +kernel⟩ rfl rfl fun S f cdv A outer s H E hr =>
 ⟨_, (aO (bQ (ES ["letter"] 1 [] ["pack"] (aW iD) rfl rfl rfl (eW K (bA G_standing hr (by decide) rfl (aA (pv 0) aD))) (by decide +kernel) (fun _ => (aV (i := 0) (show (["letter"] : List Str).Nodup by decide +kernel) rfl (Or.inl rfl))) (fun _ => e8) (fun _ => (bH (fK K hr) (pv 0) aF (fun _ _ => rfl))) (fun _ => (bA G_elders hr (by decide) rfl (aA (pv 0) aD)))))), by unfold mX; walk_at "rf"⟩
theorem uE (T : Txt K mg) (D : Dx K mg "claims_of" gX ["pack"]) (G_standing : kR P w K mg base) (G_elders : p8 P w K mg base) : nX P w K mg base := eI D (N := ["pack", "found", "letter", "at", "name"]) ⟨rfl, rfl, rfl, by decide +kernel, rfl, by decide +kernel, by decide +kernel⟩ rfl rfl fun S f cdv A outer s H E hr =>
 ⟨_, (aG (bC (i := 1) S.nd rfl (Or.inl rfl) l6)
   (aG (gG PassesOwn.never rfl (eW K (bA G_standing hr (by decide) rfl (aA (pv 0) aD))) (aV (i := 2) S.nd rfl (Or.inl rfl)) (aO (gG PassesOwn.never rfl (AW K rfl T.eG (aA (bA G_elders hr (by decide) rfl (aA (pv 2) aD)) aD)) (jX (n := 2) K rfl (bX (aV (i := 3) S.nd rfl (Or.inl rfl)) (bX (aV (i := 4) S.nd rfl (Or.inl rfl)) jW))) (aO (eO (bK OG (pv 3) aF (dB _)) (aO (mC (lH K plainAttrs_list PySem.F.slot_list_append PySem.F.type_list_append eR (yS (pv 1) (pv 4) (dM aD) ⟨rfl, by rfl, rfl, rfl⟩) (aA (bW (aA (bH (fK K hr) (pv 2) aF (fun _ _ => rfl)) (aA (bH (fK K hr) (pv 2) aF (fun _ _ => rfl)) (aA (pv 3) aD)))) aD)))) cE)))))
   (aO (bQ (pv 1))))), by unfold jK; walk_at "rf"⟩
theorem vD (T : Txt K mg) (D : Dx K mg "_law_names" eE ["_law_hand_here", "_law_many"]) (G_law_take : eV P w K mg base) : nV P w K mg base := eI D (N := ["_law_hand_here", "_law_many", "_law_found", "_law_k", "_law_size", "_law_name"]) ⟨rfl, rfl, rfl, by decide +kernel, rfl, by decide +kernel, by decide +kernel⟩ rfl rfl fun S f cdv A outer s H E hr =>
 ⟨_, (aG (bC (i := 2) S.nd rfl (Or.inr rfl) (dM aD))
   (aG (gG PassesOwn.never rfl (dH rfl T.cX (aA (pv 1) aD)) (aV (i := 3) S.nd rfl (Or.inl rfl)) (aG (bC (i := 4) S.nd rfl (Or.inl rfl) (bH (fK K hr) (dM (aA aF (aA aF (aA aF (aA aF (aA aF (aA (bJ (kA K) aF (bJ g9 (pv 3) aF)) aD))))))) (bA G_law_take hr (by decide) rfl (aA (pv 0) (aA aF aD))) (fun _ _ => rfl)))
   (aG (bC (i := 5) S.nd rfl (Or.inl rfl) (lH K PySem.F.plainAttrs_str PySem.F.slot_str_join PySem.F.type_str_join (UJ K) dP (aA (qN ["_law_n", "_law_hand_here"] 1 [0] ["_law_hand_here", "_law_many", "_law_found", "_law_k", "_law_size", "_law_name"] (aW eE) rfl rfl rfl (dH rfl T.cX (aA (pv 4) aD)) (by decide +kernel) (fun _ => (aV (i := 0) (show (["_law_n", "_law_hand_here"] : List Str).Nodup by decide +kernel) rfl (Or.inl rfl))) (fun _ => e8) (fun _ => (bH (fK K hr) dP (bA G_law_take hr (by decide) rfl (aA (pv 1) (aA aF aD))) (fun _ _ => rfl)))) aD)))
   (aG (eO (bK (S8 K hr) (pv 5) (pv 2) (by rfl)) (aO (bC (i := 5) S.nd rfl (Or.inl rfl) (bH (fK K hr) (qN ["_law_n", "_law_found"] 1 [2] ["_law_hand_here", "_law_many", "_law_found", "_law_k", "_law_size", "_law_name"] (aW eE) rfl rfl rfl (dH rfl T.cX (aA (bJ (kA K) (cB (yG K) (by rfl) T.jJ lI (aA (pv 2) aD)) aF) aD)) (by decide +kernel) (fun _ => (aV (i := 0) (show (["_law_n", "_law_found"] : List Str).Nodup by decide +kernel) rfl (Or.inl rfl))) (fun _ => (oZ (bK (lE K hr) (cH l7 (by rfl) T.sM HK (aA (pv 0) aD)) (pv 1) (by rfl)))) (fun _ => (cH l7 (by rfl) T.sM HK (aA (pv 0) aD)))) aF (fun _ _ => rfl)))) cE)
   (aO (mC (lH K plainAttrs_list PySem.F.slot_list_append PySem.F.type_list_append eR (pv 2) (aA (pv 5) aD))))))))
   (aO (bQ (pv 2))))), by unfold jG; walk_at "rf"⟩
theorem rL (T : Txt K mg) (D : Dx K mg "_law_letter" eN ["_law_hand_here", "_law_m"]) (G_law_take : eV P w K mg base) : lV P w K mg base := eI D (N := ["_law_hand_here", "_law_m", "_law_at", "_law_kind", "_law_day", "_law_row_here"]) ⟨rfl, rfl, rfl, by decide +kernel, rfl, by decide +kernel, by decide +kernel⟩ rfl rfl fun S f cdv A outer s H E hr =>
 ⟨_, (aG (bC (i := 2) S.nd rfl (Or.inl rfl) (bA G_law_take hr (by decide) rfl (aA (pv 0) (aA (pv 1) aD))))
   (aG (bC (i := 3) S.nd rfl (Or.inl rfl) (bA G_law_take hr (by decide) rfl (aA (pv 0) (aA aF aD))))
   (aG (bC (i := 4) S.nd rfl (Or.inl rfl) (bA G_law_take hr (by decide) rfl (aA (pv 0) (aA (bH (fK K hr) (dM (aA aF (aA aF (aA aF (aA aF aD))))) (pv 3) (fun _ _ => rfl)) aD))))
   (aG (lN (i := 5) ["_law_n", "_law_hand_here", "_law_m"] 1 [0, 1] ["_law_hand_here", "_law_m", "_law_at", "_law_kind", "_law_day", "_law_row_here"] (aW eN) rfl rfl rfl S.nd rfl rfl (dH rfl T.cX (aA (bH (fK K hr) (dM (aA aF (aA aF (aA aF (aA aF (aA aF (aA aF aD))))))) (bA G_law_take hr (by decide) rfl (aA (pv 0) (aA aF aD))) (fun _ _ => rfl)) aD)) (by decide +kernel) (fun _ => (aV (i := 0) (show (["_law_n", "_law_hand_here", "_law_m"] : List Str).Nodup by decide +kernel) rfl (Or.inl rfl))) (fun _ => e8) (fun _ => (bA G_law_take hr (by decide) rfl (aA (pv 1) (aA (pv 2) aD)))))
   (aG (eO (bK (zA K hr) (bA G_law_take hr (by decide) rfl (aA (pv 0) (aA aF aD))) aF (dB _)) (aO (bC (i := 5) S.nd rfl (Or.inl rfl) (bJ (kA K) (mI (VW K) (pv 5) pB (oX aF)) (dM (aA (bJ g9 (bJ (kA K) (pv 2) aF) (pv 1)) aD))))) cE)
   (aO (bQ (LJ.h (WC (RY (ew (pv 2)) (TU (ew (bH (fK K hr) (dM (aA (pv 4) (aA (bJ yW aF (pv 4)) aD))) (cH DK (by rfl) T.w8 Q8 (aA (AU (zA K hr) (pv 3) aF (dB _)) aD)) (fun _ _ => rfl))) (TU (ew (bH (fK K hr) (dM (aA dP (aA dP (aA dP aD)))) (bA G_law_take hr (by decide) rfl (aA (pv 0) (aA aF aD))) (fun _ _ => rfl))) (RY (ew (pv 5)) IT))))))))))))), by unfold jC; walk_at "rf"⟩
theorem tV (T : Txt K mg) (D : Dx K mg "_law_marks" gU ["_law_hand_here", "_law_names_here", "_law_many"]) (G_law_take : eV P w K mg base) (G_law_climbs : mG P w K mg base) : oD P w K mg base := eI D (N := ["_law_hand_here", "_law_names_here", "_law_many", "_law_held", "_law_n", "_law_name", "_law_elder"]) ⟨rfl, rfl, rfl, by decide +kernel, rfl, by decide +kernel, by decide +kernel⟩ rfl rfl fun S f cdv A outer s H E hr =>
 ⟨_, (aG (bC (i := 3) S.nd rfl (Or.inl rfl) l6)
   (aG (gG PassesOwn.never rfl (dH rfl T.cX (aA (pv 2) aD)) (aV (i := 4) S.nd rfl (Or.inl rfl)) (aG (bC (i := 5) S.nd rfl (Or.inl rfl) (bH (fK K hr) (pv 1) (bA G_law_take hr (by decide) rfl (aA (pv 0) (aA (cB (yG K) (by rfl) T.jJ lI (aA (pv 1) aD)) aD))) (fun _ _ => rfl)))
   (aG (bC (i := 6) S.nd rfl (Or.inl rfl) (bH (fK K hr) (pv 1) (bA G_law_take hr (by decide) rfl (aA (pv 0) (aA (cB (yG K) (by rfl) T.jJ lI (aA (pv 1) aD)) aD))) (fun _ _ => rfl)))
   (aG (eO (bK (zA K hr) (bA G_law_take hr (by decide) rfl (aA (pv 0) (aA aF aD))) aF (dB _)) (aO (bC (i := 6) S.nd rfl (Or.inl rfl) nK)) cE)
   (aO (eO (PW.pt (yU (bK (lE K hr) (pv 5) (pv 3) (by rfl)) (tQ (pW (pQ (bA G_law_climbs hr (by decide) rfl (aA (pv 3) (aA (pv 6) (aA (pv 5) aD))))))))) (aO (tU (BJ hr) (pv 3) (pv 5) (pv 6) rfl)) cE))))))
   (aO (bQ (cH (L8 K) (by rfl) T.eX iG (aA (cB (sortI K hr) (by rfl) T.gD nC (aA (GV (pv 3)) aD)) aD)))))), by unfold jI; walk_at "rf"⟩
theorem yZ (T : Txt K mg) (D : Dx K mg "_law_due" iB ["_law_pack_here", "_law_marks_here", "_law_name"]) (G_law_standing : jO P w K mg base) (G_law_row : sU P w K mg base) : rR P w K mg base := eI D (N := ["_law_pack_here", "_law_marks_here", "_law_name", "_law_letters_here", "_law_own", "_law_told", "_law_letter_here", "_law_row_here", "_law_at", "_law_day", "_law_one", "_law_elder"]) ⟨rfl, rfl, rfl, by decide +kernel, rfl, by decide +kernel, by decide +kernel⟩ rfl rfl fun S f cdv A outer s H E hr =>
 ⟨_, (aG (eO (bK (S8 K hr) (pv 2) (cH (IB K) (by rfl) T.nE AR (aA (pv 1) aD)) (by rfl)) (aO (bQ (bW (aA (bH (fK K hr) (cH (IB K) (by rfl) T.nE AR (aA (pv 1) aD)) (pv 2) (fun _ _ => rfl)) (aA (bW (aA dP aD)) aD))))) cE)
   (aG (bC (i := 3) S.nd rfl (Or.inl rfl) (bA G_law_standing hr (by decide) rfl (aA (pv 0) aD)))
   (aG (lN (i := 4) ["_law_letter_here", "_law_name"] 1 [2] ["_law_pack_here", "_law_marks_here", "_law_name", "_law_letters_here", "_law_own", "_law_told", "_law_letter_here", "_law_row_here", "_law_at", "_law_day", "_law_one", "_law_elder"] (aW iB) rfl rfl rfl S.nd rfl rfl (eW K (pv 3)) (by decide +kernel) (fun _ => (aV (i := 0) (show (["_law_letter_here", "_law_name"] : List Str).Nodup by decide +kernel) rfl (Or.inl rfl))) (fun _ => (oZ (bK (zA K hr) (bH (fK K hr) (pv 0) aF (fun _ _ => rfl)) (pv 1) (dB _)))) (fun _ => (bA G_law_row hr (by decide) rfl (aA (pv 0) aD))))
   (aG (eO (bK (JJ K hr) (pv 4) (dM aD) (dB _)) (aO (bQ (lZ (bK (JJ K hr) (bH (fK K hr) (pv 4) aF (fun _ _ => rfl)) (dM aD) (dB _)) (bW (aA (bH (fK K hr) (bH (fK K hr) (pv 4) aF (fun _ _ => rfl)) (OY II aF) (fun _ _ => rfl)) (aA (bW (aA dP aD)) aD))) (bW (aA nK (aA (bW (aA dP aD)) aD)))))) cE)
   (aG (bC (i := 5) S.nd rfl (Or.inl rfl) (dM aD))
   (aG (gG PassesOwn.never rfl (eW K (pv 3)) (aV (i := 6) S.nd rfl (Or.inl rfl)) (aG (bC (i := 7) S.nd rfl (Or.inl rfl) (bA G_law_row hr (by decide) rfl (aA (pv 6) aD)))
   (aO (eO (bK (S8 K hr) (pv 2) (mI (VW K) (pv 7) (oX aF) pB) (by rfl)) (aG (bC (i := 8) S.nd rfl (Or.inl rfl) (lH K plainAttrs_list PySem.F.slot_list_index PySem.F.type_list_index (DC K) (pv 7) (aA (pv 2) aD)))
   (aO (mC (lH K plainAttrs_list PySem.F.slot_list_append PySem.F.type_list_append eR (pv 5) (aA (bW (aA (bH (fK K hr) (pv 6) aF (fun _ _ => rfl)) (aA (bH (fK K hr) (pv 6) aF (fun _ _ => rfl)) (aA (pv 8) (aA (bH (fK K hr) (pv 7) (bJ yW (pv 8) aF) (fun _ _ => rfl)) aD))))) aD))))) cE))))
   (aG (eO (bK (zA K hr) (pv 5) (dM aD) (dB _)) (aO (bQ (bW (aA nK (aA (bW (aA dP aD)) aD))))) cE)
   (aG (uX (cB (VE K hr) (by rfl) T.qH y6 (aA (pv 5) aD)) (jX (n := 4) K rfl (bX (aV (i := 9) S.nd rfl (Or.inl rfl)) (bX (aV (i := 10) S.nd rfl (Or.inl rfl)) (bX (aV (i := 8) S.nd rfl (Or.inl rfl)) (bX (aV (i := 11) S.nd rfl (Or.inl rfl)) jW))))))
   (aO (bQ (bW (aA (pv 11) (aA (bW (aA dP (aA (pv 10) (aA (pv 8) aD)))) aD))))))))))))), by unfold nG; walk_at "rf"⟩
theorem zM (T : Txt K mg) (D : Dx K mg "choices" fX ["pack", "marks", "names"]) (G_rows_of : tD P w K mg base) (G_claims_of : nX P w K mg base) (G_choice : vU P w K mg base) : sS P w K mg base := eI D (N := ["pack", "marks", "names", "held", "rows", "claimed"]) ⟨rfl, rfl, rfl, by decide +kernel, rfl, by decide +kernel, by decide +kernel⟩ rfl rfl fun S f cdv A outer s H E hr =>
 ⟨_, (aG (bC (i := 3) S.nd rfl (Or.inr rfl) (ES ["name", "elder"] 2 [] ["pack", "marks", "names", "held", "rows", "claimed"] (aW fX) rfl rfl rfl (eW K (pv 1)) (by decide +kernel) (fun _ => (jX (n := 2) K rfl (bX (aV (i := 0) (show (["name", "elder"] : List Str).Nodup by decide +kernel) rfl (Or.inl rfl)) (bX (aV (i := 1) (show (["name", "elder"] : List Str).Nodup by decide +kernel) rfl (Or.inl rfl)) jW)))) (fun _ => e8) (fun _ => (pv 0)) (fun _ => (pv 1))))
   (aG (bC (i := 4) S.nd rfl (Or.inr rfl) (bA G_rows_of hr (by decide) rfl (aA (pv 0) aD)))
   (aG (bC (i := 5) S.nd rfl (Or.inr rfl) (bA G_claims_of hr (by decide) rfl (aA (pv 0) aD)))
   (aO (bQ (ES ["name", "held", "rows", "claimed"] 1 [3, 4, 5] ["pack", "marks", "names", "held", "rows", "claimed"] (aW fX) rfl rfl rfl (eW K (pv 2)) (by decide +kernel) (fun _ => (aV (i := 0) (show (["name", "held", "rows", "claimed"] : List Str).Nodup by decide +kernel) rfl (Or.inl rfl))) (fun _ => e8) (fun _ => (pv 0)) (fun _ => (bA G_choice hr (by decide) rfl (aA (pv 1) (aA (pv 2) (aA (pv 3) (aA (pv 0) aD)))))))))))), by unfold m6; walk_at "rf"⟩
theorem pV (T : Txt K mg) (D : Dx K mg "_law_letters" dS ["_law_script", "_law_hand_here", "_law_m"]) (G_law_letter : lV P w K mg base) (G_law_take : eV P w K mg base) (G_law_hand : lD P w K mg base) : kM P w K mg base := eI D (N := ["_law_script", "_law_hand_here", "_law_m", "_law_found", "_law_k"]) ⟨rfl, rfl, rfl, by decide +kernel, rfl, by decide +kernel, by decide +kernel⟩ rfl rfl fun S f cdv A outer s H E hr =>
 ⟨_, (aG (lN (i := 3) ["_law_n", "_law_hand_here", "_law_m"] 1 [1, 2] ["_law_script", "_law_hand_here", "_law_m", "_law_found", "_law_k"] (aW dS) rfl rfl rfl S.nd rfl rfl (dH rfl T.cX (aA (bA G_law_take hr (by decide) rfl (aA (pv 1) (aA aF aD))) aD)) (by decide +kernel) (fun _ => (aV (i := 0) (show (["_law_n", "_law_hand_here", "_law_m"] : List Str).Nodup by decide +kernel) rfl (Or.inl rfl))) (fun _ => e8) (fun _ => (bA G_law_letter hr (by decide) rfl (aA (pv 1) (aA (pv 2) aD)))))
   (aG (gG PassesOwn.never rfl (CS rfl T.cX (aA aF (aA (cB (CN rfl) (by rfl) T.qH y6 (aA (cB (yG K) (by rfl) T.jJ lI (aA (pv 0) aD)) (aA aF aD))) aD))) (aV (i := 4) S.nd rfl (Or.inl rfl)) (aO (mC (lH K plainAttrs_list PySem.F.slot_list_append PySem.F.type_list_append eR (pv 3) (aA (bA G_law_letter hr (by decide) rfl (aA (bA G_law_hand hr (by decide) rfl (aA (pv 0) (aA (pv 4) aD))) (aA (pv 2) aD))) aD)))))
   (aO (bQ (pv 3))))), by unfold g8; walk_at "rf"⟩
theorem C3 (T : Txt K mg) (D : Dx K mg "chosen" mT ["pack", "marks", "name"]) (G_choices : sS P w K mg base) : xI P w K mg base := eI D (N := ["pack", "marks", "name"]) ⟨rfl, rfl, rfl, by decide +kernel, rfl, by decide +kernel, by decide +kernel⟩ rfl rfl fun S f cdv A outer s H E hr =>
 ⟨_, (aO (bQ (bH (fK K hr) (bA G_choices hr (by decide) rfl (aA (pv 0) (aA (pv 1) (aA (bW (aA (pv 2) aD)) aD)))) (pv 2) (fun _ _ => rfl)))), by unfold pP; walk_at "rf"⟩
theorem uC (T : Txt K mg) (D : Dx K mg "_law_right" fF ["_law_pack_here", "_law_marks_here", "_law_name"]) (G_chosen : xI P w K mg base) (G_law_due : rR P w K mg base) : nY P w K mg base := eI D (N := ["_law_pack_here", "_law_marks_here", "_law_name", "_law_found"]) ⟨rfl, rfl, rfl, by decide +kernel, rfl, by decide +kernel, by decide +kernel⟩ rfl rfl fun S f cdv A outer s H E hr =>
 ⟨_, (aG (bC (i := 3) S.nd rfl (Or.inl rfl) (bA G_chosen hr (by decide) rfl (aA (pv 0) (aA (pv 1) (aA (pv 2) aD)))))
   (aG (eO (PW.pt (BN (pW (pQ (cB (UX K) (by rfl) T.dJ kJ (aA (pv 3) (aA (AV (v := .ty "tuple") rfl T.eX iG rfl) aD))))) (zH (bK (JJ K hr) (pv 3) (bA G_law_due hr (by decide) rfl (aA (pv 0) (aA (pv 1) (aA (pv 2) aD)))) (dB _))))) (aO (bQ BG)) cE)
   (aO (bQ (P1 (cB (V6 K rfl) (by rfl) T.wW RX (aA (qN ["_law_part"] 1 [] ["_law_pack_here", "_law_marks_here", "_law_name", "_law_found"] (aW fF) rfl rfl rfl (eW K (bH (fK K hr) (pv 3) aF (fun _ _ => rfl))) (by decide +kernel) (fun _ => (aV (i := 0) (show (["_law_part"] : List Str).Nodup by decide +kernel) rfl (Or.inl rfl))) (fun _ => e8) (fun _ => (cB (UX K) (by rfl) T.dJ kJ (aA (pv 0) (aA (AV (v := .ty "bool") rfl T.pZ KO rfl) aD))))) aD))))))), by unfold jS; walk_at "rf"⟩
theorem RF (T : Txt K mg) (D : Dx K mg "law" sW ["_law_script"]) (G_law_hand : lD P w K mg base) (G_law_take : eV P w K mg base) (G_law_letters : kM P w K mg base) (G_law_names : nV P w K mg base) (G_law_pack : qM P w K mg base) (G_law_marks : oD P w K mg base) (G_law_right : nY P w K mg base) : TR P w K mg base := eI D (N := ["_law_script", "_law_hand_here", "_law_m", "_law_asks", "_law_many", "_law_letters_here", "_law_names_here", "_law_pack_here", "_law_marks_here", "_law_name"]) ⟨rfl, rfl, rfl, by decide +kernel, rfl, by decide +kernel, by decide +kernel⟩ rfl rfl fun S f cdv A outer s H E hr =>
 ⟨_, (aG (bC (i := 1) S.nd rfl (Or.inr rfl) (bA G_law_hand hr (by decide) rfl (aA (pv 0) (aA aF aD))))
   (aG (bC (i := 2) S.nd rfl (Or.inr rfl) (bJ (kA K) aF (bA G_law_take hr (by decide) rfl (aA (pv 1) (aA (bH (fK K hr) (dM (aA aF (aA aF (aA aF aD)))) (bA G_law_take hr (by decide) rfl (aA (pv 1) (aA aF aD))) (fun _ _ => rfl)) aD)))))
   (aG (lN (i := 3) ["_law_n", "_law_hand_here", "_law_m"] 1 [1, 2] ["_law_script", "_law_hand_here", "_law_m", "_law_asks", "_law_many", "_law_letters_here", "_law_names_here", "_law_pack_here", "_law_marks_here", "_law_name"] (aW sW) rfl rfl rfl S.nd rfl rfl (dH rfl T.cX (aA aF aD)) (by decide +kernel) (fun _ => (aV (i := 0) (show (["_law_n", "_law_hand_here", "_law_m"] : List Str).Nodup by decide +kernel) rfl (Or.inl rfl))) (fun _ => e8) (fun _ => (bA G_law_take hr (by decide) rfl (aA (pv 1) (aA (pv 2) aD)))))
   (aG (bC (i := 4) S.nd rfl (Or.inl rfl) (bA G_law_take hr (by decide) rfl (aA (pv 1) (aA aF aD))))
   (aG (bC (i := 5) S.nd rfl (Or.inl rfl) (bA G_law_letters hr (by decide) rfl (aA (pv 0) (aA (pv 1) (aA (pv 2) aD)))))
   (aG (bC (i := 6) S.nd rfl (Or.inr rfl) (bA G_law_names hr (by decide) rfl (aA (pv 1) (aA (pv 2) aD))))
   (aG (bC (i := 7) S.nd rfl (Or.inl rfl) (bA G_law_pack hr (by decide) rfl (aA (pv 5) (aA (pv 6) aD))))
   (aG (bC (i := 8) S.nd rfl (Or.inl rfl) (bA G_law_marks hr (by decide) rfl (aA (pv 1) (aA (pv 6) (aA (pv 4) aD)))))
   (aG (gG PassesOwn.never rfl (eW K (cB (L7 P w) (by rfl) T.gD nC (aA (cH (WV K P w) (by rfl) T.vX P5 (aA (bJ (kA K) (qN ["_law_ask", "_law_names_here"] 1 [6] ["_law_script", "_law_hand_here", "_law_m", "_law_asks", "_law_many", "_law_letters_here", "_law_names_here", "_law_pack_here", "_law_marks_here", "_law_name"] (aW sW) rfl rfl rfl (eW K (pv 3)) (by decide +kernel) (fun _ => (aV (i := 0) (show (["_law_ask", "_law_names_here"] : List Str).Nodup by decide +kernel) rfl (Or.inl rfl))) (fun _ => e8) (fun _ => (bH (fK K hr) (pv 1) (pv 0) (fun _ _ => rfl)))) (dM (aA dP aD))) aD)) aD))) (aV (i := 9) S.nd rfl (Or.inl rfl)) (aO (eO (PW.pt (BN (pW (pQ (bA G_law_right hr (by decide) rfl (aA (pv 7) (aA (pv 8) (aA (pv 9) aD)))))) (BN (pW (pQ (bA G_law_right hr (by decide) rfl (aA (pv 7) (aA (bW aD) (aA (pv 9) aD)))))) (zH (pW (pQ (bA G_law_right hr (by decide) rfl (aA (pv 7) (aA (pv 8) (aA (pv 9) aD)))))))))) (aO (bQ BG)) cE)))
   (aO (bQ BG))))))))))), by unfold GX; walk_at "rf"⟩
end
section
open PySem L2 Mr
theorem DJ {fa fb : FE} {e : En} : o4 fa fb e = bE (fa e) fun x e1 => bO (x.weak.get e1) fun p1 => match p1 with
 | .lst _ => bE (fb e1) fun y e2 => bO (x.weak.get e2) fun p => bO (y.weak.get e2) fun q => bO (mK p [q]) fun b => some (b, e2)
 | _ => none := rfl
end
local macro_rules | `(tactic| walk_at "wp") => `(tactic| simp only [SW, iI, iJ, b9, l4, dW, wp_seq, wp_call, HS, M3, WY, XG, LY, QY, XC, UZ, T7, R1, L4, UU, T2, QF, P6, NU, RH, VB, PB, MT, LI, UC, EE, KS, UT, LW, R3, UM, QX, KP, QO, IY, ND, IM, LQ, JM, LN, RR, U8, QQ, QN, K1, RS, M9, AG, qU, IV, j8, AB, List.replicate, List.cons_append, List.nil_append, rel, fM, putL, getL, DT, yT, bS, lG, Mr.resB, kK, kT, tX, uI, Bv.weak, Bv.get, Bv.put, rd, Sl.pv, ownAt, cA, SY, VJ, nM, V5, W7, W9, XO, WH, W6, XB, WL, WK, WA, VV, V2, at2, X9, dE, Mr.qZ, nD, GY, kB, oO, JN, gM, FH, GH, F0, gI, QW, DE, MS, xV, RC, RU, VY, VR, VX, IW, XQ, isNone, N7, qC, qS, A2, wX, x8, yD, kdOf, EZ, KG, QE, fW, IK, P4, QM, uK, Q3, PZ, LF, NF, zW, List.getElem?_cons_zero, List.getElem?_cons_succ, List.set_cons_zero, List.set_cons_succ, List.zipIdx_cons, List.zipIdx_nil, map_cons, map_nil, all_nil, all_cons, List.contains_nil, List.contains_cons, List.any_nil, any_cons, nodup_cons, nodup_nil, not_mem_nil, mem_cons, not_false_eq_true, and_true, true_and, decide_true, decide_false, Bool.and_self, Bool.and_true, Bool.true_and, Bool.not_true, Bool.not_false, if_true, if_false, ite_true, ite_false, Option.or_some, none_or, Option.some_or, or_none, decide_eq_true_eq, decide_eq_false_iff_not, and_eq_true, reduceCtorEq, false_eq_true, length_cons, length_nil, Nat.reduceAdd, Nat.reduceLT, Int.reduceLT, Int.reduceLE, PV.int.injEq, PV.str.injEq, PV.bl.injEq, Option.some.injEq, beq_self_eq_true, Bool.or_false, Bool.or_true, Bool.true_or, Bool.false_or, Bool.false_and, Bool.and_false, Nat.reduceBEq, length_map, length_range, Int.reduceToNat, and_self, true_implies, forall_const, Int.reduceAdd, Int.reduceNeg, IZ, FL, nU, P2, keyOf, HB, getD_none, Option.getD_some, LP, NA, E1, xF, NP, EX, E3, A0, rS, M6, NH, VP, NV, T5, UY, SQ, S1, C2, mK, DJ, lB])
section
open PySem L2 Mr
noncomputable abbrev hd (a b c : Int) : PV := .lst [.int a, .int b, .int c]
structure Hand (a b c : Int) (n : Nat) : Prop where
 a0 : 0 <= a
 b0 : 0 <= b
 b1 : b < 2305843009213693921
 c0 : 0 <= c
 c1 : c <= n
theorem Hand.mono {m : Nat} (h : Hand a b c n) (l : n <= m) : Hand a b c m := ⟨h.a0, h.b0, h.b1, h.c0, by have := h.c1; omega⟩
theorem NL {i : Int} (h0 : 0 <= i) (h1 : i < 18446744073709551616) : tF i j = true := decide_eq_true (.inl ⟨by omega, h1⟩)
theorem mulR {i : Int} (h0 : 0 <= j) (h1 : j < 18446744073709551616) : tF i j = true := decide_eq_true (.inr ⟨by omega, h1⟩)
theorem cN (h : Hand a b c n) (hn : n < 1000000) (m0 : 0 < m) (m1 : m < 1073741824) (q : ∀ d a' b' c', 0 <= d -> d < m -> Hand a' b' c' (n + 1) -> Q (.int d, [hd a' b' c'])) : Wp (aM [hd a b c, .int m]) Q := by
 unfold aM k7
 have a0 := h.a0
 have b0 := h.b0
 have b1 := h.b1
 have c0 := h.c0
 have c1 := h.c1
 walk_at "wp"
 refine ⟨fun ha => ⟨m0, ⟨m0, by omega⟩, q _ _ _ _ (emod_nonneg _ (by omega)) (emod_lt_of_pos _ m0) ⟨Int.ediv_nonneg a0 (by omega), b0, b1, c0, by omega⟩⟩, fun ha => ⟨NL (by decide) (by decide), mulR (by omega) (by omega), mulR (by decide) (by decide), NL (by decide) (by decide), NL (emod_nonneg _ (by decide)) ?_, m0, q _ _ _ _ (emod_nonneg _ (by omega)) (emod_lt_of_pos _ m0) ⟨a0, b0, b1, by omega, by omega⟩⟩⟩
 have := emod_lt_of_pos ((b + 65537 * (c + 1) * (c + 1) + 11) * 48271) (show (0 : Int) < 2305843009213693921 by decide)
 omega
theorem dZ {Q : PV -> Prop} (h0 : 0 <= k) (h1 : k < (xs.length : Int)) (q : ∀ x ∈ xs, Q x) : Wp (lK xs k) Q := by
 obtain ⟨c, hc, e⟩ := MV h0 h1
 exact ⟨c, e, q c hc⟩
noncomputable def iX : FS := (a8 (cD 3 (LU (bP (aZ VX (aC 2) (aZ oO (fC (.int 10)) (fC (.int 18))))) (aZ kB (aC 2) (aZ nU (aZ nU (aZ nU (aZ oO (fC (.int 10)) (fC (.int 60))) (aZ oO (fC (.int 10)) (fC (.int 60)))) (aZ oO (fC (.int 10)) (fC (.int 60)))) (aZ oO (fC (.int 10)) (fC (.int 60))))) (fC (.int 0))))
  (cW (eQ (aB (aC 3) (aB (aZ kB (aZ nD (aZ gM (aZ gM (aZ kB (aC 2) (fC (.int 2305843009213693951))) (aZ nD (aZ nD (fC (.int 7919)) (aC 1)) (aC 1))) (fC (.int 3))) (fC (.int 48271))) (fC (.int 2305843009213693921))) (aB (fC (.int 0)) aK))))))
theorem vE : lF = (a8 (cD 2 (LU (bP (aZ VY (aC 1) (lJ qC (aB (aC 0) aK)))) (aZ dE (aC 0) (aC 1)) (fC (.int 0))))
  iX) := rfl
theorem r6 {x : Int} {v0 v3 : Option Sl} {Q : Out -> Prop} (k0 : 0 <= k) (k1 : k < 1000) (q : ∀ a b v0 v1 v2 v3, Hand a b 0 0 -> Q (.rt (.new (hd a b 0)) [v0, v1, v2, v3])) : Wp (iX [v0, some (.val (.int k)), some (.val (.int x)), v3]) Q := by
 unfold iX
 walk_at "wp"
 have r0 : 0 <= x % 2305843009213693951 := emod_nonneg _ (by decide)
 have r1 : x % 2305843009213693951 < 2305843009213693951 := emod_lt_of_pos _ (by decide)
 have kk : 0 <= 7919 * k * k := Int.mul_nonneg (by omega) k0
 have m1 : tF 7919 k = true := NL (by decide) (by decide)
 have m2 : tF (7919 * k) k = true := mulR k0 (by omega)
 have m3 : tF (x % 2305843009213693951 + 7919 * k * k + 3) 48271 = true := mulR (by decide) (by decide)
 have b0 : 0 <= (x % 2305843009213693951 + 7919 * k * k + 3) * 48271 % 2305843009213693921 := emod_nonneg _ (by decide)
 have b1 : (x % 2305843009213693951 + 7919 * k * k + 3) * 48271 % 2305843009213693921 < 2305843009213693921 := emod_lt_of_pos _ (by decide)
 refine ⟨by decide +kernel, fun hx => ⟨by decide +kernel, by decide +kernel, by decide +kernel, by decide +kernel, by decide +kernel, by decide +kernel, by decide +kernel, by decide +kernel, m1, m2, m3, q _ _ _ _ _ _ ⟨emod_nonneg _ (by decide +kernel), b0, b1, by decide, by decide⟩⟩, fun hx => ⟨m1, m2, m3, q _ _ _ _ _ _ ⟨by decide, b0, b1, by decide, by decide⟩⟩⟩
theorem CA (k0 : 0 <= k) (k1 : k < 1000) (hn : ns.length <= 63) (q : ∀ a b, Hand a b 0 0 -> Q (hd a b 0, [])) : Wp (fG [.lst (ns.map PV.int), .int k]) Q := by
 unfold fG
 rw [vE]
 walk_at "wp"
 refine ⟨fun g => ?_, fun g => ?_⟩
 ·refine dZ k0 (by rw [length_map]; exact g) fun p hp => ?_
  obtain ⟨c, _, rfl⟩ := mem_map.mp hp
  walk_at "wp"
  refine r6 k0 k1 fun a b v0 v1 v2 v3 h => ?_
  walk_at "wp"
  exact q a b h
 ·refine r6 k0 k1 fun a b v0 v1 v2 v3 h => ?_
  walk_at "wp"
  exact q a b h
end
section
open PySem L2 Mr
noncomputable def sg : Str := "abcdefghijklmnopqrstuvwxyz0123456789"
theorem atS {Z : Str} {Q : Nat -> Prop} (h0 : 0 <= d) (h : d < (Z.length : Int)) (q : ∀ c ∈ Z.cps.toList, Q c) : Wp (lK Z.cps.toList d) Q := by
 obtain ⟨c, hc, e⟩ := ID h0 h
 exact ⟨c, e, q c hc⟩
theorem HP {a b c : Int} {s : Option Sl} {Q : List PV × En -> Prop} (hp : Hand a b c n) (hn : n + xs.length < 1000000)
  (q : ∀ (zs : List Str) s' a' b' c', zs.length = xs.length -> (∀ z ∈ zs, ∃ k ∈ sg.cps.toList, z = ⟨#[k]⟩) -> Hand a' b' c' (n + xs.length) -> Q (zs.map PV.str, [s', some (.own (hd a' b' c'))])) :
  Wp (iM (aS 0) eP (aZ dE (fC (.str "abcdefghijklmnopqrstuvwxyz0123456789")) (a9 [.m, .b] false aM (aB (aC 1) (aB (fC (.int 36)) aK)))) xs [s, some (.own (hd a b c))]) Q := by
 refine eY (fun i acc e => ∃ (zs : List Str) (s : Option Sl) (a b c : Int), acc = zs.map PV.str /\ zs.length = i /\ (∀ z ∈ zs, ∃ k ∈ sg.cps.toList, z = ⟨#[k]⟩) /\ e = [s, some (.own (hd a b c))] /\ Hand a b c (n + i)) ?_ ?_ ⟨[], s, a, b, c, rfl, rfl, fun _ h => (nomatch h), rfl, hp⟩
 ·rintro i x e acc hx ⟨zs, s, a, b, c, rfl, hl', hz, rfl, hp⟩
  have hi := (List.getElem?_eq_some_iff.mp hx).1
  walk_at "wp"
  refine cN hp (by omega) (by decide) (by decide) fun d a' b' c' d0 d1 hp' => ?_
  walk_at "wp"
  refine ⟨by decide +kernel, ?_⟩
  refine atS d0 (Int.lt_of_lt_of_le d1 (by decide +kernel)) fun k hk => ?_
  walk_at "wp"
  exact ⟨zs ++ [⟨#[k]⟩], _, a', b', c', by rw [map_append]; rfl, by rw [length_append, hl']; rfl, fun z hz' => (mem_append.mp hz').elim (hz z) fun h => ⟨k, hk, mem_singleton.mp h⟩, rfl, hp'⟩
 ·rintro acc e ⟨zs, s, a, b, c, rfl, hl', hz, rfl, hp⟩
  exact q zs s a b c hl' hz hp
theorem NO {zs : List Str} (h : ∀ z ∈ zs, ∃ k ∈ sg.cps.toList, z = ⟨#[k]⟩) : (zs.map (·.length)).sum = zs.length := by
 induction zs with
 | nil => rfl
 | cons z zs ih =>
  obtain ⟨k, _, rfl⟩ := h z mem_cons_self
  rw [map_cons, List.sum_cons, length_cons, ih fun w hw => h w (mem_cons_of_mem _ hw)]
  show 1 + _ = _
  omega
theorem e0 : (Str.ofString "").length = 0 := by decide +kernel
theorem L5 {zs : List Str} {Q : Bv -> Prop} (h : ∀ z ∈ zs, ∃ k ∈ sg.cps.toList, z = ⟨#[k]⟩) (hs : zs.length < 1000) (q : ∀ x : Str, x.length <= zs.length -> Q (.val (.str x))) :
  Wp (wD (.str (Str.ofString "")) [.lst (zs.map PV.str)]) Q := by
 have l1 := NO h
 have l2 : (Txt.join (Str.ofString "") zs).length <= (zs.map (·.length)).sum := joined
 unfold wD
 simp only [mZ, iJ, b9, dW, decide_eq_true_eq, e0]
 exact ⟨by omega, q _ (by omega)⟩
theorem IP [DecidableEq α] : ∀ {l m : List α}, l.Nodup -> (∀ x ∈ l, x ∈ m) -> l.length <= m.length
 | [], m, _, _ => zero_le _
 | x :: l, m, hn, h => by
  have hx := h x mem_cons_self
  rw [nodup_cons] at hn
  have := IP (l := l) (m := m.erase x) hn.2 fun y hy => (List.mem_erase_of_ne (fun e : y = x => hn.1 (by rw [<- e]; exact hy))).mpr (h y (mem_cons_of_mem _ hy))
  rw [List.length_erase_of_mem hx] at this
  have : 0 < m.length := List.length_pos_of_mem hx
  rw [length_cons]
  omega
noncomputable abbrev sN (k : Nat) : Str := toString (0 + (k : Int))
theorem F3 : ((List.range 64).map sN).Nodup := by decide +kernel
theorem M4 (h : ss.length < 63) : ∃ k ∈ List.range (ss.length + 1), sN k ∉ ss := by
 refine Classical.byContradiction fun no => ?_
 have all : ∀ x ∈ (List.range (ss.length + 1)).map sN, x ∈ ss := fun x hx => by
  obtain ⟨k, hk, rfl⟩ := mem_map.mp hx
  exact Classical.byContradiction fun z => no ⟨k, hk, z⟩
 have nd : ((List.range (ss.length + 1)).map sN).Nodup := by
  have e : List.range (ss.length + 1) = (List.range 64).take (ss.length + 1) := by rw [List.take_range]; congr 1; omega
  rw [e, List.map_take]
  exact F3.sublist (List.take_sublist _ _)
 have := IP nd all
 rw [length_map, length_range] at this
 omega
theorem Q2 : ∀ k ∈ List.range 64, (sN k).length <= 2 := by decide +kernel
end
section
open PySem L2 Mr
theorem oV : ((ss.map PV.str).any fun z => bZ z (PV.str x)) = decide (x ∈ ss) := by
 rw [Bool.eq_iff_iff, any_eq_true, decide_eq_true_eq]
 constructor
 ·rintro ⟨p, hp, e⟩
  obtain ⟨y, hy, rfl⟩ := mem_map.mp hp
  rw [uK] at e
  rw [<- eq_of_beq e]
  exact hy
 ·intro h
  exact ⟨.str x, mem_map.mpr ⟨x, h, rfl⟩, by rw [uK]; exact beq_self_eq_true x⟩
theorem tE {j : Nat} (h : j < 64) : (0 + (j : Int)).natAbs.log2 < 1920 := by
 rw [Int.zero_add, Int.natAbs_natCast]
 exact Nat.lt_of_le_of_lt (Nat.log2_le_self j) (by omega)
theorem JG {a b c : Int} (h : Hand a b c n) (m0 : 0 <= m) (m1 : m <= 60) (hn : n < 100000)
  (q : ∀ (ss : List Str) a' b' c', (ss.length : Int) = m -> (∀ x ∈ ss, x.length <= 12) -> Hand a' b' c' (n + 13 * 60) -> Q (.lst (ss.map PV.str), [hd a' b' c'])) : Wp (fT [hd a b c, .int m]) Q := by
 unfold fT jG
 walk_at "wp"
 refine ⟨gC (by omega) (by omega), ?_⟩
 refine fQ (fun i e => ∃ (ss : List Str) (a b c : Int) (v3 v4 v5 : Option Sl), ss.length = i /\ (∀ x ∈ ss, x.length <= 12) /\ Hand a b c (n + 13 * i) /\ e = [some (.own (hd a b c)), some (.val (.int m)), some (.loc (.lst (ss.map PV.str))), v3, v4, v5]) ?_ ?_ ⟨[], a, b, c, _, _, _, rfl, fun _ h => (nomatch h), h, rfl⟩
 ·rintro i x e hx ⟨ss, a, b, c, v3, v4, v5, hl, hs, hp, rfl⟩
  rw [getElem?_map] at hx
  obtain ⟨k, hk, rfl⟩ := map_eq_some_iff.mp hx
  have hi := (List.getElem?_eq_some_iff.mp hk).1
  rw [length_range] at hi
  walk_at "wp"
  refine cN hp (by omega) (by decide) (by decide) fun d a1 b1 c1 d0 d1 hp => ?_
  walk_at "wp"
  refine dZ d0 d1 fun p hp' => ?_
  obtain ⟨z, rfl, z0, z1⟩ : ∃ z : Int, p = .int z /\ 1 <= z /\ z <= 12 := by
   have r0 := emod_nonneg (0 + (k : Int)) (show (12 : Int) ≠ 0 by decide)
   have r1 := emod_lt_of_pos (0 + (k : Int)) (show (0 : Int) < 12 by decide)
   simp only [mem_cons, not_mem_nil, or_false] at hp'
   rcases hp' with rfl | rfl | rfl | rfl | rfl | rfl
   ·exact ⟨_, rfl, by decide, by decide⟩
   ·exact ⟨_, rfl, by decide, by decide⟩
   ·exact ⟨_, rfl, by decide, by decide⟩
   ·exact ⟨_, rfl, by decide, by decide⟩
   ·exact ⟨_, rfl, by decide, by decide⟩
   ·exact ⟨_, rfl, by omega, by omega⟩
  walk_at "wp"
  refine ⟨gC (by omega) (by omega), by omega, ?_⟩
  refine HP hp (by rw [length_map, length_range]; omega) fun zs s' a2 b2 c2 zl hz hp => ?_
  rw [length_map, length_range] at zl hp
  walk_at "wp"
  refine L5 hz (by omega) fun x hx => ?_
  walk_at "wp"
  have ok8 : (ss.map PV.str).all (fW 8) = true := all_eq_true.mpr fun p hp => by obtain ⟨y, _, rfl⟩ := mem_map.mp hp; rfl
  have done : ∀ y : Str, y.length <= 12 -> ∃ (ss' : List Str) (a b c : Int) (v3 v4 v5 : Option Sl), ss'.length = i + 1 /\ (∀ x ∈ ss', x.length <= 12) /\ Hand a b c (n + 13 * (i + 1)) /\ [some (Sl.own (hd a2 b2 c2)), some (Sl.val (PV.int m)), some (Sl.loc (PV.lst (ss.map PV.str ++ [PV.str y]))), some (Sl.val (PV.int (0 + (k : Int)))), some (Sl.val (PV.int z)), some (Sl.val (PV.str y))] = [some (.own (hd a b c)), some (.val (.int m)), some (.loc (.lst (ss'.map PV.str))), v3, v4, v5] := fun y hy =>
   ⟨ss ++ [y], a2, b2, c2, _, _, _, by rw [length_append, hl]; rfl, fun w hw => (mem_append.mp hw).elim (hs w) fun e => by rw [mem_singleton.mp e]; exact hy, hp.mono (by omega), by rw [map_append]; rfl⟩
  refine ⟨ok8, fun g => ⟨gC (by omega) (by omega), by omega, ?_⟩, fun g => ⟨by omega, done x (by omega)⟩⟩
  rw [show ((ss.length : Int) + 1).toNat = ss.length + 1 by omega]
  refine eY (fun j acc e => acc = (((List.range j).filter fun k => decide (sN k ∉ ss)).map fun k => PV.str (sN k)) /\ ∃ s, e = [s, some (Sl.bor (PV.lst (ss.map PV.str)))]) ?_ ?_ ⟨rfl, _, rfl⟩
  ·rintro j y e acc hy ⟨rfl, s1, rfl⟩
   rw [getElem?_map] at hy
   obtain ⟨k', hk', rfl⟩ := map_eq_some_iff.mp hy
   have hj := (List.getElem?_eq_some_iff.mp hk').1
   have ej := (List.getElem?_eq_some_iff.mp hk').2
   rw [length_range] at hj
   rw [List.getElem_range] at ej
   subst ej
   walk_at "wp"
   refine ⟨tE (by omega), ok8, ?_⟩
   rw [oV]
   have er : (List.range (j + 1)).filter (fun k => decide (sN k ∉ ss)) = (List.range j).filter (fun k => decide (sN k ∉ ss)) ++ (if sN j ∉ ss then [j] else []) := by
    rw [List.range_succ, filter_append]
    congr 1
    by_cases hm : sN j ∉ ss
    ·rw [if_pos hm]; simp [hm]
    ·rw [if_neg hm]; simp at hm; simp [hm]
   by_cases hm : sN j ∈ ss
   ·rw [show decide (Str.ofString (toString (0 + (j : Int))) ∈ ss) = true from decide_eq_true hm]
    refine ⟨?_, _, rfl⟩
    rw [er, if_neg (fun z => z hm), append_nil]
   ·rw [show decide (Str.ofString (toString (0 + (j : Int))) ∈ ss) = false from decide_eq_false hm]
    refine ⟨tE (by omega), ?_, _, rfl⟩
    rw [er, if_pos hm, map_append]
    rfl
  ·rintro acc e ⟨rfl, s1, rfl⟩
   rw [length_map, length_range]
   obtain ⟨k0, hk0, hf⟩ := M4 (ss := ss) (by omega)
   have hm : k0 ∈ (List.range (ss.length + 1)).filter fun k => decide (sN k ∉ ss) := mem_filter.mpr ⟨hk0, decide_eq_true hf⟩
   have sub : ∀ k ∈ (List.range (ss.length + 1)).filter fun k => decide (sN k ∉ ss), (sN k).length <= 12 := fun k hk => by
    have := mem_range.mp (mem_filter.mp hk).1
    have := Q2 k (mem_range.mpr (by omega))
    omega
   cases ef : (List.range (ss.length + 1)).filter fun k => decide (sN k ∉ ss) with
   | nil => rw [ef] at hm; cases hm
   | cons k1 r =>
    have := sub k1 (by rw [ef]; exact mem_cons_self)
    walk_at "wp"
    exact ⟨by omega, done _ this⟩
 ·rintro e ⟨ss, a, b, c, v3, v4, v5, hl, hs, hp, rfl⟩
  walk_at "wp"
  rw [length_map, length_range] at hl
  rw [length_map, length_range] at hp
  exact q ss a b c (by omega) hs (hp.mono (by omega))
end
section
open PySem L2 Mr
structure AF where
 at' : Int
 day : Int
 head : Str
 row : List Int
noncomputable def MH (l : AF) : PV := .tup [.int l.at', .int l.day, .str l.head, .lst (l.row.map PV.int)]
structure RT (m : Int) (l : AF) : Prop where
 a0 : 0 <= l.at'
 a1 : l.at' < m
 r : ∀ x ∈ l.row, 0 <= x /\ x < m
 n : l.row.length <= 9
theorem BI {a b c : Int} {s : Option Sl} {Q : List PV × En -> Prop} (hp : Hand a b c n) (m0 : 0 < m) (m1 : m <= 64) (hn : n + xs.length < 1000000)
  (q : ∀ (zs : List Int) s' a' b' c', zs.length = xs.length -> (∀ z ∈ zs, 0 <= z /\ z < m) -> Hand a' b' c' (n + xs.length) -> Q (zs.map PV.int, [s', some (.own (hd a' b' c')), some (.val (.int m))])) :
  Wp (iM (aS 0) eP (a9 [.m, .b] false aM (aB (aC 1) (aB (aC 2) aK))) xs [s, some (.own (hd a b c)), some (.val (.int m))]) Q := by
 refine eY (fun i acc e => ∃ (zs : List Int) (s : Option Sl) (a b c : Int), acc = zs.map PV.int /\ zs.length = i /\ (∀ z ∈ zs, 0 <= z /\ z < m) /\ e = [s, some (.own (hd a b c)), some (.val (.int m))] /\ Hand a b c (n + i)) ?_ ?_ ⟨[], s, a, b, c, rfl, rfl, fun _ h => (nomatch h), rfl, hp⟩
 ·rintro i x e acc hx ⟨zs, s, a, b, c, rfl, hl', hz, rfl, hp⟩
  have hi := (List.getElem?_eq_some_iff.mp hx).1
  walk_at "wp"
  refine cN hp (by omega) m0 (by omega) fun d a' b' c' d0 d1 hp' => ?_
  walk_at "wp"
  exact ⟨zs ++ [d], _, a', b', c', by rw [map_append]; rfl, by rw [length_append, hl']; rfl, fun z hz' => (mem_append.mp hz').elim (hz z) fun h => by rw [mem_singleton.mp h]; exact ⟨d0, d1⟩, rfl, hp'⟩
 ·rintro acc e ⟨zs, s, a, b, c, rfl, hl', hz, rfl, hp⟩
  exact q zs s a b c hl' hz hp
noncomputable def fY : FS := (cW (cR (aB (aC 2) (aB (aZ dE (eQ (aB (aC 4) (aB (aZ Mr.qZ (fC (.int 99999999)) (aC 4)) aK))) (lJ wX (aB (aZ DE (aC 3) (fC (.int 2))) aK))) (aB (aZ dE (eQ (aB (fC (.str "")) (aB (fC (.str "walls")) (aB (fC (.str "Re: walls")) aK)))) (a9 [.m, .b] false aM (aB (aC 0) (aB (fC (.int 3)) aK)))) (aB (aC 5) aK))))))
theorem qB : jC = (a8 (cD 2 (a9 [.m, .b] false aM (aB (aC 0) (aB (aC 1) aK))))
  (a8 (cD 3 (a9 [.m, .b] false aM (aB (aC 0) (aB (fC (.int 4)) aK))))
  (a8 (cD 4 (a9 [.m, .b] false aM (aB (aC 0) (aB (aZ dE (eQ (aB (fC (.int 1)) (aB (fC (.int 3)) (aB (fC (.int 2)) (aB (fC (.int 100000000)) aK))))) (aC 3)) aK))))
  (a8 (cD 5 (fE (oH (aB (aZ dE (eQ (aB (fC (.int 0)) (aB (fC (.int 1)) (aB (fC (.int 1)) (aB (fC (.int 2)) (aB (fC (.int 3)) (aB (fC (.int 9)) aK))))))) (a9 [.m, .b] false aM (aB (aC 0) (aB (fC (.int 6)) aK)))) aK)) 1 [0, 1] [(0, 1)] (aS 0) eP (a9 [.m, .b] false aM (aB (aC 1) (aB (aC 2) aK)))))
  (a8 (oQ (bP (aZ DE (a9 [.m, .b] false aM (aB (aC 0) (aB (fC (.int 4)) aK))) (fC (.int 0)))) (cD 5 (aZ gM (O1 N7 (aC 5) gQ (nP (fC (.int 8)))) (eQ (aB (aZ kB (aZ gM (aC 2) (fC (.int 1))) (aC 1)) aK)))) cU)
  fY))))) := rfl
theorem FU (xs : List PV) (k : Nat) : rE xs none (some (k : Int)) = xs.take k := by
 unfold rE
 rw [HT.xZ, HT.CB, drop_zero, Nat.sub_zero]
 by_cases h : k <= xs.length
 ·rw [Nat.min_eq_left h]
 ·rw [Nat.min_eq_right (by omega), take_of_length_le (le_refl _), take_of_length_le (by omega)]
theorem qI (xs : List PV) (k : Nat) : rE xs (some (k : Int)) none = xs.drop k := by
 unfold rE
 rw [HT.xZ, HT.CB]
 by_cases h : k <= xs.length
 ·rw [Nat.min_eq_left h, take_of_length_le (by rw [length_drop]; exact le_refl _)]
 ·rw [Nat.min_eq_right (by omega), List.drop_of_length_le (le_refl _), List.drop_of_length_le (by omega), List.take_nil]
theorem WI (zs : List Int) : rE (zs.map PV.int) none (some 8) = (zs.take 8).map PV.int := by
 have := FU (zs.map PV.int) 8
 rw [List.map_take]
 exact this
theorem oE {at' kind day : Int} {zs : List Int} {Q : Out -> Prop} (h : Hand a b c n) (hn : n < 100100) (a0 : 0 <= at') (a1 : at' < m) (hz : ∀ z ∈ zs, 0 <= z /\ z < m) (zl : zs.length <= 9)
  (q : ∀ l a' b' c' v1 v2 v3 v4 v5, RT m l -> Hand a' b' c' (n + 1) -> Q (.rt (.val (MH l)) [some (.own (hd a' b' c')), v1, v2, v3, v4, v5])) :
  Wp (fY [some (.own (hd a b c)), some (.val (.int m)), some (.val (.int at')), some (.val (.int kind)), some (.val (.int day)), some (.val (.lst (zs.map PV.int)))]) Q := by
 unfold fY
 walk_at "wp"
 refine dZ (by split <;> decide) (by simp only [length_cons, length_nil]; split <;> decide) fun p hp' => ?_
 obtain ⟨z, rfl⟩ : ∃ z : Int, p = .int z := by
  simp only [mem_cons, not_mem_nil, or_false] at hp'
  rcases hp' with rfl | rfl <;> exact ⟨_, rfl⟩
 walk_at "wp"
 refine cN h (by omega) (by decide) (by decide) fun e a6 b6 c6 e0 e1 hp => ?_
 walk_at "wp"
 refine dZ e0 e1 fun p hp' => ?_
 obtain ⟨x, rfl⟩ : ∃ z : Str, p = .str z := by
  simp only [mem_cons, not_mem_nil, or_false] at hp'
  rcases hp' with rfl | rfl | rfl <;> exact ⟨_, rfl⟩
 walk_at "wp"
 exact q ⟨at', z, x, zs⟩ _ _ _ _ _ _ _ _ ⟨a0, a1, hz, zl⟩ hp
theorem rX (h : Hand a b c n) (m0 : 0 < m) (m1 : m <= 64) (hn : n < 100000)
  (q : ∀ l a' b' c', RT m l -> Hand a' b' c' (n + 20) -> Q (MH l, [hd a' b' c'])) : Wp (cV [hd a b c, .int m]) Q := by
 unfold cV
 rw [qB]
 walk_at "wp"
 refine cN h (by omega) m0 (by omega) fun at' a1 b1 c1 VV V2 hp => ?_
 walk_at "wp"
 refine cN hp (by omega) (by decide) (by decide) fun kind a2 b2 c2 k0 k1 hp => ?_
 walk_at "wp"
 refine dZ k0 k1 fun p hp' => ?_
 obtain ⟨z, rfl, z0, z1⟩ : ∃ z : Int, p = .int z /\ 0 < z /\ z <= 100000000 := by
  simp only [mem_cons, not_mem_nil, or_false] at hp'
  rcases hp' with rfl | rfl | rfl | rfl <;> exact ⟨_, rfl, by decide, by decide⟩
 walk_at "wp"
 refine cN hp (by omega) z0 (by omega) fun day a3 b3 c3 dy0 dy1 hp => ?_
 walk_at "wp"
 refine cN hp (by omega) (by decide) (by decide) fun d a4 b4 c4 d0 d1 hp => ?_
 walk_at "wp"
 refine dZ d0 d1 fun p hp' => ?_
 obtain ⟨w, rfl, w0, w1⟩ : ∃ z : Int, p = .int z /\ 0 <= z /\ z <= 9 := by
  simp only [mem_cons, not_mem_nil, or_false] at hp'
  rcases hp' with rfl | rfl | rfl | rfl | rfl | rfl <;> exact ⟨_, rfl, by decide, by decide⟩
 walk_at "wp"
 refine ⟨gC (by omega) (by omega), by omega, ?_⟩
 refine BI hp m0 m1 (by rw [length_map, length_range]; omega) fun zs s' a5 b5 c5 zl hz hp => ?_
 rw [length_map, length_range] at zl hp
 walk_at "wp"
 refine cN hp (by omega) (by decide) (by decide) fun e a6 b6 c6 e0 e1 hp => ?_
 walk_at "wp"
 have r0 := emod_nonneg (at' + 1) (show m ≠ 0 by omega)
 have r1 := emod_lt_of_pos (at' + 1) m0
 rw [WI]
 have l8 : (zs.take 8).length <= 8 := by rw [length_take]; omega
 refine ⟨fun _ => ⟨m0, by rw [length_map]; omega, ?_⟩, fun _ => ?_⟩
 ·have ee : (zs.take 8).map PV.int ++ [PV.int ((at' + 1) % m)] = ((zs.take 8) ++ [(at' + 1) % m]).map PV.int := by rw [map_append]; rfl
  rw [ee]
  refine oE hp (by omega) VV V2 (fun z hz' => ?_) (by rw [length_append]; simp; omega) fun l a' b' c' v1 v2 v3 v4 v5 hl hp => ?_
  ·rcases mem_append.mp hz' with g | g
   ·exact hz z (List.mem_of_mem_take g)
   ·rw [mem_singleton.mp g]; exact ⟨r0, r1⟩
  ·walk_at "wp"
   exact q l a' b' c' hl (hp.mono (by omega))
 ·refine oE hp (by omega) VV V2 hz (by omega) fun l a' b' c' v1 v2 v3 v4 v5 hl hp => ?_
  walk_at "wp"
  exact q l a' b' c' hl (hp.mono (by omega))
end
section
open PySem L2 Mr
theorem NG {a b c : Int} {s : Option Sl} {Q : List PV × En -> Prop} (hp : Hand a b c n) (m0 : 0 < m) (m1 : m <= 64) (hn : n + 20 * xs.length < 100000)
  (q : ∀ (zs : List AF) s' a' b' c', zs.length = xs.length -> (∀ z ∈ zs, RT m z) -> Hand a' b' c' (n + 20 * xs.length) -> Q (zs.map MH, [s', some (.own (hd a' b' c')), some (.val (.int m))])) :
  Wp (iM (aS 0) eP (a9 [.m, .b] false cV (aB (aC 1) (aB (aC 2) aK))) xs [s, some (.own (hd a b c)), some (.val (.int m))]) Q := by
 refine eY (fun i acc e => ∃ (zs : List AF) (s : Option Sl) (a b c : Int), acc = zs.map MH /\ zs.length = i /\ (∀ z ∈ zs, RT m z) /\ e = [s, some (.own (hd a b c)), some (.val (.int m))] /\ Hand a b c (n + 20 * i)) ?_ ?_ ⟨[], s, a, b, c, rfl, rfl, fun _ h => (nomatch h), rfl, hp⟩
 ·rintro i x e acc hx ⟨zs, s, a, b, c, rfl, hl', hz, rfl, hp⟩
  have hi := (List.getElem?_eq_some_iff.mp hx).1
  walk_at "wp"
  refine rX hp m0 m1 (by omega) fun l a' b' c' hl hp' => ?_
  walk_at "wp"
  exact ⟨zs ++ [l], _, a', b', c', by rw [map_append]; rfl, by rw [length_append, hl']; rfl, fun z hz' => (mem_append.mp hz').elim (hz z) fun h => by rw [mem_singleton.mp h]; exact hl, rfl, hp'.mono (by omega)⟩
 ·rintro acc e ⟨zs, s, a, b, c, rfl, hl', hz, rfl, hp⟩
  exact q zs s a b c hl' hz hp
theorem zK (hns : ns.length <= 63) (h : Hand a b c n) (m0 : 0 < m) (m1 : m <= 64) (hn : n < 50000)
  (q : ∀ (zs : List AF) a' b' c', zs.length <= 51 -> (∀ z ∈ zs, RT m z) -> Hand a' b' c' (n + 300) -> Q (.lst (zs.map MH), [hd a' b' c'])) : Wp (eK [.lst (ns.map PV.int), hd a b c, .int m]) Q := by
 unfold eK g8
 walk_at "wp"
 refine cN h (by omega) (by decide) (by decide) fun d a1 b1 c1 d0 d1 hp => ?_
 walk_at "wp"
 refine ⟨gC (by omega) (by omega), by omega, ?_⟩
 refine NG hp m0 m1 (by rw [length_map, length_range]; omega) fun zs s' a2 b2 c2 zl hz hp => ?_
 rw [length_map, length_range] at zl hp
 walk_at "wp"
 have hm1 : (if (40 : Int) < (ns.length : Int) then (40 : Int) else (ns.length : Int)) <= 40 := by split <;> omega
 have hm0 : 0 <= (if (40 : Int) < (ns.length : Int) then (40 : Int) else (ns.length : Int)) := by split <;> omega
 refine ⟨⟨gC (by decide) (by decide), gC (by omega) (by omega)⟩, ?_⟩
 generalize (if (40 : Int) < (ns.length : Int) then (40 : Int) else (ns.length : Int)) = N at hm0 hm1
 refine fQ (fun i e => ∃ (ys : List AF) (v4 : Option Sl), ys.length = zs.length + i /\ (∀ z ∈ ys, RT m z) /\ e = [some (Sl.bor (PV.lst (ns.map PV.int))), some (Sl.own (hd a2 b2 c2)), some (Sl.val (PV.int m)), some (Sl.loc (PV.lst (ys.map MH))), v4]) ?_ ?_ ⟨zs, _, rfl, hz, rfl⟩
 ·rintro i x e hx ⟨ys, v4, yl, hy, rfl⟩
  rw [getElem?_map] at hx
  obtain ⟨k, hk, rfl⟩ := map_eq_some_iff.mp hx
  have hi := (List.getElem?_eq_some_iff.mp hk).1
  have ek := (List.getElem?_eq_some_iff.mp hk).2
  rw [length_range] at hi
  rw [List.getElem_range] at ek
  walk_at "wp"
  refine CA (by omega) (by omega) hns fun a3 b3 hh => ?_
  walk_at "wp"
  refine rX hh m0 m1 (by omega) fun l a' b' c' hl _ => ?_
  walk_at "wp"
  refine ⟨by omega, ys ++ [l], _, by rw [length_append, yl]; simp; omega, fun z hz' => (mem_append.mp hz').elim (hy z) fun h => by rw [mem_singleton.mp h]; exact hl, by rw [map_append]; rfl⟩
 ·rintro e ⟨ys, v4, yl, hy, rfl⟩
  rw [length_map, length_range] at yl
  walk_at "wp"
  exact q ys _ _ _ (by omega) hy (hp.mono (by omega))
end
section
open PySem L2 Mr
structure Let where
 name : Str
 day : Int
 head : Str
 row : List Str
 deriving DecidableEq
noncomputable def lP (l : Let) : PV := .tup [.str l.name, .int l.day, .str l.head, .tup (l.row.map PV.str)]
theorem hV (ss : List Str) (n : Nat) : (ss.map PV.str).all (fW n) = true := all_eq_true.mpr fun p hp => by obtain ⟨y, _, rfl⟩ := mem_map.mp hp; cases n <;> rfl
theorem MK (ss : List Str) (n : Nat) : (ss.map PV.str).all (mR n) = true := all_eq_true.mpr fun p hp => by obtain ⟨y, _, rfl⟩ := mem_map.mp hp; cases n <;> rfl
theorem UB (l : Let) : fW 8 (lP l) = true := by
 show ([PV.str l.name, PV.int l.day, PV.str l.head, PV.tup (l.row.map PV.str)].all (fW 7)) = true
 simp only [all_cons, all_nil, fW, hV, Bool.and_true]
theorem VA (l : Let) : mR 3 (lP l) = true := by
 show ([PV.str l.name, PV.int l.day, PV.str l.head, PV.tup (l.row.map PV.str)].all (mR 2)) = true
 simp only [all_cons, all_nil, mR, MK, Bool.and_true]
theorem kI (n : Nat) : ∀ xs ys : List Str, (dG (mF n) (xs.map PV.str) (ys.map PV.str)).isSome = true
 | [], [] => rfl
 | [], _ :: _ => rfl
 | _ :: _, [] => rfl
 | x :: xs, y :: ys => by
  rw [map_cons, map_cons]
  unfold dG
  split
  ·exact kI n xs ys
  ·cases n <;> rfl
theorem VO (l k : Let) : (mF 3 (lP l) (lP k)).isSome = true := by
 show (dG (mF 2) [PV.str l.name, PV.int l.day, PV.str l.head, PV.tup (l.row.map PV.str)] [PV.str k.name, PV.int k.day, PV.str k.head, PV.tup (k.row.map PV.str)]).isSome = true
 unfold dG
 split
 ·unfold dG
  split
  ·unfold dG
   split
   ·unfold dG
    split
    ·rfl
    ·exact kI 1 _ _
   ·rfl
  ·rfl
 ·rfl
theorem JP (ls : List Let) : dC 3 (ls.map lP) = true := all_eq_true.mpr fun p hp => by
 obtain ⟨l, _, rfl⟩ := mem_map.mp hp
 rw [and_eq_true]
 refine ⟨VA l, all_eq_true.mpr fun q hq => ?_⟩
 obtain ⟨k, _, rfl⟩ := mem_map.mp hq
 exact VO l k
theorem J1 (ls : List Let) : (ls.map lP).all (kW true) = true := all_eq_true.mpr fun p hp => by obtain ⟨l, _, rfl⟩ := mem_map.mp hp; rfl
theorem xA {ps : List PV} (h : ps.Perm (ls.map lP)) : ∃ ks : List Let, ks.Perm ls /\ ps = ks.map lP := by
 have key : ∀ (ps : List PV) (ls : List Let), ps.Perm (ls.map lP) -> ∃ ks : List Let, ks.Perm ls /\ ps = ks.map lP := by
  intro ps
  induction ps with
  | nil => intro ls h; have := h.nil_eq; rw [List.eq_nil_of_map_eq_nil this.symm]; exact ⟨[], .refl _, rfl⟩
  | cons p ps ih =>
   intro ls h
   obtain ⟨l, hl, e⟩ := mem_map.mp (h.mem_iff.mp mem_cons_self)
   subst e
   have h2 : (lP l :: ps).Perm ((l :: ls.erase l).map lP) := h.trans ((perm_cons_erase hl).map lP)
   obtain ⟨ks, k1, k2⟩ := ih _ (h2.cons_inv)
   exact ⟨l :: ks, (k1.cons l).trans (perm_cons_erase hl).symm, by rw [k2]; rfl⟩
 exact key ps ls h
theorem CD {ls : List Let} {Q : Bv -> Prop} (h : ls.length < 64) (q : ∀ ks : List Let, ks.Perm ls -> (ks.map lP).Pairwise (fun a b => rO 3 a b = true) -> Q (.new (.lst (ks.map lP)))) : Wp (u7 [.lst (ls.map lP)]) Q := by
 cases ls with
 | nil => exact ⟨_, rfl, by rw [show mS [] = [] by unfold mS; simp]; exact q [] (.refl _) .nil⟩
 | cons l ls =>
  have e1 : t8 [.lst ((l :: ls).map lP)] = none := rfl
  have e2 : uS [.lst ((l :: ls).map lP)] = none := rfl
  unfold u7
  rw [e1, e2, none_or, none_or]
  unfold uA
  simp only [dW, b9]
  refine ⟨?_, ?_⟩
  ·rw [J1, JP, length_map, decide_eq_true h]; rfl
  ·obtain ⟨ks, k1, k2⟩ := xA (cZ 3 ((l :: ls).map lP))
   have := iS 3 ((l :: ls).map lP)
   rw [k2] at this ⊢
   exact q ks k1 this
end
section
open PySem L2 Mr
theorem HF {s : Option Sl} {Q : List PV × En -> Prop} (hm : (ss.length : Int) = m) (hr : ∀ x ∈ rs, 0 <= x /\ x < m)
  (q : ∀ (zs : List Str) s', zs.length = rs.length -> (∀ z ∈ zs, z ∈ ss) -> Q (zs.map PV.str, [s', some (Sl.bor (PV.lst (ss.map PV.str)))])) :
  Wp (iM (aS 0) eP (aZ dE (aC 1) (aC 0)) (rs.map PV.int) [s, some (Sl.bor (PV.lst (ss.map PV.str)))]) Q := by
 refine eY (fun i acc e => ∃ (zs : List Str) (s : Option Sl), acc = zs.map PV.str /\ zs.length = i /\ (∀ z ∈ zs, z ∈ ss) /\ e = [s, some (Sl.bor (PV.lst (ss.map PV.str)))]) ?_ ?_ ⟨[], s, rfl, rfl, fun _ h => (nomatch h), rfl⟩
 ·rintro i x e acc hx ⟨zs, s, rfl, hl, hz, rfl⟩
  rw [getElem?_map] at hx
  obtain ⟨k, hk, rfl⟩ := map_eq_some_iff.mp hx
  obtain ⟨k0, k1⟩ := hr k (mem_of_getElem? hk)
  walk_at "wp"
  refine dZ k0 (by rw [length_map]; omega) fun p hp => ?_
  obtain ⟨y, hy, rfl⟩ := mem_map.mp hp
  walk_at "wp"
  exact ⟨zs ++ [y], _, by rw [map_append]; rfl, by rw [length_append, hl]; rfl, fun z hz' => (mem_append.mp hz').elim (hz z) fun h => by rw [mem_singleton.mp h]; exact hy, rfl⟩
 ·rintro acc e ⟨zs, s, rfl, hl, hz, rfl⟩
  rw [length_map] at hl
  exact q zs s hl hz
theorem LK {zs : List AF} (hm : (ss.length : Int) = m) (hz : ∀ z ∈ zs, RT m z) (hl : zs.length <= 60)
  (q : ∀ ls : List Let, ls.length <= zs.length -> (ls.map lP).Pairwise (fun a b => rO 3 a b = true) -> (∀ l ∈ ls, l.row.length <= 9 /\ l.name ∈ ss /\ ∀ x ∈ l.row, x ∈ ss) -> Q (.tup (ls.map lP), [])) : Wp (gP [.lst (zs.map MH), .lst (ss.map PV.str)]) Q := by
 unfold gP kZ
 walk_at "wp"
 refine fQ (fun i e => ∃ (ls : List Let) (v3 v4 v5 v6 v7 : Option Sl), ls.length <= i /\ (∀ l ∈ ls, l.row.length <= 9 /\ l.name ∈ ss /\ ∀ x ∈ l.row, x ∈ ss) /\ e = [some (Sl.bor (PV.lst (zs.map MH))), some (Sl.bor (PV.lst (ss.map PV.str))), some (Sl.loc (PV.lst (ls.map lP))), v3, v4, v5, v6, v7]) ?_ ?_ ⟨[], _, _, _, _, _, le_refl _, fun _ h => (nomatch h), rfl⟩
 ·rintro i x e hx ⟨ls, v3, v4, v5, v6, v7, ll, hls, rfl⟩
  rw [getElem?_map] at hx
  obtain ⟨z, hk, rfl⟩ := map_eq_some_iff.mp hx
  have hi := (List.getElem?_eq_some_iff.mp hk).1
  have ok := hz z (mem_of_getElem? hk)
  rw [show MH z = PV.tup [PV.int z.at', PV.int z.day, PV.str z.head, PV.lst (z.row.map PV.int)] from rfl]
  walk_at "wp"
  refine dZ ok.a0 (by rw [length_map, hm]; exact ok.a1) fun p hp => ?_
  obtain ⟨y, hy, rfl⟩ := mem_map.mp hp
  walk_at "wp"
  have hn := ok.n
  refine ⟨by omega, HF hm ok.r fun xs s' xl hxs => ?_⟩
  walk_at "wp"
  have hnew : Let := ⟨y, z.day, z.head, xs⟩
  refine ⟨⟨hV xs 6, all_eq_true.mpr fun p hp => by obtain ⟨l, _, rfl⟩ := mem_map.mp hp; exact UB l⟩, fun _ => ⟨by omega, ls ++ [⟨y, z.day, z.head, xs⟩], _, _, _, _, _, by rw [length_append]; simp; omega, fun l hl' => ?_, by rw [map_append]; rfl⟩, fun _ => ⟨ls, _, _, _, _, _, by omega, hls, rfl⟩⟩
  rcases mem_append.mp hl' with g | g
  ·exact hls l g
  ·rw [mem_singleton.mp g]; exact ⟨by rw [show (Let.mk y z.day z.head xs).row = xs from rfl, xl]; exact hn, hy, hxs⟩
 ·rintro e ⟨ls, v3, v4, v5, v6, v7, ll, hls, rfl⟩
  rw [length_map] at ll
  walk_at "wp"
  refine CD (by omega) fun ks k1 k2 => ?_
  walk_at "wp"
  exact q ks (by rw [k1.length_eq]; exact ll) k2 fun l h => hls l (k1.mem_iff.mp h)
end
section
open PySem L2 Mr
noncomputable def jD (acc : List Let) (l : Let) : List Let := if (acc.any fun k => decide (k.name = l.name)) = true then acc else acc ++ [l]
noncomputable def st (qs : List Let) : List Let := qs.foldl jD []
noncomputable def EF (acc : List Let) : List (Key × PV) := acc.map fun l => (Sum.inr l.name, lP l)
theorem A9 (acc : List Let) (x : Str) : (cC (EF acc) (Sum.inr x)).isSome = acc.any fun k => decide (k.name = x) := by
 unfold cC EF
 induction acc with
 | nil => rfl
 | cons l acc ih =>
  rw [map_cons, find?_cons, any_cons]
  by_cases h : l.name = x
  ·subst h; simp
  ·have h' : ¬ (Sum.inr l.name : Key) = Sum.inr x := fun z => h (Sum.inr.inj z)
   rw [decide_eq_false h', decide_eq_false h, Bool.false_or]
   exact ih
theorem BY {acc : List Let} {l : Let} (h : (acc.any fun k => decide (k.name = l.name)) = false) : eU (EF acc) (Sum.inr l.name) (lP l) = EF (acc ++ [l]) := by
 unfold eU
 have e : ((EF acc).any fun kv => decide (kv.1 = Sum.inr l.name)) = false := by
  rw [<- h]
  unfold EF
  rw [any_map]
  congr 1
  funext k
  simp
 rw [e, if_neg Bool.false_ne_true]
 unfold EF
 rw [map_append]; rfl
theorem BE (qs : List Let) (i : Nat) (l : Let) (h : qs[i]? = some l) : st (qs.take (i + 1)) = jD (st (qs.take i)) l := by
 unfold st
 rw [take_succ, h, toList_some, foldl_append]; rfl
theorem nJ (qs : List Let) : (st qs).length <= qs.length := by
 have key : ∀ (l k : List Let), (l.foldl jD k).length <= k.length + l.length := by
  intro l
  induction l with
  | nil => intro k; exact le_refl _
  | cons x l ih =>
   intro k
   have := ih (jD k x)
   have h : (jD k x).length <= k.length + 1 := by
    unfold jD; split
    ·omega
    ·rw [length_append]; exact le_refl _
   rw [foldl_cons, length_cons]; omega
 have := key qs []
 simpa [st] using this
theorem pI {l : Let} (h : l ∈ st qs) : l ∈ qs := by
 have key : ∀ (xs k : List Let), l ∈ xs.foldl jD k -> l ∈ k \/ l ∈ xs := by
  intro xs
  induction xs with
  | nil => intro k h; exact .inl h
  | cons x xs ih =>
   intro k h
   rcases ih _ h with g | g
   ·unfold jD at g
    split at g
    ·exact .inl g
    ·rcases mem_append.mp g with g | g
     ·exact .inl g
     ·exact .inr (by rw [mem_singleton.mp g]; exact mem_cons_self)
   ·exact .inr (mem_cons_of_mem _ g)
 exact (key qs [] h).resolve_left (fun z => nomatch z)
theorem w4 (acc : List Let) : (EF acc).map (·.2) = acc.map lP := by unfold EF; rw [map_map]; rfl
theorem nN {qs : List Let} (hl : qs.length <= 100) (q : Q (.tup ((st qs).map lP), [])) : Wp (fH [.tup (qs.map lP)]) Q := by
 unfold fH k8
 walk_at "wp"
 refine fQ (fun i e => ∃ v2, e = [some (Sl.val (PV.tup (qs.map lP))), some (Sl.loc (PV.bG (EF (st (qs.take i))))), v2]) ?_ ?_ ⟨_, rfl⟩
 ·rintro i x e hx ⟨v2, rfl⟩
  rw [getElem?_map] at hx
  obtain ⟨l, hk, rfl⟩ := map_eq_some_iff.mp hx
  have hi := (List.getElem?_eq_some_iff.mp hk).1
  have hs := BE qs i l hk
  have hlen := nJ (qs.take i)
  rw [length_take] at hlen
  rw [show lP l = PV.tup [PV.str l.name, PV.int l.day, PV.str l.head, PV.tup (l.row.map PV.str)] from rfl]
  walk_at "wp"
  rw [A9]
  rw [hs]
  unfold jD
  cases g : (st (qs.take i)).any fun k => decide (k.name = l.name) with
  | true => exact ⟨fun z => (by cases z), fun _ => ⟨_, by rw [if_pos rfl]⟩⟩
  | false =>
   refine ⟨fun _ => ⟨by unfold EF; rw [length_map]; omega, some (Sl.val (lP l)), ?_⟩, fun z => (by cases z)⟩
   rw [if_neg Bool.false_ne_true]
   have := BY g
   rw [<- this]; rfl
 ·rintro e ⟨v2, rfl⟩
  rw [length_map, take_length]
  walk_at "wp"
  rw [w4]
  exact q
theorem uT {qs : List Let} (hl : qs.length <= 100) (q : Q (.lst ((st qs).map lP), [])) : Wp (cS [.tup (qs.map lP)]) Q := by
 unfold cS gF
 walk_at "wp"
 refine fQ (fun i e => ∃ v2, e = [some (Sl.val (PV.tup (qs.map lP))), some (Sl.loc (PV.bG (EF (st (qs.take i))))), v2]) ?_ ?_ ⟨_, rfl⟩
 ·rintro i x e hx ⟨v2, rfl⟩
  rw [getElem?_map] at hx
  obtain ⟨l, hk, rfl⟩ := map_eq_some_iff.mp hx
  have hi := (List.getElem?_eq_some_iff.mp hk).1
  have hs := BE qs i l hk
  have hlen := nJ (qs.take i)
  rw [length_take] at hlen
  rw [show lP l = PV.tup [PV.str l.name, PV.int l.day, PV.str l.head, PV.tup (l.row.map PV.str)] from rfl]
  walk_at "wp"
  rw [A9]
  rw [hs]
  unfold jD
  cases g : (st (qs.take i)).any fun k => decide (k.name = l.name) with
  | true => exact ⟨fun z => (by cases z), fun _ => ⟨_, by rw [if_pos rfl]⟩⟩
  | false =>
   refine ⟨fun _ => ⟨by unfold EF; rw [length_map]; omega, some (Sl.val (lP l)), ?_⟩, fun z => (by cases z)⟩
   rw [if_neg Bool.false_ne_true]
   have := BY g
   rw [<- this]; rfl
 ·rintro e ⟨v2, rfl⟩
  rw [length_map, take_length]
  walk_at "wp"
  rw [w4]
  exact q
noncomputable def HZ (own : Str) (row : List Str) (k : Nat) : List Str := (List.range k).filterMap fun i => (row[i]?).bind fun x => if x ≠ own /\ x ∉ row.drop (i + 1) then some x else none
noncomputable def el (l : Let) : List Str := HZ l.name l.row l.row.length
theorem qR {own : Str} {row : List Str} (h : row[i]? = some x) : HZ own row (i + 1) = HZ own row i ++ (if x ≠ own /\ x ∉ row.drop (i + 1) then [x] else []) := by
 unfold HZ
 rw [List.range_succ, List.filterMap_append]
 congr 1
 rw [filterMap_cons, h, bind_some]
 split
 ·rename_i e; split at e
  ·cases e
  ·rename_i g; rw [if_neg g]; rfl
 ·rename_i e; split at e
  ·rename_i g; cases e; rw [if_pos g]; rfl
  ·cases e
theorem sV {l : Let} (hl : l.row.length <= 9) (q : Q (.tup ((el l).map PV.str), [])) : Wp (iK [lP l]) Q := by
 unfold iK qT
 rw [show lP l = PV.tup [PV.str l.name, PV.int l.day, PV.str l.head, PV.tup (l.row.map PV.str)] from rfl]
 walk_at "wp"
 refine ⟨by rw [length_zipIdx, length_map]; omega, ?_⟩
 refine eY (fun i acc e => acc = (HZ l.name l.row i).map PV.str /\ ∃ v0 v1, e = [v0, v1, some (Sl.val (PV.str l.name)), some (Sl.val (PV.tup (l.row.map PV.str)))]) ?_ ?_ ⟨rfl, _, _, rfl⟩
 ·rintro i x e acc hx ⟨rfl, v0, v1, rfl⟩
  rw [getElem?_map, getElem?_zipIdx, getElem?_map, Option.map_map, Option.map_map] at hx
  obtain ⟨y, hy, rfl⟩ := map_eq_some_iff.mp hx
  have hi := (List.getElem?_eq_some_iff.mp hy).1
  have hs := qR (own := l.name) hy
  simp only [Function.comp_apply]
  walk_at "wp"
  rw [show (((0 + i : Nat) : Int) + 1) = ((i + 1 : Nat) : Int) by omega, qI, <- map_drop, oV, hs]
  have ok8 := hV (l.row.drop (i + 1)) 8
  by_cases h1 : y = l.name
  ·refine ⟨fun z => absurd z (by simp [h1]), fun _ => ⟨?_, _, _, rfl⟩⟩
   rw [if_neg (fun z => z.1 h1), append_nil]
  ·refine ⟨fun _ => ⟨ok8, ?_⟩, fun z => absurd z (by simp [h1])⟩
   by_cases h2 : y ∈ l.row.drop (i + 1)
   ·rw [decide_eq_true h2]
    refine ⟨?_, _, _, rfl⟩
    rw [if_neg (fun z => z.2 h2), append_nil]
   ·rw [decide_eq_false h2]
    refine ⟨?_, _, _, rfl⟩
    rw [if_pos ⟨h1, h2⟩, map_append]; rfl
 ·rintro acc e ⟨rfl, v0, v1, rfl⟩
  rw [length_map, length_zipIdx, length_map]
  walk_at "wp"
  exact q
theorem B8 {l : Let} (hl : l.row.length <= 9) (q : Q (.lst ((el l).map PV.str), [])) : Wp (eC [lP l]) Q := by
 unfold eC mW
 rw [show lP l = PV.tup [PV.str l.name, PV.int l.day, PV.str l.head, PV.tup (l.row.map PV.str)] from rfl]
 walk_at "wp"
 refine ⟨gC (by omega) (by omega), by omega, ?_⟩
 rw [toNat_natCast]
 refine eY (fun i acc e => acc = (HZ l.name l.row i).map PV.str /\ ∃ v0, e = [v0, some (Sl.val (PV.tup (l.row.map PV.str))), some (Sl.val (PV.tup [PV.str l.name, PV.int l.day, PV.str l.head, PV.tup (l.row.map PV.str)]))]) ?_ ?_ ⟨rfl, _, rfl⟩
 ·rintro i x e acc hx ⟨rfl, v0, rfl⟩
  rw [getElem?_map] at hx
  obtain ⟨k, hk, rfl⟩ := map_eq_some_iff.mp hx
  have hi := (List.getElem?_eq_some_iff.mp hk).1
  have ek := (List.getElem?_eq_some_iff.mp hk).2
  rw [length_range] at hi
  rw [List.getElem_range] at ek
  subst ek
  have hy : l.row[i]? = some l.row[i] := getElem?_eq_getElem hi
  have hs := qR (own := l.name) hy
  generalize l.row[i] = y at hy hs
  have ea : lK (l.row.map PV.str) (0 + (i : Int)) = some (.str y) := by rw [Int.zero_add]; exact fU (by rw [getElem?_map, hy]; rfl)
  walk_at "wp"
  rw [ea]
  walk_at "wp"
  have ok8 := hV (l.row.drop (i + 1)) 8
  by_cases h1 : y = l.name
  ·refine ⟨fun z => absurd z (by simp [h1]), fun _ => ⟨?_, _, rfl⟩⟩
   rw [hs, if_neg (fun z => z.1 h1), append_nil]
  ·refine ⟨fun _ => ?_, fun z => absurd z (by simp [h1])⟩
   rw [ea]
   walk_at "wp"
   rw [show (0 + (i : Int) + 1) = ((i + 1 : Nat) : Int) by omega, qI, <- map_drop, oV, hs]
   refine ⟨ok8, ?_⟩
   by_cases h2 : y ∈ l.row.drop (i + 1)
   ·rw [decide_eq_true h2]
    refine ⟨?_, _, rfl⟩
    rw [if_neg (fun z => z.2 h2), append_nil]
   ·rw [decide_eq_false h2]
    simp only [Bool.not_false]
    rw [ea]
    walk_at "wp"
    refine ⟨?_, _, rfl⟩
    rw [if_pos ⟨h1, h2⟩, map_append]; rfl
 ·rintro acc e ⟨rfl, v0, rfl⟩
  rw [length_map, length_range]
  walk_at "wp"
  exact q
end
section
open PySem L2 Mr
noncomputable def oP : Option Str -> PV
 | none => .bF
 | some x => .str x
noncomputable abbrev Hl := List (Str × Option Str)
noncomputable def pA (hs : Hl) : List (Key × PV) := hs.map fun z => (Sum.inr z.1, oP z.2)
theorem BS (hs : Hl) (x : Str) : (cC (pA hs) (Sum.inr x) = none /\ x ∉ hs.map (·.1)) \/ ∃ o, cC (pA hs) (Sum.inr x) = some (oP o) /\ (x, o) ∈ hs := by
 unfold cC pA
 induction hs with
 | nil => exact .inl ⟨rfl, fun h => nomatch h⟩
 | cons z hs ih =>
  rw [map_cons, find?_cons]
  by_cases h : z.1 = x
  ·right
   subst h
   exact ⟨z.2, by simp, mem_cons_self⟩
  ·have h' : ¬ (Sum.inr z.1 : Key) = Sum.inr x := fun e => h (Sum.inr.inj e)
   rw [decide_eq_false h']
   rcases ih with ⟨a, b⟩ | ⟨o, a, b⟩
   ·exact .inl ⟨a, fun e => by rcases mem_cons.mp e with e | e; exact h e.symm; exact b e⟩
   ·exact .inr ⟨o, a, mem_cons_of_mem _ b⟩
theorem LC (h : x ∉ hs.map (·.1)) : eU (pA hs) (Sum.inr x) (oP o) = pA (hs ++ [(x, o)]) := by
 unfold eU
 have e : ((pA hs).any fun kv => decide (kv.1 = Sum.inr x)) = false := by
  unfold pA
  rw [any_map, any_eq_false]
  intro z hz
  have : z.1 ≠ x := fun e => h (mem_map.mpr ⟨z, hz, e⟩)
  simp [this]
 rw [e, if_neg Bool.false_ne_true]
 unfold pA
 rw [map_append]; rfl
theorem sA {hs : Hl} {o : Option Str} (hl : hs.length <= 60) (q : ∀ b, Q (.bl b, [])) : Wp (fB [.bG (pA hs), oP o, .str x]) Q := by
 unfold fB i7
 walk_at "wp"
 have hk : (pA hs).length = hs.length := by unfold pA; rw [length_map]
 refine ⟨gC (by omega) (by omega), ?_⟩
 refine fQ (fun i e => ∃ (o : Option Str) (v3 : Option Sl), e = [some (Sl.bor (PV.bG (pA hs))), some (Sl.val (oP o)), some (Sl.val (PV.str x)), v3]) ?_ ?_ ⟨o, _, by cases o <;> rfl⟩
 ·rintro i p e hx ⟨o, v3, rfl⟩
  cases o with
  | none =>
   rw [show oP none = PV.bF from rfl]
   walk_at "wp"
   exact q _
  | some y =>
   rw [show oP (some y) = PV.str y from rfl]
   walk_at "wp"
   refine ⟨fun _ => q _, fun _ => ?_⟩
   rcases BS hs y with ⟨a, _⟩ | ⟨o, a, _⟩
   ·exact ⟨none, _, by rw [a]; rfl⟩
   ·exact ⟨o, _, by rw [a]; rfl⟩
 ·rintro e ⟨o, v3, rfl⟩
  walk_at "wp"
  exact q _
structure V1 (ss : List Str) (hs : Hl) : Prop where
 nd : (hs.map (·.1)).Nodup
 nm : ∀ z ∈ hs, z.1 ∈ ss /\ ∀ y, z.2 = some y -> y ∈ ss
noncomputable def mP (hs : Hl) : List PV := hs.map fun z => .tup [.str z.1, oP z.2]
theorem C0 (hs : Hl) : bD (pA hs) = mP hs := by unfold bD pA mP; rw [map_map]; rfl
theorem U2 (z : Str × Option Str) : mR 3 (.tup [.str z.1, oP z.2]) = true := by
 show ([PV.str z.1, oP z.2].all (mR 2)) = true
 cases z.2 <;> rfl
theorem SD (h : (hs.map (·.1)).Nodup) : dC 3 (mP hs) = true := all_eq_true.mpr fun p hp => by
 obtain ⟨z, hz, rfl⟩ := mem_map.mp hp
 rw [and_eq_true]
 refine ⟨U2 z, all_eq_true.mpr fun q hq => ?_⟩
 obtain ⟨w, hw, rfl⟩ := mem_map.mp hq
 show (dG (mF 2) [PV.str z.1, oP z.2] [PV.str w.1, oP w.2]).isSome = true
 unfold dG
 split
 ·rename_i e
  rw [uK] at e
  have e1 : z.1 = w.1 := eq_of_beq e
  have e2 : z = w := by
   have key : ∀ (l : Hl), (l.map (·.1)).Nodup -> ∀ a ∈ l, ∀ b ∈ l, a.1 = b.1 -> a = b := by
    intro l
    induction l with
    | nil => intro _ a ha; cases ha
    | cons c l ih =>
     intro hn a ha b hb hab
     rw [map_cons, nodup_cons] at hn
     rcases mem_cons.mp ha with rfl | ha
     ·rcases mem_cons.mp hb with rfl | hb
      ·rfl
      ·exact absurd (mem_map.mpr ⟨b, hb, hab.symm⟩) hn.1
     ·rcases mem_cons.mp hb with e | hb
      ·exact absurd (mem_map.mpr ⟨a, ha, by rw [hab, e]⟩) hn.1
      ·exact ih hn.2 a ha b hb hab
   exact key hs h z hz w hw e1
  subst e2
  unfold dG
  rw [if_pos (lR (n := 0) (by cases z.2 <;> rfl))]
  rfl
 ·rfl
theorem QB (hs : Hl) : (mP hs).all (kW true) = true := all_eq_true.mpr fun p hp => by obtain ⟨z, _, rfl⟩ := mem_map.mp hp; rfl
theorem MN {ps : List PV} (h : ps.Perm (mP hs)) : ∃ ks : Hl, ks.Perm hs /\ ps = mP ks := by
 have key : ∀ (ps : List PV) (ls : Hl), ps.Perm (mP ls) -> ∃ ks : Hl, ks.Perm ls /\ ps = mP ks := by
  intro ps
  induction ps with
  | nil => intro ls h; have := h.nil_eq; unfold mP at this; rw [List.eq_nil_of_map_eq_nil this.symm]; exact ⟨[], .refl _, rfl⟩
  | cons p ps ih =>
   intro ls h
   obtain ⟨l, hl, e⟩ := mem_map.mp (h.mem_iff.mp mem_cons_self)
   subst e
   have h2 : (PV.tup [.str l.1, oP l.2] :: ps).Perm (mP (l :: ls.erase l)) := h.trans ((perm_cons_erase hl).map _)
   obtain ⟨ks, k1, k2⟩ := ih _ (h2.cons_inv)
   exact ⟨l :: ks, (k1.cons l).trans (perm_cons_erase hl).symm, by rw [k2]; rfl⟩
 exact key ps hs h
theorem IQ {a b c many : Int} (h : Hand a b c n) (hs0 : 0 < ss.length) (hs1 : ss.length <= 60) (m0 : 0 <= many) (m1 : many <= 40) (hn : n < 100000)
  (q : ∀ (hs : Hl) a' b' c', hs.length <= many.toNat -> V1 ss hs -> Hand a' b' c' (n + 130) -> Q (.tup (mP hs), [hd a' b' c'])) : Wp (fP [hd a b c, .lst (ss.map PV.str), .int many]) Q := by
 unfold fP jI
 walk_at "wp"
 refine ⟨gC (by omega) (by omega), ?_⟩
 refine fQ (fun i e => ∃ (hs : Hl) (a b c : Int) (v4 v5 v6 : Option Sl), hs.length <= i /\ V1 ss hs /\ Hand a b c (n + 3 * i) /\ e = [some (.own (hd a b c)), some (.bor (.lst (ss.map PV.str))), some (.val (.int many)), some (.loc (.bG (pA hs))), v4, v5, v6]) ?_ ?_ ⟨[], a, b, c, _, _, _, le_refl _, ⟨nodup_nil, fun _ h => (nomatch h)⟩, h, rfl⟩
 ·rintro i x e hx ⟨hs, a, b, c, v4, v5, v6, hl, ok, hp, rfl⟩
  rw [getElem?_map] at hx
  obtain ⟨k, hk, rfl⟩ := map_eq_some_iff.mp hx
  have hi := (List.getElem?_eq_some_iff.mp hk).1
  rw [length_range] at hi
  walk_at "wp"
  refine cN hp (by omega) (by omega) (by omega) fun d a1 b1 c1 d0 d1 hp => ?_
  walk_at "wp"
  refine dZ d0 (by rw [length_map]; exact d1) fun p hp' => ?_
  obtain ⟨x, hx, rfl⟩ := mem_map.mp hp'
  walk_at "wp"
  refine cN hp (by omega) (by omega) (by omega) fun d a1 b1 c1 d0 d1 hp => ?_
  walk_at "wp"
  refine dZ d0 (by rw [length_map]; exact d1) fun p hp' => ?_
  obtain ⟨y, hy, rfl⟩ := mem_map.mp hp'
  walk_at "wp"
  refine cN hp (by omega) (by decide) (by decide) fun d a1 b1 c1 d0 d1 hp => ?_
  walk_at "wp"
  have aH : ∀ p6 : PV, ∃ (hs' : Hl) (a b c : Int) (v4 v5 v6 : Option Sl), hs'.length <= i + 1 /\ V1 ss hs' /\ Hand a b c (n + 3 * (i + 1)) /\ [some (Sl.own (hd a1 b1 c1)), some (Sl.bor (PV.lst (ss.map PV.str))), some (Sl.val (PV.int many)), some (Sl.loc (PV.bG (pA hs))), some (Sl.val (PV.int (0 + (k : Int)))), some (Sl.val (PV.str x)), some (Sl.val p6)] = [some (.own (hd a b c)), some (.bor (.lst (ss.map PV.str))), some (.val (.int many)), some (.loc (.bG (pA hs'))), v4, v5, v6] := fun p6 =>
   ⟨hs, a1, b1, c1, _, _, _, by omega, ok, hp.mono (by omega), rfl⟩
  have put : ∀ o : Option Str, (∀ y, o = some y -> y ∈ ss) -> (!(cC (pA hs) (Sum.inr x)).isSome) = true -> ∃ (hs' : Hl) (a b c : Int) (v4 v5 v6 : Option Sl), hs'.length <= i + 1 /\ V1 ss hs' /\ Hand a b c (n + 3 * (i + 1)) /\ [some (Sl.own (hd a1 b1 c1)), some (Sl.bor (PV.lst (ss.map PV.str))), some (Sl.val (PV.int many)), some (Sl.loc (PV.bG (eU (pA hs) (Sum.inr x) (oP o)))), some (Sl.val (PV.int (0 + (k : Int)))), some (Sl.val (PV.str x)), some (Sl.val (oP o))] = [some (.own (hd a b c)), some (.bor (.lst (ss.map PV.str))), some (.val (.int many)), some (.loc (.bG (pA hs'))), v4, v5, v6] := fun o ho g => by
   have hxn : x ∉ hs.map (·.1) := by
    rcases BS hs x with ⟨_, e⟩ | ⟨o, e, _⟩
    ·exact e
    ·rw [e] at g; cases g
   refine ⟨hs ++ [(x, o)], a1, b1, c1, _, _, _, by rw [length_append]; simp; omega, ⟨?_, fun z hz => ?_⟩, hp.mono (by omega), by rw [LC hxn]⟩
   ·rw [map_append]
    refine nodup_append.mpr ⟨ok.nd, by simp, fun u hu v hv e => ?_⟩
    have : v = x := by simpa using hv
    rw [e, this] at hu
    exact hxn hu
   ·rcases mem_append.mp hz with g | g
    ·exact ok.nm z g
    ·rw [mem_singleton.mp g]; exact ⟨hx, ho⟩
  have hkl : (pA hs).length < 1000000 := by unfold pA; rw [length_map]; omega
  refine ⟨fun _ => ⟨fun g => sA (o := none) (by omega) fun b => ?_, fun g => aH _⟩, fun _ => ⟨fun g => sA (o := some y) (by omega) fun b => ?_, fun g => aH _⟩⟩
  ·cases b with
   | true => walk_at "wp"; exact aH _
   | false => walk_at "wp"; exact ⟨hkl, put none (fun y e => by cases e) g⟩
  ·cases b with
   | true => walk_at "wp"; exact aH _
   | false => walk_at "wp"; exact ⟨hkl, put (some y) (fun z e => by cases e; exact hy) g⟩
 ·rintro e ⟨hs, a, b, c, v4, v5, v6, hl, ok, hp, rfl⟩
  rw [length_map, length_range] at hl hp
  walk_at "wp"
  rw [C0, QB, SD ok.nd]
  obtain ⟨ks, k1, k2⟩ := MN (cZ 3 (mP hs))
  rw [k2]
  have hk : (pA hs).length = hs.length := by unfold pA; rw [length_map]
  walk_at "wp"
  refine ⟨by omega, q ks a b c (by rw [k1.length_eq]; exact hl) ⟨(k1.map _).nodup_iff.mpr ok.nd, fun z hz => ok.nm z (k1.mem_iff.mp hz)⟩ (hp.mono (by omega))⟩
end
section
open PySem L2 Mr
structure jF where
 key : Str
 day : Int
 name : Str
 at' : Int
noncomputable def tP (t : jF) : PV := .tup [.int t.day, .str t.name, .int t.at']
noncomputable def PC (l : Let) (z : Str × Nat) : Option jF := if 0 < z.2 then some ⟨z.1, l.day, l.name, (z.2 : Int)⟩ else none
noncomputable def rB (l : Let) (j : Nat) : List jF := ((el l).zipIdx.take j).filterMap (PC l)
noncomputable def j4 (l : Let) : List jF := (el l).zipIdx.filterMap (PC l)
noncomputable def cM (qs : List Let) : List jF := (st qs).flatMap j4
noncomputable def eJ (x : Str) (ts : List jF) : List jF := ts.filter fun t => decide (t.key = x)
noncomputable def AS (ts : List jF) : DD := ts.foldl (fun d t => j7 d (Sum.inr t.key) (tP t)) []
theorem JC (ts : List jF) (t : jF) : AS (ts ++ [t]) = j7 (AS ts) (Sum.inr t.key) (tP t) := by unfold AS; rw [foldl_append]; rfl
theorem CV {l : Let} {j : Nat} {n : Str} (h : (el l)[j]? = some n) : rB l (j + 1) = rB l j ++ (if 0 < j then [⟨n, l.day, l.name, (j : Int)⟩] else []) := by
 unfold rB
 have e : (el l).zipIdx[j]? = some (n, j) := by rw [getElem?_zipIdx, h]; simp
 rw [take_succ, e, toList_some, List.filterMap_append]
 congr 1
 rw [filterMap_cons, show PC l (n, j) = if 0 < j then some ⟨n, l.day, l.name, (j : Int)⟩ else none from rfl]
 by_cases g : 0 < j
 ·rw [if_pos g, if_pos g]; rfl
 ·rw [if_neg g, if_neg g]; rfl
theorem wO (l : Let) : rB l (el l).length = j4 l := by
 unfold rB j4
 rw [take_of_length_le (by rw [length_zipIdx]; exact le_refl _)]
theorem vW {f : α -> List β} {xs : List α} {x : α} (h : xs[i]? = some x) : (xs.take (i + 1)).flatMap f = (xs.take i).flatMap f ++ f x := by
 rw [take_succ, h, toList_some, List.flatMap_append]
 simp
theorem AX {f : α -> List β} {k : Nat} : ∀ {xs : List α}, (∀ x ∈ xs, (f x).length <= k) -> (xs.flatMap f).length <= k * xs.length
 | [], _ => by simp
 | x :: xs, h => by
  have := AX (f := f) (k := k) (xs := xs) fun y hy => h y (mem_cons_of_mem _ hy)
  have := h x mem_cons_self
  rw [flatMap_cons, length_append, length_cons, Nat.mul_succ]
  omega
theorem yK (l : Let) : (el l).length <= l.row.length := by
 unfold el HZ
 have := List.length_filterMap_le (fun i => (l.row[i]?).bind fun x => if x ≠ l.name /\ x ∉ l.row.drop (i + 1) then some x else none) (List.range l.row.length)
 rw [length_range] at this
 exact this
theorem xS (l : Let) (j : Nat) : (rB l j).length <= (el l).length := by
 unfold rB
 refine le_trans (List.length_filterMap_le _ _) ?_
 rw [length_take, length_zipIdx]
 omega
theorem NY (l : Let) : (j4 l).length <= (el l).length := by rw [<- wO]; exact xS l _
noncomputable def lk (d : DD) (k : Key) : List PV := ((d.find? fun kp => decide (kp.1 = k)).map (·.2)).getD []
theorem SK (d : DD) (k k' : Key) (p : PV) : lk (j7 d k p) k' = if k = k' then lk d k' ++ [p] else lk d k' := by
 unfold j7
 cases c : d.any fun kp => decide (kp.1 = k) with
 | true =>
  rw [if_pos rfl]
  have key : ∀ d : DD, (d.map fun kp => if kp.1 = k then (kp.1, kp.2 ++ [p]) else kp).find? (fun kp => decide (kp.1 = k')) = (d.find? fun kp => decide (kp.1 = k')).map fun kp => if kp.1 = k then (kp.1, kp.2 ++ [p]) else kp := by
   intro d
   induction d with
   | nil => rfl
   | cons z d ih =>
    have e1 : (if z.1 = k then (z.1, z.2 ++ [p]) else z).1 = z.1 := by split <;> rfl
    rw [map_cons, find?_cons, find?_cons, e1]
    cases decide (z.1 = k') with
    | true => rfl
    | false => exact ih
  unfold lk
  rw [key]
  by_cases hk : k = k'
  ·subst hk
   rw [if_pos rfl]
   cases f : d.find? fun kp => decide (kp.1 = k) with
   | none =>
    have := find?_eq_none.mp f
    obtain ⟨z, hz, e⟩ := any_eq_true.mp c
    exact absurd e (by simpa using this z hz)
   | some z =>
    have hz : z.1 = k := by have := find?_some f; simpa using this
    simp [hz]
  ·rw [if_neg hk]
   cases f : d.find? fun kp => decide (kp.1 = k') with
   | none => rfl
   | some z =>
    have hz : z.1 = k' := by have := find?_some f; simpa using this
    have : ¬ z.1 = k := fun e => hk (e.symm.trans hz)
    simp [this]
 | false =>
  rw [if_neg Bool.false_ne_true]
  unfold lk
  rw [List.find?_append]
  by_cases hk : k = k'
  ·subst hk
   rw [if_pos rfl]
   have f : (d.find? fun kp => decide (kp.1 = k)) = none := find?_eq_none.mpr fun z hz => by
    have := any_eq_false.mp c z hz
    simpa using this
   rw [f]
   simp
  ·rw [if_neg hk]
   have f : ([(k, [p])] : DD).find? (fun kp => decide (kp.1 = k')) = none := by simp [hk]
   rw [f, or_none]
theorem FQ (ts : List jF) (x : Str) : lk (AS ts) (Sum.inr x) = (eJ x ts).map tP := by
 have key : ∀ (ts : List jF) (d : DD), lk (ts.foldl (fun d t => j7 d (Sum.inr t.key) (tP t)) d) (Sum.inr x) = lk d (Sum.inr x) ++ (eJ x ts).map tP := by
  intro ts
  induction ts with
  | nil => intro d; simp [eJ]
  | cons t ts ih =>
   intro d
   rw [foldl_cons, ih, SK]
   unfold eJ
   by_cases h : t.key = x
   ·rw [if_pos (by rw [h]), List.filter_cons_of_pos (by simpa using h), map_cons, append_assoc]; rfl
   ·rw [if_neg (fun e => h (Sum.inr.inj e)), List.filter_cons_of_neg (by simpa using h)]
 have := key ts []
 simpa [AS, lk] using this
theorem I0 (d : DD) (k : Key) : (cC (d.map fun kp => (kp.1, PV.lst kp.2)) k).getD (.lst []) = .lst (lk d k) := by
 unfold cC lk
 induction d with
 | nil => rfl
 | cons z d ih =>
  rw [map_cons, find?_cons, find?_cons]
  cases decide (z.1 = k) with
  | true => rfl
  | false => exact ih
theorem KL (d : DD) (k : Key) (p : PV) {m : Nat} (h1 : d.length <= m) (h2 : ∀ kp ∈ d, kp.2.length <= m) : (j7 d k p).length <= m + 1 /\ ∀ kp ∈ j7 d k p, kp.2.length <= m + 1 := by
 unfold j7
 split
 ·refine ⟨by rw [length_map]; omega, fun kp hk => ?_⟩
  obtain ⟨z, hz, rfl⟩ := mem_map.mp hk
  have := h2 z hz
  split
  ·rw [length_append]; simp only [length_cons, length_nil]; omega
  ·omega
 ·refine ⟨by rw [length_append]; simp only [length_cons, length_nil]; omega, fun kp hk => ?_⟩
  rcases mem_append.mp hk with h | h
  ·have := h2 kp h; omega
  ·rw [mem_singleton.mp h]; simp
theorem M5 (ts : List jF) : (AS ts).length <= ts.length /\ ∀ kp ∈ AS ts, kp.2.length <= ts.length := by
 have key : ∀ (ts : List jF) (d : DD) (m : Nat), d.length <= m -> (∀ kp ∈ d, kp.2.length <= m) -> (ts.foldl (fun d t => j7 d (Sum.inr t.key) (tP t)) d).length <= m + ts.length /\ ∀ kp ∈ ts.foldl (fun d t => j7 d (Sum.inr t.key) (tP t)) d, kp.2.length <= m + ts.length := by
  intro ts
  induction ts with
  | nil => intro d m h1 h2; exact ⟨h1, h2⟩
  | cons t ts ih =>
   intro d m h1 h2
   obtain ⟨g1, g2⟩ := KL d (Sum.inr t.key) (tP t) h1 h2
   have := ih _ (m + 1) g1 g2
   rw [foldl_cons, length_cons]
   rw [show m + (ts.length + 1) = m + 1 + ts.length by omega]
   exact this
 have := key ts [] 0 (le_refl _) (fun _ h => (nomatch h))
 rw [zero_add] at this
 exact this
theorem sD {own : Str} {row : List Str} : ∀ k, k <= row.length -> (HZ own row k).Nodup /\ ∀ x ∈ HZ own row k, ∃ i, i < k /\ row[i]? = some x /\ x ∉ row.drop (i + 1)
 | 0, _ => ⟨by unfold HZ; simp, fun x h => by unfold HZ at h; simp at h⟩
 | k + 1, hk => by
  obtain ⟨h1, h2⟩ := sD (own := own) (row := row) k (by omega)
  have hx : row[k]? = some row[k] := getElem?_eq_getElem (by omega)
  rw [qR hx]
  split
  ·rename_i g
   refine ⟨nodup_append.mpr ⟨h1, by simp, fun u hu v hv e => ?_⟩, fun x h => ?_⟩
   ·have hv' : v = row[k] := by simpa using hv
    obtain ⟨i, i1, i2, i3⟩ := h2 u hu
    refine i3 ?_
    rw [e, hv']
    have : row[k]? = (row.drop (i + 1))[k - (i + 1)]? := by rw [getElem?_drop]; congr 1; omega
    exact mem_of_getElem? (this.symm.trans hx)
   ·rcases mem_append.mp h with h | h
    ·obtain ⟨i, i1, i2, i3⟩ := h2 x h
     exact ⟨i, by omega, i2, i3⟩
    ·have : x = row[k] := by simpa using h
     exact ⟨k, by omega, by rw [this]; exact hx, by rw [this]; exact g.2⟩
  ·refine ⟨by rw [append_nil]; exact h1, fun x h => ?_⟩
   rw [append_nil] at h
   obtain ⟨i, i1, i2, i3⟩ := h2 x h
   exact ⟨i, by omega, i2, i3⟩
theorem pE (l : Let) : (el l).Nodup := (sD _ (le_refl _)).1
theorem u4 (l : Let) : ∀ zs : List (Str × Nat), ((zs.filterMap (PC l)).map (·.key)).Sublist (zs.map (·.1))
 | [] => List.Sublist.refl _
 | z :: zs => by
  rw [filterMap_cons, map_cons]
  unfold PC
  by_cases h : 0 < z.2
  ·rw [if_pos h]; exact (u4 l zs).cons_cons _
  ·rw [if_neg h]; exact (u4 l zs).cons _
theorem MG {xs : List Str} (nd : xs.Nodup) (h : ∀ y ∈ xs, y = x) : xs.length <= 1 := by
 match xs, nd, h with
 | [], _, _ => simp
 | [_], _, _ => simp
 | a :: b :: r, nd, h =>
  have h1 := h a (by simp)
  have h2 := h b (by simp)
  rw [nodup_cons] at nd
  exact absurd (by rw [h1, h2]; simp) nd.1
theorem tR (l : Let) (x : Str) : (eJ x (j4 l)).length <= 1 := by
 have s1 : ((eJ x (j4 l)).map (·.key)).Sublist ((j4 l).map (·.key)) := (List.filter_sublist).map _
 have s2 : ((j4 l).map (·.key)).Sublist (el l) := by
  have := u4 l (el l).zipIdx
  rw [List.zipIdx_map_fst] at this
  exact this
 have nd := (pE l).sublist (s1.trans s2)
 have := MG (x := x) nd fun y hy => by
  obtain ⟨t, ht, rfl⟩ := mem_map.mp hy
  exact of_decide_eq_true (mem_filter.mp ht).2
 rw [length_map] at this
 exact this
end
section
open PySem L2 Mr
theorem VL (t : jF) : mR 3 (tP t) = true := rfl
theorem VH (l k : jF) : (mF 3 (tP l) (tP k)).isSome = true := by
 show (dG (mF 2) [PV.int l.day, PV.str l.name, PV.int l.at'] [PV.int k.day, PV.str k.name, PV.int k.at']).isSome = true
 unfold dG
 split
 ·unfold dG
  split
  ·unfold dG
   split
   ·rfl
   ·rfl
  ·rfl
 ·rfl
theorem J6 (ls : List jF) : dC 3 (ls.map tP) = true := all_eq_true.mpr fun p hp => by
 obtain ⟨l, _, rfl⟩ := mem_map.mp hp
 rw [and_eq_true]
 refine ⟨VL l, all_eq_true.mpr fun q hq => ?_⟩
 obtain ⟨k, _, rfl⟩ := mem_map.mp hq
 exact VH l k
theorem FF (hr : ∀ l ∈ qs, l.row.length <= 9) (hl : qs.length <= 100) (i : Nat) : (((st qs).take i).flatMap j4).length <= 900 := by
 have := AX (f := j4) (k := 9) (xs := (st qs).take i) fun l h => by
  have := hr l (pI (List.mem_of_mem_take h))
  have := yK l
  have := NY l
  omega
 rw [length_take] at this
 have := nJ qs
 omega
theorem uN (hr : ∀ l ∈ qs, l.row.length <= 9) (hl : qs.length <= 100) (q : Q (.bG ((AS (cM qs)).map fun kp => (kp.1, PV.lst kp.2)), [])) : Wp (fV [.tup (qs.map lP)]) Q := by
 unfold fV jK
 walk_at "wp"
 refine nN hl ?_
 walk_at "wp"
 refine x4 (fun i e d => d = AS (((st qs).take i).flatMap j4) /\ ∃ v2 v3 v4, e = [some (Sl.val (PV.tup (qs.map lP))), none, v2, v3, v4]) ?_ ?_ ⟨rfl, _, _, _, rfl⟩
 ·rintro i p e d hx ⟨rfl, v2, v3, v4, rfl⟩
  rw [getElem?_map] at hx
  obtain ⟨l, hk, rfl⟩ := map_eq_some_iff.mp hx
  have hrow := hr l (pI (mem_of_getElem? hk))
  have b1 := FF hr hl i
  walk_at "wp"
  refine sV (l := l) hrow ?_
  walk_at "wp"
  refine x4 (fun j e d => d = AS (((st qs).take i).flatMap j4 ++ rB l j) /\ ∃ v3 v4, e = [some (Sl.val (PV.tup (qs.map lP))), none, some (Sl.val (lP l)), v3, v4]) ?_ ?_ ⟨by rw [show rB l 0 = [] from rfl, append_nil], _, _, rfl⟩
  ·rintro j p e d hx ⟨rfl, v3, v4, rfl⟩
   rw [getElem?_map, getElem?_zipIdx, getElem?_map] at hx
   cases hn : (el l)[j]? with
   | none => rw [hn] at hx; cases hx
   | some n =>
    rw [hn] at hx
    cases hx
    have hs := CV hn
    have b2 := xS l j
    have b3 := yK l
    have g := M5 (((st qs).take i).flatMap j4 ++ rB l j)
    rw [length_append] at g
    rw [show lP l = PV.tup [PV.str l.name, PV.int l.day, PV.str l.head, PV.tup (l.row.map PV.str)] from rfl]
    walk_at "wp"
    rw [hs, zero_add]
    refine ⟨fun hj => ?_, fun hj => ?_⟩
    ·have hj' : 0 < j := by omega
     refine ⟨⟨by omega, all_eq_true.mpr fun kp hkp => decide_eq_true (by have := g.2 kp hkp; omega)⟩, ?_, _, _, rfl⟩
     rw [if_pos hj', <- append_assoc, JC]; rfl
    ·have hj' : ¬ 0 < j := by omega
     refine ⟨?_, _, _, rfl⟩
     rw [if_neg hj', append_nil]
  ·rintro e d ⟨rfl, v3, v4, rfl⟩
   walk_at "wp"
   rw [length_zipIdx, length_map, wO, vW hk]
   exact ⟨rfl, _, _, _, rfl⟩
 ·rintro e d ⟨rfl, v2, v3, v4, rfl⟩
  rw [length_map, take_length]
  walk_at "wp"
  exact q
end
section
open PySem L2 Mr
theorem EI (xs : List Str) : (cO xs).Nodup := by
 have key : ∀ (l k : List Str), k.Nodup -> (l.foldl lY k).Nodup := by
  intro l
  induction l with
  | nil => intro k h; exact h
  | cons x l ih =>
   intro k h
   rw [foldl_cons]
   refine ih _ ?_
   unfold lY
   split
   ·exact h
   ·rename_i hx
    refine nodup_append.mpr ⟨h, by simp, fun u hu v hv e => ?_⟩
    have : v = x := by simpa using hv
    rw [e, this] at hu
    exact hx hu
 exact key xs [] nodup_nil
theorem GN (qs : List Let) : (st qs).map (·.name) = cO (qs.map (·.name)) := by
 have key : ∀ (xs k : List Let), (xs.foldl jD k).map (·.name) = (xs.map (·.name)).foldl lY (k.map (·.name)) := by
  intro xs
  induction xs with
  | nil => intro k; rfl
  | cons x xs ih =>
   intro k
   rw [foldl_cons, ih, map_cons, foldl_cons]
   congr 1
   unfold jD lY
   by_cases h : x.name ∈ k.map (·.name)
   ·have : (k.any fun y => decide (y.name = x.name)) = true := by
     obtain ⟨y, hy, e⟩ := mem_map.mp h
     exact any_eq_true.mpr ⟨y, hy, decide_eq_true e⟩
    rw [if_pos this, if_pos h]
   ·have : ¬ (k.any fun y => decide (y.name = x.name)) = true := fun z => by
     obtain ⟨y, hy, e⟩ := any_eq_true.mp z
     exact h (mem_map.mpr ⟨y, hy, of_decide_eq_true e⟩)
    rw [if_neg this, if_neg h, map_append]; rfl
 exact key qs []
theorem BA (qs : List Let) : ((st qs).map (·.name)).Nodup := by rw [GN]; exact EI _
noncomputable def D5 (ls : List Let) : List (Key × PV) := ls.map fun l => (Sum.inr l.name, PV.tup ((el l).map PV.str))
theorem LB {l : Let} (h : l.name ∉ ls.map (·.name)) : eU (D5 ls) (Sum.inr l.name) (PV.tup ((el l).map PV.str)) = D5 (ls ++ [l]) := by
 unfold eU
 have e : ((D5 ls).any fun kv => decide (kv.1 = Sum.inr l.name)) = false := by
  unfold D5
  rw [any_map, any_eq_false]
  intro k hk
  have : k.name ≠ l.name := fun z => h (mem_map.mpr ⟨k, hk, z⟩)
  simp [this]
 rw [e, if_neg Bool.false_ne_true]
 unfold D5
 rw [map_append]; rfl
theorem uW (ls : List Let) (x : Str) : cC (D5 ls) (Sum.inr x) = (ls.find? fun l => decide (l.name = x)).map fun l => PV.tup ((el l).map PV.str) := by
 unfold cC D5
 induction ls with
 | nil => rfl
 | cons l ls ih =>
  rw [map_cons, find?_cons, find?_cons]
  by_cases h : l.name = x
  ·subst h; simp
  ·have h' : ¬ (Sum.inr l.name : Key) = Sum.inr x := fun z => h (Sum.inr.inj z)
   rw [decide_eq_false h', decide_eq_false h]
   exact ih
theorem LH (hr : ∀ l ∈ qs, l.row.length <= 9) (hl : qs.length <= 100) (q : Q (.bG (D5 (st qs)), [])) : Wp (iT [.tup (qs.map lP)]) Q := by
 unfold iT mX
 walk_at "wp"
 refine nN hl ?_
 walk_at "wp"
 have sl := nJ qs
 refine ⟨by omega, ?_⟩
 refine pK (fun i d e => d = D5 ((st qs).take i) /\ ∃ s, e = [s]) ?_ ?_ ⟨rfl, _, rfl⟩
 ·rintro i x e d hx ⟨rfl, s, rfl⟩
  rw [getElem?_map] at hx
  obtain ⟨l, hk, rfl⟩ := map_eq_some_iff.mp hx
  have hrow := hr l (pI (mem_of_getElem? hk))
  have ok := sV (l := l) (Q := fun w => w = (PV.tup ((el l).map PV.str), [])) hrow rfl
  rw [show lP l = PV.tup [PV.str l.name, PV.int l.day, PV.str l.head, PV.tup (l.row.map PV.str)] from rfl] at ok ⊢
  walk_at "wp"
  refine ok.mono fun w hw => ?_
  subst hw
  walk_at "wp"
  refine ⟨?_, _, rfl⟩
  have nd := BA qs
  have hn : l.name ∉ ((st qs).take i).map (·.name) := fun z => by
   obtain ⟨k, hk2, e⟩ := mem_map.mp z
   obtain ⟨j, hj⟩ := List.mem_iff_getElem?.mp hk2
   rw [List.getElem?_take] at hj
   have hji : j < i := Classical.byContradiction fun z => by rw [if_neg z] at hj; cases hj
   rw [if_pos hji] at hj
   have e1 : ((st qs).map (·.name))[j]? = some l.name := by rw [getElem?_map, hj]; simp [e]
   have e2 : ((st qs).map (·.name))[i]? = some l.name := by rw [getElem?_map, hk]; rfl
   have hlt : j < ((st qs).map (·.name)).length := (List.getElem?_eq_some_iff.mp e1).1
   have := (getElem?_inj hlt nd).mp (e1.trans e2.symm)
   omega
  rw [LB hn, take_succ, hk]; rfl
 ·rintro d e ⟨rfl, s, rfl⟩
  rw [length_map, take_length]
  walk_at "wp"
  exact q
end
section
open PySem L2 Mr
theorem x3 {v : PV} (h : cC held (Sum.inr x) = some v) (q : Q (.tup [v, .tup [.str (Str.ofString "hand")]], [])) : Wp (cI [.bG held, .bG rows, .bG claimed, .str x]) Q := by
 unfold cI iP
 walk_at "wp"
 rw [h]
 walk_at "wp"
 exact ⟨fun _ => q, fun z => (by cases z)⟩
noncomputable def R7 (ps : List PV) : PV := match ps.getLast? with
 | some p => .tup [p, .tup [.str (Str.ofString "own")]]
 | none => .tup [.bF, .tup [.str (Str.ofString "first")]]
theorem BL {ps : List PV} {p : PV} (h : ps.getLast? = some p) : lK ps (-1) = some p := by
 have hne : ps ≠ [] := fun z => by rw [z] at h; cases h
 have hl : 0 < ps.length := length_pos_iff.mpr hne
 rw [List.getLast?_eq_getElem?] at h
 unfold lK
 have e : qV ps.length (-1) = some (ps.length - 1) := by
  unfold qV
  rw [if_neg (by decide), if_pos (by omega)]
  congr 1
  omega
 rw [e]
 exact h
theorem y0 {ps : List PV} (h : cC held (Sum.inr x) = none) (hr : cC rows (Sum.inr x) = some (.tup ps)) (q : Q (R7 ps, [])) : Wp (cI [.bG held, .bG rows, .bG claimed, .str x]) Q := by
 unfold cI iP
 walk_at "wp"
 rw [h, hr]
 refine ⟨fun z => (by cases z), fun _ => ⟨fun _ => ?_, fun z => (by cases z)⟩⟩
 walk_at "wp"
 cases e : ps.getLast? with
 | none =>
  have hn : ps = [] := List.getLast?_eq_none_iff.mp e
  subst hn
  exact ⟨fun z => (by cases z), fun _ => q⟩
 | some p =>
  have hn : ps.isEmpty = false := by cases ps with | nil => cases e | cons a r => rfl
  unfold R7 at q
  rw [e] at q
  refine ⟨fun _ => ?_, fun z => by rw [hn] at z; cases z⟩
  rw [BL e]
  walk_at "wp"
  exact q
theorem vY {one : Str} {at' : Int} {ts r : List PV} {e : PV} (h : cC held (Sum.inr x) = none) (hr : cC rows (Sum.inr x) = none) (hc : cC claimed (Sum.inr x) = some (.lst ts)) (h0 : 0 < ts.length) (ok : dC 3 ts = true)
  (hm : xC ts = .tup [.int d, .str one, .int at']) (ho : cC rows (Sum.inr one) = some (.tup r)) (he : lK r (at' - 1) = some e) (q : Q (.tup [e, .tup [.str (Str.ofString "told"), .str one, .int at']], [])) : Wp (cI [.bG held, .bG rows, .bG claimed, .str x]) Q := by
 unfold cI iP
 walk_at "wp"
 rw [h, hr, hc]
 refine ⟨fun z => (by cases z), fun _ => ⟨fun z => (by cases z), fun _ => ⟨fun _ => ?_, fun z => (by cases z)⟩⟩⟩
 walk_at "wp"
 rw [hm]
 refine ⟨⟨h0, ok⟩, ?_⟩
 walk_at "wp"
 rw [ho]
 walk_at "wp"
 rw [he]
 walk_at "wp"
 exact q
end
section
open PySem L2 Mr
theorem B4 (d : List (Key × PV)) (k k' : Key) (v : PV) : cC (eU d k v) k' = if k = k' then some v else cC d k' := by
 unfold eU
 cases c : d.any fun kv => decide (kv.1 = k) with
 | true =>
  rw [if_pos rfl]
  have key : ∀ d : List (Key × PV), (d.map fun kv => if kv.1 = k then (kv.1, v) else kv).find? (fun kp => decide (kp.1 = k')) = (d.find? fun kp => decide (kp.1 = k')).map fun kv => if kv.1 = k then (kv.1, v) else kv := by
   intro d
   induction d with
   | nil => rfl
   | cons z d ih =>
    have e1 : (if z.1 = k then (z.1, v) else z).1 = z.1 := by split <;> rfl
    rw [map_cons, find?_cons, find?_cons, e1]
    cases decide (z.1 = k') with
    | true => rfl
    | false => exact ih
  unfold cC
  rw [key]
  by_cases hk : k = k'
  ·subst hk
   rw [if_pos rfl]
   cases f : d.find? fun kp => decide (kp.1 = k) with
   | none =>
    have := find?_eq_none.mp f
    obtain ⟨z, hz, e⟩ := any_eq_true.mp c
    exact absurd e (by simpa using this z hz)
   | some z =>
    have hz : z.1 = k := by have := find?_some f; simpa using this
    simp [hz]
  ·rw [if_neg hk]
   cases f : d.find? fun kp => decide (kp.1 = k') with
   | none => rfl
   | some z =>
    have hz : z.1 = k' := by have := find?_some f; simpa using this
    have : ¬ z.1 = k := fun e => hk (e.symm.trans hz)
    simp [this]
 | false =>
  rw [if_neg Bool.false_ne_true]
  unfold cC
  rw [List.find?_append]
  by_cases hk : k = k'
  ·subst hk
   rw [if_pos rfl]
   have f : (d.find? fun kp => decide (kp.1 = k)) = none := find?_eq_none.mpr fun z hz => by
    have := any_eq_false.mp c z hz
    simpa using this
   rw [f]
   simp
  ·rw [if_neg hk]
   have f : ([(k, v)] : List (Key × PV)).find? (fun kp => decide (kp.1 = k')) = none := by simp [hk]
   rw [f, or_none]
noncomputable def heldOf (ks : Hl) : List (Key × PV) := ks.foldl (fun d z => eU d (Sum.inr z.1) (oP z.2)) []
theorem uG : ∀ (ks : Hl) (d : List (Key × PV)), (∀ z ∈ ks, z.1 ≠ x) -> cC (ks.foldl (fun d z => eU d (Sum.inr z.1) (oP z.2)) d) (Sum.inr x) = cC d (Sum.inr x)
 | [], d, _ => rfl
 | z :: ks, d, h => by
  rw [foldl_cons, uG ks _ fun y hy => h y (mem_cons_of_mem _ hy), B4, if_neg fun e => h z mem_cons_self (Sum.inr.inj e)]
theorem sI (h : ∀ z ∈ ks, z.1 ≠ x) : cC (heldOf ks) (Sum.inr x) = none := uG ks [] h
theorem BC : ∀ (ks : Hl) (d : List (Key × PV)), (∀ z ∈ ks, z.1 = x -> z.2 = o) -> (x, o) ∈ ks -> cC (ks.foldl (fun d z => eU d (Sum.inr z.1) (oP z.2)) d) (Sum.inr x) = some (oP o)
 | z :: ks, d, h, hm => by
  rw [foldl_cons]
  by_cases hin : (x, o) ∈ ks
  ·exact BC ks _ (fun y hy => h y (mem_cons_of_mem _ hy)) hin
  ·have hz : z = (x, o) := ((mem_cons.mp hm).resolve_right hin).symm
   rw [uG ks _ fun y hy e => hin (by have := h y (mem_cons_of_mem _ hy) e; rw [<- e, <- this]; exact hy), B4, hz, if_pos rfl]
theorem rZ (h : ∀ z ∈ ks, z.1 = x -> z.2 = o) (hm : (x, o) ∈ ks) : cC (heldOf ks) (Sum.inr x) = some (oP o) := BC ks [] h hm
end
section
open PySem L2 Mr
noncomputable abbrev OI (qs : List Let) : List (Key × PV) := (AS (cM qs)).map fun kp => (kp.1, PV.lst kp.2)
noncomputable def K2 (f : Str -> PV) (ns : List Str) : List (Key × PV) := ns.map fun x => (Sum.inr x, f x)
theorem M8 {ns : List Str} (h : x ∉ ns) : eU (K2 f ns) (Sum.inr x) (f x) = K2 f (ns ++ [x]) := by
 unfold eU
 have e : ((K2 f ns).any fun kv => decide (kv.1 = Sum.inr x)) = false := by
  unfold K2
  rw [any_map, any_eq_false]
  intro z hz
  simp only [Function.comp, decide_eq_true_eq]
  intro e
  rw [Sum.inr.inj e] at hz
  exact h hz
 rw [if_neg (by rw [e]; exact Bool.false_ne_true)]
 unfold K2
 rw [map_append]
 rfl
theorem yH {ns : List Str} (hr : ∀ l ∈ qs, l.row.length <= 9) (hl : qs.length <= 100) (hk : ks.length <= 100) (hn : ns.Nodup) (hnl : ns.length <= 200)
  (hc : ∀ x ∈ ns, ∀ R : PV × List PV -> Prop, R (f x, []) -> Wp (cI [.bG (heldOf ks), .bG (D5 (st qs)), .bG (OI qs), .str x]) R) (q : Q (.bG (K2 f ns), [])) : Wp (i8 [.tup (qs.map lP), .tup (mP ks), .tup (ns.map PV.str)]) Q := by
 unfold i8 m6
 walk_at "wp"
 refine ⟨by unfold mP; rw [length_map]; omega, ?_⟩
 refine pK (fun i d e => d = heldOf (ks.take i) /\ ∃ s t, e = [s, t]) ?_ ?_ ⟨rfl, _, _, rfl⟩
 ·rintro i p e d hx ⟨rfl, s, t, rfl⟩
  unfold mP at hx
  rw [getElem?_map] at hx
  obtain ⟨z, hz, rfl⟩ := map_eq_some_iff.mp hx
  walk_at "wp"
  refine ⟨?_, _, _, rfl⟩
  unfold heldOf
  rw [take_succ, hz, toList_some, foldl_append]; rfl
 ·rintro d e ⟨rfl, s, t, rfl⟩
  rw [show (mP ks).length = ks.length by unfold mP; rw [length_map], take_length]
  walk_at "wp"
  refine LH hr hl ?_
  walk_at "wp"
  refine uN hr hl ?_
  walk_at "wp"
  refine ⟨by omega, ?_⟩
  refine pK (fun i d e => d = K2 f (ns.take i) /\ ∃ s, e = [s, some (Sl.val (.bG (heldOf ks))), some (Sl.val (.bG (D5 (st qs)))), some (Sl.val (.bG (OI qs)))]) ?_ ?_ ⟨rfl, _, rfl⟩
  ·rintro i p e d hx ⟨rfl, s, rfl⟩
   rw [getElem?_map] at hx
   obtain ⟨x, hxe, rfl⟩ := map_eq_some_iff.mp hx
   have hi := (List.getElem?_eq_some_iff.mp hxe).1
   have nx : x ∉ ns.take i := fun h => by
    obtain ⟨j, hj⟩ := getElem?_of_mem h
    rw [List.getElem?_take] at hj
    split at hj
    ·have := (getElem?_inj (by omega) hn).mp (hj.trans hxe.symm)
     omega
    ·cases hj
   walk_at "wp"
   refine hc x (mem_of_getElem? hxe) _ ?_
   walk_at "wp"
   exact ⟨by rw [M8 nx, List.take_add_one, hxe]; rfl, _, rfl⟩
  ·rintro d e ⟨rfl, s, rfl⟩
   rw [length_map, take_length]
   walk_at "wp"
   exact q
end
section
open PySem L2 Mr
structure Ch where
 e : Option Str
 r : PV
noncomputable def C7 (ts : List jF) : Option jF := ts[argBest (EJ (ts.map tP)) (ts.length - 1)]?
noncomputable def rG (qs : List Let) (t : jF) : Option Str := ((st qs).find? fun l => decide (l.name = t.name)).bind fun l => (el l)[(t.at' - 1).toNat]?
noncomputable abbrev US : PV := .tup [.str (Str.ofString "hand")]
noncomputable abbrev WE : PV := .tup [.str (Str.ofString "own")]
noncomputable abbrev tY : PV := .tup [.str (Str.ofString "first")]
noncomputable def EO (qs : List Let) (ks : Hl) (x : Str) : Ch := match ks.find? fun z => decide (z.1 = x) with
 | some z => ⟨z.2, US⟩
 | none => match (st qs).find? fun l => decide (l.name = x) with
  | some l => (match (el l).getLast? with
   | some y => ⟨some y, WE⟩
   | none => ⟨none, tY⟩)
  | none => match C7 (eJ x (cM qs)) with
   | some t => ⟨rG qs t, .tup [.str (Str.ofString "told"), .str t.name, .int t.at']⟩
   | none => ⟨none, tY⟩
noncomputable def K6 (qs : List Let) (ks : Hl) (x : Str) : PV := .tup [oP (EO qs ks x).e, (EO qs ks x).r]
theorem pR {l : Let} (h : t ∈ j4 l) : t.name = l.name /\ t.day = l.day /\ ∃ i : Nat, t.at' = (i : Int) /\ 0 < i /\ (el l)[i]? = some t.key := by
 unfold j4 at h
 obtain ⟨z, hz, e⟩ := mem_filterMap.mp h
 unfold PC at e
 split at e
 ·rename_i h0
  cases e
  obtain ⟨i, hi⟩ := getElem?_of_mem hz
  rw [getElem?_zipIdx] at hi
  cases c : (el l)[i]? with
  | none => rw [c] at hi; cases hi
  | some y =>
   rw [c] at hi
   cases hi
   exact ⟨rfl, rfl, 0 + i, rfl, h0, by rw [zero_add]; exact c⟩
 ·cases e
theorem HJ (h : t ∈ eJ x (cM qs)) : t.key = x /\ ∃ l ∈ st qs, t ∈ j4 l := by
 unfold eJ at h
 obtain ⟨h1, h2⟩ := mem_filter.mp h
 unfold cM at h1
 obtain ⟨l, hl, ht⟩ := List.mem_flatMap.mp h1
 exact ⟨of_decide_eq_true h2, l, hl, ht⟩
theorem vC {l : Let} (h : l ∈ st qs) : (st qs).find? (fun k => decide (k.name = l.name)) = some l := by
 have nd := BA qs
 revert h nd
 generalize st qs = ls
 intro h nd
 induction ls with
 | nil => cases h
 | cons k ls ih =>
  rw [map_cons, nodup_cons] at nd
  rw [find?_cons]
  rcases mem_cons.mp h with rfl | h
  ·rw [decide_eq_true rfl]
  ·have hne : k.name ≠ l.name := fun e => nd.1 (mem_map.mpr ⟨l, h, e.symm⟩)
   rw [decide_eq_false hne]
   exact ih h nd.2
theorem tG {ts : List jF} (h : ts ≠ []) : ∃ t ∈ ts, C7 ts = some t /\ xC (ts.map tP) = tP t := by
 have h0 : 0 < ts.length := length_pos_iff.mpr h
 have hlt : argBest (EJ (ts.map tP)) (ts.length - 1) < ts.length := by have := iU (EJ (ts.map tP)) (ts.length - 1); omega
 refine ⟨ts[argBest (EJ (ts.map tP)) (ts.length - 1)], getElem_mem hlt, getElem?_eq_getElem hlt, ?_⟩
 unfold xC
 rw [length_map, getD_eq_getElem?_getD, getElem?_map, getElem?_eq_getElem hlt]
 rfl
theorem RI (ts : List jF) : ∀ kp ∈ AS ts, kp.2 ≠ [] := by
 have key : ∀ (ts : List jF) (d : DD), (∀ kp ∈ d, kp.2 ≠ []) -> ∀ kp ∈ ts.foldl (fun d t => j7 d (Sum.inr t.key) (tP t)) d, kp.2 ≠ [] := by
  intro ts
  induction ts with
  | nil => intro d h; exact h
  | cons t ts ih =>
   intro d h
   rw [foldl_cons]
   refine ih _ fun kp hkp => ?_
   unfold j7 at hkp
   split at hkp
   ·obtain ⟨k, hk, rfl⟩ := mem_map.mp hkp
    split
    ·simp
    ·exact h k hk
   ·rcases mem_append.mp hkp with h1 | h1
    ·exact h kp h1
    ·rw [mem_singleton.mp h1]; simp
 exact key ts [] (fun _ h => nomatch h)
theorem LD {qs : List Let} {x : Str} (h : eJ x (cM qs) ≠ []) : cC (OI qs) (Sum.inr x) = some (.lst ((eJ x (cM qs)).map tP)) := by
 have v := I0 (AS (cM qs)) (Sum.inr x)
 rw [FQ] at v
 cases c : cC (OI qs) (Sum.inr x) with
 | none =>
  rw [c] at v
  have e := PV.lst.inj v
  exact absurd (List.eq_nil_of_map_eq_nil e.symm) h
 | some p => rw [c] at v; exact congrArg some v
theorem LL {qs : List Let} {x : Str} (h : eJ x (cM qs) = []) : cC (OI qs) (Sum.inr x) = none := by
 have v := I0 (AS (cM qs)) (Sum.inr x)
 rw [FQ, h] at v
 cases c : cC (OI qs) (Sum.inr x) with
 | none => rfl
 | some p =>
  rw [c] at v
  have e : p = .lst [] := v
  unfold cC OI at c
  obtain ⟨kv, h1, h2⟩ := map_eq_some_iff.mp c
  have h3 := List.mem_of_find?_eq_some h1
  obtain ⟨kp, h4, rfl⟩ := mem_map.mp h3
  rw [e] at h2
  exact absurd (PV.lst.inj h2) (RI _ kp h4)
theorem vH (h : cC held (Sum.inr x) = none) (hr : cC rows (Sum.inr x) = none) (hc : cC claimed (Sum.inr x) = none) (q : Q (.tup [.bF, tY], [])) : Wp (cI [.bG held, .bG rows, .bG claimed, .str x]) Q := by
 unfold cI iP
 walk_at "wp"
 rw [h, hr, hc]
 refine ⟨fun z => (by cases z), fun _ => ⟨fun z => (by cases z), fun _ => ⟨fun z => (by cases z), fun _ => ?_⟩⟩⟩
 exact q
theorem zV {qs : List Let} {ks : Hl} {x : Str} {R : PV × List PV -> Prop} (hk : (ks.map (·.1)).Nodup) (r : R (K6 qs ks x, [])) : Wp (cI [.bG (heldOf ks), .bG (D5 (st qs)), .bG (OI qs), .str x]) R := by
 unfold K6 EO at r
 cases e1 : ks.find? fun z => decide (z.1 = x) with
 | some z =>
  rw [e1] at r
  have hz := List.mem_of_find?_eq_some e1
  have hzx : z.1 = x := of_decide_eq_true (by have := find?_some e1; exact this)
  refine x3 (rZ (o := z.2) (fun w hw ew => ?_) (by rw [<- hzx]; exact hz)) r
  have key : ∀ (l : Hl), (l.map (·.1)).Nodup -> ∀ a ∈ l, ∀ b ∈ l, a.1 = b.1 -> a = b := by
   intro l
   induction l with
   | nil => intro _ a ha; cases ha
   | cons c l ih =>
    intro hn a ha b hb hab
    rw [map_cons, nodup_cons] at hn
    rcases mem_cons.mp ha with rfl | ha
    ·rcases mem_cons.mp hb with rfl | hb
     ·rfl
     ·exact absurd (mem_map.mpr ⟨b, hb, hab.symm⟩) hn.1
    ·rcases mem_cons.mp hb with e | hb
     ·exact absurd (mem_map.mpr ⟨a, ha, by rw [hab, e]⟩) hn.1
     ·exact ih hn.2 a ha b hb hab
  rw [key ks hk w hw z hz (ew.trans hzx.symm)]
 | none =>
  rw [e1] at r
  have hnone : ∀ z ∈ ks, z.1 ≠ x := fun z hz e => by
   have := find?_eq_none.mp e1 z hz
   exact this (decide_eq_true e)
  have hh := sI hnone
  cases e2 : (st qs).find? fun l => decide (l.name = x) with
  | some l =>
   rw [e2] at r
   refine y0 (ps := (el l).map PV.str) hh (by rw [uW, e2]; rfl) ?_
   unfold R7
   rw [List.getLast?_map]
   dsimp only at r
   cases e3 : (el l).getLast? with
   | none => rw [e3] at r; exact r
   | some y => rw [e3] at r; exact r
  | none =>
   rw [e2] at r
   have hrow : cC (D5 (st qs)) (Sum.inr x) = none := by rw [uW, e2]; rfl
   by_cases hf : eJ x (cM qs) = []
   ·refine vH hh hrow (LL hf) ?_
    rw [hf] at r
    exact r
   ·obtain ⟨t, ht, em, emP⟩ := tG hf
    rw [em] at r
    obtain ⟨hkey, l, hl, htl⟩ := HJ ht
    obtain ⟨hn1, _, i, hi, hi0, hel⟩ := pR htl
    have hil : i < (el l).length := (List.getElem?_eq_some_iff.mp hel).1
    have hfind : (st qs).find? (fun k => decide (k.name = t.name)) = some l := by rw [hn1]; exact vC hl
    have hat : (t.at' - 1).toNat = i - 1 := by rw [hi]; omega
    have hpre : (el l)[i - 1]? = some (el l)[i - 1] := getElem?_eq_getElem (by omega)
    have hE : rG qs t = some (el l)[i - 1] := by unfold rG; rw [hfind, hat]; exact hpre
    dsimp only at r
    rw [hE] at r
    refine vY (one := t.name) (at' := t.at') (d := t.day) (r := (el l).map PV.str) (e := .str (el l)[i - 1]) hh hrow (LD hf) (by rw [length_map]; exact length_pos_iff.mpr hf) (J6 _) emP (by rw [uW, hfind]; rfl) ?_ r
    rw [hi, show ((i : Int) - 1) = ((i - 1 : Nat) : Int) by omega]
    refine fU ?_
    rw [getElem?_map, hpre]
    rfl
end
section
open PySem L2 Mr
theorem L3 (f : Str -> PV) (ns : List Str) (x : Str) : cC (K2 f ns) (Sum.inr x) = if x ∈ ns then some (f x) else none := by
 unfold cC K2
 induction ns with
 | nil => rfl
 | cons y ns ih =>
  rw [map_cons, find?_cons]
  by_cases h : y = x
  ·subst h
   rw [decide_eq_true rfl, if_pos mem_cons_self]; rfl
  ·rw [decide_eq_false (fun e => h (Sum.inr.inj e))]
   rw [ih]
   have : (x ∈ y :: ns) ↔ (x ∈ ns) := by simp [Ne.symm h]
   simp only [this]
theorem L9 (h : t ∈ eJ x (cM qs)) : ∃ l ∈ st qs, ∃ i : Nat, t.name = l.name /\ t.day = l.day /\ t.at' = (i : Int) /\ 0 < i /\ (el l)[i]? = some x /\ ∃ y, (el l)[i - 1]? = some y /\ rG qs t = some y := by
 obtain ⟨hkey, l, hl, htl⟩ := HJ h
 obtain ⟨hn1, hd, i, hi, hi0, hel⟩ := pR htl
 have hil : i < (el l).length := (List.getElem?_eq_some_iff.mp hel).1
 have hfind : (st qs).find? (fun k => decide (k.name = t.name)) = some l := by rw [hn1]; exact vC hl
 have hat : (t.at' - 1).toNat = i - 1 := by rw [hi]; omega
 have hpre : (el l)[i - 1]? = some (el l)[i - 1] := getElem?_eq_getElem (by omega)
 exact ⟨l, hl, i, hn1, hd, hi, hi0, by rw [<- hkey]; exact hel, _, hpre, by unfold rG; rw [hfind, hat]; exact hpre⟩
noncomputable def c4 (t : jF) (y : Str) : PV := .tup [.int t.day, .str t.name, .int t.at', .str y]
theorem TK {t u : jF} {y z : Str} (h : t.name ≠ u.name) : gJ (code 3 (c4 t y)) (code 3 (c4 u z)) = gJ (code 3 (tP t)) (code 3 (tP u)) := by
 have hn : t.name.cps.toList ≠ u.name.cps.toList := fun e => h (by cases ht : t.name; cases hu : u.name; rw [ht, hu] at e; congr 1; exact Array.toList_inj.mp e)
 have key : ∀ (r r' : List Int), gJ (1 :: t.day :: 1 :: (t.name.cps.toList.map (fun c : Nat => (c : Int) + 1) ++ [0] ++ r)) (1 :: u.day :: 1 :: (u.name.cps.toList.map (fun c : Nat => (c : Int) + 1) ++ [0] ++ r')) = if t.day = u.day then decide (t.name.cps.toList < u.name.cps.toList) else decide (t.day < u.day) := by
  intro r r'
  rw [dY, if_pos rfl, dY]
  by_cases hd : t.day = u.day
  ·rw [if_pos hd, if_pos hd, dY, if_pos rfl, vL, if_neg hn]
  ·rw [if_neg hd, if_neg hd]
 have e4 : ∀ (t : jF) (y : Str), code 3 (c4 t y) = 1 :: t.day :: 1 :: (t.name.cps.toList.map (fun c : Nat => (c : Int) + 1) ++ [0] ++ (1 :: t.at' :: 1 :: (y.cps.toList.map (fun c : Nat => (c : Int) + 1) ++ [0] ++ [0]))) := fun t y => by
  unfold c4 Mr.code
  simp [Mr.code]
 have e3 : ∀ (t : jF), code 3 (tP t) = 1 :: t.day :: 1 :: (t.name.cps.toList.map (fun c : Nat => (c : Int) + 1) ++ [0] ++ (1 :: t.at' :: [0])) := fun t => by
  unfold tP Mr.code
  simp [Mr.code]
 rw [e4, e4, e3, e3, key, key]
theorem RZ (t u : jF) (y z : Str) : dC 3 [c4 t y, c4 u z] = true := by
 have pl : ∀ (t : jF) (y : Str), mR 3 (c4 t y) = true := fun _ _ => rfl
 have lt : ∀ (t u : jF) (y z : Str), (mF 3 (c4 t y) (c4 u z)).isSome = true := fun t u y z => by
  unfold c4 mF dG
  split
  ·unfold dG
   split
   ·unfold dG
    split
    ·unfold dG
     split
     ·rfl
     ·rfl
    ·rfl
   ·rfl
  ·rfl
 simp only [dC, all_cons, all_nil, pl, lt, Bool.and_self]
end
section
open PySem L2 Mr
theorem nH : ∀ ks : Hl, m9 (mP ks) = some (ks.map fun z => ((Sum.inr z.1 : Key), oP z.2))
 | [] => rfl
 | z :: ks => by
  show bO (some (Sum.inr z.1 : Key)) (fun k => bO (m9 (mP ks)) fun r => some ((k, oP z.2) :: r)) = _
  rw [qU, nH ks]
  rfl
theorem C9 (hr : ∀ l ∈ qs, l.row.length <= 9) (hl : qs.length <= 100) (hk : ks.length <= 100) (hkn : (ks.map (·.1)).Nodup) (q : Q (K6 qs ks x, [])) : Wp (jV [.tup (qs.map lP), .tup (mP ks), .str x]) Q := by
 unfold jV pP
 walk_at "wp"
 rw [show [PV.str x] = [x].map PV.str from rfl]
 refine yH hr hl hk (by simp) (by simp) (fun y _ R r => zV hkn r) ?_
 walk_at "wp"
 rw [L3, if_pos (by simp)]
 walk_at "wp"
 exact q
noncomputable def EM (qs : List Let) (t : jF) : PV := .tup [.int t.day, .str t.name, .int t.at', oP (rG qs t)]
theorem qD (h : t ∈ eJ x (cM qs)) : ∃ y, rG qs t = some y /\ EM qs t = c4 t y := by
 obtain ⟨l, hl, i, _, _, _, _, _, y, _, e⟩ := L9 h
 exact ⟨y, e, by unfold EM c4; rw [e]; rfl⟩
theorem C1 (qs : List Let) (x : Str) : ((eJ x (cM qs)).map (·.name)).Nodup := by
 unfold cM
 have nd := BA qs
 revert nd
 generalize st qs = ls
 intro nd
 induction ls with
 | nil => exact nodup_nil
 | cons l ls ih =>
  rw [map_cons, nodup_cons] at nd
  have e : eJ x ((l :: ls).flatMap j4) = eJ x (j4 l) ++ eJ x (ls.flatMap j4) := by unfold eJ; rw [flatMap_cons, filter_append]
  rw [e, map_append]
  have nm : ∀ t ∈ eJ x (j4 l), t.name = l.name := fun t ht => (pR (mem_filter.mp ht).1).1
  refine nodup_append.mpr ⟨?_, ih nd.2, fun a ha b hb e => ?_⟩
  ·have := tR l x
   match hh : eJ x (j4 l), this with
   | [], _ => exact nodup_nil
   | [t], _ => simp
  ·obtain ⟨t, ht, rfl⟩ := mem_map.mp ha
   obtain ⟨u, hu, rfl⟩ := mem_map.mp hb
   have hu := (mem_filter.mp hu).1
   obtain ⟨k, hk, hu⟩ := List.mem_flatMap.mp hu
   have h1 := nm t ht
   have h2 := (pR hu).1
   exact nd.1 (mem_map.mpr ⟨k, hk, by rw [<- h2, <- e, h1]⟩)
theorem kG {bt bt' : Nat -> Nat -> Bool} : ∀ (k : Nat), (∀ i j, i <= k -> j <= k -> i ≠ j -> bt i j = bt' i j) -> argBest bt k = argBest bt' k
 | 0, _ => rfl
 | k + 1, h => by
  have ih := kG k fun i j hi hj => h i j (by omega) (by omega)
  have hb := iU bt k
  unfold argBest
  rw [<- ih, h (k + 1) (argBest bt k) (by omega) (by omega) (by omega)]
theorem SA (h0 : eJ x (cM qs) ≠ []) : ∃ t ∈ eJ x (cM qs), C7 (eJ x (cM qs)) = some t /\ xC ((eJ x (cM qs)).map (EM qs)) = EM qs t := by
 obtain ⟨t, ht, e1, e2⟩ := tG h0
 refine ⟨t, ht, e1, ?_⟩
 have nd := C1 qs x
 have hl : 0 < (eJ x (cM qs)).length := length_pos_iff.mpr h0
 have hc : argBest (EJ ((eJ x (cM qs)).map (EM qs))) ((eJ x (cM qs)).length - 1) = argBest (EJ ((eJ x (cM qs)).map tP)) ((eJ x (cM qs)).length - 1) := by
  refine kG _ fun i j hi hj hij => ?_
  unfold EJ
  have hi' : i < (eJ x (cM qs)).length := by omega
  have hj' : j < (eJ x (cM qs)).length := by omega
  have mi : ∀ i (hi : i < (eJ x (cM qs)).length), ((eJ x (cM qs)).map (EM qs)).getD i .bF = EM qs ((eJ x (cM qs))[i]) /\ ((eJ x (cM qs)).map tP).getD i .bF = tP ((eJ x (cM qs))[i]) := fun i hi => by
   constructor <;> (rw [getD_eq_getElem?_getD, getElem?_map, getElem?_eq_getElem hi]; rfl)
  rw [(mi i hi').1, (mi j hj').1, (mi i hi').2, (mi j hj').2]
  obtain ⟨y, _, ey⟩ := qD (getElem_mem hi')
  obtain ⟨z, _, ez⟩ := qD (getElem_mem hj')
  rw [ey, ez]
  refine TK fun e => hij ?_
  have a1 : ((eJ x (cM qs)).map (·.name))[i]? = some ((eJ x (cM qs))[i]).name := by rw [getElem?_map, getElem?_eq_getElem hi']; rfl
  have a2 : ((eJ x (cM qs)).map (·.name))[j]? = some ((eJ x (cM qs))[j]).name := by rw [getElem?_map, getElem?_eq_getElem hj']; rfl
  exact (getElem?_inj (by rw [length_map]; exact hi') nd).mp (by rw [a1, a2, e])
 unfold xC
 rw [length_map, hc, getD_eq_getElem?_getD, getElem?_map]
 unfold C7 at e1
 rw [e1]
 rfl
theorem LA (qs : List Let) (x : Str) : dC 3 ((eJ x (cM qs)).map (EM qs)) = true := all_eq_true.mpr fun p hp => by
 obtain ⟨t, ht, rfl⟩ := mem_map.mp hp
 obtain ⟨y, _, ey⟩ := qD ht
 rw [and_eq_true, ey]
 refine ⟨rfl, all_eq_true.mpr fun q hq => ?_⟩
 obtain ⟨u, hu, rfl⟩ := mem_map.mp hq
 obtain ⟨z, _, ez⟩ := qD hu
 rw [ez]
 have := RZ t u y z
 simp only [dC, all_cons, all_nil, and_eq_true] at this
 exact this.1.2.2.1
end
section
open PySem L2 Mr
theorem JS {ls : List Let} (nd : (ls.map (·.name)).Nodup) (x : Str) : ls.filter (fun l => decide (l.name = x)) = (ls.find? fun l => decide (l.name = x)).toList := by
 induction ls with
 | nil => rfl
 | cons l ls ih =>
  rw [map_cons, nodup_cons] at nd
  rw [filter_cons, find?_cons]
  by_cases h : l.name = x
  ·rw [decide_eq_true h, if_pos rfl]
   have : ls.filter (fun l => decide (l.name = x)) = [] := List.filter_eq_nil_iff.mpr fun k hk e => nd.1 (mem_map.mpr ⟨k, hk, by rw [of_decide_eq_true e, h]⟩)
   rw [this]; rfl
  ·rw [decide_eq_false h, if_neg Bool.false_ne_true]
   exact ih nd.2
theorem NK {l : Let} {x : Str} : eJ x (j4 l) = if x ∈ (el l).drop 1 then [⟨x, l.day, l.name, ((el l).idxOf x : Int)⟩] else [] := by
 by_cases h : x ∈ (el l).drop 1
 ·rw [if_pos h]
  have nd := pE l
  obtain ⟨j, hj⟩ := getElem?_of_mem h
  rw [getElem?_drop] at hj
  have hlt := (List.getElem?_eq_some_iff.mp hj).1
  have hmem : x ∈ el l := mem_of_getElem? hj
  have hidx : (el l).idxOf x = 1 + j := by
   have h1 : (el l)[(el l).idxOf x]? = some x := by rw [getElem?_eq_getElem (idxOf_lt_length_iff.mpr hmem), getElem_idxOf]
   exact (getElem?_inj (idxOf_lt_length_iff.mpr hmem) nd).mp (h1.trans hj.symm)
  have hin : (⟨x, l.day, l.name, ((el l).idxOf x : Int)⟩ : jF) ∈ eJ x (j4 l) := by
   refine mem_filter.mpr ⟨?_, decide_eq_true rfl⟩
   unfold j4
   refine mem_filterMap.mpr ⟨(x, (el l).idxOf x), ?_, ?_⟩
   ·refine mem_of_getElem? (i := (el l).idxOf x) ?_
    rw [getElem?_zipIdx, getElem?_eq_getElem (idxOf_lt_length_iff.mpr hmem), getElem_idxOf]
    simp
   ·unfold PC
    rw [if_pos (by show 0 < (el l).idxOf x; omega)]
  have h1 := tR l x
  match hh : eJ x (j4 l), h1, hin with
  | [t], _, hin => rw [mem_singleton.mp hin]
 ·rw [if_neg h]
  refine List.eq_nil_iff_forall_not_mem.mpr fun t ht => h ?_
  obtain ⟨h1, h2⟩ := mem_filter.mp ht
  obtain ⟨_, _, i, hi, hi0, hel⟩ := pR h1
  rw [of_decide_eq_true h2] at hel
  refine mem_of_getElem? (i := i - 1) ?_
  rw [getElem?_drop, show 1 + (i - 1) = i by omega]
  exact hel
theorem G0 {l : Let} (h : (st qs)[i]? = some l) : eJ x (((st qs).take (i + 1)).flatMap j4) = eJ x (((st qs).take i).flatMap j4) ++ eJ x (j4 l) := by
 rw [vW h]; unfold eJ; rw [filter_append]
theorem KU {l : Let} (h : l.row.length <= 9) : (el l).length <= 9 := le_trans (yK l) h
theorem CC (x : Str) : ∀ ls : List Let, (eJ x (ls.flatMap j4)).length <= ls.length
 | [] => le_refl _
 | l :: ls => by
  have h := CC x ls
  have h1 := tR l x
  have e : eJ x ((l :: ls).flatMap j4) = eJ x (j4 l) ++ eJ x (ls.flatMap j4) := by unfold eJ; rw [flatMap_cons, filter_append]
  rw [e, length_append, length_cons]
  omega
noncomputable def HA : FS := (a8 (jQ 5 (eQ aK))
  (a8 (m4 (yF (aC 3)) (aS 6) (a8 (cD 7 (a9 [.b] false eC (aB (aC 6) aK)))
  (oQ (bP (aZ (xV false) (aC 2) (O1 N7 (aC 7) (nP (fC (.int 1))) gQ))) (a8 (cD 8 (o4 (aC 7) (aC 2)))
  (yP 5 (cR (aB (aZ dE (aC 6) (fC (.int 1))) (aB (aZ dE (aC 6) (fC (.int 0))) (aB (aC 8) (aB (aZ dE (aC 7) (aZ Mr.qZ (aC 8) (fC (.int 1)))) aK))))))) cU)))
  (a8 (oQ (bP (aZ DE (aC 5) (eQ aK))) (cW (cR (aB (fC .bF) (aB (cR (aB (fC (.str "first")) aK)) aK)))) cU)
  (a8 (FY (lJ rS (aB (aC 5) aK)) (kE 4 (cF (aS 9) (cF (aS 10) (cF (aS 8) (cF (aS 11) kO))))))
  (cW (cR (aB (aC 11) (aB (cR (aB (fC (.str "told")) (aB (aC 10) (aB (aC 8) aK)))) aK))))))))
theorem LZ {qs : List Let} {x : Str} {v4 : Option Sl} {Q : Out -> Prop} (hr : ∀ l ∈ qs, l.row.length <= 9) (hl : qs.length <= 100)
  (q : ∀ p e, p = (match C7 (eJ x (cM qs)) with | some t => .tup [oP (rG qs t), .tup [.str (Str.ofString "told"), .str t.name, .int t.at']] | none => .tup [.bF, tY]) -> Q (.rt (.val p) e)) :
  Wp (HA [some (Sl.val (.tup (qs.map lP))), some (Sl.val (.tup (mP ks))), some (Sl.val (.str x)), some (Sl.val (.lst ((st qs).map lP))), v4, none, none, none, none, none, none, none]) Q := by
 have sl := nJ qs
 unfold HA
 walk_at "wp"
 refine fQ (fun i e => ∃ (v6 v7 v8 : Option Sl), e = [some (Sl.val (.tup (qs.map lP))), some (Sl.val (.tup (mP ks))), some (Sl.val (.str x)), some (Sl.val (.lst ((st qs).map lP))), v4, some (Sl.loc (.lst ((eJ x (((st qs).take i).flatMap j4)).map (EM qs)))), v6, v7, v8, none, none, none]) ?_ ?_ ⟨_, _, _, rfl⟩
 ·rintro i p e hx ⟨v6, v7, v8, rfl⟩
  rw [getElem?_map] at hx
  obtain ⟨l, hk, rfl⟩ := map_eq_some_iff.mp hx
  have hlm := mem_of_getElem? hk
  have hrow := hr l (pI hlm)
  have e9 := KU hrow
  walk_at "wp"
  refine B8 (l := l) hrow ?_
  walk_at "wp"
  have hc : rE ((el l).map PV.str) (some 1) none = ((el l).drop 1).map PV.str := by rw [map_drop]; exact qI _ 1
  rw [hc, oV, G0 hk, NK]
  refine ⟨all_eq_true.mpr fun p hp => by obtain ⟨y, _, rfl⟩ := mem_map.mp hp; rfl, fun hx => ?_, fun hx => ?_⟩
  ·have hx := of_decide_eq_true hx
   rw [if_pos hx]
   have hmem : x ∈ el l := List.mem_of_mem_drop hx
   have hlt := idxOf_lt_length_iff.mpr hmem
   have h0 : 0 < (el l).idxOf x := by
    refine Nat.pos_of_ne_zero fun h0 => ?_
    have nd := pE l
    obtain ⟨j, hj⟩ := getElem?_of_mem hx
    rw [getElem?_drop] at hj
    have h1 : (el l)[(el l).idxOf x]? = some x := by rw [getElem?_eq_getElem hlt, getElem_idxOf]
    have := (getElem?_inj hlt nd).mp (h1.trans hj.symm)
    omega
   obtain ⟨y, hy⟩ : ∃ y, (el l)[(el l).idxOf x - 1]? = some y := ⟨_, getElem?_eq_getElem (by omega)⟩
   have he : rG qs ⟨x, l.day, l.name, ((el l).idxOf x : Int)⟩ = some y := by
    unfold rG
    rw [vC hlm]
    show (el l)[(((el l).idxOf x : Int) - 1).toNat]? = _
    rw [show (((el l).idxOf x : Int) - 1).toNat = (el l).idxOf x - 1 by omega]
    exact hy
   have ha : lK ((el l).map PV.str) (((el l).idxOf x : Int) - 1) = some (.str y) := by
    rw [show ((el l).idxOf x : Int) - 1 = (((el l).idxOf x - 1 : Nat) : Int) by omega]
    exact fU (by rw [getElem?_map, hy]; rfl)
   rw [mZ]
   walk_at "wp"
   refine ⟨⟨hmem, by omega⟩, ?_⟩
   rw [show lP l = PV.tup [PV.str l.name, PV.int l.day, PV.str l.head, PV.tup (l.row.map PV.str)] from rfl]
   walk_at "wp"
   rw [ha]
   walk_at "wp"
   rw [map_append, List.map_singleton, show EM qs ⟨x, l.day, l.name, ((el l).idxOf x : Int)⟩ = PV.tup [PV.int l.day, PV.str l.name, PV.int ((el l).idxOf x : Int), PV.str y] from by unfold EM; rw [he]; rfl]
   refine ⟨?_, _, _, _, rfl⟩
   ·have h1 := CC x ((st qs).take i)
    rw [length_take] at h1
    omega
  ·have hx := of_decide_eq_false hx
   rw [if_neg hx, append_nil]
   exact ⟨_, _, _, rfl⟩
 ·rintro e ⟨v6, v7, v8, rfl⟩
  rw [length_map, take_length]
  rw [show (st qs).flatMap j4 = cM qs from rfl]
  walk_at "wp"
  refine ⟨all_eq_true.mpr fun p hp => by obtain ⟨t, ht, rfl⟩ := mem_map.mp hp; obtain ⟨y, _, ey⟩ := qD ht; rw [ey]; rfl, fun h => ?_, fun h => ?_⟩
  ·have h0 : eJ x (cM qs) = [] := by
    cases hh : eJ x (cM qs) with
    | nil => rfl
    | cons t ts => rw [hh] at h; simp [cG] at h
   refine q _ _ ?_
   rw [h0]
   rfl
  ·have h0 : eJ x (cM qs) ≠ [] := fun hh => by rw [hh] at h; simp [cG] at h
   refine ⟨⟨length_pos_iff.mpr h0, LA qs x⟩, ?_⟩
   obtain ⟨t, ht, e1, e2⟩ := SA h0
   rw [e2]
   unfold EM
   walk_at "wp"
   refine q _ _ ?_
   rw [e1]
end
section
open PySem L2 Mr
theorem EB {z : Str × Option Str} (hk : (ks.map (·.1)).Nodup) (e1 : (ks.find? fun z => decide (z.1 = x)) = some z) : cC (heldOf ks) (Sum.inr x) = some (oP z.2) := by
 have hz := List.mem_of_find?_eq_some e1
 have hzx : z.1 = x := of_decide_eq_true (by have := find?_some e1; exact this)
 refine rZ (o := z.2) (fun w hw ew => ?_) (by rw [<- hzx]; exact hz)
 obtain ⟨i, hi⟩ := getElem?_of_mem hw
 obtain ⟨j, hj⟩ := getElem?_of_mem hz
 have h1 : (ks.map (·.1))[i]? = some x := by rw [getElem?_map, hi, <- ew]; rfl
 have h2 : (ks.map (·.1))[j]? = some x := by rw [getElem?_map, hj, <- hzx]; rfl
 have hlt : i < (ks.map (·.1)).length := by rw [length_map]; exact (List.getElem?_eq_some_iff.mp hi).1
 have hij := (getElem?_inj hlt hk).mp (h1.trans h2.symm)
 rw [hij, hj] at hi
 cases hi
 rfl
theorem R5 : nG = (a8 (oQ (bP (aZ (xV false) (aC 2) (lJ lB (aB (aC 1) aK)))) (cW (cR (aB (aZ dE (lJ lB (aB (aC 1) aK)) (aC 2)) (aB (cR (aB (fC (.str "hand")) aK)) aK)))) cU)
  (a8 (cD 3 (a9 [.b] false cS (aB (aC 0) aK)))
  (a8 (cD 4 (fE (yF (aC 3)) 1 [2] [] (aS 0) (bP (aZ DE (aZ dE (aC 0) (fC (.int 0))) (aC 1))) (a9 [.b] false eC (aB (aC 0) aK))))
  (a8 (oQ (bP (aZ MS (aC 4) (eQ aK))) (cW (LU (bP (aZ MS (aZ dE (aC 4) (fC (.int 0))) (eQ aK))) (cR (aB (aZ dE (aZ dE (aC 4) (fC (.int 0))) (T6 JN (fC (.int 1)))) (aB (cR (aB (fC (.str "own")) aK)) aK))) (cR (aB (fC .bF) (aB (cR (aB (fC (.str "first")) aK)) aK))))) cU) HA)))) := rfl
theorem RG {qs : List Let} {ks : Hl} {x : Str} (hr : ∀ l ∈ qs, l.row.length <= 9) (hl : qs.length <= 100) (hk : ks.length <= 100) (hkn : (ks.map (·.1)).Nodup) (q : Q (K6 qs ks x, [])) : Wp (jA [.tup (qs.map lP), .tup (mP ks), .str x]) Q := by
 have sl := nJ qs
 unfold jA
 rw [R5]
 walk_at "wp"
 have hd : List.foldl (fun d (z : Key × PV) => eU d z.1 z.2) [] (ks.map fun z => ((Sum.inr z.1 : Key), oP z.2)) = heldOf ks := by rw [List.foldl_map]; rfl
 rw [nH]
 walk_at "wp"
 rw [hd]
 refine ⟨by omega, ?_⟩
 unfold K6 EO at q
 cases e1 : ks.find? fun z => decide (z.1 = x) with
 | some z =>
  rw [e1] at q
  have hv := EB hkn e1
  rw [hv]
  refine ⟨fun _ => ?_, fun h => by cases h⟩
  rw [nH]
  walk_at "wp"
  rw [hd, hv]
  refine ⟨by omega, ?_⟩
  walk_at "wp"
  exact q
 | none =>
  rw [e1] at q
  have hn : ∀ z ∈ ks, z.1 ≠ x := fun z hz e => by
   have := find?_eq_none.mp e1 z hz
   exact this (decide_eq_true e)
  rw [sI hn]
  refine ⟨fun h => (by cases h), fun _ => ?_⟩
  refine uT hl ?_
  walk_at "wp"
  refine ⟨by omega, ?_⟩
  refine eY (fun i acc e => acc = (((st qs).take i).filter fun l => decide (l.name = x)).map (fun l => PV.lst ((el l).map PV.str)) /\ ∃ s, e = [s, some (Sl.val (.str x))]) ?_ ?_ ⟨rfl, _, rfl⟩
  ·rintro i p e acc hx ⟨rfl, s, rfl⟩
   rw [getElem?_map] at hx
   obtain ⟨l, hk', rfl⟩ := map_eq_some_iff.mp hx
   have hrow := hr l (pI (mem_of_getElem? hk'))
   rw [show lP l = PV.tup [PV.str l.name, PV.int l.day, PV.str l.head, PV.tup (l.row.map PV.str)] from rfl]
   walk_at "wp"
   rw [List.take_add_one, hk', filter_append]
   show match l.name == x with | false => _ | true => _
   by_cases h : l.name = x
   ·rw [show (l.name == x) = true from beq_iff_eq.mpr h, show (some l).toList.filter (fun l => decide (l.name = x)) = [l] from by rw [toList_some, filter_cons, if_pos (decide_eq_true h)]; rfl]
    refine B8 (l := l) hrow ?_
    walk_at "wp"
    exact ⟨by rw [map_append, List.map_singleton], _, rfl⟩
   ·rw [show (l.name == x) = false from beq_eq_false_iff_ne.mpr h, show (some l).toList.filter (fun l => decide (l.name = x)) = [] from by rw [toList_some, filter_cons, if_neg (by rw [decide_eq_false h]; exact Bool.false_ne_true)]; rfl, append_nil]
    exact ⟨rfl, _, rfl⟩
  ·rintro acc e ⟨rfl, s, rfl⟩
   walk_at "wp"
   rw [take_length, JS (BA qs)]
   cases e2 : (st qs).find? fun l => decide (l.name = x) with
   | some l =>
    rw [e2] at q
    rw [show (some l).toList.map (fun l => PV.lst ((el l).map PV.str)) = [PV.lst ((el l).map PV.str)] from rfl]
    refine ⟨?_, fun _ => ?_, fun h => ?_⟩
    ·rw [all_cons, all_nil, Bool.and_true]; exact hV (el l) 7
    ·rw [show lK [PV.lst ((el l).map PV.str)] 0 = some (PV.lst ((el l).map PV.str)) from rfl]
     walk_at "wp"
     refine ⟨hV (el l) 8, fun h => ?_, fun h => ?_⟩
     ·cases e3 : (el l).getLast? with
      | none => rw [List.getLast?_eq_none_iff.mp e3] at h; simp [cG] at h
      | some y =>
       rw [BL (show ((el l).map PV.str).getLast? = some (.str y) from by rw [List.getLast?_map, e3]; rfl)]
       walk_at "wp"
       dsimp only at q
       rw [e3] at q
       exact q
     ·have e0 : el l = [] := by
       cases hh : el l with
       | nil => rfl
       | cons y ys => rw [hh] at h; simp [cG] at h
      dsimp only at q
      rw [e0] at q
      exact q
    ·simp [cG] at h
   | none =>
    rw [e2] at q
    rw [show (none : Option Let).toList.map (fun l => PV.lst ((el l).map PV.str)) = [] from rfl]
    refine ⟨rfl, fun h => ?_, fun _ => ?_⟩
    ·simp [cG] at h
    ·refine LZ hr hl fun p e ep => ?_
     walk_at "wp"
     subst ep
     cases e3 : C7 (eJ x (cM qs)) with
     | some t => rw [e3] at q; exact q
     | none => rw [e3] at q; exact q
end
section
open PySem L2 Mr
theorem WZ (qs : List Let) (ks : Hl) (x : Str) : ∃ rs : List PV, (EO qs ks x).r = .tup rs /\ rs.length <= 3 /\ ∀ p ∈ rs, (∃ s, p = .str s) \/ ∃ i, p = .int i := by
 have one : ∀ s : Str, ∃ rs : List PV, PV.tup [.str s] = .tup rs /\ rs.length <= 3 /\ ∀ p ∈ rs, (∃ s, p = .str s) \/ ∃ i, p = .int i := fun s => ⟨_, rfl, by simp, fun p hp => .inl ⟨s, mem_singleton.mp hp⟩⟩
 unfold EO
 split
 ·exact one _
 ·split
  ·split
   ·exact one _
   ·exact one _
  ·split
   ·rename_i t _
    refine ⟨_, rfl, by simp, fun p hp => ?_⟩
    simp only [mem_cons, not_mem_nil, or_false] at hp
    rcases hp with rfl | rfl | rfl
    ·exact .inl ⟨_, rfl⟩
    ·exact .inl ⟨_, rfl⟩
    ·exact .inr ⟨_, rfl⟩
   ·exact one _
theorem pO {qs : List Let} {ks : Hl} {x : Str} (hr : ∀ l ∈ qs, l.row.length <= 9) (hl : qs.length <= 100) (hk : ks.length <= 100) (hkn : (ks.map (·.1)).Nodup) (q : Q (.bl true, [])) : Wp (dI [.tup (qs.map lP), .tup (mP ks), .str x]) Q := by
 unfold dI jS
 walk_at "wp"
 refine C9 hr hl hk hkn ?_
 obtain ⟨rs, e, h3, hp⟩ := WZ qs ks x
 rw [show K6 qs ks x = .tup [oP (EO qs ks x).e, .tup rs] from by unfold K6; rw [e]]
 walk_at "wp"
 refine RG hr hl hk hkn ?_
 rw [show K6 qs ks x = .tup [oP (EO qs ks x).e, .tup rs] from by unfold K6; rw [e]]
 walk_at "wp"
 have ho : fW 8 (oP (EO qs ks x).e) = true /\ bZ (oP (EO qs ks x).e) (oP (EO qs ks x).e) = true := by
  cases (EO qs ks x).e with
  | none => exact ⟨rfl, IK⟩
  | some y => exact ⟨rfl, lR (n := 1) rfl⟩
 have hrs : rs.all (fW 7) = true /\ cG rs rs = true := by
  refine ⟨all_eq_true.mpr fun p h => ?_, m5 (n := 1) (fun h => lR h) (all_eq_true.mpr fun p h => ?_)⟩
  ·rcases hp p h with ⟨s, rfl⟩ | ⟨i, rfl⟩ <;> rfl
  ·rcases hp p h with ⟨s, rfl⟩ | ⟨i, rfl⟩ <;> rfl
 rw [ho.2, hrs.2]
 refine ⟨⟨ho.1, hrs.1⟩, fun h => (by cases h), fun _ => ⟨by omega, ?_⟩⟩
 refine eY (fun i acc e => (∃ bs : List Bool, acc = bs.map PV.bl /\ bs.any id = false) /\ ∃ s, e = [s]) ?_ ?_ ⟨⟨[], rfl, rfl⟩, _, rfl⟩
 ·rintro i p e acc hx ⟨⟨bs, rfl, hb⟩, s, rfl⟩
  rcases hp p (mem_of_getElem? hx) with ⟨s, rfl⟩ | ⟨i, rfl⟩
  ·walk_at "wp"
   exact ⟨⟨bs ++ [false], by rw [map_append]; rfl, by rw [List.any_append, hb]; rfl⟩, _, rfl⟩
  ·walk_at "wp"
   exact ⟨⟨bs ++ [false], by rw [map_append]; rfl, by rw [List.any_append, hb]; rfl⟩, _, rfl⟩
 ·rintro acc e ⟨⟨bs, rfl, hb⟩, s, rfl⟩
  walk_at "wp"
  rw [HV]
  walk_at "wp"
  rw [hb]
  exact q
end
section
open PySem L2 Mr
theorem DX {s : Option Sl} {Q : List PV × En -> Prop} (hm : (ss.length : Int) = m) (hr : ∀ x ∈ rs, 0 <= x /\ x < m)
  (q : ∀ (zs : List Str) s', zs.length = rs.length -> (∀ z ∈ zs, z ∈ ss) -> Q (zs.map PV.str, [s', some (Sl.val (PV.lst (ss.map PV.str)))])) :
  Wp (iM (aS 0) eP (aZ dE (aC 1) (aC 0)) (rs.map PV.int) [s, some (Sl.val (PV.lst (ss.map PV.str)))]) Q := by
 refine eY (fun i acc e => ∃ (zs : List Str) (s : Option Sl), acc = zs.map PV.str /\ zs.length = i /\ (∀ z ∈ zs, z ∈ ss) /\ e = [s, some (Sl.val (PV.lst (ss.map PV.str)))]) ?_ ?_ ⟨[], s, rfl, rfl, fun _ h => (nomatch h), rfl⟩
 ·rintro i x e acc hx ⟨zs, s, rfl, hl, hz, rfl⟩
  rw [getElem?_map] at hx
  obtain ⟨k, hk, rfl⟩ := map_eq_some_iff.mp hx
  obtain ⟨k0, k1⟩ := hr k (mem_of_getElem? hk)
  walk_at "wp"
  refine dZ k0 (by rw [length_map]; omega) fun p hp => ?_
  obtain ⟨y, hy, rfl⟩ := mem_map.mp hp
  walk_at "wp"
  exact ⟨zs ++ [y], _, by rw [map_append]; rfl, by rw [length_append, hl]; rfl, fun z hz' => (mem_append.mp hz').elim (hz z) fun h => by rw [mem_singleton.mp h]; exact hy, rfl⟩
 ·rintro acc e ⟨zs, s, rfl, hl, hz, rfl⟩
  rw [length_map] at hl
  exact q zs s hl hz
theorem SI (hn : ns.length <= 63) : Wp (uL [.lst (ns.map PV.int)]) fun w => w = (.bl true, []) := by
 unfold uL GX
 walk_at "wp"
 refine CA (by decide) (by decide) hn fun a b h => ?_
 walk_at "wp"
 refine cN h (by decide) (by decide) (by decide) fun d a1 b1 c1 d0 d1 hp => ?_
 walk_at "wp"
 refine dZ d0 d1 fun p hp' => ?_
 obtain ⟨z, rfl, z0, z1⟩ : ∃ z : Int, p = .int z /\ 0 < z /\ z <= 40 := by
  simp only [mem_cons, not_mem_nil, or_false] at hp'
  rcases hp' with rfl | rfl | rfl <;> exact ⟨_, rfl, by decide, by decide⟩
 walk_at "wp"
 refine cN hp (by decide) z0 (by omega) fun e' a2 b2 c2 e0 e1 hp => ?_
 walk_at "wp"
 refine ⟨gC (by omega) (by omega), ?_⟩
 refine BI hp (by omega) (by omega) (by simp) fun rs s' a3 b3 c3 rl hrs hp => ?_
 rw [length_map, length_range] at rl hp
 walk_at "wp"
 refine cN hp (by decide) (by decide) (by decide) fun many a4 b4 c4 m0 m1 hp => ?_
 walk_at "wp"
 refine zK hn hp (by omega) (by omega) (by decide) fun zs a7 b7 c7 zl hz hp => ?_
 walk_at "wp"
 refine JG hp (by omega) (by omega) (by omega) fun ss a10 b10 c10 sl hss hp => ?_
 walk_at "wp"
 refine LK (m := 1 + e') sl hz (by omega) fun qs ll _ hq => ?_
 walk_at "wp"
 refine IQ hp (by omega) (by omega) m0 (by omega) (by omega) fun hs a11 b11 c11 hl mok hp => ?_
 walk_at "wp"
 refine ⟨by omega, DX sl hrs fun ws s2 wl hws => ?_⟩
 walk_at "wp"
 have e1 : ws.map PV.str ++ [PV.str (Str.ofString "nobody")] = (ws ++ [Str.ofString "nobody"]).map PV.str := by rw [map_append]; rfl
 rw [e1, mZ]
 walk_at "wp"
 have fl := p5 (ws ++ [Str.ofString "nobody"])
 rw [length_append] at fl
 simp only [length_cons, length_nil] at fl
 refine ⟨by omega, ⟨by rw [length_append]; simp only [length_cons, length_nil]; omega, by omega⟩, ?_⟩
 refine fQ (fun i e => ∃ v0 v1 v2 v3 v4 v5 v6 v9 : Option Sl, e = [v0, v1, v2, v3, v4, v5, v6, some (Sl.val (PV.tup (qs.map lP))), some (Sl.val (PV.tup (mP hs))), v9]) ?_ ?_ ⟨_, _, _, _, _, _, _, _, rfl⟩
 ·rintro i x e hx ⟨v0, v1, v2, v3, v4, v5, v6, v9, rfl⟩
  rw [getElem?_map] at hx
  obtain ⟨y, hk, rfl⟩ := map_eq_some_iff.mp hx
  walk_at "wp"
  refine pO (fun l h => (hq l h).1) (by omega) (by omega) mok.nd ?_
  walk_at "wp"
  refine pO (ks := []) (fun l h => (hq l h).1) (by omega) (by simp) nodup_nil ?_
  walk_at "wp"
  refine pO (fun l h => (hq l h).1) (by omega) (by omega) mok.nd ?_
  walk_at "wp"
  exact ⟨_, _, _, _, _, _, _, _, rfl⟩
 ·rintro e ⟨v0, v1, v2, v3, v4, v5, v6, v9, rfl⟩
  walk_at "wp"
theorem HG : ∀ ns : List Int, ns.length <= 63 -> uL [.lst (ns.map PV.int)] = some (.bl true, []) := fun ns hn => (SI hn).eq
end
theorem all_mk {w : World} {K : Frag} {h : Heap} {mg : Str -> Option Value} {fa f0 f1 f2 f3 f4 f5 f6 f7 f8 f9 f10 f11 f12 f13 f14 f15 f16 f17 f18 f19 : Addr} (X : K.In h) (G : h.Ns mainGlobals mg) (hfa : mg "law" = some (.ref fa))
  (h0 : qF K "elders" jH f0)
  (h1 : qF K "standing" i4 f1)
  (h2 : qF K "rows_of" iD f2)
  (h3 : qF K "claims_of" gX f3)
  (h4 : qF K "choice" l9 f4)
  (h5 : qF K "choices" fX f5)
  (h6 : qF K "chosen" mT f6)
  (h7 : qF K "_law_hand" i5 f7)
  (h8 : qF K "_law_take" i0 f8)
  (h9 : qF K "_law_names" eE f9)
  (h10 : qF K "_law_letter" eN f10)
  (h11 : qF K "_law_letters" dS f11)
  (h12 : qF K "_law_pack" gE f12)
  (h13 : qF K "_law_climbs" fO f13)
  (h14 : qF K "_law_marks" gU f14)
  (h15 : qF K "_law_row" iL f15)
  (h16 : qF K "_law_standing" eM f16)
  (h17 : qF K "_law_due" iB f17)
  (h18 : qF K "_law_right" fF f18)
  (h19 : qF K "law" sW f19)
  (eG : nsIn K mainGlobals "enumerate" = some none)
  (eX : nsIn K mainGlobals "tuple" = some none)
  (qH : nsIn K mainGlobals "min" = some none)
  (jJ : nsIn K mainGlobals "len" = some none)
  (gD : nsIn K mainGlobals "sorted" = some none)
  (cX : nsIn K mainGlobals "range" = some none)
  (qK : nsIn K mainGlobals "list" = some none)
  (sM : nsIn K mainGlobals "str" = some none)
  (w8 : nsIn K mainGlobals "int" = some none)
  (nE : nsIn K mainGlobals "dict" = some none)
  (dJ : nsIn K mainGlobals "isinstance" = some none)
  (pZ : nsIn K mainGlobals "bool" = some none)
  (wW : nsIn K mainGlobals "any" = some none)
  (vX : nsIn K mainGlobals "set" = some none)
  : ∃ fd : FuncData, (∀ (s : Shared) (v : Value), BindsTo s fd ⟨[v], []⟩ [("_law_script", v)]) /\ ∀ base : Heap, K.In base -> base.Ns mainGlobals mg -> lU l.prog w K mg base J3 6 fa fd ["_law_script"] (xY K) := by
 have T : Txt K mg := ⟨mg_none_of X G eG, mg_none_of X G eX, mg_none_of X G qH, mg_none_of X G jJ, mg_none_of X G gD, mg_none_of X G cX, mg_none_of X G qK, mg_none_of X G sM, mg_none_of X G w8, mg_none_of X G nE, mg_none_of X G dJ, mg_none_of X G pZ, mg_none_of X G wW, mg_none_of X G vX⟩
 have d0 : Dx K mg "elders" jH ["letter"] := h0.dx X G (xM fun _ _ _ _ _ _ _ => rfl)
 have d1 : Dx K mg "standing" i4 ["pack"] := h1.dx X G (xM fun _ _ _ _ _ _ _ => rfl)
 have d2 : Dx K mg "rows_of" iD ["pack"] := h2.dx X G (xM fun _ _ _ _ _ _ _ => rfl)
 have d3 : Dx K mg "claims_of" gX ["pack"] := h3.dx X G (xM fun _ _ _ _ _ _ _ => rfl)
 have d4 : Dx K mg "choice" l9 ["held", "rows", "claimed", "name"] := h4.dx X G (W3 fun _ _ _ _ _ _ _ _ _ _ => rfl)
 have d5 : Dx K mg "choices" fX ["pack", "marks", "names"] := h5.dx X G (z5 fun _ _ _ _ _ _ _ _ _ => rfl)
 have d6 : Dx K mg "chosen" mT ["pack", "marks", "name"] := h6.dx X G (z5 fun _ _ _ _ _ _ _ _ _ => rfl)
 have d7 : Dx K mg "_law_hand" i5 ["_law_script", "_law_k"] := h7.dx X G (FP fun _ _ _ _ _ _ _ _ => rfl)
 have d8 : Dx K mg "_law_take" i0 ["_law_hand_here", "_law_many"] := h8.dx X G (FP fun _ _ _ _ _ _ _ _ => rfl)
 have d9 : Dx K mg "_law_names" eE ["_law_hand_here", "_law_many"] := h9.dx X G (FP fun _ _ _ _ _ _ _ _ => rfl)
 have d10 : Dx K mg "_law_letter" eN ["_law_hand_here", "_law_m"] := h10.dx X G (FP fun _ _ _ _ _ _ _ _ => rfl)
 have d11 : Dx K mg "_law_letters" dS ["_law_script", "_law_hand_here", "_law_m"] := h11.dx X G (z5 fun _ _ _ _ _ _ _ _ _ => rfl)
 have d12 : Dx K mg "_law_pack" gE ["_law_letters_here", "_law_names_here"] := h12.dx X G (FP fun _ _ _ _ _ _ _ _ => rfl)
 have d13 : Dx K mg "_law_climbs" fO ["_law_held", "_law_here", "_law_name"] := h13.dx X G (z5 fun _ _ _ _ _ _ _ _ _ => rfl)
 have d14 : Dx K mg "_law_marks" gU ["_law_hand_here", "_law_names_here", "_law_many"] := h14.dx X G (z5 fun _ _ _ _ _ _ _ _ _ => rfl)
 have d15 : Dx K mg "_law_row" iL ["_law_letter_here"] := h15.dx X G (xM fun _ _ _ _ _ _ _ => rfl)
 have d16 : Dx K mg "_law_standing" eM ["_law_pack_here"] := h16.dx X G (xM fun _ _ _ _ _ _ _ => rfl)
 have d17 : Dx K mg "_law_due" iB ["_law_pack_here", "_law_marks_here", "_law_name"] := h17.dx X G (z5 fun _ _ _ _ _ _ _ _ _ => rfl)
 have d18 : Dx K mg "_law_right" fF ["_law_pack_here", "_law_marks_here", "_law_name"] := h18.dx X G (z5 fun _ _ _ _ _ _ _ _ _ => rfl)
 have d19 : Dx K mg "law" sW ["_law_script"] := h19.dx X G (xM fun _ _ _ _ _ _ _ => rfl)
 refine R0 hfa d19 (xM fun _ _ _ _ _ _ _ => rfl) (fun base => ?_) HG
 have G_elders := DF (P := l.prog) (w := w) (base := base) T d0
 have G_standing := x6 (P := l.prog) (w := w) (base := base) T d1
 have G_choice := CP (P := l.prog) (w := w) (base := base) T d4
 have G_law_hand := vQ (P := l.prog) (w := w) (base := base) T d7
 have G_law_take := wJ (P := l.prog) (w := w) (base := base) T d8
 have G_law_pack := wV (P := l.prog) (w := w) (base := base) T d12
 have G_law_climbs := rA (P := l.prog) (w := w) (base := base) T d13
 have G_law_row := y3 (P := l.prog) (w := w) (base := base) T d15
 have G_law_standing := oU (P := l.prog) (w := w) (base := base) T d16
 have G_rows_of := zC (P := l.prog) (w := w) (base := base) T d2 G_elders G_standing
 have G_claims_of := uE (P := l.prog) (w := w) (base := base) T d3 G_standing G_elders
 have G_law_names := vD (P := l.prog) (w := w) (base := base) T d9 G_law_take
 have G_law_letter := rL (P := l.prog) (w := w) (base := base) T d10 G_law_take
 have G_law_marks := tV (P := l.prog) (w := w) (base := base) T d14 G_law_take G_law_climbs
 have G_law_due := yZ (P := l.prog) (w := w) (base := base) T d17 G_law_standing G_law_row
 have G_choices := zM (P := l.prog) (w := w) (base := base) T d5 G_rows_of G_claims_of G_choice
 have G_law_letters := pV (P := l.prog) (w := w) (base := base) T d11 G_law_letter G_law_take G_law_hand
 have G_chosen := C3 (P := l.prog) (w := w) (base := base) T d6 G_choices
 have G_law_right := uC (P := l.prog) (w := w) (base := base) T d18 G_chosen G_law_due
 exact RF T d19 G_law_hand G_law_take G_law_letters G_law_names G_law_pack G_law_marks G_law_right
theorem walk {q : Program} {loose : List Str} {XP : (Str -> Option Value) -> Heap -> Prop} {YP : World -> Heap -> Prop} {d : DefRec} {K : Params -> Frag} (hn : l.most = some 63) (hdf : d.params.defaults = [])
  (hY : ∀ (w : World) (h : Heap), YP w h -> (K w.params).In h)
  (F : ∀ (w : World) (mg : Str -> Option Value) (fa : Addr) (h : Heap), (K w.params).In h -> h.Ns mainGlobals mg -> mg d.name = some (.ref fa) ->
   ∃ fd : FuncData, (∀ (s : Shared) (u : Value), BindsTo s fd ⟨[u], []⟩ [("_law_script", u)]) /\ ∀ base : Heap, (K w.params).In base -> base.Ns mainGlobals mg -> lU l.prog w (K w.params) mg base J3 6 fa fd ["_law_script"] (xY (K w.params))) :
  PySem.W.WalkO q loose XP YP l.row.toRowW d [] (fun f vs => PySem.call f vs) :=
 L2.NW (n := 63) (k := 6) (x := "_law_script") (CX := fun _ => J3) (sp := fun w => xY (K w.params)) hn (by decide) hdf ⟨rfl, by decide, by decide⟩ hY F (fun _ _ a ns hl _ hS => ⟨a, ns, rfl, hS, hl, fun _ => rfl⟩) fun _ _ _ _ _ z => z
end My
namespace PySem.W.Fast
def tw14213822840356853583:=()
def tw12873127446865401995:=()
def tw4111370068234962593:=()
def tw7805788607897434598:=()
def tw5435353722743328278:=()
def tw6980229165437769679:=()
def tw7666808572059657364:=()
def tw15961321485426672743:=()
def tw441401373785814388:=()
def tw11712076458383671438:=()
def tw15488607188955966424:=()
def tw4643398737368660378:=()
def tw1904849645598347958:=()
def tw17682258387346778319:=()
def tw561641315121374443:=()
def tw10765520776741910578:=()
def tw8564768529173424596:=()
def tw851267722391861388:=()
def tw1379984039759928480:=()
def tw17413075249238250037:=()
def tw3646178774071291915:=()
def tw1330698033011271575:=()
def tw15605102017456400773:=()
def tw17199083989204240566:=()
def tw13308254485799207877:=()
def tw13013222486083957483:=()
def tw17461896090268261783:=()
def tw8331941902910402951:=()
def tw7563379271965939636:=()
def tw13924247877897392147:=()
def tw18097925265713368949:=()
def tw17974461181490677088:=()
def tw13523119627268432214:=()
def tw3272349112474578795:=()
def tw11795223032164605360:=()
def tw3574707161772366467:=()
def tw5692756276901972838:=()
def tw8565890633059437746:=()
def tw7047710446814714061:=()
def tw10994350616063546897:=()
def tw14546833833398981106:=()
def tw3508105654172555103:=()
def tw1528754599262245551:=()
def tw7679937067185742778:=()
def tw14964949057070974462:=()
def tw11995863096163606998:=()
def tw4041827682167796496:=()
def tw14875227755509276103:=()
def tw12764192373175680239:=()
def tw3681280852449007977:=()
end PySem.W.Fast
open PySem PySem.W PyProof.Rows
set_option maxRecDepth 100000 in
set_option maxHeartbeats 0 in
theorem PySem.Challenge.cw_answertrees_k16_chosen_holds : PySem.Challenge.rw_answertrees_k16_chosen.Holds := by
 w_on; o_law; k_head; (case hw => w_witness2)
 k_fill
 refine My.walk (l := PySem.Challenge.rw_answertrees_k16_chosen) rfl rfl (fun w h Y => PySem.W.kIn_of Y) ?F
 case F =>
  intro w mg fa h KX G hmg
  refine' My.all_mk KX G hmg ?h0 ?h1 ?h2 ?h3 ?h4 ?h5 ?h6 ?h7 ?h8 ?h9 ?h10 ?h11 ?h12 ?h13 ?h14 ?h15 ?h16 ?h17 ?h18 ?h19 ?eG ?eX ?qH ?jJ ?gD ?cX ?qK ?sM ?w8 ?nE ?dJ ?pZ ?wW ?vX
  (case h0 => refine' Mr.cP ?a ?l ?c ?k; (case a => k_is); (case l => k_is); (case c => k_is); (case k => k_is))
  (case h1 => refine' Mr.cP ?a ?l ?c ?k; (case a => k_is); (case l => k_is); (case c => k_is); (case k => k_is))
  (case h2 => refine' Mr.cP ?a ?l ?c ?k; (case a => k_is); (case l => k_is); (case c => k_is); (case k => k_is))
  (case h3 => refine' Mr.cP ?a ?l ?c ?k; (case a => k_is); (case l => k_is); (case c => k_is); (case k => k_is))
  (case h4 => refine' Mr.cP ?a ?l ?c ?k; (case a => k_is); (case l => k_is); (case c => k_is); (case k => k_is))
  (case h5 => refine' Mr.cP ?a ?l ?c ?k; (case a => k_is); (case l => k_is); (case c => k_is); (case k => k_is))
  (case h6 => refine' Mr.cP ?a ?l ?c ?k; (case a => k_is); (case l => k_is); (case c => k_is); (case k => k_is))
  (case h7 => refine' Mr.cP ?a ?l ?c ?k; (case a => k_is); (case l => k_is); (case c => k_is); (case k => k_is))
  (case h8 => refine' Mr.cP ?a ?l ?c ?k; (case a => k_is); (case l => k_is); (case c => k_is); (case k => k_is))
  (case h9 => refine' Mr.cP ?a ?l ?c ?k; (case a => k_is); (case l => k_is); (case c => k_is); (case k => k_is))
  (case h10 => refine' Mr.cP ?a ?l ?c ?k; (case a => k_is); (case l => k_is); (case c => k_is); (case k => k_is))
  (case h11 => refine' Mr.cP ?a ?l ?c ?k; (case a => k_is); (case l => k_is); (case c => k_is); (case k => k_is))
  (case h12 => refine' Mr.cP ?a ?l ?c ?k; (case a => k_is); (case l => k_is); (case c => k_is); (case k => k_is))
  (case h13 => refine' Mr.cP ?a ?l ?c ?k; (case a => k_is); (case l => k_is); (case c => k_is); (case k => k_is))
  (case h14 => refine' Mr.cP ?a ?l ?c ?k; (case a => k_is); (case l => k_is); (case c => k_is); (case k => k_is))
  (case h15 => refine' Mr.cP ?a ?l ?c ?k; (case a => k_is); (case l => k_is); (case c => k_is); (case k => k_is))
  (case h16 => refine' Mr.cP ?a ?l ?c ?k; (case a => k_is); (case l => k_is); (case c => k_is); (case k => k_is))
  (case h17 => refine' Mr.cP ?a ?l ?c ?k; (case a => k_is); (case l => k_is); (case c => k_is); (case k => k_is))
  (case h18 => refine' Mr.cP ?a ?l ?c ?k; (case a => k_is); (case l => k_is); (case c => k_is); (case k => k_is))
  (case h19 => refine' Mr.cP ?a ?l ?c ?k; (case a => k_is); (case l => k_is); (case c => k_is); (case k => k_is))
  (case eG => k_is)
  (case eX => k_is)
  (case qH => k_is)
  (case jJ => k_is)
  (case gD => k_is)
  (case cX => k_is)
  (case qK => k_is)
  (case sM => k_is)
  (case w8 => k_is)
  (case nE => k_is)
  (case dJ => k_is)
  (case pZ => k_is)
  (case wW => k_is)
  (case vX => k_is)
#print axioms PySem.Challenge.cw_answertrees_k16_chosen_holds
